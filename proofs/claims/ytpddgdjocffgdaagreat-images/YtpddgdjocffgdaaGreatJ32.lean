/- A Pool that was loaded is good. What was printed is read back: numbers, names, rows. What was printed is read back: an entry, the list. What was printed is read back: all of it. An image is read back. What was read is what the bytes are. The reference's reader of an image beside the program's: the same errors, at the same places. -/
import Derived.Test.YtpddgdjocffgdaaGreatJ30
import Derived.Test.YtpddgdjocffgdaaGreatJ06
import Derived.Test.YtpddgdjocffgdaaGreatJ04
import Derived.Test.YtpddgdjocffgdaaGreatJ31
import Derived.Test.YtpddgdjocffgdaaGreatJ08
namespace Go.Proofs.YtpddgdjocffgdaaGreat
set_option linter.unusedVariables false
set_option linter.unusedSimpArgs false
set_option linter.unusedSectionVars false
set_option maxHeartbeats 16000000
set_option maxRecDepth 100000
section
open Go.RowKit Go.Sort
variable [DecidableEq Blk] [Inhabited Blk] [Inhabited Vol] [Inhabited PEnt]
theorem loaded_good{w w':World}{B:List UInt8}{count at_:Nat}{pv:List (PEnt×Vol)}{pb db bb fb jg:Nat}{d:Array Int}(h:PoolRaw w w' B count at_ pv pb db bb fb jg d)(hr:RpoolOk B count (pv.map (·.1)) at_) :
 Good (ldSt pv pb db bb fb jg count B at_ d) (insAll (freeOf (takenP pv) count) []):=by
 have hjv:∀x∈pv,JV pv x (joinV pv x):=fun x hx=>joinV_jv (h.ent x hx)
 have hok:∀x∈pv,PEntOk (pv.map (·.1)).length count [] x.1:=fun x hx=>hr.ents.all x.1 (List.mem_map.2 ⟨x,hx,rfl⟩)
 have hLn:(takenP pv).Nodup:=hr.ents.nodup;have hLl:∀x∈takenP pv,x < count:=fun x hx=>by
  obtain⟨p,hp,hx⟩:=List.mem_flatMap.1 hx;exact ((hr.ents.all p hp).xs.2 x hx).1
 refine⟨?_,?_,?_,?_,?_⟩
 ·show HeapIs (freeOf (takenP pv) count).length d _;rw[h.heap];have h0:=((upArr_heap count).pops count (Nat.le_refl _)).2;rw[Nat.sub_self,List.drop_eq_nil_of_le (by simp)] at h0;have hsz:(upArr count).size=count:=by simp[upArr]
  have:=h0.gives (freeOf (takenP pv) count) (freeOf_nodup _ _) (by simp) (by rw[popsD_size,hsz,Nat.zero_add];exact freeOf_le _ _);rw[Nat.zero_add] at this;exact this
 ·show (insAll (freeOf (takenP pv) count) []++(pv.map (joinV pv)).flatMap (·.xs)).Perm (List.range count);rw[joinV_flat pv h.ent pv (fun x hx=>hx)];have hp:=insAll_perm (freeOf (takenP pv) count) [];rw[List.append_nil] at hp;refine (hp.append_right _).trans ?_;refine (List.perm_ext_iff_of_nodup ?_ List.nodup_range).2 fun x=>?_
  ·rw[List.nodup_append];refine⟨freeOf_nodup _ _,hLn,fun x hx y hy e=>?_⟩;subst e;exact ((freeOf_mem _ _ _).1 hx).2 hy
  ·rw[List.mem_append,freeOf_mem,List.mem_range]
   constructor
   ·rintro (⟨h1,_⟩|h1)
    ·exact h1
    ·exact hLl x h1
   ·intro h1;by_cases hx:x∈takenP pv
    ·exact Or.inr hx
    ·exact Or.inl ⟨h1,hx⟩
 ·intro x hx;rw[insAll_mem] at hx;exact (loaded_free hr x (hx.resolve_right (by simp))).2
 ·intro v hv;obtain⟨x,hx,rfl⟩:=List.mem_map.1 hv;rw[(hjv x hx).name];exact (hok x hx).name
 ·intro v hv;obtain⟨x,hx,rfl⟩:=List.mem_map.1 hv;have j:=hjv x hx;have o:=hok x hx;refine⟨by rw[j.kept];exact o.kept.1,fun hl=>?_,fun u hu ho=>?_⟩
  ·rw[j.kept];rw[j.lost] at hl;exact o.lost (of_decide_eq_true hl)
  ·obtain⟨y,hy,rfl⟩:=List.mem_map.1 hu;obtain⟨hk,hvb⟩:=j.some _ ho;have hol:x.1.origin < pv.length:=by have:=o.org hk;simpa using this
   obtain⟨e1,e2⟩:=fst_get pv x.1.origin hol;have hj:=hr.join x.1 (List.mem_map.2 ⟨x,hx,rfl⟩) hk;rw[e1] at hj;have hyy:y=pv[x.1.origin]!:=by
    obtain⟨i,hi⟩:=List.mem_iff_getElem?.1 hy;have hz:pv[x.1.origin]? = some pv[x.1.origin]!:=by rw[getElem!_pos pv _ hol];exact List.getElem?_eq_getElem hol
    by_cases hii:i=x.1.origin
    ·subst hii;rw[hi] at hz;exact Option.some.inj hz
    ·exact absurd (by rw[<-hvb,(hjv y hy).vb]) (vbs_ne h.nodup hi hz hii)
   subst hyy;have oy:=(hok _ e2).plain hj.1;rw[j.kept,j.xs,(hjv _ e2).xs,oy.1,hj.2];exact⟨o.kept.2,(o.pic hk).2⟩
theorem loaded_spare{w w':World}{B:List UInt8}{count at_:Nat}{pv:List (PEnt×Vol)}{pb db bb fb jg:Nat}{d:Array Int}(h:PoolRaw w w' B count at_ pv pb db bb fb jg d)(hr:RpoolOk B count (pv.map (·.1)) at_) :
 Spare (ldSt pv pb db bb fb jg count B at_ d):=by
 intro i hi ho x hx;have hi':i < pv.length:=by have:i < (pv.map (joinV pv)).length:=hi;simpa using this
 have e:(ldSt pv pb db bb fb jg count B at_ d).vols[i]! = joinV pv pv[i]!:=by
  show (pv.map (joinV pv))[i]! = _;rw[getElem!_pos _ i (by simpa using hi'),getElem!_pos pv i hi'];simp
 obtain⟨_,hm⟩:=fst_get pv i hi';rw[e] at ho hx;have j:=joinV_jv (pv:=pv) (h.ent _ hm);have hk:pv[i]!.1.kind≠0:=fun hk=>ho (j.none.2 hk)
 rw[j.xs,j.kept] at hx;have hxx:x∈pv[i]!.1.xs:=List.mem_of_mem_drop hx;have hmp:pv[i]!.1∈pv.map (·.1):=List.mem_map.2 ⟨_,hm,rfl⟩;have hlt:=((hr.ents.all _ hmp).xs.2 x hxx).1;show (blks8 B at_ count)[x]! = Blk.zero;rw[blks8_get B at_ count x hlt];refine (hr.free x hlt).resolve_left fun hu=>?_
 obtain⟨p,hp,hxp⟩:=List.mem_flatMap.1 hu;have hxp':=List.mem_of_mem_take hxp;obtain⟨q,hq⟩:=List.mem_iff_getElem?.1 hp;have hql:=(List.getElem?_eq_some_iff.1 hq).1;have hqe:=(List.getElem?_eq_some_iff.1 hq).2;have hil:i < (pv.map (·.1)).length:=by simpa using hi'
 have hie:(pv.map (·.1))[i]=pv[i]!.1:=by rw[getElem!_pos pv i hi'];simp
 have hn:=hr.ents.nodup;rw[List.Nodup,List.pairwise_flatMap] at hn;have hpw:=List.pairwise_iff_getElem.1 hn.2;by_cases hqi:q=i
 ·subst hqi;rw[hie] at hqe;subst hqe;rw[if_neg hk] at hxp;have hnx:=(hr.ents.all _ hmp).xs.1;rw[<-List.take_append_drop pv[q]!.1.kept.length pv[q]!.1.xs,List.nodup_append] at hnx;exact hnx.2.2 x hxp x hx rfl
 ·rcases Nat.lt_or_gt_of_ne hqi with hlt'|hlt'
  ·have:=hpw q i hql hil hlt';rw[hqe,hie] at this;exact this x hxp' x hxx rfl
  ·have:=hpw i q hil hql hlt';rw[hqe,hie] at this;exact this x hxx x hxp' rfl
structure Rest(B:List UInt8)(at_:Nat)(R:List UInt8):Prop where
 le:at_<=B.length
 eq:B.drop at_=R
theorem Rest.len{B R:List UInt8}{at_:Nat}(h:Rest B at_ R):at_+R.length=B.length:=by
 have:=h.le;rw[<-h.eq,List.length_drop];omega
theorem Rest.step{B X R:List UInt8}{at_:Nat}(h:Rest B at_ (X++R)):Rest B (at_+X.length) R:=by
 refine⟨by have:=h.len;rw[List.length_append] at this;omega,?_⟩;rw[<-List.drop_drop,h.eq,List.drop_left]
theorem valB_two'(n:Nat)(h:n < 65536):valB (two n)=n:=by
 simp only[valB,two,List.foldl_cons,List.foldl_nil,UInt8.toNat_ofNat'];omega
theorem valB_byte(n:Nat)(h:n < 256):valB [UInt8.ofNat n]=n:=by
 simp only[valB,List.foldl_cons,List.foldl_nil,UInt8.toNat_ofNat'];omega
theorem rnum_two{B R:List UInt8}{at_ n low high:Nat}(h:Rest B at_ (two n++R))(hn:n < 65536)(h1:low<=n)(h2:n<=high):rnum B 2 low high at_=.ok (n,at_+2)/\Rest B (at_+2) R:=by
 have hl:=h.len;rw[List.length_append,two_length] at hl;have e:numAt B at_ 2=n:=by
  unfold numAt;rw[h.eq,List.take_append_of_le_length (by rw[two_length];exact Nat.le_refl _),List.take_of_length_le (by rw[two_length];exact Nat.le_refl _),valB_two' n hn]
 refine⟨?_,h.step⟩;unfold rnum;rw[if_pos (by omega),e,if_pos ⟨h1,h2⟩]
theorem rnum_byte{B R:List UInt8}{at_ n low high:Nat}(h:Rest B at_ ([UInt8.ofNat n]++R))(hn:n < 256)(h1:low<=n)(h2:n<=high):rnum B 1 low high at_=.ok (n,at_+1)/\Rest B (at_+1) R:=by
 have hl:=h.len;rw[List.length_append] at hl;have e:numAt B at_ 1=n:=by
  unfold numAt;rw[h.eq];show valB [UInt8.ofNat n]=n;exact valB_byte n hn
 refine⟨?_,h.step⟩;unfold rnum;rw[if_pos (by simp at hl;omega),e,if_pos ⟨h1,h2⟩]
theorem rnums_rest{B R:List UInt8}{bound:Nat}(hb:bound<=65536)(seen:List Nat):∀(l acc:List Nat) (at_:Nat),Rest B at_ (l.flatMap two++R)->(∀x∈l,x < bound/\x∉seen)->(acc++l).Nodup->rnums B bound l.length seen acc at_=.ok (acc++l,at_+2 * l.length)/\Rest B (at_+2 * l.length) R
 | [],acc,at_,h,_,_=>by simpa [rnums] using h
 | x :: l,acc,at_,h,hx,hn=>by
  rw[List.flatMap_cons,List.append_assoc] at h;have hx0:=hx x (by simp);obtain⟨e,h'⟩:=rnum_two (low:=0) (high:=bound - 1) h (by omega) (Nat.zero_le _) (by omega);rw[List.length_cons,rnums,e];have hna:x∉seen++acc:=by
   rw[List.mem_append,not_or];refine⟨hx0.2,fun hm=>?_⟩;rw[List.nodup_append] at hn;exact hn.2.2 x hm x (by simp) rfl
  simp only[hna,if_false];have:=rnums_rest hb seen l (acc++[x]) (at_+2) h' (fun y hy=>hx y (by simp[hy])) (by rw[List.append_assoc];exact hn);rw[List.append_assoc] at this;rw[show at_+2+2 * l.length=at_+2 * (l.length+1) by omega] at this;exact this
theorem rname_rest{B R:List UInt8}{at_:Nat}{ahead name:ByteArray}(h:Rest B at_ ([UInt8.ofNat name.size]++(name.data.toList++R)))(hn:nameB name=true)(hc:cmpB ahead name < 0):rname B ahead at_=.ok (name,at_+1+name.size)/\Rest B (at_+1+name.size) R:=by
 have hn':=hn;simp only[nameB,Bool.and_eq_true,decide_eq_true_eq] at hn';obtain⟨e,h'⟩:=rnum_byte (low:=1) (high:=10) h (by omega) hn'.1.1 hn'.1.2;have hsz:name.data.toList.length=name.size:=by rw[Array.length_toList];rfl
 have hl:=h'.len;rw[List.length_append,hsz] at hl;have et:textAt B (at_+1) name.size=name:=by
  unfold textAt;rw[h'.eq,<-hsz,List.take_left]
 refine⟨?_,by have:=h'.step;rw[hsz] at this;exact this⟩;unfold rname;rw[e];simp only;rw[if_pos (by omega),et,if_pos ⟨hn,hc⟩]
def St.pent(s:St)(v:Vol)(at_:Nat):PEnt:=
 match v.org with
 | none=>⟨v.name,0,s.size v,0,0,v.xs,[]⟩
 | some _=>⟨v.name,v.kindN,s.size v,posOf s.names (s.orgOf v).name,at_+1+v.name.size+1+2,v.xs,v.kept⟩
theorem St.pent_name(s:St)(v:Vol)(at_:Nat):(s.pent v at_).name=v.name:=by unfold St.pent;split<;>rfl
theorem St.pent_xs(s:St)(v:Vol)(at_:Nat):(s.pent v at_).xs=v.xs:=by unfold St.pent;split<;>rfl
structure Told(s:St)(count:Nat)(v:Vol):Prop where
 name:nameB v.name=true
 size:1<=s.size v/\s.size v<=200
 plain:v.org=none->v.lost=false/\s.size v=v.xs.length
 pos:v.org≠none->posOf s.names (s.orgOf v).name < count
 pic:v.org≠none->1<=v.xs.length/\v.xs.length<=s.size v/\v.kept.length<=v.xs.length
 lost:v.lost=true->v.kept=[]
 xs:v.xs.Nodup/\∀x∈v.xs,x < s.n
 kept:v.kept.Nodup/\∀x∈v.kept,x < s.size v
 n:1<=s.n/\s.n<=200
 cnt:count<=20
theorem nums_rest{B R:List UInt8}{at_ bound low high:Nat}(seen l:List Nat)(h:Rest B at_ (nums l++R))(hl:l.length < 65536)(h1:low<=l.length)(h2:l.length<=high)(hb:bound<=65536)(hx:∀x∈l,x < bound/\x∉seen)(hn:l.Nodup) :
 rnum B 2 low high at_=.ok (l.length,at_+2)/\rnums B bound l.length seen [] (at_+2)=.ok (l,at_+2+2 * l.length)/\Rest B (at_+2+2 * l.length) R:=by
 unfold nums at h;rw[List.append_assoc] at h;obtain⟨e1,r1⟩:=rnum_two (low:=low) (high:=high) h hl h1 h2;obtain⟨e2,r2⟩:=rnums_rest hb seen l [] (at_+2) r1 hx (by simpa using hn);exact⟨e1,by simpa using e2,r2⟩
theorem rentry_rest{s:St}{v:Vol}{count:Nat}{B R:List UInt8}{at_:Nat}{used:List Nat}{ahead:ByteArray}(t:Told s count v)(h:Rest B at_ (entryB s v++R))(hc:cmpB ahead v.name < 0)(hu:∀x∈v.xs,x∉used) :
 rentry B count s.n used ahead at_=.ok (s.pent v at_,at_+(entryB s v).length)/\Rest B (at_+(entryB s v).length) R:=by
 have hR:=h.step;refine⟨?_,hR⟩;have hk2:v.kindN<=2:=by unfold Vol.kindN;split<;>(try split)<;>omega
 unfold entryB headB at h;simp only[List.append_assoc] at h;obtain⟨e1,r1⟩:=rname_rest h t.name hc;obtain⟨e2,r2⟩:=rnum_byte (low:=0) (high:=2) r1 (by omega) (Nat.zero_le _) hk2;obtain⟨e3,r3⟩:=rnum_two (low:=1) (high:=200) r2 (by have:=t.size;omega) t.size.1 t.size.2;rw[rentry_eq,e1];simp only;rw[e2];simp only;rw[e3];simp only;have hxs:v.xs.length<=200:=by
  cases ho:v.org with
  | none=>have:=(t.plain ho).2;have:=t.size;omega
  | some o=>have:=(t.pic (by simp[ho])).2.1;have:=t.size;omega
 cases ho:v.org with
 | none=>
  have hk0:v.kindN=0:=by unfold Vol.kindN;rw[(t.plain ho).1,ho];rfl
  rw[ho] at r3;rw[if_pos hk0];have hsz:=(t.plain ho).2;obtain⟨e4,e5,r5⟩:=nums_rest (low:=s.size v) (high:=s.size v) (bound:=s.n) used v.xs r3 (by omega) (by omega) (by omega) (by have:=t.n;omega) (fun x hx=>⟨t.xs.2 x hx,hu x hx⟩) t.xs.1;unfold rvol;rw[e4];simp only;rw[e5];simp only[Except.ok.injEq,Prod.mk.injEq];refine⟨by unfold St.pent;rw[ho],?_⟩;have:=r5.len;have:=hR.len;omega
 | some o=>
  have hne:v.org≠none:=by simp[ho]
  have hk0:v.kindN≠0:=by unfold Vol.kindN;rw[ho];cases v.lost<;>simp
  rw[ho] at r3;simp only[List.append_assoc] at r3;rw[if_neg hk0];obtain⟨e4,r4⟩:=rnum_byte (low:=0) (high:=count - 1) r3 (by have:=t.pos hne;have:=t.cnt;omega) (Nat.zero_le _) (by have:=t.pos hne;omega);have hp:=t.pic hne;obtain⟨e5,e6,r6⟩:=nums_rest (low:=1) (high:=s.size v) (bound:=s.n) used v.xs r4 (by omega) hp.1 hp.2.1 (by have:=t.n;omega) (fun x hx=>⟨t.xs.2 x hx,hu x hx⟩) t.xs.1;have hkl:v.kept.length<=(if v.kindN=2 then 0 else v.xs.length):=by
   by_cases hl:v.lost=true
   ·rw[t.lost hl];simp
   ·have:v.kindN=1:=by unfold Vol.kindN;rw[ho];simp[hl]
    rw[this];simpa using hp.2.2
  obtain⟨e7,e8,r8⟩:=nums_rest (low:=0) (high:=if v.kindN=2 then 0 else v.xs.length) (bound:=s.size v) [] v.kept r6 (by omega) (Nat.zero_le _) hkl (by have:=t.size;omega) (fun x hx=>⟨t.kept.2 x hx,by simp⟩) t.kept.1;unfold rpic;rw[e4];simp only;rw[e5];simp only;rw[e6];simp only;rw[e7];simp only;rw[e8];simp only[Except.ok.injEq,Prod.mk.injEq];refine⟨by unfold St.pent;rw[ho],?_⟩;have:=r8.len;have:=hR.len;omega
def St.pents(s:St):List Vol->Nat->List PEnt
 | [],_=>[]
 | v :: r,at_=>s.pent v at_ :: s.pents r (at_+(entryB s v).length)
theorem rents_rest{s:St}{count:Nat}{B R:List UInt8}:∀(l:List Vol) (acc:List PEnt) (at_:Nat),(∀v∈l,Told s count v)->Rest B at_ (listB s l++R) ->
 (acc.map (·.name)++l.map (·.name)).Pairwise (fun a b=>cmpB a b < 0)->(acc.flatMap (·.xs)++l.flatMap (·.xs)).Nodup ->
 rents B count s.n l.length acc at_=.ok (acc++s.pents l at_,at_+(listB s l).length)/\Rest B (at_+(listB s l).length) R
 | [],acc,at_,_,h,_,_=>by simpa [rents,St.pents,listB] using h
 | v :: r,acc,at_,ht,h,hs,hn=>by
  have el:listB s (v :: r)=entryB s v++listB s r:=by unfold listB;rw[List.flatMap_cons]
  rw[el,List.append_assoc] at h;have t:=ht v (by simp);have hcmp:cmpB ((acc.getLast?.map (·.name)).getD ⟨#[]⟩) v.name < 0:=by
   cases hl:acc.getLast? with
   | none=>
    show cmpB ⟨#[]⟩ v.name < 0;have hv:=t.name;simp only[nameB,Bool.and_eq_true,decide_eq_true_eq] at hv;have h1:=hv.1.1;unfold cmpB;have hz:v.name.data.toList.length=v.name.size:=by rw[Array.length_toList];rfl
    cases hd:v.name.data.toList with
    | nil=>rw[hd] at hz;simp at hz;omega
    | cons a b=>simp[Lib.compareBytes]
   | some p=>
    have hp:p∈acc:=List.mem_of_getLast? hl;rw[List.pairwise_append] at hs;exact hs.2.2 p.name (List.mem_map.2 ⟨p,hp,rfl⟩) v.name (by simp)
  have hun:∀x∈v.xs,x∉acc.flatMap (·.xs):=fun x hx hm=>by
   rw[List.nodup_append] at hn;exact hn.2.2 x hm x (by simp[hx]) rfl
  obtain⟨e,r1⟩:=rentry_rest t h hcmp hun;rw[List.length_cons,rents,e];simp only;have:=rents_rest r (acc++[s.pent v at_]) (at_+(entryB s v).length) (fun u hu=>ht u (by simp[hu])) r1 (by
   rw[List.map_append,List.append_assoc];simpa [s.pent_name] using hs) (by
   rw[List.flatMap_append,List.append_assoc];simpa [s.pent_xs] using hn)
  rw[List.append_assoc,Nat.add_assoc,<-List.length_append,<-el] at this;exact this
theorem told_of{w:World}{s:St}{fr:List Nat}(h:PoolAt w s)(hG:Good s fr)(hn:1<=s.n){v:Vol}(hv:v∈s.vols):Told s s.vols.length v:=by
 obtain⟨om,oo,on,os⟩:=h.orgOf hv;have va:=h.vols v hv;have vo:=h.vols _ om;have hP:=hG.pics v hv;have h1:∀u:Vol,VolAt w u->1<=u.xs.length:=fun u hu=>by
  have:=hu.pos;cases hx:u.xs with
  | nil=>exact absurd hx this
  | cons a b=>simp
 refine⟨hG.names v hv,⟨h1 _ vo,vo.small⟩,fun ho=>⟨(va.plain ho).2,by unfold St.size;rw[on ho]⟩,fun ho=>?_,fun ho=>⟨h1 v va,((hP.2.2 _ om (os ho)).2),va.room⟩,hP.2.1,⟨?_,(hG.lt.2 v hv)⟩,⟨hP.1,fun k hk=>?_⟩,⟨hn,h.disk.small⟩,h.few⟩
 ·obtain⟨i,hi⟩:=List.mem_iff_getElem?.1 om;obtain⟨hil,hie⟩:=List.getElem?_eq_some_iff.1 hi;have hs:s.names.Pairwise fun a b=>cmpB a b < 0:=by
   unfold St.names;rw[List.pairwise_map];exact h.sorted
  have hnl:i < s.names.length:=by unfold St.names;rw[List.length_map];exact hil
  have e:s.names[i]! = (s.orgOf v).name:=by
   unfold St.names;rw[getElem!_pos _ i (by rw[List.length_map];exact hil),List.getElem_map,hie]
  rw[<-e,posOf_get hs i hnl];exact hil
 ·have:=hG.nodup;rw[List.nodup_append] at this;have:=this.2.1;rw[List.Nodup,List.pairwise_flatMap] at this;exact this.1 v hv
 ·cases ho:v.org with
  | none=>
   have:=va.kept_nil ho;rw[this] at hk;simp at hk
  | some o=>
   have hne:v.org≠none:=by simp[ho]
   exact (hP.2.2 _ om (os hne)).1 k hk
theorem St.pents_mem(s:St):∀(l:List Vol) (at_:Nat) (p:PEnt),p∈s.pents l at_->∃v∈l,∃a,p=s.pent v a
 | [],_,p,h=>by simp[St.pents] at h
 | v :: r,at_,p,h=>by
  rw[St.pents] at h;rcases List.mem_cons.1 h with rfl|h
  ·exact⟨v,by simp,at_,rfl⟩
  ·obtain⟨u,hu,a,e⟩:=s.pents_mem r _ p h;exact⟨u,by simp[hu],a,e⟩
theorem St.mem_pents(s:St):∀(l:List Vol) (at_:Nat) (v:Vol),v∈l->∃a,s.pent v a∈s.pents l at_
 | [],_,v,h=>by simp at h
 | u :: r,at_,v,h=>by
  rw[St.pents];rcases List.mem_cons.1 h with rfl|h
  ·exact⟨at_,by simp⟩
  ·obtain⟨a,ha⟩:=s.mem_pents r (at_+(entryB s u).length) v h;exact⟨a,by simp[ha]⟩
theorem St.pents_get(s:St):∀(l:List Vol) (at_ i:Nat),i < l.length->∃a,(s.pents l at_)[i]! = s.pent l[i]! a
 | [],_,i,h=>by simp at h
 | v :: r,at_,0,h=>⟨at_,rfl⟩
 | v :: r,at_,i+1,h=>by
  obtain⟨a,e⟩:=s.pents_get r (at_+(entryB s v).length) i (by simpa using h);refine⟨a,?_⟩;rw[St.pents];simpa using e
theorem St.pent_kind(s:St)(v:Vol)(a:Nat):(s.pent v a).kind=0↔v.org=none:=by
 unfold St.pent;cases ho:v.org with
 | none=>simp
 | some o=>simp only[Vol.kindN,ho];cases v.lost<;>simp
theorem St.pent_size(s:St)(v:Vol)(a:Nat):(s.pent v a).size=s.size v:=by unfold St.pent;split<;>rfl
theorem rjoin_of(ps:List PEnt):∀(l:List PEnt),(∀p∈l,p.kind≠0->ps[p.origin]!.kind=0/\ps[p.origin]!.size=p.size)->rjoin ps l=.ok ()
 | [],_=>rfl
 | p :: r,h=>by
  unfold rjoin;by_cases hk:p.kind=0
  ·rw[if_pos hk];exact rjoin_of ps r fun q hq=>h q (by simp[hq])
  ·rw[if_neg hk,if_pos (h p (by simp) hk)];exact rjoin_of ps r fun q hq=>h q (by simp[hq])
theorem rfree_of{B:List UInt8}{U:List Nat}{at_:Nat}:∀(f k:Nat),(∀j,k<=j->j < k+f->j∈U\/blk8 B (at_+j * 8)=Blk.zero)->rfree B U at_ f k=.ok ()
 | 0,k,_=>rfl
 | f+1,k,h=>by
  unfold rfree;rw[if_pos (h k (by omega) (by omega))];exact rfree_of f (k+1) fun j h1 h2=>h j (by omega) (by omega)
theorem byte_back(n:Int)(h:0<=n/\n<=255):((UInt8.ofNat n.toNat).toNat:Int)=n:=by
 rw[UInt8.toNat_ofNat'];omega
theorem rest_get{B X R:List UInt8}{i j:Nat}(h:Rest B i (X++R))(hj:j < X.length):B[i+j]! = X[j]!:=by
 have hl:=h.len;rw[List.length_append] at hl;rw[getElem!_pos B _ (by omega),getElem!_pos X j hj];have e:=h.eq;have:(B.drop i)[j]? = (X++R)[j]?:=by rw[e]
 rw[List.getElem?_drop,List.getElem?_append_left hj,List.getElem?_eq_getElem (by omega),List.getElem?_eq_getElem hj] at this;exact Option.some.inj this
theorem blk_back{B R:List UInt8}{i:Nat}{b:Blk}(h:Rest B i (b.bytes++R))(hf:b.fits):blk8 B i=b:=by
 obtain⟨b0,b1,b2,b3,b4,b5,b6,b7⟩:=b;have key:∀j,j < 8->B[i+j]! = (Blk.bytes ⟨b0,b1,b2,b3,b4,b5,b6,b7⟩)[j]!:=fun j hj=>rest_get h (by rw[Blk.bytes_length];exact hj)
 have k0:=key 0 (by omega);rw[Nat.add_zero] at k0;unfold blk8;rw[k0,key 1 (by omega),key 2 (by omega),key 3 (by omega),key 4 (by omega),key 5 (by omega),key 6 (by omega),key 7 (by omega)];have hf':∀n∈[b0,b1,b2,b3,b4,b5,b6,b7],0<=n/\n<=255:=hf;have e:(Blk.bytes ⟨b0,b1,b2,b3,b4,b5,b6,b7⟩)=[UInt8.ofNat b0.toNat,UInt8.ofNat b1.toNat,UInt8.ofNat b2.toNat,UInt8.ofNat b3.toNat,UInt8.ofNat b4.toNat,UInt8.ofNat b5.toNat,UInt8.ofNat b6.toNat,UInt8.ofNat b7.toNat]:=rfl;rw[e];show (⟨((UInt8.ofNat b0.toNat).toNat:Int),((UInt8.ofNat b1.toNat).toNat:Int),((UInt8.ofNat b2.toNat).toNat:Int),((UInt8.ofNat b3.toNat).toNat:Int),((UInt8.ofNat b4.toNat).toNat:Int),((UInt8.ofNat b5.toNat).toNat:Int),((UInt8.ofNat b6.toNat).toNat:Int),((UInt8.ofNat b7.toNat).toNat:Int)⟩:Blk)=_;rw[byte_back b0 (hf' b0 (by simp)),byte_back b1 (hf' b1 (by simp)),byte_back b2 (hf' b2 (by simp)),byte_back b3 (hf' b3 (by simp)),byte_back b4 (hf' b4 (by simp)),byte_back b5 (hf' b5 (by simp)),byte_back b6 (hf' b6 (by simp)),byte_back b7 (hf' b7 (by simp))]
theorem rest_blk{B R:List UInt8}{i:Nat}{l:List Blk}(h:Rest B i (l.flatMap Blk.bytes++R))(k:Nat)(hk:k < l.length)(hf:(l[k]!).fits):blk8 B (i+k * 8)=l[k]!:=by
 have e:l=l.take k++l[k]! :: l.drop (k+1):=by
  rw[getElem!_pos l k hk,<-List.drop_eq_getElem_cons hk,List.take_append_drop]
 have h2:Rest B i ((l.take k).flatMap Blk.bytes++((l[k]!).bytes++((l.drop (k+1)).flatMap Blk.bytes++R))):=by
  have e2:l.flatMap Blk.bytes=(l.take k).flatMap Blk.bytes++((l[k]!).bytes++(l.drop (k+1)).flatMap Blk.bytes):=by
   have:=congrArg (List.flatMap Blk.bytes) e;rw[List.flatMap_append,List.flatMap_cons] at this;exact this
  rw[e2,List.append_assoc,List.append_assoc] at h;exact h
 have h3:=h2.step;rw[blks_length,List.length_take,Nat.min_eq_left (by omega),Nat.mul_comm] at h3;exact blk_back h3 hf
theorem rmark_body(X:List UInt8):rmark (markB++X) 4 0=.ok 4:=by
 have e:markB++X=83 :: 84 :: 82 :: 49 :: X:=rfl;rw[e];simp[rmark,markB]
theorem used_of{w:World}{s:St}{fr:List Nat}(h:PoolAt w s)(hG:Good s fr)(hS:Spare s)(at_:Nat):∀j,j < s.n->j∈usedP (s.pents s.vols at_)\/s.bl[j]! = Blk.zero:=fun j hj=>by
 have hm:=hG.parts.mem_iff.2 (List.mem_range.2 hj);rcases List.mem_append.1 hm with hm|hm
 ·exact Or.inr (hG.zero j hm)
 ·obtain⟨v,hv,hx⟩:=List.mem_flatMap.1 hm;by_cases ho:v.org=none
  ·refine Or.inl ?_;obtain⟨a,ha⟩:=s.mem_pents s.vols at_ v hv;refine List.mem_flatMap.2 ⟨_,ha,?_⟩;rw[if_pos ((s.pent_kind v a).2 ho),s.pent_xs,List.take_length];exact hx
  ·rw[<-List.take_append_drop v.kept.length v.xs] at hx;rcases List.mem_append.1 hx with hx|hx
   ·refine Or.inl ?_;obtain⟨a,ha⟩:=s.mem_pents s.vols at_ v hv;refine List.mem_flatMap.2 ⟨_,ha,?_⟩;rw[if_neg (fun e=>ho ((s.pent_kind v a).1 e)),s.pent_xs];have ek:(s.pent v a).kept=v.kept:=by
     unfold St.pent;cases hq:v.org with
     | none=>exact absurd hq ho
     | some o=>rfl
    rw[ek];exact hx
   ·refine Or.inr ?_;obtain⟨i,hi⟩:=List.mem_iff_getElem?.1 hv;obtain⟨hil,hie⟩:=List.getElem?_eq_some_iff.1 hi;have e:s.vols[i]! = v:=by rw[getElem!_pos _ i hil];exact hie
    have:=hS i hil (by rw[e];exact ho) j (by rw[e];exact hx);exact this
theorem join_of{w:World}{s:St}{fr:List Nat}(h:PoolAt w s)(hG:Good s fr)(at_:Nat):rjoin (s.pents s.vols at_) (s.pents s.vols at_)=.ok ():=by
 refine rjoin_of _ _ fun p hp hk=>?_
 obtain⟨v,hv,a,rfl⟩:=s.pents_mem _ _ p hp;have ho:v.org≠none:=fun e=>hk ((s.pent_kind v a).2 e)
 obtain⟨om,oo,on,os⟩:=h.orgOf hv;obtain⟨i,hi⟩:=List.mem_iff_getElem?.1 om;obtain⟨hil,hie⟩:=List.getElem?_eq_some_iff.1 hi;have hs:s.names.Pairwise fun a b=>cmpB a b < 0:=by
  unfold St.names;rw[List.pairwise_map];exact h.sorted
 have hnl:i < s.names.length:=by unfold St.names;rw[List.length_map];exact hil
 have e:s.names[i]! = (s.orgOf v).name:=by
  unfold St.names;rw[getElem!_pos _ i (by rw[List.length_map];exact hil),List.getElem_map,hie]
 have hpos:(s.pent v a).origin=i:=by
  have:(s.pent v a).origin=posOf s.names (s.orgOf v).name:=by
   unfold St.pent;cases hq:v.org with
   | none=>exact absurd hq ho
   | some o=>rfl
  rw[this,<-e,posOf_get hs i hnl]
 obtain⟨b,hb⟩:=s.pents_get s.vols at_ i hil;have ei:s.vols[i]! = s.orgOf v:=by rw[getElem!_pos _ i hil];exact hie
 rw[hpos,hb,ei,s.pent_size,s.pent_size];refine⟨(s.pent_kind _ _).2 oo,?_⟩;have:=h.orgOf om;unfold St.size;rw[this.2.2.1 oo]
theorem rpool_body{w:World}{s:St}{fr:List Nat}(h:PoolAt w s)(hG:Good s fr)(hS:Spare s)(hn:1<=s.n)(hf:∀x,x < s.n->(s.bl[x]!).fits) :
 rpool (bodyB s)=.ok (s.n,s.pents s.vols 7,7+(listB s s.vols).length)/\blks8 (bodyB s) (7+(listB s s.vols).length) s.n=s.bl:=by
 have hbl:s.bl.length=s.n:=h.disk.len;have hn2:s.n<=200:=h.disk.small;have hfew:=h.few;have hm:rmark (bodyB s) 4 0=.ok 4:=by
  unfold bodyB;rw[List.append_assoc,List.append_assoc,List.append_assoc];exact rmark_body _
 have r0:Rest (bodyB s) 4 (two s.n++([UInt8.ofNat s.vols.length]++(listB s s.vols++s.bl.flatMap Blk.bytes))):=by
  have:Rest (bodyB s) 0 (markB++(two s.n++([UInt8.ofNat s.vols.length]++(listB s s.vols++s.bl.flatMap Blk.bytes)))):=⟨Nat.zero_le _,by unfold bodyB;simp only[List.drop_zero,List.append_assoc]⟩
  exact this.step
 obtain⟨e1,r1⟩:=rnum_two (low:=1) (high:=200) r0 (by omega) hn hn2;obtain⟨e2,r2⟩:=rnum_byte (low:=0) (high:=20) r1 (by omega) (Nat.zero_le _) hfew;have hs:s.names.Pairwise fun a b=>cmpB a b < 0:=by
  unfold St.names;rw[List.pairwise_map];exact h.sorted
 have hnd:(s.vols.flatMap (·.xs)).Nodup:=by
  have:=hG.nodup;rw[List.nodup_append] at this;exact this.2.1
 obtain⟨e3,r3⟩:=rents_rest (count:=s.vols.length) s.vols [] 7 (fun v hv=>told_of h hG hn hv) r2 (by simpa [St.names] using hs) (by simpa using hnd);rw[List.nil_append] at e3;have r3':Rest (bodyB s) (7+(listB s s.vols).length) (s.bl.flatMap Blk.bytes++[]):=by rw[List.append_nil];exact r3
 have hblk:∀k,k < s.n->blk8 (bodyB s) (7+(listB s s.vols).length+k * 8)=s.bl[k]!:=fun k hk=>rest_blk r3' k (by omega) (hf k hk)
 have hlen:=r3.len;rw[blks_length,hbl] at hlen;have hbs:blks8 (bodyB s) (7+(listB s s.vols).length) s.n=s.bl:=by
  apply List.ext_getElem
  ·rw[blks8_length,hbl]
  ·intro k h1 h2;have:=blks8_get (bodyB s) (7+(listB s s.vols).length) s.n k (by omega);rw[getElem!_pos _ k h1,hblk k (by omega),getElem!_pos _ k h2] at this;exact this
 refine⟨?_,hbs⟩;have el:rlist (bodyB s) s.n (4+2)=.ok (s.pents s.vols 7,7+(listB s s.vols).length):=by
  unfold rlist;rw[e2];exact e3
 have ef:rfree (bodyB s) (usedP (s.pents s.vols 7)) (7+(listB s s.vols).length) s.n 0=.ok ():=by
  refine rfree_of s.n 0 fun j _ hj=>?_
  rw[hblk j (by omega)];exact used_of h hG hS 7 j (by omega)
 have ed:rdisk (bodyB s) (usedP (s.pents s.vols 7)) s.n (7+(listB s s.vols).length)=.ok (blks8 (bodyB s) (7+(listB s s.vols).length) s.n,7+(listB s s.vols).length+s.n * 8):=by
  unfold rdisk;rw[if_pos (by omega),ef]
 unfold rpool;rw[hm];simp only;rw[e1];simp only;rw[el];simp only;rw[join_of h hG 7];simp only;rw[ed];simp only;rw[if_pos (by omega)]
theorem end_img(s:St):2<=(imgB s).length/\aheadB (imgB s)=bodyB s/\endN (imgB s)=sumB (aheadB (imgB s)):=by
 have hl:(imgB s).length=(bodyB s).length+2:=by unfold imgB;rw[List.length_append,two_length]
 have ha:aheadB (imgB s)=bodyB s:=by
  unfold aheadB;rw[hl,Nat.add_sub_cancel];unfold imgB;rw[List.take_left]
 refine⟨by omega,ha,?_⟩;rw[ha];unfold endN numAt;rw[hl,Nat.add_sub_cancel];have:((imgB s).drop (bodyB s).length).take 2=two (sumB (bodyB s)):=by
  unfold imgB;rw[List.drop_left];rfl
 rw[this];exact valB_two' _ (by have:=sumB_lt (bodyB s);omega)
structure Seg(B:List UInt8)(at_:Nat)(X:List UInt8)(at1:Nat):Prop where
 le:at1<=B.length
 sum:at_+X.length=at1
 eq:B.drop at_=X++B.drop at1
theorem Seg.trans{B X Y:List UInt8}{a b c:Nat}(h:Seg B a X b)(k:Seg B b Y c):Seg B a (X++Y) c:=
 ⟨k.le,by rw[List.length_append];have:=h.sum;have:=k.sum;omega,by rw[h.eq,k.eq,List.append_assoc]⟩
theorem Seg.nil{B:List UInt8}{a:Nat}(h:a<=B.length):Seg B a [] a:=⟨h,rfl,rfl⟩
theorem Seg.take{B:List UInt8}{a n:Nat}(h:a+n<=B.length):Seg B a ((B.drop a).take n) (a+n):=by
 refine⟨h,by rw[List.length_take,List.length_drop];omega,?_⟩;rw[<-List.drop_drop,List.take_append_drop]
theorem two_back(a b:UInt8):two (valB [a,b])=[a,b]:=by
 have ha:=a.toNat_lt;have hb:=b.toNat_lt;simp only[valB,two,List.foldl_cons,List.foldl_nil,List.cons.injEq,and_true]
 constructor<;>(apply UInt8.toNat_inj.1;rw[UInt8.toNat_ofNat'];omega)
theorem one_back(a:UInt8):[UInt8.ofNat (valB [a])]=[a]:=by
 have ha:=a.toNat_lt;simp only[valB,List.foldl_cons,List.foldl_nil,List.cons.injEq,and_true];apply UInt8.toNat_inj.1;rw[UInt8.toNat_ofNat'];omega
theorem list_two{l:List UInt8}(h:l.length=2):∃a b,l=[a,b]:=by
 match l,h with
 | [a,b],_=>exact⟨a,b,rfl⟩
theorem list_one{l:List UInt8}(h:l.length=1):∃a,l=[a]:=by
 match l,h with
 | [a],_=>exact⟨a,rfl⟩
theorem rnum_two_seg{B:List UInt8}{low high at_ x at1:Nat}(h:rnum B 2 low high at_=.ok (x,at1)):Seg B at_ (two x) at1:=by
 obtain⟨h1,_,_,h4,h5⟩:=rnum_ok h;have s:=Seg.take (B:=B) (a:=at_) (n:=2) h1;obtain⟨a,b,e⟩:=list_two (l:=(B.drop at_).take 2) (by rw[List.length_take,List.length_drop];omega);unfold numAt at h4;rw[e] at h4 s;rw[h4,two_back,h5];exact s
theorem rnum_one_seg{B:List UInt8}{low high at_ x at1:Nat}(h:rnum B 1 low high at_=.ok (x,at1)):Seg B at_ [UInt8.ofNat x] at1:=by
 obtain⟨h1,_,_,h4,h5⟩:=rnum_ok h;have s:=Seg.take (B:=B) (a:=at_) (n:=1) h1;obtain⟨a,e⟩:=list_one (l:=(B.drop at_).take 1) (by rw[List.length_take,List.length_drop];omega);unfold numAt at h4;rw[e] at h4 s;rw[h4,one_back,h5];exact s
theorem rnums_seg{B:List UInt8}{bound:Nat}:∀(c:Nat) (seen acc:List Nat) (at_:Nat) (xs:List Nat) (at1:Nat),at_<=B.length->rnums B bound c seen acc at_=.ok (xs,at1)->∃new,xs=acc++new/\new.length=c/\Seg B at_ (new.flatMap two) at1
 | 0,seen,acc,at_,xs,at1,hle,h=>by
  simp only[rnums,Except.ok.injEq,Prod.mk.injEq] at h;exact⟨[],by simp[h.1],rfl,by rw[<-h.2];exact Seg.nil hle⟩
 | c+1,seen,acc,at_,xs,at1,hle,h=>by
  unfold rnums at h;cases hs:rnum B 2 0 (bound - 1) at_ with
  | error q=>rw[hs] at h;cases h
  | ok pr=>
   obtain⟨k,at2⟩:=pr;rw[hs] at h;have sg:=rnum_two_seg hs;by_cases hm:k∈seen++acc
   ·simp only[hm,if_true] at h;cases h
   ·simp only[hm,if_false] at h;obtain⟨new,h1,h2,h3⟩:=rnums_seg c seen (acc++[k]) at2 xs at1 sg.le h;exact⟨k :: new,by rw[h1,List.append_assoc];rfl,by simp[h2],by rw[List.flatMap_cons];exact sg.trans h3⟩
theorem nums_seg{B:List UInt8}{bound low high at_ c at1 at2:Nat}{seen xs:List Nat}(h1:rnum B 2 low high at_=.ok (c,at1))(h2:rnums B bound c seen [] at1=.ok (xs,at2)):Seg B at_ (nums xs) at2:=by
 have s1:=rnum_two_seg h1;obtain⟨new,e1,e2,s2⟩:=rnums_seg c seen [] at1 xs at2 s1.le h2;rw[List.nil_append] at e1;subst e1;unfold nums;rw[e2];exact s1.trans s2
theorem rname_seg{B:List UInt8}{ahead name:ByteArray}{at_ at1:Nat}(h:rname B ahead at_=.ok (name,at1)):Seg B at_ ([UInt8.ofNat name.size]++name.data.toList) at1:=by
 unfold rname at h;cases hs:rnum B 1 1 10 at_ with
 | error q=>rw[hs] at h;cases h
 | ok pr=>
  obtain⟨n,at2⟩:=pr;rw[hs] at h;simp only at h;have s1:=rnum_one_seg hs;by_cases h1:at2+n<=B.length
  ·rw[if_pos h1] at h;by_cases h2:nameB (textAt B at2 n)=true/\cmpB ahead (textAt B at2 n) < 0
   ·rw[if_pos h2] at h;simp only[Except.ok.injEq,Prod.mk.injEq] at h;have s2:=Seg.take (B:=B) (a:=at2) (n:=n) h1;have ed:name.data.toList=(B.drop at2).take n:=by rw[<-h.1];simp[textAt]
    have es:name.size=n:=by
     have:name.size=name.data.toList.length:=by rw[Array.length_toList];rfl
     rw[this,ed,List.length_take,List.length_drop];omega
    rw[ed,es,<-h.2];exact s1.trans s2
   ·rw[if_neg h2] at h;cases h
  ·rw[if_neg h1] at h;cases h
def PEnt.bytes(p:PEnt):List UInt8:=
 ([UInt8.ofNat p.name.size]++p.name.data.toList)++([UInt8.ofNat p.kind]++(two p.size++(if p.kind=0 then nums p.xs else [UInt8.ofNat p.origin]++(nums p.xs++nums p.kept))))
theorem rentry_seg{B:List UInt8}{count bound:Nat}{used:List Nat}{ahead:ByteArray}{at_:Nat}{p:PEnt}{at1:Nat}(h:rentry B count bound used ahead at_=.ok (p,at1)):Seg B at_ p.bytes at1:=by
 rw[rentry_eq] at h;cases hs:rname B ahead at_ with
 | error q=>rw[hs] at h;cases h
 | ok pr=>
  obtain⟨name,a1⟩:=pr;rw[hs] at h;have s1:=rname_seg hs;cases hs:rnum B 1 0 2 a1 with
  | error q=>simp only[hs] at h;cases h
  | ok pr=>
   obtain⟨kind,a2⟩:=pr;simp only[hs] at h;have s2:=rnum_one_seg hs;cases hs:rnum B 2 1 200 a2 with
   | error q=>simp only[hs] at h;cases h
   | ok pr=>
    obtain⟨size,a3⟩:=pr;simp only[hs] at h;have s3:=rnum_two_seg hs;by_cases hk0:kind=0
    ·rw[if_pos hk0] at h;unfold rvol at h;cases hs:rnum B 2 size size a3 with
     | error q=>simp only[hs] at h;cases h
     | ok pr=>
      obtain⟨c,a4⟩:=pr;simp only[hs] at h;cases hs2:rnums B bound c used [] a4 with
      | error q=>simp only[hs2] at h;cases h
      | ok pr=>
       obtain⟨xs,a5⟩:=pr;simp only[hs2,Except.ok.injEq,Prod.mk.injEq] at h;have s4:=nums_seg hs hs2;rw[<-h.1,<-h.2];subst hk0;exact s1.trans (s2.trans (s3.trans s4))
    ·rw[if_neg hk0] at h;unfold rpic at h;cases hs:rnum B 1 0 (count - 1) a3 with
     | error q=>simp only[hs] at h;cases h
     | ok pr=>
      obtain⟨origin,a4⟩:=pr;simp only[hs] at h;have s4:=rnum_one_seg hs;cases hs:rnum B 2 1 size a4 with
      | error q=>simp only[hs] at h;cases h
      | ok pr=>
       obtain⟨c,a5⟩:=pr;simp only[hs] at h;cases hs2:rnums B bound c used [] a5 with
       | error q=>simp only[hs2] at h;cases h
       | ok pr=>
        obtain⟨xs,a6⟩:=pr;simp only[hs2] at h;have s5:=nums_seg hs hs2;cases hs3:rnum B 2 0 (if kind=2 then 0 else xs.length) a6 with
        | error q=>simp only[hs3] at h;cases h
        | ok pr=>
         obtain⟨k,a7⟩:=pr;simp only[hs3] at h;cases hs4:rnums B size k [] [] a7 with
         | error q=>simp only[hs4] at h;cases h
         | ok pr=>
          obtain⟨kept,a8⟩:=pr;simp only[hs4,Except.ok.injEq,Prod.mk.injEq] at h;have s6:=nums_seg hs3 hs4;rw[<-h.1,<-h.2];unfold PEnt.bytes;simp only[hk0,if_false];exact s1.trans (s2.trans (s3.trans (s4.trans (s5.trans s6))))
theorem rents_seg{B:List UInt8}{count bound:Nat}:∀(c:Nat) (acc:List PEnt) (at_:Nat) (ps:List PEnt) (at1:Nat),at_<=B.length->rents B count bound c acc at_=.ok (ps,at1)->∃new,ps=acc++new/\new.length=c/\Seg B at_ (new.flatMap PEnt.bytes) at1
 | 0,acc,at_,ps,at1,hle,h=>by
  simp only[rents,Except.ok.injEq,Prod.mk.injEq] at h;exact⟨[],by simp[h.1],rfl,by rw[<-h.2];exact Seg.nil hle⟩
 | c+1,acc,at_,ps,at1,hle,h=>by
  unfold rents at h;cases hs:rentry B count bound (acc.flatMap (·.xs)) ((acc.getLast?.map (·.name)).getD ⟨#[]⟩) at_ with
  | error q=>rw[hs] at h;cases h
  | ok pr=>
   obtain⟨p,at2⟩:=pr;rw[hs] at h;simp only at h;have sg:=rentry_seg hs;obtain⟨new,h1,h2,h3⟩:=rents_seg c (acc++[p]) at2 ps at1 sg.le h;exact⟨p :: new,by rw[h1,List.append_assoc];rfl,by simp[h2],by rw[List.flatMap_cons];exact sg.trans h3⟩
theorem rlist_seg{B:List UInt8}{bound at_:Nat}{ps:List PEnt}{at1:Nat}(h:rlist B bound at_=.ok (ps,at1)):Seg B at_ ([UInt8.ofNat ps.length]++ps.flatMap PEnt.bytes) at1:=by
 unfold rlist at h;cases hs:rnum B 1 0 20 at_ with
 | error q=>rw[hs] at h;cases h
 | ok pr=>
  obtain⟨c,a1⟩:=pr;rw[hs] at h;simp only at h;have s1:=rnum_one_seg hs;obtain⟨new,e1,e2,s2⟩:=rents_seg c [] a1 ps at1 s1.le h;rw[List.nil_append] at e1;subst e1;rw[e2];exact s1.trans s2
theorem blk_bytes(B:List UInt8)(i:Nat)(h:i+8<=B.length):(blk8 B i).bytes=(B.drop i).take 8:=by
 have e:(blk8 B i).bytes=[UInt8.ofNat ((B[i]!.toNat:Int)).toNat,UInt8.ofNat ((B[i+1]!.toNat:Int)).toNat,UInt8.ofNat ((B[i+2]!.toNat:Int)).toNat,UInt8.ofNat ((B[i+3]!.toNat:Int)).toNat,UInt8.ofNat ((B[i+4]!.toNat:Int)).toNat,UInt8.ofNat ((B[i+5]!.toNat:Int)).toNat,UInt8.ofNat ((B[i+6]!.toNat:Int)).toNat,UInt8.ofNat ((B[i+7]!.toNat:Int)).toNat]:=rfl;have k:∀b:UInt8,UInt8.ofNat ((b.toNat:Int)).toNat=b:=fun b=>by
  apply UInt8.toNat_inj.1;rw[UInt8.toNat_ofNat'];have:=b.toNat_lt;omega
 rw[e];simp only[k];rw[getElem!_pos B i (by omega),getElem!_pos B (i+1) (by omega),getElem!_pos B (i+2) (by omega),getElem!_pos B (i+3) (by omega),getElem!_pos B (i+4) (by omega),getElem!_pos B (i+5) (by omega),getElem!_pos B (i+6) (by omega),getElem!_pos B (i+7) (by omega)];rw[List.drop_eq_getElem_cons (by omega),List.drop_eq_getElem_cons (by omega),List.drop_eq_getElem_cons (by omega),List.drop_eq_getElem_cons (by omega),List.drop_eq_getElem_cons (by omega),List.drop_eq_getElem_cons (by omega),List.drop_eq_getElem_cons (by omega),List.drop_eq_getElem_cons (by omega)];rfl
theorem blks_seg(B:List UInt8)(at_:Nat):∀n,at_+n * 8<=B.length->Seg B at_ ((blks8 B at_ n).flatMap Blk.bytes) (at_+n * 8)
 | 0,h=>by
  have:(blks8 B at_ 0).flatMap Blk.bytes=[]:=by simp[blks8]
  rw[this];simpa using Seg.nil (B:=B) (a:=at_) (by omega)
 | n+1,h=>by
  have ih:=blks_seg B at_ n (by omega);have e:(blks8 B at_ (n+1)).flatMap Blk.bytes=(blks8 B at_ n).flatMap Blk.bytes++(blk8 B (at_+n * 8)).bytes:=by
   unfold blks8;rw[List.range_succ,List.map_append,List.flatMap_append];simp
  rw[e,blk_bytes B _ (by omega),show at_+(n+1) * 8=at_+n * 8+8 by omega];exact ih.trans (Seg.take (by omega))
end
section
open Go.RowKit Go.Sort
variable [DecidableEq Blk] [Inhabited Blk] [Inhabited Vol] [Inhabited PEnt] [Inhabited RVol] [Inhabited RRow]
theorem ref_none(p:PEnt):p.ref.origin=none↔p.kind=0:=by
 unfold PEnt.ref;by_cases h:p.kind=0
 ·simp[h]
 ·simp[h]
theorem ref_some(p:PEnt)(h:p.kind≠0):p.ref.origin=some p.origin:=by
 unfold PEnt.ref;simp[h]
theorem join_spec{xs:List RRow}{ps:List PEnt}(h:xs.map (·.e)=ps.map PEnt.ref)(ho:∀p∈ps,p.kind≠0->p.origin < ps.length):∀i,i<=ps.length->(joinX xs i=none->rjoin ps ps=rjoin ps (ps.drop i))/\∀q,joinX xs i=some q->rjoin ps ps=.error q
 | 0,_=>⟨fun _=>by rw[List.drop_zero],fun q hq=>by cases hq⟩
 | i+1,hi=>by
  obtain⟨h1,h2⟩:=join_spec h ho i (by omega);obtain⟨hl,_,he⟩:=xs_ent h;have hd:ps.drop i=ps[i]! :: ps.drop (i+1):=by rw[List.drop_eq_getElem_cons (by omega),getElem!_pos ps i (by omega)]
  have hm:ps[i]!∈ps:=by rw[getElem!_pos ps i (by omega)];exact List.getElem_mem _
  cases hj:joinX xs i with
  | some q0=>
   have e:joinX xs (i+1)=some q0:=by simp only[joinX,hj]
   rw[e];exact⟨fun hc=>(by cases hc),fun q hq=>(by cases hq;exact h2 q0 hj)⟩
  | none=>
   have h3:=h1 hj;rw[hd,rjoin] at h3;by_cases hk:(ps[i]!).kind=0
   ·have e:joinX xs (i+1)=none:=by simp only[joinX,hj,he i (by omega),(ref_none _).2 hk]
    rw[e];rw[if_pos hk] at h3;exact⟨fun _=>h3,fun q hq=>by cases hq⟩
   ·have hol:=ho _ hm hk;have e:joinX xs (i+1)=if (ps[(ps[i]!).origin]!).kind=0/\(ps[(ps[i]!).origin]!).size=(ps[i]!).size then none else some (ps[i]!).originAt:=by
     simp only[joinX,hj,he i (by omega),ref_some _ hk,he _ hol,ref_none];rfl
    rw[e];rw[if_neg hk] at h3;by_cases hc:(ps[(ps[i]!).origin]!).kind=0/\(ps[(ps[i]!).origin]!).size=(ps[i]!).size
    ·rw[if_pos hc] at h3 ⊢;exact⟨fun _=>h3,fun q hq=>by cases hq⟩
    ·rw[if_neg hc] at h3 ⊢;exact⟨fun hx=>(by cases hx),fun q hq=>by cases hq;exact h3⟩
theorem join_all{xs:List RRow}{ps:List PEnt}(h:xs.map (·.e)=ps.map PEnt.ref)(ho:∀p∈ps,p.kind≠0->p.origin < ps.length):(joinX xs xs.length=none->rjoin ps ps=.ok ())/\∀q,joinX xs xs.length=some q->rjoin ps ps=.error q:=by
 obtain⟨hl,_,_⟩:=xs_ent h;obtain⟨h1,h2⟩:=join_spec h ho ps.length (Nat.le_refl _);rw[hl];refine⟨fun hn=>?_,h2⟩;rw[h1 hn,List.drop_length];rfl
theorem text8(B:List UInt8)(i:Nat)(h:i+8<=B.length):(blk8 B i).text=textAt B i 8:=by
 have h1:=blk_bytes B i h;rw[Blk.text_eq];unfold textAt;rw[<-h1];rfl
theorem blk8_ok(B:List UInt8)(i:Nat):(blk8 B i).ok:=by
 have hb:∀x:UInt8,0<=(x.toNat:Int)/\(x.toNat:Int)<=255:=fun x=>by have:=x.toNat_lt;omega
 intro n hn;simp only[Blk.ints,blk8,List.mem_cons,List.mem_nil_iff,or_false] at hn;rcases hn with rfl|rfl|rfl|rfl|rfl|rfl|rfl|rfl<;>exact hb _
theorem text_zero(B:List UInt8)(i:Nat)(h:i+8<=B.length):textAt B i 8=zero8↔blk8 B i=Blk.zero:=by
 rw[<-text8 B i h,<-Blk.zero_text];exact⟨fun e=>Blk.text_inj (blk8_ok B i) Blk.zero_ok e,fun e=>by rw[e]⟩
theorem picD_get(B:List UInt8)(a2:Nat)(x:RRow)(d:List ByteArray)(hn:x.e.kept.Nodup):∀m,m<=x.e.kept.length->∀i,i < m->x.e.kept[i]! < d.length->(picD B a2 x d m)[x.e.kept[i]!]! = textAt B (a2+8 * x.e.xs[i]!) 8
 | 0,_,i,hi,_=>by omega
 | m+1,hm,i,hi,hl=>by
  rw[picD_succ];have hlen:x.e.kept[i]! < (picD B a2 x d m).length:=by rw[picD_length];exact hl
  rw[getElem!_pos ((picD B a2 x d m).set _ _) _ (by rw[List.length_set];exact hlen),List.getElem_set];by_cases e:i=m
  ·subst e;rw[if_pos rfl]
  ·have hne:x.e.kept[m]!≠x.e.kept[i]!:=fun h=>e (by
    exfalso
    rw[getElem!_pos x.e.kept m (by omega),getElem!_pos x.e.kept i (by omega)] at h;exact List.pairwise_iff_getElem.1 hn i m (by omega) (by omega) (by omega) h.symm)
   rw[if_neg hne];have:=picD_get B a2 x d hn m (by omega) i (by omega) hl;rw[getElem!_pos (picD B a2 x d m) _ hlen] at this;exact this
theorem picD_else(B:List UInt8)(a2:Nat)(x:RRow)(d:List ByteArray)(q:Nat)(hq:q < d.length):∀m,(∀i,i < m->x.e.kept[i]!≠q)->(picD B a2 x d m)[q]! = d[q]!
 | 0,_=>rfl
 | m+1,h=>by
  rw[picD_succ];have hlen:q < (picD B a2 x d m).length:=by rw[picD_length];exact hq
  rw[getElem!_pos ((picD B a2 x d m).set _ _) _ (by rw[List.length_set];exact hlen),List.getElem_set,if_neg (h m (by omega))];have:=picD_else B a2 x d q hq m (fun i hi=>h i (by omega));rw[getElem!_pos (picD B a2 x d m) _ hlen] at this;exact this
theorem dataX_get(B:List UInt8)(a2:Nat)(l:List Nat)(i:Nat)(hi:i < l.length):(dataX B a2 l)[i]! = textAt B (a2+8 * l[i]!) 8:=by
 unfold dataX;rw[getElem!_pos _ i (by simpa using hi),List.getElem_map,getElem!_pos l i hi]
structure AllOk(B:List UInt8)(n a1:Nat)(xs:List RRow)(ps:List PEnt):Prop where
 eq:xs.map (·.e)=ps.map PEnt.ref
 ents:EntsOk ps.length n ps
 join:joinX xs xs.length=none
 len:a1+8 * n<=B.length
theorem AllOk.org{B:List UInt8}{n a1:Nat}{xs:List RRow}{ps:List PEnt}(h:AllOk B n a1 xs ps)(j:Nat)(hj:j < ps.length)(hk:(ps[j]!).kind≠0):(ps[j]!).origin < ps.length/\(ps[(ps[j]!).origin]!).kind=0/\(ps[(ps[j]!).origin]!).size=(ps[j]!).size:=by
 obtain⟨hl,_,he⟩:=xs_ent h.eq;have hm:ps[j]!∈ps:=by rw[getElem!_pos ps j hj];exact List.getElem_mem hj
 have hol:=(h.ents.all _ hm).org hk;have h1:=joinX_ok xs xs.length (Nat.le_refl _) h.join j (by omega) (ps[j]!).origin (by rw[he j hj];exact ref_some _ hk);rw[he _ hol,he j hj] at h1;exact⟨hol,(ref_none _).1 h1.1,h1.2⟩
theorem blk_spec{w0 w':World}{B:List UInt8}{n a1:Nat}{xs:List RRow}{ps:List PEnt}{rb:Nat}{r:RSt}(h:AllOk B n a1 xs ps)(hT:TiedOk w0 w' B a1 n xs rb r)(hnm:∀x∈xs,x.e.name≠⟨#[]⟩)(hX:XsOk n xs)(k:Nat)(hk:k < n):(textAt B (a1+8 * k) 8=r.blk k)↔(k∈usedP ps\/blk8 B (a1+k * 8)=Blk.zero):=by
 obtain⟨hl,_,he⟩:=xs_ent h.eq;have hmp:∀j,j < ps.length->ps[j]!∈ps:=fun j hj=>by rw[getElem!_pos ps j hj];exact List.getElem_mem hj
 have hpick:∀j,j < ps.length->∀i,i < (ps[j]!).xs.length->(r.vols[j]!).pick k i=if (ps[j]!).xs[i]! = k/\i < (if (ps[j]!).kind=0 then (ps[j]!).xs.length else (ps[j]!).kept.length) then some (textAt B (a1+8 * k) 8) else none:=fun j hj i hi=>by
  obtain⟨_,e2,e3,e4,e5,_⟩:=hT.each j (by omega);rw[he j hj] at e4 e5;have e4:(r.vols[j]!).blocks=(ps[j]!).xs:=e4;have e5:(r.vols[j]!).kept=(ps[j]!).kept:=e5;have hof:=ofs_empty xs n hX hnm j (by omega);rw[<-e2,he j hj,ref_none] at hof;unfold RVol.pick;rw[e3,e4,e5];by_cases hx:(ps[j]!).xs[i]! = k
  ·rw[if_pos hx];by_cases hkd:(ps[j]!).kind=0
   ·rw[if_pos (hof.2 hkd),if_pos ⟨hx,by rw[if_pos hkd];exact hi⟩]
    congr 1
    unfold holdX;rw[he j hj,(ref_none _).2 hkd];simp only;show (dataX B a1 (ps[j]!).xs)[i]! = _;rw[dataX_get B a1 _ i hi,hx]
   ·rw[if_neg (fun e=>hkd (hof.1 e))];by_cases hkl:i < (ps[j]!).kept.length
    ·rw[if_pos hkl,if_pos ⟨hx,by rw[if_neg hkd];exact hkl⟩]
     congr 1
     obtain⟨o1,o2,o3⟩:=h.org j hj hkd;have hpo:=h.ents.all _ (hmp j hj);have hpq:=h.ents.all _ (hmp _ o1);unfold holdX;rw[he j hj,ref_some _ hkd];simp only;have hkk:(xs[j]!).e.kept=(ps[j]!).kept:=by rw[he j hj];rfl
     have hxx:(xs[j]!).e.xs=(ps[j]!).xs:=by rw[he j hj];rfl
     have hoo:(xs[(ps[j]!).origin]!).e.xs=(ps[(ps[j]!).origin]!).xs:=by rw[he _ o1];rfl
     have hg:=picD_get B a1 xs[j]! (dataX B a1 (xs[(ps[j]!).origin]!).e.xs) (by rw[hkk];exact hpo.kept.1) (ps[j]!).kept.length (by rw[hkk];exact Nat.le_refl _) i hkl (by
      rw[hkk,dataX,List.length_map,hoo,(hpq.plain o2).1,o3];exact hpo.kept.2 _ (by rw[getElem!_pos _ i hkl];exact List.getElem_mem hkl))
     rw[hkk,hxx,hx] at hg;exact hg
    ·rw[if_neg hkl,if_neg (fun hc=>hkl (by have:=hc.2;rw[if_neg hkd] at this;exact this))]
  ·rw[if_neg hx,if_neg (fun hc=>hx hc.1)]
 have hlenb:∀j,j < ps.length->(r.vols[j]!).blocks.length=(ps[j]!).xs.length:=fun j hj=>by
  obtain⟨_,_,_,e4,_⟩:=hT.each j (by omega);rw[e4,he j hj];rfl
 have hv:∀v∈r.vols,∃j,j < ps.length/\v=r.vols[j]!:=fun v hv=>by
  obtain⟨j,hj,e⟩:=List.getElem_of_mem hv;have:=hT.len;exact⟨j,by omega,by rw[getElem!_pos _ j hj];exact e.symm⟩
 have hsome:∀v∈r.vols,∀t,v.blk k=some t->t=textAt B (a1+8 * k) 8/\k∈usedP ps:=fun v hvm t ht=>by
  obtain⟨j,hj,rfl⟩:=hv v hvm;unfold RVol.blk at ht;obtain⟨i,hi,hp⟩:=List.exists_of_findSome?_eq_some ht;have hi:=List.mem_range.1 hi;rw[hlenb j hj] at hi;rw[hpick j hj i hi] at hp;by_cases hc:(ps[j]!).xs[i]! = k/\i < (if (ps[j]!).kind=0 then (ps[j]!).xs.length else (ps[j]!).kept.length)
  ·rw[if_pos hc] at hp;cases hp;refine⟨rfl,List.mem_flatMap.2 ⟨_,hmp j hj,?_⟩⟩;rw[<-hc.1,getElem!_pos _ i hi];exact List.mem_take_iff_getElem.2 ⟨i,by omega,rfl⟩
  ·rw[if_neg hc] at hp;cases hp
 by_cases hU:k∈usedP ps
 ·refine⟨fun _=>Or.inl hU,fun _=>?_⟩;obtain⟨p,hp,hx⟩:=List.mem_flatMap.1 hU;obtain⟨j,hj,e⟩:=List.getElem_of_mem hp;have e:ps[j]! = p:=by rw[getElem!_pos ps j hj];exact e
  obtain⟨i,hi,hxi⟩:=List.mem_take_iff_getElem.1 hx;have hjr:j < r.vols.length:=by have:=hT.len;omega
  have hmr:r.vols[j]!∈r.vols:=by rw[getElem!_pos _ j hjr];exact List.getElem_mem hjr
  have hne:(r.vols[j]!).blk k≠none:=fun hn=>by
   unfold RVol.blk at hn;have:=List.findSome?_eq_none_iff.1 hn i (List.mem_range.2 (by rw[hlenb j hj,e];omega));rw[hpick j hj i (by rw[e];omega),e,if_pos ⟨by rw[getElem!_pos _ i (by omega)];exact hxi,by omega⟩] at this;cases this
  unfold RSt.blk;cases hf:r.vols.findSome? (·.blk k) with
  | none=>exact absurd (List.findSome?_eq_none_iff.1 hf _ hmr) hne
  | some t=>
   obtain⟨v,hvm,ht⟩:=List.exists_of_findSome?_eq_some hf;rw[(hsome v hvm t ht).1];rfl
 ·have hnone:r.vols.findSome? (·.blk k)=none:=List.findSome?_eq_none_iff.2 fun v hvm=>by
   cases hb:v.blk k with
   | none=>rfl
   | some t=>exact absurd (hsome v hvm t hb).2 hU
  unfold RSt.blk;rw[hnone];show textAt B (a1+8 * k) 8=zero8↔_;have:=h.len;rw[text_zero B _ (by omega),Nat.mul_comm 8 k];exact⟨Or.inr,fun hc=>hc.resolve_left hU⟩
theorem blocksX_stay(B:List UInt8)(r:RSt)(a1 q:Nat)(bd:Option Nat)(k:Nat)(h:blocksX B r a1 k bd=some q):∀f,blocksX B r a1 (k+f) bd=some q
 | 0=>h
 | f+1=>by rw[<-Nat.add_assoc,blocksX_succ,blocksX_stay B r a1 q bd k h f];rfl
theorem blocks_spec(B:List UInt8)(r:RSt)(U:List Nat)(a1 n:Nat)(h:∀k,k < n->((textAt B (a1+8 * k) 8=r.blk k)↔(k∈U\/blk8 B (a1+k * 8)=Blk.zero))):∀f k,k+f<=n->blocksX B r a1 k none=none->(rfree B U a1 f k=.ok ()->blocksX B r a1 (k+f) none=none)/\∀q,rfree B U a1 f k=.error q->blocksX B r a1 (k+f) none=some q
 | 0,k,_,hb=>⟨fun _=>hb,fun q hq=>by simp[rfree] at hq⟩
 | f+1,k,hk,hb=>by
  unfold rfree;have hs:=blocksX_succ B r a1 k none;rw[hb] at hs;by_cases hc:k∈U\/blk8 B (a1+k * 8)=Blk.zero
  ·rw[if_pos hc];have e:decide (textAt B (a1+8 * k) 8=r.blk k)=true:=decide_eq_true ((h k (by omega)).2 hc);rw[e] at hs;have:=blocks_spec B r U a1 n h f (k+1) (by omega) hs;rw[show k+(f+1)=k+1+f by omega];exact this
  ·rw[if_neg hc];have e:decide (textAt B (a1+8 * k) 8=r.blk k)=false:=decide_eq_false (fun hx=>hc ((h k (by omega)).1 hx));rw[e] at hs;have hs:blocksX B r a1 (k+1) none=some (a1+8 * k):=hs;have:=blocksX_stay B r a1 _ none (k+1) hs f;refine⟨fun hx=>(by cases hx),fun q hq=>?_⟩;cases hq;rw[show k+(f+1)=k+1+f by omega,this,Nat.mul_comm 8 k]
end
end Go.Proofs.YtpddgdjocffgdaaGreat
