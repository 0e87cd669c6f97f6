/- Both sides of a call, side by side: what Create, Picture, Remove, Revert answer and leave. A Pool: Resize, by contracts: the same size, and a greater one. The document's own answer: Resize, by contract. -/
import Derived.Test.YtpddgdjocffgdaaGreatJ10
import Derived.Test.YtpddgdjocffgdaaGreatJ11
import Derived.Test.YtpddgdjocffgdaaGreatJ07
import Derived.Maps.AppendAt
namespace Go.Proofs.YtpddgdjocffgdaaGreat
set_option linter.unusedVariables false
set_option linter.unusedSimpArgs false
set_option linter.unusedSectionVars false
set_option maxHeartbeats 16000000
set_option maxRecDepth 100000
section
open Go.RowKit Go.Sort
variable [DecidableEq Blk] [Inhabited Blk] [Inhabited Vol] [Inhabited RVol]
theorem spare_mem{s:St}:Spare s↔∀v∈s.vols,v.org≠none->∀x∈v.xs.drop v.kept.length,s.bl[x]! = Blk.zero:=by
 constructor
 ·intro h v hv;obtain⟨i,hi,rfl⟩:=mem_index hv;exact h i hi
 ·intro h i hi;exact h _ (get_mem hi)
theorem Rel.eq{s s':St}{r:RSt}(h:Rel s r)(hv:s'.vols=s.vols)(hb:s'.bl=s.bl)(hn:s'.n=s.n):Rel s' r:=by
 have ho:∀v,s'.orgOf v=s.orgOf v:=fun v=>by unfold St.orgOf St.volAt;rw[hv]
 refine⟨h.n.trans hn.symm,by rw[hv];exact h.len,fun i hi=>?_⟩;rw[hv] at hi ⊢;refine (h.each i hi).congr rfl Iff.rfl (by rw[ho]) (by unfold St.size;rw[ho]) rfl rfl rfl fun _ q _=>?_
 unfold St.look St.holder;rw[ho,hb]
structure Pair(w:World)(s:St)(fr:List Nat)(r:RSt)(fp:Nat)(ap:Array Value)(fq:Nat)(aq:Array Value):Prop where
 ex:∃(c:Int) (P:St->List Nat->Prop),0<=c/\c<=13 /\
  Calls Tryz.prog fp ap w (fun e w1=>e=.returned (.int .i64 c)/\∃s' fr',After w s w1 s' fr'/\Spare s'/\P s' fr') /\
  ∀w1,RefAt w1 r->Calls Tryz.prog fq aq w1 (fun e w2=>e=.returned (.int .i64 c)/\∃r',RAfter w1 r w2 r'/\∀W s' fr',PoolAt W s'->Good s' fr'->P s' fr'->Rel s' r')
theorem toSame{f:Nat}{a:Array Value}{w:World}{x:Ending}(h:Calls Tryz.prog f a w fun e w'=>e=x/\w'=w):Calls Tryz.prog f a w fun e w'=>e=x/\Same [] w w':=
 h.mono fun e w' ⟨h1,h2⟩=>⟨h1,by rw[h2];exact Same.refl _ _⟩
theorem Pair.noD{w:World}{s:St}{fr:List Nat}{r:RSt}{fp:Nat}{ap:Array Value}{fq:Nat}{aq:Array Value}(c:Int)(hc:0<=c/\c<=13)(hsp:Spare s)(hrel:Rel s r)(hnd:r.foot.Nodup)
 (h1:Calls Tryz.prog fp ap w fun e w1=>e=.returned (.int .i64 c)/\∃d',After w s w1 { s with d:=d' } fr) (h2:∀w1,RefAt w1 r->Calls Tryz.prog fq aq w1 fun e w2=>e=.returned (.int .i64 c)/\Same [] w1 w2):Pair w s fr r fp ap fq aq:=by
 refine⟨c,fun s' _=>s'.vols=s.vols/\s'.bl=s.bl/\s'.n=s.n,hc.1,hc.2,h1.mono ?_,fun w1 hR=>(h2 w1 hR).mono ?_⟩
 ·rintro e w1 ⟨rfl,d',hA⟩;exact⟨rfl,_,_,hA,hsp,rfl,rfl,rfl⟩
 ·rintro e w2 ⟨rfl,hS⟩;exact⟨rfl,r,RAfter.still hR hnd hS,fun W s' fr' _ _ ⟨a,b,c⟩=>hrel.eq a b c⟩
theorem Pair.no{w:World}{s:St}{fr:List Nat}{r:RSt}{fp:Nat}{ap:Array Value}{fq:Nat}{aq:Array Value}(c:Int)(hc:0<=c/\c<=13)(hP:PoolAt w s)(hG:Good s fr)(hsp:Spare s)(hrel:Rel s r)(hnd:r.foot.Nodup)
 (h1:Calls Tryz.prog fp ap w fun e w1=>e=.returned (.int .i64 c)/\Same [] w w1) (h2:∀w1,RefAt w1 r->Calls Tryz.prog fq aq w1 fun e w2=>e=.returned (.int .i64 c)/\Same [] w1 w2):Pair w s fr r fp ap fq aq:=
 Pair.noD c hc hsp hrel hnd (h1.mono fun e w1 ⟨a,b⟩=>⟨a,s.d,After.still hP hG b⟩) h2
theorem placeR{w:World}{s:St}{r:RSt}(h:Rel s r)(hP:PoolAt w s)(t:ByteArray):PlaceR r t (posOf s.names t)/\posOf s.names t<=s.vols.length:=by
 obtain⟨s1,s2⟩:=countP_split (fun n=>decide (cmpB n t < 0)) s.names (names_mono t hP.names_sorted);have hp:s.names.countP (fun n=>decide (cmpB n t < 0))=posOf s.names t:=rfl;rw[hp] at s1 s2;have hnl:s.names.length=s.vols.length:=by simp[St.names]
 have hle:posOf s.names t<=s.vols.length:=by
  have:=List.countP_le_length (p:=fun n=>decide (cmpB n t < 0)) (l:=s.names);rw[hp] at this;omega
 have hg:∀j,j < s.vols.length->(r.vols[j]!).name=s.names[j]!:=fun j hj=>by
  rw[(h.each j hj).name,getElem!_pos s.vols j hj,getElem!_pos s.names j (by omega)];simp[St.names]
 refine⟨⟨by rw[h.len];exact hle,fun j hj=>?_,fun hl=>?_⟩,hle⟩
 ·rw[hg j (by omega)];have:=s1 (s.names[j]!) (by rw[getElem!_pos s.names j (by omega)];exact List.mem_take_iff_getElem.2 ⟨j,by omega,rfl⟩);simpa using this
 ·rw[h.len] at hl;rw[hg _ hl];have:=s2 (s.names[posOf s.names t]!) (by rw[getElem!_pos s.names _ (by omega),List.drop_eq_getElem_cons (by omega)];exact List.mem_cons_self);simpa using this
theorem spare_ins{s s':St}{p:Nat}{v0:Vol}(sp:Spare s)(hv:s'.vols=insVol p v0 s.vols)(hb:s'.bl=s.bl)(h0:∀x∈v0.xs.drop v0.kept.length,v0.org≠none->s.bl[x]! = Blk.zero):Spare s':=by
 refine spare_mem.2 fun v hm ho x hx=>?_
 rw[hb];rw[hv] at hm;rcases insVol_mem.1 hm with rfl|hm
 ·exact h0 x hx ho
 ·exact spare_mem.1 sp v hm ho x hx
theorem pair_create{w:World}{s:St}{fr:List Nat}{r:RSt}(hP:PoolAt w s)(hG:Good s fr)(hsp:Spare s)(hrel:Rel s r)(hnd:r.foot.Nodup)(t:ByteArray)(k:Int)(ht:t.size<=maxLen) :
 Pair w s fr r 47 #[.pointer (some ⟨s.pb,0,none⟩),.string t,.int .i64 k] 48 #[.pointer (some ⟨r.rb,0,none⟩),.string t,.int .i64 k]:=by
 by_cases h1:nameB t=true
 case neg=>
  have h1':nameB t=false:=by simpa using h1
  have hf:r.freshC t=2:=by unfold RSt.freshC;rw[if_pos h1']
  refine Pair.no 2 (by omega) hP hG hsp hrel hnd (toSame (create_name s t k w hP ht h1')) fun w1 hR=>toSame ?_
  have:=refCreate_name r t k w1 hR ht (by omega);rw[hf] at this;exact this
 by_cases h2:s.has t=true
 ·have hf:r.freshC t=3:=by unfold RSt.freshC;rw[if_neg (by simp[h1]),hrel.at_has hP h2];rfl
  refine Pair.no 3 (by omega) hP hG hsp hrel hnd (toSame (create_exists s t k w hP ht h1 h2)) fun w1 hR=>toSame ?_
  have:=refCreate_name r t k w1 hR ht (by omega);rw[hf] at this;exact this
 have h2':s.has t=false:=by simpa using h2
 have hf:r.freshC t=0:=by unfold RSt.freshC;rw[if_neg (by simp[h1]),hrel.at_not hP h2'];rfl
 by_cases h3:1<=k/\k<=200
 case neg=>
  exact Pair.no 1 (by omega) hP hG hsp hrel hnd (toSame (create_arg s t k w hP ht h1 h2' h3)) fun w1 hR=>toSame (refCreate_arg r t k w1 hR ht hf (by omega))
 obtain⟨n,rfl⟩:∃n:Nat,k=n:=⟨k.toNat,by omega⟩
 have h3':1<=n/\n<=200:=by omega
 by_cases h4:s.vols.length < 20
 case neg=>
  exact Pair.no 5 (by omega) hP hG hsp hrel hnd (create_many s t n w hP ht h1 h2' h3' (by omega)) fun w1 hR=>refCreate_many r t n w1 hR ht hf h3' (by rw[hrel.len];omega)
 by_cases h5:fr.length < n
 ·exact Pair.noD 6 (by omega) hsp hrel hnd (create_full s fr t n w hP hG ht h1 h2' h3' h4 h5) fun w1 hR=>refCreate_full r t n w1 hR ht hf h3' (by rw[hrel.len];omega) (by rw[hrel.free hG];exact h5)
 obtain⟨hpl,hple⟩:=placeR hrel hP t;refine⟨0,fun s' fr'=>∃g vb gb,s'={ s with m:=s.m - n,d:=popsD s.m n s.d,ab:=some g,vols:=insVol (posOf s.names t) ⟨vb,gb,t,fr.take n,none,none,[],false⟩ s.vols },by omega,by omega,(create_ok s fr t n w hP hG ht h1 h2' h3' h4 (by omega)).mono ?_,fun w1 hR=>(refCreate_ok r t n _ w1 hR hnd ht hf h3' (by rw[hrel.len];omega) (by rw[hrel.free hG];omega) hpl).mono ?_⟩
 ·rintro e w1 ⟨rfl,g,vb,gb,hA,_⟩;exact⟨rfl,_,_,hA,spare_ins hsp rfl rfl (fun x _ ho=>absurd rfl ho),g,vb,gb,rfl⟩
 ·rintro e w2 ⟨rfl,vb,g,bg,dg,hA⟩;refine⟨rfl,_,hA,?_⟩;rintro W s' fr' h' hG' ⟨g',vb',gb',rfl⟩;refine rel_ins hrel hP h' rfl rfl rfl hple (relV_new (w:=w) (k:=n) hG rfl (by omega) rfl rfl rfl rfl rfl rfl rfl ?_ rfl rfl) (some g);show (r.freeL r.n).take n=_;rw[hrel.free hG]
theorem Rel.of_pic{w:World}{s:St}{r:RSt}{fr:List Nat}(h:Rel s r)(hP:PoolAt w s)(hG:Good s fr){i:Nat}(hi:i < s.vols.length)(ho:(s.vols[i]!).org≠none):(r.vols[i]!).of_=(s.orgOf (s.vols[i]!)).name/\(r.vols[i]!).of_≠⟨#[]⟩:=by
 have e:=(h.each i hi).of_;rw[if_neg ho] at e;exact⟨e,by rw[e];exact name_ne_nil hG (hP.orgOf (get_mem hi)).1⟩
theorem Rel.of_vol{s:St}{r:RSt}(h:Rel s r){i:Nat}(hi:i < s.vols.length)(ho:(s.vols[i]!).org=none):(r.vols[i]!).of_=⟨#[]⟩:=by
 have e:=(h.each i hi).of_;rw[if_pos ho] at e;exact e
theorem pair_picture{w:World}{s:St}{fr:List Nat}{r:RSt}(hP:PoolAt w s)(hG:Good s fr)(hsp:Spare s)(hrel:Rel s r)(hnd:r.foot.Nodup)(t u:ByteArray)(k:Int)(ht:t.size<=maxLen) :
 Pair w s fr r 57 #[.pointer (some ⟨s.pb,0,none⟩),.string t,.string u,.int .i64 k] 58 #[.pointer (some ⟨r.rb,0,none⟩),.string t,.string u,.int .i64 k]:=by
 by_cases h1:nameB t=true
 case neg=>
  have h1':nameB t=false:=by simpa using h1
  have hf:r.freshC t=2:=by unfold RSt.freshC;rw[if_pos h1']
  refine Pair.no 2 (by omega) hP hG hsp hrel hnd (toSame (picture_name s t u k w hP ht h1')) fun w1 hR=>toSame ?_
  have:=refPicture_fresh r t u k w1 hR ht (by omega);rw[hf] at this;exact this
 by_cases h2:s.has t=true
 ·have hf:r.freshC t=3:=by unfold RSt.freshC;rw[if_neg (by simp[h1]),hrel.at_has hP h2];rfl
  refine Pair.no 3 (by omega) hP hG hsp hrel hnd (toSame (picture_exists s t u k w hP ht h1 h2)) fun w1 hR=>toSame ?_
  have:=refPicture_fresh r t u k w1 hR ht (by omega);rw[hf] at this;exact this
 have h2':s.has t=false:=by simpa using h2
 have hf:r.freshC t=0:=by unfold RSt.freshC;rw[if_neg (by simp[h1]),hrel.at_not hP h2'];rfl
 by_cases hu:s.has u=true
 case neg=>
  have hu':s.has u=false:=by simpa using hu
  exact Pair.no 4 (by omega) hP hG hsp hrel hnd (toSame (picture_none s t u k w hP ht h1 h2' hu')) fun w1 hR=>toSame (refPicture_none r t u k w1 hR ht hf (hrel.at_not hP hu'))
 obtain⟨hum,hun,hup⟩:=St.has_mem hu;have hra:=hrel.at_has hP hu;have hru:RelV s (s.vol u) (r.vols[posOf s.names u]!):=hrel.vol hu;by_cases ho:(s.vol u).org=none
 case neg=>
  exact Pair.no 7 (by omega) hP hG hsp hrel hnd (toSame (picture_picture s t u k w hP ht h1 h2' hu ho)) fun w1 hR=>toSame (refPicture_picture r t u k _ w1 hR ht hf hra (hrel.of_pic hP hG hup ho).2)
 have hof:=hrel.of_vol hup ho;have hsz:(r.vols[posOf s.names u]!).data.length=(s.vol u).xs.length:=by
  rw[hru.size];unfold St.size;rw[(hP.orgOf hum).2.2.1 ho]
 by_cases h3:1<=k
 case neg=>
  exact Pair.no 1 (by omega) hP hG hsp hrel hnd (toSame (picture_low s t u k w hP ht h1 h2' hu ho (by omega))) fun w1 hR=>toSame (refPicture_arg r t u k _ w1 hR ht hf hra hof (by omega))
 by_cases h3b:((s.vol u).xs.length:Int) < k
 ·exact Pair.no 1 (by omega) hP hG hsp hrel hnd (toSame (picture_high s t u k w hP ht h1 h2' hu ho h3 h3b)) fun w1 hR=>toSame (refPicture_arg r t u k _ w1 hR ht hf hra hof (by omega))
 obtain⟨n,rfl⟩:∃n:Nat,k=n:=⟨k.toNat,by omega⟩
 have h3':1<=n/\n<=(s.vol u).xs.length:=by omega
 by_cases h4:s.vols.length < 20
 case neg=>
  exact Pair.no 5 (by omega) hP hG hsp hrel hnd (picture_many s t u n w hP ht h1 h2' hu ho h3' (by omega)) fun w1 hR=>refPicture_many r t u n _ w1 hR ht hf hra hof (by omega) (by rw[hrel.len];omega)
 by_cases h5:fr.length < n
 ·exact Pair.noD 6 (by omega) hsp hrel hnd (picture_full s fr t u n w hP hG ht h1 h2' hu ho h3' h4 h5) fun w1 hR=>refPicture_full r t u n _ w1 hR ht hf hra hof (by omega) (by rw[hrel.len];omega) (by rw[hrel.free hG];exact h5)
 obtain⟨hpl,hple⟩:=placeR hrel hP t;refine⟨0,fun s' fr'=>∃g vb gb,s'={ s with m:=s.m - n,d:=popsD s.m n s.d,ab:=some g,vols:=insVol (posOf s.names t) ⟨vb,gb,t,fr.take n,some (s.vol u).vb,none,[],false⟩ s.vols },by omega,by omega,(picture_ok s fr t u n w hP hG ht h1 h2' hu ho h3' h4 (by omega)).mono ?_,fun w1 hR=>(refPicture_ok r t u n _ _ w1 hR hnd ht hf hra hof (by omega) (by rw[hrel.len];omega) (by rw[hrel.free hG];omega) hpl).mono ?_⟩
 ·rintro e w1 ⟨rfl,g,vb,gb,hA,_⟩;exact⟨rfl,_,_,hA,spare_ins hsp rfl rfl (fun x hx _=>hG.zero x (List.mem_of_mem_take (List.mem_of_mem_drop hx))),g,vb,gb,rfl⟩
 ·rintro e w2 ⟨rfl,vb,g,bg,dg,hA⟩;refine⟨rfl,_,hA,?_⟩;rintro W s' fr' h' hG' ⟨g',vb',gb',rfl⟩;refine rel_ins hrel hP h' rfl rfl rfl hple (relV_picture (x0:=⟨vb,dg,bg,none,t,u,(r.vols[posOf s.names u]!).data,(r.freeL r.n).take n,[],false⟩) (xu:=r.vols[posOf s.names u]!) hP h' (fun v hv=>insVol_mem.2 (Or.inr hv)) rfl hum ho hru (insVol_mem.2 (Or.inl rfl)) rfl rfl rfl rfl hun.symm rfl ?_ rfl rfl) (some g);show (r.freeL r.n).take n=fr.take n;rw[hrel.free hG]
theorem delR_without{w:World}{s:St}{r:RSt}(h:Rel s r)(hP:PoolAt w s){t:ByteArray}(ht:s.has t=true):r.without t r.vols.length=delR (posOf s.names t) r.vols:=
 without_eq h hP ht r.vols h.len (fun j hj=>(h.each j hj).name) r.rb r.lg r.n
theorem spare_del{w:World}{s s':St}{fr:List Nat}{i:Nat}(hP:PoolAt w s)(hG:Good s fr)(sp:Spare s)(hi:i < s.vols.length)(hv:s'.vols=delVol i s.vols)
 (hb:∀j,j < s.vols.length->j≠i->(s.vols[j]!).org≠none->∀x∈(s.vols[j]!).xs,s'.bl[x]! = s.bl[x]!):Spare s':=by
 refine spare_mem.2 fun v hm ho x hx=>?_
 rw[hv] at hm;obtain⟨j,hj,hne,rfl⟩:=del_index hi hm;rw[hb j hj hne ho x (List.mem_of_mem_drop hx)];exact sp j hj ho x hx
theorem pair_remove{w:World}{s:St}{fr:List Nat}{r:RSt}(hP:PoolAt w s)(hG:Good s fr)(hsp:Spare s)(hrel:Rel s r)(hnd:r.foot.Nodup)(t:ByteArray) :
 Pair w s fr r 55 #[.pointer (some ⟨s.pb,0,none⟩),.string t] 56 #[.pointer (some ⟨r.rb,0,none⟩),.string t]:=by
 by_cases h1:s.has t=true
 case neg=>
  have h1':s.has t=false:=by simpa using h1
  exact Pair.no 4 (by omega) hP hG hsp hrel hnd (toSame (remove_none s t w hP h1')) fun w1 hR=>toSame (refRemove_none r t w1 hR (hrel.at_not hP h1'))
 obtain⟨hm,hnm,hp⟩:=St.has_mem h1;have hra:=hrel.at_has hP h1;have hpc:=hrel.pics hP hG hm;rw[hnm] at hpc;by_cases h2:s.picsOf (s.vol t).vb=[]
 case neg=>
  refine Pair.no 8 (by omega) hP hG hsp hrel hnd (remove_busy s t w hP h1 h2) fun w1 hR=>?_
  have hb:0 < r.pics t r.vols.length:=by rw[hpc];exact List.length_pos_iff.2 h2
  exact (refRemove_busy r t _ w1 hR hra hb).mono fun e w2 h=>by
   first
    | exact h
    | exact⟨h.1,by rw[h.2];exact Same.refl _ _⟩
 have hpc0:r.pics t r.vols.length=0:=by rw[hpc,h2];rfl
 refine⟨0,fun s' fr'=>∃g,s'={ s with m:=s.m+(s.vol t).xs.length,bl:=giveB (s.vol t).xs s.bl,d:=giveD s.m (s.vol t).xs s.d,ab:=some g,vols:=delVol (posOf s.names t) s.vols },by omega,by omega,(remove_ok s fr t w hP hG h1 h2).mono ?_,fun w1 hR=>(refRemove_after r t _ w1 hR hnd hra hpc0).mono ?_⟩
 ·rintro e w1 ⟨rfl,g,hA⟩;refine⟨rfl,_,_,hA,spare_del hP hG hsp hp rfl ?_,g,rfl⟩;intro j hj hne _ x hx;show (giveB (s.vols[posOf s.names t]!).xs s.bl)[x]! = _;rw[giveB_get _ _ _ (by rw[hP.disk.len];exact hG.lt.2 _ (get_mem hj) x hx),if_neg (hG.xs_apart hj hp hne hx)]
 ·rintro e w2 ⟨rfl,lg,hA⟩;refine⟨rfl,_,hA,?_⟩;rintro W s' fr' h' hG' ⟨g,rfl⟩;rw[delR_without hrel hP h1];refine rel_del (s:=s) r.vols hrel.len hp ?_ ?_ ?_ lg
  ·rfl
  ·exact hrel.n
  ·exact fun j hj hne=>rel_rest hrel hP hG h' hp rfl rfl h2 j hj hne
theorem pair_revert{w:World}{s:St}{fr:List Nat}{r:RSt}(hP:PoolAt w s)(hG:Good s fr)(hsp:Spare s)(hrel:Rel s r)(hnd:r.foot.Nodup)(t:ByteArray) :
 Pair w s fr r 59 #[.pointer (some ⟨s.pb,0,none⟩),.string t] 60 #[.pointer (some ⟨r.rb,0,none⟩),.string t]:=by
 by_cases h1:s.has t=true
 case neg=>
  have h1':s.has t=false:=by simpa using h1
  exact Pair.no 4 (by omega) hP hG hsp hrel hnd (toSame (revert_none s t w hP h1')) fun w1 hR=>toSame (refRevert_none r t w1 hR (hrel.at_not hP h1'))
 obtain⟨hm,hnm,hp⟩:=St.has_mem h1;have hra:=hrel.at_has hP h1;have hrv:=hrel.vol h1;by_cases ho:(s.vol t).org=none
 ·exact Pair.no 7 (by omega) hP hG hsp hrel hnd (toSame (revert_vol s t w hP h1 ho)) fun w1 hR=>toSame (refRevert_vol r t _ w1 hR hra (hrel.of_vol hp ho))
 obtain⟨hof,hofn⟩:=hrel.of_pic hP hG hp ho;by_cases hl:(s.vol t).lost=true
 ·exact Pair.no 9 (by omega) hP hG hsp hrel hnd (toSame (revert_lost s t w hP h1 ho hl)) fun w1 hR=>toSame (refRevert_lost r t _ w1 hR hra hofn (by rw[hrv.lost];exact hl))
 have hl':(s.vol t).lost=false:=by simpa using hl
 obtain⟨o1,o2,o3,o4⟩:=hP.orgOf hm;have hpc:=hrel.pics hP hG o1;have hpc':r.pics (r.vols[posOf s.names t]!).of_ r.vols.length=(s.picsOf (s.orgOf (s.vol t)).vb).length:=by rw[hof];exact hpc
 by_cases hb:1 < (s.picsOf (s.orgOf (s.vol t)).vb).length
 ·refine Pair.no 8 (by omega) hP hG hsp hrel hnd (revert_busy s t w hP h1 ho hl' hb) fun w1 hR=>?_
  exact (refRevert_busy r t _ w1 hR hra hofn (by rw[hrv.lost];exact hl') (by rw[hpc'];exact hb)).mono fun e w2 h=>by
   first
    | exact h
    | exact⟨h.1,by rw[h.2];exact Same.refl _ _⟩
 obtain⟨iu,hiu,eu⟩:=mem_index o1;have ho4:=o4 ho;have hne:posOf s.names t≠iu:=fun e=>by
  rw[<-e] at eu;have:(s.vol t).org=none:=by show (s.vols[posOf s.names t]!).org=none;rw[eu];exact o2
  exact ho this
 have hau:s.has (s.orgOf (s.vol t)).name=true:=by
  unfold St.has;exact (isIn_iff hP.names_sorted _).2 (List.mem_map_of_mem o1)
 have hra2:r.at? (r.vols[posOf s.names t]!).of_=some (r.vols[iu]!):=by
  have e2:=hrel.at_has hP hau;obtain⟨_,q2,q3⟩:=St.has_mem hau;have:posOf s.names (s.orgOf (s.vol t)).name=iu:=by
   by_cases e:posOf s.names (s.orgOf (s.vol t)).name=iu
   ·exact e
   ·refine absurd ?_ (names_ne hP q3 hiu e);rw[eu];exact q2
  rw[hof];rw[this] at e2;exact e2
 refine⟨0,fun s' fr'=>∃g,s'={ s with m:=s.m+(s.vol t).xs.length,bl:=giveB (s.vol t).xs (revB (s.orgOf (s.vol t)) (s.vol t) s.bl (s.vol t).kept.length),d:=giveD s.m (s.vol t).xs s.d,ab:=some g,vols:=delVol (posOf s.names t) s.vols },by omega,by omega,(revert_ok s fr t _ _ w hP hG h1 rfl ho4 o1 hl' (by omega)).mono ?_,
  fun w1 hR=>(refRevert_ok r t (posOf s.names t) iu _ _ w1 hR hnd (by rw[hrel.len];exact hp) (by rw[hrel.len];exact hiu) hne rfl rfl hra hofn (by rw[hrv.lost];exact hl') (by rw[hpc'];omega) hra2 (by rw[hrv.name];exact hnm)).mono ?_⟩
 ·rintro e w1 ⟨rfl,g,hA⟩;refine⟨rfl,_,_,hA,spare_del hP hG hsp hp rfl ?_,g,rfl⟩;intro j hj hnej hoj x hx;have hxl:x < s.bl.length:=by rw[hP.disk.len];exact hG.lt.2 _ (get_mem hj) x hx
  have hju:j≠iu:=fun e=>by rw[e,eu] at hoj;exact hoj o2
  show (giveB (s.vols[posOf s.names t]!).xs (revB (s.orgOf (s.vol t)) (s.vol t) s.bl (s.vol t).kept.length))[x]! = _;rw[giveB_get _ _ _ (by rw[revB_length];exact hxl),if_neg (hG.xs_apart hj hp hnej hx)];refine revB_out (s.orgOf (s.vol t)) (s.vol t) s.bl ((hG.pics _ hm).2.2 _ o1 ho4).1 x ?_ hxl _ (Nat.le_refl _);rw[<-eu];exact hG.xs_apart hj hiu hju hx
 ·rintro e w2 ⟨rfl,lg,hA⟩;refine⟨rfl,_,hA,?_⟩;rintro W s' fr' h' hG' ⟨g,rfl⟩;have hlen:(r.vols.set iu { (r.vols[iu]!) with dg:=(r.vols[posOf s.names t]!).dg,data:=(r.vols[posOf s.names t]!).data }).length=s.vols.length:=by rw[List.length_set];exact hrel.len
  have e:=without_eq hrel hP h1 (r.vols.set iu { (r.vols[iu]!) with dg:=(r.vols[posOf s.names t]!).dg,data:=(r.vols[posOf s.names t]!).data }) hlen (fun j hj=>by
   rw[setL_get _ _ _ _ (by rw[hrel.len];exact hiu) (by rw[hrel.len];exact hj)]
   split
   ·rename_i e;rw[e];exact (hrel.each iu hiu).name
   ·exact (hrel.each j hj).name) r.rb r.lg r.n
  rw[hlen,<-hrel.len] at e;rw[show RSt.without { r with vols:=r.vols.set iu { (r.vols[iu]!) with dg:=(r.vols[posOf s.names t]!).dg,data:=(r.vols[posOf s.names t]!).data } } t r.vols.length=_ from e];refine rel_del (s:=s) _ hlen hp ?_ ?_ ?_ lg
  ·rfl
  ·exact hrel.n
  ·exact fun j hj hnej=>rel_revert hrel hP hG h' hp rfl hiu eu ho4 hl' (by omega) rfl rfl _ j hj hnej
end
section
open Go.RowKit Go.Sort
variable [DecidableEq Blk] [Inhabited Blk] [Inhabited Vol]
theorem setVol_self(i:Nat)(l:List Vol)(h:i < l.length):setVol i l[i]! l=l:=by
 unfold setVol;rw[getElem!_pos l i h,<-List.drop_eq_getElem_cons h,List.take_append_drop]
theorem resize_same(s:St)(fr:List Nat)(t:ByteArray)(k:Nat)(w:World)(h:PoolAt w s)(hG:Good s fr)(hd:Head s t w)(hk:k=(s.vol t).xs.length) :
 Calls Tryz.prog 53 #[.pointer (some ⟨s.pb,0,none⟩),.string t,.int .i64 k] w fun e w'=>e=.returned (.int .i64 0)/\After w s w' s fr:=by
 have hs0:=(h.vols _ (St.has_mem hd.has).1).small;have hxp:1<=(s.vol t).xs.length:=by have:=(h.vols _ (St.has_mem hd.has).1).pos;cases hx:(s.vol t).xs<;>simp_all
 have hi:=hd.has;have hf:=find_has s t w h hi;have hmem:=(St.has_mem hi).1;have hpos:=(St.has_mem hi).2.2;have hv:=h.vols _ hmem;have hs:=hv.small;obtain⟨cs,hr⟩:=hv.row;have hI:=isPicture_calls (s.vol t) w hv;rw[hd.org] at hI;have hPc:=picturesOf_calls s (s.vol t) w h hmem;rw[hd.pics] at hPc;have hC:=fun W=>isCount_calls k W
 rw[decide_eq_true (by omega:(1:Int)<=k/\(k:Int)<=200)] at hC;have hZ:=fun W (hW:Same [] w W)=>size_vol (s.vol t) W (hv.new hW) hd.org
 have hnot:=runNot;obtain⟨cap,hp,_,_⟩:=h.pool;obtain⟨ap1,ap2,ap3,ap4⟩:=h.apart hmem;have hCut:=fun W (hW:Same [] w W)=>cut_whole (s.vol t) k W (hv.new hW) hd.org (by omega) hk
 have hGive:=fun W (hW:Same [(s.vol t).vb] w W) u hu=>give_calls s.db s.bb s.fb s.n s.m (s.vol t).gb 0 0 s.bl s.d [] (some ⟨(s.vol t).gb,0,none⟩) 3 cs W _ u rfl hu
  (h.disk.same hW (by simp at ap2 ⊢;exact fun e=>ap2.1 e.symm) (by simp at ap2 ⊢;exact fun e=>ap2.2.1 e.symm) (by simp at ap2 ⊢;exact fun e=>ap2.2.2 e.symm)) (fun hne=>absurd rfl hne)
  (fun j hj=>by simp at hj) (fun x hx=>by simp at hx) (by simp;exact h.disk.le)
 have hpd:∀W,Same [(s.vol t).vb] w W->W.cell? ⟨s.pb,1,none⟩=some (.pointer (some ⟨s.db,0,none⟩)):=fun W hW=>(hW.at hp (by simp[ap3])).cell? 1
 have HC1:Hid (∀W,Same [] w W->W.cell? ⟨s.pb,1,none⟩=some (.pointer (some ⟨s.db,0,none⟩))):=fun W hW=>(hW.at hp (by simp)).cell? 1
 have H:Hid (PoolAt w s/\Good s fr):=⟨h,hG⟩
 have HK:Hid (k=(s.vol t).xs.length):=hk;clear h hG hv hr hp hd;have l1:(k:Int)<=((s.vol t).xs.length:Int):=by omega
 clear hk
 go_enter Tryz.func53,Tryz.ntmps53
 go_wp2_with (first|(go_at_call 77;refine hf.mono ?_;rintro e w' ⟨rfl,hw⟩;obtain rfl:=hw.symm)|(go_at_call 88;refine hI.mono ?_;rintro e w' ⟨rfl,hw⟩;obtain rfl:=hw.symm)|(go_at_call 93;refine hPc.mono ?_;rintro e wp ⟨sl,rfl,hown,S0⟩;obtain⟨ag,acap,rfl⟩:=owns_form hown)|(go_at_call 42;refine (hC _).mono ?_;rintro e w' ⟨rfl,hw⟩;obtain rfl:=hw.symm)|(go_at_call 94;refine (hZ _ (by assumption)).mono ?_;rintro e w' ⟨rfl,hw⟩;obtain rfl:=hw.symm))
 have p0:=HC1.out _ S0
 go_region_with (first|(go_at_call 96;refine (hCut _ (S0.drew)).mono ?_;rintro e w2 ⟨rfl,V2,S2⟩;have SS:Same [(s.vol t).vb] w w2:=(S0.drew.mono (T:=[(s.vol t).vb]) (by simp)).step S2 (by simp);have p2:=hpd w2 SS)|(go_at_call 95;refine (hGive w2 SS _ (by rfl)).mono ?_;rintro e w3 ⟨rfl,D3,S3⟩))
 all_goals
  obtain⟨h,hG⟩:=H.out;have ev:({ (s.vol t) with xs:=(s.vol t).xs.take k }:Vol)=s.vol t:=by rw[HK.out,List.take_length]
  rw[ev] at V2;have hP2:=set_state h (posOf s.names t) hpos (s.vol t) rfl rfl rfl (fun q hq=>Or.inl hq) V2 (SS.mono (by intro q hq _;simp at hq;rw[hq];exact List.mem_cons_self));have es:setVol (posOf s.names t) (s.vol t) s.vols=s.vols:=setVol_self _ _ hpos;rw[es] at hP2;have hP3:=hP2.withDisk S3 (by intro q hq;simp at hq;rcases hq with e|e|e<;>simp[e]) D3;have hvf:(s.vol t).vb∈s.foot:=s.foot_vol hmem (by simp[Vol.foot]);have hFin:After w s w3 s fr:=
   ⟨hP3,hG,(SS.mono (T:=s.foot) (by simp;exact fun _=>hvf)).step S3 (by simp[St.foot]),fun j hj=>Or.inl hj,rfl,rfl⟩
  clear hP3 hP2 V2 D3 S3 S2 SS h hG hGive hCut hpd
  go_wp2
  go_ret
  exact⟨rfl,hFin⟩
theorem resize_full(s:St)(fr:List Nat)(t:ByteArray)(k:Nat)(w:World)(h:PoolAt w s)(hG:Good s fr)(hd:Head s t w)(hk:(s.vol t).xs.length < k/\k<=200)(hf':fr.length < k - (s.vol t).xs.length) :
 Calls Tryz.prog 53 #[.pointer (some ⟨s.pb,0,none⟩),.string t,.int .i64 k] w fun e w'=>e=.returned (.int .i64 6)/\∃d',After w s w' { s with d:=d' } fr:=by
 have hi:=hd.has;have hf:=find_has s t w h hi;have hmem:=(St.has_mem hi).1;have hpos:=(St.has_mem hi).2.2;have hv:=h.vols _ hmem;have hs:=hv.small;obtain⟨cs,hr⟩:=hv.row;have hI:=isPicture_calls (s.vol t) w hv;rw[hd.org] at hI;have hPc:=picturesOf_calls s (s.vol t) w h hmem;rw[hd.pics] at hPc;have hC:=fun W=>isCount_calls k W
 rw[decide_eq_true (by omega:(1:Int)<=k/\(k:Int)<=200)] at hC;have hZ:=fun W (hW:Same [] w W)=>size_vol (s.vol t) W (hv.new hW) hd.org
 have hnot:=runNot;obtain⟨cap,hp,_,_⟩:=h.pool;have hml:=hG.heap.len;have hT:=fun W (hW:Same [] w W) v (hv:v=((k - (s.vol t).xs.length:Nat):Int))=>take_calls s.db s.bb s.fb s.n s.m (k - (s.vol t).xs.length) s.bl s.d fr W _ v rfl hv (by omega) (h.disk.same hW (by simp) (by simp) (by simp)) hG.all hG.lt.1
 have HC1:Hid (∀W,Same [] w W->W.cell? ⟨s.pb,1,none⟩=some (.pointer (some ⟨s.db,0,none⟩))):=fun W hW=>(hW.at hp (by simp)).cell? 1
 have H:Hid (PoolAt w s/\Good s fr):=⟨h,hG⟩
 clear h hG hv hr hp hd;have l1:((s.vol t).xs.length:Int) < (k:Int):=by omega
 generalize hL:(s.vol t).xs.length=L at *;clear hL;have hsub:IntKind.i64.wrap ((k:Int) - (L:Int))=(k:Int) - (L:Int):=IntWalk.i64_in _ (by omega)
 go_enter Tryz.func53,Tryz.ntmps53
 go_wp2_with (first|(go_at_call 77;refine hf.mono ?_;rintro e w' ⟨rfl,hw⟩;obtain rfl:=hw.symm)|(go_at_call 88;refine hI.mono ?_;rintro e w' ⟨rfl,hw⟩;obtain rfl:=hw.symm)|(go_at_call 93;refine hPc.mono ?_;rintro e wp ⟨sl,rfl,hown,S0⟩;obtain⟨ag,acap,rfl⟩:=owns_form hown)|(go_at_call 42;refine (hC _).mono ?_;rintro e w' ⟨rfl,hw⟩;obtain rfl:=hw.symm)|(go_at_call 94;refine (hZ _ (by assumption)).mono ?_;rintro e w' ⟨rfl,hw⟩;obtain rfl:=hw.symm))
 have p0:=HC1.out _ S0
 go_region_with (first|(go_at_call 94;refine (hZ _ (S0.drew)).mono ?_;rintro e w2 ⟨rfl,rfl⟩)|(go_at_call 97;refine (hT _ (S0.drew) _ (by omega)).mono ?_;rintro e w3 (⟨hbad,_⟩|⟨_,rfl,D3,S3⟩);(omega)))
 all_goals
  obtain⟨h,hG⟩:=H.out;have e0:giveB fr s.bl=s.bl:=giveB_zero fr s.bl fun x hx=>⟨by rw[h.disk.len];exact hG.lt.1 x hx,hG.zero x hx⟩
  rw[e0] at D3;have hS3:Same [s.db,s.bb,s.fb] w w3:=(S0.drew.mono (T:=[s.db,s.bb,s.fb]) (by simp)).step S3 (by simp);have hFin:After w s w3 { s with d:=giveD 0 fr (popsD s.m s.m s.d) } fr:=⟨h.withDisk hS3 (by intro q hq;simp at hq;rcases hq with e|e|e<;>simp[e]) D3,⟨hG.back,hG.parts,hG.zero,hG.names,hG.pics⟩,hS3.mono (by simp[St.foot]),fun k hk=>Or.inl hk,rfl,rfl⟩
  clear D3 S3 hS3 h hG hT hZ
  go_wp2
  go_ret
  exact⟨rfl,_,hFin⟩
end
section
open Go.RowKit Go.Sort
variable [DecidableEq Blk] [Inhabited Blk] [Inhabited Vol] [Inhabited RVol]
theorem refResize_picture(s:RSt)(t:ByteArray)(k:Int)(v:RVol)(w:World)(h:RefAt w s)(ha:s.at? t=some v)(ho:v.of_≠⟨#[]⟩) :
 Calls Tryz.prog 54 #[.pointer (some ⟨s.rb,0,none⟩),.string t,.int .i64 k] w fun e w'=>e=.returned (.int .i64 7)/\w'=w:=by
 have hF:=refFind_calls s t w h;rw[ha] at hF;obtain⟨hm,hnm⟩:=RSt.at?_mem ha;obtain⟨dc,bc,kc,hv,_⟩:=(h.vols v hm).ex;have e1:w.cell? ⟨v.vb,1,none⟩=some (.string v.of_):=hv.cell? 1;have hbq:=empty_bytes ho;clear hv h
 go_enter Tryz.func54,Tryz.ntmps54
 go_wp2_with (first|(go_at_call 79;refine hF.mono ?_;rintro e wz ⟨rfl,rfl⟩))
 go_ret
 exact⟨rfl,rfl⟩
theorem refResize_busy(s:RSt)(t:ByteArray)(k:Int)(v:RVol)(w:World)(h:RefAt w s)(ha:s.at? t=some v)(ho:v.of_=⟨#[]⟩)(hp:0 < s.pics t s.vols.length) :
 Calls Tryz.prog 54 #[.pointer (some ⟨s.rb,0,none⟩),.string t,.int .i64 k] w fun e w'=>e=.returned (.int .i64 8)/\w'=w:=by
 have hF:=refFind_calls s t w h;have hP:=refPictures_calls s t w h;rw[ha] at hF;obtain⟨hm,hnm⟩:=RSt.at?_mem ha;obtain⟨dc,bc,kc,hv,_⟩:=(h.vols v hm).ex;have e1:w.cell? ⟨v.vb,1,none⟩=some (.string ⟨#[]⟩):=by rw[<-ho];exact hv.cell? 1
 generalize s.pics t s.vols.length=m at *;have hk:(0:Int) < (m:Int):=by omega
 clear hv h
 go_enter Tryz.func54,Tryz.ntmps54
 go_wp2_with (first|(go_at_call 79;refine hF.mono ?_;rintro e wz ⟨rfl,rfl⟩)|(go_at_call 99;refine hP.mono ?_;rintro e wz ⟨rfl,rfl⟩))
 go_ret
 exact⟨rfl,rfl⟩
theorem RVol.parts{v:RVol}(h:v.foot.Nodup):v.vb≠v.dg/\v.vb≠v.bg/\(∀g,v.kg=some g->v.vb≠g/\v.dg≠g/\v.bg≠g)/\v.dg≠v.bg:=by
 simp only[RVol.foot,List.nodup_cons,List.mem_cons,not_or] at h;refine⟨h.1.1,h.1.2.1,fun g hg=>?_,h.2.1.1⟩;rw[hg] at h;simp at h;exact⟨h.1.2.2,h.2.1.2,h.2.2⟩
theorem vol_nodup{s:RSt}(hnd:s.foot.Nodup){v:RVol}(hm:v∈s.vols):v.foot.Nodup:=(flat_apart RVol.foot s.vols (RSt.foot_parts hnd).2.2.2).1 v hm
theorem ref_data_grow{w w4:World}{s:RSt}{i:Nat}{v:RVol}(h:RefAt w s)(hnd:s.foot.Nodup)(hi:i < s.vols.length)(hv:s.vols[i]! = v)(g cap:Nat)(y:ByteArray)(hS:Same [v.dg] w w4)(hT:TextsAt w4 g cap (v.data++[y]))(hg:g=v.dg\/w.heap.size<=g)(hl:v.data.length+1<=200) :
 RAfter w s (w4.setCell ⟨v.vb,2,none⟩ (.slice (some ⟨g,0,none⟩) (v.data.length+1) cap)) { s with vols:=s.vols.set i { v with dg:=g,data:=v.data++[y] } }:=by
 have hm:v∈s.vols:=by rw[<-hv];exact getRv hi
 have hV:=h.vols v hm;have hvl:=hV.foot_lt;have hlt:=h.foot_lt;obtain⟨n1,n2,n3,n4⟩:=RVol.parts (vol_nodup hnd hm);obtain⟨dc,bc,kc,a1,a2,a3,a4,a5⟩:=hV.ex;have S5:Same [v.vb,v.dg] w (w4.setCell ⟨v.vb,2,none⟩ (.slice (some ⟨g,0,none⟩) (v.data.length+1) cap)):=(hS.mono (T:=[v.vb,v.dg]) (by simp)).set _ _ _ (by simp);have l1:=hvl v.vb (by simp[RVol.foot]);have l2:=hvl v.bg (by simp[RVol.foot]);have l3:=hvl v.dg (by simp[RVol.foot]);have hgv:v.vb≠g:=by rcases hg with e|e<;>omega
 have hgb:g≠v.bg:=by rcases hg with e|e<;>omega
 have S45:Same [v.vb] w4 (w4.setCell ⟨v.vb,2,none⟩ (.slice (some ⟨g,0,none⟩) (v.data.length+1) cap)):=(Same.refl _ _).set _ _ _ (by simp);have A4:=hS.at a1 (by simpa using n1);have V5:RVolAt (w4.setCell ⟨v.vb,2,none⟩ (.slice (some ⟨g,0,none⟩) (v.data.length+1) cap)) { v with dg:=g,data:=v.data++[y] }:=by
  refine⟨⟨cap,bc,kc,?_,hT.same S45 (by simpa using fun e=>hgv e.symm),a3.same S5 ?_,a4,fun g' hg'=>(a5 g' hg').same S5 ?_⟩,by simpa using hl,hV.blocks,hV.kept⟩
  ·have:=A4.set_same 2 (.slice (some ⟨g,0,none⟩) (v.data.length+1) cap);simpa using this
  ·simp;exact⟨fun e=>n2 e.symm,fun e=>n4 e.symm⟩
  ·simp;exact⟨fun e=>(n3 g' hg').1 e.symm,fun e=>(n3 g' hg').2.1 e.symm⟩
 have hff:∀x∈RVol.foot { v with dg:=g,data:=v.data++[y] },x∈v.foot\/w.heap.size<=x:=by
  intro x hx;simp only[RVol.foot,List.mem_cons] at hx ⊢;rcases hx with q|q|q|q
  ·exact Or.inl (Or.inl q)
  ·rcases hg with e|e
   ·exact Or.inl (Or.inr (Or.inl (q.trans e)))
   ·exact Or.inr (by omega)
  ·exact Or.inl (Or.inr (Or.inr (Or.inl q)))
  ·exact Or.inl (Or.inr (Or.inr (Or.inr q)))
 have hsub:∀x∈[v.vb,v.dg],x∈v.foot:=by
  intro x hx;simp at hx;rcases hx with q|q<;>rw[q]<;>simp[RVol.foot]
 refine⟨ref_set h hnd i hi _ (by rw[hv]) V5 S5 (by rw[hv];exact hsub),nodup_setR hnd i hi _ ?_ (fun x hx=>by rw[hv];exact (hff x hx).imp id fun q hm=>by have:=hlt x hm;omega),S5.mono (fun x hx _=>s.foot_vol hm (hsub x hx)),foot_setR i hi _ (fun x hx=>by rw[hv];exact hff x hx),rfl,rfl⟩;have hvf:=vol_nodup hnd hm;simp only[RVol.foot,List.nodup_cons,List.mem_cons,not_or] at hvf ⊢;refine⟨⟨hgv,hvf.1.2⟩,⟨hgb,fun hk=>?_⟩,hvf.2.2⟩;rcases hg with e|e
 ·rw[e] at hk;exact hvf.2.1.2 hk
 ·have:=hvl g (by simp only[RVol.foot,List.mem_cons];exact Or.inr (Or.inr (Or.inr hk)));omega
theorem ref_blocks_grow{w w4:World}{s:RSt}{i:Nat}{v:RVol}(h:RefAt w s)(hnd:s.foot.Nodup)(hi:i < s.vols.length)(hv:s.vols[i]! = v)(g cap:Nat)(y:Nat)(hS:Same [v.bg] w w4)(hT:NumsAt w4 g cap (v.blocks++[y]))(hg:g=v.bg\/w.heap.size<=g)(hl:v.blocks.length+1<=200) :
 RAfter w s (w4.setCell ⟨v.vb,3,none⟩ (.slice (some ⟨g,0,none⟩) (v.blocks.length+1) cap)) { s with vols:=s.vols.set i { v with bg:=g,blocks:=v.blocks++[y] } }:=by
 have hm:v∈s.vols:=by rw[<-hv];exact getRv hi
 have hV:=h.vols v hm;have hvl:=hV.foot_lt;have hlt:=h.foot_lt;obtain⟨n1,n2,n3,n4⟩:=RVol.parts (vol_nodup hnd hm);obtain⟨dc,bc,kc,a1,a2,a3,a4,a5⟩:=hV.ex;have S5:Same [v.vb,v.bg] w (w4.setCell ⟨v.vb,3,none⟩ (.slice (some ⟨g,0,none⟩) (v.blocks.length+1) cap)):=(hS.mono (T:=[v.vb,v.bg]) (by simp)).set _ _ _ (by simp);have l1:=hvl v.vb (by simp[RVol.foot]);have l2:=hvl v.bg (by simp[RVol.foot]);have l3:=hvl v.dg (by simp[RVol.foot]);have hgv:v.vb≠g:=by rcases hg with e|e<;>omega
 have hgb:v.dg≠g:=by rcases hg with e|e<;>omega
 have S45:Same [v.vb] w4 (w4.setCell ⟨v.vb,3,none⟩ (.slice (some ⟨g,0,none⟩) (v.blocks.length+1) cap)):=(Same.refl _ _).set _ _ _ (by simp);have A4:=hS.at a1 (by simpa using n2);have V5:RVolAt (w4.setCell ⟨v.vb,3,none⟩ (.slice (some ⟨g,0,none⟩) (v.blocks.length+1) cap)) { v with bg:=g,blocks:=v.blocks++[y] }:=by
  refine⟨⟨dc,cap,kc,?_,a2.same S5 ?_,hT.same S45 (by simpa using fun e=>hgv e.symm),a4,fun g' hg'=>(a5 g' hg').same S5 ?_⟩,hV.data,by simpa using hl,hV.kept⟩
  ·have:=A4.set_same 3 (.slice (some ⟨g,0,none⟩) (v.blocks.length+1) cap);simpa using this
  ·simp;exact⟨fun e=>n1 e.symm,fun e=>n4 e⟩
  ·simp;exact⟨fun e=>(n3 g' hg').1 e.symm,fun e=>(n3 g' hg').2.2 e.symm⟩
 have hff:∀x∈RVol.foot { v with bg:=g,blocks:=v.blocks++[y] },x∈v.foot\/w.heap.size<=x:=by
  intro x hx;simp only[RVol.foot,List.mem_cons] at hx ⊢;rcases hx with q|q|q|q
  ·exact Or.inl (Or.inl q)
  ·exact Or.inl (Or.inr (Or.inl q))
  ·rcases hg with e|e
   ·exact Or.inl (Or.inr (Or.inr (Or.inl (q.trans e))))
   ·exact Or.inr (by omega)
  ·exact Or.inl (Or.inr (Or.inr (Or.inr q)))
 have hsub:∀x∈[v.vb,v.bg],x∈v.foot:=by
  intro x hx;simp at hx;rcases hx with q|q<;>rw[q]<;>simp[RVol.foot]
 refine⟨ref_set h hnd i hi _ (by rw[hv]) V5 S5 (by rw[hv];exact hsub),nodup_setR hnd i hi _ ?_ (fun x hx=>by rw[hv];exact (hff x hx).imp id fun q hm=>by have:=hlt x hm;omega),S5.mono (fun x hx _=>s.foot_vol hm (hsub x hx)),foot_setR i hi _ (fun x hx=>by rw[hv];exact hff x hx),rfl,rfl⟩;have hvf:=vol_nodup hnd hm;simp only[RVol.foot,List.nodup_cons,List.mem_cons,not_or] at hvf ⊢;refine⟨⟨hvf.1.1,hgv,hvf.1.2.2⟩,⟨hgb,hvf.2.1.2⟩,fun hk=>?_,hvf.2.2.2⟩;rcases hg with e|e
 ·rw[e] at hk;exact hvf.2.2.1 hk
 ·have:=hvl g (by simp only[RVol.foot,List.mem_cons];exact Or.inr (Or.inr (Or.inr hk)));omega
theorem ref_cut{w:World}{s:RSt}{i n:Nat}{v:RVol}(h:RefAt w s)(hnd:s.foot.Nodup)(hi:i < s.vols.length)(hv:s.vols[i]! = v)(hn:n<=v.data.length)(hb:n<=v.blocks.length)(dc bc:Nat)
 (hd2:w.cell? ⟨v.vb,2,none⟩=some (.slice (some ⟨v.dg,0,none⟩) v.data.length dc)) (hb2:w.cell? ⟨v.vb,3,none⟩=some (.slice (some ⟨v.bg,0,none⟩) v.blocks.length bc)) :
 RAfter w s ((w.setCell ⟨v.vb,2,none⟩ (.slice (some ⟨v.dg,0,none⟩) n dc)).setCell ⟨v.vb,3,none⟩ (.slice (some ⟨v.bg,0,none⟩) n bc)) { s with vols:=s.vols.set i { v with data:=v.data.take n,blocks:=v.blocks.take n } }:=by
 have hm:v∈s.vols:=by rw[<-hv];exact getRv hi
 have hV:=h.vols v hm;obtain⟨n1,n2,n3,n4⟩:=RVol.parts (vol_nodup hnd hm);obtain⟨dc',bc',kc,a1,a2,a3,a4,a5⟩:=hV.ex;have hd2':=a1.cell? 2;rw[hd2] at hd2';obtain rfl:dc=dc':=by simpa using hd2'
 have hb2':=a1.cell? 3;rw[hb2] at hb2';obtain rfl:bc=bc':=by simpa using hb2'
 have S5:Same [v.vb] w ((w.setCell ⟨v.vb,2,none⟩ (.slice (some ⟨v.dg,0,none⟩) n dc)).setCell ⟨v.vb,3,none⟩ (.slice (some ⟨v.bg,0,none⟩) n bc)):=((Same.refl _ _).set _ _ _ (by simp)).set _ _ _ (by simp);have hdl:(v.data.take n).length=n:=by rw[List.length_take];omega
 have hbl:(v.blocks.take n).length=n:=by rw[List.length_take];omega
 have T2:TextsAt w v.dg dc (v.data.take n):=by
  obtain⟨cs,q1,q2,q3,q4,q5⟩:=a2.ex;refine⟨cs,q1,q2,?_,by rw[hdl];omega,q5⟩;rw[hdl,List.map_take,<-q3,List.take_take,Nat.min_eq_left hn]
 have T3:NumsAt w v.bg bc (v.blocks.take n):=by
  obtain⟨cs,q1,q2,q3,q4,q5⟩:=a3.ex;refine⟨cs,q1,q2,?_,by rw[hbl];omega,q5⟩;rw[hbl,List.map_take,<-q3,List.take_take,Nat.min_eq_left hb]
 have V5:RVolAt ((w.setCell ⟨v.vb,2,none⟩ (.slice (some ⟨v.dg,0,none⟩) n dc)).setCell ⟨v.vb,3,none⟩ (.slice (some ⟨v.bg,0,none⟩) n bc)) { v with data:=v.data.take n,blocks:=v.blocks.take n }:=by
  refine⟨⟨dc,bc,kc,?_,T2.same S5 (by simpa using fun e=>n1 e.symm),T3.same S5 (by simpa using fun e=>n2 e.symm),a4,fun g' hg'=>(a5 g' hg').same S5 (by simpa using fun e=>(n3 g' hg').1 e.symm)⟩,by rw[hdl];have:=hV.data;omega,by rw[hbl];have:=hV.blocks;omega,hV.kept⟩;have:=(a1.set_same 2 (.slice (some ⟨v.dg,0,none⟩) n dc)).set_same 3 (.slice (some ⟨v.bg,0,none⟩) n bc);simp only[hdl,hbl];exact this
 refine⟨ref_set h hnd i hi _ (by rw[hv]) V5 S5 (by rw[hv];simp[RVol.foot]),nodup_setR hnd i hi _ (show v.foot.Nodup from vol_nodup hnd hm) (fun x hx=>by rw[hv];exact Or.inl hx),S5.mono ?_,foot_setR i hi _ (fun x hx=>by rw[hv];exact Or.inl hx),rfl,rfl⟩;intro x hx _;simp at hx;rw[hx];exact s.foot_vol hm (by simp[RVol.foot])
theorem RAfter.old{w0 w w':World}{s s':RSt}(h:RAfter w s w' s')(h0:Same [] w0 w):RAfter w0 s w' s':=
 ⟨h.ref,h.nodup,(h0.mono (T:=s.foot) (by simp)).step h.same (fun k hk _=>hk),fun k hk=>(h.foot k hk).imp id fun e=>Nat.le_trans h0.size e,h.rb,h.n⟩
def RVol.grown(v:RVol)(g bg:Nat)(fl:List Nat)(j:Nat):RVol:={ v with dg:=g,bg:=bg,data:=v.data++List.replicate j zero8,blocks:=v.blocks++fl.take j }
theorem step_append_own_at{P:Program}{ops:Array Oper}{o:Oper}{a:Act}{w:World}{K:Act->World->Prop}{Q:Exit->Act->World->Prop}{E:Prop}
 (hg:o.guard=none) (s x:Operand) (t:TypeId) (hop:o.op=Op.call { callee:=Callee.builtin Builtin.append,args:=#[s,x],argTypes:=#[t,t] })
 (base:Nat) (e:TypeId) (i:TypeInfo) (z:Value) (size bytes:Nat) (h1:P.underlying t=some (.slice e)) (h2:P.info? e=some i) (h3:i.zero=some z) (h4:i.size=size) (h5:i.bytes=bytes) (h6:z.cells.size=size) (h7:0 < size)
 (v:Value) (n:Nat) (xs:List Value) (hs:a.eval s=v) (hown:w.ownsRow base e size v n xs)
 (ad:Addr) (m c:Nat) (news:List Value) (hx:a.eval x=.slice (some ad) m c) (hn:news.length=m * size) (hc:∀j u,news[j]? = some u->w.cell? (ad.add j)=some u) (h1c:∀u∈news,u.oneCell'=true)
 (b1:n+m<=maxLen) (b2:(n+m) * bytes<=140737488355328) (b3:base<=w.heap.size)
 (hK:∀v' w',w'.ownsRow base e size v' (n+m) (xs++news)->w.grownBy w' v.ownBlock->(v'.ownBlock=v.ownBlock\/v'.ownBlock=some w.heap.size)->K (a.put o.dst v') w') :
 if Region.wanted o (yielded ops a.tmps)=true then Oper.wp P o a w K Q else E:=by
 have hw:Region.wanted o (yielded ops a.tmps)=true:=by simp[Region.wanted,hg]
 rw[if_pos hw];obtain⟨v',w',hrun,r1,r2,_,r3⟩:=run_append_own_at (P:=P) w base t o.type e i z size bytes h1 h2 h3 h4 h5 h6 h7 v n xs hown ad m c news hn hc h1c b1 b2 b3;unfold Oper.wp;simp[execOp,hop,resolve,invoke,builtin,hs,hx,hrun,Result.andThen];exact hK v' w' r1 r2 r3
theorem refResize_ok(s:RSt)(t:ByteArray)(n iv:Nat)(v:RVol)(w:World)(h:RefAt w s)(hnd:s.foot.Nodup)(hi:iv < s.vols.length)(hv:s.vols[iv]! = v)(ha:s.at? t=some v)(ho:v.of_=⟨#[]⟩)(hp:s.pics t s.vols.length=0)(hn:1<=n/\n<=200)(hf:n<=v.data.length+(s.freeL s.n).length)(hbl:v.blocks.length=v.data.length) :
 Calls Tryz.prog 54 #[.pointer (some ⟨s.rb,0,none⟩),.string t,.int .i64 n] w fun e w'=>e=.returned (.int .i64 0) /\
  ∃g bg,RAfter w s w' { s with vols:=s.vols.set iv { (v.grown g bg (s.freeL s.n) (n - v.data.length)) with data:=(v.data++List.replicate (n - v.data.length) zero8).take n,blocks:=(v.blocks++(s.freeL s.n).take (n - v.data.length)).take n } }:=by
 have hF:=refFind_calls s t w h;have hP:=refPictures_calls s t w h;have hR:=refFree_calls s w h;rw[ha] at hF;rw[hp] at hP;have hm:v∈s.vols:=by rw[<-hv];exact getRv hi
 obtain⟨dc,bc,kc,a1,_⟩:=(h.vols v hm).ex;have hd:=(h.vols v hm).data;have e1:w.cell? ⟨v.vb,1,none⟩=some (.string ⟨#[]⟩):=by rw[<-ho];exact a1.cell? 1
 have hfl:=s.freeL_len s.n;have hsn:=h.n;generalize s.freeL s.n=fl at *;obtain⟨i0,hi0,hz0,hz1,hz2⟩:=info_parts Tryz.infoStr;obtain⟨i1,ki,kz0,kz1,kz2⟩:=info_parts Tryz.info3;have l1:(1:Int)<=(n:Int):=by omega
 have l2:(n:Int)<=200:=by omega
 have l3:(n:Int)<=(v.data.length:Int)+(fl.length:Int):=by omega
 go_enter Tryz.func54,Tryz.ntmps54
 go_wp2_with (first|(go_at_call 79;refine hF.mono ?_;rintro e wz ⟨rfl,rfl⟩)|(go_at_call 99;refine hP.mono ?_;rintro e wz ⟨rfl,rfl⟩)|(go_at_call 63;refine hR.mono ?_;rintro e w2 ⟨u,rfl,hownF,hS⟩;obtain⟨ua,ucap,rfl⟩:=owns_form hownF;have e2:=(hS.at a1 (by simp)).cell? 2;simp only[List.getElem?_cons_succ,List.getElem?_cons_zero] at e2))
 have hfoot:=h.foot_lt;have hsz2:=hS.size;have A0:RAfter w2 s w2 { s with vols:=s.vols.set iv (v.grown v.dg v.bg fl 0) }:=by
  have e0:v.grown v.dg v.bg fl 0=v:=by simp[RVol.grown]
  rw[e0,setR_self hi hv];exact RAfter.still (h.same0 hS) hnd (Same.refl _ _)
 have hblk:∀j,j < fl.length->∃fb,ua=some ⟨fb,0,none⟩/\wz.heap.size<=fb/\fb < w2.heap.size/\w2.cell? ⟨fb,j,none⟩=some (.int .i64 (fl[j]!:Nat)):=fun j hj=>by
  obtain⟨g,cap,e,hb,hN⟩:=owns_nums hownF (by intro e;rw[e] at hj;simp at hj);obtain⟨cs,hA,_⟩:=hN.ex;simp only[Value.slice.injEq] at e;exact⟨g,e.1,hb,hA.lt,hN.cell j hj⟩
 have HBLK:Hid (∀j,j < fl.length->∃fb,ua=some ⟨fb,0,none⟩/\wz.heap.size<=fb/\fb < w2.heap.size/\w2.cell? ⟨fb,j,none⟩=some (.int .i64 (fl[j]!:Nat))):=hblk;have HOLD:Hid (Same [] wz w2):=hS;have HH:Hid (RefAt wz s):=h;clear hblk hownF hF hP hR
 go_loopw [10] (fun i wr=>∃(j g bg:Nat),v.data.length+j<=max n v.data.length/\i=.int .i64 (v.data.length+j:Nat)/\RAfter w2 s wr { s with vols:=s.vols.set iv (v.grown g bg fl j) })
  (fun i _=>n - (intOf i).toNat)
 case atStart=>exact⟨0,v.dg,v.bg,by omega,by simp,A0⟩
 case round=>
  obtain⟨j,g,bg,hj,rfl,hA⟩:=hrel;generalize hs1:({ s with vols:=s.vols.set iv (v.grown g bg fl j) }:RSt)=s1 at *;have hi1:iv < s1.vols.length:=by rw[<-hs1];show iv < (s.vols.set iv _).length;rw[List.length_set];exact hi
  have hv1:s1.vols[iv]! = v.grown g bg fl j:=by rw[<-hs1];exact set_getR hi
  have hm1:v.grown g bg fl j∈s1.vols:=by rw[<-hv1];exact getRv hi1
  have hV1:=hA.ref.vols _ hm1;obtain⟨dc1,bc1,kc1,b1,b2,b3,b4,b5⟩:=hV1.ex;have hdl:(v.grown g bg fl j).data.length=v.data.length+j:=by simp[RVol.grown]
  have hvb1:(v.grown g bg fl j).vb=v.vb:=rfl;by_cases hjn:v.data.length+j < n
  ·have hjf:j < fl.length:=by omega
   obtain⟨fb,rfl,hfb1,hfb2,hfc⟩:=HBLK.out j hjf;have hbll:(v.grown g bg fl j).blocks.length=v.data.length+j:=by
    show (v.blocks++fl.take j).length=_;rw[List.length_append,List.length_take,hbl];omega
   have e2:wr.cell? ⟨v.vb,2,none⟩=some (.slice (some ⟨g,0,none⟩) (v.data.length+j) dc1):=by rw[<-hdl];exact b1.cell? 2
   have o2:wr.ownsRow 0 9 1 (.slice (some ⟨g,0,none⟩) (v.data.length+j) dc1) (v.data.length+j) ((v.grown g bg fl j).data.map Value.string):=texts_owns b2 hdl.symm;have l4:((v.data.length+j:Nat):Int) < (n:Int):=by omega
   have hnd1:=hA.nodup;obtain⟨p1,p2,p3,p4⟩:=RVol.parts (vol_nodup hnd1 hm1);have q1:v.vb≠g:=p1;have q2:v.vb≠bg:=p2;have HA:Hid (RAfter w2 s wr s1):=hA;have HB:Hid (At wr v.vb 118 _/\TextsAt wr g dc1 (v.grown g bg fl j).data/\NumsAt wr bg bc1 (v.grown g bg fl j).blocks):=⟨b1,b2,b3⟩
   clear hA b1 b2 b3 b4 b5 hV1 A0
   go_wp2_with (first|(at_builtin;refine wpList_append_own_at _ rfl _ _ 116 rfl 0 9 i0 (.string ⟨#[]⟩) 1 16 Tryz.underlying116 hi0 hz0 hz1 hz2 rfl (by decide) _ _ _ rfl (o2.alloc _) ⟨wr.heap.size,0,none⟩ 1 1 [.string zero8] rfl rfl ?c1 ?c2 ?c3 ?c4 ?c5 ?_))
   case c1=>
    intro j u hj
    match j,hj with
    | 0,hj=>simp at hj;subst hj;simp[Addr.add,zero8]
   case c2=>intro u hu;simp at hu;subst hu;rfl
   case c3=>unfold maxLen;omega
   case c4=>omega
   case c5=>omega
   intro v' w4 hown' hgrow _ hblk;have hown2:w4.ownsRow 0 9 1 v' (v.data.length+j+1) (((v.grown g bg fl j).data++[zero8]).map Value.string):=by rw[List.map_append];exact hown'
   have S4:Same [g] wr w4:=((Same.refl _ _).alloc _).grown hgrow (fun i hi hl=>by simp[Value.ownBlock] at hi;simp[hi]);obtain⟨g2,cap2,rfl,_,hT⟩:=owns_texts hown2 (by simp);have hg2:g2=g\/wr.heap.size<=g2:=by
    rcases hblk with hq|hq
    ·left;simpa [Value.ownBlock] using hq
    ·right
     have:g2=(wr.alloc (.cells #[.string zero8] 9)).heap.size:=by simpa [Value.ownBlock] using hq
     rw[this];simp
   have hlen2:((v.grown g bg fl j).data++[zero8]).length=v.data.length+j+1:=by rw[List.length_append,hdl];rfl
   have R5:=ref_data_grow HA.out.ref hnd1 hi1 hv1 g2 cap2 zero8 S4 hT hg2 (by omega);rw[hdl,hvb1] at R5;have b4:=S4.at HB.out.1 (by simpa using q1);have f4:=b4.frozen 2;have g4:w4.cell? ⟨v.vb,2,none⟩=some (.slice (some ⟨g,0,none⟩) (v.data.length+j) dc1):=by rw[<-hdl];exact b4.cell? 2
   have S5:Same [v.vb] w4 (w4.setCell ⟨v.vb,2,none⟩ (.slice (some ⟨g2,0,none⟩) (v.data.length+j+1) cap2)):=(Same.refl _ _).set _ _ _ (by simp);rw[hlen2];have HR5:Hid (∃s2 v2,RAfter wr s1 (w4.setCell ⟨v.vb,2,none⟩ (.slice (some ⟨g2,0,none⟩) (v.data.length+j+1) cap2)) s2/\v2={ (v.grown g2 bg fl j) with data:=v.data++List.replicate (j+1) zero8 }/\s2={ s1 with vols:=s1.vols.set iv v2 }):=by
    refine⟨_,_,R5,?_,rfl⟩;simp[RVol.grown,List.replicate_succ']
   have hx5:=S5.at b4;clear hown' hown2 hgrow hblk o2 e2 R5 hT
   go_wp2
   generalize hW5:w4.setCell ⟨v.vb,2,none⟩ (.slice (some ⟨g2,0,none⟩) (v.data.length+j+1) cap2)=w5 at *;obtain⟨s2,v2,R5,hv2,hs2⟩:=HR5.out;have hi2:iv < s2.vols.length:=by rw[hs2];show iv < (s1.vols.set iv _).length;rw[List.length_set];exact hi1
   have hv2':s2.vols[iv]! = v2:=by rw[hs2];exact set_getR hi1
   have hm2:v2∈s2.vols:=by rw[<-hv2'];exact getRv hi2
   have hV2:=R5.ref.vols _ hm2;obtain⟨dc2,bc2,kc2,c1,c2,c3,c4,c5⟩:=hV2.ex;have hvb2:v2.vb=v.vb:=by rw[hv2];rfl
   have hbg2:v2.bg=bg:=by rw[hv2];rfl
   have hbl2:v2.blocks.length=v.data.length+j:=by rw[hv2];exact hbll
   have e3:w5.cell? ⟨v.vb,3,none⟩=some (.slice (some ⟨bg,0,none⟩) (v.data.length+j) bc2):=by rw[<-hvb2,<-hbg2,<-hbl2];exact c1.cell? 3
   have o3:w5.ownsRow 0 3 1 (.slice (some ⟨bg,0,none⟩) (v.data.length+j) bc2) (v.data.length+j) (v2.blocks.map (fun x:Nat=>Value.int .i64 x)):=by rw[<-hbg2];exact nums_owns c3 hbl2.symm
   have hfo:fb∉s.foot:=fun hm=>by have:=hfoot _ hm;omega
   have hfo1:fb∉s1.foot:=fun hm=>by
    rcases HA.out.foot _ hm with q|q
    ·exact hfo q
    ·omega
   have ef:w5.cell? ⟨fb,j,none⟩=some (.int .i64 (fl[j]!:Nat)):=by
    have h1:=HA.out.same.block fb hfb2 hfo;have h2:=R5.same.block fb (by have:=HA.out.same.size;omega) hfo1;rw[<-hfc];simp[World.cell?,h1,h2]
   obtain⟨cs5,h5⟩:∃cs,At w5 v.vb 118 cs:=⟨_,by rw[<-hvb2];exact c1⟩
   have h53:cs5[3]? = some (.slice (some ⟨bg,0,none⟩) (v.data.length+j) bc2):=by rw[<-h5.cell?];exact e3
   have HT:Hid (v2.blocks++[fl[j]!]=v.blocks++fl.take (j+1)):=by
    show _=_;rw[hv2,List.take_succ_eq_append_getElem hjf,getElem!_pos fl j hjf];simp[RVol.grown]
   have q2b:v.vb≠bg:=q2;have lvb:v.vb < w5.heap.size:=h5.lt;have hsub:IntKind.i64.wrap ((v.data.length:Int)+(j:Int) - (v.data.length:Int))=((j:Nat):Int):=by rw[IntWalk.i64_in _ (by omega)];omega
   have l5:(j:Int) < (fl.length:Int):=by omega
   generalize fl[j]! = y at *;clear hW5 c1 c2 c3 c4 c5 hV2
   go_region_law (refine step_append_own_at rfl (.tmp 65) (.tmp 72) 51 rfl 0 3 i1 (.int .i64 0) 1 8 Tryz.underlying51 ki kz0 kz1 kz2 rfl (by decide) (.slice (some ⟨bg,0,none⟩) (v.data.length+j) bc2) (v.data.length+j) (v2.blocks.map (fun x:Nat=>Value.int .i64 x)) (by simp[Act.eval,Act.put]) (o3.alloc _) ⟨w5.heap.size,0,none⟩ 1 1 [.int .i64 (y:Nat)] (by simp[Act.eval,Act.put]) rfl (by intro q u hq;match q,hq with|0,hq=>simp at hq;subst hq;simp[Addr.add]) (by intro u hu;simp at hu;subst hu;rfl) (by unfold maxLen;omega) (by omega) (by omega) ?_;intro v6 w6 hown6 hgrow6 hblk6;obtain⟨a6,cap6,rfl⟩:=owns_form hown6;have p6:At w6 v.vb 118 cs5:=(h5.alloc (.cells #[.int .i64 (y:Nat)] 3)).of_heap (hgrow6.block v.vb (h5.alloc (.cells #[.int .i64 (y:Nat)] 3)).lt (fun hq=>q2b (Option.some.inj hq)));have g6:w6.cell? ⟨v.vb,3,none⟩=some (.slice (some ⟨bg,0,none⟩) (v.data.length+j) bc2):=(p6.cell? 3).trans h53;have z6:w6.frozen? ⟨v.vb,3,none⟩=false:=p6.frozen 3)
   all_goals
    have hlen6:(v2.blocks.map (fun x:Nat=>Value.int .i64 x)++[.int .i64 (y:Nat)])=(v2.blocks++[y]).map (fun x:Nat=>Value.int .i64 x):=by rw[List.map_append];rfl
    rw[hlen6] at hown6;obtain⟨g3,cap3,he3,_,hN3⟩:=owns_nums hown6 (by simp);have hl3:(v2.blocks++[y]).length=v.data.length+j+1:=by rw[List.length_append,hbl2];rfl
    rw[hl3] at he3;obtain⟨rfl,hcap⟩:a6=some ⟨g3,0,none⟩/\cap6=cap3:=by simpa using he3
    subst hcap;have S6:Same [v2.bg] w5 w6:=by
     rw[hbg2];exact ((Same.refl _ _).drew.alloc _).grown hgrow6 (fun i hi hl=>by have e:bg=i:=Option.some.inj hi;simp[e])
    have hg3:g3=v2.bg\/w5.heap.size<=g3:=by
     rcases hblk6 with hq|hq
     ·left;rw[hbg2];exact Option.some.inj hq
     ·right
      have:some g3=some (w5.alloc (.cells #[.int .i64 (y:Nat)] 3)).heap.size:=hq;have:=Option.some.inj this;rw[this];simp
    have R6:=ref_blocks_grow R5.ref R5.nodup hi2 hv2' g3 cap6 y S6 hN3 hg3 (by omega);rw[hbl2,hvb2,HT.out] at R6;have R7:=(HA.out.trans R5).trans R6;have e7:({ s2 with vols:=s2.vols.set iv { v2 with vb:=v.vb,bg:=g3,blocks:=v.blocks++fl.take (j+1) } }:RSt)={ s with vols:=s.vols.set iv (v.grown g2 g3 fl (j+1)) }:=by
     rw[hs2,hv2,<-hs1];simp[RVol.grown]
    have HR7:Hid (RAfter w2 s (w6.setCell ⟨v.vb,3,none⟩ (.slice (some ⟨g3,0,none⟩) (v.data.length+j+1) cap6)) { s with vols:=s.vols.set iv (v.grown g2 g3 fl (j+1)) }):=by
     show RAfter _ _ _ _;rw[<-e7];exact R7
    clear hown6 hgrow6 hblk6 R6 R7 R5 hN3 S6
    go_wp2
    go_roundw
    case rel=>exact⟨j+1,g2,g3,by omega,by go_num,HR7.out⟩
    case measure=>simp[intOf];omega
  ·have ej:j=n - v.data.length:=by omega
   subst ej;have hbll:(v.grown g bg fl (n - v.data.length)).blocks.length=v.data.length+(n - v.data.length):=by
    show (v.blocks++fl.take (n - v.data.length)).length=_;rw[List.length_append,List.length_take,hbl];omega
   have e2:wr.cell? ⟨v.vb,2,none⟩=some (.slice (some ⟨g,0,none⟩) (v.data.length+(n - v.data.length)) dc1):=by rw[<-hdl];exact b1.cell? 2
   have e3:wr.cell? ⟨v.vb,3,none⟩=some (.slice (some ⟨bg,0,none⟩) (v.data.length+(n - v.data.length)) bc1):=by rw[<-hbll];exact b1.cell? 3
   have f2:=b1.frozen 2;have f3:=b1.frozen 3;rw[hvb1] at f2 f3;have RC:=ref_cut hA.ref hA.nodup hi1 hv1 (n:=n) (by rw[hdl];omega) (by rw[hbll];omega) dc1 bc1 (b1.cell? 2) (b1.cell? 3);rw[hvb1] at RC;have R7:=hA.trans RC;have hd1:n<=dc1:=by obtain⟨cs,_,_,_,q,_⟩:=b2.ex;rw[hdl] at q;omega
   have hb1:n<=bc1:=by obtain⟨cs,_,_,_,q,_⟩:=b3.ex;rw[hbll] at q;omega
   have e7:({ s1 with vols:=s1.vols.set iv { (v.grown g bg fl (n - v.data.length)) with vb:=v.vb,data:=(v.grown g bg fl (n - v.data.length)).data.take n,blocks:=(v.grown g bg fl (n - v.data.length)).blocks.take n } }:RSt)={ s with vols:=s.vols.set iv { (v.grown g bg fl (n - v.data.length)) with data:=(v.data++List.replicate (n - v.data.length) zero8).take n,blocks:=(v.blocks++fl.take (n - v.data.length)).take n } }:=by
    rw[<-hs1];simp[RVol.grown]
   have HR7:Hid (RAfter wz s ((wr.setCell ⟨v.vb,2,none⟩ (.slice (some ⟨g,0,none⟩) n dc1)).setCell ⟨v.vb,3,none⟩ (.slice (some ⟨bg,0,none⟩) n bc1)) { s with vols:=s.vols.set iv { (v.grown g bg fl (n - v.data.length)) with data:=(v.data++List.replicate (n - v.data.length) zero8).take n,blocks:=(v.blocks++fl.take (n - v.data.length)).take n } }):=by
    show RAfter _ _ _ _;rw[<-e7];exact R7.old HOLD.out
   have m1:(n:Int)<=(dc1:Int):=by omega
   have m2:(n:Int)<=(bc1:Int):=by omega
   have m3:(0:Int)<=(n:Int):=by omega
   have m4:((n:Int)).toNat=n:=by omega
   have m5:¬((v.data.length:Int)+((n - v.data.length:Nat):Int) < (n:Int)):=by omega
   clear hA b1 b2 b3 b4 b5 hV1 A0 RC R7 e7
   go_wp2
   go_ret
   exact⟨rfl,g,bg,HR7.out⟩
end
end Go.Proofs.YtpddgdjocffgdaaGreat
