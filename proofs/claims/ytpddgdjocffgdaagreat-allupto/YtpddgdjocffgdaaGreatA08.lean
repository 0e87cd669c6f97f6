/- Packed: see the last text. -/
import Derived.Test.YtpddgdjocffgdaaGreatA06
import Derived.Test.YtpddgdjocffgdaaGreatA05
import Derived.Test.YtpddgdjocffgdaaGreatA04
import Derived.Test.YtpddgdjocffgdaaGreatA07
namespace Go.Proofs.YtpddgdjocffgdaaGreat
open Go.Proofs.Tryz
set_option linter.unusedVariables false
set_option linter.unusedSimpArgs false
set_option linter.unusedSectionVars false
set_option maxHeartbeats 16000000
set_option maxRecDepth 100000
section
open Go.RowKit Go.Sort
variable [DecidableEq aN] [Inhabited aN] [Inhabited aF] [Inhabited ay]
structure CG(a b:List ay)(iu k:Nat)(t y:ByteArray):Prop where
 len:b.length=a.length
 same:∀j,j<a.length->(b[j]!).name=(a[j]!).name/\(b[j]!).bC=(a[j]!).bC/\(b[j]!).blocks=(a[j]!).blocks
 data:∀j,j<a.length->(b[j]!).data=if j=iu then (a[j]!).data.set k y else (a[j]!).data
 kept:∀j,j<a.length->((b[j]!).kept,(b[j]!).lost)=if (a[j]!).bC=t/\(a[j]!).lost=false then lW k (a[j]!) else ((a[j]!).kept,(a[j]!).lost)
structure jV(a b:List ay)(t:ByteArray)(k j:Nat):Prop where
 len:b.length=a.length
 same:∀m,m<a.length->oJ (a[m]!) (b[m]!)
 did:∀m,m<j->m<a.length->((b[m]!).kept,(b[m]!).lost)=if (a[m]!).bC=t/\(a[m]!).lost=false then lW k (a[m]!) else ((a[m]!).kept,(a[m]!).lost)
 rest:∀m,j<=m->m<a.length->b[m]! = a[m]!
theorem jV.start(a:List ay)(t:ByteArray)(k:Nat):jV a a t k 0:=⟨rfl,fun m _=>oJ.refl _,fun m hm=>by omega,fun m _ _=>rfl⟩
theorem jV.skip{a b:List ay}{t:ByteArray}{k j:Nat}(h:jV a b t k j)(hn:j<a.length->¬((a[j]!).bC=t/\(a[j]!).lost=false)):jV a b t k (j+1):=by
 refine⟨h.len,h.same,fun m hm hl=>?_,fun m hm hl=>h.rest m (by omega) hl⟩;by_cases e:m<j
 ·exact h.did m e hl
 ·have e':m=j:=by omega
  subst e';rw[if_neg (hn hl),h.rest m (Nat.le_refl _) hl]
theorem jV.step{a b:List ay}{t:ByteArray}{k j:Nat}(h:jV a b t k j)(hj:j<a.length)(v1:ay)(hs:oJ (a[j]!) v1)(hk:(v1.kept,v1.lost)=lW k (a[j]!))(hy:(a[j]!).bC=t/\(a[j]!).lost=false):jV a (b.set j v1) t k (j+1):=by
 have hjb:j<b.length:=by rw[h.len];exact hj
 have hg:∀m,m<a.length->(b.set j v1)[m]! = if m=j then v1 else b[m]!:=fun m hm=>by
  rw[getElem!_pos _ m (by rw[List.length_set,h.len];exact hm),List.getElem_set];by_cases e:j=m
  ·rw[if_pos e,if_pos e.symm]
  ·rw[if_neg e,if_neg (fun q=>e q.symm),getElem!_pos b m (by rw[h.len];exact hm)]
 refine⟨by rw[List.length_set];exact h.len,fun m hm=>?_,fun m hm hl=>?_,fun m hm hl=>?_⟩
 ·rw[hg m hm];by_cases e:m=j
  ·rw[if_pos e,e];exact hs
  ·rw[if_neg e];exact h.same m hm
 ·rw[hg m hl];by_cases e:m=j
  ·rw[if_pos e,e,if_pos hy];exact hk
  ·rw[if_neg e];exact h.did m (by omega) hl
 ·rw[hg m hl,if_neg (by omega)];exact h.rest m (by omega) hl
theorem jV.done{a b:List ay}{t y:ByteArray}{k iu:Nat}(h:jV a b t k a.length)(hi:iu<a.length):CG a (b.set iu { (b[iu]!) with data:=(b[iu]!).data.set k y }) iu k t y:=by
 have hg:∀m,m<a.length->(b.set iu { (b[iu]!) with data:=(b[iu]!).data.set k y })[m]! = if m=iu then { (b[iu]!) with data:=(b[iu]!).data.set k y } else b[m]!:=fun m hm=>by
  rw[getElem!_pos _ m (by rw[List.length_set,h.len];exact hm),List.getElem_set];by_cases e:iu=m
  ·rw[if_pos e,if_pos e.symm]
  ·rw[if_neg e,if_neg (fun q=>e q.symm),getElem!_pos b m (by rw[h.len];exact hm)]
 refine⟨by rw[List.length_set];exact h.len,fun m hm=>?_,fun m hm=>?_,fun m hm=>?_⟩
 ·rw[hg m hm];have hs:=h.same m hm;by_cases e:m=iu
  ·rw[if_pos e];subst e;exact⟨hs.name,hs.bC,hs.blocks⟩
  ·rw[if_neg e];exact⟨hs.name,hs.bC,hs.blocks⟩
 ·rw[hg m hm];have hs:=h.same m hm;by_cases e:m=iu
  ·rw[if_pos e,if_pos e];subst e;show(b[m]!).data.set k y=_;rw[hs.data]
  ·rw[if_neg e,if_neg e];exact hs.data
 ·rw[hg m hm];by_cases e:m=iu
  ·rw[if_pos e];subst e;exact h.did m hm hm
  ·rw[if_neg e];exact h.did m hm hm
theorem Ie(s:aQ)(t y:ByteArray)(iu k:Nat)(v:ay)(w:World)(h:aO w s)(hnd:s.foot.Nodup)(hi:iu<s.af.length)(hv:s.af[iu]! = v)(ha:s.oO t=some v)(hl:v.lost=false)(hk:k<v.data.length)(hy:v.data[k]!≠y)(hof:v.bC=⟨#[]⟩) :
 Calls prog 51 #[.pointer (some ⟨s.rb,0,none⟩),.string t,.int .i64 k,.string y] w fun e w'=>e=.returned (.int .i64 0)/\∃vs,bQ w s w' { s with af:=vs }/\CG s.af vs iu k t y:=by
 have hA:=qO s t k v w h ha hl hk;have hm:v∈s.af:=by rw[<-hv];exact gY hi
 obtain⟨dc,bc,kc,hvA,hdat,_⟩:=(h.af v hm).ex;have hd:=(h.af v hm).data;have e1:w.cell? ⟨v.vb,1,none⟩=some (.string ⟨#[]⟩):=by rw[<-hof];exact hvA.cell? 1
 have e2:w.cell? ⟨v.vb,2,none⟩=some (.slice (some ⟨v.dg,0,none⟩) v.data.length dc):=hvA.cell? 2;have ek:=hdat.cell k hk;have hyq:(v.data[k]!.toList == y.toList)=false:=by rw[bytes_beq];exact decide_eq_false hy
 generalize v.data[k]! = z at *;have l1:(k:Int)<(v.data.length:Int):=by omega
 have hnot:=zM;have hfew:=h.few;have H0:Hid (bQ w s w { s with af:=s.af }):=bQ.still h hnd (Same.refl _ _);clear hvA hdat
 go_enter func51,ntmps51
 go_wp2_with (first|(go_at_call 91;refine hA.mono ?_;rintro e wz ⟨rfl,rfl⟩))
 clear e1 e2 ek hA h
 go_loopw [12] (fun i wr=>∃j:Nat,∃vs:List ay,j<=s.af.length/\i=.int .i64 j/\Hid (jV s.af vs t k j)/\Hid (bQ wz s wr { s with af:=vs })) (fun i _=>s.af.length-(intOf i).toNat)
 case atStart=>exact⟨0,s.af,Nat.zero_le _,rfl,jV.start _ _ _,H0⟩
 case round=>
  obtain⟨j,vs,hj,rfl,HK,HR⟩:=hrel;have hlen:vs.length=s.af.length:=HK.out.len;have Y2:iu<vs.length:=by omega
  have hsu:oJ v (vs[iu]!):=by have:=HK.out.same iu hi;rw[hv]at this;exact this
  have hmu:=gY Y2;obtain⟨cap1,hp1,q1,q2⟩:=HR.out.ref.pool;have c1:wr.cell? ⟨s.rb,1,none⟩=some (.slice (s.lg.map fun b=>⟨b,0,none⟩) s.af.length cap1):=by
   have:=hp1.cell? 1;rw[show(aQ.af { s with af:=vs }).length=s.af.length from hlen]at this;exact this
  obtain⟨dc1,bc1,kc1,a1,a2,_⟩:=(HR.out.ref.af _ hmu).ex;have f1:wr.cell? ⟨v.vb,1,none⟩=some (.string ⟨#[]⟩):=by rw[<-hsu.vb,<-hof,<-hsu.bC];exact a1.cell? 1
  by_cases hjl:j<s.af.length
  ·have hjv:j<vs.length:=by omega
   have hxe:vs[j]! = s.af[j]!:=HK.out.rest j (Nat.le_refl _) hjl;obtain⟨b,hb,g1,hmx⟩:=HR.out.ref.cell j hjv;have hb':(s.lg.map fun b=>(⟨b,0,none⟩:Addr))=some ⟨b,0,none⟩:=by have:s.lg=some b:=hb;rw[this];rfl
   rw[hb']at c1;have g1':wr.cell? ⟨b,j,none⟩=some (.pointer (some ⟨(vs[j]!).vb,0,none⟩)):=g1;obtain⟨x1,_,x5⟩:=HR.out.ref.cells hmx;have HX1:Hid (vs[j]! = s.af[j]!):=hxe;have x1':wr.cell? ⟨(vs[j]!).vb,1,none⟩=some (.string (vs[j]!).bC):=x1;have x5':wr.cell? ⟨(vs[j]!).vb,5,none⟩=some (.bool (vs[j]!).lost):=x5;have HS:Hid (jV s.af vs t k j->(¬((vs[j]!).bC=t/\(vs[j]!).lost=false))->jV s.af vs t k (j+1)):=fun q hn=>q.skip fun _=>by rw[<-hxe];exact hn
   have HT:Hid (∀v1,oJ (vs[j]!) v1->(v1.kept,v1.lost)=lW k (vs[j]!)->((vs[j]!).bC=t/\(vs[j]!).lost=false)->jV s.af (vs.set j v1) t k (j+1)):=fun v1 q1 q2 q3=>HK.out.step hjl v1 (by rw[<-hxe];exact q1) (by rw[<-hxe];exact q2) (by rw[<-hxe];exact q3)
   have HC:Hid ((vs[j]!).lost=false->Calls prog 92 #[.pointer (some ⟨(vs[j]!).vb,0,none⟩),.int .i64 k] wr fun e w'=>∃v1,e=.returned (.bool (!v1.lost))/\bQ wr { s with af:=vs } w' { s with af:=vs.set j v1 }/\oJ (vs[j]!) v1/\(v1.kept,v1.lost)=lW k (vs[j]!)):=fun q=>Cc { s with af:=vs } j k (vs[j]!) wr HR.out.ref HR.out.nodup hjv rfl q
   generalize vs[j]! = x at *;have l3:(j:Int)<(s.af.length:Int):=by omega
   clear a1 a2 hp1 x1 x5 g1 hmx hb' hb hxe;by_cases OZ:x.bC=t
   ·have hq1:(x.bC.toList == t.toList)=true:=by rw[OZ];simp
    have HO:Hid (x.bC=t):=OZ;clear OZ;cases hlo:x.lost with
    | false=>
     rw[hlo]at x5';have hC:=HC.out hlo;have HL:Hid (x.lost=false):=hlo;clear HC hlo
     go_wp2_with (go_at_call 92;refine hC.mono ?_;rintro e w1 ⟨v1,rfl,hR1,hs1,hk1⟩)
     go_roundw
     case rel=>exact⟨j+1,vs.set j v1,by omega,by go_num,HT.out v1 hs1 hk1 ⟨HO.out,HL.out⟩,HR.out.trans hR1⟩
     case measure=>simp[intOf];omega
    | true=>
     rw[hlo]at x5';have HL:Hid (x.lost=true):=hlo;clear HC hlo HT
     go_wp2
     go_roundw
     case rel=>exact⟨j+1,vs,by omega,by go_num,HS.out HK.out (fun q=>by have:=q.2;rw[HL.out]at this;cases this),HR.out⟩
     case measure=>simp[intOf];omega
   ·have hq1:(x.bC.toList == t.toList)=false:=by rw[bytes_beq];exact decide_eq_false OZ
    have HO:Hid (¬x.bC=t):=OZ;clear OZ HC HT
    go_wp2
    go_roundw
    case rel=>exact⟨j+1,vs,by omega,by go_num,HS.out HK.out (fun q=>HO.out q.1),HR.out⟩
    case measure=>simp[intOf];omega
  ·have ej:j=s.af.length:=by omega
   subst ej;have hku:k<(vs[iu]!).data.length:=by rw[hsu.data];exact hk
   have hD:=KQ HR.out.ref HR.out.nodup Y2 rfl hku y;have HF:Hid (bQ wz s (wr.setCell ⟨v.dg,k,none⟩ (.string y)) { s with af:=vs.set iu { (vs[iu]!) with data:=(vs[iu]!).data.set k y } }):=by
    show bQ _ _ _ _;have e:wr.setCell ⟨v.dg,k,none⟩ (.string y)=wr.setCell ⟨(vs[iu]!).dg,k,none⟩ (.string y):=by rw[hsu.dg]
    rw[e];exact HR.out.trans hD
   have HW:Hid (CG s.af (vs.set iu { (vs[iu]!) with data:=(vs[iu]!).data.set k y }) iu k t y):=HK.out.done hi;have f2:wr.cell? ⟨v.vb,2,none⟩=some (.slice (some ⟨v.dg,0,none⟩) v.data.length dc1):=by rw[<-hsu.vb,<-hsu.dg,<-hsu.data];exact a1.cell? 2
   obtain⟨tcs,tA,_⟩:=a2.ex;have f3:wr.cell? ⟨v.dg,k,none⟩=some (.string (vs[iu]!).data[k]!):=by rw[<-hsu.dg];exact a2.cell k hku
   have f4:wr.frozen? ⟨v.dg,k,none⟩=false:=by rw[<-hsu.dg];exact tA.frozen k
   generalize (vs[iu]!).data[k]! = z1 at *;clear hD a1 a2 tA hp1 q1 q2 hmu HK HR hku hsu
   go_wp2
   go_ret
   exact⟨rfl,_,HF.out,HW.out⟩
theorem Ir{α:Type}[Inhabited α](l:List α)(k q:Nat)(y:α)(hq:q<l.length):(l.set k y)[q]! = if q=k then y else l[q]!:=by
 rw[getElem!_pos _ q (by simpa using hq),List.getElem_set];by_cases h:k=q
 ·subst h;simp
 ·rw[if_neg h,if_neg (fun e=>h e.symm),getElem!_pos l q hq]
theorem DN{w w':World}{s s1:St}{r:aQ}{fr:List Nat}{k iu:Nat}{u:aF}{b:aN}{rv:List ay}(h:Rel s r)(hP:ai w s)(hG:Good s fr)(hiu:iu<s.af.length)(hu:s.af[iu]! = u)(hu0:u.org=none)(hk:k<u.xs.length)(hbo:b.ok)
 (hK:Kept s s1 k (fun v=>v.org=some u.vb)) (h':ai w' { s1 with bl:=s1.bl.set u.xs[k]! b }) (hG':Good { s1 with bl:=s1.bl.set u.xs[k]! b } fr) (hn:s1.n=s.n)
 (hrv:CG r.af rv iu k u.name b.text):Rel { s1 with bl:=s1.bl.set u.xs[k]! b } { r with af:=rv }:=by
 have hb:=hK.base.bl (s1.bl.set u.xs[k]! b);have hl:=h.len;refine⟨h.n.trans hn.symm,by rw[hrv.len,hl];exact hK.base.len.symm,fun j hj=>?_⟩;have hj':j<s.af.length:=by have:j<s1.af.length:=hj;rw[hK.base.len]at this;exact this
 have hjr:j<r.af.length:=by omega
 have hm:=get_mem hj';have hr:=h.each j hj';obtain⟨s1',s2',s3',s4'⟩:=hb.same j hj';obtain⟨c1,c2,c3⟩:=hrv.same j hjr;have cd:=hrv.data j hjr;have ck:=hrv.kept j hjr;obtain⟨jo,hjo,e1,e2⟩:=hb.aB hP h' j hj';have hsz:=hb.size hP h' j hj';have hon:(St.aB { s1 with bl:=s1.bl.set u.xs[k]! b } (s1.af[j]!)).name=(s.aB (s.af[j]!)).name:=by
  show(St.aB _ (St.af { s1 with bl:=s1.bl.set u.xs[k]! b })[j]!).name=_;rw[e1,e2];exact(hb.same jo hjo).2.1
 have hpc:(s.af[j]!).org=some u.vb↔(r.af[j]!).bC=u.name:=by
  rw[hr.bC];obtain⟨o1,o2,o3,o4⟩:=hP.aB hm;by_cases ho:(s.af[j]!).org=none
  ·rw[if_pos ho,ho];refine⟨fun e=>by simp at e,fun e=>absurd e.symm (pz hG (by rw[<-hu];exact get_mem hiu))⟩
  ·rw[if_neg ho,o4 ho]
   constructor
   ·intro e;have:(s.aB (s.af[j]!)).vb=u.vb:=by simpa using e
    rw[hP.mF o1 (by rw[<-hu];exact get_mem hiu) this]
   ·intro e;obtain⟨a,ha,ea⟩:=dO o1;by_cases hai:a=iu
    ·rw[<-ea,hai,hu]
    ·exact absurd (by rw[ea,hu];exact e) (jP hP ha hiu hai)
 have hkl:((s1.af[j]!).kept,(s1.af[j]!).lost)=((rv[j]!).kept,(rv[j]!).lost):=by
  rw[ck];by_cases hp:(s.af[j]!).org=some u.vb
  ·rw[hK.did j hj' hp];unfold lN lW;rw[hr.kept,hr.lost,hr.blocks];by_cases hlo:(s.af[j]!).lost=true
   ·rw[if_pos (Or.inr hlo),if_neg (fun e=>by have:=e.2;rw[hlo]at this;cases this)]
   ·have Y3:(s.af[j]!).lost=false:=by simpa using hlo
    rw[if_pos (⟨hpc.1 hp,Y3⟩:(r.af[j]!).bC=u.name/\_)];by_cases hkk:k∈(s.af[j]!).kept
    ·rw[if_pos (Or.inl hkk),if_pos hkk]
    ·rw[if_neg (fun e=>e.elim hkk (fun q=>by rw[Y3]at q;cases q)),if_neg hkk]
  ·obtain⟨k1,k2⟩:=hK.rest j hj' hp;rw[if_neg (fun e=>hp (hpc.2 e.1)),k1,k2,hr.kept,hr.lost]
 have hk1:=congrArg Prod.fst hkl;have hk2:=congrArg Prod.snd hkl;simp only at hk1 hk2;have hlk:(s1.af[j]!).lost=false->∀q,q<s.size (s.af[j]!)->St.look { s1 with bl:=s1.bl.set u.xs[k]! b } (s1.af[j]!) q=if j=iu/\q=k then b else s.look (s.af[j]!) q:=fun hlo q hq=>RY hP hiu hu hu0 hk hK h' hG' j hj' hlo q hq
 have hold:(s1.af[j]!).lost=false->(s.af[j]!).lost=false:=fun hlo=>by
  cases hc:(s.af[j]!).lost with
  | false=>rfl
  | true=>have:=hb.lost j hj' hc;rw[show(St.af { s1 with bl:=s1.bl.set u.xs[k]! b })[j]! = s1.af[j]! from rfl,hlo]at this;cases this
 have hsz':St.size { s1 with bl:=s1.bl.set u.xs[k]! b } (s1.af[j]!)=s.size (s.af[j]!):=hsz;have s4:(s1.af[j]!).org=(s.af[j]!).org:=s4';have s2:(s1.af[j]!).name=(s.af[j]!).name:=s2';have s3:(s1.af[j]!).xs=(s.af[j]!).xs:=s3';show jq _ (s1.af[j]!) (rv[j]!);refine⟨by rw[c1,hr.name,s2],?_,?_,by rw[c3,hr.blocks,s3],hk1.symm,hk2.symm,fun hlo q hq=>?_,fun hlo q hq=>?_⟩
 ·rw[c2,hr.bC,s4,hon]
 ·rw[cd,hsz'];split
  ·rw[List.length_set];exact hr.size
  ·exact hr.size
 ·rw[hsz']at hq;rw[hlk hlo q hq]
  split
  ·exact hbo
  ·exact hr.ok (hold hlo) q hq
 ·rw[hsz']at hq;rw[hlk hlo q hq,cd];by_cases hji:j=iu
  ·rw[if_pos hji];rw[Ir _ _ _ _ (by rw[hr.size];exact hq)];by_cases hqk:q=k
   ·rw[if_pos hqk,if_pos ⟨hji,hqk⟩]
   ·rw[if_neg hqk,if_neg (fun e=>hqk e.2)];exact hr.data (hold hlo) q hq
  ·rw[if_neg hji,if_neg (fun e=>hji e.1)];exact hr.data (hold hlo) q hq
theorem pR{w w':World}{s s':St}{r:aQ}{i:Nat}{v':aF}{x':ay}(h:Rel s r)(hP:ai w s)(h':ai w' s')(hi:i<s.af.length)(hb:Base s s')(hn:s'.n=s.n)
 (hv:∀j,j<s.af.length->s'.af[j]! = if j=i then v' else s.af[j]!)
 (hlook:∀j,j<s.af.length->j≠i->(s.af[j]!).lost=false->∀q,q<s.size (s.af[j]!)->s'.look (s'.af[j]!) q=s.look (s.af[j]!) q)
 (h1:x'.name=(r.af[i]!).name) (h2:x'.bC=(r.af[i]!).bC) (h3:x'.data.length=(r.af[i]!).data.length) (h4:x'.blocks=(r.af[i]!).blocks) (h5:x'.kept=v'.kept) (h6:x'.lost=v'.lost)
 (h7:v'.lost=false->∀q,q<s.size (s.af[i]!)->(s'.look v' q).ok/\x'.data[q]! = (s'.look v' q).text):Rel s' { r with af:=r.af.set i x' }:=by
 have hl:=h.len;refine⟨h.n.trans hn.symm,by rw[List.length_set,hl];exact hb.len.symm,fun j hj=>?_⟩;have hj':j<s.af.length:=by rw[hb.len]at hj;exact hj
 have hr:=h.each j hj';obtain⟨s1,s2,s3,s4⟩:=hb.same j hj';obtain⟨jo,hjo,e1,e2⟩:=hb.aB hP h' j hj';have hsz:=hb.size hP h' j hj';have hon:(s'.aB (s'.af[j]!)).name=(s.aB (s.af[j]!)).name:=by rw[e1,e2];exact(hb.same jo hjo).2.1
 show jq s' (s'.af[j]!) ((r.af.set i x')[j]!);rw[vT _ _ _ _ (by omega) (by omega)];by_cases hji:j=i
 ·subst hji;have ev:s'.af[j]! = v':=by rw[hv j hj',if_pos rfl]
  rw[if_pos rfl];refine⟨by rw[h1,hr.name,s2],by rw[h2,hr.bC,s4,hon],by rw[h3,hr.size,hsz],by rw[h4,hr.blocks,s3],by rw[h5,ev],by rw[h6,ev],fun hlo q hq=>?_,fun hlo q hq=>?_⟩
  ·rw[hsz]at hq;rw[ev]at hlo ⊢;exact(h7 hlo q hq).1
  ·rw[hsz]at hq;rw[ev]at hlo ⊢;exact(h7 hlo q hq).2
 ·rw[if_neg hji];have ev:s'.af[j]! = s.af[j]!:=by rw[hv j hj',if_neg hji]
  refine hr.congr s2 (by rw[s4]) hon hsz s3 (by rw[ev]) (by rw[ev]) fun hlo q hq=>?_
  rw[ev]at hlo;exact hlook j hj' hji hlo q hq
theorem YR{l:List aF}{a b:aF}(ha:a∈l)(hb:b∈l)(h:a≠b):2<=l.length:=by
 match l,ha,hb with
 | [x],ha,hb=>
  simp at ha hb;exact absurd (ha.trans hb.symm) h
 | x::y::r,_,_=>simp
theorem Nc{w w':World}{s s':St}{r:aQ}{fr:List Nat}{i iu:Nat}{u v:aF}(h:Rel s r)(hP:ai w s)(hG:Good s fr)(h':ai w' s')(hi:i<s.af.length)(hvi:s.af[i]! = v)(hiu:iu<s.af.length)(hu:s.af[iu]! = u)(ho:v.org=some u.vb)(hl:v.lost=false)(hone:(s.aY u.vb).length<=1)
 (hv:s'.af=aZ i s.af) (hbl:s'.bl=bM v.xs (jI u v s.bl v.kept.length)) (dg:Nat) (j:Nat) (hj:j<s.af.length) (hne:j≠i):jq s' (s.af[j]!) ((r.af.set iu { (r.af[iu]!) with dg:=dg,data:=(r.af[i]!).data })[j]!):=by
 have hlr:=h.len;have hvm:v∈s.af:=by rw[<-hvi];exact get_mem hi
 have hum:u∈s.af:=by rw[<-hu];exact get_mem hiu
 have hou:s.aB v=u:=by
  have:=(hP.aB hvm).2.2.2 (by rw[ho];simp);rw[ho]at this;exact hP.mF (hP.aB hvm).1 hum (by simpa using this.symm)
 have hu0:u.org=none:=by rw[<-hou];exact(hP.aB hvm).2.1
 have hii:i≠iu:=fun e=>by
  rw[e,hu]at hvi;rw[<-hvi,hu0]at ho;cases ho
 have hpk:=(hG.dN v hvm).2.2 u hum ho;have Y4:∀x∈v.xs,x∉u.xs:=fun x hx=>by rw[<-hvi]at hx;rw[<-hu];exact hG.dP hi hiu hii hx
 have hlt:∀z∈s.af,∀x∈z.xs,x<s.bl.length:=fun z hz x hx=>by rw[hP.disk.len];exact hG.lt.2 z hz x hx
 rw[vT _ _ _ _ (by omega) (by omega)];by_cases hji:j=iu
 ·subst hji;rw[if_pos rfl,hu];have hru:=h.each j hj;have hrv:=h.each i hi;rw[hu]at hru;rw[hvi]at hrv;have e0:s.aB u=u:=(hP.aB hum).2.2.1 hu0;have e1:s'.aB u=u:=by unfold St.aB;rw[hu0]
  have hsz:s'.size u=u.xs.length:=by unfold St.size;rw[e1]
  have XA:s.size v=u.xs.length:=by unfold St.size;rw[hou]
  have hkn:=(hP.af u hum).fE hu0;have hlook:∀q,q<u.xs.length->s'.look u q=s.look v q:=fun q hq=>by
   have hmq:u.xs[q]!∈u.xs:=aK hq;unfold St.look St.holder;rw[e1,hkn,if_neg (by simp),hou,hbl];rw[fK _ _ _ (by rw[kF];exact hlt u hum _ hmq),if_neg (fun hm=>Y4 _ hm hmq)];rw[OC u v s.bl hpk.1 (hG.dN v hvm).1 (hG.oq hum) (hP.af v hvm).room Y4 (hlt u hum) (hlt v hvm) q hq _ (Nat.le_refl _),List.take_length]
   split<;>rfl
  refine⟨hru.name,by show(r.af[j]!).bC=_;rw[hru.bC,if_pos hu0,if_pos hu0],?_,hru.blocks,hru.kept,hru.lost,fun _ q hq=>?_,fun _ q hq=>?_⟩
  ·show(r.af[i]!).data.length=_;rw[hrv.size,XA,hsz]
  ·rw[hlook q (by omega)];exact hrv.ok hl q (by omega)
  ·rw[hlook q (by omega)];exact hrv.data hl q (by omega)
 ·rw[if_neg hji];have hm:=get_mem hj;obtain⟨o1,o2,o3,o4⟩:=hP.aB hm;obtain⟨jo,hjo,ejo⟩:=dO o1;have Y5:jo≠i:=fun e=>by
   have:s.aB (s.af[j]!)=v:=by rw[<-ejo,e,hvi]
   rw[this,ho]at o2;cases o2
  have aaz:jo≠iu:=fun e=>by
   have eo:s.aB (s.af[j]!)=u:=by rw[<-ejo,e,hu]
   by_cases hq:(s.af[j]!).org=none
   ·rw[o3 hq]at eo;exact jP hP hj hiu hji (by rw[eo,hu])
   ·have e4:=o4 hq;rw[eo]at e4;have h1:s.af[j]!∈s.aY u.vb:=lG.2 ⟨hm,e4⟩;have h2:v∈s.aY u.vb:=lG.2 ⟨hvm,ho⟩;have:=YR h1 h2 (fun e=>jP hP hj hi hne (by rw[e,hvi]));omega
  have hout:∀a,a<s.af.length->a≠i->a≠iu->∀x∈(s.af[a]!).xs,s'.bl[x]! = s.bl[x]!:=fun a ha ha1 ha2 x hx=>by
   have hxl:=hlt _ (get_mem ha) x hx;rw[hbl,fK _ _ _ (by rw[kF];exact hxl),if_neg (by rw[<-hvi];exact hG.dP ha hi ha1 hx)];exact wu u v s.bl hpk.1 x (by rw[<-hu];exact hG.dP ha hiu ha2 hx) hxl _ (Nat.le_refl _)
  refine(h.each j hj).keep hP h' hm (fun _=>?_) fun _ q hq=>?_
  ·rw[hv,<-ejo];exact GY hP hi hjo Y5
  ·rcases yC hP hm hq with e|e
   ·exact hout j hj hne hji _ e
   ·rw[<-ejo]at e;exact hout jo hjo Y5 aaz _ e
end
section
open Go.RowKit Go.Sort
variable [DecidableEq aN] [Inhabited aN] [Inhabited aF]
theorem L8(s:St)(t:ByteArray)(k:Int)(w:World)(h:ai w s)(hi:s.has t=false) :
 Calls prog 53 #[.pointer (some ⟨s.pb,0,none⟩),.string t,.int .i64 k] w fun e w'=>e=.returned (.int .i64 4)/\w'=w:=by
 have hf:=qf s t w h hi;clear h
 go_enter func53,ntmps53
 go_wp2_with (go_at_call 77;refine hf.mono ?_;rintro e w' ⟨rfl,rfl⟩)
 go_ret
 exact⟨rfl,rfl⟩
theorem BF(s:St)(t:ByteArray)(k:Int)(w:World)(h:ai w s)(hi:s.has t=true)(ho:(s.aA t).org≠none) :
 Calls prog 53 #[.pointer (some ⟨s.pb,0,none⟩),.string t,.int .i64 k] w fun e w'=>e=.returned (.int .i64 7)/\w'=w:=by
 have hf:=dM s t w h hi;have hI:=aJ (s.aA t) w (h.af _ (St.aT hi).1);have ho':(s.aA t).org.isSome=true:=by cases hq:(s.aA t).org<;>simp_all
 rw[ho']at hI;clear h
 go_enter func53,ntmps53
 go_wp2_with (first|(go_at_call 77;refine hf.mono ?_;rintro e w' ⟨rfl,rfl⟩)|(go_at_call 88;refine hI.mono ?_;rintro e w' ⟨rfl,rfl⟩))
 go_ret
 exact⟨rfl,rfl⟩
theorem KG(s:St)(t:ByteArray)(k:Int)(w:World)(h:ai w s)(hi:s.has t=true)(ho:(s.aA t).org=none)(hb:s.aY (s.aA t).vb≠[]) :
 Calls prog 53 #[.pointer (some ⟨s.pb,0,none⟩),.string t,.int .i64 k] w fun e w'=>e=.returned (.int .i64 8)/\Same [] w w':=by
 have hf:=dM s t w h hi;have hI:=aJ (s.aA t) w (h.af _ (St.aT hi).1);rw[ho]at hI;have hPc:=bZ s (s.aA t) w h (St.aT hi).1;have hl:0<(s.aY (s.aA t).vb).length:=by cases hq:s.aY (s.aA t).vb<;>simp_all
 have hl2:(s.aY (s.aA t).vb).length<=20:=Nat.le_trans (List.length_filter_le _ _) h.few;clear h
 go_enter func53,ntmps53
 go_wp2_with (first|(go_at_call 77;refine hf.mono ?_;rintro e w' ⟨rfl,rfl⟩)|(go_at_call 88;refine hI.mono ?_;rintro e w' ⟨rfl,rfl⟩)|(go_at_call 93;refine hPc.mono ?_;rintro e wp ⟨sl,rfl,hown,S0⟩;obtain⟨ag,zZ,rfl⟩:=ak hown))
 go_ret
 exact⟨rfl,S0⟩
theorem Oe(s:St)(t:ByteArray)(k:Int)(w:World)(h:ai w s)(hi:s.has t=true)(ho:(s.aA t).org=none)(hb:s.aY (s.aA t).vb=[])(hk:¬(1<=k/\k<=200)) :
 Calls prog 53 #[.pointer (some ⟨s.pb,0,none⟩),.string t,.int .i64 k] w fun e w'=>e=.returned (.int .i64 1)/\Same [] w w':=by
 have hf:=dM s t w h hi;have hI:=aJ (s.aA t) w (h.af _ (St.aT hi).1);rw[ho]at hI;have hPc:=bZ s (s.aA t) w h (St.aT hi).1;rw[hb]at hPc;have hC:=fun W=>eH k W
 rw[decide_eq_false hk]at hC;have hnot:=bP;clear h hk
 go_enter func53,ntmps53
 go_wp2_with (first|(go_at_call 77;refine hf.mono ?_;rintro e w' ⟨rfl,rfl⟩)|(go_at_call 88;refine hI.mono ?_;rintro e w' ⟨rfl,rfl⟩)|(go_at_call 93;refine hPc.mono ?_;rintro e wp ⟨sl,rfl,hown,S0⟩;obtain⟨ag,zZ,rfl⟩:=ak hown)|(go_at_call 42;refine(hC _).mono ?_;rintro e w' ⟨rfl,rfl⟩))
 go_ret
 exact⟨rfl,S0⟩
structure Head(s:St)(t:ByteArray)(w:World):Prop where
 has:s.has t=true
 org:(s.aA t).org=none
 dN:s.aY (s.aA t).vb=[]
theorem Good.room{s:St}{fr:List Nat}(hG:Good s fr){t:ByteArray}(hi:s.has t=true):s.m+(s.aA t).xs.length<=s.n:=by
 obtain⟨hmem,hname,hpos⟩:=St.aT hi;have h1:=hG.parts.length_eq;have h2:=hG.heap.len;have h3:(s.aA t).xs.length<=(s.af.flatMap (·.xs)).length:=by
  have:=(jr (posOf s.names t) s.af hpos).flatMap_right (·.xs);have:=this.length_eq;simp only[List.flatMap_cons,List.length_append]at this;have e:s.af[posOf s.names t]! = s.aA t:=rfl;rw[e]at this;omega
 simp only[List.length_append,List.length_range]at h1;omega
theorem ai.apart{w:World}{s:St}(h:ai w s){v:aF}(hv:v∈s.af):v.gb∉[s.db,s.bb,s.fb]/\v.vb∉[s.db,s.bb,s.fb]/\s.pb≠v.vb/\v.vb≠v.gb:=by
 have key:∀k∈v.foot,k∉[s.db,s.bb,s.fb]/\s.pb≠k:=fun k hk=>by
  have:=(jJ h.nodup).disk v hv k hk;simp only[List.mem_cons,not_or,List.not_mem_nil,not_false_eq_true,and_true]at this ⊢;exact⟨⟨this.2.1,this.2.2.1,this.2.2.2⟩,fun e=>this.1 e.symm⟩
 have hn:=(h.af v hv).nodup;simp only[aF.foot,List.nodup_cons,List.mem_cons,not_or]at hn;exact⟨(key v.gb (by simp[aF.foot])).1,(key v.vb (by simp[aF.foot])).1,(key v.vb (by simp[aF.foot])).2,hn.1.1⟩
theorem Cm{w:World}{s:St}{fr:List Nat}(h:ai w s)(hG:Good s fr){t:ByteArray}(hd:Head s t w)(v:aF)(h1:v.vb=(s.aA t).vb)(h2:v.org=(s.aA t).org)(h3:v.kept=[])(h4:v.lost=false):CO (aC (posOf s.names t) v s.af):=by
 obtain⟨hmem,hname,hpos⟩:=St.aT hd.has;refine CZ h hG.dN (posOf s.names t) hpos v h1 h2 (by rw[h3];exact List.nodup_nil) (fun _=>h3) (fun u hu e=>?_) (fun u hu e=>?_)
 ·rw[h2,hd.org]at e;cases e
 ·have:u∈s.aY (s.aA t).vb:=by simp[St.aY,hu,e,h1]
  rw[hd.dN]at this;simp at this
theorem Om(s:St)(fr:List Nat)(t:ByteArray)(k:Nat)(w:World)(h:ai w s)(hG:Good s fr)(hd:Head s t w)(hk:1<=k/\k<(s.aA t).xs.length) :
 Calls prog 53 #[.pointer (some ⟨s.pb,0,none⟩),.string t,.int .i64 k] w fun e w'=>e=.returned (.int .i64 0) /\
  After w s w' { s with m:=s.m+((s.aA t).xs.drop k).length,bl:=bM ((s.aA t).xs.drop k) s.bl,d:=fP s.m ((s.aA t).xs.drop k) s.d,af:=aC (posOf s.names t) { (s.aA t) with xs:=(s.aA t).xs.take k } s.af } (fZ ((s.aA t).xs.drop k) fr):=by
 have hs0:=(h.af _ (St.aT hd.has).1).small;have hi:=hd.has;have hf:=dM s t w h hi;have hmem:=(St.aT hi).1;have hpos:=(St.aT hi).2.2;have hv:=h.af _ hmem;have hs:=hv.small;obtain⟨cs,hr⟩:=hv.row;have hI:=aJ (s.aA t) w hv;rw[hd.org]at hI;have hPc:=bZ s (s.aA t) w h hmem;rw[hd.dN]at hPc;have hC:=fun W=>eH k W
 rw[decide_eq_true (by omega:(1:Int)<=k/\(k:Int)<=200)]at hC;have hZ:=fun W (hW:Same [] w W)=>kV (s.aA t) W (hv.new hW) hd.org
 have hnot:=bP;obtain⟨cap,hp,_,_⟩:=h.pool;obtain⟨ap1,ap2,ap3,ap4⟩:=h.apart hmem;have hroom:=hG.room hi;have hlt:=hG.lt.2 _ hmem;have SC:=fun W (hW:Same [] w W)=>QO (s.aA t) k W (hv.new hW) hd.org hk.1 hk.2
 have yL:=fun W (hW:Same [(s.aA t).vb] w W) u hu=>nS s.db s.bb s.fb s.n s.m (s.aA t).gb k ((s.aA t).xs.length-k) s.bl s.d ((s.aA t).xs.drop k) (some ⟨(s.aA t).gb,k,none⟩) _ cs W _ u rfl hu
  (h.disk.same hW (by simp at ap2 ⊢;exact fun e=>ap2.1 e.symm) (by simp at ap2 ⊢;exact fun e=>ap2.2.1 e.symm) (by simp at ap2 ⊢;exact fun e=>ap2.2.2 e.symm)) (fun _=>⟨rfl,hW.at hr.at_ (by simp;exact fun e=>ap4 e.symm),ap1⟩)
  (fun j hj=>by
   simp at hj;rw[hr.cell (k+j) (by omega),getElem!_pos _ _ (by omega),getElem!_pos _ j (by simp;omega)];simp) (fun x hx=>hlt x (List.mem_of_mem_drop hx)) (by simp;omega)
 have hpd:∀W,Same [(s.aA t).vb] w W->W.cell? ⟨s.pb,1,none⟩=some (.pointer (some ⟨s.db,0,none⟩)):=fun W hW=>(hW.at hp (by simp[ap3])).cell? 1
 have c1:∀W,Same [] w W->W.cell? ⟨s.pb,1,none⟩=some (.pointer (some ⟨s.db,0,none⟩)):=fun W hW=>(hW.at hp (by simp)).cell? 1
 have H:Hid (ai w s/\Good s fr):=⟨h,hG⟩
 have HD:Hid (Head s t w):=hd;have HC1:Hid (∀W,Same [] w W->W.cell? ⟨s.pb,1,none⟩=some (.pointer (some ⟨s.db,0,none⟩))):=c1;clear h hG hv hr hp c1 hd;have l1:(k:Int)<=((s.aA t).xs.length:Int):=by omega
 go_enter func53,ntmps53
 go_wp2_with (first|(go_at_call 77;refine hf.mono ?_;rintro e w' ⟨rfl,hw⟩;obtain rfl:=hw.symm)|(go_at_call 88;refine hI.mono ?_;rintro e w' ⟨rfl,hw⟩;obtain rfl:=hw.symm)|(go_at_call 93;refine hPc.mono ?_;rintro e wp ⟨sl,rfl,hown,S0⟩;obtain⟨ag,zZ,rfl⟩:=ak hown)|(go_at_call 42;refine(hC _).mono ?_;rintro e w' ⟨rfl,hw⟩;obtain rfl:=hw.symm)|(go_at_call 94;refine(hZ _ (by assumption)).mono ?_;rintro e w' ⟨rfl,hw⟩;obtain rfl:=hw.symm))
 have p0:=HC1.out _ S0
 go_region_with (first|(go_at_call 96;refine(SC _ (S0.drew)).mono ?_;rintro e w2 ⟨rfl,V2,S2⟩;have SS:Same [(s.aA t).vb] w w2:=(S0.drew.mono (T:=[(s.aA t).vb]) (by simp)).step S2 (by simp);have p2:=hpd w2 SS)|(go_at_call 95;refine(yL w2 SS _ (by rw[List.length_drop])).mono ?_;rintro e w3 ⟨rfl,D3,S3⟩))
 all_goals
  obtain⟨h,hG⟩:=H.out;have hf2:∀q∈({ (s.aA t) with xs:=(s.aA t).xs.take k }:aF).foot,q∈(s.af[posOf s.names t]!).foot\/w.heap.size<=q:=fun q hq=>Or.inl hq
  have hP2:=pX h (posOf s.names t) hpos { (s.aA t) with xs:=(s.aA t).xs.take k } rfl rfl rfl hf2 V2 (SS.mono (by intro q hq _;simp at hq;rw[hq];exact List.mem_cons_self));have hP3:=hP2.jO S3 (by intro q hq;simp at hq;rcases hq with e|e|e<;>simp[e]) D3;have hG3:=Good.cut h hG h.disk.len h.disk.size (posOf s.names t) hpos k { (s.aA t) with xs:=(s.aA t).xs.take k } rfl rfl (Cm h hG HD.out _ rfl rfl ((h.af _ hmem).fE HD.out.org) ((h.af _ hmem).plain HD.out.org).2);have hvf:(s.aA t).vb∈s.foot:=s.bH hmem (by simp[aF.foot]);have jT:After w s w3 { s with m:=s.m+((s.aA t).xs.drop k).length,bl:=bM ((s.aA t).xs.drop k) s.bl,d:=fP s.m ((s.aA t).xs.drop k) s.d,af:=aC (posOf s.names t) { (s.aA t) with xs:=(s.aA t).xs.take k } s.af } (fZ ((s.aA t).xs.drop k) fr):=
   ⟨hP3,hG3,(SS.mono (T:=s.foot) (by simp;exact fun _=>hvf)).step S3 (by simp[St.foot]),wP (s:=s) hpos hf2,rfl,rfl⟩
  clear hP3 hG3 hP2 V2 D3 S3 S2 SS h hG yL SC hpd hf2;rw[List.length_drop]at jT
  go_wp2
  go_ret
  exact⟨rfl,jT⟩
theorem LJ(s:St)(fr:List Nat)(t:ByteArray)(k:Nat)(w:World)(h:ai w s)(hG:Good s fr)(hd:Head s t w)(hk:(s.aA t).xs.length<k/\k<=200)(hf':k-(s.aA t).xs.length<=fr.length) :
 Calls prog 53 #[.pointer (some ⟨s.pb,0,none⟩),.string t,.int .i64 k] w fun e w'=>e=.returned (.int .i64 0)/\∃g,
  After w s w' { s with m:=s.m-(k-(s.aA t).xs.length),d:=eY s.m (k-(s.aA t).xs.length) s.d,af:=aC (posOf s.names t) { (s.aA t) with gb:=g,xs:=(s.aA t).xs++fr.take (k-(s.aA t).xs.length) } s.af } (fr.drop (k-(s.aA t).xs.length)):=by
 have hi:=hd.has;have hf:=dM s t w h hi;have hmem:=(St.aT hi).1;have hpos:=(St.aT hi).2.2;have hv:=h.af _ hmem;have hs:=hv.small;obtain⟨cs,hr⟩:=hv.row;have hI:=aJ (s.aA t) w hv;rw[hd.org]at hI;have hPc:=bZ s (s.aA t) w h hmem;rw[hd.dN]at hPc;have hC:=fun W=>eH k W
 rw[decide_eq_true (by omega:(1:Int)<=k/\(k:Int)<=200)]at hC;have hZ:=fun W (hW:Same [] w W)=>kV (s.aA t) W (hv.new hW) hd.org
 have hnot:=bP;obtain⟨cap,hp,_,_⟩:=h.pool;have hml:=hG.heap.len;have hT:=fun W (hW:Same [] w W) v (hv:v=((k-(s.aA t).xs.length:Nat):Int))=>nU s.db s.bb s.fb s.n s.m (k-(s.aA t).xs.length) s.bl s.d fr W _ v rfl hv (by omega) (h.disk.same hW (by simp) (by simp) (by simp)) hG.all hG.lt.1
 have HC1:Hid (∀W,Same [] w W->W.cell? ⟨s.pb,1,none⟩=some (.pointer (some ⟨s.db,0,none⟩))):=fun W hW=>(hW.at hp (by simp)).cell? 1
 have H:Hid (ai w s/\Good s fr):=⟨h,hG⟩
 have HD:Hid (Head s t w):=hd;clear h hG hv hr hp hd;have l1:((s.aA t).xs.length:Int)<(k:Int):=by omega
 generalize hL:(s.aA t).xs.length=L at *;have HL:Hid ((s.aA t).xs.length=L):=hL;clear hL;have hsub:IntKind.i64.wrap ((k:Int)-(L:Int))=(k:Int)-(L:Int):=IntWalk.i64_in _ (by omega)
 go_enter func53,ntmps53
 go_wp2_with (first|(go_at_call 77;refine hf.mono ?_;rintro e w' ⟨rfl,hw⟩;obtain rfl:=hw.symm)|(go_at_call 88;refine hI.mono ?_;rintro e w' ⟨rfl,hw⟩;obtain rfl:=hw.symm)|(go_at_call 93;refine hPc.mono ?_;rintro e wp ⟨sl,rfl,hown,S0⟩;obtain⟨ag,zZ,rfl⟩:=ak hown)|(go_at_call 42;refine(hC _).mono ?_;rintro e w' ⟨rfl,hw⟩;obtain rfl:=hw.symm)|(go_at_call 94;refine(hZ _ (by assumption)).mono ?_;rintro e w' ⟨rfl,hw⟩;obtain rfl:=hw.symm))
 have p0:=HC1.out _ S0
 go_region_with (first|(go_at_call 94;refine(hZ _ (S0.drew)).mono ?_;rintro e w2 ⟨rfl,rfl⟩)|(go_at_call 97;refine(hT _ (S0.drew) _ (by omega)).mono ?_;rintro e w3 (⟨_,v',rfl,D3,O3,S3⟩|⟨hbad,_⟩);rotate_left;(omega);obtain⟨a3,cap3,rfl⟩:=ak O3))
 all_goals
  obtain⟨h,hG⟩:=H.out;have hv:=h.af _ hmem;have hS3:Same [s.db,s.fb] w w3:=(S0.drew.mono (T:=[s.db,s.fb]) (by simp)).step S3 (by simp);have zX:=(hG.heap.pops (k-L) (by omega)).1;rw[zX,List.map_map]at O3;have zY:(fr.take (k-L)).length=k-L:=by simp;omega
  have Y6:fr.take (k-L)≠[]:=by intro e;rw[e]at zY;simp at zY;omega
  obtain⟨mb,ms,rfl,hmb,hR,hle⟩:=oV (xs:=fr.take (k-L)) O3 zY.symm Y6;have hP3:=h.jO (bl':=s.bl) hS3 (by intro q hq;simp at hq;rcases hq with e|e<;>simp[e]) D3;have hv3:=hP3.af _ hmem;have hE:=Hy (s.aA t) mb cap3 (fr.take (k-L)) ms w3 hv3 HD.out.org hR Y6 (by rw[zY,HL.out];omega);rw[zY]at hE;have hG3:=hG.grow (posOf s.names t) hpos (k-L) hf';have hsz3:=hS3.size;have HFin:Hid (∀(w4:World)(g:Nat),w3.heap.size<=g->dG w4 { (s.aA t) with gb:=g,xs:=(s.aA t).xs++fr.take (k-L) }->Same [(s.aA t).vb] w3 w4->After w s w4 { s with m:=s.m-(k-L),d:=eY s.m (k-L) s.d,af:=aC (posOf s.names t) { (s.aA t) with gb:=g,xs:=(s.aA t).xs++fr.take (k-L) } s.af } (fr.drop (k-L))):=by
   intro w4 g hg hV4 hS4;have hkg:=(hv.plain HD.out.org).1;have hft:∀B,B<=w3.heap.size->∀q∈({ (s.aA t) with gb:=g,xs:=(s.aA t).xs++fr.take (k-L) }:aF).foot,q∈(s.af[posOf s.names t]!).foot\/B<=q:=by
    intro B hB q hq;simp only[aF.foot,hkg,Option.toList_none,List.mem_cons,List.not_mem_nil,or_false]at hq;rcases hq with e|e
    ·left;rw[e];exact List.mem_cons_self
    ·right;omega
   have hP4:=pX hP3 (posOf s.names t) hpos { (s.aA t) with gb:=g,xs:=(s.aA t).xs++fr.take (k-L) } rfl rfl rfl (hft _ (Nat.le_refl _)) hV4 (hS4.mono (by intro q hq _;simp at hq;rw[hq];exact List.mem_cons_self));have hvf:(s.aA t).vb∈s.foot:=s.bH hmem (by simp[aF.foot]);exact⟨hP4,hG3 _ rfl rfl (Cm h hG HD.out _ rfl rfl (hv.fE HD.out.org) (hv.plain HD.out.org).2),(hS3.mono (T:=s.foot) (by simp[St.foot])).step hS4 (by simp;exact fun _=>hvf),wP (s:=s) hpos (hft _ (by omega)),rfl,rfl⟩
  clear hG3 hP3 hv3 hR O3 D3 S3 h hG hv hT hZ zX
  go_wp2_with (go_at_call 98;refine hE.mono ?_;rintro e w4 ⟨rfl,g,hg,hV4,hS4⟩)
  have hF:=HFin.out w4 g hg hV4 hS4;clear HFin hV4 hS4 hE
  go_ret
  exact⟨rfl,g,hF⟩
theorem xk(s:St)(fr:List Nat)(iu:Nat)(u:aF)(k:Nat)(b:aN)(w:World)(bv:Value)(hbv:bv=b.val)(h:ai w s)(hG:Good s fr)(hiu:iu<s.af.length)(hu:s.af[iu]! = u)(hu0:u.org=none)(hk:k<u.xs.length) :
 Calls prog 90 #[.pointer (some ⟨s.pb,0,none⟩),.pointer (some ⟨u.vb,0,none⟩),.int .i64 k,bv] w fun e w'=>e=.returned (.tuple #[]) /\
  ∃s1,Kept s s1 k (fun v=>v.org=some u.vb)/\After w s w' { s1 with bl:=s1.bl.set u.xs[k]! b } fr/\(s.aY u.vb=[]->s1=s):=by
 subst hbv;obtain⟨x0,x1,x2,x3,x4,x5,x6,x7⟩:=b;have hmem:u∈s.af:=by rw[<-hu];exact get_mem hiu
 have hH:=fun W (hW:Same [] w W)=>qG u k W ((h.new hW).af u hmem) hu0 hk
 have hP:=fun W (hW:Same [] w W)=>bZ s u W (h.new hW) hmem
 generalize hyy:u.xs[k]! = yy at *;have HYY:Hid (u.xs[k]! = yy):=hyy;clear hyy;unfold aN.val
 go_enter func90,ntmps90
 go_wp2_with (first|(go_at_call 87;refine(hH _ ((Same.refl _ _).alloc _)).mono ?_;rintro e w' ⟨rfl,rfl⟩)|(go_at_call 93;refine(hP _ ((Same.refl _ _).alloc _)).mono ?_;rintro e w1 ⟨sl,rfl,hown,S1⟩;obtain⟨ag,zZ,rfl⟩:=ak hown))
 have hown0:=hown;have Bw:At w1 w.heap.size 91 [.int .u8 x0,.int .u8 x1,.int .u8 x2,.int .u8 x3,.int .u8 x4,.int .u8 x5,.int .u8 x6,.int .u8 x7]:=S1.at (At.new w _ _) (by simp);have S01:Same [] w w1:=((Same.refl _ _).alloc _).step S1 (by simp);have hP1:=h.new S01;have hA1:After w1 s w1 s fr:=⟨hP1,hG,Same.refl _ _,fun k hk=>Or.inl hk,rfl,rfl⟩
 have Y7:=h.bn;have hbase:∀q∈s.foot,q<(w.alloc (Obj.cells #[.int .u8 x0,.int .u8 x1,.int .u8 x2,.int .u8 x3,.int .u8 x4,.int .u8 x5,.int .u8 x6,.int .u8 x7] 91)).heap.size:=fun q hq=>by have:=Y7 q hq;simp;omega
 have hnb:w.heap.size∉s.foot:=fun hm=>by have:=Y7 _ hm;omega
 have hyx:yy∈u.xs:=by rw[<-HYY.out];exact aK hk
 have hpl:(s.aY u.vb).length<=20:=Nat.le_trans (List.length_filter_le _ _) h.few;have HH:Hid (ai w s/\Good s fr/\yy<s.n):=⟨h,hG,hG.lt.2 u hmem _ hyx⟩
 have HO:Hid (w1.ownsRow (w.alloc (Obj.cells #[.int .u8 x0,.int .u8 x1,.int .u8 x2,.int .u8 x3,.int .u8 x4,.int .u8 x5,.int .u8 x6,.int .u8 x7] 91)).heap.size 110 1 (.slice ag (s.aY u.vb).length zZ) (s.aY u.vb).length ((s.aY u.vb).map fun v=>ptr v.vb)):=hown;clear hown hown0 hP hH S1 h hG hP1
 go_loopw [20] (fun i wr=>∃j:Nat,j<=(s.aY u.vb).length/\i=.int .i64 j/\At wr w.heap.size 91 [.int .u8 x0,.int .u8 x1,.int .u8 x2,.int .u8 x3,.int .u8 x4,.int .u8 x5,.int .u8 x6,.int .u8 x7]/\∃sj,Kept s sj k (fun v=>v∈(s.aY u.vb).take j)/\After w1 s wr sj fr/\(s.aY u.vb=[]->sj=s))
  (fun i _=>(s.aY u.vb).length-(intOf i).toNat)
 case atStart=>exact⟨0,Nat.zero_le _,rfl,Bw,s,(by simpa using Kept.start s k),hA1,fun _=>rfl⟩
 case round=>
  obtain⟨j,hj,rfl,HB,sj,hK,hA,hNN⟩:=hrel;have HNN:Hid (s.aY u.vb=[]->sj=s):=hNN;clear hNN;by_cases hjl:j<(s.aY u.vb).length
  ·have HNE:Hid (s.aY u.vb≠[]):=by show _≠_;intro e;rw[e]at hjl;simp at hjl
   obtain⟨h,hG,hyn⟩:=HH.out;have hOr:=dZ HO.out hA.same hbase;obtain⟨gr,Y8,rfl,hgr,hAr,_,hcl,hct⟩:=jk hOr (by omega);obtain⟨p,hp⟩:∃p,(s.aY u.vb)[j]! = p:=⟨_,rfl⟩
   have hpm:p∈s.aY u.vb:=by rw[<-hp,getElem!_pos _ j hjl];exact List.getElem_mem hjl
   obtain⟨hpv,hpo⟩:=lG.1 hpm;have cp:wr.cell? ⟨gr,j,none⟩=some (.pointer (some ⟨p.vb,0,none⟩)):=by
    rw[hAr.cell?];have e:(Y8.take (s.aY u.vb).length)[j]? = Y8[j]?:=by rw[List.getElem?_take,if_pos hjl]
    rw[<-e,hct,List.getElem?_map,List.getElem?_eq_getElem hjl,<-getElem!_pos _ j hjl,hp];rfl
   have hnp:p∉(s.aY u.vb).take j:=by
    intro hm;obtain⟨q,hq,e⟩:=List.getElem_of_mem hm;have hq':q<j:=by simp at hq;omega
    have hpw:=List.pairwise_iff_getElem.1 (Ic h u.vb) q j (by omega) hjl hq';rw[List.getElem_take]at e;rw[e,<-getElem!_pos _ j hjl,hp]at hpw;exact hpw rfl
   obtain⟨i,hi,hip⟩:=dO hpv;have HT:Hid (∀v,(v∈(s.aY u.vb).take j\/v=s.af[i]!)↔v∈(s.aY u.vb).take (j+1)):=by
    intro v;rw[List.take_succ_eq_append_getElem hjl,List.mem_append,List.mem_singleton,<-getElem!_pos _ j hjl,hp,hip]
   have hij:i<sj.af.length:=by rw[hK.base.len];exact hi
   obtain⟨r1,r2⟩:=hK.rest i hi (by rw[hip];exact hnp);obtain⟨b1,b2,b3,b4⟩:=hK.base.same i hi;rw[hip]at r1 r2 b1 b2 b3 b4;obtain⟨v',hv'⟩:∃v',sj.af[i]! = v':=⟨_,rfl⟩
   rw[hv']at r1 r2 b1 b2 b3 b4;have hvm:v'∈sj.af:=by rw[<-hv'];exact get_mem hij
   have hVv:=hA.pool.af v' hvm;have hov:v'.org≠none:=by rw[b4,hpo];simp
   have XA:sj.size v'=u.xs.length:=by
    have e1:=hK.base.size h hA.pool i hi;rw[hv',hip]at e1;rw[e1];unfold St.size;have e2:=(h.aB hpv).2.2.2 (by rw[hpo];simp);rw[hpo]at e2;have e3:s.aB p=u:=h.mF (h.aB hpv).1 hmem (by simpa using e2.symm);rw[e3]
   have hks:k<sj.size v':=by rw[XA];exact hk
   have c4:wr.cell? ⟨p.vb,4,none⟩=some (.bool p.lost):=by have:=lH hA.pool hvm;rw[b1,r2]at this;exact this
   have hnot:=bP;have l2:(j:Int)<((s.aY u.vb).length:Int):=by omega
   have HNX:Hid (∀s2,Step sj s2 k i->Kept s s2 k (fun v=>v∈(s.aY u.vb).take (j+1))):=fun s2 hS=>
    (hK.one h hA.pool i hi (by rw[hip];exact hnp) hS).congr fun m hm=>HT.out _
   by_cases hin:k∈p.kept
   ·have hKI:=uV v' k wr hVv (by rw[r1];exact hin);rw[b1]at hKI;have hK2:=HNX.out sj (Step.none sj k i (Or.inl (by rw[hv',r1];exact hin)));generalize v'.xs[v'.kept.idxOf k]! = zz at *;have HA:Hid (After w1 s wr sj fr):=hA;have HK2:Hid (Kept s sj k (fun v=>v∈(s.aY u.vb).take (j+1))):=hK2;clear hK hA HNX hK2 hOr hAr hct hVv h hG HT
    go_wp2_with (go_at_call 122;refine hKI.mono ?_;rintro e wz ⟨rfl,rfl⟩)
    go_roundw
    case rel=>exact⟨j+1,by omega,by go_num,HB,sj,HK2.out,HA.out,fun e=>absurd e HNE.out⟩
    case measure=>simp[intOf];omega
   ·have hKI:=uS v' k wr hVv (by rw[r1];exact hin);rw[b1]at hKI;cases hpl2:p.lost with
    | true=>
     rw[hpl2]at c4;have hK2:=HNX.out sj (Step.none sj k i (Or.inr (by rw[hv',r2];exact hpl2)));have HA:Hid (After w1 s wr sj fr):=hA;have HK2:Hid (Kept s sj k (fun v=>v∈(s.aY u.vb).take (j+1))):=hK2;clear hK hA HNX hK2 hOr hAr hct hVv h hG HT
     go_wp2_with (go_at_call 122;refine hKI.mono ?_;rintro e wz ⟨rfl,rfl⟩)
     go_roundw
     case rel=>exact⟨j+1,by omega,by go_num,HB,sj,HK2.out,HA.out,fun e=>absurd e HNE.out⟩
     case measure=>simp[intOf];omega
    | false=>
     rw[hpl2]at c4;obtain⟨pc,hpp,_,_⟩:=hA.pool.pool;have MG:=hA.pb;have hnE:=hA.n;have c1:wr.cell? ⟨s.pb,1,none⟩=some (.pointer (some ⟨sj.db,0,none⟩)):=by rw[<-MG];exact hpp.cell? 1
     have hR:=gu sj.db sj.bb sj.n yy _ _ _ sj.bl wr _ _ rfl rfl hA.pool.disk.disk hA.pool.disk.data hA.pool.disk.len (by rw[hnE];exact hyn) (by have:=hA.pool.disk.small;omega);have hlook:sj.bl[yy]! = sj.look v' k:=by
      unfold St.look St.holder;rw[if_neg (by rw[r1];exact hin)];have e2:=(hA.pool.aB hvm).2.2.2 hov;obtain⟨m,hm,e3,e4⟩:=hK.base.aB h hA.pool i hi;rw[hv']at e4;rw[hip]at e3;rw[e4,(hK.base.same m hm).2.2.1,<-e3];have e5:=(h.aB hpv).2.2.2 (by rw[hpo];simp);rw[hpo]at e5;have e6:s.aB p=u:=h.mF (h.aB hpv).1 hmem (by simpa using e5.symm);rw[e6,HYY.out]
     generalize hold:sj.bl[yy]! = old at *;by_cases hroom:v'.kept.length<v'.xs.length
     ·have hKp:=fun W (hW:Same [] wr W)=>Eg sj fr i v' k old W _ rfl (hA.pool.new hW) hA.good hij hv' hov (by rw[r2];exact hpl2) hroom (by rw[r1];exact hin) hks
      have HS:Hid (∀W g,ai W { sj with bl:=sj.bl.set v'.xs[v'.kept.length]! old,af:=aC i (v'.keeping g k) sj.af }->Kept s { sj with bl:=sj.bl.set v'.xs[v'.kept.length]! old,af:=aC i (v'.keeping g k) sj.af } k (fun v=>v∈(s.aY u.vb).take (j+1))):=fun W g hW=>
       HNX.out _ (step_more hA.pool hA.good i v' g k old hij hv' hov (by rw[r2];exact hpl2) hroom (by rw[r1];exact hin) hks hlook hW)
      rw[MG,b1]at hKp;have HA:Hid (After w1 s wr sj fr):=hA;clear hK hA HNX hOr hAr hct hVv h hG HT hpp hlook
      go_wp2_with (first|(go_at_call 122;refine hKI.mono ?_;rintro e wz ⟨rfl,rfl⟩)|(go_at_call 69;refine hR.mono ?_;rintro e w3 ⟨rfl,S3⟩)|(go_at_call 123;refine(hKp _ S3).mono ?_;rintro e w4 ⟨rfl,g,hA4⟩))
      rw[<-MG]at hA4;have hA5:=HA.out.step (hA4.old S3);have hB5:=(hA4.old S3).same.at HB (fun hm=>by
       rcases HA.out.foot _ hm with e|e
       ·exact hnb e
       ·have:=Bw.lt;omega)
      have HK2:Hid _:=HS.out w4 g hA4.pool;have HA5:Hid _:=hA5;clear HA hA4 hA5 HS hKp S3
      go_roundw
      case rel=>exact⟨j+1,by omega,by go_num,hB5,_,HK2.out,HA5.out,fun e=>absurd e HNE.out⟩
      case measure=>simp[intOf];omega
     ·have hfull:v'.kept.length=v'.xs.length:=by have:=hVv.room;omega
      have hKp:=fun W (hW:Same [] wr W)=>Ep sj fr i v' k old W _ rfl (hA.pool.new hW) hA.good hij hv' hov hfull
      have HS:Hid (∀W,ai W { sj with bl:=bM v'.xs sj.bl,af:=aC i v'.losing sj.af }->Kept s { sj with bl:=bM v'.xs sj.bl,af:=aC i v'.losing sj.af } k (fun v=>v∈(s.aY u.vb).take (j+1))):=fun W hW=>
       HNX.out _ (Ph hA.pool hA.good i v' k hij hv' hov (by rw[r2];exact hpl2) hfull (by rw[r1];exact hin) hW)
      rw[MG,b1]at hKp;have HA:Hid (After w1 s wr sj fr):=hA;clear hK hA HNX hOr hAr hct hVv h hG HT hpp hlook
      go_wp2_with (first|(go_at_call 122;refine hKI.mono ?_;rintro e wz ⟨rfl,rfl⟩)|(go_at_call 69;refine hR.mono ?_;rintro e w3 ⟨rfl,S3⟩)|(go_at_call 123;refine(hKp _ S3).mono ?_;rintro e w4 ⟨rfl,hA4⟩))
      rw[<-MG]at hA4;have hA5:=HA.out.step (hA4.old S3);have hB5:=(hA4.old S3).same.at HB (fun hm=>by
       rcases HA.out.foot _ hm with e|e
       ·exact hnb e
       ·have:=Bw.lt;omega)
      have HK2:Hid _:=HS.out w4 hA4.pool;have HA5:Hid _:=hA5;clear HA hA4 hA5 HS hKp S3
      go_roundw
      case rel=>exact⟨j+1,by omega,by go_num,hB5,_,HK2.out,HA5.out,fun e=>absurd e HNE.out⟩
      case measure=>simp[intOf];omega
  ·have ej:j=(s.aY u.vb).length:=by omega
   subst ej;obtain⟨h,hG,hyn⟩:=HH.out;rw[List.take_length]at hK;have hKf:Kept s sj k (fun v=>v.org=some u.vb):=hK.congr fun m hm=>by
    rw[lG];exact⟨fun e=>e.2,fun e=>⟨get_mem hm,e⟩⟩
   obtain⟨pc,hpp,_,_⟩:=hA.pool.pool;have MG:=hA.pb;have hnE:=hA.n;have c1:wr.cell? ⟨s.pb,1,none⟩=some (.pointer (some ⟨sj.db,0,none⟩)):=by rw[<-MG];exact hpp.cell? 1
   have y0:wr.cell? ⟨w.heap.size,0,none⟩=some (.int .u8 x0):=HB.cell? 0;have y1:wr.cell? ⟨w.heap.size,1,none⟩=some (.int .u8 x1):=HB.cell? 1;have y2:wr.cell? ⟨w.heap.size,2,none⟩=some (.int .u8 x2):=HB.cell? 2;have y3:wr.cell? ⟨w.heap.size,3,none⟩=some (.int .u8 x3):=HB.cell? 3;have y4:wr.cell? ⟨w.heap.size,4,none⟩=some (.int .u8 x4):=HB.cell? 4;have y5:wr.cell? ⟨w.heap.size,5,none⟩=some (.int .u8 x5):=HB.cell? 5;have y6:wr.cell? ⟨w.heap.size,6,none⟩=some (.int .u8 x6):=HB.cell? 6;have y7:wr.cell? ⟨w.heap.size,7,none⟩=some (.int .u8 x7):=HB.cell? 7;have hyf:yy∉fr:=by rw[<-HYY.out];exact hG.wY hmem (aK hk)
   have hW:=fun W (hW:Same [] wr W) bv (hbv:bv=aN.val ⟨x0,x1,x2,x3,x4,x5,x6,x7⟩)=>iR sj.db sj.bb sj.n yy _ _ _ sj.bl ⟨x0,x1,x2,x3,x4,x5,x6,x7⟩ W _ bv _ rfl rfl hbv (hW.at hA.pool.disk.disk (by simp)) (hW.at hA.pool.disk.data (by simp)) hA.pool.disk.len (by rw[hnE];exact hyn) (by have:=hA.pool.disk.small;omega)
   have HF:Hid (∀w6,At w6 sj.bb 91 (flat (sj.bl.set yy ⟨x0,x1,x2,x3,x4,x5,x6,x7⟩))->Same [sj.bb] wr w6->After w s w6 { sj with bl:=sj.bl.set yy ⟨x0,x1,x2,x3,x4,x5,x6,x7⟩ } fr):=fun w6 A6 S6=>
    ((hA.step (su hA.pool hA.good yy ⟨x0,x1,x2,x3,x4,x5,x6,x7⟩ hyf A6 S6)).old S01)
   have HKF:Hid (Kept s sj k (fun v=>v.org=some u.vb)):=hKf;clear hK hA hKf h hG hpp HB
   go_wp2_with fail
   refine aU 6 (by kernel_rfl) (by kernel_rfl) ?_;simp only[List.take_succ_cons,List.take_zero,List.drop_succ_cons,List.drop_zero]
   repeat still_step
   refine wpStill_nil ?_
   go_wp2_with (go_at_call 102;refine(hW _ ((Same.refl _ _).drew) _ rfl).mono ?_;rintro e w6 ⟨rfl,A6,S6⟩)
   have jT:=HF.out w6 A6 ((Same.refl _ _).drew.step S6 (by simp));clear HF A6 S6 hW;refine bodyPost_end (results_none rfl _ _ _) rfl ⟨rfl,sj,HKF.out,jT,HNN.out⟩
theorem xE(s:St)(fr:List Nat)(v:aF)(k:Nat)(b:aN)(w:World)(h:ai w s)(hG:Good s fr)(hv:v∈s.af)(hk:k∈v.kept) :
 Calls prog 89 #[.pointer (some ⟨s.pb,0,none⟩),.pointer (some ⟨v.vb,0,none⟩),.int .i64 k,b.val] w fun e w'=>e=.returned (.int .i64 0) /\
  After w s w' { s with bl:=s.bl.set v.xs[v.kept.idxOf k]! b } fr:=by
 obtain⟨x0,x1,x2,x3,x4,x5,x6,x7⟩:=b;have S0:=(Same.refl [] w).alloc (Obj.cells #[.int .u8 x0,.int .u8 x1,.int .u8 x2,.int .u8 x3,.int .u8 x4,.int .u8 x5,.int .u8 x6,.int .u8 x7] 91);have hKI:=uV v k _ ((h.new S0).af v hv) hk;have hyx:v.xs[v.kept.idxOf k]!∈v.xs:=aK (Nat.lt_of_lt_of_le (jB hk) (h.af v hv).room);have hyn:=hG.lt.2 v hv _ hyx;have hyf:=hG.wY hv hyx;obtain⟨cap,hp,_,_⟩:=(h.new S0).pool;have c1:(w.alloc (Obj.cells #[.int .u8 x0,.int .u8 x1,.int .u8 x2,.int .u8 x3,.int .u8 x4,.int .u8 x5,.int .u8 x6,.int .u8 x7] 91)).cell? ⟨s.pb,1,none⟩=some (.pointer (some ⟨s.db,0,none⟩)):=hp.cell? 1;have z0:(w.alloc (Obj.cells #[.int .u8 x0,.int .u8 x1,.int .u8 x2,.int .u8 x3,.int .u8 x4,.int .u8 x5,.int .u8 x6,.int .u8 x7] 91)).cell? ⟨w.heap.size,0,none⟩=some (.int .u8 x0):=(At.new w #[.int .u8 x0,.int .u8 x1,.int .u8 x2,.int .u8 x3,.int .u8 x4,.int .u8 x5,.int .u8 x6,.int .u8 x7] 91).cell? 0;have z1:(w.alloc (Obj.cells #[.int .u8 x0,.int .u8 x1,.int .u8 x2,.int .u8 x3,.int .u8 x4,.int .u8 x5,.int .u8 x6,.int .u8 x7] 91)).cell? ⟨w.heap.size,1,none⟩=some (.int .u8 x1):=(At.new w #[.int .u8 x0,.int .u8 x1,.int .u8 x2,.int .u8 x3,.int .u8 x4,.int .u8 x5,.int .u8 x6,.int .u8 x7] 91).cell? 1;have z2:(w.alloc (Obj.cells #[.int .u8 x0,.int .u8 x1,.int .u8 x2,.int .u8 x3,.int .u8 x4,.int .u8 x5,.int .u8 x6,.int .u8 x7] 91)).cell? ⟨w.heap.size,2,none⟩=some (.int .u8 x2):=(At.new w #[.int .u8 x0,.int .u8 x1,.int .u8 x2,.int .u8 x3,.int .u8 x4,.int .u8 x5,.int .u8 x6,.int .u8 x7] 91).cell? 2;have z3:(w.alloc (Obj.cells #[.int .u8 x0,.int .u8 x1,.int .u8 x2,.int .u8 x3,.int .u8 x4,.int .u8 x5,.int .u8 x6,.int .u8 x7] 91)).cell? ⟨w.heap.size,3,none⟩=some (.int .u8 x3):=(At.new w #[.int .u8 x0,.int .u8 x1,.int .u8 x2,.int .u8 x3,.int .u8 x4,.int .u8 x5,.int .u8 x6,.int .u8 x7] 91).cell? 3;have z4:(w.alloc (Obj.cells #[.int .u8 x0,.int .u8 x1,.int .u8 x2,.int .u8 x3,.int .u8 x4,.int .u8 x5,.int .u8 x6,.int .u8 x7] 91)).cell? ⟨w.heap.size,4,none⟩=some (.int .u8 x4):=(At.new w #[.int .u8 x0,.int .u8 x1,.int .u8 x2,.int .u8 x3,.int .u8 x4,.int .u8 x5,.int .u8 x6,.int .u8 x7] 91).cell? 4;have z5:(w.alloc (Obj.cells #[.int .u8 x0,.int .u8 x1,.int .u8 x2,.int .u8 x3,.int .u8 x4,.int .u8 x5,.int .u8 x6,.int .u8 x7] 91)).cell? ⟨w.heap.size,5,none⟩=some (.int .u8 x5):=(At.new w #[.int .u8 x0,.int .u8 x1,.int .u8 x2,.int .u8 x3,.int .u8 x4,.int .u8 x5,.int .u8 x6,.int .u8 x7] 91).cell? 5;have z6:(w.alloc (Obj.cells #[.int .u8 x0,.int .u8 x1,.int .u8 x2,.int .u8 x3,.int .u8 x4,.int .u8 x5,.int .u8 x6,.int .u8 x7] 91)).cell? ⟨w.heap.size,6,none⟩=some (.int .u8 x6):=(At.new w #[.int .u8 x0,.int .u8 x1,.int .u8 x2,.int .u8 x3,.int .u8 x4,.int .u8 x5,.int .u8 x6,.int .u8 x7] 91).cell? 6;have z7:(w.alloc (Obj.cells #[.int .u8 x0,.int .u8 x1,.int .u8 x2,.int .u8 x3,.int .u8 x4,.int .u8 x5,.int .u8 x6,.int .u8 x7] 91)).cell? ⟨w.heap.size,7,none⟩=some (.int .u8 x7):=(At.new w #[.int .u8 x0,.int .u8 x1,.int .u8 x2,.int .u8 x3,.int .u8 x4,.int .u8 x5,.int .u8 x6,.int .u8 x7] 91).cell? 7;generalize v.xs[v.kept.idxOf k]! = yy at *;have hW:=fun W (hW:Same [] w W) bv (hbv:bv=aN.val ⟨x0,x1,x2,x3,x4,x5,x6,x7⟩)=>iR s.db s.bb s.n yy _ _ _ s.bl ⟨x0,x1,x2,x3,x4,x5,x6,x7⟩ W _ bv _ rfl rfl hbv (hW.at h.disk.disk (by simp)) (hW.at h.disk.data (by simp)) h.disk.len hyn (by have:=h.disk.small;omega)
 have HF:Hid (∀w6,At w6 s.bb 91 (flat (s.bl.set yy ⟨x0,x1,x2,x3,x4,x5,x6,x7⟩))->Same [s.bb] w w6->After w s w6 { s with bl:=s.bl.set yy ⟨x0,x1,x2,x3,x4,x5,x6,x7⟩ } fr):=fun w6 A6 S6=>su h hG yy _ hyf A6 S6
 have HS0:Hid (Same [] w (w.alloc (Obj.cells #[.int .u8 x0,.int .u8 x1,.int .u8 x2,.int .u8 x3,.int .u8 x4,.int .u8 x5,.int .u8 x6,.int .u8 x7] 91))):=S0;clear h hG hp S0;unfold aN.val
 go_enter func89,ntmps89
 go_wp2_with (go_at_call 122;refine hKI.mono ?_;rintro e wz ⟨rfl,rfl⟩)
 refine aU 6 (by kernel_rfl) (by kernel_rfl) ?_;simp only[List.take_succ_cons,List.take_zero,List.drop_succ_cons,List.drop_zero]
 repeat still_step
 refine wpStill_nil ?_
 go_wp2_with (go_at_call 102;refine(hW _ (HS0.out.drew) _ rfl).mono ?_;rintro e w6 ⟨rfl,A6,S6⟩)
 have jT:=HF.out w6 A6 ((HS0.out.drew.mono (T:=[s.bb]) (by simp)).step S6 (by simp));clear HF A6 S6 hW HS0
 go_ret
 exact⟨rfl,jT⟩
theorem oW(s:St)(v:aF)(k:Nat)(b:aN)(w:World)(Q:Ending->World->Prop)(h:ai w s)(hv:v∈s.af)(hk:k∉v.kept)
 (hA:∀W,Same [] w W->Calls prog 123 #[.pointer (some ⟨s.pb,0,none⟩),.pointer (some ⟨v.vb,0,none⟩),.int .i64 k,b.val] W fun e w'=>∃x,e=.returned (.int .i64 x)/\Q (.returned (.int .i64 x)) w') :
 Calls prog 89 #[.pointer (some ⟨s.pb,0,none⟩),.pointer (some ⟨v.vb,0,none⟩),.int .i64 k,b.val] w Q:=by
 obtain⟨x0,x1,x2,x3,x4,x5,x6,x7⟩:=b;have S0:=(Same.refl [] w).alloc (Obj.cells #[.int .u8 x0,.int .u8 x1,.int .u8 x2,.int .u8 x3,.int .u8 x4,.int .u8 x5,.int .u8 x6,.int .u8 x7] 91);have hKI:=uS v k _ ((h.new S0).af v hv) hk;have HS0:Hid (Same [] w (w.alloc (Obj.cells #[.int .u8 x0,.int .u8 x1,.int .u8 x2,.int .u8 x3,.int .u8 x4,.int .u8 x5,.int .u8 x6,.int .u8 x7] 91))):=S0;clear h S0;unfold aN.val at *
 go_enter func89,ntmps89
 go_wp2_with (first|(go_at_call 122;refine hKI.mono ?_;rintro e wz ⟨rfl,rfl⟩)|(go_at_call 123;refine(hA _ HS0.out).mono ?_;rintro e w4 ⟨x,rfl,hQ⟩))
 exact hQ
theorem After.still{w w':World}{s:St}{fr:List Nat}(h:ai w s)(hG:Good s fr)(hs:Same [] w w'):After w s w' s fr:=
 ⟨h.new hs,hG,hs.mono (by simp),fun k hk=>Or.inl hk,rfl,rfl⟩
theorem Ij(s:St)(fr:List Nat)(t:ByteArray)(k:Nat)(b:aN)(w:World)(h:ai w s)(hG:Good s fr)(hi:s.has t=true)(ho:(s.aA t).org=none)(hk:k<(s.aA t).xs.length)(hb:s.look (s.aA t) k≠b) :
 Calls prog 50 #[.pointer (some ⟨s.pb,0,none⟩),.string t,.int .i64 k,b.val] w fun e w'=>e=.returned (.int .i64 0)/\∃s1,Kept s s1 k (fun v=>v.org=some (s.aA t).vb)/\After w s w' { s1 with bl:=s1.bl.set (s.aA t).xs[k]! b } fr:=by
 have hmem:=(St.aT hi).1;have hl:=((h.af _ hmem).plain ho).2;have eo:s.aB (s.aA t)=s.aA t:=(h.aB hmem).2.2.1 ho;have hk':k<s.size (s.aA t):=by unfold St.size;rw[eo];exact hk
 have hn:=iC h hG hmem hk';obtain⟨iu,hiu,hu⟩:=dO hmem;refine RQ s t k b w _ h hi hl hk' hn hb ho fun W hW=>?_
 refine(xk s fr iu (s.aA t) k b W _ rfl (h.new hW) hG hiu hu ho hk).mono ?_;rintro e w' ⟨he,s1,hK,hA,hs⟩;exact⟨he,s1,hK,hA.old hW⟩
theorem vF(s:St)(fr:List Nat)(t:ByteArray)(k:Nat)(b:aN)(w:World)(h:ai w s)(hG:Good s fr)(hi:s.has t=true)(ho:(s.aA t).org≠none)(hl:(s.aA t).lost=false)(hk:k<s.size (s.aA t))(hb:s.look (s.aA t) k≠b)(hkk:k∈(s.aA t).kept) :
 Calls prog 50 #[.pointer (some ⟨s.pb,0,none⟩),.string t,.int .i64 k,b.val] w fun e w'=>e=.returned (.int .i64 0)/\After w s w' { s with bl:=s.bl.set (s.aA t).xs[(s.aA t).kept.idxOf k]! b } fr:=by
 have hmem:=(St.aT hi).1;refine yw s t k b w _ h hi hl hk (iC h hG hmem hk) hb ho fun W hW=>?_
 refine(xE s fr (s.aA t) k b W (h.new hW) hG hmem hkk).mono ?_;rintro e w' ⟨he,hA⟩;exact⟨0,he,rfl,hA.old hW⟩
theorem vg(s:St)(fr:List Nat)(t:ByteArray)(k:Nat)(b:aN)(w:World)(h:ai w s)(hG:Good s fr)(hi:s.has t=true)(ho:(s.aA t).org≠none)(hl:(s.aA t).lost=false)(hk:k<s.size (s.aA t))(hb:s.look (s.aA t) k≠b)(hkk:k∉(s.aA t).kept)(hf:(s.aA t).kept.length<(s.aA t).xs.length) :
 Calls prog 50 #[.pointer (some ⟨s.pb,0,none⟩),.string t,.int .i64 k,b.val] w fun e w'=>e=.returned (.int .i64 0)/\∃i g,i<s.af.length/\s.af[i]! = s.aA t/\After w s w' { s with bl:=s.bl.set (s.aA t).xs[(s.aA t).kept.length]! b,af:=aC i ((s.aA t).keeping g k) s.af } fr:=by
 have hmem:=(St.aT hi).1;obtain⟨i,hii,hv⟩:=dO hmem;refine yw s t k b w _ h hi hl hk (iC h hG hmem hk) hb ho fun W hW=>?_
 refine oW s (s.aA t) k b W _ (h.new hW) hmem hkk fun W2 hW2=>?_
 refine(Eg s fr i (s.aA t) k b W2 _ rfl ((h.new hW).new hW2) hG hii hv ho hl hf hkk hk).mono ?_;rintro e w' ⟨he,g,hA⟩;refine⟨0,he,0,rfl,rfl,i,g,hii,hv,(hA.old hW2).old hW⟩
theorem ve(s:St)(fr:List Nat)(t:ByteArray)(k:Nat)(b:aN)(w:World)(h:ai w s)(hG:Good s fr)(hi:s.has t=true)(ho:(s.aA t).org≠none)(hl:(s.aA t).lost=false)(hk:k<s.size (s.aA t))(hb:s.look (s.aA t) k≠b)(hkk:k∉(s.aA t).kept)(hf:(s.aA t).kept.length=(s.aA t).xs.length) :
 Calls prog 50 #[.pointer (some ⟨s.pb,0,none⟩),.string t,.int .i64 k,b.val] w fun e w'=>e=.returned (.int .i64 10)/\∃i,i<s.af.length/\s.af[i]! = s.aA t/\After w s w' { s with bl:=bM (s.aA t).xs s.bl,af:=aC i (s.aA t).losing s.af } fr:=by
 have hmem:=(St.aT hi).1;obtain⟨i,hii,hv⟩:=dO hmem;refine yw s t k b w _ h hi hl hk (iC h hG hmem hk) hb ho fun W hW=>?_
 refine oW s (s.aA t) k b W _ (h.new hW) hmem hkk fun W2 hW2=>?_
 refine(Ep s fr i (s.aA t) k b W2 _ rfl ((h.new hW).new hW2) hG hii hv ho hf).mono ?_;rintro e w' ⟨he,hA⟩;refine⟨10,he,10,rfl,rfl,i,hii,hv,(hA.old hW2).old hW⟩
end
section
open Go.RowKit Go.Sort
variable [DecidableEq aN] [Inhabited aN] [Inhabited aF] [Inhabited ay]
theorem xP{s:St}:fJ s↔∀v∈s.af,v.org≠none->∀x∈v.xs.drop v.kept.length,s.bl[x]! = aN.zero:=by
 constructor
 ·intro h v hv;obtain⟨i,hi,rfl⟩:=dO hv;exact h i hi
 ·intro h i hi;exact h _ (get_mem hi)
theorem Rel.eq{s s':St}{r:aQ}(h:Rel s r)(hv:s'.af=s.af)(hb:s'.bl=s.bl)(hn:s'.n=s.n):Rel s' r:=by
 have ho:∀v,s'.aB v=s.aB v:=fun v=>by unfold St.aB St.tq;rw[hv]
 refine⟨h.n.trans hn.symm,by rw[hv];exact h.len,fun i hi=>?_⟩;rw[hv]at hi ⊢;refine(h.each i hi).congr rfl Iff.rfl (by rw[ho]) (by unfold St.size;rw[ho]) rfl rfl rfl fun _ q _=>?_
 unfold St.look St.holder;rw[ho,hb]
structure Pair(w:World)(s:St)(fr:List Nat)(r:aQ)(fp:Nat)(ap:Array Value)(fq:Nat)(aq:Array Value):Prop where
 ex:∃(c:Int)(P:St->List Nat->Prop),0<=c/\c<=13 /\
  Calls prog fp ap w (fun e w1=>e=.returned (.int .i64 c)/\∃s' fr',After w s w1 s' fr'/\fJ s'/\P s' fr') /\
  ∀w1,aO w1 r->Calls prog fq aq w1 (fun e w2=>e=.returned (.int .i64 c)/\∃r',bQ w1 r w2 r'/\∀W s' fr',ai W s'->Good s' fr'->P s' fr'->Rel s' r')
theorem dn{f:Nat}{a:Array Value}{w:World}{x:Ending}(h:Calls prog f a w fun e w'=>e=x/\w'=w):Calls prog f a w fun e w'=>e=x/\Same [] w w':=
 h.mono fun e w' ⟨h1,h2⟩=>⟨h1,by rw[h2];exact Same.refl _ _⟩
theorem Pair.noD{w:World}{s:St}{fr:List Nat}{r:aQ}{fp:Nat}{ap:Array Value}{fq:Nat}{aq:Array Value}(c:Int)(hc:0<=c/\c<=13)(hsp:fJ s)(hrel:Rel s r)(hnd:r.foot.Nodup)
 (h1:Calls prog fp ap w fun e w1=>e=.returned (.int .i64 c)/\∃d',After w s w1 { s with d:=d' } fr) (h2:∀w1,aO w1 r->Calls prog fq aq w1 fun e w2=>e=.returned (.int .i64 c)/\Same [] w1 w2):Pair w s fr r fp ap fq aq:=by
 refine⟨c,fun s' _=>s'.af=s.af/\s'.bl=s.bl/\s'.n=s.n,hc.1,hc.2,h1.mono ?_,fun w1 hR=>(h2 w1 hR).mono ?_⟩
 ·rintro e w1 ⟨rfl,d',hA⟩;exact⟨rfl,_,_,hA,hsp,rfl,rfl,rfl⟩
 ·rintro e w2 ⟨rfl,hS⟩;exact⟨rfl,r,bQ.still hR hnd hS,fun W s' fr' _ _ ⟨a,b,c⟩=>hrel.eq a b c⟩
theorem Pair.no{w:World}{s:St}{fr:List Nat}{r:aQ}{fp:Nat}{ap:Array Value}{fq:Nat}{aq:Array Value}(c:Int)(hc:0<=c/\c<=13)(hP:ai w s)(hG:Good s fr)(hsp:fJ s)(hrel:Rel s r)(hnd:r.foot.Nodup)
 (h1:Calls prog fp ap w fun e w1=>e=.returned (.int .i64 c)/\Same [] w w1) (h2:∀w1,aO w1 r->Calls prog fq aq w1 fun e w2=>e=.returned (.int .i64 c)/\Same [] w1 w2):Pair w s fr r fp ap fq aq:=
 Pair.noD c hc hsp hrel hnd (h1.mono fun e w1 ⟨a,b⟩=>⟨a,s.d,After.still hP hG b⟩) h2
theorem UM{w:World}{s:St}{r:aQ}(h:Rel s r)(hP:ai w s)(t:ByteArray):FV r t (posOf s.names t)/\posOf s.names t<=s.af.length:=by
 obtain⟨s1,s2⟩:=countP_split (fun n=>decide (bW n t<0)) s.names (vN t hP.iG);have hp:s.names.countP (fun n=>decide (bW n t<0))=posOf s.names t:=rfl;rw[hp]at s1 s2;have hnl:s.names.length=s.af.length:=by simp[St.names]
 have hle:posOf s.names t<=s.af.length:=by
  have:=List.countP_le_length (p:=fun n=>decide (bW n t<0)) (l:=s.names);rw[hp]at this;omega
 have hg:∀j,j<s.af.length->(r.af[j]!).name=s.names[j]!:=fun j hj=>by
  rw[(h.each j hj).name,getElem!_pos s.af j hj,getElem!_pos s.names j (by omega)];simp[St.names]
 refine⟨⟨by rw[h.len];exact hle,fun j hj=>?_,fun hl=>?_⟩,hle⟩
 ·rw[hg j (by omega)];have:=s1 (s.names[j]!) (by rw[getElem!_pos s.names j (by omega)];exact List.mem_take_iff_getElem.2 ⟨j,by omega,rfl⟩);simpa using this
 ·rw[h.len]at hl;rw[hg _ hl];have:=s2 (s.names[posOf s.names t]!) (by rw[getElem!_pos s.names _ (by omega),List.drop_eq_getElem_cons (by omega)];exact List.mem_cons_self);simpa using this
theorem ES{s s':St}{p:Nat}{v0:aF}(sp:fJ s)(hv:s'.af=dS p v0 s.af)(hb:s'.bl=s.bl)(h0:∀x∈v0.xs.drop v0.kept.length,v0.org≠none->s.bl[x]! = aN.zero):fJ s':=by
 refine xP.2 fun v hm ho x hx=>?_
 rw[hb];rw[hv]at hm;rcases fC.1 hm with rfl|hm
 ·exact h0 x hx ho
 ·exact xP.1 sp v hm ho x hx
theorem LC{w:World}{s:St}{fr:List Nat}{r:aQ}(hP:ai w s)(hG:Good s fr)(hsp:fJ s)(hrel:Rel s r)(hnd:r.foot.Nodup)(t:ByteArray)(k:Int)(ht:t.size<=maxLen) :
 Pair w s fr r 47 #[.pointer (some ⟨s.pb,0,none⟩),.string t,.int .i64 k] 48 #[.pointer (some ⟨r.rb,0,none⟩),.string t,.int .i64 k]:=by
 by_cases h1:nameB t=true
 case neg=>
  have h1':nameB t=false:=by simpa using h1
  have hf:r.dH t=2:=by unfold aQ.dH;rw[if_pos h1']
  refine Pair.no 2 (by omega) hP hG hsp hrel hnd (dn (JR s t k w hP ht h1')) fun w1 hR=>dn ?_
  have:=sS r t k w1 hR ht (by omega);rw[hf]at this;exact this
 by_cases h2:s.has t=true
 ·have hf:r.dH t=3:=by unfold aQ.dH;rw[if_neg (by simp[h1]),hrel.oG hP h2];rfl
  refine Pair.no 3 (by omega) hP hG hsp hrel hnd (dn (Dt s t k w hP ht h1 h2)) fun w1 hR=>dn ?_
  have:=sS r t k w1 hR ht (by omega);rw[hf]at this;exact this
 have h2':s.has t=false:=by simpa using h2
 have hf:r.dH t=0:=by unfold aQ.dH;rw[if_neg (by simp[h1]),hrel.rX hP h2'];rfl
 by_cases h3:1<=k/\k<=200
 case neg=>
  exact Pair.no 1 (by omega) hP hG hsp hrel hnd (dn (ND s t k w hP ht h1 h2' h3)) fun w1 hR=>dn (DW r t k w1 hR ht hf (by omega))
 obtain⟨n,rfl⟩:∃n:Nat,k=n:=⟨k.toNat,by omega⟩
 have h3':1<=n/\n<=200:=by omega
 by_cases h4:s.af.length<20
 case neg=>
  exact Pair.no 5 (by omega) hP hG hsp hrel hnd (KO s t n w hP ht h1 h2' h3' (by omega)) fun w1 hR=>CX r t n w1 hR ht hf h3' (by rw[hrel.len];omega)
 by_cases h5:fr.length<n
 ·exact Pair.noD 6 (by omega) hsp hrel hnd (KW s fr t n w hP hG ht h1 h2' h3' h4 h5) fun w1 hR=>Be r t n w1 hR ht hf h3' (by rw[hrel.len];omega) (by rw[hrel.free hG];exact h5)
 obtain⟨hpl,XC⟩:=UM hrel hP t;refine⟨0,fun s' fr'=>∃g vb gb,s'={ s with m:=s.m-n,d:=eY s.m n s.d,ab:=some g,af:=dS (posOf s.names t) ⟨vb,gb,t,fr.take n,none,none,[],false⟩ s.af },by omega,by omega,(QU s fr t n w hP hG ht h1 h2' h3' h4 (by omega)).mono ?_,fun w1 hR=>(Iw r t n _ w1 hR hnd ht hf h3' (by rw[hrel.len];omega) (by rw[hrel.free hG];omega) hpl).mono ?_⟩
 ·rintro e w1 ⟨rfl,g,vb,gb,hA,_⟩;exact⟨rfl,_,_,hA,ES hsp rfl rfl (fun x _ ho=>absurd rfl ho),g,vb,gb,rfl⟩
 ·rintro e w2 ⟨rfl,vb,g,bg,dg,hA⟩;refine⟨rfl,_,hA,?_⟩;rintro W s' fr' h' hG' ⟨g',vb',gb',rfl⟩;refine OH hrel hP h' rfl rfl rfl XC (UI (w:=w) (k:=n) hG rfl (by omega) rfl rfl rfl rfl rfl rfl rfl ?_ rfl rfl) (some g);show(r.dD r.n).take n=_;rw[hrel.free hG]
theorem Rel.Io{w:World}{s:St}{r:aQ}{fr:List Nat}(h:Rel s r)(hP:ai w s)(hG:Good s fr){i:Nat}(hi:i<s.af.length)(ho:(s.af[i]!).org≠none):(r.af[i]!).bC=(s.aB (s.af[i]!)).name/\(r.af[i]!).bC≠⟨#[]⟩:=by
 have e:=(h.each i hi).bC;rw[if_neg ho]at e;exact⟨e,by rw[e];exact pz hG (hP.aB (get_mem hi)).1⟩
theorem Rel.F9{s:St}{r:aQ}(h:Rel s r){i:Nat}(hi:i<s.af.length)(ho:(s.af[i]!).org=none):(r.af[i]!).bC=⟨#[]⟩:=by
 have e:=(h.each i hi).bC;rw[if_pos ho]at e;exact e
theorem Iu{w:World}{s:St}{fr:List Nat}{r:aQ}(hP:ai w s)(hG:Good s fr)(hsp:fJ s)(hrel:Rel s r)(hnd:r.foot.Nodup)(t u:ByteArray)(k:Int)(ht:t.size<=maxLen) :
 Pair w s fr r 57 #[.pointer (some ⟨s.pb,0,none⟩),.string t,.string u,.int .i64 k] 58 #[.pointer (some ⟨r.rb,0,none⟩),.string t,.string u,.int .i64 k]:=by
 by_cases h1:nameB t=true
 case neg=>
  have h1':nameB t=false:=by simpa using h1
  have hf:r.dH t=2:=by unfold aQ.dH;rw[if_pos h1']
  refine Pair.no 2 (by omega) hP hG hsp hrel hnd (dn (F5 s t u k w hP ht h1')) fun w1 hR=>dn ?_
  have:=qw r t u k w1 hR ht (by omega);rw[hf]at this;exact this
 by_cases h2:s.has t=true
 ·have hf:r.dH t=3:=by unfold aQ.dH;rw[if_neg (by simp[h1]),hrel.oG hP h2];rfl
  refine Pair.no 3 (by omega) hP hG hsp hrel hnd (dn (Bv s t u k w hP ht h1 h2)) fun w1 hR=>dn ?_
  have:=qw r t u k w1 hR ht (by omega);rw[hf]at this;exact this
 have h2':s.has t=false:=by simpa using h2
 have hf:r.dH t=0:=by unfold aQ.dH;rw[if_neg (by simp[h1]),hrel.rX hP h2'];rfl
 by_cases hu:s.has u=true
 case neg=>
  have hu':s.has u=false:=by simpa using hu
  exact Pair.no 4 (by omega) hP hG hsp hrel hnd (dn (F6 s t u k w hP ht h1 h2' hu')) fun w1 hR=>dn (zH r t u k w1 hR ht hf (hrel.rX hP hu'))
 obtain⟨hum,hun,hup⟩:=St.aT hu;have hra:=hrel.oG hP hu;have hru:jq s (s.aA u) (r.af[posOf s.names u]!):=hrel.aA hu;by_cases ho:(s.aA u).org=none
 case neg=>
  exact Pair.no 7 (by omega) hP hG hsp hrel hnd (dn (zI s t u k w hP ht h1 h2' hu ho)) fun w1 hR=>dn (uQ r t u k _ w1 hR ht hf hra (hrel.Io hP hG hup ho).2)
 have hof:=hrel.F9 hup ho;have hsz:(r.af[posOf s.names u]!).data.length=(s.aA u).xs.length:=by
  rw[hru.size];unfold St.size;rw[(hP.aB hum).2.2.1 ho]
 by_cases h3:1<=k
 case neg=>
  exact Pair.no 1 (by omega) hP hG hsp hrel hnd (dn (Lj s t u k w hP ht h1 h2' hu ho (by omega))) fun w1 hR=>dn (rD r t u k _ w1 hR ht hf hra hof (by omega))
 by_cases h3b:((s.aA u).xs.length:Int)<k
 ·exact Pair.no 1 (by omega) hP hG hsp hrel hnd (dn (Ig s t u k w hP ht h1 h2' hu ho h3 h3b)) fun w1 hR=>dn (rD r t u k _ w1 hR ht hf hra hof (by omega))
 obtain⟨n,rfl⟩:∃n:Nat,k=n:=⟨k.toNat,by omega⟩
 have h3':1<=n/\n<=(s.aA u).xs.length:=by omega
 by_cases h4:s.af.length<20
 case neg=>
  exact Pair.no 5 (by omega) hP hG hsp hrel hnd (GU s t u n w hP ht h1 h2' hu ho h3' (by omega)) fun w1 hR=>zA r t u n _ w1 hR ht hf hra hof (by omega) (by rw[hrel.len];omega)
 by_cases h5:fr.length<n
 ·exact Pair.noD 6 (by omega) hsp hrel hnd (FN s fr t u n w hP hG ht h1 h2' hu ho h3' h4 h5) fun w1 hR=>zJ r t u n _ w1 hR ht hf hra hof (by omega) (by rw[hrel.len];omega) (by rw[hrel.free hG];exact h5)
 obtain⟨hpl,XC⟩:=UM hrel hP t;refine⟨0,fun s' fr'=>∃g vb gb,s'={ s with m:=s.m-n,d:=eY s.m n s.d,ab:=some g,af:=dS (posOf s.names t) ⟨vb,gb,t,fr.take n,some (s.aA u).vb,none,[],false⟩ s.af },by omega,by omega,(Nh s fr t u n w hP hG ht h1 h2' hu ho h3' h4 (by omega)).mono ?_,fun w1 hR=>(D5 r t u n _ _ w1 hR hnd ht hf hra hof (by omega) (by rw[hrel.len];omega) (by rw[hrel.free hG];omega) hpl).mono ?_⟩
 ·rintro e w1 ⟨rfl,g,vb,gb,hA,_⟩;exact⟨rfl,_,_,hA,ES hsp rfl rfl (fun x hx _=>hG.zero x (List.mem_of_mem_take (List.mem_of_mem_drop hx))),g,vb,gb,rfl⟩
 ·rintro e w2 ⟨rfl,vb,g,bg,dg,hA⟩;refine⟨rfl,_,hA,?_⟩;rintro W s' fr' h' hG' ⟨g',vb',gb',rfl⟩;refine OH hrel hP h' rfl rfl rfl XC (FK (x0:=⟨vb,dg,bg,none,t,u,(r.af[posOf s.names u]!).data,(r.dD r.n).take n,[],false⟩) (xu:=r.af[posOf s.names u]!) hP h' (fun v hv=>fC.2 (Or.inr hv)) rfl hum ho hru (fC.2 (Or.inl rfl)) rfl rfl rfl rfl hun.symm rfl ?_ rfl rfl) (some g);show(r.dD r.n).take n=fr.take n;rw[hrel.free hG]
theorem Il{w:World}{s:St}{r:aQ}(h:Rel s r)(hP:ai w s){t:ByteArray}(ht:s.has t=true):r.without t r.af.length=JW (posOf s.names t) r.af:=
 Ai h hP ht r.af h.len (fun j hj=>(h.each j hj).name) r.rb r.lg r.n
theorem EL{w:World}{s s':St}{fr:List Nat}{i:Nat}(hP:ai w s)(hG:Good s fr)(sp:fJ s)(hi:i<s.af.length)(hv:s'.af=aZ i s.af)
 (hb:∀j,j<s.af.length->j≠i->(s.af[j]!).org≠none->∀x∈(s.af[j]!).xs,s'.bl[x]! = s.bl[x]!):fJ s':=by
 refine xP.2 fun v hm ho x hx=>?_
 rw[hv]at hm;obtain⟨j,hj,hne,rfl⟩:=PX hi hm;rw[hb j hj hne ho x (List.mem_of_mem_drop hx)];exact sp j hj ho x hx
theorem I7{w:World}{s:St}{fr:List Nat}{r:aQ}(hP:ai w s)(hG:Good s fr)(hsp:fJ s)(hrel:Rel s r)(hnd:r.foot.Nodup)(t:ByteArray) :
 Pair w s fr r 55 #[.pointer (some ⟨s.pb,0,none⟩),.string t] 56 #[.pointer (some ⟨r.rb,0,none⟩),.string t]:=by
 by_cases h1:s.has t=true
 case neg=>
  have h1':s.has t=false:=by simpa using h1
  exact Pair.no 4 (by omega) hP hG hsp hrel hnd (dn (JI s t w hP h1')) fun w1 hR=>dn (Aw r t w1 hR (hrel.rX hP h1'))
 obtain⟨hm,hnm,hp⟩:=St.aT h1;have hra:=hrel.oG hP h1;have hpc:=hrel.dN hP hG hm;rw[hnm]at hpc;by_cases h2:s.aY (s.aA t).vb=[]
 case neg=>
  refine Pair.no 8 (by omega) hP hG hsp hrel hnd (LV s t w hP h1 h2) fun w1 hR=>?_
  have hb:0<r.dN t r.af.length:=by rw[hpc];exact List.length_pos_iff.2 h2
  exact(AX r t _ w1 hR hra hb).mono fun e w2 h=>by
   first
    | exact h
    | exact⟨h.1,by rw[h.2];exact Same.refl _ _⟩
 have SE:r.dN t r.af.length=0:=by rw[hpc,h2];rfl
 refine⟨0,fun s' fr'=>∃g,s'={ s with m:=s.m+(s.aA t).xs.length,bl:=bM (s.aA t).xs s.bl,d:=fP s.m (s.aA t).xs s.d,ab:=some g,af:=aZ (posOf s.names t) s.af },by omega,by omega,(P9 s fr t w hP hG h1 h2).mono ?_,fun w1 hR=>(zK r t _ w1 hR hnd hra SE).mono ?_⟩
 ·rintro e w1 ⟨rfl,g,hA⟩;refine⟨rfl,_,_,hA,EL hP hG hsp hp rfl ?_,g,rfl⟩;intro j hj hne _ x hx;show(bM (s.af[posOf s.names t]!).xs s.bl)[x]! = _;rw[fK _ _ _ (by rw[hP.disk.len];exact hG.lt.2 _ (get_mem hj) x hx),if_neg (hG.dP hj hp hne hx)]
 ·rintro e w2 ⟨rfl,lg,hA⟩;refine⟨rfl,_,hA,?_⟩;rintro W s' fr' h' hG' ⟨g,rfl⟩;rw[Il hrel hP h1];refine OG (s:=s) r.af hrel.len hp ?_ ?_ ?_ lg
  ·rfl
  ·exact hrel.n
  ·exact fun j hj hne=>U6 hrel hP hG h' hp rfl rfl h2 j hj hne
theorem L9{w:World}{s:St}{fr:List Nat}{r:aQ}(hP:ai w s)(hG:Good s fr)(hsp:fJ s)(hrel:Rel s r)(hnd:r.foot.Nodup)(t:ByteArray) :
 Pair w s fr r 59 #[.pointer (some ⟨s.pb,0,none⟩),.string t] 60 #[.pointer (some ⟨r.rb,0,none⟩),.string t]:=by
 by_cases h1:s.has t=true
 case neg=>
  have h1':s.has t=false:=by simpa using h1
  exact Pair.no 4 (by omega) hP hG hsp hrel hnd (dn (KI s t w hP h1')) fun w1 hR=>dn (CB r t w1 hR (hrel.rX hP h1'))
 obtain⟨hm,hnm,hp⟩:=St.aT h1;have hra:=hrel.oG hP h1;have hrv:=hrel.aA h1;by_cases ho:(s.aA t).org=none
 ·exact Pair.no 7 (by omega) hP hG hsp hrel hnd (dn (Ny s t w hP h1 ho)) fun w1 hR=>dn (Dq r t _ w1 hR hra (hrel.F9 hp ho))
 obtain⟨hof,SG⟩:=hrel.Io hP hG hp ho;by_cases hl:(s.aA t).lost=true
 ·exact Pair.no 9 (by omega) hP hG hsp hrel hnd (dn (JQ s t w hP h1 ho hl)) fun w1 hR=>dn (Bl r t _ w1 hR hra SG (by rw[hrv.lost];exact hl))
 have hl':(s.aA t).lost=false:=by simpa using hl
 obtain⟨o1,o2,o3,o4⟩:=hP.aB hm;have hpc:=hrel.dN hP hG o1;have Y9:r.dN (r.af[posOf s.names t]!).bC r.af.length=(s.aY (s.aB (s.aA t)).vb).length:=by rw[hof];exact hpc
 by_cases hb:1<(s.aY (s.aB (s.aA t)).vb).length
 ·refine Pair.no 8 (by omega) hP hG hsp hrel hnd (J5 s t w hP h1 ho hl' hb) fun w1 hR=>?_
  exact(AO r t _ w1 hR hra SG (by rw[hrv.lost];exact hl') (by rw[Y9];exact hb)).mono fun e w2 h=>by
   first
    | exact h
    | exact⟨h.1,by rw[h.2];exact Same.refl _ _⟩
 obtain⟨iu,hiu,eu⟩:=dO o1;have ho4:=o4 ho;have hne:posOf s.names t≠iu:=fun e=>by
  rw[<-e]at eu;have:(s.aA t).org=none:=by show(s.af[posOf s.names t]!).org=none;rw[eu];exact o2
  exact ho this
 have hau:s.has (s.aB (s.aA t)).name=true:=by
  unfold St.has;exact(AB hP.iG _).2 (List.mem_map_of_mem o1)
 have aaA:r.oO (r.af[posOf s.names t]!).bC=some (r.af[iu]!):=by
  have e2:=hrel.oG hP hau;obtain⟨_,q2,q3⟩:=St.aT hau;have:posOf s.names (s.aB (s.aA t)).name=iu:=by
   by_cases e:posOf s.names (s.aB (s.aA t)).name=iu
   ·exact e
   ·refine absurd ?_ (jP hP q3 hiu e);rw[eu];exact q2
  rw[hof];rw[this]at e2;exact e2
 refine⟨0,fun s' fr'=>∃g,s'={ s with m:=s.m+(s.aA t).xs.length,bl:=bM (s.aA t).xs (jI (s.aB (s.aA t)) (s.aA t) s.bl (s.aA t).kept.length),d:=fP s.m (s.aA t).xs s.d,ab:=some g,af:=aZ (posOf s.names t) s.af },by omega,by omega,(QI s fr t _ _ w hP hG h1 rfl ho4 o1 hl' (by omega)).mono ?_,
  fun w1 hR=>(Hl r t (posOf s.names t) iu _ _ w1 hR hnd (by rw[hrel.len];exact hp) (by rw[hrel.len];exact hiu) hne rfl rfl hra SG (by rw[hrv.lost];exact hl') (by rw[Y9];omega) aaA (by rw[hrv.name];exact hnm)).mono ?_⟩
 ·rintro e w1 ⟨rfl,g,hA⟩;refine⟨rfl,_,_,hA,EL hP hG hsp hp rfl ?_,g,rfl⟩;intro j hj hnej hoj x hx;have hxl:x<s.bl.length:=by rw[hP.disk.len];exact hG.lt.2 _ (get_mem hj) x hx
  have hju:j≠iu:=fun e=>by rw[e,eu]at hoj;exact hoj o2
  show(bM (s.af[posOf s.names t]!).xs (jI (s.aB (s.aA t)) (s.aA t) s.bl (s.aA t).kept.length))[x]! = _;rw[fK _ _ _ (by rw[kF];exact hxl),if_neg (hG.dP hj hp hnej hx)];refine wu (s.aB (s.aA t)) (s.aA t) s.bl ((hG.dN _ hm).2.2 _ o1 ho4).1 x ?_ hxl _ (Nat.le_refl _);rw[<-eu];exact hG.dP hj hiu hju hx
 ·rintro e w2 ⟨rfl,lg,hA⟩;refine⟨rfl,_,hA,?_⟩;rintro W s' fr' h' hG' ⟨g,rfl⟩;have hlen:(r.af.set iu { (r.af[iu]!) with dg:=(r.af[posOf s.names t]!).dg,data:=(r.af[posOf s.names t]!).data }).length=s.af.length:=by rw[List.length_set];exact hrel.len
  have e:=Ai hrel hP h1 (r.af.set iu { (r.af[iu]!) with dg:=(r.af[posOf s.names t]!).dg,data:=(r.af[posOf s.names t]!).data }) hlen (fun j hj=>by
   rw[vT _ _ _ _ (by rw[hrel.len];exact hiu) (by rw[hrel.len];exact hj)]
   split
   ·rename_i e;rw[e];exact(hrel.each iu hiu).name
   ·exact(hrel.each j hj).name) r.rb r.lg r.n
  rw[hlen,<-hrel.len]at e;rw[show aQ.without { r with af:=r.af.set iu { (r.af[iu]!) with dg:=(r.af[posOf s.names t]!).dg,data:=(r.af[posOf s.names t]!).data } } t r.af.length=_ from e];refine OG (s:=s) _ hlen hp ?_ ?_ ?_ lg
  ·rfl
  ·exact hrel.n
  ·exact fun j hj hnej=>Nc hrel hP hG h' hp rfl hiu eu ho4 hl' (by omega) rfl rfl _ j hj hnej
end
end Go.Proofs.YtpddgdjocffgdaaGreat
