/- Packed: see the last text. -/
import Derived.Test.YtpddgdjocffgdaaGreatA15
import Derived.Test.YtpddgdjocffgdaaGreatA17
import Derived.Test.YtpddgdjocffgdaaGreatA12
import Derived.Test.YtpddgdjocffgdaaGreatA20
namespace Go.Proofs.YtpddgdjocffgdaaGreat
open Go.Proofs.Tryz
set_option linter.unusedVariables false
set_option linter.unusedSimpArgs false
set_option linter.unusedSectionVars false
set_option maxHeartbeats 16000000
set_option maxRecDepth 100000
section
open Go.RowKit Go.Sort
variable [DecidableEq aN] [Inhabited aN] [Inhabited aF] [Inhabited ay] [Inhabited aV]
theorem Iq{P:Program}{f:Func}{R R':Ending->World->Prop}(h:∀e w,R e w->R' e w):∀(e:Exit)(a:Act)(w:World),bodyPost P f R e a w->bodyPost P f R' e a w:=fun e a w hb=>by
 cases e with
 | normal=>obtain⟨h1,v,h2,h3⟩:=hb;exact⟨h1,v,h2,h _ _ h3⟩
 | ret=>obtain⟨h1,v,h2,h3⟩:=hb;exact⟨h1,v,h2,h _ _ h3⟩
 | panic c=>obtain⟨h1,h2⟩:=hb;exact⟨h1,h _ _ h2⟩
 | outgrown=>exact h _ _ hb
 | exit i=>exact hb
 | goto l=>exact hb
structure VG(n:Nat)(xs:List aV):Prop where
 few:xs.length<=20
 nle:n<=200
 org:∀x∈xs,∀o,x.e.origin=some o->o<xs.length
 size:∀x∈xs,x.e.size<=200
 bl:∀x∈xs,∀b∈x.e.xs,b<n
 len:∀x∈xs,1<=x.e.xs.length/\x.e.xs.length<=x.e.size
 aA:∀x∈xs,x.e.origin=none->x.e.xs.length=x.e.size/\x.e.kept=[]
 kept:∀x∈xs,(∀k∈x.e.kept,k<x.e.size)/\x.e.kept.length<=x.e.xs.length
def zh(B:List UInt8)(a2:Nat)(xs:List aV)(j:Nat):List ByteArray:=
 match (xs[j]!).e.origin with
 | none=>fA B a2 (xs[j]!).e.xs
 | some o=>oM B a2 xs[j]! (fA B a2 (xs[o]!).e.xs) (xs[j]!).e.kept.length
def kX(rb:Nat)(lp:Option Nat)(n:Nat)(xs:List aV)(ofs:List ByteArray)(ds:List (Value×List ByteArray)):aQ:=
 ⟨rb,lp,n,(List.range xs.length).map fun j=>⟨(xs[j]!).vb,((ds[j]!).1.ownBlock).getD 0,(xs[j]!).bg,(xs[j]!).kg,(xs[j]!).e.name,ofs[j]!,(ds[j]!).2,(xs[j]!).e.xs,(xs[j]!).e.kept,(xs[j]!).e.lost⟩⟩
theorem RH(rb:Nat)(lp:Option Nat)(n:Nat)(xs:List aV)(ofs:List ByteArray)(ds:List (Value×List ByteArray))(j:Nat)(hj:j<xs.length):(kX rb lp n xs ofs ds).af[j]! = ⟨(xs[j]!).vb,((ds[j]!).1.ownBlock).getD 0,(xs[j]!).bg,(xs[j]!).kg,(xs[j]!).e.name,ofs[j]!,(ds[j]!).2,(xs[j]!).e.xs,(xs[j]!).e.kept,(xs[j]!).e.lost⟩:=by
 unfold kX;rw[getElem!_pos _ j (by simpa using hj)];simp
structure vM(w0 w':World)(B:List UInt8)(a1 n:Nat)(xs:List aV)(rb:Nat)(r:aQ):Prop where
 ref:aO w' r
 erb:r.rb=rb
 en:r.n=n
 len:r.af.length=xs.length
 each:∀j,j<xs.length->(r.af[j]!).name=(xs[j]!).e.name/\(r.af[j]!).bC=(gG xs xs.length)[j]!/\(r.af[j]!).data=zh B a1 xs j/\(r.af[j]!).blocks=(xs[j]!).e.xs/\(r.af[j]!).kept=(xs[j]!).e.kept/\(r.af[j]!).lost=(xs[j]!).e.lost
 nodup:r.foot.Nodup
 new:∀k∈r.foot,w0.heap.size<=k
inductive nY (w0 w':World) (sb:Nat) (B:List UInt8) (a1 n:Nat) (xs:List aV) (rb:Nat):Prop where
 | join (q:Nat) (h:dR xs xs.length=some q) (sc:bY w0 w' sb B a1 (some q)):nY w0 w' sb B a1 n xs rb
 | short (h:dR xs xs.length=none) (hl:¬a1+8*n<=B.length) (sc:bY w0 w' sb B a1 (some B.length)):nY w0 w' sb B a1 n xs rb
 | full (r:aQ) (h:dR xs xs.length=none) (hl:a1+8*n<=B.length) (ok:vM w0 w' B a1 n xs rb r) (sc:bY w0 w' sb B (a1+8*n) (aX (eF B r a1 n none) (decide (a1+8*n=B.length)) (a1+8*n))):nY w0 w' sb B a1 n xs rb
theorem Bj(xs:List aV):∀i,i<=xs.length->dR xs i=none->∀j,j<i->∀o,(xs[j]!).e.origin=some o->(xs[o]!).e.origin=none/\(xs[o]!).e.size=(xs[j]!).e.size
 | 0,_,_,j,hj,_,_=>by omega
 | i+1,hi,h,j,hj,o,ho=>by
  unfold dR at h;cases h1:dR xs i with
  | some q=>rw[h1]at h;cases h
  | none=>
   rw[h1]at h;by_cases e:j=i
   ·subst e;rw[ho]at h;simp only at h;by_cases hc:(xs[o]!).e.origin=none/\(xs[o]!).e.size=(xs[j]!).e.size
    ·exact hc
    ·rw[if_neg hc]at h;cases h
   ·exact Bj xs i (by omega) h1 j (by omega) o ho
theorem Rows.raise{w:World}{base base':Nat}{xs:List aV}{ofs:List ByteArray}(h:Rows w base xs ofs (List.replicate xs.length (.slice none 0 0,[])))(hb:base<=base'):Rows w base' xs ofs (List.replicate xs.length (.slice none 0 0,[])):=by
 refine⟨h.fix,h.aA,fun j hj=>?_,h.apart,h.nodup,fun x hx q hq=>by have:=h.low x hx q hq;omega,h.lo,h.ld⟩;rw[getElem!_pos _ j (by simpa using hj),List.getElem_replicate];exact World.ownsRow_nil _ _ _ _
theorem EP(xs:List aV)(n:Nat)(hn:VG n xs)(hnm:∀x∈xs,x.e.name≠⟨#[]⟩)(j:Nat)(hj:j<xs.length):((gG xs xs.length)[j]! = ⟨#[]⟩↔(xs[j]!).e.origin=none):=by
 unfold gG;rw[getElem!_pos _ j (by simpa using hj)];simp only[List.getElem_map,List.getElem_range,if_pos hj];cases ho:(xs[j]!).e.origin with
 | none=>simp
 | some o=>
  simp only[reduceCtorEq,iff_false];have:=hn.org _ (by rw[getElem!_pos xs j hj];exact List.getElem_mem hj) o ho;exact hnm _ (by rw[getElem!_pos xs o this];exact List.getElem_mem this)
structure TQ(w0 W:World)(sb rb:Nat)(lp:Option Nat)(pU n:Nat)(xs:List aV):Prop where
 pool:At W rb 84 [.int .i64 (n:Int),.slice (lp.map fun b=>⟨b,0,none⟩) xs.length pU]
 cap:xs.length<=pU/\(lp=none->xs=[]/\pU=0)
 list:∀b,lp=some b->∃cs,At W b 115 cs/\cs.take xs.length=xs.map (fun x=>ptr x.vb)/\xs.length<=cs.length
 rbs:rb≠sb/\w0.heap.size<=rb/\∀x∈xs,rb∉x.foot
 lps:∀b,lp=some b->b≠sb/\b≠rb/\w0.heap.size<=b/\∀x∈xs,b∉x.foot
theorem TJ{w0 W V wd:World}{sb rb:Nat}{lp:Option Nat}{pU n a1:Nat}{B:List UInt8}{xs:List aV}{ds:List (Value×List ByteArray)}(hP:TQ w0 W sb rb lp pU n xs)(hX:VG n xs)(hj:dR xs xs.length=none)(hS:Same (sb::xs.map (·.vb)) W V)(h:kR V wd B a1 xs (gG xs xs.length) xs.length ds none)(hvw:∀x∈xs,∀q∈x.foot,w0.heap.size<=q)(hw0:w0.heap.size<=V.heap.size):vM w0 wd B a1 n xs rb (kX rb lp n xs (gG xs xs.length) ds):=by
 have hm:∀j,j<xs.length->xs[j]!∈xs:=fun j hj=>by rw[getElem!_pos xs j hj];exact List.getElem_mem hj
 have hvm:∀q,(∀x∈xs,q∉x.foot)->q∉xs.map (·.vb):=fun q hq hqm=>by
  obtain⟨x,hx,rfl⟩:=List.mem_map.1 hqm;exact hq x hx (by simp[aV.foot])
 have hS2:=h.same;have WS:∀j,j<xs.length->(ds[j]!).2=zh B a1 xs j:=fun j hj=>by
  unfold zh;cases ho:(xs[j]!).e.origin with
  | none=>exact h.aA j hj ho
  | some o=>exact h.done j hj hj o ho
 have hlen:∀j,j<xs.length->1<=(ds[j]!).2.length/\(ds[j]!).2.length<=200:=fun j hj=>by
  rw[WS j hj];unfold zh;cases ho:(xs[j]!).e.origin with
  | none=>
   simp only[fA,List.length_map];have h1:=hX.len _ (hm j hj);have h2:=hX.size _ (hm j hj);omega
  | some o=>
   simp only[iF,fA,List.length_map];have hol:=hX.org _ (hm j hj) o ho;have h1:=hX.len _ (hm o hol);have h2:=hX.size _ (hm o hol);omega
 have hblk:∀j,j<xs.length->∃g cap cs,(ds[j]!).1=.slice (some ⟨g,0,none⟩) (ds[j]!).2.length cap/\(ds[j]!).1.ownBlock=some g/\V.heap.size<=g/\At wd g 9 cs/\cs.length=cap/\cs.take (ds[j]!).2.length=(ds[j]!).2.map Value.string/\(ds[j]!).2.length<=cap/\cap<=maxLen:=fun j hj=>by
  have hr:=h.rows.dat j hj;obtain⟨g,cap,e,h1,h2⟩:=owns_block hr (hlen j hj).1;rw[e]at hr;obtain⟨g',cs,e1,e2,e3,e4,e5,e6⟩:=jk hr (by have:=(hlen j hj).1;omega);obtain rfl:g=g':=by simpa using e1
  exact⟨g,cap,cs,e,by rw[e];rfl,e2,e3,e5,e6,h1,h2⟩
 have hrb:=hP.rbs;have Ov:∀v∈(kX rb lp n xs (gG xs xs.length) ds).af,∃j,j<xs.length/\v=⟨(xs[j]!).vb,((ds[j]!).1.ownBlock).getD 0,(xs[j]!).bg,(xs[j]!).kg,(xs[j]!).e.name,(gG xs xs.length)[j]!,(ds[j]!).2,(xs[j]!).e.xs,(xs[j]!).e.kept,(xs[j]!).e.lost⟩:=fun v hv=>by
  unfold kX at hv;obtain⟨j,hj,rfl⟩:=List.mem_map.1 hv;exact⟨j,List.mem_range.1 hj,rfl⟩
 have hlenV:(kX rb lp n xs (gG xs xs.length) ds).af.length=xs.length:=by simp[kX]
 refine⟨⟨⟨pU,?_,by rw[hlenV];exact hP.cap.1,fun hn=>?_⟩,fun b hb=>?_,fun v hv=>?_,by rw[hlenV];exact hX.few,hX.nle⟩,rfl,rfl,hlenV,fun j hj=>?_,?_,?_⟩
 ·rw[hlenV];exact hS2.at (hS.at hP.pool (by simp only[List.mem_cons,not_or];exact⟨hrb.1,hvm _ hrb.2.2⟩)) (hvm _ hrb.2.2)
 ·have h1:=hP.cap.2 hn;refine⟨?_,h1.2⟩;simp[kX,h1.1]
 ·obtain⟨cs,h1,h2,h3⟩:=hP.list b hb;have hbn:=hP.lps b hb;refine⟨cs,hS2.at (hS.at h1 (by simp only[List.mem_cons,not_or];exact⟨hbn.1,hvm _ hbn.2.2.2⟩)) (hvm _ hbn.2.2.2),?_,by rw[hlenV];exact h3⟩;rw[hlenV,h2];apply List.ext_getElem
  ·simp[kX]
  ·intro j h4 h5;have hjx:j<xs.length:=by simpa using h4
   simp only[kX,List.getElem_map,List.getElem_range];rw[getElem!_pos xs j hjx]
 ·obtain⟨j,hj,rfl⟩:=Ov v hv;obtain⟨g,cap,cs,e1,e2,e3,e4,e5,e6,e7,e8⟩:=hblk j hj;have hf:=h.rows.fix j hj;have hv':=h.rows.aA j hj;have h1:=hX.len _ (hm j hj);have h2:=hX.size _ (hm j hj);have h3:=hX.kept _ (hm j hj);refine⟨⟨cap,(xs[j]!).bc,(xs[j]!).kc,?_,?_,hf.bl,hf.ke.1,hf.ke.2⟩,(hlen j hj).2,by show(xs[j]!).e.xs.length<=200;omega,by show(xs[j]!).e.kept.length<=200;omega⟩
  ·rw[e1]at hv';rw[e2];exact hv'
  ·rw[e2];exact⟨cs,e4,e5,e6,e7,e8⟩
 ·rw[RH _ _ _ _ _ _ j hj];exact⟨rfl,rfl,WS j hj,rfl,rfl,rfl⟩
 ·have hlow:∀x∈xs,∀q∈x.foot,q<V.heap.size:=h.rows.low;have hrbV:rb<V.heap.size:=(hS.at hP.pool (by simp only[List.mem_cons,not_or];exact⟨hrb.1,hvm _ hrb.2.2⟩)).lt;have WT:∀q∈(kX rb lp n xs (gG xs xs.length) ds).af.flatMap ay.foot,(∃x∈xs,q∈x.foot)\/V.heap.size<=q:=fun q hq=>by
   obtain⟨v,hv,hqv⟩:=List.mem_flatMap.1 hq;obtain⟨j,hj,rfl⟩:=Ov v hv;obtain⟨g,cap,cs,e1,e2,e3,_⟩:=hblk j hj;simp only[ay.foot,List.mem_cons,e2,Option.getD_some]at hqv;rcases hqv with e|e|e|e
   ·exact Or.inl ⟨_,hm j hj,by rw[e];simp[aV.foot]⟩
   ·exact Or.inr (by rw[e];exact e3)
   ·exact Or.inl ⟨_,hm j hj,by rw[e];simp[aV.foot]⟩
   ·exact Or.inl ⟨_,hm j hj,by simp only[aV.foot,List.mem_cons];exact Or.inr (Or.inr (Or.inr e))⟩
  show(rb::(lp.toList++(kX rb lp n xs (gG xs xs.length) ds).af.flatMap ay.foot)).Nodup;rw[List.nodup_cons];refine⟨fun hmem=>?_,?_⟩
  ·rcases List.mem_append.1 hmem with h1|h1
   ·have hb:lp=some rb:=by simpa using h1
    exact(hP.lps rb hb).2.1 rfl
   ·rcases WT rb h1 with⟨x,hx,hq⟩|h2
    ·exact hrb.2.2 x hx hq
    ·omega
  ·rw[List.nodup_append];refine⟨?_,?_,?_⟩
   ·cases lp<;>simp
   ·refine List.pairwise_flatMap.2 ⟨fun v hv=>?_,?_⟩
    ·show(ay.foot v).Nodup;obtain⟨j,hj,rfl⟩:=Ov v hv;obtain⟨g,cap,cs,e1,e2,e3,_⟩:=hblk j hj;have hn1:=qM h.rows.nodup hj;have hl1:=hlow _ (hm j hj);simp only[aV.foot,List.nodup_cons,List.mem_cons,not_or]at hn1;simp only[ay.foot,e2,Option.getD_some,List.nodup_cons,List.mem_cons,not_or];have l1:=hl1 (xs[j]!).vb (by simp[aV.foot]);have l2:=hl1 (xs[j]!).bg (by simp[aV.foot]);refine⟨⟨by omega,hn1.2.1.1,hn1.2.1.2⟩,⟨by omega,fun hk=>?_⟩,hn1.2.2.1,hn1.2.2.2⟩;have:=hl1 g (by simp only[aV.foot,List.mem_cons];exact Or.inr (Or.inr (Or.inr hk)));omega
    ·unfold kX;simp only;rw[List.pairwise_map];refine List.Pairwise.imp_of_mem (R:=fun a b=>a<b) ?_ (List.pairwise_lt_range);intro i j hi hj hij;have hi:=List.mem_range.1 hi;have hj:=List.mem_range.1 hj;obtain⟨g,cap,cs,e1,e2,e3,_⟩:=hblk i hi;obtain⟨g',cap',cs',e1',e2',e3',_⟩:=hblk j hj;intro a ha b hb hab;subst hab;simp only[ay.foot,e2,e2',Option.getD_some,List.mem_cons]at ha hb;have hfi:∀q,(q=(xs[i]!).vb\/q=(xs[i]!).bg\/q∈(xs[i]!).kg.toList)->q∈(xs[i]!).foot:=fun q hq=>by
      simp only[aV.foot,List.mem_cons];exact Or.inr (hq.imp id (fun h=>h.imp id id))
     have hfj:∀q,(q=(xs[j]!).vb\/q=(xs[j]!).bg\/q∈(xs[j]!).kg.toList)->q∈(xs[j]!).foot:=fun q hq=>by
      simp only[aV.foot,List.mem_cons];exact Or.inr (hq.imp id (fun h=>h.imp id id))
     have hap:=fun(h1:a∈(xs[i]!).foot) (h2:a∈(xs[j]!).foot)=>nP h.rows.nodup hi hj (by omega) h1 h2
     have ha':a=g\/(a=(xs[i]!).vb\/a=(xs[i]!).bg\/a∈(xs[i]!).kg.toList):=by
      rcases ha with e|e|e|e
      ·exact Or.inr (Or.inl e)
      ·exact Or.inl e
      ·exact Or.inr (Or.inr (Or.inl e))
      ·exact Or.inr (Or.inr (Or.inr e))
     have hb':a=g'\/(a=(xs[j]!).vb\/a=(xs[j]!).bg\/a∈(xs[j]!).kg.toList):=by
      rcases hb with e|e|e|e
      ·exact Or.inr (Or.inl e)
      ·exact Or.inl e
      ·exact Or.inr (Or.inr (Or.inl e))
      ·exact Or.inr (Or.inr (Or.inr e))
     rcases ha' with ha'|ha'<;>rcases hb' with hb'|hb'
     ·exact h.rows.apart i j hi hj (by omega) g e2 (by rw[e2',<-hb',ha'])
     ·have:=hlow _ (hm j hj) a (hfj a hb');omega
     ·have:=hlow _ (hm i hi) a (hfi a ha');omega
     ·exact hap (hfi a ha') (hfj a hb')
   ·intro a ha b hb hab;subst hab;have hl:lp=some a:=by simpa using ha
    have hpl:=hP.lps a hl;rcases WT a hb with⟨x,hx,hq⟩|h2
    ·exact hpl.2.2.2 x hx hq
    ·obtain⟨cs,h1,_⟩:=hP.list a hl;have:=(hS.at h1 (by simp only[List.mem_cons,not_or];exact⟨hpl.1,hvm _ hpl.2.2.2⟩)).lt;omega
 ·intro k hk;simp only[aQ.foot,List.mem_cons,List.mem_append]at hk;rcases hk with e|e|e
  ·rw[e];exact hrb.2.1
  ·have hl:lp=some k:=by simpa [kX] using e
   exact(hP.lps k hl).2.2.1
  ·obtain⟨v,hv,hqv⟩:=List.mem_flatMap.1 e;obtain⟨j,hj,rfl⟩:=Ov v hv;obtain⟨g,cap,cs,e1,e2,e3,_⟩:=hblk j hj;simp only[ay.foot,List.mem_cons,e2,Option.getD_some]at hqv;have hf:=hvw _ (hm j hj);rcases hqv with e|e|e|e
   ·exact hf k (by rw[e];simp[aV.foot])
   ·rw[e];omega
   ·exact hf k (by rw[e];simp[aV.foot])
   ·exact hf k (by simp only[aV.foot,List.mem_cons];exact Or.inr (Or.inr (Or.inr e)))
theorem UH(w0 W:World)(sb rb:Nat)(la:Option Addr)(lc:Nat)(lp:Option Nat)(pU:Nat)(B:List UInt8)(xs:List aV)(a1 n:Nat)(hl:B.length<=140737488355328)(hSc:bY w0 W sb B a1 none)(hR:Rows W W.heap.size xs (gG xs 0) (List.replicate xs.length (.slice none 0 0,[])))(hE:oD W la xs)(hlg:∀lg,la=some ⟨lg,0,none⟩->lg∉sb::xs.map (·.vb))(hsb:∀x∈xs,sb∉x.foot)(hX:VG n xs)(hnm:∀x∈xs,x.e.name≠⟨#[]⟩)(hvw:∀x∈xs,∀q∈x.foot,w0.heap.size<=q)(hP:TQ w0 W sb rb lp pU n xs) :
 Calls prog 112 #[.pointer (some ⟨sb,0,none⟩),.slice la xs.length lc,.pointer (some ⟨rb,0,none⟩)] W fun e w'=>e=.returned (.tuple #[])/\nY w0 w' sb B a1 n xs rb:=by
 have hm:∀j,j<xs.length->xs[j]!∈xs:=fun j hj=>by rw[getElem!_pos xs j hj];exact List.getElem_mem hj
 have aaZ:sb∉xs.map (·.vb):=fun hq=>by
  obtain⟨x,hx,e⟩:=List.mem_map.1 hq;exact hsb x hx (by rw[<-e];simp[aV.foot])
 have aa0:rb∉sb::xs.map (·.vb):=by
  simp only[List.mem_cons,not_or];refine⟨hP.rbs.1,fun hq=>?_⟩;obtain⟨x,hx,e⟩:=List.mem_map.1 hq;exact hP.rbs.2.2 x hx (by rw[<-e];simp[aV.foot])
 refine NV w0 W sb rb W.heap.size la lc B xs a1 n _ hl ⟨hR,hSc,Same.refl _ _⟩ hE hlg hsb hSc.cell.lt hX.org hX.few (fun x hx=>by have:=hX.size x hx;omega) (fun x hx=>hvw x hx _ (by simp[aV.foot])) hP.pool rfl aa0 hX.nle _ (fun w' q hq hs _=>⟨rfl,?_⟩) ?_
 ·rcases hq with hq|⟨hq,hn,rfl⟩
  ·exact .join q hq hs
  ·exact .short hq hn hs
 ·iterate 325 intro _
  intro V hj hle hV
  obtain⟨hRV,YB,hSV⟩:=hV.out;have hw0:w0.heap.size<=V.heap.size:=YB.same.size;have hp:∀x∈xs,∀o,x.e.origin=some o->o<xs.length/\(xs[o]!).e.origin=none/\1<=(xs[o]!).e.xs.length/\(∀k∈x.e.kept,k<(xs[o]!).e.xs.length)/\x.e.kept.length<=x.e.xs.length:=fun x hx o ho=>by
   have hol:=hX.org x hx o ho;obtain⟨j,hjl,hje⟩:=List.getElem_of_mem hx;have e:xs[j]! = x:=by rw[getElem!_pos xs j hjl];exact hje
   obtain⟨h1,h2⟩:=Bj xs _ (Nat.le_refl _) hj j hjl o (by rw[e];exact ho);rw[e]at h2;have h3:=hX.aA _ (hm o hol) h1;refine⟨hol,h1,(hX.len _ (hm o hol)).1,fun k hk=>?_,(hX.kept x hx).2⟩;rw[h3.1,h2];exact(hX.kept x hx).1 k hk
  have hEV:oD V la xs:=⟨fun hne=>by
   obtain⟨lg,cs,h1,h2,h3⟩:=hE.ex hne;exact⟨lg,cs,h1,hSV.at h2 (hlg lg h1),h3⟩⟩
  have ZT:∀lg,la=some ⟨lg,0,none⟩->lg∉xs.map (·.vb):=fun lg e hq=>hlg lg e (List.mem_cons_of_mem _ hq)
  have hx2:∀x∈xs,x.e.xs.length<=200:=fun x hx=>by have:=hX.len x hx;have:=hX.size x hx;omega
  refine QZ _ _ _ _ _ _ _ _ _ _ _ _ _ _ _ _ _ _ _ _ _ _ _ _ _ _ _ _ _ _ _ _ _ _ _ _ _ _ _ _ _ _ _ _ _ _ _ _ _ _ _ _ _ _ _ _ _ _ _ _ _ _ _ _ _ _ _ _ _ _ _ _ _ _ _ _ _ _ _ _ _ _ _ _ _ _ _ _ _ _ _ _ _ _ _ _ _ _ _ _ _ _ _ _ _ _ _ _ _ _ _ _ _ _ _ _ _ _ _ _ _ _ _ _ _ _ _ _ _ _ _ _ _ _ _ _ _ _ _ _ _ _ _ _ _ _ _ _ _ _ _ _ _ _ _ _ _ _ _ _ _ _ _ _ _ _ _ _ _ _ _ _ _ _ _ _ _ _ _ _ _ _ _ _ _ _ _ _ _ _ _ _ _ _ _ _ _ _ _ _ _ _ _ _ _ _ _ _ _ _ _ _ _ _ _ _ _ _ _ _ _ _ _ _ _ _ _ _ _ _ _ _ _ _ _ _ _ _ _ _ _ _ _ _ _ _ _ _ _ _ _ _ _ _ _ _ _ _ _ _ _ _ _ _ _ _ _ _ _ _ _ _ _ _ _ _ _ _ _ _ _ _ _ _ _ _ _ _ _ _ _ _ _ _ _ _ _ _ _ _ _ _ _ _ _ _ _ _ _ _ _ _ _ _ _ _ _ _ _ _ _ _ _ _ _ w0 V V sb rb la lc B xs (gG xs xs.length) n a1 [] hl YB hle (Same.refl _ _) hEV ZT (hRV.raise hSV.size) hX.bl hx2 hX.nle hX.few _ ?_
  iterate 325 intro _
  intro V1 ds1 hV1
  refine QV _ _ _ _ _ _ _ _ _ _ _ _ _ _ _ _ _ _ _ _ _ _ _ _ _ _ _ _ _ _ _ _ _ _ _ _ _ _ _ _ _ _ _ _ _ _ _ _ _ _ _ _ _ _ _ _ _ _ _ _ _ _ _ _ _ _ _ _ _ _ _ _ _ _ _ _ _ _ _ _ _ _ _ _ _ _ _ _ _ _ _ _ _ _ _ _ _ _ _ _ _ _ _ _ _ _ _ _ _ _ _ _ _ _ _ _ _ _ _ _ _ _ _ _ _ _ _ _ _ _ _ _ _ _ _ _ _ _ _ _ _ _ _ _ _ _ _ _ _ _ _ _ _ _ _ _ _ _ _ _ _ _ _ _ _ _ _ _ _ _ _ _ _ _ _ _ _ _ _ _ _ _ _ _ _ _ _ _ _ _ _ _ _ _ _ _ _ _ _ _ _ _ _ _ _ _ _ _ _ _ _ _ _ _ _ _ _ _ _ _ _ _ _ _ _ _ _ _ _ _ _ _ _ _ _ _ _ _ _ _ _ _ _ _ _ _ _ _ _ _ _ _ _ _ _ _ _ _ _ _ _ _ _ _ _ _ _ _ _ _ _ _ _ _ _ _ _ _ _ _ _ _ _ _ _ _ _ _ _ _ _ _ _ _ _ _ _ _ _ _ _ _ _ _ _ _ _ _ _ _ _ _ _ _ _ _ _ _ _ _ _ _ _ _ _ V V1 sb rb la lc B xs (gG xs xs.length) ds1 n a1 hle hV1.out hEV ZT hX.bl hx2 hX.nle hX.few hp _ ?_
  iterate 325 intro _
  intro V2 ds2 hV2
  have hok:=TJ hP hX hj hSV hV2.out hvw hw0;have hS2:Same (sb::xs.map (·.vb)) W V2:=hSV.step hV2.out.same (fun k hk _=>List.mem_cons_of_mem _ hk);have aa1:bY w0 V2 sb B (a1+8*n) none:=YB.next hV2.out.same aaZ (fun k hk=>by
   obtain⟨x,hx,rfl⟩:=List.mem_map.1 hk;exact hvw x hx _ (by simp[aV.foot]))
  have aa2:sb∉(kX rb lp n xs (gG xs xs.length) ds2).foot:=fun hq=>by
   have hlt:=hSc.cell.lt;simp only[aQ.foot,List.mem_cons,List.mem_append]at hq;rcases hq with e|e|e
   ·exact hP.rbs.1 e.symm
   ·have h1:lp=some sb:=by simpa [kX] using e
    exact(hP.lps sb h1).1 rfl
   ·obtain⟨v,hv,hqv⟩:=List.mem_flatMap.1 e;obtain⟨j,hj',rfl⟩:=List.mem_map.1 hv;have hjl:=List.mem_range.1 hj';have hlen:0<(ds2[j]!).2.length:=by
     have:=hV2.out.rows.dat j hjl;have h1:=hX.len _ (hm j hjl);cases ho:(xs[j]!).e.origin with
     | none=>rw[hV2.out.aA j hjl ho,fA,List.length_map];omega
     | some o=>
      rw[hV2.out.done j hjl hjl o ho,iF,fA,List.length_map];have:=hX.len _ (hm o (hX.org _ (hm j hjl) o ho));omega
    obtain⟨g,cap,e1,_⟩:=owns_block (hV2.out.rows.dat j hjl) hlen;have e2:(ds2[j]!).1.ownBlock=some g:=by rw[e1];rfl
    have h3:=aI (hV2.out.rows.dat j hjl) g e2;have h4:=hSV.size;simp only[ay.foot,List.mem_cons,e2,Option.getD_some]at hqv;have hf:=hsb _ (hm j hjl);rcases hqv with e|e|e|e
    ·exact hf (by rw[e];simp[aV.foot])
    ·omega
    ·exact hf (by rw[e];simp[aV.foot])
    ·exact hf (by simp only[aV.foot,List.mem_cons];exact Or.inr (Or.inr (Or.inr e)))
  have hd:∀v∈(kX rb lp n xs (gG xs xs.length) ds2).af,(v.bC=⟨#[]⟩->v.blocks.length<=v.data.length)/\(v.bC≠⟨#[]⟩->∀x∈v.kept,x<v.data.length):=fun v hv=>by
   obtain⟨j,hj',rfl⟩:=List.mem_map.1 hv;have hjl:=List.mem_range.1 hj';have hof:=EP xs n hX hnm j hjl;refine⟨fun h1=>?_,fun h1 x hx=>?_⟩
   ·show(xs[j]!).e.xs.length<=(ds2[j]!).2.length;rw[hV2.out.aA j hjl (hof.1 h1),fA,List.length_map];exact Nat.le_refl _
   ·show x<(ds2[j]!).2.length;cases ho:(xs[j]!).e.origin with
    | none=>exact absurd (hof.2 ho) h1
    | some o=>
     rw[hV2.out.done j hjl hjl o ho,iF,fA,List.length_map];exact(hp _ (hm j hjl) o ho).2.2.2.1 x hx
  refine Code.wp_mono (Iq ?_) (JM _ _ _ _ _ undef undef _ _ _ _ _ _ _ _ _ _ _ _ _ _ _ _ _ _ _ _ _ _ _ _ _ _ _ _ _ _ _ _ _ _ _ _ _ _ _ _ _ _ _ _ _ _ _ _ _ _ _ _ _ _ _ _ _ _ _ _ _ _ _ _ _ _ _ _ _ _ _ _ _ _ _ _ _ _ _ _ _ _ _ _ _ _ _ _ _ _ _ _ _ _ _ _ _ _ _ _ _ _ _ _ _ _ _ _ _ _ _ _ _ _ _ _ _ _ _ _ _ _ _ _ _ _ _ _ _ _ _ _ _ _ _ _ _ _ _ _ _ _ _ _ _ _ _ _ _ _ _ _ _ _ _ _ _ _ _ _ _ _ _ _ _ _ _ _ _ _ _ _ _ _ _ _ _ _ _ _ _ _ _ _ _ _ _ _ _ _ _ _ _ _ _ _ _ _ _ _ _ _ _ _ _ _ _ _ _ _ _ _ _ _ _ _ _ _ _ _ _ _ _ _ _ _ _ _ _ _ _ _ _ _ _ _ _ _ _ _ _ _ _ _ _ _ _ _ _ _ _ _ _ _ _ _ _ _ _ _ _ _ _ _ _ _ _ _ _ _ _ _ _ _ _ _ _ _ _ _ _ _ _ _ _ _ _ _ _ _ _ _ _ _ _ _ _ _ _ _ _ _ _ _ _ _ _ _ _ _ _ _ _ _ _ _ _ _ _ _ w0 W V2 sb (.slice la xs.length lc) B (kX rb lp n xs (gG xs xs.length) ds2) a1 none (xs.map (·.vb)) hl aa1 hle hS2 hok.ref aa2 hd);rintro e w' ⟨rfl,h1,h2,h3⟩;exact⟨rfl,.full _ hj hle ⟨h3,hok.erb,hok.en,hok.len,hok.each,hok.nodup,hok.new⟩ h1⟩
end
section
open Go.RowKit Go.Sort
variable [DecidableEq aN] [Inhabited aN] [Inhabited aF] [Inhabited ay]
theorem iZ{B:List UInt8}{n lo hi at_ v at1:Nat}(h:bJ B n lo hi at_=.ok (v,at1)):bF B n at_ none=(v,at1,none)/\lo<=v/\v<=hi:=by
 obtain⟨h1,h2,h3,h4,h5⟩:=dJ h;refine⟨?_,h2,h3⟩;unfold bF;simp only;rw[if_pos h1,h4,h5]
theorem lK{B:List UInt8}{n lo hi at_ q:Nat}(h:bJ B n lo hi at_=.error q)(ok:Bool)(hok:(lo<=(bF B n at_ none).1/\(bF B n at_ none).1<=hi)↔ok=true):aX (bF B n at_ none).2.2 ok at_=some q:=by
 unfold bJ at h;unfold bF at hok ⊢;simp only at hok ⊢;by_cases h1:at_+n<=B.length
 ·rw[if_pos h1]at h hok ⊢;by_cases h2:lo<=numAt B at_ n/\numAt B at_ n<=hi
  ·rw[if_pos h2]at h;cases h
  ·rw[if_neg h2]at h;obtain rfl:at_=q:=by simpa using h
   have:ok=false:=by cases ok with|false=>rfl|true=>exact absurd (hok.2 rfl) h2
   subst this;rfl
 ·rw[if_neg h1]at h ⊢;obtain rfl:B.length=q:=by simpa using h
  rfl
theorem vK(k at_:Nat)(q:Nat):∀l:List Nat,lZ k at_ l (some q)=some q
 | []=>rfl
 | y::r=>by show lZ k at_ r (aX (some q) _ at_)=some q;exact vK k at_ q r
theorem uY(k at_:Nat):∀l:List Nat,lZ k at_ l none=if k∈l then some at_ else none
 | []=>rfl
 | y::r=>by
  show lZ k at_ r (aX none (decide (y≠k)) at_)=_;by_cases h:y=k
  ·subst h;have:aX none (decide (y≠y)) at_=some at_:=by simp[aX]
   rw[this,vK,if_pos (by simp)]
  ·have:aX none (decide (y≠k)) at_=none:=by simp[aX,h]
   rw[this,uY k at_ r];have hk:(k∈y::r)↔(k∈r):=by simp;intro e;exact absurd e.symm h
   by_cases hr:k∈r
   ·rw[if_pos hr,if_pos (hk.2 hr)]
   ·rw[if_neg hr,if_neg (fun e=>hr (hk.1 e))]
theorem jZ(B:List UInt8)(bound:Nat)(c:Nat)(l:List Nat)(a q:Nat):gK B bound c l a (some q)=(l,a,some q):=by
 cases c<;>rfl
theorem wJ{B:List UInt8}{bound:Nat}(hb:0<bound):∀{c:Nat} {seen acc:List Nat} {at_:Nat} {xs:List Nat} {at1:Nat},cZ B bound c seen acc at_=.ok (xs,at1)->gK B bound c (seen++acc) at_ none=(seen++xs,at1,none)
 | 0,seen,acc,at_,xs,at1,h=>by
  obtain⟨rfl,rfl⟩:acc=xs/\at_=at1:=by simpa [cZ] using h
  rfl
 | c+1,seen,acc,at_,xs,at1,h=>by
  rw[cZ]at h;cases hr:bJ B 2 0 (bound-1) at_ with
  | error q=>rw[hr]at h;cases h
  | ok p=>
   obtain⟨k,a1⟩:=p;rw[hr]at h;simp only at h;obtain⟨e1,e2,e3⟩:=iZ hr;by_cases hk:k∈seen++acc
   ·rw[if_pos hk]at h;cases h
   ·rw[if_neg hk]at h;rw[gK,e1];simp only;have hm:aX none (decide (k<bound)) at_=none:=by
     have:k<bound:=by omega
     simp[aX,this]
    rw[hm,uY,if_neg hk,List.append_assoc];exact wJ hb h
theorem wK{B:List UInt8}{bound:Nat}(hb:0<bound):∀{c:Nat} {seen acc:List Nat} {at_:Nat} {q:Nat},cZ B bound c seen acc at_=.error q->(gK B bound c (seen++acc) at_ none).2.2=some q
 | 0,seen,acc,at_,q,h=>by simp[cZ]at h
 | c+1,seen,acc,at_,q,h=>by
  rw[cZ]at h;rw[gK];cases hr:bJ B 2 0 (bound-1) at_ with
  | error q'=>
   rw[hr]at h;obtain rfl:q'=q:=by simpa using h
   have:=lK hr (decide ((bF B 2 at_ none).1<bound)) (by simp;omega);rw[this,vK,jZ]
  | ok p=>
   obtain⟨k,a1⟩:=p;rw[hr]at h;simp only at h;obtain⟨e1,e2,e3⟩:=iZ hr;rw[e1];simp only;have hm:aX none (decide (k<bound)) at_=none:=by
    have:k<bound:=by omega
    simp[aX,this]
   rw[hm,uY];by_cases hk:k∈seen++acc
   ·rw[if_pos hk]at h ⊢;obtain rfl:at_=q:=by simpa using h
    rw[jZ]
   ·rw[if_neg hk]at h ⊢;rw[List.append_assoc];exact wK hb h
theorem xZ{B:List UInt8}{bound:Nat}:∀{c:Nat} {seen acc:List Nat} {at_:Nat} {xs:List Nat} {at1:Nat},cZ B bound c seen acc at_=.ok (xs,at1)->xs.length=acc.length+c
 | 0,seen,acc,at_,xs,at1,h=>by
  obtain⟨rfl,rfl⟩:acc=xs/\at_=at1:=by simpa [cZ] using h
  rfl
 | c+1,seen,acc,at_,xs,at1,h=>by
  rw[cZ]at h;cases hr:bJ B 2 0 (bound-1) at_ with
  | error q=>rw[hr]at h;cases h
  | ok p=>
   obtain⟨k,a1⟩:=p;rw[hr]at h;simp only at h;by_cases hk:k∈seen++acc
   ·rw[if_pos hk]at h;cases h
   ·rw[if_neg hk]at h;have:=xZ h;rw[List.length_append,List.length_singleton]at this;omega
theorem Pq(B:List UInt8)(count kind a q:Nat):(uq B count kind a (some q)).2.2.2=some q:=by
 unfold uq;split<;>rfl
theorem CS(B:List UInt8)(bound:Nat)(used:List Nat)(kind size a q:Nat):(mV B bound used kind size a (some q)).2.2.2=some q:=by
 unfold mV;show(gK B bound _ used _ (aX (some q) _ a)).2.2=some q;rw[show ∀ok x,aX (some q) ok x=some q from fun _ _=>rfl,jZ]
theorem qK(B:List UInt8)(kind n size a q:Nat):(vW B kind n size a (some q)).2.2=some q:=by
 unfold vW;show(gK B size _ [] _ (aX (some q) _ a)).2.2=some q;rw[show ∀ok x,aX (some q) ok x=some q from fun _ _=>rfl,jZ]
theorem sH{B:List UInt8}{ahead:Option ByteArray}{bound count:Nat}{used:List Nat}{a0:Nat}{b0:Option Nat}{q:Nat}(h:(mW B ahead a0 b0).bd=some q):(pK B ahead bound count used a0 b0).2.2.2=some q:=by
 unfold pK;simp only;rw[h];have h1:=Pq B count (mW B ahead a0 b0).kind (mW B ahead a0 b0).at_ q;rw[h1];have h2:=CS B bound used (mW B ahead a0 b0).kind (mW B ahead a0 b0).size (uq B count (mW B ahead a0 b0).kind (mW B ahead a0 b0).at_ (some q)).2.2.1 q
 split
 ·exact h2
 ·rw[h2];exact qK _ _ _ _ _ _
theorem KN {t : ByteArray} (h : nameB t = true) : bW ⟨#[]⟩ t < 0 := by
  have hs : 1 ≤ t.size := by
    simp only [nameB, Bool.and_eq_true, decide_eq_true_eq] at h
    exact h.1.1
  have h1 : Op.bytesLess (⟨#[]⟩ : ByteArray).toList t.toList = decide (bW ⟨#[]⟩ t < 0) := EF _ _
  have h2 : Op.bytesLess (⟨#[]⟩ : ByteArray).toList t.toList = true := by
    rw [ByteArray.toList_eq, ByteArray.toList_eq]
    cases ht : t.data.toList with
    | nil => have : t.size = 0 := by show t.data.size = 0; rw [← Array.length_toList, ht]; rfl
             omega
    | cons x r => rfl
  rw [h2] at h1
  simpa using h1.symm
def wS(o:Option ByteArray)(t:ByteArray):Prop:=(o=none/\t=⟨#[]⟩)\/o=some t
theorem OA{B:List UInt8}{o:Option ByteArray}{ahead:ByteArray}{a0:Nat}{name:ByteArray}{at1:Nat}(ha:wS o ahead)(h:lQ B ahead a0=.ok (name,at1)) :
 ∃n a,bF B 1 a0 none=(n,a,none)/\(1<=n/\n<=10)/\ig B n a none=(name,at1,none)/\nameB name=true/\nV o name a none=none:=by
 unfold lQ at h;cases hr:bJ B 1 1 10 a0 with
 | error q=>rw[hr]at h;cases h
 | ok p=>
  obtain⟨n,a⟩:=p;rw[hr]at h;simp only at h;obtain⟨e1,e2,e3⟩:=iZ hr;by_cases hl:a+n<=B.length
  ·rw[if_pos hl]at h;by_cases hn:nameB (aH B a n)=true/\bW ahead (aH B a n)<0
   ·rw[if_pos hn]at h;obtain⟨rfl,rfl⟩:aH B a n=name/\a+n=at1:=by simpa using h
    refine⟨n,a,e1,⟨e2,e3⟩,by simp only[ig];rw[if_pos hl],hn.1,?_⟩;rcases ha with⟨rfl,rfl⟩|rfl
    ·rfl
    ·simp[nV,aX,hn.2]
   ·rw[if_neg hn]at h;cases h
  ·rw[if_neg hl]at h;cases h
theorem VP{B:List UInt8}{o:Option ByteArray}{ahead:ByteArray}{a0 q:Nat}(ha:wS o ahead)(h:lQ B ahead a0=.error q) :
 nV o (ig B (bF B 1 a0 none).1 (bF B 1 a0 none).2.1 (aX (bF B 1 a0 none).2.2 (decide (1<=(bF B 1 a0 none).1/\(bF B 1 a0 none).1<=10)) a0)).1 (bF B 1 a0 none).2.1 (aX (ig B (bF B 1 a0 none).1 (bF B 1 a0 none).2.1 (aX (bF B 1 a0 none).2.2 (decide (1<=(bF B 1 a0 none).1/\(bF B 1 a0 none).1<=10)) a0)).2.2 (nameB (ig B (bF B 1 a0 none).1 (bF B 1 a0 none).2.1 (aX (bF B 1 a0 none).2.2 (decide (1<=(bF B 1 a0 none).1/\(bF B 1 a0 none).1<=10)) a0)).1) (bF B 1 a0 none).2.1)=some q:=by
 have key:∀t a q,nV o t a (some q)=some q:=by
  intro t a q;cases o with
  | none=>rfl
  | some u=>rfl
 unfold lQ at h;cases hr:bJ B 1 1 10 a0 with
 | error q'=>
  rw[hr]at h;obtain rfl:q'=q:=by simpa using h
  have:=lK hr (decide (1<=(bF B 1 a0 none).1/\(bF B 1 a0 none).1<=10)) (by simp);rw[this];exact key _ _ _
 | ok p=>
  obtain⟨n,a⟩:=p;rw[hr]at h;simp only at h;obtain⟨e1,e2,e3⟩:=iZ hr;rw[e1];have hm:aX none (decide (1<=n/\n<=10)) a0=none:=by simp[aX,e2,e3]
  simp only[hm];by_cases hl:a+n<=B.length
  ·rw[if_pos hl]at h;have ht:ig B n a none=(aH B a n,a+n,none):=by simp only[ig];rw[if_pos hl]
   rw[ht];simp only;by_cases hn:nameB (aH B a n)=true/\bW ahead (aH B a n)<0
   ·rw[if_pos hn]at h;cases h
   ·rw[if_neg hn]at h;obtain rfl:a=q:=by simpa using h
    by_cases hnb:nameB (aH B a n)=true
    ·have hc:¬bW ahead (aH B a n)<0:=fun e=>hn ⟨hnb,e⟩
     rcases ha with⟨rfl,rfl⟩|rfl
     ·exact absurd (KN hnb) hc
     ·rw[hnb];simp[nV,aX,hc]
    ·have:nameB (aH B a n)=false:=by simpa using hnb
     rw[this];exact key _ _ _
  ·rw[if_neg hl]at h;obtain rfl:B.length=q:=by simpa using h
   have ht:ig B n a none=(⟨#[]⟩,a,some B.length):=by simp only[ig];rw[if_neg hl]
   rw[ht];exact key _ _ _
def aS.ref(p:aS):Np:=⟨p.name,p.size,if p.kind=0 then none else some p.origin,p.iT,p.xs,p.kept,decide (p.kind=2)⟩
theorem dK{ok:Bool}(h:ok=true)(q:Nat):aX none ok q=none:=by rw[h];rfl
theorem UG{B:List UInt8}{o:Option ByteArray}{ahead:ByteArray}{count bound:Nat}{used:List Nat}{a0:Nat}{p:aS}{at1:Nat}(ha:wS o ahead)(hb:0<bound)(hc:0<count)(h:jw B count bound used ahead a0=.ok (p,at1)) :
 pK B o bound count used a0 none=(p.ref,used++p.xs,at1,none):=by
 unfold jw at h;cases hn:lQ B ahead a0 with
 | error q=>rw[hn]at h;cases h
 | ok x=>
  obtain⟨name,a1⟩:=x;rw[hn]at h;simp only at h;obtain⟨n,a,n1,n2,n3,n4,n5⟩:=OA ha hn;cases hk:bJ B 1 0 2 a1 with
  | error q=>rw[hk]at h;cases h
  | ok x=>
   obtain⟨kind,a2⟩:=x;rw[hk]at h;simp only at h;obtain⟨k1,k2,k3⟩:=iZ hk;cases hs:bJ B 2 1 200 a2 with
   | error q=>rw[hs]at h;cases h
   | ok x=>
    obtain⟨size,a3⟩:=x;rw[hs]at h;simp only at h;obtain⟨s1,s2,s3⟩:=iZ hs;have hH:mW B o a0 none=⟨name,kind,size,a3,none⟩:=by
     unfold mW;simp only[n1,dK (ok:=decide (1<=n/\n<=10)) (by simpa using n2),n3,dK n4,n5,k1,dK (ok:=decide (kind<=2)) (by simpa using k3),s1,dK (ok:=decide (1<=size/\size<=200)) (by simp;omega)]
    unfold pK;simp only[hH];by_cases hk0:kind=0
    ·subst hk0;rw[if_pos rfl]at h;unfold zL at h;cases hv:bJ B 2 size size a3 with
     | error q=>rw[hv]at h;cases h
     | ok x=>
      obtain⟨c,a4⟩:=x;rw[hv]at h;simp only at h;obtain⟨c1,c2,c3⟩:=iZ hv;obtain rfl:c=size:=by omega
      cases hx:cZ B bound c used [] a4 with
      | error q=>rw[hx]at h;cases h
      | ok x=>
       obtain⟨xs,a5⟩:=x;rw[hx]at h;obtain⟨rfl,rfl⟩:(⟨name,0,c,0,0,xs,[]⟩:aS)=p/\a5=at1:=by simpa using h
       have hnx:=wJ hb hx;rw[List.append_nil]at hnx;have hT:mV B bound used 0 c a3 none=(c,used++xs,a5,none):=by
        unfold mV;simp only[c1];rw[dK,hnx];simp;omega
       simp[uq,hT,aS.ref]
    ·rw[if_neg hk0]at h;unfold zG at h;cases ho:bJ B 1 0 (count-1) a3 with
     | error q=>rw[ho]at h;cases h
     | ok x=>
      obtain⟨og,a4⟩:=x;rw[ho]at h;simp only at h;obtain⟨o1,o2,o3⟩:=iZ ho;cases hv:bJ B 2 1 size a4 with
      | error q=>rw[hv]at h;cases h
      | ok x=>
       obtain⟨c,a5⟩:=x;rw[hv]at h;simp only at h;obtain⟨c1,c2,c3⟩:=iZ hv;cases hx:cZ B bound c used [] a5 with
       | error q=>rw[hx]at h;cases h
       | ok x=>
        obtain⟨xs,a6⟩:=x;rw[hx]at h;simp only at h;have hnx:=wJ hb hx;rw[List.append_nil]at hnx;have hxl:xs.length=c:=by have:=(xZ hx);simpa using this
        cases hkk:bJ B 2 0 (if kind=2 then 0 else xs.length) a6 with
        | error q=>rw[hkk]at h;cases h
        | ok x=>
         obtain⟨k,a7⟩:=x;rw[hkk]at h;simp only at h;obtain⟨q1,q2,q3⟩:=iZ hkk;cases hkx:cZ B size k [] [] a7 with
         | error q=>rw[hkx]at h;cases h
         | ok x=>
          obtain⟨kept,a8⟩:=x;rw[hkx]at h;obtain⟨rfl,rfl⟩:(⟨name,kind,size,og,a3,xs,kept⟩:aS)=p/\a8=at1:=by simpa using h
          have hkq:=wJ (by omega) hkx;have hO:uq B count kind a3 none=(some og,a3,a4,none):=by
           unfold uq;rw[if_neg hk0,o1,dK (ok:=decide (og<count)) (by simp;omega)]
          have hT:mV B bound used kind size a4 none=(c,used++xs,a6,none):=by
           have hm:=dK (ok:=decide (1<=c/\c<=size/\(0<kind\/c=size))) (by simp;omega) a4;unfold mV;simp only[c1];rw[hm,hnx]
          have hK:vW B kind c size a6 none=(kept,a8,none):=by
           unfold vW;have hq:k<=c/\(kind=1\/k=0):=by
            by_cases h2:kind=2
            ·rw[if_pos h2]at q3;omega
            ·rw[if_neg h2]at q3;omega
           simp only[q1,dK (ok:=decide (k<=c/\(kind=1\/k=0))) (by simpa using hq)];simpa using hkq
          simp[hO,hT,hK,aS.ref,hk0]
theorem PE{B:List UInt8}{o:Option ByteArray}{ahead:ByteArray}{count bound:Nat}{used:List Nat}{a0 q:Nat}(ha:wS o ahead)(hb:0<bound)(hc:0<count)(h:jw B count bound used ahead a0=.error q) :
 (pK B o bound count used a0 none).2.2.2=some q:=by
 unfold jw at h;cases hn:lQ B ahead a0 with
 | error q'=>
  rw[hn]at h;obtain rfl:q'=q:=by simpa using h
  refine sH ?_;unfold mW;simp only;rw[VP ha hn];rfl
 | ok x=>
  obtain⟨name,a1⟩:=x;rw[hn]at h;simp only at h;obtain⟨n,a,n1,n2,n3,n4,n5⟩:=OA ha hn;have hm1:=dK (ok:=decide (1<=n/\n<=10)) (by simpa using n2) a0;cases hk:bJ B 1 0 2 a1 with
  | error q'=>
   rw[hk]at h;obtain rfl:q'=q:=by simpa using h
   refine sH ?_;have:=lK hk (decide ((bF B 1 a1 none).1<=2)) (by simp);unfold mW;simp only[n1,hm1,n3,dK n4,n5,this];rfl
  | ok x=>
   obtain⟨kind,a2⟩:=x;rw[hk]at h;simp only at h;obtain⟨k1,k2,k3⟩:=iZ hk;have hm2:=dK (ok:=decide (kind<=2)) (by simpa using k3) a1;cases hs:bJ B 2 1 200 a2 with
   | error q'=>
    rw[hs]at h;obtain rfl:q'=q:=by simpa using h
    refine sH ?_;have:=lK hs (decide (1<=(bF B 2 a2 none).1/\(bF B 2 a2 none).1<=200)) (by simp);unfold mW;simp only[n1,hm1,n3,dK n4,n5,k1,hm2,this]
   | ok x=>
    obtain⟨size,a3⟩:=x;rw[hs]at h;simp only at h;obtain⟨s1,s2,s3⟩:=iZ hs;have hm3:=dK (ok:=decide (1<=size/\size<=200)) (by simp;omega) a2;have hH:mW B o a0 none=⟨name,kind,size,a3,none⟩:=by
     unfold mW;simp only[n1,hm1,n3,dK n4,n5,k1,hm2,s1,hm3]
    unfold pK;simp only[hH];by_cases hk0:kind=0
    ·subst hk0;rw[if_pos rfl]at h;unfold zL at h;have hO:uq B count 0 a3 none=(none,0,a3,none):=rfl;simp only[hO,if_pos];cases hv:bJ B 2 size size a3 with
     | error q'=>
      rw[hv]at h;obtain rfl:q'=q:=by simpa using h
      have:=lK hv (decide (1<=(bF B 2 a3 none).1/\(bF B 2 a3 none).1<=size/\(0<0\/(bF B 2 a3 none).1=size))) (by simp;omega);unfold mV;simp only;rw[this,jZ]
     | ok x=>
      obtain⟨c,a4⟩:=x;rw[hv]at h;simp only at h;obtain⟨c1,c2,c3⟩:=iZ hv;obtain rfl:c=size:=by omega
      cases hx:cZ B bound c used [] a4 with
      | error q'=>
       rw[hx]at h;obtain rfl:q'=q:=by simpa using h
       have hnx:=wK hb hx;rw[List.append_nil]at hnx;unfold mV;simp only[c1];rw[dK]
       ·exact hnx
       ·simp;omega
      | ok x=>rw[hx]at h;cases h
    ·rw[if_neg hk0]at h;simp only[if_neg hk0];unfold zG at h;cases ho:bJ B 1 0 (count-1) a3 with
     | error q'=>
      rw[ho]at h;obtain rfl:q'=q:=by simpa using h
      have:=lK ho (decide ((bF B 1 a3 none).1<count)) (by simp;omega);have hO:(uq B count kind a3 none).2.2.2=some q':=by unfold uq;rw[if_neg hk0];exact this
      rw[hO,CS];exact qK _ _ _ _ _ _
     | ok x=>
      obtain⟨og,a4⟩:=x;rw[ho]at h;simp only at h;obtain⟨o1,o2,o3⟩:=iZ ho;have hO:uq B count kind a3 none=(some og,a3,a4,none):=by
       unfold uq;rw[if_neg hk0,o1,dK (ok:=decide (og<count)) (by simp;omega)]
      simp only[hO];cases hv:bJ B 2 1 size a4 with
      | error q'=>
       rw[hv]at h;obtain rfl:q'=q:=by simpa using h
       have:=lK hv (decide (1<=(bF B 2 a4 none).1/\(bF B 2 a4 none).1<=size/\(0<kind\/(bF B 2 a4 none).1=size))) (by simp;omega);have hT:(mV B bound used kind size a4 none).2.2.2=some q':=by
        unfold mV;simp only;rw[this,jZ]
       rw[hT];exact qK _ _ _ _ _ _
      | ok x=>
       obtain⟨c,a5⟩:=x;rw[hv]at h;simp only at h;obtain⟨c1,c2,c3⟩:=iZ hv;have hm:=dK (ok:=decide (1<=c/\c<=size/\(0<kind\/c=size))) (by simp;omega) a4;cases hx:cZ B bound c used [] a5 with
       | error q'=>
        rw[hx]at h;obtain rfl:q'=q:=by simpa using h
        have hnx:=wK hb hx;rw[List.append_nil]at hnx;have hT:(mV B bound used kind size a4 none).2.2.2=some q':=by
         unfold mV;simp only[c1];rw[hm];exact hnx
        rw[hT];exact qK _ _ _ _ _ _
       | ok x=>
        obtain⟨xs,a6⟩:=x;rw[hx]at h;simp only at h;have hnx:=wJ hb hx;rw[List.append_nil]at hnx;have hxl:xs.length=c:=by have:=(xZ hx);simpa using this
        have hT:mV B bound used kind size a4 none=(c,used++xs,a6,none):=by
         unfold mV;simp only[c1];rw[hm,hnx]
        simp only[hT];cases hkk:bJ B 2 0 (if kind=2 then 0 else xs.length) a6 with
        | error q'=>
         rw[hkk]at h;obtain rfl:q'=q:=by simpa using h
         have:=lK hkk (decide ((bF B 2 a6 none).1<=c/\(kind=1\/(bF B 2 a6 none).1=0))) (by
          simp;by_cases h2:kind=2
          ·rw[if_pos h2];omega
          ·rw[if_neg h2];omega)
         unfold vW;simp only;rw[this,jZ]
        | ok x=>
         obtain⟨k,a7⟩:=x;rw[hkk]at h;simp only at h;obtain⟨q1,q2,q3⟩:=iZ hkk;have hq:k<=c/\(kind=1\/k=0):=by
          by_cases h2:kind=2
          ·rw[if_pos h2]at q3;omega
          ·rw[if_neg h2]at q3;omega
         have hm4:=dK (ok:=decide (k<=c/\(kind=1\/k=0))) (by simpa using hq) a6;cases hkx:cZ B size k [] [] a7 with
         | error q'=>
          rw[hkx]at h;obtain rfl:q'=q:=by simpa using h
          have hkq:=wK (by omega) hkx;unfold vW;simp only[q1];rw[hm4];simpa using hkq
         | ok x=>rw[hkx]at h;cases h
end
section
open Go.RowKit Go.Sort
variable [DecidableEq aN] [Inhabited aN] [Inhabited aF]
def KR:List Value:=[.pointer none,.int .i64 0,.int .i64 0,.int .i64 0,.int .i64 0]
def jb(n:Nat):List Value:=(List.replicate n KR).flatten
theorem sQ(n:Nat):jb (n+1)=KR++jb n:=by simp[jb,List.replicate_succ]
def gQ(l:List (aS×aF)):List Value:=l.flatMap fun x=>x.1.cells x.2.vb
theorem rU(l:List (aS×aF)):(gQ l).length=5*l.length:=by
 induction l with
 | nil=>rfl
 | cons a r ih=>unfold gQ at *;rw[List.flatMap_cons,List.length_append,ih,List.length_cons];show 5+_=_;omega
theorem GZ(l:List (aS×aF))(x:aS×aF):gQ (l++[x])=gQ l++x.1.cells x.2.vb:=by
 unfold gQ;rw[List.flatMap_append];simp
structure PV(x:aS×aF):Prop where
 eq:x.2=x.1.aA x.2.vb x.2.gb x.2.kg
 plain:x.1.kind=0->x.2.kg=none
theorem UD(A R:List Value)(m:Nat)(hm:A.length=m)(z0 z1 z2 z3 z4 x0 x1 x2 x3 x4:Value):(((((A++([z0,z1,z2,z3,z4]++R)).set m x0).set (m+1) x1).set (m+2) x2).set (m+3) x3).set (m+4) x4=A++([x0,x1,x2,x3,x4]++R):=by
 subst hm;rw[List.set_append_right _ _ (Nat.le_refl _),Nat.sub_self];rw[List.set_append_right _ _ (by omega),show A.length+1-A.length=1 by omega];rw[List.set_append_right _ _ (by omega),show A.length+2-A.length=2 by omega];rw[List.set_append_right _ _ (by omega),show A.length+3-A.length=3 by omega];rw[List.set_append_right _ _ (by omega),show A.length+4-A.length=4 by omega];rfl
structure GX(w0 w w':World)(a:Option Addr)(B:List UInt8)(rd tk bound:Nat)(pv:List (aS×aF))(at1 lg:Nat):Prop where
 kE:dV w0 w' a B rd at1
 row:At w' lg 191 (gQ pv)
 af:∀x∈pv,je w' x.2
 ent:∀x∈pv,PV x
 seen:At w' tk 4 (seenCells bound ((pv.map (·.1)).flatMap (·.xs)))
 new:w.heap.size<=lg/\∀x∈pv,∀k∈x.2.foot,lg<k
 nodup:(pv.flatMap fun x=>x.2.foot).Nodup
 same:Same [rd,tk] w w'
def mP(B:List UInt8)(bound at_:Nat):Except Nat (List aS×Nat):=
 match bJ B 1 0 20 at_ with
 | .error q=>.error q
 | .ok (count,at1)=>fF B count bound count [] at1
def qj(w0 w:World)(a:Option Addr)(B:List UInt8)(rd tk bound:Nat)(spec:Except Nat (List aS×Nat))(e:Ending)(w':World):Prop:=
 match spec with
 | .ok (ps,at1)=>∃lg pv,e=.returned (.slice (some ⟨lg,0,none⟩) ps.length ps.length)/\pv.map (·.1)=ps/\GX w0 w w' a B rd tk bound pv at1 lg
 | .error q=>e=bad q/\Same [] w0 w'
theorem Tryz.Pv:(prog.info? 191).map (fun i=>(i.zero,i.size,i.bytes))=some (some (.agg #[.pointer none,.int .i64 0,.int .i64 0,.int .i64 0,.int .i64 0]),5,40):=by kernel_rfl
theorem DV(n:Nat):(jb n).length=5*n:=by
 induction n with
 | zero=>rfl
 | succ n ih=>rw[sQ,List.length_append,ih];show 5+_=_;omega
theorem Nj(n:Nat):∀j,j<5*n->(jb n)[j]? = KR[j % 5]?:=by
 induction n with
 | zero=>intro j hj;omega
 | succ n ih=>
  intro j hj;rw[sQ];by_cases h:j<5
  ·rw[List.getElem?_append_left (by show j<5;exact h),Nat.mod_eq_of_lt h]
  ·rw[List.getElem?_append_right (by show 5<=j;omega)];show(jb n)[j-5]? = _;rw[ih (j-5) (by omega),show j % 5=(j-5) % 5 by omega]
theorem Iz(n:Nat):madeCells (Value.agg #[.pointer none,.int .i64 0,.int .i64 0,.int .i64 0,.int .i64 0]).cells (n*5)=(jb n).toArray:=by
 apply Array.toList_inj.1;have hc:(Value.agg #[.pointer none,.int .i64 0,.int .i64 0,.int .i64 0,.int .i64 0]).cells=#[.pointer none,.int .i64 0,.int .i64 0,.int .i64 0,.int .i64 0]:=rfl;rw[hc];apply List.ext_getElem?;intro j;by_cases hj:j<n*5
 ·have hz:=Nj n j (by omega);simp only[madeCells,Array.toList_map,List.getElem?_map];rw[hz];have hm:j % 5<5:=Nat.mod_lt _ (by omega);rw[Array.toList_range,List.getElem?_range hj];simp only[Option.map_some];generalize j % 5=m at *
  match m,hm with
  | 0,_=>rfl
  | 1,_=>rfl
  | 2,_=>rfl
  | 3,_=>rfl
  | 4,_=>rfl
 ·have h1:(jb n)[j]? = none:=List.getElem?_eq_none (by rw[DV];omega);simp[madeCells,hj,h1]
theorem xJ(n:Nat)(hn:n<=1000):∃LB:Array Value,LB.toList=jb n/\∀W:World,(Instr.makeSlice 179 (.int .i64 (n:Int)) (.int .i64 (n:Int))).run prog W=.ok (.slice (some ⟨W.heap.size,0,none⟩) n n) (W.alloc (.cells LB 191)):=by
 obtain⟨i0,hi,hz0,hz1,hz2⟩:=info_parts Tryz.Pv;refine⟨(jb n).toArray,by simp,fun W=>?_⟩;have h:=run_make (P:=prog) W 179 191 i0 _ underlying179 hi hz0 .i64 .i64 (n:Int) (n:Int) (by omega) (by omega) (by rw[hz2];omega) (by omega);rw[hz1]at h;have e:((n:Int).toNat*5)=n*5:=by simp
 rw[e,Iz]at h;simpa using h
def aal(w0:World)(lg:Nat):Prop:=w0.heap.size<=lg
theorem Pn{w0 w wr w2:World}{a:Option Addr}{B:List UInt8}{rd tk bound at2 vb gb lg k count:Nat}{kg:Option Nat}{p:aS}{pv:List (aS×aF)}
 (HI:Same [rd,tk] w wr/\(∀x∈pv,je wr x.2)/\(∀x∈pv,PV x)/\(∀x∈pv,∀q∈x.2.foot,lg<q)/\(pv.flatMap fun x=>x.2.foot).Nodup)
 (HFL:∀x∈pv,∀q∈x.2.foot,q<wr.heap.size) (hlw:lg<wr.heap.size)
 (HG:F8 w0 wr w2 a B rd tk bound ((pv.map (·.1)).flatMap (·.xs)) p at2 vb gb kg)
 (HB:At w2 lg 191 (gQ pv++(KR++jb (count-(k+1))))) (hpl:pv.length=k) (hlr:lg≠rd) (hlt:lg≠tk) (hlg:aal w0 lg) (hwl:w.heap.size<=lg) (hrt:∀x∈pv,∀q∈x.2.foot,q≠rd/\q≠tk) :
 let W:=((((w2.setCell ⟨lg,k*5,none⟩ (.pointer (some ⟨vb,0,none⟩))).setCell ⟨lg,k*5+1,none⟩ (.int .i64 p.kind)).setCell ⟨lg,k*5+2,none⟩ (.int .i64 p.size)).setCell ⟨lg,k*5+3,none⟩ (.int .i64 p.origin)).setCell ⟨lg,k*5+4,none⟩ (.int .i64 p.iT)
 dV w0 W a B rd at2/\At W tk 4 (seenCells bound (((pv++[(p,p.aA vb gb kg)]).map (·.1)).flatMap (·.xs)))/\At W lg 191 (gQ (pv++[(p,p.aA vb gb kg)])++jb (count-(k+1)))/\Same [rd,tk] w W/\(∀x∈pv++[(p,p.aA vb gb kg)],je W x.2)/\(∀x∈pv++[(p,p.aA vb gb kg)],PV x)/\(∀x∈pv++[(p,p.aA vb gb kg)],∀q∈x.2.foot,lg<q)/\((pv++[(p,p.aA vb gb kg)]).flatMap fun x=>x.2.foot).Nodup:=by
 intro W;obtain⟨hS,hV,hP,hf,hn⟩:=HI;have SW:Same [lg] w2 W:=(((((Same.refl _ _).set _ _ _ (by simp)).set _ _ _ (by simp)).set _ _ _ (by simp)).set _ _ _ (by simp)).set _ _ _ (by simp);have hnf:∀q∈(p.aA vb gb kg).foot,lg<q:=fun q hq=>by have:=HG.new q hq;omega
 have hpc:=rU pv;refine⟨HG.kE.next SW (by simpa using fun e=>hlr e.symm) (by intro q hq;simp only[List.mem_singleton]at hq;subst hq;exact hlg),?_,?_,?_,?_,?_,?_,?_⟩
 ·have:=SW.at HG.seen (by simpa using fun e=>hlt e.symm);simpa using this
 ·have:=((((HB.ax (k*5) (.pointer (some ⟨vb,0,none⟩))).ax (k*5+1) (.int .i64 p.kind)).ax (k*5+2) (.int .i64 p.size)).ax (k*5+3) (.int .i64 p.origin)).ax (k*5+4) (.int .i64 p.iT);rw[GZ,List.append_assoc];have e:=UD (gQ pv) (jb (count-(k+1))) (k*5) (by rw[hpc,hpl];omega) (.pointer none) (.int .i64 0) (.int .i64 0) (.int .i64 0) (.int .i64 0) (.pointer (some ⟨vb,0,none⟩)) (.int .i64 p.kind) (.int .i64 p.size) (.int .i64 p.origin) (.int .i64 p.iT);have e2:KR=[.pointer none,.int .i64 0,.int .i64 0,.int .i64 0,.int .i64 0]:=rfl;rw[e2,e]at this;exact this
 ·exact(hS.step HG.same (fun q hq _=>hq)).step SW (by simp;omega)
 ·intro x hx;rcases List.mem_append.1 hx with hx|hx
  ·exact((hV x hx).same HG.same (fun q hq=>by have:=hrt x hx q hq;simp[this.1,this.2])).same SW (fun q hq=>by have:=hf x hx q hq;simp;omega)
  ·simp only[List.mem_singleton]at hx;subst hx;exact HG.aA.same SW (fun q hq=>by have:=hnf q hq;simp;omega)
 ·intro x hx;rcases List.mem_append.1 hx with hx|hx
  ·exact hP x hx
  ·simp only[List.mem_singleton]at hx;subst hx;exact⟨rfl,HG.plain⟩
 ·intro x hx;rcases List.mem_append.1 hx with hx|hx
  ·exact hf x hx
  ·simp only[List.mem_singleton]at hx;subst hx;exact hnf
 ·rw[List.flatMap_append,List.nodup_append];refine⟨hn,by simpa using HG.nodup,fun q hq r hr e=>?_⟩;obtain⟨x,hx,hq⟩:=List.mem_flatMap.1 hq;have h1:=HFL x hx q hq;have h2:=HG.new r (by simpa using hr);omega
theorem JC(w0 w:World)(a:Option Addr)(B:List UInt8)(rd tk at_ bound:Nat)(hB:bD w0 a B)(h:dV w0 w a B rd at_)(hT:At w tk 4 (seenCells bound []))(htk:w0.heap.size<=tk)(hne:tk≠rd)(hb:1<=bound/\bound<=200) :
 Calls prog 131 #[.pointer (some ⟨rd,0,none⟩),.slice (some ⟨tk,0,none⟩) bound bound] w (qj w0 w a B rd tk bound (mP B bound at_)):=by
 have hnew:=h.new;have hrl:=h.cell.lt;have htl:=hT.lt;generalize hspec:mP B bound at_=spec;unfold mP at hspec;cases hs:bJ B 1 0 20 at_ with
 | error q=>
  rw[hs]at hspec;have HE:Hid (spec=.error q):=hspec.symm;have hN:=eX w0 w a B rd at_ 1 0 20 q 1 0 20 hB h (by omega) hs rfl rfl rfl;clear hspec h hT hs
  go_enter func131,ntmps131
  go_wp2_with (go_at_call 130;refine hN.mono ?_;rintro e w1 ⟨rfl,S1⟩;unfold bad)
  refine⟨rfl,?_⟩;show qj _ _ _ _ _ _ _ _ _ _;rw[HE.out];exact⟨rfl,S1⟩
 | ok pr=>
  obtain⟨count,at1⟩:=pr;rw[hs]at hspec;have HSP:Hid (fF B count bound count [] at1=spec):=hspec;have hN:=fO w0 w a B rd at_ 1 0 20 count at1 1 0 20 hB h (by omega) hs rfl rfl rfl;have Ti:count<=20:=(dJ hs).2.2.1;obtain⟨LB,hLB,hmk⟩:=xJ count (by omega);have HT:Hid (At w tk 4 (seenCells bound [])):=hT;have HBO:Hid (bD w0 a B):=hB;clear hspec h hT hs hB
  go_enter func131,ntmps131
  go_wp2_with (go_at_call 130;refine hN.mono ?_;rintro e w1 ⟨rfl,hR1,S1⟩)
  have S2:Same [] w1 (w1.alloc (.cells LB 191)):=(Same.refl _ _).alloc _;have N2:=At.new w1 LB 191;rw[hLB]at N2;have hz1:=S1.size;have HI0:Hid (dV w0 (w1.alloc (.cells LB 191)) a B rd at1/\At (w1.alloc (.cells LB 191)) tk 4 (seenCells bound [])/\At (w1.alloc (.cells LB 191)) w1.heap.size 191 (jb count)/\Same [rd,tk] w (w1.alloc (.cells LB 191))):=⟨hR1.next S2 (by simp) (by simp),S2.at (S1.at HT.out (by simpa using hne)) (by simp),N2,(S1.mono (T:=[rd,tk]) (by intro k hk _;simp at hk;simp[hk])).step S2 (by simp)⟩
  clear hN hR1 S1 S2 N2 HT
  go_loopw [6,13] (fun ah i wr=>∃(k ati:Nat)(pv:List (aS×aF)),k<=count/\i=.int .i64 k/\pv.length=k/\ah=.string (((pv.map (·.1)).getLast?.map (·.name)).getD ⟨#[]⟩)/\dV w0 wr a B rd ati/\At wr tk 4 (seenCells bound ((pv.map (·.1)).flatMap (·.xs)))/\At wr w1.heap.size 191 (gQ pv++jb (count-k))/\Same [rd,tk] w wr/\(∀x∈pv,je wr x.2)/\(∀x∈pv,PV x)/\(∀x∈pv,∀q∈x.2.foot,w1.heap.size<q)/\(pv.flatMap fun x=>x.2.foot).Nodup/\Hid (fF B count bound (count-k) (pv.map (·.1)) ati=spec)) (fun _ i _=>count-(intOf i).toNat)
  case atStart=>exact⟨0,at1,[],Nat.zero_le _,rfl,rfl,rfl,HI0.out.1,HI0.out.2.1,by simpa [gQ] using HI0.out.2.2.1,HI0.out.2.2.2,by simp,by simp,by simp,by simp,HSP.out⟩
  case round=>
   obtain⟨k,ati,pv,hk,rfl,hpl,rfl,hR,hTk,hA,hS,hV,hPV,hft,hnd,HQ⟩:=hrel;by_cases hkl:k<count
   ·have eck:count-k=(count-k-1)+1:=by omega
    have l1:(k:Int)<(count:Int):=by omega
    have hEC:=Hw w0 wr a B rd tk ati bound count ((pv.map (·.1)).flatMap (·.xs)) (((pv.map (·.1)).getLast?.map (·.name)).getD ⟨#[]⟩) HBO.out hR hTk htk hne hb ⟨by omega,Ti⟩;have q0:=HQ.out;rw[eck]at q0;unfold fF at q0;cases hs:jw B count bound ((pv.map (·.1)).flatMap (·.xs)) (((pv.map (·.1)).getLast?.map (·.name)).getD ⟨#[]⟩) ati with
    | error q=>
     rw[hs]at q0 hEC;have HE:Hid (spec=.error q):=q0.symm;generalize ((pv.map (·.1)).getLast?.map (·.name)).getD ⟨#[]⟩=ah at *;clear hR hTk hA q0 HQ hV hPV hft hnd hS hs
     go_wp2_with (go_at_call 143;refine hEC.mono ?_;rintro e w2 ⟨rfl,S2⟩;unfold bad)
     refine⟨rfl,?_⟩;show qj _ _ _ _ _ _ _ _ _ _;rw[HE.out];exact⟨rfl,S2⟩
    | ok pr=>
     obtain⟨p,at2⟩:=pr;rw[hs]at q0 hEC;have HE:Hid (fF B count bound (count-(k+1)) (pv.map (·.1)++[p]) at2=spec):=q0;have HI:Hid (At wr w1.heap.size 191 (gQ pv++(KR++jb (count-(k+1))))/\Same [rd,tk] w wr/\(∀x∈pv,je wr x.2)/\(∀x∈pv,PV x)/\(∀x∈pv,∀q∈x.2.foot,w1.heap.size<q)/\(pv.flatMap fun x=>x.2.foot).Nodup):=by
      refine⟨?_,hS,hV,hPV,hft,hnd⟩;rw[<-sQ,show count-(k+1)+1=count-k by omega];exact hA
     have HFL:Hid (∀x∈pv,∀q∈x.2.foot,q<wr.heap.size):=fun x hx q hq=>by
      have hr:=hV x hx;simp only[aF.foot,List.mem_cons,Option.mem_toList,Option.mem_def]at hq;rcases hq with rfl|rfl|hq
      ·exact hr.aA.lt
      ·exact hr.row.lt
      ·exact(hr.KY q hq).lt
     have hlw:w1.heap.size<wr.heap.size:=hA.lt;have hzr:=hS.size;have hpc:=rU pv;generalize ((pv.map (·.1)).getLast?.map (·.name)).getD ⟨#[]⟩=ah at *;clear hR hTk hA q0 HQ hV hPV hft hnd hS hs;have hlr:w1.heap.size≠rd:=by omega
     have hlt':w1.heap.size≠tk:=by omega
     go_wp2_with fail
     refine hEC.mono ?_;rintro e w2 ⟨vb,gb,kg,he,hG⟩;have he2:e=.returned (.agg #[.pointer (some ⟨vb,0,none⟩),.int .i64 p.kind,.int .i64 p.size,.int .i64 p.origin,.int .i64 p.iT]):=he;subst he2;clear he;have B2:=hG.same.at HI.out.1 (by simp;exact⟨hlr,hlt'⟩);have key:∀j,j<5->w2.cell? ⟨w1.heap.size,k*5+j,none⟩=KR[j]?:=fun j hj=>by
      rw[B2.cell?,List.getElem?_append_right (by rw[hpc,hpl];omega),hpc,hpl,show k*5+j-5*k=j by omega,List.getElem?_append_left (by show j<5;exact hj)]
     have a0:w2.cell? ⟨w1.heap.size,k*5,none⟩=some (.pointer none):=key 0 (by omega);have a1:w2.cell? ⟨w1.heap.size,k*5+1,none⟩=some (.int .i64 0):=key 1 (by omega);have a2:w2.cell? ⟨w1.heap.size,k*5+2,none⟩=some (.int .i64 0):=key 2 (by omega);have a3:w2.cell? ⟨w1.heap.size,k*5+3,none⟩=some (.int .i64 0):=key 3 (by omega);have a4:w2.cell? ⟨w1.heap.size,k*5+4,none⟩=some (.int .i64 0):=key 4 (by omega);have fz:=B2.frozen;have hvn:w2.cell? ⟨vb,0,none⟩=some (.string p.name):=hG.aA.aA.cell? 0;have hvl:=hG.new vb (by simp[aF.foot,aS.aA]);have hvne:vb≠w1.heap.size:=by omega
     have abj:w1.heap.size≠vb:=by omega
     have HG:Hid (F8 w0 wr w2 a B rd tk bound ((pv.map (·.1)).flatMap (·.xs)) p at2 vb gb kg):=hG;have HB2:Hid (At w2 w1.heap.size 191 (gQ pv++(KR++jb (count-(k+1))))):=B2;clear hG B2 key hEC
     go_wp2
     have hlg:aal w0 w1.heap.size:=by show w0.heap.size<=w1.heap.size;omega
     have hstep:=Pn (count:=count) HI.out.2 HFL.out hlw HG.out HB2.out hpl hlr hlt' hlg hz1 (fun x hx q hq=>by have:=HI.out.2.2.2.2.1 x hx q hq;constructor<;>omega);generalize ((((w2.setCell ⟨w1.heap.size,k*5,none⟩ (.pointer (some ⟨vb,0,none⟩))).setCell ⟨w1.heap.size,k*5+1,none⟩ (.int .i64 p.kind)).setCell ⟨w1.heap.size,k*5+2,none⟩ (.int .i64 p.size)).setCell ⟨w1.heap.size,k*5+3,none⟩ (.int .i64 p.origin)).setCell ⟨w1.heap.size,k*5+4,none⟩ (.int .i64 p.iT)=W at *;obtain⟨s1,s2,s3,s4,s5,s6,s7,s8⟩:=hstep;refine⟨⟨k+1,at2,pv++[(p,p.aA vb gb kg)],by omega,by rw[Int.natCast_add];rfl,by simp[hpl],by simp,s1,s2,s3,s4,s5,s6,s7,s8,?_⟩,?_⟩
     ·rw[List.map_append];exact HE
     ·show count-((k:Int)+1).toNat<count-((k:Int)).toNat;omega
   ·have ek:k=count:=by omega
    subst ek;have q0:=HQ.out;rw[Nat.sub_self]at q0 hA;have HE:Hid (spec=.ok (pv.map (·.1),ati)):=q0.symm;have HF:Hid (GX w0 w wr a B rd tk bound pv ati w1.heap.size):=⟨hR,by simpa [jb] using hA,hV,hPV,hTk,⟨hz1,hft⟩,hnd,hS⟩
    have hpl2:(pv.map (·.1)).length=k:=by rw[List.length_map];exact hpl
    generalize ((pv.map (·.1)).getLast?.map (·.name)).getD ⟨#[]⟩=ah at *;clear hR hTk hA hS HQ q0 hV hPV hft hnd
    go_wp2
    first
     | (show qj _ _ _ _ _ _ _ _ _ _;rw[HE.out];exact⟨_,pv,by rw[hpl2];rfl,rfl,HF.out⟩)
     | (go_ret;show qj _ _ _ _ _ _ _ _ _ _;rw[HE.out];exact⟨_,pv,by rw[hpl2];rfl,rfl,HF.out⟩)
def gX(B:List UInt8):Nat->Nat->Except Nat Nat
 | 0,k=>.ok k
 | n+1,k=>if k+1<=B.length then (if B[k]! = gq[k]! then gX B n (k+1) else .error k) else .error B.length
def wM(w0 w:World)(a:Option Addr)(B:List UInt8)(rd:Nat)(spec:Except Nat Nat)(e:Ending)(w':World):Prop:=
 match spec with
 | .ok at1=>e=.returned (.tuple #[])/\dV w0 w' a B rd at1/\Same [rd] w w'
 | .error q=>e=bad q/\Same [] w0 w'
theorem Pm(k:Nat)(hk:k<4)(h:k<(ByteArray.mk #[83,84,82,49]).size):(ByteArray.mk #[83,84,82,49])[k].toNat=gq[k]!.toNat:=by
 match k,hk with
 | 0,_=>rfl
 | 1,_=>rfl
 | 2,_=>rfl
 | 3,_=>rfl
theorem Nw(w0 w:World)(a:Option Addr)(B:List UInt8)(rd:Nat)(hB:bD w0 a B)(h:dV w0 w a B rd 0) :
 Calls prog 129 #[.pointer (some ⟨rd,0,none⟩)] w (wM w0 w a B rd (gX B 4 0)):=by
 have hnew:=h.new;have HBO:Hid (bD w0 a B):=hB;have HI0:Hid (dV w0 w a B rd 0/\Same [rd] w w):=⟨h,Same.refl _ _⟩
 generalize hspec:gX B 4 0=spec;have HSP:Hid (gX B 4 0=spec):=hspec;clear hspec h hB
 go_enter func129,ntmps129
 go_wp2_with fail
 go_loopw [4] (fun i wr=>∃k:Nat,k<=4/\i=.int .i64 k/\dV w0 wr a B rd k/\Same [rd] w wr/\Hid (gX B (4-k) k=spec)) (fun i _=>4-(intOf i).toNat)
 case atStart=>exact⟨0,Nat.zero_le _,rfl,HI0.out.1,HI0.out.2,HSP⟩
 case round=>
  obtain⟨k,hk,rfl,hR,hS,HQ⟩:=hrel;by_cases hkl:k<4
  ·have l1:(k:Int)<4:=by omega
   have r1:wr.cell? ⟨rd,1,none⟩=some (.int .i64 k):=hR.cell.cell? 1;have q0:=HQ.out;rw[show 4-k=(4-k-1)+1 by omega]at q0;unfold gX at q0;have hmb:=Pm k hkl;obtain⟨x,hx⟩:∃x,B[k]!.toNat=x:=⟨_,rfl⟩
   obtain⟨m,hm⟩:∃m,gq[k]!.toNat=m:=⟨_,rfl⟩
   rw[hm]at hmb;by_cases hl:k+1<=B.length
   ·rw[if_pos hl]at q0;obtain⟨b,off,ha,hb0,hcell⟩:=HBO.out.at hR.same (by intro e;rw[e]at hl;simp at hl);have HN:Hid (∀W',dV w0 W' a B rd k->Calls prog 142 #[.pointer (some ⟨rd,0,none⟩),.int .i64 1] W' fun e w'=>e=.returned (.slice (some ⟨b,off+k,none⟩) 1 1)/\dV w0 w' a B rd (k+1)/\Same [rd] W' w'):=fun W' hW=>zN w0 W' a B rd k 1 b off HBO.out hW ha (by omega) hl
    have HRW:Hid (dV w0 wr a B rd k/\Same [rd] w wr):=⟨hR,hS⟩
    have hbr:b≠rd:=by omega
    have hb1:=hb0;have HC:Hid (∀W',Same [] w0 W'->W'.cell? ⟨b,off+k,none⟩=some (.int .u8 (x:Nat))):=fun W' hW=>by
     obtain⟨b',off',ha',_,hc'⟩:=HBO.out.at hW (by intro e;rw[e]at hl;simp at hl);have e1:=ha.symm.trans ha';simp only[Option.some.injEq,Addr.mk.injEq]at e1;obtain⟨rfl,rfl,_⟩:=e1;rw[<-hx];exact hc' k (by omega)
    by_cases hbe:B[k]! = gq[k]!
    ·rw[if_pos hbe]at q0;have HE:Hid (gX B (4-(k+1)) (k+1)=spec):=q0;have exm:x=m:=by rw[<-hx,<-hm,hbe]
     subst exm;clear q0 HQ hR hS hcell hbe hx hm
     go_wp2_with fail
     go_region_with (first|(go_at_call 142;go_fit (HN.out _ (HRW.out.1.next ((Same.refl [] _).drew) (by simp) (by simp)));rintro e w2 ⟨rfl,hR2,S2⟩;have hc2:=HC.out _ hR2.same;have HR2:Hid (dV w0 w2 a B rd (k+1)/\Same [rd] w w2):=⟨hR2,HRW.out.2.step (T:=[rd]) ((Same.refl [rd] _).drew.step S2 (fun q hq _=>hq)) (fun q hq _=>hq)⟩;clear hR2 S2)|(go_at_call 134;go_fit (kN _ _);rintro e w3 ⟨rfl,hw⟩;obtain rfl:=hw.symm))
     all_goals
      go_wp2
      refine⟨⟨k+1,by omega,by rw[Int.natCast_add];rfl,HR2.out.1,HR2.out.2,HE⟩,?_⟩;show 4-((k:Int)+1).toNat<4-((k:Int)).toNat;omega
    ·rw[if_neg hbe]at q0;have HE:Hid (spec=.error k):=q0.symm;have hxm:((x:Int) == (m:Int))=false:=beq_eq_false_iff_ne.2 (fun e=>hbe (UInt8.toNat_inj.1 (by rw[hx,hm];omega)));clear q0 HQ hR hS hcell hbe hx hm
     go_wp2_with fail
     go_region_with (first|(go_at_call 142;go_fit (HN.out _ (HRW.out.1.next ((Same.refl [] _).drew) (by simp) (by simp)));rintro e w2 ⟨rfl,hR2,S2⟩;have hc2:=HC.out _ hR2.same;have HR2:Hid (Same [] w0 w2):=hR2.same;clear hR2 S2)|(go_at_call 134;go_fit (kS _ _);rintro e w3 ⟨rfl,hw⟩;obtain rfl:=hw.symm;unfold bad;refine iE w ⟨rfl,(by show wM _ _ _ _ _ _ _ _;rw[HE.out];exact⟨rfl,HR2.out⟩)⟩ ?_))
     all_goals trivial
   ·rw[if_neg hl]at q0;have HE:Hid (spec=.error B.length):=q0.symm;have HN:Hid (∀W',dV w0 W' a B rd k->Calls prog 142 #[.pointer (some ⟨rd,0,none⟩),.int .i64 1] W' fun e w'=>e=bad B.length/\Same [] W' w'):=fun W' hW=>xA w0 W' a B rd k 1 HBO.out hW (by omega) (by omega)
    have HRW:Hid (dV w0 wr a B rd k):=hR;clear q0 HQ hR hS hx hm
    go_wp2_with fail
    go_region_with (go_at_call 142;go_fit (HN.out _ (HRW.out.next ((Same.refl [] _).drew) (by simp) (by simp)));rintro e w2 ⟨rfl,S2⟩;unfold bad;refine iE w ⟨rfl,(by show wM _ _ _ _ _ _ _ _;rw[HE.out];exact⟨rfl,HRW.out.same.step (T:=[]) ((Same.refl [] _).drew.step S2 (fun q hq _=>hq)) (fun q hq _=>hq)⟩)⟩ ?_)
    all_goals trivial
  ·have ek:k=4:=by omega
   subst ek;have HE:Hid (spec=.ok 4):=HQ.out.symm;have HRW:Hid (dV w0 wr a B rd 4/\Same [rd] w wr):=⟨hR,hS⟩
   clear HQ hR hS
   go_wp2
   go_end0
   show wM _ _ _ _ _ _ _ _;rw[HE.out];exact⟨rfl,HRW.out⟩
end
section
open Go.RowKit Go.Sort
variable [DecidableEq aN] [Inhabited aN] [Inhabited aF] [Inhabited aS]
def jh(ps:List aS):List aS->Except Nat Unit
 | []=>.ok ()
 | p::r=>if p.kind=0 then jh ps r else if ps[p.origin]!.kind=0/\ps[p.origin]!.size=p.size then jh ps r else .error p.iT
def bf(pv:List (aS×aF))(x:aS×aF):aF:=if x.1.kind=0 then x.2 else { x.2 with org:=some pv[x.1.origin]!.2.vb }
theorem iy(pv:List (aS×aF))(x:aS×aF):(bf pv x).xs=x.2.xs/\(bf pv x).kept=x.2.kept/\(bf pv x).vb=x.2.vb/\(bf pv x).gb=x.2.gb/\(bf pv x).kg=x.2.kg/\(bf pv x).foot=x.2.foot:=by
 unfold bf;split<;>simp[aF.foot]
def rZ(w:World)(pv:List (aS×aF))(spec:Except Nat Unit)(e:Ending)(w':World):Prop:=
 match spec with
 | .ok _=>∃jg,e=.returned (.slice (some ⟨jg,0,none⟩) pv.length pv.length)/\w.heap.size<=jg/\At w' jg 110 (pv.map fun x=>ptr x.2.vb)/\(∀x∈pv,je w' (bf pv x))/\Same (pv.map (·.2.vb)) w w'
 | .error q=>e=bad q/\Same (pv.map (·.2.vb)) w w'
theorem Bd(pv:List (aS×aF))(k:Nat)(x:aS×aF)(h:pv[k]? = some x)(j:Nat)(hj:j<5):(gQ pv)[k*5+j]? = (x.1.cells x.2.vb)[j]?:=by
 induction pv generalizing k with
 | nil=>simp at h
 | cons a r ih=>
  unfold gQ;rw[List.flatMap_cons]
  match k with
  | 0=>
   simp at h;subst h;rw[List.getElem?_append_left (by show 0*5+j<5;omega)];simp
  | k+1=>
   rw[List.getElem?_append_right (by show 5<=(k+1)*5+j;omega)];have:=ih k (by simpa using h);rw[show(k+1)*5+j-(a.1.cells a.2.vb).length=k*5+j by show(k+1)*5+j-5=_;omega];exact this
theorem Tryz.NI:(prog.info? 110).map (fun i=>(i.zero,i.size,i.bytes))=some (some (.pointer none),1,8):=by kernel_rfl
def JInv(w:World)(pv:List (aS×aF))(lg jg k:Nat)(wr:World):Prop:=
 At wr lg 191 (gQ pv)/\At wr jg 110 ((pv.take k).map (fun x=>ptr x.2.vb)++List.replicate (pv.length-k) (.pointer none))/\(∀j x,pv[j]? = some x->At wr x.2.vb 133 ((if j<k then bf pv x else x.2).cells x.2.xs.length x.2.kept.length))/\Same (pv.map (·.2.vb)) w wr
theorem Q9(pv:List (aS×aF))(h:(pv.flatMap fun x=>x.2.foot).Nodup):(pv.map fun x=>x.2.vb).Nodup:=by
 refine h.sublist ?_
 induction pv with
 | nil=>simp
 | cons a r ih=>
  rw[List.flatMap_cons,List.map_cons];have ih':=ih (by rw[List.flatMap_cons,List.nodup_append]at h;exact h.2.1);show List.Sublist (a.2.vb::_) ((a.2.vb::(a.2.gb::a.2.kg.toList))++_);exact List.Sublist.cons_cons _ (ih'.trans (List.sublist_append_right _ _))
theorem TK{pv:List (aS×aF)}(h:(pv.flatMap fun x=>x.2.foot).Nodup){i j:Nat}{x y:aS×aF}(hx:pv[i]? = some x)(hy:pv[j]? = some y)(hne:i≠j):x.2.vb≠y.2.vb:=fun e=>by
 have hl:i<(pv.map fun x=>x.2.vb).length:=by rw[List.length_map];exact(List.getElem?_eq_some_iff.1 hx).1
 exact hne ((List.getElem?_inj hl (Q9 pv h)).1 (by rw[List.getElem?_map,List.getElem?_map,hx,hy,Option.map_some,Option.map_some,e]))
theorem UE{pv:List (aS×aF)}{k:Nat}{x:aS×aF}(h:pv[k]? = some x):(pv.map (·.1)).drop k=x.1::(pv.map (·.1)).drop (k+1):=by
 obtain⟨hl,rfl⟩:=List.getElem?_eq_some_iff.1 h;rw[List.drop_eq_getElem_cons (by rw[List.length_map];exact hl)];simp
theorem JInv.step{w wr W:World}{pv:List (aS×aF)}{lg jg k:Nat}{x:aS×aF}(h:JInv w pv lg jg k wr)(hx:pv[k]? = some x)(hnd:(pv.flatMap fun x=>x.2.foot).Nodup)(hl:lg<w.heap.size)(hj:w.heap.size<=jg)(hV:∀x∈pv,je w x.2)(hf:∀x∈pv,∀k∈x.2.foot,lg<k)
 (hS:Same [jg,x.2.vb] wr W) (h1:At W jg 110 (((pv.take k).map (fun x:aS×aF=>ptr x.2.vb)++List.replicate (pv.length-k) (Value.pointer none)).set k (ptr x.2.vb))) (h2:At W x.2.vb 133 ((bf pv x).cells x.2.xs.length x.2.kept.length)):JInv w pv lg jg (k+1) W:=by
 have hkl:=(List.getElem?_eq_some_iff.1 hx).1;have hvl:∀y∈pv,y.2.vb<w.heap.size:=fun y hy=>(hV y hy).aA.lt
 have hxm:=List.mem_of_getElem? hx;refine⟨hS.at h.1 ?_,?_,fun j y hy=>?_,h.2.2.2.step hS ?_⟩
 ·have:=hf x hxm x.2.vb (by simp[aF.foot]);simp;omega
 ·have e:((pv.take k).map (fun x=>ptr x.2.vb)++List.replicate (pv.length-k) (Value.pointer none)).set k (ptr x.2.vb)=(pv.take (k+1)).map (fun x=>ptr x.2.vb)++List.replicate (pv.length-(k+1)) (.pointer none):=by
   rw[List.set_append_right _ _ (by simp;omega),show pv.length-k=(pv.length-(k+1))+1 by omega,List.replicate_succ];have e1:k-(List.map (fun x:aS×aF=>ptr x.2.vb) (List.take k pv)).length=0:=by simp;omega
   rw[e1,List.set_cons_zero];rw[List.take_add_one,hx];simp
  rw[<-e];exact h1
 ·by_cases hjk:j=k
  ·subst hjk;have:x=y:=by rw[hx]at hy;exact Option.some.inj hy
   subst this;rw[if_pos (by omega)];exact h2
  ·have hym:=List.mem_of_getElem? hy;have hne:=TK hnd hy hx hjk;have hlt:=hvl y hym;have:=hS.at (h.2.2.1 j y hy) (by simp;omega);have e:(j<k+1)=(j<k):=by apply propext;omega
   simp only[e];exact this
 ·intro q hq hql;simp only[List.mem_cons,List.not_mem_nil,or_false]at hq;rcases hq with rfl|rfl
  ·omega
  ·exact List.mem_map.2 ⟨x,hxm,rfl⟩
theorem JInv.done{w wr:World}{pv:List (aS×aF)}{lg jg:Nat}(h:JInv w pv lg jg pv.length wr)(hnd:(pv.flatMap fun x=>x.2.foot).Nodup)(hV:∀x∈pv,je w x.2):At wr jg 110 (pv.map fun x=>ptr x.2.vb)/\(∀x∈pv,je wr (bf pv x))/\Same (pv.map (·.2.vb)) w wr:=by
 refine⟨by simpa using h.2.1,fun x hx=>?_,h.2.2.2⟩;obtain⟨j,hj⟩:=List.mem_iff_getElem?.1 hx;have hjl:=(List.getElem?_eq_some_iff.1 hj).1;have h3:=h.2.2.1 j x hj;rw[if_pos hjl]at h3;obtain⟨e1,e2,e3,e4,e5,e6⟩:=iy pv x;have far:∀q∈x.2.foot,q≠x.2.vb->q∉pv.map (·.2.vb):=fun q hq hne hm=>by
  obtain⟨y,hy,hyq⟩:=List.mem_map.1 hm;obtain⟨i,hi⟩:=List.mem_iff_getElem?.1 hy;by_cases hij:i=j
  ·subst hij;rw[hi]at hj;cases hj;exact hne hyq.symm
  ·have hp:=hnd;rw[List.Nodup,List.pairwise_flatMap]at hp;have hpw:=List.pairwise_iff_getElem.1 hp.2;have hil:=(List.getElem?_eq_some_iff.1 hi).1;have ei:=(List.getElem?_eq_some_iff.1 hi).2;have ej:=(List.getElem?_eq_some_iff.1 hj).2;have hqy:q∈y.2.foot:=by rw[<-hyq];simp[aF.foot]
   rcases Nat.lt_or_gt_of_ne hij with hlt|hlt
   ·have:=hpw i j hil hjl hlt;rw[ei,ej]at this;exact this q hqy q hq rfl
   ·have:=hpw j i hjl hil hlt;rw[ei,ej]at this;exact this q hq q hqy rfl
 have hr:=hV x hx;have hnf:x.2.foot.Nodup:=by
  have hp:=hnd;rw[List.Nodup,List.pairwise_flatMap]at hp;exact hp.1 x hx
 simp only[aF.foot,List.nodup_cons,List.mem_cons,not_or]at hnf;refine⟨?_,?_,?_,?_⟩
 ·rw[e3,e1,e2];exact h3
 ·rw[e4,e1];exact h.2.2.2.at hr.row (far _ (by simp[aF.foot]) (fun e=>hnf.1.1 e.symm))
 ·rw[e5,e2];exact hr.Oy
 ·rw[e5,e2];intro g hg;exact h.2.2.2.at (hr.KY g hg) (far _ (by simp[aF.foot,hg]) (fun e=>hnf.1.2 (by rw[<-e];simp[hg])))
theorem GI(w:World)(pv:List (aS×aF))(lg:Nat)(hn:pv.length<=20)(hA:At w lg 191 (gQ pv))(hV:∀x∈pv,je w x.2)(hP:∀x∈pv,x.2.org=none)(hor:∀x∈pv,x.1.kind≠0->x.1.origin<pv.length)(hf:∀x∈pv,∀k∈x.2.foot,lg<k)(hnd:(pv.flatMap fun x=>x.2.foot).Nodup) :
 Calls prog 132 #[.slice (some ⟨lg,0,none⟩) pv.length pv.length] w (rZ w pv (jh (pv.map (·.1)) (pv.map (·.1)))):=by
 have hlw:=hA.lt;obtain⟨LB,hLB,hmk⟩:=jM 85 110 (.pointer none) 8 pv.length underlying85 Tryz.NI rfl (by omega) (by omega);generalize hspec:jh (pv.map (·.1)) (pv.map (·.1))=spec;have HSP:Hid (jh (pv.map (·.1)) ((pv.map (·.1)).drop 0)=spec):=hspec;have HI0:Hid (JInv w pv lg w.heap.size 0 (w.alloc (.cells LB 110))):=by
  have S:Same (pv.map (·.2.vb)) w (w.alloc (.cells LB 110)):=(Same.refl _ _).alloc _;refine⟨hA.alloc _,?_,fun j x hx=>?_,S⟩
  ·have:=At.new w LB 110;rw[hLB]at this;simpa using this
  ·have:=(hV x (List.mem_of_getElem? hx)).aA.alloc (.cells LB 110);simpa using this
 have HV:Hid (∀x∈pv,je w x.2):=hV;have HOR:Hid (∀x∈pv,x.1.kind≠0->x.1.origin<pv.length):=hor;have HF:Hid (∀x∈pv,∀k∈x.2.foot,lg<k):=hf;have HND:Hid ((pv.flatMap fun x=>x.2.foot).Nodup):=hnd;have HP:Hid (∀x∈pv,x.2.org=none):=hP;clear hspec hA hV hP hor hf hnd
 go_enter func132,ntmps132
 go_wp2_with fail
 go_loopw [12] (fun i wr=>∃k:Nat,k<=pv.length/\i=.int .i64 k/\JInv w pv lg w.heap.size k wr/\Hid (jh (pv.map (·.1)) ((pv.map (·.1)).drop k)=spec)) (fun i _=>pv.length-(intOf i).toNat)
 case atStart=>exact⟨0,Nat.zero_le _,rfl,HI0.out,HSP⟩
 case round=>
  obtain⟨k,hk,rfl,hJ,HQ⟩:=hrel;by_cases hkl:k<pv.length
  ·have l1:(k:Int)<(pv.length:Int):=by omega
   obtain⟨x,hx⟩:∃x,pv[k]? = some x:=⟨_,List.getElem?_eq_getElem hkl⟩
   have hxm:=List.mem_of_getElem? hx;have cc:=fun j hj=>(hJ.1.cell? (k*5+j)).trans (Bd pv k x hx j hj)
   have a0:wr.cell? ⟨lg,k*5,none⟩=some (.pointer (some ⟨x.2.vb,0,none⟩)):=cc 0 (by omega);have a1:wr.cell? ⟨lg,k*5+1,none⟩=some (.int .i64 x.1.kind):=cc 1 (by omega);have a2:wr.cell? ⟨lg,k*5+2,none⟩=some (.int .i64 x.1.size):=cc 2 (by omega);have a3:wr.cell? ⟨lg,k*5+3,none⟩=some (.int .i64 x.1.origin):=cc 3 (by omega);have a4:wr.cell? ⟨lg,k*5+4,none⟩=some (.int .i64 x.1.iT):=cc 4 (by omega);have j0:wr.cell? ⟨w.heap.size,k,none⟩=some (.pointer none):=by
    rw[hJ.2.1.cell?,List.getElem?_append_right (by simp;omega)];simp only[List.length_map,List.length_take];rw[List.getElem?_replicate,if_pos (by omega)]
   have fj:=hJ.2.1.frozen;have hsz:=hJ.2.1.lt;have hvbl:=(hJ.2.2.1 k x hx).lt;have HJ:Hid (JInv w pv lg w.heap.size k wr):=hJ;clear hJ cc;have hjS:=HJ.out.2.1.ax k (ptr x.2.vb);have hvS:=HJ.out.2.2.1 k x hx;rw[if_neg (by omega)]at hvS;have hvm:=(HV.out x hxm).aA.lt;have hjv:w.heap.size≠x.2.vb:=by omega
   have HST:=fun W=>JInv.step (W:=W) HJ.out hx HND.out hlw (Nat.le_refl _) HV.out HF.out
   have hqd:=HQ.out;rw[UE hx,jh]at hqd;by_cases hk0:x.1.kind=0
   ·have e1:(x.1.kind:Int)=0:=by omega
    rw[e1]at a1;rw[if_pos hk0]at hqd;have HE:Hid (jh (pv.map (·.1)) ((pv.map (·.1)).drop (k+1))=spec):=hqd;have HSJ:Hid (∀o,JInv w pv lg w.heap.size (k+1) ((wr.setCell ⟨w.heap.size,k,none⟩ (ptr x.2.vb)).alloc o)):=fun o=>by
     refine HST _ (((Same.refl _ _).set _ _ _ (by simp)).alloc o) (hjS.alloc o) ?_;unfold bf;rw[if_pos hk0];exact(hvS.aP _ _ _ (Ne.symm hjv)).alloc o
    clear HST hjS hvS hqd HQ
    go_wp2
    refine⟨⟨k+1,by omega,by rw[Int.natCast_add];rfl,HSJ.out _,HE⟩,?_⟩;show pv.length-((k:Int)+1).toNat<pv.length-((k:Int)).toNat;omega
   ·rw[if_neg hk0]at hqd;have e1:((x.1.kind:Int) == 0)=false:=beq_eq_false_iff_ne.2 (by omega);have hol:=HOR.out x hxm hk0;obtain⟨y,hy⟩:∃y,pv[x.1.origin]? = some y:=⟨_,List.getElem?_eq_getElem hol⟩
    have ey:pv[x.1.origin]! = y:=by rw[List.getElem!_eq_getElem?_getD,hy];rfl
    have ey1:(pv.map (·.1))[x.1.origin]! = y.1:=by rw[List.getElem!_eq_getElem?_getD,List.getElem?_map,hy];rfl
    rw[ey1]at hqd;obtain⟨o,ho⟩:∃o,x.1.origin=o:=⟨_,rfl⟩
    rw[ho]at a3 hol hy;have l2:(o:Int)<(pv.length:Int):=by omega
    have cc:=fun j hj=>(HJ.out.1.cell? (o*5+j)).trans (Bd pv o y hy j hj)
    have b0:wr.cell? ⟨lg,o*5,none⟩=some (.pointer (some ⟨y.2.vb,0,none⟩)):=cc 0 (by omega);have b1:wr.cell? ⟨lg,o*5+1,none⟩=some (.int .i64 y.1.kind):=cc 1 (by omega);have b2:wr.cell? ⟨lg,o*5+2,none⟩=some (.int .i64 y.1.size):=cc 2 (by omega);have b3:wr.cell? ⟨lg,o*5+3,none⟩=some (.int .i64 y.1.origin):=cc 3 (by omega);have b4:wr.cell? ⟨lg,o*5+4,none⟩=some (.int .i64 y.1.iT):=cc 4 (by omega);have hlj:lg≠w.heap.size:=by omega
    have hlr:lg<wr.heap.size:=HJ.out.1.lt;have hljn:¬lg=w.heap.size:=by omega
    clear cc;by_cases hok:y.1.kind=0/\y.1.size=x.1.size
    ·rw[if_pos hok]at hqd;have HE:Hid (jh (pv.map (·.1)) ((pv.map (·.1)).drop (k+1))=spec):=hqd;have e2:(y.1.kind:Int)=0:=by omega
     have e3:(y.1.size:Int)=x.1.size:=by omega
     rw[e2]at b1;rw[e3]at b2;have v2:wr.cell? ⟨x.2.vb,2,none⟩=some (.pointer none):=by
      rw[hvS.cell?];show some (Value.pointer (mO x.2.org))=_;rw[HP.out x hxm];rfl
     have fv:=hvS.frozen;have hvj:x.2.vb≠w.heap.size:=Ne.symm hjv;have HSJ:Hid (∀o1 o2,JInv w pv lg w.heap.size (k+1) ((((wr.setCell ⟨w.heap.size,k,none⟩ (ptr x.2.vb)).setCell ⟨x.2.vb,2,none⟩ (ptr y.2.vb)).alloc o1).alloc o2)):=fun o1 o2=>by
      refine HST _ (((((Same.refl _ _).set _ _ _ (by simp)).set _ _ _ (by simp)).alloc o1).alloc o2) (((hjS.aP _ _ _ hjv).alloc o1).alloc o2) ?_;have e:(bf pv x).cells x.2.xs.length x.2.kept.length=(x.2.cells x.2.xs.length x.2.kept.length).set 2 (ptr y.2.vb):=by
       unfold bf;rw[if_neg hk0,ey];rfl
      rw[e];exact(((hvS.aP _ _ _ hvj).ax 2 _).alloc o1).alloc o2
     clear HQ hqd hok HST hjS hvS
     go_wp2_with (go_at_call 134;go_fit (kN _ _);rintro e w3 ⟨rfl,hw⟩;obtain rfl:=hw.symm)
     refine⟨⟨k+1,by omega,by rw[Int.natCast_add];rfl,HSJ.out _ _,HE⟩,?_⟩;show pv.length-((k:Int)+1).toNat<pv.length-((k:Int)).toNat;omega
    ·rw[if_neg hok]at hqd;have HE:Hid (spec=.error x.1.iT):=hqd.symm;have HSE:Hid (∀o1 o2,Same (pv.map (·.2.vb)) w (((wr.setCell ⟨w.heap.size,k,none⟩ (ptr x.2.vb)).alloc o1).alloc o2)):=fun o1 o2=>((HJ.out.2.2.2.set _ _ _ (by omega)).alloc o1).alloc o2
     clear HST hjS hvS HQ hqd;by_cases hyk:y.1.kind=0
     ·have e2:(y.1.kind:Int)=0:=by omega
      rw[e2]at b1;have e3:((y.1.size:Int) == (x.1.size:Int))=false:=beq_eq_false_iff_ne.2 (by omega)
      go_wp2_with (go_at_call 134;go_fit (kS _ _);rintro e w3 ⟨rfl,hw⟩;obtain rfl:=hw.symm;unfold bad)
      refine⟨rfl,?_⟩;show rZ _ _ _ _ _;rw[HE.out];exact⟨rfl,HSE.out _ _⟩
     ·have e2:((y.1.kind:Int) == 0)=false:=beq_eq_false_iff_ne.2 (by omega)
      go_wp2_with (go_at_call 134;go_fit (kS _ _);rintro e w3 ⟨rfl,hw⟩;obtain rfl:=hw.symm;unfold bad)
      refine⟨rfl,?_⟩;show rZ _ _ _ _ _;rw[HE.out];exact⟨rfl,HSE.out _ _⟩
  ·have ek:k=pv.length:=by omega
   subst ek;have HE:Hid (spec=.ok ()):=by
    have:=HQ.out;rw[List.drop_eq_nil_of_le (by simp)]at this;exact this.symm
   have HFI:Hid (At wr w.heap.size 110 (pv.map fun x=>ptr x.2.vb)/\(∀x∈pv,je wr (bf pv x))/\Same (pv.map (·.2.vb)) w wr):=hJ.done HND.out HV.out;clear HQ hJ
   go_wp2
   first
    | (show rZ _ _ _ _ _;rw[HE.out];exact⟨_,rfl,Nat.le_refl _,HFI.out⟩)
    | (go_ret;show rZ _ _ _ _ _;rw[HE.out];exact⟨_,rfl,Nat.le_refl _,HFI.out⟩)
theorem RS(v:aF)(w:World)(h:je w v) :
 Calls prog 88 #[.pointer (some ⟨v.vb,0,none⟩)] w fun e w'=>e=.returned (.bool v.org.isSome)/\w'=w:=by
 have c2:w.cell? ⟨v.vb,2,none⟩=some (.pointer (mO v.org)):=h.aA.cell? 2;clear h;cases ho:v.org with
 | none=>
  rw[ho]at c2;have hq:=yP (P:=prog) w underlying110;simp only[mO,Option.map_none]at c2
  go_enter func88,ntmps88
  go_wp2
  go_ret
  exact⟨rfl,rfl⟩
 | some o=>
  rw[ho]at c2;have hq:=wC (P:=prog) w ⟨o,0,none⟩ underlying110;simp only[mO,Option.map_some]at c2
  go_enter func88,ntmps88
  go_wp2
  go_ret
  exact⟨rfl,rfl⟩
def rY(v:aF):Nat:=if v.org.isSome then v.kept.length else v.xs.length
def gV(v:aF):List Nat:=v.xs.take (rY v)
theorem FZ(v:aF)(h:v.kept.length<=v.xs.length):(gV v).length=rY v:=by
 unfold gV rY;split<;>simp<;>omega
theorem NU(v:aF)(w:World)(h:je w v)(hk:v.kept.length<=v.xs.length)(hx:v.xs.length<=200) :
 Calls prog 149 #[.pointer (some ⟨v.vb,0,none⟩)] w fun e w'=>e=.returned (.slice (some ⟨v.gb,0,none⟩) (rY v) (rY v))/\w'=w:=by
 have hP:=RS v w h;have c1:w.cell? ⟨v.vb,1,none⟩=some (.slice (some ⟨v.gb,0,none⟩) v.xs.length v.xs.length):=h.aA.cell? 1;have c3:w.cell? ⟨v.vb,3,none⟩=some (.slice (mO v.kg) v.kept.length v.kept.length):=h.aA.cell? 3;clear h;unfold rY;generalize v.vb=vb at *;generalize v.gb=gb at *;generalize v.xs.length=n at *;generalize v.kept.length=k at *;cases ho:v.org.isSome with
 | false=>
  rw[ho]at hP;simp only[Bool.false_eq_true,if_false]
  go_enter func149,ntmps149
  go_wp2_with (go_at_call 88;refine hP.mono ?_;rintro e w' ⟨rfl,hw⟩;obtain rfl:=hw.symm)
  go_ret
  exact⟨rfl,rfl⟩
 | true=>
  rw[ho]at hP;simp only[if_true]
  go_enter func149,ntmps149
  go_wp2_with (go_at_call 88;refine hP.mono ?_;rintro e w' ⟨rfl,hw⟩;obtain rfl:=hw.symm)
  go_ret
  exact⟨rfl,rfl⟩
theorem xQ(w:World)(count jg:Nat)(vs:List aF)(hc:count<=200)(hn:vs.length<=20)(hJ:At w jg 110 (vs.map fun v=>ptr v.vb))(hV:∀v∈vs,je w v)(hk:∀v∈vs,v.kept.length<=v.xs.length/\v.xs.length<=200)(hx:∀v∈vs,∀x∈v.xs,x<count) :
 Calls prog 144 #[.int .i64 count,.slice (some ⟨jg,0,none⟩) vs.length vs.length] w fun e w'=>∃ug,e=.returned (.slice (some ⟨ug,0,none⟩) count count)/\w.heap.size<=ug/\At w' ug 4 (seenCells count (vs.flatMap gV))/\Same [] w w':=by
 obtain⟨LB,hLB,hmk⟩:=jM 177 4 (.bool false) 1 count underlying177 Tryz.xK rfl (by omega) (by omega);have HI0:Hid (At (w.alloc (.cells LB 4)) w.heap.size 4 (seenCells count [])/\Same [] w (w.alloc (.cells LB 4))):=by
  refine⟨?_,(Same.refl _ _).alloc _⟩;have:=At.new w LB 4;rw[hLB,<-wB]at this;exact this
 have HJ:Hid (At w jg 110 (vs.map fun v=>ptr v.vb)):=hJ;have HV:Hid (∀v∈vs,je w v/\(v.kept.length<=v.xs.length/\v.xs.length<=200)/\(∀x∈v.xs,x<count)):=fun v hv=>⟨hV v hv,hk v hv,hx v hv⟩
 clear hJ hV hk hx
 go_enter func144,ntmps144
 go_wp2_with fail
 go_loopw [14] (fun i wr=>∃k:Nat,k<=vs.length/\i=.int .i64 k/\At wr w.heap.size 4 (seenCells count ((vs.take k).flatMap gV))/\Same [] w wr) (fun i _=>vs.length-(intOf i).toNat)
 case atStart=>exact⟨0,Nat.zero_le _,rfl,by simpa using HI0.out.1,HI0.out.2⟩
 case round=>
  obtain⟨k,hk,rfl,hA,hS⟩:=hrel;by_cases hkl:k<vs.length
  ·have l1:(k:Int)<(vs.length:Int):=by omega
   obtain⟨v,hv⟩:∃v,vs[k]? = some v:=⟨_,List.getElem?_eq_getElem hkl⟩
   have hvm:=List.mem_of_getElem? hv;have j0:wr.cell? ⟨jg,k,none⟩=some (.pointer (some ⟨v.vb,0,none⟩)):=by
    rw[(hS.at HJ.out (by simp)).cell?,List.getElem?_map,hv];rfl
   have hU:=NU v wr ((HV.out v hvm).1.same hS (by simp)) (HV.out v hvm).2.1.1 (HV.out v hvm).2.1.2;have hul:=FZ v (HV.out v hvm).2.1.1;have hu2:rY v<=200:=by have:=(HV.out v hvm).2.1;unfold rY;split<;>omega
   have ZU:Hid (At w v.gb 3 (v.xs.map fun x:Nat=>Value.int .i64 x)):=(HV.out v hvm).1.row;have HUX:Hid (∀x∈gV v,x<count):=fun x hx=>(HV.out v hvm).2.2 x (List.mem_of_mem_take hx)
   have hgl:=ZU.out.lt;have HA:Hid (At wr w.heap.size 4 (seenCells count ((vs.take k).flatMap gV))/\Same [] w wr):=⟨hA,hS⟩
   have HUG:Hid (∀j,j<rY v->∃x,(gV v)[j]? = some x/\(v.xs.map fun x:Nat=>Value.int .i64 x)[j]? = some (.int .i64 x)):=fun j hj=>by
    have hj':j<(gV v).length:=by omega
    refine⟨_,List.getElem?_eq_getElem hj',?_⟩;have e:=List.getElem?_eq_getElem hj';unfold gV at e ⊢;rw[List.getElem?_take,if_pos hj]at e;rw[List.getElem?_map,e];rfl
   have HTK:Hid (vs.take (k+1)=vs.take k++[v]):=by show _=_;rw[List.take_add_one,hv];rfl
   clear hA hS;generalize rY v=un at *
   go_wp2_with (go_at_call 149;refine hU.mono ?_;rintro e w' ⟨rfl,hw⟩;obtain rfl:=hw.symm)
   go_loopw [21] (fun i wq=>∃q:Nat,q<=un/\i=.int .i64 q/\At wq w.heap.size 4 (seenCells count ((vs.take k).flatMap gV++(gV v).take q))/\Same [] w wq) (fun i _=>un-(intOf i).toNat)
   case atStart=>exact⟨0,Nat.zero_le _,rfl,by simpa using HA.out.1,HA.out.2⟩
   case round=>
    obtain⟨q,hq,rfl,hA,hS⟩:=hrel;by_cases hql:q<un
    ·have l2:(q:Int)<(un:Int):=by omega
     obtain⟨x,hx1,hx2⟩:=HUG.out q hql;have hxc:=HUX.out x (List.mem_of_getElem? hx1);have g0:wr.cell? ⟨v.gb,q,none⟩=some (.int .i64 x):=by rw[(hS.at ZU.out (by simp)).cell?,hx2]
     have u0:wr.cell? ⟨w.heap.size,x,none⟩=some (.bool (decide (x∈(vs.take k).flatMap gV++(gV v).take q))):=by rw[hA.cell?,jL count _ x hxc]
     generalize decide (x∈(vs.take k).flatMap gV++(gV v).take q)=ub at u0;have fu:=hA.frozen;have hxl:(x:Int)<(count:Int):=by omega
     have HN:Hid (At (wr.setCell ⟨w.heap.size,x,none⟩ (.bool true)) w.heap.size 4 (seenCells count ((vs.take k).flatMap gV++(gV v).take (q+1)))/\Same [] w (wr.setCell ⟨w.heap.size,x,none⟩ (.bool true))):=by
      refine⟨?_,hS.set _ _ _ (by omega)⟩;have:=hA.ax x (.bool true);rw[LW count _ x hxc,List.append_assoc]at this;have e:(gV v).take (q+1)=(gV v).take q++[x]:=by rw[List.take_add_one,hx1];rfl
      rw[e];exact this
     clear hA hS hU HA hx1 hx2
     go_wp2
     refine⟨⟨q+1,by omega,by rw[Int.natCast_add];rfl,HN.out.1,HN.out.2⟩,?_⟩;show un-((q:Int)+1).toNat<un-((q:Int)).toNat;omega
    ·have eq:q=un:=by omega
     subst eq;have HN:Hid (At wr w.heap.size 4 (seenCells count ((vs.take (k+1)).flatMap gV))/\Same [] w wr):=by
      refine⟨?_,hS⟩;rw[HTK.out,List.flatMap_append];rw[<-hul,List.take_length]at hA;simpa using hA
     clear hA hS hU HA
     go_wp2
     refine⟨⟨k+1,by omega,by rw[Int.natCast_add];rfl,HN.out.1,HN.out.2⟩,?_⟩;show vs.length-((k:Int)+1).toNat<vs.length-((k:Int)).toNat;omega
  ·have ek:k=vs.length:=by omega
   subst ek;rw[List.take_length]at hA;have HN:Hid (At wr w.heap.size 4 (seenCells count (vs.flatMap gV))/\Same [] w wr):=⟨hA,hS⟩
   clear hA hS
   go_wp2
   first
    | exact⟨_,rfl,Nat.le_refl _,HN.out⟩
    | (go_ret;exact⟨_,rfl,Nat.le_refl _,HN.out⟩)
end
end Go.Proofs.YtpddgdjocffgdaaGreat
