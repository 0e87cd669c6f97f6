/- The reference's reader of an image: tied, whole. -/
import Derived.Test.YtpddgdjocffgdaaGreatJ20
import Derived.Test.YtpddgdjocffgdaaGreatJ22
namespace Go.Proofs.YtpddgdjocffgdaaGreat
set_option linter.unusedVariables false
set_option linter.unusedSimpArgs false
set_option linter.unusedSectionVars false
set_option maxHeartbeats 16000000
set_option maxRecDepth 100000
section
open Go.RowKit Go.Sort
variable [DecidableEq Blk] [Inhabited Blk] [Inhabited Vol] [Inhabited RVol] [Inhabited RRow]
theorem bodyPost_imp{P:Program}{f:Func}{R R':Ending->World->Prop}(h:∀e w,R e w->R' e w):∀(e:Exit) (a:Act) (w:World),bodyPost P f R e a w->bodyPost P f R' e a w:=fun e a w hb=>by
 cases e with
 | normal=>obtain⟨h1,v,h2,h3⟩:=hb;exact⟨h1,v,h2,h _ _ h3⟩
 | ret=>obtain⟨h1,v,h2,h3⟩:=hb;exact⟨h1,v,h2,h _ _ h3⟩
 | panic c=>obtain⟨h1,h2⟩:=hb;exact⟨h1,h _ _ h2⟩
 | outgrown=>exact h _ _ hb
 | exit i=>exact hb
 | goto l=>exact hb
structure XsOk(n:Nat)(xs:List RRow):Prop where
 few:xs.length<=20
 nle:n<=200
 org:∀x∈xs,∀o,x.e.origin=some o->o < xs.length
 size:∀x∈xs,x.e.size<=200
 bl:∀x∈xs,∀b∈x.e.xs,b < n
 len:∀x∈xs,1<=x.e.xs.length/\x.e.xs.length<=x.e.size
 vol:∀x∈xs,x.e.origin=none->x.e.xs.length=x.e.size/\x.e.kept=[]
 kept:∀x∈xs,(∀k∈x.e.kept,k < x.e.size)/\x.e.kept.length<=x.e.xs.length
def holdX(B:List UInt8)(a2:Nat)(xs:List RRow)(j:Nat):List ByteArray:=
 match (xs[j]!).e.origin with
 | none=>dataX B a2 (xs[j]!).e.xs
 | some o=>picD B a2 xs[j]! (dataX B a2 (xs[o]!).e.xs) (xs[j]!).e.kept.length
def tiedR(rb:Nat)(lp:Option Nat)(n:Nat)(xs:List RRow)(ofs:List ByteArray)(ds:List (Value×List ByteArray)):RSt:=
 ⟨rb,lp,n,(List.range xs.length).map fun j=>⟨(xs[j]!).vb,((ds[j]!).1.ownBlock).getD 0,(xs[j]!).bg,(xs[j]!).kg,(xs[j]!).e.name,ofs[j]!,(ds[j]!).2,(xs[j]!).e.xs,(xs[j]!).e.kept,(xs[j]!).e.lost⟩⟩
theorem tiedR_get(rb:Nat)(lp:Option Nat)(n:Nat)(xs:List RRow)(ofs:List ByteArray)(ds:List (Value×List ByteArray))(j:Nat)(hj:j < xs.length):(tiedR rb lp n xs ofs ds).vols[j]! = ⟨(xs[j]!).vb,((ds[j]!).1.ownBlock).getD 0,(xs[j]!).bg,(xs[j]!).kg,(xs[j]!).e.name,ofs[j]!,(ds[j]!).2,(xs[j]!).e.xs,(xs[j]!).e.kept,(xs[j]!).e.lost⟩:=by
 unfold tiedR;rw[getElem!_pos _ j (by simpa using hj)];simp
structure TiedOk(w0 w':World)(B:List UInt8)(a1 n:Nat)(xs:List RRow)(rb:Nat)(r:RSt):Prop where
 ref:RefAt w' r
 erb:r.rb=rb
 en:r.n=n
 len:r.vols.length=xs.length
 each:∀j,j < xs.length->(r.vols[j]!).name=(xs[j]!).e.name/\(r.vols[j]!).of_=(ofsX xs xs.length)[j]!/\(r.vols[j]!).data=holdX B a1 xs j/\(r.vols[j]!).blocks=(xs[j]!).e.xs/\(r.vols[j]!).kept=(xs[j]!).e.kept/\(r.vols[j]!).lost=(xs[j]!).e.lost
 nodup:r.foot.Nodup
 new:∀k∈r.foot,w0.heap.size<=k
inductive TiedPost (w0 w':World) (sb:Nat) (B:List UInt8) (a1 n:Nat) (xs:List RRow) (rb:Nat):Prop where
 | join (q:Nat) (h:joinX xs xs.length=some q) (sc:ScAt w0 w' sb B a1 (some q)):TiedPost w0 w' sb B a1 n xs rb
 | short (h:joinX xs xs.length=none) (hl:¬a1+8 * n<=B.length) (sc:ScAt w0 w' sb B a1 (some B.length)):TiedPost w0 w' sb B a1 n xs rb
 | full (r:RSt) (h:joinX xs xs.length=none) (hl:a1+8 * n<=B.length) (ok:TiedOk w0 w' B a1 n xs rb r) (sc:ScAt w0 w' sb B (a1+8 * n) (mustB (blocksX B r a1 n none) (decide (a1+8 * n=B.length)) (a1+8 * n))):TiedPost w0 w' sb B a1 n xs rb
theorem joinX_ok(xs:List RRow):∀i,i<=xs.length->joinX xs i=none->∀j,j < i->∀o,(xs[j]!).e.origin=some o->(xs[o]!).e.origin=none/\(xs[o]!).e.size=(xs[j]!).e.size
 | 0,_,_,j,hj,_,_=>by omega
 | i+1,hi,h,j,hj,o,ho=>by
  unfold joinX at h;cases h1:joinX xs i with
  | some q=>rw[h1] at h;cases h
  | none=>
   rw[h1] at h;by_cases e:j=i
   ·subst e;rw[ho] at h;simp only at h;by_cases hc:(xs[o]!).e.origin=none/\(xs[o]!).e.size=(xs[j]!).e.size
    ·exact hc
    ·rw[if_neg hc] at h;cases h
   ·exact joinX_ok xs i (by omega) h1 j (by omega) o ho
theorem Rows.raise{w:World}{base base':Nat}{xs:List RRow}{ofs:List ByteArray}(h:Rows w base xs ofs (List.replicate xs.length (.slice none 0 0,[])))(hb:base<=base'):Rows w base' xs ofs (List.replicate xs.length (.slice none 0 0,[])):=by
 refine⟨h.fix,h.vol,fun j hj=>?_,h.apart,h.nodup,fun x hx q hq=>by have:=h.low x hx q hq;omega,h.lo,h.ld⟩;rw[getElem!_pos _ j (by simpa using hj),List.getElem_replicate];exact World.ownsRow_nil _ _ _ _
theorem ofs_empty(xs:List RRow)(n:Nat)(hn:XsOk n xs)(hnm:∀x∈xs,x.e.name≠⟨#[]⟩)(j:Nat)(hj:j < xs.length):((ofsX xs xs.length)[j]! = ⟨#[]⟩↔(xs[j]!).e.origin=none):=by
 unfold ofsX;rw[getElem!_pos _ j (by simpa using hj)];simp only[List.getElem_map,List.getElem_range,if_pos hj];cases ho:(xs[j]!).e.origin with
 | none=>simp
 | some o=>
  simp only[reduceCtorEq,iff_false];have:=hn.org _ (by rw[getElem!_pos xs j hj];exact List.getElem_mem hj) o ho;exact hnm _ (by rw[getElem!_pos xs o this];exact List.getElem_mem this)
structure PoolL(w0 W:World)(sb rb:Nat)(lp:Option Nat)(pcap n:Nat)(xs:List RRow):Prop where
 pool:At W rb 84 [.int .i64 (n:Int),.slice (lp.map fun b=>⟨b,0,none⟩) xs.length pcap]
 cap:xs.length<=pcap/\(lp=none->xs=[]/\pcap=0)
 list:∀b,lp=some b->∃cs,At W b 115 cs/\cs.take xs.length=xs.map (fun x=>ptr x.vb)/\xs.length<=cs.length
 rbs:rb≠sb/\w0.heap.size<=rb/\∀x∈xs,rb∉x.foot
 lps:∀b,lp=some b->b≠sb/\b≠rb/\w0.heap.size<=b/\∀x∈xs,b∉x.foot
theorem tied_ref{w0 W V wd:World}{sb rb:Nat}{lp:Option Nat}{pcap n a1:Nat}{B:List UInt8}{xs:List RRow}{ds:List (Value×List ByteArray)}(hP:PoolL w0 W sb rb lp pcap n xs)(hX:XsOk n xs)(hj:joinX xs xs.length=none)(hS:Same (sb :: xs.map (·.vb)) W V)(h:PInv V wd B a1 xs (ofsX xs xs.length) xs.length ds none)(hvw:∀x∈xs,∀q∈x.foot,w0.heap.size<=q)(hw0:w0.heap.size<=V.heap.size):TiedOk w0 wd B a1 n xs rb (tiedR rb lp n xs (ofsX xs xs.length) ds):=by
 have hm:∀j,j < xs.length->xs[j]!∈xs:=fun j hj=>by rw[getElem!_pos xs j hj];exact List.getElem_mem hj
 have hvm:∀q,(∀x∈xs,q∉x.foot)->q∉xs.map (·.vb):=fun q hq hqm=>by
  obtain⟨x,hx,rfl⟩:=List.mem_map.1 hqm;exact hq x hx (by simp[RRow.foot])
 have hS2:=h.same;have hhold:∀j,j < xs.length->(ds[j]!).2=holdX B a1 xs j:=fun j hj=>by
  unfold holdX;cases ho:(xs[j]!).e.origin with
  | none=>exact h.vol j hj ho
  | some o=>exact h.done j hj hj o ho
 have hlen:∀j,j < xs.length->1<=(ds[j]!).2.length/\(ds[j]!).2.length<=200:=fun j hj=>by
  rw[hhold j hj];unfold holdX;cases ho:(xs[j]!).e.origin with
  | none=>
   simp only[dataX,List.length_map];have h1:=hX.len _ (hm j hj);have h2:=hX.size _ (hm j hj);omega
  | some o=>
   simp only[picD_length,dataX,List.length_map];have hol:=hX.org _ (hm j hj) o ho;have h1:=hX.len _ (hm o hol);have h2:=hX.size _ (hm o hol);omega
 have hblk:∀j,j < xs.length->∃g cap cs,(ds[j]!).1=.slice (some ⟨g,0,none⟩) (ds[j]!).2.length cap/\(ds[j]!).1.ownBlock=some g/\V.heap.size<=g/\At wd g 9 cs/\cs.length=cap/\cs.take (ds[j]!).2.length=(ds[j]!).2.map Value.string/\(ds[j]!).2.length<=cap/\cap<=maxLen:=fun j hj=>by
  have hr:=h.rows.dat j hj;obtain⟨g,cap,e,h1,h2⟩:=owns_block hr (hlen j hj).1;rw[e] at hr;obtain⟨g',cs,e1,e2,e3,e4,e5,e6⟩:=owns_at hr (by have:=(hlen j hj).1;omega);obtain rfl:g=g':=by simpa using e1
  exact⟨g,cap,cs,e,by rw[e];rfl,e2,e3,e5,e6,h1,h2⟩
 have hrb:=hP.rbs;have hgets:∀v∈(tiedR rb lp n xs (ofsX xs xs.length) ds).vols,∃j,j < xs.length/\v=⟨(xs[j]!).vb,((ds[j]!).1.ownBlock).getD 0,(xs[j]!).bg,(xs[j]!).kg,(xs[j]!).e.name,(ofsX xs xs.length)[j]!,(ds[j]!).2,(xs[j]!).e.xs,(xs[j]!).e.kept,(xs[j]!).e.lost⟩:=fun v hv=>by
  unfold tiedR at hv;obtain⟨j,hj,rfl⟩:=List.mem_map.1 hv;exact⟨j,List.mem_range.1 hj,rfl⟩
 have hlenV:(tiedR rb lp n xs (ofsX xs xs.length) ds).vols.length=xs.length:=by simp[tiedR]
 refine⟨⟨⟨pcap,?_,by rw[hlenV];exact hP.cap.1,fun hn=>?_⟩,fun b hb=>?_,fun v hv=>?_,by rw[hlenV];exact hX.few,hX.nle⟩,rfl,rfl,hlenV,fun j hj=>?_,?_,?_⟩
 ·rw[hlenV];exact hS2.at (hS.at hP.pool (by simp only[List.mem_cons,not_or];exact⟨hrb.1,hvm _ hrb.2.2⟩)) (hvm _ hrb.2.2)
 ·have h1:=hP.cap.2 hn;refine⟨?_,h1.2⟩;simp[tiedR,h1.1]
 ·obtain⟨cs,h1,h2,h3⟩:=hP.list b hb;have hbn:=hP.lps b hb;refine⟨cs,hS2.at (hS.at h1 (by simp only[List.mem_cons,not_or];exact⟨hbn.1,hvm _ hbn.2.2.2⟩)) (hvm _ hbn.2.2.2),?_,by rw[hlenV];exact h3⟩;rw[hlenV,h2];apply List.ext_getElem
  ·simp[tiedR]
  ·intro j h4 h5;have hjx:j < xs.length:=by simpa using h4
   simp only[tiedR,List.getElem_map,List.getElem_range];rw[getElem!_pos xs j hjx]
 ·obtain⟨j,hj,rfl⟩:=hgets v hv;obtain⟨g,cap,cs,e1,e2,e3,e4,e5,e6,e7,e8⟩:=hblk j hj;have hf:=h.rows.fix j hj;have hv':=h.rows.vol j hj;have h1:=hX.len _ (hm j hj);have h2:=hX.size _ (hm j hj);have h3:=hX.kept _ (hm j hj);refine⟨⟨cap,(xs[j]!).bc,(xs[j]!).kc,?_,?_,hf.bl,hf.ke.1,hf.ke.2⟩,(hlen j hj).2,by show (xs[j]!).e.xs.length<=200;omega,by show (xs[j]!).e.kept.length<=200;omega⟩
  ·rw[e1] at hv';rw[e2];exact hv'
  ·rw[e2];exact⟨cs,e4,e5,e6,e7,e8⟩
 ·rw[tiedR_get _ _ _ _ _ _ j hj];exact⟨rfl,rfl,hhold j hj,rfl,rfl,rfl⟩
 ·have hlow:∀x∈xs,∀q∈x.foot,q < V.heap.size:=h.rows.low;have hrbV:rb < V.heap.size:=(hS.at hP.pool (by simp only[List.mem_cons,not_or];exact⟨hrb.1,hvm _ hrb.2.2⟩)).lt;have hmemf:∀q∈(tiedR rb lp n xs (ofsX xs xs.length) ds).vols.flatMap RVol.foot,(∃x∈xs,q∈x.foot)\/V.heap.size<=q:=fun q hq=>by
   obtain⟨v,hv,hqv⟩:=List.mem_flatMap.1 hq;obtain⟨j,hj,rfl⟩:=hgets v hv;obtain⟨g,cap,cs,e1,e2,e3,_⟩:=hblk j hj;simp only[RVol.foot,List.mem_cons,e2,Option.getD_some] at hqv;rcases hqv with e|e|e|e
   ·exact Or.inl ⟨_,hm j hj,by rw[e];simp[RRow.foot]⟩
   ·exact Or.inr (by rw[e];exact e3)
   ·exact Or.inl ⟨_,hm j hj,by rw[e];simp[RRow.foot]⟩
   ·exact Or.inl ⟨_,hm j hj,by simp only[RRow.foot,List.mem_cons];exact Or.inr (Or.inr (Or.inr e))⟩
  show (rb :: (lp.toList++(tiedR rb lp n xs (ofsX xs xs.length) ds).vols.flatMap RVol.foot)).Nodup;rw[List.nodup_cons];refine⟨fun hmem=>?_,?_⟩
  ·rcases List.mem_append.1 hmem with h1|h1
   ·have hb:lp=some rb:=by simpa using h1
    exact (hP.lps rb hb).2.1 rfl
   ·rcases hmemf rb h1 with⟨x,hx,hq⟩|h2
    ·exact hrb.2.2 x hx hq
    ·omega
  ·rw[List.nodup_append];refine⟨?_,?_,?_⟩
   ·cases lp<;>simp
   ·refine List.pairwise_flatMap.2 ⟨fun v hv=>?_,?_⟩
    ·show (RVol.foot v).Nodup;obtain⟨j,hj,rfl⟩:=hgets v hv;obtain⟨g,cap,cs,e1,e2,e3,_⟩:=hblk j hj;have hn1:=foot_nodup h.rows.nodup hj;have hl1:=hlow _ (hm j hj);simp only[RRow.foot,List.nodup_cons,List.mem_cons,not_or] at hn1;simp only[RVol.foot,e2,Option.getD_some,List.nodup_cons,List.mem_cons,not_or];have l1:=hl1 (xs[j]!).vb (by simp[RRow.foot]);have l2:=hl1 (xs[j]!).bg (by simp[RRow.foot]);refine⟨⟨by omega,hn1.2.1.1,hn1.2.1.2⟩,⟨by omega,fun hk=>?_⟩,hn1.2.2.1,hn1.2.2.2⟩;have:=hl1 g (by simp only[RRow.foot,List.mem_cons];exact Or.inr (Or.inr (Or.inr hk)));omega
    ·unfold tiedR;simp only;rw[List.pairwise_map];refine List.Pairwise.imp_of_mem (R:=fun a b=>a < b) ?_ (List.pairwise_lt_range);intro i j hi hj hij;have hi:=List.mem_range.1 hi;have hj:=List.mem_range.1 hj;obtain⟨g,cap,cs,e1,e2,e3,_⟩:=hblk i hi;obtain⟨g',cap',cs',e1',e2',e3',_⟩:=hblk j hj;intro a ha b hb hab;subst hab;simp only[RVol.foot,e2,e2',Option.getD_some,List.mem_cons] at ha hb;have hfi:∀q,(q=(xs[i]!).vb\/q=(xs[i]!).bg\/q∈(xs[i]!).kg.toList)->q∈(xs[i]!).foot:=fun q hq=>by
      simp only[RRow.foot,List.mem_cons];exact Or.inr (hq.imp id (fun h=>h.imp id id))
     have hfj:∀q,(q=(xs[j]!).vb\/q=(xs[j]!).bg\/q∈(xs[j]!).kg.toList)->q∈(xs[j]!).foot:=fun q hq=>by
      simp only[RRow.foot,List.mem_cons];exact Or.inr (hq.imp id (fun h=>h.imp id id))
     have hap:=fun (h1:a∈(xs[i]!).foot) (h2:a∈(xs[j]!).foot)=>foot_apart h.rows.nodup hi hj (by omega) h1 h2
     have ha':a=g\/(a=(xs[i]!).vb\/a=(xs[i]!).bg\/a∈(xs[i]!).kg.toList):=by
      rcases ha with e|e|e|e
      ·exact Or.inr (Or.inl e)
      ·exact Or.inl e
      ·exact Or.inr (Or.inr (Or.inl e))
      ·exact Or.inr (Or.inr (Or.inr e))
     have hb':a=g'\/(a=(xs[j]!).vb\/a=(xs[j]!).bg\/a∈(xs[j]!).kg.toList):=by
      rcases hb with e|e|e|e
      ·exact Or.inr (Or.inl e)
      ·exact Or.inl e
      ·exact Or.inr (Or.inr (Or.inl e))
      ·exact Or.inr (Or.inr (Or.inr e))
     rcases ha' with ha'|ha'<;>rcases hb' with hb'|hb'
     ·exact h.rows.apart i j hi hj (by omega) g e2 (by rw[e2',<-hb',ha'])
     ·have:=hlow _ (hm j hj) a (hfj a hb');omega
     ·have:=hlow _ (hm i hi) a (hfi a ha');omega
     ·exact hap (hfi a ha') (hfj a hb')
   ·intro a ha b hb hab;subst hab;have hl:lp=some a:=by simpa using ha
    have hpl:=hP.lps a hl;rcases hmemf a hb with⟨x,hx,hq⟩|h2
    ·exact hpl.2.2.2 x hx hq
    ·obtain⟨cs,h1,_⟩:=hP.list a hl;have:=(hS.at h1 (by simp only[List.mem_cons,not_or];exact⟨hpl.1,hvm _ hpl.2.2.2⟩)).lt;omega
 ·intro k hk;simp only[RSt.foot,List.mem_cons,List.mem_append] at hk;rcases hk with e|e|e
  ·rw[e];exact hrb.2.1
  ·have hl:lp=some k:=by simpa [tiedR] using e
   exact (hP.lps k hl).2.2.1
  ·obtain⟨v,hv,hqv⟩:=List.mem_flatMap.1 e;obtain⟨j,hj,rfl⟩:=hgets v hv;obtain⟨g,cap,cs,e1,e2,e3,_⟩:=hblk j hj;simp only[RVol.foot,List.mem_cons,e2,Option.getD_some] at hqv;have hf:=hvw _ (hm j hj);rcases hqv with e|e|e|e
   ·exact hf k (by rw[e];simp[RRow.foot])
   ·rw[e];omega
   ·exact hf k (by rw[e];simp[RRow.foot])
   ·exact hf k (by simp only[RRow.foot,List.mem_cons];exact Or.inr (Or.inr (Or.inr e)))
theorem tied_all(w0 W:World)(sb rb:Nat)(la:Option Addr)(lc:Nat)(lp:Option Nat)(pcap:Nat)(B:List UInt8)(xs:List RRow)(a1 n:Nat)(hl:B.length<=140737488355328)(hSc:ScAt w0 W sb B a1 none)(hR:Rows W W.heap.size xs (ofsX xs 0) (List.replicate xs.length (.slice none 0 0,[])))(hE:EntsAt W la xs)(hlg:∀lg,la=some ⟨lg,0,none⟩->lg∉sb :: xs.map (·.vb))(hsb:∀x∈xs,sb∉x.foot)(hX:XsOk n xs)(hnm:∀x∈xs,x.e.name≠⟨#[]⟩)(hvw:∀x∈xs,∀q∈x.foot,w0.heap.size<=q)(hP:PoolL w0 W sb rb lp pcap n xs) :
 Calls Tryz.prog 112 #[.pointer (some ⟨sb,0,none⟩),.slice la xs.length lc,.pointer (some ⟨rb,0,none⟩)] W fun e w'=>e=.returned (.tuple #[])/\TiedPost w0 w' sb B a1 n xs rb:=by
 have hm:∀j,j < xs.length->xs[j]!∈xs:=fun j hj=>by rw[getElem!_pos xs j hj];exact List.getElem_mem hj
 have hsbv:sb∉xs.map (·.vb):=fun hq=>by
  obtain⟨x,hx,e⟩:=List.mem_map.1 hq;exact hsb x hx (by rw[<-e];simp[RRow.foot])
 have hrbv:rb∉sb :: xs.map (·.vb):=by
  simp only[List.mem_cons,not_or];refine⟨hP.rbs.1,fun hq=>?_⟩;obtain⟨x,hx,e⟩:=List.mem_map.1 hq;exact hP.rbs.2.2 x hx (by rw[<-e];simp[RRow.foot])
 refine tied_calls w0 W sb rb W.heap.size la lc B xs a1 n _ hl ⟨hR,hSc,Same.refl _ _⟩ hE hlg hsb hSc.cell.lt hX.org hX.few (fun x hx=>by have:=hX.size x hx;omega) (fun x hx=>hvw x hx _ (by simp[RRow.foot])) hP.pool rfl hrbv hX.nle _ (fun w' q hq hs _=>⟨rfl,?_⟩) ?_
 ·rcases hq with hq|⟨hq,hn,rfl⟩
  ·exact .join q hq hs
  ·exact .short hq hn hs
 ·intro _ _ _ _ _ _ _ _ _ _ _ _ _ _ _ _ _ _ _ _ _ _ _ _ _ _ _ _ _ _ _ _ _ _ _ _ _ _ _ _ _ _ _ _ _ _ _ _ _ _ _ _ _ _ _ _ _ _ _ _ _ _ _ _ _ _ _ _ _ _ _ _ _ _ _ _ _ _ _ _ _ _ _ _ _ _ _ _ _ _ _ _ _ _ _ _ _ _ _ _ _ _ _ _ _ _ _ _ _ _ _ _ _ _ _ _ _ _ _ _ _ _ _ _ _ _ _ _ _ _ _ _ _ _ _ _ _ _ _ _ _ _ _ _ _ _ _ _ _ _ _ _ _ _ _ _ _ _ _ _ _ _ _ _ _ _ _ _ _ _ _ _ _ _ _ _ _ _ _ _ _ _ _ _ _ _ _ _ _ _ _ _ _ _ _ _ _ _ _ _ _ _ _ _ _ _ _ _ _ _ _ _ _ _ _ _ _ _ _ _ _ _ _ _ _ _ _ _ _ _ _ _ _ _ _ _ _ _ _ _ _ _ _ _ _ _ _ _ _ _ _ _ _ _ _ _ _ _ _ _ _ _ _ _ _ _ _ _ _ _ _ _ _ _ _ _ _ _ _ _ _ _ _ _ _ _ _ _ _ _ _ _ _ _ _ _ _ _ _ _ _ _ _ _ _ _ _ _ _ _ _ _ _ _ _ _ _ _ _ _ _ _ _ _ _ V hj hle hV;obtain⟨hRV,hScV,hSV⟩:=hV.out;have hw0:w0.heap.size<=V.heap.size:=hScV.same.size;have hp:∀x∈xs,∀o,x.e.origin=some o->o < xs.length/\(xs[o]!).e.origin=none/\1<=(xs[o]!).e.xs.length/\(∀k∈x.e.kept,k < (xs[o]!).e.xs.length)/\x.e.kept.length<=x.e.xs.length:=fun x hx o ho=>by
   have hol:=hX.org x hx o ho;obtain⟨j,hjl,hje⟩:=List.getElem_of_mem hx;have e:xs[j]! = x:=by rw[getElem!_pos xs j hjl];exact hje
   obtain⟨h1,h2⟩:=joinX_ok xs _ (Nat.le_refl _) hj j hjl o (by rw[e];exact ho);rw[e] at h2;have h3:=hX.vol _ (hm o hol) h1;refine⟨hol,h1,(hX.len _ (hm o hol)).1,fun k hk=>?_,(hX.kept x hx).2⟩;rw[h3.1,h2];exact (hX.kept x hx).1 k hk
  have hEV:EntsAt V la xs:=⟨fun hne=>by
   obtain⟨lg,cs,h1,h2,h3⟩:=hE.ex hne;exact⟨lg,cs,h1,hSV.at h2 (hlg lg h1),h3⟩⟩
  have hlgV:∀lg,la=some ⟨lg,0,none⟩->lg∉xs.map (·.vb):=fun lg e hq=>hlg lg e (List.mem_cons_of_mem _ hq)
  have hx2:∀x∈xs,x.e.xs.length<=200:=fun x hx=>by have:=hX.len x hx;have:=hX.size x hx;omega
  refine tied_vols _ _ _ _ _ _ _ _ _ _ _ _ _ _ _ _ _ _ _ _ _ _ _ _ _ _ _ _ _ _ _ _ _ _ _ _ _ _ _ _ _ _ _ _ _ _ _ _ _ _ _ _ _ _ _ _ _ _ _ _ _ _ _ _ _ _ _ _ _ _ _ _ _ _ _ _ _ _ _ _ _ _ _ _ _ _ _ _ _ _ _ _ _ _ _ _ _ _ _ _ _ _ _ _ _ _ _ _ _ _ _ _ _ _ _ _ _ _ _ _ _ _ _ _ _ _ _ _ _ _ _ _ _ _ _ _ _ _ _ _ _ _ _ _ _ _ _ _ _ _ _ _ _ _ _ _ _ _ _ _ _ _ _ _ _ _ _ _ _ _ _ _ _ _ _ _ _ _ _ _ _ _ _ _ _ _ _ _ _ _ _ _ _ _ _ _ _ _ _ _ _ _ _ _ _ _ _ _ _ _ _ _ _ _ _ _ _ _ _ _ _ _ _ _ _ _ _ _ _ _ _ _ _ _ _ _ _ _ _ _ _ _ _ _ _ _ _ _ _ _ _ _ _ _ _ _ _ _ _ _ _ _ _ _ _ _ _ _ _ _ _ _ _ _ _ _ _ _ _ _ _ _ _ _ _ _ _ _ _ _ _ _ _ _ _ _ _ _ _ _ _ _ _ _ _ _ _ _ _ _ _ _ _ _ _ _ _ _ _ _ _ _ _ _ _ w0 V V sb rb la lc B xs (ofsX xs xs.length) n a1 [] hl hScV hle (Same.refl _ _) hEV hlgV (hRV.raise hSV.size) hX.bl hx2 hX.nle hX.few _ ?_;intro _ _ _ _ _ _ _ _ _ _ _ _ _ _ _ _ _ _ _ _ _ _ _ _ _ _ _ _ _ _ _ _ _ _ _ _ _ _ _ _ _ _ _ _ _ _ _ _ _ _ _ _ _ _ _ _ _ _ _ _ _ _ _ _ _ _ _ _ _ _ _ _ _ _ _ _ _ _ _ _ _ _ _ _ _ _ _ _ _ _ _ _ _ _ _ _ _ _ _ _ _ _ _ _ _ _ _ _ _ _ _ _ _ _ _ _ _ _ _ _ _ _ _ _ _ _ _ _ _ _ _ _ _ _ _ _ _ _ _ _ _ _ _ _ _ _ _ _ _ _ _ _ _ _ _ _ _ _ _ _ _ _ _ _ _ _ _ _ _ _ _ _ _ _ _ _ _ _ _ _ _ _ _ _ _ _ _ _ _ _ _ _ _ _ _ _ _ _ _ _ _ _ _ _ _ _ _ _ _ _ _ _ _ _ _ _ _ _ _ _ _ _ _ _ _ _ _ _ _ _ _ _ _ _ _ _ _ _ _ _ _ _ _ _ _ _ _ _ _ _ _ _ _ _ _ _ _ _ _ _ _ _ _ _ _ _ _ _ _ _ _ _ _ _ _ _ _ _ _ _ _ _ _ _ _ _ _ _ _ _ _ _ _ _ _ _ _ _ _ _ _ _ _ _ _ _ _ _ _ _ _ _ _ _ _ _ _ _ _ _ _ _ _ _ _ V1 ds1 hV1;refine tied_pics _ _ _ _ _ _ _ _ _ _ _ _ _ _ _ _ _ _ _ _ _ _ _ _ _ _ _ _ _ _ _ _ _ _ _ _ _ _ _ _ _ _ _ _ _ _ _ _ _ _ _ _ _ _ _ _ _ _ _ _ _ _ _ _ _ _ _ _ _ _ _ _ _ _ _ _ _ _ _ _ _ _ _ _ _ _ _ _ _ _ _ _ _ _ _ _ _ _ _ _ _ _ _ _ _ _ _ _ _ _ _ _ _ _ _ _ _ _ _ _ _ _ _ _ _ _ _ _ _ _ _ _ _ _ _ _ _ _ _ _ _ _ _ _ _ _ _ _ _ _ _ _ _ _ _ _ _ _ _ _ _ _ _ _ _ _ _ _ _ _ _ _ _ _ _ _ _ _ _ _ _ _ _ _ _ _ _ _ _ _ _ _ _ _ _ _ _ _ _ _ _ _ _ _ _ _ _ _ _ _ _ _ _ _ _ _ _ _ _ _ _ _ _ _ _ _ _ _ _ _ _ _ _ _ _ _ _ _ _ _ _ _ _ _ _ _ _ _ _ _ _ _ _ _ _ _ _ _ _ _ _ _ _ _ _ _ _ _ _ _ _ _ _ _ _ _ _ _ _ _ _ _ _ _ _ _ _ _ _ _ _ _ _ _ _ _ _ _ _ _ _ _ _ _ _ _ _ _ _ _ _ _ _ _ _ _ _ _ _ _ _ _ _ _ _ V V1 sb rb la lc B xs (ofsX xs xs.length) ds1 n a1 hle hV1.out hEV hlgV hX.bl hx2 hX.nle hX.few hp _ ?_;intro _ _ _ _ _ _ _ _ _ _ _ _ _ _ _ _ _ _ _ _ _ _ _ _ _ _ _ _ _ _ _ _ _ _ _ _ _ _ _ _ _ _ _ _ _ _ _ _ _ _ _ _ _ _ _ _ _ _ _ _ _ _ _ _ _ _ _ _ _ _ _ _ _ _ _ _ _ _ _ _ _ _ _ _ _ _ _ _ _ _ _ _ _ _ _ _ _ _ _ _ _ _ _ _ _ _ _ _ _ _ _ _ _ _ _ _ _ _ _ _ _ _ _ _ _ _ _ _ _ _ _ _ _ _ _ _ _ _ _ _ _ _ _ _ _ _ _ _ _ _ _ _ _ _ _ _ _ _ _ _ _ _ _ _ _ _ _ _ _ _ _ _ _ _ _ _ _ _ _ _ _ _ _ _ _ _ _ _ _ _ _ _ _ _ _ _ _ _ _ _ _ _ _ _ _ _ _ _ _ _ _ _ _ _ _ _ _ _ _ _ _ _ _ _ _ _ _ _ _ _ _ _ _ _ _ _ _ _ _ _ _ _ _ _ _ _ _ _ _ _ _ _ _ _ _ _ _ _ _ _ _ _ _ _ _ _ _ _ _ _ _ _ _ _ _ _ _ _ _ _ _ _ _ _ _ _ _ _ _ _ _ _ _ _ _ _ _ _ _ _ _ _ _ _ _ _ _ _ _ _ _ _ _ _ _ _ _ _ _ _ _ _ _ _ _ V2 ds2 hV2;have hok:=tied_ref hP hX hj hSV hV2.out hvw hw0;have hS2:Same (sb :: xs.map (·.vb)) W V2:=hSV.step hV2.out.same (fun k hk _=>List.mem_cons_of_mem _ hk);have hSc2:ScAt w0 V2 sb B (a1+8 * n) none:=hScV.next hV2.out.same hsbv (fun k hk=>by
   obtain⟨x,hx,rfl⟩:=List.mem_map.1 hk;exact hvw x hx _ (by simp[RRow.foot]))
  have hsbr:sb∉(tiedR rb lp n xs (ofsX xs xs.length) ds2).foot:=fun hq=>by
   have hlt:=hSc.cell.lt;simp only[RSt.foot,List.mem_cons,List.mem_append] at hq;rcases hq with e|e|e
   ·exact hP.rbs.1 e.symm
   ·have h1:lp=some sb:=by simpa [tiedR] using e
    exact (hP.lps sb h1).1 rfl
   ·obtain⟨v,hv,hqv⟩:=List.mem_flatMap.1 e;obtain⟨j,hj',rfl⟩:=List.mem_map.1 hv;have hjl:=List.mem_range.1 hj';have hlen:0 < (ds2[j]!).2.length:=by
     have:=hV2.out.rows.dat j hjl;have h1:=hX.len _ (hm j hjl);cases ho:(xs[j]!).e.origin with
     | none=>rw[hV2.out.vol j hjl ho,dataX,List.length_map];omega
     | some o=>
      rw[hV2.out.done j hjl hjl o ho,picD_length,dataX,List.length_map];have:=hX.len _ (hm o (hX.org _ (hm j hjl) o ho));omega
    obtain⟨g,cap,e1,_⟩:=owns_block (hV2.out.rows.dat j hjl) hlen;have e2:(ds2[j]!).1.ownBlock=some g:=by rw[e1];rfl
    have h3:=owns_row (hV2.out.rows.dat j hjl) g e2;have h4:=hSV.size;simp only[RVol.foot,List.mem_cons,e2,Option.getD_some] at hqv;have hf:=hsb _ (hm j hjl);rcases hqv with e|e|e|e
    ·exact hf (by rw[e];simp[RRow.foot])
    ·omega
    ·exact hf (by rw[e];simp[RRow.foot])
    ·exact hf (by simp only[RRow.foot,List.mem_cons];exact Or.inr (Or.inr (Or.inr e)))
  have hd:∀v∈(tiedR rb lp n xs (ofsX xs xs.length) ds2).vols,(v.of_=⟨#[]⟩->v.blocks.length<=v.data.length)/\(v.of_≠⟨#[]⟩->∀x∈v.kept,x < v.data.length):=fun v hv=>by
   obtain⟨j,hj',rfl⟩:=List.mem_map.1 hv;have hjl:=List.mem_range.1 hj';have hof:=ofs_empty xs n hX hnm j hjl;refine⟨fun h1=>?_,fun h1 x hx=>?_⟩
   ·show (xs[j]!).e.xs.length<=(ds2[j]!).2.length;rw[hV2.out.vol j hjl (hof.1 h1),dataX,List.length_map];exact Nat.le_refl _
   ·show x < (ds2[j]!).2.length;cases ho:(xs[j]!).e.origin with
    | none=>exact absurd (hof.2 ho) h1
    | some o=>
     rw[hV2.out.done j hjl hjl o ho,picD_length,dataX,List.length_map];exact (hp _ (hm j hjl) o ho).2.2.2.1 x hx
  refine Code.wp_mono (bodyPost_imp ?_) (tied_blocks _ _ _ _ _ undef undef _ _ _ _ _ _ _ _ _ _ _ _ _ _ _ _ _ _ _ _ _ _ _ _ _ _ _ _ _ _ _ _ _ _ _ _ _ _ _ _ _ _ _ _ _ _ _ _ _ _ _ _ _ _ _ _ _ _ _ _ _ _ _ _ _ _ _ _ _ _ _ _ _ _ _ _ _ _ _ _ _ _ _ _ _ _ _ _ _ _ _ _ _ _ _ _ _ _ _ _ _ _ _ _ _ _ _ _ _ _ _ _ _ _ _ _ _ _ _ _ _ _ _ _ _ _ _ _ _ _ _ _ _ _ _ _ _ _ _ _ _ _ _ _ _ _ _ _ _ _ _ _ _ _ _ _ _ _ _ _ _ _ _ _ _ _ _ _ _ _ _ _ _ _ _ _ _ _ _ _ _ _ _ _ _ _ _ _ _ _ _ _ _ _ _ _ _ _ _ _ _ _ _ _ _ _ _ _ _ _ _ _ _ _ _ _ _ _ _ _ _ _ _ _ _ _ _ _ _ _ _ _ _ _ _ _ _ _ _ _ _ _ _ _ _ _ _ _ _ _ _ _ _ _ _ _ _ _ _ _ _ _ _ _ _ _ _ _ _ _ _ _ _ _ _ _ _ _ _ _ _ _ _ _ _ _ _ _ _ _ _ _ _ _ _ _ _ _ _ _ _ _ _ _ _ _ _ _ _ _ _ _ _ _ _ _ _ _ _ _ w0 W V2 sb (.slice la xs.length lc) B (tiedR rb lp n xs (ofsX xs xs.length) ds2) a1 none (xs.map (·.vb)) hl hSc2 hle hS2 hok.ref hsbr hd);rintro e w' ⟨rfl,h1,h2,h3⟩;exact⟨rfl,.full _ hj hle ⟨h3,hok.erb,hok.en,hok.len,hok.each,hok.nodup,hok.new⟩ h1⟩
end
end Go.Proofs.YtpddgdjocffgdaaGreat
