/- Packed: see the last text. -/
import Derived.Test.YtpddgdjocffgdaaGreatA24
import Derived.Test.YtpddgdjocffgdaaGreatA12
import Derived.Test.YtpddgdjocffgdaaGreatA10
import Derived.ArgAppend
import Derived.Laws.IdiomStrings
import Derived.Deep.RegionHeld3
import Derived.Test.YtpddgdjocffgdaaGreatA11
namespace Go.Proofs.YtpddgdjocffgdaaGreat
open Go.Proofs.Tryz
set_option linter.unusedVariables false
set_option linter.unusedSimpArgs false
set_option linter.unusedSectionVars false
set_option maxHeartbeats 16000000
set_option maxRecDepth 100000
section
open Go.RowKit Go.Sort
variable [DecidableEq aN] [Inhabited aN] [Inhabited aF] [Inhabited aS] [Inhabited ay] [Inhabited aV]
structure dL where
 bb:Nat
 s:St
 fr:List Nat
 r:aQ
def dL.ft(x:dL):List Nat:=x.bb::(x.s.foot++x.r.foot)
def dL.ptr(x:dL):Value:=.pointer (some ⟨x.bb,0,none⟩)
structure lJ(w:World)(x:dL):Prop where
 both:dA w x.bb x.s x.fr x.r
 n:1<=x.s.n
theorem lJ.qZ{w:World}{x:dL}(h:lJ w x):∀k∈x.ft,k<w.heap.size:=fun k hk=>by
 rcases List.mem_cons.1 hk with e|e
 ·rw[e];exact h.both.both.lt
 ·exact h.both.two.bn k e
theorem lJ.same{w w':World}{x:dL}(h:lJ w x){S:List Nat}(hS:Same S w w')(hd:∀k∈x.ft,k∉S):lJ w' x:=⟨h.both.same hS hd,h.n⟩
def WU(a b:Value):Prop:=∀q,a.ownBlock=some q->b.ownBlock≠some q
def jQ(wb:Nat)(pv bv nv vv:Value)(q:Nat):Prop:=q=wb\/pv.ownBlock=some q\/bv.ownBlock=some q\/nv.ownBlock=some q\/vv.ownBlock=some q
structure bU(w0 w:World)(wb base:Nat)(P:List dL)(pv bv nv vv:Value)(Lb Ln Lv:List Value):Prop where
 st:At w wb 31 [pv,bv,nv,vv]
 rp:w.ownsRow base 37 1 pv P.length (P.map dL.ptr)
 rb:w.ownsRow base 41 1 bv Lb.length Lb
 rn:w.ownsRow base 51 1 nv Ln.length Ln
 rv:w.ownsRow base 47 1 vv Lv.length Lv
 bk:BK w Lb
 nk:NK w Ln
 vk:VK w Lv
 jf:∀x∈P,lJ w x
 ru:WU pv bv/\WU pv nv/\WU pv vv/\WU bv nv/\WU bv vv/\WU nv vv
 FI:∀(i j:Nat)(x y:dL),P[i]? = some x->P[j]? = some y->i≠j->∀k∈x.ft,k∉y.ft
 out:∀x∈P,∀k∈x.ft,¬jQ wb pv bv nv vv k
 use:∀v,(v∈Lb\/v∈Ln\/v∈Lv)->∀q,Uses v q->¬jQ wb pv bv nv vv q/\(∀x∈P,q∉x.ft)/\q<w.heap.size
 new:(∀k,jQ wb pv bv nv vv k->w0.heap.size<=k)/\∀x∈P,∀k∈x.ft,w0.heap.size<=k
 same:Same [] w0 w
 kH:base<=w.heap.size/\wb<base
theorem bU.G7{w0 w:World}{wb base:Nat}{P:List dL}{pv bv nv vv:Value}{Lb Ln Lv:List Value}(h:bU w0 w wb base P pv bv nv vv Lb Ln Lv):∀k,jQ wb pv bv nv vv k->k<w.heap.size:=fun k hk=>by
 rcases hk with e|e|e|e|e
 ·rw[e];exact h.st.lt
 ·exact(h.rp.lt k e).2
 ·exact(h.rb.lt k e).2
 ·exact(h.rn.lt k e).2
 ·exact(h.rv.lt k e).2
theorem bU.more{w0 w w':World}{wb base:Nat}{P:List dL}{pv bv nv vv:Value}{Lb Ln Lv:List Value}(h:bU w0 w wb base P pv bv nv vv Lb Ln Lv)(hS:Same [] w w'):bU w0 w' wb base P pv bv nv vv Lb Ln Lv:=
 ⟨hS.at h.st (by simp),aG h.rp hS (by simp),aG h.rb hS (by simp),aG h.rn hS (by simp),aG h.rv hS (by simp),h.bk.same hS (by simp),h.nk.same hS (by simp),h.vk.same hS (by simp),fun x hx=>(h.jf x hx).same hS (by simp),h.ru,h.FI,h.out,fun v hv q hq=>⟨(h.use v hv q hq).1,(h.use v hv q hq).2.1,by have:=(h.use v hv q hq).2.2;have:=hS.size;omega⟩,h.new,h.same.step hS (by simp),⟨by have:=h.kH.1;have:=hS.size;omega,h.kH.2⟩⟩
theorem bU.still{w0 w:World}{wb base:Nat}{P:List dL}{pv bv nv vv:Value}{Lb Ln Lv:List Value}(h:bU w0 w wb base P pv bv nv vv Lb Ln Lv):jR w wb pv bv nv vv Lb.length Ln.length Lv.length Lb Ln Lv:=
 ⟨h.st,⟨_,h.rb⟩,⟨_,h.rn⟩,⟨_,h.rv⟩,h.bk,h.nk,h.vk⟩
def XB(P:List dL)(a b c:Value):List Nat:=P.flatMap dL.ft++(a.ownBlock.toList++(b.ownBlock.toList++c.ownBlock.toList))
theorem jc{P:List dL}{a b c:Value}{q:Nat}:q∈XB P a b c↔(∃x∈P,q∈x.ft)\/a.ownBlock=some q\/b.ownBlock=some q\/c.ownBlock=some q:=by
 unfold XB;simp[List.mem_append,List.mem_flatMap]
theorem dm{wb:Nat}{G:List Nat}{b:Value}{q:Nat}:q∈wb::(G++b.ownBlock.toList)↔q=wb\/q∈G\/b.ownBlock=some q:=by
 simp[List.mem_append]
theorem bU.toB{w0 w:World}{wb base:Nat}{P:List dL}{pv bv nv vv:Value}{Lb Ln Lv:List Value}(h:bU w0 w wb base P pv bv nv vv Lb Ln Lv)(G:List Nat)(hG:∀k∈G,¬jQ wb pv bv nv vv k/\∀x∈P,k∉x.ft):qy w w (wb::(G++bv.ownBlock.toList)) (XB P pv nv vv) wb base pv nv vv Lb.length Lb bv:=by
 refine⟨h.st,h.rb,h.bk,rfl,fun v hv q hq=>?_,Same.refl _ _,h.kH,⟨fun _=>by simp,fun q hq _=>dm.2 (Or.inr (Or.inr hq))⟩,fun x hx=>?_,fun v hv q hq hx=>?_⟩
 ·have hu:=h.use v (Or.inl hv) q hq;exact⟨fun e=>hu.1 (Or.inl e),fun e=>hu.1 (Or.inr (Or.inr (Or.inl e))),hu.2.2⟩
 ·rcases jc.1 hx with⟨y,hy,hk⟩|e|e|e
  ·refine⟨(h.jf y hy).qZ x hk,fun hs=>?_⟩;rcases dm.1 hs with e|e|e
   ·exact h.out y hy x hk (Or.inl e)
   ·exact(hG x e).2 y hy hk
   ·exact h.out y hy x hk (Or.inr (Or.inr (Or.inl e)))
  ·refine⟨(h.rp.lt x e).2,fun hs=>?_⟩;have hb:=(h.rp.lt x e).1;rcases dm.1 hs with e'|e'|e'
   ·have:=h.kH.2;omega
   ·exact(hG x e').1 (Or.inr (Or.inl e))
   ·exact h.ru.1 _ e e'
  ·refine⟨(h.rn.lt x e).2,fun hs=>?_⟩;have hb:=(h.rn.lt x e).1;rcases dm.1 hs with e'|e'|e'
   ·have:=h.kH.2;omega
   ·exact(hG x e').1 (Or.inr (Or.inr (Or.inr (Or.inl e))))
   ·exact h.ru.2.2.2.1 _ e' e
  ·refine⟨(h.rv.lt x e).2,fun hs=>?_⟩;have hb:=(h.rv.lt x e).1;rcases dm.1 hs with e'|e'|e'
   ·have:=h.kH.2;omega
   ·exact(hG x e').1 (Or.inr (Or.inr (Or.inr (Or.inr e))))
   ·exact h.ru.2.2.2.2.1 _ e' e
 ·have hu:=h.use v (Or.inl hv) q hq;rcases jc.1 hx with⟨y,hy,hk⟩|e|e|e
  ·exact hu.2.1 y hy hk
  ·exact hu.1 (Or.inr (Or.inl e))
  ·exact hu.1 (Or.inr (Or.inr (Or.inr (Or.inl e))))
  ·exact hu.1 (Or.inr (Or.inr (Or.inr (Or.inr e))))
theorem bU.ofB{w0 w:World}{wb base:Nat}{P:List dL}{pv bv nv vv:Value}{Lb Ln Lv:List Value}(h:bU w0 w wb base P pv bv nv vv Lb Ln Lv)(G:List Nat)(hG:∀k∈G,¬jQ wb pv bv nv vv k/\(∀x∈P,k∉x.ft)/\(∀v,(v∈Ln\/v∈Lv)->¬Uses v k)/\w0.heap.size<=k){w':World}{k':Nat}{L':List Value}{bv':Value}(hO:qy w w' (wb::(G++bv.ownBlock.toList)) (XB P pv nv vv) wb base pv nv vv k' L' bv'):bU w0 w' wb base P pv bv' nv vv L' Ln Lv:=by
 have hsz:=hO.same.size;have YE:=h.kH.2;have hrow:∀q,bv'.ownBlock=some q->base<=q:=fun q hq=>(hO.row.lt q hq).1
 have npv:∀q,pv.ownBlock=some q->q∉wb::(G++bv.ownBlock.toList):=fun q hq hs=>by
  have hb:=(h.rp.lt q hq).1;rcases dm.1 hs with e'|e'|e'
  ·omega
  ·exact(hG q e').1 (Or.inr (Or.inl hq))
  ·exact h.ru.1 _ hq e'
 have nnv:∀q,nv.ownBlock=some q->q∉wb::(G++bv.ownBlock.toList):=fun q hq hs=>by
  have hb:=(h.rn.lt q hq).1;rcases dm.1 hs with e'|e'|e'
  ·omega
  ·exact(hG q e').1 (Or.inr (Or.inr (Or.inr (Or.inl hq))))
  ·exact h.ru.2.2.2.1 _ e' hq
 have nvv:∀q,vv.ownBlock=some q->q∉wb::(G++bv.ownBlock.toList):=fun q hq hs=>by
  have hb:=(h.rv.lt q hq).1;rcases dm.1 hs with e'|e'|e'
  ·omega
  ·exact(hG q e').1 (Or.inr (Or.inr (Or.inr (Or.inr hq))))
  ·exact h.ru.2.2.2.2.1 _ e' hq
 have nft:∀x∈P,∀k∈x.ft,k∉wb::(G++bv.ownBlock.toList):=fun x hx k hk hs=>by
  rcases dm.1 hs with e|e|e
  ·exact h.out x hx k hk (Or.inl e)
  ·exact(hG k e).2.1 x hx hk
  ·exact h.out x hx k hk (Or.inr (Or.inr (Or.inl e)))
 have hin:∀v,(v∈Ln\/v∈Lv)->v∈Lb\/v∈Ln\/v∈Lv:=fun v=>fun hv=>Or.inr hv
 have Ae:∀v,(v∈Ln\/v∈Lv)->∀q,Uses v q->q∉wb::(G++bv.ownBlock.toList):=fun v hv q hq hs=>by
  rcases dm.1 hs with e|e|e
  ·exact(h.use v (hin v hv) q hq).1 (Or.inl e)
  ·exact(hG q e).2.2.1 v hv hq
  ·exact(h.use v (hin v hv) q hq).1 (Or.inr (Or.inr (Or.inl e)))
 have hbad:∀q,bv'.ownBlock=some q->pv.ownBlock≠some q/\nv.ownBlock≠some q/\vv.ownBlock≠some q/\(∀x∈P,q∉x.ft)/\(∀v,(v∈Ln\/v∈Lv)->¬Uses v q)/\w0.heap.size<=q:=fun q hq=>by
  rcases Nat.lt_or_ge q w.heap.size with hl|hl
  ·have hs:=hO.zO.2 q hq hl;refine⟨fun e=>npv q e hs,fun e=>nnv q e hs,fun e=>nvv q e hs,fun x hx hk=>nft x hx q hk hs,fun v hv hu=>Ae v hv q hu hs,?_⟩;rcases dm.1 hs with e|e|e
   ·have:=hrow q hq;omega
   ·exact(hG q e).2.2.2
   ·exact h.new.1 q (Or.inr (Or.inr (Or.inl e)))
  ·refine⟨fun e=>?_,fun e=>?_,fun e=>?_,fun x hx hk=>?_,fun v hv hu=>?_,?_⟩
   ·have:=(h.rp.lt q e).2;omega
   ·have:=(h.rn.lt q e).2;omega
   ·have:=(h.rv.lt q e).2;omega
   ·have:=(h.jf x hx).qZ q hk;omega
   ·have:=(h.use v (hin v hv) q hu).2.2;omega
   ·have:=h.same.size;omega
 have hnew:∀k∈wb::(G++bv.ownBlock.toList),w0.heap.size<=k:=fun k hk=>by
  rcases dm.1 hk with e|e|e
  ·exact h.new.1 k (Or.inl e)
  ·exact(hG k e).2.2.2
  ·exact h.new.1 k (Or.inr (Or.inr (Or.inl e)))
 refine⟨hO.st,aG h.rp hO.same (fun q hq=>npv q hq),by have:=hO.row;rw[<-hO.cnt]at this;exact this,aG h.rn hO.same (fun q hq=>nnv q hq),aG h.rv hO.same (fun q hq=>nvv q hq),hO.kept,h.nk.same hO.same (fun v hv q hq=>Ae v (Or.inl hv) q hq),h.vk.same hO.same (fun v hv q hq=>Ae v (Or.inr hv) q hq),fun x hx=>(h.jf x hx).same hO.same (nft x hx),⟨fun q hq e=>(hbad q e).1 hq,h.ru.2.1,h.ru.2.2.1,fun q hq e=>(hbad q hq).2.1 e,fun q hq e=>(hbad q hq).2.2.1 e,h.ru.2.2.2.2.2⟩,h.FI,fun x hx k hk hi=>?_,fun v hv q hq=>?_,⟨fun k hk=>?_,h.new.2⟩,h.same.step hO.same (fun k hk hl=>by have:=hnew k hk;omega),hO.kH⟩
 ·rcases hi with e|e|e|e|e
  ·exact h.out x hx k hk (Or.inl e)
  ·exact h.out x hx k hk (Or.inr (Or.inl e))
  ·exact(hbad k e).2.2.2.1 x hx hk
  ·exact h.out x hx k hk (Or.inr (Or.inr (Or.inr (Or.inl e))))
  ·exact h.out x hx k hk (Or.inr (Or.inr (Or.inr (Or.inr e))))
 ·have hcase:v∈L'\/(v∈Ln\/v∈Lv):=by
   rcases hv with hv|hv|hv
   ·exact Or.inl hv
   ·exact Or.inr (Or.inl hv)
   ·exact Or.inr (Or.inr hv)
  rcases hcase with hv|hv
  ·have hs:=hO.sep v hv q hq;have hx:=hO.els.2 v hv q hq;refine⟨fun hi=>?_,fun x hx' hk=>hx (jc.2 (Or.inl ⟨x,hx',hk⟩)),hs.2.2⟩;rcases hi with e|e|e|e|e
   ·exact hs.1 e
   ·exact hx (jc.2 (Or.inr (Or.inl e)))
   ·exact hs.2.1 e
   ·exact hx (jc.2 (Or.inr (Or.inr (Or.inl e))))
   ·exact hx (jc.2 (Or.inr (Or.inr (Or.inr e))))
  ·have hu:=h.use v (hin v hv) q hq;refine⟨fun hi=>?_,hu.2.1,by omega⟩;rcases hi with e|e|e|e|e
   ·exact hu.1 (Or.inl e)
   ·exact hu.1 (Or.inr (Or.inl e))
   ·exact(hbad q e).2.2.2.2.1 v hv hq
   ·exact hu.1 (Or.inr (Or.inr (Or.inr (Or.inl e))))
   ·exact hu.1 (Or.inr (Or.inr (Or.inr (Or.inr e))))
 ·rcases hk with e|e|e|e|e
  ·exact h.new.1 k (Or.inl e)
  ·exact h.new.1 k (Or.inr (Or.inl e))
  ·exact(hbad k e).2.2.2.2.2
  ·exact h.new.1 k (Or.inr (Or.inr (Or.inr (Or.inl e))))
  ·exact h.new.1 k (Or.inr (Or.inr (Or.inr (Or.inr e))))
theorem bU.toN{w0 w:World}{wb base:Nat}{P:List dL}{pv bv nv vv:Value}{Lb Ln Lv:List Value}(h:bU w0 w wb base P pv bv nv vv Lb Ln Lv)(G:List Nat)(hG:∀k∈G,¬jQ wb pv bv nv vv k/\∀x∈P,k∉x.ft):kM w w (wb::(G++nv.ownBlock.toList)) (XB P pv bv vv) wb base pv bv vv Ln.length Ln nv:=by
 refine⟨h.st,h.rn,h.nk,rfl,fun v hv q hq=>?_,Same.refl _ _,h.kH,⟨fun _=>by simp,fun q hq _=>dm.2 (Or.inr (Or.inr hq))⟩,fun x hx=>?_,fun v hv q hq hx=>?_⟩
 ·have hu:=h.use v (Or.inr (Or.inl hv)) q hq;exact⟨fun e=>hu.1 (Or.inl e),fun e=>hu.1 (Or.inr (Or.inr (Or.inr (Or.inl e)))),hu.2.2⟩
 ·rcases jc.1 hx with⟨y,hy,hk⟩|e|e|e
  ·refine⟨(h.jf y hy).qZ x hk,fun hs=>?_⟩;rcases dm.1 hs with e|e|e
   ·exact h.out y hy x hk (Or.inl e)
   ·exact(hG x e).2 y hy hk
   ·exact h.out y hy x hk (Or.inr (Or.inr (Or.inr (Or.inl e))))
  ·refine⟨(h.rp.lt x e).2,fun hs=>?_⟩;have hb:=(h.rp.lt x e).1;rcases dm.1 hs with e'|e'|e'
   ·have:=h.kH.2;omega
   ·exact(hG x e').1 (Or.inr (Or.inl e))
   ·exact h.ru.2.1 _ e e'
  ·refine⟨(h.rb.lt x e).2,fun hs=>?_⟩;have hb:=(h.rb.lt x e).1;rcases dm.1 hs with e'|e'|e'
   ·have:=h.kH.2;omega
   ·exact(hG x e').1 (Or.inr (Or.inr (Or.inl e)))
   ·exact h.ru.2.2.2.1 _ e e'
  ·refine⟨(h.rv.lt x e).2,fun hs=>?_⟩;have hb:=(h.rv.lt x e).1;rcases dm.1 hs with e'|e'|e'
   ·have:=h.kH.2;omega
   ·exact(hG x e').1 (Or.inr (Or.inr (Or.inr (Or.inr e))))
   ·exact h.ru.2.2.2.2.2 _ e' e
 ·have hu:=h.use v (Or.inr (Or.inl hv)) q hq;rcases jc.1 hx with⟨y,hy,hk⟩|e|e|e
  ·exact hu.2.1 y hy hk
  ·exact hu.1 (Or.inr (Or.inl e))
  ·exact hu.1 (Or.inr (Or.inr (Or.inl e)))
  ·exact hu.1 (Or.inr (Or.inr (Or.inr (Or.inr e))))
theorem bU.ofN{w0 w:World}{wb base:Nat}{P:List dL}{pv bv nv vv:Value}{Lb Ln Lv:List Value}(h:bU w0 w wb base P pv bv nv vv Lb Ln Lv)(G:List Nat)(hG:∀k∈G,¬jQ wb pv bv nv vv k/\(∀x∈P,k∉x.ft)/\(∀v,(v∈Lb\/v∈Lv)->¬Uses v k)/\w0.heap.size<=k){w':World}{k':Nat}{L':List Value}{nv':Value}(hO:kM w w' (wb::(G++nv.ownBlock.toList)) (XB P pv bv vv) wb base pv bv vv k' L' nv'):bU w0 w' wb base P pv bv nv' vv Lb L' Lv:=by
 have hsz:=hO.same.size;have YE:=h.kH.2;have hrow:∀q,nv'.ownBlock=some q->base<=q:=fun q hq=>(hO.row.lt q hq).1
 have npv:∀q,pv.ownBlock=some q->q∉wb::(G++nv.ownBlock.toList):=fun q hq hs=>by
  have hb:=(h.rp.lt q hq).1;rcases dm.1 hs with e'|e'|e'
  ·omega
  ·exact(hG q e').1 (Or.inr (Or.inl hq))
  ·exact h.ru.2.1 _ hq e'
 have nbv:∀q,bv.ownBlock=some q->q∉wb::(G++nv.ownBlock.toList):=fun q hq hs=>by
  have hb:=(h.rb.lt q hq).1;rcases dm.1 hs with e'|e'|e'
  ·omega
  ·exact(hG q e').1 (Or.inr (Or.inr (Or.inl hq)))
  ·exact h.ru.2.2.2.1 _ hq e'
 have nvv:∀q,vv.ownBlock=some q->q∉wb::(G++nv.ownBlock.toList):=fun q hq hs=>by
  have hb:=(h.rv.lt q hq).1;rcases dm.1 hs with e'|e'|e'
  ·omega
  ·exact(hG q e').1 (Or.inr (Or.inr (Or.inr (Or.inr hq))))
  ·exact h.ru.2.2.2.2.2 _ e' hq
 have nft:∀x∈P,∀k∈x.ft,k∉wb::(G++nv.ownBlock.toList):=fun x hx k hk hs=>by
  rcases dm.1 hs with e|e|e
  ·exact h.out x hx k hk (Or.inl e)
  ·exact(hG k e).2.1 x hx hk
  ·exact h.out x hx k hk (Or.inr (Or.inr (Or.inr (Or.inl e))))
 have hin:∀v,(v∈Lb\/v∈Lv)->v∈Lb\/v∈Ln\/v∈Lv:=fun v=>fun hv=>hv.imp id Or.inr
 have Ae:∀v,(v∈Lb\/v∈Lv)->∀q,Uses v q->q∉wb::(G++nv.ownBlock.toList):=fun v hv q hq hs=>by
  rcases dm.1 hs with e|e|e
  ·exact(h.use v (hin v hv) q hq).1 (Or.inl e)
  ·exact(hG q e).2.2.1 v hv hq
  ·exact(h.use v (hin v hv) q hq).1 (Or.inr (Or.inr (Or.inr (Or.inl e))))
 have hbad:∀q,nv'.ownBlock=some q->pv.ownBlock≠some q/\bv.ownBlock≠some q/\vv.ownBlock≠some q/\(∀x∈P,q∉x.ft)/\(∀v,(v∈Lb\/v∈Lv)->¬Uses v q)/\w0.heap.size<=q:=fun q hq=>by
  rcases Nat.lt_or_ge q w.heap.size with hl|hl
  ·have hs:=hO.zO.2 q hq hl;refine⟨fun e=>npv q e hs,fun e=>nbv q e hs,fun e=>nvv q e hs,fun x hx hk=>nft x hx q hk hs,fun v hv hu=>Ae v hv q hu hs,?_⟩;rcases dm.1 hs with e|e|e
   ·have:=hrow q hq;omega
   ·exact(hG q e).2.2.2
   ·exact h.new.1 q (Or.inr (Or.inr (Or.inr (Or.inl e))))
  ·refine⟨fun e=>?_,fun e=>?_,fun e=>?_,fun x hx hk=>?_,fun v hv hu=>?_,?_⟩
   ·have:=(h.rp.lt q e).2;omega
   ·have:=(h.rb.lt q e).2;omega
   ·have:=(h.rv.lt q e).2;omega
   ·have:=(h.jf x hx).qZ q hk;omega
   ·have:=(h.use v (hin v hv) q hu).2.2;omega
   ·have:=h.same.size;omega
 have hnew:∀k∈wb::(G++nv.ownBlock.toList),w0.heap.size<=k:=fun k hk=>by
  rcases dm.1 hk with e|e|e
  ·exact h.new.1 k (Or.inl e)
  ·exact(hG k e).2.2.2
  ·exact h.new.1 k (Or.inr (Or.inr (Or.inr (Or.inl e))))
 refine⟨hO.st,aG h.rp hO.same (fun q hq=>npv q hq),aG h.rb hO.same (fun q hq=>nbv q hq),by have:=hO.row;rw[<-hO.cnt]at this;exact this,aG h.rv hO.same (fun q hq=>nvv q hq),h.bk.same hO.same (fun v hv q hq=>Ae v (Or.inl hv) q hq),hO.kept,h.vk.same hO.same (fun v hv q hq=>Ae v (Or.inr hv) q hq),fun x hx=>(h.jf x hx).same hO.same (nft x hx),⟨h.ru.1,fun q hq e=>(hbad q e).1 hq,h.ru.2.2.1,fun q hq e=>(hbad q e).2.1 hq,h.ru.2.2.2.2.1,fun q hq e=>(hbad q hq).2.2.1 e⟩,h.FI,fun x hx k hk hi=>?_,fun v hv q hq=>?_,⟨fun k hk=>?_,h.new.2⟩,h.same.step hO.same (fun k hk hl=>by have:=hnew k hk;omega),hO.kH⟩
 ·rcases hi with e|e|e|e|e
  ·exact h.out x hx k hk (Or.inl e)
  ·exact h.out x hx k hk (Or.inr (Or.inl e))
  ·exact h.out x hx k hk (Or.inr (Or.inr (Or.inl e)))
  ·exact(hbad k e).2.2.2.1 x hx hk
  ·exact h.out x hx k hk (Or.inr (Or.inr (Or.inr (Or.inr e))))
 ·have hcase:v∈L'\/(v∈Lb\/v∈Lv):=by
   rcases hv with hv|hv|hv
   ·exact Or.inr (Or.inl hv)
   ·exact Or.inl hv
   ·exact Or.inr (Or.inr hv)
  rcases hcase with hv|hv
  ·have hs:=hO.sep v hv q hq;have hx:=hO.els.2 v hv q hq;refine⟨fun hi=>?_,fun x hx' hk=>hx (jc.2 (Or.inl ⟨x,hx',hk⟩)),hs.2.2⟩;rcases hi with e|e|e|e|e
   ·exact hs.1 e
   ·exact hx (jc.2 (Or.inr (Or.inl e)))
   ·exact hx (jc.2 (Or.inr (Or.inr (Or.inl e))))
   ·exact hs.2.1 e
   ·exact hx (jc.2 (Or.inr (Or.inr (Or.inr e))))
  ·have hu:=h.use v (hin v hv) q hq;refine⟨fun hi=>?_,hu.2.1,by omega⟩;rcases hi with e|e|e|e|e
   ·exact hu.1 (Or.inl e)
   ·exact hu.1 (Or.inr (Or.inl e))
   ·exact hu.1 (Or.inr (Or.inr (Or.inl e)))
   ·exact(hbad q e).2.2.2.2.1 v hv hq
   ·exact hu.1 (Or.inr (Or.inr (Or.inr (Or.inr e))))
 ·rcases hk with e|e|e|e|e
  ·exact h.new.1 k (Or.inl e)
  ·exact h.new.1 k (Or.inr (Or.inl e))
  ·exact h.new.1 k (Or.inr (Or.inr (Or.inl e)))
  ·exact(hbad k e).2.2.2.2.2
  ·exact h.new.1 k (Or.inr (Or.inr (Or.inr (Or.inr e))))
theorem bU.toV{w0 w:World}{wb base:Nat}{P:List dL}{pv bv nv vv:Value}{Lb Ln Lv:List Value}(h:bU w0 w wb base P pv bv nv vv Lb Ln Lv)(G:List Nat)(hG:∀k∈G,¬jQ wb pv bv nv vv k/\∀x∈P,k∉x.ft):kQ w w (wb::(G++vv.ownBlock.toList)) (XB P pv bv nv) wb base pv bv nv Lv.length Lv vv:=by
 refine⟨h.st,h.rv,h.vk,rfl,fun v hv q hq=>?_,Same.refl _ _,h.kH,⟨fun _=>by simp,fun q hq _=>dm.2 (Or.inr (Or.inr hq))⟩,fun x hx=>?_,fun v hv q hq hx=>?_⟩
 ·have hu:=h.use v (Or.inr (Or.inr hv)) q hq;exact⟨fun e=>hu.1 (Or.inl e),fun e=>hu.1 (Or.inr (Or.inr (Or.inr (Or.inr e)))),hu.2.2⟩
 ·rcases jc.1 hx with⟨y,hy,hk⟩|e|e|e
  ·refine⟨(h.jf y hy).qZ x hk,fun hs=>?_⟩;rcases dm.1 hs with e|e|e
   ·exact h.out y hy x hk (Or.inl e)
   ·exact(hG x e).2 y hy hk
   ·exact h.out y hy x hk (Or.inr (Or.inr (Or.inr (Or.inr e))))
  ·refine⟨(h.rp.lt x e).2,fun hs=>?_⟩;have hb:=(h.rp.lt x e).1;rcases dm.1 hs with e'|e'|e'
   ·have:=h.kH.2;omega
   ·exact(hG x e').1 (Or.inr (Or.inl e))
   ·exact h.ru.2.2.1 _ e e'
  ·refine⟨(h.rb.lt x e).2,fun hs=>?_⟩;have hb:=(h.rb.lt x e).1;rcases dm.1 hs with e'|e'|e'
   ·have:=h.kH.2;omega
   ·exact(hG x e').1 (Or.inr (Or.inr (Or.inl e)))
   ·exact h.ru.2.2.2.2.1 _ e e'
  ·refine⟨(h.rn.lt x e).2,fun hs=>?_⟩;have hb:=(h.rn.lt x e).1;rcases dm.1 hs with e'|e'|e'
   ·have:=h.kH.2;omega
   ·exact(hG x e').1 (Or.inr (Or.inr (Or.inr (Or.inl e))))
   ·exact h.ru.2.2.2.2.2 _ e e'
 ·have hu:=h.use v (Or.inr (Or.inr hv)) q hq;rcases jc.1 hx with⟨y,hy,hk⟩|e|e|e
  ·exact hu.2.1 y hy hk
  ·exact hu.1 (Or.inr (Or.inl e))
  ·exact hu.1 (Or.inr (Or.inr (Or.inl e)))
  ·exact hu.1 (Or.inr (Or.inr (Or.inr (Or.inl e))))
theorem bU.ofV{w0 w:World}{wb base:Nat}{P:List dL}{pv bv nv vv:Value}{Lb Ln Lv:List Value}(h:bU w0 w wb base P pv bv nv vv Lb Ln Lv)(G:List Nat)(hG:∀k∈G,¬jQ wb pv bv nv vv k/\(∀x∈P,k∉x.ft)/\(∀v,(v∈Lb\/v∈Ln)->¬Uses v k)/\w0.heap.size<=k){w':World}{k':Nat}{L':List Value}{vv':Value}(hO:kQ w w' (wb::(G++vv.ownBlock.toList)) (XB P pv bv nv) wb base pv bv nv k' L' vv'):bU w0 w' wb base P pv bv nv vv' Lb Ln L':=by
 have hsz:=hO.same.size;have YE:=h.kH.2;have hrow:∀q,vv'.ownBlock=some q->base<=q:=fun q hq=>(hO.row.lt q hq).1
 have npv:∀q,pv.ownBlock=some q->q∉wb::(G++vv.ownBlock.toList):=fun q hq hs=>by
  have hb:=(h.rp.lt q hq).1;rcases dm.1 hs with e'|e'|e'
  ·omega
  ·exact(hG q e').1 (Or.inr (Or.inl hq))
  ·exact h.ru.2.2.1 _ hq e'
 have nbv:∀q,bv.ownBlock=some q->q∉wb::(G++vv.ownBlock.toList):=fun q hq hs=>by
  have hb:=(h.rb.lt q hq).1;rcases dm.1 hs with e'|e'|e'
  ·omega
  ·exact(hG q e').1 (Or.inr (Or.inr (Or.inl hq)))
  ·exact h.ru.2.2.2.2.1 _ hq e'
 have nnv:∀q,nv.ownBlock=some q->q∉wb::(G++vv.ownBlock.toList):=fun q hq hs=>by
  have hb:=(h.rn.lt q hq).1;rcases dm.1 hs with e'|e'|e'
  ·omega
  ·exact(hG q e').1 (Or.inr (Or.inr (Or.inr (Or.inl hq))))
  ·exact h.ru.2.2.2.2.2 _ hq e'
 have nft:∀x∈P,∀k∈x.ft,k∉wb::(G++vv.ownBlock.toList):=fun x hx k hk hs=>by
  rcases dm.1 hs with e|e|e
  ·exact h.out x hx k hk (Or.inl e)
  ·exact(hG k e).2.1 x hx hk
  ·exact h.out x hx k hk (Or.inr (Or.inr (Or.inr (Or.inr e))))
 have hin:∀v,(v∈Lb\/v∈Ln)->v∈Lb\/v∈Ln\/v∈Lv:=fun v=>fun hv=>hv.imp id Or.inl
 have Ae:∀v,(v∈Lb\/v∈Ln)->∀q,Uses v q->q∉wb::(G++vv.ownBlock.toList):=fun v hv q hq hs=>by
  rcases dm.1 hs with e|e|e
  ·exact(h.use v (hin v hv) q hq).1 (Or.inl e)
  ·exact(hG q e).2.2.1 v hv hq
  ·exact(h.use v (hin v hv) q hq).1 (Or.inr (Or.inr (Or.inr (Or.inr e))))
 have hbad:∀q,vv'.ownBlock=some q->pv.ownBlock≠some q/\bv.ownBlock≠some q/\nv.ownBlock≠some q/\(∀x∈P,q∉x.ft)/\(∀v,(v∈Lb\/v∈Ln)->¬Uses v q)/\w0.heap.size<=q:=fun q hq=>by
  rcases Nat.lt_or_ge q w.heap.size with hl|hl
  ·have hs:=hO.zO.2 q hq hl;refine⟨fun e=>npv q e hs,fun e=>nbv q e hs,fun e=>nnv q e hs,fun x hx hk=>nft x hx q hk hs,fun v hv hu=>Ae v hv q hu hs,?_⟩;rcases dm.1 hs with e|e|e
   ·have:=hrow q hq;omega
   ·exact(hG q e).2.2.2
   ·exact h.new.1 q (Or.inr (Or.inr (Or.inr (Or.inr e))))
  ·refine⟨fun e=>?_,fun e=>?_,fun e=>?_,fun x hx hk=>?_,fun v hv hu=>?_,?_⟩
   ·have:=(h.rp.lt q e).2;omega
   ·have:=(h.rb.lt q e).2;omega
   ·have:=(h.rn.lt q e).2;omega
   ·have:=(h.jf x hx).qZ q hk;omega
   ·have:=(h.use v (hin v hv) q hu).2.2;omega
   ·have:=h.same.size;omega
 have hnew:∀k∈wb::(G++vv.ownBlock.toList),w0.heap.size<=k:=fun k hk=>by
  rcases dm.1 hk with e|e|e
  ·exact h.new.1 k (Or.inl e)
  ·exact(hG k e).2.2.2
  ·exact h.new.1 k (Or.inr (Or.inr (Or.inr (Or.inr e))))
 refine⟨hO.st,aG h.rp hO.same (fun q hq=>npv q hq),aG h.rb hO.same (fun q hq=>nbv q hq),aG h.rn hO.same (fun q hq=>nnv q hq),by have:=hO.row;rw[<-hO.cnt]at this;exact this,h.bk.same hO.same (fun v hv q hq=>Ae v (Or.inl hv) q hq),h.nk.same hO.same (fun v hv q hq=>Ae v (Or.inr hv) q hq),hO.kept,fun x hx=>(h.jf x hx).same hO.same (nft x hx),⟨h.ru.1,h.ru.2.1,fun q hq e=>(hbad q e).1 hq,h.ru.2.2.2.1,fun q hq e=>(hbad q e).2.1 hq,fun q hq e=>(hbad q e).2.2.1 hq⟩,h.FI,fun x hx k hk hi=>?_,fun v hv q hq=>?_,⟨fun k hk=>?_,h.new.2⟩,h.same.step hO.same (fun k hk hl=>by have:=hnew k hk;omega),hO.kH⟩
 ·rcases hi with e|e|e|e|e
  ·exact h.out x hx k hk (Or.inl e)
  ·exact h.out x hx k hk (Or.inr (Or.inl e))
  ·exact h.out x hx k hk (Or.inr (Or.inr (Or.inl e)))
  ·exact h.out x hx k hk (Or.inr (Or.inr (Or.inr (Or.inl e))))
  ·exact(hbad k e).2.2.2.1 x hx hk
 ·have hcase:v∈L'\/(v∈Lb\/v∈Ln):=by
   rcases hv with hv|hv|hv
   ·exact Or.inr (Or.inl hv)
   ·exact Or.inr (Or.inr hv)
   ·exact Or.inl hv
  rcases hcase with hv|hv
  ·have hs:=hO.sep v hv q hq;have hx:=hO.els.2 v hv q hq;refine⟨fun hi=>?_,fun x hx' hk=>hx (jc.2 (Or.inl ⟨x,hx',hk⟩)),hs.2.2⟩;rcases hi with e|e|e|e|e
   ·exact hs.1 e
   ·exact hx (jc.2 (Or.inr (Or.inl e)))
   ·exact hx (jc.2 (Or.inr (Or.inr (Or.inl e))))
   ·exact hx (jc.2 (Or.inr (Or.inr (Or.inr e))))
   ·exact hs.2.1 e
  ·have hu:=h.use v (hin v hv) q hq;refine⟨fun hi=>?_,hu.2.1,by omega⟩;rcases hi with e|e|e|e|e
   ·exact hu.1 (Or.inl e)
   ·exact hu.1 (Or.inr (Or.inl e))
   ·exact hu.1 (Or.inr (Or.inr (Or.inl e)))
   ·exact hu.1 (Or.inr (Or.inr (Or.inr (Or.inl e))))
   ·exact(hbad q e).2.2.2.2.1 v hv hq
 ·rcases hk with e|e|e|e|e
  ·exact h.new.1 k (Or.inl e)
  ·exact h.new.1 k (Or.inr (Or.inl e))
  ·exact h.new.1 k (Or.inr (Or.inr (Or.inl e)))
  ·exact h.new.1 k (Or.inr (Or.inr (Or.inr (Or.inl e))))
  ·exact(hbad k e).2.2.2.2.2
theorem bU.pool{w0 w:World}{wb base:Nat}{P:List dL}{pv bv nv vv:Value}{Lb Ln Lv:List Value}(h:bU w0 w wb base P pv bv nv vv Lb Ln Lv){i:Nat}{x:dL}(hx:P[i]? = some x){w':World}(hN:dQ w x.bb x.s x.r w'):∃x',bU w0 w' wb base (P.set i x') pv bv nv vv Lb Ln Lv:=by
 obtain⟨⟨s',fr',r',hB',hn',hft⟩,hS⟩:=hN;have hxm:x∈P:=List.mem_of_getElem? hx;have hil:i<P.length:=(List.getElem?_eq_some_iff.1 hx).1;have hX:=h.jf x hxm;have hsz:=hS.size;have hin:∀k∈x.s.foot++x.r.foot,k∈x.ft:=fun k hk=>List.mem_cons_of_mem _ hk
 have Tq:∀k∈(dL.mk x.bb s' fr' r').ft,k∈x.ft\/w.heap.size<=k:=fun k hk=>by
  rcases List.mem_cons.1 hk with e|e
  ·exact Or.inl (by rw[e];exact List.mem_cons_self ..)
  ·exact(hft k e).imp (hin k) id
 have hmem:∀y∈P.set i ⟨x.bb,s',fr',r'⟩,y=⟨x.bb,s',fr',r'⟩\/∃j,j≠i/\P[j]? = some y:=fun y hy=>by
  obtain⟨j,hj⟩:=List.mem_iff_getElem?.1 hy;rw[List.getElem?_set]at hj;by_cases e:i=j
  ·subst e;rw[if_pos rfl,if_pos hil]at hj;exact Or.inl (Option.some.inj hj).symm
  ·rw[if_neg e]at hj;exact Or.inr ⟨j,fun e'=>e e'.symm,hj⟩
 have hoth:∀j y,j≠i->P[j]? = some y->∀k∈y.ft,k∉x.s.foot++x.r.foot:=fun j y hj hy k hk hs=>h.FI j i y x hy hx hj k hk (hin k hs)
 have hnS:∀q,jQ wb pv bv nv vv q->q∉x.s.foot++x.r.foot:=fun q hq hs=>h.out x hxm q (hin q hs) hq
 have hmap:(P.set i ⟨x.bb,s',fr',r'⟩).map dL.ptr=P.map dL.ptr:=by
  apply List.ext_getElem?;intro j;rw[List.getElem?_map,List.getElem?_map,List.getElem?_set];by_cases e:i=j
  ·subst e;rw[if_pos rfl,if_pos hil,hx];rfl
  ·rw[if_neg e]
 have hus:∀v,(v∈Lb\/v∈Ln\/v∈Lv)->∀q,Uses v q->q∉x.s.foot++x.r.foot:=fun v hv q hq hs=>(h.use v hv q hq).2.1 x hxm (hin q hs)
 refine⟨⟨x.bb,s',fr',r'⟩,hS.at h.st (hnS wb (Or.inl rfl)),?_,aG h.rb hS (fun q hq=>hnS q (Or.inr (Or.inr (Or.inl hq)))),aG h.rn hS (fun q hq=>hnS q (Or.inr (Or.inr (Or.inr (Or.inl hq))))),aG h.rv hS (fun q hq=>hnS q (Or.inr (Or.inr (Or.inr (Or.inr hq))))),h.bk.same hS (fun v hv=>hus v (Or.inl hv)),h.nk.same hS (fun v hv=>hus v (Or.inr (Or.inl hv))),h.vk.same hS (fun v hv=>hus v (Or.inr (Or.inr hv))),fun y hy=>?_,h.ru,fun a b y z ha hb hab k hk hk2=>?_,fun y hy k hk hi=>?_,fun v hv q hq=>?_,⟨h.new.1,fun y hy k hk=>?_⟩,h.same.step hS (fun k hk hl=>by have:=h.new.2 x hxm k (hin k hk);omega),⟨by have:=h.kH.1;omega,h.kH.2⟩⟩
 ·rw[hmap,List.length_set];exact aG h.rp hS (fun q hq=>hnS q (Or.inr (Or.inl hq)))
 ·rcases hmem y hy with e|⟨j,hj,hy'⟩
  ·rw[e];exact⟨hB',by show 1<=s'.n;rw[hn'];exact hX.n⟩
  ·exact(h.jf y (List.mem_of_getElem? hy')).same hS (hoth j y hj hy')
 ·rw[List.getElem?_set]at ha hb;by_cases e1:i=a
  ·subst e1;rw[if_pos rfl,if_pos hil]at ha;rw[if_neg hab]at hb;rw[<-Option.some.inj ha]at hk;rcases Tq k hk with e|e
   ·exact h.FI i b x z hx hb hab k e hk2
   ·have:=(h.jf z (List.mem_of_getElem? hb)).qZ k hk2;omega
  ·rw[if_neg e1]at ha;by_cases e2:i=b
   ·subst e2;rw[if_pos rfl,if_pos hil]at hb;rw[<-Option.some.inj hb]at hk2;rcases Tq k hk2 with e|e
    ·exact h.FI a i y x ha hx hab k hk e
    ·have:=(h.jf y (List.mem_of_getElem? ha)).qZ k hk;omega
   ·rw[if_neg e2]at hb;exact h.FI a b y z ha hb hab k hk hk2
 ·rcases hmem y hy with e|⟨j,hj,hy'⟩
  ·rw[e]at hk;rcases Tq k hk with e|e
   ·exact h.out x hxm k e hi
   ·have:=h.G7 k hi;omega
  ·exact h.out y (List.mem_of_getElem? hy') k hk hi
 ·have hu:=h.use v hv q hq;refine⟨hu.1,fun y hy hk=>?_,by omega⟩;rcases hmem y hy with e|⟨j,hj,hy'⟩
  ·rw[e]at hk;rcases Tq q hk with e|e
   ·exact hu.2.1 x hxm e
   ·omega
  ·exact hu.2.1 y (List.mem_of_getElem? hy') hk
 ·rcases hmem y hy with e|⟨j,hj,hy'⟩
  ·rw[e]at hk;rcases Tq k hk with e|e
   ·exact h.new.2 x hxm k e
   ·have:=h.same.size;omega
  ·exact h.new.2 y (List.mem_of_getElem? hy') k hk
theorem bU.add{w0 w:World}{wb base:Nat}{P:List dL}{pv bv nv vv:Value}{Lb Ln Lv:List Value}(h:bU w0 w wb base P pv bv nv vv Lb Ln Lv)(x:dL)(hX:lJ w x)(hxn:∀k∈x.ft,¬jQ wb pv bv nv vv k/\(∀y∈P,k∉y.ft)/\(∀v,(v∈Lb\/v∈Ln\/v∈Lv)->¬Uses v k)/\w0.heap.size<=k){w':World}{pv':Value}(hS:Same (wb::pv.ownBlock.toList) w w')(h1:At w' wb 31 [pv',bv,nv,vv])(h2:w'.ownsRow base 37 1 pv' (P.length+1) (P.map dL.ptr++[x.ptr]))(h3:pv'.ownBlock=pv.ownBlock\/∃q,pv'.ownBlock=some q/\w.heap.size<=q):bU w0 w' wb base (P++[x]) pv' bv nv vv Lb Ln Lv:=by
 have hsz:=hS.size;have hmS:∀q∈wb::pv.ownBlock.toList,q=wb\/pv.ownBlock=some q:=fun q hq=>by
  rcases List.mem_cons.1 hq with e|e
  ·exact Or.inl e
  ·exact Or.inr (by simpa using e)
 have hmO:∀q∈wb::pv.ownBlock.toList,jQ wb pv bv nv vv q:=fun q hq=>(hmS q hq).imp id Or.inl
 have aag:∀q,pv'.ownBlock=some q->pv.ownBlock=some q\/w.heap.size<=q:=fun q hq=>by
  rcases h3 with e|⟨q',e,hl⟩
  ·exact Or.inl (by rw[<-e];exact hq)
  ·rw[e]at hq;cases hq;exact Or.inr hl
 have hio:∀q,jQ wb pv' bv nv vv q->jQ wb pv bv nv vv q\/w.heap.size<=q:=fun q hq=>by
  rcases hq with e|e|e
  ·exact Or.inl (Or.inl e)
  ·exact(aag q e).imp (fun e=>Or.inr (Or.inl e)) id
  ·exact Or.inl (Or.inr (Or.inr e))
 have YE:=h.kH.2;have nb:∀q,bv.ownBlock=some q->q∉wb::pv.ownBlock.toList:=fun q hq hs=>by
  rcases hmS q hs with e|e
  ·have:=(h.rb.lt q hq).1;omega
  ·exact h.ru.1 q e hq
 have nn:∀q,nv.ownBlock=some q->q∉wb::pv.ownBlock.toList:=fun q hq hs=>by
  rcases hmS q hs with e|e
  ·have:=(h.rn.lt q hq).1;omega
  ·exact h.ru.2.1 q e hq
 have nv':∀q,vv.ownBlock=some q->q∉wb::pv.ownBlock.toList:=fun q hq hs=>by
  rcases hmS q hs with e|e
  ·have:=(h.rv.lt q hq).1;omega
  ·exact h.ru.2.2.1 q e hq
 have hus:∀v,(v∈Lb\/v∈Ln\/v∈Lv)->∀q,Uses v q->q∉wb::pv.ownBlock.toList:=fun v hv q hq hs=>(h.use v hv q hq).1 (hmO q hs)
 have hd:∀(u:Value)(lt:∀q,u.ownBlock=some q->q<w.heap.size),WU pv u->WU pv' u:=fun u lt hd q hq hu=>by
  rcases aag q hq with e|e
  ·exact hd q e hu
  ·have:=lt q hu;omega
 have hmem:∀y∈P++[x],y∈P\/y=x:=fun y hy=>by
  rcases List.mem_append.1 hy with e|e
  ·exact Or.inl e
  ·exact Or.inr (List.mem_singleton.1 e)
 have hget:∀j y,(P++[x])[j]? = some y->P[j]? = some y\/(y=x/\j=P.length):=fun j y hj=>by
  rcases Nat.lt_or_ge j P.length with hl|hl
  ·rw[List.getElem?_append_left hl]at hj;exact Or.inl hj
  ·rw[List.getElem?_append_right hl]at hj;rcases Nat.eq_or_lt_of_le hl with e|e
   ·rw[<-e,Nat.sub_self]at hj;exact Or.inr ⟨(Option.some.inj hj).symm,e.symm⟩
   ·rw[List.getElem?_eq_none (by simp;omega)]at hj;cases hj
 refine⟨h1,?_,aG h.rb hS nb,aG h.rn hS nn,aG h.rv hS nv',h.bk.same hS (fun v hv=>hus v (Or.inl hv)),h.nk.same hS (fun v hv=>hus v (Or.inr (Or.inl hv))),h.vk.same hS (fun v hv=>hus v (Or.inr (Or.inr hv))),fun y hy=>?_,⟨hd _ (fun q hq=>(h.rb.lt q hq).2) h.ru.1,hd _ (fun q hq=>(h.rn.lt q hq).2) h.ru.2.1,hd _ (fun q hq=>(h.rv.lt q hq).2) h.ru.2.2.1,h.ru.2.2.2⟩,fun a b y z ha hb hab k hk hk2=>?_,fun y hy k hk hi=>?_,fun v hv q hq=>?_,⟨fun k hk=>?_,fun y hy k hk=>?_⟩,h.same.step hS (fun k hk hl=>by have:=h.new.1 k (hmO k hk);omega),⟨by have:=h.kH.1;omega,h.kH.2⟩⟩
 ·rw[List.map_append,List.length_append];exact h2
 ·rcases hmem y hy with e|e
  ·exact(h.jf y e).same hS (fun k hk hs=>h.out y e k hk (hmO k hs))
  ·rw[e];exact hX.same hS (fun k hk hs=>(hxn k hk).1 (hmO k hs))
 ·rcases hget a y ha with ea|⟨ea,ea'⟩
  ·rcases hget b z hb with eb|⟨eb,eb'⟩
   ·exact h.FI a b y z ea eb hab k hk hk2
   ·rw[eb]at hk2;exact(hxn k hk2).2.1 y (List.mem_of_getElem? ea) hk
  ·rcases hget b z hb with eb|⟨eb,eb'⟩
   ·rw[ea]at hk;exact(hxn k hk).2.1 z (List.mem_of_getElem? eb) hk2
   ·omega
 ·have hl:k<w.heap.size:=by
   rcases hmem y hy with e|e
   ·exact(h.jf y e).qZ k hk
   ·rw[e]at hk;exact hX.qZ k hk
  rcases hio k hi with hi|hi
  ·rcases hmem y hy with e|e
   ·exact h.out y e k hk hi
   ·rw[e]at hk;exact(hxn k hk).1 hi
  ·omega
 ·have hu:=h.use v hv q hq;refine⟨fun hi=>?_,fun y hy hk=>?_,by omega⟩
  ·rcases hio q hi with hi|hi
   ·exact hu.1 hi
   ·omega
  ·rcases hmem y hy with e|e
   ·exact hu.2.1 y e hk
   ·rw[e]at hk;exact(hxn q hk).2.2.1 v hv hq
 ·rcases hio k hk with hi|hi
  ·exact h.new.1 k hi
  ·have:=h.same.size;omega
 ·rcases hmem y hy with e|e
  ·exact h.new.2 y e k hk
  ·rw[e]at hk;exact(hxn k hk).2.2.2
end
section
open Go.RowKit Go.Sort
variable [DecidableEq aN] [Inhabited aN] [Inhabited aF] [Inhabited ay]
def AtR(w:World)(b:Nat)(t:TypeId)(cs:List Value)(r:Nat×Nat):Prop:=w.heap[b]? = some (.cells cs.toArray t r)
theorem AtR.lt{w:World}{b:Nat}{t:TypeId}{cs:List Value}{r:Nat×Nat}(h:AtR w b t cs r):b<w.heap.size:=by
 unfold AtR at h;rcases Nat.lt_or_ge b w.heap.size with h'|h'
 ·exact h'
 ·rw[Array.getElem?_eq_none h']at h;cases h
theorem AtR.cell?{w:World}{b:Nat}{t:TypeId}{cs:List Value}{r:Nat×Nat}(h:AtR w b t cs r)(i:Nat):w.cell? ⟨b,i,none⟩=cs[i]?:=by
 unfold AtR at h;simp[World.cell?,h]
theorem AtR.frozen{w:World}{b:Nat}{t:TypeId}{cs:List Value}{r:Nat×Nat}(h:AtR w b t cs r)(i:Nat)(hi:i<r.1):w.frozen? ⟨b,i,none⟩=false:=by
 unfold AtR at h;simp[World.frozen?,h];omega
theorem AtR.alloc{w:World}{b:Nat}{t:TypeId}{cs:List Value}{r:Nat×Nat}(h:AtR w b t cs r)(o:Obj):AtR (w.alloc o) b t cs r:=by
 have:=Below.heap_alloc w o b h.lt;unfold AtR at *;rw[this];exact h
theorem AtR.ax{w:World}{b:Nat}{t:TypeId}{cs:List Value}{r:Nat×Nat}(h:AtR w b t cs r)(i:Nat)(v:Value):AtR (w.setCell ⟨b,i,none⟩ v) b t (cs.set i v) r:=by
 unfold AtR at *;simp[World.setCell,Array.getElem?_modify,h]
theorem LX(w:World)(t:ByteArray):∃C W1 cs,Sem.run prog (convert 9 41 (.string t)) w=.ok (.slice (some ⟨w.heap.size,0,none⟩) t.size C) W1/\t.size<=C/\AtR W1 w.heap.size 5 cs (C,C+1)/\cs.length=C/\cs.take t.size=t.data.toList.map bT/\Same [] w W1/\W1.heap.size=w.heap.size+1:=by
 have hsz:(bytesRow t (grownCap w t.size 0 5)).size=grownCap w t.size 0 5:=by
  have:=grownCap_ge w t.size 0 5;have e:t.data.size=t.size:=rfl;simp[bytesRow];omega
 refine⟨_,_,(bytesRow t (grownCap w t.size 0 5)).toList,run_bytes_of_string w 9 41 5 t underlying9 underlying41 underlying5,grownCap_ge _ _ _ _,?_,?_,?_,((Same.refl _ _).drew).alloc _,?_⟩
 ·unfold AtR;rw[hsz];show(w.heap.push _)[w.heap.size]? = _;simp
 ·rw[Array.length_toList];exact hsz
 ·have e:t.size=(t.data.toList.map bT).length:=by rw[List.length_map,Array.length_toList];rfl
  unfold bytesRow;rw[Array.toList_append,Array.toList_map,e,List.take_append_of_le_length (by rw[List.length_map];simp)];rw[<-e];have e2:t.size=(t.data.toList.map (fun b:UInt8=>Value.int .u8 (b.toNat:Int))).length:=by rw[List.length_map,Array.length_toList];rfl
  rw[e2,List.take_length];rfl
 ·show(w.heap.push _).size=_;simp
theorem Lp{t:ByteArray}{cs:List Value}{C m i:Nat}(hs:t.size=t.data.toList.length)(hcl:cs.length=C)(hct:cs.take t.size=t.data.toList.map bT)(hC:t.size+2<=C)(hm:m<65536)(hi:i<(t.data.toList++two m).length) :
 ((cs.set t.size (.int .u8 ((m:Int) / 256))).set (t.size+1) (.int .u8 ((m:Int) % 256)))[i]? = some (bT (t.data.toList++two m)[i]!):=by
 rw[List.length_append,di,<-hs]at hi;by_cases h1:i<t.size
 ·rw[List.getElem?_set_ne (by omega),List.getElem?_set_ne (by omega)];have:(cs.take t.size)[i]? = cs[i]?:=by rw[List.getElem?_take,if_pos h1]
  rw[<-this,hct,List.getElem?_map,List.getElem?_eq_getElem (by omega),getElem!_pos _ i (by rw[List.length_append,di];omega),List.getElem_append_left (by omega)];rfl
 ·by_cases h2:i=t.size
  ·subst h2;rw[List.getElem?_set_ne (by omega),List.getElem?_set_self (by omega),getElem!_pos _ _ (by rw[List.length_append,di];omega),List.getElem_append_right (by omega)];simp only[hs,Nat.sub_self];unfold two bT;simp;omega
  ·have h3:i=t.size+1:=by omega
   subst h3;rw[List.getElem?_set_self (by rw[List.length_set];omega),getElem!_pos _ _ (by rw[List.length_append,di];omega),List.getElem_append_right (by omega)];simp only[hs,Nat.add_sub_cancel_left];unfold two bT;simp
theorem IB(w:World)(t:ByteArray)(hl:t.size<=140737488355000) :
 Calls prog 15 #[.string t] w fun e w'=>∃a cap,e=.returned (.slice a (t.size+2) cap)/\t.size+2<=cap/\bD w' a (t.data.toList++two (dF t.data.toList))/\Same [] w w':=by
 have HSZ:Hid (t.size=t.data.toList.length):=by show _=_;rw[Array.length_toList];rfl
 go_enter func15,ntmps15
 go_wp2
 go_loopw [3,4] (fun n i wr=>∃k:Nat,k<=t.size/\i=.int .i64 k/\n=.int .i64 (dF (t.data.toList.take k):Nat)/\wr=w) (fun _ i _=>t.size-(intOf i).toNat)
 case atStart=>exact⟨0,Nat.zero_le _,rfl,rfl,rfl⟩
 case round=>
  obtain⟨k,hk,rfl,rfl,rfl⟩:=hrel;by_cases hkl:k<t.size
  ·have HS:Hid (dF (t.data.toList.take (k+1))=(dF (t.data.toList.take k)*31+t[k].toNat) % 65521):=by show _=_;rw[take_snoc t k hkl,yt]
   have hlt:=lM (t.data.toList.take k);have hbt:t[k].toNat<256:=t[k].toNat_lt;generalize dF (t.data.toList.take k)=m at *;have l1:(k:Int)<(t.size:Int):=by omega
   have hw1:IntKind.i64.wrap (31*(m:Int))=31*(m:Int):=IntWalk.i64_in _ (by omega);have hw2:IntKind.i64.wrap (31*(m:Int)+(t[k].toNat:Int))=31*(m:Int)+(t[k].toNat:Int):=IntWalk.i64_in _ (by omega);have hx1:(31*(m:Int)+(t[k].toNat:Int)).tmod 65521=(((m*31+t[k].toNat) % 65521:Nat):Int):=by
    rw[Int.tmod_eq_emod_of_nonneg (by omega)];omega
   go_wp2
   go_roundw
   case rel=>exact⟨k+1,by omega,by go_num,by rw[HS.out];first|rfl|(simp;done)|(congr 1;omega),by first|rfl|trivial⟩
   case measure=>simp[intOf];omega
  ·have ek:k=t.size:=by omega
   have HE:Hid (dF (t.data.toList.take k)=dF t.data.toList):=by show _=_;rw[ek,HSZ.out,List.take_length]
   have l1:(t.size:Int)<=(k:Int):=by omega
   rw[HE.out];have hlt:=lM t.data.toList;generalize hms:dF t.data.toList=m at *;have HMS:Hid (dF t.data.toList=m):=hms;clear ek HE hms;obtain⟨C,W1,cs,hcv,hC,hA,hcl,hct,S1,hz1⟩:=LX wr t;obtain⟨i0,hi,hz0,hz1',hz2⟩:=info_parts Tryz.info5;have HA:Hid (AtR W1 wr.heap.size 5 cs (C,C+1)/\cs.length=C/\cs.take t.size=t.data.toList.map bT/\Same [] wr W1):=⟨hA,hcl,hct,S1⟩
   clear hA hcl hct S1;have HN:Hid (∀j u,[Value.int .u8 ((m:Int) / 256),.int .u8 ((m:Int) % 256)][j]? = some u->(W1.alloc (Obj.cells #[.int .u8 ((m:Int) / 256),.int .u8 ((m:Int) % 256)] 5)).cell? ((⟨wr.heap.size+1,0,none⟩:Addr).add j)=some u):=by
    intro j u hj;have h1:=At.new W1 #[.int .u8 ((m:Int) / 256),.int .u8 ((m:Int) % 256)] 5;rw[hz1]at h1;rw[Addr.add_lit,Nat.zero_add,h1.cell?];exact hj
   go_wp2_with (at_builtin;refine wpList_append_arg _ rfl _ _ 41 rfl 5 i0 (.int .u8 0) 1 1 underlying41 hi hz0 hz1' hz2 rfl (by decide) wr.heap.size 0 t.size C (t.data.toList.map bT) rfl ?n0 ?n1 ⟨wr.heap.size+1,0,none⟩ 2 2 [.int .u8 ((m:Int) / 256),.int .u8 ((m:Int) % 256)] rfl rfl HN.out ?c2 ?c3 ?c4 ?c5 ?r1 ?r2)
   case n0=>rw[List.length_map,<-HSZ.out,Nat.mul_one]
   case n1=>
    intro j u hj;rw[Nat.zero_add,(HA.out.1.alloc _).cell?];have hj2:j<t.size:=by
     rcases Nat.lt_or_ge j t.size with h'|h'
     ·exact h'
     ·rw[List.getElem?_eq_none (by rw[List.length_map,<-HSZ.out];exact h')]at hj;cases hj
    have:(cs.take t.size)[j]? = cs[j]?:=by rw[List.getElem?_take,if_pos hj2]
    rw[<-this,HA.out.2.2.1];exact hj
   case c2=>intro u hu;simp at hu;rcases hu with rfl|rfl<;>rfl
   case c3=>
    intro hr j hj;have hj2:j<2:=hj;rw[(HA.out.1.alloc _).cell?];refine⟨?_,(HA.out.1.alloc _).frozen _ (by show 0+t.size*1+j<C;omega)⟩;rw[List.getElem?_eq_getElem (by rw[HA.out.2.1];omega)];rfl
   case c4=>unfold maxLen;omega
   case c5=>omega
   case r1=>
    intro hr;have HF:Hid (bD ((W1.alloc (Obj.cells #[.int .u8 ((m:Int) / 256),.int .u8 ((m:Int) % 256)] 5)).setCells wr.heap.size t.size [.int .u8 ((m:Int) / 256),.int .u8 ((m:Int) % 256)]) (some ⟨wr.heap.size,0,none⟩) (t.data.toList++two m)/\Same [] wr ((W1.alloc (Obj.cells #[.int .u8 ((m:Int) / 256),.int .u8 ((m:Int) % 256)] 5)).setCells wr.heap.size t.size [.int .u8 ((m:Int) / 256),.int .u8 ((m:Int) % 256)])):=by
     have hC2:t.size+2<=C:=hr;have h1:=((HA.out.1.alloc (Obj.cells #[.int .u8 ((m:Int) / 256),.int .u8 ((m:Int) % 256)] 5)).ax t.size (.int .u8 ((m:Int) / 256))).ax (t.size+1) (.int .u8 ((m:Int) % 256));refine⟨⟨fun _=>⟨wr.heap.size,0,rfl,h1.lt,fun i hi=>?_⟩,?_⟩,?_⟩
     ·rw[Nat.zero_add i];refine(h1.cell? i).trans ?_;exact Lp HSZ.out HA.out.2.1 HA.out.2.2.1 hC2 (by omega) hi
     ·rw[List.length_append,<-HSZ.out,di];omega
     ·exact((HA.out.2.2.2.alloc _).set _ _ _ (fun h=>by omega)).set _ _ _ (fun h=>by omega)
    have HC2:Hid (t.size+2<=C):=hr;clear HN HA
    go_wp2
    go_ret
    exact⟨_,_,rfl,HC2.out,by rw[HMS.out];exact HF.out⟩
   case r2=>
    intro hr v' w' hown hgr;obtain⟨a6,c6,rfl⟩:=ak hown;have hle:=oQ hown;have HF:Hid (bD w' a6 (t.data.toList++two m)/\Same [] wr w'):=by
     obtain⟨g,cs',rfl,hg,hA6,hcl6,aah⟩:=iw hown (by omega);have e:t.data.toList.map bT++[.int .u8 ((m:Int) / 256),.int .u8 ((m:Int) % 256)]=(t.data.toList++two m).map bT:=by
      rw[List.map_append]
      congr 1
      unfold two bT;simp;omega
     rw[e]at aah;refine⟨⟨fun _=>⟨g,0,rfl,hA6.lt,fun i hi=>?_⟩,?_⟩,((HA.out.2.2.2).alloc _).grown hgr (fun q hq _=>by cases hq)⟩
     ·have hlen:(t.data.toList++two m).length=t.size+2:=by rw[List.length_append,<-HSZ.out,di]
      rw[Nat.zero_add,hA6.cell?];have:(cs'.take ((t.size+2)*1))[i]? = cs'[i]?:=by rw[List.getElem?_take,if_pos (by omega)]
      rw[<-this,aah,List.getElem?_map,List.getElem?_eq_getElem hi,getElem!_pos _ i hi];rfl
     ·rw[List.length_append,<-HSZ.out,di];omega
    have HLE:Hid (t.size+2<=c6):=hle;clear HN HA hown hgr hle
    go_wp2
    go_ret
    exact⟨_,_,rfl,HLE.out,by rw[HMS.out];exact HF.out⟩
end
section
open Go.RowKit Go.Sort
variable [DecidableEq aN] [Inhabited aN] [Inhabited aF] [Inhabited aS] [Inhabited ay] [Inhabited aV]
structure ny(w0 w:World)(wb kb kn kv kp lo:Nat):Prop where
 ex:∃base P pv bv nv vv Lb Ln Lv,bU w0 w wb base P pv bv nv vv Lb Ln Lv/\Lb.length<=kb/\Ln.length<=kn/\Lv.length<=kv/\P.length<=kp/\lo<=P.length
theorem bU.fresh{w0 w:World}{wb base:Nat}{P:List dL}{pv bv nv vv:Value}{Lb Ln Lv:List Value}(h:bU w0 w wb base P pv bv nv vv Lb Ln Lv){k:Nat}(hk:w.heap.size<=k):¬jQ wb pv bv nv vv k/\(∀x∈P,k∉x.ft)/\(∀v,(v∈Lb\/v∈Ln\/v∈Lv)->¬Uses v k)/\w0.heap.size<=k:=
 ⟨fun hi=>by have:=h.G7 k hi;omega,fun x hx hm=>by have:=(h.jf x hx).qZ k hm;omega,fun v hv hu=>by have:=(h.use v hv k hu).2.2;omega,by have:=h.same.size;omega⟩
theorem Tryz.KE:(prog.info? 37).map (fun i=>(i.zero,i.size,i.bytes))=some (some (.pointer none),1,8):=by kernel_rfl
theorem AZ(n:Nat)(hn:n<=100000000) :
 ∃L:Array Value,L.toList=List.replicate (n+8) (.int .u8 0)/\∀W:World,(Instr.makeSlice 41 (.int .i64 ((n:Int)+8)) (.int .i64 ((n:Int)+8))).run prog W=.ok (.slice (some ⟨W.heap.size,0,none⟩) (n+8) (n+8)) (W.alloc (.cells L 5)):=by
 obtain⟨i0,hi,hz0,hsz,hz2⟩:=info_parts Tryz.info5;refine⟨(List.replicate (n+8) (Value.int .u8 0)).toArray,by simp,fun W=>?_⟩;have h:=run_make (P:=prog) W 41 5 i0 (.int .u8 0) underlying41 hi hz0 .i64 .i64 ((n:Int)+8) ((n:Int)+8) (by omega) (by omega) (by rw[hz2];omega) (by omega);rw[hsz]at h;have e0:((n:Int)+8).toNat=n+8:=by omega
 rw[e0]at h;have e1:(madeCells (Value.int .u8 0).cells ((n+8)*1))=(List.replicate (n+8) (Value.int .u8 0)).toArray:=by
  apply Array.toList_inj.1;have:=toList_madeCells_one (Value.int .u8 0) (n+8);rw[Nat.mul_one,show(Value.int .u8 0).cells=#[Value.int .u8 0] from rfl];simpa using this
 rw[e1]at h;exact h
structure Laid(w W:World)(g:Nat)(I:List UInt8)(p:Nat):Prop where
 ex:∃cs,At W g 5 cs/\cs.length=I.length+8/\cs.take I.length=I.map bT/\∀q,I.length<=q->q<p->cs[q]? = some (.int .u8 7)
 same:Same [] w W
theorem Laid.more{w W W':World}{g:Nat}{I:List UInt8}{p:Nat}(h:Laid w W g I p)(hS:Same [] W W'):Laid w W' g I p:=by
 obtain⟨cs,h1,h2⟩:=h.ex;exact⟨⟨cs,hS.at h1 (by simp),h2⟩,h.same.step hS (by simp)⟩
theorem Laid.cell{w W:World}{g:Nat}{I:List UInt8}{p:Nat}(h:Laid w W g I p)(i:Nat)(hi:i<I.length):W.cell? ⟨g,0+i,none⟩=some (bT I[i]!):=by
 obtain⟨cs,h1,h2,h3,_⟩:=h.ex;have e:(cs.take I.length)[i]? = cs[i]?:=by rw[List.getElem?_take,if_pos hi]
 rw[Nat.zero_add,h1.cell?,<-e,h3,List.getElem?_map,List.getElem?_eq_getElem hi,getElem!_pos I i hi];rfl
theorem Laid.spare{w W:World}{g:Nat}{I:List UInt8}{p:Nat}(h:Laid w W g I p)(q:Nat)(h1:I.length<=q)(h2:q<p):W.cell? ⟨g,q,none⟩=some (.int .u8 7):=by
 obtain⟨cs,a1,_,_,a4⟩:=h.ex;rw[a1.cell?];exact a4 q h1 h2
theorem Laid.room{w W:World}{g:Nat}{I:List UInt8}{p:Nat}(h:Laid w W g I p)(hg:w.heap.size<=g)(h1:I.length<=p)(h2:p<I.length+8):(∃u,W.cell? ⟨g,p,none⟩=some u)/\W.frozen? ⟨g,p,none⟩=false/\Laid w (W.setCell ⟨g,p,none⟩ (.int .u8 7)) g I (p+1):=by
 obtain⟨cs,a1,a2,a3,a4⟩:=h.ex;refine⟨⟨cs[p]'(by omega),by rw[a1.cell?];exact List.getElem?_eq_getElem (by omega)⟩,a1.frozen p,⟨cs.set p (.int .u8 7),a1.ax p _,by rw[List.length_set];exact a2,?_,fun q hq hq2=>?_⟩,h.same.set _ _ _ (fun hl=>by omega)⟩
 ·rw[List.take_set_of_le (by omega)];exact a3
 ·rw[List.getElem?_set];by_cases e:p=q
  ·rw[if_pos e,if_pos (by omega)]
  ·rw[if_neg e];exact a4 q hq (by omega)
theorem Sl(w:World)(LB:Array Value)(I:List UInt8)(b off cap:Nat)(hLB:LB.toList=List.replicate (I.length+8) (.int .u8 0))(hcell:∀i,i<I.length->w.cell? ⟨b,off+i,none⟩=some (bT I[i]!)) :
 ∃W2,(Builtin.copy_ #[41,41] 3 #[.slice (some ⟨w.heap.size,0,none⟩) (I.length+8) (I.length+8),.slice (some ⟨b,off,none⟩) I.length cap]).run prog (w.alloc (.cells LB 5))=.ok (goInt I.length) W2/\Laid w W2 w.heap.size I I.length:=by
 have N:At (w.alloc (.cells LB 5)) w.heap.size 5 (List.replicate (I.length+8) (.int .u8 0)):=by have:=At.new w LB 5;rw[hLB]at this;exact this
 have hi:(prog.info? 5).map (·.size)=some 1:=by
  obtain⟨i0,h1,h2,h3,h4⟩:=info_parts Tryz.info5;rw[h1];simp[h3]
 have hS:Same [] w (w.alloc (.cells LB 5)):=(Same.refl _ _).alloc _;have hml:(I.map bT).length=I.length:=List.length_map ..;have hrun:=run_copy_cells (P:=prog) (w.alloc (.cells LB 5)) 41 41 3 5 w.heap.size 0 (I.length+8) (I.length+8) ⟨b,off,none⟩ I.length cap (I.map bT) underlying41 hi (by rw[hml];exact(Nat.min_eq_left (by omega)).symm) (fun j v hj=>by
  have hj':j<I.length:=by have:=(List.getElem?_eq_some_iff.1 hj).1;omega
  rw[Addr.add_lit];refine jm hS ?_;rw[hcell j hj',<-hj,List.getElem?_map,List.getElem?_eq_getElem hj',getElem!_pos I j hj'];rfl) (fun j hj=>by
  rw[N.cell?,List.getElem?_eq_getElem (by rw[List.length_replicate];omega)];rfl) (fun j hj=>N.frozen _) (by intro v hv;obtain⟨x,_,rfl⟩:=List.mem_map.1 hv;rfl)
 rw[hml]at hrun;obtain⟨cs',a1,a2,a3,a4⟩:=vS w.heap.size _ (I.map bT) 0 _ _ N;rw[List.length_replicate]at a2 a3;refine⟨_,hrun,⟨cs',a1,a2,?_,fun q hq hq2=>by omega⟩,hS.step (qg _ _ _ _) (fun k hk hl=>by rw[List.mem_singleton.1 hk]at hl;omega)⟩;apply List.ext_getElem?;intro j;rw[List.getElem?_take];by_cases e:j<I.length
 ·rw[if_pos e,<-a3 j (by omega) (by omega),Nat.zero_add]
 ·rw[if_neg e,List.getElem?_eq_none (by omega)]
def YT(w w':World)(pp:Option Addr):Prop:=pp=none\/∃bb,pp=some ⟨bb,0,none⟩/\∃x:dL,x.bb=bb/\lJ w' x/\∀k∈x.ft,w.heap.size<=k
def aak(g:Nat)(w':World)(pp:Option Addr):Prop:=pp=none\/∃bb,pp=some ⟨bb,0,none⟩/\∃x:dL,x.bb=bb/\lJ w' x/\∀k∈x.ft,g<k
theorem YT.q{w w':World}{pp:Option Addr}(h:YT w w' pp){g:Nat}(hg:g<w.heap.size):aak g w' pp:=by
 rcases h with h|⟨bb,h1,x,h2,h3,h4⟩
 ·exact Or.inl h
 ·exact Or.inr ⟨bb,h1,x,h2,h3,fun k hk=>by have:=h4 k hk;omega⟩
theorem aa9{w w':World}{I:List UInt8}{e:Ending}(h:oH w I e w'):∃pp,e=.returned (.tuple #[.pointer pp,.bool true])/\YT w w' pp/\Same [] w w':=by
 cases h with
 | no h _ hs=>exact⟨none,h,Or.inl rfl,hs⟩
 | ok bb h hk=>
  obtain⟨s,fr,r,hB,_,_,hn,hnew⟩:=hk.ex;exact⟨_,h,Or.inr ⟨bb,rfl,⟨bb,s,fr,r⟩,rfl,⟨hB,hn⟩,hnew⟩,hk.same⟩
theorem bU.marked{w0 w W:World}{wb base:Nat}{P:List dL}{pv nv vv:Value}{ba:Option Addr}{bc:Nat}{Lb Ln Lv:List Value}(h:bU w0 w wb base P pv (.slice ba Lb.length bc) nv vv Lb Ln Lv){I:List UInt8}{p:Nat}(hL:Laid w W w.heap.size I p)(hn:I.length<=100000000)(hk:Lb.length<=50000000) :
 Calls prog 33 #[.pointer (some ⟨wb,0,none⟩),.slice (some ⟨w.heap.size,0,none⟩) (I.length+8) (I.length+8)] W fun e w'=>e=.returned (.tuple #[])/\∃ba' bc' L',bU w0 w' wb base P pv (.slice ba' (Lb.length+1) bc') nv vv L' Ln Lv/\L'.length=Lb.length+1/\∃S,Same S W w'/\(∀k∈S,k<=w.heap.size)/\∀k,w.heap.size<k->k<W.heap.size->¬jQ wb pv (.slice ba' (Lb.length+1) bc') nv vv k/\∀v,(v∈L'\/v∈Ln\/v∈Lv)->¬Uses v k:=by
 have hM:=h.more hL.same;have hf:=h.fresh (Nat.le_refl _);have hO:=hM.toB [w.heap.size] (fun k hk=>by rw[List.mem_singleton.1 hk];exact⟨hf.1,hf.2.1⟩);obtain⟨cs,a1,a2,_,_⟩:=hL.ex;have hz:=hL.same.size;refine(hO.mark (some ⟨w.heap.size,0,none⟩) w.heap.size 0 (I.length+8) (I.length+8) (fun _=>⟨rfl,⟨_,cs,a1,by omega⟩,fun e=>hf.1 (Or.inl e),fun e=>hf.1 (Or.inr (Or.inr (Or.inl e))),fun _=>by simp,fun v hv o n c e hp=>(hf.2.2.1 v (Or.inl hv) ⟨o,n,c,e,hp⟩).elim⟩) (by omega) (by omega)).mono ?_;rintro e w' ⟨rfl,ba',bc',hO'⟩;have hA:=hM.ofB [w.heap.size] (fun k hk=>by rw[List.mem_singleton.1 hk];exact⟨hf.1,hf.2.1,fun v hv=>hf.2.2.1 v (Or.inr hv),hf.2.2.2⟩) hO';have hlow:∀k∈wb::([w.heap.size]++(Value.slice ba Lb.length bc).ownBlock.toList),k<=w.heap.size:=fun k hk=>by
  rcases dm.1 hk with e|e|e
  ·have:=h.G7 k (Or.inl e);omega
  ·rw[List.mem_singleton.1 e];exact Nat.le_refl _
  ·have:=h.G7 k (Or.inr (Or.inr (Or.inl e)));omega
 refine⟨rfl,ba',bc',_,hA,by rw[List.length_append];rfl,_,hO'.same,hlow,fun k h1 h2=>⟨fun hi=>?_,fun v hv hu=>?_⟩⟩
 ·have hf2:=h.fresh (k:=k) (by omega);rcases hi with e|e|e|e|e
  ·exact hf2.1 (Or.inl e)
  ·exact hf2.1 (Or.inr (Or.inl e))
  ·have:=hlow k (hO'.zO.2 k e h2);omega
  ·exact hf2.1 (Or.inr (Or.inr (Or.inr (Or.inl e))))
  ·exact hf2.1 (Or.inr (Or.inr (Or.inr (Or.inr e))))
 ·have hf2:=h.fresh (k:=k) (by omega);rcases hv with hv|hv
  ·rcases List.mem_append.1 hv with hv|hv
   ·exact hf2.2.2.1 v (Or.inl hv) hu
   ·rw[List.mem_singleton.1 hv]at hu;obtain⟨o,n,c,e,_⟩:=hu;cases e;omega
  ·exact hf2.2.2.1 v (Or.inr hv) hu
theorem bU.put{w0 w w3:World}{wb base:Nat}{P:List dL}{pa pa':Option Addr}{pc pc':Nat}{bv nv vv:Value}{Lb Ln Lv:List Value}(h:bU w0 w wb base P (.slice pa P.length pc) bv nv vv Lb Ln Lv)(x:dL)(hX:lJ w x)(hxn:∀k∈x.ft,¬jQ wb (.slice pa P.length pc) bv nv vv k/\(∀y∈P,k∉y.ft)/\(∀v,(v∈Lb\/v∈Ln\/v∈Lv)->¬Uses v k)/\w0.heap.size<=k)
 (S3:Same (Value.slice pa P.length pc).ownBlock.toList w w3) (hown:w3.ownsRow base 37 1 (.slice pa' (P.length+1) pc') (P.length+1) (P.map dL.ptr++[.pointer (some ⟨x.bb,0,none⟩)])) (hblk:(Value.slice pa' (P.length+1) pc').ownBlock=(Value.slice pa P.length pc).ownBlock\/∃q,(Value.slice pa' (P.length+1) pc').ownBlock=some q/\w.heap.size<=q) :
 w3.cell? ⟨wb,0,none⟩=some (.slice pa P.length pc)/\w3.frozen? ⟨wb,0,none⟩=false/\bU w0 (w3.setCell ⟨wb,0,none⟩ (.slice pa' (P.length+1) pc')) wb base (P++[x]) (.slice pa' (P.length+1) pc') bv nv vv Lb Ln Lv:=by
 have hb:=h.kH.2;have hA:At w3 wb 31 [.slice pa P.length pc,bv,nv,vv]:=S3.at h.st (fun hq=>by
  have hq':(Value.slice pa P.length pc).ownBlock=some wb:=by simpa using hq
  have:=(h.rp.lt wb hq').1;omega)
 refine⟨hA.cell? 0,hA.frozen 0,h.add x hX hxn ((S3.mono (T:=wb::(Value.slice pa P.length pc).ownBlock.toList) (fun q hq _=>List.mem_cons_of_mem _ hq)).set _ _ _ (fun _=>by simp)) (hA.ax 0 _) ?_ hblk⟩;exact aG hown ((Same.refl [wb] w3).set wb 0 (.slice pa' (P.length+1) pc') (fun _=>by simp)) (fun q hq hm=>by
  rw[List.mem_singleton.1 hm]at hq;have:=aI hown wb hq;omega)
theorem yR(w0 w:World)(wb kb kn kv kp lo:Nat)(h:ny w0 w wb kb kn kv kp lo)(b off cap:Nat)(I:List UInt8)(hcell:∀i,i<I.length->w.cell? ⟨b,off+i,none⟩=some (bT I[i]!))(hn:I.length<=100000000)(hk:kb<=50000000)(hkp:kp<=5000000) :
 Calls prog 14 #[.pointer (some ⟨wb,0,none⟩),.slice (some ⟨b,off,none⟩) I.length cap] w fun e w'=>e=.returned (.bool true)/\ny w0 w' wb (kb+1) kn kv (kp+1) lo:=by
 obtain⟨base,P,pv,bv,nv,vv,Lb,Ln,Lv,hA,l1,l2,l3,l4,l5⟩:=h.ex;obtain⟨ba,bc,rfl⟩:=ak hA.rb;obtain⟨pa,pc,rfl⟩:=ak hA.rp;obtain⟨i0,hi,hz0,hz1,hz2⟩:=info_parts Tryz.KE;obtain⟨LB,hLB,hmk⟩:=AZ I.length hn;obtain⟨W2,hcp,hL2⟩:=Sl w LB I b off cap hLB hcell;have HM:Hid (∀W p,Laid w W w.heap.size I p->Calls prog 33 #[.pointer (some ⟨wb,0,none⟩),.slice (some ⟨w.heap.size,0,none⟩) (I.length+8) (I.length+8)] W fun e w'=>e=.returned (.tuple #[])/\∃ba' bc' L',bU w0 w' wb base P (.slice pa P.length pc) (.slice ba' (Lb.length+1) bc') nv vv L' Ln Lv/\L'.length=Lb.length+1/\∃S,Same S W w'/\(∀k∈S,k<=w.heap.size)/\∀k,w.heap.size<k->k<W.heap.size->¬jQ wb (.slice pa P.length pc) (.slice ba' (Lb.length+1) bc') nv vv k/\∀v,(v∈L'\/v∈Ln\/v∈Lv)->¬Uses v k):=fun W p hL=>hA.marked hL hn (by omega)
 have HLD:Hid (∀W p,Laid w W w.heap.size I p->Calls prog 32 #[.slice (some ⟨w.heap.size,0,none⟩) I.length (I.length+8)] W (oH W I)):=fun W p hL=>FX W w.heap.size 0 I (I.length+8) ⟨fun _=>⟨w.heap.size,0,rfl,by obtain⟨cs,a1,_⟩:=hL.ex;exact a1.lt,fun i hi=>hL.cell i hi⟩,by omega⟩ (fun i hi=>hL.cell i hi) (by omega)
 have HX1:Hid (∀W p,Laid w W w.heap.size I p->Sem.run prog (convert 41 9 (.slice (some ⟨w.heap.size,0,none⟩) I.length (I.length+8))) W=.ok (.string ⟨I.toArray⟩) W):=fun W p hL=>jF W w.heap.size 0 I.length I rfl (fun i hi=>hL.cell i hi) _
 have HX2:Hid (∀W,Same [] w W->Sem.run prog (convert 41 9 (.slice (some ⟨b,off,none⟩) I.length cap)) W=.ok (.string ⟨I.toArray⟩) W):=fun W hW=>jF W b off I.length I rfl (fun i hi=>jm hW (hcell i hi)) _
 have HA:Hid (bU w0 w wb base P (.slice pa P.length pc) (.slice ba Lb.length bc) nv vv Lb Ln Lv/\Lb.length<=kb/\Ln.length<=kn/\Lv.length<=kv/\P.length<=kp/\lo<=P.length):=⟨hA,l1,l2,l3,l4,l5⟩
 have HL2:Hid (Laid w W2 w.heap.size I I.length):=hL2;have HR:Hid (∀W p,Laid w W w.heap.size I p->I.length<=p->p<I.length+8->(∃u,W.cell? ⟨w.heap.size,p,none⟩=some u)/\W.frozen? ⟨w.heap.size,p,none⟩=false/\Laid w (W.setCell ⟨w.heap.size,p,none⟩ (.int .u8 7)) w.heap.size I (p+1)):=fun W p hL h1 h2=>hL.room (Nat.le_refl _) h1 h2
 clear h hA hL2 hLB hcell l1 l2 l3 l4 l5;have hbt:((⟨I.toArray⟩:ByteArray).toList == (⟨I.toArray⟩:ByteArray).toList)=true:=by simp
 generalize (⟨I.toArray⟩:ByteArray)=tI at *;obtain⟨n,hIn⟩:∃n,I.length=n:=⟨_,rfl⟩
 simp only[hIn]at hmk hcp hn HM HLD HX1 HX2 HR HL2 ⊢
 go_enter func14,ntmps14
 have s1:(n:Int)<=(n:Int)+8:=by omega
 have s2:(0:Int)<=(n:Int)+8:=by omega
 go_wp2_with fail
 clear hmk hcp
 go_loopw [7] (fun i wr=>∃p:Nat,i=.int .i64 p/\n<=p/\p<=n+8/\Hid (Laid w wr w.heap.size I p)) (fun i _=>n+8-(intOf i).toNat)
 case atStart=>exact⟨n,rfl,by omega,by omega,HL2⟩
 case round=>
  obtain⟨p,rfl,hp1,hp2,HL⟩:=hrel;by_cases hpl:p<n+8
  ·obtain⟨⟨u,c1⟩,c2,hL'⟩:=HR.out wr p HL.out hp1 hpl;have lp:(p:Int)<(n:Int)+8:=by omega
   have HN:Hid (Laid w (wr.setCell ⟨w.heap.size,p,none⟩ (.int .u8 7)) w.heap.size I (p+1)):=hL';clear hL' HL
   go_wp2
   go_roundw
   case rel=>exact⟨p+1,by go_num,by omega,by omega,HN⟩
   case measure=>simp[intOf];omega
  ·obtain rfl:p=n+8:=by omega
   have hLD:=HLD.out wr (n+8) HL.out;clear HR HL2 HLD
   go_wp2_with fail
   refine hLD.mono ?_;intro e w4 hp;obtain⟨pp,rfl,aai,S4⟩:=aa9 hp;have HG:Hid (aak w.heap.size w4 pp/\Same [] wr w4/\Laid w w4 w.heap.size I (n+8)):=⟨aai.q (by obtain⟨cs,a1,_⟩:=HL.out.ex;exact a1.lt),S4,HL.out.more S4⟩
   have hx:Sem.run prog (convert 41 9 (.slice (some ⟨w.heap.size,0,none⟩) n (n+8))) w4.drew=.ok (.string tI) w4.drew/\Sem.run prog (convert 41 9 (.slice (some ⟨b,off,none⟩) n cap)) w4.drew=.ok (.string tI) w4.drew:=⟨HX1.out _ (n+8) (HG.out.2.2.more (Same.refl _ _).drew),HX2.out _ (HG.out.2.2.same.drew)⟩
   clear hp aai S4 HL hLD HX1 HX2;dsimp only
   go_wp2_with fail
   go_region_held3 (fun w'=>Sem.run prog (convert 41 9 (.slice (some ⟨w.heap.size,0,none⟩) n (n+8))) w'=.ok (.string tI) w'/\Sem.run prog (convert 41 9 (.slice (some ⟨b,off,none⟩) n cap)) w'=.ok (.string tI) w') (first|assumption|exact hx) (fail)
   clear hx
   go_wp2_with fail
   go_loopw [10,11] (fun sm i wr2=>∃p:Nat,sm=.bool true/\i=.int .i64 p/\n<=p/\p<=n+8/\Hid (Same [] w4 wr2)) (fun _ i _=>n+8-(intOf i).toNat)
   case atStart=>exact⟨n,by first|rfl|(simp;done),rfl,by omega,by omega,(Same.refl _ _).drew⟩
   case round=>
    obtain⟨p,rfl,rfl,hq1,hq2,HW⟩:=hrel;by_cases hpl:p<n+8
    ·have c1:=(HG.out.2.2.more HW.out).spare p (by omega) hpl;have lp:(p:Int)<(n:Int)+8:=by omega
     go_wp2
     go_roundw
     case rel=>exact⟨p+1,by first|rfl|(simp;done),by go_num,by omega,by omega,HW⟩
     case measure=>simp[intOf];omega
    ·obtain rfl:p=n+8:=by omega
     have hMk:=HM.out wr (n+8) (HG.out.2.2.more HW.out);clear HM
     go_wp2_with fail
     refine hMk.mono ?_;rintro e w6 ⟨rfl,ba',bc',L',hA',hl',S,hS,hlow,hfr⟩;have HA6:Hid (bU w0 w6 wb base P (.slice pa P.length pc) (.slice ba' (Lb.length+1) bc') nv vv L' Ln Lv/\L'.length=Lb.length+1):=⟨hA',hl'⟩
     have c0:w6.cell? ⟨wb,0,none⟩=some (.slice pa P.length pc):=hA'.st.cell? 0;have hzw:=HW.out.size;have hPl:P.length<=5000000:=by have:=HA.out.2.2.2.2.1;omega
     rcases HG.out.1 with rfl|⟨bb,rfl,x,rfl,hX,hnew⟩
     ·clear hMk hA' hS hlow hfr hl';dsimp only
      go_wp2
      go_ret
      refine⟨by first|rfl|(simp;done),⟨⟨base,P,_,_,nv,vv,L',Ln,Lv,HA6.out.1,by have:=HA6.out.2;have:=HA.out.2.1;omega,HA.out.2.2.1,HA.out.2.2.2.1,by have:=HA.out.2.2.2.2.1;omega,HA.out.2.2.2.2.2⟩⟩⟩
     ·have hX5:=hX.same HW.out (by simp);have HX6:Hid (lJ w6 x/\∀k∈x.ft,¬jQ wb (.slice pa P.length pc) (.slice ba' (Lb.length+1) bc') nv vv k/\(∀y∈P,k∉y.ft)/\(∀v,(v∈L'\/v∈Ln\/v∈Lv)->¬Uses v k)/\w0.heap.size<=k):=by
       refine⟨hX5.same hS (fun k hk hs=>by have:=hlow k hs;have:=hnew k hk;omega),fun k hk=>?_⟩;have h1:=hfr k (hnew k hk) (hX5.qZ k hk);have h2:=HA.out.1.fresh (k:=k) (by have:=hnew k hk;omega);exact⟨h1.1,h2.2.1,h1.2,h2.2.2.2⟩
      have h2:=hA'.rp;have hbw:=hA'.kH.1;clear hMk hA' hS hlow hfr hl' hX hX5 hnew;dsimp only
      go_wp2_with (at_builtin;refine wpList_append_own_at _ rfl _ _ 26 rfl base 37 i0 (.pointer none) 1 8 underlying26 hi hz0 hz1 hz2 rfl (by decide) _ _ _ rfl (h2.alloc _) ⟨w6.heap.size,0,none⟩ 1 1 [.pointer (some ⟨x.bb,0,none⟩)] rfl rfl ?c1 ?c2 ?c3 ?c4 ?c5 ?_)
      case c1=>
       intro j u hj
       match j,hj with
       | 0,hj=>simp at hj;subst hj;simp[Addr.add]
      case c2=>intro u hu;simp at hu;subst hu;rfl
      case c3=>unfold maxLen;omega
      case c4=>omega
      case c5=>first|omega|(simp;omega)
      intro pv7 w7 mM kJ _ hblk7;obtain⟨pa7,pc7,rfl⟩:=ak mM;have S7:Same (Value.slice pa P.length pc).ownBlock.toList w6 w7:=((Same.refl _ _).alloc _).grown kJ (fun q hq _=>by simp[hq]);obtain⟨g7,z7,hA7⟩:=HA6.out.1.put x HX6.out.1 HX6.out.2 S7 mM (by
       rcases hblk7 with e|e
       ·exact Or.inl e
       ·exact Or.inr ⟨_,e,by simp⟩)
      have HF:Hid (bU w0 (w7.setCell ⟨wb,0,none⟩ (.slice pa7 (P.length+1) pc7)) wb base (P++[x]) (.slice pa7 (P.length+1) pc7) (.slice ba' (Lb.length+1) bc') nv vv L' Ln Lv):=hA7;clear S7 mM kJ hblk7 hA7 h2
      go_wp2
      go_ret
      refine⟨by first|rfl|(simp;done),⟨⟨base,P++[x],_,_,nv,vv,L',Ln,Lv,HF.out,by have:=HA6.out.2;have:=HA.out.2.1;omega,HA.out.2.2.1,HA.out.2.2.2.1,by have:=HA.out.2.2.2.2.1;rw[List.length_append];simp;omega,by have:=HA.out.2.2.2.2.2;rw[List.length_append];omega⟩⟩⟩
theorem ny.more{w0 w w':World}{wb kb kn kv kp lo:Nat}(h:ny w0 w wb kb kn kv kp lo)(hS:Same [] w w'):ny w0 w' wb kb kn kv kp lo:=by
 obtain⟨base,P,pv,bv,nv,vv,Lb,Ln,Lv,hA,hl⟩:=h.ex;exact⟨⟨base,P,pv,bv,nv,vv,Lb,Ln,Lv,hA.more hS,hl⟩⟩
theorem ny.le{w0 w:World}{wb kb kn kv kp lo kb' kn' kv' kp' lo':Nat}(h:ny w0 w wb kb kn kv kp lo)(h1:kb<=kb')(h2:kn<=kn')(h3:kv<=kv')(h4:kp<=kp')(h5:lo'<=lo):ny w0 w wb kb' kn' kv' kp' lo':=by
 obtain⟨base,P,pv,bv,nv,vv,Lb,Ln,Lv,hA,l1,l2,l3,l4,l5⟩:=h.ex;exact⟨⟨base,P,pv,bv,nv,vv,Lb,Ln,Lv,hA,by omega,by omega,by omega,by omega,by omega⟩⟩
theorem bU.picked{w0 w:World}{wb base:Nat}{P:List dL}{pa:Option Addr}{pc:Nat}{bv nv vv:Value}{Lb Ln Lv:List Value}(h:bU w0 w wb base P (.slice pa P.length pc) bv nv vv Lb Ln Lv)(hp:0<P.length)(kk:Int):∃i x g,sO kk P.length=((i:Nat):Int)/\i<P.length/\P[i]? = some x/\lJ w x/\pa=some ⟨g,0,none⟩/\w.cell? ⟨g,i,none⟩=some (.pointer (some ⟨x.bb,0,none⟩)):=by
 have hb:=Lc kk P.length (by omega);obtain⟨i,hi⟩:∃i:Nat,sO kk P.length=(i:Int):=⟨(sO kk P.length).toNat,by omega⟩
 rw[hi]at hb;have hil:i<P.length:=by omega
 obtain⟨g,v,h1,h2,h3⟩:=vV h.rp i hil;refine⟨i,P[i],g,hi,hil,List.getElem?_eq_getElem hil,h.jf _ (List.getElem_mem hil),h1,?_⟩;rw[h3,<-h2,List.getElem?_map,List.getElem?_eq_getElem hil];rfl
theorem bU.ownB{w0 w w1:World}{wb base:Nat}{P:List dL}{pv bv nv vv:Value}{Lb Ln Lv:List Value}(h:bU w0 w wb base P pv bv nv vv Lb Ln Lv){g:Nat}{B:List UInt8}(hN:l7 w w1 g B)(hn:B.length<=100000000)(hk:Lb.length<=50000000) :
 Calls prog 18 #[.pointer (some ⟨wb,0,none⟩),.slice (some ⟨g,0,none⟩) B.length B.length] w1 fun e w'=>e=.returned (.tuple #[])/\∃bv' L',bU w0 w' wb base P pv bv' nv vv L' Ln Lv/\L'.length=Lb.length+9:=by
 obtain⟨ba,bc,rfl⟩:=ak h.rb;have hM:=h.more hN.same;have hf:=h.fresh hN.new;have hO:=hM.toB [g] (fun k hk=>by rw[List.mem_singleton.1 hk];exact⟨hf.1,hf.2.1⟩);obtain⟨cs,a1,a2⟩:=hN.ex;have hl:B.length<=cs.length:=by have:=congrArg List.length a2;rw[List.length_take,List.length_map]at this;omega
 have hno:∀n,oL Lb g n:=fun n v hv o n' c e hp=>(hf.2.2.1 v (Or.inl hv) ⟨o,n',c,e,hp⟩).elim
 refine(QA w1 _ _ wb base pv nv vv ba bc Lb.length Lb (some ⟨g,0,none⟩) B.length (Or.inl ⟨g,rfl,hO,hno _,⟨cs,a1,hl,hl⟩,Nat.le_refl _,⟨fun e=>hf.1 (Or.inl e),fun e=>hf.1 (Or.inr (Or.inr (Or.inl e))),fun _=>by simp⟩⟩) (fun gl e _=>by cases e;exact hno 0) hn hk).mono ?_;rintro e w' ⟨rfl,L',ba',bc',hO'⟩;exact⟨rfl,_,_,hM.ofB [g] (fun k hk=>by rw[List.mem_singleton.1 hk];exact⟨hf.1,hf.2.1,fun v hv=>hf.2.2.1 v (Or.inr hv),hf.2.2.2⟩) hO',hO'.cnt⟩
theorem bU.aam{w0 w w1:World}{wb base:Nat}{P:List dL}{pv bv nv vv:Value}{Lb Ln Lv:List Value}(h:bU w0 w wb base P pv bv nv vv Lb Ln Lv){g:Nat}{xs:List Nat}{cs:List Value}(hg:w.heap.size<=g)(hR:jd w1 g xs cs)(hS:Same [] w w1)(hn:xs.length<=100000000)(hk:Ln.length<=50000000) :
 Calls prog 22 #[.pointer (some ⟨wb,0,none⟩),.slice (some ⟨g,0,none⟩) xs.length xs.length] w1 fun e w'=>e=.returned (.tuple #[])/\∃nv' L',bU w0 w' wb base P pv bv nv' vv Lb L' Lv/\L'.length=Ln.length+5:=by
 obtain⟨ba,bc,rfl⟩:=ak h.rn;have hM:=h.more hS;have hf:=h.fresh hg;have hO:=hM.toN [g] (fun k hk=>by rw[List.mem_singleton.1 hk];exact⟨hf.1,hf.2.1⟩);have hno:∀n,nO Ln g n:=fun n v hv o n' c e hp=>(hf.2.2.1 v (Or.inr (Or.inl hv)) ⟨o,n',c,e,hp⟩).elim
 refine(BH w1 _ _ wb base pv bv vv ba bc Ln.length Ln (some ⟨g,0,none⟩) xs.length (Or.inl ⟨g,rfl,hO,hno _,⟨cs,hR.at_,hR.le,hR.le⟩,Nat.le_refl _,⟨fun e=>hf.1 (Or.inl e),fun e=>hf.1 (Or.inr (Or.inr (Or.inr (Or.inl e)))),fun _=>by simp⟩⟩) (fun gl e _=>by cases e;exact hno 0) hn hk).mono ?_;rintro e w' ⟨rfl,L',ba',bc',hO'⟩;exact⟨rfl,_,_,hM.ofN [g] (fun k hk=>by rw[List.mem_singleton.1 hk];exact⟨hf.1,hf.2.1,fun v hv=>hf.2.2.1 v (hv.imp id Or.inr),hf.2.2.2⟩) hO',hO'.cnt⟩
theorem bU.aaq{w0 w:World}{wb base:Nat}{P:List dL}{pv bv nv vv:Value}{Lb Ln Lv:List Value}(h:bU w0 w wb base P pv bv nv vv Lb Ln Lv)(hk:Ln.length<=50000000) :
 Calls prog 22 #[.pointer (some ⟨wb,0,none⟩),.slice none 0 0] w fun e w'=>e=.returned (.tuple #[])/\∃nv' L',bU w0 w' wb base P pv bv nv' vv Lb L' Lv/\L'.length=Ln.length+5:=by
 obtain⟨ba,bc,rfl⟩:=ak h.rn;have hO:=h.toN [] (fun k hk=>by cases hk);refine(BH w _ _ wb base pv bv vv ba bc Ln.length Ln none 0 (Or.inr ⟨rfl,rfl,hO⟩) (fun gl e _=>by cases e) (by omega) hk).mono ?_;rintro e w' ⟨rfl,L',ba',bc',hO'⟩;exact⟨rfl,_,_,h.ofN [] (fun k hk=>by cases hk) hO',hO'.cnt⟩
theorem bU.aaj{w0 w w1:World}{wb base:Nat}{P:List dL}{pv bv nv vv:Value}{Lb Ln Lv:List Value}(h:bU w0 w wb base P pv bv nv vv Lb Ln Lv){a:Option Addr}{s:St}(hS:Same [] w w1)(hR:s.af≠[]->∃g cs,a=some ⟨g,0,none⟩/\w.heap.size<=g/\At w1 g 57 cs/\cs.take (s.af.length*6)=s.toldAll s.af)(hn:s.af.length<=20)(hk:Lv.length<=50000000) :
 Calls prog 20 #[.pointer (some ⟨wb,0,none⟩),.slice a s.af.length s.af.length] w1 fun e w'=>e=.returned (.tuple #[])/\∃vv' L',bU w0 w' wb base P pv bv nv vv' Lb Ln L'/\L'.length=Lv.length+5:=by
 obtain⟨ba,bc,rfl⟩:=ak h.rv;have hM:=h.more hS;by_cases he:s.af=[]
 ·have hO:=hM.toV [] (fun k hk=>by cases hk);have h0:s.af.length=0:=by rw[he];rfl
  rw[h0];refine(Ci w1 _ _ wb base pv bv nv ba bc Lv.length Lv a 0 (Or.inr ⟨rfl,rfl,hO⟩) (fun gl e hp=>absurd hp (by omega)) (by omega) hk).mono ?_;rintro e w' ⟨rfl,L',ba',bc',hO'⟩;exact⟨rfl,_,_,hM.ofV [] (fun k hk=>by cases hk) hO',hO'.cnt⟩
 ·obtain⟨g,cs,rfl,hg,hA,hc⟩:=hR he;have hf:=h.fresh hg;have hO:=hM.toV [g] (fun k hk=>by rw[List.mem_singleton.1 hk];exact⟨hf.1,hf.2.1⟩);have hl:s.af.length*6<=cs.length:=by have:=congrArg List.length hc;rw[List.length_take,Az]at this;omega
  have hno:∀n,nT Lv g n:=fun n v hv o n' c e hp=>(hf.2.2.1 v (Or.inr (Or.inr hv)) ⟨o,n',c,e,hp⟩).elim
  refine(Ci w1 _ _ wb base pv bv nv ba bc Lv.length Lv (some ⟨g,0,none⟩) s.af.length (Or.inl ⟨g,rfl,hO,hno _,⟨cs,hA,hl,hl⟩,Nat.le_refl _,⟨fun e=>hf.1 (Or.inl e),fun e=>hf.1 (Or.inr (Or.inr (Or.inr (Or.inr e)))),fun _=>by simp⟩⟩) (fun gl e _=>by cases e;exact hno 0) (by omega) hk).mono ?_;rintro e w' ⟨rfl,L',ba',bc',hO'⟩;exact⟨rfl,_,_,hM.ofV [g] (fun k hk=>by rw[List.mem_singleton.1 hk];exact⟨hf.1,hf.2.1,fun v hv=>hf.2.2.1 v (hv.imp id Or.inl),hf.2.2.2⟩) hO',hO'.cnt⟩
theorem KH(w0 w:World)(wb kb kn kv kp lo:Nat)(h:ny w0 w wb kb kn kv kp lo)(hkp:kp<=5000000)(m:Nat)(hm:1<=m/\m<=200)(kk:Int)(t u y:ByteArray) :
 Calls prog 8 #[.pointer (some ⟨wb,0,none⟩),dw 13 kk m t u y] w fun e w'=>e=.returned (.bool true)/\ny w0 w' wb kb kn kv (kp+1) (lo+1):=by
 obtain⟨base,P,pv,bv,nv,vv,Lb,Ln,Lv,hA,l1,l2,l3,l4,l5⟩:=h.ex;obtain⟨pa,pc,rfl⟩:=ak hA.rp;obtain⟨i0,hi,hz0,hz1,hz2⟩:=info_parts Tryz.KE;have S0:Same [] w (w.alloc (.cells #[.int .i64 13,.int .i64 kk,.int .i64 m,.string t,.string u,.string y] 34)):=(Same.refl _ _).alloc _;have h1:=VL m (w.alloc (.cells #[.int .i64 13,.int .i64 kk,.int .i64 m,.string t,.string u,.string y] 34)) hm;have HA:Hid (bU w0 (w.alloc (.cells #[.int .i64 13,.int .i64 kk,.int .i64 m,.string t,.string u,.string y] 34)) wb base P (.slice pa P.length pc) bv nv vv Lb Ln Lv/\Lb.length<=kb/\Ln.length<=kn/\Lv.length<=kv/\P.length<=kp/\lo<=P.length):=⟨hA.more S0,l1,l2,l3,l4,l5⟩
 unfold dw;clear h hA l1 l2 l3 l5 S0
 go_enter func8,ntmps8
 go_wp2_with fail
 refine h1.mono ?_;rintro e w1 ⟨bb,rfl,hN⟩;obtain⟨⟨s,fr,r,q1,qn,_,q2⟩,q3⟩:=hN;have HA1:Hid (bU w0 w1 wb base P (.slice pa P.length pc) bv nv vv Lb Ln Lv):=HA.out.1.more q3;have HX:Hid (lJ w1 ⟨bb,s,fr,r⟩/\∀k∈(dL.mk bb s fr r).ft,¬jQ wb (.slice pa P.length pc) bv nv vv k/\(∀y∈P,k∉y.ft)/\(∀v,(v∈Lb\/v∈Ln\/v∈Lv)->¬Uses v k)/\w0.heap.size<=k):=⟨⟨q1,by show 1<=s.n;omega⟩,fun k hk=>HA.out.1.fresh (q2 k hk)⟩
 have c0:w1.cell? ⟨wb,0,none⟩=some (.slice pa P.length pc):=HA1.out.st.cell? 0;have h2:=HA1.out.rp;have hbw:=HA1.out.kH.1;clear h1 q1 qn q2 q3;dsimp only
 go_wp2_with (at_builtin;refine wpList_append_own_at _ rfl _ _ 26 rfl base 37 i0 (.pointer none) 1 8 underlying26 hi hz0 hz1 hz2 rfl (by decide) _ _ _ rfl (h2.alloc _) ⟨w1.heap.size,0,none⟩ 1 1 [.pointer (some ⟨bb,0,none⟩)] rfl rfl ?c1 ?c2 ?c3 ?c4 ?c5 ?_)
 case c1=>
  intro j u hj
  match j,hj with
  | 0,hj=>simp at hj;subst hj;simp[Addr.add]
 case c2=>intro u hu;simp at hu;subst hu;rfl
 case c3=>unfold maxLen;omega
 case c4=>omega
 case c5=>first|omega|(simp;omega)
 intro pv7 w7 mM kJ _ hblk7;obtain⟨pa7,pc7,rfl⟩:=ak mM;have S7:Same (Value.slice pa P.length pc).ownBlock.toList w1 w7:=((Same.refl _ _).alloc _).grown kJ (fun q hq _=>by simp[hq]);obtain⟨g7,z7,hA7⟩:=HA1.out.put ⟨bb,s,fr,r⟩ HX.out.1 HX.out.2 S7 mM (by
  rcases hblk7 with e|e
  ·exact Or.inl e
  ·exact Or.inr ⟨_,e,by simp⟩)
 have HF:Hid (bU w0 (w7.setCell ⟨wb,0,none⟩ (.slice pa7 (P.length+1) pc7)) wb base (P++[⟨bb,s,fr,r⟩]) (.slice pa7 (P.length+1) pc7) bv nv vv Lb Ln Lv):=hA7;clear S7 mM kJ hblk7 hA7 h2
 go_wp2
 go_ret
 refine⟨by first|rfl|(simp;done),⟨⟨base,P++[⟨bb,s,fr,r⟩],_,_,nv,vv,Lb,Ln,Lv,HF.out,HA.out.2.1,HA.out.2.2.1,HA.out.2.2.2.1,by have:=HA.out.2.2.2.2.1;rw[List.length_append];simp;omega,by have:=HA.out.2.2.2.2.2;rw[List.length_append];simp;omega⟩⟩⟩
theorem WH(w0 w:World)(wb kb kn kv kp lo:Nat)(h:ny w0 w wb kb kn kv kp lo)(m:Int)(hm:¬(1<=m/\m<=200))(kk:Int)(t u y:ByteArray) :
 Calls prog 8 #[.pointer (some ⟨wb,0,none⟩),dw 13 kk m t u y] w fun e w'=>e=.returned (.bool true)/\ny w0 w' wb kb kn kv kp lo:=by
 have S0:Same [] w (w.alloc (.cells #[.int .i64 13,.int .i64 kk,.int .i64 m,.string t,.string u,.string y] 34)):=(Same.refl _ _).alloc _;have h1:=VO m (w.alloc (.cells #[.int .i64 13,.int .i64 kk,.int .i64 m,.string t,.string u,.string y] 34)) hm;have HW:Hid (ny w0 (w.alloc (.cells #[.int .i64 13,.int .i64 kk,.int .i64 m,.string t,.string u,.string y] 34)) wb kb kn kv kp lo):=h.more S0;unfold dw;clear h S0
 go_enter func8,ntmps8
 go_wp2_with fail
 refine h1.mono ?_;rintro e w1 ⟨rfl,hw⟩;obtain rfl:=hw.symm;dsimp only
 go_wp2
 go_ret
 exact⟨rfl,HW.out⟩
theorem QY(w0 w:World)(wb kb kn kv kp lo:Nat)(h:ny w0 w wb kb kn kv kp lo)(hk:kb<=50000000)(hkp:kp<=5000000)(m kk:Int)(t u y:ByteArray)(hy:y.size<=50000000) :
 Calls prog 8 #[.pointer (some ⟨wb,0,none⟩),dw 14 kk m t u y] w fun e w'=>e=.returned (.bool true)/\ny w0 w' wb (kb+1) kn kv (kp+1) lo:=by
 have S0:Same [] w (w.alloc (.cells #[.int .i64 14,.int .i64 kk,.int .i64 m,.string t,.string u,.string y] 34)):=(Same.refl _ _).alloc _;have h1:=IB (w.alloc (.cells #[.int .i64 14,.int .i64 kk,.int .i64 m,.string t,.string u,.string y] 34)) y (by omega);have HW:Hid (ny w0 (w.alloc (.cells #[.int .i64 14,.int .i64 kk,.int .i64 m,.string t,.string u,.string y] 34)) wb kb kn kv kp lo):=h.more S0;have HL:Hid ((y.data.toList++two (dF y.data.toList)).length=y.size+2):=by show _=_;rw[List.length_append,di,Array.length_toList];rfl
 unfold dw;clear h S0
 go_enter func8,ntmps8
 go_wp2_with fail
 refine h1.mono ?_;rintro e w1 ⟨a,cap,rfl,hcap,hB,S1⟩;obtain⟨b,off,rfl,_,hcell⟩:=hB.ex (fun e=>by have:=HL.out;rw[e]at this;simp at this);have hG:=yR w0 w1 wb kb kn kv kp lo (HW.out.more S1) b off cap _ hcell (by rw[HL.out];omega) hk hkp;rw[HL.out]at hG;clear hcell hB h1 S1;dsimp only
 go_wp2_with fail
 refine hG.mono ?_;rintro e w2 ⟨rfl,hW2⟩
 go_wp2
 go_ret
 exact⟨rfl,hW2⟩
theorem ML(w0 w:World)(wb kb kn kv kp lo:Nat)(h:ny w0 w wb kb kn kv kp lo)(hk:kb<=40000000)(hkp:kp<=5000000)(hlo:1<=lo)(m kk:Int)(hk1:-9223372036854775808<=kk)(hk2:kk<=9223372036854775807)(t u y:ByteArray) :
 Calls prog 8 #[.pointer (some ⟨wb,0,none⟩),dw 12 kk m t u y] w fun e w'=>e=.returned (.bool true)/\ny w0 w' wb (kb+10) kn kv (kp+1) lo:=by
 obtain⟨base,P,pv,bv,nv,vv,Lb,Ln,Lv,hA,l1,l2,l3,l4,l5⟩:=h.ex;obtain⟨pa,pc,rfl⟩:=ak hA.rp;have S0:Same [] w (w.alloc (.cells #[.int .i64 12,.int .i64 kk,.int .i64 m,.string t,.string u,.string y] 34)):=(Same.refl _ _).alloc _;obtain⟨i,x,g,hpk,hil,hxi,hX,rfl,hcx⟩:=(hA.more S0).picked (by omega) kk;have hpick:=fun W=>kz kk P.length W hk1 hk2 (by omega) (by omega)
 simp only[hpk]at hpick;have hF:=And.intro ((hA.more S0).st.cell? 0) (And.intro ((qQ w 12 kk m t u y).cell? 1) hcx);have hJ:=xM (qN hX.both.two hX.n);have HI:Hid (∀W,Same [] w W->Calls prog 17 #[.pointer (some ⟨x.bb,0,none⟩)] W fun e w'=>∃g,e=.returned (.tuple #[.slice (some ⟨g,0,none⟩) (kT x.s).length (kT x.s).length,.bool true])/\l7 W w' g (kT x.s)):=fun W hW=>wO x.bb x.s x.fr x.r W ((hA.more hW).jf x (List.mem_of_getElem? hxi)).both hX.n
 have HO:Hid (∀W w1 g,Same [] w W->l7 W w1 g (kT x.s)->Calls prog 18 #[.pointer (some ⟨wb,0,none⟩),.slice (some ⟨g,0,none⟩) (kT x.s).length (kT x.s).length] w1 fun e w'=>e=.returned (.tuple #[])/\ny w0 w' wb (kb+9) kn kv kp lo):=fun W w1 g hW hN=>((hA.more hW).ownB hN (by omega) (by omega)).mono fun e w' ⟨h1,bv',L',h2,h3⟩=>⟨h1,⟨⟨base,P,_,bv',nv,vv,L',Ln,Lv,h2,by omega,l2,l3,l4,l5⟩⟩⟩
 have hPl:P.length<=5000000:=by omega
 generalize kT x.s=J at *;unfold dw;clear h hA l1 l2 l3 l4 l5 hX hcx hxi hpk
 go_enter func8,ntmps8
 go_wp2_with fail
 go_region_held3 (fun w'=>w'.cell? ⟨wb,0,none⟩=some (.slice (some ⟨g,0,none⟩) P.length pc)/\w'.cell? ⟨w.heap.size,1,none⟩=some (.int .i64 kk)/\w'.cell? ⟨g,i,none⟩=some (.pointer (some ⟨x.bb,0,none⟩))) (first|assumption|exact hF) (first|(go_at_call 16;refine(hpick _).mono ?_;rintro e w2 ⟨rfl,hw⟩;obtain rfl:=hw.symm))
 go_wp2_with fail
 refine(HI.out _ (S0.drew)).mono ?_;rintro e w1 ⟨g2,rfl,hN⟩;have hx:Sem.run prog (convert 41 9 (.slice (some ⟨g2,0,none⟩) J.length J.length)) w1=.ok (.string ⟨J.toArray⟩) w1:=jF w1 g2 0 J.length J rfl (fun i hi=>by
  obtain⟨cs,hA,hc⟩:=hN.ex;have e:(cs.take J.length)[i]? = cs[i]?:=by rw[List.getElem?_take,if_pos hi]
  rw[Nat.zero_add,hA.cell?,<-e,hc,List.getElem?_map,List.getElem?_eq_getElem hi,getElem!_pos J i hi];rfl) J.length
 have hOw:=HO.out _ w1 g2 (S0.drew) hN;have HB:Hid (∀w2,ny w0 w2 wb (kb+9) kn kv kp lo->∃C W3,Sem.run prog (convert 9 41 (.string ⟨J.toArray⟩)) w2=.ok (.slice (some ⟨w2.heap.size,0,none⟩) J.length C) W3/\Calls prog 14 #[.pointer (some ⟨wb,0,none⟩),.slice (some ⟨w2.heap.size,0,none⟩) J.length C] W3 fun e w'=>e=.returned (.bool true)/\ny w0 w' wb (kb+10) kn kv (kp+1) lo):=fun w2 hW=>by
  obtain⟨C,W3,cs,b1,b2,b3,b4,b5,b6,b7⟩:=LX w2 ⟨J.toArray⟩;have hts:(⟨J.toArray⟩:ByteArray).size=J.length:=by simp[ByteArray.size]
  rw[hts]at b1 b2 b5;refine⟨C,W3,b1,yR w0 W3 wb (kb+9) kn kv kp lo (hW.more b6) w2.heap.size 0 C J (fun i hi=>?_) (by omega) (by omega) hkp⟩;have e:(cs.take J.length)[i]? = cs[i]?:=by rw[List.getElem?_take,if_pos hi]
  rw[Nat.zero_add,b3.cell?,<-e,b5,List.getElem?_map,List.getElem?_eq_getElem (by simpa using hi),getElem!_pos J i hi];rfl
 clear hN HI HO hF hpick;generalize (⟨J.toArray⟩:ByteArray)=tj at *;dsimp only
 go_wp2_with fail
 refine hOw.mono ?_;rintro e w2 ⟨rfl,hW2⟩;obtain⟨C,W3,b1,hG⟩:=HB.out w2 hW2;clear hW2 hOw hx HB;dsimp only
 go_wp2_with fail
 refine hG.mono ?_;rintro e w4 ⟨rfl,hW4⟩;dsimp only
 go_wp2
 go_ret
 exact⟨rfl,hW4⟩
theorem vw(w:World)(wb:Nat)(k:Int)(h1:12<=k)(h2:k<=14)(m kk:Int)(t u y:ByteArray)(R:World->Prop)(hT:Calls prog 8 #[.pointer (some ⟨wb,0,none⟩),dw k kk m t u y] (w.alloc (.cells #[.int .i64 k,.int .i64 kk,.int .i64 m,.string t,.string u,.string y] 34)) fun e w'=>e=.returned (.bool true)/\R w') :
 Calls prog 9 #[.pointer (some ⟨wb,0,none⟩),dw k kk m t u y] w fun e w'=>e=.returned (.bool true)/\R w':=by
 unfold dw at hT ⊢
 go_enter func9,ntmps9
 go_wp2_with (go_at_call 8;refine hT.mono ?_;rintro e w1 ⟨rfl,hR⟩)
 go_ret
 exact⟨rfl,hR⟩
theorem NM(w0 w:World)(wb kb kn kv kp lo:Nat)(h:ny w0 w wb kb kn kv kp lo)(hk:kb<=40000000)(hkn:kn<=40000000)(hkv:kv<=40000000)(hkp:kp<=5000000)(hlo:1<=lo)(m kk:Int)(hk1:-9223372036854775808<=kk)(hk2:kk<=9223372036854775807)(t u y:ByteArray) :
 Calls prog 9 #[.pointer (some ⟨wb,0,none⟩),dw 6 kk m t u y] w fun e w'=>e=.returned (.bool true)/\ny w0 w' wb (kb+10) (kn+5) (kv+5) (kp+1) lo:=by
 obtain⟨base,P,pv,bv,nv,vv,Lb,Ln,Lv,hA,l1,l2,l3,l4,l5⟩:=h.ex;obtain⟨pa,pc,rfl⟩:=ak hA.rp;have S0:Same [] w (w.alloc (.cells #[.int .i64 6,.int .i64 kk,.int .i64 m,.string t,.string u,.string y] 34)):=(Same.refl _ _).alloc _;obtain⟨i,x,g,hpk,hil,hxi,hX,rfl,hcx⟩:=(hA.more S0).picked (by omega) kk;have hpick:=fun W=>kz kk P.length W hk1 hk2 (by omega) (by omega)
 simp only[hpk]at hpick;have hF:=And.intro ((hA.more S0).st.cell? 0) (And.intro ((qQ w 6 kk m t u y).cell? 1) hcx);have hPl:P.length<=5000000:=by omega
 have hfew:=hX.both.two.pool.few;have HI:Hid (∀W,Same [] w W->Calls prog 19 #[.pointer (some ⟨x.bb,0,none⟩)] W fun e w'=>∃a,e=.returned (.tuple #[.slice a x.s.af.length x.s.af.length,.bool true])/\Calls prog 20 #[.pointer (some ⟨wb,0,none⟩),.slice a x.s.af.length x.s.af.length] w' fun e w'=>e=.returned (.tuple #[])/\ny w0 w' wb (kb+10) (kn+5) (kv+5) (kp+1) lo):=fun W hW=>(vX x.bb x.s x.fr x.r W ((hA.more hW).jf x (List.mem_of_getElem? hxi)).both).mono fun e w' ⟨a,he,hS,hR⟩=>⟨a,he,((hA.more hW).aaj hS hR hfew (by omega)).mono fun e w' ⟨h1,vv',L',h2,h3⟩=>⟨h1,⟨⟨base,P,_,bv,nv,vv',Lb,Ln,L',h2,by omega,by omega,by omega,by omega,l5⟩⟩⟩⟩
 generalize x.s.af.length=N at *;unfold dw;clear h hA l1 l2 l3 l4 l5 hX hcx hxi hpk
 go_enter func9,ntmps9
 go_wp2_with fail
 go_region_held3 (fun w'=>w'.cell? ⟨wb,0,none⟩=some (.slice (some ⟨g,0,none⟩) P.length pc)/\w'.cell? ⟨w.heap.size,1,none⟩=some (.int .i64 kk)/\w'.cell? ⟨g,i,none⟩=some (.pointer (some ⟨x.bb,0,none⟩))) (first|assumption|exact hF) (first|(go_at_call 16;refine(hpick _).mono ?_;rintro e w2 ⟨rfl,hw⟩;obtain rfl:=hw.symm))
 go_wp2_with fail
 refine(HI.out _ (S0.drew)).mono ?_;rintro e w1 ⟨a,rfl,hOw⟩;clear HI hF hpick;dsimp only
 go_wp2_with fail
 refine hOw.mono ?_;rintro e w2 ⟨rfl,hW2⟩;dsimp only
 go_wp2
 go_ret
 exact⟨rfl,hW2⟩
theorem Si(w0 w:World)(wb kb kn kv kp lo:Nat)(h:ny w0 w wb kb kn kv kp lo)(hk:kb<=40000000)(hkn:kn<=40000000)(hkv:kv<=40000000)(hkp:kp<=5000000)(hlo:1<=lo)(m kk:Int)(hk1:-9223372036854775808<=kk)(hk2:kk<=9223372036854775807)(t u y:ByteArray) :
 Calls prog 9 #[.pointer (some ⟨wb,0,none⟩),dw 7 kk m t u y] w fun e w'=>e=.returned (.bool true)/\ny w0 w' wb (kb+10) (kn+5) (kv+5) (kp+1) lo:=by
 obtain⟨base,P,pv,bv,nv,vv,Lb,Ln,Lv,hA,l1,l2,l3,l4,l5⟩:=h.ex;obtain⟨pa,pc,rfl⟩:=ak hA.rp;have S0:Same [] w (w.alloc (.cells #[.int .i64 7,.int .i64 kk,.int .i64 m,.string t,.string u,.string y] 34)):=(Same.refl _ _).alloc _;obtain⟨i,x,g,hpk,hil,hxi,hX,rfl,hcx⟩:=(hA.more S0).picked (by omega) kk;have hpick:=fun W=>kz kk P.length W hk1 hk2 (by omega) (by omega)
 simp only[hpk]at hpick;have hF:=And.intro ((hA.more S0).st.cell? 0) (And.intro ((qQ w 7 kk m t u y).cell? 1) hcx);have hPl:P.length<=5000000:=by omega
 have HI:Hid (∀W,Same [] w W->Calls prog 21 #[.pointer (some ⟨x.bb,0,none⟩),.string t] W fun e w'=>∃a N,e=.returned (.tuple #[.slice a N N,.bool true])/\Calls prog 22 #[.pointer (some ⟨wb,0,none⟩),.slice a N N] w' fun e w'=>e=.returned (.tuple #[])/\ny w0 w' wb (kb+10) (kn+5) (kv+5) (kp+1) lo):=fun W hW=>by
  have hB:=((hA.more hW).jf x (List.mem_of_getElem? hxi)).both;by_cases ht:x.s.has t=true
  ·have hsm:=(hB.two.pool.af _ (St.aT ht).1).small;exact(yX x.bb x.s x.fr x.r W hB t ht).mono fun e w' ⟨g,cs,he,hg,hR,hS⟩=>⟨_,_,he,((hA.more hW).aam hg hR hS (by omega) (by omega)).mono fun e w' ⟨h1,vv',L',h2,h3⟩=>⟨h1,⟨⟨base,P,_,bv,vv',vv,Lb,L',Lv,h2,by omega,by omega,by omega,by omega,l5⟩⟩⟩⟩
  ·refine(zf x.bb x.s x.fr x.r W hB t (by simpa using ht)).mono ?_;rintro e w' ⟨he,rfl⟩;exact⟨_,_,he,((hA.more hW).aaq (by omega)).mono fun e w' ⟨h1,vv',L',h2,h3⟩=>⟨h1,⟨⟨base,P,_,bv,vv',vv,Lb,L',Lv,h2,by omega,by omega,by omega,by omega,l5⟩⟩⟩⟩
 unfold dw;clear h hA l1 l2 l3 l4 l5 hX hcx hxi hpk
 go_enter func9,ntmps9
 go_wp2_with fail
 go_region_held3 (fun w'=>w'.cell? ⟨wb,0,none⟩=some (.slice (some ⟨g,0,none⟩) P.length pc)/\w'.cell? ⟨w.heap.size,1,none⟩=some (.int .i64 kk)/\w'.cell? ⟨g,i,none⟩=some (.pointer (some ⟨x.bb,0,none⟩))) (first|assumption|exact hF) (first|(go_at_call 16;refine(hpick _).mono ?_;rintro e w2 ⟨rfl,hw⟩;obtain rfl:=hw.symm))
 go_wp2_with fail
 refine(HI.out _ (S0.drew)).mono ?_;rintro e w1 ⟨a,N,rfl,hOw⟩;clear HI hF hpick;dsimp only
 go_wp2_with fail
 refine hOw.mono ?_;rintro e w2 ⟨rfl,hW2⟩;dsimp only
 go_wp2
 go_ret
 exact⟨rfl,hW2⟩
theorem LU(w0 w:World)(wb kb kn kv kp lo:Nat)(h:ny w0 w wb kb kn kv kp lo)(hk:kb<=40000000)(hkn:kn<=40000000)(hkv:kv<=40000000)(hkp:kp<=5000000)(hlo:1<=lo)(m kk:Int)(hk1:-9223372036854775808<=kk)(hk2:kk<=9223372036854775807)(t u y:ByteArray) :
 Calls prog 9 #[.pointer (some ⟨wb,0,none⟩),dw 11 kk m t u y] w fun e w'=>e=.returned (.bool true)/\ny w0 w' wb (kb+10) (kn+5) (kv+5) (kp+1) lo:=by
 obtain⟨base,P,pv,bv,nv,vv,Lb,Ln,Lv,hA,l1,l2,l3,l4,l5⟩:=h.ex;obtain⟨pa,pc,rfl⟩:=ak hA.rp;have S0:Same [] w (w.alloc (.cells #[.int .i64 11,.int .i64 kk,.int .i64 m,.string t,.string u,.string y] 34)):=(Same.refl _ _).alloc _;obtain⟨i,x,g,hpk,hil,hxi,hX,rfl,hcx⟩:=(hA.more S0).picked (by omega) kk;have hpick:=fun W=>kz kk P.length W hk1 hk2 (by omega) (by omega)
 simp only[hpk]at hpick;have hF:=And.intro ((hA.more S0).st.cell? 0) (And.intro ((qQ w 11 kk m t u y).cell? 1) hcx);have hPl:P.length<=5000000:=by omega
 have hJ:=xM (qN hX.both.two hX.n);have HI:Hid (∀W,Same [] w W->Calls prog 17 #[.pointer (some ⟨x.bb,0,none⟩)] W fun e w'=>∃a,e=.returned (.tuple #[.slice a (kT x.s).length (kT x.s).length,.bool true])/\Calls prog 18 #[.pointer (some ⟨wb,0,none⟩),.slice a (kT x.s).length (kT x.s).length] w' fun e w'=>e=.returned (.tuple #[])/\ny w0 w' wb (kb+10) (kn+5) (kv+5) (kp+1) lo):=fun W hW=>(wO x.bb x.s x.fr x.r W ((hA.more hW).jf x (List.mem_of_getElem? hxi)).both hX.n).mono fun e w' ⟨g,he,hN⟩=>⟨_,he,((hA.more hW).ownB hN (by omega) (by omega)).mono fun e w' ⟨h1,vv',L',h2,h3⟩=>⟨h1,⟨⟨base,P,_,vv',nv,vv,L',Ln,Lv,h2,by omega,by omega,by omega,by omega,l5⟩⟩⟩⟩
 generalize kT x.s=J at *;generalize J.length=N at *;unfold dw;clear h hA l1 l2 l3 l4 l5 hX hcx hxi hpk
 go_enter func9,ntmps9
 go_wp2_with fail
 go_region_held3 (fun w'=>w'.cell? ⟨wb,0,none⟩=some (.slice (some ⟨g,0,none⟩) P.length pc)/\w'.cell? ⟨w.heap.size,1,none⟩=some (.int .i64 kk)/\w'.cell? ⟨g,i,none⟩=some (.pointer (some ⟨x.bb,0,none⟩))) (first|assumption|exact hF) (first|(go_at_call 16;refine(hpick _).mono ?_;rintro e w2 ⟨rfl,hw⟩;obtain rfl:=hw.symm))
 go_wp2_with fail
 refine(HI.out _ (S0.drew)).mono ?_;rintro e w1 ⟨a,rfl,hOw⟩;clear HI hF hpick;dsimp only
 go_wp2_with fail
 refine hOw.mono ?_;rintro e w2 ⟨rfl,hW2⟩;dsimp only
 go_wp2
 go_ret
 exact⟨rfl,hW2⟩
theorem O8(w0 w:World)(wb kb kn kv kp lo:Nat)(h:ny w0 w wb kb kn kv kp lo)(hk:kb<=40000000)(hkn:kn<=40000000)(hkv:kv<=40000000)(hkp:kp<=5000000)(hlo:1<=lo)(k:Int)(hc:k<12)(hk6:k≠6)(hk7:k≠7)(YF:k≠11)(m kk:Int)(hk1:-9223372036854775808<=kk)(hk2:kk<=9223372036854775807)(t u y:ByteArray)(ht:t.size<=maxLen)(hy:y.size<=maxLen) :
 Calls prog 9 #[.pointer (some ⟨wb,0,none⟩),dw k kk m t u y] w fun e w'=>e=.returned (.bool true)/\ny w0 w' wb (kb+10) (kn+5) (kv+5) (kp+1) lo:=by
 obtain⟨base,P,pv,bv,nv,vv,Lb,Ln,Lv,hA,l1,l2,l3,l4,l5⟩:=h.ex;obtain⟨pa,pc,rfl⟩:=ak hA.rp;have S0:Same [] w (w.alloc (.cells #[.int .i64 k,.int .i64 kk,.int .i64 m,.string t,.string u,.string y] 34)):=(Same.refl _ _).alloc _;obtain⟨i,x,g,hpk,hil,hxi,hX,rfl,hcx⟩:=(hA.more S0).picked (by omega) kk;have hpick:=fun W=>kz kk P.length W hk1 hk2 (by omega) (by omega)
 simp only[hpk]at hpick;have hF:=And.intro ((hA.more S0).st.cell? 0) (And.intro ((qQ w k kk m t u y).cell? 1) hcx);have hPl:P.length<=5000000:=by omega
 have HI:Hid (∀W,Same [] w W->Calls prog 12 #[.pointer (some ⟨x.bb,0,none⟩),dw k kk m t u y] W fun e w'=>e=.returned (.bool true)/\ny w0 w' wb (kb+10) (kn+5) (kv+5) (kp+1) lo):=fun W hW=>by
  have hAW:=hA.more hW;have hB:=(hAW.jf x (List.mem_of_getElem? hxi)).both;refine(UN k (by omega) x.bb x.s x.fr x.r W hB kk m t u y ht hy).mono ?_;rintro e w' ⟨he,hN⟩;obtain⟨x',hA'⟩:=hAW.pool hxi hN;exact⟨he,⟨⟨base,P.set i x',_,bv,nv,vv,Lb,Ln,Lv,hA',by omega,by omega,by omega,by rw[List.length_set];omega,by rw[List.length_set];exact l5⟩⟩⟩
 have n6:(k == 6)=false:=beq_eq_false_iff_ne.2 hk6;have n7:(k == 7)=false:=beq_eq_false_iff_ne.2 hk7;have n11:(k == 11)=false:=beq_eq_false_iff_ne.2 YF;unfold dw at HI ⊢;clear h hA l1 l2 l3 l4 l5 hX hcx hxi hpk
 go_enter func9,ntmps9
 go_wp2_with fail
 go_region_held3 (fun w'=>w'.cell? ⟨wb,0,none⟩=some (.slice (some ⟨g,0,none⟩) P.length pc)/\w'.cell? ⟨w.heap.size,1,none⟩=some (.int .i64 kk)/\w'.cell? ⟨g,i,none⟩=some (.pointer (some ⟨x.bb,0,none⟩))) (first|assumption|exact hF) (first|(go_at_call 16;refine(hpick _).mono ?_;rintro e w2 ⟨rfl,hw⟩;obtain rfl:=hw.symm))
 go_wp2_with fail
 refine(HI.out _ (S0.drew)).mono ?_;rintro e w1 ⟨rfl,hW1⟩;clear HI hF hpick;dsimp only
 go_wp2
 go_ret
 exact⟨rfl,hW1⟩
theorem I9(w0 w:World)(wb kb kn kv kp lo:Nat)(h:ny w0 w wb kb kn kv kp lo)(hk:kb<=40000000)(hkn:kn<=40000000)(hkv:kv<=40000000)(hkp:kp<=5000000)(hlo:1<=lo)(k:Int)(hc:14<k)(hk6:k≠6)(hk7:k≠7)(YF:k≠11)(m kk:Int)(hk1:-9223372036854775808<=kk)(hk2:kk<=9223372036854775807)(t u y:ByteArray)(ht:t.size<=maxLen)(hy:y.size<=maxLen) :
 Calls prog 9 #[.pointer (some ⟨wb,0,none⟩),dw k kk m t u y] w fun e w'=>e=.returned (.bool true)/\ny w0 w' wb (kb+10) (kn+5) (kv+5) (kp+1) lo:=by
 obtain⟨base,P,pv,bv,nv,vv,Lb,Ln,Lv,hA,l1,l2,l3,l4,l5⟩:=h.ex;obtain⟨pa,pc,rfl⟩:=ak hA.rp;have S0:Same [] w (w.alloc (.cells #[.int .i64 k,.int .i64 kk,.int .i64 m,.string t,.string u,.string y] 34)):=(Same.refl _ _).alloc _;obtain⟨i,x,g,hpk,hil,hxi,hX,rfl,hcx⟩:=(hA.more S0).picked (by omega) kk;have hpick:=fun W=>kz kk P.length W hk1 hk2 (by omega) (by omega)
 simp only[hpk]at hpick;have hF:=And.intro ((hA.more S0).st.cell? 0) (And.intro ((qQ w k kk m t u y).cell? 1) hcx);have hPl:P.length<=5000000:=by omega
 have HI:Hid (∀W,Same [] w W->Calls prog 12 #[.pointer (some ⟨x.bb,0,none⟩),dw k kk m t u y] W fun e w'=>e=.returned (.bool true)/\ny w0 w' wb (kb+10) (kn+5) (kv+5) (kp+1) lo):=fun W hW=>by
  have hAW:=hA.more hW;have hB:=(hAW.jf x (List.mem_of_getElem? hxi)).both;refine(step_other k (by omega) x.bb W kk m t u y).mono ?_;rintro e w' ⟨he,hS⟩;exact⟨he,⟨⟨base,P,_,bv,nv,vv,Lb,Ln,Lv,hAW.more hS,by omega,by omega,by omega,by omega,l5⟩⟩⟩
 have n6:(k == 6)=false:=beq_eq_false_iff_ne.2 hk6;have n7:(k == 7)=false:=beq_eq_false_iff_ne.2 hk7;have n11:(k == 11)=false:=beq_eq_false_iff_ne.2 YF;unfold dw at HI ⊢;clear h hA l1 l2 l3 l4 l5 hX hcx hxi hpk
 go_enter func9,ntmps9
 go_wp2_with fail
 go_region_held3 (fun w'=>w'.cell? ⟨wb,0,none⟩=some (.slice (some ⟨g,0,none⟩) P.length pc)/\w'.cell? ⟨w.heap.size,1,none⟩=some (.int .i64 kk)/\w'.cell? ⟨g,i,none⟩=some (.pointer (some ⟨x.bb,0,none⟩))) (first|assumption|exact hF) (first|(go_at_call 16;refine(hpick _).mono ?_;rintro e w2 ⟨rfl,hw⟩;obtain rfl:=hw.symm))
 go_wp2_with fail
 refine(HI.out _ (S0.drew)).mono ?_;rintro e w1 ⟨rfl,hW1⟩;clear HI hF hpick;dsimp only
 go_wp2
 go_ret
 exact⟨rfl,hW1⟩
theorem JA(w0 w:World)(wb kb kn kv kp lo:Nat)(h:ny w0 w wb kb kn kv kp lo)(hk:kb<=40000000)(hkn:kn<=40000000)(hkv:kv<=40000000)(hkp:kp<=5000000)(hlo:1<=lo)(k m kk:Int)(hk1:-9223372036854775808<=kk)(hk2:kk<=9223372036854775807)(t u y:ByteArray)(ht:t.size<=maxLen)(hy:y.size<=50000000) :
 Calls prog 9 #[.pointer (some ⟨wb,0,none⟩),dw k kk m t u y] w fun e w'=>e=.returned (.bool true)/\ny w0 w' wb (kb+10) (kn+5) (kv+5) (kp+1) lo:=by
 have S0:Same [] w (w.alloc (.cells #[.int .i64 k,.int .i64 kk,.int .i64 m,.string t,.string u,.string y] 34)):=(Same.refl _ _).alloc _;have h0:=h.more S0;have hy':y.size<=maxLen:=by unfold maxLen;omega
 by_cases h13:k=13
 ·subst h13;refine vw w wb 13 (by omega) (by omega) m kk t u y _ ?_;by_cases hm:1<=m/\m<=200
  ·obtain⟨m',rfl⟩:∃m':Nat,m=m':=⟨m.toNat,by omega⟩
   exact(KH w0 _ wb kb kn kv kp lo h0 hkp m' (by omega) kk t u y).mono fun e w' ⟨a,b⟩=>⟨a,b.le (by omega) (by omega) (by omega) (by omega) (by omega)⟩
  ·exact(WH w0 _ wb kb kn kv kp lo h0 m hm kk t u y).mono fun e w' ⟨a,b⟩=>⟨a,b.le (by omega) (by omega) (by omega) (by omega) (by omega)⟩
 by_cases h14:k=14
 ·subst h14;refine vw w wb 14 (by omega) (by omega) m kk t u y _ ?_;exact(QY w0 _ wb kb kn kv kp lo h0 (by omega) hkp m kk t u y hy).mono fun e w' ⟨a,b⟩=>⟨a,b.le (by omega) (by omega) (by omega) (by omega) (by omega)⟩
 by_cases h12:k=12
 ·subst h12;refine vw w wb 12 (by omega) (by omega) m kk t u y _ ?_;exact(ML w0 _ wb kb kn kv kp lo h0 hk hkp hlo m kk hk1 hk2 t u y).mono fun e w' ⟨a,b⟩=>⟨a,b.le (by omega) (by omega) (by omega) (by omega) (by omega)⟩
 by_cases h6:k=6
 ·subst h6;exact NM w0 w wb kb kn kv kp lo h hk hkn hkv hkp hlo m kk hk1 hk2 t u y
 by_cases h7:k=7
 ·subst h7;exact Si w0 w wb kb kn kv kp lo h hk hkn hkv hkp hlo m kk hk1 hk2 t u y
 by_cases h11:k=11
 ·subst h11;exact LU w0 w wb kb kn kv kp lo h hk hkn hkv hkp hlo m kk hk1 hk2 t u y
 by_cases hlt:k<12
 ·exact O8 w0 w wb kb kn kv kp lo h hk hkn hkv hkp hlo k hlt h6 h7 h11 m kk hk1 hk2 t u y ht hy'
 ·exact I9 w0 w wb kb kn kv kp lo h hk hkn hkv hkp hlo k (by omega) h6 h7 h11 m kk hk1 hk2 t u y ht hy'
theorem PO(w:World):ny w (w.alloc (.cells #[.slice none 0 0,.slice none 0 0,.slice none 0 0,.slice none 0 0] 31)) w.heap.size 0 0 0 0 0:=by
 refine⟨⟨w.heap.size+1,[],.slice none 0 0,.slice none 0 0,.slice none 0 0,.slice none 0 0,[],[],[],⟨At.new w _ _,World.ownsRow_nil _ _ _ _,World.ownsRow_nil _ _ _ _,World.ownsRow_nil _ _ _ _,World.ownsRow_nil _ _ _ _,⟨fun k v hv=>by simp at hv⟩,⟨fun k v hv=>by simp at hv⟩,⟨fun k v hv=>by simp at hv⟩,fun x hx=>(by cases hx),⟨fun q hq=>(by cases hq),fun q hq=>(by cases hq),fun q hq=>(by cases hq),fun q hq=>(by cases hq),fun q hq=>(by cases hq),fun q hq=>(by cases hq)⟩,fun i j x y hx=>by simp at hx,fun x hx=>(by cases hx),fun v hv=>by simp at hv,⟨fun k hk=>?_,fun x hx=>(by cases hx)⟩,(Same.refl _ _).alloc _,⟨by simp,by omega⟩⟩,Nat.le_refl _,Nat.le_refl _,Nat.le_refl _,Nat.le_refl _,Nat.le_refl _⟩⟩;rcases hk with e|e|e|e|e
 ·omega
 all_goals cases e
theorem ny.one{w0 w:World}{wb kb kn kv:Nat}(h:ny w0 w wb kb kn kv 1 1):∃pa pc,w.cell? ⟨wb,0,none⟩=some (.slice pa 1 pc):=by
 obtain⟨base,P,pv,bv,nv,vv,Lb,Ln,Lv,hA,l1,l2,l3,l4,l5⟩:=h.ex;obtain⟨pa,pc,rfl⟩:=ak hA.rp;have e:P.length=1:=by omega
 exact⟨pa,pc,by rw[<-e];exact hA.st.cell? 0⟩
theorem ny.same{w0 w:World}{wb kb kn kv kp lo:Nat}(h:ny w0 w wb kb kn kv kp lo):Same [] w0 w:=by
 obtain⟨base,P,pv,bv,nv,vv,Lb,Ln,Lv,hA,_⟩:=h.ex;exact hA.same
theorem ny.still{w0 w:World}{wb kb kn kv kp lo:Nat}(h:ny w0 w wb kb kn kv kp lo)(hb:kb<=100000000)(hn:kn<=100000000)(hv:kv<=100000000) :
 Calls prog 10 #[.pointer (some ⟨wb,0,none⟩)] w fun e w'=>e=.returned (.bool true)/\ny w0 w' wb kb kn kv kp lo:=by
 obtain⟨base,P,pv,bv,nv,vv,Lb,Ln,Lv,hA,l1,l2,l3,l4,l5⟩:=h.ex;obtain⟨ba,bc,rfl⟩:=ak hA.rb;obtain⟨na,nc,rfl⟩:=ak hA.rn;obtain⟨va,vc,rfl⟩:=ak hA.rv;exact(KP w wb pv ba na va bc nc vc Lb.length Ln.length Lv.length Lb Ln Lv hA.still (by omega) (by omega) (by omega)).mono fun e w' ⟨h1,h2⟩=>⟨h1,h.more h2⟩
theorem Px(a:Option Addr)(len cap b off:Nat)(w:World)(hs:xq w a len b off) :
 Calls prog 6 #[.slice a len cap] w fun e w'=>e=.returned (.bool true)/\Same [] w w':=by
 have hnot:=zM;have h1:=KH w _ w.heap.size 0 0 0 0 0 (PO w) (by omega) 9 (by omega) 0 ⟨#[]⟩ ⟨#[]⟩ ⟨#[]⟩;unfold dw at h1;have HS:Hid (xq w a len b off):=hs;have hlen:=hs.le;have hlen2:len<=9223372036854775807:=by omega
 clear hs
 go_enter func6,ntmps6
 go_wp2_with fail
 refine h1.mono ?_;rintro e w1 ⟨rfl,hW⟩;obtain⟨pa,pc,c0⟩:=hW.one;have HW:Hid (ny w w1 w.heap.size 0 0 0 1 1):=hW;clear h1 hW;dsimp only
 go_wp2_with fail
 clear c0
 go_loopw [4,5] (fun ok i wr=>∃k:Nat,k<=len/\ok=.bool true/\i=.int .i64 k/\Hid (ny w wr w.heap.size (10*k) (5*k) (5*k) (k+1) 1)) (fun _ i _=>len-(intOf i).toNat)
 case atStart=>exact⟨0,Nat.zero_le _,rfl,rfl,HW⟩
 case round=>
  obtain⟨k,hk,rfl,rfl,HI⟩:=hrel;by_cases hkl:k<len
  ·obtain⟨rfl,hbw⟩:=HS.out.mO (by omega);obtain⟨kd,kk,x,t,u,y,k1,k2,ht,hy,d0,d1,d2,d3,d4,d5⟩:=HS.out.cells k hkl;have hbe:=HI.out.same.below (Nat.le_refl _) (by simp);have e0:wr.cell? ⟨b,off+k*6,none⟩=some (.int .i64 kd):=by rw[hbe.cell hbw];exact d0
   have e1:wr.cell? ⟨b,off+k*6+1,none⟩=some (.int .i64 kk):=by rw[hbe.cell hbw];exact d1
   have e2:wr.cell? ⟨b,off+k*6+2,none⟩=some (.int .i64 x):=by rw[hbe.cell hbw];exact d2
   have e3:wr.cell? ⟨b,off+k*6+3,none⟩=some (.string t):=by rw[hbe.cell hbw];exact d3
   have e4:wr.cell? ⟨b,off+k*6+4,none⟩=some (.string u):=by rw[hbe.cell hbw];exact d4
   have e5:wr.cell? ⟨b,off+k*6+5,none⟩=some (.string y):=by rw[hbe.cell hbw];exact d5
   have l1:(k:Int)<(len:Int):=by omega
   have hT:=JA w wr w.heap.size (10*k) (5*k) (5*k) (k+1) 1 HI.out (by omega) (by omega) (by omega) (by omega) (by omega) kd x kk k1 k2 t u y ht (by omega);unfold dw at hT;clear d0 d1 d2 d3 d4 d5 hbe HI
   go_wp2_with fail
   refine hT.mono ?_;rintro e w2 ⟨rfl,hW2⟩;have hST:=(hW2.le (kb':=10*(k+1)) (kn':=5*(k+1)) (kv':=5*(k+1)) (kp':=k+1+1) (lo':=1) (by omega) (by omega) (by omega) (by omega) (by omega)).still (by omega) (by omega) (by omega);clear hT hW2 e0 e1 e2 e3 e4 e5;dsimp only
   go_wp2_with fail
   refine hST.mono ?_;rintro e w3 ⟨rfl,hW3⟩;have HW3:Hid (ny w w3 w.heap.size (10*(k+1)) (5*(k+1)) (5*(k+1)) (k+1+1) 1):=hW3;clear hST hW3;dsimp only
   go_wp2
   go_roundw
   case rel=>exact⟨k+1,by omega,rfl,by go_num,HW3⟩
   case measure=>simp[intOf];omega
  ·have ek:k=len:=by omega
   subst ek
   go_wp2
   go_ret
   exact⟨rfl,HI.out.same⟩
end
end Go.Proofs.YtpddgdjocffgdaaGreat
