/- Packed: see the last text. -/
import Derived.Test.YtpddgdjocffgdaaGreatA12
import Derived.Deep.DeepFit
namespace Go.Proofs.YtpddgdjocffgdaaGreat
open Go.Proofs.Tryz
set_option linter.unusedVariables false
set_option linter.unusedSimpArgs false
set_option linter.unusedSectionVars false
set_option maxHeartbeats 16000000
set_option maxRecDepth 100000
section
open Go.RowKit Go.Sort
variable [DecidableEq aN] [Inhabited aN] [Inhabited aF]
theorem hidL{p:Prop}(h:p):Hid p:=h
theorem Tryz.xK:(prog.info? 4).map (fun i=>(i.zero,i.size,i.bytes))=some (some (.bool false),1,1):=by kernel_rfl
structure je(w:World)(v:aF):Prop where
 aA:At w v.vb 133 (v.cells v.xs.length v.kept.length)
 row:At w v.gb 3 (v.xs.map fun x:Nat=>Value.int .i64 x)
 Oy:v.kg=none->v.kept=[]
 KY:∀g,v.kg=some g->At w g 3 (v.kept.map fun x:Nat=>Value.int .i64 x)
theorem je.same{w w':World}{v:aF}(h:je w v){S:List Nat}(hs:Same S w w')(hd:∀k∈v.foot,k∉S):je w' v:=
 ⟨hs.at h.aA (hd _ (by simp[aF.foot])),hs.at h.row (hd _ (by simp[aF.foot])),h.Oy,fun g hg=>hs.at (h.KY g hg) (hd _ (by simp[aF.foot,hg]))⟩
def aS.aA(p:aS)(vb gb:Nat)(kg:Option Nat):aF:=⟨vb,gb,p.name,p.xs,none,kg,p.kept,decide (p.kind=2)⟩
def aS.cells(p:aS)(vb:Nat):List Value:=[.pointer (some ⟨vb,0,none⟩),.int .i64 p.kind,.int .i64 p.size,.int .i64 p.origin,.int .i64 p.iT]
structure F8(w0 w w':World)(a:Option Addr)(B:List UInt8)(rd tk bound:Nat)(L:List Nat)(p:aS)(at1 vb gb:Nat)(kg:Option Nat):Prop where
 kE:dV w0 w' a B rd at1
 aA:je w' (p.aA vb gb kg)
 plain:p.kind=0->kg=none
 seen:At w' tk 4 (seenCells bound (L++p.xs))
 new:∀k∈(p.aA vb gb kg).foot,w.heap.size<=k
 nodup:(p.aA vb gb kg).foot.Nodup
 same:Same [rd,tk] w w'
def gB(w0 w:World)(a:Option Addr)(B:List UInt8)(rd tk bound:Nat)(L:List Nat)(spec:Except Nat (aS×Nat))(e:Ending)(w':World):Prop:=
 match spec with
 | .ok (p,at1)=>∃vb gb kg,e=.returned (.agg (p.cells vb).toArray)/\F8 w0 w w' a B rd tk bound L p at1 vb gb kg
 | .error q=>e=bad q/\Same [] w0 w'
structure Mid(w0 w W:World)(a:Option Addr)(B:List UInt8)(rd tk at_ vb ob rb:Nat)(sc vc ec:List Value):Prop where
 kE:dV w0 W a B rd at_
 seen:At W tk 4 sc
 aA:At W vb 133 vc
 one:At W ob 191 ec
 res:At W rb 191 [.pointer none,.int .i64 0,.int .i64 0,.int .i64 0,.int .i64 0]
 same:Same [rd,tk] w W
structure Lies(w0 w:World)(rd tk vb ob rb:Nat):Prop where
 l1:w0.heap.size<=rd/\rd<w.heap.size
 l2:w0.heap.size<=tk/\tk<w.heap.size
 l3:tk≠rd
 l4:w.heap.size<=rb/\rb<vb
 l5:vb<ob
theorem Mid.read{w0 w W W':World}{a:Option Addr}{B:List UInt8}{rd tk at_ at1 vb ob rb:Nat}{sc vc ec:List Value}(h:Mid w0 w W a B rd tk at_ vb ob rb sc vc ec)(hl:Lies w0 w rd tk vb ob rb)(hR:dV w0 W' a B rd at1)(hS:Same [rd] W W'):Mid w0 w W' a B rd tk at1 vb ob rb sc vc ec:=by
 obtain⟨⟨a1,a2⟩,⟨b1,b2⟩,c,⟨d1,d2⟩,e⟩:=hl;exact⟨hR,hS.at h.seen (by simpa using c),hS.at h.aA (by simp;omega),hS.at h.one (by simp;omega),hS.at h.res (by simp;omega),h.same.step hS (by intro k hk _;simp at hk;simp[hk])⟩
theorem Mid.nums{w0 w W W':World}{a:Option Addr}{B:List UInt8}{rd tk at_ at1 vb ob rb bound g:Nat}{L xs:List Nat}{sc vc ec:List Value}(h:Mid w0 w W a B rd tk at_ vb ob rb sc vc ec)(hl:Lies w0 w rd tk vb ob rb)(hN:zU w0 W W' a B rd tk bound L xs at1 g):Mid w0 w W' a B rd tk at1 vb ob rb (seenCells bound (L++xs)) vc ec:=by
 obtain⟨⟨a1,a2⟩,⟨b1,b2⟩,c,⟨d1,d2⟩,e⟩:=hl;exact⟨hN.kE,hN.seen,hN.same.at h.aA (by simp;omega),hN.same.at h.one (by simp;omega),hN.same.at h.res (by simp;omega),h.same.step hN.same (fun k hk _=>hk)⟩
theorem Mid.OT{w0 w W W':World}{a:Option Addr}{B:List UInt8}{rd tk t2 at_ at1 vb ob rb bound g:Nat}{L xs:List Nat}{sc vc ec:List Value}(h:Mid w0 w W a B rd tk at_ vb ob rb sc vc ec)(hl:Lies w0 w rd tk vb ob rb)(hN:zU w0 W W' a B rd t2 bound L xs at1 g)(h2:ob<t2/\w.heap.size<=t2):Mid w0 w W' a B rd tk at1 vb ob rb sc vc ec:=by
 obtain⟨⟨a1,a2⟩,⟨b1,b2⟩,c,⟨d1,d2⟩,e⟩:=hl;exact⟨hN.kE,hN.same.at h.seen (by simp;omega),hN.same.at h.aA (by simp;omega),hN.same.at h.one (by simp;omega),hN.same.at h.res (by simp;omega),h.same.step hN.same (by intro k hk hl';simp at hk;rcases hk with rfl|rfl;simp;omega)⟩
theorem Mid.FU{w0 w W:World}{a:Option Addr}{B:List UInt8}{rd tk at_ vb ob rb:Nat}{sc vc ec:List Value}(h:Mid w0 w W a B rd tk at_ vb ob rb sc vc ec)(hl:Lies w0 w rd tk vb ob rb)(i:Nat)(x:Value):Mid w0 w (W.setCell ⟨ob,i,none⟩ x) a B rd tk at_ vb ob rb sc vc (ec.set i x):=by
 obtain⟨⟨a1,a2⟩,⟨b1,b2⟩,c,⟨d1,d2⟩,e⟩:=hl;have S:Same [ob] W (W.setCell ⟨ob,i,none⟩ x):=(Same.refl _ _).set _ _ _ (by simp);exact⟨h.kE.next S (by simp;omega) (by simp;omega),S.at h.seen (by simp;omega),S.at h.aA (by simp;omega),h.one.ax i x,S.at h.res (by simp;omega),h.same.step S (by simp;omega)⟩
theorem Mid.aC{w0 w W:World}{a:Option Addr}{B:List UInt8}{rd tk at_ vb ob rb:Nat}{sc vc ec:List Value}(h:Mid w0 w W a B rd tk at_ vb ob rb sc vc ec)(hl:Lies w0 w rd tk vb ob rb)(i:Nat)(x:Value):Mid w0 w (W.setCell ⟨vb,i,none⟩ x) a B rd tk at_ vb ob rb sc (vc.set i x) ec:=by
 obtain⟨⟨a1,a2⟩,⟨b1,b2⟩,c,⟨d1,d2⟩,e⟩:=hl;have S:Same [vb] W (W.setCell ⟨vb,i,none⟩ x):=(Same.refl _ _).set _ _ _ (by simp);exact⟨h.kE.next S (by simp;omega) (by simp;omega),S.at h.seen (by simp;omega),h.aA.ax i x,S.at h.one (by simp;omega),S.at h.res (by simp;omega),h.same.step S (by simp;omega)⟩
theorem Mid.new{w0 w W W':World}{a:Option Addr}{B:List UInt8}{rd tk at_ vb ob rb:Nat}{sc vc ec:List Value}(h:Mid w0 w W a B rd tk at_ vb ob rb sc vc ec)(S:Same [] W W'):Mid w0 w W' a B rd tk at_ vb ob rb sc vc ec:=
 ⟨h.kE.next S (by simp) (by simp),S.at h.seen (by simp),S.at h.aA (by simp),S.at h.one (by simp),S.at h.res (by simp),h.same.step S (by simp)⟩
theorem iE{G:Prop}(w:World)(h:G)(_:wpAny prog .any #[] (fun _ _ _=>True) 0 #[] { tmps:=#[],defers:=[] } w):G:=h
theorem yc(B:List UInt8)(count bound:Nat)(used:List Nat)(ahead:ByteArray)(at_:Nat):jw B count bound used ahead at_=(match lQ B ahead at_ with
 | .error q=>.error q
 | .ok (name,at1)=>
  match bJ B 1 0 2 at1 with
  | .error q=>.error q
  | .ok (kind,at2)=>
   match bJ B 2 1 200 at2 with
   | .error q=>.error q
   | .ok (size,at3)=>if kind=0 then zL B bound used name size at3 else zG B count bound used name kind size at3):=rfl
theorem Mid.done{w0 w W W':World}{a:Option Addr}{B:List UInt8}{rd tk at_ vb ob rb bound gb:Nat}{kg:Option Nat}{L:List Nat}{p:aS}{ec:List Value}(h:Mid w0 w W a B rd tk at_ vb ob rb (seenCells bound (L++p.xs)) ((p.aA vb gb kg).cells p.xs.length p.kept.length) ec)(hl:Lies w0 w rd tk vb ob rb)(hS:Same [rb] W W')
 (hrow:At W gb 3 (p.xs.map fun x:Nat=>Value.int .i64 x)) (hg:ob<gb) (hp:p.kind=0->kg=none) (hk0:kg=none->p.kept=[]) (hk1:∀g,kg=some g->At W g 3 (p.kept.map fun x:Nat=>Value.int .i64 x)/\gb<g):F8 w0 w W' a B rd tk bound L p at_ vb gb kg:=by
 obtain⟨⟨a1,a2⟩,⟨b1,b2⟩,c,⟨d1,d2⟩,e⟩:=hl;refine⟨h.kE.next hS (by simp;omega) (by simp;omega),⟨hS.at h.aA (show vb∉[rb] by simp;omega),hS.at hrow (show gb∉[rb] by simp;omega),hk0,fun g hg'=>hS.at (hk1 g hg').1 (by have:=(hk1 g hg').2;simp;omega)⟩,hp,hS.at h.seen (by simp;omega),fun k hk=>?_,?_,h.same.step hS (by simp;omega)⟩
 ·simp only[aF.foot,aS.aA,List.mem_cons,Option.mem_toList,Option.mem_def]at hk;rcases hk with rfl|rfl|hk
  ·omega
  ·omega
  ·have:=(hk1 k hk).2;omega
 ·simp only[aF.foot,aS.aA,List.nodup_cons,List.mem_cons,Option.mem_toList,Option.mem_def,not_or];refine⟨⟨by omega,fun hk=>by have:=(hk1 _ hk).2;omega⟩,fun hk=>by have:=(hk1 _ hk).2;omega,?_⟩;cases kg<;>simp
theorem Mid.five{w0 w W:World}{a:Option Addr}{B:List UInt8}{rd tk at_ vb ob rb:Nat}{sc vc:List Value}{x0 x1 x2 x3 x4:Value}(h:Mid w0 w W a B rd tk at_ vb ob rb sc vc [x0,x1,x2,x3,x4]) :
 (W.cell? ⟨ob,0,none⟩=some x0/\W.cell? ⟨ob,1,none⟩=some x1/\W.cell? ⟨ob,2,none⟩=some x2/\W.cell? ⟨ob,3,none⟩=some x3/\W.cell? ⟨ob,4,none⟩=some x4) /\
 (W.cell? ⟨rb,0,none⟩=some (.pointer none)/\W.cell? ⟨rb,1,none⟩=some (.int .i64 0)/\W.cell? ⟨rb,2,none⟩=some (.int .i64 0)/\W.cell? ⟨rb,3,none⟩=some (.int .i64 0)/\W.cell? ⟨rb,4,none⟩=some (.int .i64 0)) /\
 (W.frozen? ⟨rb,0,none⟩=false/\W.frozen? ⟨rb,1,none⟩=false/\W.frozen? ⟨rb,2,none⟩=false/\W.frozen? ⟨rb,3,none⟩=false/\W.frozen? ⟨rb,4,none⟩=false):=
 ⟨⟨h.one.cell? 0,h.one.cell? 1,h.one.cell? 2,h.one.cell? 3,h.one.cell? 4⟩,⟨h.res.cell? 0,h.res.cell? 1,h.res.cell? 2,h.res.cell? 3,h.res.cell? 4⟩,h.res.frozen 0,h.res.frozen 1,h.res.frozen 2,h.res.frozen 3,h.res.frozen 4⟩
theorem yF(W:World)(rb:Nat)(x0 x1 x2 x3 x4:Value):Same [rb] W (((((W.setCell ⟨rb,0,none⟩ x0).setCell ⟨rb,1,none⟩ x1).setCell ⟨rb,2,none⟩ x2).setCell ⟨rb,3,none⟩ x3).setCell ⟨rb,4,none⟩ x4):=
 (((((Same.refl _ _).set _ _ _ (by simp)).set _ _ _ (by simp)).set _ _ _ (by simp)).set _ _ _ (by simp)).set _ _ _ (by simp)
theorem Hw(w0 w:World)(a:Option Addr)(B:List UInt8)(rd tk at_ bound count:Nat)(L:List Nat)(ahead:ByteArray)(hB:bD w0 a B)(h:dV w0 w a B rd at_)(hT:At w tk 4 (seenCells bound L))(htk:w0.heap.size<=tk)(hne:tk≠rd)(hb:1<=bound/\bound<=200)(hcount:1<=count/\count<=20) :
 Calls prog 143 #[.pointer (some ⟨rd,0,none⟩),.string ahead,.int .i64 count,.slice (some ⟨tk,0,none⟩) bound bound] w (gB w0 w a B rd tk bound L (jw B count bound L ahead at_)):=by
 have hnew:=h.new;have hrl:=h.cell.lt;have htl:=hT.lt;generalize hspec:jw B count bound L ahead at_=spec;rw[yc]at hspec;have HSP:Hid _:=hspec;clear hspec;have S0:Same [] w (w.alloc (.cells #[.pointer none,.int .i64 0,.int .i64 0,.int .i64 0,.int .i64 0] 191)):=(Same.refl _ _).alloc _;have A0:=At.new w #[.pointer none,.int .i64 0,.int .i64 0,.int .i64 0,.int .i64 0] 191;have hNM:=NG w0 _ a B rd at_ ahead hB (h.next S0 (by simp) (by simp));have HI0:Hid (At (w.alloc (.cells #[.pointer none,.int .i64 0,.int .i64 0,.int .i64 0,.int .i64 0] 191)) tk 4 (seenCells bound L)/\At (w.alloc (.cells #[.pointer none,.int .i64 0,.int .i64 0,.int .i64 0,.int .i64 0] 191)) w.heap.size 191 [.pointer none,.int .i64 0,.int .i64 0,.int .i64 0,.int .i64 0]/\Same [] w (w.alloc (.cells #[.pointer none,.int .i64 0,.int .i64 0,.int .i64 0,.int .i64 0] 191))):=⟨S0.at hT (by simp),A0,S0⟩
 have HBO:Hid (bD w0 a B):=hB;clear h hT A0 S0 hB
 go_enter func143,ntmps143
 go_wp2_with fail
 refine hNM.mono ?_;cases hs:lQ B ahead at_ with
 | error q=>
  rintro e w1 ⟨rfl,S1⟩;have HE:Hid (spec=.error q):=by have:=HSP.out;rw[hs]at this;exact this.symm
  unfold bad
  go_wp2
  refine⟨rfl,?_⟩;show gB _ _ _ _ _ _ _ _ _ _ _;rw[HE.out];exact⟨rfl,S1⟩
 | ok pr=>
  obtain⟨name,at1⟩:=pr;rintro e w1 ⟨v1,rfl,hR1,rfl,S1⟩;have z1:=S1.size;have z0:w.heap.size+1<=w1.heap.size:=by have:=z1;simp at this;omega
  have HL:Hid (Lies w0 w rd tk w1.heap.size (w1.heap.size+1) w.heap.size):=⟨⟨hnew,hrl⟩,⟨htk,htl⟩,hne,⟨Nat.le_refl _,by omega⟩,by omega⟩
  have IU:Hid ((match bJ B 1 0 2 at1 with
   | .error q=>.error q
   | .ok (kind,at2)=>
    match bJ B 2 1 200 at2 with
    | .error q=>.error q
    | .ok (size,at3)=>if kind=0 then zL B bound L name size at3 else zG B count bound L name kind size at3)=spec):=by
   have:=HSP.out;rw[hs]at this;exact this
  have HM:Hid (Mid w0 w ((w1.alloc (.cells #[.string name,.slice none 0 0,.pointer none,.slice none 0 0,.bool false] 133)).alloc (.cells #[.pointer (some ⟨w1.heap.size,0,none⟩),.int .i64 0,.int .i64 0,.int .i64 0,.int .i64 0] 191)) a B rd tk at1 w1.heap.size (w1.heap.size+1) w.heap.size (seenCells bound L) [.string name,.slice none 0 0,.pointer none,.slice none 0 0,.bool false] [.pointer (some ⟨w1.heap.size,0,none⟩),.int .i64 0,.int .i64 0,.int .i64 0,.int .i64 0]):=by
   have Sa:Same [] w1 ((w1.alloc (.cells #[.string name,.slice none 0 0,.pointer none,.slice none 0 0,.bool false] 133)).alloc (.cells #[.pointer (some ⟨w1.heap.size,0,none⟩),.int .i64 0,.int .i64 0,.int .i64 0,.int .i64 0] 191)):=((Same.refl _ _).alloc _).alloc _;have N1:=At.new w1 #[.string name,.slice none 0 0,.pointer none,.slice none 0 0,.bool false] 133;have N2:=At.new (w1.alloc (.cells #[.string name,.slice none 0 0,.pointer none,.slice none 0 0,.bool false] 133)) #[.pointer (some ⟨w1.heap.size,0,none⟩),.int .i64 0,.int .i64 0,.int .i64 0,.int .i64 0] 191;have e2:(w1.alloc (.cells #[.string name,.slice none 0 0,.pointer none,.slice none 0 0,.bool false] 133)).heap.size=w1.heap.size+1:=by simp
   rw[e2]at N2;refine⟨hR1.next Sa (by simp) (by simp),Sa.at (S1.at HI0.out.1 (by simpa using hne)) (by simp),N1.alloc _,N2,Sa.at (S1.at HI0.out.2.1 (by simp;omega)) (by simp),?_⟩;exact((HI0.out.2.2.mono (T:=[rd,tk]) (by simp)).step S1 (by intro k hk _;simp at hk;simp[hk])).step Sa (by simp)
  clear hNM hR1 S1 HI0 HSP hs
  go_wp2_with fail
  generalize (w1.alloc (.cells #[.string name,.slice none 0 0,.pointer none,.slice none 0 0,.bool false] 133)).alloc (.cells #[.pointer (some ⟨w1.heap.size,0,none⟩),.int .i64 0,.int .i64 0,.int .i64 0,.int .i64 0] 191)=W2 at *;generalize w1.heap.size=vb at *;cases hs:bJ B 1 0 2 at1 with
  | error q=>
   have HE:Hid (spec=.error q):=by have:=IU.out;rw[hs]at this;exact this.symm
   refine(eX w0 W2 a B rd at1 1 0 2 q 1 0 2 HBO.out HM.out.kE (by omega) hs rfl rfl rfl).mono ?_;rintro e w3 ⟨rfl,S3⟩;unfold bad
   go_wp2
   refine⟨rfl,?_⟩;show gB _ _ _ _ _ _ _ _ _ _ _;rw[HE.out];exact⟨rfl,S3⟩
  | ok pr=>
   obtain⟨kind,at2⟩:=pr;have IV:Hid ((match bJ B 2 1 200 at2 with
    | .error q=>.error q
    | .ok (size,at3)=>if kind=0 then zL B bound L name size at3 else zG B count bound L name kind size at3)=spec):=by
    have:=IU.out;rw[hs]at this;exact this
   have hk2:kind<=2:=(dJ hs).2.2.1;refine(fO w0 W2 a B rd at1 1 0 2 kind at2 1 0 2 HBO.out HM.out.kE (by omega) hs rfl rfl rfl).mono ?_;rintro e w3 ⟨rfl,hR3,S3⟩;have M3:=HM.out.read HL.out hR3 S3;have c1:w3.cell? ⟨vb+1,1,none⟩=some (.int .i64 0):=M3.one.cell? 1;have f1:=M3.one.frozen 1;have HM4:Hid (Mid w0 w (w3.setCell ⟨vb+1,1,none⟩ (.int .i64 (kind:Nat))) a B rd tk at2 vb (vb+1) w.heap.size (seenCells bound L) [.string name,.slice none 0 0,.pointer none,.slice none 0 0,.bool false] [.pointer (some ⟨vb,0,none⟩),.int .i64 (kind:Nat),.int .i64 0,.int .i64 0,.int .i64 0]):=M3.FU HL.out 1 _;clear M3 hR3 S3 HM hs IU
   go_wp2_with fail
   generalize w3.setCell ⟨vb+1,1,none⟩ (.int .i64 (kind:Nat))=W4 at *;cases hs:bJ B 2 1 200 at2 with
   | error q=>
    have HE:Hid (spec=.error q):=by have:=IV.out;rw[hs]at this;exact this.symm
    refine(eX w0 W4 a B rd at2 2 1 200 q 2 1 200 HBO.out HM4.out.kE (by omega) hs rfl rfl rfl).mono ?_;rintro e w5 ⟨rfl,S5⟩;unfold bad
    go_wp2
    refine⟨rfl,?_⟩;show gB _ _ _ _ _ _ _ _ _ _ _;rw[HE.out];exact⟨rfl,S5⟩
   | ok pr=>
    obtain⟨size,at3⟩:=pr;have FD:Hid ((if kind=0 then zL B bound L name size at3 else zG B count bound L name kind size at3)=spec):=by
     have:=IV.out;rw[hs]at this;exact this
    have hsz1:1<=size:=(dJ hs).2.1;have hsz2:size<=200:=(dJ hs).2.2.1;refine(fO w0 W4 a B rd at2 2 1 200 size at3 2 1 200 HBO.out HM4.out.kE (by omega) hs rfl rfl rfl).mono ?_;rintro e w5 ⟨rfl,hR5,S5⟩;have M5:=HM4.out.read HL.out hR5 S5;have c1:w5.cell? ⟨vb+1,1,none⟩=some (.int .i64 (kind:Nat)):=M5.one.cell? 1;have c2:w5.cell? ⟨vb+1,2,none⟩=some (.int .i64 0):=M5.one.cell? 2;have f2:=M5.one.frozen 2;have r1:w5.cell? ⟨rd,1,none⟩=some (.int .i64 at3):=M5.kE.cell.cell? 1;have c4:w5.cell? ⟨vb+1,4,none⟩=some (.int .i64 0):=M5.one.cell? 4;have f4:=M5.one.frozen 4;have hrv:rd≠vb+1:=by have:=HL.out.l1;have:=HL.out.l4;omega
    have hrv2:vb+1≠rd:=fun e=>hrv e.symm
    have HM6:Hid (Mid w0 w (w5.setCell ⟨vb+1,2,none⟩ (.int .i64 (size:Nat))) a B rd tk at3 vb (vb+1) w.heap.size (seenCells bound L) [.string name,.slice none 0 0,.pointer none,.slice none 0 0,.bool false] [.pointer (some ⟨vb,0,none⟩),.int .i64 (kind:Nat),.int .i64 (size:Nat),.int .i64 0,.int .i64 0]):=M5.FU HL.out 2 _;clear M5 hR5 S5 HM4 hs IV;by_cases hkd:kind=0
    ·subst hkd;have MH:Hid (zL B bound L name size at3=spec):=by have:=FD.out;rw[if_pos rfl]at this;exact this
     clear FD
     go_wp2_with fail
     generalize w5.setCell ⟨vb+1,2,none⟩ (.int .i64 (size:Nat))=W6 at *;cases hs:bJ B 2 size size at3 with
     | error q=>
      have HE:Hid (spec=.error q):=by have:=MH.out;unfold zL at this;rw[hs]at this;exact this.symm
      refine(eX w0 W6 a B rd at3 2 size size q 2 size size HBO.out HM6.out.kE (by omega) hs rfl rfl rfl).mono ?_;rintro e w7 ⟨rfl,S7⟩;unfold bad
      go_wp2
      refine⟨rfl,?_⟩;show gB _ _ _ _ _ _ _ _ _ _ _;rw[HE.out];exact⟨rfl,S7⟩
     | ok pr=>
      obtain⟨c,at4⟩:=pr;have O5:Hid ((match cZ B bound c L [] at4 with
       | .error q=>.error q
       | .ok (xs,at2)=>.ok (⟨name,0,size,0,0,xs,[]⟩,at2))=spec):=by
       have:=MH.out;unfold zL at this;rw[hs]at this;exact this
      have hc1:c<=200:=by have:=(dJ hs).2.2.1;omega
      refine(fO w0 W6 a B rd at3 2 size size c at4 2 size size HBO.out HM6.out.kE (by omega) hs rfl rfl rfl).mono ?_;rintro e w7 ⟨rfl,hR7,S7⟩;have HM7:=hidL (HM6.out.read HL.out hR7 S7);have hNS:=kU w0 w7 a B rd tk at4 c bound L HBO.out HM7.out.kE HM7.out.seen htk hne hc1 hb;clear HM6 hR7 S7 hs MH
      go_wp2_with fail
      refine hNS.mono ?_;cases hs:cZ B bound c L [] at4 with
      | error q=>
       have HE:Hid (spec=.error q):=by have:=O5.out;rw[hs]at this;exact this.symm
       rintro e w8 ⟨rfl,S8⟩;unfold bad
       go_wp2
       refine⟨rfl,?_⟩;show gB _ _ _ _ _ _ _ _ _ _ _;rw[HE.out];exact⟨rfl,S8⟩
      | ok pr=>
       obtain⟨xs,at5⟩:=pr;have HE:Hid (spec=.ok (⟨name,0,size,0,0,xs,[]⟩,at5)):=by have:=O5.out;rw[hs]at this;exact this.symm
       rintro e w8 ⟨g,rfl,hxl,hG⟩;have M8:=HM7.out.nums HL.out hG;have hgn:=hG.new;have hob7:=HM7.out.one.lt;have v1:w8.cell? ⟨vb,1,none⟩=some (.slice none 0 0):=M8.aA.cell? 1;have fv1:=M8.aA.frozen 1;have HM9:Hid (Mid w0 w (w8.setCell ⟨vb,1,none⟩ (.slice (some ⟨g,0,none⟩) c c)) a B rd tk at5 vb (vb+1) w.heap.size (seenCells bound (L++xs)) [.string name,.slice (some ⟨g,0,none⟩) c c,.pointer none,.slice none 0 0,.bool false] [.pointer (some ⟨vb,0,none⟩),.int .i64 (0:Nat),.int .i64 (size:Nat),.int .i64 0,.int .i64 0]):=M8.aC HL.out 1 _;have O7:Hid (At (w8.setCell ⟨vb,1,none⟩ (.slice (some ⟨g,0,none⟩) c c)) g 3 (xs.map fun x:Nat=>Value.int .i64 x)):=hG.row.aP _ _ _ (by omega);clear M8 hG HM7 hNS hs;obtain⟨⟨o0,o1,o2,o3,o4⟩,⟨p0,p1,p2,p3,p4⟩,⟨z0',z1',z2',z3',z4'⟩⟩:=HM9.out.five
       go_wp2
       refine bodyPost_ret (v:=.agg #[.pointer (some ⟨vb,0,none⟩),.int .i64 (0:Nat),.int .i64 (size:Nat),.int .i64 0,.int .i64 0]) (by simp[results,results143,go_sem,o0,o1,o2,o3,o4,p0,p1,p2,p3,p4]<;>omega) rfl ?_;show gB _ _ _ _ _ _ _ _ _ _ _;rw[HE.out];refine⟨vb,g,none,rfl,?_⟩;have hM9:=HM9.out;subst hxl;exact Mid.done (p:=⟨name,0,size,0,0,xs,[]⟩) (kg:=none) hM9 HL.out (yF _ _ _ _ _ _ _) O7.out (by omega) (fun _=>rfl) (fun _=>rfl) (fun g hg=>by cases hg)
    ·have hkd':((kind:Int) == 0)=false:=beq_eq_false_iff_ne.2 (by omega);have MH:Hid (zG B count bound L name kind size at3=spec):=by have:=FD.out;rw[if_neg hkd]at this;exact this
     clear FD;have Wi:Hid (Mid w0 w ((w5.setCell ⟨vb+1,2,none⟩ (.int .i64 (size:Nat))).setCell ⟨vb+1,4,none⟩ (.int .i64 (at3:Nat))) a B rd tk at3 vb (vb+1) w.heap.size (seenCells bound L) [.string name,.slice none 0 0,.pointer none,.slice none 0 0,.bool false] [.pointer (some ⟨vb,0,none⟩),.int .i64 (kind:Nat),.int .i64 (size:Nat),.int .i64 0,.int .i64 (at3:Nat)]):=HM6.out.FU HL.out 4 _
     go_wp2_with fail
     generalize (w5.setCell ⟨vb+1,2,none⟩ (.int .i64 (size:Nat))).setCell ⟨vb+1,4,none⟩ (.int .i64 (at3:Nat))=W6 at *;clear HM6;cases hs:bJ B 1 0 (count-1) at3 with
     | error q=>
      have HE:Hid (spec=.error q):=by have:=MH.out;unfold zG at this;rw[hs]at this;exact this.symm
      refine(eX w0 W6 a B rd at3 1 0 (count-1) q 1 0 ((count:Int)-1) HBO.out Wi.out.kE (by omega) hs rfl rfl (by omega)).mono ?_;rintro e w7 ⟨rfl,S7⟩;unfold bad
      go_wp2
      refine⟨rfl,?_⟩;show gB _ _ _ _ _ _ _ _ _ _ _;rw[HE.out];exact⟨rfl,S7⟩
     | ok pr=>
      obtain⟨origin,at4⟩:=pr;have O5:Hid ((match bJ B 2 1 size at4 with
       | .error q=>.error q
       | .ok (c,at2)=>
        match cZ B bound c L [] at2 with
        | .error q=>.error q
        | .ok (xs,X9)=>
         match bJ B 2 0 (if kind=2 then 0 else xs.length) X9 with
         | .error q=>.error q
         | .ok (k,SY)=>
          match cZ B size k [] [] SY with
          | .error q=>.error q
          | .ok (kept,at5)=>.ok (⟨name,kind,size,origin,at3,xs,kept⟩,at5))=spec):=by
       have:=MH.out;unfold zG at this;rw[hs]at this;exact this
      refine(fO w0 W6 a B rd at3 1 0 (count-1) origin at4 1 0 ((count:Int)-1) HBO.out Wi.out.kE (by omega) hs rfl rfl (by omega)).mono ?_;rintro e w7 ⟨rfl,hR7,S7⟩;have M7:=Wi.out.read HL.out hR7 S7;have c2:w7.cell? ⟨vb+1,2,none⟩=some (.int .i64 (size:Nat)):=M7.one.cell? 2;have c3:w7.cell? ⟨vb+1,3,none⟩=some (.int .i64 0):=M7.one.cell? 3;have f3:=M7.one.frozen 3;have HM8:Hid (Mid w0 w (w7.setCell ⟨vb+1,3,none⟩ (.int .i64 (origin:Nat))) a B rd tk at4 vb (vb+1) w.heap.size (seenCells bound L) [.string name,.slice none 0 0,.pointer none,.slice none 0 0,.bool false] [.pointer (some ⟨vb,0,none⟩),.int .i64 (kind:Nat),.int .i64 (size:Nat),.int .i64 (origin:Nat),.int .i64 (at3:Nat)]):=M7.FU HL.out 3 _;clear M7 hR7 S7 Wi hs MH
      go_wp2_with fail
      generalize w7.setCell ⟨vb+1,3,none⟩ (.int .i64 (origin:Nat))=W8 at *;cases hs:bJ B 2 1 size at4 with
      | error q=>
       have HE:Hid (spec=.error q):=by have:=O5.out;rw[hs]at this;exact this.symm
       refine(eX w0 W8 a B rd at4 2 1 size q 2 1 size HBO.out HM8.out.kE (by omega) hs rfl rfl rfl).mono ?_;rintro e w9 ⟨rfl,S9⟩;unfold bad
       go_wp2
       refine⟨rfl,?_⟩;show gB _ _ _ _ _ _ _ _ _ _ _;rw[HE.out];exact⟨rfl,S9⟩
      | ok pr=>
       obtain⟨c,at5⟩:=pr;have YA:Hid ((match cZ B bound c L [] at5 with
        | .error q=>.error q
        | .ok (xs,X9)=>
         match bJ B 2 0 (if kind=2 then 0 else xs.length) X9 with
         | .error q=>.error q
         | .ok (k,SY)=>
          match cZ B size k [] [] SY with
          | .error q=>.error q
          | .ok (kept,at5)=>.ok (⟨name,kind,size,origin,at3,xs,kept⟩,at5))=spec):=by
        have:=O5.out;rw[hs]at this;exact this
       have hc1:c<=200:=by have:=(dJ hs).2.2.1;omega
       refine(fO w0 W8 a B rd at4 2 1 size c at5 2 1 size HBO.out HM8.out.kE (by omega) hs rfl rfl rfl).mono ?_;rintro e w9 ⟨rfl,hR9,S9⟩;have HM9:=hidL (HM8.out.read HL.out hR9 S9);have hNS:=kU w0 w9 a B rd tk at5 c bound L HBO.out HM9.out.kE HM9.out.seen htk hne hc1 hb;clear HM8 hR9 S9 hs O5
       go_wp2_with fail
       refine hNS.mono ?_;cases hs:cZ B bound c L [] at5 with
       | error q=>
        have HE:Hid (spec=.error q):=by have:=YA.out;rw[hs]at this;exact this.symm
        rintro e w10 ⟨rfl,S10⟩;unfold bad
        go_wp2
        refine⟨rfl,?_⟩;show gB _ _ _ _ _ _ _ _ _ _ _;rw[HE.out];exact⟨rfl,S10⟩
       | ok pr=>
        obtain⟨xs,at6⟩:=pr;have IW:Hid ((match bJ B 2 0 (if kind=2 then 0 else xs.length) at6 with
         | .error q=>.error q
         | .ok (k,SY)=>
          match cZ B size k [] [] SY with
          | .error q=>.error q
          | .ok (kept,at5)=>.ok (⟨name,kind,size,origin,at3,xs,kept⟩,at5))=spec):=by
         have:=YA.out;rw[hs]at this;exact this
        rintro e w10 ⟨g,rfl,hxl,hG⟩;have M10:=HM9.out.nums HL.out hG;have hgn:=hG.new;have hob9:=HM9.out.one.lt;have hgob:vb+1<g:=by omega
        have v1:w10.cell? ⟨vb,1,none⟩=some (.slice none 0 0):=M10.aA.cell? 1;have fv1:=M10.aA.frozen 1;have v4:w10.cell? ⟨vb,4,none⟩=some (.bool false):=M10.aA.cell? 4;have fv4:=M10.aA.frozen 4;have k1:w10.cell? ⟨vb+1,1,none⟩=some (.int .i64 (kind:Nat)):=M10.one.cell? 1;have IQ:Hid (Mid w0 w (w10.setCell ⟨vb,1,none⟩ (.slice (some ⟨g,0,none⟩) c c)) a B rd tk at6 vb (vb+1) w.heap.size (seenCells bound (L++xs)) [.string name,.slice (some ⟨g,0,none⟩) c c,.pointer none,.slice none 0 0,.bool false] [.pointer (some ⟨vb,0,none⟩),.int .i64 (kind:Nat),.int .i64 (size:Nat),.int .i64 (origin:Nat),.int .i64 (at3:Nat)]):=M10.aC HL.out 1 _;have O7:Hid (At (w10.setCell ⟨vb,1,none⟩ (.slice (some ⟨g,0,none⟩) c c)) g 3 (xs.map fun x:Nat=>Value.int .i64 x)):=hG.row.aP _ _ _ (by omega);have hvv:vb+1≠vb:=by omega
        have hvv2:vb≠vb+1:=by omega
        clear M10 hG HM9 hNS hs YA;subst hxl;obtain⟨LB,hLB,hmk⟩:=jM 177 4 (.bool false) 1 size underlying177 Tryz.xK rfl (by omega) (by omega);by_cases Tc:kind=2
        ·have hkk:((kind:Int) == 2)=true:=by rw[Tc];rfl
         have HLO:Hid (decide (kind=2)=true):=decide_eq_true Tc;have HMO:Hid ((if kind=2 then 0 else xs.length)=0):=if_pos Tc;have HMX:Hid (Mid w0 w ((w10.setCell ⟨vb,1,none⟩ (.slice (some ⟨g,0,none⟩) xs.length xs.length)).setCell ⟨vb,4,none⟩ (.bool true)) a B rd tk at6 vb (vb+1) w.heap.size (seenCells bound (L++xs)) [.string name,.slice (some ⟨g,0,none⟩) xs.length xs.length,.pointer none,.slice none 0 0,.bool true] [.pointer (some ⟨vb,0,none⟩),.int .i64 (kind:Nat),.int .i64 (size:Nat),.int .i64 (origin:Nat),.int .i64 (at3:Nat)]):=IQ.out.aC HL.out 4 _;have HRX:Hid (At ((w10.setCell ⟨vb,1,none⟩ (.slice (some ⟨g,0,none⟩) xs.length xs.length)).setCell ⟨vb,4,none⟩ (.bool true)) g 3 (xs.map fun x:Nat=>Value.int .i64 x)):=O7.out.aP _ _ _ (by omega);clear IQ O7
         go_wp2_with fail
         generalize (w10.setCell ⟨vb,1,none⟩ (.slice (some ⟨g,0,none⟩) xs.length xs.length)).setCell ⟨vb,4,none⟩ (.bool true)=W12 at *;have hc2:W12.cell? ⟨vb+1,2,none⟩=some (.int .i64 (size:Nat)):=HMX.out.one.cell? 2;have aaX:vb+1<W12.heap.size:=HMX.out.one.lt;cases hs:bJ B 2 0 (if kind=2 then 0 else xs.length) at6 with
         | error q=>
          have HE:Hid (spec=.error q):=by have:=IW.out;rw[hs]at this;exact this.symm
          rw[HMO.out]at hs;have HNG:Hid (∀W',dV w0 W' a B rd at6->Calls prog 130 #[.pointer (some ⟨rd,0,none⟩),.int .i64 2,.int .i64 0,.int .i64 0] W' fun e w'=>e=bad q/\Same [] w0 w'):=fun W' hW=>eX w0 W' a B rd at6 2 0 0 q 2 0 0 HBO.out hW (by omega) hs rfl rfl rfl
          clear hs IW
          go_region_with (go_at_call 130;refine(HNG.out _ (by first|exact(HMX.out.new ((Same.refl [] _).drew)).kE|exact(HMX.out.new (((Same.refl [] _).drew).alloc (.cells LB 4))).kE|exact(HMX.out.new (((Same.refl [] _).alloc (.cells LB 4)).drew)).kE)).mono ?_;rintro e w13 ⟨rfl,S13⟩;unfold bad;refine iE w ⟨rfl,(by show gB _ _ _ _ _ _ _ _ _ _ _;rw[HE.out];exact⟨rfl,S13⟩)⟩ ?_)
          all_goals trivial
         | ok pr=>
          obtain⟨k,at7⟩:=pr;have FH:Hid ((match cZ B size k [] [] at7 with
           | .error q=>.error q
           | .ok (kept,at5)=>.ok (⟨name,kind,size,origin,at3,xs,kept⟩,at5))=spec):=by
           have:=IW.out;rw[hs]at this;exact this
          rw[HMO.out]at hs;have hkx:k<=xs.length:=by have:=(dJ hs).2.2.1;omega
          have HNG:Hid (∀W',dV w0 W' a B rd at6->Calls prog 130 #[.pointer (some ⟨rd,0,none⟩),.int .i64 2,.int .i64 0,.int .i64 0] W' fun e w'=>e=.returned (.int .i64 k)/\dV w0 w' a B rd at7/\Same [rd] W' w'):=fun W' hW=>fO w0 W' a B rd at6 2 0 0 k at7 2 0 0 HBO.out hW (by omega) hs rfl rfl rfl
          have HNS:Hid (∀W' t2,dV w0 W' a B rd at7->At W' t2 4 (seenCells size [])->w0.heap.size<=t2->t2≠rd->Calls prog 148 #[.pointer (some ⟨rd,0,none⟩),.int .i64 k,.slice (some ⟨t2,0,none⟩) size size] W' (nZ w0 W' a B rd t2 size k [] (cZ B size k [] [] at7))):=fun W' t2 h1 h2 h3 h4=>kU w0 W' a B rd t2 at7 k size [] HBO.out h1 h2 h3 h4 (by omega) ⟨hsz1,hsz2⟩
          have HLB:Hid (LB.toList=seenCells size []):=by show _=_;rw[hLB,wB]
          have hrW:rd<W12.heap.size:=HMX.out.kE.cell.lt;have aaY:=HMX.out.kE.same.size;clear hs IW;have HMA:Hid (∀Wn,Same [] W12 Wn->Mid w0 w Wn a B rd tk at6 vb (vb+1) w.heap.size (seenCells bound (L++xs)) [.string name,.slice (some ⟨g,0,none⟩) xs.length xs.length,.pointer none,.slice none 0 0,.bool true] [.pointer (some ⟨vb,0,none⟩),.int .i64 (kind:Nat),.int .i64 (size:Nat),.int .i64 (origin:Nat),.int .i64 (at3:Nat)]/\At Wn g 3 (xs.map fun x:Nat=>Value.int .i64 x)):=fun Wn hW=>⟨HMX.out.new hW,hW.at HRX.out (by simp)⟩
          have HSA:Hid (Same [] W12 W12.drew):=(Same.refl [] _).drew;have HSB:Hid (Same [] W12 (W12.alloc (.cells LB 4)).drew):=((Same.refl [] _).alloc _).drew;have HNB:Hid (At (W12.alloc (.cells LB 4)).drew W12.heap.size 4 (seenCells size [])):=by
           have:=At.new W12 LB 4;rw[HLB.out]at this;exact this.drew
          have hgW:g<W12.heap.size:=HRX.out.lt;have hL1:=HL.out.l1;have hL4:=HL.out.l4;cases hs:cZ B size k [] [] at7 with
          | error q=>
           have HE:Hid (spec=.error q):=by have:=FH.out;rw[hs]at this;exact this.symm
           rw[hs]at HNS;clear FH hs HMX HRX
           go_region_with (first|(go_at_call 130;first|(go_fit (HNG.out _ (HMA.out _ HSA.out).1.kE);rintro e w13 ⟨rfl,uK,S13⟩;have kK:=hidL ((HMA.out _ HSA.out).1.read HL.out uK S13);have hc13:w13.cell? ⟨vb+1,2,none⟩=some (.int .i64 (size:Nat)):=kK.out.one.cell? 2;have Ad:Hid (At w13 g 3 (xs.map fun x:Nat=>Value.int .i64 x)):=S13.at (HMA.out _ HSA.out).2 (by simp;omega);have uM:=S13.size;have hzz:W12.heap.size<=w13.heap.size:=uM)|(go_fit (HNG.out _ (HMA.out _ HSB.out).1.kE);rintro e w13 ⟨rfl,uK,S13⟩;have kK:=hidL ((HMA.out _ HSB.out).1.read HL.out uK S13);have Ad:Hid (At w13 g 3 (xs.map fun x:Nat=>Value.int .i64 x)):=S13.at (HMA.out _ HSB.out).2 (by simp;omega);have MI:Hid (At w13 W12.heap.size 4 (seenCells size [])):=S13.at HNB.out (by simp;omega);have uM:=S13.size;have hzz:W12.heap.size<=w13.heap.size:=(by simp at uM;omega)))|(go_at_call 148;first|(go_fit (HNS.out _ w13.heap.size (kK.out.new ((Same.refl [] _).alloc (.cells LB 4))).kE (by have:=At.new w13 LB 4;rw[HLB.out]at this;exact this) (by omega) (by omega));rintro e w14 ⟨rfl,S14⟩;unfold bad;refine iE w ⟨rfl,(by show gB _ _ _ _ _ _ _ _ _ _ _;rw[HE.out];exact⟨rfl,S14⟩)⟩ ?_)|(go_fit (HNS.out _ W12.heap.size kK.out.kE MI.out (by omega) (by omega));rintro e w14 ⟨rfl,S14⟩;unfold bad;refine iE w ⟨rfl,(by show gB _ _ _ _ _ _ _ _ _ _ _;rw[HE.out];exact⟨rfl,S14⟩)⟩ ?_)))
           all_goals trivial
          | ok pr=>
           obtain⟨kept,at8⟩:=pr;have HE:Hid (spec=.ok (⟨name,kind,size,origin,at3,xs,kept⟩,at8)):=by have:=FH.out;rw[hs]at this;exact this.symm
           rw[hs]at HNS;clear FH hs HMX HRX
           go_region_with (first|(go_at_call 130;first|(go_fit (HNG.out _ (HMA.out _ HSA.out).1.kE);rintro e w13 ⟨rfl,uK,S13⟩;have kK:=hidL ((HMA.out _ HSA.out).1.read HL.out uK S13);have hc13:w13.cell? ⟨vb+1,2,none⟩=some (.int .i64 (size:Nat)):=kK.out.one.cell? 2;have Ad:Hid (At w13 g 3 (xs.map fun x:Nat=>Value.int .i64 x)):=S13.at (HMA.out _ HSA.out).2 (by simp;omega);have uM:=S13.size;have hzz:W12.heap.size<=w13.heap.size:=uM)|(go_fit (HNG.out _ (HMA.out _ HSB.out).1.kE);rintro e w13 ⟨rfl,uK,S13⟩;have kK:=hidL ((HMA.out _ HSB.out).1.read HL.out uK S13);have Ad:Hid (At w13 g 3 (xs.map fun x:Nat=>Value.int .i64 x)):=S13.at (HMA.out _ HSB.out).2 (by simp;omega);have MI:Hid (At w13 W12.heap.size 4 (seenCells size [])):=S13.at HNB.out (by simp;omega);have uM:=S13.size;have hzz:W12.heap.size<=w13.heap.size:=(by simp at uM;omega)))|(go_at_call 148;first|(go_fit (HNS.out _ w13.heap.size (kK.out.new ((Same.refl [] _).alloc (.cells LB 4))).kE (by have:=At.new w13 LB 4;rw[HLB.out]at this;exact this) (by omega) (by omega));rintro e w14 ⟨g2,rfl,hkl,nN⟩;have M14:=(kK.out.new ((Same.refl [] _).alloc (.cells LB 4))).OT HL.out nN (by omega);have r14:=nN.same.at (Ad.out.alloc (.cells LB 4)) (by simp;omega);have Td:=nN.new;have hg2:g<g2:=(by simp at Td;omega);have v3:w14.cell? ⟨vb,3,none⟩=some (.slice none 0 0):=M14.aA.cell? 3;have fv3:=M14.aA.frozen 3;have qx:Hid (Mid w0 w (w14.setCell ⟨vb,3,none⟩ (.slice (some ⟨g2,0,none⟩) k k)) a B rd tk at8 vb (vb+1) w.heap.size (seenCells bound (L++xs)) [.string name,.slice (some ⟨g,0,none⟩) xs.length xs.length,.pointer none,.slice (some ⟨g2,0,none⟩) k k,.bool true] [.pointer (some ⟨vb,0,none⟩),.int .i64 (kind:Nat),.int .i64 (size:Nat),.int .i64 (origin:Nat),.int .i64 (at3:Nat)]):=M14.aC HL.out 3 _;have HRW:Hid (At (w14.setCell ⟨vb,3,none⟩ (.slice (some ⟨g2,0,none⟩) k k)) g 3 (xs.map fun x:Nat=>Value.int .i64 x)/\At (w14.setCell ⟨vb,3,none⟩ (.slice (some ⟨g2,0,none⟩) k k)) g2 3 (kept.map fun x:Nat=>Value.int .i64 x)):=⟨r14.aP _ _ _ (by omega),nN.row.aP _ _ _ (by omega)⟩;clear M14 r14 nN)|(go_fit (HNS.out _ W12.heap.size kK.out.kE MI.out (by omega) (by omega));rintro e w14 ⟨g2,rfl,hkl,nN⟩;have M14:=kK.out.OT HL.out nN (by omega);have r14:=nN.same.at Ad.out (by simp;omega);have Td:=nN.new;have hg2:g<g2:=(by omega);have v3:w14.cell? ⟨vb,3,none⟩=some (.slice none 0 0):=M14.aA.cell? 3;have fv3:=M14.aA.frozen 3;have qx:Hid (Mid w0 w (w14.setCell ⟨vb,3,none⟩ (.slice (some ⟨g2,0,none⟩) k k)) a B rd tk at8 vb (vb+1) w.heap.size (seenCells bound (L++xs)) [.string name,.slice (some ⟨g,0,none⟩) xs.length xs.length,.pointer none,.slice (some ⟨g2,0,none⟩) k k,.bool true] [.pointer (some ⟨vb,0,none⟩),.int .i64 (kind:Nat),.int .i64 (size:Nat),.int .i64 (origin:Nat),.int .i64 (at3:Nat)]):=M14.aC HL.out 3 _;have HRW:Hid (At (w14.setCell ⟨vb,3,none⟩ (.slice (some ⟨g2,0,none⟩) k k)) g 3 (xs.map fun x:Nat=>Value.int .i64 x)/\At (w14.setCell ⟨vb,3,none⟩ (.slice (some ⟨g2,0,none⟩) k k)) g2 3 (kept.map fun x:Nat=>Value.int .i64 x)):=⟨r14.aP _ _ _ (by omega),nN.row.aP _ _ _ (by omega)⟩;clear M14 r14 nN)))
           all_goals
            obtain⟨⟨o0,o1,o2,o3,o4⟩,⟨p0,p1,p2,p3,p4⟩,⟨z0',z1',z2',z3',z4'⟩⟩:=qx.out.five
            go_wp2
            refine bodyPost_ret (v:=.agg #[.pointer (some ⟨vb,0,none⟩),.int .i64 (kind:Nat),.int .i64 (size:Nat),.int .i64 (origin:Nat),.int .i64 (at3:Nat)]) (by simp[results,results143,go_sem,o0,o1,o2,o3,o4,p0,p1,p2,p3,p4]<;>omega) rfl ?_;show gB _ _ _ _ _ _ _ _ _ _ _;rw[HE.out];refine⟨vb,g,some g2,rfl,?_⟩;have Tf:=qx.out;subst hkl;rw[<-HLO.out]at Tf;exact Mid.done (p:=⟨name,kind,size,origin,at3,xs,kept⟩) (kg:=some g2) Tf HL.out (yF _ _ _ _ _ _ _) HRW.out.1 (by omega) (fun e=>absurd e hkd) (fun e=>by cases e) (fun g' hg'=>by cases hg';exact⟨HRW.out.2,hg2⟩)
        ·have hkk:((kind:Int) == 2)=false:=beq_eq_false_iff_ne.2 (by omega);have HLO:Hid (decide (kind=2)=false):=decide_eq_false Tc;have HMO:Hid ((if kind=2 then 0 else xs.length)=xs.length):=if_neg Tc;have HMX:Hid (Mid w0 w (w10.setCell ⟨vb,1,none⟩ (.slice (some ⟨g,0,none⟩) xs.length xs.length)) a B rd tk at6 vb (vb+1) w.heap.size (seenCells bound (L++xs)) [.string name,.slice (some ⟨g,0,none⟩) xs.length xs.length,.pointer none,.slice none 0 0,.bool false] [.pointer (some ⟨vb,0,none⟩),.int .i64 (kind:Nat),.int .i64 (size:Nat),.int .i64 (origin:Nat),.int .i64 (at3:Nat)]):=IQ.out;have HRX:Hid (At (w10.setCell ⟨vb,1,none⟩ (.slice (some ⟨g,0,none⟩) xs.length xs.length)) g 3 (xs.map fun x:Nat=>Value.int .i64 x)):=O7.out;clear IQ O7
         go_wp2_with fail
         generalize w10.setCell ⟨vb,1,none⟩ (.slice (some ⟨g,0,none⟩) xs.length xs.length)=W12 at *;have hc2:W12.cell? ⟨vb+1,2,none⟩=some (.int .i64 (size:Nat)):=HMX.out.one.cell? 2;have aaX:vb+1<W12.heap.size:=HMX.out.one.lt;cases hs:bJ B 2 0 (if kind=2 then 0 else xs.length) at6 with
         | error q=>
          have HE:Hid (spec=.error q):=by have:=IW.out;rw[hs]at this;exact this.symm
          rw[HMO.out]at hs;have HNG:Hid (∀W',dV w0 W' a B rd at6->Calls prog 130 #[.pointer (some ⟨rd,0,none⟩),.int .i64 2,.int .i64 0,.int .i64 (xs.length:Nat)] W' fun e w'=>e=bad q/\Same [] w0 w'):=fun W' hW=>eX w0 W' a B rd at6 2 0 xs.length q 2 0 (xs.length:Nat) HBO.out hW (by omega) hs rfl rfl rfl
          clear hs IW
          go_region_with (go_at_call 130;refine(HNG.out _ (by first|exact(HMX.out.new ((Same.refl [] _).drew)).kE|exact(HMX.out.new (((Same.refl [] _).drew).alloc (.cells LB 4))).kE|exact(HMX.out.new (((Same.refl [] _).alloc (.cells LB 4)).drew)).kE)).mono ?_;rintro e w13 ⟨rfl,S13⟩;unfold bad;refine iE w ⟨rfl,(by show gB _ _ _ _ _ _ _ _ _ _ _;rw[HE.out];exact⟨rfl,S13⟩)⟩ ?_)
          all_goals trivial
         | ok pr=>
          obtain⟨k,at7⟩:=pr;have FH:Hid ((match cZ B size k [] [] at7 with
           | .error q=>.error q
           | .ok (kept,at5)=>.ok (⟨name,kind,size,origin,at3,xs,kept⟩,at5))=spec):=by
           have:=IW.out;rw[hs]at this;exact this
          rw[HMO.out]at hs;have hkx:k<=xs.length:=by have:=(dJ hs).2.2.1;omega
          have HNG:Hid (∀W',dV w0 W' a B rd at6->Calls prog 130 #[.pointer (some ⟨rd,0,none⟩),.int .i64 2,.int .i64 0,.int .i64 (xs.length:Nat)] W' fun e w'=>e=.returned (.int .i64 k)/\dV w0 w' a B rd at7/\Same [rd] W' w'):=fun W' hW=>fO w0 W' a B rd at6 2 0 xs.length k at7 2 0 (xs.length:Nat) HBO.out hW (by omega) hs rfl rfl rfl
          have HNS:Hid (∀W' t2,dV w0 W' a B rd at7->At W' t2 4 (seenCells size [])->w0.heap.size<=t2->t2≠rd->Calls prog 148 #[.pointer (some ⟨rd,0,none⟩),.int .i64 k,.slice (some ⟨t2,0,none⟩) size size] W' (nZ w0 W' a B rd t2 size k [] (cZ B size k [] [] at7))):=fun W' t2 h1 h2 h3 h4=>kU w0 W' a B rd t2 at7 k size [] HBO.out h1 h2 h3 h4 (by omega) ⟨hsz1,hsz2⟩
          have HLB:Hid (LB.toList=seenCells size []):=by show _=_;rw[hLB,wB]
          have hrW:rd<W12.heap.size:=HMX.out.kE.cell.lt;have aaY:=HMX.out.kE.same.size;clear hs IW;have HMA:Hid (∀Wn,Same [] W12 Wn->Mid w0 w Wn a B rd tk at6 vb (vb+1) w.heap.size (seenCells bound (L++xs)) [.string name,.slice (some ⟨g,0,none⟩) xs.length xs.length,.pointer none,.slice none 0 0,.bool false] [.pointer (some ⟨vb,0,none⟩),.int .i64 (kind:Nat),.int .i64 (size:Nat),.int .i64 (origin:Nat),.int .i64 (at3:Nat)]/\At Wn g 3 (xs.map fun x:Nat=>Value.int .i64 x)):=fun Wn hW=>⟨HMX.out.new hW,hW.at HRX.out (by simp)⟩
          have HSA:Hid (Same [] W12 W12.drew):=(Same.refl [] _).drew;have HSB:Hid (Same [] W12 (W12.alloc (.cells LB 4)).drew):=((Same.refl [] _).alloc _).drew;have HNB:Hid (At (W12.alloc (.cells LB 4)).drew W12.heap.size 4 (seenCells size [])):=by
           have:=At.new W12 LB 4;rw[HLB.out]at this;exact this.drew
          have hgW:g<W12.heap.size:=HRX.out.lt;have hL1:=HL.out.l1;have hL4:=HL.out.l4;cases hs:cZ B size k [] [] at7 with
          | error q=>
           have HE:Hid (spec=.error q):=by have:=FH.out;rw[hs]at this;exact this.symm
           rw[hs]at HNS;clear FH hs HMX HRX
           go_region_with (first|(go_at_call 130;first|(go_fit (HNG.out _ (HMA.out _ HSA.out).1.kE);rintro e w13 ⟨rfl,uK,S13⟩;have kK:=hidL ((HMA.out _ HSA.out).1.read HL.out uK S13);have hc13:w13.cell? ⟨vb+1,2,none⟩=some (.int .i64 (size:Nat)):=kK.out.one.cell? 2;have Ad:Hid (At w13 g 3 (xs.map fun x:Nat=>Value.int .i64 x)):=S13.at (HMA.out _ HSA.out).2 (by simp;omega);have uM:=S13.size;have hzz:W12.heap.size<=w13.heap.size:=uM)|(go_fit (HNG.out _ (HMA.out _ HSB.out).1.kE);rintro e w13 ⟨rfl,uK,S13⟩;have kK:=hidL ((HMA.out _ HSB.out).1.read HL.out uK S13);have Ad:Hid (At w13 g 3 (xs.map fun x:Nat=>Value.int .i64 x)):=S13.at (HMA.out _ HSB.out).2 (by simp;omega);have MI:Hid (At w13 W12.heap.size 4 (seenCells size [])):=S13.at HNB.out (by simp;omega);have uM:=S13.size;have hzz:W12.heap.size<=w13.heap.size:=(by simp at uM;omega)))|(go_at_call 148;first|(go_fit (HNS.out _ w13.heap.size (kK.out.new ((Same.refl [] _).alloc (.cells LB 4))).kE (by have:=At.new w13 LB 4;rw[HLB.out]at this;exact this) (by omega) (by omega));rintro e w14 ⟨rfl,S14⟩;unfold bad;refine iE w ⟨rfl,(by show gB _ _ _ _ _ _ _ _ _ _ _;rw[HE.out];exact⟨rfl,S14⟩)⟩ ?_)|(go_fit (HNS.out _ W12.heap.size kK.out.kE MI.out (by omega) (by omega));rintro e w14 ⟨rfl,S14⟩;unfold bad;refine iE w ⟨rfl,(by show gB _ _ _ _ _ _ _ _ _ _ _;rw[HE.out];exact⟨rfl,S14⟩)⟩ ?_)))
           all_goals trivial
          | ok pr=>
           obtain⟨kept,at8⟩:=pr;have HE:Hid (spec=.ok (⟨name,kind,size,origin,at3,xs,kept⟩,at8)):=by have:=FH.out;rw[hs]at this;exact this.symm
           rw[hs]at HNS;clear FH hs HMX HRX
           go_region_with (first|(go_at_call 130;first|(go_fit (HNG.out _ (HMA.out _ HSA.out).1.kE);rintro e w13 ⟨rfl,uK,S13⟩;have kK:=hidL ((HMA.out _ HSA.out).1.read HL.out uK S13);have hc13:w13.cell? ⟨vb+1,2,none⟩=some (.int .i64 (size:Nat)):=kK.out.one.cell? 2;have Ad:Hid (At w13 g 3 (xs.map fun x:Nat=>Value.int .i64 x)):=S13.at (HMA.out _ HSA.out).2 (by simp;omega);have uM:=S13.size;have hzz:W12.heap.size<=w13.heap.size:=uM)|(go_fit (HNG.out _ (HMA.out _ HSB.out).1.kE);rintro e w13 ⟨rfl,uK,S13⟩;have kK:=hidL ((HMA.out _ HSB.out).1.read HL.out uK S13);have Ad:Hid (At w13 g 3 (xs.map fun x:Nat=>Value.int .i64 x)):=S13.at (HMA.out _ HSB.out).2 (by simp;omega);have MI:Hid (At w13 W12.heap.size 4 (seenCells size [])):=S13.at HNB.out (by simp;omega);have uM:=S13.size;have hzz:W12.heap.size<=w13.heap.size:=(by simp at uM;omega)))|(go_at_call 148;first|(go_fit (HNS.out _ w13.heap.size (kK.out.new ((Same.refl [] _).alloc (.cells LB 4))).kE (by have:=At.new w13 LB 4;rw[HLB.out]at this;exact this) (by omega) (by omega));rintro e w14 ⟨g2,rfl,hkl,nN⟩;have M14:=(kK.out.new ((Same.refl [] _).alloc (.cells LB 4))).OT HL.out nN (by omega);have r14:=nN.same.at (Ad.out.alloc (.cells LB 4)) (by simp;omega);have Td:=nN.new;have hg2:g<g2:=(by simp at Td;omega);have v3:w14.cell? ⟨vb,3,none⟩=some (.slice none 0 0):=M14.aA.cell? 3;have fv3:=M14.aA.frozen 3;have qx:Hid (Mid w0 w (w14.setCell ⟨vb,3,none⟩ (.slice (some ⟨g2,0,none⟩) k k)) a B rd tk at8 vb (vb+1) w.heap.size (seenCells bound (L++xs)) [.string name,.slice (some ⟨g,0,none⟩) xs.length xs.length,.pointer none,.slice (some ⟨g2,0,none⟩) k k,.bool false] [.pointer (some ⟨vb,0,none⟩),.int .i64 (kind:Nat),.int .i64 (size:Nat),.int .i64 (origin:Nat),.int .i64 (at3:Nat)]):=M14.aC HL.out 3 _;have HRW:Hid (At (w14.setCell ⟨vb,3,none⟩ (.slice (some ⟨g2,0,none⟩) k k)) g 3 (xs.map fun x:Nat=>Value.int .i64 x)/\At (w14.setCell ⟨vb,3,none⟩ (.slice (some ⟨g2,0,none⟩) k k)) g2 3 (kept.map fun x:Nat=>Value.int .i64 x)):=⟨r14.aP _ _ _ (by omega),nN.row.aP _ _ _ (by omega)⟩;clear M14 r14 nN)|(go_fit (HNS.out _ W12.heap.size kK.out.kE MI.out (by omega) (by omega));rintro e w14 ⟨g2,rfl,hkl,nN⟩;have M14:=kK.out.OT HL.out nN (by omega);have r14:=nN.same.at Ad.out (by simp;omega);have Td:=nN.new;have hg2:g<g2:=(by omega);have v3:w14.cell? ⟨vb,3,none⟩=some (.slice none 0 0):=M14.aA.cell? 3;have fv3:=M14.aA.frozen 3;have qx:Hid (Mid w0 w (w14.setCell ⟨vb,3,none⟩ (.slice (some ⟨g2,0,none⟩) k k)) a B rd tk at8 vb (vb+1) w.heap.size (seenCells bound (L++xs)) [.string name,.slice (some ⟨g,0,none⟩) xs.length xs.length,.pointer none,.slice (some ⟨g2,0,none⟩) k k,.bool false] [.pointer (some ⟨vb,0,none⟩),.int .i64 (kind:Nat),.int .i64 (size:Nat),.int .i64 (origin:Nat),.int .i64 (at3:Nat)]):=M14.aC HL.out 3 _;have HRW:Hid (At (w14.setCell ⟨vb,3,none⟩ (.slice (some ⟨g2,0,none⟩) k k)) g 3 (xs.map fun x:Nat=>Value.int .i64 x)/\At (w14.setCell ⟨vb,3,none⟩ (.slice (some ⟨g2,0,none⟩) k k)) g2 3 (kept.map fun x:Nat=>Value.int .i64 x)):=⟨r14.aP _ _ _ (by omega),nN.row.aP _ _ _ (by omega)⟩;clear M14 r14 nN)))
           all_goals
            obtain⟨⟨o0,o1,o2,o3,o4⟩,⟨p0,p1,p2,p3,p4⟩,⟨z0',z1',z2',z3',z4'⟩⟩:=qx.out.five
            go_wp2
            refine bodyPost_ret (v:=.agg #[.pointer (some ⟨vb,0,none⟩),.int .i64 (kind:Nat),.int .i64 (size:Nat),.int .i64 (origin:Nat),.int .i64 (at3:Nat)]) (by simp[results,results143,go_sem,o0,o1,o2,o3,o4,p0,p1,p2,p3,p4]<;>omega) rfl ?_;show gB _ _ _ _ _ _ _ _ _ _ _;rw[HE.out];refine⟨vb,g,some g2,rfl,?_⟩;have Tf:=qx.out;subst hkl;rw[<-HLO.out]at Tf;exact Mid.done (p:=⟨name,kind,size,origin,at3,xs,kept⟩) (kg:=some g2) Tf HL.out (yF _ _ _ _ _ _ _) HRW.out.1 (by omega) (fun e=>absurd e hkd) (fun e=>by cases e) (fun g' hg'=>by cases hg';exact⟨HRW.out.2,hg2⟩)
end
end Go.Proofs.YtpddgdjocffgdaaGreat
