/- Packed: see the last text. -/
import Derived.Test.YtpddgdjocffgdaaGreatA21
import Derived.Test.YtpddgdjocffgdaaGreatA01
import Derived.Test.YtpddgdjocffgdaaGreatA10
import Derived.Laws.CopyOwn
import Derived.Deep.RegionLaw
import Derived.Defers
import Derived.Recover
import Derived.BigQuiet
import Derived.Test.YtpddgdjocffgdaaGreatA05
import Derived.Test.YtpddgdjocffgdaaGreatA19
namespace Go.Proofs.YtpddgdjocffgdaaGreat
open Go.Proofs.Tryz
set_option linter.unusedVariables false
set_option linter.unusedSimpArgs false
set_option linter.unusedSectionVars false
set_option maxHeartbeats 16000000
set_option maxRecDepth 100000
section
open Go.RowKit Go.Sort
variable [DecidableEq aN] [Inhabited aN] [Inhabited aF] [Inhabited aS]
def kZ(B:List UInt8)(i:Nat):aN:=⟨(B[i]!.toNat:Int),(B[i+1]!.toNat:Int),(B[i+2]!.toNat:Int),(B[i+3]!.toNat:Int),(B[i+4]!.toNat:Int),(B[i+5]!.toNat:Int),(B[i+6]!.toNat:Int),(B[i+7]!.toNat:Int)⟩
def lU(B:List UInt8)(U:List Nat)(at_:Nat):Nat->Nat->Except Nat Unit
 | 0,_=>.ok ()
 | f+1,k=>if k∈U\/kZ B (at_+k*8)=aN.zero then lU B U at_ f (k+1) else .error (at_+k*8)
def fQ(B:List UInt8)(at_ n:Nat):List aN:=(List.range n).map fun k=>kZ B (at_+k*8)
def oz(B:List UInt8)(U:List Nat)(count at_:Nat):Except Nat (List aN×Nat):=
 if at_+count*8<=B.length then
  match lU B U at_ count 0 with
  | .ok _=>.ok (fQ B at_ count,at_+count*8)
  | .error q=>.error q
 else .error B.length
def bG(L:List Nat)(n:Nat):List Nat:=(List.range n).filter fun x=>decide (x∉L)
theorem zy(L:List Nat)(k:Nat):bG L (k+1)=if k∈L then bG L k else bG L k++[k]:=by
 unfold bG;rw[List.range_succ,List.filter_append];by_cases h:k∈L<;>simp[h]
theorem yg(L:List Nat)(k:Nat):(bG L k).length<=k:=by
 have:=List.length_filter_le (fun x=>decide (x∉L)) (List.range k);simpa [bG] using this
def rG(B:List UInt8)(at_ count k:Nat):List aN:=fQ B at_ k++List.replicate (count-k) aN.zero
theorem O9(B:List UInt8)(at_ count k:Nat)(h:k<count):(rG B at_ count k).set k (kZ B (at_+k*8))=rG B at_ count (k+1):=by
 unfold rG fQ;rw[List.set_append_right _ _ (by simp),show count-k=(count-(k+1))+1 by omega,List.replicate_succ];simp[List.range_succ]
theorem H7(B:List UInt8)(at_ count k:Nat)(h:k<=count):(rG B at_ count k).length=count:=by
 unfold rG fQ;simp;omega
structure uo(w0 w:World)(a:Option Addr)(B:List UInt8)(rd tk ug db bb fb count at_ base:Nat)(L U:List Nat)(d:Array Int)(k:Nat)(wr:World):Prop where
 disk:dX wr db bb fb count 0 (rG B at_ count k) d
 seen:At wr tk 4 (seenCells count L)
 used:At wr ug 4 (seenCells count U)
 kE:dV w0 wr a B rd (at_+count*8)
 same:Same [rd] w wr
 base:base<=wr.heap.size
structure YH(w0 w:World)(rd tk ug db bb fb base:Nat):Prop where
 l1:w.heap.size<=db/\w.heap.size<=bb/\w.heap.size<=fb/\w.heap.size<=ug
 l2:db<base/\bb<base/\fb<base/\ug<base/\tk<base/\rd<base
 l3:ug≠db/\ug≠bb/\ug≠fb
 l4:tk<w.heap.size/\rd<w.heap.size
 l5:w0.heap.size<=tk/\w0.heap.size<=rd/\w0.heap.size<=w.heap.size
structure GV(w0 w w':World)(a:Option Addr)(B:List UInt8)(rd tk count at_:Nat)(L U:List Nat)(db bb fb:Nat)(d:Array Int):Prop where
 disk:dX w' db bb fb count (bG L count).length (bM (bG L count) (fQ B at_ count)) d
 heap:d=fP 0 (bG L count) (eY count count (lY count))
 new:w.heap.size<=db/\w.heap.size<=bb/\w.heap.size<=fb
 kE:dV w0 w' a B rd (at_+count*8)
 same:Same [rd] w w'
def rQ(w0 w:World)(a:Option Addr)(B:List UInt8)(rd tk count at_:Nat)(L U:List Nat)(spec:Except Nat (List aN×Nat))(e:Ending)(w':World):Prop:=
 match spec with
 | .ok (bl,at1)=>bl=fQ B at_ count/\at1=at_+count*8/\∃db bb fb d,e=.returned (.pointer (some ⟨db,0,none⟩))/\GV w0 w w' a B rd tk count at_ L U db bb fb d
 | .error q=>e=bad q/\Same [] w0 w'
theorem Oj(w:World)(b o len cap:Nat)(hl:8<=len)(x0 x1 x2 x3 x4 x5 x6 x7:Int)(hc:∀j v,[Value.int .u8 x0,.int .u8 x1,.int .u8 x2,.int .u8 x3,.int .u8 x4,.int .u8 x5,.int .u8 x6,.int .u8 x7][j]? = some v->w.cell? ((⟨b,o,none⟩:Addr).add j)=some v)(hb:b<w.heap.size) :
 ∃W5,(Builtin.copy_ #[41,41] 3 #[.slice (some ⟨w.heap.size,0,none⟩) 8 8,.slice (some ⟨b,o,none⟩) len cap]).run prog (w.alloc (.cells #[.int .u8 0,.int .u8 0,.int .u8 0,.int .u8 0,.int .u8 0,.int .u8 0,.int .u8 0,.int .u8 0] 91)).drew=.ok (goInt 8) W5 /\
  At W5 w.heap.size 91 [.int .u8 x0,.int .u8 x1,.int .u8 x2,.int .u8 x3,.int .u8 x4,.int .u8 x5,.int .u8 x6,.int .u8 x7]/\Same [] w W5:=by
 have N:=(At.new w #[.int .u8 0,.int .u8 0,.int .u8 0,.int .u8 0,.int .u8 0,.int .u8 0,.int .u8 0,.int .u8 0] 91).drew;have hi:(prog.info? 5).map (·.size)=some 1:=by
  obtain⟨i0,h1,h2,h3,h4⟩:=info_parts Tryz.info5;rw[h1];simp[h3]
 have hS:Same [] w (w.alloc (.cells #[.int .u8 0,.int .u8 0,.int .u8 0,.int .u8 0,.int .u8 0,.int .u8 0,.int .u8 0,.int .u8 0] 91)).drew:=((Same.refl _ _).alloc _).drew;refine⟨_,run_copy_cells (P:=prog) _ 41 41 3 5 w.heap.size 0 8 8 ⟨b,o,none⟩ len cap [.int .u8 x0,.int .u8 x1,.int .u8 x2,.int .u8 x3,.int .u8 x4,.int .u8 x5,.int .u8 x6,.int .u8 x7] underlying41 hi (show 8=Nat.min len 8 from (Nat.min_eq_right hl).symm) (fun j v hj=>?_) (fun j hj=>?_) (fun j hj=>N.frozen _) (by intro v hv;simp at hv;rcases hv with rfl|rfl|rfl|rfl|rfl|rfl|rfl|rfl<;>rfl),?_,?_⟩
 ·rw[(hS.below (Nat.le_refl _) (by simp)).cell (by simp only[Addr.add];split<;>exact hb)];exact hc j v hj
 ·rw[N.cell?];have hj8:j<8:=by simpa using hj
  match j,hj8 with
  | 0,_=>rfl
  | 1,_=>rfl
  | 2,_=>rfl
  | 3,_=>rfl
  | 4,_=>rfl
  | 5,_=>rfl
  | 6,_=>rfl
  | 7,_=>rfl
 ·exact(((((((N.ax 0 (.int .u8 x0)).ax 1 (.int .u8 x1)).ax 2 (.int .u8 x2)).ax 3 (.int .u8 x3)).ax 4 (.int .u8 x4)).ax 5 (.int .u8 x5)).ax 6 (.int .u8 x6)).ax 7 (.int .u8 x7)
 ·exact(((((((hS.set w.heap.size 0 (.int .u8 x0) (by omega)).set w.heap.size 1 (.int .u8 x1) (by omega)).set w.heap.size 2 (.int .u8 x2) (by omega)).set w.heap.size 3 (.int .u8 x3) (by omega)).set w.heap.size 4 (.int .u8 x4) (by omega)).set w.heap.size 5 (.int .u8 x5) (by omega)).set w.heap.size 6 (.int .u8 x6) (by omega)).set w.heap.size 7 (.int .u8 x7) (by omega)
theorem uo.next{w0 w wr W:World}{a:Option Addr}{B:List UInt8}{rd tk ug db bb fb count at_ base:Nat}{L U:List Nat}{d:Array Int}{k:Nat}(h:uo w0 w a B rd tk ug db bb fb count at_ base L U d k wr)(hl:YH w0 w rd tk ug db bb fb base)(hw:w.heap.size<=base){T:List Nat}(hS:Same T wr W)(hT:∀q∈T,base<=q):uo w0 w a B rd tk ug db bb fb count at_ base L U d k W:=by
 obtain⟨⟨a1,a2,a3,a4⟩,⟨b1,b2,b3,b4,b5,b6⟩,c,⟨d1,d2⟩,e1,e2,e3⟩:=hl;have far:∀q,q<base->q∉T:=fun q hq hm=>by have:=hT q hm;omega
 exact⟨h.disk.same hS (far _ b1) (far _ b2) (far _ b3),hS.at h.seen (far _ b5),hS.at h.used (far _ b4),h.kE.next hS (far _ b6) (fun q hq=>by have:=hT q hq;omega),h.same.step hS (fun q hq hl=>by have:=hT q hq;omega),Nat.le_trans h.base hS.size⟩
theorem uo.write{w0 w wr W:World}{a:Option Addr}{B:List UInt8}{rd tk ug db bb fb count at_ base:Nat}{L U:List Nat}{d:Array Int}{k:Nat}(h:uo w0 w a B rd tk ug db bb fb count at_ base L U d k wr)(hl:YH w0 w rd tk ug db bb fb base)(hk:k<count)(hA:At W bb 91 (flat ((rG B at_ count k).set k (kZ B (at_+k*8)))))(hS:Same [bb] wr W):uo w0 w a B rd tk ug db bb fb count at_ base L U d (k+1) W:=by
 obtain⟨⟨a1,a2,a3,a4⟩,⟨b1,b2,b3,b4,b5,b6⟩,⟨c1,c2,c3⟩,⟨d1,d2⟩,e1,e2,e3⟩:=hl;rw[O9 B at_ count k hk]at hA;have D:=h.disk;exact⟨⟨hS.at D.disk (by simpa using D.ne1),hA,hS.at D.free (by simpa using D.MC.symm),D.ne1,D.Sm,D.MC,H7 _ _ _ _ (by omega),D.size,D.le,D.small⟩,hS.at h.seen (by simp;omega),hS.at h.used (by simpa using c2),h.kE.next hS (by simp;omega) (by simp;omega),h.same.step hS (by simp;omega),Nat.le_trans h.base hS.size⟩
theorem JO(w0 w:World)(a:Option Addr)(B:List UInt8)(rd tk at_ count jg:Nat)(L:List Nat)(vs:List aF)(hB:bD w0 a B)(h:dV w0 w a B rd at_)(hT:At w tk 4 (seenCells count L))(htk:w0.heap.size<=tk)(hne:tk≠rd)(hc:1<=count/\count<=200)
 (hn:vs.length<=20) (hJ:At w jg 110 (vs.map fun v=>ptr v.vb)) (hV:∀v∈vs,je w v) (hk:∀v∈vs,v.kept.length<=v.xs.length/\v.xs.length<=200) (hx:∀v∈vs,∀x∈v.xs,x<count) (YC:jg≠rd/\∀v∈vs,∀k∈v.foot,k≠rd) :
 Calls prog 133 #[.pointer (some ⟨rd,0,none⟩),.slice (some ⟨tk,0,none⟩) count count,.slice (some ⟨jg,0,none⟩) vs.length vs.length] w (rQ w0 w a B rd tk count at_ L (vs.flatMap gV) (oz B (vs.flatMap gV) count at_)):=by
 have hnew:=h.new;have hrl:=h.cell.lt;have htl:=hT.lt;have hw0:=h.same.size;have r1:w.cell? ⟨rd,1,none⟩=some (.int .i64 at_):=h.cell.cell? 1;have hm8:((count*8:Nat):Int)=(count:Int)*8:=by omega
 generalize hspec:oz B (vs.flatMap gV) count at_=spec;unfold oz at hspec;by_cases hle:at_+count*8<=B.length
 ·rw[if_pos hle]at hspec;obtain⟨b,off,ha,hb0,hcell⟩:=hB.at h.same (by intro e;rw[e]at hle;simp at hle;omega);have hN:=zN w0 w a B rd at_ (count*8) b off hB h ha (by omega) hle;rw[hm8]at hN;have HSP:Hid ((match lU B (vs.flatMap gV) at_ count 0 with
   | .ok _=>.ok (fQ B at_ count,at_+count*8)
   | .error q=>.error q)=spec):=hspec
  have HW:Hid (At w tk 4 (seenCells count L)/\At w jg 110 (vs.map fun v=>ptr v.vb)/\(∀v∈vs,je w v)):=⟨hT,hJ,hV⟩
  have HK:Hid ((∀v∈vs,v.kept.length<=v.xs.length/\v.xs.length<=200)/\(∀v∈vs,∀x∈v.xs,x<count)/\(jg≠rd/\∀v∈vs,∀k∈v.foot,k≠rd)):=⟨hk,hx,YC⟩
  have HBO:Hid (bD w0 a B):=hB;have HCL:Hid (∀W,Same [] w0 W->∀i,i<B.length->W.cell? ⟨b,off+i,none⟩=some (bT B[i]!)):=fun W hW i hi=>by
   obtain⟨b',off',ha',_,hc'⟩:=HBO.out.at hW (by intro e;rw[e]at hle;simp at hle;omega);have e1:=ha.symm.trans ha';simp only[Option.some.injEq,Addr.mk.injEq]at e1;obtain⟨rfl,rfl,_⟩:=e1;exact hc' i hi
  have hlen:=hB.len;clear hspec h hT hJ hV hk hx YC hB hcell
  go_enter func133,ntmps133
  go_wp2_with (go_at_call 142;refine hN.mono ?_;rintro e w1 ⟨rfl,hR1,S1⟩)
  refine(Eb count w1 hc.2).mono ?_;rintro e w2 ⟨db,rfl,⟨bb,fb,hd1,hd2,hd3,D2⟩,S2⟩
  go_wp2_with fail
  have zX:=(vH count).pops count (Nat.le_refl _);refine(nU db bb fb count count count _ _ (List.range count) w2 _ _ rfl rfl (by omega) D2 (by rw[zX.1,List.take_of_length_le (by simp)]) (fun x hx=>List.mem_range.1 hx)).mono ?_;rintro e w3 (⟨hcc,v',rfl,D3,hvv,S3⟩|⟨hbad,_⟩)
  case inr=>omega
  clear hcc hvv;have s1z:=S1.size;have s2z:=S2.size;have s3z:=S3.size;have S23:Same [] w1 w3:=S2.step S3 (by simp;omega);have S13:Same [rd] w w3:=S1.step S23 (by simp);rw[Nat.sub_self]at D3
  go_wp2_with fail
  refine(xQ w3 count jg vs hc.2 hn (S13.at HW.out.2.1 (by simpa using HK.out.2.2.1)) (fun v hv=>(HW.out.2.2 v hv).same S13 (fun k hk=>by simpa using HK.out.2.2.2 v hv k hk)) HK.out.1 HK.out.2.1).mono ?_;rintro e w4 ⟨ug,rfl,hug,U4,S4⟩;have s4z:=S4.size;have aa3:=U4.lt;have D4:=D3.same S4 (by simp) (by simp) (by simp);have dl1:=D3.disk.lt;have dl2:=D3.data.lt;have dl3:=D3.free.lt;have HL:Hid (YH w0 w rd tk ug db bb fb w4.heap.size):=⟨⟨by omega,by omega,by omega,by omega⟩,⟨by omega,by omega,by omega,by omega,by omega,by omega⟩,⟨by omega,by omega,by omega⟩,⟨htl,hrl⟩,⟨htk,hnew,hw0⟩⟩
  have HI0:Hid (uo w0 w a B rd tk ug db bb fb count at_ w4.heap.size L (vs.flatMap gV) (eY count count (lY count)) 0 w4):=by
   refine⟨?_,S4.at (S23.at (S1.at HW.out.1 (by simpa using hne)) (by simp)) (by simp),U4,(hR1.next S23 (by simp) (by simp)).next S4 (by simp) (by simp),S13.step S4 (by simp),Nat.le_refl _⟩;have e:rG B at_ count 0=List.replicate count aN.zero:=by simp[rG,fQ]
   rw[e];exact D4
  generalize vs.flatMap gV=U at *;obtain⟨d0,hd0⟩:∃d0,eY count count (lY count)=d0:=⟨_,rfl⟩
  rw[hd0]at HI0;have HD0:Hid (d0=eY count count (lY count)):=hd0.symm;generalize w4.heap.size=base at *;clear hd0 D2 D3 D4 S2 S3 S4 S23 S13 U4 hR1 S1 hN zX HW HK dl1 dl2 dl3 s1z s2z s3z s4z hd1 hd2 hd3 hug aa3 r1
  go_wp2_with fail
  go_loopw [12,35] (fun v i wr=>∃(k:Nat)(ad:Option Addr)(cap:Nat),k<=count/\i=.int .i64 k/\v=.slice ad (bG L k).length cap/\uo w0 w a B rd tk ug db bb fb count at_ base L U d0 k wr/\wr.ownsRow base 3 1 (.slice ad (bG L k).length cap) (bG L k).length ((bG L k).map fun x:Nat=>Value.int .i64 x)/\Hid ((match lU B U at_ (count-k) k with
   | .ok _=>.ok (fQ B at_ count,at_+count*8)
   | .error q=>.error q)=spec)) (fun _ i _=>count-(intOf i).toNat)
  case atStart=>exact⟨0,none,0,Nat.zero_le _,rfl,rfl,HI0.out,World.ownsRow_nil _ _ _ _,HSP⟩
  case round=>
   obtain⟨k,ad,cap,hk,rfl,rfl,hD,hown,HQ⟩:=hrel;by_cases hkl:k<count
   ·have l1:(k:Int)<(count:Int):=by omega
    have hfl:=yg L k;have hcl:=fun j (hj:j<8)=>HCL.out wr hD.kE.same (at_+k*8+j) (by omega)
    obtain⟨x,hxb⟩:∃x,kZ B (at_+k*8)=x:=⟨_,rfl⟩
    have u0:wr.cell? ⟨ug,k,none⟩=some (.bool (decide (k∈U))):=by rw[hD.used.cell?,jL count _ k hkl]
    have t0:wr.cell? ⟨tk,k,none⟩=some (.bool (decide (k∈L))):=by rw[hD.seen.cell?,jL count _ k hkl]
    have HD:Hid (uo w0 w a B rd tk ug db bb fb count at_ base L U d0 k wr/\wr.ownsRow base 3 1 (.slice ad (bG L k).length cap) (bG L k).length ((bG L k).map fun x:Nat=>Value.int .i64 x)):=⟨hD,hown⟩
    clear hD hown;obtain⟨x0,x1,x2,x3,x4,x5,x6,x7⟩:=x;have hcp:=Oj wr b (off+at_+k*8) (count*8-k*8) (count*8-k*8) (by omega) x0 x1 x2 x3 x4 x5 x6 x7 (fun j v hj=>by
     have hj8:j<8:=by have:=(List.getElem?_eq_some_iff.1 hj).1;simpa using this
     have hq:=hcl j hj8;rw[show off+(at_+k*8+j)=off+at_+k*8+j by omega]at hq;have ea:(⟨b,off+at_+k*8,none⟩:Addr).add j=⟨b,off+at_+k*8+j,none⟩:=by simp[Addr.add]
     rw[ea,hq];simp only[kZ,aN.mk.injEq]at hxb;obtain⟨e0,e1,e2,e3,e4,e5,e6,e7⟩:=hxb
     match j,hj8 with
     | 0,_=>simp at hj;rw[<-hj,<-e0];rfl
     | 1,_=>simp at hj;rw[<-hj,<-e1];rfl
     | 2,_=>simp at hj;rw[<-hj,<-e2];rfl
     | 3,_=>simp at hj;rw[<-hj,<-e3];rfl
     | 4,_=>simp at hj;rw[<-hj,<-e4];rfl
     | 5,_=>simp at hj;rw[<-hj,<-e5];rfl
     | 6,_=>simp at hj;rw[<-hj,<-e6];rfl
     | 7,_=>simp at hj;rw[<-hj,<-e7];rfl) (by have:=HD.out.1.kE.same.size;omega)
    obtain⟨W5,hcp,A5,S5⟩:=hcp;clear hcl;have hbw:w.heap.size<=base:=by have:=HL.out.l1;have:=HL.out.l2;omega
    have HD5:Hid (uo w0 w a B rd tk ug db bb fb count at_ base L U d0 k W5/\W5.ownsRow base 3 1 (.slice ad (bG L k).length cap) (bG L k).length ((bG L k).map fun x:Nat=>Value.int .i64 x)):=⟨HD.out.1.next HL.out hbw S5 (by simp),dZ HD.out.2 S5 (by simp)⟩
    have hlt5:wr.heap.size<W5.heap.size:=A5.lt;obtain⟨z0,z1,z2,z3,z4,z5,z6,z7⟩:W5.cell? ⟨wr.heap.size,0,none⟩=some (.int .u8 x0)/\W5.cell? ⟨wr.heap.size,1,none⟩=some (.int .u8 x1)/\W5.cell? ⟨wr.heap.size,2,none⟩=some (.int .u8 x2)/\W5.cell? ⟨wr.heap.size,3,none⟩=some (.int .u8 x3)/\W5.cell? ⟨wr.heap.size,4,none⟩=some (.int .u8 x4)/\W5.cell? ⟨wr.heap.size,5,none⟩=some (.int .u8 x5)/\W5.cell? ⟨wr.heap.size,6,none⟩=some (.int .u8 x6)/\W5.cell? ⟨wr.heap.size,7,none⟩=some (.int .u8 x7):=⟨A5.cell? 0,A5.cell? 1,A5.cell? 2,A5.cell? 3,A5.cell? 4,A5.cell? 5,A5.cell? 6,A5.cell? 7⟩
    have HE5:(Op.equalIn 10000 91 (.agg #[.int .u8 x0,.int .u8 x1,.int .u8 x2,.int .u8 x3,.int .u8 x4,.int .u8 x5,.int .u8 x6,.int .u8 x7]) (.agg #[.int .u8 0,.int .u8 0,.int .u8 0,.int .u8 0,.int .u8 0,.int .u8 0,.int .u8 0,.int .u8 0])).run prog W5=.ok (decide ((⟨x0,x1,x2,x3,x4,x5,x6,x7⟩:aN)=aN.zero)) W5:=mX ⟨x0,x1,x2,x3,x4,x5,x6,x7⟩ aN.zero W5;have u5:W5.cell? ⟨ug,k,none⟩=some (.bool (decide (k∈U))):=by rw[HD5.out.1.used.cell?,jL count _ k hkl]
    have q0:=HQ.out;rw[show count-k=(count-(k+1))+1 by omega,lU,hxb]at q0;have hadd:IntKind.i64.wrap ((at_:Int)+(k:Int)*8)=((at_+k*8:Nat):Int):=by rw[IntWalk.i64_in _ (by omega)];omega
    clear u0 t0 A5 S5 HD HQ HI0 HSP;by_cases hok:k∈U\/(⟨x0,x1,x2,x3,x4,x5,x6,x7⟩:aN)=aN.zero
    ·rw[if_pos hok]at q0;have HE:Hid ((match lU B U at_ (count-(k+1)) (k+1) with
      | .ok _=>.ok (fQ B at_ count,at_+count*8)
      | .error q=>.error q)=spec):=q0
     have HXB:Hid (kZ B (at_+k*8)=⟨x0,x1,x2,x3,x4,x5,x6,x7⟩):=hxb;have hWr:Hid (Calls prog 102 #[.pointer (some ⟨db,0,none⟩),.int .i64 k,.agg #[.int .u8 x0,.int .u8 x1,.int .u8 x2,.int .u8 x3,.int .u8 x4,.int .u8 x5,.int .u8 x6,.int .u8 x7]] W5 fun e w'=>e=.returned (.tuple #[])/\uo w0 w a B rd tk ug db bb fb count at_ base L U d0 (k+1) w'/\w'.ownsRow base 3 1 (.slice ad (bG L k).length cap) (bG L k).length ((bG L k).map fun x:Nat=>Value.int .i64 x)):=by
      refine(iR db bb count k _ _ _ _ ⟨x0,x1,x2,x3,x4,x5,x6,x7⟩ W5 _ _ _ rfl rfl rfl HD5.out.1.disk.disk HD5.out.1.disk.data HD5.out.1.disk.len hkl (by omega)).mono ?_;rintro e w6 ⟨rfl,A6,S6⟩;rw[<-HXB.out]at A6;exact⟨rfl,HD5.out.1.write HL.out hkl A6 S6,dZ HD5.out.2 S6 (by have:=HL.out.l2;simp;omega)⟩
     clear q0 hxb;have hcase:(decide (k∈U)=true)\/(decide (k∈U)=false/\decide ((⟨x0,x1,x2,x3,x4,x5,x6,x7⟩:aN)=aN.zero)=true):=by
      by_cases h1:k∈U
      ·exact Or.inl (decide_eq_true h1)
      ·exact Or.inr ⟨decide_eq_false h1,decide_eq_true (hok.resolve_left h1)⟩
     clear hok;by_cases hkL:k∈L
     ·have HEF:Hid (bG L (k+1)=bG L k):=by show _=_;rw[zy,if_pos hkL]
      rcases hcase with hcu|⟨hcu,hcz⟩
      ·rw[hcu]at u5
       go_wp2_with fail
       go_region
       go_wp2_with (first|(go_at_call 134;go_fit (kN _ _);rintro e w3 ⟨rfl,hw⟩;obtain rfl:=hw.symm)|(go_at_call 102;go_fit hWr.out;rintro e w6 ⟨rfl,D6,O6⟩;have t6:w6.cell? ⟨tk,k,none⟩=some (.bool true):=(by rw[D6.seen.cell?,jL count _ k hkl,decide_eq_true hkL])))
       refine⟨⟨k+1,ad,cap,by omega,by rw[Int.natCast_add];rfl,by rw[HEF.out],D6,by rw[HEF.out];exact O6,HE⟩,?_⟩;show count-((k:Int)+1).toNat<count-((k:Int)).toNat;omega
      ·rw[hcu]at u5;rw[hcz]at HE5
       go_wp2_with fail
       go_region
       go_wp2_with (first|(go_at_call 134;go_fit (kN _ _);rintro e w3 ⟨rfl,hw⟩;obtain rfl:=hw.symm)|(go_at_call 102;go_fit hWr.out;rintro e w6 ⟨rfl,D6,O6⟩;have t6:w6.cell? ⟨tk,k,none⟩=some (.bool true):=(by rw[D6.seen.cell?,jL count _ k hkl,decide_eq_true hkL])))
       refine⟨⟨k+1,ad,cap,by omega,by rw[Int.natCast_add];rfl,by rw[HEF.out],D6,by rw[HEF.out];exact O6,HE⟩,?_⟩;show count-((k:Int)+1).toNat<count-((k:Int)).toNat;omega
     ·have HEF:Hid (bG L (k+1)=bG L k++[k]):=by show _=_;rw[zy,if_neg hkL]
      have hnot:=bP;obtain⟨i0,hi,hz0,hz1,hz2⟩:=info_parts Tryz.info3;rcases hcase with hcu|⟨hcu,hcz⟩
      ·rw[hcu]at u5
       go_wp2_with fail
       go_region
       go_wp2_with (first|(go_at_call 134;go_fit (kN _ _);rintro e w3 ⟨rfl,hw⟩;obtain rfl:=hw.symm)|(go_at_call 102;go_fit hWr.out;rintro e w6 ⟨rfl,D6,O6⟩;have t6:w6.cell? ⟨tk,k,none⟩=some (.bool false):=(by rw[D6.seen.cell?,jL count _ k hkl,decide_eq_false hkL]);have HD6:Hid (uo w0 w a B rd tk ug db bb fb count at_ base L U d0 (k+1) w6):=D6;have hown:=O6;clear D6 O6)|(at_builtin;refine wpList_append_own _ rfl _ _ 51 rfl base 3 i0 (.int .i64 0) 1 8 underlying51 hi hz0 hz1 hz2 rfl (by decide) _ _ _ rfl (hown.alloc _) ⟨w6.heap.size,0,none⟩ 1 1 [.int .i64 k] rfl rfl ?c1 ?c2 ?c3 ?c4 ?c5 ?_))
       case c1=>
        intro j u hj
        match j,hj with
        | 0,hj=>simp at hj;subst hj;simp[Addr.add]
       case c2=>intro u hu;simp at hu;subst hu;rfl
       case c3=>unfold maxLen;omega
       case c4=>omega
       case c5=>have:=HD6.out.base;simp;omega
       intro v' w7 hown' hgrow _;have hr:=aI hown;have S7:Same _ (w6.alloc _) w7:=(Same.refl (Value.ownBlock (.slice ad (bG L k).length cap)).toList _).grown hgrow (fun q hq _=>by simp[hq]);have HD7:Hid (uo w0 w a B rd tk ug db bb fb count at_ base L U d0 (k+1) w7):=(HD6.out.next HL.out hbw (T:=[]) ((Same.refl _ _).alloc _) (by simp)).next HL.out hbw S7 (fun q hq=>hr q (by simpa using hq));obtain⟨a',cap',rfl⟩:=ak hown';clear hgrow hr S7 hown
       go_wp2
       refine⟨⟨k+1,a',cap',by omega,by rw[Int.natCast_add];rfl,by rw[HEF.out,List.length_append];rfl,HD7.out,by rw[HEF.out,List.map_append,List.length_append];exact hown',HE⟩,?_⟩;show count-((k:Int)+1).toNat<count-((k:Int)).toNat;omega
      ·rw[hcu]at u5;rw[hcz]at HE5
       go_wp2_with fail
       go_region
       go_wp2_with (first|(go_at_call 134;go_fit (kN _ _);rintro e w3 ⟨rfl,hw⟩;obtain rfl:=hw.symm)|(go_at_call 102;go_fit hWr.out;rintro e w6 ⟨rfl,D6,O6⟩;have t6:w6.cell? ⟨tk,k,none⟩=some (.bool false):=(by rw[D6.seen.cell?,jL count _ k hkl,decide_eq_false hkL]);have HD6:Hid (uo w0 w a B rd tk ug db bb fb count at_ base L U d0 (k+1) w6):=D6;have hown:=O6;clear D6 O6)|(at_builtin;refine wpList_append_own _ rfl _ _ 51 rfl base 3 i0 (.int .i64 0) 1 8 underlying51 hi hz0 hz1 hz2 rfl (by decide) _ _ _ rfl (hown.alloc _) ⟨w6.heap.size,0,none⟩ 1 1 [.int .i64 k] rfl rfl ?c1 ?c2 ?c3 ?c4 ?c5 ?_))
       case c1=>
        intro j u hj
        match j,hj with
        | 0,hj=>simp at hj;subst hj;simp[Addr.add]
       case c2=>intro u hu;simp at hu;subst hu;rfl
       case c3=>unfold maxLen;omega
       case c4=>omega
       case c5=>have:=HD6.out.base;simp;omega
       intro v' w7 hown' hgrow _;have hr:=aI hown;have S7:Same _ (w6.alloc _) w7:=(Same.refl (Value.ownBlock (.slice ad (bG L k).length cap)).toList _).grown hgrow (fun q hq _=>by simp[hq]);have HD7:Hid (uo w0 w a B rd tk ug db bb fb count at_ base L U d0 (k+1) w7):=(HD6.out.next HL.out hbw (T:=[]) ((Same.refl _ _).alloc _) (by simp)).next HL.out hbw S7 (fun q hq=>hr q (by simpa using hq));obtain⟨a',cap',rfl⟩:=ak hown';clear hgrow hr S7 hown
       go_wp2
       refine⟨⟨k+1,a',cap',by omega,by rw[Int.natCast_add];rfl,by rw[HEF.out,List.length_append];rfl,HD7.out,by rw[HEF.out,List.map_append,List.length_append];exact hown',HE⟩,?_⟩;show count-((k:Int)+1).toNat<count-((k:Int)).toNat;omega
    ·rw[if_neg hok]at q0;have HE:Hid (spec=.error (at_+k*8)):=q0.symm;have hcu:decide (k∈U)=false:=decide_eq_false (fun e=>hok (Or.inl e));have hcz:decide ((⟨x0,x1,x2,x3,x4,x5,x6,x7⟩:aN)=aN.zero)=false:=decide_eq_false (fun e=>hok (Or.inr e));rw[hcu]at u5;rw[hcz]at HE5;have hMB:Hid (Calls prog 134 #[.bool false,.int .i64 ((at_:Int)+(k:Int)*8)] W5 fun e w'=>e=bad (at_+k*8)/\w'=W5):=by
      have:=kS (at_+k*8) W5;rw[show((at_+k*8:Nat):Int)=(at_:Int)+(k:Int)*8 by omega]at this;exact this
     have HS5:Hid (Same [] w0 W5):=HD5.out.1.kE.same;clear hok q0 hxb hcu hcz
     go_wp2_with fail
     go_region
     go_wp2_with (go_at_call 134;go_fit hMB.out;rintro e w3 ⟨rfl,hw⟩;obtain rfl:=hw.symm;unfold bad)
     refine⟨rfl,?_⟩;show rQ _ _ _ _ _ _ _ _ _ _ _ _ _;rw[HE.out];exact⟨rfl,HS5.out⟩
   ·have ek:k=count:=by omega
    subst ek;have HE:Hid (spec=.ok (fQ B at_ k,at_+k*8)):=by
     have:=HQ.out;rw[Nat.sub_self]at this;exact this.symm
    have ebl:rG B at_ k k=fQ B at_ k:=by simp[rG]
    have hDD:=hD.disk;rw[ebl]at hDD;have hfl:=yg L k;obtain⟨g,cs,hg1,hg2⟩:∃g cs,(bG L k≠[]->ad=some ⟨g,0,none⟩/\At wr g 3 cs/\g∉[db,bb,fb])/\∀j,j<(bG L k).length->cs[0+j]? = some (.int .i64 ((bG L k)[j]!:Nat)):=by
     by_cases h0:(bG L k).length=0
     ·exact⟨0,[],fun h=>absurd (List.eq_nil_of_length_eq_zero h0) h,fun j hj=>by omega⟩
     ·obtain⟨g,cs,g1,g2,g3,g4,g5,g6⟩:=jk hown h0;refine⟨g,cs,fun _=>⟨g1,g3,by have:=HL.out.l2;simp;omega⟩,fun j hj=>?_⟩;have:(cs.take (bG L k).length)[j]? = cs[j]?:=by rw[List.getElem?_take,if_pos hj]
      rw[Nat.zero_add,<-this,g6,List.getElem?_map,List.getElem?_eq_getElem hj,getElem!_pos _ j hj];rfl
    have hG:=nS db bb fb k 0 g 0 cap (fQ B at_ k) d0 (bG L k) ad 3 cs wr _ _ rfl rfl hDD hg1 hg2 (fun x hx=>List.mem_range.1 (List.mem_filter.1 hx).1) (by omega);have HD:Hid (uo w0 w a B rd tk ug db bb fb k at_ base L U d0 k wr):=hD;clear hD hown hDD hg1 hg2 HQ ebl
    go_wp2_with (go_at_call 95;go_fit hG;rintro e w6 ⟨rfl,D6,S6⟩)
    have HG6:Hid (GV w0 w w6 a B rd tk k at_ L U db bb fb (fP 0 (bG L k) d0)):=by
     have h1:=HL.out.l1;have h4:=HL.out.l4;have h5:=HL.out.l5;rw[Nat.zero_add]at D6;exact⟨D6,by rw[<-HD0.out],⟨h1.1,h1.2.1,h1.2.2.1⟩,HD.out.kE.next S6 (by simp;omega) (by simp;omega),HD.out.same.step S6 (by simp;omega)⟩
    first
     | (show rQ _ _ _ _ _ _ _ _ _ _ _ _ _;rw[HE.out];exact⟨rfl,rfl,db,bb,fb,_,rfl,HG6.out⟩)
     | (go_ret;show rQ _ _ _ _ _ _ _ _ _ _ _ _ _;rw[HE.out];exact⟨rfl,rfl,db,bb,fb,_,rfl,HG6.out⟩)
 ·rw[if_neg hle]at hspec;have HE:Hid (spec=.error B.length):=hspec.symm;have hN:=xA w0 w a B rd at_ (count*8) hB h (by omega) (by omega);rw[hm8]at hN;have HS0:Hid (Same [] w0 w):=h.same;clear hspec h hT hJ hV hk hx YC hB
  go_enter func133,ntmps133
  go_wp2_with (go_at_call 142;refine hN.mono ?_;rintro e w1 ⟨rfl,S1⟩;unfold bad)
  refine⟨rfl,?_⟩;show rQ _ _ _ _ _ _ _ _ _ _ _ _ _;rw[HE.out];exact⟨rfl,HS0.out.step S1 (by simp)⟩
theorem vO{B:List UInt8}{bound:Nat}(hb:1<=bound):∀(c:Nat)(seen acc:List Nat)(at_:Nat)(xs:List Nat)(at1:Nat),cZ B bound c seen acc at_=.ok (xs,at1) ->
 ∃new,xs=acc++new/\new.length=c/\(∀x∈new,x<bound/\x∉seen/\x∉acc)/\new.Nodup
 | 0,seen,acc,at_,xs,at1,h=>by
  simp only[cZ,Except.ok.injEq,Prod.mk.injEq]at h;exact⟨[],by simp[h.1],rfl,by simp,by simp⟩
 | c+1,seen,acc,at_,xs,at1,h=>by
  unfold cZ at h;cases hs:bJ B 2 0 (bound-1) at_ with
  | error q=>rw[hs]at h;cases h
  | ok pr=>
   obtain⟨k,at2⟩:=pr;rw[hs]at h;have hk:=(dJ hs).2.2.1;by_cases hm:k∈seen++acc
   ·simp only[hm,if_true]at h;cases h
   ·simp only[hm,if_false]at h;obtain⟨new,h1,h2,h3,h4⟩:=vO hb c seen (acc++[k]) at2 xs at1 h;simp only[List.mem_append,not_or]at hm;refine⟨k::new,by rw[h1,List.append_assoc];rfl,by simp[h2],fun x hx=>?_,?_⟩
    ·rcases List.mem_cons.1 hx with rfl|hx
     ·exact⟨by omega,hm⟩
     ·have:=h3 x hx;exact⟨this.1,this.2.1,fun hx'=>this.2.2 (List.mem_append_left _ hx')⟩
    ·refine List.nodup_cons.2 ⟨fun hk'=>?_,h4⟩;exact(h3 k hk').2.2 (by simp)
structure xX(count bound:Nat)(used:List Nat)(p:aS):Prop where
 name:nameB p.name=true
 kind:p.kind<=2
 size:1<=p.size/\p.size<=200
 org:p.kind≠0->p.origin<count
 plain:p.kind=0->p.xs.length=p.size/\p.kept=[]
 YP:p.kind≠0->1<=p.xs.length/\p.xs.length<=p.size
 AA:p.kept.length<=p.xs.length
 kept:p.kept.Nodup/\∀x∈p.kept,x<p.size
 lost:p.kind=2->p.kept=[]
 xs:p.xs.Nodup/\∀x∈p.xs,x<bound/\x∉used
theorem VT{B:List UInt8}{ahead:ByteArray}{at_:Nat}{name:ByteArray}{at1:Nat}(h:lQ B ahead at_=.ok (name,at1)):nameB name=true/\bW ahead name<0:=by
 unfold lQ at h;cases hs:bJ B 1 1 10 at_ with
 | error q=>rw[hs]at h;cases h
 | ok pr=>
  obtain⟨n,at2⟩:=pr;rw[hs]at h;by_cases h1:at2+n<=B.length
  ·simp only[h1,if_true]at h;by_cases h2:nameB (aH B at2 n)=true/\bW ahead (aH B at2 n)<0
   ·rw[if_pos h2]at h;simp only[Except.ok.injEq,Prod.mk.injEq]at h;rw[<-h.1];exact h2
   ·rw[if_neg h2]at h;cases h
  ·simp only[h1,if_false]at h;cases h
theorem Ef{B:List UInt8}{count bound:Nat}{used:List Nat}{ahead:ByteArray}{at_:Nat}{p:aS}{at1:Nat}(hb:1<=bound)(hc:1<=count)(h:jw B count bound used ahead at_=.ok (p,at1)):xX count bound used p/\bW ahead p.name<0:=by
 rw[yc]at h;cases hs:lQ B ahead at_ with
 | error q=>rw[hs]at h;cases h
 | ok pr=>
  obtain⟨name,a1⟩:=pr;rw[hs]at h;obtain⟨hn1,hn2⟩:=VT hs;cases hs:bJ B 1 0 2 a1 with
  | error q=>simp only[hs]at h;cases h
  | ok pr=>
   obtain⟨kind,a2⟩:=pr;simp only[hs]at h;have hk:=(dJ hs).2.2.1;cases hs:bJ B 2 1 200 a2 with
   | error q=>simp only[hs]at h;cases h
   | ok pr=>
    obtain⟨size,a3⟩:=pr;simp only[hs]at h;have hz:=dJ hs;by_cases hk0:kind=0
    ·rw[if_pos hk0]at h;unfold zL at h;cases hs:bJ B 2 size size a3 with
     | error q=>simp only[hs]at h;cases h
     | ok pr=>
      obtain⟨c,a4⟩:=pr;simp only[hs]at h;have hcc:=dJ hs;cases hs:cZ B bound c used [] a4 with
      | error q=>simp only[hs]at h;cases h
      | ok pr=>
       obtain⟨xs,a5⟩:=pr;simp only[hs,Except.ok.injEq,Prod.mk.injEq]at h;obtain⟨new,e1,e2,e3,e4⟩:=vO hb c used [] a4 xs a5 hs;rw[List.nil_append]at e1;subst e1;rw[<-h.1];have:xs.length=size:=by omega
       exact⟨⟨hn1,by simp,⟨hz.2.1,hz.2.2.1⟩,by simp,fun _=>⟨this,rfl⟩,by simp,by simp,⟨by simp,by simp⟩,by simp,e4,fun x hx=>⟨(e3 x hx).1,(e3 x hx).2.1⟩⟩,hn2⟩
    ·rw[if_neg hk0]at h;unfold zG at h;cases hs:bJ B 1 0 (count-1) a3 with
     | error q=>simp only[hs]at h;cases h
     | ok pr=>
      obtain⟨origin,a4⟩:=pr;simp only[hs]at h;have hoo:=dJ hs;cases hs:bJ B 2 1 size a4 with
      | error q=>simp only[hs]at h;cases h
      | ok pr=>
       obtain⟨c,a5⟩:=pr;simp only[hs]at h;have hcc:=dJ hs;cases hs:cZ B bound c used [] a5 with
       | error q=>simp only[hs]at h;cases h
       | ok pr=>
        obtain⟨xs,a6⟩:=pr;simp only[hs]at h;obtain⟨new,e1,e2,e3,e4⟩:=vO hb c used [] a5 xs a6 hs;rw[List.nil_append]at e1;subst e1;cases hs:bJ B 2 0 (if kind=2 then 0 else xs.length) a6 with
        | error q=>simp only[hs]at h;cases h
        | ok pr=>
         obtain⟨k,a7⟩:=pr;simp only[hs]at h;have hkk:=dJ hs;cases hs:cZ B size k [] [] a7 with
         | error q=>simp only[hs]at h;cases h
         | ok pr=>
          obtain⟨kept,a8⟩:=pr;simp only[hs,Except.ok.injEq,Prod.mk.injEq]at h;obtain⟨new2,f1,f2,f3,f4⟩:=vO hz.2.1 k [] [] a7 kept a8 hs;rw[List.nil_append]at f1;subst f1;rw[<-h.1];have hkl:k<=xs.length:=by have:=hkk.2.2.1;split at this<;>omega
          refine⟨⟨hn1,hk,⟨hz.2.1,hz.2.2.1⟩,fun _=>by show origin<count;omega,fun e=>absurd e hk0,fun _=>⟨by show 1<=xs.length;omega,by show xs.length<=size;omega⟩,by show kept.length<=xs.length;omega,⟨f4,fun x hx=>(f3 x hx).1⟩,fun e=>?_,e4,fun x hx=>⟨(e3 x hx).1,(e3 x hx).2.1⟩⟩,hn2⟩;have e':kind=2:=e;have:=hkk.2.2.1;rw[if_pos e']at this;exact List.eq_nil_of_length_eq_zero (by show kept.length=0;omega)
structure mG(count bound:Nat)(ps:List aS):Prop where
 all:∀p∈ps,xX count bound [] p
 nodup:(ps.flatMap (·.xs)).Nodup
 sorted:ps.Pairwise fun a b=>bW a.name b.name<0
theorem wo{B:List UInt8}{count bound:Nat}(hb:1<=bound)(hc:1<=count):∀(c:Nat)(acc:List aS)(at_:Nat)(ps:List aS)(at1:Nat),fF B count bound c acc at_=.ok (ps,at1)->mG count bound acc->mG count bound ps/\ps.length=acc.length+c
 | 0,acc,at_,ps,at1,h,ha=>by
  simp only[fF,Except.ok.injEq,Prod.mk.injEq]at h;rw[<-h.1];exact⟨ha,rfl⟩
 | c+1,acc,at_,ps,at1,h,ha=>by
  unfold fF at h;cases hs:jw B count bound (acc.flatMap (·.xs)) ((acc.getLast?.map (·.name)).getD ⟨#[]⟩) at_ with
  | error q=>rw[hs]at h;cases h
  | ok pr=>
   obtain⟨p,at2⟩:=pr;rw[hs]at h;obtain⟨ho,hcmp⟩:=Ef hb hc hs;have:=wo hb hc c (acc++[p]) at2 ps at1 h ⟨fun q hq=>?_,?_,?_⟩
   ·refine⟨this.1,?_⟩;rw[this.2];simp;omega
   ·rcases List.mem_append.1 hq with hq|hq
    ·exact ha.all q hq
    ·simp only[List.mem_singleton]at hq;subst hq;exact⟨ho.name,ho.kind,ho.size,ho.org,ho.plain,ho.YP,ho.AA,ho.kept,ho.lost,ho.xs.1,fun x hx=>⟨(ho.xs.2 x hx).1,by simp⟩⟩
   ·rw[List.flatMap_append,List.nodup_append];refine⟨ha.nodup,by simpa using ho.xs.1,fun x hx y hy e=>?_⟩;subst e;exact(ho.xs.2 x (by simpa using hy)).2 hx
   ·rw[List.pairwise_append];refine⟨ha.sorted,by simp,fun q hq r hr=>?_⟩;simp only[List.mem_singleton]at hr;subst hr;obtain⟨i,hi⟩:=List.mem_iff_getElem?.1 hq;have hil:=(List.getElem?_eq_some_iff.1 hi).1;have eq:=(List.getElem?_eq_some_iff.1 hi).2;have hl:acc.getLast? = some acc[acc.length-1]:=by rw[List.getLast?_eq_getElem?,List.getElem?_eq_getElem (by omega)]
    rw[hl]at hcmp;by_cases hlast:i=acc.length-1
    ·subst hlast;rw[<-eq];exact hcmp
    ·have:=List.pairwise_iff_getElem.1 ha.sorted i (acc.length-1) hil (by omega) (by omega);rw[eq]at this;exact uU _ _ _ this hcmp
def jG(ps:List aS):List Nat:=ps.flatMap fun p=>p.xs.take (if p.kind=0 then p.xs.length else p.kept.length)
def iO(B:List UInt8):Except Nat (Nat×List aS×Nat):=
 match gX B 4 0 with
 | .error q=>.error q
 | .ok at0=>
  match bJ B 2 1 200 at0 with
  | .error q=>.error q
  | .ok (count,at1)=>
   match mP B count at1 with
   | .error q=>.error q
   | .ok (ps,at2)=>
    match jh ps ps with
    | .error q=>.error q
    | .ok _=>
     match oz B (jG ps) count at2 with
     | .error q=>.error q
     | .ok (bl,at3)=>if at3=B.length then .ok (count,ps,at2) else .error at3
def ja(pv:List (aS×aF)):List Nat:=(pv.map (·.1)).flatMap (·.xs)
structure fB(w0 w':World)(B:List UInt8)(count at_:Nat)(pv:List (aS×aF))(pb db bb fb jg:Nat)(d:Array Int):Prop where
 pool:At w' pb 87 [ptr pb,ptr db,.slice (some ⟨jg,0,none⟩) pv.length pv.length]
 arr:At w' jg 110 (pv.map fun x=>ptr x.2.vb)
 disk:dX w' db bb fb count (bG (ja pv) count).length (bM (bG (ja pv) count) (fQ B at_ count)) d
 heap:d=fP 0 (bG (ja pv) count) (eY count count (lY count))
 af:∀x∈pv,je w' (bf pv x)
 ent:∀x∈pv,PV x
 nodup:(pv.flatMap fun x=>x.2.foot).Nodup
 new:∀x∈pv,∀k∈x.2.foot,w0.heap.size<=k/\k<jg
 ord:w0.heap.size<=jg/\jg<db/\jg<bb/\jg<fb/\db<pb/\bb<pb/\fb<pb
 same:Same [] w0 w'
def kP(w0:World)(B:List UInt8)(spec:Except Nat (Nat×List aS×Nat))(e:Ending)(w':World):Prop:=
 match spec with
 | .ok (count,ps,at2)=>∃pv pb db bb fb jg d,e=.returned (.pointer (some ⟨pb,0,none⟩))/\pv.map (·.1)=ps/\fB w0 w' B count at2 pv pb db bb fb jg d
 | .error q=>e=bad q/\Same [] w0 w'
theorem Oq(pv:List (aS×aF))(h:∀x∈pv,PV x)(l:List (aS×aF))(hl:∀x∈l,x∈pv):(l.map (bf pv)).flatMap gV=jG (l.map (·.1)):=by
 induction l with
 | nil=>rfl
 | cons x r ih=>
  have hx:=h x (hl x (by simp));have ih':=ih (fun y hy=>hl y (by simp[hy]));unfold jG at *;rw[List.map_cons,List.map_cons,List.flatMap_cons,List.flatMap_cons,ih']
  congr 1
  have e1:x.2.xs=x.1.xs:=by rw[hx.eq];rfl
  have e2:x.2.kept=x.1.kept:=by rw[hx.eq];rfl
  have e3:x.2.org=none:=by rw[hx.eq];rfl
  unfold gV rY bf;by_cases hk:x.1.kind=0
  ·simp[hk,e1,e3]
  ·simp[hk,e1,e2]
theorem LY(w0 w:World)(a:Option Addr)(B:List UInt8)(rd:Nat)(hB:bD w0 a B)(h:dV w0 w a B rd 0) :
 Calls prog 107 #[.pointer (some ⟨rd,0,none⟩)] w (kP w0 B (iO B)):=by
 have hnew:=h.new;have hrl:=h.cell.lt;have HBO:Hid (bD w0 a B):=hB;have hM:=Nw w0 w a B rd hB h;generalize hspec:iO B=spec;unfold iO at hspec;clear h hB;cases hs:gX B 4 0 with
 | error q=>
  rw[hs]at hspec hM;have HE:Hid (spec=.error q):=hspec.symm;clear hspec hs
  go_enter func107,ntmps107
  go_wp2_with (go_at_call 129;refine hM.mono ?_;rintro e w1 ⟨rfl,S1⟩;unfold bad)
  refine⟨rfl,?_⟩;show kP _ _ _ _ _;rw[HE.out];exact⟨rfl,S1⟩
 | ok at0=>
  rw[hs]at hspec hM;simp only at hspec;clear hs
  go_enter func107,ntmps107
  go_wp2_with fail
  refine hM.mono ?_;rintro e w1 ⟨rfl,hR1,S1⟩
  go_wp2_with fail
  cases hs:bJ B 2 1 200 at0 with
  | error q=>
   rw[hs]at hspec;have HE:Hid (spec=.error q):=hspec.symm;refine(eX w0 w1 a B rd at0 2 1 200 q 2 1 200 HBO.out hR1 (by omega) hs rfl rfl rfl).mono ?_;rintro e w2 ⟨rfl,S2⟩;unfold bad;clear hspec hs hM
   go_wp2
   refine⟨rfl,?_⟩;show kP _ _ _ _ _;rw[HE.out];exact⟨rfl,S2⟩
  | ok pr=>
   obtain⟨count,at1⟩:=pr;rw[hs]at hspec;simp only at hspec;have hc:=dJ hs;have hc1:1<=count:=hc.2.1;have hc2:count<=200:=hc.2.2.1;obtain⟨LB,hLB,hmk⟩:=jM 177 4 (.bool false) 1 count underlying177 Tryz.xK rfl (by omega) (by omega);refine(fO w0 w1 a B rd at0 2 1 200 count at1 2 1 200 HBO.out hR1 (by omega) hs rfl rfl rfl).mono ?_;rintro e w2 ⟨rfl,hR2,S2⟩;clear hc hs hM hR1;have N3:=At.new w2 LB 4;rw[hLB,<-wB]at N3;have S3:Same [] w2 (w2.alloc (.cells LB 4)):=(Same.refl _ _).alloc _;have s1z:=S1.size;have s2z:=S2.size;have hw0:=hR2.same.size;have hz3:(w2.alloc (.cells LB 4)).heap.size=w2.heap.size+1:=by simp
   have HL3:Hid (Calls prog 131 #[.pointer (some ⟨rd,0,none⟩),.slice (some ⟨w2.heap.size,0,none⟩) count count] (w2.alloc (.cells LB 4)) (qj w0 (w2.alloc (.cells LB 4)) a B rd w2.heap.size count (mP B count at1))):=JC w0 _ a B rd w2.heap.size at1 count HBO.out (hR2.next S3 (by simp) (by simp)) N3 (by omega) (by omega) ⟨hc1,hc2⟩;clear hR2 S2 N3 S3 S1;have HSP:Hid ((match mP B count at1 with
    | .error q=>.error q
    | .ok (ps,at2)=>
     match jh ps ps with
     | .error q=>.error q
     | .ok _=>
      match oz B (jG ps) count at2 with
      | .error q=>.error q
      | .ok (bl,at3)=>if at3=B.length then .ok (count,ps,at2) else .error at3)=spec):=hspec
   clear hspec
   go_wp2_with fail
   refine HL3.out.mono ?_;generalize hW3:w2.alloc (.cells LB 4)=W3 at *;clear hW3 HL3 hmk hLB;cases hs:mP B count at1 with
   | error q=>
    have HE:Hid (spec=.error q):=by have:=HSP.out;rw[hs]at this;exact this.symm
    rintro e w4 ⟨rfl,S4⟩;unfold bad;clear HSP hs
    go_wp2
    refine⟨rfl,?_⟩;show kP _ _ _ _ _;rw[HE.out];exact⟨rfl,S4⟩
   | ok pr=>
    obtain⟨ps,at2⟩:=pr;have IU:Hid ((match jh ps ps with
     | .error q=>.error q
     | .ok _=>
      match oz B (jG ps) count at2 with
      | .error q=>.error q
      | .ok (bl,at3)=>if at3=B.length then .ok (count,ps,at2) else .error at3)=spec):=by
     have:=HSP.out;rw[hs]at this;exact this
    have HEO:Hid (mG ps.length count ps/\ps.length<=20):=by
     unfold mP at hs;cases hs1:bJ B 1 0 20 at1 with
     | error q=>rw[hs1]at hs;cases hs
     | ok pr=>
      obtain⟨c,a2⟩:=pr;rw[hs1]at hs;simp only at hs;have Ti:=(dJ hs1).2.2.1;rcases Nat.eq_zero_or_pos c with rfl|hcp
      ·simp only[fF,Except.ok.injEq,Prod.mk.injEq]at hs;rw[<-hs.1];exact⟨⟨by simp,by simp,by simp⟩,by simp⟩
      ·have:=wo hc1 hcp c [] a2 ps at2 hs ⟨by simp,by simp,by simp⟩;have e:ps.length=c:=by simpa using this.2
       rw[e];exact⟨this.1,Ti⟩
    rintro e w4 ⟨lg,pv,rfl,hps,hG⟩;have hpl:pv.length=ps.length:=by rw[<-hps,List.length_map]
    have um:=hG.new.1;have ZV:pv.length<=20:=by have:=HEO.out.2;omega
    have YD:Hid (∀x∈pv,xX ps.length count [] x.1):=fun x hx=>HEO.out.1.all x.1 (by rw[<-hps];exact List.mem_map.2 ⟨x,hx,rfl⟩)
    have HPV:Hid (∀x∈pv,PV x):=hG.ent;have hJ:=GI w4 pv lg ZV hG.row hG.af (fun x hx=>by rw[(HPV.out x hx).eq];rfl) (fun x hx hk=>by rw[hpl];exact(YD.out x hx).org hk) (fun x hx=>hG.new.2 x hx) hG.nodup;rw[hps,hpl]at hJ;have HG:Hid (GX w0 W3 w4 a B rd w2.heap.size count pv at2 lg):=hG;have s4z:=hG.same.size;have ZW:ja pv=ps.flatMap (·.xs):=by unfold ja;rw[hps]
    have HPS:Hid (pv.map (·.1)=ps):=hps;clear HSP hs hG hps
    go_wp2_with fail
    refine hJ.mono ?_;cases hs:jh ps ps with
    | error q=>
     have HE:Hid (spec=.error q):=by have:=IU.out;rw[hs]at this;exact this.symm
     rintro e w5 ⟨rfl,S5⟩;unfold bad;have HS5:Hid (Same [] w0 w5):=HG.out.kE.same.step S5 (fun q hq hl=>by
      obtain⟨x,hx,rfl⟩:=List.mem_map.1 hq;have:=HG.out.new.2 x hx x.2.vb (by simp[aF.foot]);omega)
     clear IU hs hJ S5
     go_wp2
     refine⟨rfl,?_⟩;show kP _ _ _ _ _;rw[HE.out];exact⟨rfl,HS5.out⟩
    | ok uu=>
     have IV:Hid ((match oz B (jG ps) count at2 with
      | .error q=>.error q
      | .ok (bl,at3)=>if at3=B.length then .ok (count,ps,at2) else .error at3)=spec):=by
      have:=IU.out;rw[hs]at this;exact this
     rintro e w5 ⟨jg,rfl,hjn,hjA,hjV,S5⟩;have s5z:=S5.size;have Wj:∀q∈pv.map (·.2.vb),lg<q:=fun q hq=>by
      obtain⟨x,hx,rfl⟩:=List.mem_map.1 hq;exact HG.out.new.2 x hx x.2.vb (by simp[aF.foot])
     have hR5:=HG.out.kE.next S5 (fun hm=>by have:=Wj _ hm;omega) (fun q hq=>by have:=Wj q hq;omega);have hT5:=S5.at HG.out.seen (fun hm=>by have:=Wj _ hm;omega);have evs:(pv.map (bf pv)).map (fun v=>ptr v.vb)=pv.map fun x=>ptr x.2.vb:=by
      rw[List.map_map];apply List.map_congr_left;intro x hx;simp[(iy pv x).2.2.1]
     have hD:=JO w0 w5 a B rd w2.heap.size at2 count jg ((pv.map (·.1)).flatMap (·.xs)) (pv.map (bf pv)) HBO.out hR5 hT5 (by omega) (by omega) ⟨hc1,hc2⟩ (by rw[List.length_map];exact ZV) (by rw[evs];exact hjA) (fun v hv=>by
      obtain⟨x,hx,rfl⟩:=List.mem_map.1 hv;exact hjV x hx) (fun v hv=>by
      obtain⟨x,hx,rfl⟩:=List.mem_map.1 hv;have e1:x.2.xs=x.1.xs:=by rw[(HPV.out x hx).eq];rfl
      have e2:x.2.kept=x.1.kept:=by rw[(HPV.out x hx).eq];rfl
      rw[(iy pv x).1,(iy pv x).2.1,e1,e2];have hx':=YD.out x hx;refine⟨hx'.AA,?_⟩;by_cases hk:x.1.kind=0
      ·have:=(hx'.plain hk).1;have:=hx'.size;omega
      ·have:=(hx'.YP hk).2;have:=hx'.size;omega) (fun v hv y hy=>by
      obtain⟨x,hx,rfl⟩:=List.mem_map.1 hv;have e1:x.2.xs=x.1.xs:=by rw[(HPV.out x hx).eq];rfl
      rw[(iy pv x).1,e1]at hy;exact((YD.out x hx).xs.2 y hy).1) ⟨by omega,fun v hv k hk=>by
      obtain⟨x,hx,rfl⟩:=List.mem_map.1 hv;rw[(iy pv x).2.2.2.2.2]at hk;have:=HG.out.new.2 x hx k hk;omega⟩
     rw[Oq pv HPV.out pv (fun x hx=>hx),HPS.out,List.length_map,hpl]at hD;have HJ5:Hid (At w5 jg 110 (pv.map fun x=>ptr x.2.vb)/\(∀x∈pv,je w5 (bf pv x))):=⟨hjA,hjV⟩
     have HFT:Hid (∀x∈pv,∀k∈x.2.foot,w0.heap.size<=k/\k<jg):=fun x hx k hk=>by
      have h1:=HG.out.new.2 x hx k hk;have hr:=HG.out.af x hx;have h2:k<w4.heap.size:=by
       simp only[aF.foot,List.mem_cons,Option.mem_toList,Option.mem_def]at hk;rcases hk with rfl|rfl|hk
       ·exact hr.aA.lt
       ·exact hr.row.lt
       ·exact(hr.KY k hk).lt
      omega
     have hjl:=hjA.lt;clear IU hs hJ S5 hR5 hT5 evs hjA hjV Wj
     go_wp2_with fail
     refine hD.mono ?_;cases hs:oz B (jG ps) count at2 with
     | error q=>
      have HE:Hid (spec=.error q):=by have:=IV.out;rw[hs]at this;exact this.symm
      rintro e w6 ⟨rfl,S6⟩;unfold bad;clear IV hs hD
      go_wp2
      refine⟨rfl,?_⟩;show kP _ _ _ _ _;rw[HE.out];exact⟨rfl,S6⟩
     | ok pr=>
      obtain⟨bl,at3⟩:=pr;have FD:Hid ((if at3=B.length then .ok (count,ps,at2) else .error at3)=spec):=by
       have:=IV.out;rw[hs]at this;exact this
      rintro e w6 ⟨hbl,ZX,db,bb,fb,d,rfl,hDG⟩;have r0:w6.cell? ⟨rd,0,none⟩=some (.slice a B.length B.length):=hDG.kE.cell.cell? 0;have r1:w6.cell? ⟨rd,1,none⟩=some (.int .i64 at3):=by rw[ZX];exact hDG.kE.cell.cell? 1
      have HDG:Hid (GV w0 w5 w6 a B rd w2.heap.size count at2 (ps.flatMap (·.xs)) (jG ps) db bb fb d):=hDG;have hlen:=HBO.out.len;have HS6:Hid (Same [] w0 w6.drew):=hDG.kE.same.drew;clear IV hs hD hbl hDG ZX;by_cases hend:at3=B.length
      ·have HE:Hid (spec=.ok (count,ps,at2)):=by have:=FD.out;rw[if_pos hend]at this;exact this.symm
       rw[hend]at r1;generalize B.length=bl0 at *;clear FD hend
       go_wp2_with fail
       refine aU 14 (by kernel_rfl) (by kernel_rfl) ?_;simp only[List.take_succ_cons,List.take_zero,List.drop_succ_cons,List.drop_zero]
       repeat still_step
       refine wpStill_nil ?_
       go_wp2_with (first|(go_at_call 134;go_fit (kN _ _);rintro e w7 ⟨rfl,hw⟩;obtain rfl:=hw.symm)|(go_at_call 43;go_fit (qW db (some ⟨jg,0,none⟩) ps.length ps.length _);rintro e w8 ⟨rfl,N8,S8⟩))
       have HF:Hid (fB w0 w8 B count at2 pv w6.heap.size db bb fb jg d):=by
        have D6:=HDG.out;have S68:Same [] w6 w8:=(Same.refl [] w6).drew.step S8 (by simp);have S58:Same [rd] w5 w8:=D6.same.step S68 (by simp);rw[<-hpl]at N8;have hd1:=D6.disk.disk.lt;have hd2:=D6.disk.data.lt;have hd3:=D6.disk.free.lt;have hn:=D6.new;refine⟨N8,S58.at HJ5.out.1 (by simp;omega),?_,?_,fun x hx=>(HJ5.out.2 x hx).same S58 (fun k hk=>?_),HPV.out,HG.out.nodup,HFT.out,⟨by omega,by omega,by omega,by omega,hd1,hd2,hd3⟩,HS6.out.step S8 (by simp)⟩
        ·rw[ZW];exact D6.disk.same S68 (by simp) (by simp) (by simp)
        ·rw[ZW];exact D6.heap
        ·rw[(iy pv x).2.2.2.2.2]at hk;have:=HG.out.new.2 x hx k hk;simp;omega
       first
        | (show kP _ _ _ _ _;rw[HE.out];exact⟨pv,_,db,bb,fb,jg,d,rfl,HPS.out,HF.out⟩)
        | (go_ret;show kP _ _ _ _ _;rw[HE.out];exact⟨pv,_,db,bb,fb,jg,d,rfl,HPS.out,HF.out⟩)
      ·have HE:Hid (spec=.error at3):=by have:=FD.out;rw[if_neg hend]at this;exact this.symm
       have ZF:((at3:Int) == (B.length:Int))=false:=beq_eq_false_iff_ne.2 (by omega);generalize B.length=bl0 at *;clear FD hend
       go_wp2_with fail
       refine aU 14 (by kernel_rfl) (by kernel_rfl) ?_;simp only[List.take_succ_cons,List.take_zero,List.drop_succ_cons,List.drop_zero]
       repeat still_step
       refine wpStill_nil ?_
       go_wp2_with (go_at_call 134;go_fit (kS at3 _);rintro e w7 ⟨rfl,hw⟩;obtain rfl:=hw.symm;unfold bad)
       refine⟨rfl,?_⟩;show kP _ _ _ _ _;rw[HE.out];exact⟨rfl,HS6.out⟩
theorem D9(q:Nat)(w:World):Calls prog 105 #[.iface 175 (.int .i64 q)] w fun e w'=>e=.returned (.int .i64 q)/\w'=w:=by
 have hnot:=bP;have hta:∀xT,(Instr.typeAssert (.iface 175 (.int .i64 q)) xT 175 true).run prog w=.ok (.tuple #[.int .i64 q,.bool true]) w:=by
  intro xT;simp[Instr.typeAssert,run_underlying underlying175,go_sem,Result.andThen]
 go_enter func105,ntmps105
 go_wp2
 go_ret
 exact⟨rfl,rfl⟩
theorem QG(b0 b1 b2:Nat)(q:Nat)(w:World)(t0 t1 t2:TypeId)(x0 x1 x2:Value)(h0:At w b0 t0 [x0])(h1:At w b1 t1 [x1])(h2:At w b2 t2 [x2])(n01:b0≠b1)(n02:b0≠b2)(n12:b1≠b2) :
 CallsD prog 104 #[.pointer (some ⟨b0,0,none⟩),.pointer (some ⟨b1,0,none⟩),.pointer (some ⟨b2,0,none⟩)] (.panicking [{ v:=.iface 175 (.int .i64 q),recovered:=false }]) w fun e u' w'=>
  e=.returned (.tuple #[])/\u'=.panicking [{ v:=.iface 175 (.int .i64 q),recovered:=true }]/\At w' b0 t0 [.pointer none]/\At w' b1 t1 [.int .i64 12]/\At w' b2 t2 [.int .i64 q]/\Same [b0,b1,b2] w w':=by
 have hP:=fun W=>D9 q W
 refine callsD_of_wpS func104 rfl fun c₀ cs hu=>?_
 apply wpS_seq;apply wpS_region;simp[wpOpsS,go_sem,recoverD,hu,ntmps104,Exit.thenS];refine wpS_of_wp ?_;show Code.wp _ _ _ { tmps:=#[.pointer (some ⟨b0,0,none⟩),.pointer (some ⟨b1,0,none⟩),.pointer (some ⟨b2,0,none⟩),.iface 175 (.int .i64 q),.iface 175 (.int .i64 q),undef,undef,undef,undef],defers:=[] } _;have c0:w.cell? ⟨b0,0,none⟩=some x0:=h0.cell? 0;have c1:w.cell? ⟨b1,0,none⟩=some x1:=h1.cell? 0;have c2:w.cell? ⟨b2,0,none⟩=some x2:=h2.cell? 0;have f0:=h0.frozen 0;have f1:=h1.frozen 0;have f2:=h2.frozen 0;have HA:Hid (At w b0 t0 [x0]/\At w b1 t1 [x1]/\At w b2 t2 [x2]):=⟨h0,h1,h2⟩
 clear h0 h1 h2
 go_wp2_with (go_at_call 105;refine(hP _).mono ?_;rintro e w3 ⟨rfl,hw⟩;obtain rfl:=hw.symm)
 obtain⟨h0,h1,h2⟩:=HA.out;have A0:=((h0.ax 0 (.pointer none)).aP b1 0 (.int .i64 12) n01).aP b2 0 (.int .i64 q) n02;have A1:=((h1.aP b0 0 (.pointer none) (Ne.symm n01)).ax 0 (.int .i64 12)).aP b2 0 (.int .i64 q) n12;have A2:=((h2.aP b0 0 (.pointer none) (Ne.symm n02)).aP b1 0 (.int .i64 12) (Ne.symm n12)).ax 0 (.int .i64 q);have S:Same [b0,b1,b2] w (((w.setCell ⟨b0,0,none⟩ (.pointer none)).setCell ⟨b1,0,none⟩ (.int .i64 12)).setCell ⟨b2,0,none⟩ (.int .i64 q)):=(((Same.refl _ _).set _ _ _ (by simp)).set _ _ _ (by simp)).set _ _ _ (by simp);generalize ((w.setCell ⟨b0,0,none⟩ (.pointer none)).setCell ⟨b1,0,none⟩ (.int .i64 12)).setCell ⟨b2,0,none⟩ (.int .i64 q)=W at *;simp[bodyPostS,results,results104];exact⟨A0,A1,A2,S⟩
theorem vJ(b0 b1 b2:Nat)(w:World) :
 CallsD prog 104 #[.pointer (some ⟨b0,0,none⟩),.pointer (some ⟨b1,0,none⟩),.pointer (some ⟨b2,0,none⟩)] .returning w fun e u' w'=>e=.returned (.tuple #[])/\u'=.returning/\w'=w:=by
 refine callsD_of_wpS func104 rfl fun c₀ cs hu=>?_
 apply wpS_seq;apply wpS_region;simp[wpOpsS,go_sem,recoverD,hu,ntmps104,Exit.thenS];apply wpS_seq;apply wpS_region;simp[wpOpsS,go_sem,hu,Exit.thenS];refine wpS_cond (t:=false) (by simp[Act.eval,Array.replicate]) ?_;simp only[Bool.false_eq_true,if_false];refine wpS_of_wp (wp_skip ?_);cases c₀
 simp_all[bodyPostS,results,results104]
def sZ(I:List UInt8):Nat:=numAt I (I.length-2) 2
theorem Dv(w:World)(a:Option Addr)(cap n:Nat)(h2:n<2) :
 Calls prog 106 #[.slice a n cap] w fun e w'=>e=.returned (.tuple #[.slice none 0 0,.int .i64 0,.bool false])/\w'=w:=by
 have l2:(n:Int)-2<0:=by omega
 go_enter func106,ntmps106
 go_wp2
 exact bodyPost_ret (v:=.tuple #[.slice none 0 0,.int .i64 0,.bool false]) (by simp[results,results106,go_sem]) rfl ⟨rfl,rfl⟩
theorem DL(w:World)(a:Option Addr)(cap:Nat)(I:List UInt8)(h:BytesAt w a I)(hl:I.length<=140737488355328)(hcap:I.length<=cap)(h2:¬I.length<2) :
 Calls prog 106 #[.slice a I.length cap] w fun e w'=>e=.returned (.tuple #[.slice a (I.length-2) (I.length-2),.int .i64 (sZ I),.bool true])/\Same [] w w':=by
 obtain⟨b,off,rfl,hc⟩:=h.ex (by intro e;rw[e]at h2;simp at h2);obtain⟨n,hn⟩:∃n,I.length=n+2:=⟨I.length-2,by omega⟩
 have c0:=hc n (by omega);have c1:=hc (n+1) (by omega);have e2:I.length-2=n:=by omega
 have he:sZ I=I[n]!.toNat*256+I[n+1]!.toNat:=by
  unfold sZ numAt;rw[e2];have:(I.drop n).take 2=[I[n]!,I[n+1]!]:=by
   rw[List.drop_eq_getElem_cons (by omega),List.drop_eq_getElem_cons (by omega),getElem!_pos I n (by omega),getElem!_pos I (n+1) (by omega)];rfl
  rw[this];simp[jl]
 rw[he,e2,hn];obtain⟨x,hx⟩:∃x,I[n]!.toNat=x:=⟨_,rfl⟩
 obtain⟨y,hy⟩:∃y,I[n+1]!.toNat=y:=⟨_,rfl⟩
 have hx8:x<256:=by rw[<-hx];exact I[n]!.toNat_lt
 have hy8:y<256:=by rw[<-hy];exact I[n+1]!.toNat_lt
 have c0':w.cell? ⟨b,off+n,none⟩=some (.int .u8 (x:Nat)):=by rw[c0,<-hx];rfl
 have c1':w.cell? ⟨b,off+(n+1),none⟩=some (.int .u8 (y:Nat)):=by rw[c1,<-hy];rfl
 rw[hx,hy];have hor:=yY x y (by omega) hy8;have l1:¬((n:Int)+2-2<0):=by omega
 rw[hn]at hl hcap;clear h hc c0 c1 he hx hy h2 e2 hn
 go_enter func106,ntmps106
 go_wp2_with fail
 go_quiet (fail)
 go_wp2
 exact bodyPost_ret (v:=.tuple #[.slice (some ⟨b,off,none⟩) n n,.int .i64 ((x:Int)*256+(y:Int)),.bool true]) (by simp[results,results106,go_sem]) rfl ⟨by rw[Int.natCast_add,Int.natCast_mul];rfl,(Same.refl _ _).drewN _⟩
def bV(I:List UInt8):List UInt8:=I.take (I.length-2)
def iV(w:World)(I:List UInt8)(e:Ending)(w':World):Prop:=
 if 2<=I.length/\sZ I=dF (bV I) then
  match iO (bV I) with
  | .ok (count,ps,at2)=>∃pv pb db bb fb jg d,e=.returned (.tuple #[.pointer (some ⟨pb,0,none⟩),.int .i64 0,.int .i64 0])/\pv.map (·.1)=ps/\fB w w' (bV I) count at2 pv pb db bb fb jg d
  | .error q=>e=.returned (.tuple #[.pointer none,.int .i64 12,.int .i64 q])/\Same [] w w'
 else e=.returned (.tuple #[.pointer none,.int .i64 11,.int .i64 0])/\Same [] w w'
theorem bD.prefix{w:World}{a:Option Addr}{I:List UInt8}(h:bD w a I)(n:Nat):bD w a (I.take n):=by
 refine⟨fun hne=>?_,by have:=h.len;simp;omega⟩;obtain⟨b,off,h1,h2,h3⟩:=h.ex (by intro e;apply hne;rw[e];simp);refine⟨b,off,h1,h2,fun i hi=>?_⟩;have hi':i<I.length:=by simp at hi;omega
 rw[h3 i hi',getElem!_pos _ i hi',getElem!_pos _ i hi,List.getElem_take]
theorem bD.bytes{w W:World}{a:Option Addr}{I:List UInt8}(h:bD w a I)(hS:Same [] w W):BytesAt W a I:=by
 refine⟨fun hne=>?_⟩;obtain⟨b,off,h1,h2,h3⟩:=h.at hS hne;exact⟨b,off,h1,h3⟩
theorem NQ(w:World)(a:Option Addr)(I:List UInt8)(cap:Nat)(h2:I.length<2) :
 Calls prog 64 #[.slice a I.length cap] w (iV w I):=by
 have hmf:∀(fn:Fn)(first cap:Array Value)(w:World),(Instr.makeFunc fn first cap).run prog w=.ok (.func fn first cap) w:=fun _ _ _ _=>rfl
 have hnot:=bP;have hSS:=fun W=>Dv W a cap I.length h2
 have HP:Hid (∀W,Same [] w W->iV w I (.returned (.tuple #[.pointer none,.int .i64 11,.int .i64 0])) W):=fun W hW=>by
  unfold iV;rw[if_neg (by omega)];exact⟨rfl,hW⟩
 generalize iV w I=R at *;generalize I.length=n at *
 go_enter_defers func64,ntmps64
 go_wp2_with (go_at_call 106;refine(hSS _).mono ?_;rintro e w3 ⟨rfl,hw⟩;obtain rfl:=hw.symm)
 refine leaves_cons (f:=104) (args:=#[.pointer (some ⟨w.heap.size,0,none⟩),.pointer (some ⟨w.heap.size+1,0,none⟩),.pointer (some ⟨w.heap.size+1+1,0,none⟩)]) (by simp) (by simp[go_sem]) ?_;refine(vJ w.heap.size (w.heap.size+1) (w.heap.size+1+1) _).mono ?_;rintro e u' w'' ⟨rfl,rfl,rfl⟩;simp[Leaves,settle,results,results64,go_sem];exact HP.out _ ((((Same.refl _ _).alloc _).alloc _).alloc _)
theorem fB.out{w w3 w6 W:World}{B:List UInt8}{count at_:Nat}{pv:List (aS×aF)}{pb db bb fb jg:Nat}{d:Array Int}(h:fB w3 w6 B count at_ pv pb db bb fb jg d){S:List Nat}(hS:Same S w6 W)(hlt:∀k∈S,k<w3.heap.size)(hw:Same [] w W)(hz:w.heap.size<=w3.heap.size):fB w W B count at_ pv pb db bb fb jg d:=by
 obtain⟨o1,o2,o3,o4,o5,o6,o7⟩:=h.ord;have far:∀k,w3.heap.size<=k->k∉S:=fun k hk hm=>by have:=hlt k hm;omega
 refine⟨hS.at h.pool (far _ (by omega)),hS.at h.arr (far _ o1),h.disk.same hS (far _ (by omega)) (far _ (by omega)) (far _ (by omega)),h.heap,fun x hx=>(h.af x hx).same hS (fun k hk=>?_),h.ent,h.nodup,fun x hx k hk=>?_,⟨by omega,o2,o3,o4,o5,o6,o7⟩,hw⟩
 ·rw[(iy pv x).2.2.2.2.2]at hk;exact far k (h.new x hx k hk).1
 ·have:=h.new x hx k hk;omega
theorem QH(w:World)(a:Option Addr)(I:List UInt8)(cap:Nat)(h:bD w a I)(hcap:I.length<=cap)(h2:¬I.length<2) :
 Calls prog 64 #[.slice a I.length cap] w (iV w I):=by
 have hmf:∀(fn:Fn)(first cap:Array Value)(w:World),(Instr.makeFunc fn first cap).run prog w=.ok (.func fn first cap) w:=fun _ _ _ _=>rfl
 have hnot:=bP;have hlen:=h.len;obtain⟨n,hn⟩:∃n,I.length=n+2:=⟨I.length-2,by omega⟩
 have hBl:(bV I).length=n:=by unfold bV;rw[List.length_take];omega
 have HSS:Hid (∀W,Same [] w W->Calls prog 106 #[.slice a (n+2) cap] W fun e w'=>e=.returned (.tuple #[.slice a n n,.int .i64 (sZ I),.bool true])/\Same [] W w'):=fun W hW=>by
  have:=DL W a cap I (h.bytes hW) hlen hcap h2;rw[hn,Nat.add_sub_cancel]at this;exact this
 have HSU:Hid (∀W,Same [] w W->Calls prog 70 #[.slice a n n] W fun e w'=>e=.returned (.int .i64 (dF (bV I)))/\w'=W):=fun W hW=>by
  have:=ER W a n (bV I) ((h.prefix _).bytes hW) (by unfold maxLen;omega);rw[hBl]at this;exact this
 have HBO:Hid (∀W,Same [] w W->bD W a (bV I)):=fun W hW=>by
  have hb:=h.prefix (I.length-2);refine⟨fun hne=>?_,hb.len⟩;obtain⟨b,off,h1,h3,h4⟩:=hb.ex hne;refine⟨b,off,h1,Nat.lt_of_lt_of_le h3 hW.size,fun i hi=>?_⟩;rw[(hW.below (Nat.le_refl _) (by simp)).cell h3];exact h4 i hi
 have HLP:Hid (∀e W,iV w I e W=(if sZ I=dF (bV I) then
  match iO (bV I) with
  | .ok (count,ps,at2)=>∃pv pb db bb fb jg d,e=.returned (.tuple #[.pointer (some ⟨pb,0,none⟩),.int .i64 0,.int .i64 0])/\pv.map (·.1)=ps/\fB w W (bV I) count at2 pv pb db bb fb jg d
  | .error q=>e=.returned (.tuple #[.pointer none,.int .i64 12,.int .i64 q])/\Same [] w W
  else e=.returned (.tuple #[.pointer none,.int .i64 11,.int .i64 0])/\Same [] w W)):=fun e W=>by
  unfold iV;by_cases he:sZ I=dF (bV I)
  ·rw[if_pos ⟨by omega,he⟩,if_pos he]
  ·rw[if_neg (fun h=>he h.2),if_neg he]
 generalize iV w I=R at *;rw[hn];generalize bV I=B at *;obtain⟨s,hs⟩:∃s,sZ I=s:=⟨_,rfl⟩
 obtain⟨t,ht⟩:∃t,dF B=t:=⟨_,rfl⟩
 rw[hs]at HSS HLP;rw[ht]at HSU HLP;have N0:=((At.new w #[.pointer none] 58).alloc (.cells #[.int .i64 0] 59)).alloc (.cells #[.int .i64 0] 3);have N1:=(At.new (w.alloc (.cells #[.pointer none] 58)) #[.int .i64 0] 59).alloc (.cells #[.int .i64 0] 3);have N2:=At.new ((w.alloc (.cells #[.pointer none] 58)).alloc (.cells #[.int .i64 0] 59)) #[.int .i64 0] 3;have S0:Same [] w (((w.alloc (.cells #[.pointer none] 58)).alloc (.cells #[.int .i64 0] 59)).alloc (.cells #[.int .i64 0] 3)):=(((Same.refl _ _).alloc _).alloc _).alloc _;have HN:Hid (At (((w.alloc (.cells #[.pointer none] 58)).alloc (.cells #[.int .i64 0] 59)).alloc (.cells #[.int .i64 0] 3)) w.heap.size 58 [.pointer none]/\At (((w.alloc (.cells #[.pointer none] 58)).alloc (.cells #[.int .i64 0] 59)).alloc (.cells #[.int .i64 0] 3)) (w.heap.size+1) 59 [.int .i64 0]/\At (((w.alloc (.cells #[.pointer none] 58)).alloc (.cells #[.int .i64 0] 59)).alloc (.cells #[.int .i64 0] 3)) (w.heap.size+1+1) 3 [.int .i64 0]/\Same [] w (((w.alloc (.cells #[.pointer none] 58)).alloc (.cells #[.int .i64 0] 59)).alloc (.cells #[.int .i64 0] 3))):=by
  simp only[World.size_alloc]at N1 N2;exact⟨N0,N1,N2,S0⟩
 clear N0 N1 N2 S0 h hs ht h2
 go_enter_defers func64,ntmps64
 go_wp2_with fail
 refine(HSS.out _ HN.out.2.2.2).mono ?_;rintro e w3 ⟨rfl,S3⟩;obtain⟨M0,M1,M2,M3⟩:At w3 w.heap.size 58 [.pointer none]/\At w3 (w.heap.size+1) 59 [.int .i64 0]/\At w3 (w.heap.size+1+1) 3 [.int .i64 0]/\Same [] w w3:=⟨S3.at HN.out.1 (by simp),S3.at HN.out.2.1 (by simp),S3.at HN.out.2.2.1 (by simp),HN.out.2.2.2.step S3 (by simp)⟩
 have c0:w3.cell? ⟨w.heap.size,0,none⟩=some (.pointer none):=M0.cell? 0;have c1:w3.cell? ⟨w.heap.size+1,0,none⟩=some (.int .i64 0):=M1.cell? 0;have c2:w3.cell? ⟨w.heap.size+1+1,0,none⟩=some (.int .i64 0):=M2.cell? 0;have f0:=M0.frozen 0;have f1:=M1.frozen 0;have f2:=M2.frozen 0;have hsz:w.heap.size+1+1<w3.heap.size:=M2.lt;have hSu:=HSU.out w3 M3;have HM:Hid (At w3 w.heap.size 58 [.pointer none]/\At w3 (w.heap.size+1) 59 [.int .i64 0]/\At w3 (w.heap.size+1+1) 3 [.int .i64 0]/\Same [] w w3):=⟨M0,M1,M2,M3⟩
 clear M0 M1 M2 M3 S3 HN;by_cases hst:s=t
 ·subst hst;have hne:((s:Int) != (s:Int))=false:=by simp
  have hRd:dV w3 (w3.alloc (.cells #[.slice a n n,.int .i64 0] 152)) a B w3.heap.size 0:=by
   refine⟨?_,Nat.le_refl _,(Same.refl _ _).alloc _,Nat.zero_le _⟩;have:=At.new w3 #[.slice a n n,.int .i64 0] 152;rw[hBl];exact this
  have Ox:=LY w3 (w3.alloc (.cells #[.slice a n n,.int .i64 0] 152)) a B w3.heap.size (HBO.out w3 HM.out.2.2.2) hRd;have HLQ:Hid (∀e W,R e W=(match iO B with
   | .ok (count,ps,at2)=>∃pv pb db bb fb jg d,e=.returned (.tuple #[.pointer (some ⟨pb,0,none⟩),.int .i64 0,.int .i64 0])/\pv.map (·.1)=ps/\fB w W B count at2 pv pb db bb fb jg d
   | .error q=>e=.returned (.tuple #[.pointer none,.int .i64 12,.int .i64 q])/\Same [] w W)):=fun e W=>by rw[HLP.out,if_pos rfl]
  clear hRd HLP;cases hr:iO B with
  | error q=>
   rw[hr]at Ox;have HP:Hid (∀W,Same [] w W->R (.returned (.tuple #[.pointer none,.int .i64 12,.int .i64 q])) W):=fun W hW=>by rw[HLQ.out,hr];exact⟨rfl,hW⟩
   clear hr HLQ
   go_wp2_with (first|(go_at_call 70;refine hSu.mono ?_;rintro e w4 ⟨rfl,hw⟩;obtain rfl:=hw.symm)|(go_at_call 107;refine Ox.mono ?_;rintro e w5 ⟨rfl,S5⟩;unfold bad))
   refine leaves_cons (f:=104) (args:=#[.pointer (some ⟨w.heap.size,0,none⟩),.pointer (some ⟨w.heap.size+1,0,none⟩),.pointer (some ⟨w.heap.size+1+1,0,none⟩)]) (by simp) (by simp[go_sem]) ?_;refine(QG w.heap.size (w.heap.size+1) (w.heap.size+1+1) q _ _ _ _ _ _ _ (S5.at HM.out.1 (by simp)) (S5.at HM.out.2.1 (by simp)) (S5.at HM.out.2.2.1 (by simp)) (by omega) (by omega) (by omega)).mono ?_;rintro e u' w'' ⟨rfl,rfl,A0,A1,A2,S6⟩;have d0:w''.cell? ⟨w.heap.size,0,none⟩=some (.pointer none):=A0.cell? 0;have d1:w''.cell? ⟨w.heap.size+1,0,none⟩=some (.int .i64 12):=A1.cell? 0;have d2:w''.cell? ⟨w.heap.size+1+1,0,none⟩=some (.int .i64 q):=A2.cell? 0;simp[Leaves,settle,results,results64,go_sem,d0,d1,d2];exact HP.out _ ((HM.out.2.2.2.step S5 (by simp)).step S6 (by simp;omega))
  | ok pr=>
   obtain⟨count,ps,at2⟩:=pr;rw[hr]at Ox;have HP:Hid (∀W pv pb db bb fb jg d,pv.map (·.1)=ps->fB w W B count at2 pv pb db bb fb jg d->R (.returned (.tuple #[.pointer (some ⟨pb,0,none⟩),.int .i64 0,.int .i64 0])) W):=fun W pv pb db bb fb jg d h1 h2=>by rw[HLQ.out,hr];exact⟨pv,pb,db,bb,fb,jg,d,rfl,h1,h2⟩
   clear hr HLQ
   go_wp2_with (first|(go_at_call 70;refine hSu.mono ?_;rintro e w4 ⟨rfl,hw⟩;obtain rfl:=hw.symm)|(go_at_call 107;refine Ox.mono ?_;rintro e w5 ⟨pv,pb,db,bb,fb,jg,d,rfl,hps,hraw⟩;have HRW:Hid (pv.map (·.1)=ps/\fB w3 w5 B count at2 pv pb db bb fb jg d):=⟨hps,hraw⟩;have k0:w5.cell? ⟨w.heap.size,0,none⟩=some (.pointer none):=(hraw.same.at HM.out.1 (by simp)).cell? 0;have k1:w5.cell? ⟨w.heap.size+1,0,none⟩=some (.int .i64 0):=(hraw.same.at HM.out.2.1 (by simp)).cell? 0;have k2:w5.cell? ⟨w.heap.size+1+1,0,none⟩=some (.int .i64 0):=(hraw.same.at HM.out.2.2.1 (by simp)).cell? 0;have g0:=(hraw.same.at HM.out.1 (by simp)).frozen 0;have g1:=(hraw.same.at HM.out.2.1 (by simp)).frozen 0;have g2:=(hraw.same.at HM.out.2.2.1 (by simp)).frozen 0;clear hps hraw))
   refine leaves_cons (f:=104) (args:=#[.pointer (some ⟨w.heap.size,0,none⟩),.pointer (some ⟨w.heap.size+1,0,none⟩),.pointer (some ⟨w.heap.size+1+1,0,none⟩)]) (by simp) (by simp[go_sem]) ?_;refine(vJ w.heap.size (w.heap.size+1) (w.heap.size+1+1) _).mono ?_;rintro e u' w'' ⟨rfl,rfl,rfl⟩;simp[Leaves,settle,results,results64,go_sem,k0,k1,k2];have SF:Same [w.heap.size,w.heap.size+1,w.heap.size+1+1] w5 (((w5.setCell ⟨w.heap.size,0,none⟩ (.pointer (some ⟨pb,0,none⟩))).setCell ⟨w.heap.size+1,0,none⟩ (.int .i64 0)).setCell ⟨w.heap.size+1+1,0,none⟩ (.int .i64 0)):=(((Same.refl _ _).set _ _ _ (by simp)).set _ _ _ (by simp)).set _ _ _ (by simp);exact HP.out _ _ _ _ _ _ _ _ HRW.out.1 (HRW.out.2.out SF (by intro k hk;simp at hk;omega) ((HM.out.2.2.2.step HRW.out.2.same (by simp)).step SF (by simp;omega)) (by omega))
 ·have hne:((s:Int) != (t:Int))=true:=by simp;omega
  have HP:Hid (∀W,Same [] w W->R (.returned (.tuple #[.pointer none,.int .i64 11,.int .i64 0])) W):=fun W hW=>by
   rw[HLP.out,if_neg hst];exact⟨rfl,hW⟩
  clear hst
  go_wp2_with (go_at_call 70;refine hSu.mono ?_;rintro e w4 ⟨rfl,hw⟩;obtain rfl:=hw.symm)
  refine leaves_cons (f:=104) (args:=#[.pointer (some ⟨w.heap.size,0,none⟩),.pointer (some ⟨w.heap.size+1,0,none⟩),.pointer (some ⟨w.heap.size+1+1,0,none⟩)]) (by simp) (by simp[go_sem]) ?_;refine(vJ w.heap.size (w.heap.size+1) (w.heap.size+1+1) _).mono ?_;rintro e u' w'' ⟨rfl,rfl,rfl⟩;simp[Leaves,settle,results,results64,go_sem,c0,c1,c2];exact HP.out _ (((HM.out.2.2.2.set _ _ _ (by omega)).set _ _ _ (by omega)).set _ _ _ (by omega))
theorem MW(w:World)(a:Option Addr)(I:List UInt8)(cap:Nat)(h:bD w a I)(hcap:I.length<=cap) :
 Calls prog 64 #[.slice a I.length cap] w (iV w I):=by
 by_cases h2:I.length<2
 ·exact NQ w a I cap h2
 ·exact QH w a I cap h hcap h2
theorem J6{B:List UInt8}{U:List Nat}{at_:Nat}:∀(f k:Nat),lU B U at_ f k=.ok ()->∀j,k<=j->j<k+f->j∈U\/kZ B (at_+j*8)=aN.zero
 | 0,k,_,j,h1,h2=>by omega
 | f+1,k,h,j,h1,h2=>by
  unfold lU at h;by_cases hk:k∈U\/kZ B (at_+k*8)=aN.zero
  ·rw[if_pos hk]at h;by_cases e:j=k
   ·subst e;exact hk
   ·exact J6 f (k+1) h j (by omega) (by omega)
  ·rw[if_neg hk]at h;cases h
theorem CJ(ps:List aS):∀(l:List aS),jh ps l=.ok ()->∀p∈l,p.kind≠0->ps[p.origin]!.kind=0/\ps[p.origin]!.size=p.size
 | [],_,p,hp,_=>by simp at hp
 | q::r,h,p,hp,hk=>by
  unfold jh at h;by_cases h0:q.kind=0
  ·rw[if_pos h0]at h;rcases List.mem_cons.1 hp with rfl|hp
   ·exact absurd h0 hk
   ·exact CJ ps r h p hp hk
  ·rw[if_neg h0]at h;by_cases h1:ps[q.origin]!.kind=0/\ps[q.origin]!.size=q.size
   ·rw[if_pos h1]at h;rcases List.mem_cons.1 hp with rfl|hp
    ·exact h1
    ·exact CJ ps r h p hp hk
   ·rw[if_neg h1]at h;cases h
structure pF(B:List UInt8)(count:Nat)(ps:List aS)(at2:Nat):Prop where
 cnt:1<=count/\count<=200
 sD:mG ps.length count ps
 few:ps.length<=20
 join:∀p∈ps,p.kind≠0->ps[p.origin]!.kind=0/\ps[p.origin]!.size=p.size
 free:∀j,j<count->j∈jG ps\/kZ B (at2+j*8)=aN.zero
 len:at2+count*8=B.length
theorem vP{B:List UInt8}{count:Nat}{ps:List aS}{at2:Nat}(h:iO B=.ok (count,ps,at2)):pF B count ps at2:=by
 unfold iO at h;cases hs:gX B 4 0 with
 | error q=>rw[hs]at h;cases h
 | ok at0=>
  rw[hs]at h;simp only at h;cases hs:bJ B 2 1 200 at0 with
  | error q=>rw[hs]at h;cases h
  | ok pr=>
   obtain⟨c,at1⟩:=pr;rw[hs]at h;simp only at h;have hc:=dJ hs;cases hl:mP B c at1 with
   | error q=>rw[hl]at h;cases h
   | ok pr=>
    obtain⟨qs,a2⟩:=pr;rw[hl]at h;simp only at h;cases hj:jh qs qs with
    | error q=>rw[hj]at h;cases h
    | ok uu=>
     rw[hj]at h;simp only at h;cases hd:oz B (jG qs) c a2 with
     | error q=>rw[hd]at h;cases h
     | ok pr=>
      obtain⟨bl,a3⟩:=pr;rw[hd]at h;simp only at h;by_cases he:a3=B.length
      ·rw[if_pos he]at h;simp only[Except.ok.injEq,Prod.mk.injEq]at h;obtain⟨rfl,rfl,rfl⟩:=h;have heo:mG qs.length c qs/\qs.length<=20:=by
        unfold mP at hl;cases hs1:bJ B 1 0 20 at1 with
        | error q=>rw[hs1]at hl;cases hl
        | ok pr=>
         obtain⟨m,b2⟩:=pr;rw[hs1]at hl;simp only at hl;have Ti:=(dJ hs1).2.2.1;rcases Nat.eq_zero_or_pos m with rfl|hcp
         ·simp only[fF,Except.ok.injEq,Prod.mk.injEq]at hl;rw[<-hl.1];exact⟨⟨by simp,by simp,by simp⟩,by simp⟩
         ·have:=wo hc.2.1 hcp m [] b2 qs a2 hl ⟨by simp,by simp,by simp⟩;have e:qs.length=m:=by simpa using this.2
          rw[e];exact⟨this.1,Ti⟩
       unfold oz at hd;by_cases hle:a2+c*8<=B.length
       ·rw[if_pos hle]at hd;cases hf:lU B (jG qs) a2 c 0 with
        | error q=>rw[hf]at hd;cases hd
        | ok uu=>
         rw[hf]at hd;simp only[Except.ok.injEq,Prod.mk.injEq]at hd;exact⟨⟨hc.2.1,hc.2.2.1⟩,heo.1,heo.2,CJ qs qs hj,fun j hj=>J6 c 0 hf j (by omega) (by omega),by rw[hd.2];exact he⟩
       ·rw[if_neg hle]at hd;cases hd
      ·rw[if_neg he]at h;cases h
def jY(pv:List (aS×aF))(pb db bb fb jg count:Nat)(B:List UInt8)(at_:Nat)(d:Array Int):St:=⟨pb,db,bb,fb,some jg,count,(bG (ja pv) count).length,fQ B at_ count,d,pv.map (bf pv)⟩
theorem tJ(B:List UInt8)(at_ n j:Nat)(h:j<n):(fQ B at_ n)[j]! = kZ B (at_+j*8):=by
 unfold fQ;rw[getElem!_pos _ j (by simpa using h)];simp
theorem G9(B:List UInt8)(at_ n:Nat):(fQ B at_ n).length=n:=by simp[fQ]
structure JV(pv:List (aS×aF))(x:aS×aF)(v:aF):Prop where
 name:v.name=x.1.name
 xs:v.xs=x.1.xs
 kept:v.kept=x.1.kept
 lost:v.lost=decide (x.1.kind=2)
 none:v.org=none↔x.1.kind=0
 some:∀o,v.org=some o->x.1.kind≠0/\o=pv[x.1.origin]!.2.vb
 vb:v.vb=x.2.vb
 foot:v.foot=x.2.foot
theorem jK{pv:List (aS×aF)}{x:aS×aF}(h:PV x):JV pv x (bf pv x):=by
 have e1:x.2.xs=x.1.xs:=by rw[h.eq];rfl
 have e2:x.2.kept=x.1.kept:=by rw[h.eq];rfl
 have e3:x.2.org=none:=by rw[h.eq];rfl
 have e4:x.2.name=x.1.name:=by rw[h.eq];rfl
 have e5:x.2.lost=decide (x.1.kind=2):=by rw[h.eq];rfl
 obtain⟨a1,a2,a3,a4,a5,a6⟩:=iy pv x;have hn:(bf pv x).name=x.2.name/\(bf pv x).lost=x.2.lost:=by unfold bf;split<;>simp
 refine⟨by rw[hn.1,e4],by rw[a1,e1],by rw[a2,e2],by rw[hn.2,e5],?_,?_,a3,a6⟩
 ·unfold bf;by_cases hk:x.1.kind=0<;>simp[hk,e3]
 ·intro o ho;unfold bf at ho;by_cases hk:x.1.kind=0
  ·simp[hk,e3]at ho
  ·rw[if_neg hk]at ho;exact⟨hk,(Option.some.inj ho).symm⟩
theorem PD(ps:List aS):∀x∈jG ps,x∈ps.flatMap (·.xs):=fun x hx=>by
 obtain⟨p,hp,hx⟩:=List.mem_flatMap.1 hx;exact List.mem_flatMap.2 ⟨p,hp,List.mem_of_mem_take hx⟩
theorem MX(pv:List (aS×aF))(h:∀x∈pv,PV x)(l:List (aS×aF))(hl:∀x∈l,x∈pv):(l.map (bf pv)).flatMap (·.xs)=ja l:=by
 unfold ja
 induction l with
 | nil=>rfl
 | cons x r ih=>
  rw[List.map_cons,List.map_cons,List.flatMap_cons,List.flatMap_cons,ih (fun y hy=>hl y (by simp[hy])),(jK (h x (hl x (by simp)))).xs]
theorem Bf(pv l:List (aS×aF)):(l.map (bf pv)).flatMap aF.foot=l.flatMap fun x=>x.2.foot:=by
 induction l with
 | nil=>rfl
 | cons x r ih=>rw[List.map_cons,List.flatMap_cons,List.flatMap_cons,ih,(iy pv x).2.2.2.2.2]
theorem uj(pv:List (aS×aF))(i:Nat)(h:i<pv.length):(pv.map (·.1))[i]! = pv[i]!.1/\pv[i]!∈pv:=by
 rw[getElem!_pos pv i h,getElem!_pos _ i (by simpa using h)];exact⟨by simp,List.getElem_mem h⟩
theorem vI(L:List Nat)(n x:Nat):x∈bG L n↔x<n/\x∉L:=by simp[bG]
theorem vU(L:List Nat)(n:Nat):(bG L n).Nodup:=List.nodup_range.filter _
theorem yT{B:List UInt8}{count at_:Nat}{pv:List (aS×aF)}(hr:pF B count (pv.map (·.1)) at_):∀x∈bG (ja pv) count,x<(fQ B at_ count).length/\(fQ B at_ count)[x]! = aN.zero:=fun x hx=>by
 obtain⟨h1,h2⟩:=(vI _ _ _).1 hx;rw[G9,tJ B at_ count x h1];exact⟨h1,(hr.free x h1).resolve_left fun hu=>h2 (PD _ x hu)⟩
theorem rV{w w':World}{B:List UInt8}{count at_:Nat}{pv:List (aS×aF)}{pb db bb fb jg:Nat}{d:Array Int}(h:fB w w' B count at_ pv pb db bb fb jg d)(hr:pF B count (pv.map (·.1)) at_) :
 ai w' (jY pv pb db bb fb jg count B at_ d):=by
 have hjv:∀x∈pv,JV pv x (bf pv x):=fun x hx=>jK (h.ent x hx)
 have hok:∀x∈pv,xX (pv.map (·.1)).length count [] x.1:=fun x hx=>hr.sD.all x.1 (List.mem_map.2 ⟨x,hx,rfl⟩)
 have hfew:pv.length<=20:=by have:=hr.few;simpa using this
 have hgB:=vG (bG (ja pv) count) (fQ B at_ count) (yT hr);have hD:=h.disk;rw[hgB]at hD;obtain⟨o1,o2,o3,o4,o5,o6,o7⟩:=h.ord;refine⟨⟨pv.length,?_,?_,?_⟩,?_,hD,?_,?_,?_,?_,?_⟩
 ·show At w' pb _ [ptr pb,ptr db,.slice (some ⟨jg,0,none⟩) (pv.map (bf pv)).length pv.length];rw[List.length_map];exact h.pool
 ·show(pv.map (bf pv)).length<=pv.length;rw[List.length_map];exact Nat.le_refl _
 ·intro e;cases e
 ·intro b hb;cases hb;refine⟨_,h.arr,?_,?_⟩
  ·show(pv.map fun x=>ptr x.2.vb).take (pv.map (bf pv)).length=(pv.map (bf pv)).map fun v=>ptr v.vb
   rw[List.take_of_length_le (by simp),List.map_map];apply List.map_congr_left;intro x hx;simp[(hjv x hx).vb]
  ·show(pv.map (bf pv)).length<=_;simp
 ·intro v hv;obtain⟨x,hx,rfl⟩:=List.mem_map.1 hv;have hraw:=h.af x hx;have j:=hjv x hx;have o:=hok x hx;have hxl:(bf pv x).xs.length<=200/\1<=(bf pv x).xs.length:=by
   rw[j.xs];by_cases hk:x.1.kind=0
   ·have:=(o.plain hk).1;have:=o.size;omega
   ·have:=o.YP hk;have:=o.size;omega
  have hkl:(bf pv x).kept.length<=(bf pv x).xs.length:=by rw[j.kept,j.xs];exact o.AA
  refine⟨⟨_,_,Nat.le_refl _,hraw.aA,fun hk=>⟨hraw.Oy hk,by rw[hraw.Oy hk];rfl⟩,fun g hg=>⟨_,hraw.KY g hg,by simp,by rw[List.take_of_length_le (by simp)],Nat.le_refl _,by unfold maxLen;omega⟩⟩,⟨_,hraw.row,by rw[List.take_of_length_le (by simp)],by simp⟩,?_,?_,hxl.1,hkl,?_⟩
  ·rw[j.foot];have hp:=h.nodup;rw[List.Nodup,List.pairwise_flatMap]at hp;exact hp.1 x hx
  ·intro e;rw[e]at hxl;simp at hxl
  ·intro ho;have hk:=j.none.1 ho;refine⟨?_,by rw[j.lost,hk];rfl⟩;rw[(iy pv x).2.2.2.2.1];exact(h.ent x hx).plain hk
 ·show(pb::db::bb::fb::((some jg).toList++(pv.map (bf pv)).flatMap aF.foot)).Nodup;rw[Bf];have hf:∀k∈pv.flatMap (fun x=>x.2.foot),k<jg:=fun k hk=>by
   obtain⟨x,hx,hk⟩:=List.mem_flatMap.1 hk;exact(h.new x hx k hk).2
  have n1:=hD.ne1;have n2:=hD.Sm;have n3:=hD.MC;have far:∀q,jg<q->q∉(some jg).toList++pv.flatMap (fun x=>x.2.foot):=fun q hq hm=>by
   rcases List.mem_append.1 hm with hm|hm
   ·simp at hm;omega
   ·have:=hf q hm;omega
  refine List.nodup_cons.2 ⟨?_,List.nodup_cons.2 ⟨?_,List.nodup_cons.2 ⟨?_,List.nodup_cons.2 ⟨far fb o4,?_⟩⟩⟩⟩
  ·intro hm;rcases List.mem_cons.1 hm with hm|hm
   ·omega
   rcases List.mem_cons.1 hm with hm|hm
   ·omega
   rcases List.mem_cons.1 hm with hm|hm
   ·omega
   ·exact far pb (by omega) hm
  ·intro hm;rcases List.mem_cons.1 hm with hm|hm
   ·exact n1 hm
   rcases List.mem_cons.1 hm with hm|hm
   ·exact n2 hm
   ·exact far db o2 hm
  ·intro hm;rcases List.mem_cons.1 hm with hm|hm
   ·exact n3 hm
   ·exact far bb o3 hm
  ·show(jg::pv.flatMap fun x=>x.2.foot).Nodup;exact List.nodup_cons.2 ⟨fun hm=>by have:=hf jg hm;omega,h.nodup⟩
 ·show(pv.map (bf pv)).length<=20;rw[List.length_map];exact hfew
 ·show(pv.map (bf pv)).Pairwise fun a b=>bW a.name b.name<0
  rw[List.pairwise_map];have hs:=hr.sD.sorted;rw[List.pairwise_map]at hs;refine List.Pairwise.imp_of_mem ?_ hs;intro x y hx hy hc;rw[(hjv x hx).name,(hjv y hy).name];exact hc
 ·intro v hv o ho;obtain⟨x,hx,rfl⟩:=List.mem_map.1 hv;obtain⟨hk,rfl⟩:=(hjv x hx).some o ho;have hol:x.1.origin<pv.length:=by have:=(hok x hx).org hk;simpa using this
  obtain⟨e1,e2⟩:=uj pv x.1.origin hol;refine⟨bf pv pv[x.1.origin]!,List.mem_map.2 ⟨_,e2,rfl⟩,(hjv _ e2).vb,(hjv _ e2).none.2 ?_⟩;have:=(hr.join x.1 (List.mem_map.2 ⟨x,hx,rfl⟩) hk).1;rw[e1]at this;exact this
end
section
open Go.RowKit Go.Sort
variable [DecidableEq aN] [Inhabited aN] [Inhabited aF] [Inhabited aS] [Inhabited ay] [Inhabited aV]
theorem TW(n:Nat):∀(l:List Nat),l.Nodup->(∀x∈l,x<n)->l.length<=n:=by
 induction n with
 | zero=>
  intro l _ h;cases l with
  | nil=>exact Nat.le_refl _
  | cons a r=>have:=h a (by simp);omega
 | succ n ih=>
  intro l hn h;by_cases hm:n∈l
  ·have h1:=ih (l.erase n) (hn.erase n) (fun x hx=>by
    have h2:=(hn.mem_erase_iff).1 hx;have:=h x h2.2;have:=h2.1;omega)
   rw[List.length_erase_of_mem hm]at h1;omega
  ·have:=ih l hn (fun x hx=>by
    have:=h x hx;have:x≠n:=fun e=>hm (by rw[<-e];exact hx)
    omega)
   omega
theorem BZ{w:World}{base:Nat}{v:Value}{l:List Nat}(h:w.ownsRow base 3 1 v l.length (bK l)):(v=.slice none 0 0/\l=[])\/∃g cap,v=.slice (some ⟨g,0,none⟩) l.length cap/\base<=g/\fD w g cap l:=by
 rcases h.2 with⟨h1,h2⟩|⟨g,cap,cur,h1,h2,h3,h4,h5,h6,h7⟩
 ·exact Or.inl ⟨h1,List.length_eq_zero_iff.1 h2⟩
 ·exact Or.inr ⟨g,cap,h1,h2,⟨cur.toList,by show _=_;rw[h3],by simpa using h6,by rw[Nat.mul_one]at h7;exact h7,h4,h5⟩⟩
theorem WW(xs:List aV)(j:Nat)(hj:j<xs.length):(gG xs 0)[j]! = ⟨#[]⟩:=by
 unfold gG;rw[getElem!_pos _ j (by simpa using hj)];simp
theorem xG(xs:List aV)(j:Nat)(hj:j<xs.length):(List.replicate xs.length ((.slice none 0 0,[]):Value×List ByteArray))[j]! = (.slice none 0 0,[]):=by
 rw[getElem!_pos _ j (by simpa using hj),List.getElem_replicate]
theorem JX(xs:List aV)(x:aV)(j:Nat)(hj:j<(xs++[x]).length):(j<xs.length/\(xs++[x])[j]! = xs[j]!)\/(j=xs.length/\(xs++[x])[j]! = x):=by
 rcases Nat.lt_or_ge j xs.length with h|h
 ·left
  refine⟨h,?_⟩;rw[getElem!_pos _ j hj,List.getElem_append_left h,getElem!_pos _ j h]
 ·right
  simp only[List.length_append,List.length_singleton]at hj;obtain rfl:j=xs.length:=by omega
  refine⟨rfl,?_⟩;rw[getElem!_pos _ _ (by simp)];simp
theorem Rows.snoc{w:World}{base:Nat}{xs:List aV}(h:Rows w base xs (gG xs 0) (List.replicate xs.length (.slice none 0 0,[])))(x:aV)(hf:Dl w x)(hv:At w x.vb 118 (x.cells ⟨#[]⟩ (.slice none 0 0)))(hn:x.foot.Nodup)(hd:∀q∈x.foot,∀y∈xs,q∉y.foot)(hl:∀q∈x.foot,q<base) :
 Rows w base (xs++[x]) (gG (xs++[x]) 0) (List.replicate (xs++[x]).length (.slice none 0 0,[])):=by
 refine⟨fun j hj=>?_,fun j hj=>?_,fun j hj=>?_,fun j k hj hk hne g hg=>?_,?_,fun y hy q hq=>?_,by simp[gG],by simp⟩
 ·rcases JX xs x j hj with⟨h1,h2⟩|⟨h1,h2⟩
  ·rw[h2];exact h.fix j h1
  ·rw[h2];exact hf
 ·rw[WW _ j hj,xG _ j hj];rcases JX xs x j hj with⟨h1,h2⟩|⟨h1,h2⟩
  ·rw[h2];have:=h.aA j h1;rw[WW _ j h1,xG _ j h1]at this;exact this
  ·rw[h2];exact hv
 ·rw[xG _ j hj];exact World.ownsRow_nil _ _ _ _
 ·rw[xG _ j hj]at hg;cases hg
 ·rw[List.flatMap_append,List.nodup_append];refine⟨h.nodup,by simpa using hn,fun a ha b hb hab=>?_⟩;subst hab;obtain⟨y,hy,hq⟩:=List.mem_flatMap.1 ha;exact hd a (by simpa using hb) y hy hq
 ·rcases List.mem_append.1 hy with hy|hy
  ·exact h.low y hy q hq
  ·rw[List.mem_singleton.1 hy]at hq;exact hl q hq
structure sN(w0 wr:World)(sb rb base:Nat)(B:List UInt8)(n at_:Nat)(U:List Nat)(xs ls pl:List aV)(lv uv pv:Value):Prop where
 sc:bY w0 wr sb B at_ none
 rows:Rows wr wr.heap.size xs (gG xs 0) (List.replicate xs.length (.slice none 0 0,[]))
 new:∀x∈xs,∀q∈x.foot,base<=q
 pool:At wr rb 84 [.int .i64 (n:Int),pv]
 l:wr.ownsRow base 159 1 lv ls.length (ls.map fun x=>ptr x.eb)
 u:wr.ownsRow base 3 1 uv U.length (bK U)
 p:wr.ownsRow base 115 1 pv pl.length (pl.map fun x=>ptr x.vb)
 al:∀g,lv.ownBlock=some g->(∀x∈xs,g∉x.foot)/\uv.ownBlock≠some g/\pv.ownBlock≠some g
 au:∀g,uv.ownBlock=some g->(∀x∈xs,g∉x.foot)/\pv.ownBlock≠some g
 ap:∀g,pv.ownBlock=some g->∀x∈xs,g∉x.foot
 OM:sb<base
 OO:rb<base/\rb≠sb/\w0.heap.size<=rb
 bl:base<=wr.heap.size/\w0.heap.size<=base
theorem sN.fr{w0 wr:World}{sb rb base:Nat}{B:List UInt8}{n at_:Nat}{U:List Nat}{xs ls pl:List aV}{lv uv pv:Value}(h:sN w0 wr sb rb base B n at_ U xs ls pl lv uv pv){w':World}{S:List Nat}(hS:Same S wr w')(hs:∀q∈S,q=sb\/(base<=q/\∀x∈xs,q∉x.foot)\/q=rb):Rows w' w'.heap.size xs (gG xs 0) (List.replicate xs.length (.slice none 0 0,[])):=by
 refine Rows.raise (h.rows.same hS fun q hq=>⟨fun x hx hqx=>?_,fun j hj=>?_⟩) hS.size
 ·have h1:=h.new x hx q hqx;rcases hs q hq with e|e|e
  ·have:=h.OM;omega
  ·exact e.2 x hx hqx
  ·have:=h.OO.1;omega
 ·rw[xG _ j hj];exact fun e=>by cases e
theorem sN.entry{w0 wr w1:World}{sb rb base:Nat}{B:List UInt8}{n at_ at1:Nat}{U:List Nat}{xs ls pl:List aV}{lv uv pv:Value}(h:sN w0 wr sb rb base B n at_ U xs ls pl lv uv pv)(p:aS)(hp:1<=p.xs.length){mg bv kv:Value}(hE:LH w0 wr w1 sb base B uv mg bv kv (p.ref,U++p.xs,at1,none)) :
 ∃x:aV,x.e=p.ref/\x.eb=wr.heap.size+1/\x.vb=wr.heap.size/\sN w0 w1 sb rb base B n at1 (U++p.xs) (xs++[x]) ls pl lv mg pv:=by
 obtain⟨hb,hk,r1,r2,r3,r4,r5,r6⟩:=hE.rows;have hbl:=h.bl;have hS:=hE.same;have hsz:=hS.size;have hsub:∀q∈sb::uv.ownBlock.toList,q=sb\/(base<=q/\∀x∈xs,q∉x.foot)\/q=rb:=fun q hq=>by
  rcases List.mem_cons.1 hq with e|e
  ·exact Or.inl e
  ·have e:uv.ownBlock=some q:=by simpa using e
   exact Or.inr (Or.inl ⟨aI h.u q e,(h.au q e).1⟩)
 have hR:=h.fr hS hsub;obtain⟨bg,bc,e1,e2,e3⟩:∃g cap,bv=.slice (some ⟨g,0,none⟩) p.xs.length cap/\hb<=g/\fD w1 g cap p.xs:=by
  rcases BZ r3 with⟨_,e⟩|e
  ·exfalso
   have e:p.xs=[]:=e;rw[e]at hp;simp at hp
  ·exact e
 obtain⟨kg,kc,f1,f2,f3,f4⟩:∃(kg:Option Nat)(kc:Nat),kv=.slice (kg.map fun g=>⟨g,0,none⟩) p.kept.length kc/\(∀g,kg=some g->hk<=g)/\(kg=none->p.kept=[]/\kc=0)/\∀g,kg=some g->fD w1 g kc p.kept:=by
  rcases BZ r6 with⟨k1,k2⟩|⟨g,cap,k1,k2,k3⟩
  ·have k2:p.kept=[]:=k2;exact⟨none,0,(by rw[k1,k2];rfl),fun g hg=>(by cases hg),fun _=>⟨k2,rfl⟩,fun g hg=>(by cases hg)⟩
  ·exact⟨some g,cap,k1,fun g' hg'=>(by cases hg';exact k2),fun hg'=>(by cases hg'),fun g' hg'=>(by cases hg';exact k3)⟩
 have hbgl:bg<hk:=r5 bg (by rw[e1];rfl);have hvl:=hE.aA.lt;have hel:=hE.ent.lt;have hbl1:bg<w1.heap.size:=by obtain⟨cs,hc,_⟩:=e3.ex;exact hc.lt
 have aa4:∀g,kg=some g->g<w1.heap.size:=fun g hg=>by obtain⟨cs,hc,_⟩:=(f4 g hg).ex;exact hc.lt
 refine⟨⟨p.ref,wr.heap.size+1,wr.heap.size,bg,bc,kg,kc⟩,rfl,rfl,rfl,?_⟩;have kW:∀q∈(⟨p.ref,wr.heap.size+1,wr.heap.size,bg,bc,kg,kc⟩:aV).foot,wr.heap.size<=q/\q<w1.heap.size/\(q=wr.heap.size+1\/q=wr.heap.size\/hb<=q):=fun q hq=>by
  simp only[aV.foot,List.mem_cons,Option.mem_toList,Option.mem_def]at hq;rcases hq with e|e|e|e
  ·exact⟨by omega,by omega,by omega⟩
  ·exact⟨by omega,by omega,by omega⟩
  ·exact⟨by omega,by omega,by omega⟩
  ·have a1:=f2 q e;have a2:=aa4 q e;exact⟨by omega,by omega,by omega⟩
 have hold:∀y∈xs,∀q∈y.foot,q<wr.heap.size:=h.rows.low;have hown:∀{e:TypeId} {v:Value} {m:Nat} {l:List Value},wr.ownsRow base e 1 v m l->(∀g,v.ownBlock=some g->uv.ownBlock≠some g)->w1.ownsRow base e 1 v m l:=fun hw hne=>aG hw hS fun g hg hq=>by
  rcases List.mem_cons.1 hq with e|e
  ·have:=aI hw g hg;have:=h.OM;omega
  ·exact hne g hg (by simpa using e)
 have hcells:∀{e:TypeId} {v:Value} {m:Nat} {l:List Value},wr.ownsRow base e 1 v m l->∀g,v.ownBlock=some g->g<wr.heap.size:=fun hw g hg=>(hw.lt g hg).2
 refine⟨hE.sc,?_,?_,?_,?_,hE.all,?_,?_,?_,?_,h.OM,h.OO,⟨by omega,hbl.2⟩⟩
 ·refine hR.snoc _ ⟨hE.ent,e3,f3,f4⟩ ?_ ?_ ?_ ?_
  ·have:=hE.aA;rw[e1,f1]at this;exact this
  ·simp only[aV.foot,List.nodup_cons,List.mem_cons,not_or];refine⟨⟨by omega,by omega,fun hq=>?_⟩,⟨by omega,fun hq=>?_⟩,fun hq=>?_,by cases kg<;>simp⟩
   all_goals
    have:=f2 _ (by simpa using hq);omega
  ·intro q hq y hy hqy;have:=hold y hy q hqy;have:=(kW q hq).1;omega
  ·intro q hq;exact(kW q hq).2.1
 ·intro y hy q hq;rcases List.mem_append.1 hy with hy|hy
  ·exact h.new y hy q hq
  ·rw[List.mem_singleton.1 hy]at hq;have:=(kW q hq).1;omega
 ·exact hS.at h.pool fun hq=>by
   rcases List.mem_cons.1 hq with e|e
   ·exact h.OO.2.1 e
   ·have:=aI h.u rb (by simpa using e);have:=h.OO.1;omega
 ·exact hown h.l fun g hg=>(h.al g hg).2.1
 ·exact hown h.p fun g hg hu=>(h.au g hu).2 hg
 ·intro g hg;have hgl:=hcells h.l g hg;refine⟨fun y hy hq=>?_,fun hu=>?_,(h.al g hg).2.2⟩
  ·rcases List.mem_append.1 hy with hy|hy
   ·exact(h.al g hg).1 y hy hq
   ·rw[List.mem_singleton.1 hy]at hq;have:=(kW g hq).1;omega
  ·rcases hE.lies with e|⟨g',e,hg'⟩
   ·rw[e]at hu;exact(h.al g hg).2.1 hu
   ·rw[e]at hu;cases hu;omega
 ·intro g hg;rcases hE.lies with e|⟨g',e,hg'⟩
  ·rw[e]at hg;have hgl:=hcells h.u g hg;refine⟨fun y hy hq=>?_,(h.au g hg).2⟩;rcases List.mem_append.1 hy with hy|hy
   ·exact(h.au g hg).1 y hy hq
   ·rw[List.mem_singleton.1 hy]at hq;have:=(kW g hq).1;omega
  ·have h2:=r2 g hg;rw[e]at hg;cases hg;refine⟨fun y hy hq=>?_,fun hpv=>?_⟩
   ·rcases List.mem_append.1 hy with hy|hy
    ·have:=hold y hy _ hq;omega
    ·rw[List.mem_singleton.1 hy]at hq;have:=(kW _ hq).2.2;omega
   ·have:=hcells h.p _ hpv;omega
 ·intro g hg y hy hq;have hgl:=hcells h.p g hg;rcases List.mem_append.1 hy with hy|hy
  ·exact h.ap g hg y hy hq
  ·rw[List.mem_singleton.1 hy]at hq;have:=(kW g hq).1;omega
theorem sN.aas{w0 wr w2:World}{sb rb base:Nat}{B:List UInt8}{n at_:Nat}{U:List Nat}{xs ls pl ls':List aV}{lv uv pv lv':Value}(h:sN w0 wr sb rb base B n at_ U xs ls pl lv uv pv)(hS:Same lv.ownBlock.toList wr w2)(hl:w2.ownsRow base 159 1 lv' ls'.length (ls'.map fun x=>ptr x.eb))(hb:lv'.ownBlock=lv.ownBlock\/∃g,lv'.ownBlock=some g/\wr.heap.size<=g) :
 sN w0 w2 sb rb base B n at_ U xs ls' pl lv' uv pv:=by
 have hbl:=h.bl;have hsz:=hS.size;have hm:∀q,q∈lv.ownBlock.toList->lv.ownBlock=some q:=fun q hq=>by simpa using hq
 have hold:∀y∈xs,∀q∈y.foot,q<wr.heap.size:=h.rows.low;refine⟨h.sc.next hS (fun hq=>?_) (fun q hq=>?_),h.fr hS (fun q hq=>Or.inr (Or.inl ⟨aI h.l q (hm q hq),(h.al q (hm q hq)).1⟩)),h.new,hS.at h.pool (fun hq=>?_),hl,aG h.u hS (fun g hg hq=>(h.al g (hm g hq)).2.1 hg),aG h.p hS (fun g hg hq=>(h.al g (hm g hq)).2.2 hg),fun g hg=>?_,h.au,h.ap,h.OM,h.OO,⟨by omega,hbl.2⟩⟩
 ·have:=aI h.l sb (hm _ hq);have:=h.OM;omega
 ·have:=aI h.l q (hm _ hq);omega
 ·have:=aI h.l rb (hm _ hq);have:=h.OO.1;omega
 ·rcases hb with e|⟨g',e,hg'⟩
  ·rw[e]at hg;exact h.al g hg
  ·rw[e]at hg;cases hg;refine⟨fun y hy hq=>?_,fun hu=>?_,fun hu=>?_⟩
   ·have:=hold y hy _ hq;omega
   ·have:=(h.u.lt _ hu).2;omega
   ·have:=(h.p.lt _ hu).2;omega
theorem sN.aao{w0 wr w2:World}{sb rb base:Nat}{B:List UInt8}{n at_:Nat}{U:List Nat}{xs ls pl pl':List aV}{lv uv pv pv':Value}(h:sN w0 wr sb rb base B n at_ U xs ls pl lv uv pv)(hS:Same (rb::pv.ownBlock.toList) wr w2)(hP:At w2 rb 84 [.int .i64 (n:Int),pv'])(hl:w2.ownsRow base 115 1 pv' pl'.length (pl'.map fun x=>ptr x.vb))(hb:pv'.ownBlock=pv.ownBlock\/∃g,pv'.ownBlock=some g/\wr.heap.size<=g) :
 sN w0 w2 sb rb base B n at_ U xs ls pl' lv uv pv':=by
 have hbl:=h.bl;have hsz:=hS.size;have hm:∀q,q∈rb::pv.ownBlock.toList->q=rb\/pv.ownBlock=some q:=fun q hq=>by
  rcases List.mem_cons.1 hq with e|e
  ·exact Or.inl e
  ·exact Or.inr (by simpa using e)
 have hold:∀y∈xs,∀q∈y.foot,q<wr.heap.size:=h.rows.low;have hrb:=h.OO;refine⟨h.sc.next hS (fun hq=>?_) (fun q hq=>?_),h.fr hS (fun q hq=>?_),h.new,hP,aG h.l hS (fun g hg hq=>?_),aG h.u hS (fun g hg hq=>?_),hl,fun g hg=>?_,fun g hg=>?_,fun g hg=>?_,h.OM,h.OO,⟨by omega,hbl.2⟩⟩
 ·rcases hm _ hq with e|e
  ·exact hrb.2.1 e.symm
  ·have:=aI h.p sb e;have:=h.OM;omega
 ·rcases hm _ hq with e|e
  ·rw[e];exact hrb.2.2
  ·have:=aI h.p q e;omega
 ·rcases hm _ hq with e|e
  ·exact Or.inr (Or.inr e)
  ·exact Or.inr (Or.inl ⟨aI h.p q e,h.ap q e⟩)
 ·rcases hm _ hq with e|e
  ·have:=aI h.l g hg;omega
  ·exact(h.al g hg).2.2 e
 ·rcases hm _ hq with e|e
  ·have:=aI h.u g hg;omega
  ·exact(h.au g hg).2 e
 ·refine⟨(h.al g hg).1,(h.al g hg).2.1,fun hp=>?_⟩;rcases hb with e|⟨g',e,hg'⟩
  ·rw[e]at hp;exact(h.al g hg).2.2 hp
  ·rw[e]at hp;cases hp;have:=(h.l.lt _ hg).2;omega
 ·refine⟨(h.au g hg).1,fun hp=>?_⟩;rcases hb with e|⟨g',e,hg'⟩
  ·rw[e]at hp;exact(h.au g hg).2 hp
  ·rw[e]at hp;cases hp;have:=(h.u.lt _ hg).2;omega
 ·rcases hb with e|⟨g',e,hg'⟩
  ·rw[e]at hg;exact h.ap g hg
  ·rw[e]at hg;cases hg;intro y hy hq;have:=hold y hy _ hq;omega
theorem sN.ahead{w0 wr:World}{sb rb base:Nat}{B:List UInt8}{n at_:Nat}{U:List Nat}{xs pl:List aV}{aa:Option Addr}{lc:Nat}{uv pv:Value}(h:sN w0 wr sb rb base B n at_ U xs xs pl (.slice aa xs.length lc) uv pv):IC wr aa xs.length (xs.getLast?.map (·.e.name)) sb []:=by
 refine⟨fun h0=>by rw[List.length_eq_zero_iff.1 h0];rfl,fun h0=>?_⟩;obtain⟨g,cs,e1,e2,e3,e4,e5,e6⟩:=jk h.l h0;have hl:xs.length-1<xs.length:=by omega
 have hlast:xs.getLast? = some xs[xs.length-1]!:=by
  rw[List.getLast?_eq_getElem?,List.getElem?_eq_getElem hl,getElem!_pos xs _ hl]
 have hm:xs[xs.length-1]!∈xs:=by rw[getElem!_pos xs _ hl];exact List.getElem_mem hl
 have hf:=h.rows.fix _ hl;have hv:=h.rows.aA _ hl;have hnw:=h.new _ hm;have hsb:=h.OM;refine⟨_,g,_,_,cs,_,_,by rw[hlast];rfl,e1,e3,?_,hf.ent,rfl,hv,rfl,?_,?_,?_⟩
 ·have e:(cs.take xs.length)[xs.length-1]? = cs[xs.length-1]?:=by rw[List.getElem?_take,if_pos hl]
  rw[<-e,e6,List.getElem?_map,List.getElem?_eq_getElem hl,getElem!_pos xs _ hl];rfl
 ·simp only[List.mem_singleton];omega
 ·simp only[List.mem_singleton];have:=hnw (xs[xs.length-1]!).eb (by simp[aV.foot]);omega
 ·simp only[List.mem_singleton];have:=hnw (xs[xs.length-1]!).vb (by simp[aV.foot]);omega
theorem Tryz.YQ:(prog.info? 159).map (fun i=>(i.zero,i.size,i.bytes))=some (some (.pointer none),1,8):=by kernel_rfl
theorem Tryz.YS:(prog.info? 115).map (fun i=>(i.zero,i.size,i.bytes))=some (some (.pointer none),1,8):=by kernel_rfl
def DR(w0:World)(sb rb base:Nat)(B:List UInt8)(n count a0:Nat)(i:Nat)(lv uv:Value)(wr:World):Prop:=
 (∃q at_,fF B count n count [] a0=.error q/\bY w0 wr sb B at_ (some q)) \/
 (∃ps xs pv at_,ps.length=i/\fF B count n (count-i) ps at_=fF B count n count [] a0/\mG count n ps/\xs.map (·.e)=ps.map aS.ref/\sN w0 wr sb rb base B n at_ (ps.flatMap (·.xs)) xs xs xs lv uv pv)
theorem QL{xs:List aV}{ps:List aS}(h:xs.map (·.e)=ps.map aS.ref):xs.getLast?.map (·.e.name)=ps.getLast?.map (·.name):=by
 have h1:(xs.map (·.e)).getLast?.map (·.name)=(ps.map aS.ref).getLast?.map (·.name):=by rw[h]
 rw[List.getLast?_map,List.getLast?_map,Option.map_map,Option.map_map]at h1;exact h1
theorem KZ(ps:List aS):wS (ps.getLast?.map (·.name)) ((ps.getLast?.map (·.name)).getD ⟨#[]⟩):=by
 cases h:ps.getLast?.map (·.name) with
 | none=>exact Or.inl ⟨rfl,rfl⟩
 | some t=>exact Or.inr rfl
theorem mG.snoc{count bound:Nat}{ps:List aS}(h:mG count bound ps){p:aS}(hp:xX count bound (ps.flatMap (·.xs)) p)(hc:bW ((ps.getLast?.map (·.name)).getD ⟨#[]⟩) p.name<0){B:List UInt8}(hb:1<=bound)(hc1:1<=count){at_ at1:Nat}(hr:jw B count bound (ps.flatMap (·.xs)) ((ps.getLast?.map (·.name)).getD ⟨#[]⟩) at_=.ok (p,at1)):mG count bound (ps++[p]):=by
 have:=wo (B:=B) hb hc1 1 ps at_ (ps++[p]) at1 (by simp only[fF,hr]) h;exact this.1
theorem P7{B:List UInt8}{count bound c:Nat}{acc:List aS}{at_ q:Nat}(h:jw B count bound (acc.flatMap (·.xs)) ((acc.getLast?.map (·.name)).getD ⟨#[]⟩) at_=.error q):fF B count bound (c+1) acc at_=.error q:=by
 rw[fF,h]
theorem VB{B:List UInt8}{count bound c:Nat}{acc:List aS}{at_:Nat}{p:aS}{at1:Nat}(h:jw B count bound (acc.flatMap (·.xs)) ((acc.getLast?.map (·.name)).getD ⟨#[]⟩) at_=.ok (p,at1)):fF B count bound (c+1) acc at_=fF B count bound c (acc++[p]) at1:=by
 rw[fF,h]
theorem P6(u0 u1 u2 u3 u4 u5 u7 u8 Jc Jd Je Jf Jg Jh Ji Jj Jk Jl Jm Jn Jo Jp Jq Jr Js Jt Ju Jv Jw Jx Jy Jz Ka Kb Kc Kd Ke Kf Kg Kh Ki Kj Kk Kl Km Kn Ko Kp Kq Kr Ks Kt Ku Kv Kw Kx Ky Kz Qa Qb Qc Qd Qe Qf Qg Qh Qi Qj Qk Ql Qm Qn Qo Qp Qq Qr Qs Qt Qu Qv Qw Qx Qy Qz Ua Ub Uc Ud Ue Uf Ug Uh Ui Uj Uk Ul Um Un Uo Up Uq Ur Us Ut Uu Uv Uw Ux Uy Uz Va Vb Vc Vd Ve Vf Vg Vh Vi Vj Vk Vl Vm Vn Vo Vp Vq Vr Vs Vt Vu Vv Vw Vx Vy:Value)(w0 W:World)(sb rb base:Nat)(B:List UInt8)(n count a0:Nat)(hl:B.length<=140737488355328)(hn:1<=n/\n<=200)(hc:count<=20)(h0:DR w0 sb rb base B n count a0 0 (.slice none 0 0) (.slice none 0 0) W)(R:Ending->World->Prop)
 (hrest:∀(u0 u1 u2 u3 u4 u5 u7 u8 Ja Jb Jc Jd Je Jf Jg Jh Ji Jj Jk Jl Jm Jn Jo Jp Jq Jr Js Jt Ju Jv Jw Jx Jy Jz Ka Kb Kc Kd Ke Kf Kg Kh Ki Kj Kk Kl Km Kn Ko Kp Kq Kr Ks Kt Ku Kv Kw Kx Ky Kz Qa Qb Qc Qd Qe Qf Qg Qh Qi Qj Qk Ql Qm Qn Qo Qp Qq Qr Qs Qt Qu Qv Qw Qx Qy Qz Ua Ub Uc Ud Ue Uf Ug Uh Ui Uj Uk Ul Um Un Uo Up Uq Ur Us Ut Uu Uv Uw Ux Uy Uz Va Vb Vc Vd Ve Vf Vg Vh Vi Vj Vk Vl Vm Vn Vo Vp Vq Vr Vs Vt Vu Vv Vw Vx Vy:Value)(wd:World)(i:Nat),Hid (i<=count/\DR w0 sb rb base B n count a0 i Ja Jb wd/\(i<count->∃q at_,fF B count n count [] a0=.error q/\bY w0 wd sb B at_ (some q)))->Code.wp prog (bI 13 (f65.body.getD .skip)) (bodyPost prog f65 R) { tmps:=#[u0,u1,u2,u3,u4,u5,.pointer (some ⟨sb,0,none⟩),u7,u8,.pointer (some ⟨rb,0,none⟩),.int .i64 (count:Int),Ja,Jb,Jc,Jd,Je,Jf,Jg,Jh,Ji,Jj,Jk,Jl,Jm,Jn,Jo,Jp,Jq,Jr,Js,Jt,Ju,Jv,Jw,Jx,Jy,Jz,Ka,Kb,Kc,Kd,Ke,Kf,Kg,Kh,Ki,Kj,Kk,Kl,Km,Kn,Ko,Kp,Kq,Kr,Ks,Kt,Ku,Kv,Kw,Kx,Ky,Kz,Qa,Qb,Qc,Qd,Qe,Qf,Qg,Qh,Qi,Qj,Qk,Ql,Qm,Qn,Qo,Qp,Qq,Qr,Qs,Qt,Qu,Qv,Qw,Qx,Qy,Qz,Ua,Ub,Uc,Ud,Ue,Uf,Ug,Uh,Ui,Uj,Uk,Ul,Um,Un,Uo,Up,Uq,Ur,Us,Ut,Uu,Uv,Uw,Ux,Uy,Uz,Va,Vb,Vc,Vd,Ve,Vf,Vg,Vh,Vi,Vj,Vk,Vl,Vm,Vn,Vo,Vp,Vq,Vr,Vs,Vt,Vu,Vv,Vw,Vx,Vy],defers:=[] } wd) :
 Code.wp prog (bI 12 (f65.body.getD .skip)) (bodyPost prog f65 R) { tmps:=#[u0,u1,u2,u3,u4,u5,.pointer (some ⟨sb,0,none⟩),u7,u8,.pointer (some ⟨rb,0,none⟩),.int .i64 (count:Int),.slice none 0 0,.slice none 0 0,Jc,Jd,Je,Jf,Jg,Jh,Ji,Jj,Jk,Jl,Jm,Jn,Jo,Jp,Jq,Jr,Js,Jt,Ju,Jv,Jw,Jx,Jy,Jz,Ka,Kb,Kc,Kd,Ke,Kf,Kg,Kh,Ki,Kj,Kk,Kl,Km,Kn,Ko,Kp,Kq,Kr,Ks,Kt,Ku,Kv,Kw,Kx,Ky,Kz,Qa,Qb,Qc,Qd,Qe,Qf,Qg,Qh,Qi,Qj,Qk,Ql,Qm,Qn,Qo,Qp,Qq,Qr,Qs,Qt,Qu,Qv,Qw,Qx,Qy,Qz,Ua,Ub,Uc,Ud,Ue,Uf,Ug,Uh,Ui,Uj,Uk,Ul,Um,Un,Uo,Up,Uq,Ur,Us,Ut,Uu,Uv,Uw,Ux,Uy,Uz,Va,Vb,Vc,Vd,Ve,Vf,Vg,Vh,Vi,Vj,Vk,Vl,Vm,Vn,Vo,Vp,Vq,Vr,Vs,Vt,Vu,Vv,Vw,Vx,Vy],defers:=[] } W:=by
 generalize hC:bI 12 (f65.body.getD .skip)=C
 delta f65 at hC
 dsimp only[bI,Option.getD]at hC;subst hC;have oP:=hid hrest;have HL0:Hid (DR w0 sb rb base B n count a0 0 (.slice none 0 0) (.slice none 0 0) W):=h0;clear hrest h0;obtain⟨i0,hi,hz0,hz1,hz2⟩:=info_parts Tryz.YQ;obtain⟨j0,ji,jz0,jz1,jz2⟩:=info_parts Tryz.YS
 go_upto_block 2 with fail
 go_cut [11,12,13,14,15] (fun lv uv _ _ _ wd=>∃i,Hid (i<=count/\DR w0 sb rb base B n count a0 i lv uv wd/\(i<count->∃q at_,fF B count n count [] a0=.error q/\bY w0 wd sb B at_ (some q))))
 case first=>
  go_wp2_with fail
  go_loopw [11,12,13,14,15] (fun l u i _ _ wr=>∃(j:Nat)(lv uv:Value),lv=l/\uv=u/\i=.int .i64 j/\j<=count/\Hid (DR w0 sb rb base B n count a0 j lv uv wr)) (fun _ _ i _ _ _=>count-(intOf i).toNat)
  case atStart=>exact⟨0,_,_,rfl,rfl,rfl,Nat.zero_le _,HL0.out⟩
  case round=>
   obtain⟨j,lv,uv,rfl,rfl,rfl,hj,HJ⟩:=hrel;by_cases hjl:j<count
   ·have l1:(j:Int)<(count:Int):=by omega
    rcases HJ.out with⟨q,at_,ht,hsc⟩|⟨ps,xs,pv,at_,hpl,ht,hok,hxs,hI⟩
    ·have hc2:wr.cell? ⟨sb,2,none⟩=some (.int .i64 (q:Int)):=hsc.cell.cell? 2;have lq:¬((q:Int)<0):=by omega
     have lq2:(0:Int)<=(q:Int):=by omega
     have HE:Hid (∃i,Hid (i<=count/\DR w0 sb rb base B n count a0 i lv uv wr/\(i<count->∃q at_,fF B count n count [] a0=.error q/\bY w0 wr sb B at_ (some q)))):=⟨j,hj,HJ.out,fun _=>⟨q,at_,ht,hsc⟩⟩
     clear HJ hsc ht
     go_wp2_with fail
     go_meet
     case rel=>exact HE.out
    ·have hc2:wr.cell? ⟨sb,2,none⟩=some (.int .i64 (-1)):=hI.sc.cell.cell? 2;have lq:(-1:Int)<0:=by omega
     have hxl:xs.length=j:=by
      have:=congrArg List.length hxs;simpa [hpl] using this
     obtain⟨aa,lc,rfl⟩:=ak hI.l;obtain⟨pa,pc,rfl⟩:=ak hI.p;have hU:(ps.flatMap (·.xs)).length<=n:=TW n _ hok.nodup (fun x hx=>by
      obtain⟨p,hp,hx⟩:=List.mem_flatMap.1 hx;exact((hok.all p hp).xs.2 x hx).1)
     have hAh:=hI.ahead;have hEn:=DF w0 wr sb base B at_ none (xs.getLast?.map (·.e.name)) aa xs.length lc n count (ps.flatMap (·.xs)) uv hl hI.sc hAh (by omega) hI.u hI.bl.1 hI.OM (by omega) (by omega) (by omega);rw[QL hxs]at hEn;have c0:wr.cell? ⟨rb,0,none⟩=some (.int .i64 (n:Int)):=hI.pool.cell? 0;have ZY:Hid (∀w1 mg bv kv r,LH w0 wr w1 sb base B uv mg bv kv r->w1.ownsRow base 159 1 (.slice aa xs.length lc) xs.length (xs.map fun x=>ptr x.eb)/\w1.ownsRow base 115 1 (.slice pa xs.length pc) xs.length (xs.map fun x=>ptr x.vb)/\At w1 rb 84 [.int .i64 (n:Int),.slice pa xs.length pc]/\(∃ce,At w1 (wr.heap.size+1) 163 ce/\ce[0]? = some (.pointer (some ⟨wr.heap.size,0,none⟩)))/\base<=w1.heap.size):=fun w1 mg bv kv r hE=>by
      have hs:∀q∈sb::uv.ownBlock.toList,q=sb\/uv.ownBlock=some q:=fun q hq=>by
       rcases List.mem_cons.1 hq with e|e
       ·exact Or.inl e
       ·exact Or.inr (by simpa using e)
      refine⟨aG hI.l hE.same fun g hg hq=>?_,aG hI.p hE.same fun g hg hq=>?_,hE.same.at hI.pool fun hq=>?_,⟨_,hE.ent,rfl⟩,by have:=hE.same.size;have:=hI.bl.1;omega⟩
      ·rcases hs g hq with e|e
       ·have:=aI hI.l g hg;have:=hI.OM;omega
       ·exact(hI.al g hg).2.1 e
      ·rcases hs g hq with e|e
       ·have:=aI hI.p g hg;have:=hI.OM;omega
       ·exact(hI.au g e).2 hg
      ·rcases hs rb hq with e|e
       ·exact hI.OO.2.1 e
       ·have:=aI hI.u rb e;have:=hI.OO.1;omega
     have HAP:Hid (rb<base/\(∀g,(Value.slice aa xs.length lc).ownBlock=some g->base<=g/\g<wr.heap.size/\(Value.slice pa xs.length pc).ownBlock≠some g)/\(∀g,(Value.slice pa xs.length pc).ownBlock=some g->base<=g/\g<wr.heap.size)):=
      ⟨hI.OO.1,fun g hg=>⟨aI hI.l g hg,(hI.l.lt g hg).2,(hI.al g hg).2.2⟩,fun g hg=>⟨aI hI.p g hg,(hI.p.lt g hg).2⟩⟩
     have Z7:Hid (∀w1 mg bv kv,LH w0 wr w1 sb base B uv mg bv kv (pK B (ps.getLast?.map (·.name)) n count (ps.flatMap (·.xs)) at_ none)->∀w2 w3 lv' pv',Same (Value.slice aa xs.length lc).ownBlock.toList w1 w2->w2.ownsRow base 159 1 lv' (xs.length+1) ((xs.map fun x=>ptr x.eb)++[.pointer (some ⟨wr.heap.size+1,0,none⟩)])->(lv'.ownBlock=(Value.slice aa xs.length lc).ownBlock\/∃g,lv'.ownBlock=some g/\w1.heap.size<=g)->Same (rb::(Value.slice pa xs.length pc).ownBlock.toList) w2 w3->At w3 rb 84 [.int .i64 (n:Int),pv']->w3.ownsRow base 115 1 pv' (xs.length+1) ((xs.map fun x=>ptr x.vb)++[.pointer (some ⟨wr.heap.size,0,none⟩)])->(pv'.ownBlock=(Value.slice pa xs.length pc).ownBlock\/∃g,pv'.ownBlock=some g/\w2.heap.size<=g)->DR w0 sb rb base B n count a0 (j+1) lv' mg w3):=fun w1 mg bv kv hE w2 w3 lv' pv' hS2 hl2 hb2 hS3 hP3 hl3 hb3=>by
      have hcj:count-j=(count-(j+1))+1:=by omega
      rw[hcj]at ht;cases hre:jw B count n (ps.flatMap (·.xs)) ((ps.getLast?.map (·.name)).getD ⟨#[]⟩) at_ with
      | error q=>
       have hun:fF B count n count [] a0=.error q:=by rw[<-ht];exact P7 hre
       have he:=PE (KZ ps) (by omega) (by omega) hre;have hsc:=hE.sc;rw[he]at hsc;refine Or.inl ⟨q,_,hun,(hsc.next hS2 (fun hq=>?_) (fun k hk=>?_)).next hS3 (fun hq=>?_) (fun k hk=>?_)⟩
       ·have:=aI hI.l sb (by simpa using hq);have:=hI.OM;omega
       ·have:=aI hI.l k (by simpa using hk);have:=hI.bl.2;omega
       ·rcases List.mem_cons.1 hq with e|e
        ·exact hI.OO.2.1 e.symm
        ·have:=aI hI.p sb (by simpa using e);have:=hI.OM;omega
       ·rcases List.mem_cons.1 hk with e|e
        ·rw[e];exact hI.OO.2.2
        ·have:=aI hI.p k (by simpa using e);have:=hI.bl.2;omega
      | ok pr=>
       obtain⟨p,at1⟩:=pr;have hun:fF B count n count [] a0=fF B count n (count-(j+1)) (ps++[p]) at1:=by rw[<-ht];exact VB hre
       have he:=UG (KZ ps) (by omega) (by omega) hre;rw[he]at hE;obtain⟨hpo,hcm⟩:=Ef (by omega) (by omega) hre;have hp1:1<=p.xs.length:=by
        by_cases hk:p.kind=0
        ·rw[(hpo.plain hk).1];exact hpo.size.1
        ·exact(hpo.YP hk).1
       obtain⟨x,hx1,hx2,hx3,hI1⟩:=hI.entry p hp1 hE;have hI2:=hI1.aas (ls':=xs++[x]) hS2 (by
        rw[List.length_append,List.length_singleton,List.map_append];show w2.ownsRow _ _ _ _ _ (_++[ptr x.eb]);rw[hx2];exact hl2) hb2
       have hI3:=hI2.aao (pl':=xs++[x]) hS3 hP3 (by
        rw[List.length_append,List.length_singleton,List.map_append];show w3.ownsRow _ _ _ _ _ (_++[ptr x.vb]);rw[hx3];exact hl3) hb3
       refine Or.inr ⟨ps++[p],xs++[x],pv',at1,by rw[List.length_append,hpl];rfl,hun.symm,hok.snoc hpo hcm (by omega) (by omega) hre,by rw[List.map_append,List.map_append,hxs];simp[hx1],?_⟩;rw[List.flatMap_append];simpa using hI3
     clear HJ hI ht hok hU hAh;have abk:xs.length<=20:=by omega
     have HXL:Hid (xs.length=j):=hxl;clear hpl hxs hxl
     go_wp2_with fail
     refine hEn.mono ?_;rintro e w1 ⟨mg,bv,kv,rfl,hE⟩;obtain⟨hl1,hp1,hP1,⟨ce,hce,Z8⟩,hbw⟩:=ZY.out _ _ _ _ _ hE;have HND:=hid (Z7.out w1 mg bv kv hE);have Z9:=hE.same.size;have HP1:Hid (w1.ownsRow base 115 1 (.slice pa xs.length pc) xs.length (xs.map fun x=>ptr x.vb)/\At w1 rb 84 [.int .i64 (n:Int),.slice pa xs.length pc]/\At w1 (wr.heap.size+1) 163 ce/\ce[0]? = some (.pointer (some ⟨wr.heap.size,0,none⟩))/\wr.heap.size<=w1.heap.size):=⟨hp1,hP1,hce,Z8,Z9⟩
     obtain⟨eb,heb⟩:∃eb,wr.heap.size+1=eb:=⟨_,rfl⟩
     obtain⟨vb,hvb⟩:∃vb,wr.heap.size=vb:=⟨_,rfl⟩
     have HEB:Hid (wr.heap.size+1=eb/\wr.heap.size=vb):=⟨heb,hvb⟩
     rw[heb];clear hEn ZY Z7 hE hp1 hP1 hce Z8 Z9 heb hvb c0 hc2
     go_wp2_with (at_builtin;refine wpList_append_own_at _ rfl _ _ 158 rfl base 159 i0 (.pointer none) 1 8 underlying158 hi hz0 hz1 hz2 rfl (by decide) _ _ _ rfl (hl1.alloc _) ⟨w1.heap.size,0,none⟩ 1 1 [.pointer (some ⟨eb,0,none⟩)] rfl rfl ?c1 ?c2 ?c3 ?c4 ?c5 ?_)
     case c1=>
      intro j u hj
      match j,hj with
      | 0,hj=>simp at hj;subst hj;simp[Addr.add]
     case c2=>intro u hu;simp at hu;subst hu;rfl
     case c3=>unfold maxLen;omega
     case c4=>omega
     case c5=>first|omega|(simp;omega)
     intro lv2 w2 hown2 hgrow2 _ hblk2;have S2:Same (Value.slice aa xs.length lc).ownBlock.toList w1 w2:=((Same.refl _ _).alloc _).grown hgrow2 (fun q hq _=>by simp[hq]);have hlo:∀q∈(Value.slice aa xs.length lc).ownBlock.toList,base<=q/\q<wr.heap.size/\(Value.slice pa xs.length pc).ownBlock≠some q:=fun q hq=>HAP.out.2.1 q (by simpa using hq)
     have O2:Hid (w2.ownsRow base 115 1 (.slice pa xs.length pc) xs.length (xs.map fun x=>ptr x.vb)/\At w2 rb 84 [.int .i64 (n:Int),.slice pa xs.length pc]/\At w2 eb 163 ce/\ce[0]? = some (.pointer (some ⟨vb,0,none⟩))):=by
      obtain⟨h1,h2,h3,h4,h5⟩:=HP1.out;obtain⟨e1,e2⟩:=HEB.out;refine⟨aG h1 S2 fun g hg hq=>(hlo g hq).2.2 hg,S2.at h2 fun hq=>?_,?_,by rw[<-e2];exact h4⟩
      ·have:=hlo rb hq;have:=HAP.out.1;omega
      ·rw[<-e1];exact S2.at h3 fun hq=>by have:=hlo _ hq;omega
     have HC3:Hid (∀w3,Same (Value.slice pa xs.length pc).ownBlock.toList w2 w3->At w3 rb 84 [.int .i64 (n:Int),.slice pa xs.length pc]/\w3.cell? ⟨eb,0,none⟩=some (.pointer (some ⟨vb,0,none⟩))):=fun w3 hw=>by
      have hpo:∀q∈(Value.slice pa xs.length pc).ownBlock.toList,base<=q/\q<wr.heap.size:=fun q hq=>HAP.out.2.2 q (by simpa using hq)
      obtain⟨e1,e2⟩:=HEB.out;refine⟨hw.at O2.out.2.1 fun hq=>?_,?_⟩
      ·have:=hpo rb hq;have:=HAP.out.1;omega
      ·rw[(hw.at O2.out.2.2.1 fun hq=>by have:=hpo eb hq;omega).cell?];exact O2.out.2.2.2
     have HN2:Hid (∀w3 pv',Same (rb::(Value.slice pa xs.length pc).ownBlock.toList) w2 w3->At w3 rb 84 [.int .i64 (n:Int),pv']->w3.ownsRow base 115 1 pv' (xs.length+1) ((xs.map fun x=>ptr x.vb)++[.pointer (some ⟨vb,0,none⟩)])->(pv'.ownBlock=(Value.slice pa xs.length pc).ownBlock\/∃g,pv'.ownBlock=some g/\w2.heap.size<=g)->DR w0 sb rb base B n count a0 (j+1) lv2 mg w3):=fun w3 pv' a1 a2 a3 a4=>by
      obtain⟨e1,e2⟩:=HEB.out;refine HND.out w2 w3 lv2 pv' S2 (by rw[e1];exact hown2) ?_ a1 a2 (by rw[e2];exact a3) a4;rcases hblk2 with e|e
      ·exact Or.inl e
      ·exact Or.inr ⟨_,e,by simp⟩
     have hb2:base<=w2.heap.size:=by have:=S2.size;omega
     have c1:w2.cell? ⟨rb,1,none⟩=some (.slice pa xs.length pc):=O2.out.2.1.cell? 1;have c2:w2.cell? ⟨eb,0,none⟩=some (.pointer (some ⟨vb,0,none⟩)):=by rw[O2.out.2.2.1.cell?];exact O2.out.2.2.2
     have bb1:rb<w2.heap.size:=O2.out.2.1.lt;have bb2:eb<w2.heap.size:=O2.out.2.2.1.lt;clear S2 hown2 hgrow2 hblk2 hlo HND HP1 hl1
     go_wp2_with fail
     refine jH (S:=fun w'=>w'.cell? ⟨rb,1,none⟩=some (.slice pa xs.length pc)/\w'.cell? ⟨eb,0,none⟩=some (.pointer (some ⟨vb,0,none⟩))) 13 (by kernel_rfl) (by kernel_rfl) rfl ?hS1 (fun hHeld=>?_)
     case hS1=>exact⟨c1,c2⟩
     simp only[List.take_succ_cons,List.take_zero];refine aj (i:=0) (v:=?v1) rfl (by kernel_rfl) (by kernel_rfl) (by kernel_rfl) (fun _ _ _ h=>h) (by kernel_rfl) ?hy1 (by assumption) ?_
     case hy1=>intro w hSw;(try dsimp only at hSw);go_simp;try with_reducible rfl
     (try simp only[Act.put,List.setIfInBounds_toArray,List.set_cons_zero,List.set_cons_succ])
     refine aj (i:=1) (v:=?v2) rfl (by kernel_rfl) (by kernel_rfl) (by kernel_rfl) (fun _ _ _ h=>h) (by kernel_rfl) ?hy2 (by assumption) ?_
     case hy2=>intro w hSw;(try dsimp only at hSw);go_simp;try with_reducible rfl
     (try simp only[Act.put,List.setIfInBounds_toArray,List.set_cons_zero,List.set_cons_succ])
     refine aj (i:=2) (v:=?v3) rfl (by kernel_rfl) (by kernel_rfl) (by kernel_rfl) (fun _ _ _ h=>h) (by kernel_rfl) ?hy3 (by assumption) ?_
     case hy3=>intro w hSw;(try dsimp only at hSw);go_simp;try with_reducible rfl
     (try simp only[Act.put,List.setIfInBounds_toArray,List.set_cons_zero,List.set_cons_succ])
     refine aj (i:=3) (v:=?v4) rfl (by kernel_rfl) (by kernel_rfl) (by kernel_rfl) (fun _ _ _ h=>h) (by kernel_rfl) ?hy4 (by assumption) ?_
     case hy4=>intro w hSw;(try dsimp only at hSw);go_simp;try with_reducible rfl
     (try simp only[Act.put,List.setIfInBounds_toArray,List.set_cons_zero,List.set_cons_succ])
     refine aj (i:=4) (v:=?v5) rfl (by kernel_rfl) (by kernel_rfl) (by kernel_rfl) (fun _ _ _ h=>h) (by kernel_rfl) ?hy5 (by assumption) ?_
     case hy5=>intro w hSw;(try dsimp only at hSw);go_simp;try with_reducible rfl
     (try simp only[Act.put,List.setIfInBounds_toArray,List.set_cons_zero,List.set_cons_succ])
     refine aj (i:=5) (v:=?v6) rfl (by kernel_rfl) (by kernel_rfl) (by kernel_rfl) (fun _ _ _ h=>h) (by kernel_rfl) ?hy6 (by assumption) ?_
     case hy6=>intro w hSw;(try dsimp only at hSw);go_simp;try with_reducible rfl
     (try simp only[Act.put,List.setIfInBounds_toArray,List.set_cons_zero,List.set_cons_succ])
     refine aj (i:=6) (v:=?v7) rfl (by kernel_rfl) (by kernel_rfl) (by kernel_rfl) (fun _ _ _ h=>h) (by kernel_rfl) ?hy7 (by assumption) ?_
     case hy7=>intro w hSw;(try dsimp only at hSw);go_simp;try with_reducible rfl
     (try simp only[Act.put,List.setIfInBounds_toArray,List.set_cons_zero,List.set_cons_succ])
     refine aj (i:=7) (v:=?v8) rfl (by kernel_rfl) (by kernel_rfl) (by kernel_rfl) (fun _ _ _ h=>h) (by kernel_rfl) ?hy8 (by assumption) ?_
     case hy8=>intro w hSw;(try dsimp only at hSw);go_simp;try with_reducible rfl
     (try simp only[Act.put,List.setIfInBounds_toArray,List.set_cons_zero,List.set_cons_succ])
     refine aj (i:=8) (v:=?v9) rfl (by kernel_rfl) (by kernel_rfl) (by kernel_rfl) (fun _ _ _ h=>h) (by kernel_rfl) ?hy9 (by assumption) ?_
     case hy9=>intro w hSw;(try dsimp only at hSw);go_simp;try with_reducible rfl
     (try simp only[Act.put,List.setIfInBounds_toArray,List.set_cons_zero,List.set_cons_succ])
     refine lV (i:=9) rfl (by kernel_rfl) (fun K hK=>?_)
     go_simp
     refine hK.out _ _ ?hS2 (fun hHeld=>?_)
     case hS2=>go_keep
     clear hK K
     (try simp only[Act.put,List.setIfInBounds_toArray,List.set_cons_zero,List.set_cons_succ])
     refine lV (i:=10) rfl (by kernel_rfl) (fun K hK=>?_);refine fV rfl (.tmp 112) (.tmp 117) 82 rfl base 115 j0 (.pointer none) 1 8 underlying82 ji jz0 jz1 jz2 rfl (by decide) (.slice pa xs.length pc) xs.length _ (by simp[Act.eval,Act.put]) (O2.out.1.alloc _) ⟨w2.heap.size,0,none⟩ 1 1 [.pointer (some ⟨vb,0,none⟩)] (by simp[Act.eval,Act.put]) rfl (by intro q u hq;match q,hq with|0,hq=>simp at hq;subst hq;simp[Addr.add]) (by intro u hu;simp at hu;subst hu;rfl) (by unfold maxLen;omega) (by omega) (by simp;omega) ?_;intro pv2 w3 hown3 hgrow3 hblk3;obtain⟨pa3,pc3,rfl⟩:=ak hown3;have S3:Same (Value.slice pa xs.length pc).ownBlock.toList w2 w3:=((Same.refl _ _).drew.alloc _).grown hgrow3 (fun q hq _=>by simp[hq]);obtain⟨p63,g63⟩:=HC3.out w3 S3;have g6:w3.cell? ⟨rb,1,none⟩=some (.slice pa xs.length pc):=p63.cell? 1;have z6:w3.frozen? ⟨rb,1,none⟩=false:=p63.frozen 1;refine hK.out _ _ ⟨g6,g63⟩ (fun hHeld=>?_);clear hK K
     (try simp only[Act.put,List.setIfInBounds_toArray,List.set_cons_zero,List.set_cons_succ])
     refine aj (i:=11) (v:=?v10) rfl (by kernel_rfl) (by kernel_rfl) (by kernel_rfl) (fun _ _ _ h=>h) (by kernel_rfl) ?SQ (by assumption) ?_
     case SQ=>intro w hSw;(try dsimp only at hSw);go_simp;try with_reducible rfl
     (try simp only[Act.put,List.setIfInBounds_toArray,List.set_cons_zero,List.set_cons_succ])
     refine aj (i:=12) (v:=?v11) rfl (by kernel_rfl) (by kernel_rfl) (by kernel_rfl) (fun _ _ _ h=>h) (by kernel_rfl) ?SV (by assumption) ?_
     case SV=>intro w hSw;(try dsimp only at hSw);go_simp;try with_reducible rfl
     (try simp only[Act.put,List.setIfInBounds_toArray,List.set_cons_zero,List.set_cons_succ])
     refine wpAnyH_done (by kernel_rfl) ?_ _;refine mr (fun K hK=>?_)
     go_simp
     refine hK.out _ _ ?_;clear hK K;have HF:Hid (DR w0 sb rb base B n count a0 (j+1) lv2 mg (w3.setCell ⟨rb,1,none⟩ (.slice pa3 (xs.length+1) pc3))):=by
      have S4:Same (rb::(Value.slice pa xs.length pc).ownBlock.toList) w2 (w3.setCell ⟨rb,1,none⟩ (.slice pa3 (xs.length+1) pc3)):=(S3.mono (T:=rb::(Value.slice pa xs.length pc).ownBlock.toList) (fun q hq _=>List.mem_cons_of_mem _ hq)).set _ _ _ (fun _=>by simp);refine HN2.out _ _ S4 (p63.ax 1 _) ?_ ?_
      ·exact aG hown3 ((Same.refl [rb] w3).set rb 1 (.slice pa3 (xs.length+1) pc3) (fun _=>by simp)) (fun g hg hq=>by
        simp at hq;subst hq;have:=aI hown3 g hg;have:=HAP.out.1;omega)
      ·rcases hblk3 with e|e
       ·exact Or.inl e
       ·exact Or.inr ⟨_,e,by simp⟩
     clear S3 hown3 hgrow3 hblk3 p63 HN2 HC3 O2 hHeld
     go_wp2
     go_roundw
     case rel=>exact⟨j+1,_,_,rfl,rfl,by go_num,by omega,HF.out⟩
     case measure=>simp[intOf];omega
   ·have l1:(count:Int)<=(j:Int):=by omega
    have ej:j=count:=by omega
    have HE:Hid (∃i,Hid (i<=count/\DR w0 sb rb base B n count a0 i lv uv wr/\(i<count->∃q at_,fF B count n count [] a0=.error q/\bY w0 wr sb B at_ (some q)))):=⟨j,hj,HJ.out,fun h=>by omega⟩
    clear HJ ej
    go_wp2_with fail
    go_meet
    case rel=>exact HE.out
 case rest=>
  obtain⟨i,HD⟩:=hcut;refine ‹∀(a:Act)(w:World),Code.wp prog _ _ a w->_› _ _ ?_;exact oP.out _ _ _ _ _ _ _ _ _ _ _ _ _ _ _ _ _ _ _ _ _ _ _ _ _ _ _ _ _ _ _ _ _ _ _ _ _ _ _ _ _ _ _ _ _ _ _ _ _ _ _ _ _ _ _ _ _ _ _ _ _ _ _ _ _ _ _ _ _ _ _ _ _ _ _ _ _ _ _ _ _ _ _ _ _ _ _ _ _ _ _ _ _ _ _ _ _ _ _ _ _ _ _ _ _ _ _ _ _ _ _ _ _ _ _ _ _ _ _ _ _ _ _ _ _ _ _ _ _ _ _ _ _ _ _ _ _ _ i HD
theorem yE{xs:List aV}{ps:List aS}(h:xs.map (·.e)=ps.map aS.ref):xs.length=ps.length/\(∀x∈xs,∃p∈ps,x.e=p.ref)/\∀j,j<ps.length->(xs[j]!).e=(ps[j]!).ref:=by
 have hl:xs.length=ps.length:=by simpa using congrArg List.length h
 refine⟨hl,fun x hx=>?_,fun j hj=>?_⟩
 ·have:x.e∈ps.map aS.ref:=by rw[<-h];exact List.mem_map.2 ⟨x,hx,rfl⟩
  obtain⟨p,hp,e⟩:=List.mem_map.1 this;exact⟨p,hp,e.symm⟩
 ·have h1:(xs.map (·.e))[j]? = (ps.map aS.ref)[j]?:=by rw[h]
  rw[List.getElem?_map,List.getElem?_map,List.getElem?_eq_getElem hj,List.getElem?_eq_getElem (by omega)]at h1;rw[getElem!_pos ps j hj,getElem!_pos xs j (by omega)];simpa using h1
theorem WX{xs:List aV}{ps:List aS}{n count:Nat}(h:xs.map (·.e)=ps.map aS.ref)(hok:mG count n ps)(hpl:ps.length=count)(hc:count<=20)(hn:n<=200):VG n xs/\∀x∈xs,x.e.name≠⟨#[]⟩:=by
 obtain⟨hl,hm,_⟩:=yE h;refine⟨⟨by omega,hn,fun x hx o ho=>?_,fun x hx=>?_,fun x hx b hb=>?_,fun x hx=>?_,fun x hx ho=>?_,fun x hx=>?_⟩,fun x hx hne=>?_⟩
 all_goals obtain⟨p,hp,e⟩:=hm x hx
 all_goals have hpo:=hok.all p hp
 ·rw[e]at ho;simp only[aS.ref]at ho;by_cases hk:p.kind=0
  ·rw[if_pos hk]at ho;cases ho
  ·rw[if_neg hk]at ho;cases ho;have:=hpo.org hk;omega
 ·rw[e];exact hpo.size.2
 ·rw[e]at hb;exact(hpo.xs.2 b hb).1
 ·rw[e];show 1<=p.xs.length/\p.xs.length<=p.size;by_cases hk:p.kind=0
  ·have:=hpo.plain hk;have:=hpo.size;omega
  ·exact hpo.YP hk
 ·rw[e]at ho ⊢;simp only[aS.ref]at ho;by_cases hk:p.kind=0
  ·exact hpo.plain hk
  ·rw[if_neg hk]at ho;cases ho
 ·rw[e];exact⟨hpo.kept.2,hpo.AA⟩
 ·rw[e]at hne;have h1:=hpo.name;have hne:p.name=⟨#[]⟩:=hne;rw[hne]at h1;have h2:nameB ⟨#[]⟩=false:=rfl;rw[h2]at h1;cases h1
theorem sN.tied{w0 W:World}{sb rb base:Nat}{B:List UInt8}{n at_:Nat}{U:List Nat}{xs:List aV}{lv uv pv:Value}(h:sN w0 W sb rb base B n at_ U xs xs xs lv uv pv) :
 ∃la lc lp pU,lv=.slice la xs.length lc/\oD W la xs/\(∀lg,la=some ⟨lg,0,none⟩->lg∉sb::xs.map (·.vb))/\(∀x∈xs,sb∉x.foot)/\(∀x∈xs,∀q∈x.foot,w0.heap.size<=q)/\TQ w0 W sb rb lp pU n xs:=by
 have hbl:=h.bl;have hsb:=h.OM;have hrb:=h.OO;obtain⟨la,lc,rfl⟩:=ak h.l;have kW:∀x∈xs,∀q∈x.foot,base<=q:=h.new;have hP:∃lp pU,pv=.slice (lp.map fun b=>⟨b,0,none⟩) xs.length pU/\(xs.length<=pU/\(lp=none->xs=[]/\pU=0))/\(∀b,lp=some b->base<=b/\pv.ownBlock=some b/\∃cs,At W b 115 cs/\cs.take xs.length=xs.map (fun x=>ptr x.vb)/\xs.length<=cs.length):=by
  rcases h.p.2 with⟨h1,h2⟩|⟨g,cap,cur,h1,h2,h3,h4,h5,h6,h7⟩
  ·have hx:xs=[]:=List.length_eq_zero_iff.1 h2;exact⟨none,0,(by rw[h1,h2];rfl),⟨by omega,fun _=>⟨hx,rfl⟩⟩,fun b hb=>(by cases hb)⟩
  ·refine⟨some g,cap,h1,⟨h4,fun e=>(by cases e)⟩,fun b hb=>?_⟩;cases hb;refine⟨h2,by rw[h1];rfl,cur.toList,by show _=_;rw[h3],by rw[Nat.mul_one]at h7;exact h7,?_⟩;have h8:cur.toList.length=cap:=by rw[Array.length_toList];omega
   omega
 obtain⟨lp,pU,e1,e2,e3⟩:=hP;refine⟨la,lc,lp,pU,rfl,⟨fun hne=>?_⟩,fun lg hlg=>?_,fun x hx hq=>?_,fun x hx q hq=>?_,?_⟩
 ·obtain⟨g,cs,a1,a2,a3,a4,a5,a6⟩:=jk h.l (fun e=>hne (List.length_eq_zero_iff.1 e));exact⟨g,cs,a1,a3,a6⟩
 ·have hg:(Value.slice la xs.length lc).ownBlock=some lg:=by rw[hlg];rfl
  have h1:=aI h.l lg hg;simp only[List.mem_cons,not_or];refine⟨by omega,fun hq=>?_⟩;obtain⟨x,hx,e⟩:=List.mem_map.1 hq;exact(h.al lg hg).1 x hx (by rw[<-e];simp[aV.foot])
 ·have:=kW x hx sb hq;omega
 ·have:=kW x hx q hq;omega
 ·refine⟨by rw[<-e1];exact h.pool,e2,fun b hb=>(e3 b hb).2.2,⟨hrb.2.1,hrb.2.2,fun x hx hq=>?_⟩,fun b hb=>?_⟩
  ·have:=kW x hx rb hq;omega
  ·obtain⟨h1,h2,_⟩:=e3 b hb;exact⟨by omega,by omega,by omega,h.ap b h2⟩
theorem LQ(u0 u1 u2 u3 u4 u5 u7 u8 u9 Ja Jb Jc Jd Je Jf Jg Jh Ji Jj Jk Jl Jm Jn Jo Jp Jq Jr Js Jt Ju Jv Jw Jx Jy Jz Ka Kb Kc Kd Ke Kf Kg Kh Ki Kj Kk Kl Km Kn Ko Kp Kq Kr Ks Kt Ku Kv Kw Kx Ky Kz Qa Qb Qc Qd Qe Qf Qg Qh Qi Qj Qk Ql Qm Qn Qo Qp Qq Qr Qs Qt Qu Qv Qw Qx Qy Qz Ua Ub Uc Ud Ue Uf Ug Uh Ui Uj Uk Ul Um Un Uo Up Uq Ur Us Ut Uu Uv Uw Ux Uy Uz Va Vb Vc Vd Ve Vf Vg Vh Vi Vj Vk Vl Vm Vn Vo Vp Vq Vr Vs Vt Vu Vv Vw Vx Vy Vz:Value)(w0 W:World)(sb:Nat)(B:List UInt8)(at_ q:Nat)(hs:bY w0 W sb B at_ (some q))(R:Ending->World->Prop)(hR:∀w',Same [] W w'->R (.returned (.tuple #[.pointer none,.int .i64 12,.int .i64 (q:Int)])) w') :
 Code.wp prog (bI 13 (f65.body.getD .skip)) (bodyPost prog f65 R) { tmps:=#[u0,u1,u2,u3,u4,u5,.pointer (some ⟨sb,0,none⟩),u7,u8,u9,Ja,Jb,Jc,Jd,Je,Jf,Jg,Jh,Ji,Jj,Jk,Jl,Jm,Jn,Jo,Jp,Jq,Jr,Js,Jt,Ju,Jv,Jw,Jx,Jy,Jz,Ka,Kb,Kc,Kd,Ke,Kf,Kg,Kh,Ki,Kj,Kk,Kl,Km,Kn,Ko,Kp,Kq,Kr,Ks,Kt,Ku,Kv,Kw,Kx,Ky,Kz,Qa,Qb,Qc,Qd,Qe,Qf,Qg,Qh,Qi,Qj,Qk,Ql,Qm,Qn,Qo,Qp,Qq,Qr,Qs,Qt,Qu,Qv,Qw,Qx,Qy,Qz,Ua,Ub,Uc,Ud,Ue,Uf,Ug,Uh,Ui,Uj,Uk,Ul,Um,Un,Uo,Up,Uq,Ur,Us,Ut,Uu,Uv,Uw,Ux,Uy,Uz,Va,Vb,Vc,Vd,Ve,Vf,Vg,Vh,Vi,Vj,Vk,Vl,Vm,Vn,Vo,Vp,Vq,Vr,Vs,Vt,Vu,Vv,Vw,Vx,Vy,Vz],defers:=[] } W:=by
 generalize hC:bI 13 (f65.body.getD .skip)=C
 delta f65 at hC
 dsimp only[bI,Option.getD]at hC;subst hC;have HR:=hid hR;have hc2:W.cell? ⟨sb,2,none⟩=some (.int .i64 (q:Int)):=hs.cell.cell? 2;have lq:¬((q:Int)<0):=by omega
 have lq2:(0:Int)<=(q:Int):=by omega
 clear hs hR
 go_wp2_with fail
 go_quiet (fail)
 go_wp2
 go_ret3
 exact HR.out _ ((Same.refl [] W).drewN _)
theorem PS(u0 u1 u2 u3 u4 u5 u7 u8 Jb Jc Jd Je Jf Jg Jh Ji Jj Jk Jl Jm Jn Jo Jp Jq Jr Js Jt Ju Jv Jw Jx Jy Jz Ka Kb Kc Kd Ke Kf Kg Kh Ki Kj Kk Kl Km Kn Ko Kp Kq Kr Ks Kt Ku Kv Kw Kx Ky Kz Qa Qb Qc Qd Qe Qf Qg Qh Qi Qj Qk Ql Qm Qn Qo Qp Qq Qr Qs Qt Qu Qv Qw Qx Qy Qz Ua Ub Uc Ud Ue Uf Ug Uh Ui Uj Uk Ul Um Un Uo Up Uq Ur Us Ut Uu Uv Uw Ux Uy Uz Va Vb Vc Vd Ve Vf Vg Vh Vi Vj Vk Vl Vm Vn Vo Vp Vq Vr Vs Vt Vu Vv Vw Vx Vy:Value)(w0 W:World)(sb rb base:Nat)(B:List UInt8)(n count at_:Nat)(U:List Nat)(ps:List aS)(xs:List aV)(lv uv pv Ja:Value)(hl:B.length<=140737488355328)(hn:n<=200)(hc:count<=20)(hI:sN w0 W sb rb base B n at_ U xs xs xs lv uv pv)(hxs:xs.map (·.e)=ps.map aS.ref)(hok:mG count n ps)(hpl:ps.length=count)(R:Ending->World->Prop)
 (hR1:∀w1 w' q a,nY w0 w1 sb B at_ n xs rb->bY w0 w1 sb B a (some q)->Same [] w1 w'->R (.returned (.tuple #[.pointer none,.int .i64 12,.int .i64 (q:Int)])) w')
 (hR2:∀w1 a,nY w0 w1 sb B at_ n xs rb->bY w0 w1 sb B a none->R (.returned (.tuple #[.pointer (some ⟨rb,0,none⟩),.int .i64 0,.int .i64 0])) w1) :
 Code.wp prog (bI 13 (f65.body.getD .skip)) (bodyPost prog f65 R) { tmps:=#[u0,u1,u2,u3,u4,u5,.pointer (some ⟨sb,0,none⟩),u7,u8,.pointer (some ⟨rb,0,none⟩),Ja,lv,Jb,Jc,Jd,Je,Jf,Jg,Jh,Ji,Jj,Jk,Jl,Jm,Jn,Jo,Jp,Jq,Jr,Js,Jt,Ju,Jv,Jw,Jx,Jy,Jz,Ka,Kb,Kc,Kd,Ke,Kf,Kg,Kh,Ki,Kj,Kk,Kl,Km,Kn,Ko,Kp,Kq,Kr,Ks,Kt,Ku,Kv,Kw,Kx,Ky,Kz,Qa,Qb,Qc,Qd,Qe,Qf,Qg,Qh,Qi,Qj,Qk,Ql,Qm,Qn,Qo,Qp,Qq,Qr,Qs,Qt,Qu,Qv,Qw,Qx,Qy,Qz,Ua,Ub,Uc,Ud,Ue,Uf,Ug,Uh,Ui,Uj,Uk,Ul,Um,Un,Uo,Up,Uq,Ur,Us,Ut,Uu,Uv,Uw,Ux,Uy,Uz,Va,Vb,Vc,Vd,Ve,Vf,Vg,Vh,Vi,Vj,Vk,Vl,Vm,Vn,Vo,Vp,Vq,Vr,Vs,Vt,Vu,Vv,Vw,Vx,Vy],defers:=[] } W:=by
 generalize hC:bI 13 (f65.body.getD .skip)=C
 delta f65 at hC
 dsimp only[bI,Option.getD]at hC;subst hC;obtain⟨la,lc,lp,pU,rfl,h1,h2,h3,h4,h5⟩:=hI.tied;obtain⟨hX,hnm⟩:=WX hxs hok hpl hc hn;have hT:=UH w0 W sb rb la lc lp pU B xs at_ n hl hI.sc hI.rows h1 h2 h3 hX hnm h4 h5;have hc2:W.cell? ⟨sb,2,none⟩=some (.int .i64 (-1)):=hI.sc.cell.cell? 2;have HR1:=hid hR1;have HR2:=hid hR2;have lq:(-1:Int)<0:=by omega
 clear hI h1 h2 h3 h4 h5 hX hnm hR1 hR2 hxs hok
 go_wp2_with fail
 refine hT.mono ?_;rintro e w1 ⟨rfl,hP⟩;have HP:Hid (nY w0 w1 sb B at_ n xs rb):=hP;obtain⟨a,bd,hsc⟩:∃a bd,bY w0 w1 sb B a bd:=by
  rcases hP with⟨q,_,h⟩|⟨_,_,h⟩|⟨r,_,_,_,h⟩
  ·exact⟨_,_,h⟩
  ·exact⟨_,_,h⟩
  ·exact⟨_,_,h⟩
 clear hP hT hc2;cases bd with
 | some q=>
  have hc2:w1.cell? ⟨sb,2,none⟩=some (.int .i64 (q:Int)):=hsc.cell.cell? 2;have HQ:Hid (∀w',Same [] w1 w'->R (.returned (.tuple #[.pointer none,.int .i64 12,.int .i64 (q:Int)])) w'):=fun w' hw=>HR1.out w1 w' q a HP.out hsc hw
  have lq1:¬((q:Int)<0):=by omega
  have lq2:(0:Int)<=(q:Int):=by omega
  clear hsc HP HR1 HR2
  go_wp2_with fail
  go_quiet (fail)
  go_wp2
  go_ret3
  exact HQ.out _ ((Same.refl [] w1).drewN _)
 | none=>
  have hc2:w1.cell? ⟨sb,2,none⟩=some (.int .i64 (-1)):=hsc.cell.cell? 2;have HQ:Hid (R (.returned (.tuple #[.pointer (some ⟨rb,0,none⟩),.int .i64 0,.int .i64 0])) w1):=HR2.out w1 a HP.out hsc;clear hsc HP HR1 HR2
  go_wp2
  go_ret3
  exact HQ.out
end
end Go.Proofs.YtpddgdjocffgdaaGreat
