/- A reader of an image: the blocks of the disk, by contract. A reader of an image: what is so of entries that were read. A reader of an image: all of it, by contract. -/
import Derived.Test.YtpddgdjocffgdaaGreatJ28
import Derived.Test.YtpddgdjocffgdaaGreatJ02
import Derived.Test.YtpddgdjocffgdaaGreatJ13
import Derived.Laws.CopyOwn
import Derived.Deep.RegionLaw
namespace Go.Proofs.YtpddgdjocffgdaaGreat
set_option linter.unusedVariables false
set_option linter.unusedSimpArgs false
set_option linter.unusedSectionVars false
set_option maxHeartbeats 16000000
set_option maxRecDepth 100000
section
open Go.RowKit Go.Sort
variable [DecidableEq Blk] [Inhabited Blk] [Inhabited Vol] [Inhabited PEnt]
def blk8(B:List UInt8)(i:Nat):Blk:=⟨(B[i]!.toNat:Int),(B[i+1]!.toNat:Int),(B[i+2]!.toNat:Int),(B[i+3]!.toNat:Int),(B[i+4]!.toNat:Int),(B[i+5]!.toNat:Int),(B[i+6]!.toNat:Int),(B[i+7]!.toNat:Int)⟩
def rfree(B:List UInt8)(U:List Nat)(at_:Nat):Nat->Nat->Except Nat Unit
 | 0,_=>.ok ()
 | f+1,k=>if k∈U\/blk8 B (at_+k * 8)=Blk.zero then rfree B U at_ f (k+1) else .error (at_+k * 8)
def blks8(B:List UInt8)(at_ n:Nat):List Blk:=(List.range n).map fun k=>blk8 B (at_+k * 8)
def rdisk(B:List UInt8)(U:List Nat)(count at_:Nat):Except Nat (List Blk×Nat):=
 if at_+count * 8<=B.length then
  match rfree B U at_ count 0 with
  | .ok _=>.ok (blks8 B at_ count,at_+count * 8)
  | .error q=>.error q
 else .error B.length
def freeOf(L:List Nat)(n:Nat):List Nat:=(List.range n).filter fun x=>decide (x∉L)
theorem freeOf_succ(L:List Nat)(k:Nat):freeOf L (k+1)=if k∈L then freeOf L k else freeOf L k++[k]:=by
 unfold freeOf;rw[List.range_succ,List.filter_append];by_cases h:k∈L<;>simp[h]
theorem freeOf_le(L:List Nat)(k:Nat):(freeOf L k).length<=k:=by
 have:=List.length_filter_le (fun x=>decide (x∉L)) (List.range k);simpa [freeOf] using this
def dblks(B:List UInt8)(at_ count k:Nat):List Blk:=blks8 B at_ k++List.replicate (count - k) Blk.zero
theorem dblks_set(B:List UInt8)(at_ count k:Nat)(h:k < count):(dblks B at_ count k).set k (blk8 B (at_+k * 8))=dblks B at_ count (k+1):=by
 unfold dblks blks8;rw[List.set_append_right _ _ (by simp),show count - k=(count - (k+1))+1 by omega,List.replicate_succ];simp[List.range_succ]
theorem dblks_length(B:List UInt8)(at_ count k:Nat)(h:k<=count):(dblks B at_ count k).length=count:=by
 unfold dblks blks8;simp;omega
structure DInv(w0 w:World)(a:Option Addr)(B:List UInt8)(rd tk ug db bb fb count at_ base:Nat)(L U:List Nat)(d:Array Int)(k:Nat)(wr:World):Prop where
 disk:DiskAt wr db bb fb count 0 (dblks B at_ count k) d
 seen:At wr tk 4 (seenCells count L)
 used:At wr ug 4 (seenCells count U)
 rdr:RdAt w0 wr a B rd (at_+count * 8)
 same:Same [rd] w wr
 base:base<=wr.heap.size
structure DLie(w0 w:World)(rd tk ug db bb fb base:Nat):Prop where
 l1:w.heap.size<=db/\w.heap.size<=bb/\w.heap.size<=fb/\w.heap.size<=ug
 l2:db < base/\bb < base/\fb < base/\ug < base/\tk < base/\rd < base
 l3:ug≠db/\ug≠bb/\ug≠fb
 l4:tk < w.heap.size/\rd < w.heap.size
 l5:w0.heap.size<=tk/\w0.heap.size<=rd/\w0.heap.size<=w.heap.size
structure DiskGot(w0 w w':World)(a:Option Addr)(B:List UInt8)(rd tk count at_:Nat)(L U:List Nat)(db bb fb:Nat)(d:Array Int):Prop where
 disk:DiskAt w' db bb fb count (freeOf L count).length (giveB (freeOf L count) (blks8 B at_ count)) d
 heap:d=giveD 0 (freeOf L count) (popsD count count (upArr count))
 new:w.heap.size<=db/\w.heap.size<=bb/\w.heap.size<=fb
 rdr:RdAt w0 w' a B rd (at_+count * 8)
 same:Same [rd] w w'
def DiskPost(w0 w:World)(a:Option Addr)(B:List UInt8)(rd tk count at_:Nat)(L U:List Nat)(spec:Except Nat (List Blk×Nat))(e:Ending)(w':World):Prop:=
 match spec with
 | .ok (bl,at1)=>bl=blks8 B at_ count/\at1=at_+count * 8/\∃db bb fb d,e=.returned (.pointer (some ⟨db,0,none⟩))/\DiskGot w0 w w' a B rd tk count at_ L U db bb fb d
 | .error q=>e=bad q/\Same [] w0 w'
theorem copy_block(w:World)(b o len cap:Nat)(hl:8<=len)(x0 x1 x2 x3 x4 x5 x6 x7:Int)(hc:∀j v,[Value.int .u8 x0,.int .u8 x1,.int .u8 x2,.int .u8 x3,.int .u8 x4,.int .u8 x5,.int .u8 x6,.int .u8 x7][j]? = some v->w.cell? ((⟨b,o,none⟩:Addr).add j)=some v)(hb:b < w.heap.size) :
 ∃W5,(Builtin.copy_ #[41,41] 3 #[.slice (some ⟨w.heap.size,0,none⟩) 8 8,.slice (some ⟨b,o,none⟩) len cap]).run Tryz.prog (w.alloc (.cells #[.int .u8 0,.int .u8 0,.int .u8 0,.int .u8 0,.int .u8 0,.int .u8 0,.int .u8 0,.int .u8 0] 91)).drew=.ok (goInt 8) W5 /\
  At W5 w.heap.size 91 [.int .u8 x0,.int .u8 x1,.int .u8 x2,.int .u8 x3,.int .u8 x4,.int .u8 x5,.int .u8 x6,.int .u8 x7]/\Same [] w W5:=by
 have N:=(At.new w #[.int .u8 0,.int .u8 0,.int .u8 0,.int .u8 0,.int .u8 0,.int .u8 0,.int .u8 0,.int .u8 0] 91).drew;have hi:(Tryz.prog.info? 5).map (·.size)=some 1:=by
  obtain⟨i0,h1,h2,h3,h4⟩:=info_parts Tryz.info5;rw[h1];simp[h3]
 have hS:Same [] w (w.alloc (.cells #[.int .u8 0,.int .u8 0,.int .u8 0,.int .u8 0,.int .u8 0,.int .u8 0,.int .u8 0,.int .u8 0] 91)).drew:=((Same.refl _ _).alloc _).drew;refine⟨_,run_copy_cells (P:=Tryz.prog) _ 41 41 3 5 w.heap.size 0 8 8 ⟨b,o,none⟩ len cap [.int .u8 x0,.int .u8 x1,.int .u8 x2,.int .u8 x3,.int .u8 x4,.int .u8 x5,.int .u8 x6,.int .u8 x7] Tryz.underlying41 hi (show 8=Nat.min len 8 from (Nat.min_eq_right hl).symm) (fun j v hj=>?_) (fun j hj=>?_) (fun j hj=>N.frozen _) (by intro v hv;simp at hv;rcases hv with rfl|rfl|rfl|rfl|rfl|rfl|rfl|rfl<;>rfl),?_,?_⟩
 ·rw[(hS.below (Nat.le_refl _) (by simp)).cell (by simp only[Addr.add];split<;>exact hb)];exact hc j v hj
 ·rw[N.cell?];have hj8:j < 8:=by simpa using hj
  match j,hj8 with
  | 0,_=>rfl
  | 1,_=>rfl
  | 2,_=>rfl
  | 3,_=>rfl
  | 4,_=>rfl
  | 5,_=>rfl
  | 6,_=>rfl
  | 7,_=>rfl
 ·exact (((((((N.set_same 0 (.int .u8 x0)).set_same 1 (.int .u8 x1)).set_same 2 (.int .u8 x2)).set_same 3 (.int .u8 x3)).set_same 4 (.int .u8 x4)).set_same 5 (.int .u8 x5)).set_same 6 (.int .u8 x6)).set_same 7 (.int .u8 x7)
 ·exact (((((((hS.set w.heap.size 0 (.int .u8 x0) (by omega)).set w.heap.size 1 (.int .u8 x1) (by omega)).set w.heap.size 2 (.int .u8 x2) (by omega)).set w.heap.size 3 (.int .u8 x3) (by omega)).set w.heap.size 4 (.int .u8 x4) (by omega)).set w.heap.size 5 (.int .u8 x5) (by omega)).set w.heap.size 6 (.int .u8 x6) (by omega)).set w.heap.size 7 (.int .u8 x7) (by omega)
theorem DInv.next{w0 w wr W:World}{a:Option Addr}{B:List UInt8}{rd tk ug db bb fb count at_ base:Nat}{L U:List Nat}{d:Array Int}{k:Nat}(h:DInv w0 w a B rd tk ug db bb fb count at_ base L U d k wr)(hl:DLie w0 w rd tk ug db bb fb base)(hw:w.heap.size<=base){T:List Nat}(hS:Same T wr W)(hT:∀q∈T,base<=q):DInv w0 w a B rd tk ug db bb fb count at_ base L U d k W:=by
 obtain⟨⟨a1,a2,a3,a4⟩,⟨b1,b2,b3,b4,b5,b6⟩,c,⟨d1,d2⟩,e1,e2,e3⟩:=hl;have far:∀q,q < base->q∉T:=fun q hq hm=>by have:=hT q hm;omega
 exact⟨h.disk.same hS (far _ b1) (far _ b2) (far _ b3),hS.at h.seen (far _ b5),hS.at h.used (far _ b4),h.rdr.next hS (far _ b6) (fun q hq=>by have:=hT q hq;omega),h.same.step hS (fun q hq hl=>by have:=hT q hq;omega),Nat.le_trans h.base hS.size⟩
theorem DInv.write{w0 w wr W:World}{a:Option Addr}{B:List UInt8}{rd tk ug db bb fb count at_ base:Nat}{L U:List Nat}{d:Array Int}{k:Nat}(h:DInv w0 w a B rd tk ug db bb fb count at_ base L U d k wr)(hl:DLie w0 w rd tk ug db bb fb base)(hk:k < count)(hA:At W bb 91 (flat ((dblks B at_ count k).set k (blk8 B (at_+k * 8)))))(hS:Same [bb] wr W):DInv w0 w a B rd tk ug db bb fb count at_ base L U d (k+1) W:=by
 obtain⟨⟨a1,a2,a3,a4⟩,⟨b1,b2,b3,b4,b5,b6⟩,⟨c1,c2,c3⟩,⟨d1,d2⟩,e1,e2,e3⟩:=hl;rw[dblks_set B at_ count k hk] at hA;have D:=h.disk;exact⟨⟨hS.at D.disk (by simpa using D.ne1),hA,hS.at D.free (by simpa using D.ne3.symm),D.ne1,D.ne2,D.ne3,dblks_length _ _ _ _ (by omega),D.size,D.le,D.small⟩,hS.at h.seen (by simp;omega),hS.at h.used (by simpa using c2),h.rdr.next hS (by simp;omega) (by simp;omega),h.same.step hS (by simp;omega),Nat.le_trans h.base hS.size⟩
theorem rdisk_calls(w0 w:World)(a:Option Addr)(B:List UInt8)(rd tk at_ count jg:Nat)(L:List Nat)(vs:List Vol)(hB:BytesOld w0 a B)(h:RdAt w0 w a B rd at_)(hT:At w tk 4 (seenCells count L))(htk:w0.heap.size<=tk)(hne:tk≠rd)(hc:1<=count/\count<=200)
 (hn:vs.length<=20) (hJ:At w jg 110 (vs.map fun v=>ptr v.vb)) (hV:∀v∈vs,RawAt w v) (hk:∀v∈vs,v.kept.length<=v.xs.length/\v.xs.length<=200) (hx:∀v∈vs,∀x∈v.xs,x < count) (hfar:jg≠rd/\∀v∈vs,∀k∈v.foot,k≠rd) :
 Calls Tryz.prog 133 #[.pointer (some ⟨rd,0,none⟩),.slice (some ⟨tk,0,none⟩) count count,.slice (some ⟨jg,0,none⟩) vs.length vs.length] w (DiskPost w0 w a B rd tk count at_ L (vs.flatMap usedL) (rdisk B (vs.flatMap usedL) count at_)):=by
 have hnew:=h.new;have hrl:=h.cell.lt;have htl:=hT.lt;have hw0:=h.same.size;have r1:w.cell? ⟨rd,1,none⟩=some (.int .i64 at_):=h.cell.cell? 1;have hm8:((count * 8:Nat):Int)=(count:Int) * 8:=by omega
 generalize hspec:rdisk B (vs.flatMap usedL) count at_=spec;unfold rdisk at hspec;by_cases hle:at_+count * 8<=B.length
 ·rw[if_pos hle] at hspec;obtain⟨b,off,ha,hb0,hcell⟩:=hB.at h.same (by intro e;rw[e] at hle;simp at hle;omega);have hN:=next_ok w0 w a B rd at_ (count * 8) b off hB h ha (by omega) hle;rw[hm8] at hN;have HSP:Hid ((match rfree B (vs.flatMap usedL) at_ count 0 with
   | .ok _=>.ok (blks8 B at_ count,at_+count * 8)
   | .error q=>.error q)=spec):=hspec
  have HW:Hid (At w tk 4 (seenCells count L)/\At w jg 110 (vs.map fun v=>ptr v.vb)/\(∀v∈vs,RawAt w v)):=⟨hT,hJ,hV⟩
  have HK:Hid ((∀v∈vs,v.kept.length<=v.xs.length/\v.xs.length<=200)/\(∀v∈vs,∀x∈v.xs,x < count)/\(jg≠rd/\∀v∈vs,∀k∈v.foot,k≠rd)):=⟨hk,hx,hfar⟩
  have HBO:Hid (BytesOld w0 a B):=hB;have HCL:Hid (∀W,Same [] w0 W->∀i,i < B.length->W.cell? ⟨b,off+i,none⟩=some (byteV B[i]!)):=fun W hW i hi=>by
   obtain⟨b',off',ha',_,hc'⟩:=HBO.out.at hW (by intro e;rw[e] at hle;simp at hle;omega);have e1:=ha.symm.trans ha';simp only[Option.some.injEq,Addr.mk.injEq] at e1;obtain⟨rfl,rfl,_⟩:=e1;exact hc' i hi
  have hlen:=hB.len;clear hspec h hT hJ hV hk hx hfar hB hcell
  go_enter Tryz.func133,Tryz.ntmps133
  go_wp2_with (go_at_call 142;refine hN.mono ?_;rintro e w1 ⟨rfl,hR1,S1⟩)
  refine (new_calls count w1 hc.2).mono ?_;rintro e w2 ⟨db,rfl,⟨bb,fb,hd1,hd2,hd3,D2⟩,S2⟩
  go_wp2_with fail
  have hpops:=(upArr_heap count).pops count (Nat.le_refl _);refine (take_calls db bb fb count count count _ _ (List.range count) w2 _ _ rfl rfl (by omega) D2 (by rw[hpops.1,List.take_of_length_le (by simp)]) (fun x hx=>List.mem_range.1 hx)).mono ?_;rintro e w3 (⟨hcc,v',rfl,D3,hvv,S3⟩|⟨hbad,_⟩)
  case inr=>omega
  clear hcc hvv;have s1z:=S1.size;have s2z:=S2.size;have s3z:=S3.size;have S23:Same [] w1 w3:=S2.step S3 (by simp;omega);have S13:Same [rd] w w3:=S1.step S23 (by simp);rw[Nat.sub_self] at D3
  go_wp2_with fail
  refine (usedBlocks_calls w3 count jg vs hc.2 hn (S13.at HW.out.2.1 (by simpa using HK.out.2.2.1)) (fun v hv=>(HW.out.2.2 v hv).same S13 (fun k hk=>by simpa using HK.out.2.2.2 v hv k hk)) HK.out.1 HK.out.2.1).mono ?_;rintro e w4 ⟨ug,rfl,hug,U4,S4⟩;have s4z:=S4.size;have hugl:=U4.lt;have D4:=D3.same S4 (by simp) (by simp) (by simp);have dl1:=D3.disk.lt;have dl2:=D3.data.lt;have dl3:=D3.free.lt;have HL:Hid (DLie w0 w rd tk ug db bb fb w4.heap.size):=⟨⟨by omega,by omega,by omega,by omega⟩,⟨by omega,by omega,by omega,by omega,by omega,by omega⟩,⟨by omega,by omega,by omega⟩,⟨htl,hrl⟩,⟨htk,hnew,hw0⟩⟩
  have HI0:Hid (DInv w0 w a B rd tk ug db bb fb count at_ w4.heap.size L (vs.flatMap usedL) (popsD count count (upArr count)) 0 w4):=by
   refine⟨?_,S4.at (S23.at (S1.at HW.out.1 (by simpa using hne)) (by simp)) (by simp),U4,(hR1.next S23 (by simp) (by simp)).next S4 (by simp) (by simp),S13.step S4 (by simp),Nat.le_refl _⟩;have e:dblks B at_ count 0=List.replicate count Blk.zero:=by simp[dblks,blks8]
   rw[e];exact D4
  generalize vs.flatMap usedL=U at *;obtain⟨d0,hd0⟩:∃d0,popsD count count (upArr count)=d0:=⟨_,rfl⟩
  rw[hd0] at HI0;have HD0:Hid (d0=popsD count count (upArr count)):=hd0.symm;generalize w4.heap.size=base at *;clear hd0 D2 D3 D4 S2 S3 S4 S23 S13 U4 hR1 S1 hN hpops HW HK dl1 dl2 dl3 s1z s2z s3z s4z hd1 hd2 hd3 hug hugl r1
  go_wp2_with fail
  go_loopw [12,35] (fun v i wr=>∃(k:Nat) (ad:Option Addr) (cap:Nat),k<=count/\i=.int .i64 k/\v=.slice ad (freeOf L k).length cap/\DInv w0 w a B rd tk ug db bb fb count at_ base L U d0 k wr/\wr.ownsRow base 3 1 (.slice ad (freeOf L k).length cap) (freeOf L k).length ((freeOf L k).map fun x:Nat=>Value.int .i64 x)/\Hid ((match rfree B U at_ (count - k) k with
   | .ok _=>.ok (blks8 B at_ count,at_+count * 8)
   | .error q=>.error q)=spec)) (fun _ i _=>count - (intOf i).toNat)
  case atStart=>exact⟨0,none,0,Nat.zero_le _,rfl,rfl,HI0.out,World.ownsRow_nil _ _ _ _,HSP⟩
  case round=>
   obtain⟨k,ad,cap,hk,rfl,rfl,hD,hown,HQ⟩:=hrel;by_cases hkl:k < count
   ·have l1:(k:Int) < (count:Int):=by omega
    have hfl:=freeOf_le L k;have hcl:=fun j (hj:j < 8)=>HCL.out wr hD.rdr.same (at_+k * 8+j) (by omega)
    obtain⟨x,hxb⟩:∃x,blk8 B (at_+k * 8)=x:=⟨_,rfl⟩
    have u0:wr.cell? ⟨ug,k,none⟩=some (.bool (decide (k∈U))):=by rw[hD.used.cell?,seen_get count _ k hkl]
    have t0:wr.cell? ⟨tk,k,none⟩=some (.bool (decide (k∈L))):=by rw[hD.seen.cell?,seen_get count _ k hkl]
    have HD:Hid (DInv w0 w a B rd tk ug db bb fb count at_ base L U d0 k wr/\wr.ownsRow base 3 1 (.slice ad (freeOf L k).length cap) (freeOf L k).length ((freeOf L k).map fun x:Nat=>Value.int .i64 x)):=⟨hD,hown⟩
    clear hD hown;obtain⟨x0,x1,x2,x3,x4,x5,x6,x7⟩:=x;have hcp:=copy_block wr b (off+at_+k * 8) (count * 8 - k * 8) (count * 8 - k * 8) (by omega) x0 x1 x2 x3 x4 x5 x6 x7 (fun j v hj=>by
     have hj8:j < 8:=by have:=(List.getElem?_eq_some_iff.1 hj).1;simpa using this
     have hq:=hcl j hj8;rw[show off+(at_+k * 8+j)=off+at_+k * 8+j by omega] at hq;have ea:(⟨b,off+at_+k * 8,none⟩:Addr).add j=⟨b,off+at_+k * 8+j,none⟩:=by simp[Addr.add]
     rw[ea,hq];simp only[blk8,Blk.mk.injEq] at hxb;obtain⟨e0,e1,e2,e3,e4,e5,e6,e7⟩:=hxb
     match j,hj8 with
     | 0,_=>simp at hj;rw[<-hj,<-e0];rfl
     | 1,_=>simp at hj;rw[<-hj,<-e1];rfl
     | 2,_=>simp at hj;rw[<-hj,<-e2];rfl
     | 3,_=>simp at hj;rw[<-hj,<-e3];rfl
     | 4,_=>simp at hj;rw[<-hj,<-e4];rfl
     | 5,_=>simp at hj;rw[<-hj,<-e5];rfl
     | 6,_=>simp at hj;rw[<-hj,<-e6];rfl
     | 7,_=>simp at hj;rw[<-hj,<-e7];rfl) (by have:=HD.out.1.rdr.same.size;omega)
    obtain⟨W5,hcp,A5,S5⟩:=hcp;clear hcl;have hbw:w.heap.size<=base:=by have:=HL.out.l1;have:=HL.out.l2;omega
    have HD5:Hid (DInv w0 w a B rd tk ug db bb fb count at_ base L U d0 k W5/\W5.ownsRow base 3 1 (.slice ad (freeOf L k).length cap) (freeOf L k).length ((freeOf L k).map fun x:Nat=>Value.int .i64 x)):=⟨HD.out.1.next HL.out hbw S5 (by simp),owns_same HD.out.2 S5 (by simp)⟩
    have hlt5:wr.heap.size < W5.heap.size:=A5.lt;obtain⟨z0,z1,z2,z3,z4,z5,z6,z7⟩:W5.cell? ⟨wr.heap.size,0,none⟩=some (.int .u8 x0)/\W5.cell? ⟨wr.heap.size,1,none⟩=some (.int .u8 x1)/\W5.cell? ⟨wr.heap.size,2,none⟩=some (.int .u8 x2)/\W5.cell? ⟨wr.heap.size,3,none⟩=some (.int .u8 x3)/\W5.cell? ⟨wr.heap.size,4,none⟩=some (.int .u8 x4)/\W5.cell? ⟨wr.heap.size,5,none⟩=some (.int .u8 x5)/\W5.cell? ⟨wr.heap.size,6,none⟩=some (.int .u8 x6)/\W5.cell? ⟨wr.heap.size,7,none⟩=some (.int .u8 x7):=⟨A5.cell? 0,A5.cell? 1,A5.cell? 2,A5.cell? 3,A5.cell? 4,A5.cell? 5,A5.cell? 6,A5.cell? 7⟩
    have HE5:(Op.equalIn 10000 91 (.agg #[.int .u8 x0,.int .u8 x1,.int .u8 x2,.int .u8 x3,.int .u8 x4,.int .u8 x5,.int .u8 x6,.int .u8 x7]) (.agg #[.int .u8 0,.int .u8 0,.int .u8 0,.int .u8 0,.int .u8 0,.int .u8 0,.int .u8 0,.int .u8 0])).run Tryz.prog W5=.ok (decide ((⟨x0,x1,x2,x3,x4,x5,x6,x7⟩:Blk)=Blk.zero)) W5:=equal_blocks ⟨x0,x1,x2,x3,x4,x5,x6,x7⟩ Blk.zero W5;have u5:W5.cell? ⟨ug,k,none⟩=some (.bool (decide (k∈U))):=by rw[HD5.out.1.used.cell?,seen_get count _ k hkl]
    have q0:=HQ.out;rw[show count - k=(count - (k+1))+1 by omega,rfree,hxb] at q0;have hadd:IntKind.i64.wrap ((at_:Int)+(k:Int) * 8)=((at_+k * 8:Nat):Int):=by rw[IntWalk.i64_in _ (by omega)];omega
    clear u0 t0 A5 S5 HD HQ HI0 HSP;by_cases hok:k∈U\/(⟨x0,x1,x2,x3,x4,x5,x6,x7⟩:Blk)=Blk.zero
    ·rw[if_pos hok] at q0;have HE:Hid ((match rfree B U at_ (count - (k+1)) (k+1) with
      | .ok _=>.ok (blks8 B at_ count,at_+count * 8)
      | .error q=>.error q)=spec):=q0
     have HXB:Hid (blk8 B (at_+k * 8)=⟨x0,x1,x2,x3,x4,x5,x6,x7⟩):=hxb;have hWr:Hid (Calls Tryz.prog 102 #[.pointer (some ⟨db,0,none⟩),.int .i64 k,.agg #[.int .u8 x0,.int .u8 x1,.int .u8 x2,.int .u8 x3,.int .u8 x4,.int .u8 x5,.int .u8 x6,.int .u8 x7]] W5 fun e w'=>e=.returned (.tuple #[])/\DInv w0 w a B rd tk ug db bb fb count at_ base L U d0 (k+1) w'/\w'.ownsRow base 3 1 (.slice ad (freeOf L k).length cap) (freeOf L k).length ((freeOf L k).map fun x:Nat=>Value.int .i64 x)):=by
      refine (diskWrite_calls db bb count k _ _ _ _ ⟨x0,x1,x2,x3,x4,x5,x6,x7⟩ W5 _ _ _ rfl rfl rfl HD5.out.1.disk.disk HD5.out.1.disk.data HD5.out.1.disk.len hkl (by omega)).mono ?_;rintro e w6 ⟨rfl,A6,S6⟩;rw[<-HXB.out] at A6;exact⟨rfl,HD5.out.1.write HL.out hkl A6 S6,owns_same HD5.out.2 S6 (by have:=HL.out.l2;simp;omega)⟩
     clear q0 hxb;have hcase:(decide (k∈U)=true)\/(decide (k∈U)=false/\decide ((⟨x0,x1,x2,x3,x4,x5,x6,x7⟩:Blk)=Blk.zero)=true):=by
      by_cases h1:k∈U
      ·exact Or.inl (decide_eq_true h1)
      ·exact Or.inr ⟨decide_eq_false h1,decide_eq_true (hok.resolve_left h1)⟩
     clear hok;by_cases hkL:k∈L
     ·have HEF:Hid (freeOf L (k+1)=freeOf L k):=by show _=_;rw[freeOf_succ,if_pos hkL]
      rcases hcase with hcu|⟨hcu,hcz⟩
      ·rw[hcu] at u5
       go_wp2_with fail
       go_region
       go_wp2_with (first|(go_at_call 134;go_fit (must_ok _ _);rintro e w3 ⟨rfl,hw⟩;obtain rfl:=hw.symm)|(go_at_call 102;go_fit hWr.out;rintro e w6 ⟨rfl,D6,O6⟩;have t6:w6.cell? ⟨tk,k,none⟩=some (.bool true):=(by rw[D6.seen.cell?,seen_get count _ k hkl,decide_eq_true hkL])))
       refine⟨⟨k+1,ad,cap,by omega,by rw[Int.natCast_add];rfl,by rw[HEF.out],D6,by rw[HEF.out];exact O6,HE⟩,?_⟩;show count - ((k:Int)+1).toNat < count - ((k:Int)).toNat;omega
      ·rw[hcu] at u5;rw[hcz] at HE5
       go_wp2_with fail
       go_region
       go_wp2_with (first|(go_at_call 134;go_fit (must_ok _ _);rintro e w3 ⟨rfl,hw⟩;obtain rfl:=hw.symm)|(go_at_call 102;go_fit hWr.out;rintro e w6 ⟨rfl,D6,O6⟩;have t6:w6.cell? ⟨tk,k,none⟩=some (.bool true):=(by rw[D6.seen.cell?,seen_get count _ k hkl,decide_eq_true hkL])))
       refine⟨⟨k+1,ad,cap,by omega,by rw[Int.natCast_add];rfl,by rw[HEF.out],D6,by rw[HEF.out];exact O6,HE⟩,?_⟩;show count - ((k:Int)+1).toNat < count - ((k:Int)).toNat;omega
     ·have HEF:Hid (freeOf L (k+1)=freeOf L k++[k]):=by show _=_;rw[freeOf_succ,if_neg hkL]
      have hnot:=runNot;obtain⟨i0,hi,hz0,hz1,hz2⟩:=info_parts Tryz.info3;rcases hcase with hcu|⟨hcu,hcz⟩
      ·rw[hcu] at u5
       go_wp2_with fail
       go_region
       go_wp2_with (first|(go_at_call 134;go_fit (must_ok _ _);rintro e w3 ⟨rfl,hw⟩;obtain rfl:=hw.symm)|(go_at_call 102;go_fit hWr.out;rintro e w6 ⟨rfl,D6,O6⟩;have t6:w6.cell? ⟨tk,k,none⟩=some (.bool false):=(by rw[D6.seen.cell?,seen_get count _ k hkl,decide_eq_false hkL]);have HD6:Hid (DInv w0 w a B rd tk ug db bb fb count at_ base L U d0 (k+1) w6):=D6;have hown:=O6;clear D6 O6)|(at_builtin;refine wpList_append_own _ rfl _ _ 51 rfl base 3 i0 (.int .i64 0) 1 8 Tryz.underlying51 hi hz0 hz1 hz2 rfl (by decide) _ _ _ rfl (hown.alloc _) ⟨w6.heap.size,0,none⟩ 1 1 [.int .i64 k] rfl rfl ?c1 ?c2 ?c3 ?c4 ?c5 ?_))
       case c1=>
        intro j u hj
        match j,hj with
        | 0,hj=>simp at hj;subst hj;simp[Addr.add]
       case c2=>intro u hu;simp at hu;subst hu;rfl
       case c3=>unfold maxLen;omega
       case c4=>omega
       case c5=>have:=HD6.out.base;simp;omega
       intro v' w7 hown' hgrow _;have hr:=owns_row hown;have S7:Same _ (w6.alloc _) w7:=(Same.refl (Value.ownBlock (.slice ad (freeOf L k).length cap)).toList _).grown hgrow (fun q hq _=>by simp[hq]);have HD7:Hid (DInv w0 w a B rd tk ug db bb fb count at_ base L U d0 (k+1) w7):=(HD6.out.next HL.out hbw (T:=[]) ((Same.refl _ _).alloc _) (by simp)).next HL.out hbw S7 (fun q hq=>hr q (by simpa using hq));obtain⟨a',cap',rfl⟩:=owns_form hown';clear hgrow hr S7 hown
       go_wp2
       refine⟨⟨k+1,a',cap',by omega,by rw[Int.natCast_add];rfl,by rw[HEF.out,List.length_append];rfl,HD7.out,by rw[HEF.out,List.map_append,List.length_append];exact hown',HE⟩,?_⟩;show count - ((k:Int)+1).toNat < count - ((k:Int)).toNat;omega
      ·rw[hcu] at u5;rw[hcz] at HE5
       go_wp2_with fail
       go_region
       go_wp2_with (first|(go_at_call 134;go_fit (must_ok _ _);rintro e w3 ⟨rfl,hw⟩;obtain rfl:=hw.symm)|(go_at_call 102;go_fit hWr.out;rintro e w6 ⟨rfl,D6,O6⟩;have t6:w6.cell? ⟨tk,k,none⟩=some (.bool false):=(by rw[D6.seen.cell?,seen_get count _ k hkl,decide_eq_false hkL]);have HD6:Hid (DInv w0 w a B rd tk ug db bb fb count at_ base L U d0 (k+1) w6):=D6;have hown:=O6;clear D6 O6)|(at_builtin;refine wpList_append_own _ rfl _ _ 51 rfl base 3 i0 (.int .i64 0) 1 8 Tryz.underlying51 hi hz0 hz1 hz2 rfl (by decide) _ _ _ rfl (hown.alloc _) ⟨w6.heap.size,0,none⟩ 1 1 [.int .i64 k] rfl rfl ?c1 ?c2 ?c3 ?c4 ?c5 ?_))
       case c1=>
        intro j u hj
        match j,hj with
        | 0,hj=>simp at hj;subst hj;simp[Addr.add]
       case c2=>intro u hu;simp at hu;subst hu;rfl
       case c3=>unfold maxLen;omega
       case c4=>omega
       case c5=>have:=HD6.out.base;simp;omega
       intro v' w7 hown' hgrow _;have hr:=owns_row hown;have S7:Same _ (w6.alloc _) w7:=(Same.refl (Value.ownBlock (.slice ad (freeOf L k).length cap)).toList _).grown hgrow (fun q hq _=>by simp[hq]);have HD7:Hid (DInv w0 w a B rd tk ug db bb fb count at_ base L U d0 (k+1) w7):=(HD6.out.next HL.out hbw (T:=[]) ((Same.refl _ _).alloc _) (by simp)).next HL.out hbw S7 (fun q hq=>hr q (by simpa using hq));obtain⟨a',cap',rfl⟩:=owns_form hown';clear hgrow hr S7 hown
       go_wp2
       refine⟨⟨k+1,a',cap',by omega,by rw[Int.natCast_add];rfl,by rw[HEF.out,List.length_append];rfl,HD7.out,by rw[HEF.out,List.map_append,List.length_append];exact hown',HE⟩,?_⟩;show count - ((k:Int)+1).toNat < count - ((k:Int)).toNat;omega
    ·rw[if_neg hok] at q0;have HE:Hid (spec=.error (at_+k * 8)):=q0.symm;have hcu:decide (k∈U)=false:=decide_eq_false (fun e=>hok (Or.inl e));have hcz:decide ((⟨x0,x1,x2,x3,x4,x5,x6,x7⟩:Blk)=Blk.zero)=false:=decide_eq_false (fun e=>hok (Or.inr e));rw[hcu] at u5;rw[hcz] at HE5;have hMB:Hid (Calls Tryz.prog 134 #[.bool false,.int .i64 ((at_:Int)+(k:Int) * 8)] W5 fun e w'=>e=bad (at_+k * 8)/\w'=W5):=by
      have:=must_bad (at_+k * 8) W5;rw[show ((at_+k * 8:Nat):Int)=(at_:Int)+(k:Int) * 8 by omega] at this;exact this
     have HS5:Hid (Same [] w0 W5):=HD5.out.1.rdr.same;clear hok q0 hxb hcu hcz
     go_wp2_with fail
     go_region
     go_wp2_with (go_at_call 134;go_fit hMB.out;rintro e w3 ⟨rfl,hw⟩;obtain rfl:=hw.symm;unfold bad)
     refine⟨rfl,?_⟩;show DiskPost _ _ _ _ _ _ _ _ _ _ _ _ _;rw[HE.out];exact⟨rfl,HS5.out⟩
   ·have ek:k=count:=by omega
    subst ek;have HE:Hid (spec=.ok (blks8 B at_ k,at_+k * 8)):=by
     have:=HQ.out;rw[Nat.sub_self] at this;exact this.symm
    have ebl:dblks B at_ k k=blks8 B at_ k:=by simp[dblks]
    have hDD:=hD.disk;rw[ebl] at hDD;have hfl:=freeOf_le L k;obtain⟨g,cs,hg1,hg2⟩:∃g cs,(freeOf L k≠[]->ad=some ⟨g,0,none⟩/\At wr g 3 cs/\g∉[db,bb,fb])/\∀j,j < (freeOf L k).length->cs[0+j]? = some (.int .i64 ((freeOf L k)[j]!:Nat)):=by
     by_cases h0:(freeOf L k).length=0
     ·exact⟨0,[],fun h=>absurd (List.eq_nil_of_length_eq_zero h0) h,fun j hj=>by omega⟩
     ·obtain⟨g,cs,g1,g2,g3,g4,g5,g6⟩:=owns_at hown h0;refine⟨g,cs,fun _=>⟨g1,g3,by have:=HL.out.l2;simp;omega⟩,fun j hj=>?_⟩;have:(cs.take (freeOf L k).length)[j]? = cs[j]?:=by rw[List.getElem?_take,if_pos hj]
      rw[Nat.zero_add,<-this,g6,List.getElem?_map,List.getElem?_eq_getElem hj,getElem!_pos _ j hj];rfl
    have hG:=give_calls db bb fb k 0 g 0 cap (blks8 B at_ k) d0 (freeOf L k) ad 3 cs wr _ _ rfl rfl hDD hg1 hg2 (fun x hx=>List.mem_range.1 (List.mem_filter.1 hx).1) (by omega);have HD:Hid (DInv w0 w a B rd tk ug db bb fb k at_ base L U d0 k wr):=hD;clear hD hown hDD hg1 hg2 HQ ebl
    go_wp2_with (go_at_call 95;go_fit hG;rintro e w6 ⟨rfl,D6,S6⟩)
    have HG6:Hid (DiskGot w0 w w6 a B rd tk k at_ L U db bb fb (giveD 0 (freeOf L k) d0)):=by
     have h1:=HL.out.l1;have h4:=HL.out.l4;have h5:=HL.out.l5;rw[Nat.zero_add] at D6;exact⟨D6,by rw[<-HD0.out],⟨h1.1,h1.2.1,h1.2.2.1⟩,HD.out.rdr.next S6 (by simp;omega) (by simp;omega),HD.out.same.step S6 (by simp;omega)⟩
    first
     | (show DiskPost _ _ _ _ _ _ _ _ _ _ _ _ _;rw[HE.out];exact⟨rfl,rfl,db,bb,fb,_,rfl,HG6.out⟩)
     | (go_ret;show DiskPost _ _ _ _ _ _ _ _ _ _ _ _ _;rw[HE.out];exact⟨rfl,rfl,db,bb,fb,_,rfl,HG6.out⟩)
 ·rw[if_neg hle] at hspec;have HE:Hid (spec=.error B.length):=hspec.symm;have hN:=next_bad w0 w a B rd at_ (count * 8) hB h (by omega) (by omega);rw[hm8] at hN;have HS0:Hid (Same [] w0 w):=h.same;clear hspec h hT hJ hV hk hx hfar hB
  go_enter Tryz.func133,Tryz.ntmps133
  go_wp2_with (go_at_call 142;refine hN.mono ?_;rintro e w1 ⟨rfl,S1⟩;unfold bad)
  refine⟨rfl,?_⟩;show DiskPost _ _ _ _ _ _ _ _ _ _ _ _ _;rw[HE.out];exact⟨rfl,HS0.out.step S1 (by simp)⟩
theorem rnums_ok{B:List UInt8}{bound:Nat}(hb:1<=bound):∀(c:Nat) (seen acc:List Nat) (at_:Nat) (xs:List Nat) (at1:Nat),rnums B bound c seen acc at_=.ok (xs,at1) ->
 ∃new,xs=acc++new/\new.length=c/\(∀x∈new,x < bound/\x∉seen/\x∉acc)/\new.Nodup
 | 0,seen,acc,at_,xs,at1,h=>by
  simp only[rnums,Except.ok.injEq,Prod.mk.injEq] at h;exact⟨[],by simp[h.1],rfl,by simp,by simp⟩
 | c+1,seen,acc,at_,xs,at1,h=>by
  unfold rnums at h;cases hs:rnum B 2 0 (bound - 1) at_ with
  | error q=>rw[hs] at h;cases h
  | ok pr=>
   obtain⟨k,at2⟩:=pr;rw[hs] at h;have hk:=(rnum_ok hs).2.2.1;by_cases hm:k∈seen++acc
   ·simp only[hm,if_true] at h;cases h
   ·simp only[hm,if_false] at h;obtain⟨new,h1,h2,h3,h4⟩:=rnums_ok hb c seen (acc++[k]) at2 xs at1 h;simp only[List.mem_append,not_or] at hm;refine⟨k :: new,by rw[h1,List.append_assoc];rfl,by simp[h2],fun x hx=>?_,?_⟩
    ·rcases List.mem_cons.1 hx with rfl|hx
     ·exact⟨by omega,hm⟩
     ·have:=h3 x hx;exact⟨this.1,this.2.1,fun hx'=>this.2.2 (List.mem_append_left _ hx')⟩
    ·refine List.nodup_cons.2 ⟨fun hk'=>?_,h4⟩;exact (h3 k hk').2.2 (by simp)
structure PEntOk(count bound:Nat)(used:List Nat)(p:PEnt):Prop where
 name:nameB p.name=true
 kind:p.kind<=2
 size:1<=p.size/\p.size<=200
 org:p.kind≠0->p.origin < count
 plain:p.kind=0->p.xs.length=p.size/\p.kept=[]
 pic:p.kind≠0->1<=p.xs.length/\p.xs.length<=p.size
 keptle:p.kept.length<=p.xs.length
 kept:p.kept.Nodup/\∀x∈p.kept,x < p.size
 lost:p.kind=2->p.kept=[]
 xs:p.xs.Nodup/\∀x∈p.xs,x < bound/\x∉used
theorem rname_ok{B:List UInt8}{ahead:ByteArray}{at_:Nat}{name:ByteArray}{at1:Nat}(h:rname B ahead at_=.ok (name,at1)):nameB name=true/\cmpB ahead name < 0:=by
 unfold rname at h;cases hs:rnum B 1 1 10 at_ with
 | error q=>rw[hs] at h;cases h
 | ok pr=>
  obtain⟨n,at2⟩:=pr;rw[hs] at h;by_cases h1:at2+n<=B.length
  ·simp only[h1,if_true] at h;by_cases h2:nameB (textAt B at2 n)=true/\cmpB ahead (textAt B at2 n) < 0
   ·rw[if_pos h2] at h;simp only[Except.ok.injEq,Prod.mk.injEq] at h;rw[<-h.1];exact h2
   ·rw[if_neg h2] at h;cases h
  ·simp only[h1,if_false] at h;cases h
theorem rentry_ok{B:List UInt8}{count bound:Nat}{used:List Nat}{ahead:ByteArray}{at_:Nat}{p:PEnt}{at1:Nat}(hb:1<=bound)(hc:1<=count)(h:rentry B count bound used ahead at_=.ok (p,at1)):PEntOk count bound used p/\cmpB ahead p.name < 0:=by
 rw[rentry_eq] at h;cases hs:rname B ahead at_ with
 | error q=>rw[hs] at h;cases h
 | ok pr=>
  obtain⟨name,a1⟩:=pr;rw[hs] at h;obtain⟨hn1,hn2⟩:=rname_ok hs;cases hs:rnum B 1 0 2 a1 with
  | error q=>simp only[hs] at h;cases h
  | ok pr=>
   obtain⟨kind,a2⟩:=pr;simp only[hs] at h;have hk:=(rnum_ok hs).2.2.1;cases hs:rnum B 2 1 200 a2 with
   | error q=>simp only[hs] at h;cases h
   | ok pr=>
    obtain⟨size,a3⟩:=pr;simp only[hs] at h;have hz:=rnum_ok hs;by_cases hk0:kind=0
    ·rw[if_pos hk0] at h;unfold rvol at h;cases hs:rnum B 2 size size a3 with
     | error q=>simp only[hs] at h;cases h
     | ok pr=>
      obtain⟨c,a4⟩:=pr;simp only[hs] at h;have hcc:=rnum_ok hs;cases hs:rnums B bound c used [] a4 with
      | error q=>simp only[hs] at h;cases h
      | ok pr=>
       obtain⟨xs,a5⟩:=pr;simp only[hs,Except.ok.injEq,Prod.mk.injEq] at h;obtain⟨new,e1,e2,e3,e4⟩:=rnums_ok hb c used [] a4 xs a5 hs;rw[List.nil_append] at e1;subst e1;rw[<-h.1];have:xs.length=size:=by omega
       exact⟨⟨hn1,by simp,⟨hz.2.1,hz.2.2.1⟩,by simp,fun _=>⟨this,rfl⟩,by simp,by simp,⟨by simp,by simp⟩,by simp,e4,fun x hx=>⟨(e3 x hx).1,(e3 x hx).2.1⟩⟩,hn2⟩
    ·rw[if_neg hk0] at h;unfold rpic at h;cases hs:rnum B 1 0 (count - 1) a3 with
     | error q=>simp only[hs] at h;cases h
     | ok pr=>
      obtain⟨origin,a4⟩:=pr;simp only[hs] at h;have hoo:=rnum_ok hs;cases hs:rnum B 2 1 size a4 with
      | error q=>simp only[hs] at h;cases h
      | ok pr=>
       obtain⟨c,a5⟩:=pr;simp only[hs] at h;have hcc:=rnum_ok hs;cases hs:rnums B bound c used [] a5 with
       | error q=>simp only[hs] at h;cases h
       | ok pr=>
        obtain⟨xs,a6⟩:=pr;simp only[hs] at h;obtain⟨new,e1,e2,e3,e4⟩:=rnums_ok hb c used [] a5 xs a6 hs;rw[List.nil_append] at e1;subst e1;cases hs:rnum B 2 0 (if kind=2 then 0 else xs.length) a6 with
        | error q=>simp only[hs] at h;cases h
        | ok pr=>
         obtain⟨k,a7⟩:=pr;simp only[hs] at h;have hkk:=rnum_ok hs;cases hs:rnums B size k [] [] a7 with
         | error q=>simp only[hs] at h;cases h
         | ok pr=>
          obtain⟨kept,a8⟩:=pr;simp only[hs,Except.ok.injEq,Prod.mk.injEq] at h;obtain⟨new2,f1,f2,f3,f4⟩:=rnums_ok hz.2.1 k [] [] a7 kept a8 hs;rw[List.nil_append] at f1;subst f1;rw[<-h.1];have hkl:k<=xs.length:=by have:=hkk.2.2.1;split at this<;>omega
          refine⟨⟨hn1,hk,⟨hz.2.1,hz.2.2.1⟩,fun _=>by show origin < count;omega,fun e=>absurd e hk0,fun _=>⟨by show 1<=xs.length;omega,by show xs.length<=size;omega⟩,by show kept.length<=xs.length;omega,⟨f4,fun x hx=>(f3 x hx).1⟩,fun e=>?_,e4,fun x hx=>⟨(e3 x hx).1,(e3 x hx).2.1⟩⟩,hn2⟩;have e':kind=2:=e;have:=hkk.2.2.1;rw[if_pos e'] at this;exact List.eq_nil_of_length_eq_zero (by show kept.length=0;omega)
structure EntsOk(count bound:Nat)(ps:List PEnt):Prop where
 all:∀p∈ps,PEntOk count bound [] p
 nodup:(ps.flatMap (·.xs)).Nodup
 sorted:ps.Pairwise fun a b=>cmpB a.name b.name < 0
theorem rents_ok{B:List UInt8}{count bound:Nat}(hb:1<=bound)(hc:1<=count):∀(c:Nat) (acc:List PEnt) (at_:Nat) (ps:List PEnt) (at1:Nat),rents B count bound c acc at_=.ok (ps,at1)->EntsOk count bound acc->EntsOk count bound ps/\ps.length=acc.length+c
 | 0,acc,at_,ps,at1,h,ha=>by
  simp only[rents,Except.ok.injEq,Prod.mk.injEq] at h;rw[<-h.1];exact⟨ha,rfl⟩
 | c+1,acc,at_,ps,at1,h,ha=>by
  unfold rents at h;cases hs:rentry B count bound (acc.flatMap (·.xs)) ((acc.getLast?.map (·.name)).getD ⟨#[]⟩) at_ with
  | error q=>rw[hs] at h;cases h
  | ok pr=>
   obtain⟨p,at2⟩:=pr;rw[hs] at h;obtain⟨ho,hcmp⟩:=rentry_ok hb hc hs;have:=rents_ok hb hc c (acc++[p]) at2 ps at1 h ⟨fun q hq=>?_,?_,?_⟩
   ·refine⟨this.1,?_⟩;rw[this.2];simp;omega
   ·rcases List.mem_append.1 hq with hq|hq
    ·exact ha.all q hq
    ·simp only[List.mem_singleton] at hq;subst hq;exact⟨ho.name,ho.kind,ho.size,ho.org,ho.plain,ho.pic,ho.keptle,ho.kept,ho.lost,ho.xs.1,fun x hx=>⟨(ho.xs.2 x hx).1,by simp⟩⟩
   ·rw[List.flatMap_append,List.nodup_append];refine⟨ha.nodup,by simpa using ho.xs.1,fun x hx y hy e=>?_⟩;subst e;exact (ho.xs.2 x (by simpa using hy)).2 hx
   ·rw[List.pairwise_append];refine⟨ha.sorted,by simp,fun q hq r hr=>?_⟩;simp only[List.mem_singleton] at hr;subst hr;obtain⟨i,hi⟩:=List.mem_iff_getElem?.1 hq;have hil:=(List.getElem?_eq_some_iff.1 hi).1;have eq:=(List.getElem?_eq_some_iff.1 hi).2;have hl:acc.getLast? = some acc[acc.length - 1]:=by rw[List.getLast?_eq_getElem?,List.getElem?_eq_getElem (by omega)]
    rw[hl] at hcmp;by_cases hlast:i=acc.length - 1
    ·subst hlast;rw[<-eq];exact hcmp
    ·have:=List.pairwise_iff_getElem.1 ha.sorted i (acc.length - 1) hil (by omega) (by omega);rw[eq] at this;exact cmpB_trans _ _ _ this hcmp
def usedP(ps:List PEnt):List Nat:=ps.flatMap fun p=>p.xs.take (if p.kind=0 then p.xs.length else p.kept.length)
def rpool(B:List UInt8):Except Nat (Nat×List PEnt×Nat):=
 match rmark B 4 0 with
 | .error q=>.error q
 | .ok at0=>
  match rnum B 2 1 200 at0 with
  | .error q=>.error q
  | .ok (count,at1)=>
   match rlist B count at1 with
   | .error q=>.error q
   | .ok (ps,at2)=>
    match rjoin ps ps with
    | .error q=>.error q
    | .ok _=>
     match rdisk B (usedP ps) count at2 with
     | .error q=>.error q
     | .ok (bl,at3)=>if at3=B.length then .ok (count,ps,at2) else .error at3
def takenP(pv:List (PEnt×Vol)):List Nat:=(pv.map (·.1)).flatMap (·.xs)
structure PoolRaw(w0 w':World)(B:List UInt8)(count at_:Nat)(pv:List (PEnt×Vol))(pb db bb fb jg:Nat)(d:Array Int):Prop where
 pool:At w' pb 87 [ptr pb,ptr db,.slice (some ⟨jg,0,none⟩) pv.length pv.length]
 arr:At w' jg 110 (pv.map fun x=>ptr x.2.vb)
 disk:DiskAt w' db bb fb count (freeOf (takenP pv) count).length (giveB (freeOf (takenP pv) count) (blks8 B at_ count)) d
 heap:d=giveD 0 (freeOf (takenP pv) count) (popsD count count (upArr count))
 vols:∀x∈pv,RawAt w' (joinV pv x)
 ent:∀x∈pv,PV x
 nodup:(pv.flatMap fun x=>x.2.foot).Nodup
 new:∀x∈pv,∀k∈x.2.foot,w0.heap.size<=k/\k < jg
 ord:w0.heap.size<=jg/\jg < db/\jg < bb/\jg < fb/\db < pb/\bb < pb/\fb < pb
 same:Same [] w0 w'
def PoolPost(w0:World)(B:List UInt8)(spec:Except Nat (Nat×List PEnt×Nat))(e:Ending)(w':World):Prop:=
 match spec with
 | .ok (count,ps,at2)=>∃pv pb db bb fb jg d,e=.returned (.pointer (some ⟨pb,0,none⟩))/\pv.map (·.1)=ps/\PoolRaw w0 w' B count at2 pv pb db bb fb jg d
 | .error q=>e=bad q/\Same [] w0 w'
theorem joinV_used(pv:List (PEnt×Vol))(h:∀x∈pv,PV x)(l:List (PEnt×Vol))(hl:∀x∈l,x∈pv):(l.map (joinV pv)).flatMap usedL=usedP (l.map (·.1)):=by
 induction l with
 | nil=>rfl
 | cons x r ih=>
  have hx:=h x (hl x (by simp));have ih':=ih (fun y hy=>hl y (by simp[hy]));unfold usedP at *;rw[List.map_cons,List.map_cons,List.flatMap_cons,List.flatMap_cons,ih']
  congr 1
  have e1:x.2.xs=x.1.xs:=by rw[hx.eq];rfl
  have e2:x.2.kept=x.1.kept:=by rw[hx.eq];rfl
  have e3:x.2.org=none:=by rw[hx.eq];rfl
  unfold usedL usedN joinV;by_cases hk:x.1.kind=0
  ·simp[hk,e1,e3]
  ·simp[hk,e1,e2]
theorem rpool_calls(w0 w:World)(a:Option Addr)(B:List UInt8)(rd:Nat)(hB:BytesOld w0 a B)(h:RdAt w0 w a B rd 0) :
 Calls Tryz.prog 107 #[.pointer (some ⟨rd,0,none⟩)] w (PoolPost w0 B (rpool B)):=by
 have hnew:=h.new;have hrl:=h.cell.lt;have HBO:Hid (BytesOld w0 a B):=hB;have hM:=mark_calls w0 w a B rd hB h;generalize hspec:rpool B=spec;unfold rpool at hspec;clear h hB;cases hs:rmark B 4 0 with
 | error q=>
  rw[hs] at hspec hM;have HE:Hid (spec=.error q):=hspec.symm;clear hspec hs
  go_enter Tryz.func107,Tryz.ntmps107
  go_wp2_with (go_at_call 129;refine hM.mono ?_;rintro e w1 ⟨rfl,S1⟩;unfold bad)
  refine⟨rfl,?_⟩;show PoolPost _ _ _ _ _;rw[HE.out];exact⟨rfl,S1⟩
 | ok at0=>
  rw[hs] at hspec hM;simp only at hspec;clear hs
  go_enter Tryz.func107,Tryz.ntmps107
  go_wp2_with fail
  refine hM.mono ?_;rintro e w1 ⟨rfl,hR1,S1⟩
  go_wp2_with fail
  cases hs:rnum B 2 1 200 at0 with
  | error q=>
   rw[hs] at hspec;have HE:Hid (spec=.error q):=hspec.symm;refine (number_gave w0 w1 a B rd at0 2 1 200 q 2 1 200 HBO.out hR1 (by omega) hs rfl rfl rfl).mono ?_;rintro e w2 ⟨rfl,S2⟩;unfold bad;clear hspec hs hM
   go_wp2
   refine⟨rfl,?_⟩;show PoolPost _ _ _ _ _;rw[HE.out];exact⟨rfl,S2⟩
  | ok pr=>
   obtain⟨count,at1⟩:=pr;rw[hs] at hspec;simp only at hspec;have hc:=rnum_ok hs;have hc1:1<=count:=hc.2.1;have hc2:count<=200:=hc.2.2.1;obtain⟨LB,hLB,hmk⟩:=run_make_same 177 4 (.bool false) 1 count Tryz.underlying177 Tryz.infoBoolL rfl (by omega) (by omega);refine (number_got w0 w1 a B rd at0 2 1 200 count at1 2 1 200 HBO.out hR1 (by omega) hs rfl rfl rfl).mono ?_;rintro e w2 ⟨rfl,hR2,S2⟩;clear hc hs hM hR1;have N3:=At.new w2 LB 4;rw[hLB,<-seen_nil] at N3;have S3:Same [] w2 (w2.alloc (.cells LB 4)):=(Same.refl _ _).alloc _;have s1z:=S1.size;have s2z:=S2.size;have hw0:=hR2.same.size;have hz3:(w2.alloc (.cells LB 4)).heap.size=w2.heap.size+1:=by simp
   have HL3:Hid (Calls Tryz.prog 131 #[.pointer (some ⟨rd,0,none⟩),.slice (some ⟨w2.heap.size,0,none⟩) count count] (w2.alloc (.cells LB 4)) (ListPost w0 (w2.alloc (.cells LB 4)) a B rd w2.heap.size count (rlist B count at1))):=rlist_calls w0 _ a B rd w2.heap.size at1 count HBO.out (hR2.next S3 (by simp) (by simp)) N3 (by omega) (by omega) ⟨hc1,hc2⟩;clear hR2 S2 N3 S3 S1;have HSP:Hid ((match rlist B count at1 with
    | .error q=>.error q
    | .ok (ps,at2)=>
     match rjoin ps ps with
     | .error q=>.error q
     | .ok _=>
      match rdisk B (usedP ps) count at2 with
      | .error q=>.error q
      | .ok (bl,at3)=>if at3=B.length then .ok (count,ps,at2) else .error at3)=spec):=hspec
   clear hspec
   go_wp2_with fail
   refine HL3.out.mono ?_;generalize hW3:w2.alloc (.cells LB 4)=W3 at *;clear hW3 HL3 hmk hLB;cases hs:rlist B count at1 with
   | error q=>
    have HE:Hid (spec=.error q):=by have:=HSP.out;rw[hs] at this;exact this.symm
    rintro e w4 ⟨rfl,S4⟩;unfold bad;clear HSP hs
    go_wp2
    refine⟨rfl,?_⟩;show PoolPost _ _ _ _ _;rw[HE.out];exact⟨rfl,S4⟩
   | ok pr=>
    obtain⟨ps,at2⟩:=pr;have HSP2:Hid ((match rjoin ps ps with
     | .error q=>.error q
     | .ok _=>
      match rdisk B (usedP ps) count at2 with
      | .error q=>.error q
      | .ok (bl,at3)=>if at3=B.length then .ok (count,ps,at2) else .error at3)=spec):=by
     have:=HSP.out;rw[hs] at this;exact this
    have HEO:Hid (EntsOk ps.length count ps/\ps.length<=20):=by
     unfold rlist at hs;cases hs1:rnum B 1 0 20 at1 with
     | error q=>rw[hs1] at hs;cases hs
     | ok pr=>
      obtain⟨c,a2⟩:=pr;rw[hs1] at hs;simp only at hs;have hc20:=(rnum_ok hs1).2.2.1;rcases Nat.eq_zero_or_pos c with rfl|hcp
      ·simp only[rents,Except.ok.injEq,Prod.mk.injEq] at hs;rw[<-hs.1];exact⟨⟨by simp,by simp,by simp⟩,by simp⟩
      ·have:=rents_ok hc1 hcp c [] a2 ps at2 hs ⟨by simp,by simp,by simp⟩;have e:ps.length=c:=by simpa using this.2
       rw[e];exact⟨this.1,hc20⟩
    rintro e w4 ⟨lg,pv,rfl,hps,hG⟩;have hpl:pv.length=ps.length:=by rw[<-hps,List.length_map]
    have hlgn:=hG.new.1;have hn20:pv.length<=20:=by have:=HEO.out.2;omega
    have HEOx:Hid (∀x∈pv,PEntOk ps.length count [] x.1):=fun x hx=>HEO.out.1.all x.1 (by rw[<-hps];exact List.mem_map.2 ⟨x,hx,rfl⟩)
    have HPV:Hid (∀x∈pv,PV x):=hG.ent;have hJ:=joined_calls w4 pv lg hn20 hG.row hG.vols (fun x hx=>by rw[(HPV.out x hx).eq];rfl) (fun x hx hk=>by rw[hpl];exact (HEOx.out x hx).org hk) (fun x hx=>hG.new.2 x hx) hG.nodup;rw[hps,hpl] at hJ;have HG:Hid (ListGot w0 W3 w4 a B rd w2.heap.size count pv at2 lg):=hG;have s4z:=hG.same.size;have hpsL:takenP pv=ps.flatMap (·.xs):=by unfold takenP;rw[hps]
    have HPS:Hid (pv.map (·.1)=ps):=hps;clear HSP hs hG hps
    go_wp2_with fail
    refine hJ.mono ?_;cases hs:rjoin ps ps with
    | error q=>
     have HE:Hid (spec=.error q):=by have:=HSP2.out;rw[hs] at this;exact this.symm
     rintro e w5 ⟨rfl,S5⟩;unfold bad;have HS5:Hid (Same [] w0 w5):=HG.out.rdr.same.step S5 (fun q hq hl=>by
      obtain⟨x,hx,rfl⟩:=List.mem_map.1 hq;have:=HG.out.new.2 x hx x.2.vb (by simp[Vol.foot]);omega)
     clear HSP2 hs hJ S5
     go_wp2
     refine⟨rfl,?_⟩;show PoolPost _ _ _ _ _;rw[HE.out];exact⟨rfl,HS5.out⟩
    | ok uu=>
     have HSP3:Hid ((match rdisk B (usedP ps) count at2 with
      | .error q=>.error q
      | .ok (bl,at3)=>if at3=B.length then .ok (count,ps,at2) else .error at3)=spec):=by
      have:=HSP2.out;rw[hs] at this;exact this
     rintro e w5 ⟨jg,rfl,hjn,hjA,hjV,S5⟩;have s5z:=S5.size;have hvbs:∀q∈pv.map (·.2.vb),lg < q:=fun q hq=>by
      obtain⟨x,hx,rfl⟩:=List.mem_map.1 hq;exact HG.out.new.2 x hx x.2.vb (by simp[Vol.foot])
     have hR5:=HG.out.rdr.next S5 (fun hm=>by have:=hvbs _ hm;omega) (fun q hq=>by have:=hvbs q hq;omega);have hT5:=S5.at HG.out.seen (fun hm=>by have:=hvbs _ hm;omega);have evs:(pv.map (joinV pv)).map (fun v=>ptr v.vb)=pv.map fun x=>ptr x.2.vb:=by
      rw[List.map_map];apply List.map_congr_left;intro x hx;simp[(joinV_len pv x).2.2.1]
     have hD:=rdisk_calls w0 w5 a B rd w2.heap.size at2 count jg ((pv.map (·.1)).flatMap (·.xs)) (pv.map (joinV pv)) HBO.out hR5 hT5 (by omega) (by omega) ⟨hc1,hc2⟩ (by rw[List.length_map];exact hn20) (by rw[evs];exact hjA) (fun v hv=>by
      obtain⟨x,hx,rfl⟩:=List.mem_map.1 hv;exact hjV x hx) (fun v hv=>by
      obtain⟨x,hx,rfl⟩:=List.mem_map.1 hv;have e1:x.2.xs=x.1.xs:=by rw[(HPV.out x hx).eq];rfl
      have e2:x.2.kept=x.1.kept:=by rw[(HPV.out x hx).eq];rfl
      rw[(joinV_len pv x).1,(joinV_len pv x).2.1,e1,e2];have hx':=HEOx.out x hx;refine⟨hx'.keptle,?_⟩;by_cases hk:x.1.kind=0
      ·have:=(hx'.plain hk).1;have:=hx'.size;omega
      ·have:=(hx'.pic hk).2;have:=hx'.size;omega) (fun v hv y hy=>by
      obtain⟨x,hx,rfl⟩:=List.mem_map.1 hv;have e1:x.2.xs=x.1.xs:=by rw[(HPV.out x hx).eq];rfl
      rw[(joinV_len pv x).1,e1] at hy;exact ((HEOx.out x hx).xs.2 y hy).1) ⟨by omega,fun v hv k hk=>by
      obtain⟨x,hx,rfl⟩:=List.mem_map.1 hv;rw[(joinV_len pv x).2.2.2.2.2] at hk;have:=HG.out.new.2 x hx k hk;omega⟩
     rw[joinV_used pv HPV.out pv (fun x hx=>hx),HPS.out,List.length_map,hpl] at hD;have HJ5:Hid (At w5 jg 110 (pv.map fun x=>ptr x.2.vb)/\(∀x∈pv,RawAt w5 (joinV pv x))):=⟨hjA,hjV⟩
     have HFT:Hid (∀x∈pv,∀k∈x.2.foot,w0.heap.size<=k/\k < jg):=fun x hx k hk=>by
      have h1:=HG.out.new.2 x hx k hk;have hr:=HG.out.vols x hx;have h2:k < w4.heap.size:=by
       simp only[Vol.foot,List.mem_cons,Option.mem_toList,Option.mem_def] at hk;rcases hk with rfl|rfl|hk
       ·exact hr.vol.lt
       ·exact hr.row.lt
       ·exact (hr.kept1 k hk).lt
      omega
     have hjl:=hjA.lt;clear HSP2 hs hJ S5 hR5 hT5 evs hjA hjV hvbs
     go_wp2_with fail
     refine hD.mono ?_;cases hs:rdisk B (usedP ps) count at2 with
     | error q=>
      have HE:Hid (spec=.error q):=by have:=HSP3.out;rw[hs] at this;exact this.symm
      rintro e w6 ⟨rfl,S6⟩;unfold bad;clear HSP3 hs hD
      go_wp2
      refine⟨rfl,?_⟩;show PoolPost _ _ _ _ _;rw[HE.out];exact⟨rfl,S6⟩
     | ok pr=>
      obtain⟨bl,at3⟩:=pr;have HSP4:Hid ((if at3=B.length then .ok (count,ps,at2) else .error at3)=spec):=by
       have:=HSP3.out;rw[hs] at this;exact this
      rintro e w6 ⟨hbl,hat3,db,bb,fb,d,rfl,hDG⟩;have r0:w6.cell? ⟨rd,0,none⟩=some (.slice a B.length B.length):=hDG.rdr.cell.cell? 0;have r1:w6.cell? ⟨rd,1,none⟩=some (.int .i64 at3):=by rw[hat3];exact hDG.rdr.cell.cell? 1
      have HDG:Hid (DiskGot w0 w5 w6 a B rd w2.heap.size count at2 (ps.flatMap (·.xs)) (usedP ps) db bb fb d):=hDG;have hlen:=HBO.out.len;have HS6:Hid (Same [] w0 w6.drew):=hDG.rdr.same.drew;clear HSP3 hs hD hbl hDG hat3;by_cases hend:at3=B.length
      ·have HE:Hid (spec=.ok (count,ps,at2)):=by have:=HSP4.out;rw[if_pos hend] at this;exact this.symm
       rw[hend] at r1;generalize B.length=bl0 at *;clear HSP4 hend
       go_wp2_with fail
       refine region_tail 14 (by kernel_rfl) (by kernel_rfl) ?_;simp only[List.take_succ_cons,List.take_zero,List.drop_succ_cons,List.drop_zero]
       repeat still_step
       refine wpStill_nil ?_
       go_wp2_with (first|(go_at_call 134;go_fit (must_ok _ _);rintro e w7 ⟨rfl,hw⟩;obtain rfl:=hw.symm)|(go_at_call 43;go_fit (newPoolOf_calls db (some ⟨jg,0,none⟩) ps.length ps.length _);rintro e w8 ⟨rfl,N8,S8⟩))
       have HF:Hid (PoolRaw w0 w8 B count at2 pv w6.heap.size db bb fb jg d):=by
        have D6:=HDG.out;have S68:Same [] w6 w8:=(Same.refl [] w6).drew.step S8 (by simp);have S58:Same [rd] w5 w8:=D6.same.step S68 (by simp);rw[<-hpl] at N8;have hd1:=D6.disk.disk.lt;have hd2:=D6.disk.data.lt;have hd3:=D6.disk.free.lt;have hn:=D6.new;refine⟨N8,S58.at HJ5.out.1 (by simp;omega),?_,?_,fun x hx=>(HJ5.out.2 x hx).same S58 (fun k hk=>?_),HPV.out,HG.out.nodup,HFT.out,⟨by omega,by omega,by omega,by omega,hd1,hd2,hd3⟩,HS6.out.step S8 (by simp)⟩
        ·rw[hpsL];exact D6.disk.same S68 (by simp) (by simp) (by simp)
        ·rw[hpsL];exact D6.heap
        ·rw[(joinV_len pv x).2.2.2.2.2] at hk;have:=HG.out.new.2 x hx k hk;simp;omega
       first
        | (show PoolPost _ _ _ _ _;rw[HE.out];exact⟨pv,_,db,bb,fb,jg,d,rfl,HPS.out,HF.out⟩)
        | (go_ret;show PoolPost _ _ _ _ _;rw[HE.out];exact⟨pv,_,db,bb,fb,jg,d,rfl,HPS.out,HF.out⟩)
      ·have HE:Hid (spec=.error at3):=by have:=HSP4.out;rw[if_neg hend] at this;exact this.symm
       have hne3:((at3:Int) == (B.length:Int))=false:=beq_eq_false_iff_ne.2 (by omega);generalize B.length=bl0 at *;clear HSP4 hend
       go_wp2_with fail
       refine region_tail 14 (by kernel_rfl) (by kernel_rfl) ?_;simp only[List.take_succ_cons,List.take_zero,List.drop_succ_cons,List.drop_zero]
       repeat still_step
       refine wpStill_nil ?_
       go_wp2_with (go_at_call 134;go_fit (must_bad at3 _);rintro e w7 ⟨rfl,hw⟩;obtain rfl:=hw.symm;unfold bad)
       refine⟨rfl,?_⟩;show PoolPost _ _ _ _ _;rw[HE.out];exact⟨rfl,HS6.out⟩
end
end Go.Proofs.YtpddgdjocffgdaaGreat
