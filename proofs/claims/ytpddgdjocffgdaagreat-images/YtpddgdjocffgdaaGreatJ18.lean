/- The reference's reader of an image: must, take, number, by contracts. A reader of an image: numbers, by contract. The reference's reader of an image: numbers, by a contract. The reference's reader of an image: one entry: what it reads, and the memory on the way. The reference's reader of an image: the entries in memory, while they are tied. -/
import Derived.Test.YtpddgdjocffgdaaGreatJ16
import Derived.BigQuiet
import Derived.Deep.OwnRows
import Derived.Maps.AppendAt
import Derived.Test.YtpddgdjocffgdaaGreatJ12
import Derived.Deep.DeepCutAuto
import Derived.Deep.RegionHeld3
namespace Go.Proofs.YtpddgdjocffgdaaGreat
set_option linter.unusedVariables false
set_option linter.unusedSimpArgs false
set_option linter.unusedSectionVars false
set_option maxHeartbeats 16000000
set_option maxRecDepth 100000
section
open Go.RowKit Go.Sort
variable [DecidableEq Blk] [Inhabited Blk] [Inhabited Vol]
def badI:Option Nat->Int
 | none=>-1
 | some q=>q
def mustB(bd:Option Nat)(ok:Bool)(q:Nat):Option Nat:=
 match bd with
 | some x=>some x
 | none=>if ok then none else some q
structure ScAt(w0 w:World)(sb:Nat)(B:List UInt8)(at_:Nat)(bd:Option Nat):Prop where
 cell:At w sb 156 [.string ⟨B.toArray⟩,.int .i64 at_,.int .i64 (badI bd)]
 new:w0.heap.size<=sb
 same:Same [] w0 w
 le:at_<=B.length
theorem ScAt.next{w0 w w':World}{sb:Nat}{B:List UInt8}{at_:Nat}{bd:Option Nat}(h:ScAt w0 w sb B at_ bd){S:List Nat}(hs:Same S w w')(hn:sb∉S)(hS:∀k∈S,w0.heap.size<=k):ScAt w0 w' sb B at_ bd:=
 ⟨hs.at h.cell hn,h.new,h.same.step hs (fun k hk hl=>by have:=hS k hk;omega),h.le⟩
theorem rmust_calls(w0 w:World)(sb:Nat)(B:List UInt8)(at_:Nat)(bd:Option Nat)(ok:Bool)(q:Nat)(v:Int)(hv:v=q)(h:ScAt w0 w sb B at_ bd) :
 Calls Tryz.prog 109 #[.pointer (some ⟨sb,0,none⟩),.bool ok,.int .i64 v] w fun e w'=>e=.returned (.tuple #[])/\ScAt w0 w' sb B at_ (mustB bd ok q)/\Same [sb] w w':=by
 subst hv;have hnot:=runNot;have c2:w.cell? ⟨sb,2,none⟩=some (.int .i64 (badI bd)):=h.cell.cell? 2;have f2:w.frozen? ⟨sb,2,none⟩=false:=h.cell.frozen 2;have HR:Hid (ScAt w0 w sb B at_ bd):=h;clear h;cases ok with
 | true=>
  have e:mustB bd true q=bd:=by cases bd<;>rfl
  rw[e]
  go_enter Tryz.func109,Tryz.ntmps109
  go_wp2
  go_end0
  exact⟨rfl,HR.out,Same.refl _ _⟩
 | false=>
  cases bd with
  | some x=>
   have hb:¬((x:Int) < 0):=by omega
   simp only[badI] at c2
   go_enter Tryz.func109,Tryz.ntmps109
   go_wp2
   go_end0
   exact⟨rfl,HR.out,Same.refl _ _⟩
  | none=>
   simp only[badI] at c2;have S2:Same [sb] w (w.setCell ⟨sb,2,none⟩ (.int .i64 (q:Int))):=(Same.refl _ _).set _ _ _ (by simp);have HF:Hid (ScAt w0 (w.setCell ⟨sb,2,none⟩ (.int .i64 (q:Int))) sb B at_ (some q)):=
    ⟨HR.out.cell.set_same 2 _,HR.out.new,HR.out.same.step S2 (fun k hk hl=>by simp at hk;have:=HR.out.new;omega),HR.out.le⟩
   go_enter Tryz.func109,Tryz.ntmps109
   go_wp2
   go_end0
   exact⟨rfl,HF.out,S2⟩
def takeX(B:List UInt8)(n at_:Nat)(bd:Option Nat):ByteArray×Nat×Option Nat:=
 match bd with
 | some q=>(⟨#[]⟩,at_,some q)
 | none=>if at_+n<=B.length then (textAt B at_ n,at_+n,none) else (⟨#[]⟩,at_,some B.length)
theorem text_cut(B:List UInt8)(i j n:Nat)(hj:i+n=j):(⟨B.toArray⟩:ByteArray).extract i j=textAt B i n:=by
 subst hj;apply ByteArray.ext;simp[textAt,ByteArray.data_extract,List.extract_eq_take_drop]
theorem rtake_calls(w0 w:World)(sb:Nat)(B:List UInt8)(n at_:Nat)(bd:Option Nat)(t:ByteArray)(at1:Nat)(bd1:Option Nat)(v:Int)(hv:v=n)(hn:n<=1000000)(hl:B.length<=140737488355328)(h:ScAt w0 w sb B at_ bd)(hX:takeX B n at_ bd=(t,at1,bd1)) :
 Calls Tryz.prog 108 #[.pointer (some ⟨sb,0,none⟩),.int .i64 v] w fun e w'=>e=.returned (.string t)/\ScAt w0 w' sb B at1 bd1/\Same [sb] w w':=by
 subst hv;have hat:=h.le;have hsz:(⟨B.toArray⟩:ByteArray).size=B.length:=by simp[ByteArray.size]
 have c0:w.cell? ⟨sb,0,none⟩=some (.string ⟨B.toArray⟩):=h.cell.cell? 0;have c1:w.cell? ⟨sb,1,none⟩=some (.int .i64 at_):=h.cell.cell? 1;have hadd:IntKind.i64.wrap ((at_:Int)+(n:Int))=((at_+n:Nat):Int):=by rw[IntWalk.i64_in _ (by omega)];omega
 have HR:Hid (ScAt w0 w.drew sb B at_ bd):=h.next (Same.refl [] w).drew (by simp) (by simp);have HS:Hid (∀w',Same [sb] w.drew w'->Same [sb] w w'):=fun w' hw'=>((Same.refl [sb] w).drew).step hw' (fun k hk _=>hk)
 have hM:=fun ok=>rmust_calls w0 w.drew sb B at_ bd ok B.length (B.length:Int) rfl HR.out
 clear h;cases bd with
 | some q=>
  simp only[takeX,Prod.mk.injEq] at hX;obtain⟨rfl,rfl,rfl⟩:=hX;have fin:∀ok,Calls Tryz.prog 109 #[.pointer (some ⟨sb,0,none⟩),.bool ok,.int .i64 (B.length:Int)] w.drew fun e w'=>e=.returned (.tuple #[])/\w'.cell? ⟨sb,2,none⟩=some (.int .i64 (q:Int))/\Hid (ScAt w0 w' sb B at_ (some q)/\Same [sb] w w'):=fun ok=>by
   refine (hM ok).mono ?_;rintro e w1 ⟨rfl,h1,S1⟩;exact⟨rfl,h1.cell.cell? 2,h1,HS.out _ S1⟩
  have hq:(0:Int)<=(q:Int):=by omega
  have hq':¬((q:Int) < 0):=by omega
  clear hM HR HS;have hM':=fin (decide ((at_:Int)+(n:Int)<=(B.length:Int)));clear fin
  go_enter Tryz.func108,Tryz.ntmps108
  go_wp2_with fail
  refine region_tail 18 (by kernel_rfl) (by kernel_rfl) ?_;simp only[List.take_succ_cons,List.take_zero,List.drop_succ_cons,List.drop_zero]
  repeat still_step
  refine wpStill_nil ?_
  go_wp2_with fail
  refine hM'.mono ?_;rintro e w1 ⟨rfl,d2,HF⟩
  go_wp2
  go_ret
  exact⟨rfl,HF.out⟩
 | none=>
  by_cases hle:at_+n<=B.length
  ·have hdc:decide ((at_:Int)+(n:Int)<=(B.length:Int))=true:=by simp;omega
   simp only[takeX,if_pos hle,Prod.mk.injEq] at hX;obtain⟨rfl,rfl,rfl⟩:=hX;have fin:Calls Tryz.prog 109 #[.pointer (some ⟨sb,0,none⟩),.bool (decide ((at_:Int)+(n:Int)<=(B.length:Int))),.int .i64 (B.length:Int)] w.drew fun e w'=>e=.returned (.tuple #[])/\w'.cell? ⟨sb,0,none⟩=some (.string ⟨B.toArray⟩)/\w'.cell? ⟨sb,1,none⟩=some (.int .i64 at_)/\w'.frozen? ⟨sb,1,none⟩=false/\w'.cell? ⟨sb,2,none⟩=some (.int .i64 (-1))/\Hid (ScAt w0 (w'.setCell ⟨sb,1,none⟩ (.int .i64 ((at_:Int)+(n:Int)))) sb B (at_+n) none/\Same [sb] w (w'.setCell ⟨sb,1,none⟩ (.int .i64 ((at_:Int)+(n:Int))))):=by
    rw[hdc];refine (hM true).mono ?_;rintro e w1 ⟨rfl,h1,S1⟩;have S2:Same [sb] w (w1.setCell ⟨sb,1,none⟩ (.int .i64 ((at_:Int)+(n:Int)))):=(HS.out _ S1).set _ _ _ (by simp);have e0:Same [] w0 w:=⟨HR.out.same.os,HR.out.same.tape,HR.out.same.output,HR.out.same.size,HR.out.same.block⟩
    refine⟨rfl,h1.cell.cell? 0,h1.cell.cell? 1,h1.cell.frozen 1,h1.cell.cell? 2,⟨?_,h1.new,?_,hle⟩,S2⟩
    ·have:=h1.cell.set_same 1 (.int .i64 ((at_:Int)+(n:Int)));rw[show ((at_+n:Nat):Int)=(at_:Int)+(n:Int) by omega];exact this
    ·exact e0.step S2 (fun k hk hl=>by simp at hk;have:=h1.new;omega)
   have hcut:=text_cut B at_ (at_+n) n rfl;have hsub:IntKind.i64.wrap ((at_:Int)+(n:Int) - (n:Int))=(at_:Int):=by rw[IntWalk.i64_in _ (by omega)];omega
   have m1:(0:Int)<=(at_:Int):=by omega
   have m2:(at_:Int)<=(at_:Int)+(n:Int):=by omega
   have m3:((at_:Int)).toNat=at_:=by omega
   have m4:((at_:Int)+(n:Int)).toNat=at_+n:=by omega
   have m5:(-1:Int) < 0:=by omega
   have HLE:Hid _:=hle;clear hM HR HS hdc hle
   go_enter Tryz.func108,Tryz.ntmps108
   go_wp2_with fail
   refine region_tail 18 (by kernel_rfl) (by kernel_rfl) ?_;simp only[List.take_succ_cons,List.take_zero,List.drop_succ_cons,List.drop_zero]
   repeat still_step
   refine wpStill_nil ?_
   go_wp2_with fail
   refine fin.mono ?_;rintro e w1 ⟨rfl,d0,d1,d3,d2,HF⟩;clear fin;have hle':(at_:Int)+(n:Int)<=(B.length:Int):=by have:=HLE.out;omega
   go_wp2_with fail
   have e0:(w1.setCell ⟨sb,1,none⟩ (.int .i64 ((at_:Int)+(n:Int)))).cell? ⟨sb,1,none⟩=some (.int .i64 ((at_:Int)+(n:Int))):=HF.out.1.cell.cell? 1;have e1:(w1.setCell ⟨sb,1,none⟩ (.int .i64 ((at_:Int)+(n:Int)))).cell? ⟨sb,0,none⟩=some (.string ⟨B.toArray⟩):=HF.out.1.cell.cell? 0
   go_quiet (fail)
   go_wp2
   go_ret
   exact⟨rfl,HF.out.1.next ((Same.refl [] _).drewN _) (by simp) (by simp),HF.out.2.drewN _⟩
  ·have hdc:decide ((at_:Int)+(n:Int)<=(B.length:Int))=false:=by simp;omega
   simp only[takeX,if_neg hle,Prod.mk.injEq] at hX;obtain⟨rfl,rfl,rfl⟩:=hX;have fin:Calls Tryz.prog 109 #[.pointer (some ⟨sb,0,none⟩),.bool (decide ((at_:Int)+(n:Int)<=(B.length:Int))),.int .i64 (B.length:Int)] w.drew fun e w'=>e=.returned (.tuple #[])/\w'.cell? ⟨sb,2,none⟩=some (.int .i64 (B.length:Int))/\Hid (ScAt w0 w' sb B at_ (some B.length)/\Same [sb] w w'):=by
    rw[hdc];refine (hM false).mono ?_;rintro e w1 ⟨rfl,h1,S1⟩;exact⟨rfl,h1.cell.cell? 2,h1,HS.out _ S1⟩
   have hq:(0:Int)<=(B.length:Int):=by omega
   have HLE:Hid _:=hle;clear hM HR HS hdc hle
   go_enter Tryz.func108,Tryz.ntmps108
   go_wp2_with fail
   refine region_tail 18 (by kernel_rfl) (by kernel_rfl) ?_;simp only[List.take_succ_cons,List.take_zero,List.drop_succ_cons,List.drop_zero]
   repeat still_step
   refine wpStill_nil ?_
   go_wp2_with fail
   refine fin.mono ?_;rintro e w1 ⟨rfl,d2,HF⟩
   go_wp2
   go_ret
   exact⟨rfl,HF.out⟩
def numX(B:List UInt8)(n at_:Nat)(bd:Option Nat):Nat×Nat×Option Nat:=
 match bd with
 | some q=>(0,at_,some q)
 | none=>if at_+n<=B.length then (numAt B at_ n,at_+n,none) else (0,at_,some B.length)
theorem numX_take(B:List UInt8)(n at_:Nat)(bd:Option Nat):takeX B n at_ bd=((takeX B n at_ bd).1,(numX B n at_ bd).2.1,(numX B n at_ bd).2.2)/\valB (takeX B n at_ bd).1.data.toList=(numX B n at_ bd).1/\(takeX B n at_ bd).1.size<=n:=by
 unfold takeX numX;cases bd with
 | some q=>exact⟨rfl,rfl,Nat.zero_le _⟩
 | none=>
  simp only
  split
  ·refine⟨rfl,by simp[textAt,numAt],?_⟩;simp[textAt,ByteArray.size];omega
  ·exact⟨rfl,rfl,Nat.zero_le _⟩
theorem numX_lt(B:List UInt8)(n at_:Nat)(bd:Option Nat)(hn:n<=2):(numX B n at_ bd).1 < 65536:=by
 unfold numX;cases bd with
 | some q=>show 0 < 65536;omega
 | none=>
  simp only
  split
  ·exact numAt_lt B at_ n hn
  ·show 0 < 65536;omega
theorem rnumber_calls(w0 w:World)(sb:Nat)(B:List UInt8)(n at_:Nat)(bd:Option Nat)(x at1:Nat)(bd1:Option Nat)(v:Int)(hv:v=n)(hn:n<=2)(hl:B.length<=140737488355328)(h:ScAt w0 w sb B at_ bd)(hX:numX B n at_ bd=(x,at1,bd1)) :
 Calls Tryz.prog 110 #[.pointer (some ⟨sb,0,none⟩),.int .i64 v] w fun e w'=>e=.returned (.int .i64 (x:Int))/\ScAt w0 w' sb B at1 bd1/\Same [sb] w w':=by
 obtain⟨h1,h2,h3⟩:=numX_take B n at_ bd;rw[hX] at h1 h2;simp only at h1 h2;generalize (takeX B n at_ bd).1=t at *;have hT:=rtake_calls w0 w sb B n at_ bd t at1 bd1 v hv (by omega) hl h h1;have HSZ:Hid (t.size=t.data.toList.length):=by show _=_;rw[Array.length_toList];rfl
 have H2:Hid (valB t.data.toList=x):=h2;subst hv;clear h h1 hX h2
 go_enter Tryz.func110,Tryz.ntmps110
 go_wp2_with fail
 refine hT.mono ?_;rintro e w1 ⟨rfl,A1,S1⟩;have HF:Hid (ScAt w0 w1 sb B at1 bd1/\Same [sb] w w1):=⟨A1,S1⟩
 clear A1 S1 hT
 go_wp2_with fail
 go_loopw [6,7] (fun m i wr=>∃j:Nat,j<=t.size/\m=.int .i64 (valB (t.data.toList.take j):Nat)/\i=.int .i64 j/\wr=w1) (fun _ i _=>t.size - (intOf i).toNat)
 case atStart=>exact⟨0,Nat.zero_le _,rfl,rfl,rfl⟩
 case round=>
  obtain⟨j,hj,rfl,rfl,rfl⟩:=hrel;by_cases hjl:j < t.size
  ·have l1:(j:Int) < (t.size:Int):=by omega
   have HVN:Hid (valB (t.data.toList.take (j+1))=valB (t.data.toList.take j) * 256+t[j].toNat):=by show _=_;rw[take_snoc t j hjl,valB_snoc]
   have hl2:valB (t.data.toList.take j) < 256:=valB_one _ (by rw[List.length_take];have:=HSZ.out;omega);have hb:t[j].toNat < 256:=t[j].toNat_lt;generalize valB (t.data.toList.take j)=m at *;have hw1:IntKind.i64.wrap (256 * (m:Int))=256 * (m:Int):=IntWalk.i64_in _ (by omega);have hw2:IntKind.i64.wrap (256 * (m:Int)+(t[j].toNat:Int))=256 * (m:Int)+(t[j].toNat:Int):=IntWalk.i64_in _ (by omega)
   go_wp2
   go_roundw
   case rel=>exact⟨j+1,by omega,by rw[HVN.out];go_num,by go_num,trivial⟩
   case measure=>simp[intOf];omega
  ·have l1:(t.size:Int)<=(j:Int):=by omega
   have e:j=t.size:=by omega
   rw[e,HSZ.out,List.take_length,H2.out,<-HSZ.out]
   go_wp2
   go_ret
   exact⟨rfl,HF.out⟩
theorem run_make_same(t e:TypeId)(z:Value)(bytes n:Nat)(ht:Tryz.prog.underlying t=some (.slice e))(hinfo:(Tryz.prog.info? e).map (fun i=>(i.zero,i.size,i.bytes))=some (some z,1,bytes))(hz1:z.cells=#[z])(hb:bytes<=100)(hn:n<=1000) :
 ∃L:Array Value,L.toList=List.replicate n z/\∀W:World,(Instr.makeSlice t (.int .i64 (n:Int)) (.int .i64 (n:Int))).run Tryz.prog W=.ok (.slice (some ⟨W.heap.size,0,none⟩) n n) (W.alloc (.cells L e)):=by
 obtain⟨i0,hi,hz0,hsz,hz2⟩:=info_parts hinfo;have hmul:i0.bytes * n<=100000:=by rw[hz2];exact Nat.le_trans (Nat.mul_le_mul hb hn) (by omega)
 refine⟨(List.replicate n z).toArray,by simp,fun W=>?_⟩;have h:=run_make (P:=Tryz.prog) W t e i0 z ht hi hz0 .i64 .i64 (n:Int) (n:Int) (by omega) (by omega) (by
  have:((i0.bytes * n:Nat):Int)=(i0.bytes:Int) * (n:Int):=by simp
  first
   | omega
   | (simp;omega)) (by omega)
 rw[hsz] at h;have e1:(madeCells z.cells ((n:Int).toNat * 1))=(List.replicate n z).toArray:=by
  apply Array.toList_inj.1;have:=toList_madeCells_one z n;rw[hz1];simpa using this
 rw[e1] at h;simpa using h
def seenCells(bound:Nat)(L:List Nat):List Value:=(List.range bound).map fun i=>.bool (decide (i∈L))
theorem seen_get(bound:Nat)(L:List Nat)(k:Nat)(hk:k < bound):(seenCells bound L)[k]? = some (.bool (decide (k∈L))):=by
 unfold seenCells;rw[List.getElem?_map,List.getElem?_range hk];rfl
theorem seen_set(bound:Nat)(L:List Nat)(k:Nat)(hk:k < bound):(seenCells bound L).set k (.bool true)=seenCells bound (L++[k]):=by
 apply List.ext_getElem?;intro i;unfold seenCells;rw[List.getElem?_set,List.length_map,List.length_range];by_cases h:k=i
 ·subst h;rw[if_pos rfl,if_pos hk,List.getElem?_map,List.getElem?_range hk];simp
 ·rw[if_neg h,List.getElem?_map,List.getElem?_map];by_cases hi:i < bound
  ·rw[List.getElem?_range hi];simp only[Option.map_some,List.mem_append,List.mem_singleton];have:¬i=k:=fun e=>h e.symm
   simp[this]
  ·rw[List.getElem?_eq_none (by simpa using hi)];rfl
theorem seen_nil(bound:Nat):seenCells bound []=List.replicate bound (.bool false):=by
 unfold seenCells;apply List.ext_getElem
 ·simp
 ·intro i h1 h2;simp
theorem rnums_succ(B:List UInt8)(bound c:Nat)(seen acc:List Nat)(at_:Nat):rnums B bound (c+1) seen acc at_=match rnum B 2 0 (bound - 1) at_ with
 | .error q=>.error q
 | .ok (k,at1)=>if k∈seen++acc then .error at_ else rnums B bound c seen (acc++[k]) at1:=rfl
structure NumsGot(w0 w w':World)(a:Option Addr)(B:List UInt8)(rd tk bound:Nat)(L xs:List Nat)(at1 g:Nat):Prop where
 rdr:RdAt w0 w' a B rd at1
 row:At w' g 3 (xs.map fun x:Nat=>Value.int .i64 x)
 seen:At w' tk 4 (seenCells bound (L++xs))
 new:w.heap.size<=g
 same:Same [rd,tk] w w'
def NumsPost(w0 w:World)(a:Option Addr)(B:List UInt8)(rd tk bound c:Nat)(L:List Nat)(spec:Except Nat (List Nat×Nat))(e:Ending)(w':World):Prop:=
 match spec with
 | .ok (xs,at1)=>∃g,e=.returned (.slice (some ⟨g,0,none⟩) c c)/\xs.length=c/\NumsGot w0 w w' a B rd tk bound L xs at1 g
 | .error q=>e=bad q/\Same [] w0 w'
theorem rnumbers_calls(w0 w:World)(a:Option Addr)(B:List UInt8)(rd tk at_ c bound:Nat)(L:List Nat)(hB:BytesOld w0 a B)(h:RdAt w0 w a B rd at_)(hT:At w tk 4 (seenCells bound L))(htk:w0.heap.size<=tk)(hne:tk≠rd)(hc:c<=200)(hb:1<=bound/\bound<=200) :
 Calls Tryz.prog 148 #[.pointer (some ⟨rd,0,none⟩),.int .i64 c,.slice (some ⟨tk,0,none⟩) bound bound] w (NumsPost w0 w a B rd tk bound c L (rnums B bound c L [] at_)):=by
 have hnot:=runNot;obtain⟨LB,hLB,hmk⟩:=run_make_same 51 3 (.int .i64 0) 8 c Tryz.underlying51 Tryz.info3 rfl (by omega) (by omega);have hnew:=h.new;have hrl:=h.cell.lt;have htl:=hT.lt;generalize hspec:rnums B bound c L [] at_=spec;have HSP:Hid (rnums B bound c L [] at_=spec):=hspec;clear hspec;have S0:Same [] w (w.alloc (.cells LB 3)):=(Same.refl _ _).alloc _;have A0:=At.new w LB 3;rw[hLB] at A0;have HI0:Hid (RdAt w0 (w.alloc (.cells LB 3)) a B rd at_/\At (w.alloc (.cells LB 3)) tk 4 (seenCells bound L)/\At (w.alloc (.cells LB 3)) w.heap.size 3 (List.replicate c (.int .i64 0))/\Same [rd,tk] w (w.alloc (.cells LB 3))):=⟨h.next S0 (by simp) (by simp),S0.at hT (by simp),A0,S0.mono (by simp)⟩
 have HBO:Hid (BytesOld w0 a B):=hB;clear h hT A0 S0 hLB hB
 go_enter Tryz.func148,Tryz.ntmps148
 go_wp2
 go_loopw [14] (fun i wr=>∃(k ati:Nat) (acc:List Nat),k<=c/\i=.int .i64 k/\acc.length=k/\RdAt w0 wr a B rd ati/\At wr tk 4 (seenCells bound (L++acc))/\At wr w.heap.size 3 (acc.map (fun x:Nat=>Value.int .i64 x)++List.replicate (c - k) (.int .i64 0))/\Same [rd,tk] w wr/\Hid (rnums B bound (c - k) L acc ati=spec)) (fun i _=>c - (intOf i).toNat)
 case atStart=>exact⟨0,at_,[],Nat.zero_le _,rfl,rfl,HI0.out.1,by simpa using HI0.out.2.1,by simpa using HI0.out.2.2.1,HI0.out.2.2.2,HSP.out⟩
 case round=>
  obtain⟨k,ati,acc,hk,rfl,hal,hR,hTk,hA,hS,HQ⟩:=hrel;have HOLD:Hid (Same [] w0 wr):=hR.same;by_cases hkl:k < c
  ·have eck:c - k=(c - k - 1)+1:=by omega
   have c1:wr.cell? ⟨rd,1,none⟩=some (.int .i64 ati):=hR.cell.cell? 1;have l1:(k:Int) < (c:Int):=by omega
   have hgne:w.heap.size≠rd:=by omega
   have hgnt:w.heap.size≠tk:=by omega
   have q0:=HQ.out;rw[eck,rnums_succ] at q0;cases hs:rnum B 2 0 (bound - 1) ati with
   | error q=>
    rw[hs] at q0;have HE:Hid (spec=.error q):=q0.symm;have hN:=number_gave w0 wr a B rd ati 2 0 (bound - 1) q 2 0 ((bound:Int) - 1) HBO.out hR (by omega) hs rfl rfl (by omega);clear hR hTk hA q0 HQ
    go_wp2_with (go_at_call 130;refine hN.mono ?_;rintro e w1 ⟨rfl,S1⟩;unfold bad)
    refine⟨rfl,?_⟩;show NumsPost _ _ _ _ _ _ _ _ _ _ _ _;rw[HE.out];exact⟨rfl,S1⟩
   | ok p=>
    obtain⟨x,at1⟩:=p;rw[hs] at q0;simp only at q0;have hN:=number_got w0 wr a B rd ati 2 0 (bound - 1) x at1 2 0 ((bound:Int) - 1) HBO.out hR (by omega) hs rfl rfl (by omega);have hxb:x < bound:=by have:=(rnum_ok hs).2.2.1;omega
    have HA:Hid (At wr tk 4 (seenCells bound (L++acc))/\At wr w.heap.size 3 (acc.map (fun x:Nat=>Value.int .i64 x)++List.replicate (c - k) (.int .i64 0))):=⟨hTk,hA⟩
    have HX:Hid ((acc.map (fun x:Nat=>Value.int .i64 x)++List.replicate (c - k) (Value.int .i64 0)).set k (Value.int .i64 (x:Nat))=((acc++[x]).map (fun x:Nat=>Value.int .i64 x)++List.replicate (c - (k+1)) (Value.int .i64 0))):=by
     show _=_;rw[List.set_append_right _ _ (by simp;omega),List.map_append,List.append_assoc]
     congr 1
     rw[List.length_map,hal,Nat.sub_self,show c - k=(c - (k+1))+1 by omega,List.replicate_succ,List.set_cons_zero];rfl
    have HD:Hid ((acc.map (fun x:Nat=>Value.int .i64 x)++List.replicate (c - k) (Value.int .i64 0))[k]? = some (.int .i64 0)):=by
     show _=_;rw[List.getElem?_append_right (by simp;omega),List.length_map,hal,Nat.sub_self,eck,List.replicate_succ];rfl
    clear hR hTk hA HQ;by_cases hin:x∈L++acc
    ·rw[if_pos hin] at q0;have HE:Hid (spec=.error ati):=q0.symm;have hMb:=fun W=>must_bad ati W
     unfold bad at hMb;have hsn:=seen_get bound (L++acc) x hxb;rw[decide_eq_true hin] at hsn;have HSN:Hid _:=hsn;clear q0 hsn hin
     go_wp2_with (first|(go_at_call 130;refine hN.mono ?_;rintro e w1 ⟨rfl,hR1,S1⟩;have B1:=S1.at HA.out.2 (by simpa using hgne);have T1:=S1.at HA.out.1 (by simpa using hne);have d1:w1.cell? ⟨w.heap.size,k,none⟩=some (.int .i64 0):=(B1.cell? k).trans HD.out;have f1:=B1.frozen k;have d2:w1.cell? ⟨tk,x,none⟩=some (.bool true):=(T1.cell? x).trans HSN.out;have HS1:Hid (Same [] w0 (w1.setCell ⟨w.heap.size,k,none⟩ (.int .i64 (x:Nat)))):=(hR1.same.set _ _ _ (by intro hh;have:=HOLD.out.size;omega));clear B1 T1 hR1)|(go_at_call 134;refine (hMb _).mono ?_;rintro e w' ⟨rfl,hw⟩;obtain rfl:=hw.symm))
     refine⟨rfl,?_⟩;show NumsPost _ _ _ _ _ _ _ _ _ _ _ _;rw[HE.out];exact⟨rfl,HS1.out⟩
    ·rw[if_neg hin] at q0;have HE:Hid (rnums B bound (c - (k+1)) L (acc++[x]) at1=spec):=by
      show _=_;rw[<-q0];rfl
     have hM:=fun W q=>must_ok q W
     have hsn:=seen_get bound (L++acc) x hxb;rw[decide_eq_false hin] at hsn;have HSN:Hid _:=hsn;clear q0 hsn hin;have hkl3:(x:Int) < (bound:Int):=by omega
     go_wp2_with (first|(go_at_call 130;refine hN.mono ?_;rintro e w1 ⟨rfl,hR1,S1⟩;have B1:=S1.at HA.out.2 (by simpa using hgne);have T1:=S1.at HA.out.1 (by simpa using hne);have d1:w1.cell? ⟨w.heap.size,k,none⟩=some (.int .i64 0):=(B1.cell? k).trans HD.out;have f1:=B1.frozen k;have d2:w1.cell? ⟨tk,x,none⟩=some (.bool false):=(T1.cell? x).trans HSN.out;have f2:=T1.frozen x;have HS1:Hid (RdAt w0 w1 a B rd at1/\Same [rd] wr w1/\At w1 w.heap.size 3 (acc.map (fun x:Nat=>Value.int .i64 x)++List.replicate (c - k) (Value.int .i64 0))/\At w1 tk 4 (seenCells bound (L++acc))):=⟨hR1,S1,B1,T1⟩;clear B1 T1 hR1)|(go_at_call 134;refine (hM _ _).mono ?_;rintro e w' ⟨rfl,hw⟩;obtain rfl:=hw.symm))
     go_roundw
     case rel=>
      obtain⟨hR1,S1',B1,T1⟩:=HS1.out;have S2:Same [w.heap.size,tk] w1 ((w1.setCell ⟨w.heap.size,k,none⟩ (.int .i64 (x:Nat))).setCell ⟨tk,x,none⟩ (.bool true)):=((Same.refl _ _).set _ _ _ (by simp)).set _ _ _ (by simp);refine⟨k+1,at1,acc++[x],by omega,by go_num,by simp[hal],hR1.next S2 (by simp;exact⟨fun e=>hgne e.symm,fun e=>hne e.symm⟩) (by intro q hq;simp at hq;rcases hq with rfl|rfl<;>omega),?_,?_,?_,HE.out⟩
      ·have:=(T1.set_other w.heap.size k (.int .i64 (x:Nat)) (fun e=>hgnt e.symm)).set_same x (.bool true);rw[seen_set bound (L++acc) x hxb,List.append_assoc] at this;exact this
      ·have:=(B1.set_same k (.int .i64 (x:Nat))).set_other tk x (.bool true) hgnt;rw[HX.out] at this;exact this
      ·refine (hS.step S1' (by intro q hq _;simp at hq;simp[hq])).step S2 (fun q hq hl=>?_);simp at hq;rcases hq with rfl|rfl
       ·omega
       ·simp
     case measure=>simp[intOf];omega
  ·have ek:k=c:=by omega
   subst ek;have q0:=HQ.out;rw[Nat.sub_self] at q0 hA;have HE:Hid (spec=.ok (acc,ati)):=q0.symm;have HF:Hid (NumsGot w0 w wr a B rd tk bound L acc ati w.heap.size):=⟨hR,by simpa using hA,hTk,Nat.le_refl _,hS⟩
   clear hR hTk hA hS HQ q0
   go_wp2
   first
    | (show NumsPost _ _ _ _ _ _ _ _ _ _ _ _;rw[HE.out];exact⟨_,rfl,hal,HF.out⟩)
    | (go_ret;show NumsPost _ _ _ _ _ _ _ _ _ _ _ _;rw[HE.out];exact⟨_,rfl,hal,HF.out⟩)
def seenX(k at_:Nat)(l:List Nat)(bd:Option Nat):Option Nat:=l.foldl (fun b y=>mustB b (decide (y≠k)) at_) bd
def numsX(B:List UInt8)(bound:Nat):Nat->List Nat->Nat->Option Nat->List Nat×Nat×Option Nat
 | 0,l,at_,bd=>(l,at_,bd)
 | _+1,l,at_,some q=>(l,at_,some q)
 | c+1,l,at_,none=>numsX B bound c (l++[(numX B 2 at_ none).1]) (numX B 2 at_ none).2.1 (seenX (numX B 2 at_ none).1 at_ l (mustB (numX B 2 at_ none).2.2 (decide ((numX B 2 at_ none).1 < bound)) at_))
def intsV(l:List Nat):List Value:=l.map fun x:Nat=>Value.int .i64 x
theorem own_cell{w:World}{base:Nat}{a:Option Addr}{cap:Nat}{L:List Nat}(h:w.ownsRow base 3 1 (.slice a L.length cap) L.length (intsV L))(j:Nat)(hj:j < L.length):∃g,a=some ⟨g,0,none⟩/\w.cell? ⟨g,j,none⟩=some (.int .i64 ((L[j]!:Nat):Int)):=by
 obtain⟨g,cs,rfl,hbg,hAg,hcl,hct⟩:=owns_atN h (by omega);refine⟨g,rfl,?_⟩;rw[hAg.cell?];have:(cs.take (L.length * 1))[j]? = cs[j]?:=by rw[List.getElem?_take,if_pos (by omega)]
 rw[<-this,hct];simp[intsV,List.getElem?_map,List.getElem?_eq_getElem hj,getElem!_pos L j hj]
theorem seenX_succ(k at_:Nat)(l:List Nat)(bd:Option Nat)(j:Nat)(hj:j < l.length):seenX k at_ (l.take (j+1)) bd=mustB (seenX k at_ (l.take j) bd) (decide (l[j]!≠k)) at_:=by
 unfold seenX;rw[List.take_succ_eq_append_getElem hj,List.foldl_append,getElem!_pos l j hj];rfl
structure NumsX(w0 w w':World)(sb base:Nat)(B:List UInt8)(v v':Value)(r:List Nat×Nat×Option Nat):Prop where
 sc:ScAt w0 w' sb B r.2.1 r.2.2
 own:w'.ownsRow base 3 1 v' r.1.length (intsV r.1)
 lies:v'.ownBlock=v.ownBlock\/∃g,v'.ownBlock=some g/\w.heap.size<=g
 same:Same (sb :: v.ownBlock.toList) w w'
theorem scNumbers_calls(w0 w:World)(sb base:Nat)(B:List UInt8)(c bound at_:Nat)(bd:Option Nat)(L:List Nat)(lv:Value)(vc vb:Int)(hvc:vc=c)(hvb:vb=bound)(hl:B.length<=140737488355328)(h:ScAt w0 w sb B at_ bd)(ho:w.ownsRow base 3 1 lv L.length (intsV L))(hb:base<=w.heap.size)(hsb:sb < base)(hn:L.length+c<=1000000) :
 Calls Tryz.prog 135 #[.pointer (some ⟨sb,0,none⟩),.int .i64 vc,.int .i64 vb,lv] w fun e w'=>∃v',e=.returned v'/\NumsX w0 w w' sb base B lv v' (numsX B bound c L at_ bd):=by
 subst hvc hvb;have hnot:=runNot;obtain⟨i0,hi,hz0,hz1,hz2⟩:=info_parts Tryz.info3;generalize hR:numsX B bound c L at_ bd=R;have HR:Hid (numsX B bound c L at_ bd=R):=hR;have HS0:Hid (ScAt w0 w sb B at_ bd):=h;have HO:Hid (w.ownsRow base 3 1 lv L.length (intsV L)):=ho;have hnew:=h.new;clear h ho hR
 go_enter Tryz.func135,Tryz.ntmps135
 go_wp2_with fail
 go_loopw [1,3] (fun n l wr=>∃(c':Nat) (L':List Nat) (at':Nat) (bd':Option Nat),n=.int .i64 c'/\L'.length+c'<=1000000/\numsX B bound c' L' at' bd'=R/\NumsX w0 w wr sb base B lv l (L',at',bd')) (fun n _ _=>(intOf n).toNat)
 case atStart=>exact⟨c,L,at_,bd,rfl,hn,HR.out,HS0.out,HO.out,Or.inl rfl,Same.refl _ _⟩
 case round=>
  obtain⟨c',L',at',bd',rfl,hn',hR',hN⟩:=hrel;have hcc1:wr.cell? ⟨sb,1,none⟩=some (.int .i64 at'):=hN.sc.cell.cell? 1;have hcc2:wr.cell? ⟨sb,2,none⟩=some (.int .i64 (badI bd')):=hN.sc.cell.cell? 2;obtain⟨ra,rc,rfl⟩:=owns_form hN.own;have HN:Hid (NumsX w0 w wr sb base B lv (.slice ra L'.length rc) (L',at',bd')):=hN;have hwz:=hN.same.size;clear hN;rcases Nat.eq_zero_or_pos c' with rfl|hc0
  ·have HE:Hid ((L',at',bd')=R):=by show _=_;rw[<-hR'];rfl
   clear hR'
   go_wp2
   go_ret
   exact⟨_,rfl,by rw[<-HE.out];exact HN.out⟩
  have l1:(0:Int) < (c':Int):=by omega
  cases bd' with
  | some q=>
   have HE:Hid ((L',at',some q)=R):=by
    show _=_;rw[<-hR'];obtain⟨c1,rfl⟩:∃c1,c'=c1+1:=⟨c' - 1,by omega⟩
    rfl
   simp only[badI] at hcc2;have l2:¬((q:Int) < 0):=by omega
   have l3:(0:Int)<=(q:Int):=by omega
   clear hR'
   go_wp2
   go_ret
   exact⟨_,rfl,by rw[<-HE.out];exact HN.out⟩
  | none=>
   simp only[badI] at hcc2;have l2:(-1:Int) < 0:=by omega
   obtain⟨k,hk⟩:∃k,(numX B 2 at' none).1=k:=⟨_,rfl⟩
   obtain⟨at1,hat1⟩:∃k,(numX B 2 at' none).2.1=k:=⟨_,rfl⟩
   obtain⟨bd1,hbd1⟩:∃k,(numX B 2 at' none).2.2=k:=⟨_,rfl⟩
   have hX:numX B 2 at' none=(k,at1,bd1):=by rw[<-hk,<-hat1,<-hbd1]
   have HE:Hid (numsX B bound (c' - 1) (L'++[k]) at1 (seenX k at' L' (mustB bd1 (decide (k < bound)) at'))=R):=by
    show _=_;rw[<-hR'];obtain⟨c1,rfl⟩:∃c1,c'=c1+1:=⟨c' - 1,by omega⟩
    rw[numsX,hk,hat1,hbd1,Nat.add_sub_cancel]
   have hNu:=rnumber_calls w0 wr sb B 2 at' none k at1 bd1 2 rfl (by omega) hl HN.out.sc hX;have hkb:k < 65536:=by rw[<-hk];exact numX_lt B 2 at' none (by omega)
   clear hk hat1 hbd1 hX hR'
   go_wp2_with fail
   refine hNu.mono ?_;rintro e w2 ⟨rfl,A2,S2⟩;clear hNu;have hM:=rmust_calls w0 w2 sb B at1 bd1 (decide (k < bound)) at' (at':Int) rfl A2;have O2:=owns_same HN.out.own S2 (by intro q hq;simp at hq;omega);have HA2:Hid (w2.ownsRow base 3 1 (.slice ra L'.length rc) L'.length (intsV L')/\Same [sb] wr w2):=⟨O2,S2⟩
   clear A2 O2 S2
   go_wp2_with fail
   refine hM.mono ?_;rintro e w3 ⟨rfl,A3,S3⟩;clear hM;obtain⟨bd2,hbd2⟩:∃x,mustB bd1 (decide (k < bound)) at'=x:=⟨_,rfl⟩
   rw[hbd2] at A3 HE;have HA3:Hid (ScAt w0 w3 sb B at1 bd2/\w3.ownsRow base 3 1 (.slice ra L'.length rc) L'.length (intsV L')/\Same [sb] wr w3):=⟨A3,owns_same HA2.out.1 S3 (by intro q hq;simp at hq;omega),HA2.out.2.step S3 (fun q hq _=>hq)⟩
   clear A3 S3 HA2 hbd2
   go_wp2_with fail
   go_loopw [11] (fun i wr2=>∃j:Nat,j<=L'.length/\i=.int .i64 j/\Hid (ScAt w0 wr2 sb B at1 (seenX k at' (L'.take j) bd2)/\wr2.ownsRow base 3 1 (.slice ra L'.length rc) L'.length (intsV L')/\Same [sb] wr wr2)) (fun i _=>L'.length - (intOf i).toNat)
   case atStart=>exact⟨0,Nat.zero_le _,rfl,HA3.out⟩
   case round=>
    obtain⟨j,hj,rfl,HJ⟩:=hrel;by_cases hjl:j < L'.length
    ·have l4:(j:Int) < (L'.length:Int):=by omega
     obtain⟨g,rfl,hcell⟩:=own_cell HJ.out.2.1 j hjl;have hM:=fun ok=>rmust_calls w0 _ sb B at1 _ ok at' (at':Int) rfl HJ.out.1
     have HSE:Hid (seenX k at' (L'.take (j+1)) bd2=mustB (seenX k at' (L'.take j) bd2) (decide (L'[j]!≠k)) at'):=seenX_succ k at' L' bd2 j hjl;generalize L'[j]! = y at *;generalize seenX k at' (L'.take j) bd2=bdj at *;have hd:((y:Int) != (k:Int))=decide (y≠k):=by
      by_cases e:y=k
      ·subst e;simp
      ·have:¬(y:Int)=(k:Int):=by omega
       simp[e,this]
     have hM':=hM ((y:Int) != (k:Int));have HD:Hid (((y:Int) != (k:Int))=decide (y≠k)):=hd;clear hM hd
     go_wp2_with fail
     refine hM'.mono ?_;rintro e w4 ⟨rfl,A4,S4⟩;rw[HD.out] at A4;have HF:Hid (ScAt w0 w4 sb B at1 (seenX k at' (L'.take (j+1)) bd2)/\w4.ownsRow base 3 1 (.slice (some ⟨g,0,none⟩) L'.length rc) L'.length (intsV L')/\Same [sb] _ w4):=⟨by rw[HSE.out];exact A4,owns_same HJ.out.2.1 S4 (by intro q hq;simp at hq;omega),HJ.out.2.2.step S4 (fun q hq _=>hq)⟩
     clear hM' A4 S4 HJ
     go_wp2
     go_roundw
     case rel=>exact⟨j+1,by omega,by go_num,HF.out⟩
     case measure=>simp[intOf];omega
    ·have l4:(L'.length:Int)<=(j:Int):=by omega
     have ej:j=L'.length:=by omega
     rw[ej,List.take_length] at HJ;obtain⟨bd3,hbd3⟩:∃x,seenX k at' L' bd2=x:=⟨_,rfl⟩
     rw[hbd3] at HJ HE;have hbw:base<=wr.heap.size:=by have:=HJ.out.2.2.size;omega
     have hown:=HJ.out.2.1;clear ej hbd3
     go_wp2_with (at_builtin;refine wpList_append_own_at _ rfl _ _ 51 rfl base 3 i0 (.int .i64 0) 1 8 Tryz.underlying51 hi hz0 hz1 hz2 rfl (by decide) _ _ _ rfl (hown.alloc _) ⟨wr.heap.size,0,none⟩ 1 1 [.int .i64 (k:Int)] rfl rfl ?c1 ?c2 ?c3 ?c4 ?c5 ?_)
     case c1=>
      intro j u hj
      match j,hj with
      | 0,hj=>simp at hj;subst hj;simp[Addr.add]
     case c2=>intro u hu;simp at hu;subst hu;rfl
     case c3=>unfold maxLen;omega
     case c4=>omega
     case c5=>first|omega|(simp;omega)
     intro v' w5 hown' hgrow _ hblk;have HF:Hid (NumsX w0 w w5 sb base B lv v' (L'++[k],at1,bd3)):=by
      have hrow:=owns_row hown;have S5:Same (Value.ownBlock (.slice ra L'.length rc)).toList wr w5:=((Same.refl _ _).alloc _).grown hgrow (fun q hq _=>by simp[hq]);have hbl:∀q∈(Value.ownBlock (.slice ra L'.length rc)).toList,base<=q:=fun q hq=>hrow q (by simpa using hq)
      have hlies:=HN.out.lies;have hsz:=HJ.out.2.2.size;refine⟨HJ.out.1.next S5 (fun hq=>by have:=hbl _ hq;omega) (fun q hq=>by have:=hbl _ hq;omega),?_,?_,?_⟩
      ·show w5.ownsRow base 3 1 v' (L'++[k]).length (intsV (L'++[k]));rw[List.length_append,List.length_singleton];unfold intsV at hown' ⊢;rw[List.map_append];exact hown'
      ·rcases hblk with e|e
       ·rw[e];exact hlies
       ·exact Or.inr ⟨_,e,by omega⟩
      ·refine (HN.out.same.step HJ.out.2.2 (fun q hq _=>by simp at hq;simp[hq])).step S5 (fun q hq hlt=>?_);rcases hlies with e|⟨g,e,hg⟩
       ·rw[e] at hq;exact List.mem_cons_of_mem _ hq
       ·rw[e] at hq;simp at hq;omega
     clear hown hown' hgrow hblk HJ HN;have hwc:IntKind.i64.wrap ((c':Int) - 1)=((c' - 1:Nat):Int):=by rw[IntWalk.i64_in _ (by omega)];omega
     go_wp2
     go_roundw
     case rel=>exact⟨c' - 1,L'++[k],at1,bd3,by first|rfl|go_num|(congr 1;omega),by simp;omega,HE.out,HF.out⟩
     case measure=>simp[intOf];omega
theorem numsX_pre(B:List UInt8)(bound:Nat):∀(c:Nat) (l:List Nat) (at_:Nat) (bd:Option Nat),∃X,(numsX B bound c l at_ bd).1=l++X
 | 0,l,at_,bd=>⟨[],by simp[numsX]⟩
 | c+1,l,at_,some q=>⟨[],by simp[numsX]⟩
 | c+1,l,at_,none=>by
  rw[numsX];obtain⟨X,hX⟩:=numsX_pre B bound c (l++[(numX B 2 at_ none).1]) (numX B 2 at_ none).2.1 (seenX (numX B 2 at_ none).1 at_ l (mustB (numX B 2 at_ none).2.2 (decide ((numX B 2 at_ none).1 < bound)) at_));exact⟨(numX B 2 at_ none).1 :: X,by rw[hX,List.append_assoc];rfl⟩
theorem numsX_len(B:List UInt8)(bound:Nat):∀(c:Nat) (l:List Nat) (at_:Nat) (bd:Option Nat),(numsX B bound c l at_ bd).1.length<=l.length+c
 | 0,l,at_,bd=>by simp[numsX]
 | c+1,l,at_,some q=>by simp[numsX]
 | c+1,l,at_,none=>by
  rw[numsX];have:=numsX_len B bound c (l++[(numX B 2 at_ none).1]) (numX B 2 at_ none).2.1 (seenX (numX B 2 at_ none).1 at_ l (mustB (numX B 2 at_ none).2.2 (decide ((numX B 2 at_ none).1 < bound)) at_));rw[List.length_append,List.length_singleton] at this;omega
end
section
open Go.RowKit Go.Sort
variable [DecidableEq Blk] [Inhabited Blk] [Inhabited Vol] [Inhabited RVol]
structure REnt where
 name:ByteArray
 size:Nat
 origin:Option Nat
 oat:Nat
 xs:List Nat
 kept:List Nat
 lost:Bool
structure RHead where
 name:ByteArray
 kind:Nat
 size:Nat
 at_:Nat
 bd:Option Nat
def aheadX(ahead:Option ByteArray)(t:ByteArray)(at_:Nat)(bd:Option Nat):Option Nat:=
 match ahead with
 | none=>bd
 | some u=>mustB bd (decide (cmpB u t < 0)) at_
def headX(B:List UInt8)(ahead:Option ByteArray)(a0:Nat)(b0:Option Nat):RHead:=
 let x1:=numX B 1 a0 b0
 let b1:=mustB x1.2.2 (decide (1<=x1.1/\x1.1<=10)) a0
 let x2:=takeX B x1.1 x1.2.1 b1
 let b2:=mustB x2.2.2 (nameB x2.1) x1.2.1
 let b3:=aheadX ahead x2.1 x1.2.1 b2
 let x4:=numX B 1 x2.2.1 b3
 let b4:=mustB x4.2.2 (decide (x4.1<=2)) x2.2.1
 let x5:=numX B 2 x4.2.1 b4
 let b5:=mustB x5.2.2 (decide (1<=x5.1/\x5.1<=200)) x4.2.1
 ⟨x2.1,x4.1,x5.1,x5.2.1,b5⟩
def tailX(B:List UInt8)(bound:Nat)(used:List Nat)(kind size a0:Nat)(b0:Option Nat):Nat×List Nat×Nat×Option Nat:=
 let x7:=numX B 2 a0 b0
 let b7:=mustB x7.2.2 (decide (1<=x7.1/\x7.1<=size/\(0 < kind\/x7.1=size))) a0
 (x7.1,numsX B bound x7.1 used x7.2.1 b7)
def keptX(B:List UInt8)(kind n size a0:Nat)(b0:Option Nat):List Nat×Nat×Option Nat:=
 let x9:=numX B 2 a0 b0
 let b9:=mustB x9.2.2 (decide (x9.1<=n/\(kind=1\/x9.1=0))) a0
 numsX B size x9.1 [] x9.2.1 b9
def orgX(B:List UInt8)(count kind a0:Nat)(b0:Option Nat):Option Nat×Nat×Nat×Option Nat:=
 if kind=0 then (none,0,a0,b0) else (some (numX B 1 a0 b0).1,a0,(numX B 1 a0 b0).2.1,mustB (numX B 1 a0 b0).2.2 (decide ((numX B 1 a0 b0).1 < count)) a0)
def orgI:Option Nat->Int
 | none=>-1
 | some o=>o
def entryX(B:List UInt8)(ahead:Option ByteArray)(bound count:Nat)(used:List Nat)(a0:Nat)(b0:Option Nat):REnt×List Nat×Nat×Option Nat:=
 let h:=headX B ahead a0 b0
 let o:=orgX B count h.kind h.at_ h.bd
 let t:=tailX B bound used h.kind h.size o.2.2.1 o.2.2.2
 let k:=if h.kind=0 then ([],t.2.2) else keptX B h.kind t.1 h.size t.2.2.1 t.2.2.2
 (⟨h.name,h.size,o.1,o.2.1,t.2.1.drop used.length,k.1,decide (h.kind=2)⟩,t.2.1,k.2)
theorem ScAt.must_eq{w0 w:World}{sb:Nat}{B:List UInt8}{at_ q:Nat}{bd:Option Nat}{ok ok':Bool}(h:ScAt w0 w sb B at_ (mustB bd ok q))(e:ok=ok'):ScAt w0 w sb B at_ (mustB bd ok' q):=e▸h
theorem text_less(t u:ByteArray):Op.bytesLess t.toList u.toList=decide (cmpB t u < 0):=by
 rw[ByteArray.toList_eq,ByteArray.toList_eq];exact lessL _ _
theorem takeX_size(B:List UInt8)(n at_:Nat)(bd:Option Nat):(takeX B n at_ bd).1.size<=n:=(numX_take B n at_ bd).2.2
structure EMid(w0 w W:World)(sb:Nat)(B:List UInt8)(at_:Nat)(bd:Option Nat)(S:List Nat)(ec vc:List Value):Prop where
 sc:ScAt w0 W sb B at_ bd
 ent:At W (w.heap.size+1) 163 ec
 vol:At W w.heap.size 118 vc
 same:Same (sb :: S) w W
 lt:sb < w.heap.size
 low:w0.heap.size<=w.heap.size
theorem EMid.call{w0 w W W':World}{sb:Nat}{B:List UInt8}{at_ at1:Nat}{bd bd1:Option Nat}{S:List Nat}{ec vc:List Value}(h:EMid w0 w W sb B at_ bd S ec vc)(hs:ScAt w0 W' sb B at1 bd1)(hS:Same [sb] W W'):EMid w0 w W' sb B at1 bd1 S ec vc:=
 ⟨hs,hS.at h.ent (by have:=h.lt;simp;omega),hS.at h.vol (by have:=h.lt;simp;omega),h.same.step hS (fun k hk _=>by simp at hk;simp[hk]),h.lt,h.low⟩
theorem EMid.drew{w0 w W:World}{sb:Nat}{B:List UInt8}{at_:Nat}{bd:Option Nat}{S:List Nat}{ec vc:List Value}(h:EMid w0 w W sb B at_ bd S ec vc):EMid w0 w W.drew sb B at_ bd S ec vc:=
 ⟨h.sc.next ((Same.refl [] W).drew) (by simp) (by simp),h.ent.drew,h.vol.drew,h.same.drew,h.lt,h.low⟩
theorem EMid.setE{w0 w W:World}{sb:Nat}{B:List UInt8}{at_:Nat}{bd:Option Nat}{S:List Nat}{ec vc:List Value}(h:EMid w0 w W sb B at_ bd S ec vc)(i:Nat)(v:Value):EMid w0 w (W.setCell ⟨w.heap.size+1,i,none⟩ v) sb B at_ bd S (ec.set i v) vc:=by
 have hlt:=h.lt;have hlo:=h.low;have S1:Same [w.heap.size+1] W (W.setCell ⟨w.heap.size+1,i,none⟩ v):=(Same.refl _ _).set _ _ _ (by simp);exact⟨h.sc.next S1 (by simp;omega) (by intro k hk;simp at hk;omega),h.ent.set_same i v,h.vol.set_other _ _ _ (by omega),h.same.step S1 (fun k hk hl=>by simp at hk;omega),h.lt,h.low⟩
theorem EMid.setV{w0 w W:World}{sb:Nat}{B:List UInt8}{at_:Nat}{bd:Option Nat}{S:List Nat}{ec vc:List Value}(h:EMid w0 w W sb B at_ bd S ec vc)(i:Nat)(v:Value):EMid w0 w (W.setCell ⟨w.heap.size,i,none⟩ v) sb B at_ bd S ec (vc.set i v):=by
 have hlt:=h.lt;have hlo:=h.low;have S1:Same [w.heap.size] W (W.setCell ⟨w.heap.size,i,none⟩ v):=(Same.refl _ _).set _ _ _ (by simp);exact⟨h.sc.next S1 (by simp;omega) (by intro k hk;simp at hk;omega),h.ent.set_other _ _ _ (by omega),h.vol.set_same i v,h.same.step S1 (fun k hk hl=>by simp at hk;omega),h.lt,h.low⟩
theorem EMid.new{w0 w W W':World}{sb:Nat}{B:List UInt8}{at_:Nat}{bd:Option Nat}{S:List Nat}{ec vc:List Value}(h:EMid w0 w W sb B at_ bd S ec vc)(hS:Same [] W W'):EMid w0 w W' sb B at_ bd S ec vc:=
 ⟨h.sc.next hS (by simp) (by simp),hS.at h.ent (by simp),hS.at h.vol (by simp),h.same.step hS (by simp),h.lt,h.low⟩
theorem step_append_none{P:Program}{ops:Array Oper}{o:Oper}{a:Act}{w:World}{K:Act->World->Prop}{Q:Exit->Act->World->Prop}{E:Prop}
 (hg:o.guard=none) (s x:Operand) (t:TypeId) (hop:o.op=Op.call { callee:=Callee.builtin Builtin.append,args:=#[s,x],argTypes:=#[t,t] })
 (base:Nat) (e:TypeId) (i:TypeInfo) (size:Nat) (h1:P.underlying t=some (.slice e)) (h2:P.info? e=some i)
 (v:Value) (n:Nat) (xs:List Value) (hs:a.eval s=v) (hown:w.ownsRow base e size v n xs) (hx:a.eval x=.slice none 0 0)
 (hK:K (a.put o.dst v) w) :
 if Region.wanted o (yielded ops a.tmps)=true then Oper.wp P o a w K Q else E:=by
 have hw:Region.wanted o (yielded ops a.tmps)=true:=by simp[Region.wanted,hg]
 rw[if_pos hw];have hrun:=run_append_owned_none (P:=P) w base t o.type e i size h1 h2 v n xs hown;unfold Oper.wp;simp[execOp,hop,resolve,invoke,builtin,hs,hx,hrun,Result.andThen];exact hK
theorem step_append_zero{P:Program}{ops:Array Oper}{o:Oper}{a:Act}{w:World}{K:Act->World->Prop}{Q:Exit->Act->World->Prop}{E:Prop}
 (hg:o.guard=none) (s x:Operand) (t:TypeId) (hop:o.op=Op.call { callee:=Callee.builtin Builtin.append,args:=#[s,x],argTypes:=#[t,t] })
 (e:TypeId) (i:TypeInfo) (z:Value) (size bytes:Nat) (h1:P.underlying t=some (.slice e)) (h2:P.info? e=some i) (h3:i.zero=some z) (h4:i.size=size) (h5:i.bytes=bytes) (h6:z.cells.size=size) (h7:0 < size)
 (hs:a.eval s=.slice none 0 0) (ad:Addr) (c:Nat) (hx:a.eval x=.slice (some ad) 0 c)
 (hK:∀w',Same [] w w'->K (a.put o.dst (.slice none 0 0)) w') :
 if Region.wanted o (yielded ops a.tmps)=true then Oper.wp P o a w K Q else E:=by
 have hw:Region.wanted o (yielded ops a.tmps)=true:=by simp[Region.wanted,hg]
 rw[if_pos hw];obtain⟨v',w',hrun,r1,r2,r3,r4⟩:=run_append_own_at (P:=P) w w.heap.size t o.type e i z size bytes h1 h2 h3 h4 h5 h6 h7 (.slice none 0 0) 0 [] (World.ownsRow_nil _ _ _ _) ad 0 c [] (by simp) (by intro j u hj;simp at hj) (by simp) (by unfold maxLen;omega) (by omega) (Nat.le_refl _);obtain rfl:=r3.2 ⟨rfl,rfl⟩;unfold Oper.wp;simp[execOp,hop,resolve,invoke,builtin,hs,hx,hrun,Result.andThen];exact hK w' ((Same.refl [] w).grown r2 (fun j hj hl=>by simp[Value.ownBlock] at hj))
structure AheadAt(w:World)(a:Option Addr)(m:Nat)(ahead:Option ByteArray)(sb:Nat)(S:List Nat):Prop where
 no:m=0->ahead=none
 ex:m≠0->∃t ag pe pv cs ce cv,ahead=some t/\a=some ⟨ag,0,none⟩/\At w ag 159 cs/\cs[m - 1]? = some (ptr pe)/\At w pe 163 ce/\ce[0]? = some (ptr pv)/\At w pv 118 cv/\cv[0]? = some (.string t)/\ag∉sb :: S/\pe∉sb :: S/\pv∉sb :: S
def dropSeq:Nat->Code->Code
 | 0,c=>c
 | n+1,.seq _ b=>dropSeq n b
 | _+1,c=>c
theorem owns_but{w w':World}{base:Nat}{e:TypeId}{size:Nat}{v:Value}{n:Nat}{xs:List Value}(h:w.ownsRow base e size v n xs){S:List Nat}(hs:Same S w w')(hS:∀g,v.ownBlock=some g->g∉S):w'.ownsRow base e size v n xs:=by
 refine⟨h.1,?_⟩;rcases h.2 with h|⟨g,cap,cur,h1,h2,h3,h4⟩
 ·exact Or.inl h
 ·refine Or.inr ⟨g,cap,cur,h1,h2,?_,h4⟩;have hl:g < w.heap.size:=by
   rcases Nat.lt_or_ge g w.heap.size with h'|h'
   ·exact h'
   ·rw[Array.getElem?_eq_none h'] at h3;cases h3
  rw[hs.block g hl (hS g (by rw[h1];rfl))];exact h3
structure EntX(w0 w w':World)(sb base:Nat)(B:List UInt8)(lv allv bv kv:Value)(r:REnt×List Nat×Nat×Option Nat):Prop where
 sc:ScAt w0 w' sb B r.2.2.1 r.2.2.2
 ent:At w' (w.heap.size+1) 163 [.pointer (some ⟨w.heap.size,0,none⟩),.int .i64 (r.1.size:Int),.int .i64 (orgI r.1.origin),.int .i64 (r.1.oat:Int)]
 vol:At w' w.heap.size 118 [.string r.1.name,.string ⟨#[]⟩,.slice none 0 0,bv,kv,.bool r.1.lost]
 all:w'.ownsRow base 3 1 allv r.2.1.length (intsV r.2.1)
 lies:allv.ownBlock=lv.ownBlock\/∃g,allv.ownBlock=some g/\w.heap.size+2<=g
 rows:∃hb hk,w.heap.size+2<=hb/\(∀g,allv.ownBlock=some g->g < hb)/\w'.ownsRow hb 3 1 bv r.1.xs.length (intsV r.1.xs)/\hb<=hk/\(∀g,bv.ownBlock=some g->g < hk)/\w'.ownsRow hk 3 1 kv r.1.kept.length (intsV r.1.kept)
 same:Same (sb :: lv.ownBlock.toList) w w'
theorem hid{p:Prop}(h:p):Hid p:=h
structure RRow where
 e:REnt
 eb:Nat
 vb:Nat
 bg:Nat
 bc:Nat
 kg:Option Nat
 kc:Nat
def RRow.cells(x:RRow)(of_:ByteArray)(dv:Value):List Value:=[.string x.e.name,.string of_,dv,.slice (some ⟨x.bg,0,none⟩) x.e.xs.length x.bc,.slice (x.kg.map fun g=>⟨g,0,none⟩) x.e.kept.length x.kc,.bool x.e.lost]
def RRow.foot(x:RRow):List Nat:=x.eb :: x.vb :: x.bg :: x.kg.toList
end
section
open Go.RowKit Go.Sort
variable [DecidableEq Blk] [Inhabited Blk] [Inhabited Vol] [Inhabited RVol] [Inhabited RRow]
structure RowFix(w:World)(x:RRow):Prop where
 ent:At w x.eb 163 [.pointer (some ⟨x.vb,0,none⟩),.int .i64 (x.e.size:Int),.int .i64 (orgI x.e.origin),.int .i64 (x.e.oat:Int)]
 bl:NumsAt w x.bg x.bc x.e.xs
 ke:(x.kg=none->x.e.kept=[]/\x.kc=0)/\∀g,x.kg=some g->NumsAt w g x.kc x.e.kept
theorem RowFix.same{w w':World}{x:RRow}(h:RowFix w x){S:List Nat}(hs:Same S w w')(hn:∀q∈x.eb :: x.bg :: x.kg.toList,q∉S):RowFix w' x:=
 ⟨hs.at h.ent (hn _ (by simp)),h.bl.same hs (hn _ (by simp)),h.ke.1,fun g hg=>(h.ke.2 g hg).same hs (hn _ (by simp[hg]))⟩
structure Rows(w:World)(base:Nat)(xs:List RRow)(ofs:List ByteArray)(ds:List (Value×List ByteArray)):Prop where
 fix:∀j,j < xs.length->RowFix w xs[j]!
 vol:∀j,j < xs.length->At w (xs[j]!).vb 118 ((xs[j]!).cells ofs[j]! (ds[j]!).1)
 dat:∀j,j < xs.length->w.ownsRow base 9 1 (ds[j]!).1 (ds[j]!).2.length ((ds[j]!).2.map Value.string)
 apart:∀j k,j < xs.length->k < xs.length->j≠k->∀g,(ds[j]!).1.ownBlock=some g->(ds[k]!).1.ownBlock≠some g
 nodup:(xs.flatMap RRow.foot).Nodup
 low:∀x∈xs,∀q∈x.foot,q < base
 lo:ofs.length=xs.length
 ld:ds.length=xs.length
theorem foot_apart{xs:List RRow}(h:(xs.flatMap RRow.foot).Nodup){j k:Nat}(hj:j < xs.length)(hk:k < xs.length)(hne:j≠k){q:Nat}(hq:q∈(xs[j]!).foot):q∉(xs[k]!).foot:=by
 intro hq2;rw[getElem!_pos xs j hj] at hq;rw[getElem!_pos xs k hk] at hq2;have hp:=(List.pairwise_flatMap.1 h).2;have:=List.pairwise_iff_getElem.1 hp;rcases Nat.lt_or_gt_of_ne hne with h'|h'
 ·exact (this j k hj hk h') q hq q hq2 rfl
 ·exact (this k j hk hj h') q hq2 q hq rfl
theorem foot_nodup{xs:List RRow}(h:(xs.flatMap RRow.foot).Nodup){j:Nat}(hj:j < xs.length):(xs[j]!).foot.Nodup:=by
 rw[getElem!_pos xs j hj];exact (List.pairwise_flatMap.1 h).1 _ (List.getElem_mem hj)
theorem Rows.put{w w':World}{base:Nat}{xs:List RRow}{ofs:List ByteArray}{ds:List (Value×List ByteArray)}(h:Rows w base xs ofs ds)(i:Nat)(hi:i < xs.length)(dv:Value)(dl:List ByteArray){S:List Nat}(hS:Same S w w')
 (hs:∀q∈S,q=(xs[i]!).vb\/(ds[i]!).1.ownBlock=some q) (hv:At w' (xs[i]!).vb 118 ((xs[i]!).cells ofs[i]! dv)) (hd:w'.ownsRow base 9 1 dv dl.length (dl.map Value.string))
 (hl:dv.ownBlock=(ds[i]!).1.ownBlock\/∃g,dv.ownBlock=some g/\w.heap.size<=g):Rows w' base xs ofs (ds.set i (dv,dl)):=by
 have hb:∀g,(ds[i]!).1.ownBlock=some g->base<=g:=fun g hg=>owns_row (h.dat i hi) g hg
 have low:∀j,j < xs.length->∀q∈(xs[j]!).foot,q < base:=fun j hj q hq=>h.low _ (by rw[getElem!_pos xs j hj];exact List.getElem_mem hj) q hq
 have gs:(ds.set i (dv,dl))[i]! = (dv,dl):=by rw[getElem!_pos _ i (by rw[List.length_set,h.ld];exact hi),List.getElem_set_self]
 have gn:∀j,j < xs.length->j≠i->(ds.set i (dv,dl))[j]! = ds[j]!:=fun j hj hne=>by
  rw[getElem!_pos _ j (by rw[List.length_set,h.ld];exact hj),List.getElem_set_ne (fun e=>hne e.symm),getElem!_pos ds j (by rw[h.ld];exact hj)]
 refine⟨fun j hj=>(h.fix j hj).same hS fun q hq hqs=>?_,fun j hj=>?_,fun j hj=>?_,fun j k hj hk hne g hg=>?_,h.nodup,h.low,h.lo,by rw[List.length_set];exact h.ld⟩
 ·have hqf:q∈(xs[j]!).foot:=by
   simp only[RRow.foot,List.mem_cons] at hq ⊢;rcases hq with e|e|e
   ·exact Or.inl e
   ·exact Or.inr (Or.inr (Or.inl e))
   ·exact Or.inr (Or.inr (Or.inr e))
  rcases hs q hqs with e|e
  ·subst e;by_cases hji:j=i
   ·subst hji;have:=foot_nodup h.nodup hj;simp only[RRow.foot,List.nodup_cons,List.mem_cons,not_or] at this;simp only[List.mem_cons] at hq;rcases hq with e|e|e
    ·exact this.1.1 e.symm
    ·exact this.2.1.1 e
    ·exact this.2.1.2 e
   ·exact foot_apart h.nodup hj hi hji hqf (by simp[RRow.foot])
  ·have:=hb q e;have:=low j hj q hqf;omega
 ·by_cases hji:j=i
  ·subst hji;rw[gs];exact hv
  ·rw[gn j hj hji];refine hS.at (h.vol j hj) fun hq=>?_
   rcases hs _ hq with e|e
   ·exact foot_apart h.nodup hj hi hji (q:=(xs[j]!).vb) (by simp[RRow.foot]) (by rw[e];simp[RRow.foot])
   ·have:=hb _ e;have:=low j hj (xs[j]!).vb (by simp[RRow.foot]);omega
 ·by_cases hji:j=i
  ·subst hji;rw[gs];exact hd
  ·rw[gn j hj hji];refine owns_but (h.dat j hj) hS fun g hg hq=>?_
   rcases hs _ hq with e|e
   ·have:=owns_row (h.dat j hj) g hg;have:=low i hi (xs[i]!).vb (by simp[RRow.foot]);omega
   ·exact h.apart j i hj hi hji g hg e
 ·by_cases hji:j=i
  ·subst hji;have hki:k≠j:=fun e=>hne e.symm
   rw[gs] at hg;rw[gn k hk hki];rcases hl with e|⟨g',e,hg'⟩
   ·rw[e] at hg;exact h.apart j k hj hk hne g hg
   ·have hg:dv.ownBlock=some g:=hg;rw[e] at hg;obtain rfl:g'=g:=by simpa using hg
    intro e2;have:=((h.dat k hk).lt g' e2).2;omega
  ·rw[gn j hj hji] at hg;by_cases hki:k=i
   ·subst hki;rw[gs];rcases hl with e|⟨g',e,hg'⟩
    ·show dv.ownBlock≠some g;rw[e];exact h.apart j k hj hk hne g hg
    ·show dv.ownBlock≠some g;rw[e];intro e2;obtain rfl:g'=g:=by simpa using e2
     have:=((h.dat j hj).lt g' hg).2;omega
   ·rw[gn k hk hki];exact h.apart j k hj hk hne g hg
theorem Rows.same{w w':World}{base:Nat}{xs:List RRow}{ofs:List ByteArray}{ds:List (Value×List ByteArray)}(h:Rows w base xs ofs ds){S:List Nat}(hS:Same S w w')(hn:∀q∈S,(∀x∈xs,q∉x.foot)/\∀j,j < xs.length->(ds[j]!).1.ownBlock≠some q):Rows w' base xs ofs ds:=by
 have hm:∀j,j < xs.length->xs[j]!∈xs:=fun j hj=>by rw[getElem!_pos xs j hj];exact List.getElem_mem hj
 refine⟨fun j hj=>(h.fix j hj).same hS fun q hq hqs=>(hn q hqs).1 _ (hm j hj) ?_,fun j hj=>hS.at (h.vol j hj) fun hq=>(hn _ hq).1 _ (hm j hj) (by simp[RRow.foot]),fun j hj=>owns_but (h.dat j hj) hS fun g hg hq=>(hn g hq).2 j hj hg,h.apart,h.nodup,h.low,h.lo,h.ld⟩;simp only[RRow.foot,List.mem_cons] at hq ⊢;rcases hq with e|e|e
 ·exact Or.inl e
 ·exact Or.inr (Or.inr (Or.inl e))
 ·exact Or.inr (Or.inr (Or.inr e))
structure EntsAt(w:World)(a:Option Addr)(xs:List RRow):Prop where
 ex:xs≠[]->∃lg cs,a=some ⟨lg,0,none⟩/\At w lg 159 cs/\cs.take xs.length=xs.map fun x=>Value.pointer (some ⟨x.eb,0,none⟩)
theorem EntsAt.cell{w:World}{a:Option Addr}{xs:List RRow}(h:EntsAt w a xs)(j:Nat)(hj:j < xs.length):∃lg cs,a=some ⟨lg,0,none⟩/\At w lg 159 cs/\w.cell? ⟨lg,j,none⟩=some (.pointer (some ⟨(xs[j]!).eb,0,none⟩)):=by
 obtain⟨lg,cs,h1,h2,h3⟩:=h.ex (fun e=>by rw[e] at hj;simp at hj);refine⟨lg,cs,h1,h2,?_⟩;have e:(cs.take xs.length)[j]? = cs[j]?:=by rw[List.getElem?_take,if_pos hj]
 rw[h2.cell?,<-e,h3,List.getElem?_map,List.getElem?_eq_getElem hj,getElem!_pos xs j hj];rfl
end
end Go.Proofs.YtpddgdjocffgdaaGreat
