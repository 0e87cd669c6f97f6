/- A reader of an image: must, next, by contracts: what they answer, and where they give up. What a reader reads, in plain words: a number, a name, numbers, an entry, the list. The reference's image: its sum, its numbers, what a block holds: Sum, Two, block, by contracts. The reference's image in plain words, beside the program's. The reference's image: one, index. -/
import Derived.Test.YtpddgdjocffgdaaGreatJ15
import Derived.Test.YtpddgdjocffgdaaGreatJ02
import Derived.WalkLawsBesides
import Derived.Laws.IdiomStrings
import Derived.Test.YtpddgdjocffgdaaGreatJ12
import Derived.BigQuiet
import Derived.Test.YtpddgdjocffgdaaGreatJ13
namespace Go.Proofs.YtpddgdjocffgdaaGreat
set_option linter.unusedVariables false
set_option linter.unusedSimpArgs false
set_option linter.unusedSectionVars false
set_option maxHeartbeats 16000000
set_option maxRecDepth 100000
section
open Go.RowKit Go.Sort
variable [DecidableEq Blk] [Inhabited Blk] [Inhabited Vol]
def bad(q:Nat):Ending:=.panicked [{ v:=.iface 175 (.int .i64 q),recovered:=false }]
theorem must_ok(q:Int)(w:World):Calls Tryz.prog 134 #[.bool true,.int .i64 q] w fun e w'=>e=.returned (.tuple #[])/\w'=w:=by
 have hnot:=runNot
 go_enter Tryz.func134,Tryz.ntmps134
 go_wp2
 go_end0
 exact⟨rfl,rfl⟩
theorem must_bad(q:Nat)(w:World):Calls Tryz.prog 134 #[.bool false,.int .i64 q] w fun e w'=>e=bad q/\w'=w:=by
 have hnot:=runNot;unfold bad
 go_enter Tryz.func134,Tryz.ntmps134
 go_wp2
 exact⟨rfl,rfl,rfl⟩
structure BytesOld(w0:World)(a:Option Addr)(B:List UInt8):Prop where
 ex:B≠[]->∃b off,a=some ⟨b,off,none⟩/\b < w0.heap.size/\∀i,i < B.length->w0.cell? ⟨b,off+i,none⟩=some (byteV B[i]!)
 len:B.length<=140737488355328
theorem BytesOld.at{w0 w:World}{a:Option Addr}{B:List UInt8}(h:BytesOld w0 a B)(hS:Same [] w0 w)(hne:B≠[]):∃b off,a=some ⟨b,off,none⟩/\b < w0.heap.size/\∀i,i < B.length->w.cell? ⟨b,off+i,none⟩=some (byteV B[i]!):=by
 obtain⟨b,off,h1,h2,h3⟩:=h.ex hne;refine⟨b,off,h1,h2,fun i hi=>?_⟩;rw[(hS.below (Nat.le_refl _) (by simp)).cell h2];exact h3 i hi
structure RdAt(w0 w:World)(a:Option Addr)(B:List UInt8)(rd at_:Nat):Prop where
 cell:At w rd 152 [.slice a B.length B.length,.int .i64 at_]
 new:w0.heap.size<=rd
 same:Same [] w0 w
 le:at_<=B.length
theorem RdAt.next{w0 w w':World}{a:Option Addr}{B:List UInt8}{rd at_:Nat}(h:RdAt w0 w a B rd at_){S:List Nat}(hs:Same S w w')(hn:rd∉S)(hS:∀k∈S,w0.heap.size<=k):RdAt w0 w' a B rd at_:=
 ⟨hs.at h.cell hn,h.new,h.same.step hs (fun k hk hl=>by have:=hS k hk;omega),h.le⟩
theorem next_ok(w0 w:World)(a:Option Addr)(B:List UInt8)(rd at_ n b off:Nat)(hB:BytesOld w0 a B)(h:RdAt w0 w a B rd at_)(ha:a=some ⟨b,off,none⟩)(hn:1<=n)(hle:at_+n<=B.length) :
 Calls Tryz.prog 142 #[.pointer (some ⟨rd,0,none⟩),.int .i64 n] w fun e w'=>e=.returned (.slice (some ⟨b,off+at_,none⟩) n n)/\RdAt w0 w' a B rd (at_+n)/\Same [rd] w w':=by
 have hlen:=hB.len;subst ha;have c0:w.cell? ⟨rd,0,none⟩=some (.slice (some ⟨b,off,none⟩) B.length B.length):=h.cell.cell? 0;have c1:w.cell? ⟨rd,1,none⟩=some (.int .i64 at_):=h.cell.cell? 1;have f1:w.frozen? ⟨rd,1,none⟩=false:=h.cell.frozen 1;have hM:=fun W q=>must_ok q W
 have hadd:IntKind.i64.wrap ((at_:Int)+(n:Int))=((at_+n:Nat):Int):=by rw[IntWalk.i64_in _ (by omega)];omega
 have HR:Hid (RdAt w0 w (some ⟨b,off,none⟩) B rd at_):=h;clear h
 go_enter Tryz.func142,Tryz.ntmps142
 go_wp2_with fail
 go_region
 go_wp2_with fail
 refine region_tail 12 (by kernel_rfl) (by kernel_rfl) ?_;simp only[List.take_succ_cons,List.take_zero,List.drop_succ_cons,List.drop_zero]
 repeat still_step
 refine wpStill_nil ?_;have hle':(at_:Int)+(n:Int)<=(B.length:Int):=by omega
 have HF:Hid (RdAt w0 ((w.drew.drew).setCell ⟨rd,1,none⟩ (.int .i64 ((at_:Int)+(n:Int)))) (some ⟨b,off,none⟩) B rd (at_+n)/\Same [rd] w ((w.drew.drew).setCell ⟨rd,1,none⟩ (.int .i64 ((at_:Int)+(n:Int))))):=by
  have S2:Same [rd] w ((w.drew.drew).setCell ⟨rd,1,none⟩ (.int .i64 ((at_:Int)+(n:Int)))):=((Same.refl _ _).drew.drew).set _ _ _ (by simp);refine⟨⟨?_,HR.out.new,HR.out.same.step S2 (fun k hk hl=>by simp at hk;have:=HR.out.new;omega),hle⟩,S2⟩;have:=(HR.out.cell.drew.drew).set_same 1 (.int .i64 ((at_:Int)+(n:Int)));simpa using this
 have t1:((at_:Int)).toNat=at_:=by omega
 have t2:((at_:Int)+(n:Int)).toNat=at_+n:=by omega
 have t3:at_+n - at_=n:=by omega
 have t4:at_<=at_+n:=by omega
 have t5:(at_:Int)<=(at_:Int)+(n:Int):=by omega
 have t6:(0:Int)<=(at_:Int):=by omega
 go_wp2_with (go_at_call 134;refine (hM _ _).mono ?_;rintro e w' ⟨rfl,hw⟩;obtain rfl:=hw.symm)
 go_ret
 exact⟨rfl,HF.out.1,HF.out.2⟩
theorem next_bad(w0 w:World)(a:Option Addr)(B:List UInt8)(rd at_ n:Nat)(hB:BytesOld w0 a B)(h:RdAt w0 w a B rd at_)(hn:n<=10000)(hle:B.length < at_+n) :
 Calls Tryz.prog 142 #[.pointer (some ⟨rd,0,none⟩),.int .i64 n] w fun e w'=>e=bad B.length/\Same [] w w':=by
 have hlen:=hB.len;have hal:=h.le;have c0:w.cell? ⟨rd,0,none⟩=some (.slice a B.length B.length):=h.cell.cell? 0;have c1:w.cell? ⟨rd,1,none⟩=some (.int .i64 at_):=h.cell.cell? 1;have hM:=fun W=>must_bad B.length W
 have hadd:IntKind.i64.wrap ((at_:Int)+(n:Int))=((at_+n:Nat):Int):=by rw[IntWalk.i64_in _ (by omega)];omega
 have S2:Same [] w w.drew.drew:=(Same.refl _ _).drew.drew;unfold bad at *;clear h
 go_enter Tryz.func142,Tryz.ntmps142
 go_wp2_with fail
 go_region
 go_wp2_with fail
 refine region_tail 12 (by kernel_rfl) (by kernel_rfl) ?_;simp only[List.take_succ_cons,List.take_zero,List.drop_succ_cons,List.drop_zero]
 repeat still_step
 refine wpStill_nil ?_;have hle':¬((at_:Int)+(n:Int)<=(B.length:Int)):=by omega
 go_wp2_with (go_at_call 134;refine (hM _).mono ?_;rintro e w' ⟨rfl,hw⟩;obtain rfl:=hw.symm)
 exact⟨rfl,rfl,S2⟩
def valB(l:List UInt8):Nat:=l.foldl (fun n b=>n * 256+b.toNat) 0
theorem valB_snoc(l:List UInt8)(b:UInt8):valB (l++[b])=valB l * 256+b.toNat:=by unfold valB;rw[List.foldl_append];rfl
theorem or_add(n x:Nat)(hx:x < 256):(n * 256) ||| x=n * 256+x:=by
 have:=Nat.two_pow_add_eq_or_of_lt (i:=8) (b:=x) (by simpa using hx) n;rw[Nat.mul_comm n 256];simpa using this.symm
theorem bits_or_i64(a b:Nat)(ha:a < 65536)(hb:b < 256):bits .or .i64 ((a:Int) * 256) (b:Int)=((a * 256+b:Nat):Int):=by
 have e1:(BitVec.ofInt IntKind.i64.bits ((a:Int) * 256))=BitVec.ofNat 64 (a * 256):=by
  rw[show ((a:Int) * 256)=((a * 256:Nat):Int) by omega];exact BitVec.ofInt_natCast 64 (a * 256)
 have e2:(BitVec.ofInt IntKind.i64.bits (b:Int))=BitVec.ofNat 64 b:=BitVec.ofInt_natCast 64 b;have h1:bits .or .i64 ((a:Int) * 256) (b:Int)=IntKind.i64.wrap ((BitVec.ofNat 64 (a * 256) ||| BitVec.ofNat 64 b).toNat:Int):=by
  unfold bits;simp only[e1,e2];rfl
 rw[h1,BitVec.toNat_or,BitVec.toNat_ofNat,BitVec.toNat_ofNat,Nat.mod_eq_of_lt (by omega),Nat.mod_eq_of_lt (by omega),or_add a b hb];exact IntWalk.i64_in _ (by omega)
theorem valB_two(l:List UInt8)(h:l.length<=2):valB l < 65536:=by
 match l,h with
 | [],_=>simp[valB]
 | [a],_=>have:=a.toNat_lt;simp[valB];omega
 | [a,b],_=>have:=a.toNat_lt;have:=b.toNat_lt;simp[valB];omega
theorem valB_one(l:List UInt8)(h:l.length<=1):valB l < 256:=by
 match l,h with
 | [],_=>simp[valB]
 | [a],_=>have:=a.toNat_lt;simp[valB];omega
def numAt(B:List UInt8)(at_ n:Nat):Nat:=valB ((B.drop at_).take n)
theorem numAt_lt(B:List UInt8)(at_ n:Nat)(h:n<=2):numAt B at_ n < 65536:=valB_two _ (by rw[List.length_take];omega)
theorem number_in(w0 w:World)(a:Option Addr)(B:List UInt8)(rd at_ n:Nat)(low high:Int)(hB:BytesOld w0 a B)(h:RdAt w0 w a B rd at_)(hn:n=1\/n=2)(hle:at_+n<=B.length)(Q:Ending->World->Prop)
 (hok:low<=(numAt B at_ n:Int)/\(numAt B at_ n:Int)<=high->∀w',RdAt w0 w' a B rd (at_+n)->Same [rd] w w'->Q (.returned (.int .i64 (numAt B at_ n))) w')
 (hno:¬(low<=(numAt B at_ n:Int)/\(numAt B at_ n:Int)<=high)->∀w',Same [rd] w w'->Q (bad at_) w') :
 Calls Tryz.prog 130 #[.pointer (some ⟨rd,0,none⟩),.int .i64 n,.int .i64 low,.int .i64 high] w Q:=by
 have hne:B≠[]:=fun e=>by rw[e] at hle;simp at hle;omega
 obtain⟨b,off,ha,_,_⟩:=hB.ex hne;have hN:=next_ok w0 w a B rd at_ n b off hB h ha (by omega) hle;have hM:=fun W q=>must_ok q W
 have hMb:=fun W=>must_bad at_ W
 have c1:w.cell? ⟨rd,1,none⟩=some (.int .i64 at_):=h.cell.cell? 1;have hlt:∀k,k<=2->valB ((B.drop at_).take k) < 65536:=fun k hk=>valB_two _ (by rw[List.length_take];omega)
 have hlt1:∀k,k<=1->valB ((B.drop at_).take k) < 256:=fun k hk=>valB_one _ (by rw[List.length_take];omega)
 have HTK:Hid (∀k,k < n->(B.drop at_).take (k+1)=(B.drop at_).take k++[B[at_+k]!]):=fun k hk=>by
  rw[List.take_succ_eq_append_getElem (by rw[List.length_drop];omega),List.getElem_drop,getElem!_pos B _ (by omega)]
 have HC:Hid (∀i,i < B.length->∀W,Same [] w0 W->W.cell? ⟨b,off+i,none⟩=some (byteV B[i]!)):=fun i hi W hW=>by
  obtain⟨b',off',ha',_,hcc⟩:=hB.at hW hne;rw[ha] at ha';obtain⟨rfl,rfl⟩:b=b'/\off=off':=by simpa using ha'
  exact hcc i hi
 have HOK:Hid _:=hok;have HNO:Hid _:=hno;have HVD:Hid (numAt B at_ n=valB ((B.drop at_).take n)):=rfl;have hnv:=numAt_lt B at_ n (by omega);generalize numAt B at_ n=nv at *;generalize (B.drop at_)=D at *;unfold bad at hMb;clear hok hno h hne
 go_enter Tryz.func130,Tryz.ntmps130
 go_wp2_with (go_at_call 142;refine hN.mono ?_;rintro e w1 ⟨rfl,hR1,S1⟩)
 go_loopw [10,21] (fun x i wr=>∃k:Nat,k<=n/\i=.int .i64 k/\x=.int .i64 (valB (D.take k))/\wr=w1) (fun _ i _=>n - (intOf i).toNat)
 case atStart=>exact⟨0,Nat.zero_le _,rfl,rfl,rfl⟩
 case round=>
  obtain⟨k,hk,rfl,rfl,rfl⟩:=hrel;by_cases hkl:k < n
  ·have hcc:=HC.out (at_+k) (by omega) wr hR1.same;unfold byteV at hcc;have hs:=hlt1 k (by omega);have HS:Hid (valB (D.take (k+1))=valB (D.take k) * 256+(B[at_+k]!).toNat):=by show _=_;rw[HTK.out k hkl,valB_snoc]
   have hbt:=(B[at_+k]!).toNat_lt;rw[<-Nat.add_assoc] at hcc;generalize valB (D.take k)=m at *;generalize (B[at_+k]!).toNat=x at *;have hor:bits .or .i64 ((m:Int) * 256) (x:Int)=((m * 256+x:Nat):Int):=bits_or_i64 m x (by omega) (by omega);have l1:(k:Int) < (n:Int):=by omega
   go_wp2
   go_roundw
   case rel=>exact⟨k+1,by omega,by go_num,by rw[HS.out];first|rfl|(push_cast;rfl)|simp,by first|rfl|trivial⟩
   case measure=>simp[intOf];omega
  ·have ek:k=n:=by omega
   subst ek;have hE:valB (D.take k)=nv:=HVD.out.symm;rw[hE] at *;by_cases hr:low<=(nv:Int)/\(nv:Int)<=high
   ·obtain⟨r1,r2⟩:=hr;have HQ:=HOK.out ⟨r1,r2⟩ wr hR1 S1;clear hlt hlt1 hN hR1
    go_wp2_with (go_at_call 134;refine (hM _ _).mono ?_;rintro e w' ⟨rfl,hw⟩;obtain rfl:=hw.symm)
    first
     | exact HQ
     | (go_ret;exact HQ)
   ·have HQ:=HNO.out hr wr S1;unfold bad at HQ;clear hlt hlt1 hN hR1;by_cases r1:low<=(nv:Int)
    ·have r2:¬(nv:Int)<=high:=fun q=>hr ⟨r1,q⟩
     clear hr
     go_wp2_with (go_at_call 134;refine (hMb _).mono ?_;rintro e w' ⟨rfl,hw⟩;obtain rfl:=hw.symm)
     exact⟨rfl,HQ⟩
    ·clear hr
     go_wp2_with (go_at_call 134;refine (hMb _).mono ?_;rintro e w' ⟨rfl,hw⟩;obtain rfl:=hw.symm)
     exact⟨rfl,HQ⟩
theorem number_end(w0 w:World)(a:Option Addr)(B:List UInt8)(rd at_ n:Nat)(low high:Int)(hB:BytesOld w0 a B)(h:RdAt w0 w a B rd at_)(hn:n=1\/n=2)(hle:B.length < at_+n) :
 Calls Tryz.prog 130 #[.pointer (some ⟨rd,0,none⟩),.int .i64 n,.int .i64 low,.int .i64 high] w fun e w'=>e=bad B.length/\Same [] w w':=by
 have hN:=next_bad w0 w a B rd at_ n hB h (by omega) hle;have c1:w.cell? ⟨rd,1,none⟩=some (.int .i64 at_):=h.cell.cell? 1;unfold bad at *;clear h
 go_enter Tryz.func130,Tryz.ntmps130
 go_wp2_with (go_at_call 142;refine hN.mono ?_;rintro e w1 ⟨rfl,S1⟩)
 exact⟨rfl,rfl,S1⟩
def rnum(B:List UInt8)(n low high at_:Nat):Except Nat (Nat×Nat):=
 if at_+n<=B.length then (if low<=numAt B at_ n/\numAt B at_ n<=high then .ok (numAt B at_ n,at_+n) else .error at_) else .error B.length
def textAt(B:List UInt8)(at_ n:Nat):ByteArray:=⟨((B.drop at_).take n).toArray⟩
def rname(B:List UInt8)(ahead:ByteArray)(at_:Nat):Except Nat (ByteArray×Nat):=
 match rnum B 1 1 10 at_ with
 | .error q=>.error q
 | .ok (n,at1)=>
  if at1+n<=B.length then (if nameB (textAt B at1 n)=true/\cmpB ahead (textAt B at1 n) < 0 then .ok (textAt B at1 n,at1+n) else .error at1) else .error B.length
def rnums(B:List UInt8)(bound:Nat):Nat->List Nat->List Nat->Nat->Except Nat (List Nat×Nat)
 | 0,_,acc,at_=>.ok (acc,at_)
 | c+1,seen,acc,at_=>
  match rnum B 2 0 (bound - 1) at_ with
  | .error q=>.error q
  | .ok (k,at1)=>if k∈seen++acc then .error at_ else rnums B bound c seen (acc++[k]) at1
structure PEnt where
 name:ByteArray
 kind:Nat
 size:Nat
 origin:Nat
 originAt:Nat
 xs:List Nat
 kept:List Nat
def rpic(B:List UInt8)(count bound:Nat)(used:List Nat)(name:ByteArray)(kind size at_:Nat):Except Nat (PEnt×Nat):=
 match rnum B 1 0 (count - 1) at_ with
 | .error q=>.error q
 | .ok (origin,at1)=>
  match rnum B 2 1 size at1 with
  | .error q=>.error q
  | .ok (c,at2)=>
   match rnums B bound c used [] at2 with
   | .error q=>.error q
   | .ok (xs,at3)=>
    match rnum B 2 0 (if kind=2 then 0 else xs.length) at3 with
    | .error q=>.error q
    | .ok (k,at4)=>
     match rnums B size k [] [] at4 with
     | .error q=>.error q
     | .ok (kept,at5)=>.ok (⟨name,kind,size,origin,at_,xs,kept⟩,at5)
def rvol(B:List UInt8)(bound:Nat)(used:List Nat)(name:ByteArray)(size at_:Nat):Except Nat (PEnt×Nat):=
 match rnum B 2 size size at_ with
 | .error q=>.error q
 | .ok (c,at1)=>
  match rnums B bound c used [] at1 with
  | .error q=>.error q
  | .ok (xs,at2)=>.ok (⟨name,0,size,0,0,xs,[]⟩,at2)
def rentry(B:List UInt8)(count bound:Nat)(used:List Nat)(ahead:ByteArray)(at_:Nat):Except Nat (PEnt×Nat):=
 match rname B ahead at_ with
 | .error q=>.error q
 | .ok (name,at1)=>
  match rnum B 1 0 2 at1 with
  | .error q=>.error q
  | .ok (kind,at2)=>
   match rnum B 2 1 200 at2 with
   | .error q=>.error q
   | .ok (size,at3)=>if kind=0 then rvol B bound used name size at3 else rpic B count bound used name kind size at3
def rents(B:List UInt8)(count bound:Nat):Nat->List PEnt->Nat->Except Nat (List PEnt×Nat)
 | 0,acc,at_=>.ok (acc,at_)
 | c+1,acc,at_=>
  match rentry B count bound (acc.flatMap (·.xs)) ((acc.getLast?.map (·.name)).getD ⟨#[]⟩) at_ with
  | .error q=>.error q
  | .ok (p,at1)=>rents B count bound c (acc++[p]) at1
def Reads{α:Type}(w0:World)(a:Option Addr)(B:List UInt8)(rd:Nat)(spec:Except Nat (α×Nat))(P:α->Value->World->Prop):Ending->World->Prop:=fun e w'=>
 match spec with
 | .ok (x,at1)=>∃v,e=.returned v/\RdAt w0 w' a B rd at1/\P x v w'
 | .error q=>e=bad q/\Same [] w0 w'
theorem rnum_ok{B:List UInt8}{n low high at_ x at1:Nat}(h:rnum B n low high at_=.ok (x,at1)):at_+n<=B.length/\low<=x/\x<=high/\x=numAt B at_ n/\at1=at_+n:=by
 unfold rnum at h;by_cases h1:at_+n<=B.length
 ·rw[if_pos h1] at h;by_cases h2:low<=numAt B at_ n/\numAt B at_ n<=high
  ·rw[if_pos h2] at h;simp only[Except.ok.injEq,Prod.mk.injEq] at h;obtain⟨rfl,rfl⟩:=h;exact⟨h1,h2.1,h2.2,rfl,rfl⟩
  ·rw[if_neg h2] at h;cases h
 ·rw[if_neg h1] at h;cases h
theorem number_calls(w0 w:World)(a:Option Addr)(B:List UInt8)(rd at_ n low high:Nat)(hB:BytesOld w0 a B)(h:RdAt w0 w a B rd at_)(hn:n=1\/n=2) :
 Calls Tryz.prog 130 #[.pointer (some ⟨rd,0,none⟩),.int .i64 n,.int .i64 low,.int .i64 high] w (Reads w0 a B rd (rnum B n low high at_) fun x v w'=>v=.int .i64 x/\Same [rd] w w'):=by
 have hnew:=h.new;have old:∀w',Same [rd] w w'->Same [] w0 w':=fun w' hs=>h.same.step hs (fun k hk hl=>by simp at hk;omega)
 by_cases hle:at_+n<=B.length
 ·refine number_in w0 w a B rd at_ n low high hB h hn hle _ (fun hr w' hR hS=>?_) (fun hr w' hS=>?_)
  ·have e:rnum B n low high at_=.ok (numAt B at_ n,at_+n):=by unfold rnum;rw[if_pos hle,if_pos (by omega)]
   unfold Reads;rw[e];exact⟨_,rfl,hR,rfl,hS⟩
  ·have e:rnum B n low high at_=.error at_:=by unfold rnum;rw[if_pos hle,if_neg (by omega)]
   unfold Reads;rw[e];exact⟨rfl,old w' hS⟩
 ·refine (number_end w0 w a B rd at_ n low high hB h hn (by omega)).mono fun e w' ⟨h1,h2⟩=>?_
  have e2:rnum B n low high at_=.error B.length:=by unfold rnum;rw[if_neg hle]
  unfold Reads;rw[e2];exact⟨h1,h.same.step h2 (by simp)⟩
theorem number_got(w0 w:World)(a:Option Addr)(B:List UInt8)(rd at_ n low high x at1:Nat)(nI lowI highI:Int)(hB:BytesOld w0 a B)(h:RdAt w0 w a B rd at_)(hn:n=1\/n=2)(hs:rnum B n low high at_=.ok (x,at1))(e1:nI=n)(e2:lowI=low)(e3:highI=high) :
 Calls Tryz.prog 130 #[.pointer (some ⟨rd,0,none⟩),.int .i64 nI,.int .i64 lowI,.int .i64 highI] w fun e w'=>e=.returned (.int .i64 x)/\RdAt w0 w' a B rd at1/\Same [rd] w w':=by
 subst e1 e2 e3;have:=number_calls w0 w a B rd at_ n low high hB h hn;rw[hs] at this;exact this.mono fun e w' ⟨v,h1,h2,h3,h4⟩=>⟨by rw[h1,h3],h2,h4⟩
theorem number_gave(w0 w:World)(a:Option Addr)(B:List UInt8)(rd at_ n low high q:Nat)(nI lowI highI:Int)(hB:BytesOld w0 a B)(h:RdAt w0 w a B rd at_)(hn:n=1\/n=2)(hs:rnum B n low high at_=.error q)(e1:nI=n)(e2:lowI=low)(e3:highI=high) :
 Calls Tryz.prog 130 #[.pointer (some ⟨rd,0,none⟩),.int .i64 nI,.int .i64 lowI,.int .i64 highI] w fun e w'=>e=bad q/\Same [] w0 w':=by
 subst e1 e2 e3;have:=number_calls w0 w a B rd at_ n low high hB h hn;rw[hs] at this;exact this.mono fun e w' ⟨h1,h2⟩=>⟨h1,h2⟩
theorem lessL:∀(a b:List UInt8),Op.bytesLess a b=decide (Lib.compareBytes a b < 0)
 | [],[]=>by simp[Op.bytesLess,Lib.compareBytes]
 | [],_ :: _=>by simp[Op.bytesLess,Lib.compareBytes]
 | _ :: _,[]=>by simp[Op.bytesLess,Lib.compareBytes]
 | x :: a,y :: b=>by
  have ih:=lessL a b;unfold Op.bytesLess Lib.compareBytes;by_cases hxy:x < y
  ·simp[hxy]
  ·by_cases hyx:y < x
   ·have hne:¬x=y:=fun e=>by subst e;exact UInt8.lt_irrefl _ hyx
    simp[hxy,hyx,hne]
   ·have e:x=y:=UInt8.le_antisymm (UInt8.not_lt.1 hyx) (UInt8.not_lt.1 hxy);subst e;simp[UInt8.lt_irrefl,ih]
theorem greater(t u:ByteArray):(!Op.bytesLess t.toList u.toList && !t.toList == u.toList)=decide (cmpB u t < 0):=by
 have h1:Op.bytesLess t.toList u.toList=decide (cmpB t u < 0):=by
  rw[ByteArray.toList_eq,ByteArray.toList_eq];exact lessL _ _
 have h2:(t.toList == u.toList)=decide (cmpB t u=0):=by
  rw[Bool.eq_iff_iff,beq_iff_eq,decide_eq_true_iff,cmpB_zero,ByteArray.toList_eq,ByteArray.toList_eq]
  constructor
  ·intro e;have e2:t.data=u.data:=by
    have:=congrArg List.toArray e;simpa using this
   exact ByteArray.ext e2
  ·intro e;rw[e]
 have h3:=cmpB_neg t u;rw[h1,h2,Bool.eq_iff_iff];simp only[Bool.and_eq_true,Bool.not_eq_true',decide_eq_false_iff_not,decide_eq_true_eq];omega
theorem text_conv(w:World)(b off n:Nat)(l:List UInt8)(hl:l.length=n)(hc:∀i,i < n->w.cell? ⟨b,off+i,none⟩=some (byteV l[i]!))(c:Nat) :
 Sem.run Tryz.prog (convert 41 9 (.slice (some ⟨b,off,none⟩) n c)) w=.ok (.string ⟨l.toArray⟩) w:=by
 subst hl;refine run_convert_bytes_back w 41 9 5 ⟨b,off,none⟩ c l Tryz.underlying41 Tryz.underlying5 Tryz.underlying9 fun j hj=>?_
 rw[Addr.add_lit,hc j hj,getElem!_pos l j hj];rfl
theorem name_calls(w0 w:World)(a:Option Addr)(B:List UInt8)(rd at_:Nat)(ahead:ByteArray)(hB:BytesOld w0 a B)(h:RdAt w0 w a B rd at_) :
 Calls Tryz.prog 147 #[.pointer (some ⟨rd,0,none⟩),.string ahead] w (Reads w0 a B rd (rname B ahead at_) fun x v w'=>v=.string x/\Same [rd] w w'):=by
 have hnew:=h.new;have HOLD:Hid (∀w',Same [rd] w w'->Same [] w0 w'):=fun w' hs=>h.same.step hs (fun k hk hl=>by simp at hk;omega)
 unfold rname;cases hs:rnum B 1 1 10 at_ with
 | error q=>
  have hN:=number_gave w0 w a B rd at_ 1 1 10 q 1 1 10 hB h (by omega) hs rfl rfl rfl;clear h
  go_enter Tryz.func147,Tryz.ntmps147
  go_wp2_with (go_at_call 130;refine hN.mono ?_;rintro e w1 ⟨rfl,S1⟩;unfold bad)
  exact⟨rfl,rfl,S1⟩
 | ok p=>
  obtain⟨n,at1⟩:=p;have hN:=number_got w0 w a B rd at_ 1 1 10 n at1 1 1 10 hB h (by omega) hs rfl rfl rfl;have q2:=(rnum_ok hs).2.1;have q3:=(rnum_ok hs).2.2.1;simp only;clear h hs;by_cases hle:at1+n<=B.length
  ·rw[if_pos hle];have hne:B≠[]:=fun e=>by rw[e] at hle;simp at hle;omega
   obtain⟨b,off,ha,_,_⟩:=hB.ex hne;have HNX:Hid (∀W,RdAt w0 W a B rd at1->Calls Tryz.prog 142 #[.pointer (some ⟨rd,0,none⟩),.int .i64 n] W fun e w'=>e=.returned (.slice (some ⟨b,off+at1,none⟩) n n)/\RdAt w0 w' a B rd (at1+n)/\Same [rd] W w'):=fun W hW=>next_ok w0 W a B rd at1 n b off hB hW ha q2 hle
   have HTX:Hid (∀W,Same [] w0 W->Sem.run Tryz.prog (convert 41 9 (.slice (some ⟨b,off+at1,none⟩) n n)) W=.ok (.string (textAt B at1 n)) W):=fun W hW=>by
    obtain⟨b',off',ha',_,hcc⟩:=hB.at hW hne;rw[ha] at ha';obtain⟨rfl,rfl⟩:b=b'/\off=off':=by simpa using ha'
    refine text_conv W b (off+at1) n ((B.drop at1).take n) (by rw[List.length_take,List.length_drop];omega) (fun i hi=>?_) n;rw[Nat.add_assoc,hcc (at1+i) (by omega),getElem!_pos B _ (by omega),getElem!_pos _ i (by rw[List.length_take,List.length_drop];omega)];simp
   have hts:(textAt B at1 n).size<=maxLen:=by
    have:(textAt B at1 n).size=((B.drop at1).take n).length:=by simp[textAt,ByteArray.size]
    rw[this,List.length_take];unfold maxLen;omega
   generalize textAt B at1 n=t at *;have hIN:=fun W=>isName_calls t W hts
   have hM:=fun W q=>must_ok q W
   have hMb:=fun W=>must_bad at1 W
   have hlt:(!Op.bytesLess t.toList ahead.toList && !t.toList == ahead.toList)=decide (cmpB ahead t < 0):=greater t ahead;by_cases hnm:nameB t=true/\cmpB ahead t < 0
   ·rw[if_pos hnm];obtain⟨n1,n2⟩:=hnm;rw[n1] at hIN;rw[decide_eq_true n2] at hlt
    go_enter Tryz.func147,Tryz.ntmps147
    go_wp2_with (first|(go_at_call 130;refine hN.mono ?_;rintro e w1 ⟨rfl,hR1,S1⟩;have c1:w1.cell? ⟨rd,1,none⟩=some (.int .i64 at1):=hR1.cell.cell? 1;have hX1:=HNX.out w1 hR1)|(go_at_call 142;refine hX1.mono ?_;rintro e w2 ⟨rfl,hR2,S2⟩;have hcv:=HTX.out w2 hR2.same)|(go_at_call 117;refine (hIN _).mono ?_;rintro e w' ⟨rfl,hw⟩;obtain rfl:=hw.symm)|(go_at_call 134;refine (hM _ _).mono ?_;rintro e w' ⟨rfl,hw⟩;obtain rfl:=hw.symm))
    go_ret
    exact⟨_,rfl,hR2,rfl,S1.step S2 (by simp)⟩
   ·rw[if_neg hnm];unfold bad at hMb;by_cases n1:nameB t=true
    ·have n2:¬cmpB ahead t < 0:=fun q=>hnm ⟨n1,q⟩
     rw[n1] at hIN;rw[decide_eq_false n2] at hlt;clear hnm
     go_enter Tryz.func147,Tryz.ntmps147
     go_wp2_with (first|(go_at_call 130;refine hN.mono ?_;rintro e w1 ⟨rfl,hR1,S1⟩;have c1:w1.cell? ⟨rd,1,none⟩=some (.int .i64 at1):=hR1.cell.cell? 1;have hX1:=HNX.out w1 hR1)|(go_at_call 142;refine hX1.mono ?_;rintro e w2 ⟨rfl,hR2,S2⟩;have hcv:=HTX.out w2 hR2.same)|(go_at_call 117;refine (hIN _).mono ?_;rintro e w' ⟨rfl,hw⟩;obtain rfl:=hw.symm)|(go_at_call 134;refine (hMb _).mono ?_;rintro e w' ⟨rfl,hw⟩;obtain rfl:=hw.symm))
     exact⟨rfl,rfl,hR2.same⟩
    ·have n1':nameB t=false:=by simpa using n1
     rw[n1'] at hIN;clear hnm
     go_enter Tryz.func147,Tryz.ntmps147
     go_wp2_with (first|(go_at_call 130;refine hN.mono ?_;rintro e w1 ⟨rfl,hR1,S1⟩;have c1:w1.cell? ⟨rd,1,none⟩=some (.int .i64 at1):=hR1.cell.cell? 1;have hX1:=HNX.out w1 hR1)|(go_at_call 142;refine hX1.mono ?_;rintro e w2 ⟨rfl,hR2,S2⟩;have hcv:=HTX.out w2 hR2.same)|(go_at_call 117;refine (hIN _).mono ?_;rintro e w' ⟨rfl,hw⟩;obtain rfl:=hw.symm)|(go_at_call 134;refine (hMb _).mono ?_;rintro e w' ⟨rfl,hw⟩;obtain rfl:=hw.symm))
     exact⟨rfl,rfl,hR2.same⟩
  ·rw[if_neg hle];have HNX:Hid (∀W,RdAt w0 W a B rd at1->Calls Tryz.prog 142 #[.pointer (some ⟨rd,0,none⟩),.int .i64 n] W fun e w'=>e=bad B.length/\Same [] W w'):=fun W hW=>next_bad w0 W a B rd at1 n hB hW (by omega) (by omega)
   go_enter Tryz.func147,Tryz.ntmps147
   go_wp2_with (first|(go_at_call 130;refine hN.mono ?_;rintro e w1 ⟨rfl,hR1,S1⟩;have c1:w1.cell? ⟨rd,1,none⟩=some (.int .i64 at1):=hR1.cell.cell? 1;have hX1:=HNX.out w1 hR1)|(go_at_call 142;refine hX1.mono ?_;rintro e w2 ⟨rfl,S2⟩;unfold bad))
   exact⟨rfl,rfl,hR1.same.step S2 (by simp)⟩
end
section
open Go.RowKit Go.Sort
variable [DecidableEq Blk] [Inhabited Blk] [Inhabited Vol] [Inhabited RVol]
theorem refSum_calls(w:World)(t:ByteArray)(hl:t.size<=140737488355328) :
 Calls Tryz.prog 75 #[.string t] w fun e w'=>e=.returned (.int .i64 (sumB t.data.toList:Nat))/\w'=w:=by
 have HSZ:Hid (t.size=t.data.toList.length):=by show _=_;rw[Array.length_toList];rfl
 go_enter Tryz.func75,Tryz.ntmps75
 go_wp2
 go_loopw [3,4] (fun n i wr=>∃k:Nat,k<=t.size/\i=.int .i64 k/\n=.int .i64 (sumB (t.data.toList.take k):Nat)/\wr=w) (fun _ i _=>t.size - (intOf i).toNat)
 case atStart=>exact⟨0,Nat.zero_le _,rfl,rfl,rfl⟩
 case round=>
  obtain⟨k,hk,rfl,rfl,rfl⟩:=hrel;by_cases hkl:k < t.size
  ·have HS:Hid (sumB (t.data.toList.take (k+1))=(sumB (t.data.toList.take k) * 31+t[k].toNat) % 65521):=by show _=_;rw[take_snoc t k hkl,sumB_snoc]
   have hlt:=sumB_lt (t.data.toList.take k);have hbt:t[k].toNat < 256:=t[k].toNat_lt;generalize sumB (t.data.toList.take k)=m at *;have l1:(k:Int) < (t.size:Int):=by omega
   have hw1:IntKind.i64.wrap (31 * (m:Int))=31 * (m:Int):=IntWalk.i64_in _ (by omega);have hw2:IntKind.i64.wrap (31 * (m:Int)+(t[k].toNat:Int))=31 * (m:Int)+(t[k].toNat:Int):=IntWalk.i64_in _ (by omega);have hx1:(31 * (m:Int)+(t[k].toNat:Int)).tmod 65521=(((m * 31+t[k].toNat) % 65521:Nat):Int):=by
    rw[Int.tmod_eq_emod_of_nonneg (by omega)];omega
   go_wp2
   go_roundw
   case rel=>exact⟨k+1,by omega,by go_num,by rw[HS.out];first|rfl|(simp;done)|(congr 1;omega),by first|rfl|trivial⟩
   case measure=>simp[intOf];omega
  ·have ek:k=t.size:=by omega
   have HE:Hid (sumB (t.data.toList.take k)=sumB t.data.toList):=by show _=_;rw[ek,HSZ.out,List.take_length]
   have l1:(t.size:Int)<=(k:Int):=by omega
   clear ek
   go_wp2
   go_ret
   rw[HE.out];exact⟨rfl,rfl⟩
theorem refTwo_calls(w:World)(n:Nat)(hn:n < 65536) :
 Calls Tryz.prog 71 #[.int .i64 n] w fun e w'=>e=.returned (.string ⟨(two n).toArray⟩)/\Same [] w w':=by
 have hT:=text_conv (w.alloc (.cells #[.int .u8 ((n:Int) / 256 % 256),.int .u8 ((n:Int) % 256)] 5)) w.heap.size 0 2 (two n) (two_length n) (fun i hi=>by
  have hA:=At.new w #[.int .u8 ((n:Int) / 256 % 256),.int .u8 ((n:Int) % 256)] 5;rw[Nat.zero_add,hA.cell?];unfold two byteV
  match i,hi with
  | 0,_=>simp
  | 1,_=>simp) 2
 go_enter Tryz.func71,Tryz.ntmps71
 go_wp2
 go_ret
 exact⟨rfl,(Same.refl _ _).alloc _⟩
def RVol.pick(v:RVol)(n k:Nat):Option ByteArray:=if v.blocks[k]! = n then (if v.of_=⟨#[]⟩ then some v.data[k]! else if k < v.kept.length then some v.data[v.kept[k]!]! else none) else none
def RVol.blk(v:RVol)(n:Nat):Option ByteArray:=(List.range v.blocks.length).findSome? (v.pick n)
def RSt.blk(s:RSt)(n:Nat):ByteArray:=(s.vols.findSome? (·.blk n)).getD zero8
theorem findSome_first{α β:Type}[Inhabited α]{l:List α}{f:α->Option β}{t:β}(i:Nat)(hi:i < l.length)(h0:∀x∈l.take i,f x=none)(h1:f l[i]! = some t):l.findSome? f=some t:=by
 rw[getElem!_pos l i hi] at h1;have e:l.findSome? f=(l.take i++l.drop i).findSome? f:=by rw[List.take_append_drop]
 rw[e,List.findSome?_append,List.findSome?_eq_none_iff.2 h0,Option.none_or,List.drop_eq_getElem_cons hi,List.findSome?_cons,h1]
theorem blk_first{v:RVol}{n:Nat}{t:ByteArray}(j:Nat)(hj:j < v.blocks.length)(h0:∀k,k < j->v.pick n k=none)(h1:v.pick n j=some t):v.blk n=some t:=by
 unfold RVol.blk;refine findSome_first j (by simpa using hj) (fun x hx=>h0 x ?_) ?_
 ·rw[List.take_range] at hx;have:=List.mem_range.1 hx;omega
 ·rw[getElem!_pos _ j (by simpa using hj),List.getElem_range];exact h1
theorem blk_none{v:RVol}{n:Nat}(h0:∀k,k < v.blocks.length->v.pick n k=none):v.blk n=none:=by
 unfold RVol.blk;exact List.findSome?_eq_none_iff.2 (fun x hx=>h0 x (List.mem_range.1 hx))
theorem refBlock_calls(s:RSt)(n:Nat)(w:World)(h:RefAt w s)(hd:∀v∈s.vols,(v.of_=⟨#[]⟩->v.blocks.length<=v.data.length)/\(v.of_≠⟨#[]⟩->∀x∈v.kept,x < v.data.length)) :
 Calls Tryz.prog 74 #[.pointer (some ⟨s.rb,0,none⟩),.int .i64 n] w fun e w'=>e=.returned (.string (s.blk n))/\Same [] w w':=by
 obtain⟨cap,hp,h1,h2⟩:=h.pool;have c1:w.cell? ⟨s.rb,1,none⟩=some (.slice (s.lg.map fun b=>⟨b,0,none⟩) s.vols.length cap):=hp.cell? 1;have hfew:=h.few;have HRES:Hid (∀k t,k < s.vols.length->(∀v∈s.vols.take k,v.blk n=none)->(s.vols[k]!).blk n=some t->s.blk n=t):=fun k t hk h0 h1=>by
  unfold RSt.blk;rw[findSome_first k hk h0 h1];rfl
 have HNO:Hid ((∀v∈s.vols,v.blk n=none)->s.blk n=zero8):=fun h0=>by
  unfold RSt.blk;rw[List.findSome?_eq_none_iff.2 h0];rfl
 generalize s.blk n=res at *
 go_enter Tryz.func74,Tryz.ntmps74
 go_wp2
 go_loopw [5] (fun i wr=>∃k:Nat,k<=s.vols.length/\i=.int .i64 k/\wr=w/\Hid (∀v∈s.vols.take k,v.blk n=none)) (fun i _=>s.vols.length - (intOf i).toNat)
 case atStart=>exact⟨0,Nat.zero_le _,rfl,rfl,by show ∀v∈_,_;simp⟩
 case round=>
  obtain⟨k,hk,rfl,rfl,HN⟩:=hrel;by_cases hkl:k < s.vols.length
  ·obtain⟨b,hb,e1,hm⟩:=h.cell k hkl;have hvv:=h.vols _ hm;obtain⟨hd1,hd2⟩:=hd _ hm;obtain⟨dc,bc,kc,hv,hdt,hbl,hk1,hk2⟩:=hvv.ex;have hbs:=hvv.blocks;have hks:=hvv.kept;have HV:Hid (∀t,(s.vols[k]!).blk n=some t->res=t):=fun t ht=>HRES.out k t hkl HN.out ht
   have e0:wr.cell? ⟨(s.vols[k]!).vb,1,none⟩=some (.string (s.vols[k]!).of_):=hv.cell? 1;have e2:wr.cell? ⟨(s.vols[k]!).vb,2,none⟩=some (.slice (some ⟨(s.vols[k]!).dg,0,none⟩) (s.vols[k]!).data.length dc):=hv.cell? 2;have e3:wr.cell? ⟨(s.vols[k]!).vb,3,none⟩=some (.slice (some ⟨(s.vols[k]!).bg,0,none⟩) (s.vols[k]!).blocks.length bc):=hv.cell? 3;have e4:wr.cell? ⟨(s.vols[k]!).vb,4,none⟩=some (.slice ((s.vols[k]!).kg.map fun g=>⟨g,0,none⟩) (s.vols[k]!).kept.length kc):=hv.cell? 4;have hb':(s.lg.map fun b=>(⟨b,0,none⟩:Addr))=some ⟨b,0,none⟩:=by rw[hb];rfl
   rw[hb'] at c1;have HT:Hid (s.vols.take (k+1)=s.vols.take k++[s.vols[k]!]):=by show _=_;rw[List.take_succ_eq_append_getElem hkl,getElem!_pos s.vols k hkl]
   have HDC:Hid (∀i,i < (s.vols[k]!).data.length->wr.cell? ⟨(s.vols[k]!).dg,i,none⟩=some (.string (s.vols[k]!).data[i]!)):=fun i hi=>hdt.cell i hi
   have HBC:Hid (∀i,i < (s.vols[k]!).blocks.length->wr.cell? ⟨(s.vols[k]!).bg,i,none⟩=some (.int .i64 ((s.vols[k]!).blocks[i]!:Nat))):=fun i hi=>hbl.cell i hi
   have HKC:Hid (∀i,i < (s.vols[k]!).kept.length->∃g,(s.vols[k]!).kg=some g/\wr.cell? ⟨g,i,none⟩=some (.int .i64 ((s.vols[k]!).kept[i]!:Nat))):=fun i hi=>by
    cases hg:(s.vols[k]!).kg with
    | none=>have:=(hk1 hg).1;rw[this] at hi;simp at hi
    | some g=>exact⟨g,rfl,(hk2 g hg).cell i hi⟩
   have HD1:Hid ((s.vols[k]!).of_=⟨#[]⟩->(s.vols[k]!).blocks.length<=(s.vols[k]!).data.length):=hd1;have HD2:Hid ((s.vols[k]!).of_≠⟨#[]⟩->∀x∈(s.vols[k]!).kept,x < (s.vols[k]!).data.length):=hd2;have hds:=hvv.data;generalize s.vols[k]! = vv at *;have l1:(k:Int) < (s.vols.length:Int):=by omega
   clear h hv hp hm hb' hb hvv hdt hbl hk1 hk2 hd1 hd2 HRES
   go_wp2_with fail
   go_loop [7] (fun i=>∃j:Nat,j<=vv.blocks.length/\i=.int .i64 j/\Hid (∀k',k' < j->vv.pick n k'=none)) (fun i=>vv.blocks.length - (intOf i).toNat)
   case atStart=>exact⟨0,Nat.zero_le _,rfl,by show ∀k',_;intro k' hk';omega⟩
   case round=>
    obtain⟨j,hj,rfl,HJ⟩:=hrel;by_cases hjl:j < vv.blocks.length
    ·have cj:=HBC.out j hjl;have HPJ:Hid (∀t,vv.pick n j=some t->res=t):=fun t ht=>HV.out t (blk_first j hjl HJ.out ht)
     have HPE:Hid (vv.pick n j=if vv.blocks[j]! = n then (if vv.of_=⟨#[]⟩ then some vv.data[j]! else if j < vv.kept.length then some vv.data[vv.kept[j]!]! else none) else none):=rfl;generalize vv.blocks[j]! = y at *;have l2:(j:Int) < (vv.blocks.length:Int):=by omega
     by_cases hy:y=n
     ·subst hy;by_cases hof:vv.of_=⟨#[]⟩
      ·have cd:=HDC.out j (by have:=HD1.out hof;omega);have l3:(j:Int) < (vv.data.length:Int):=by have:=HD1.out hof;omega
       have HF:Hid (res=vv.data[j]!):=HPJ.out _ (by rw[HPE.out,if_pos rfl,if_pos hof]);generalize vv.data[j]! = dt at *;rw[hof] at e0
       go_wp2
       go_ret
       rw[HF.out];exact⟨rfl,Same.refl _ _⟩
      ·have hofb:vv.of_.toList.isEmpty=false:=by
        have:vv.of_.toList≠[]:=fun e=>hof (by
         rw[ByteArray.toList_eq] at e;apply ByteArray.ext;exact Array.toList_eq_nil_iff.1 e)
        cases hq:vv.of_.toList with
        | nil=>exact absurd hq this
        | cons a r=>rfl
       by_cases hkl2:j < vv.kept.length
       ·obtain⟨g,hg,ck⟩:=HKC.out j hkl2;rw[hg] at e4;simp only[Option.map_some] at e4;have hlt:vv.kept[j]! < vv.data.length:=HD2.out hof _ (by rw[getElem!_pos vv.kept j hkl2];exact List.getElem_mem hkl2);have cd:=HDC.out _ hlt;have l3:(j:Int) < (vv.kept.length:Int):=by omega
        have HF:Hid (res=vv.data[vv.kept[j]!]!):=HPJ.out _ (by rw[HPE.out,if_pos rfl,if_neg hof,if_pos hkl2]);generalize vv.kept[j]! = kj at *;generalize vv.data[kj]! = dt at *;have l4:(kj:Int) < (vv.data.length:Int):=by omega
        go_wp2_with fail
        go_quiet (fail)
        go_wp2
        go_ret
        rw[HF.out];exact⟨rfl,(Same.refl _ _).drewN _⟩
       ·have l3:(vv.kept.length:Int)<=(j:Int):=by omega
        have HF:Hid (vv.pick y j=none):=by show _=_;rw[HPE.out,if_pos rfl,if_neg hof,if_neg hkl2]
        go_wp2
        go_round
        case rel=>exact⟨j+1,by omega,by go_num,by
         show ∀k',_;intro k' hk';rcases Nat.lt_or_ge k' j with h'|h'
         ·exact HJ.out k' h'
         ·have:k'=j:=by omega
          subst this;exact HF.out⟩
        case measure=>simp[intOf];omega
     ·have hy':((y:Int) != (n:Int))=true:=by simp;omega
      have hy2:((y:Int) == (n:Int))=false:=beq_eq_false_iff_ne.2 (by omega);have HF:Hid (vv.pick n j=none):=by show _=_;rw[HPE.out,if_neg hy]
      go_wp2
      go_round
      case rel=>exact⟨j+1,by omega,by go_num,by
       show ∀k',_;intro k' hk';rcases Nat.lt_or_ge k' j with h'|h'
       ·exact HJ.out k' h'
       ·have:k'=j:=by omega
        subst this;exact HF.out⟩
      case measure=>simp[intOf];omega
    ·have ej:j=vv.blocks.length:=by omega
     have HB:Hid (vv.blk n=none):=blk_none (fun k' hk'=>HJ.out k' (by omega));clear HJ
     go_wp2_with fail
     go_roundw
     case rel=>exact⟨k+1,by omega,by go_num,by first|rfl|trivial,by
      show ∀v∈_,_;rw[HT.out];intro v hv;rcases List.mem_append.1 hv with hv|hv
      ·exact HN.out v hv
      ·simp at hv;subst hv;exact HB.out⟩
     case measure=>simp[intOf];omega
  ·have ek:k=s.vols.length:=by omega
   subst ek;have HF:Hid (res=zero8):=HNO.out (fun v hv=>HN.out v (by rw[List.take_length];exact hv));clear HN h hp
   go_wp2
   go_ret
   rw[HF.out];exact⟨rfl,Same.refl _ _⟩
def RVol.kindR(v:RVol):Nat:=if v.of_=⟨#[]⟩ then 0 else if v.lost then 2 else 1
def rheadB(v:RVol):List UInt8:=[UInt8.ofNat v.name.size]++v.name.data.toList++[UInt8.ofNat v.kindR]++two v.data.length
def rentB(r:RSt)(v:RVol):List UInt8:=rheadB v++(if v.of_=⟨#[]⟩ then nums v.blocks else [UInt8.ofNat (posOf (r.vols.map (·.name)) v.of_)]++nums v.blocks++nums v.kept)
def rbodyB(r:RSt):List UInt8:=markB++two r.n++[UInt8.ofNat r.vols.length]++r.vols.flatMap (rentB r)++(List.range r.n).flatMap fun k=>(r.blk k).data.toList
theorem rel_of{w:World}{s:St}{fr:List Nat}{r:RSt}(h:TwoAt w s fr r){i:Nat}(hi:i < s.vols.length):((r.vols[i]!).of_=⟨#[]⟩↔(s.vols[i]!).org=none):=by
 have hm:s.vols[i]!∈s.vols:=by rw[getElem!_pos s.vols i hi];exact List.getElem_mem hi
 have hv:=h.rel.each i hi;rw[hv.of_];by_cases ho:(s.vols[i]!).org=none
 ·rw[if_pos ho];exact⟨fun _=>ho,fun _=>rfl⟩
 ·rw[if_neg ho];refine⟨fun e=>?_,fun e=>absurd e ho⟩
  exfalso
  have h1:=h.good.names _ (h.pool.orgOf hm).1;rw[e] at h1;have h2:nameB ⟨#[]⟩=false:=rfl;rw[h2] at h1;cases h1
theorem rent_eq{w:World}{s:St}{fr:List Nat}{r:RSt}(h:TwoAt w s fr r){i:Nat}(hi:i < s.vols.length):rentB r (r.vols[i]!)=entryB s (s.vols[i]!):=by
 have hm:s.vols[i]!∈s.vols:=by rw[getElem!_pos s.vols i hi];exact List.getElem_mem hi
 have hv:=h.rel.each i hi;have hof:=rel_of h hi;have hp:=(h.pool.vols _ hm).plain;unfold rentB entryB rheadB headB;rw[hv.name,hv.size,hv.blocks,hv.kept,h.rel.names];by_cases ho:(s.vols[i]!).org=none
 ·have e:(r.vols[i]!).kindR=(s.vols[i]!).kindN:=by
   unfold RVol.kindR Vol.kindN;rw[if_pos (hof.2 ho),(hp ho).2,ho];rfl
  rw[if_pos (hof.2 ho),e,ho]
 ·have hne:(r.vols[i]!).of_≠⟨#[]⟩:=fun e=>ho (hof.1 e)
  obtain⟨b,hb⟩:∃b,(s.vols[i]!).org=some b:=by
   cases hq:(s.vols[i]!).org with
   | none=>exact absurd hq ho
   | some b=>exact⟨b,rfl⟩
  have e:(r.vols[i]!).kindR=(s.vols[i]!).kindN:=by
   unfold RVol.kindR Vol.kindN;rw[if_neg hne,hv.lost,hb];rfl
  rw[if_neg hne,e,hv.of_,if_neg ho,hb]
theorem blkR{w:World}{s:St}{fr:List Nat}{r:RSt}(h:TwoAt w s fr r)(k:Nat)(hk:k < s.n):r.blk k=(s.bl[k]!).text:=by
 have hmm:∀i,i < s.vols.length->s.vols[i]!∈s.vols:=fun i hi=>by rw[getElem!_pos s.vols i hi];exact List.getElem_mem hi
 have hpick:∀i,i < s.vols.length->∀a,a < (s.vols[i]!).xs.length->(r.vols[i]!).pick k a=if (s.vols[i]!).xs[a]! = k/\((s.vols[i]!).org=none\/a < (s.vols[i]!).kept.length) then some (s.bl[k]!).text else none:=fun i hi a ha=>by
  have hv:=h.rel.each i hi;have hof:=rel_of h hi;have hm:=hmm i hi;have hva:=h.pool.vols _ hm;obtain⟨g1,g2,g3,g4⟩:=h.pool.orgOf hm;unfold RVol.pick;rw[hv.blocks,hv.kept];by_cases hx:(s.vols[i]!).xs[a]! = k
  ·rw[if_pos hx];by_cases ho:(s.vols[i]!).org=none
   ·rw[if_pos (hof.2 ho),if_pos ⟨hx,Or.inl ho⟩];have hsz:s.size (s.vols[i]!)=(s.vols[i]!).xs.length:=by unfold St.size;rw[g3 ho]
    rw[hv.data (hva.plain ho).2 a (by omega)];unfold St.look St.holder;rw[hva.kept_nil ho,if_neg (by simp),g3 ho,hx]
   ·rw[if_neg (fun e=>ho (hof.1 e))];by_cases hkl:a < (s.vols[i]!).kept.length
    ·rw[if_pos hkl,if_pos ⟨hx,Or.inr hkl⟩];obtain⟨p1,p2,p3⟩:=h.good.pics _ hm;have hlost:(s.vols[i]!).lost=false:=by
      cases hq:(s.vols[i]!).lost with
      | false=>rfl
      | true=>rw[p2 hq] at hkl;simp at hkl
     have hmem:(s.vols[i]!).kept[a]!∈(s.vols[i]!).kept:=by rw[getElem!_pos _ a hkl];exact List.getElem_mem hkl
     have hlt:(s.vols[i]!).kept[a]! < s.size (s.vols[i]!):=(p3 _ g1 (g4 ho)).1 _ hmem;rw[hv.data hlost _ hlt];unfold St.look St.holder;rw[if_pos hmem];have hidx:(s.vols[i]!).kept.idxOf ((s.vols[i]!).kept[a]!)=a:=by
      rw[getElem!_pos _ a hkl];exact p1.idxOf_getElem a hkl
     rw[hidx,hx]
    ·rw[if_neg hkl,if_neg (fun hc=>hc.2.elim ho hkl)]
  ·rw[if_neg hx,if_neg (fun hc=>hx hc.1)]
 have hlenb:∀i,i < s.vols.length->(r.vols[i]!).blocks.length=(s.vols[i]!).xs.length:=fun i hi=>by rw[(h.rel.each i hi).blocks]
 have hv:∀v∈r.vols,∃i,i < s.vols.length/\v=r.vols[i]!:=fun v hv=>by
  obtain⟨i,hi,e⟩:=List.getElem_of_mem hv;have:=h.rel.len;exact⟨i,by omega,by rw[getElem!_pos _ i hi];exact e.symm⟩
 unfold RSt.blk;cases hf:r.vols.findSome? (·.blk k) with
 | some t=>
  obtain⟨v,hvm,ht⟩:=List.exists_of_findSome?_eq_some hf;obtain⟨i,hi,rfl⟩:=hv v hvm;unfold RVol.blk at ht;obtain⟨a,ha,hp⟩:=List.exists_of_findSome?_eq_some ht;have ha:=List.mem_range.1 ha;rw[hlenb i hi] at ha;rw[hpick i hi a ha] at hp;by_cases hc:(s.vols[i]!).xs[a]! = k/\((s.vols[i]!).org=none\/a < (s.vols[i]!).kept.length)
  ·rw[if_pos hc] at hp;cases hp;rfl
  ·rw[if_neg hc] at hp;cases hp
 | none=>
  show zero8=_;have hz:s.bl[k]! = Blk.zero:=by
   rcases List.mem_append.1 (h.good.parts.mem_iff.2 (List.mem_range.2 hk)) with hm|hm
   ·exact h.good.zero k hm
   ·obtain⟨v,hvm,hx⟩:=List.mem_flatMap.1 hm;obtain⟨i,hi,e⟩:=List.getElem_of_mem hvm;have e:s.vols[i]! = v:=by rw[getElem!_pos _ i hi];exact e
    obtain⟨a,ha,hxa⟩:=List.getElem_of_mem hx;have hir:i < r.vols.length:=by rw[h.rel.len];exact hi
    have hnone:=List.findSome?_eq_none_iff.1 hf (r.vols[i]!) (by rw[getElem!_pos _ i hir];exact List.getElem_mem hir);unfold RVol.blk at hnone;have hpn:=List.findSome?_eq_none_iff.1 hnone a (List.mem_range.2 (by rw[hlenb i hi,e];exact ha));rw[hpick i hi a (by rw[e];exact ha),e] at hpn;have hxk:v.xs[a]! = k:=by rw[getElem!_pos _ a ha];exact hxa
    have hc:¬(v.org=none\/a < v.kept.length):=fun hc=>by
     rw[if_pos ⟨hxk,hc⟩] at hpn;cases hpn
    have hsp:=h.spare i hi;rw[e] at hsp;refine hsp (fun ho=>hc (Or.inl ho)) k ?_;rw[<-hxa];refine List.mem_drop_iff_getElem.2 ⟨a - v.kept.length,?_,?_⟩
    ·have:¬a < v.kept.length:=fun hx=>hc (Or.inr hx)
     omega
    ·have:¬a < v.kept.length:=fun hx=>hc (Or.inr hx)
     congr 1
     omega
  rw[hz];exact Blk.zero_text.symm
theorem rbody_eq{w:World}{s:St}{fr:List Nat}{r:RSt}(h:TwoAt w s fr r):rbodyB r=bodyB s:=by
 unfold rbodyB bodyB;have e1:r.vols.flatMap (rentB r)=listB s s.vols:=by
  unfold listB;rw[List.flatMap_def,List.flatMap_def]
  congr 1
  apply List.ext_getElem
  ·simp[h.rel.len]
  ·intro i h1 h2;have hi:i < s.vols.length:=by simpa using h2
   have hir:i < r.vols.length:=by rw[h.rel.len];exact hi
   have:=rent_eq h hi;rw[getElem!_pos s.vols i hi,getElem!_pos r.vols i hir] at this;simpa using this
 have e2:(List.range r.n).flatMap (fun k=>(r.blk k).data.toList)=s.bl.flatMap Blk.bytes:=by
  have hbl:=h.pool.disk.len;rw[List.flatMap_def,List.flatMap_def]
  congr 1
  apply List.ext_getElem
  ·simp[h.rel.n,hbl]
  ·intro k h1 h2;have hk:k < s.bl.length:=by simpa using h2
   simp only[List.getElem_map,List.getElem_range];rw[blkR h k (by omega),getElem!_pos _ k hk,Blk.text_eq];rfl
 rw[e1,e2,h.rel.n,h.rel.len]
theorem refOne_calls(w:World)(n:Nat)(hn:n < 256) :
 Calls Tryz.prog 72 #[.int .i64 n] w fun e w'=>e=.returned (.string ⟨#[UInt8.ofNat n]⟩)/\Same [] w w':=by
 have hT:=text_conv (w.alloc (.cells #[.int .u8 ((n:Int) % 256)] 5)) w.heap.size 0 1 [UInt8.ofNat n] rfl (fun i hi=>by
  have hA:=At.new w #[.int .u8 ((n:Int) % 256)] 5;rw[Nat.zero_add,hA.cell?];unfold byteV
  match i,hi with
  | 0,_=>simp) 1
 go_enter Tryz.func72,Tryz.ntmps72
 go_wp2
 go_ret
 exact⟨rfl,(Same.refl _ _).alloc _⟩
theorem refIndex_calls(s:RSt)(t:ByteArray)(w:World)(h:RefAt w s)(i:Nat)(hi:i < s.vols.length)(he:(s.vols[i]!).name=t)(hf:∀j,j < i->(s.vols[j]!).name≠t) :
 Calls Tryz.prog 73 #[.pointer (some ⟨s.rb,0,none⟩),.string t] w fun e w'=>e=.returned (.int .i64 (i:Int))/\w'=w:=by
 obtain⟨cap,hp,h1,h2⟩:=h.pool;have c1:w.cell? ⟨s.rb,1,none⟩=some (.slice (s.lg.map fun b=>⟨b,0,none⟩) s.vols.length cap):=hp.cell? 1;have hfew:=h.few
 go_enter Tryz.func73,Tryz.ntmps73
 go_wp2
 go_loopw [5] (fun k wr=>∃j:Nat,j<=i/\k=.int .i64 j/\wr=w) (fun k _=>s.vols.length - (intOf k).toNat)
 case atStart=>exact⟨0,Nat.zero_le _,rfl,rfl⟩
 case round=>
  obtain⟨j,hj,rfl,rfl⟩:=hrel;have hjl:j < s.vols.length:=by omega
  obtain⟨b,hb,e1,hm⟩:=h.cell j hjl;obtain⟨dc,bc,kc,hv,_⟩:=(h.vols _ hm).ex;have e0:wr.cell? ⟨(s.vols[j]!).vb,0,none⟩=some (.string (s.vols[j]!).name):=hv.cell? 0;have hb':(s.lg.map fun b=>(⟨b,0,none⟩:Addr))=some ⟨b,0,none⟩:=by rw[hb];rfl
  rw[hb'] at c1;have l1:(j:Int) < (s.vols.length:Int):=by omega
  by_cases hji:j=i
  ·subst hji;rw[he] at e0;generalize s.vols[j]! = vv at *;clear hv hm hf hp h
   go_wp2
   go_ret
   exact⟨rfl,rfl⟩
  ·have hne:=hf j (by omega);have hnb:((s.vols[j]!).name.toList == t.toList)=false:=by
    rw[beq_eq_false_iff_ne];intro e;apply hne;apply ByteArray.ext;rw[ByteArray.toList_eq,ByteArray.toList_eq] at e;exact Array.toList_inj.1 e
   generalize s.vols[j]! = vv at *;clear hv hm hf hp h he
   go_wp2
   go_roundw
   case rel=>exact⟨j+1,by omega,by go_num,by first|rfl|trivial⟩
   case measure=>simp[intOf];omega
end
end Go.Proofs.YtpddgdjocffgdaaGreat
