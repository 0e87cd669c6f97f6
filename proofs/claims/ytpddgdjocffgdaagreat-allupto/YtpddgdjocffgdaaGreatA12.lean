/- Packed: see the last text. -/
import Derived.Test.YtpddgdjocffgdaaGreatA10
import Derived.Test.YtpddgdjocffgdaaGreatA01
import Derived.WalkLawsBesides
import Derived.Laws.IdiomStrings
import Derived.Test.YtpddgdjocffgdaaGreatA09
import Derived.BigQuiet
import Derived.Deep.OwnRows
import Derived.Maps.AppendAt
import Derived.Deep.DeepCutAuto
import Derived.Deep.RegionHeld3
namespace Go.Proofs.YtpddgdjocffgdaaGreat
open Go.Proofs.Tryz
set_option linter.unusedVariables false
set_option linter.unusedSimpArgs false
set_option linter.unusedSectionVars false
set_option maxHeartbeats 16000000
set_option maxRecDepth 100000
section
open Go.RowKit Go.Sort
variable [DecidableEq aN] [Inhabited aN] [Inhabited aF]
def bad(q:Nat):Ending:=.panicked [{ v:=.iface 175 (.int .i64 q),recovered:=false }]
theorem kN(q:Int)(w:World):Calls prog 134 #[.bool true,.int .i64 q] w fun e w'=>e=.returned (.tuple #[])/\w'=w:=by
 have hnot:=bP
 go_enter func134,ntmps134
 go_wp2
 go_end0
 exact⟨rfl,rfl⟩
theorem kS(q:Nat)(w:World):Calls prog 134 #[.bool false,.int .i64 q] w fun e w'=>e=bad q/\w'=w:=by
 have hnot:=bP;unfold bad
 go_enter func134,ntmps134
 go_wp2
 exact⟨rfl,rfl,rfl⟩
structure bD(w0:World)(a:Option Addr)(B:List UInt8):Prop where
 ex:B≠[]->∃b off,a=some ⟨b,off,none⟩/\b<w0.heap.size/\∀i,i<B.length->w0.cell? ⟨b,off+i,none⟩=some (bT B[i]!)
 len:B.length<=140737488355328
theorem bD.at{w0 w:World}{a:Option Addr}{B:List UInt8}(h:bD w0 a B)(hS:Same [] w0 w)(hne:B≠[]):∃b off,a=some ⟨b,off,none⟩/\b<w0.heap.size/\∀i,i<B.length->w.cell? ⟨b,off+i,none⟩=some (bT B[i]!):=by
 obtain⟨b,off,h1,h2,h3⟩:=h.ex hne;refine⟨b,off,h1,h2,fun i hi=>?_⟩;rw[(hS.below (Nat.le_refl _) (by simp)).cell h2];exact h3 i hi
structure dV(w0 w:World)(a:Option Addr)(B:List UInt8)(rd at_:Nat):Prop where
 cell:At w rd 152 [.slice a B.length B.length,.int .i64 at_]
 new:w0.heap.size<=rd
 same:Same [] w0 w
 le:at_<=B.length
theorem dV.next{w0 w w':World}{a:Option Addr}{B:List UInt8}{rd at_:Nat}(h:dV w0 w a B rd at_){S:List Nat}(hs:Same S w w')(hn:rd∉S)(hS:∀k∈S,w0.heap.size<=k):dV w0 w' a B rd at_:=
 ⟨hs.at h.cell hn,h.new,h.same.step hs (fun k hk hl=>by have:=hS k hk;omega),h.le⟩
theorem zN(w0 w:World)(a:Option Addr)(B:List UInt8)(rd at_ n b off:Nat)(hB:bD w0 a B)(h:dV w0 w a B rd at_)(ha:a=some ⟨b,off,none⟩)(hn:1<=n)(hle:at_+n<=B.length) :
 Calls prog 142 #[.pointer (some ⟨rd,0,none⟩),.int .i64 n] w fun e w'=>e=.returned (.slice (some ⟨b,off+at_,none⟩) n n)/\dV w0 w' a B rd (at_+n)/\Same [rd] w w':=by
 have hlen:=hB.len;subst ha;have c0:w.cell? ⟨rd,0,none⟩=some (.slice (some ⟨b,off,none⟩) B.length B.length):=h.cell.cell? 0;have c1:w.cell? ⟨rd,1,none⟩=some (.int .i64 at_):=h.cell.cell? 1;have f1:w.frozen? ⟨rd,1,none⟩=false:=h.cell.frozen 1;have hM:=fun W q=>kN q W
 have hadd:IntKind.i64.wrap ((at_:Int)+(n:Int))=((at_+n:Nat):Int):=by rw[IntWalk.i64_in _ (by omega)];omega
 have HR:Hid (dV w0 w (some ⟨b,off,none⟩) B rd at_):=h;clear h
 go_enter func142,ntmps142
 go_wp2_with fail
 go_region
 go_wp2_with fail
 refine aU 12 (by kernel_rfl) (by kernel_rfl) ?_;simp only[List.take_succ_cons,List.take_zero,List.drop_succ_cons,List.drop_zero]
 repeat still_step
 refine wpStill_nil ?_;have hle':(at_:Int)+(n:Int)<=(B.length:Int):=by omega
 have HF:Hid (dV w0 ((w.drew.drew).setCell ⟨rd,1,none⟩ (.int .i64 ((at_:Int)+(n:Int)))) (some ⟨b,off,none⟩) B rd (at_+n)/\Same [rd] w ((w.drew.drew).setCell ⟨rd,1,none⟩ (.int .i64 ((at_:Int)+(n:Int))))):=by
  have S2:Same [rd] w ((w.drew.drew).setCell ⟨rd,1,none⟩ (.int .i64 ((at_:Int)+(n:Int)))):=((Same.refl _ _).drew.drew).set _ _ _ (by simp);refine⟨⟨?_,HR.out.new,HR.out.same.step S2 (fun k hk hl=>by simp at hk;have:=HR.out.new;omega),hle⟩,S2⟩;have:=(HR.out.cell.drew.drew).ax 1 (.int .i64 ((at_:Int)+(n:Int)));simpa using this
 have t1:((at_:Int)).toNat=at_:=by omega
 have t2:((at_:Int)+(n:Int)).toNat=at_+n:=by omega
 have t3:at_+n-at_=n:=by omega
 have t4:at_<=at_+n:=by omega
 have t5:(at_:Int)<=(at_:Int)+(n:Int):=by omega
 have t6:(0:Int)<=(at_:Int):=by omega
 go_wp2_with (go_at_call 134;refine(hM _ _).mono ?_;rintro e w' ⟨rfl,hw⟩;obtain rfl:=hw.symm)
 go_ret
 exact⟨rfl,HF.out.1,HF.out.2⟩
theorem xA(w0 w:World)(a:Option Addr)(B:List UInt8)(rd at_ n:Nat)(hB:bD w0 a B)(h:dV w0 w a B rd at_)(hn:n<=10000)(hle:B.length<at_+n) :
 Calls prog 142 #[.pointer (some ⟨rd,0,none⟩),.int .i64 n] w fun e w'=>e=bad B.length/\Same [] w w':=by
 have hlen:=hB.len;have hal:=h.le;have c0:w.cell? ⟨rd,0,none⟩=some (.slice a B.length B.length):=h.cell.cell? 0;have c1:w.cell? ⟨rd,1,none⟩=some (.int .i64 at_):=h.cell.cell? 1;have hM:=fun W=>kS B.length W
 have hadd:IntKind.i64.wrap ((at_:Int)+(n:Int))=((at_+n:Nat):Int):=by rw[IntWalk.i64_in _ (by omega)];omega
 have S2:Same [] w w.drew.drew:=(Same.refl _ _).drew.drew;unfold bad at *;clear h
 go_enter func142,ntmps142
 go_wp2_with fail
 go_region
 go_wp2_with fail
 refine aU 12 (by kernel_rfl) (by kernel_rfl) ?_;simp only[List.take_succ_cons,List.take_zero,List.drop_succ_cons,List.drop_zero]
 repeat still_step
 refine wpStill_nil ?_;have hle':¬((at_:Int)+(n:Int)<=(B.length:Int)):=by omega
 go_wp2_with (go_at_call 134;refine(hM _).mono ?_;rintro e w' ⟨rfl,hw⟩;obtain rfl:=hw.symm)
 exact⟨rfl,rfl,S2⟩
def jl(l:List UInt8):Nat:=l.foldl (fun n b=>n*256+b.toNat) 0
theorem EM(l:List UInt8)(b:UInt8):jl (l++[b])=jl l*256+b.toNat:=by unfold jl;rw[List.foldl_append];rfl
theorem YN(n x:Nat)(hx:x<256):(n*256) ||| x=n*256+x:=by
 have:=Nat.two_pow_add_eq_or_of_lt (i:=8) (b:=x) (by simpa using hx) n;rw[Nat.mul_comm n 256];simpa using this.symm
theorem yY(a b:Nat)(ha:a<65536)(hb:b<256):bits .or .i64 ((a:Int)*256) (b:Int)=((a*256+b:Nat):Int):=by
 have e1:(BitVec.ofInt IntKind.i64.bits ((a:Int)*256))=BitVec.ofNat 64 (a*256):=by
  rw[show((a:Int)*256)=((a*256:Nat):Int) by omega];exact BitVec.ofInt_natCast 64 (a*256)
 have e2:(BitVec.ofInt IntKind.i64.bits (b:Int))=BitVec.ofNat 64 b:=BitVec.ofInt_natCast 64 b;have h1:bits .or .i64 ((a:Int)*256) (b:Int)=IntKind.i64.wrap ((BitVec.ofNat 64 (a*256) ||| BitVec.ofNat 64 b).toNat:Int):=by
  unfold bits;simp only[e1,e2];rfl
 rw[h1,BitVec.toNat_or,BitVec.toNat_ofNat,BitVec.toNat_ofNat,Nat.mod_eq_of_lt (by omega),Nat.mod_eq_of_lt (by omega),YN a b hb];exact IntWalk.i64_in _ (by omega)
theorem Le(l:List UInt8)(h:l.length<=2):jl l<65536:=by
 match l,h with
 | [],_=>simp[jl]
 | [a],_=>have:=a.toNat_lt;simp[jl];omega
 | [a,b],_=>have:=a.toNat_lt;have:=b.toNat_lt;simp[jl];omega
theorem KL(l:List UInt8)(h:l.length<=1):jl l<256:=by
 match l,h with
 | [],_=>simp[jl]
 | [a],_=>have:=a.toNat_lt;simp[jl];omega
def numAt(B:List UInt8)(at_ n:Nat):Nat:=jl ((B.drop at_).take n)
theorem Ld(B:List UInt8)(at_ n:Nat)(h:n<=2):numAt B at_ n<65536:=Le _ (by rw[List.length_take];omega)
theorem QX(w0 w:World)(a:Option Addr)(B:List UInt8)(rd at_ n:Nat)(low high:Int)(hB:bD w0 a B)(h:dV w0 w a B rd at_)(hn:n=1\/n=2)(hle:at_+n<=B.length)(Q:Ending->World->Prop)
 (hok:low<=(numAt B at_ n:Int)/\(numAt B at_ n:Int)<=high->∀w',dV w0 w' a B rd (at_+n)->Same [rd] w w'->Q (.returned (.int .i64 (numAt B at_ n))) w')
 (hno:¬(low<=(numAt B at_ n:Int)/\(numAt B at_ n:Int)<=high)->∀w',Same [rd] w w'->Q (bad at_) w') :
 Calls prog 130 #[.pointer (some ⟨rd,0,none⟩),.int .i64 n,.int .i64 low,.int .i64 high] w Q:=by
 have hne:B≠[]:=fun e=>by rw[e]at hle;simp at hle;omega
 obtain⟨b,off,ha,_,_⟩:=hB.ex hne;have hN:=zN w0 w a B rd at_ n b off hB h ha (by omega) hle;have hM:=fun W q=>kN q W
 have hMb:=fun W=>kS at_ W
 have c1:w.cell? ⟨rd,1,none⟩=some (.int .i64 at_):=h.cell.cell? 1;have hlt:∀k,k<=2->jl ((B.drop at_).take k)<65536:=fun k hk=>Le _ (by rw[List.length_take];omega)
 have hlt1:∀k,k<=1->jl ((B.drop at_).take k)<256:=fun k hk=>KL _ (by rw[List.length_take];omega)
 have HTK:Hid (∀k,k<n->(B.drop at_).take (k+1)=(B.drop at_).take k++[B[at_+k]!]):=fun k hk=>by
  rw[List.take_succ_eq_append_getElem (by rw[List.length_drop];omega),List.getElem_drop,getElem!_pos B _ (by omega)]
 have HC:Hid (∀i,i<B.length->∀W,Same [] w0 W->W.cell? ⟨b,off+i,none⟩=some (bT B[i]!)):=fun i hi W hW=>by
  obtain⟨b',off',ha',_,hcc⟩:=hB.at hW hne;rw[ha]at ha';obtain⟨rfl,rfl⟩:b=b'/\off=off':=by simpa using ha'
  exact hcc i hi
 have HOK:Hid _:=hok;have HNO:Hid _:=hno;have HVD:Hid (numAt B at_ n=jl ((B.drop at_).take n)):=rfl;have hnv:=Ld B at_ n (by omega);generalize numAt B at_ n=nv at *;generalize (B.drop at_)=D at *;unfold bad at hMb;clear hok hno h hne
 go_enter func130,ntmps130
 go_wp2_with (go_at_call 142;refine hN.mono ?_;rintro e w1 ⟨rfl,hR1,S1⟩)
 go_loopw [10,21] (fun x i wr=>∃k:Nat,k<=n/\i=.int .i64 k/\x=.int .i64 (jl (D.take k))/\wr=w1) (fun _ i _=>n-(intOf i).toNat)
 case atStart=>exact⟨0,Nat.zero_le _,rfl,rfl,rfl⟩
 case round=>
  obtain⟨k,hk,rfl,rfl,rfl⟩:=hrel;by_cases hkl:k<n
  ·have hcc:=HC.out (at_+k) (by omega) wr hR1.same;unfold bT at hcc;have hs:=hlt1 k (by omega);have HS:Hid (jl (D.take (k+1))=jl (D.take k)*256+(B[at_+k]!).toNat):=by show _=_;rw[HTK.out k hkl,EM]
   have hbt:=(B[at_+k]!).toNat_lt;rw[<-Nat.add_assoc]at hcc;generalize jl (D.take k)=m at *;generalize (B[at_+k]!).toNat=x at *;have hor:bits .or .i64 ((m:Int)*256) (x:Int)=((m*256+x:Nat):Int):=yY m x (by omega) (by omega);have l1:(k:Int)<(n:Int):=by omega
   go_wp2
   go_roundw
   case rel=>exact⟨k+1,by omega,by go_num,by rw[HS.out];first|rfl|(push_cast;rfl)|simp,by first|rfl|trivial⟩
   case measure=>simp[intOf];omega
  ·have ek:k=n:=by omega
   subst ek;have hE:jl (D.take k)=nv:=HVD.out.symm;rw[hE]at *;by_cases hr:low<=(nv:Int)/\(nv:Int)<=high
   ·obtain⟨r1,r2⟩:=hr;have HQ:=HOK.out ⟨r1,r2⟩ wr hR1 S1;clear hlt hlt1 hN hR1
    go_wp2_with (go_at_call 134;refine(hM _ _).mono ?_;rintro e w' ⟨rfl,hw⟩;obtain rfl:=hw.symm)
    first
     | exact HQ
     | (go_ret;exact HQ)
   ·have HQ:=HNO.out hr wr S1;unfold bad at HQ;clear hlt hlt1 hN hR1;by_cases r1:low<=(nv:Int)
    ·have r2:¬(nv:Int)<=high:=fun q=>hr ⟨r1,q⟩
     clear hr
     go_wp2_with (go_at_call 134;refine(hMb _).mono ?_;rintro e w' ⟨rfl,hw⟩;obtain rfl:=hw.symm)
     exact⟨rfl,HQ⟩
    ·clear hr
     go_wp2_with (go_at_call 134;refine(hMb _).mono ?_;rintro e w' ⟨rfl,hw⟩;obtain rfl:=hw.symm)
     exact⟨rfl,HQ⟩
theorem Ou(w0 w:World)(a:Option Addr)(B:List UInt8)(rd at_ n:Nat)(low high:Int)(hB:bD w0 a B)(h:dV w0 w a B rd at_)(hn:n=1\/n=2)(hle:B.length<at_+n) :
 Calls prog 130 #[.pointer (some ⟨rd,0,none⟩),.int .i64 n,.int .i64 low,.int .i64 high] w fun e w'=>e=bad B.length/\Same [] w w':=by
 have hN:=xA w0 w a B rd at_ n hB h (by omega) hle;have c1:w.cell? ⟨rd,1,none⟩=some (.int .i64 at_):=h.cell.cell? 1;unfold bad at *;clear h
 go_enter func130,ntmps130
 go_wp2_with (go_at_call 142;refine hN.mono ?_;rintro e w1 ⟨rfl,S1⟩)
 exact⟨rfl,rfl,S1⟩
def bJ(B:List UInt8)(n low high at_:Nat):Except Nat (Nat×Nat):=
 if at_+n<=B.length then (if low<=numAt B at_ n/\numAt B at_ n<=high then .ok (numAt B at_ n,at_+n) else .error at_) else .error B.length
def aH(B:List UInt8)(at_ n:Nat):ByteArray:=⟨((B.drop at_).take n).toArray⟩
def lQ(B:List UInt8)(ahead:ByteArray)(at_:Nat):Except Nat (ByteArray×Nat):=
 match bJ B 1 1 10 at_ with
 | .error q=>.error q
 | .ok (n,at1)=>
  if at1+n<=B.length then (if nameB (aH B at1 n)=true/\bW ahead (aH B at1 n)<0 then .ok (aH B at1 n,at1+n) else .error at1) else .error B.length
def cZ(B:List UInt8)(bound:Nat):Nat->List Nat->List Nat->Nat->Except Nat (List Nat×Nat)
 | 0,_,acc,at_=>.ok (acc,at_)
 | c+1,seen,acc,at_=>
  match bJ B 2 0 (bound-1) at_ with
  | .error q=>.error q
  | .ok (k,at1)=>if k∈seen++acc then .error at_ else cZ B bound c seen (acc++[k]) at1
structure aS where
 name:ByteArray
 kind:Nat
 size:Nat
 origin:Nat
 iT:Nat
 xs:List Nat
 kept:List Nat
def zG(B:List UInt8)(count bound:Nat)(used:List Nat)(name:ByteArray)(kind size at_:Nat):Except Nat (aS×Nat):=
 match bJ B 1 0 (count-1) at_ with
 | .error q=>.error q
 | .ok (origin,at1)=>
  match bJ B 2 1 size at1 with
  | .error q=>.error q
  | .ok (c,at2)=>
   match cZ B bound c used [] at2 with
   | .error q=>.error q
   | .ok (xs,at3)=>
    match bJ B 2 0 (if kind=2 then 0 else xs.length) at3 with
    | .error q=>.error q
    | .ok (k,at4)=>
     match cZ B size k [] [] at4 with
     | .error q=>.error q
     | .ok (kept,at5)=>.ok (⟨name,kind,size,origin,at_,xs,kept⟩,at5)
def zL(B:List UInt8)(bound:Nat)(used:List Nat)(name:ByteArray)(size at_:Nat):Except Nat (aS×Nat):=
 match bJ B 2 size size at_ with
 | .error q=>.error q
 | .ok (c,at1)=>
  match cZ B bound c used [] at1 with
  | .error q=>.error q
  | .ok (xs,at2)=>.ok (⟨name,0,size,0,0,xs,[]⟩,at2)
def jw(B:List UInt8)(count bound:Nat)(used:List Nat)(ahead:ByteArray)(at_:Nat):Except Nat (aS×Nat):=
 match lQ B ahead at_ with
 | .error q=>.error q
 | .ok (name,at1)=>
  match bJ B 1 0 2 at1 with
  | .error q=>.error q
  | .ok (kind,at2)=>
   match bJ B 2 1 200 at2 with
   | .error q=>.error q
   | .ok (size,at3)=>if kind=0 then zL B bound used name size at3 else zG B count bound used name kind size at3
def fF(B:List UInt8)(count bound:Nat):Nat->List aS->Nat->Except Nat (List aS×Nat)
 | 0,acc,at_=>.ok (acc,at_)
 | c+1,acc,at_=>
  match jw B count bound (acc.flatMap (·.xs)) ((acc.getLast?.map (·.name)).getD ⟨#[]⟩) at_ with
  | .error q=>.error q
  | .ok (p,at1)=>fF B count bound c (acc++[p]) at1
def Reads{α:Type}(w0:World)(a:Option Addr)(B:List UInt8)(rd:Nat)(spec:Except Nat (α×Nat))(P:α->Value->World->Prop):Ending->World->Prop:=fun e w'=>
 match spec with
 | .ok (x,at1)=>∃v,e=.returned v/\dV w0 w' a B rd at1/\P x v w'
 | .error q=>e=bad q/\Same [] w0 w'
theorem dJ{B:List UInt8}{n low high at_ x at1:Nat}(h:bJ B n low high at_=.ok (x,at1)):at_+n<=B.length/\low<=x/\x<=high/\x=numAt B at_ n/\at1=at_+n:=by
 unfold bJ at h;by_cases h1:at_+n<=B.length
 ·rw[if_pos h1]at h;by_cases h2:low<=numAt B at_ n/\numAt B at_ n<=high
  ·rw[if_pos h2]at h;simp only[Except.ok.injEq,Prod.mk.injEq]at h;obtain⟨rfl,rfl⟩:=h;exact⟨h1,h2.1,h2.2,rfl,rfl⟩
  ·rw[if_neg h2]at h;cases h
 ·rw[if_neg h1]at h;cases h
theorem wR(w0 w:World)(a:Option Addr)(B:List UInt8)(rd at_ n low high:Nat)(hB:bD w0 a B)(h:dV w0 w a B rd at_)(hn:n=1\/n=2) :
 Calls prog 130 #[.pointer (some ⟨rd,0,none⟩),.int .i64 n,.int .i64 low,.int .i64 high] w (Reads w0 a B rd (bJ B n low high at_) fun x v w'=>v=.int .i64 x/\Same [rd] w w'):=by
 have hnew:=h.new;have old:∀w',Same [rd] w w'->Same [] w0 w':=fun w' hs=>h.same.step hs (fun k hk hl=>by simp at hk;omega)
 by_cases hle:at_+n<=B.length
 ·refine QX w0 w a B rd at_ n low high hB h hn hle _ (fun hr w' hR hS=>?_) (fun hr w' hS=>?_)
  ·have e:bJ B n low high at_=.ok (numAt B at_ n,at_+n):=by unfold bJ;rw[if_pos hle,if_pos (by omega)]
   unfold Reads;rw[e];exact⟨_,rfl,hR,rfl,hS⟩
  ·have e:bJ B n low high at_=.error at_:=by unfold bJ;rw[if_pos hle,if_neg (by omega)]
   unfold Reads;rw[e];exact⟨rfl,old w' hS⟩
 ·refine(Ou w0 w a B rd at_ n low high hB h hn (by omega)).mono fun e w' ⟨h1,h2⟩=>?_
  have e2:bJ B n low high at_=.error B.length:=by unfold bJ;rw[if_neg hle]
  unfold Reads;rw[e2];exact⟨h1,h.same.step h2 (by simp)⟩
theorem fO(w0 w:World)(a:Option Addr)(B:List UInt8)(rd at_ n low high x at1:Nat)(nI SI II:Int)(hB:bD w0 a B)(h:dV w0 w a B rd at_)(hn:n=1\/n=2)(hs:bJ B n low high at_=.ok (x,at1))(e1:nI=n)(e2:SI=low)(e3:II=high) :
 Calls prog 130 #[.pointer (some ⟨rd,0,none⟩),.int .i64 nI,.int .i64 SI,.int .i64 II] w fun e w'=>e=.returned (.int .i64 x)/\dV w0 w' a B rd at1/\Same [rd] w w':=by
 subst e1 e2 e3;have:=wR w0 w a B rd at_ n low high hB h hn;rw[hs]at this;exact this.mono fun e w' ⟨v,h1,h2,h3,h4⟩=>⟨by rw[h1,h3],h2,h4⟩
theorem eX(w0 w:World)(a:Option Addr)(B:List UInt8)(rd at_ n low high q:Nat)(nI SI II:Int)(hB:bD w0 a B)(h:dV w0 w a B rd at_)(hn:n=1\/n=2)(hs:bJ B n low high at_=.error q)(e1:nI=n)(e2:SI=low)(e3:II=high) :
 Calls prog 130 #[.pointer (some ⟨rd,0,none⟩),.int .i64 nI,.int .i64 SI,.int .i64 II] w fun e w'=>e=bad q/\Same [] w0 w':=by
 subst e1 e2 e3;have:=wR w0 w a B rd at_ n low high hB h hn;rw[hs]at this;exact this.mono fun e w' ⟨h1,h2⟩=>⟨h1,h2⟩
theorem UJ:∀(a b:List UInt8),Op.bytesLess a b=decide (Lib.compareBytes a b<0)
 | [],[]=>by simp[Op.bytesLess,Lib.compareBytes]
 | [],_::_=>by simp[Op.bytesLess,Lib.compareBytes]
 | _::_,[]=>by simp[Op.bytesLess,Lib.compareBytes]
 | x::a,y::b=>by
  have ih:=UJ a b;unfold Op.bytesLess Lib.compareBytes;by_cases hxy:x<y
  ·simp[hxy]
  ·by_cases hyx:y<x
   ·have hne:¬x=y:=fun e=>by subst e;exact UInt8.lt_irrefl _ hyx
    simp[hxy,hyx,hne]
   ·have e:x=y:=UInt8.le_antisymm (UInt8.not_lt.1 hyx) (UInt8.not_lt.1 hxy);subst e;simp[UInt8.lt_irrefl,ih]
theorem greater(t u:ByteArray):(!Op.bytesLess t.toList u.toList && !t.toList == u.toList)=decide (bW u t<0):=by
 have h1:Op.bytesLess t.toList u.toList=decide (bW t u<0):=by
  rw[ByteArray.toList_eq,ByteArray.toList_eq];exact UJ _ _
 have h2:(t.toList == u.toList)=decide (bW t u=0):=by
  rw[Bool.eq_iff_iff,beq_iff_eq,decide_eq_true_iff,qm,ByteArray.toList_eq,ByteArray.toList_eq]
  constructor
  ·intro e;have e2:t.data=u.data:=by
    have:=congrArg List.toArray e;simpa using this
   exact ByteArray.ext e2
  ·intro e;rw[e]
 have h3:=CQ t u;rw[h1,h2,Bool.eq_iff_iff];simp only[Bool.and_eq_true,Bool.not_eq_true',decide_eq_false_iff_not,decide_eq_true_eq];omega
theorem jF(w:World)(b off n:Nat)(l:List UInt8)(hl:l.length=n)(hc:∀i,i<n->w.cell? ⟨b,off+i,none⟩=some (bT l[i]!))(c:Nat) :
 Sem.run prog (convert 41 9 (.slice (some ⟨b,off,none⟩) n c)) w=.ok (.string ⟨l.toArray⟩) w:=by
 subst hl;refine run_convert_bytes_back w 41 9 5 ⟨b,off,none⟩ c l underlying41 underlying5 underlying9 fun j hj=>?_
 rw[Addr.add_lit,hc j hj,getElem!_pos l j hj];rfl
theorem NG(w0 w:World)(a:Option Addr)(B:List UInt8)(rd at_:Nat)(ahead:ByteArray)(hB:bD w0 a B)(h:dV w0 w a B rd at_) :
 Calls prog 147 #[.pointer (some ⟨rd,0,none⟩),.string ahead] w (Reads w0 a B rd (lQ B ahead at_) fun x v w'=>v=.string x/\Same [rd] w w'):=by
 have hnew:=h.new;have HOLD:Hid (∀w',Same [rd] w w'->Same [] w0 w'):=fun w' hs=>h.same.step hs (fun k hk hl=>by simp at hk;omega)
 unfold lQ;cases hs:bJ B 1 1 10 at_ with
 | error q=>
  have hN:=eX w0 w a B rd at_ 1 1 10 q 1 1 10 hB h (by omega) hs rfl rfl rfl;clear h
  go_enter func147,ntmps147
  go_wp2_with (go_at_call 130;refine hN.mono ?_;rintro e w1 ⟨rfl,S1⟩;unfold bad)
  exact⟨rfl,rfl,S1⟩
 | ok p=>
  obtain⟨n,at1⟩:=p;have hN:=fO w0 w a B rd at_ 1 1 10 n at1 1 1 10 hB h (by omega) hs rfl rfl rfl;have q2:=(dJ hs).2.1;have q3:=(dJ hs).2.2.1;simp only;clear h hs;by_cases hle:at1+n<=B.length
  ·rw[if_pos hle];have hne:B≠[]:=fun e=>by rw[e]at hle;simp at hle;omega
   obtain⟨b,off,ha,_,_⟩:=hB.ex hne;have HNX:Hid (∀W,dV w0 W a B rd at1->Calls prog 142 #[.pointer (some ⟨rd,0,none⟩),.int .i64 n] W fun e w'=>e=.returned (.slice (some ⟨b,off+at1,none⟩) n n)/\dV w0 w' a B rd (at1+n)/\Same [rd] W w'):=fun W hW=>zN w0 W a B rd at1 n b off hB hW ha q2 hle
   have HTX:Hid (∀W,Same [] w0 W->Sem.run prog (convert 41 9 (.slice (some ⟨b,off+at1,none⟩) n n)) W=.ok (.string (aH B at1 n)) W):=fun W hW=>by
    obtain⟨b',off',ha',_,hcc⟩:=hB.at hW hne;rw[ha]at ha';obtain⟨rfl,rfl⟩:b=b'/\off=off':=by simpa using ha'
    refine jF W b (off+at1) n ((B.drop at1).take n) (by rw[List.length_take,List.length_drop];omega) (fun i hi=>?_) n;rw[Nat.add_assoc,hcc (at1+i) (by omega),getElem!_pos B _ (by omega),getElem!_pos _ i (by rw[List.length_take,List.length_drop];omega)];simp
   have hts:(aH B at1 n).size<=maxLen:=by
    have:(aH B at1 n).size=((B.drop at1).take n).length:=by simp[aH,ByteArray.size]
    rw[this,List.length_take];unfold maxLen;omega
   generalize aH B at1 n=t at *;have hIN:=fun W=>ni t W hts
   have hM:=fun W q=>kN q W
   have hMb:=fun W=>kS at1 W
   have hlt:(!Op.bytesLess t.toList ahead.toList && !t.toList == ahead.toList)=decide (bW ahead t<0):=greater t ahead;by_cases hnm:nameB t=true/\bW ahead t<0
   ·rw[if_pos hnm];obtain⟨n1,n2⟩:=hnm;rw[n1]at hIN;rw[decide_eq_true n2]at hlt
    go_enter func147,ntmps147
    go_wp2_with (first|(go_at_call 130;refine hN.mono ?_;rintro e w1 ⟨rfl,hR1,S1⟩;have c1:w1.cell? ⟨rd,1,none⟩=some (.int .i64 at1):=hR1.cell.cell? 1;have hX1:=HNX.out w1 hR1)|(go_at_call 142;refine hX1.mono ?_;rintro e w2 ⟨rfl,hR2,S2⟩;have hcv:=HTX.out w2 hR2.same)|(go_at_call 117;refine(hIN _).mono ?_;rintro e w' ⟨rfl,hw⟩;obtain rfl:=hw.symm)|(go_at_call 134;refine(hM _ _).mono ?_;rintro e w' ⟨rfl,hw⟩;obtain rfl:=hw.symm))
    go_ret
    exact⟨_,rfl,hR2,rfl,S1.step S2 (by simp)⟩
   ·rw[if_neg hnm];unfold bad at hMb;by_cases n1:nameB t=true
    ·have n2:¬bW ahead t<0:=fun q=>hnm ⟨n1,q⟩
     rw[n1]at hIN;rw[decide_eq_false n2]at hlt;clear hnm
     go_enter func147,ntmps147
     go_wp2_with (first|(go_at_call 130;refine hN.mono ?_;rintro e w1 ⟨rfl,hR1,S1⟩;have c1:w1.cell? ⟨rd,1,none⟩=some (.int .i64 at1):=hR1.cell.cell? 1;have hX1:=HNX.out w1 hR1)|(go_at_call 142;refine hX1.mono ?_;rintro e w2 ⟨rfl,hR2,S2⟩;have hcv:=HTX.out w2 hR2.same)|(go_at_call 117;refine(hIN _).mono ?_;rintro e w' ⟨rfl,hw⟩;obtain rfl:=hw.symm)|(go_at_call 134;refine(hMb _).mono ?_;rintro e w' ⟨rfl,hw⟩;obtain rfl:=hw.symm))
     exact⟨rfl,rfl,hR2.same⟩
    ·have n1':nameB t=false:=by simpa using n1
     rw[n1']at hIN;clear hnm
     go_enter func147,ntmps147
     go_wp2_with (first|(go_at_call 130;refine hN.mono ?_;rintro e w1 ⟨rfl,hR1,S1⟩;have c1:w1.cell? ⟨rd,1,none⟩=some (.int .i64 at1):=hR1.cell.cell? 1;have hX1:=HNX.out w1 hR1)|(go_at_call 142;refine hX1.mono ?_;rintro e w2 ⟨rfl,hR2,S2⟩;have hcv:=HTX.out w2 hR2.same)|(go_at_call 117;refine(hIN _).mono ?_;rintro e w' ⟨rfl,hw⟩;obtain rfl:=hw.symm)|(go_at_call 134;refine(hMb _).mono ?_;rintro e w' ⟨rfl,hw⟩;obtain rfl:=hw.symm))
     exact⟨rfl,rfl,hR2.same⟩
  ·rw[if_neg hle];have HNX:Hid (∀W,dV w0 W a B rd at1->Calls prog 142 #[.pointer (some ⟨rd,0,none⟩),.int .i64 n] W fun e w'=>e=bad B.length/\Same [] W w'):=fun W hW=>xA w0 W a B rd at1 n hB hW (by omega) (by omega)
   go_enter func147,ntmps147
   go_wp2_with (first|(go_at_call 130;refine hN.mono ?_;rintro e w1 ⟨rfl,hR1,S1⟩;have c1:w1.cell? ⟨rd,1,none⟩=some (.int .i64 at1):=hR1.cell.cell? 1;have hX1:=HNX.out w1 hR1)|(go_at_call 142;refine hX1.mono ?_;rintro e w2 ⟨rfl,S2⟩;unfold bad))
   exact⟨rfl,rfl,hR1.same.step S2 (by simp)⟩
end
section
open Go.RowKit Go.Sort
variable [DecidableEq aN] [Inhabited aN] [Inhabited aF] [Inhabited ay]
theorem qP(w:World)(t:ByteArray)(hl:t.size<=140737488355328) :
 Calls prog 75 #[.string t] w fun e w'=>e=.returned (.int .i64 (dF t.data.toList:Nat))/\w'=w:=by
 have HSZ:Hid (t.size=t.data.toList.length):=by show _=_;rw[Array.length_toList];rfl
 go_enter func75,ntmps75
 go_wp2
 go_loopw [3,4] (fun n i wr=>∃k:Nat,k<=t.size/\i=.int .i64 k/\n=.int .i64 (dF (t.data.toList.take k):Nat)/\wr=w) (fun _ i _=>t.size-(intOf i).toNat)
 case atStart=>exact⟨0,Nat.zero_le _,rfl,rfl,rfl⟩
 case round=>
  obtain⟨k,hk,rfl,rfl,rfl⟩:=hrel;by_cases hkl:k<t.size
  ·have HS:Hid (dF (t.data.toList.take (k+1))=(dF (t.data.toList.take k)*31+t[k].toNat) % 65521):=by show _=_;rw[take_snoc t k hkl,yt]
   have hlt:=lM (t.data.toList.take k);have hbt:t[k].toNat<256:=t[k].toNat_lt;generalize dF (t.data.toList.take k)=m at *;have l1:(k:Int)<(t.size:Int):=by omega
   have hw1:IntKind.i64.wrap (31*(m:Int))=31*(m:Int):=IntWalk.i64_in _ (by omega);have hw2:IntKind.i64.wrap (31*(m:Int)+(t[k].toNat:Int))=31*(m:Int)+(t[k].toNat:Int):=IntWalk.i64_in _ (by omega);have hx1:(31*(m:Int)+(t[k].toNat:Int)).tmod 65521=(((m*31+t[k].toNat) % 65521:Nat):Int):=by
    rw[Int.tmod_eq_emod_of_nonneg (by omega)];omega
   go_wp2
   go_roundw
   case rel=>exact⟨k+1,by omega,by go_num,by rw[HS.out];first|rfl|(simp;done)|(congr 1;omega),by first|rfl|trivial⟩
   case measure=>simp[intOf];omega
  ·have ek:k=t.size:=by omega
   have HE:Hid (dF (t.data.toList.take k)=dF t.data.toList):=by show _=_;rw[ek,HSZ.out,List.take_length]
   have l1:(t.size:Int)<=(k:Int):=by omega
   clear ek
   go_wp2
   go_ret
   rw[HE.out];exact⟨rfl,rfl⟩
theorem fH(w:World)(n:Nat)(hn:n<65536) :
 Calls prog 71 #[.int .i64 n] w fun e w'=>e=.returned (.string ⟨(two n).toArray⟩)/\Same [] w w':=by
 have hT:=jF (w.alloc (.cells #[.int .u8 ((n:Int) / 256 % 256),.int .u8 ((n:Int) % 256)] 5)) w.heap.size 0 2 (two n) (di n) (fun i hi=>by
  have hA:=At.new w #[.int .u8 ((n:Int) / 256 % 256),.int .u8 ((n:Int) % 256)] 5;rw[Nat.zero_add,hA.cell?];unfold two bT
  match i,hi with
  | 0,_=>simp
  | 1,_=>simp) 2
 go_enter func71,ntmps71
 go_wp2
 go_ret
 exact⟨rfl,(Same.refl _ _).alloc _⟩
def ay.pick(v:ay)(n k:Nat):Option ByteArray:=if v.blocks[k]! = n then (if v.bC=⟨#[]⟩ then some v.data[k]! else if k<v.kept.length then some v.data[v.kept[k]!]! else none) else none
def ay.blk(v:ay)(n:Nat):Option ByteArray:=(List.range v.blocks.length).findSome? (v.pick n)
def aQ.blk(s:aQ)(n:Nat):ByteArray:=(s.af.findSome? (·.blk n)).getD eP
theorem rM{α β:Type}[Inhabited α]{l:List α}{f:α->Option β}{t:β}(i:Nat)(hi:i<l.length)(h0:∀x∈l.take i,f x=none)(h1:f l[i]! = some t):l.findSome? f=some t:=by
 rw[getElem!_pos l i hi]at h1;have e:l.findSome? f=(l.take i++l.drop i).findSome? f:=by rw[List.take_append_drop]
 rw[e,List.findSome?_append,List.findSome?_eq_none_iff.2 h0,Option.none_or,List.drop_eq_getElem_cons hi,List.findSome?_cons,h1]
theorem Q8{v:ay}{n:Nat}{t:ByteArray}(j:Nat)(hj:j<v.blocks.length)(h0:∀k,k<j->v.pick n k=none)(h1:v.pick n j=some t):v.blk n=some t:=by
 unfold ay.blk;refine rM j (by simpa using hj) (fun x hx=>h0 x ?_) ?_
 ·rw[List.take_range]at hx;have:=List.mem_range.1 hx;omega
 ·rw[getElem!_pos _ j (by simpa using hj),List.getElem_range];exact h1
theorem TR{v:ay}{n:Nat}(h0:∀k,k<v.blocks.length->v.pick n k=none):v.blk n=none:=by
 unfold ay.blk;exact List.findSome?_eq_none_iff.2 (fun x hx=>h0 x (List.mem_range.1 hx))
theorem rE(s:aQ)(n:Nat)(w:World)(h:aO w s)(hd:∀v∈s.af,(v.bC=⟨#[]⟩->v.blocks.length<=v.data.length)/\(v.bC≠⟨#[]⟩->∀x∈v.kept,x<v.data.length)) :
 Calls prog 74 #[.pointer (some ⟨s.rb,0,none⟩),.int .i64 n] w fun e w'=>e=.returned (.string (s.blk n))/\Same [] w w':=by
 obtain⟨cap,hp,h1,h2⟩:=h.pool;have c1:w.cell? ⟨s.rb,1,none⟩=some (.slice (s.lg.map fun b=>⟨b,0,none⟩) s.af.length cap):=hp.cell? 1;have hfew:=h.few;have zW:Hid (∀k t,k<s.af.length->(∀v∈s.af.take k,v.blk n=none)->(s.af[k]!).blk n=some t->s.blk n=t):=fun k t hk h0 h1=>by
  unfold aQ.blk;rw[rM k hk h0 h1];rfl
 have HNO:Hid ((∀v∈s.af,v.blk n=none)->s.blk n=eP):=fun h0=>by
  unfold aQ.blk;rw[List.findSome?_eq_none_iff.2 h0];rfl
 generalize s.blk n=res at *
 go_enter func74,ntmps74
 go_wp2
 go_loopw [5] (fun i wr=>∃k:Nat,k<=s.af.length/\i=.int .i64 k/\wr=w/\Hid (∀v∈s.af.take k,v.blk n=none)) (fun i _=>s.af.length-(intOf i).toNat)
 case atStart=>exact⟨0,Nat.zero_le _,rfl,rfl,by show ∀v∈_,_;simp⟩
 case round=>
  obtain⟨k,hk,rfl,rfl,HN⟩:=hrel;by_cases hkl:k<s.af.length
  ·obtain⟨b,hb,e1,hm⟩:=h.cell k hkl;have hvv:=h.af _ hm;obtain⟨hd1,hd2⟩:=hd _ hm;obtain⟨dc,bc,kc,hv,hdt,hbl,hk1,hk2⟩:=hvv.ex;have hbs:=hvv.blocks;have hks:=hvv.kept;have HV:Hid (∀t,(s.af[k]!).blk n=some t->res=t):=fun t ht=>zW.out k t hkl HN.out ht
   have e0:wr.cell? ⟨(s.af[k]!).vb,1,none⟩=some (.string (s.af[k]!).bC):=hv.cell? 1;have e2:wr.cell? ⟨(s.af[k]!).vb,2,none⟩=some (.slice (some ⟨(s.af[k]!).dg,0,none⟩) (s.af[k]!).data.length dc):=hv.cell? 2;have e3:wr.cell? ⟨(s.af[k]!).vb,3,none⟩=some (.slice (some ⟨(s.af[k]!).bg,0,none⟩) (s.af[k]!).blocks.length bc):=hv.cell? 3;have e4:wr.cell? ⟨(s.af[k]!).vb,4,none⟩=some (.slice ((s.af[k]!).kg.map fun g=>⟨g,0,none⟩) (s.af[k]!).kept.length kc):=hv.cell? 4;have hb':(s.lg.map fun b=>(⟨b,0,none⟩:Addr))=some ⟨b,0,none⟩:=by rw[hb];rfl
   rw[hb']at c1;have HT:Hid (s.af.take (k+1)=s.af.take k++[s.af[k]!]):=by show _=_;rw[List.take_succ_eq_append_getElem hkl,getElem!_pos s.af k hkl]
   have HDC:Hid (∀i,i<(s.af[k]!).data.length->wr.cell? ⟨(s.af[k]!).dg,i,none⟩=some (.string (s.af[k]!).data[i]!)):=fun i hi=>hdt.cell i hi
   have HBC:Hid (∀i,i<(s.af[k]!).blocks.length->wr.cell? ⟨(s.af[k]!).bg,i,none⟩=some (.int .i64 ((s.af[k]!).blocks[i]!:Nat))):=fun i hi=>hbl.cell i hi
   have HKC:Hid (∀i,i<(s.af[k]!).kept.length->∃g,(s.af[k]!).kg=some g/\wr.cell? ⟨g,i,none⟩=some (.int .i64 ((s.af[k]!).kept[i]!:Nat))):=fun i hi=>by
    cases hg:(s.af[k]!).kg with
    | none=>have:=(hk1 hg).1;rw[this]at hi;simp at hi
    | some g=>exact⟨g,rfl,(hk2 g hg).cell i hi⟩
   have HD1:Hid ((s.af[k]!).bC=⟨#[]⟩->(s.af[k]!).blocks.length<=(s.af[k]!).data.length):=hd1;have HD2:Hid ((s.af[k]!).bC≠⟨#[]⟩->∀x∈(s.af[k]!).kept,x<(s.af[k]!).data.length):=hd2;have hds:=hvv.data;generalize s.af[k]! = vv at *;have l1:(k:Int)<(s.af.length:Int):=by omega
   clear h hv hp hm hb' hb hvv hdt hbl hk1 hk2 hd1 hd2 zW
   go_wp2_with fail
   go_loop [7] (fun i=>∃j:Nat,j<=vv.blocks.length/\i=.int .i64 j/\Hid (∀k',k'<j->vv.pick n k'=none)) (fun i=>vv.blocks.length-(intOf i).toNat)
   case atStart=>exact⟨0,Nat.zero_le _,rfl,by show ∀k',_;intro k' hk';omega⟩
   case round=>
    obtain⟨j,hj,rfl,HJ⟩:=hrel;by_cases hjl:j<vv.blocks.length
    ·have cj:=HBC.out j hjl;have HPJ:Hid (∀t,vv.pick n j=some t->res=t):=fun t ht=>HV.out t (Q8 j hjl HJ.out ht)
     have HPE:Hid (vv.pick n j=if vv.blocks[j]! = n then (if vv.bC=⟨#[]⟩ then some vv.data[j]! else if j<vv.kept.length then some vv.data[vv.kept[j]!]! else none) else none):=rfl;generalize vv.blocks[j]! = y at *;have l2:(j:Int)<(vv.blocks.length:Int):=by omega
     by_cases hy:y=n
     ·subst hy;by_cases hof:vv.bC=⟨#[]⟩
      ·have cd:=HDC.out j (by have:=HD1.out hof;omega);have l3:(j:Int)<(vv.data.length:Int):=by have:=HD1.out hof;omega
       have HF:Hid (res=vv.data[j]!):=HPJ.out _ (by rw[HPE.out,if_pos rfl,if_pos hof]);generalize vv.data[j]! = dt at *;rw[hof]at e0
       go_wp2
       go_ret
       rw[HF.out];exact⟨rfl,Same.refl _ _⟩
      ·have aaK:vv.bC.toList.isEmpty=false:=by
        have:vv.bC.toList≠[]:=fun e=>hof (by
         rw[ByteArray.toList_eq]at e;apply ByteArray.ext;exact Array.toList_eq_nil_iff.1 e)
        cases hq:vv.bC.toList with
        | nil=>exact absurd hq this
        | cons a r=>rfl
       by_cases hkl2:j<vv.kept.length
       ·obtain⟨g,hg,ck⟩:=HKC.out j hkl2;rw[hg]at e4;simp only[Option.map_some]at e4;have hlt:vv.kept[j]!<vv.data.length:=HD2.out hof _ (by rw[getElem!_pos vv.kept j hkl2];exact List.getElem_mem hkl2);have cd:=HDC.out _ hlt;have l3:(j:Int)<(vv.kept.length:Int):=by omega
        have HF:Hid (res=vv.data[vv.kept[j]!]!):=HPJ.out _ (by rw[HPE.out,if_pos rfl,if_neg hof,if_pos hkl2]);generalize vv.kept[j]! = kj at *;generalize vv.data[kj]! = dt at *;have l4:(kj:Int)<(vv.data.length:Int):=by omega
        go_wp2_with fail
        go_quiet (fail)
        go_wp2
        go_ret
        rw[HF.out];exact⟨rfl,(Same.refl _ _).drewN _⟩
       ·have l3:(vv.kept.length:Int)<=(j:Int):=by omega
        have HF:Hid (vv.pick y j=none):=by show _=_;rw[HPE.out,if_pos rfl,if_neg hof,if_neg hkl2]
        go_wp2
        go_round
        case rel=>exact⟨j+1,by omega,by go_num,by
         show ∀k',_;intro k' hk';rcases Nat.lt_or_ge k' j with h'|h'
         ·exact HJ.out k' h'
         ·have:k'=j:=by omega
          subst this;exact HF.out⟩
        case measure=>simp[intOf];omega
     ·have hy':((y:Int) != (n:Int))=true:=by simp;omega
      have hy2:((y:Int) == (n:Int))=false:=beq_eq_false_iff_ne.2 (by omega);have HF:Hid (vv.pick n j=none):=by show _=_;rw[HPE.out,if_neg hy]
      go_wp2
      go_round
      case rel=>exact⟨j+1,by omega,by go_num,by
       show ∀k',_;intro k' hk';rcases Nat.lt_or_ge k' j with h'|h'
       ·exact HJ.out k' h'
       ·have:k'=j:=by omega
        subst this;exact HF.out⟩
      case measure=>simp[intOf];omega
    ·have ej:j=vv.blocks.length:=by omega
     have HB:Hid (vv.blk n=none):=TR (fun k' hk'=>HJ.out k' (by omega));clear HJ
     go_wp2_with fail
     go_roundw
     case rel=>exact⟨k+1,by omega,by go_num,by first|rfl|trivial,by
      show ∀v∈_,_;rw[HT.out];intro v hv;rcases List.mem_append.1 hv with hv|hv
      ·exact HN.out v hv
      ·simp at hv;subst hv;exact HB.out⟩
     case measure=>simp[intOf];omega
  ·have ek:k=s.af.length:=by omega
   subst ek;have HF:Hid (res=eP):=HNO.out (fun v hv=>HN.out v (by rw[List.take_length];exact hv));clear HN h hp
   go_wp2
   go_ret
   rw[HF.out];exact⟨rfl,Same.refl _ _⟩
def ay.kY(v:ay):Nat:=if v.bC=⟨#[]⟩ then 0 else if v.lost then 2 else 1
def VI(v:ay):List UInt8:=[UInt8.ofNat v.name.size]++v.name.data.toList++[UInt8.ofNat v.kY]++two v.data.length
def EI(r:aQ)(v:ay):List UInt8:=VI v++(if v.bC=⟨#[]⟩ then nums v.blocks else [UInt8.ofNat (posOf (r.af.map (·.name)) v.bC)]++nums v.blocks++nums v.kept)
def jC(r:aQ):List UInt8:=gq++two r.n++[UInt8.ofNat r.af.length]++r.af.flatMap (EI r)++(List.range r.n).flatMap fun k=>(r.blk k).data.toList
theorem BN{w:World}{s:St}{fr:List Nat}{r:aQ}(h:kD w s fr r){i:Nat}(hi:i<s.af.length):((r.af[i]!).bC=⟨#[]⟩↔(s.af[i]!).org=none):=by
 have hm:s.af[i]!∈s.af:=by rw[getElem!_pos s.af i hi];exact List.getElem_mem hi
 have hv:=h.rel.each i hi;rw[hv.bC];by_cases ho:(s.af[i]!).org=none
 ·rw[if_pos ho];exact⟨fun _=>ho,fun _=>rfl⟩
 ·rw[if_neg ho];refine⟨fun e=>?_,fun e=>absurd e ho⟩
  exfalso
  have h1:=h.good.names _ (h.pool.aB hm).1;rw[e]at h1;have h2:nameB ⟨#[]⟩=false:=rfl;rw[h2]at h1;cases h1
theorem WJ{w:World}{s:St}{fr:List Nat}{r:aQ}(h:kD w s fr r){i:Nat}(hi:i<s.af.length):EI r (r.af[i]!)=iD s (s.af[i]!):=by
 have hm:s.af[i]!∈s.af:=by rw[getElem!_pos s.af i hi];exact List.getElem_mem hi
 have hv:=h.rel.each i hi;have hof:=BN h hi;have hp:=(h.pool.af _ hm).plain;unfold EI iD VI headB;rw[hv.name,hv.size,hv.blocks,hv.kept,h.rel.names];by_cases ho:(s.af[i]!).org=none
 ·have e:(r.af[i]!).kY=(s.af[i]!).jv:=by
   unfold ay.kY aF.jv;rw[if_pos (hof.2 ho),(hp ho).2,ho];rfl
  rw[if_pos (hof.2 ho),e,ho]
 ·have hne:(r.af[i]!).bC≠⟨#[]⟩:=fun e=>ho (hof.1 e)
  obtain⟨b,hb⟩:∃b,(s.af[i]!).org=some b:=by
   cases hq:(s.af[i]!).org with
   | none=>exact absurd hq ho
   | some b=>exact⟨b,rfl⟩
  have e:(r.af[i]!).kY=(s.af[i]!).jv:=by
   unfold ay.kY aF.jv;rw[if_neg hne,hv.lost,hb];rfl
  rw[if_neg hne,e,hv.bC,if_neg ho,hb]
theorem aa7{w:World}{s:St}{fr:List Nat}{r:aQ}(h:kD w s fr r)(k:Nat)(hk:k<s.n):r.blk k=(s.bl[k]!).text:=by
 have hmm:∀i,i<s.af.length->s.af[i]!∈s.af:=fun i hi=>by rw[getElem!_pos s.af i hi];exact List.getElem_mem hi
 have hpick:∀i,i<s.af.length->∀a,a<(s.af[i]!).xs.length->(r.af[i]!).pick k a=if (s.af[i]!).xs[a]! = k/\((s.af[i]!).org=none\/a<(s.af[i]!).kept.length) then some (s.bl[k]!).text else none:=fun i hi a ha=>by
  have hv:=h.rel.each i hi;have hof:=BN h hi;have hm:=hmm i hi;have hva:=h.pool.af _ hm;obtain⟨g1,g2,g3,g4⟩:=h.pool.aB hm;unfold ay.pick;rw[hv.blocks,hv.kept];by_cases hx:(s.af[i]!).xs[a]! = k
  ·rw[if_pos hx];by_cases ho:(s.af[i]!).org=none
   ·rw[if_pos (hof.2 ho),if_pos ⟨hx,Or.inl ho⟩];have hsz:s.size (s.af[i]!)=(s.af[i]!).xs.length:=by unfold St.size;rw[g3 ho]
    rw[hv.data (hva.plain ho).2 a (by omega)];unfold St.look St.holder;rw[hva.fE ho,if_neg (by simp),g3 ho,hx]
   ·rw[if_neg (fun e=>ho (hof.1 e))];by_cases hkl:a<(s.af[i]!).kept.length
    ·rw[if_pos hkl,if_pos ⟨hx,Or.inr hkl⟩];obtain⟨p1,p2,p3⟩:=h.good.dN _ hm;have ZK:(s.af[i]!).lost=false:=by
      cases hq:(s.af[i]!).lost with
      | false=>rfl
      | true=>rw[p2 hq]at hkl;simp at hkl
     have hmem:(s.af[i]!).kept[a]!∈(s.af[i]!).kept:=by rw[getElem!_pos _ a hkl];exact List.getElem_mem hkl
     have hlt:(s.af[i]!).kept[a]!<s.size (s.af[i]!):=(p3 _ g1 (g4 ho)).1 _ hmem;rw[hv.data ZK _ hlt];unfold St.look St.holder;rw[if_pos hmem];have hidx:(s.af[i]!).kept.idxOf ((s.af[i]!).kept[a]!)=a:=by
      rw[getElem!_pos _ a hkl];exact p1.idxOf_getElem a hkl
     rw[hidx,hx]
    ·rw[if_neg hkl,if_neg (fun hc=>hc.2.elim ho hkl)]
  ·rw[if_neg hx,if_neg (fun hc=>hx hc.1)]
 have IJ:∀i,i<s.af.length->(r.af[i]!).blocks.length=(s.af[i]!).xs.length:=fun i hi=>by rw[(h.rel.each i hi).blocks]
 have hv:∀v∈r.af,∃i,i<s.af.length/\v=r.af[i]!:=fun v hv=>by
  obtain⟨i,hi,e⟩:=List.getElem_of_mem hv;have:=h.rel.len;exact⟨i,by omega,by rw[getElem!_pos _ i hi];exact e.symm⟩
 unfold aQ.blk;cases hf:r.af.findSome? (·.blk k) with
 | some t=>
  obtain⟨v,hvm,ht⟩:=List.exists_of_findSome?_eq_some hf;obtain⟨i,hi,rfl⟩:=hv v hvm;unfold ay.blk at ht;obtain⟨a,ha,hp⟩:=List.exists_of_findSome?_eq_some ht;have ha:=List.mem_range.1 ha;rw[IJ i hi]at ha;rw[hpick i hi a ha]at hp;by_cases hc:(s.af[i]!).xs[a]! = k/\((s.af[i]!).org=none\/a<(s.af[i]!).kept.length)
  ·rw[if_pos hc]at hp;cases hp;rfl
  ·rw[if_neg hc]at hp;cases hp
 | none=>
  show eP=_;have hz:s.bl[k]! = aN.zero:=by
   rcases List.mem_append.1 (h.good.parts.mem_iff.2 (List.mem_range.2 hk)) with hm|hm
   ·exact h.good.zero k hm
   ·obtain⟨v,hvm,hx⟩:=List.mem_flatMap.1 hm;obtain⟨i,hi,e⟩:=List.getElem_of_mem hvm;have e:s.af[i]! = v:=by rw[getElem!_pos _ i hi];exact e
    obtain⟨a,ha,hxa⟩:=List.getElem_of_mem hx;have hir:i<r.af.length:=by rw[h.rel.len];exact hi
    have hnone:=List.findSome?_eq_none_iff.1 hf (r.af[i]!) (by rw[getElem!_pos _ i hir];exact List.getElem_mem hir);unfold ay.blk at hnone;have hpn:=List.findSome?_eq_none_iff.1 hnone a (List.mem_range.2 (by rw[IJ i hi,e];exact ha));rw[hpick i hi a (by rw[e];exact ha),e]at hpn;have hxk:v.xs[a]! = k:=by rw[getElem!_pos _ a ha];exact hxa
    have hc:¬(v.org=none\/a<v.kept.length):=fun hc=>by
     rw[if_pos ⟨hxk,hc⟩]at hpn;cases hpn
    have hsp:=h.spare i hi;rw[e]at hsp;refine hsp (fun ho=>hc (Or.inl ho)) k ?_;rw[<-hxa];refine List.mem_drop_iff_getElem.2 ⟨a-v.kept.length,?_,?_⟩
    ·have:¬a<v.kept.length:=fun hx=>hc (Or.inr hx)
     omega
    ·have:¬a<v.kept.length:=fun hx=>hc (Or.inr hx)
     congr 1
     omega
  rw[hz];exact aN.tV.symm
theorem UB{w:World}{s:St}{fr:List Nat}{r:aQ}(h:kD w s fr r):jC r=qh s:=by
 unfold jC qh;have e1:r.af.flatMap (EI r)=mQ s s.af:=by
  unfold mQ;rw[List.flatMap_def,List.flatMap_def]
  congr 1
  apply List.ext_getElem
  ·simp[h.rel.len]
  ·intro i h1 h2;have hi:i<s.af.length:=by simpa using h2
   have hir:i<r.af.length:=by rw[h.rel.len];exact hi
   have:=WJ h hi;rw[getElem!_pos s.af i hi,getElem!_pos r.af i hir]at this;simpa using this
 have e2:(List.range r.n).flatMap (fun k=>(r.blk k).data.toList)=s.bl.flatMap aN.bytes:=by
  have hbl:=h.pool.disk.len;rw[List.flatMap_def,List.flatMap_def]
  congr 1
  apply List.ext_getElem
  ·simp[h.rel.n,hbl]
  ·intro k h1 h2;have hk:k<s.bl.length:=by simpa using h2
   simp only[List.getElem_map,List.getElem_range];rw[aa7 h k (by omega),getElem!_pos _ k hk,aN.text_eq];rfl
 rw[e1,e2,h.rel.n,h.rel.len]
theorem jD(w:World)(n:Nat)(hn:n<256) :
 Calls prog 72 #[.int .i64 n] w fun e w'=>e=.returned (.string ⟨#[UInt8.ofNat n]⟩)/\Same [] w w':=by
 have hT:=jF (w.alloc (.cells #[.int .u8 ((n:Int) % 256)] 5)) w.heap.size 0 1 [UInt8.ofNat n] rfl (fun i hi=>by
  have hA:=At.new w #[.int .u8 ((n:Int) % 256)] 5;rw[Nat.zero_add,hA.cell?];unfold bT
  match i,hi with
  | 0,_=>simp) 1
 go_enter func72,ntmps72
 go_wp2
 go_ret
 exact⟨rfl,(Same.refl _ _).alloc _⟩
theorem CY(s:aQ)(t:ByteArray)(w:World)(h:aO w s)(i:Nat)(hi:i<s.af.length)(he:(s.af[i]!).name=t)(hf:∀j,j<i->(s.af[j]!).name≠t) :
 Calls prog 73 #[.pointer (some ⟨s.rb,0,none⟩),.string t] w fun e w'=>e=.returned (.int .i64 (i:Int))/\w'=w:=by
 obtain⟨cap,hp,h1,h2⟩:=h.pool;have c1:w.cell? ⟨s.rb,1,none⟩=some (.slice (s.lg.map fun b=>⟨b,0,none⟩) s.af.length cap):=hp.cell? 1;have hfew:=h.few
 go_enter func73,ntmps73
 go_wp2
 go_loopw [5] (fun k wr=>∃j:Nat,j<=i/\k=.int .i64 j/\wr=w) (fun k _=>s.af.length-(intOf k).toNat)
 case atStart=>exact⟨0,Nat.zero_le _,rfl,rfl⟩
 case round=>
  obtain⟨j,hj,rfl,rfl⟩:=hrel;have hjl:j<s.af.length:=by omega
  obtain⟨b,hb,e1,hm⟩:=h.cell j hjl;obtain⟨dc,bc,kc,hv,_⟩:=(h.af _ hm).ex;have e0:wr.cell? ⟨(s.af[j]!).vb,0,none⟩=some (.string (s.af[j]!).name):=hv.cell? 0;have hb':(s.lg.map fun b=>(⟨b,0,none⟩:Addr))=some ⟨b,0,none⟩:=by rw[hb];rfl
  rw[hb']at c1;have l1:(j:Int)<(s.af.length:Int):=by omega
  by_cases hji:j=i
  ·subst hji;rw[he]at e0;generalize s.af[j]! = vv at *;clear hv hm hf hp h
   go_wp2
   go_ret
   exact⟨rfl,rfl⟩
  ·have hne:=hf j (by omega);have hnb:((s.af[j]!).name.toList == t.toList)=false:=by
    rw[beq_eq_false_iff_ne];intro e;apply hne;apply ByteArray.ext;rw[ByteArray.toList_eq,ByteArray.toList_eq]at e;exact Array.toList_inj.1 e
   generalize s.af[j]! = vv at *;clear hv hm hf hp h he
   go_wp2
   go_roundw
   case rel=>exact⟨j+1,by omega,by go_num,by first|rfl|trivial⟩
   case measure=>simp[intOf];omega
end
section
open Go.RowKit Go.Sort
variable [DecidableEq aN] [Inhabited aN] [Inhabited aF]
def xI:Option Nat->Int
 | none=>-1
 | some q=>q
def aX(bd:Option Nat)(ok:Bool)(q:Nat):Option Nat:=
 match bd with
 | some x=>some x
 | none=>if ok then none else some q
structure bY(w0 w:World)(sb:Nat)(B:List UInt8)(at_:Nat)(bd:Option Nat):Prop where
 cell:At w sb 156 [.string ⟨B.toArray⟩,.int .i64 at_,.int .i64 (xI bd)]
 new:w0.heap.size<=sb
 same:Same [] w0 w
 le:at_<=B.length
theorem bY.next{w0 w w':World}{sb:Nat}{B:List UInt8}{at_:Nat}{bd:Option Nat}(h:bY w0 w sb B at_ bd){S:List Nat}(hs:Same S w w')(hn:sb∉S)(hS:∀k∈S,w0.heap.size<=k):bY w0 w' sb B at_ bd:=
 ⟨hs.at h.cell hn,h.new,h.same.step hs (fun k hk hl=>by have:=hS k hk;omega),h.le⟩
theorem cO(w0 w:World)(sb:Nat)(B:List UInt8)(at_:Nat)(bd:Option Nat)(ok:Bool)(q:Nat)(v:Int)(hv:v=q)(h:bY w0 w sb B at_ bd) :
 Calls prog 109 #[.pointer (some ⟨sb,0,none⟩),.bool ok,.int .i64 v] w fun e w'=>e=.returned (.tuple #[])/\bY w0 w' sb B at_ (aX bd ok q)/\Same [sb] w w':=by
 subst hv;have hnot:=bP;have c2:w.cell? ⟨sb,2,none⟩=some (.int .i64 (xI bd)):=h.cell.cell? 2;have f2:w.frozen? ⟨sb,2,none⟩=false:=h.cell.frozen 2;have HR:Hid (bY w0 w sb B at_ bd):=h;clear h;cases ok with
 | true=>
  have e:aX bd true q=bd:=by cases bd<;>rfl
  rw[e]
  go_enter func109,ntmps109
  go_wp2
  go_end0
  exact⟨rfl,HR.out,Same.refl _ _⟩
 | false=>
  cases bd with
  | some x=>
   have hb:¬((x:Int)<0):=by omega
   simp only[xI]at c2
   go_enter func109,ntmps109
   go_wp2
   go_end0
   exact⟨rfl,HR.out,Same.refl _ _⟩
  | none=>
   simp only[xI]at c2;have S2:Same [sb] w (w.setCell ⟨sb,2,none⟩ (.int .i64 (q:Int))):=(Same.refl _ _).set _ _ _ (by simp);have HF:Hid (bY w0 (w.setCell ⟨sb,2,none⟩ (.int .i64 (q:Int))) sb B at_ (some q)):=
    ⟨HR.out.cell.ax 2 _,HR.out.new,HR.out.same.step S2 (fun k hk hl=>by simp at hk;have:=HR.out.new;omega),HR.out.le⟩
   go_enter func109,ntmps109
   go_wp2
   go_end0
   exact⟨rfl,HF.out,S2⟩
def ig(B:List UInt8)(n at_:Nat)(bd:Option Nat):ByteArray×Nat×Option Nat:=
 match bd with
 | some q=>(⟨#[]⟩,at_,some q)
 | none=>if at_+n<=B.length then (aH B at_ n,at_+n,none) else (⟨#[]⟩,at_,some B.length)
theorem VY(B:List UInt8)(i j n:Nat)(hj:i+n=j):(⟨B.toArray⟩:ByteArray).extract i j=aH B i n:=by
 subst hj;apply ByteArray.ext;simp[aH,ByteArray.data_extract,List.extract_eq_take_drop]
theorem lX(w0 w:World)(sb:Nat)(B:List UInt8)(n at_:Nat)(bd:Option Nat)(t:ByteArray)(at1:Nat)(bd1:Option Nat)(v:Int)(hv:v=n)(hn:n<=1000000)(hl:B.length<=140737488355328)(h:bY w0 w sb B at_ bd)(hX:ig B n at_ bd=(t,at1,bd1)) :
 Calls prog 108 #[.pointer (some ⟨sb,0,none⟩),.int .i64 v] w fun e w'=>e=.returned (.string t)/\bY w0 w' sb B at1 bd1/\Same [sb] w w':=by
 subst hv;have hat:=h.le;have hsz:(⟨B.toArray⟩:ByteArray).size=B.length:=by simp[ByteArray.size]
 have c0:w.cell? ⟨sb,0,none⟩=some (.string ⟨B.toArray⟩):=h.cell.cell? 0;have c1:w.cell? ⟨sb,1,none⟩=some (.int .i64 at_):=h.cell.cell? 1;have hadd:IntKind.i64.wrap ((at_:Int)+(n:Int))=((at_+n:Nat):Int):=by rw[IntWalk.i64_in _ (by omega)];omega
 have HR:Hid (bY w0 w.drew sb B at_ bd):=h.next (Same.refl [] w).drew (by simp) (by simp);have HS:Hid (∀w',Same [sb] w.drew w'->Same [sb] w w'):=fun w' hw'=>((Same.refl [sb] w).drew).step hw' (fun k hk _=>hk)
 have hM:=fun ok=>cO w0 w.drew sb B at_ bd ok B.length (B.length:Int) rfl HR.out
 clear h;cases bd with
 | some q=>
  simp only[ig,Prod.mk.injEq]at hX;obtain⟨rfl,rfl,rfl⟩:=hX;have fin:∀ok,Calls prog 109 #[.pointer (some ⟨sb,0,none⟩),.bool ok,.int .i64 (B.length:Int)] w.drew fun e w'=>e=.returned (.tuple #[])/\w'.cell? ⟨sb,2,none⟩=some (.int .i64 (q:Int))/\Hid (bY w0 w' sb B at_ (some q)/\Same [sb] w w'):=fun ok=>by
   refine(hM ok).mono ?_;rintro e w1 ⟨rfl,h1,S1⟩;exact⟨rfl,h1.cell.cell? 2,h1,HS.out _ S1⟩
  have hq:(0:Int)<=(q:Int):=by omega
  have hq':¬((q:Int)<0):=by omega
  clear hM HR HS;have hM':=fin (decide ((at_:Int)+(n:Int)<=(B.length:Int)));clear fin
  go_enter func108,ntmps108
  go_wp2_with fail
  refine aU 18 (by kernel_rfl) (by kernel_rfl) ?_;simp only[List.take_succ_cons,List.take_zero,List.drop_succ_cons,List.drop_zero]
  repeat still_step
  refine wpStill_nil ?_
  go_wp2_with fail
  refine hM'.mono ?_;rintro e w1 ⟨rfl,d2,HF⟩
  go_wp2
  go_ret
  exact⟨rfl,HF.out⟩
 | none=>
  by_cases hle:at_+n<=B.length
  ·have hdc:decide ((at_:Int)+(n:Int)<=(B.length:Int))=true:=by simp;omega
   simp only[ig,if_pos hle,Prod.mk.injEq]at hX;obtain⟨rfl,rfl,rfl⟩:=hX;have fin:Calls prog 109 #[.pointer (some ⟨sb,0,none⟩),.bool (decide ((at_:Int)+(n:Int)<=(B.length:Int))),.int .i64 (B.length:Int)] w.drew fun e w'=>e=.returned (.tuple #[])/\w'.cell? ⟨sb,0,none⟩=some (.string ⟨B.toArray⟩)/\w'.cell? ⟨sb,1,none⟩=some (.int .i64 at_)/\w'.frozen? ⟨sb,1,none⟩=false/\w'.cell? ⟨sb,2,none⟩=some (.int .i64 (-1))/\Hid (bY w0 (w'.setCell ⟨sb,1,none⟩ (.int .i64 ((at_:Int)+(n:Int)))) sb B (at_+n) none/\Same [sb] w (w'.setCell ⟨sb,1,none⟩ (.int .i64 ((at_:Int)+(n:Int))))):=by
    rw[hdc];refine(hM true).mono ?_;rintro e w1 ⟨rfl,h1,S1⟩;have S2:Same [sb] w (w1.setCell ⟨sb,1,none⟩ (.int .i64 ((at_:Int)+(n:Int)))):=(HS.out _ S1).set _ _ _ (by simp);have e0:Same [] w0 w:=⟨HR.out.same.os,HR.out.same.tape,HR.out.same.output,HR.out.same.size,HR.out.same.block⟩
    refine⟨rfl,h1.cell.cell? 0,h1.cell.cell? 1,h1.cell.frozen 1,h1.cell.cell? 2,⟨?_,h1.new,?_,hle⟩,S2⟩
    ·have:=h1.cell.ax 1 (.int .i64 ((at_:Int)+(n:Int)));rw[show((at_+n:Nat):Int)=(at_:Int)+(n:Int) by omega];exact this
    ·exact e0.step S2 (fun k hk hl=>by simp at hk;have:=h1.new;omega)
   have hcut:=VY B at_ (at_+n) n rfl;have hsub:IntKind.i64.wrap ((at_:Int)+(n:Int)-(n:Int))=(at_:Int):=by rw[IntWalk.i64_in _ (by omega)];omega
   have m1:(0:Int)<=(at_:Int):=by omega
   have m2:(at_:Int)<=(at_:Int)+(n:Int):=by omega
   have m3:((at_:Int)).toNat=at_:=by omega
   have m4:((at_:Int)+(n:Int)).toNat=at_+n:=by omega
   have m5:(-1:Int)<0:=by omega
   have HLE:Hid _:=hle;clear hM HR HS hdc hle
   go_enter func108,ntmps108
   go_wp2_with fail
   refine aU 18 (by kernel_rfl) (by kernel_rfl) ?_;simp only[List.take_succ_cons,List.take_zero,List.drop_succ_cons,List.drop_zero]
   repeat still_step
   refine wpStill_nil ?_
   go_wp2_with fail
   refine fin.mono ?_;rintro e w1 ⟨rfl,d0,d1,d3,d2,HF⟩;clear fin;have hle':(at_:Int)+(n:Int)<=(B.length:Int):=by have:=HLE.out;omega
   go_wp2_with fail
   have e0:(w1.setCell ⟨sb,1,none⟩ (.int .i64 ((at_:Int)+(n:Int)))).cell? ⟨sb,1,none⟩=some (.int .i64 ((at_:Int)+(n:Int))):=HF.out.1.cell.cell? 1;have e1:(w1.setCell ⟨sb,1,none⟩ (.int .i64 ((at_:Int)+(n:Int)))).cell? ⟨sb,0,none⟩=some (.string ⟨B.toArray⟩):=HF.out.1.cell.cell? 0
   go_quiet (fail)
   go_wp2
   go_ret
   exact⟨rfl,HF.out.1.next ((Same.refl [] _).drewN _) (by simp) (by simp),HF.out.2.drewN _⟩
  ·have hdc:decide ((at_:Int)+(n:Int)<=(B.length:Int))=false:=by simp;omega
   simp only[ig,if_neg hle,Prod.mk.injEq]at hX;obtain⟨rfl,rfl,rfl⟩:=hX;have fin:Calls prog 109 #[.pointer (some ⟨sb,0,none⟩),.bool (decide ((at_:Int)+(n:Int)<=(B.length:Int))),.int .i64 (B.length:Int)] w.drew fun e w'=>e=.returned (.tuple #[])/\w'.cell? ⟨sb,2,none⟩=some (.int .i64 (B.length:Int))/\Hid (bY w0 w' sb B at_ (some B.length)/\Same [sb] w w'):=by
    rw[hdc];refine(hM false).mono ?_;rintro e w1 ⟨rfl,h1,S1⟩;exact⟨rfl,h1.cell.cell? 2,h1,HS.out _ S1⟩
   have hq:(0:Int)<=(B.length:Int):=by omega
   have HLE:Hid _:=hle;clear hM HR HS hdc hle
   go_enter func108,ntmps108
   go_wp2_with fail
   refine aU 18 (by kernel_rfl) (by kernel_rfl) ?_;simp only[List.take_succ_cons,List.take_zero,List.drop_succ_cons,List.drop_zero]
   repeat still_step
   refine wpStill_nil ?_
   go_wp2_with fail
   refine fin.mono ?_;rintro e w1 ⟨rfl,d2,HF⟩
   go_wp2
   go_ret
   exact⟨rfl,HF.out⟩
def bF(B:List UInt8)(n at_:Nat)(bd:Option Nat):Nat×Nat×Option Nat:=
 match bd with
 | some q=>(0,at_,some q)
 | none=>if at_+n<=B.length then (numAt B at_ n,at_+n,none) else (0,at_,some B.length)
theorem Es(B:List UInt8)(n at_:Nat)(bd:Option Nat):ig B n at_ bd=((ig B n at_ bd).1,(bF B n at_ bd).2.1,(bF B n at_ bd).2.2)/\jl (ig B n at_ bd).1.data.toList=(bF B n at_ bd).1/\(ig B n at_ bd).1.size<=n:=by
 unfold ig bF;cases bd with
 | some q=>exact⟨rfl,rfl,Nat.zero_le _⟩
 | none=>
  simp only
  split
  ·refine⟨rfl,by simp[aH,numAt],?_⟩;simp[aH,ByteArray.size];omega
  ·exact⟨rfl,rfl,Nat.zero_le _⟩
theorem nC(B:List UInt8)(n at_:Nat)(bd:Option Nat)(hn:n<=2):(bF B n at_ bd).1<65536:=by
 unfold bF;cases bd with
 | some q=>show 0<65536;omega
 | none=>
  simp only
  split
  ·exact Ld B at_ n hn
  ·show 0<65536;omega
theorem eG(w0 w:World)(sb:Nat)(B:List UInt8)(n at_:Nat)(bd:Option Nat)(x at1:Nat)(bd1:Option Nat)(v:Int)(hv:v=n)(hn:n<=2)(hl:B.length<=140737488355328)(h:bY w0 w sb B at_ bd)(hX:bF B n at_ bd=(x,at1,bd1)) :
 Calls prog 110 #[.pointer (some ⟨sb,0,none⟩),.int .i64 v] w fun e w'=>e=.returned (.int .i64 (x:Int))/\bY w0 w' sb B at1 bd1/\Same [sb] w w':=by
 obtain⟨h1,h2,h3⟩:=Es B n at_ bd;rw[hX]at h1 h2;simp only at h1 h2;generalize (ig B n at_ bd).1=t at *;have hT:=lX w0 w sb B n at_ bd t at1 bd1 v hv (by omega) hl h h1;have HSZ:Hid (t.size=t.data.toList.length):=by show _=_;rw[Array.length_toList];rfl
 have H2:Hid (jl t.data.toList=x):=h2;subst hv;clear h h1 hX h2
 go_enter func110,ntmps110
 go_wp2_with fail
 refine hT.mono ?_;rintro e w1 ⟨rfl,A1,S1⟩;have HF:Hid (bY w0 w1 sb B at1 bd1/\Same [sb] w w1):=⟨A1,S1⟩
 clear A1 S1 hT
 go_wp2_with fail
 go_loopw [6,7] (fun m i wr=>∃j:Nat,j<=t.size/\m=.int .i64 (jl (t.data.toList.take j):Nat)/\i=.int .i64 j/\wr=w1) (fun _ i _=>t.size-(intOf i).toNat)
 case atStart=>exact⟨0,Nat.zero_le _,rfl,rfl,rfl⟩
 case round=>
  obtain⟨j,hj,rfl,rfl,rfl⟩:=hrel;by_cases hjl:j<t.size
  ·have l1:(j:Int)<(t.size:Int):=by omega
   have HVN:Hid (jl (t.data.toList.take (j+1))=jl (t.data.toList.take j)*256+t[j].toNat):=by show _=_;rw[take_snoc t j hjl,EM]
   have hl2:jl (t.data.toList.take j)<256:=KL _ (by rw[List.length_take];have:=HSZ.out;omega);have hb:t[j].toNat<256:=t[j].toNat_lt;generalize jl (t.data.toList.take j)=m at *;have hw1:IntKind.i64.wrap (256*(m:Int))=256*(m:Int):=IntWalk.i64_in _ (by omega);have hw2:IntKind.i64.wrap (256*(m:Int)+(t[j].toNat:Int))=256*(m:Int)+(t[j].toNat:Int):=IntWalk.i64_in _ (by omega)
   go_wp2
   go_roundw
   case rel=>exact⟨j+1,by omega,by rw[HVN.out];go_num,by go_num,trivial⟩
   case measure=>simp[intOf];omega
  ·have l1:(t.size:Int)<=(j:Int):=by omega
   have e:j=t.size:=by omega
   rw[e,HSZ.out,List.take_length,H2.out,<-HSZ.out]
   go_wp2
   go_ret
   exact⟨rfl,HF.out⟩
theorem jM(t e:TypeId)(z:Value)(bytes n:Nat)(ht:prog.underlying t=some (.slice e))(hinfo:(prog.info? e).map (fun i=>(i.zero,i.size,i.bytes))=some (some z,1,bytes))(hz1:z.cells=#[z])(hb:bytes<=100)(hn:n<=1000) :
 ∃L:Array Value,L.toList=List.replicate n z/\∀W:World,(Instr.makeSlice t (.int .i64 (n:Int)) (.int .i64 (n:Int))).run prog W=.ok (.slice (some ⟨W.heap.size,0,none⟩) n n) (W.alloc (.cells L e)):=by
 obtain⟨i0,hi,hz0,hsz,hz2⟩:=info_parts hinfo;have hmul:i0.bytes*n<=100000:=by rw[hz2];exact Nat.le_trans (Nat.mul_le_mul hb hn) (by omega)
 refine⟨(List.replicate n z).toArray,by simp,fun W=>?_⟩;have h:=run_make (P:=prog) W t e i0 z ht hi hz0 .i64 .i64 (n:Int) (n:Int) (by omega) (by omega) (by
  have:((i0.bytes*n:Nat):Int)=(i0.bytes:Int)*(n:Int):=by simp
  first
   | omega
   | (simp;omega)) (by omega)
 rw[hsz]at h;have e1:(madeCells z.cells ((n:Int).toNat*1))=(List.replicate n z).toArray:=by
  apply Array.toList_inj.1;have:=toList_madeCells_one z n;rw[hz1];simpa using this
 rw[e1]at h;simpa using h
def seenCells(bound:Nat)(L:List Nat):List Value:=(List.range bound).map fun i=>.bool (decide (i∈L))
theorem jL(bound:Nat)(L:List Nat)(k:Nat)(hk:k<bound):(seenCells bound L)[k]? = some (.bool (decide (k∈L))):=by
 unfold seenCells;rw[List.getElem?_map,List.getElem?_range hk];rfl
theorem LW(bound:Nat)(L:List Nat)(k:Nat)(hk:k<bound):(seenCells bound L).set k (.bool true)=seenCells bound (L++[k]):=by
 apply List.ext_getElem?;intro i;unfold seenCells;rw[List.getElem?_set,List.length_map,List.length_range];by_cases h:k=i
 ·subst h;rw[if_pos rfl,if_pos hk,List.getElem?_map,List.getElem?_range hk];simp
 ·rw[if_neg h,List.getElem?_map,List.getElem?_map];by_cases hi:i<bound
  ·rw[List.getElem?_range hi];simp only[Option.map_some,List.mem_append,List.mem_singleton];have:¬i=k:=fun e=>h e.symm
   simp[this]
  ·rw[List.getElem?_eq_none (by simpa using hi)];rfl
theorem wB(bound:Nat):seenCells bound []=List.replicate bound (.bool false):=by
 unfold seenCells;apply List.ext_getElem
 ·simp
 ·intro i h1 h2;simp
theorem N9(B:List UInt8)(bound c:Nat)(seen acc:List Nat)(at_:Nat):cZ B bound (c+1) seen acc at_=match bJ B 2 0 (bound-1) at_ with
 | .error q=>.error q
 | .ok (k,at1)=>if k∈seen++acc then .error at_ else cZ B bound c seen (acc++[k]) at1:=rfl
structure zU(w0 w w':World)(a:Option Addr)(B:List UInt8)(rd tk bound:Nat)(L xs:List Nat)(at1 g:Nat):Prop where
 kE:dV w0 w' a B rd at1
 row:At w' g 3 (xs.map fun x:Nat=>Value.int .i64 x)
 seen:At w' tk 4 (seenCells bound (L++xs))
 new:w.heap.size<=g
 same:Same [rd,tk] w w'
def nZ(w0 w:World)(a:Option Addr)(B:List UInt8)(rd tk bound c:Nat)(L:List Nat)(spec:Except Nat (List Nat×Nat))(e:Ending)(w':World):Prop:=
 match spec with
 | .ok (xs,at1)=>∃g,e=.returned (.slice (some ⟨g,0,none⟩) c c)/\xs.length=c/\zU w0 w w' a B rd tk bound L xs at1 g
 | .error q=>e=bad q/\Same [] w0 w'
theorem kU(w0 w:World)(a:Option Addr)(B:List UInt8)(rd tk at_ c bound:Nat)(L:List Nat)(hB:bD w0 a B)(h:dV w0 w a B rd at_)(hT:At w tk 4 (seenCells bound L))(htk:w0.heap.size<=tk)(hne:tk≠rd)(hc:c<=200)(hb:1<=bound/\bound<=200) :
 Calls prog 148 #[.pointer (some ⟨rd,0,none⟩),.int .i64 c,.slice (some ⟨tk,0,none⟩) bound bound] w (nZ w0 w a B rd tk bound c L (cZ B bound c L [] at_)):=by
 have hnot:=bP;obtain⟨LB,hLB,hmk⟩:=jM 51 3 (.int .i64 0) 8 c underlying51 Tryz.info3 rfl (by omega) (by omega);have hnew:=h.new;have hrl:=h.cell.lt;have htl:=hT.lt;generalize hspec:cZ B bound c L [] at_=spec;have HSP:Hid (cZ B bound c L [] at_=spec):=hspec;clear hspec;have S0:Same [] w (w.alloc (.cells LB 3)):=(Same.refl _ _).alloc _;have A0:=At.new w LB 3;rw[hLB]at A0;have HI0:Hid (dV w0 (w.alloc (.cells LB 3)) a B rd at_/\At (w.alloc (.cells LB 3)) tk 4 (seenCells bound L)/\At (w.alloc (.cells LB 3)) w.heap.size 3 (List.replicate c (.int .i64 0))/\Same [rd,tk] w (w.alloc (.cells LB 3))):=⟨h.next S0 (by simp) (by simp),S0.at hT (by simp),A0,S0.mono (by simp)⟩
 have HBO:Hid (bD w0 a B):=hB;clear h hT A0 S0 hLB hB
 go_enter func148,ntmps148
 go_wp2
 go_loopw [14] (fun i wr=>∃(k ati:Nat)(acc:List Nat),k<=c/\i=.int .i64 k/\acc.length=k/\dV w0 wr a B rd ati/\At wr tk 4 (seenCells bound (L++acc))/\At wr w.heap.size 3 (acc.map (fun x:Nat=>Value.int .i64 x)++List.replicate (c-k) (.int .i64 0))/\Same [rd,tk] w wr/\Hid (cZ B bound (c-k) L acc ati=spec)) (fun i _=>c-(intOf i).toNat)
 case atStart=>exact⟨0,at_,[],Nat.zero_le _,rfl,rfl,HI0.out.1,by simpa using HI0.out.2.1,by simpa using HI0.out.2.2.1,HI0.out.2.2.2,HSP.out⟩
 case round=>
  obtain⟨k,ati,acc,hk,rfl,hal,hR,hTk,hA,hS,HQ⟩:=hrel;have HOLD:Hid (Same [] w0 wr):=hR.same;by_cases hkl:k<c
  ·have eck:c-k=(c-k-1)+1:=by omega
   have c1:wr.cell? ⟨rd,1,none⟩=some (.int .i64 ati):=hR.cell.cell? 1;have l1:(k:Int)<(c:Int):=by omega
   have OU:w.heap.size≠rd:=by omega
   have ZL:w.heap.size≠tk:=by omega
   have q0:=HQ.out;rw[eck,N9]at q0;cases hs:bJ B 2 0 (bound-1) ati with
   | error q=>
    rw[hs]at q0;have HE:Hid (spec=.error q):=q0.symm;have hN:=eX w0 wr a B rd ati 2 0 (bound-1) q 2 0 ((bound:Int)-1) HBO.out hR (by omega) hs rfl rfl (by omega);clear hR hTk hA q0 HQ
    go_wp2_with (go_at_call 130;refine hN.mono ?_;rintro e w1 ⟨rfl,S1⟩;unfold bad)
    refine⟨rfl,?_⟩;show nZ _ _ _ _ _ _ _ _ _ _ _ _;rw[HE.out];exact⟨rfl,S1⟩
   | ok p=>
    obtain⟨x,at1⟩:=p;rw[hs]at q0;simp only at q0;have hN:=fO w0 wr a B rd ati 2 0 (bound-1) x at1 2 0 ((bound:Int)-1) HBO.out hR (by omega) hs rfl rfl (by omega);have hxb:x<bound:=by have:=(dJ hs).2.2.1;omega
    have HA:Hid (At wr tk 4 (seenCells bound (L++acc))/\At wr w.heap.size 3 (acc.map (fun x:Nat=>Value.int .i64 x)++List.replicate (c-k) (.int .i64 0))):=⟨hTk,hA⟩
    have HX:Hid ((acc.map (fun x:Nat=>Value.int .i64 x)++List.replicate (c-k) (Value.int .i64 0)).set k (Value.int .i64 (x:Nat))=((acc++[x]).map (fun x:Nat=>Value.int .i64 x)++List.replicate (c-(k+1)) (Value.int .i64 0))):=by
     show _=_;rw[List.set_append_right _ _ (by simp;omega),List.map_append,List.append_assoc]
     congr 1
     rw[List.length_map,hal,Nat.sub_self,show c-k=(c-(k+1))+1 by omega,List.replicate_succ,List.set_cons_zero];rfl
    have HD:Hid ((acc.map (fun x:Nat=>Value.int .i64 x)++List.replicate (c-k) (Value.int .i64 0))[k]? = some (.int .i64 0)):=by
     show _=_;rw[List.getElem?_append_right (by simp;omega),List.length_map,hal,Nat.sub_self,eck,List.replicate_succ];rfl
    clear hR hTk hA HQ;by_cases hin:x∈L++acc
    ·rw[if_pos hin]at q0;have HE:Hid (spec=.error ati):=q0.symm;have hMb:=fun W=>kS ati W
     unfold bad at hMb;have hsn:=jL bound (L++acc) x hxb;rw[decide_eq_true hin]at hsn;have HSN:Hid _:=hsn;clear q0 hsn hin
     go_wp2_with (first|(go_at_call 130;refine hN.mono ?_;rintro e w1 ⟨rfl,hR1,S1⟩;have B1:=S1.at HA.out.2 (by simpa using OU);have T1:=S1.at HA.out.1 (by simpa using hne);have d1:w1.cell? ⟨w.heap.size,k,none⟩=some (.int .i64 0):=(B1.cell? k).trans HD.out;have f1:=B1.frozen k;have d2:w1.cell? ⟨tk,x,none⟩=some (.bool true):=(T1.cell? x).trans HSN.out;have HS1:Hid (Same [] w0 (w1.setCell ⟨w.heap.size,k,none⟩ (.int .i64 (x:Nat)))):=(hR1.same.set _ _ _ (by intro hh;have:=HOLD.out.size;omega));clear B1 T1 hR1)|(go_at_call 134;refine(hMb _).mono ?_;rintro e w' ⟨rfl,hw⟩;obtain rfl:=hw.symm))
     refine⟨rfl,?_⟩;show nZ _ _ _ _ _ _ _ _ _ _ _ _;rw[HE.out];exact⟨rfl,HS1.out⟩
    ·rw[if_neg hin]at q0;have HE:Hid (cZ B bound (c-(k+1)) L (acc++[x]) at1=spec):=by
      show _=_;rw[<-q0];rfl
     have hM:=fun W q=>kN q W
     have hsn:=jL bound (L++acc) x hxb;rw[decide_eq_false hin]at hsn;have HSN:Hid _:=hsn;clear q0 hsn hin;have hkl3:(x:Int)<(bound:Int):=by omega
     go_wp2_with (first|(go_at_call 130;refine hN.mono ?_;rintro e w1 ⟨rfl,hR1,S1⟩;have B1:=S1.at HA.out.2 (by simpa using OU);have T1:=S1.at HA.out.1 (by simpa using hne);have d1:w1.cell? ⟨w.heap.size,k,none⟩=some (.int .i64 0):=(B1.cell? k).trans HD.out;have f1:=B1.frozen k;have d2:w1.cell? ⟨tk,x,none⟩=some (.bool false):=(T1.cell? x).trans HSN.out;have f2:=T1.frozen x;have HS1:Hid (dV w0 w1 a B rd at1/\Same [rd] wr w1/\At w1 w.heap.size 3 (acc.map (fun x:Nat=>Value.int .i64 x)++List.replicate (c-k) (Value.int .i64 0))/\At w1 tk 4 (seenCells bound (L++acc))):=⟨hR1,S1,B1,T1⟩;clear B1 T1 hR1)|(go_at_call 134;refine(hM _ _).mono ?_;rintro e w' ⟨rfl,hw⟩;obtain rfl:=hw.symm))
     go_roundw
     case rel=>
      obtain⟨hR1,S1',B1,T1⟩:=HS1.out;have S2:Same [w.heap.size,tk] w1 ((w1.setCell ⟨w.heap.size,k,none⟩ (.int .i64 (x:Nat))).setCell ⟨tk,x,none⟩ (.bool true)):=((Same.refl _ _).set _ _ _ (by simp)).set _ _ _ (by simp);refine⟨k+1,at1,acc++[x],by omega,by go_num,by simp[hal],hR1.next S2 (by simp;exact⟨fun e=>OU e.symm,fun e=>hne e.symm⟩) (by intro q hq;simp at hq;rcases hq with rfl|rfl<;>omega),?_,?_,?_,HE.out⟩
      ·have:=(T1.aP w.heap.size k (.int .i64 (x:Nat)) (fun e=>ZL e.symm)).ax x (.bool true);rw[LW bound (L++acc) x hxb,List.append_assoc]at this;exact this
      ·have:=(B1.ax k (.int .i64 (x:Nat))).aP tk x (.bool true) ZL;rw[HX.out]at this;exact this
      ·refine(hS.step S1' (by intro q hq _;simp at hq;simp[hq])).step S2 (fun q hq hl=>?_);simp at hq;rcases hq with rfl|rfl
       ·omega
       ·simp
     case measure=>simp[intOf];omega
  ·have ek:k=c:=by omega
   subst ek;have q0:=HQ.out;rw[Nat.sub_self]at q0 hA;have HE:Hid (spec=.ok (acc,ati)):=q0.symm;have HF:Hid (zU w0 w wr a B rd tk bound L acc ati w.heap.size):=⟨hR,by simpa using hA,hTk,Nat.le_refl _,hS⟩
   clear hR hTk hA hS HQ q0
   go_wp2
   first
    | (show nZ _ _ _ _ _ _ _ _ _ _ _ _;rw[HE.out];exact⟨_,rfl,hal,HF.out⟩)
    | (go_ret;show nZ _ _ _ _ _ _ _ _ _ _ _ _;rw[HE.out];exact⟨_,rfl,hal,HF.out⟩)
def lZ(k at_:Nat)(l:List Nat)(bd:Option Nat):Option Nat:=l.foldl (fun b y=>aX b (decide (y≠k)) at_) bd
def gK(B:List UInt8)(bound:Nat):Nat->List Nat->Nat->Option Nat->List Nat×Nat×Option Nat
 | 0,l,at_,bd=>(l,at_,bd)
 | _+1,l,at_,some q=>(l,at_,some q)
 | c+1,l,at_,none=>gK B bound c (l++[(bF B 2 at_ none).1]) (bF B 2 at_ none).2.1 (lZ (bF B 2 at_ none).1 at_ l (aX (bF B 2 at_ none).2.2 (decide ((bF B 2 at_ none).1<bound)) at_))
def bK(l:List Nat):List Value:=l.map fun x:Nat=>Value.int .i64 x
theorem U1{w:World}{base:Nat}{a:Option Addr}{cap:Nat}{L:List Nat}(h:w.ownsRow base 3 1 (.slice a L.length cap) L.length (bK L))(j:Nat)(hj:j<L.length):∃g,a=some ⟨g,0,none⟩/\w.cell? ⟨g,j,none⟩=some (.int .i64 ((L[j]!:Nat):Int)):=by
 obtain⟨g,cs,rfl,hbg,hAg,hcl,hct⟩:=iw h (by omega);refine⟨g,rfl,?_⟩;rw[hAg.cell?];have:(cs.take (L.length*1))[j]? = cs[j]?:=by rw[List.getElem?_take,if_pos (by omega)]
 rw[<-this,hct];simp[bK,List.getElem?_map,List.getElem?_eq_getElem hj,getElem!_pos L j hj]
theorem NE(k at_:Nat)(l:List Nat)(bd:Option Nat)(j:Nat)(hj:j<l.length):lZ k at_ (l.take (j+1)) bd=aX (lZ k at_ (l.take j) bd) (decide (l[j]!≠k)) at_:=by
 unfold lZ;rw[List.take_succ_eq_append_getElem hj,List.foldl_append,getElem!_pos l j hj];rfl
structure yV(w0 w w':World)(sb base:Nat)(B:List UInt8)(v v':Value)(r:List Nat×Nat×Option Nat):Prop where
 sc:bY w0 w' sb B r.2.1 r.2.2
 own:w'.ownsRow base 3 1 v' r.1.length (bK r.1)
 lies:v'.ownBlock=v.ownBlock\/∃g,v'.ownBlock=some g/\w.heap.size<=g
 same:Same (sb::v.ownBlock.toList) w w'
theorem qR(w0 w:World)(sb base:Nat)(B:List UInt8)(c bound at_:Nat)(bd:Option Nat)(L:List Nat)(lv:Value)(vc vb:Int)(hvc:vc=c)(hvb:vb=bound)(hl:B.length<=140737488355328)(h:bY w0 w sb B at_ bd)(ho:w.ownsRow base 3 1 lv L.length (bK L))(hb:base<=w.heap.size)(hsb:sb<base)(hn:L.length+c<=1000000) :
 Calls prog 135 #[.pointer (some ⟨sb,0,none⟩),.int .i64 vc,.int .i64 vb,lv] w fun e w'=>∃v',e=.returned v'/\yV w0 w w' sb base B lv v' (gK B bound c L at_ bd):=by
 subst hvc hvb;have hnot:=bP;obtain⟨i0,hi,hz0,hz1,hz2⟩:=info_parts Tryz.info3;generalize hR:gK B bound c L at_ bd=R;have HR:Hid (gK B bound c L at_ bd=R):=hR;have HS0:Hid (bY w0 w sb B at_ bd):=h;have HO:Hid (w.ownsRow base 3 1 lv L.length (bK L)):=ho;have hnew:=h.new;clear h ho hR
 go_enter func135,ntmps135
 go_wp2_with fail
 go_loopw [1,3] (fun n l wr=>∃(c':Nat)(L':List Nat)(at':Nat)(bd':Option Nat),n=.int .i64 c'/\L'.length+c'<=1000000/\gK B bound c' L' at' bd'=R/\yV w0 w wr sb base B lv l (L',at',bd')) (fun n _ _=>(intOf n).toNat)
 case atStart=>exact⟨c,L,at_,bd,rfl,hn,HR.out,HS0.out,HO.out,Or.inl rfl,Same.refl _ _⟩
 case round=>
  obtain⟨c',L',at',bd',rfl,hn',hR',hN⟩:=hrel;have hcc1:wr.cell? ⟨sb,1,none⟩=some (.int .i64 at'):=hN.sc.cell.cell? 1;have ZM:wr.cell? ⟨sb,2,none⟩=some (.int .i64 (xI bd')):=hN.sc.cell.cell? 2;obtain⟨ra,rc,rfl⟩:=ak hN.own;have HN:Hid (yV w0 w wr sb base B lv (.slice ra L'.length rc) (L',at',bd')):=hN;have hwz:=hN.same.size;clear hN;rcases Nat.eq_zero_or_pos c' with rfl|hc0
  ·have HE:Hid ((L',at',bd')=R):=by show _=_;rw[<-hR'];rfl
   clear hR'
   go_wp2
   go_ret
   exact⟨_,rfl,by rw[<-HE.out];exact HN.out⟩
  have l1:(0:Int)<(c':Int):=by omega
  cases bd' with
  | some q=>
   have HE:Hid ((L',at',some q)=R):=by
    show _=_;rw[<-hR'];obtain⟨c1,rfl⟩:∃c1,c'=c1+1:=⟨c'-1,by omega⟩
    rfl
   simp only[xI]at ZM;have l2:¬((q:Int)<0):=by omega
   have l3:(0:Int)<=(q:Int):=by omega
   clear hR'
   go_wp2
   go_ret
   exact⟨_,rfl,by rw[<-HE.out];exact HN.out⟩
  | none=>
   simp only[xI]at ZM;have l2:(-1:Int)<0:=by omega
   obtain⟨k,hk⟩:∃k,(bF B 2 at' none).1=k:=⟨_,rfl⟩
   obtain⟨at1,XG⟩:∃k,(bF B 2 at' none).2.1=k:=⟨_,rfl⟩
   obtain⟨bd1,hbd1⟩:∃k,(bF B 2 at' none).2.2=k:=⟨_,rfl⟩
   have hX:bF B 2 at' none=(k,at1,bd1):=by rw[<-hk,<-XG,<-hbd1]
   have HE:Hid (gK B bound (c'-1) (L'++[k]) at1 (lZ k at' L' (aX bd1 (decide (k<bound)) at'))=R):=by
    show _=_;rw[<-hR'];obtain⟨c1,rfl⟩:∃c1,c'=c1+1:=⟨c'-1,by omega⟩
    rw[gK,hk,XG,hbd1,Nat.add_sub_cancel]
   have hNu:=eG w0 wr sb B 2 at' none k at1 bd1 2 rfl (by omega) hl HN.out.sc hX;have hkb:k<65536:=by rw[<-hk];exact nC B 2 at' none (by omega)
   clear hk XG hbd1 hX hR'
   go_wp2_with fail
   refine hNu.mono ?_;rintro e w2 ⟨rfl,A2,S2⟩;clear hNu;have hM:=cO w0 w2 sb B at1 bd1 (decide (k<bound)) at' (at':Int) rfl A2;have O2:=dZ HN.out.own S2 (by intro q hq;simp at hq;omega);have HA2:Hid (w2.ownsRow base 3 1 (.slice ra L'.length rc) L'.length (bK L')/\Same [sb] wr w2):=⟨O2,S2⟩
   clear A2 O2 S2
   go_wp2_with fail
   refine hM.mono ?_;rintro e w3 ⟨rfl,A3,S3⟩;clear hM;obtain⟨bd2,hbd2⟩:∃x,aX bd1 (decide (k<bound)) at'=x:=⟨_,rfl⟩
   rw[hbd2]at A3 HE;have HA3:Hid (bY w0 w3 sb B at1 bd2/\w3.ownsRow base 3 1 (.slice ra L'.length rc) L'.length (bK L')/\Same [sb] wr w3):=⟨A3,dZ HA2.out.1 S3 (by intro q hq;simp at hq;omega),HA2.out.2.step S3 (fun q hq _=>hq)⟩
   clear A3 S3 HA2 hbd2
   go_wp2_with fail
   go_loopw [11] (fun i wr2=>∃j:Nat,j<=L'.length/\i=.int .i64 j/\Hid (bY w0 wr2 sb B at1 (lZ k at' (L'.take j) bd2)/\wr2.ownsRow base 3 1 (.slice ra L'.length rc) L'.length (bK L')/\Same [sb] wr wr2)) (fun i _=>L'.length-(intOf i).toNat)
   case atStart=>exact⟨0,Nat.zero_le _,rfl,HA3.out⟩
   case round=>
    obtain⟨j,hj,rfl,HJ⟩:=hrel;by_cases hjl:j<L'.length
    ·have l4:(j:Int)<(L'.length:Int):=by omega
     obtain⟨g,rfl,hcell⟩:=U1 HJ.out.2.1 j hjl;have hM:=fun ok=>cO w0 _ sb B at1 _ ok at' (at':Int) rfl HJ.out.1
     have HSE:Hid (lZ k at' (L'.take (j+1)) bd2=aX (lZ k at' (L'.take j) bd2) (decide (L'[j]!≠k)) at'):=NE k at' L' bd2 j hjl;generalize L'[j]! = y at *;generalize lZ k at' (L'.take j) bd2=bdj at *;have hd:((y:Int) != (k:Int))=decide (y≠k):=by
      by_cases e:y=k
      ·subst e;simp
      ·have:¬(y:Int)=(k:Int):=by omega
       simp[e,this]
     have hM':=hM ((y:Int) != (k:Int));have HD:Hid (((y:Int) != (k:Int))=decide (y≠k)):=hd;clear hM hd
     go_wp2_with fail
     refine hM'.mono ?_;rintro e w4 ⟨rfl,A4,S4⟩;rw[HD.out]at A4;have HF:Hid (bY w0 w4 sb B at1 (lZ k at' (L'.take (j+1)) bd2)/\w4.ownsRow base 3 1 (.slice (some ⟨g,0,none⟩) L'.length rc) L'.length (bK L')/\Same [sb] _ w4):=⟨by rw[HSE.out];exact A4,dZ HJ.out.2.1 S4 (by intro q hq;simp at hq;omega),HJ.out.2.2.step S4 (fun q hq _=>hq)⟩
     clear hM' A4 S4 HJ
     go_wp2
     go_roundw
     case rel=>exact⟨j+1,by omega,by go_num,HF.out⟩
     case measure=>simp[intOf];omega
    ·have l4:(L'.length:Int)<=(j:Int):=by omega
     have ej:j=L'.length:=by omega
     rw[ej,List.take_length]at HJ;obtain⟨bd3,ZN⟩:∃x,lZ k at' L' bd2=x:=⟨_,rfl⟩
     rw[ZN]at HJ HE;have hbw:base<=wr.heap.size:=by have:=HJ.out.2.2.size;omega
     have hown:=HJ.out.2.1;clear ej ZN
     go_wp2_with (at_builtin;refine wpList_append_own_at _ rfl _ _ 51 rfl base 3 i0 (.int .i64 0) 1 8 underlying51 hi hz0 hz1 hz2 rfl (by decide) _ _ _ rfl (hown.alloc _) ⟨wr.heap.size,0,none⟩ 1 1 [.int .i64 (k:Int)] rfl rfl ?c1 ?c2 ?c3 ?c4 ?c5 ?_)
     case c1=>
      intro j u hj
      match j,hj with
      | 0,hj=>simp at hj;subst hj;simp[Addr.add]
     case c2=>intro u hu;simp at hu;subst hu;rfl
     case c3=>unfold maxLen;omega
     case c4=>omega
     case c5=>first|omega|(simp;omega)
     intro v' w5 hown' hgrow _ hblk;have HF:Hid (yV w0 w w5 sb base B lv v' (L'++[k],at1,bd3)):=by
      have hrow:=aI hown;have S5:Same (Value.ownBlock (.slice ra L'.length rc)).toList wr w5:=((Same.refl _ _).alloc _).grown hgrow (fun q hq _=>by simp[hq]);have hbl:∀q∈(Value.ownBlock (.slice ra L'.length rc)).toList,base<=q:=fun q hq=>hrow q (by simpa using hq)
      have hlies:=HN.out.lies;have hsz:=HJ.out.2.2.size;refine⟨HJ.out.1.next S5 (fun hq=>by have:=hbl _ hq;omega) (fun q hq=>by have:=hbl _ hq;omega),?_,?_,?_⟩
      ·show w5.ownsRow base 3 1 v' (L'++[k]).length (bK (L'++[k]));rw[List.length_append,List.length_singleton];unfold bK at hown' ⊢;rw[List.map_append];exact hown'
      ·rcases hblk with e|e
       ·rw[e];exact hlies
       ·exact Or.inr ⟨_,e,by omega⟩
      ·refine(HN.out.same.step HJ.out.2.2 (fun q hq _=>by simp at hq;simp[hq])).step S5 (fun q hq hlt=>?_);rcases hlies with e|⟨g,e,hg⟩
       ·rw[e]at hq;exact List.mem_cons_of_mem _ hq
       ·rw[e]at hq;simp at hq;omega
     clear hown hown' hgrow hblk HJ HN;have hwc:IntKind.i64.wrap ((c':Int)-1)=((c'-1:Nat):Int):=by rw[IntWalk.i64_in _ (by omega)];omega
     go_wp2
     go_roundw
     case rel=>exact⟨c'-1,L'++[k],at1,bd3,by first|rfl|go_num|(congr 1;omega),by simp;omega,HE.out,HF.out⟩
     case measure=>simp[intOf];omega
theorem EZ(B:List UInt8)(bound:Nat):∀(c:Nat)(l:List Nat)(at_:Nat)(bd:Option Nat),∃X,(gK B bound c l at_ bd).1=l++X
 | 0,l,at_,bd=>⟨[],by simp[gK]⟩
 | c+1,l,at_,some q=>⟨[],by simp[gK]⟩
 | c+1,l,at_,none=>by
  rw[gK];obtain⟨X,hX⟩:=EZ B bound c (l++[(bF B 2 at_ none).1]) (bF B 2 at_ none).2.1 (lZ (bF B 2 at_ none).1 at_ l (aX (bF B 2 at_ none).2.2 (decide ((bF B 2 at_ none).1<bound)) at_));exact⟨(bF B 2 at_ none).1::X,by rw[hX,List.append_assoc];rfl⟩
theorem Ew(B:List UInt8)(bound:Nat):∀(c:Nat)(l:List Nat)(at_:Nat)(bd:Option Nat),(gK B bound c l at_ bd).1.length<=l.length+c
 | 0,l,at_,bd=>by simp[gK]
 | c+1,l,at_,some q=>by simp[gK]
 | c+1,l,at_,none=>by
  rw[gK];have:=Ew B bound c (l++[(bF B 2 at_ none).1]) (bF B 2 at_ none).2.1 (lZ (bF B 2 at_ none).1 at_ l (aX (bF B 2 at_ none).2.2 (decide ((bF B 2 at_ none).1<bound)) at_));rw[List.length_append,List.length_singleton]at this;omega
end
section
open Go.RowKit Go.Sort
variable [DecidableEq aN] [Inhabited aN] [Inhabited aF] [Inhabited ay]
structure Np where
 name:ByteArray
 size:Nat
 origin:Option Nat
 mJ:Nat
 xs:List Nat
 kept:List Nat
 lost:Bool
structure aar where
 name:ByteArray
 kind:Nat
 size:Nat
 at_:Nat
 bd:Option Nat
def nV(ahead:Option ByteArray)(t:ByteArray)(at_:Nat)(bd:Option Nat):Option Nat:=
 match ahead with
 | none=>bd
 | some u=>aX bd (decide (bW u t<0)) at_
def mW(B:List UInt8)(ahead:Option ByteArray)(a0:Nat)(b0:Option Nat):aar:=
 let x1:=bF B 1 a0 b0
 let b1:=aX x1.2.2 (decide (1<=x1.1/\x1.1<=10)) a0
 let x2:=ig B x1.1 x1.2.1 b1
 let b2:=aX x2.2.2 (nameB x2.1) x1.2.1
 let b3:=nV ahead x2.1 x1.2.1 b2
 let x4:=bF B 1 x2.2.1 b3
 let b4:=aX x4.2.2 (decide (x4.1<=2)) x2.2.1
 let x5:=bF B 2 x4.2.1 b4
 let b5:=aX x5.2.2 (decide (1<=x5.1/\x5.1<=200)) x4.2.1
 ⟨x2.1,x4.1,x5.1,x5.2.1,b5⟩
def mV(B:List UInt8)(bound:Nat)(used:List Nat)(kind size a0:Nat)(b0:Option Nat):Nat×List Nat×Nat×Option Nat:=
 let x7:=bF B 2 a0 b0
 let b7:=aX x7.2.2 (decide (1<=x7.1/\x7.1<=size/\(0<kind\/x7.1=size))) a0
 (x7.1,gK B bound x7.1 used x7.2.1 b7)
def vW(B:List UInt8)(kind n size a0:Nat)(b0:Option Nat):List Nat×Nat×Option Nat:=
 let x9:=bF B 2 a0 b0
 let b9:=aX x9.2.2 (decide (x9.1<=n/\(kind=1\/x9.1=0))) a0
 gK B size x9.1 [] x9.2.1 b9
def uq(B:List UInt8)(count kind a0:Nat)(b0:Option Nat):Option Nat×Nat×Nat×Option Nat:=
 if kind=0 then (none,0,a0,b0) else (some (bF B 1 a0 b0).1,a0,(bF B 1 a0 b0).2.1,aX (bF B 1 a0 b0).2.2 (decide ((bF B 1 a0 b0).1<count)) a0)
def iq:Option Nat->Int
 | none=>-1
 | some o=>o
def pK(B:List UInt8)(ahead:Option ByteArray)(bound count:Nat)(used:List Nat)(a0:Nat)(b0:Option Nat):Np×List Nat×Nat×Option Nat:=
 let h:=mW B ahead a0 b0
 let o:=uq B count h.kind h.at_ h.bd
 let t:=mV B bound used h.kind h.size o.2.2.1 o.2.2.2
 let k:=if h.kind=0 then ([],t.2.2) else vW B h.kind t.1 h.size t.2.2.1 t.2.2.2
 (⟨h.name,h.size,o.1,o.2.1,t.2.1.drop used.length,k.1,decide (h.kind=2)⟩,t.2.1,k.2)
theorem bY.iJ{w0 w:World}{sb:Nat}{B:List UInt8}{at_ q:Nat}{bd:Option Nat}{ok ok':Bool}(h:bY w0 w sb B at_ (aX bd ok q))(e:ok=ok'):bY w0 w sb B at_ (aX bd ok' q):=e▸h
theorem EF(t u:ByteArray):Op.bytesLess t.toList u.toList=decide (bW t u<0):=by
 rw[ByteArray.toList_eq,ByteArray.toList_eq];exact UJ _ _
theorem Nb(B:List UInt8)(n at_:Nat)(bd:Option Nat):(ig B n at_ bd).1.size<=n:=(Es B n at_ bd).2.2
structure dB(w0 w W:World)(sb:Nat)(B:List UInt8)(at_:Nat)(bd:Option Nat)(S:List Nat)(ec vc:List Value):Prop where
 sc:bY w0 W sb B at_ bd
 ent:At W (w.heap.size+1) 163 ec
 aA:At W w.heap.size 118 vc
 same:Same (sb::S) w W
 lt:sb<w.heap.size
 low:w0.heap.size<=w.heap.size
theorem dB.call{w0 w W W':World}{sb:Nat}{B:List UInt8}{at_ at1:Nat}{bd bd1:Option Nat}{S:List Nat}{ec vc:List Value}(h:dB w0 w W sb B at_ bd S ec vc)(hs:bY w0 W' sb B at1 bd1)(hS:Same [sb] W W'):dB w0 w W' sb B at1 bd1 S ec vc:=
 ⟨hs,hS.at h.ent (by have:=h.lt;simp;omega),hS.at h.aA (by have:=h.lt;simp;omega),h.same.step hS (fun k hk _=>by simp at hk;simp[hk]),h.lt,h.low⟩
theorem dB.drew{w0 w W:World}{sb:Nat}{B:List UInt8}{at_:Nat}{bd:Option Nat}{S:List Nat}{ec vc:List Value}(h:dB w0 w W sb B at_ bd S ec vc):dB w0 w W.drew sb B at_ bd S ec vc:=
 ⟨h.sc.next ((Same.refl [] W).drew) (by simp) (by simp),h.ent.drew,h.aA.drew,h.same.drew,h.lt,h.low⟩
theorem dB.YM{w0 w W:World}{sb:Nat}{B:List UInt8}{at_:Nat}{bd:Option Nat}{S:List Nat}{ec vc:List Value}(h:dB w0 w W sb B at_ bd S ec vc)(i:Nat)(v:Value):dB w0 w (W.setCell ⟨w.heap.size+1,i,none⟩ v) sb B at_ bd S (ec.set i v) vc:=by
 have hlt:=h.lt;have hlo:=h.low;have S1:Same [w.heap.size+1] W (W.setCell ⟨w.heap.size+1,i,none⟩ v):=(Same.refl _ _).set _ _ _ (by simp);exact⟨h.sc.next S1 (by simp;omega) (by intro k hk;simp at hk;omega),h.ent.ax i v,h.aA.aP _ _ _ (by omega),h.same.step S1 (fun k hk hl=>by simp at hk;omega),h.lt,h.low⟩
theorem dB.jE{w0 w W:World}{sb:Nat}{B:List UInt8}{at_:Nat}{bd:Option Nat}{S:List Nat}{ec vc:List Value}(h:dB w0 w W sb B at_ bd S ec vc)(i:Nat)(v:Value):dB w0 w (W.setCell ⟨w.heap.size,i,none⟩ v) sb B at_ bd S ec (vc.set i v):=by
 have hlt:=h.lt;have hlo:=h.low;have S1:Same [w.heap.size] W (W.setCell ⟨w.heap.size,i,none⟩ v):=(Same.refl _ _).set _ _ _ (by simp);exact⟨h.sc.next S1 (by simp;omega) (by intro k hk;simp at hk;omega),h.ent.aP _ _ _ (by omega),h.aA.ax i v,h.same.step S1 (fun k hk hl=>by simp at hk;omega),h.lt,h.low⟩
theorem dB.new{w0 w W W':World}{sb:Nat}{B:List UInt8}{at_:Nat}{bd:Option Nat}{S:List Nat}{ec vc:List Value}(h:dB w0 w W sb B at_ bd S ec vc)(hS:Same [] W W'):dB w0 w W' sb B at_ bd S ec vc:=
 ⟨h.sc.next hS (by simp) (by simp),hS.at h.ent (by simp),hS.at h.aA (by simp),h.same.step hS (by simp),h.lt,h.low⟩
theorem xW{P:Program}{ops:Array Oper}{o:Oper}{a:Act}{w:World}{K:Act->World->Prop}{Q:Exit->Act->World->Prop}{E:Prop}
 (hg:o.guard=none) (s x:Operand) (t:TypeId) (hop:o.op=Op.call { callee:=Callee.builtin Builtin.append,args:=#[s,x],argTypes:=#[t,t] })
 (base:Nat) (e:TypeId) (i:TypeInfo) (size:Nat) (h1:P.underlying t=some (.slice e)) (h2:P.info? e=some i)
 (v:Value) (n:Nat) (xs:List Value) (hs:a.eval s=v) (hown:w.ownsRow base e size v n xs) (hx:a.eval x=.slice none 0 0)
 (hK:K (a.put o.dst v) w) :
 if Region.wanted o (yielded ops a.tmps)=true then Oper.wp P o a w K Q else E:=by
 have hw:Region.wanted o (yielded ops a.tmps)=true:=by simp[Region.wanted,hg]
 rw[if_pos hw];have hrun:=run_append_owned_none (P:=P) w base t o.type e i size h1 h2 v n xs hown;unfold Oper.wp;simp[execOp,hop,resolve,invoke,builtin,hs,hx,hrun,Result.andThen];exact hK
theorem yG{P:Program}{ops:Array Oper}{o:Oper}{a:Act}{w:World}{K:Act->World->Prop}{Q:Exit->Act->World->Prop}{E:Prop}
 (hg:o.guard=none) (s x:Operand) (t:TypeId) (hop:o.op=Op.call { callee:=Callee.builtin Builtin.append,args:=#[s,x],argTypes:=#[t,t] })
 (e:TypeId) (i:TypeInfo) (z:Value) (size bytes:Nat) (h1:P.underlying t=some (.slice e)) (h2:P.info? e=some i) (h3:i.zero=some z) (h4:i.size=size) (h5:i.bytes=bytes) (h6:z.cells.size=size) (h7:0<size)
 (hs:a.eval s=.slice none 0 0) (ad:Addr) (c:Nat) (hx:a.eval x=.slice (some ad) 0 c)
 (hK:∀w',Same [] w w'->K (a.put o.dst (.slice none 0 0)) w') :
 if Region.wanted o (yielded ops a.tmps)=true then Oper.wp P o a w K Q else E:=by
 have hw:Region.wanted o (yielded ops a.tmps)=true:=by simp[Region.wanted,hg]
 rw[if_pos hw];obtain⟨v',w',hrun,r1,r2,r3,r4⟩:=run_append_own_at (P:=P) w w.heap.size t o.type e i z size bytes h1 h2 h3 h4 h5 h6 h7 (.slice none 0 0) 0 [] (World.ownsRow_nil _ _ _ _) ad 0 c [] (by simp) (by intro j u hj;simp at hj) (by simp) (by unfold maxLen;omega) (by omega) (Nat.le_refl _);obtain rfl:=r3.2 ⟨rfl,rfl⟩;unfold Oper.wp;simp[execOp,hop,resolve,invoke,builtin,hs,hx,hrun,Result.andThen];exact hK w' ((Same.refl [] w).grown r2 (fun j hj hl=>by simp[Value.ownBlock]at hj))
structure IC(w:World)(a:Option Addr)(m:Nat)(ahead:Option ByteArray)(sb:Nat)(S:List Nat):Prop where
 no:m=0->ahead=none
 ex:m≠0->∃t ag pe pv cs ce cv,ahead=some t/\a=some ⟨ag,0,none⟩/\At w ag 159 cs/\cs[m-1]? = some (ptr pe)/\At w pe 163 ce/\ce[0]? = some (ptr pv)/\At w pv 118 cv/\cv[0]? = some (.string t)/\ag∉sb::S/\pe∉sb::S/\pv∉sb::S
def bI:Nat->Code->Code
 | 0,c=>c
 | n+1,.seq _ b=>bI n b
 | _+1,c=>c
theorem aG{w w':World}{base:Nat}{e:TypeId}{size:Nat}{v:Value}{n:Nat}{xs:List Value}(h:w.ownsRow base e size v n xs){S:List Nat}(hs:Same S w w')(hS:∀g,v.ownBlock=some g->g∉S):w'.ownsRow base e size v n xs:=by
 refine⟨h.1,?_⟩;rcases h.2 with h|⟨g,cap,cur,h1,h2,h3,h4⟩
 ·exact Or.inl h
 ·refine Or.inr ⟨g,cap,cur,h1,h2,?_,h4⟩;have hl:g<w.heap.size:=by
   rcases Nat.lt_or_ge g w.heap.size with h'|h'
   ·exact h'
   ·rw[Array.getElem?_eq_none h']at h3;cases h3
  rw[hs.block g hl (hS g (by rw[h1];rfl))];exact h3
structure LH(w0 w w':World)(sb base:Nat)(B:List UInt8)(lv mg bv kv:Value)(r:Np×List Nat×Nat×Option Nat):Prop where
 sc:bY w0 w' sb B r.2.2.1 r.2.2.2
 ent:At w' (w.heap.size+1) 163 [.pointer (some ⟨w.heap.size,0,none⟩),.int .i64 (r.1.size:Int),.int .i64 (iq r.1.origin),.int .i64 (r.1.mJ:Int)]
 aA:At w' w.heap.size 118 [.string r.1.name,.string ⟨#[]⟩,.slice none 0 0,bv,kv,.bool r.1.lost]
 all:w'.ownsRow base 3 1 mg r.2.1.length (bK r.2.1)
 lies:mg.ownBlock=lv.ownBlock\/∃g,mg.ownBlock=some g/\w.heap.size+2<=g
 rows:∃hb hk,w.heap.size+2<=hb/\(∀g,mg.ownBlock=some g->g<hb)/\w'.ownsRow hb 3 1 bv r.1.xs.length (bK r.1.xs)/\hb<=hk/\(∀g,bv.ownBlock=some g->g<hk)/\w'.ownsRow hk 3 1 kv r.1.kept.length (bK r.1.kept)
 same:Same (sb::lv.ownBlock.toList) w w'
theorem hid{p:Prop}(h:p):Hid p:=h
structure aV where
 e:Np
 eb:Nat
 vb:Nat
 bg:Nat
 bc:Nat
 kg:Option Nat
 kc:Nat
def aV.cells(x:aV)(bC:ByteArray)(dv:Value):List Value:=[.string x.e.name,.string bC,dv,.slice (some ⟨x.bg,0,none⟩) x.e.xs.length x.bc,.slice (x.kg.map fun g=>⟨g,0,none⟩) x.e.kept.length x.kc,.bool x.e.lost]
def aV.foot(x:aV):List Nat:=x.eb::x.vb::x.bg::x.kg.toList
end
section
open Go.RowKit Go.Sort
variable [DecidableEq aN] [Inhabited aN] [Inhabited aF] [Inhabited ay] [Inhabited aV]
structure Dl(w:World)(x:aV):Prop where
 ent:At w x.eb 163 [.pointer (some ⟨x.vb,0,none⟩),.int .i64 (x.e.size:Int),.int .i64 (iq x.e.origin),.int .i64 (x.e.mJ:Int)]
 bl:fD w x.bg x.bc x.e.xs
 ke:(x.kg=none->x.e.kept=[]/\x.kc=0)/\∀g,x.kg=some g->fD w g x.kc x.e.kept
theorem Dl.same{w w':World}{x:aV}(h:Dl w x){S:List Nat}(hs:Same S w w')(hn:∀q∈x.eb::x.bg::x.kg.toList,q∉S):Dl w' x:=
 ⟨hs.at h.ent (hn _ (by simp)),h.bl.same hs (hn _ (by simp)),h.ke.1,fun g hg=>(h.ke.2 g hg).same hs (hn _ (by simp[hg]))⟩
structure Rows(w:World)(base:Nat)(xs:List aV)(ofs:List ByteArray)(ds:List (Value×List ByteArray)):Prop where
 fix:∀j,j<xs.length->Dl w xs[j]!
 aA:∀j,j<xs.length->At w (xs[j]!).vb 118 ((xs[j]!).cells ofs[j]! (ds[j]!).1)
 dat:∀j,j<xs.length->w.ownsRow base 9 1 (ds[j]!).1 (ds[j]!).2.length ((ds[j]!).2.map Value.string)
 apart:∀j k,j<xs.length->k<xs.length->j≠k->∀g,(ds[j]!).1.ownBlock=some g->(ds[k]!).1.ownBlock≠some g
 nodup:(xs.flatMap aV.foot).Nodup
 low:∀x∈xs,∀q∈x.foot,q<base
 lo:ofs.length=xs.length
 ld:ds.length=xs.length
theorem nP{xs:List aV}(h:(xs.flatMap aV.foot).Nodup){j k:Nat}(hj:j<xs.length)(hk:k<xs.length)(hne:j≠k){q:Nat}(hq:q∈(xs[j]!).foot):q∉(xs[k]!).foot:=by
 intro hq2;rw[getElem!_pos xs j hj]at hq;rw[getElem!_pos xs k hk]at hq2;have hp:=(List.pairwise_flatMap.1 h).2;have:=List.pairwise_iff_getElem.1 hp;rcases Nat.lt_or_gt_of_ne hne with h'|h'
 ·exact(this j k hj hk h') q hq q hq2 rfl
 ·exact(this k j hk hj h') q hq2 q hq rfl
theorem qM{xs:List aV}(h:(xs.flatMap aV.foot).Nodup){j:Nat}(hj:j<xs.length):(xs[j]!).foot.Nodup:=by
 rw[getElem!_pos xs j hj];exact(List.pairwise_flatMap.1 h).1 _ (List.getElem_mem hj)
theorem Rows.put{w w':World}{base:Nat}{xs:List aV}{ofs:List ByteArray}{ds:List (Value×List ByteArray)}(h:Rows w base xs ofs ds)(i:Nat)(hi:i<xs.length)(dv:Value)(dl:List ByteArray){S:List Nat}(hS:Same S w w')
 (hs:∀q∈S,q=(xs[i]!).vb\/(ds[i]!).1.ownBlock=some q) (hv:At w' (xs[i]!).vb 118 ((xs[i]!).cells ofs[i]! dv)) (hd:w'.ownsRow base 9 1 dv dl.length (dl.map Value.string))
 (hl:dv.ownBlock=(ds[i]!).1.ownBlock\/∃g,dv.ownBlock=some g/\w.heap.size<=g):Rows w' base xs ofs (ds.set i (dv,dl)):=by
 have hb:∀g,(ds[i]!).1.ownBlock=some g->base<=g:=fun g hg=>aI (h.dat i hi) g hg
 have low:∀j,j<xs.length->∀q∈(xs[j]!).foot,q<base:=fun j hj q hq=>h.low _ (by rw[getElem!_pos xs j hj];exact List.getElem_mem hj) q hq
 have gs:(ds.set i (dv,dl))[i]! = (dv,dl):=by rw[getElem!_pos _ i (by rw[List.length_set,h.ld];exact hi),List.getElem_set_self]
 have gn:∀j,j<xs.length->j≠i->(ds.set i (dv,dl))[j]! = ds[j]!:=fun j hj hne=>by
  rw[getElem!_pos _ j (by rw[List.length_set,h.ld];exact hj),List.getElem_set_ne (fun e=>hne e.symm),getElem!_pos ds j (by rw[h.ld];exact hj)]
 refine⟨fun j hj=>(h.fix j hj).same hS fun q hq hqs=>?_,fun j hj=>?_,fun j hj=>?_,fun j k hj hk hne g hg=>?_,h.nodup,h.low,h.lo,by rw[List.length_set];exact h.ld⟩
 ·have hqf:q∈(xs[j]!).foot:=by
   simp only[aV.foot,List.mem_cons]at hq ⊢;rcases hq with e|e|e
   ·exact Or.inl e
   ·exact Or.inr (Or.inr (Or.inl e))
   ·exact Or.inr (Or.inr (Or.inr e))
  rcases hs q hqs with e|e
  ·subst e;by_cases hji:j=i
   ·subst hji;have:=qM h.nodup hj;simp only[aV.foot,List.nodup_cons,List.mem_cons,not_or]at this;simp only[List.mem_cons]at hq;rcases hq with e|e|e
    ·exact this.1.1 e.symm
    ·exact this.2.1.1 e
    ·exact this.2.1.2 e
   ·exact nP h.nodup hj hi hji hqf (by simp[aV.foot])
  ·have:=hb q e;have:=low j hj q hqf;omega
 ·by_cases hji:j=i
  ·subst hji;rw[gs];exact hv
  ·rw[gn j hj hji];refine hS.at (h.aA j hj) fun hq=>?_
   rcases hs _ hq with e|e
   ·exact nP h.nodup hj hi hji (q:=(xs[j]!).vb) (by simp[aV.foot]) (by rw[e];simp[aV.foot])
   ·have:=hb _ e;have:=low j hj (xs[j]!).vb (by simp[aV.foot]);omega
 ·by_cases hji:j=i
  ·subst hji;rw[gs];exact hd
  ·rw[gn j hj hji];refine aG (h.dat j hj) hS fun g hg hq=>?_
   rcases hs _ hq with e|e
   ·have:=aI (h.dat j hj) g hg;have:=low i hi (xs[i]!).vb (by simp[aV.foot]);omega
   ·exact h.apart j i hj hi hji g hg e
 ·by_cases hji:j=i
  ·subst hji;have hki:k≠j:=fun e=>hne e.symm
   rw[gs]at hg;rw[gn k hk hki];rcases hl with e|⟨g',e,hg'⟩
   ·rw[e]at hg;exact h.apart j k hj hk hne g hg
   ·have hg:dv.ownBlock=some g:=hg;rw[e]at hg;obtain rfl:g'=g:=by simpa using hg
    intro e2;have:=((h.dat k hk).lt g' e2).2;omega
  ·rw[gn j hj hji]at hg;by_cases hki:k=i
   ·subst hki;rw[gs];rcases hl with e|⟨g',e,hg'⟩
    ·show dv.ownBlock≠some g;rw[e];exact h.apart j k hj hk hne g hg
    ·show dv.ownBlock≠some g;rw[e];intro e2;obtain rfl:g'=g:=by simpa using e2
     have:=((h.dat j hj).lt g' hg).2;omega
   ·rw[gn k hk hki];exact h.apart j k hj hk hne g hg
theorem Rows.same{w w':World}{base:Nat}{xs:List aV}{ofs:List ByteArray}{ds:List (Value×List ByteArray)}(h:Rows w base xs ofs ds){S:List Nat}(hS:Same S w w')(hn:∀q∈S,(∀x∈xs,q∉x.foot)/\∀j,j<xs.length->(ds[j]!).1.ownBlock≠some q):Rows w' base xs ofs ds:=by
 have hm:∀j,j<xs.length->xs[j]!∈xs:=fun j hj=>by rw[getElem!_pos xs j hj];exact List.getElem_mem hj
 refine⟨fun j hj=>(h.fix j hj).same hS fun q hq hqs=>(hn q hqs).1 _ (hm j hj) ?_,fun j hj=>hS.at (h.aA j hj) fun hq=>(hn _ hq).1 _ (hm j hj) (by simp[aV.foot]),fun j hj=>aG (h.dat j hj) hS fun g hg hq=>(hn g hq).2 j hj hg,h.apart,h.nodup,h.low,h.lo,h.ld⟩;simp only[aV.foot,List.mem_cons]at hq ⊢;rcases hq with e|e|e
 ·exact Or.inl e
 ·exact Or.inr (Or.inr (Or.inl e))
 ·exact Or.inr (Or.inr (Or.inr e))
structure oD(w:World)(a:Option Addr)(xs:List aV):Prop where
 ex:xs≠[]->∃lg cs,a=some ⟨lg,0,none⟩/\At w lg 159 cs/\cs.take xs.length=xs.map fun x=>Value.pointer (some ⟨x.eb,0,none⟩)
theorem oD.cell{w:World}{a:Option Addr}{xs:List aV}(h:oD w a xs)(j:Nat)(hj:j<xs.length):∃lg cs,a=some ⟨lg,0,none⟩/\At w lg 159 cs/\w.cell? ⟨lg,j,none⟩=some (.pointer (some ⟨(xs[j]!).eb,0,none⟩)):=by
 obtain⟨lg,cs,h1,h2,h3⟩:=h.ex (fun e=>by rw[e]at hj;simp at hj);refine⟨lg,cs,h1,h2,?_⟩;have e:(cs.take xs.length)[j]? = cs[j]?:=by rw[List.getElem?_take,if_pos hj]
 rw[h2.cell?,<-e,h3,List.getElem?_map,List.getElem?_eq_getElem hj,getElem!_pos xs j hj];rfl
end
end Go.Proofs.YtpddgdjocffgdaaGreat
