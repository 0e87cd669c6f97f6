/- Packed: see the last text. -/
import Derived.Test.YtpddgdjocffgdaaGreatA02
import Derived.Maps.AppendAt
import Derived.Test.YtpddgdjocffgdaaGreatA03
namespace Go.Proofs.YtpddgdjocffgdaaGreat
open Go.Proofs.Tryz
set_option linter.unusedVariables false
set_option linter.unusedSimpArgs false
set_option linter.unusedSectionVars false
set_option maxHeartbeats 16000000
set_option maxRecDepth 100000
section
open Go.RowKit Go.Sort
variable [DecidableEq aN] [Inhabited aN] [Inhabited aF] [Inhabited ay]
theorem qX (s : ByteArray) (w : World) (hs : s.size ≤ maxLen) :
    Calls prog 120 #[.string s] w fun e w' => e = .returned (.bool (nameB s)) ∧ w' = w := by
  unfold maxLen at hs
  go_enter func120, ntmps120
  go_wp2
  go_loop [3] (fun i => ∃ k : Nat, k ≤ s.size ∧ i = .int .i64 k ∧ Hid ((s.data.toList.take k).all lowerB = true)) (fun i => s.size - (intOf i).toNat)
  case atStart => exact ⟨0, Nat.zero_le _, rfl, rfl⟩
  case round =>
    obtain ⟨k, hk, rfl, HA⟩ := hrel
    by_cases hlt : k < s.size
    · have hlt' : (k : Int) < (s.size : Int) := by omega
      have HT' : Hid (s.data.toList.take (k + 1) = s.data.toList.take k ++ [s[k]]) := take_snoc s k hlt
      have HN : Hid (lowerB s[k] = false → nameB s = false) := KT s k hlt
      go_wp2
      · have hb : (s[k].toNat : Int) < 97 ∨ 122 < (s[k].toNat : Int) := by assumption
        have hl : lowerB s[k] = false := by simp [lowerB]; omega
        go_ret
        rw [HN.out hl]
        simp
      · have hb : 97 ≤ (s[k].toNat : Int) ∧ (s[k].toNat : Int) ≤ 122 := by assumption
        have hl : lowerB s[k] = true := by simp [lowerB]; omega
        go_round
        case rel => exact ⟨k + 1, by omega, by go_num, by show _ = true; rw [HT'.out, List.all_append, HA.out]; simp [hl]⟩
        case measure => simp [intOf]; omega
      · have hb : (s[k].toNat : Int) < 97 := by assumption
        have hl : lowerB s[k] = false := by simp [lowerB]; omega
        go_ret
        rw [HN.out hl]
        simp
    · have ek : k = s.size := by omega
      subst ek
      by_cases h1 : 1 ≤ s.size
      · have h1' : (1 : Int) ≤ (s.size : Int) := by omega
        by_cases h2 : s.size ≤ 10
        · have HY : Hid (nameB s = true) := Ey s h1 h2 HA.out
          go_wp2
          all_goals first
            | omega
            | (go_ret
               rw [HY.out]
               simp [h1, h2]
               omega)
        · have HY : Hid (nameB s = false) := by show _ = _; simp [nameB, h2]
          go_wp2
          all_goals first
            | omega
            | (go_ret
               rw [HY.out]
               simp [h1, h2]
               omega)
      · have HY : Hid (nameB s = false) := by show _ = _; simp [nameB, h1]
        have h1' : decide (1 ≤ (s.size : Int)) = false := decide_eq_false (by omega)
        go_wp2
        go_ret
        rw [HY.out]
        simp [h1]
def aQ.all(s:aQ):List Nat:=s.af.flatMap (·.blocks)
theorem AU(s:aQ)(n:Nat)(w:World)(h:aO w s) :
 Calls prog 103 #[.pointer (some ⟨s.rb,0,none⟩),.int .i64 n] w fun e w'=>e=.returned (.bool (decide (n∈s.all)))/\w'=w:=by
 obtain⟨cap,hp,h1,h2⟩:=h.pool;have c1:w.cell? ⟨s.rb,1,none⟩=some (.slice (s.lg.map fun b=>⟨b,0,none⟩) s.af.length cap):=hp.cell? 1;have hfew:=h.few;have HR:Hid (n∈s.all↔∃v∈s.af,n∈v.blocks):=by show _↔_;simp[aQ.all,List.mem_flatMap]
 generalize hres:decide (n∈s.all)=res at *;have zW:Hid (decide (n∈s.all)=res):=hres;clear hres
 go_enter func103,ntmps103
 go_wp2
 go_loopw [5] (fun i wr=>∃k:Nat,k<=s.af.length/\i=.int .i64 k/\wr=w/\Hid (∀v∈s.af.take k,n∉v.blocks)) (fun i _=>s.af.length-(intOf i).toNat)
 case atStart=>exact⟨0,Nat.zero_le _,rfl,rfl,by show ∀v∈_,_;simp⟩
 case round=>
  obtain⟨k,hk,rfl,rfl,HN⟩:=hrel;by_cases hkl:k<s.af.length
  ·obtain⟨b,hb,e1,hm⟩:=h.cell k hkl;have hvv:=h.af _ hm;obtain⟨dc,bc,kc,hv,_,hbl,_⟩:=hvv.ex;have hbs:=hvv.blocks;have e3:wr.cell? ⟨(s.af[k]!).vb,3,none⟩=some (.slice (some ⟨(s.af[k]!).bg,0,none⟩) (s.af[k]!).blocks.length bc):=hv.cell? 3;have hb':(s.lg.map fun b=>(⟨b,0,none⟩:Addr))=some ⟨b,0,none⟩:=by rw[hb];rfl
   rw[hb']at c1;have HT:Hid (s.af.take (k+1)=s.af.take k++[s.af[k]!]):=by show _=_;rw[List.take_succ_eq_append_getElem hkl,getElem!_pos s.af k hkl]
   have HM:Hid (s.af[k]!∈s.af):=hm;generalize s.af[k]! = vv at *;have l1:(k:Int)<(s.af.length:Int):=by omega
   clear h hv hp hm hb' hb hvv
   go_wp2_with fail
   go_loop [6] (fun i=>∃j:Nat,j<=vv.blocks.length/\i=.int .i64 j/\Hid (n∉vv.blocks.take j)) (fun i=>vv.blocks.length-(intOf i).toNat)
   case atStart=>exact⟨0,Nat.zero_le _,rfl,by show _∉_;simp⟩
   case round=>
    obtain⟨j,hj,rfl,HJ⟩:=hrel;by_cases hjl:j<vv.blocks.length
    ·have cj:=hbl.cell j hjl;have HTJ:Hid (vv.blocks.take (j+1)=vv.blocks.take j++[vv.blocks[j]!]):=by show _=_;rw[List.take_succ_eq_append_getElem hjl,getElem!_pos vv.blocks j hjl]
     have HMJ:Hid (vv.blocks[j]!∈vv.blocks):=by show _∈_;rw[getElem!_pos vv.blocks j hjl];exact List.getElem_mem hjl
     generalize vv.blocks[j]! = y at *;have l2:(j:Int)<(vv.blocks.length:Int):=by omega
     by_cases hy:y=n
     ·subst hy;have HF:Hid (res=true):=by show _=_;rw[<-zW.out];exact decide_eq_true (HR.out.2 ⟨vv,HM.out,HMJ.out⟩)
      go_wp2
      go_ret
      rw[HF.out];exact⟨rfl,rfl⟩
     ·have hy':((y:Int) == (n:Int))=false:=beq_eq_false_iff_ne.2 (by omega)
      go_wp2
      go_round
      case rel=>exact⟨j+1,by omega,by go_num,by show _∉_;rw[HTJ.out];simp[HJ.out];exact fun e=>hy e.symm⟩
      case measure=>simp[intOf];omega
    ·have ej:j=vv.blocks.length:=by omega
     have HB:Hid (n∉vv.blocks):=by have:=HJ.out;rw[ej,List.take_length]at this;exact this
     clear HJ
     go_wp2_with fail
     go_roundw
     case rel=>exact⟨k+1,by omega,by go_num,by first|rfl|trivial,by
      show ∀v∈_,_;rw[HT.out];intro v hv;rcases List.mem_append.1 hv with hv|hv
      ·exact HN.out v hv
      ·simp at hv;subst hv;exact HB.out⟩
     case measure=>simp[intOf];omega
  ·have ek:k=s.af.length:=by omega
   subst ek;have HF:Hid (res=false):=by
    show _=_;rw[<-zW.out];refine decide_eq_false fun hm=>?_
    obtain⟨v,hv,hb⟩:=HR.out.1 hm;exact HN.out v (by rw[List.take_length];exact hv) hb
   clear HN h hp
   go_wp2
   go_ret
   rw[HF.out];exact⟨rfl,rfl⟩
def aQ.dD(s:aQ)(k:Nat):List Nat:=(List.range k).filter fun x=>decide (x∉s.all)
theorem aQ.Ot(s:aQ)(k:Nat):s.dD (k+1)=s.dD k++(if k∈s.all then [] else [k]):=by
 unfold aQ.dD;rw[List.range_succ,List.filter_append]
 congr 1
 by_cases h:k∈s.all
 ·simp[h]
 ·simp[h]
theorem aQ.uf(s:aQ)(k:Nat):(s.dD k).length<=k:=by
 have:=List.length_filter_le (fun x=>decide (x∉s.all)) (List.range k);simpa [aQ.dD] using this
theorem iY(s:aQ)(w:World)(h:aO w s) :
 Calls prog 63 #[.pointer (some ⟨s.rb,0,none⟩)] w fun e w'=>∃v,e=.returned v/\w'.ownsRow w.heap.size 3 1 v (s.dD s.n).length ((s.dD s.n).map (fun x:Nat=>Value.int .i64 x))/\Same [] w w':=by
 obtain⟨cap,hp,h1,h2⟩:=h.pool;have hnot:=zM;have hn:=h.n;obtain⟨i0,hi,hz0,hz1,hz2⟩:=info_parts Tryz.info3
 go_enter func63,ntmps63
 go_wp2
 go_loopw [3,4] (fun u i wr=>∃k:Nat,k<=s.n/\i=.int .i64 k/\Same [] w wr/\wr.ownsRow w.heap.size 3 1 u (s.dD k).length ((s.dD k).map (fun x:Nat=>Value.int .i64 x)))
  (fun _ i _=>s.n-(intOf i).toNat)
 case atStart=>exact⟨0,Nat.zero_le _,rfl,Same.refl _ _,by simpa [aQ.dD] using World.ownsRow_nil w w.heap.size 3 1⟩
 case round=>
  obtain⟨k,hk,rfl,hS,hown⟩:=hrel;obtain⟨ua,pG,rfl⟩:=ak hown;have c0:wr.cell? ⟨s.rb,0,none⟩=some (.int .i64 s.n):=(hS.at hp (by simp)).cell? 0;by_cases hkl:k<s.n
  ·have hR:aO wr s:=by
    refine⟨⟨cap,hS.at hp (by simp),h1,h2⟩,fun b hb=>?_,fun v hv=>?_,h.few,h.n⟩
    ·obtain⟨cs,hc,h3⟩:=h.arr b hb;exact⟨cs,hS.at hc (by simp),h3⟩
    ·obtain⟨dc,bc,kc,a1,a2,a3,a4,a5⟩:=(h.af v hv).ex;exact⟨⟨dc,bc,kc,hS.at a1 (by simp),a2.same hS (by simp),a3.same hS (by simp),a4,fun a ha=>(a5 a ha).same hS (by simp)⟩,(h.af v hv).data,(h.af v hv).blocks,(h.af v hv).kept⟩
   have hT:=AU s k wr hR;have l1:(k:Int)<(s.n:Int):=by omega
   have HX:Hid (s.dD (k+1)=s.dD k++(if k∈s.all then [] else [k])):=s.Ot k;have hfl:=s.uf k;have hsz:=hS.size;clear hR;by_cases hkt:k∈s.all
   ·rw[decide_eq_true hkt]at hT;generalize s.dD k=pp at *
    go_wp2_with (go_at_call 103;refine hT.mono ?_;rintro e wz ⟨rfl,rfl⟩)
    go_roundw
    case rel=>exact⟨k+1,by omega,by go_num,hS,by rw[HX.out,if_pos hkt,List.append_nil];exact hown⟩
    case measure=>simp[intOf];omega
   ·rw[decide_eq_false hkt]at hT;generalize s.dD k=pp at *
    go_wp2_with (first|(go_at_call 103;refine hT.mono ?_;rintro e wz ⟨rfl,rfl⟩)|(at_builtin;refine wpList_append_own _ rfl _ _ 51 rfl w.heap.size 3 i0 (.int .i64 0) 1 8 underlying51 hi hz0 hz1 hz2 rfl (by decide) _ _ _ rfl (hown.alloc _) ⟨wz.heap.size,0,none⟩ 1 1 [.int .i64 (k:Nat)] rfl rfl ?c1 ?c2 ?c3 ?c4 ?c5 ?_))
    case c1=>
     intro j u hj
     match j,hj with
     | 0,hj=>simp at hj;subst hj;simp[Addr.add]
    case c2=>intro u hu;simp at hu;subst hu;rfl
    case c3=>unfold maxLen;omega
    case c4=>omega
    case c5=>simp;omega
    intro v' w4 hown' hgrow _;have S4:Same [] w w4:=(hS.alloc _).grown hgrow (fun i hi hl=>by have:=(hown.lt i hi).1;omega);have O4:w4.ownsRow w.heap.size 3 1 v' (s.dD (k+1)).length ((s.dD (k+1)).map (fun x:Nat=>Value.int .i64 x)):=by
     rw[HX.out,if_neg hkt,List.map_append,List.length_append];exact hown'
    clear hown' hgrow hown hS hT c0
    go_wp2
    go_roundw
    case rel=>exact⟨k+1,by omega,by go_num,S4,O4⟩
    case measure=>simp[intOf];omega
  ·have ek:k=s.n:=by omega
   subst ek
   go_wp2
   go_ret
   exact⟨_,rfl,hown,hS⟩
theorem aQ.gy{s:aQ}{t:ByteArray}{v:ay}(h:s.oO t=some v):v∈s.af/\v.name=t:=by
 unfold aQ.oO at h;exact⟨List.mem_of_find?_eq_some h,by simpa using List.find?_some h⟩
def aQ.dH(s:aQ)(t:ByteArray):Nat:=if nameB t=false then 2 else if (s.oO t).isSome then 3 else 0
theorem eU(s:aQ)(t:ByteArray)(w:World)(h:aO w s)(ht:t.size<=maxLen) :
 Calls prog 84 #[.pointer (some ⟨s.rb,0,none⟩),.string t] w fun e w'=>e=.returned (.int .i64 (s.dH t))/\w'=w:=by
 have hI:=qX t w ht;have hF:=aW s t w h;have HC:Hid (s.dH t=if nameB t=false then 2 else if (s.oO t).isSome then 3 else 0):=rfl;generalize s.dH t=res at *;by_cases hn:nameB t=true
 ·rw[hn]at hI;cases ha:s.oO t with
  | none=>
   rw[ha]at hF;have HF:Hid (res=0):=by show _=_;rw[HC.out,ha,hn];simp
   clear HC
   go_enter func84,ntmps84
   go_wp2_with (first|(go_at_call 120;refine hI.mono ?_;rintro e wz ⟨rfl,rfl⟩)|(go_at_call 79;refine hF.mono ?_;rintro e wz ⟨rfl,rfl⟩))
   go_ret
   rw[HF.out];exact⟨rfl,rfl⟩
  | some v=>
   rw[ha]at hF;have HF:Hid (res=3):=by show _=_;rw[HC.out,ha,hn];simp
   clear HC
   go_enter func84,ntmps84
   go_wp2_with (first|(go_at_call 120;refine hI.mono ?_;rintro e wz ⟨rfl,rfl⟩)|(go_at_call 79;refine hF.mono ?_;rintro e wz ⟨rfl,rfl⟩))
   go_ret
   rw[HF.out];exact⟨rfl,rfl⟩
 ·have hn':nameB t=false:=by simpa using hn
  rw[hn']at hI;have HF:Hid (res=2):=by show _=_;rw[HC.out,if_pos hn']
  clear HC
  go_enter func84,ntmps84
  go_wp2_with (first|(go_at_call 120;refine hI.mono ?_;rintro e wz ⟨rfl,rfl⟩))
  go_ret
  rw[HF.out];exact⟨rfl,rfl⟩
def aQ.Oz(s:aQ)(t:ByteArray)(k:Int):Nat:=
 match s.oO t with
 | none=>4
 | some v=>if v.lost then 9 else if k<0\/(v.data.length:Int)<=k then 1 else 0
theorem Ap(s:aQ)(t:ByteArray)(k:Int)(w:World)(h:aO w s)(hc:s.Oz t k≠0) :
 Calls prog 91 #[.pointer (some ⟨s.rb,0,none⟩),.string t,.int .i64 k] w fun e w'=>e=.returned (.tuple #[.pointer none,.int .i64 (s.Oz t k)])/\w'=w:=by
 have hF:=aW s t w h;have HC:Hid (s.Oz t k=match s.oO t with
  | none=>4
  | some v=>if v.lost then 9 else if k<0\/(v.data.length:Int)<=k then 1 else 0):=rfl
 generalize s.Oz t k=res at *;cases ha:s.oO t with
 | none=>
  rw[ha]at hF;have HF:Hid (res=4):=by show _=_;rw[HC.out,ha]
  clear HC
  go_enter func91,ntmps91
  go_wp2_with (first|(go_at_call 79;refine hF.mono ?_;rintro e wz ⟨rfl,rfl⟩))
  go_ret2
  rw[HF.out];exact⟨rfl,rfl⟩
 | some v=>
  rw[ha]at hF;obtain⟨hm,hnm⟩:=aQ.gy ha;obtain⟨dc,bc,kc,hv,_⟩:=(h.af v hm).ex;have hd:=(h.af v hm).data;have e2:w.cell? ⟨v.vb,2,none⟩=some (.slice (some ⟨v.dg,0,none⟩) v.data.length dc):=hv.cell? 2;have e5:w.cell? ⟨v.vb,5,none⟩=some (.bool v.lost):=hv.cell? 5;clear hv h;cases hl:v.lost with
  | true=>
   rw[hl]at e5;have HF:Hid (res=9):=by show _=_;rw[HC.out,ha];simp[hl]
   clear HC
   go_enter func91,ntmps91
   go_wp2_with (first|(go_at_call 79;refine hF.mono ?_;rintro e wz ⟨rfl,rfl⟩))
   go_ret2
   rw[HF.out];exact⟨rfl,rfl⟩
  | false=>
   rw[hl]at e5;by_cases hk:k<0
   ·have HF:Hid (res=1):=by show _=_;rw[HC.out,ha];simp[hl,hk]
    clear HC
    go_enter func91,ntmps91
    go_wp2_with (first|(go_at_call 79;refine hF.mono ?_;rintro e wz ⟨rfl,rfl⟩))
    go_ret2
    rw[HF.out];exact⟨rfl,rfl⟩
   ·by_cases hk2:(v.data.length:Int)<=k
    ·have HF:Hid (res=1):=by show _=_;rw[HC.out,ha];simp[hl,hk2]
     clear HC;have hk':0<=k:=by omega
     go_enter func91,ntmps91
     go_wp2_with (first|(go_at_call 79;refine hF.mono ?_;rintro e wz ⟨rfl,rfl⟩))
     go_ret2
     rw[HF.out];exact⟨rfl,rfl⟩
    ·exact absurd (by rw[HC.out,ha];simp[hl,hk2];omega) hc
theorem qO(s:aQ)(t:ByteArray)(k:Nat)(v:ay)(w:World)(h:aO w s)(ha:s.oO t=some v)(hl:v.lost=false)(hk:k<v.data.length) :
 Calls prog 91 #[.pointer (some ⟨s.rb,0,none⟩),.string t,.int .i64 k] w fun e w'=>e=.returned (.tuple #[.pointer (some ⟨v.vb,0,none⟩),.int .i64 0])/\w'=w:=by
 have hF:=aW s t w h;rw[ha]at hF;obtain⟨hm,hnm⟩:=aQ.gy ha;obtain⟨dc,bc,kc,hv,_⟩:=(h.af v hm).ex;have hd:=(h.af v hm).data;have e2:w.cell? ⟨v.vb,2,none⟩=some (.slice (some ⟨v.dg,0,none⟩) v.data.length dc):=hv.cell? 2;have e5:w.cell? ⟨v.vb,5,none⟩=some (.bool v.lost):=hv.cell? 5;rw[hl]at e5;clear hv h;have l1:(k:Int)<(v.data.length:Int):=by omega
 have l0:(0:Int)<=(k:Int):=by omega
 go_enter func91,ntmps91
 go_wp2_with (first|(go_at_call 79;refine hF.mono ?_;rintro e wz ⟨rfl,rfl⟩))
 go_ret2
 exact⟨rfl,rfl⟩
def eP:ByteArray:=⟨#[0,0,0,0,0,0,0,0]⟩
theorem qJ(s:aQ)(t:ByteArray)(k:Int)(w:World)(h:aO w s)(hc:s.Oz t k≠0) :
 Calls prog 62 #[.pointer (some ⟨s.rb,0,none⟩),.string t,.int .i64 k] w fun e w'=>e=.returned (.tuple #[.string eP,.int .i64 (s.Oz t k)])/\w'=w:=by
 have hA:=Ap s t k w h hc;generalize s.Oz t k=res at *;have hr:((res:Int) == 0)=false:=beq_eq_false_iff_ne.2 (by omega)
 go_enter func62,ntmps62
 go_wp2_with (first|(go_at_call 91;refine hA.mono ?_;rintro e wz ⟨rfl,rfl⟩))
 go_ret2
 exact⟨rfl,rfl⟩
theorem GK(s:aQ)(t:ByteArray)(k:Nat)(v:ay)(w:World)(h:aO w s)(ha:s.oO t=some v)(hl:v.lost=false)(hk:k<v.data.length) :
 Calls prog 62 #[.pointer (some ⟨s.rb,0,none⟩),.string t,.int .i64 k] w fun e w'=>e=.returned (.tuple #[.string v.data[k]!,.int .i64 0])/\w'=w:=by
 have hA:=qO s t k v w h ha hl hk;obtain⟨hm,hnm⟩:=aQ.gy ha;obtain⟨dc,bc,kc,hv,hdat,_⟩:=(h.af v hm).ex;have hd:=(h.af v hm).data;have e2:w.cell? ⟨v.vb,2,none⟩=some (.slice (some ⟨v.dg,0,none⟩) v.data.length dc):=hv.cell? 2;have ek:=hdat.cell k hk;generalize v.data[k]! = y at *;have l1:(k:Int)<(v.data.length:Int):=by omega
 clear hv h hdat
 go_enter func62,ntmps62
 go_wp2_with (first|(go_at_call 91;refine hA.mono ?_;rintro e wz ⟨rfl,rfl⟩))
 go_ret2
 exact⟨rfl,rfl⟩
theorem J8(s:aQ)(t:ByteArray)(w:World)(h:aO w s)(ha:s.oO t=none) :
 Calls prog 40 #[.pointer (some ⟨s.rb,0,none⟩),.string t] w fun e w'=>e=.returned (.tuple #[.slice none 0 0,.int .i64 4])/\w'=w:=by
 have hF:=aW s t w h;rw[ha]at hF
 go_enter func40,ntmps40
 go_wp2_with (first|(go_at_call 79;refine hF.mono ?_;rintro e wz ⟨rfl,rfl⟩))
 go_ret2
 exact⟨rfl,rfl⟩
theorem LK(s:aQ)(t:ByteArray)(v:ay)(w:World)(h:aO w s)(ha:s.oO t=some v) :
 Calls prog 40 #[.pointer (some ⟨s.rb,0,none⟩),.string t] w fun e w'=>∃bc,e=.returned (.tuple #[.slice (some ⟨v.bg,0,none⟩) v.blocks.length bc,.int .i64 0])/\fD w v.bg bc v.blocks/\w'=w:=by
 have hF:=aW s t w h;rw[ha]at hF;obtain⟨hm,hnm⟩:=aQ.gy ha;obtain⟨dc,bc,kc,hv,_,hbl,_⟩:=(h.af v hm).ex;have e3:w.cell? ⟨v.vb,3,none⟩=some (.slice (some ⟨v.bg,0,none⟩) v.blocks.length bc):=hv.cell? 3;clear hv h
 go_enter func40,ntmps40
 go_wp2_with (first|(go_at_call 79;refine hF.mono ?_;rintro e wz ⟨rfl,rfl⟩))
 go_ret2
 exact⟨bc,rfl,hbl,rfl⟩
def aQ.dN(s:aQ)(t:ByteArray)(k:Nat):Nat:=((s.af.take k).filter fun v=>decide (v.bC=t)).length
theorem dI(s:aQ)(t:ByteArray)(w:World)(h:aO w s) :
 Calls prog 99 #[.pointer (some ⟨s.rb,0,none⟩),.string t] w fun e w'=>e=.returned (.int .i64 (s.dN t s.af.length))/\w'=w:=by
 obtain⟨cap,hp,h1,h2⟩:=h.pool;have c1:w.cell? ⟨s.rb,1,none⟩=some (.slice (s.lg.map fun b=>⟨b,0,none⟩) s.af.length cap):=hp.cell? 1;have hfew:=h.few
 go_enter func99,ntmps99
 go_wp2
 go_loopw [5,6] (fun u i wr=>∃k:Nat,k<=s.af.length/\i=.int .i64 k/\u=.int .i64 (s.dN t k)/\wr=w) (fun _ i _=>s.af.length-(intOf i).toNat)
 case atStart=>exact⟨0,Nat.zero_le _,rfl,by simp[aQ.dN],rfl⟩
 case round=>
  obtain⟨k,hk,rfl,rfl,rfl⟩:=hrel;have HL:Hid (s.dN t k<=k):=by
   show _<=_;unfold aQ.dN;exact Nat.le_trans (List.length_filter_le _ _) (by simp;omega)
  have hle:=HL.out;by_cases hkl:k<s.af.length
  ·obtain⟨b,hb,e1,hm⟩:=h.cell k hkl;obtain⟨dc,bc,kc,hv,_⟩:=(h.af _ hm).ex;have e2:wr.cell? ⟨(s.af[k]!).vb,1,none⟩=some (.string (s.af[k]!).bC):=hv.cell? 1;have hb':(s.lg.map fun b=>(⟨b,0,none⟩:Addr))=some ⟨b,0,none⟩:=by rw[hb];rfl
   rw[hb']at c1;have HT:Hid (s.dN t (k+1)=s.dN t k+if (s.af[k]!).bC=t then 1 else 0):=by
    show _=_;unfold aQ.dN;rw[List.take_succ_eq_append_getElem hkl,getElem!_pos s.af k hkl,List.filter_append,List.length_append]
    congr 1
    by_cases hq:(s.af[k]).bC=t<;>simp[hq]
   generalize s.af[k]! = vv at *;generalize s.dN t k=pk at *;have l1:(k:Int)<(s.af.length:Int):=by omega
   clear h hv hp hm hb' hb;by_cases hn:vv.bC=t
   ·have hbq:(vv.bC.toList == t.toList)=true:=by rw[hn];simp
    go_wp2
    go_roundw
    case rel=>exact⟨k+1,by omega,by go_num,by rw[HT.out,if_pos hn];go_num,by first|rfl|trivial⟩
    case measure=>simp[intOf];omega
   ·have hbq:(vv.bC.toList == t.toList)=false:=by
     rw[bytes_beq];exact decide_eq_false hn
    go_wp2
    go_roundw
    case rel=>exact⟨k+1,by omega,by go_num,by rw[HT.out,if_neg hn];rfl,by first|rfl|trivial⟩
    case measure=>simp[intOf];omega
  ·have ek:k=s.af.length:=by omega
   subst ek;clear h hp
   go_wp2
   go_ret
   exact⟨rfl,rfl⟩
theorem dU.same{w w':World}{v:ay}(h:dU w v){S:List Nat}(hs:Same S w w')
 (hb:∀b∈S,∀cs,¬At w b 118 cs/\¬At w b 9 cs/\¬At w b 3 cs):dU w' v:=by
 obtain⟨dc,bc,kc,a1,a2,a3,a4,a5⟩:=h.ex;refine⟨⟨dc,bc,kc,hs.at a1 (fun hm=>(hb _ hm _).1 a1),?_,?_,a4,fun a ha=>?_⟩,h.data,h.blocks,h.kept⟩
 ·obtain⟨cs,h1,h2⟩:=a2.ex;exact a2.same hs (fun hm=>(hb _ hm _).2.1 h1)
 ·obtain⟨cs,h1,h2⟩:=a3.ex;exact a3.same hs (fun hm=>(hb _ hm _).2.2 h1)
 ·obtain⟨cs,h1,h2⟩:=(a5 a ha).ex;exact(a5 a ha).same hs (fun hm=>(hb _ hm _).2.2 h1)
theorem dU.iW{w w':World}{v:ay}(h:dU w v)(hs:Same [] w w'):dU w' v:=h.same hs (by simp)
theorem aO.iW{w w':World}{s:aQ}(h:aO w s)(hs:Same [] w w'):aO w' s:=by
 obtain⟨cap,hp,h1,h2⟩:=h.pool;refine⟨⟨cap,hs.at hp (by simp),h1,h2⟩,fun b hb=>?_,fun v hv=>(h.af v hv).iW hs,h.few,h.n⟩;obtain⟨cs,hc,h3⟩:=h.arr b hb;exact⟨cs,hs.at hc (by simp),h3⟩
theorem Tryz.NH:(prog.info? 115).map (fun i=>(i.zero,i.size,i.bytes))=some (some (.pointer none),1,8):=by kernel_rfl
theorem QB{w:World}{base:Nat}{v:Value}{vs:List ay}(h:w.ownsRow base 115 1 v vs.length (vs.map fun x=>ptr x.vb)) :
 ∃(lg:Option Nat)(cap:Nat),v=.slice (lg.map fun b=>⟨b,0,none⟩) vs.length cap/\vs.length<=cap/\(lg=none->vs=[]/\cap=0) /\
  (∀b,lg=some b->base<=b/\∃cs,At w b 115 cs/\cs.take vs.length=vs.map (fun v=>ptr v.vb)/\vs.length<=cs.length):=by
 rcases h.2 with⟨h1,h2⟩|⟨g,cap',cur,h1,h2,h3,h4,h5,h6,h7⟩
 ·refine⟨none,0,by rw[h1,h2];rfl,by omega,fun _=>⟨List.eq_nil_of_length_eq_zero h2,rfl⟩,fun b hb=>by cases hb⟩
 ·refine⟨some g,cap',h1,h4,(by intro h;cases h),fun b hb=>?_⟩;cases hb;refine⟨h2,cur.toList,?_,by simpa using h7,by simp;omega⟩;unfold At;simpa using h3
def aQ.without(s:aQ)(t:ByteArray)(k:Nat):List ay:=(s.af.take k).filter fun v=>decide (¬v.name=t)
theorem uw(s:aQ)(t:ByteArray)(w:World)(h:aO w s) :
 Calls prog 101 #[.pointer (some ⟨s.rb,0,none⟩),.string t] w fun e w'=>e=.returned (.tuple #[])/\Same [s.rb] w w' /\
  ∃lg,aO w' { s with lg:=lg,af:=s.without t s.af.length }/\∀b,lg=some b->w.heap.size<=b:=by
 obtain⟨cap,hp,h1,h2⟩:=h.pool;have hfew:=h.few;obtain⟨i0,hi,hz0,hz1,hz2⟩:=info_parts Tryz.NH
 go_enter func101,ntmps101
 go_wp2
 go_loopw [4,5] (fun u i wr=>∃k:Nat,k<=s.af.length/\i=.int .i64 k/\Same [] w wr/\wr.ownsRow w.heap.size 115 1 u (s.without t k).length ((s.without t k).map fun x=>ptr x.vb))
  (fun _ i _=>s.af.length-(intOf i).toNat)
 case atStart=>exact⟨0,Nat.zero_le _,rfl,Same.refl _ _,by simpa [aQ.without] using World.ownsRow_nil w w.heap.size 115 1⟩
 case round=>
  obtain⟨k,hk,rfl,hS,hown⟩:=hrel;have c1:wr.cell? ⟨s.rb,1,none⟩=some (.slice (s.lg.map fun b=>⟨b,0,none⟩) s.af.length cap):=(hS.at hp (by simp)).cell? 1;have hR:=h.iW hS;have hwl:(s.without t k).length<=k:=by
   unfold aQ.without;exact Nat.le_trans (List.length_filter_le _ _) (by simp;omega)
  by_cases hkl:k<s.af.length
  ·obtain⟨ua,pG,rfl⟩:=ak hown;obtain⟨b,hb,e1,hm⟩:=hR.cell k hkl;obtain⟨dc,bc,kc,hv,_⟩:=(hR.af _ hm).ex;have e2:wr.cell? ⟨(s.af[k]!).vb,0,none⟩=some (.string (s.af[k]!).name):=hv.cell? 0;have hb':(s.lg.map fun b=>(⟨b,0,none⟩:Addr))=some ⟨b,0,none⟩:=by rw[hb];rfl
   rw[hb']at c1;have HX:Hid (s.without t (k+1)=s.without t k++if (s.af[k]!).name=t then [] else [s.af[k]!]):=by
    show _=_;unfold aQ.without;rw[List.take_succ_eq_append_getElem hkl,getElem!_pos s.af k hkl,List.filter_append]
    congr 1
    by_cases hq:(s.af[k]).name=t<;>simp[hq]
   generalize s.af[k]! = vv at *;have l1:(k:Int)<(s.af.length:Int):=by omega
   have hsz:=hS.size;clear hR hv hm hb' hb;by_cases hn:vv.name=t
   ·have hbq:(vv.name.toList == t.toList)=true:=by rw[hn];simp
    generalize s.without t k=pp at *
    go_wp2
    go_roundw
    case rel=>exact⟨k+1,by omega,by go_num,hS,by rw[HX.out,if_pos hn,List.append_nil];exact hown⟩
    case measure=>simp[intOf];omega
   ·have hbq:(vv.name.toList == t.toList)=false:=by
     rw[bytes_beq];exact decide_eq_false hn
    generalize s.without t k=pp at *
    go_wp2_with (at_builtin;refine wpList_append_own _ rfl _ _ 82 rfl w.heap.size 115 i0 (.pointer none) 1 8 underlying82 hi hz0 hz1 hz2 rfl (by decide) _ _ _ rfl (hown.alloc _) ⟨wr.heap.size,0,none⟩ 1 1 [ptr vv.vb] rfl rfl ?c1 ?c2 ?c3 ?c4 ?c5 ?_)
    case c1=>
     intro j u hj
     match j,hj with
     | 0,hj=>simp at hj;subst hj;simp[Addr.add,ptr]
    case c2=>intro u hu;simp at hu;subst hu;rfl
    case c3=>unfold maxLen;omega
    case c4=>omega
    case c5=>simp;omega
    intro v' w4 hown' hgrow _;have S4:Same [] w w4:=(hS.alloc _).grown hgrow (fun i hi hl=>by have:=(hown.lt i hi).1;omega);have O4:w4.ownsRow w.heap.size 115 1 v' (s.without t (k+1)).length ((s.without t (k+1)).map fun x=>ptr x.vb):=by
     rw[HX.out,if_neg hn,List.map_append,List.length_append];exact hown'
    clear hown' hgrow hown hS c1 e1 e2
    go_wp2
    go_roundw
    case rel=>exact⟨k+1,by omega,by go_num,S4,O4⟩
    case measure=>simp[intOf];omega
  ·have ek:k=s.af.length:=by omega
   subst ek;obtain⟨lg,cap',rfl,hl1,hl2,hl3⟩:=QB hown;have hp':=hS.at hp (by simp);have f1:wr.frozen? ⟨s.rb,1,none⟩=false:=hp'.frozen 1;have hsz:=hS.size;have hpl:=hp.lt;have S5:Same [s.rb] w (wr.setCell ⟨s.rb,1,none⟩ (.slice (lg.map fun b=>⟨b,0,none⟩) (s.without t s.af.length).length cap')):=(hS.mono (by simp)).set _ _ _ (by simp);have R5:aO (wr.setCell ⟨s.rb,1,none⟩ (.slice (lg.map fun b=>⟨b,0,none⟩) (s.without t s.af.length).length cap')) { s with lg:=lg,af:=s.without t s.af.length }:=by
    refine⟨⟨cap',hp'.ax 1 _,hl1,hl2⟩,fun b hb=>?_,fun v hv=>?_,?_,h.n⟩
    ·obtain⟨hge,cs,hc,h3⟩:=hl3 b hb;exact⟨cs,hc.aP _ _ _ (by have:=hp.lt;omega),h3⟩
    ·refine(h.af v (List.mem_of_mem_take (List.mem_filter.1 hv).1)).same S5 ?_;intro b hb cs;simp at hb;subst hb;exact⟨fun hA=>absurd (hA.inj hp).1 (by decide),fun hA=>absurd (hA.inj hp).1 (by decide),fun hA=>absurd (hA.inj hp).1 (by decide)⟩
    ·show(s.without t s.af.length).length<=20;omega
   have G5:∀b,lg=some b->w.heap.size<=b:=fun b hb=>(hl3 b hb).1
   generalize hpp:s.without t s.af.length=pp at *;clear hown h hp' hp hR hS
   go_wp2
   refine bodyPost_end (results_none rfl _ _ _) rfl ⟨rfl,S5,lg,by rw[hpp];exact R5,G5⟩
theorem Aw(s:aQ)(t:ByteArray)(w:World)(h:aO w s)(ha:s.oO t=none) :
 Calls prog 56 #[.pointer (some ⟨s.rb,0,none⟩),.string t] w fun e w'=>e=.returned (.int .i64 4)/\w'=w:=by
 have hF:=aW s t w h;rw[ha]at hF
 go_enter func56,ntmps56
 go_wp2_with (first|(go_at_call 79;refine hF.mono ?_;rintro e wz ⟨rfl,rfl⟩))
 go_ret
 exact⟨rfl,rfl⟩
theorem AX(s:aQ)(t:ByteArray)(v:ay)(w:World)(h:aO w s)(ha:s.oO t=some v)(hb:0<s.dN t s.af.length) :
 Calls prog 56 #[.pointer (some ⟨s.rb,0,none⟩),.string t] w fun e w'=>e=.returned (.int .i64 8)/\w'=w:=by
 have hF:=aW s t w h;have hP:=dI s t w h;rw[ha]at hF;generalize s.dN t s.af.length=k at *;have hk:(0:Int)<(k:Int):=by omega
 go_enter func56,ntmps56
 go_wp2_with (first|(go_at_call 79;refine hF.mono ?_;rintro e wz ⟨rfl,rfl⟩)|(go_at_call 99;refine hP.mono ?_;rintro e wz ⟨rfl,rfl⟩))
 go_ret
 exact⟨rfl,rfl⟩
theorem GN(s:aQ)(t:ByteArray)(v:ay)(w:World)(h:aO w s)(ha:s.oO t=some v)(hb:s.dN t s.af.length=0) :
 Calls prog 56 #[.pointer (some ⟨s.rb,0,none⟩),.string t] w fun e w'=>e=.returned (.int .i64 0)/\Same [s.rb] w w' /\
  ∃lg,aO w' { s with lg:=lg,af:=s.without t s.af.length }/\∀b,lg=some b->w.heap.size<=b:=by
 have hF:=aW s t w h;have hP:=dI s t w h;have hD:=uw s t w h;rw[ha]at hF;rw[hb]at hP
 go_enter func56,ntmps56
 go_wp2_with (first|(go_at_call 79;refine hF.mono ?_;rintro e wz ⟨rfl,rfl⟩)|(go_at_call 99;refine hP.mono ?_;rintro e wz ⟨rfl,rfl⟩)|(go_at_call 101;refine hD.mono ?_;rintro e wy ⟨rfl,hS,lg,hR,hg⟩))
 go_ret
 exact⟨rfl,hS,lg,hR,hg⟩
theorem BP(s:aQ)(w:World)(h:aO w s) :
 Calls prog 30 #[.pointer (some ⟨s.rb,0,none⟩)] w fun e w'=>e=.returned (.int .i64 (s.dD s.n).length)/\Same [] w w':=by
 have hF:=iY s w h
 go_enter func30,ntmps30
 go_wp2_with (first|(go_at_call 63;refine hF.mono ?_;rintro e wz ⟨v,rfl,hown,hS⟩;obtain⟨ua,pG,rfl⟩:=ak hown))
 go_ret
 exact⟨rfl,hS⟩
theorem Nl{w:World}{g cap:Nat}{l:List ByteArray}(h:iK w g cap l){n:Nat}(hn:n=l.length):w.ownsRow 0 9 1 (.slice (some ⟨g,0,none⟩) n cap) n (l.map Value.string):=by
 obtain⟨cs,h1,h2,h3,h4,h5⟩:=h.ex;subst hn;refine⟨by simp,.inr ⟨g,cap,cs.toArray,rfl,Nat.zero_le _,h1,h4,h5,by simpa using h2,by simpa using h3⟩⟩
theorem uZ{w:World}{base:Nat}{v:Value}{n:Nat}{l:List ByteArray}(h:w.ownsRow base 9 1 v n (l.map Value.string))(hl:l≠[]) :
 ∃g cap,v=.slice (some ⟨g,0,none⟩) l.length cap/\base<=g/\iK w g cap l:=by
 have hn:l.length=n:=by simpa using h.1
 rcases h.2 with⟨h1,h2⟩|⟨g,cap',cur,h1,h2,h3,h4,h5,h6,h7⟩
 ·exact absurd (List.eq_nil_of_length_eq_zero (hn.trans h2)) hl
 ·refine⟨g,cap',by rw[hn];exact h1,h2,⟨cur.toList,?_,by simpa using h6,by simpa [hn] using h7,by omega,h5⟩⟩;unfold At;simpa using h3
theorem nX(v:ay)(k:Nat)(w:World)(h:dU w v) :
 Calls prog 124 #[.pointer (some ⟨v.vb,0,none⟩),.int .i64 k] w fun e w'=>e=.returned (.bool (decide (k∈v.kept)))/\w'=w:=by
 obtain⟨dc,bc,kc,a1,a2,a3,a4,a5⟩:=h.ex;have e4:w.cell? ⟨v.vb,4,none⟩=some (.slice (v.kg.map fun g=>⟨g,0,none⟩) v.kept.length kc):=a1.cell? 4;have hkl:=h.kept;generalize hres:decide (k∈v.kept)=res at *;have zW:Hid (decide (k∈v.kept)=res):=hres;clear hres h a1 a2 a3
 go_enter func124,ntmps124
 go_wp2
 go_loopw [5] (fun i wr=>∃j:Nat,j<=v.kept.length/\i=.int .i64 j/\wr=w/\Hid (k∉v.kept.take j)) (fun i _=>v.kept.length-(intOf i).toNat)
 case atStart=>exact⟨0,Nat.zero_le _,rfl,rfl,by show _∉_;simp⟩
 case round=>
  obtain⟨j,hj,rfl,rfl,HJ⟩:=hrel;by_cases hjl:j<v.kept.length
  ·obtain⟨g,hg⟩:∃g,v.kg=some g:=by
    cases hgk:v.kg with
    | none=>rw[(a4 hgk).1]at hjl;simp at hjl
    | some g=>exact⟨g,rfl⟩
   have cj:=(a5 g hg).cell j hjl;have hg':(v.kg.map fun g=>(⟨g,0,none⟩:Addr))=some ⟨g,0,none⟩:=by rw[hg];rfl
   rw[hg']at e4;have HTJ:Hid (v.kept.take (j+1)=v.kept.take j++[v.kept[j]!]):=by show _=_;rw[List.take_succ_eq_append_getElem hjl,getElem!_pos v.kept j hjl]
   have HMJ:Hid (v.kept[j]!∈v.kept):=by show _∈_;rw[getElem!_pos v.kept j hjl];exact List.getElem_mem hjl
   generalize v.kept[j]! = y at *;have l2:(j:Int)<(v.kept.length:Int):=by omega
   clear a4 a5 hg hg';by_cases hy:y=k
   ·subst hy;have HF:Hid (res=true):=by show _=_;rw[<-zW.out];exact decide_eq_true HMJ.out
    go_wp2
    go_ret
    rw[HF.out];exact⟨rfl,rfl⟩
   ·have hy':((y:Int) == (k:Int))=false:=beq_eq_false_iff_ne.2 (by omega)
    go_wp2
    go_roundw
    case rel=>exact⟨j+1,by omega,by go_num,by first|rfl|trivial,by show _∉_;rw[HTJ.out];simp[HJ.out];exact fun e=>hy e.symm⟩
    case measure=>simp[intOf];omega
  ·have ej:j=v.kept.length:=by omega
   have HF:Hid (res=false):=by
    show _=_;rw[<-zW.out];have:=HJ.out;rw[ej,List.take_length]at this;exact decide_eq_false this
   subst ej;clear HJ a4 a5
   go_wp2
   go_ret
   rw[HF.out];exact⟨rfl,rfl⟩
theorem Ls(v:ay)(k:Nat)(w:World)(h:dU w v)(hk:k∈v.kept) :
 Calls prog 92 #[.pointer (some ⟨v.vb,0,none⟩),.int .i64 k] w fun e w'=>e=.returned (.bool true)/\w'=w:=by
 have hK:=nX v k w h;rw[decide_eq_true hk]at hK
 go_enter func92,ntmps92
 go_wp2_with (go_at_call 124;refine hK.mono ?_;rintro e wz ⟨rfl,rfl⟩)
 go_ret
 exact⟨rfl,rfl⟩
theorem Ii(v:ay)(k:Nat)(w:World)(h:dU w v)(hk:k∉v.kept)(hf:v.blocks.length<=v.kept.length) :
 Calls prog 92 #[.pointer (some ⟨v.vb,0,none⟩),.int .i64 k] w fun e w'=>e=.returned (.bool false) /\
  dU w' { v with kg:=none,kept:=[],lost:=true }/\Same [v.vb] w w':=by
 have hK:=nX v k w h;rw[decide_eq_false hk]at hK;obtain⟨dc,bc,kc,a1,a2,a3,a4,a5⟩:=h.ex;have e3:w.cell? ⟨v.vb,3,none⟩=some (.slice (some ⟨v.bg,0,none⟩) v.blocks.length bc):=a1.cell? 3;have e4:w.cell? ⟨v.vb,4,none⟩=some (.slice (v.kg.map fun g=>⟨g,0,none⟩) v.kept.length kc):=a1.cell? 4;have e5:w.cell? ⟨v.vb,5,none⟩=some (.bool v.lost):=a1.cell? 5;have f5:w.frozen? ⟨v.vb,5,none⟩=false:=a1.frozen 5;have f4:w.frozen? ⟨v.vb,4,none⟩=false:=a1.frozen 4;have b2:=((a1.ax 5 (.bool true)).ax 4 (.slice none 0 0)).drew;have S2:Same [v.vb] w (((w.setCell ⟨v.vb,5,none⟩ (.bool true)).setCell ⟨v.vb,4,none⟩ (.slice none 0 0))).drew:=(((Same.refl _ _).set _ _ _ (by simp)).set _ _ _ (by simp)).drew;have n1:v.dg∉[v.vb]:=by
  obtain⟨cs,h1,_⟩:=a2.ex;intro hm;simp at hm;rw[hm]at h1;exact absurd (h1.inj a1).1 (by decide)
 have n2:v.bg∉[v.vb]:=by
  obtain⟨cs,h1,_⟩:=a3.ex;intro hm;simp at hm;rw[hm]at h1;exact absurd (h1.inj a1).1 (by decide)
 have R2:dU ((w.setCell ⟨v.vb,5,none⟩ (.bool true)).setCell ⟨v.vb,4,none⟩ (.slice none 0 0)).drew { v with kg:=none,kept:=[],lost:=true }:=
  ⟨⟨dc,bc,0,b2,a2.same S2 n1,a3.same S2 n2,fun _=>⟨rfl,rfl⟩,fun g hg=>by cases hg⟩,h.data,h.blocks,by simp⟩
 have l1:(v.blocks.length:Int)<=(v.kept.length:Int):=by omega
 have hk2:=h.kept;clear h a1 a2 a3 a4 a5 b2 n1 n2
 go_enter func92,ntmps92
 go_wp2_with (go_at_call 124;refine hK.mono ?_;rintro e wz ⟨rfl,rfl⟩)
 go_region
 go_wp2
 go_ret
 exact⟨rfl,R2,S2⟩
theorem FQ(v:ay)(k:Nat)(w:World)(h:dU w v)(hk:k∉v.kept)(hf:v.kept.length<v.blocks.length)(hbg:v.kg≠some v.bg) :
 Calls prog 92 #[.pointer (some ⟨v.vb,0,none⟩),.int .i64 k] w fun e w'=>e=.returned (.bool true) /\
  ∃g,dU w' { v with kg:=some g,kept:=v.kept++[k] }/\Same (v.vb::v.kg.toList) w w'/\(v.kg=some g\/w.heap.size<=g):=by
 have hK:=nX v k w h;rw[decide_eq_false hk]at hK;obtain⟨dc,bc,kc,a1,a2,a3,a4,a5⟩:=h.ex;have e3:w.cell? ⟨v.vb,3,none⟩=some (.slice (some ⟨v.bg,0,none⟩) v.blocks.length bc):=a1.cell? 3;have e4:w.cell? ⟨v.vb,4,none⟩=some (.slice (v.kg.map fun g=>⟨g,0,none⟩) v.kept.length kc):=a1.cell? 4;have l1:(v.kept.length:Int)<(v.blocks.length:Int):=by omega
 have hk2:=h.kept;have hb2:=h.blocks;have hown:w.ownsRow 0 3 1 (.slice (v.kg.map fun g=>⟨g,0,none⟩) v.kept.length kc) v.kept.length (v.kept.map (fun x:Nat=>Value.int .i64 x)):=by
  cases hg:v.kg with
  | none=>
   obtain⟨q1,q2⟩:=a4 hg;rw[q1,q2];exact World.ownsRow_nil _ _ _ _
  | some g=>exact yK (a5 g hg) rfl
 have hob:(Value.slice (v.kg.map fun g=>(⟨g,0,none⟩:Addr)) v.kept.length kc).ownBlock=v.kg:=by
  cases hg:v.kg<;>rfl
 obtain⟨i0,hi,hz0,hz1,hz2⟩:=info_parts Tryz.info3;have n1:v.vb≠v.dg:=by
  obtain⟨cs,h1,_⟩:=a2.ex;intro hm;rw[<-hm]at h1;exact absurd (h1.inj a1).1 (by decide)
 have n2:v.vb≠v.bg:=by
  obtain⟨cs,h1,_⟩:=a3.ex;intro hm;rw[<-hm]at h1;exact absurd (h1.inj a1).1 (by decide)
 have n3:v.kg≠some v.vb:=by
  intro hm;obtain⟨cs,h1,_⟩:=(a5 _ hm).ex;exact absurd (h1.inj a1).1 (by decide)
 have n4:v.kg≠some v.dg:=by
  intro hm;obtain⟨cs,h1,_⟩:=(a5 _ hm).ex;obtain⟨cs',h2,_⟩:=a2.ex;exact absurd (h1.inj h2).1 (by decide)
 go_enter func92,ntmps92
 go_wp2_with (go_at_call 124;refine hK.mono ?_;rintro e wz ⟨rfl,rfl⟩)
 go_region
 go_wp2_with (first|(at_builtin;refine wpList_append_own_at _ rfl _ _ 51 rfl 0 3 i0 (.int .i64 0) 1 8 underlying51 hi hz0 hz1 hz2 rfl (by decide) _ _ _ rfl (hown.alloc _) ⟨wz.heap.size,0,none⟩ 1 1 [.int .i64 (k:Nat)] rfl rfl ?c1 ?c2 ?c3 ?c4 ?c5 ?_))
 case c1=>
  intro j u hj
  match j,hj with
  | 0,hj=>simp at hj;subst hj;simp[Addr.add]
 case c2=>intro u hu;simp at hu;subst hu;rfl
 case c3=>unfold maxLen;omega
 case c4=>omega
 case c5=>omega
 intro v' w4 hown' hgrow _ hblk
 try rw[hob]at hgrow
 try rw[hob]at hblk
 have S4:Same v.kg.toList wz w4:=((Same.refl _ _).alloc _).drew.grown hgrow (fun i hi hl=>by rw[hi];simp);have hown2:w4.ownsRow 0 3 1 v' (v.kept.length+1) ((v.kept++[k]).map (fun x:Nat=>Value.int .i64 x)):=by
  rw[List.map_append];exact hown'
 obtain⟨g,cap,rfl,_,hN⟩:=nJ hown2 (by simp);have hgo:v.kg=some g\/wz.heap.size<=g:=by
  rcases hblk with hq|hq
  ·exact .inl hq.symm
  ·have:g=(wz.alloc (.cells #[.int .i64 (k:Nat)] 3)).heap.size:=by
    simpa [Value.ownBlock] using hq
   right;rw[this];simp
 have b1:=S4.at a1 (by simpa using n3);have f4:=b1.frozen 4;have hvl:=a1.lt;have S5:Same (v.vb::v.kg.toList) wz (w4.setCell ⟨v.vb,4,none⟩ (.slice (some ⟨g,0,none⟩) (v.kept++[k]).length cap)):=
  (S4.mono (by intro b hb _;exact List.mem_cons_of_mem _ hb)).set _ _ _ (by simp)
 have ng:g≠v.vb:=by
  rcases hgo with hq|hq
  ·intro e;exact n3 (by rw[hq,e])
  ·omega
 have R5:dU (w4.setCell ⟨v.vb,4,none⟩ (.slice (some ⟨g,0,none⟩) (v.kept++[k]).length cap)) { v with kg:=some g,kept:=v.kept++[k] }:=by
  refine⟨⟨dc,bc,cap,b1.ax 4 _,a2.same S5 ?_,a3.same S5 ?_,fun hq=>(by cases hq),fun g' hg'=>?_⟩,h.data,h.blocks,by simp;omega⟩
  ·simp;exact⟨fun e=>n1 e.symm,n4⟩
  ·simp;exact⟨fun e=>n2 e.symm,hbg⟩
  ·cases hg';obtain⟨cs,h1,h2⟩:=hN.ex;exact⟨cs,h1.aP _ _ _ ng,h2⟩
 have g4:w4.cell? ⟨v.vb,4,none⟩=some (.slice (v.kg.map fun g=>⟨g,0,none⟩) v.kept.length kc):=b1.cell? 4;rw[List.length_append,List.length_singleton]at R5 S5;clear hown hown' hown2 hgrow h a1 a2 a3 a4 a5 hK b1
 go_wp2
 go_ret
 exact⟨rfl,g,R5,S5,hgo⟩
theorem PI(n:Int)(w:World)(hn:n<1\/200<n) :
 Calls prog 25 #[.int .i64 n] w fun e w'=>e=.returned (.tuple #[.pointer none,.int .i64 1])/\w'=w:=by
 rcases hn with hn|hn
 ·go_enter func25,ntmps25
  go_wp2
  go_ret2
  exact⟨rfl,rfl⟩
 ·have h1:1<=n:=by omega
  go_enter func25,ntmps25
  go_wp2
  go_ret2
  exact⟨rfl,rfl⟩
theorem QS(n:Nat)(w:World)(h1:1<=n)(h2:n<=200) :
 Calls prog 25 #[.int .i64 n] w fun e w'=>e=.returned (.tuple #[.pointer (some ⟨w.heap.size,0,none⟩),.int .i64 0]) /\
  aO w' ⟨w.heap.size,none,n,[]⟩/\Same [] w w':=by
 have l1:(1:Int)<=(n:Int):=by omega
 have l2:(n:Int)<=200:=by omega
 have R:aO (w.alloc (.cells #[.int .i64 (n:Nat),.slice none 0 0] 84)) ⟨w.heap.size,none,n,[]⟩:=
  ⟨⟨0,At.new w _ _,by simp,fun _=>⟨rfl,rfl⟩⟩,fun b hb=>(by cases hb),fun v hv=>by simp at hv,by simp,h2⟩
 have S:Same [] w (w.alloc (.cells #[.int .i64 (n:Nat),.slice none 0 0] 84)):=(Same.refl _ _).alloc _
 go_enter func25,ntmps25
 go_wp2
 go_ret2
 exact⟨rfl,R,S⟩
def ay.told(v:ay):List Value:=
 if v.bC=⟨#[]⟩ then [.string v.name,.int .i64 v.data.length,.string ⟨#[]⟩,.int .i64 0,.int .i64 0,.bool false]
 else [.string v.name,.int .i64 v.data.length,.string v.bC,.int .i64 v.blocks.length,.int .i64 v.kept.length,.bool v.lost]
def gU:List ay->List Value
 | []=>[]
 | v::r=>v.told++gU r
theorem rf(a b:List ay):gU (a++b)=gU a++gU b:=by
 induction a with
 | nil=>rfl
 | cons v r ih=>simp[gU,ih]
theorem Dx(s:aQ)(w:World)(h:aO w s) :
 Calls prog 37 #[.pointer (some ⟨s.rb,0,none⟩)] w fun e w'=>∃a cap,e=.returned (.slice a s.af.length cap)/\Same [] w w' /\
  (s.af≠[]->∃g cs,a=some ⟨g,0,none⟩/\w.heap.size<=g/\At w' g 57 cs/\cs.take (s.af.length*6)=gU s.af):=by
 obtain⟨cap,hp,h1,h2⟩:=h.pool;have hfew:=h.few;obtain⟨i0,hi,hz0,hz1,hz2⟩:=info_parts Tryz.info57
 go_enter func37,ntmps37
 go_wp2
 go_loopw [3,4] (fun u i wr=>∃k:Nat,k<=s.af.length/\i=.int .i64 k/\Same [] w wr/\wr.ownsRow w.heap.size 57 6 u k (gU (s.af.take k)))
  (fun _ i _=>s.af.length-(intOf i).toNat)
 case atStart=>exact⟨0,Nat.zero_le _,rfl,Same.refl _ _,World.ownsRow_nil _ _ _ _⟩
 case round=>
  obtain⟨k,hk,rfl,hS,hown⟩:=hrel;have c1:wr.cell? ⟨s.rb,1,none⟩=some (.slice (s.lg.map fun b=>⟨b,0,none⟩) s.af.length cap):=(hS.at hp (by simp)).cell? 1;have hR:=h.iW hS;obtain⟨ua,pG,rfl⟩:=ak hown;by_cases hkl:k<s.af.length
  ·obtain⟨b,hb,e1,hm⟩:=hR.cell k hkl;have hRV:=hR.af _ hm;obtain⟨dc,bc,kc,hv,_⟩:=hRV.ex;have q0:wr.cell? ⟨(s.af[k]!).vb,0,none⟩=some (.string (s.af[k]!).name):=hv.cell? 0;have q1:wr.cell? ⟨(s.af[k]!).vb,1,none⟩=some (.string (s.af[k]!).bC):=hv.cell? 1;have q2:wr.cell? ⟨(s.af[k]!).vb,2,none⟩=some (.slice (some ⟨(s.af[k]!).dg,0,none⟩) (s.af[k]!).data.length dc):=hv.cell? 2;have q3:wr.cell? ⟨(s.af[k]!).vb,3,none⟩=some (.slice (some ⟨(s.af[k]!).bg,0,none⟩) (s.af[k]!).blocks.length bc):=hv.cell? 3;have q4:wr.cell? ⟨(s.af[k]!).vb,4,none⟩=some (.slice ((s.af[k]!).kg.map fun g=>⟨g,0,none⟩) (s.af[k]!).kept.length kc):=hv.cell? 4;have q5:wr.cell? ⟨(s.af[k]!).vb,5,none⟩=some (.bool (s.af[k]!).lost):=hv.cell? 5;have z0:=hv.lt;have z1:=hRV.data;have z2:=hRV.blocks;have z3:=hRV.kept;have hb':(s.lg.map fun b=>(⟨b,0,none⟩:Addr))=some ⟨b,0,none⟩:=by rw[hb];rfl
   rw[hb']at c1;have HV:Hid (s.af.take (k+1)=s.af.take k++[s.af[k]!]):=by show _=_;rw[List.take_succ_eq_append_getElem hkl,getElem!_pos s.af k hkl]
   generalize s.af[k]! = vv at *;have l1:(k:Int)<(s.af.length:Int):=by omega
   have hsz:=hS.size;clear hR hRV hv hm hb' hb;by_cases hn:vv.bC=⟨#[]⟩
   ·have HTD:Hid (vv.told=[.string vv.name,.int .i64 vv.data.length,.string ⟨#[]⟩,.int .i64 0,.int .i64 0,.bool false]):=by show _=_;rw[ay.told,if_pos hn]
    rw[hn]at q1
    go_wp2_with (first|(at_builtin;fail))
    go_region
    go_wp2_with (at_builtin;refine wpList_append_own _ rfl _ _ 47 rfl w.heap.size 57 i0 (.agg #[.string ⟨#[]⟩,.int .i64 0,.string ⟨#[]⟩,.int .i64 0,.int .i64 0,.bool false]) 6 64 underlying47 hi hz0 hz1 hz2 rfl (by decide) _ _ _ rfl ((hown.alloc _).alloc _) ⟨wr.heap.size+1,0,none⟩ 1 1 [.string vv.name,.int .i64 vv.data.length,.string ⟨#[]⟩,.int .i64 0,.int .i64 0,.bool false] rfl rfl ?c1 ?c2 ?c3 ?c4 ?c5 ?_)
    case c1=>
     intro j u hj;rw[Addr.add_lit,Nat.zero_add];refine Eq.trans (World.cell?_alloc_at _ _ _ _ (by simp)) ?_;rw[<-hj];simp
    case c2=>intro u hu;simp at hu;rcases hu with rfl|rfl|rfl|rfl|rfl<;>rfl
    case c3=>unfold maxLen;omega
    case c4=>omega
    case c5=>simp;omega
    intro v' w2 hown' hgrow _;have S2:Same [] w w2:=((hS.alloc _).alloc _).drew.grown hgrow (fun j hj hl=>by have:=(hown.lt j hj).1;omega);have O2:w2.ownsRow w.heap.size 57 6 v' (k+1) (gU (s.af.take (k+1))):=by
     rw[HV.out,rf];simpa [gU,HTD.out] using hown'
    clear hown' hgrow hown hS c1 e1 q0 q1 q2 q3 q4 q5
    go_wp2
    go_roundw
    case rel=>exact⟨k+1,by omega,by go_num,S2,O2⟩
    case measure=>simp[intOf];omega
   ·have HTD:Hid (vv.told=[.string vv.name,.int .i64 vv.data.length,.string vv.bC,.int .i64 vv.blocks.length,.int .i64 vv.kept.length,.bool vv.lost]):=by show _=_;rw[ay.told,if_neg hn]
    have hbq:vv.bC.toList.isEmpty=false:=by
     have hq:(vv.bC.toList == (⟨#[]⟩:ByteArray).toList)=false:=by rw[bytes_beq];exact decide_eq_false hn
     rw[<-hq,Bool.eq_iff_iff,List.isEmpty_iff,beq_iff_eq];have e0:(⟨#[]⟩:ByteArray).toList=[]:=by simp
     rw[e0]
    go_wp2_with (first|(at_builtin;fail))
    go_region
    go_wp2_with (at_builtin;refine wpList_append_own _ rfl _ _ 47 rfl w.heap.size 57 i0 (.agg #[.string ⟨#[]⟩,.int .i64 0,.string ⟨#[]⟩,.int .i64 0,.int .i64 0,.bool false]) 6 64 underlying47 hi hz0 hz1 hz2 rfl (by decide) _ _ _ rfl ((hown.alloc _).alloc _) ⟨wr.heap.size+1,0,none⟩ 1 1 [.string vv.name,.int .i64 vv.data.length,.string vv.bC,.int .i64 vv.blocks.length,.int .i64 vv.kept.length,.bool vv.lost] rfl rfl ?c1 ?c2 ?c3 ?c4 ?c5 ?_)
    case c1=>
     intro j u hj;rw[Addr.add_lit,Nat.zero_add];refine Eq.trans (World.cell?_alloc_at _ _ _ _ (by simp)) ?_;rw[<-hj];simp
    case c2=>intro u hu;simp at hu;rcases hu with rfl|rfl|rfl|rfl|rfl|rfl<;>rfl
    case c3=>unfold maxLen;omega
    case c4=>omega
    case c5=>simp;omega
    intro v' w2 hown' hgrow _;have S2:Same [] w w2:=((hS.alloc _).alloc _).drew.grown hgrow (fun j hj hl=>by have:=(hown.lt j hj).1;omega);have O2:w2.ownsRow w.heap.size 57 6 v' (k+1) (gU (s.af.take (k+1))):=by
     rw[HV.out,rf];simpa [gU,HTD.out] using hown'
    clear hown' hgrow hown hS c1 e1 q0 q1 q2 q3 q4 q5
    go_wp2
    go_roundw
    case rel=>exact⟨k+1,by omega,by go_num,S2,O2⟩
    case measure=>simp[intOf];omega
  ·have ek:k=s.af.length:=by omega
   subst ek;rw[List.take_length]at hown;clear hR
   go_wp2
   go_ret
   refine⟨ua,pG,rfl,hS,fun hne=>?_⟩;obtain⟨g,cs,h1,h2,h3,_,h5⟩:=iw hown (by cases hv:s.af<;>simp_all);exact⟨g,cs,h1,h2,h3,h5⟩
theorem QC(n:Nat)(w:World)(h:n<=13):Calls prog 26 #[.int .i64 n] w fun e w'=>e=.returned (.int .i64 n)/\w'=w:=by
 go_enter func26,ntmps26
 go_wp2
 go_ret
 exact⟨rfl,rfl⟩
def aN.ints(b:aN):List Int:=[b.b0,b.b1,b.b2,b.b3,b.b4,b.b5,b.b6,b.b7]
def aN.text(b:aN):ByteArray:=b.ints.foldl (fun r n=>r.push (UInt8.ofNat n.toNat)) ByteArray.empty
theorem aN.MS(b:aN):b.cells=b.ints.map (Value.int .u8):=rfl
theorem aN.L6(b:aN):b.ints.length=8:=rfl
theorem Cj(b:aN)(w:World):Calls prog 52 #[b.val] w fun e w'=>e=.returned (.string b.text)/\Same [] w w':=by
 obtain⟨i0,hi,hz0,hz1,hz2⟩:=info_parts Tryz.info5;have A0:At (w.alloc (.cells #[.int .u8 b.b0,.int .u8 b.b1,.int .u8 b.b2,.int .u8 b.b3,.int .u8 b.b4,.int .u8 b.b5,.int .u8 b.b6,.int .u8 b.b7] 91)) w.heap.size 91 b.cells:=At.new w _ _;have S0:Same [] w (w.alloc (.cells #[.int .u8 b.b0,.int .u8 b.b1,.int .u8 b.b2,.int .u8 b.b3,.int .u8 b.b4,.int .u8 b.b5,.int .u8 b.b6,.int .u8 b.b7] 91)):=(Same.refl _ _).alloc _;have HT:Hid (b.ints.foldl (fun r n=>r.push (UInt8.ofNat n.toNat)) ByteArray.empty=b.text):=rfl;have hlen:=b.L6;rw[b.MS]at A0;generalize hbi:b.ints=bi at *;generalize b.text=bt at *;unfold aN.val
 go_enter func52,ntmps52
 go_wp2_with fail
 go_loopw [3,4] (fun u i wr=>∃k:Nat,k<=8/\i=.int .i64 k/\Same [] w wr/\At wr w.heap.size 91 (bi.map (Value.int .u8))/\w.heap.size+1<=wr.heap.size/\wr.ownsRow (w.heap.size+1) 5 1 u k ((bi.take k).map (Value.int .u8)))
  (fun _ i _=>8-(intOf i).toNat)
 case atStart=>exact⟨0,Nat.zero_le _,rfl,S0,A0,by simp,World.ownsRow_nil _ _ _ _⟩
 case round=>
  obtain⟨k,hk,rfl,hS,hA,hsz,hown⟩:=hrel;obtain⟨ua,pG,rfl⟩:=ak hown;by_cases hkl:k<8
  ·have e1:wr.cell? ⟨w.heap.size,k,none⟩=some (.int .u8 bi[k]!):=by
    rw[hA.cell?,List.getElem?_map,List.getElem?_eq_getElem (by omega)];rw[getElem!_pos bi k (by omega)];rfl
   have HX:Hid (bi.take (k+1)=bi.take k++[bi[k]!]):=by show _=_;rw[List.take_succ_eq_append_getElem (by omega),getElem!_pos bi k (by omega)]
   generalize bi[k]! = x at *;have l1:(k:Int)<8:=by omega
   go_wp2_with (at_builtin;refine wpList_append_own _ rfl _ _ 41 rfl (w.heap.size+1) 5 i0 (.int .u8 0) 1 1 underlying41 hi hz0 hz1 hz2 rfl (by decide) _ _ _ rfl (hown.alloc _) ⟨wr.heap.size,0,none⟩ 1 1 [.int .u8 x] rfl rfl ?c1 ?c2 ?c3 ?c4 ?c5 ?_)
   case c1=>
    intro j u hj
    match j,hj with
    | 0,hj=>simp at hj;subst hj;simp[Addr.add]
   case c2=>intro u hu;simp at hu;subst hu;rfl
   case c3=>unfold maxLen;omega
   case c4=>omega
   case c5=>simp;omega
   intro v' w4 hown' hgrow _;have S4:Same [] w w4:=(hS.alloc _).grown hgrow (fun i hi hl=>by have:=(hown.lt i hi).1;omega);have A4:At w4 w.heap.size 91 (bi.map (Value.int .u8)):=(hA.alloc _).of_heap (hgrow.block _ (hA.alloc _).lt (fun e=>by have:=(hown.lt _ e.symm).1;omega));have Z4:w.heap.size+1<=w4.heap.size:=by have:=hgrow.size;simp at this;omega
   have O4:w4.ownsRow (w.heap.size+1) 5 1 v' (k+1) ((bi.take (k+1)).map (Value.int .u8)):=by
    rw[HX.out,List.map_append];simpa [List.map_take] using hown'
   clear hown' hgrow hown hS hA e1
   go_wp2
   go_roundw
   case rel=>exact⟨k+1,by omega,by go_num,S4,A4,Z4,O4⟩
   case measure=>simp[intOf];omega
  ·have ek:k=8:=by omega
   subst ek;obtain⟨g,cs,rfl,hge,hC,_,hcs⟩:=iw hown (by omega);have hb8:bi.take 8=bi:=List.take_of_length_le (by rw[hlen];exact Nat.le_refl _);rw[hb8]at hcs;have hconv:(convert 41 9 (.slice (some ⟨g,0,none⟩) 8 pG)).run prog wr=.ok (.string bt) wr:=by
    rw[run_convert_bytes_string _ _ _ 5 _ _ _ underlying41 underlying5 underlying9];have hl:=run_loadCells_list (P:=prog) (w:=wr) ⟨g,0,none⟩ (bi.map (Value.int .u8)) (fun j v hj=>by
     rw[Addr.add_lit,Nat.zero_add,hC.cell?,<-hj,<-hcs,List.getElem?_take];have:j<8:=by
      rcases Nat.lt_or_ge j 8 with h'|h'
      ·exact h'
      ·rw[List.getElem?_eq_none (by simp;omega)]at hj;cases hj
     rw[if_pos (by omega)])
    rw[show(bi.map (Value.int .u8)).length=8 by simpa using hlen]at hl;rw[run_bytesToString _ _ _ _ bi hl,HT.out]
   clear hown hA hC hcs
   go_wp2
   go_ret
   exact⟨rfl,hS⟩
def byteAt(s:ByteArray)(k i:Nat):Int:=if i<k then ((s.data[i]!).toNat:Int) else 0
def gI(s:ByteArray)(k:Nat):aN:=⟨byteAt s k 0,byteAt s k 1,byteAt s k 2,byteAt s k 3,byteAt s k 4,byteAt s k 5,byteAt s k 6,byteAt s k 7⟩
theorem Og(s:ByteArray):gI s 0=aN.zero:=by simp[gI,byteAt,aN.zero]
theorem KF(s:ByteArray)(k i:Nat):byteAt s (k+1) i=if i=k then ((s.data[k]!).toNat:Int) else byteAt s k i:=by
 unfold byteAt;by_cases h:i=k
 ·subst h;simp
 ·by_cases h2:i<k
  ·simp[h,h2,show i<k+1 by omega]
  ·simp[h,h2,show ¬i<k+1 by omega]
theorem Ol(s:ByteArray)(k:Nat)(hk:k<8):(gI s (k+1)).cells=(gI s k).cells.set k (.int .u8 ((s.data[k]!).toNat:Int)):=by
 have:k=0\/k=1\/k=2\/k=3\/k=4\/k=5\/k=6\/k=7:=by omega
 rcases this with rfl|rfl|rfl|rfl|rfl|rfl|rfl|rfl<;>simp[gI,aN.cells,KF]
theorem VR(w:World):At ((w.alloc (.cells #[.int .u8 0,.int .u8 0,.int .u8 0,.int .u8 0,.int .u8 0,.int .u8 0,.int .u8 0,.int .u8 0] 91)).alloc (.cells #[.int .u8 0,.int .u8 0,.int .u8 0,.int .u8 0,.int .u8 0,.int .u8 0,.int .u8 0,.int .u8 0] 91)) (w.heap.size+1) 91 aN.zero.cells:=by
 have h:=At.new (w.alloc (.cells #[.int .u8 0,.int .u8 0,.int .u8 0,.int .u8 0,.int .u8 0,.int .u8 0,.int .u8 0,.int .u8 0] 91)) #[.int .u8 0,.int .u8 0,.int .u8 0,.int .u8 0,.int .u8 0,.int .u8 0,.int .u8 0,.int .u8 0] 91;rw[show(w.alloc (.cells #[.int .u8 0,.int .u8 0,.int .u8 0,.int .u8 0,.int .u8 0,.int .u8 0,.int .u8 0,.int .u8 0] 91)).heap.size=w.heap.size+1 by simp]at h;exact h
theorem MB(s:ByteArray)(w:World)(hs:s.size<=maxLen):Calls prog 49 #[.string s] w fun e w'=>e=.returned (gI s (min s.size 8)).val/\Same [] w w':=by
 unfold maxLen at hs;generalize hres:gI s (min s.size 8)=res;have HR:Hid (gI s (min s.size 8)=res):=hres;clear hres;unfold aN.val
 go_enter func49,ntmps49
 go_wp2_with fail
 go_loopw [4] (fun i wr=>∃k:Nat,k<=s.size/\k<=8/\i=.int .i64 k/\Same [] w wr/\At wr (w.heap.size+1) 91 (gI s k).cells/\At wr w.heap.size 91 aN.zero.cells)
  (fun i _=>8-(intOf i).toNat)
 case atStart=>exact⟨0,Nat.zero_le _,Nat.zero_le _,rfl,((Same.refl _ _).alloc _).alloc _,by rw[Og];exact VR w,(At.new w _ _).alloc _⟩
 case round=>
  obtain⟨k,hk,hk8,rfl,hS,hA,hZ⟩:=hrel;by_cases hkl:k<s.size
  ·have l1:(k:Int)<(s.size:Int):=by omega
   by_cases hk9:k<8
   ·have l2:(k:Int)<8:=by omega
    have fk:wr.frozen? ⟨(w.heap.size+1),k,none⟩=false:=hA.frozen k;obtain⟨x,hx⟩:∃x,wr.cell? ⟨(w.heap.size+1),k,none⟩=some x:=by
     rw[hA.cell?,List.getElem?_eq_getElem (by simpa [aN.cells] using hk9)];exact⟨_,rfl⟩
    have e0:s[k]=s.data[k]!:=by
     rw[getElem!_pos s.data k hkl];rfl
    have A4:=hA.ax k (.int .u8 ((s.data[k]!).toNat:Int));rw[<-Ol s k hk9,<-e0]at A4;have S4:Same [] w (wr.setCell ⟨(w.heap.size+1),k,none⟩ (.int .u8 ((s[k]).toNat:Int))):=hS.set _ _ _ (by intro h;omega);have Z4:=hZ.aP (w.heap.size+1) k (.int .u8 ((s[k]).toNat:Int)) (by omega);clear hA hS hZ
    go_wp2
    go_roundw
    case rel=>exact⟨k+1,by omega,by omega,by go_num,S4,A4,Z4⟩
    case measure=>simp[intOf];omega
   ·have ek:k=8:=by omega
    subst ek;have hmin:min s.size 8=8:=by omega
    have er:gI s 8=res:=by rw[<-HR.out,hmin]
    have c0:wr.cell? ⟨(w.heap.size+1),0,none⟩=some (.int .u8 (gI s 8).b0):=hA.cell? 0;have c1:wr.cell? ⟨(w.heap.size+1),1,none⟩=some (.int .u8 (gI s 8).b1):=hA.cell? 1;have c2:wr.cell? ⟨(w.heap.size+1),2,none⟩=some (.int .u8 (gI s 8).b2):=hA.cell? 2;have c3:wr.cell? ⟨(w.heap.size+1),3,none⟩=some (.int .u8 (gI s 8).b3):=hA.cell? 3;have c4:wr.cell? ⟨(w.heap.size+1),4,none⟩=some (.int .u8 (gI s 8).b4):=hA.cell? 4;have c5:wr.cell? ⟨(w.heap.size+1),5,none⟩=some (.int .u8 (gI s 8).b5):=hA.cell? 5;have c6:wr.cell? ⟨(w.heap.size+1),6,none⟩=some (.int .u8 (gI s 8).b6):=hA.cell? 6;have c7:wr.cell? ⟨(w.heap.size+1),7,none⟩=some (.int .u8 (gI s 8).b7):=hA.cell? 7;rw[er]at c0 c1 c2 c3 c4 c5 c6 c7;have y0:wr.cell? ⟨w.heap.size,0,none⟩=some (.int .u8 0):=hZ.cell? 0;have y1:wr.cell? ⟨w.heap.size,1,none⟩=some (.int .u8 0):=hZ.cell? 1;have y2:wr.cell? ⟨w.heap.size,2,none⟩=some (.int .u8 0):=hZ.cell? 2;have y3:wr.cell? ⟨w.heap.size,3,none⟩=some (.int .u8 0):=hZ.cell? 3;have y4:wr.cell? ⟨w.heap.size,4,none⟩=some (.int .u8 0):=hZ.cell? 4;have y5:wr.cell? ⟨w.heap.size,5,none⟩=some (.int .u8 0):=hZ.cell? 5;have y6:wr.cell? ⟨w.heap.size,6,none⟩=some (.int .u8 0):=hZ.cell? 6;have y7:wr.cell? ⟨w.heap.size,7,none⟩=some (.int .u8 0):=hZ.cell? 7;have fz:=hZ.frozen;have SF:Same [] w ((((((((wr.setCell ⟨w.heap.size,0,none⟩ (.int .u8 res.b0)).setCell ⟨w.heap.size,1,none⟩ (.int .u8 res.b1)).setCell ⟨w.heap.size,2,none⟩ (.int .u8 res.b2)).setCell ⟨w.heap.size,3,none⟩ (.int .u8 res.b3)).setCell ⟨w.heap.size,4,none⟩ (.int .u8 res.b4)).setCell ⟨w.heap.size,5,none⟩ (.int .u8 res.b5)).setCell ⟨w.heap.size,6,none⟩ (.int .u8 res.b6)).setCell ⟨w.heap.size,7,none⟩ (.int .u8 res.b7)):=by
     have hx:w.heap.size<w.heap.size->w.heap.size∈([]:List Nat):=fun h=>absurd h (by omega)
     exact(((((((hS.set _ _ _ hx).set _ _ _ hx).set _ _ _ hx).set _ _ _ hx).set _ _ _ hx).set _ _ _ hx).set _ _ _ hx).set _ _ _ hx
    clear hA hZ
    go_wp2
    exact bodyPost_ret (v:=.agg #[.int .u8 res.b0,.int .u8 res.b1,.int .u8 res.b2,.int .u8 res.b3,.int .u8 res.b4,.int .u8 res.b5,.int .u8 res.b6,.int .u8 res.b7]) (by simp[results,results49,go_sem,y0,y1,y2,y3,y4,y5,y6,y7]) rfl ⟨rfl,SF⟩
  ·have ek:k=s.size:=by omega
   have hmin:min s.size 8=k:=by omega
   have er:gI s k=res:=by rw[<-HR.out,hmin]
   have c0:wr.cell? ⟨(w.heap.size+1),0,none⟩=some (.int .u8 (gI s k).b0):=hA.cell? 0;have c1:wr.cell? ⟨(w.heap.size+1),1,none⟩=some (.int .u8 (gI s k).b1):=hA.cell? 1;have c2:wr.cell? ⟨(w.heap.size+1),2,none⟩=some (.int .u8 (gI s k).b2):=hA.cell? 2;have c3:wr.cell? ⟨(w.heap.size+1),3,none⟩=some (.int .u8 (gI s k).b3):=hA.cell? 3;have c4:wr.cell? ⟨(w.heap.size+1),4,none⟩=some (.int .u8 (gI s k).b4):=hA.cell? 4;have c5:wr.cell? ⟨(w.heap.size+1),5,none⟩=some (.int .u8 (gI s k).b5):=hA.cell? 5;have c6:wr.cell? ⟨(w.heap.size+1),6,none⟩=some (.int .u8 (gI s k).b6):=hA.cell? 6;have c7:wr.cell? ⟨(w.heap.size+1),7,none⟩=some (.int .u8 (gI s k).b7):=hA.cell? 7;have l3:(s.size:Int)<=(k:Int):=by omega
   rw[er]at c0 c1 c2 c3 c4 c5 c6 c7;have y0:wr.cell? ⟨w.heap.size,0,none⟩=some (.int .u8 0):=hZ.cell? 0;have y1:wr.cell? ⟨w.heap.size,1,none⟩=some (.int .u8 0):=hZ.cell? 1;have y2:wr.cell? ⟨w.heap.size,2,none⟩=some (.int .u8 0):=hZ.cell? 2;have y3:wr.cell? ⟨w.heap.size,3,none⟩=some (.int .u8 0):=hZ.cell? 3;have y4:wr.cell? ⟨w.heap.size,4,none⟩=some (.int .u8 0):=hZ.cell? 4;have y5:wr.cell? ⟨w.heap.size,5,none⟩=some (.int .u8 0):=hZ.cell? 5;have y6:wr.cell? ⟨w.heap.size,6,none⟩=some (.int .u8 0):=hZ.cell? 6;have y7:wr.cell? ⟨w.heap.size,7,none⟩=some (.int .u8 0):=hZ.cell? 7;have fz:=hZ.frozen;have SF:Same [] w ((((((((wr.setCell ⟨w.heap.size,0,none⟩ (.int .u8 res.b0)).setCell ⟨w.heap.size,1,none⟩ (.int .u8 res.b1)).setCell ⟨w.heap.size,2,none⟩ (.int .u8 res.b2)).setCell ⟨w.heap.size,3,none⟩ (.int .u8 res.b3)).setCell ⟨w.heap.size,4,none⟩ (.int .u8 res.b4)).setCell ⟨w.heap.size,5,none⟩ (.int .u8 res.b5)).setCell ⟨w.heap.size,6,none⟩ (.int .u8 res.b6)).setCell ⟨w.heap.size,7,none⟩ (.int .u8 res.b7)):=by
    have hx:w.heap.size<w.heap.size->w.heap.size∈([]:List Nat):=fun h=>absurd h (by omega)
    exact(((((((hS.set _ _ _ hx).set _ _ _ hx).set _ _ _ hx).set _ _ _ hx).set _ _ _ hx).set _ _ _ hx).set _ _ _ hx).set _ _ _ hx
   clear hA hZ
   go_wp2
   exact bodyPost_ret (v:=.agg #[.int .u8 res.b0,.int .u8 res.b1,.int .u8 res.b2,.int .u8 res.b3,.int .u8 res.b4,.int .u8 res.b5,.int .u8 res.b6,.int .u8 res.b7]) (by simp[results,results49,go_sem,y0,y1,y2,y3,y4,y5,y6,y7]) rfl ⟨rfl,SF⟩
theorem pI(s:aQ)(t x:ByteArray)(k:Int)(w:World)(h:aO w s)(hc:s.Oz t k≠0) :
 Calls prog 51 #[.pointer (some ⟨s.rb,0,none⟩),.string t,.int .i64 k,.string x] w fun e w'=>e=.returned (.int .i64 (s.Oz t k))/\w'=w:=by
 have hA:=Ap s t k w h hc;generalize s.Oz t k=res at *;have hr:((res:Int) == 0)=false:=beq_eq_false_iff_ne.2 (by omega)
 go_enter func51,ntmps51
 go_wp2_with (first|(go_at_call 91;refine hA.mono ?_;rintro e wz ⟨rfl,rfl⟩))
 go_ret
 exact⟨rfl,rfl⟩
theorem DJ(s:aQ)(t x:ByteArray)(k:Nat)(v:ay)(w:World)(h:aO w s)(ha:s.oO t=some v)(hl:v.lost=false)(hk:k<v.data.length)(hx:v.data[k]! = x) :
 Calls prog 51 #[.pointer (some ⟨s.rb,0,none⟩),.string t,.int .i64 k,.string x] w fun e w'=>e=.returned (.int .i64 0)/\w'=w:=by
 have hA:=qO s t k v w h ha hl hk;obtain⟨hm,hnm⟩:=aQ.gy ha;obtain⟨dc,bc,kc,hv,hdat,_⟩:=(h.af v hm).ex;have hd:=(h.af v hm).data;have e2:w.cell? ⟨v.vb,2,none⟩=some (.slice (some ⟨v.dg,0,none⟩) v.data.length dc):=hv.cell? 2;have ek:=hdat.cell k hk;rw[hx]at ek;have l1:(k:Int)<(v.data.length:Int):=by omega
 clear hv h hdat
 go_enter func51,ntmps51
 go_wp2_with (first|(go_at_call 91;refine hA.mono ?_;rintro e wz ⟨rfl,rfl⟩))
 go_ret
 exact⟨rfl,rfl⟩
theorem Af(s:aQ)(t:ByteArray)(k:Int)(w:World)(h:aO w s)(ha:s.oO t=none) :
 Calls prog 54 #[.pointer (some ⟨s.rb,0,none⟩),.string t,.int .i64 k] w fun e w'=>e=.returned (.int .i64 4)/\w'=w:=by
 have hF:=aW s t w h;rw[ha]at hF
 go_enter func54,ntmps54
 go_wp2_with (first|(go_at_call 79;refine hF.mono ?_;rintro e wz ⟨rfl,rfl⟩))
 go_ret
 exact⟨rfl,rfl⟩
theorem DU(s:aQ)(t:ByteArray)(k:Int)(v:ay)(w:World)(h:aO w s)(ha:s.oO t=some v)(ho:v.bC=⟨#[]⟩)(hp:s.dN t s.af.length=0)(hk:k<1\/200<k) :
 Calls prog 54 #[.pointer (some ⟨s.rb,0,none⟩),.string t,.int .i64 k] w fun e w'=>e=.returned (.int .i64 1)/\w'=w:=by
 have hF:=aW s t w h;have hP:=dI s t w h;rw[ha]at hF;rw[hp]at hP;obtain⟨hm,hnm⟩:=aQ.gy ha;obtain⟨dc,bc,kc,hv,_⟩:=(h.af v hm).ex;have e1:w.cell? ⟨v.vb,1,none⟩=some (.string ⟨#[]⟩):=by rw[<-ho];exact hv.cell? 1
 clear hv h;rcases hk with hk|hk
 ·go_enter func54,ntmps54
  go_wp2_with (first|(go_at_call 79;refine hF.mono ?_;rintro e wz ⟨rfl,rfl⟩)|(go_at_call 99;refine hP.mono ?_;rintro e wz ⟨rfl,rfl⟩))
  go_ret
  exact⟨rfl,rfl⟩
 ·have hk1:1<=k:=by omega
  go_enter func54,ntmps54
  go_wp2_with (first|(go_at_call 79;refine hF.mono ?_;rintro e wz ⟨rfl,rfl⟩)|(go_at_call 99;refine hP.mono ?_;rintro e wz ⟨rfl,rfl⟩))
  go_ret
  exact⟨rfl,rfl⟩
theorem Ag(s:aQ)(t:ByteArray)(k:Nat)(v:ay)(w:World)(h:aO w s)(ha:s.oO t=some v)(ho:v.bC=⟨#[]⟩)(hp:s.dN t s.af.length=0)(hk:1<=k/\k<=200)(hf:v.data.length+(s.dD s.n).length<k) :
 Calls prog 54 #[.pointer (some ⟨s.rb,0,none⟩),.string t,.int .i64 k] w fun e w'=>e=.returned (.int .i64 6)/\Same [] w w':=by
 have hF:=aW s t w h;have hP:=dI s t w h;have hR:=iY s w h;rw[ha]at hF;rw[hp]at hP;obtain⟨hm,hnm⟩:=aQ.gy ha;obtain⟨dc,bc,kc,hv,_⟩:=(h.af v hm).ex;have hd:=(h.af v hm).data;have e1:w.cell? ⟨v.vb,1,none⟩=some (.string ⟨#[]⟩):=by rw[<-ho];exact hv.cell? 1
 generalize s.dD s.n=fl at *;have l1:(1:Int)<=(k:Int):=by omega
 have l2:(k:Int)<=200:=by omega
 have l3:(v.data.length:Int)+(fl.length:Int)<(k:Int):=by omega
 clear h
 go_enter func54,ntmps54
 go_wp2_with (first|(go_at_call 79;refine hF.mono ?_;rintro e wz ⟨rfl,rfl⟩)|(go_at_call 99;refine hP.mono ?_;rintro e wz ⟨rfl,rfl⟩)|(go_at_call 63;refine hR.mono ?_;rintro e w2 ⟨u,rfl,hown,hS⟩;obtain⟨ua,pG,rfl⟩:=ak hown;have e2:w2.cell? ⟨v.vb,2,none⟩=some (.slice (some ⟨v.dg,0,none⟩) v.data.length dc):=(hS.at hv (by simp)).cell? 2))
 go_ret
 exact⟨rfl,hS⟩
theorem sS(s:aQ)(t:ByteArray)(k:Int)(w:World)(h:aO w s)(ht:t.size<=maxLen)(hc:s.dH t≠0) :
 Calls prog 48 #[.pointer (some ⟨s.rb,0,none⟩),.string t,.int .i64 k] w fun e w'=>e=.returned (.int .i64 (s.dH t))/\w'=w:=by
 have hF:=eU s t w h ht;generalize s.dH t=res at *;have hr:((res:Int) == 0)=false:=beq_eq_false_iff_ne.2 (by omega)
 go_enter func48,ntmps48
 go_wp2_with (first|(go_at_call 84;refine hF.mono ?_;rintro e wz ⟨rfl,rfl⟩))
 go_ret
 exact⟨rfl,rfl⟩
theorem DW(s:aQ)(t:ByteArray)(k:Int)(w:World)(h:aO w s)(ht:t.size<=maxLen)(hc:s.dH t=0)(hk:k<1\/200<k) :
 Calls prog 48 #[.pointer (some ⟨s.rb,0,none⟩),.string t,.int .i64 k] w fun e w'=>e=.returned (.int .i64 1)/\w'=w:=by
 have hF:=eU s t w h ht;rw[hc]at hF;rcases hk with hk|hk
 ·go_enter func48,ntmps48
  go_wp2_with (first|(go_at_call 84;refine hF.mono ?_;rintro e wz ⟨rfl,rfl⟩))
  go_ret
  exact⟨rfl,rfl⟩
 ·have hk1:1<=k:=by omega
  go_enter func48,ntmps48
  go_wp2_with (first|(go_at_call 84;refine hF.mono ?_;rintro e wz ⟨rfl,rfl⟩))
  go_ret
  exact⟨rfl,rfl⟩
theorem Tryz.wI:(prog.info? 9).map (fun i=>(i.zero,i.size,i.bytes))=some (some (.string ⟨#[]⟩),1,16):=by kernel_rfl
structure Bare(w:World)(vb:Nat)(t bC:ByteArray)(base:Nat)(data:List ByteArray):Prop where
 ex:∃u,At w vb 118 [.string t,.string bC,u,.slice none 0 0,.slice none 0 0,.bool false]/\w.ownsRow base 9 1 u data.length (data.map Value.string)
theorem pO(s:aQ)(t:ByteArray)(n:Nat)(w:World)(h:aO w s)(ht:t.size<=maxLen)(hc:s.dH t=0)(hn:1<=n/\n<=200)(Q:Ending->World->Prop)
 (hadd:∀w',Same [] w w'->Bare w' w.heap.size t ⟨#[]⟩ (w.heap.size+1) (List.replicate n eP) ->
  Calls prog 85 #[.pointer (some ⟨s.rb,0,none⟩),.pointer (some ⟨w.heap.size,0,none⟩),.int .i64 n] w' fun e w''=>∃c:Int,e=.returned (.int .i64 c)/\Q (.returned (.int .i64 c)) w'') :
 Calls prog 48 #[.pointer (some ⟨s.rb,0,none⟩),.string t,.int .i64 n] w Q:=by
 have hF:=eU s t w h ht;rw[hc]at hF;have l1:(1:Int)<=(n:Int):=by omega
 have l2:(n:Int)<=200:=by omega
 obtain⟨i0,hi,hz0,hz1,hz2⟩:=info_parts Tryz.wI;have Sv:Hid (∀w',Same [] w w'->Bare w' w.heap.size t ⟨#[]⟩ (w.heap.size+1) (List.replicate n eP) ->
  Calls prog 85 #[.pointer (some ⟨s.rb,0,none⟩),.pointer (some ⟨w.heap.size,0,none⟩),.int .i64 n] w' fun e w''=>∃c:Int,e=.returned (.int .i64 c)/\Q (.returned (.int .i64 c)) w''):=hadd
 clear hadd
 go_enter func48,ntmps48
 go_wp2_with (first|(go_at_call 84;refine hF.mono ?_;rintro e wz ⟨rfl,rfl⟩))
 clear hF h
 go_loopw [9] (fun i wr=>∃k:Nat,k<=n/\i=.int .i64 k/\Same [] wz wr/\wz.heap.size+1<=wr.heap.size/\Bare wr wz.heap.size t ⟨#[]⟩ (wz.heap.size+1) (List.replicate k eP))
  (fun i _=>n-(intOf i).toNat)
 case atStart=>exact⟨0,Nat.zero_le _,rfl,(Same.refl _ _).alloc _,by simp,⟨_,At.new wz _ _,World.ownsRow_nil _ _ _ _⟩⟩
 case round=>
  obtain⟨k,hk,rfl,hS,hsz,hB⟩:=hrel;by_cases hkl:k<n
  ·obtain⟨u,hA,hown⟩:=hB.ex;obtain⟨ua,pG,rfl⟩:=ak hown;rw[List.length_replicate]at hown hA;have e2:wr.cell? ⟨wz.heap.size,2,none⟩=some (.slice ua k pG):=hA.cell? 2;have l3:(k:Int)<(n:Int):=by omega
   clear hB
   go_wp2_with (at_builtin;refine wpList_append_own _ rfl _ _ 116 rfl (wz.heap.size+1) 9 i0 (.string ⟨#[]⟩) 1 16 underlying116 hi hz0 hz1 hz2 rfl (by decide) _ _ _ rfl (hown.alloc _) ⟨wr.heap.size,0,none⟩ 1 1 [.string eP] rfl rfl ?c1 ?c2 ?c3 ?c4 ?c5 ?_)
   case c1=>
    intro j u hj
    match j,hj with
    | 0,hj=>simp at hj;subst hj;simp[Addr.add,eP]
   case c2=>intro u hu;simp at hu;subst hu;rfl
   case c3=>unfold maxLen;omega
   case c4=>omega
   case c5=>simp;omega
   intro v' w4 hown' hgrow _;have S4:Same [] wz w4:=(hS.alloc _).grown hgrow (fun i hi hl=>by have:=(hown.lt i hi).1;omega);have A4:=(hA.alloc (.cells #[.string eP] 9)).of_heap (hgrow.block _ (hA.alloc _).lt (fun e=>by have:=(hown.lt _ e.symm).1;omega));have Z4:wz.heap.size+1<=w4.heap.size:=by have:=hgrow.size;simp at this;omega
   have f4:=A4.frozen 2;have g4:w4.cell? ⟨wz.heap.size,2,none⟩=some (.slice ua k pG):=A4.cell? 2;have hown2:w4.ownsRow (wz.heap.size+1) 9 1 v' (List.replicate (k+1) eP).length ((List.replicate (k+1) eP).map Value.string):=by
    rw[List.length_replicate,List.replicate_succ',List.map_append];simpa [List.map_replicate] using hown'
   obtain⟨va,IG,rfl⟩:=ak hown';have S5:Same [] wz (w4.setCell ⟨wz.heap.size,2,none⟩ (.slice va (k+1) IG)):=S4.set _ _ _ (by intro h;omega);have S6:Same [wz.heap.size] w4 (w4.setCell ⟨wz.heap.size,2,none⟩ (.slice va (k+1) IG)):=(Same.refl _ _).set _ _ _ (by simp);have B5:Bare (w4.setCell ⟨wz.heap.size,2,none⟩ (.slice va (k+1) IG)) wz.heap.size t ⟨#[]⟩ (wz.heap.size+1) (List.replicate (k+1) eP):=
    ⟨_,A4.ax 2 _,dZ hown2 S6 (by simp)⟩
   have Z5:wz.heap.size+1<=(w4.setCell ⟨wz.heap.size,2,none⟩ (.slice va (k+1) IG)).heap.size:=by have:=S6.size;omega
   clear hown hown' hown2 hgrow hA A4 S4 S6 hS e2
   go_wp2
   go_roundw
   case rel=>exact⟨k+1,by omega,by go_num,S5,Z5,B5⟩
   case measure=>simp[intOf];omega
  ·have ek:k=n:=by omega
   subst ek;have hAd:=Sv.out wr hS hB;clear Sv hB
   go_wp2_with (go_at_call 85;refine hAd.mono ?_;rintro e w2 ⟨c,rfl,hQ⟩)
   first
    | exact hQ
    | (go_ret;exact hQ)
theorem zq(s:aQ)(vb n:Nat)(w:World)(h:aO w s)(hm:20<=s.af.length) :
 Calls prog 85 #[.pointer (some ⟨s.rb,0,none⟩),.pointer (some ⟨vb,0,none⟩),.int .i64 n] w fun e w'=>e=.returned (.int .i64 5)/\w'=w:=by
 obtain⟨cap,hp,h1,h2⟩:=h.pool;have c1:w.cell? ⟨s.rb,1,none⟩=some (.slice (s.lg.map fun b=>⟨b,0,none⟩) s.af.length cap):=hp.cell? 1;have hfew:=h.few;have l1:(20:Int)<=(s.af.length:Int):=by omega
 clear h hp
 go_enter func85,ntmps85
 go_wp2
 go_ret
 exact⟨rfl,rfl⟩
theorem yZ(s:aQ)(vb n:Nat)(w:World)(h:aO w s)(hm:s.af.length<20)(hf:(s.dD s.n).length<n)(hn:n<=200) :
 Calls prog 85 #[.pointer (some ⟨s.rb,0,none⟩),.pointer (some ⟨vb,0,none⟩),.int .i64 n] w fun e w'=>e=.returned (.int .i64 6)/\Same [] w w':=by
 have hR:=iY s w h;obtain⟨cap,hp,h1,h2⟩:=h.pool;have c1:w.cell? ⟨s.rb,1,none⟩=some (.slice (s.lg.map fun b=>⟨b,0,none⟩) s.af.length cap):=hp.cell? 1;have l1:(s.af.length:Int)<20:=by omega
 generalize s.dD s.n=fl at *;have l2:(fl.length:Int)<(n:Int):=by omega
 clear h hp
 go_enter func85,ntmps85
 go_wp2_with (first|(go_at_call 63;refine hR.mono ?_;rintro e w2 ⟨u,rfl,hown,hS⟩;obtain⟨ua,pG,rfl⟩:=ak hown))
 go_ret
 exact⟨rfl,hS⟩
def ay.foot(v:ay):List Nat:=v.vb::v.dg::v.bg::v.kg.toList
def aQ.foot(s:aQ):List Nat:=s.rb::(s.lg.toList++s.af.flatMap ay.foot)
theorem aQ.iH(s:aQ):s.rb∈s.foot:=by simp[aQ.foot]
theorem aQ.zQ(s:aQ){b:Nat}(h:s.lg=some b):b∈s.foot:=by simp[aQ.foot,h]
theorem aQ.bH(s:aQ){v:ay}(hv:v∈s.af){k:Nat}(hk:k∈v.foot):k∈s.foot:=by
 simp only[aQ.foot,List.mem_cons,List.mem_append,List.mem_flatMap];exact Or.inr (Or.inr ⟨v,hv,hk⟩)
theorem aQ.gm{s:aQ}{k:Nat}(h:k∈s.foot):k=s.rb\/s.lg=some k\/∃v∈s.af,k∈v.foot:=by
 simp only[aQ.foot,List.mem_cons,List.mem_append,List.mem_flatMap,Option.mem_toList]at h;rcases h with h|h|h
 ·exact Or.inl h
 ·exact Or.inr (Or.inl (by simpa using h))
 ·exact Or.inr (Or.inr h)
theorem dU.uy{w w':World}{v:ay}(h:dU w v){S:List Nat}(hs:Same S w w')(hd:∀k∈v.foot,k∉S):dU w' v:=by
 obtain⟨dc,bc,kc,a1,a2,a3,a4,a5⟩:=h.ex;refine⟨⟨dc,bc,kc,hs.at a1 (hd _ (by simp[ay.foot])),a2.same hs (hd _ (by simp[ay.foot])),a3.same hs (hd _ (by simp[ay.foot])),a4,fun g hg=>(a5 g hg).same hs (hd _ (by simp[ay.foot,hg]))⟩,h.data,h.blocks,h.kept⟩
theorem dU.bn{w:World}{v:ay}(h:dU w v):∀k∈v.foot,k<w.heap.size:=by
 obtain⟨dc,bc,kc,a1,a2,a3,a4,a5⟩:=h.ex;intro k hk;simp only[ay.foot,List.mem_cons,Option.mem_toList]at hk;rcases hk with rfl|rfl|rfl|hk
 ·exact a1.lt
 ·obtain⟨cs,h1,_⟩:=a2.ex;exact h1.lt
 ·exact a3.lt
 ·exact(a5 k (by simpa using hk)).lt
theorem aO.uy{w w':World}{s:aQ}(h:aO w s){S:List Nat}(hs:Same S w w')(hd:∀k∈s.foot,k∉S):aO w' s:=by
 obtain⟨cap,hp,h1,h2⟩:=h.pool;refine⟨⟨cap,hs.at hp (hd _ s.iH),h1,h2⟩,fun b hb=>?_,fun v hv=>(h.af v hv).uy hs fun k hk=>hd k (s.bH hv hk),h.few,h.n⟩;obtain⟨cs,hc,h3⟩:=h.arr b hb;exact⟨cs,hs.at hc (hd _ (s.zQ hb)),h3⟩
theorem aO.bn{w:World}{s:aQ}(h:aO w s):∀k∈s.foot,k<w.heap.size:=by
 intro k hk;rcases aQ.gm hk with rfl|hb|⟨v,hv,hk⟩
 ·obtain⟨cap,hp,_⟩:=h.pool;exact hp.lt
 ·obtain⟨cs,hc,_⟩:=h.arr k hb;exact hc.lt
 ·exact(h.af v hv).bn k hk
theorem uG:∀(a b:List UInt8),Op.bytesLess a b=decide (Lib.compareBytes a b<0)
 | [],[]=>by simp[Op.bytesLess,Lib.compareBytes]
 | [],_::_=>by simp[Op.bytesLess,Lib.compareBytes]
 | _::_,[]=>by simp[Op.bytesLess,Lib.compareBytes]
 | x::a,y::b=>by
  have ih:=uG a b;unfold Op.bytesLess Lib.compareBytes;by_cases hxy:x<y
  ·simp[hxy]
  ·by_cases hyx:y<x
   ·have hne:x≠y:=fun e=>by subst e;exact UInt8.lt_irrefl _ hyx
    simp[hxy,hyx,hne]
   ·have e:x=y:=UInt8.le_antisymm (UInt8.not_lt.1 hyx) (UInt8.not_lt.1 hxy);subst e;simp[ih,UInt8.lt_irrefl]
theorem LZ(a b:ByteArray):Op.bytesLess a.toList b.toList=decide (bW a b<0):=by
 rw[ByteArray.toList_eq,ByteArray.toList_eq];exact uG _ _
def iP(i:Nat)(v:ay)(l:List ay):List ay:=l.take i++v::l.drop i
structure E5(w w':World)(s:aQ)(vb:Nat)(t bC:ByteArray)(data:List ByteArray)(xs:List Nat)(p base:Nat):Prop where
 ex:∃g bg dg,w.heap.size<=g/\w.heap.size<=bg/\base<=dg/\g≠bg/\aO w' { s with lg:=some g,af:=iP p ⟨vb,dg,bg,none,t,bC,data,xs,[],false⟩ s.af }
 same:Same [s.rb,vb] w w'
end
section
open Go.RowKit Go.Sort
variable [DecidableEq aN] [Inhabited aN] [Inhabited aF]
def aC(i:Nat)(v:aF)(l:List aF):List aF:=l.take i++v::l.drop (i+1)
theorem kC(i:Nat)(v:aF)(l:List aF):(aC i v l).Perm (v::aZ i l):=List.perm_middle
theorem uO{β:Type}(f:aF->β)(i:Nat)(v:aF)(l:List aF)(h:i<l.length)(hf:f v=f l[i]!):(aC i v l).map f=l.map f:=by
 have e:l=l.take i++l[i]!::l.drop (i+1):=by
  rw[getElem!_pos l i h,<-List.drop_eq_getElem_cons h,List.take_append_drop]
 unfold aC;rw[List.map_append,List.map_cons,hf]
 conv=>rhs;rw[e]
 rw[List.map_append,List.map_cons]
theorem gW(i:Nat)(v:aF)(l:List aF)(h:i<l.length):(aC i v l).length=l.length:=by
 simp[aC];omega
theorem iL{i:Nat}{v:aF}{l:List aF}{x:aF}:x∈aC i v l↔x=v\/x∈aZ i l:=by
 rw[(kC i v l).mem_iff,List.mem_cons]
theorem get_mem{l:List aF}{i:Nat}(hi:i<l.length):l[i]!∈l:=by rw[getElem!_pos l i hi];exact List.getElem_mem hi
theorem BI(s:St)(i:Nat)(hi:i<s.af.length):s.foot.Perm ((s.af[i]!).foot++(s.pb::s.db::s.bb::s.fb::(s.ab.toList++(aZ i s.af).flatMap aF.foot))):=by
 have h1:=((jr i s.af hi).flatMap_right aF.foot).symm;rw[List.flatMap_cons]at h1;unfold St.foot;refine(List.Perm.cons _ (List.Perm.cons _ (List.Perm.cons _ (List.Perm.cons _ (List.Perm.append_left _ h1))))).trans ?_;exact Eh _ _ _ _ _ _ _
theorem LD(s:St)(i:Nat)(v:aF):(St.foot { s with af:=aC i v s.af }).Perm (v.foot++(s.pb::s.db::s.bb::s.fb::(s.ab.toList++(aZ i s.af).flatMap aF.foot))):=by
 have h1:=(kC i v s.af).flatMap_right aF.foot;rw[List.flatMap_cons]at h1;unfold St.foot;refine(List.Perm.cons _ (List.Perm.cons _ (List.Perm.cons _ (List.Perm.cons _ (List.Perm.append_left _ h1))))).trans ?_;exact Eh _ _ _ _ _ _ _
theorem pX{w w':World}{s:St}(h:ai w s)(i:Nat)(hi:i<s.af.length)(v:aF)(hvb:v.vb=(s.af[i]!).vb)(hnm:v.name=(s.af[i]!).name)(rq:v.org=(s.af[i]!).org)
 (kW:∀k∈v.foot,k∈(s.af[i]!).foot\/w.heap.size<=k)
 (hV:dG w' v) (hS:Same (s.af[i]!).foot w w'):ai w' { s with af:=aC i v s.af }:=by
 have hmem:=get_mem hi;obtain⟨cap,hp,h1,h2⟩:=h.pool;have hlen:=gW i v s.af hi;have aav:=uO (fun v=>ptr v.vb) i v s.af hi (by simp[hvb]);have hnd:=(BI s i hi).nodup_iff.1 h.nodup;obtain⟨n1,n2,n3⟩:=List.nodup_append.1 hnd;have hout:∀k,k∈(s.pb::s.db::s.bb::s.fb::(s.ab.toList++(aZ i s.af).flatMap aF.foot))->k∉(s.af[i]!).foot:=fun k hk hm=>n3 k hm k hk rfl
 refine⟨⟨cap,?_,by rw[hlen];exact h1,h2⟩,fun b hb=>?_,?_,fun u hu=>?_,?_,by rw[hlen];exact h.few,?_,fun u hu o ho=>?_⟩
 ·rw[show(aC i v s.af).length=s.af.length from hlen];exact hS.at hp (hout _ (by simp))
 ·obtain⟨cs,hc,h3,h4⟩:=h.arr b hb;refine⟨cs,hS.at hc (hout b ?_),by rw[hlen,aav];exact h3,by rw[hlen];exact h4⟩;simp[show s.ab=some b from hb]
 ·exact h.disk.same hS (hout _ (by simp)) (hout _ (by simp)) (hout _ (by simp))
 ·rcases iL.1 hu with rfl|hu
  ·exact hV
  ·refine(h.af u ((dY i s.af).mem hu)).same hS (fun k hk=>hout k ?_);simp only[List.mem_cons,List.mem_append,List.mem_flatMap];exact Or.inr (Or.inr (Or.inr (Or.inr (Or.inr ⟨u,hu,hk⟩))))
 ·rw[(LD s i v).nodup_iff];refine List.nodup_append.2 ⟨hV.nodup,n2,fun a ha b hb e=>?_⟩;subst e;rcases kW a ha with hm|hm
  ·exact n3 a hm a hb rfl
  ·have:=h.bn a ((BI s i hi).mem_iff.2 (List.mem_append_right _ hb));omega
 ·have hs:=h.iG;have e:=uO (·.name) i v s.af hi hnm;unfold St.names at hs;rw[<-e,List.pairwise_map]at hs;exact hs
 ·have key:∀x∈s.af,x.vb=o->x.org=none->∃y∈aC i v s.af,y.vb=o/\y.org=none:=fun x hx e1 e2=>by
   rcases vz hi hx with e|e
   ·exact⟨v,iL.2 (Or.inl rfl),by rw[hvb,<-e];exact e1,by rw[rq,<-e];exact e2⟩
   ·exact⟨x,iL.2 (Or.inr e),e1,e2⟩
  rcases iL.1 hu with rfl|hu
  ·obtain⟨x,hx,e1,e2⟩:=h.zD _ hmem o (by rw[<-rq];exact ho);exact key x hx e1 e2
  ·obtain⟨x,hx,e1,e2⟩:=h.zD u ((dY i s.af).mem hu) o ho;exact key x hx e1 e2
theorem wP{s:St}{i:Nat}(hi:i<s.af.length){v:aF}{B:Nat}(hf:∀k∈v.foot,k∈(s.af[i]!).foot\/B<=k):∀k∈St.foot { s with af:=aC i v s.af },k∈s.foot\/B<=k:=by
 intro k hk;rcases List.mem_append.1 ((LD s i v).mem_iff.1 hk) with hk|hk
 ·rcases hf k hk with e|e
  ·exact Or.inl (s.bH (get_mem hi) e)
  ·exact Or.inr e
 ·exact Or.inl ((BI s i hi).mem_iff.2 (List.mem_append_right _ hk))
theorem ai.YK{w:World}{s:St}(h:ai w s){v:aF}(hv:v∈s.af):v.org≠some v.vb:=by
 intro e;obtain⟨x,hx,e1,e2⟩:=h.zD v hv _ e;have:=h.mF hx hv e1;rw[this]at e2;rw[e2]at e;cases e
theorem CZ{w:World}{s:St}(h:ai w s)(hp:CO s.af)(i:Nat)(hi:i<s.af.length)(v:aF)(hvb:v.vb=(s.af[i]!).vb)(rq:v.org=(s.af[i]!).org)(hk:v.kept.Nodup)(hl:v.lost=true->v.kept=[])
 (h1:∀u∈s.af,v.org=some u.vb->(∀k∈v.kept,k<u.xs.length)/\v.xs.length<=u.xs.length)
 (h2:∀u∈s.af,u.org=some v.vb->(∀k∈u.kept,k<v.xs.length)/\u.xs.length<=v.xs.length):CO (aC i v s.af):=by
 have hsub:=dY i s.af;intro x hx;rcases iL.1 hx with rfl|hxo
 ·refine⟨hk,hl,fun u hu ho=>?_⟩;rcases iL.1 hu with rfl|hu
  ·exact absurd (by rw[<-rq,<-hvb];exact ho) (h.YK (get_mem hi))
  ·exact h1 u (hsub.mem hu) ho
 ·have hxs:=hsub.mem hxo;refine⟨(hp x hxs).1,(hp x hxs).2.1,fun u hu ho=>?_⟩;rcases iL.1 hu with rfl|hu
  ·exact h2 x hxs ho
  ·exact(hp x hxs).2.2 u (hsub.mem hu) ho
theorem Good.cut{w:World}{s:St}{fr:List Nat}(hP:ai w s)(h:Good s fr)(hl:s.bl.length=s.n)(hd:s.d.size=s.n)(i:Nat)(hi:i<s.af.length)(k:Nat)(v:aF)(hx:v.xs=(s.af[i]!).xs.take k)(hn:v.name=(s.af[i]!).name)(hpc:CO (aC i v s.af)) :
 Good { s with m:=s.m+((s.af[i]!).xs.drop k).length,bl:=bM ((s.af[i]!).xs.drop k) s.bl,d:=fP s.m ((s.af[i]!).xs.drop k) s.d,af:=aC i v s.af } (fZ ((s.af[i]!).xs.drop k) fr):=by
 have hp:=jr i s.af hi;have hmem:s.af[i]!∈s.af:=by rw[getElem!_pos s.af i hi];exact List.getElem_mem hi
 generalize hxs:(s.af[i]!).xs=xs at *;have hfl:(xs++(aZ i s.af).flatMap (·.xs)).Perm (s.af.flatMap (·.xs)):=by
  have:=hp.flatMap_right (·.xs);rw[List.flatMap_cons,hxs]at this;exact this
 have W9:((aC i v s.af).flatMap (·.xs)).Perm (xs.take k++(aZ i s.af).flatMap (·.xs)):=by
  have:=(kC i v s.af).flatMap_right (·.xs);rw[List.flatMap_cons,hx]at this;exact this
 have hpar:(fZ (xs.drop k) fr++(aC i v s.af).flatMap (·.xs)).Perm (List.range s.n):=by
  refine(((l9 _ fr).append W9).trans ?_).trans h.parts;have e1:((xs.drop k++fr)++(xs.take k++(aZ i s.af).flatMap (·.xs))).Perm (fr++(xs++(aZ i s.af).flatMap (·.xs))):=by
   refine(List.Perm.append_right _ List.perm_append_comm).trans ?_;rw[List.append_assoc];refine List.Perm.append_left fr ?_;rw[<-List.append_assoc];refine List.Perm.append_right _ ?_;have:=List.perm_append_comm (l₁:=xs.drop k) (l₂:=xs.take k);rw[List.take_append_drop]at this;exact this
  exact e1.trans (List.Perm.append_left fr hfl)
 have WY:=(hpar.nodup_iff.2 List.nodup_range)
 have Sr:(xs.drop k++fr).Nodup:=((l9 _ fr).nodup_iff.1 (List.nodup_append.1 WY).1)
 have hlen:=hpar.length_eq;simp only[List.length_append,List.length_range,uF]at hlen;refine⟨?_,hpar,fun x hx'=>?_,fun u hu=>?_,hpc⟩
 ·refine fU.gives (xs.drop k) h.heap (List.nodup_append.1 Sr).1 (fun x hx hm=>?_) ?_
  ·exact(List.nodup_append.1 Sr).2.2 x hx x hm rfl
  ·have:=h.heap.len;omega
 ·have hxn:x<s.n:=List.mem_range.1 (hpar.mem_iff.1 (List.mem_append_left _ hx'));show(bM (xs.drop k) s.bl)[x]! = aN.zero;rw[fK _ _ _ (by omega)]
  split
  ·rfl
  ·rename_i hni
   rcases (qB _ _ _).1 hx' with hx'|hx'
   ·exact absurd hx' hni
   ·exact h.zero x hx'
 ·rcases List.mem_cons.1 ((kC i v s.af).mem_iff.1 hu) with rfl|hu
  ·rw[hn];exact h.names _ hmem
  ·exact h.names u ((dY i s.af).mem hu)
theorem Good.grow{s:St}{fr:List Nat}(h:Good s fr)(i:Nat)(hi:i<s.af.length)(k:Nat)(hk:k<=fr.length)(v:aF)(hx:v.xs=(s.af[i]!).xs++fr.take k)(hn:v.name=(s.af[i]!).name)(hpc:CO (aC i v s.af)) :
 Good { s with m:=s.m-k,d:=eY s.m k s.d,af:=aC i v s.af } (fr.drop k):=by
 have hp:=jr i s.af hi;have hmem:s.af[i]!∈s.af:=by rw[getElem!_pos s.af i hi];exact List.getElem_mem hi
 obtain⟨_,h2⟩:=h.heap.pops k (by rw[<-h.heap.len];exact hk);refine⟨h2,?_,fun x hx=>h.zero x (List.mem_of_mem_drop hx),fun u hu=>?_,hpc⟩
 ·have hfl:((s.af[i]!).xs++(aZ i s.af).flatMap (·.xs)).Perm (s.af.flatMap (·.xs)):=by
   have:=hp.flatMap_right (·.xs);simpa using this
  have W9:((aC i v s.af).flatMap (·.xs)).Perm (((s.af[i]!).xs++fr.take k)++(aZ i s.af).flatMap (·.xs)):=by
   have:=(kC i v s.af).flatMap_right (·.xs);rw[List.flatMap_cons,hx]at this;exact this
  refine((List.Perm.append_left (fr.drop k) W9).trans ?_).trans h.parts;have e1:(fr.drop k++((s.af[i]!).xs++fr.take k++(aZ i s.af).flatMap (·.xs))).Perm ((fr.take k++fr.drop k)++((s.af[i]!).xs++(aZ i s.af).flatMap (·.xs))):=by
   have a1:(fr.drop k++((s.af[i]!).xs++fr.take k++(aZ i s.af).flatMap (·.xs))).Perm (fr.drop k++(fr.take k++(s.af[i]!).xs++(aZ i s.af).flatMap (·.xs))):=
    List.Perm.append_left _ (List.Perm.append_right _ List.perm_append_comm)
   refine a1.trans ?_;rw[List.append_assoc,<-List.append_assoc (fr.drop k)];exact List.Perm.append_right _ List.perm_append_comm
  rw[List.take_append_drop]at e1;exact e1.trans (List.Perm.append_left fr hfl)
 ·rcases List.mem_cons.1 ((kC i v s.af).mem_iff.1 hu) with rfl|hu
  ·rw[hn];exact h.names _ hmem
  ·exact h.names u ((dY i s.af).mem hu)
theorem su{w w':World}{s:St}{fr:List Nat}(h:ai w s)(hG:Good s fr)(y:Nat)(b:aN)(hy:y∉fr)(hA:At w' s.bb 91 (flat (s.bl.set y b)))(hS:Same [s.bb] w w'):After w s w' { s with bl:=s.bl.set y b } fr:=by
 have hD:dX w' s.db s.bb s.fb s.n s.m (s.bl.set y b) s.d:=
  ⟨hS.at h.disk.disk (by simp;exact h.disk.ne1),hA,hS.at h.disk.free (by simp;exact h.disk.MC.symm),h.disk.ne1,h.disk.Sm,h.disk.MC,by simp[h.disk.len],h.disk.size,h.disk.le,h.disk.small⟩
 refine⟨h.jO hS (by intro k hk;simp at hk;simp[hk]) hD,⟨hG.heap,hG.parts,fun x hx=>?_,hG.names,hG.dN⟩,hS.mono (by simp[St.foot]),fun k hk=>Or.inl hk,rfl,rfl⟩;show(s.bl.set y b)[x]! = aN.zero;have hxl:x<s.bl.length:=by rw[h.disk.len];exact hG.lt.1 x hx
 have hne:y≠x:=fun e=>hy (by rw[e];exact hx)
 rw[getElem!_pos _ x (by simpa using hxl),List.getElem_set_ne hne,<-getElem!_pos s.bl x hxl];exact hG.zero x hx
end
end Go.Proofs.YtpddgdjocffgdaaGreat
