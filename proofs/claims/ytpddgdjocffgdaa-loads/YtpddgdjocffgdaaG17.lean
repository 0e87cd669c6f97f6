/- The reference's reader of an image: must, take, number, by contracts. The reference's reader of an image: numbers, by a contract. The document's own answer (package strataref): its state in memory; IsName, find, taken, free, by contracts. The document's own answer: IsName, taken, free, by contracts. The document's own answer: fresh, at, Read, Map, keeps, pictures, by contracts. -/
import Derived.Test.YtpddgdjocffgdaaG05
import Derived.BigQuiet
import Derived.Test.YtpddgdjocffgdaaG06
import Derived.Maps.AppendAt
import Derived.Test.YtpddgdjocffgdaaG02
import Derived.Test.YtpddgdjocffgdaaG04
namespace Go.Proofs.Ytpddgdjocffgdaa
set_option linter.unusedVariables false
set_option linter.unusedSimpArgs false
set_option linter.unusedSectionVars false
section
open Go.RowKit Go.Sort
variable [DecidableEq Blk] [Inhabited Blk] [Inhabited Vol]
/-- What stands in a reader's third field. -/
def badI : Option Nat → Int
  | none => -1
  | some q => q
def mustB (bd : Option Nat) (ok : Bool) (q : Nat) : Option Nat :=
  match bd with
  | some x => some x
  | none => if ok then none else some q
/-- The reference's reader in new memory: its bytes, its place, the place of what is wrong. -/
structure ScAt (w0 w : World) (sb : Nat) (B : List UInt8) (at_ : Nat) (bd : Option Nat) : Prop where
  cell : At w sb 121 [.string ⟨B.toArray⟩, .int .i64 at_, .int .i64 (badI bd)]
  new : w0.heap.size ≤ sb
  same : Same [] w0 w
  le : at_ ≤ B.length
theorem ScAt.next {w0 w w' : World} {sb : Nat} {B : List UInt8} {at_ : Nat} {bd : Option Nat} (h : ScAt w0 w sb B at_ bd) {S : List Nat} (hs : Same S w w') (hn : sb ∉ S) (hS : ∀ k ∈ S, w0.heap.size ≤ k) : ScAt w0 w' sb B at_ bd :=
  ⟨hs.at h.cell hn, h.new, h.same.step hs (fun k hk hl => by have := hS k hk; omega), h.le⟩
set_option maxHeartbeats 400000 in
set_option maxRecDepth 100000 in
theorem rmust_calls (w0 w : World) (sb : Nat) (B : List UInt8) (at_ : Nat) (bd : Option Nat) (ok : Bool) (q : Nat) (v : Int) (hv : v = q) (h : ScAt w0 w sb B at_ bd) :
    Calls Try.prog 76 #[.pointer (some ⟨sb, 0, none⟩), .bool ok, .int .i64 v] w fun e w' => e = .returned (.tuple #[]) ∧ ScAt w0 w' sb B at_ (mustB bd ok q) ∧ Same [sb] w w' := by
  subst hv
  have hnot := runNot
  have c2 : w.cell? ⟨sb, 2, none⟩ = some (.int .i64 (badI bd)) := h.cell.cell? 2
  have f2 : w.frozen? ⟨sb, 2, none⟩ = false := h.cell.frozen 2
  have HR : Hid (ScAt w0 w sb B at_ bd) := h
  clear h
  cases ok with
  | true =>
    have e : mustB bd true q = bd := by cases bd <;> rfl
    rw [e]
    go_enter Try.func76, Try.ntmps76
    go_wp2
    go_end0
    exact ⟨rfl, HR.out, Same.refl _ _⟩
  | false =>
    cases bd with
    | some x =>
      have hb : ¬ ((x : Int) < 0) := by omega
      simp only [badI] at c2
      go_enter Try.func76, Try.ntmps76
      go_wp2
      go_end0
      exact ⟨rfl, HR.out, Same.refl _ _⟩
    | none =>
      simp only [badI] at c2
      have S2 : Same [sb] w (w.setCell ⟨sb, 2, none⟩ (.int .i64 (q : Int))) := (Same.refl _ _).set _ _ _ (by simp)
      have HF : Hid (ScAt w0 (w.setCell ⟨sb, 2, none⟩ (.int .i64 (q : Int))) sb B at_ (some q)) :=
        ⟨HR.out.cell.set_same 2 _, HR.out.new, HR.out.same.step S2 (fun k hk hl => by simp at hk; have := HR.out.new; omega), HR.out.le⟩
      go_enter Try.func76, Try.ntmps76
      go_wp2
      go_end0
      exact ⟨rfl, HF.out, S2⟩
/-- So many bytes. -/
def takeX (B : List UInt8) (n at_ : Nat) (bd : Option Nat) : ByteArray × Nat × Option Nat :=
  match bd with
  | some q => (⟨#[]⟩, at_, some q)
  | none => if at_ + n ≤ B.length then (textAt B at_ n, at_ + n, none) else (⟨#[]⟩, at_, some B.length)
theorem text_cut (B : List UInt8) (i j n : Nat) (hj : i + n = j) : (⟨B.toArray⟩ : ByteArray).extract i j = textAt B i n := by
  subst hj
  apply ByteArray.ext
  simp [textAt, ByteArray.data_extract, List.extract_eq_take_drop]
set_option maxHeartbeats 800000 in
set_option maxRecDepth 100000 in
theorem rtake_calls (w0 w : World) (sb : Nat) (B : List UInt8) (n at_ : Nat) (bd : Option Nat) (t : ByteArray) (at1 : Nat) (bd1 : Option Nat) (v : Int) (hv : v = n) (hn : n ≤ 1000000) (hl : B.length ≤ 140737488355328) (h : ScAt w0 w sb B at_ bd) (hX : takeX B n at_ bd = (t, at1, bd1)) :
    Calls Try.prog 75 #[.pointer (some ⟨sb, 0, none⟩), .int .i64 v] w fun e w' => e = .returned (.string t) ∧ ScAt w0 w' sb B at1 bd1 ∧ Same [sb] w w' := by
  subst hv
  have hat := h.le
  have hsz : (⟨B.toArray⟩ : ByteArray).size = B.length := by simp [ByteArray.size]
  have c0 : w.cell? ⟨sb, 0, none⟩ = some (.string ⟨B.toArray⟩) := h.cell.cell? 0
  have c1 : w.cell? ⟨sb, 1, none⟩ = some (.int .i64 at_) := h.cell.cell? 1
  have hadd : IntKind.i64.wrap ((at_ : Int) + (n : Int)) = ((at_ + n : Nat) : Int) := by rw [IntWalk.i64_in _ (by omega)]; omega
  have HR : Hid (ScAt w0 w.drew sb B at_ bd) := h.next (Same.refl [] w).drew (by simp) (by simp)
  have HS : Hid (∀ w', Same [sb] w.drew w' → Same [sb] w w') := fun w' hw' => ((Same.refl [sb] w).drew).step hw' (fun k hk _ => hk)
  have hM := fun ok => rmust_calls w0 w.drew sb B at_ bd ok B.length (B.length : Int) rfl HR.out
  clear h
  cases bd with
  | some q =>
    simp only [takeX, Prod.mk.injEq] at hX
    obtain ⟨rfl, rfl, rfl⟩ := hX
    have fin : ∀ ok, Calls Try.prog 76 #[.pointer (some ⟨sb, 0, none⟩), .bool ok, .int .i64 (B.length : Int)] w.drew fun e w' => e = .returned (.tuple #[]) ∧ w'.cell? ⟨sb, 2, none⟩ = some (.int .i64 (q : Int)) ∧ Hid (ScAt w0 w' sb B at_ (some q) ∧ Same [sb] w w') := fun ok => by
      refine (hM ok).mono ?_
      rintro e w1 ⟨rfl, h1, S1⟩
      exact ⟨rfl, h1.cell.cell? 2, h1, HS.out _ S1⟩
    have hq : (0 : Int) ≤ (q : Int) := by omega
    have hq' : ¬ ((q : Int) < 0) := by omega
    clear hM HR HS
    have hM' := fin (decide ((at_ : Int) + (n : Int) ≤ (B.length : Int)))
    clear fin
    go_enter Try.func75, Try.ntmps75
    go_wp2_with fail
    refine region_tail 18 (by kernel_rfl) (by kernel_rfl) ?_
    simp only [List.take_succ_cons, List.take_zero, List.drop_succ_cons, List.drop_zero]
    repeat still_step
    refine wpStill_nil ?_
    go_wp2_with fail
    refine hM'.mono ?_
    rintro e w1 ⟨rfl, d2, HF⟩
    go_wp2
    go_ret
    exact ⟨rfl, HF.out⟩
  | none =>
    by_cases hle : at_ + n ≤ B.length
    · have hdc : decide ((at_ : Int) + (n : Int) ≤ (B.length : Int)) = true := by simp; omega
      simp only [takeX, if_pos hle, Prod.mk.injEq] at hX
      obtain ⟨rfl, rfl, rfl⟩ := hX
      have fin : Calls Try.prog 76 #[.pointer (some ⟨sb, 0, none⟩), .bool (decide ((at_ : Int) + (n : Int) ≤ (B.length : Int))), .int .i64 (B.length : Int)] w.drew fun e w' => e = .returned (.tuple #[]) ∧ w'.cell? ⟨sb, 0, none⟩ = some (.string ⟨B.toArray⟩) ∧ w'.cell? ⟨sb, 1, none⟩ = some (.int .i64 at_) ∧ w'.frozen? ⟨sb, 1, none⟩ = false ∧ w'.cell? ⟨sb, 2, none⟩ = some (.int .i64 (-1)) ∧ Hid (ScAt w0 (w'.setCell ⟨sb, 1, none⟩ (.int .i64 ((at_ : Int) + (n : Int)))) sb B (at_ + n) none ∧ Same [sb] w (w'.setCell ⟨sb, 1, none⟩ (.int .i64 ((at_ : Int) + (n : Int))))) := by
        rw [hdc]
        refine (hM true).mono ?_
        rintro e w1 ⟨rfl, h1, S1⟩
        have S2 : Same [sb] w (w1.setCell ⟨sb, 1, none⟩ (.int .i64 ((at_ : Int) + (n : Int)))) := (HS.out _ S1).set _ _ _ (by simp)
        have e0 : Same [] w0 w := ⟨HR.out.same.os, HR.out.same.tape, HR.out.same.output, HR.out.same.size, HR.out.same.block⟩
        refine ⟨rfl, h1.cell.cell? 0, h1.cell.cell? 1, h1.cell.frozen 1, h1.cell.cell? 2, ⟨?_, h1.new, ?_, hle⟩, S2⟩
        · have := h1.cell.set_same 1 (.int .i64 ((at_ : Int) + (n : Int)))
          rw [show ((at_ + n : Nat) : Int) = (at_ : Int) + (n : Int) by omega]
          exact this
        · exact e0.step S2 (fun k hk hl => by simp at hk; have := h1.new; omega)
      have hcut := text_cut B at_ (at_ + n) n rfl
      have hsub : IntKind.i64.wrap ((at_ : Int) + (n : Int) - (n : Int)) = (at_ : Int) := by rw [IntWalk.i64_in _ (by omega)]; omega
      have m1 : (0 : Int) ≤ (at_ : Int) := by omega
      have m2 : (at_ : Int) ≤ (at_ : Int) + (n : Int) := by omega
      have m3 : ((at_ : Int)).toNat = at_ := by omega
      have m4 : ((at_ : Int) + (n : Int)).toNat = at_ + n := by omega
      have m5 : (-1 : Int) < 0 := by omega
      have HLE : Hid _ := hle
      clear hM HR HS hdc hle
      go_enter Try.func75, Try.ntmps75
      go_wp2_with fail
      refine region_tail 18 (by kernel_rfl) (by kernel_rfl) ?_
      simp only [List.take_succ_cons, List.take_zero, List.drop_succ_cons, List.drop_zero]
      repeat still_step
      refine wpStill_nil ?_
      go_wp2_with fail
      refine fin.mono ?_
      rintro e w1 ⟨rfl, d0, d1, d3, d2, HF⟩
      clear fin
      have hle' : (at_ : Int) + (n : Int) ≤ (B.length : Int) := by have := HLE.out; omega
      go_wp2_with fail
      have e0 : (w1.setCell ⟨sb, 1, none⟩ (.int .i64 ((at_ : Int) + (n : Int)))).cell? ⟨sb, 1, none⟩ = some (.int .i64 ((at_ : Int) + (n : Int))) := HF.out.1.cell.cell? 1
      have e1 : (w1.setCell ⟨sb, 1, none⟩ (.int .i64 ((at_ : Int) + (n : Int)))).cell? ⟨sb, 0, none⟩ = some (.string ⟨B.toArray⟩) := HF.out.1.cell.cell? 0
      go_quiet (fail)
      go_wp2
      go_ret
      exact ⟨rfl, HF.out.1.next ((Same.refl [] _).drewN _) (by simp) (by simp), HF.out.2.drewN _⟩
    · have hdc : decide ((at_ : Int) + (n : Int) ≤ (B.length : Int)) = false := by simp; omega
      simp only [takeX, if_neg hle, Prod.mk.injEq] at hX
      obtain ⟨rfl, rfl, rfl⟩ := hX
      have fin : Calls Try.prog 76 #[.pointer (some ⟨sb, 0, none⟩), .bool (decide ((at_ : Int) + (n : Int) ≤ (B.length : Int))), .int .i64 (B.length : Int)] w.drew fun e w' => e = .returned (.tuple #[]) ∧ w'.cell? ⟨sb, 2, none⟩ = some (.int .i64 (B.length : Int)) ∧ Hid (ScAt w0 w' sb B at_ (some B.length) ∧ Same [sb] w w') := by
        rw [hdc]
        refine (hM false).mono ?_
        rintro e w1 ⟨rfl, h1, S1⟩
        exact ⟨rfl, h1.cell.cell? 2, h1, HS.out _ S1⟩
      have hq : (0 : Int) ≤ (B.length : Int) := by omega
      have HLE : Hid _ := hle
      clear hM HR HS hdc hle
      go_enter Try.func75, Try.ntmps75
      go_wp2_with fail
      refine region_tail 18 (by kernel_rfl) (by kernel_rfl) ?_
      simp only [List.take_succ_cons, List.take_zero, List.drop_succ_cons, List.drop_zero]
      repeat still_step
      refine wpStill_nil ?_
      go_wp2_with fail
      refine fin.mono ?_
      rintro e w1 ⟨rfl, d2, HF⟩
      go_wp2
      go_ret
      exact ⟨rfl, HF.out⟩
/-- A number of so many bytes. -/
def numX (B : List UInt8) (n at_ : Nat) (bd : Option Nat) : Nat × Nat × Option Nat :=
  match bd with
  | some q => (0, at_, some q)
  | none => if at_ + n ≤ B.length then (numAt B at_ n, at_ + n, none) else (0, at_, some B.length)
theorem numX_take (B : List UInt8) (n at_ : Nat) (bd : Option Nat) : takeX B n at_ bd = ((takeX B n at_ bd).1, (numX B n at_ bd).2.1, (numX B n at_ bd).2.2) ∧ valB (takeX B n at_ bd).1.data.toList = (numX B n at_ bd).1 ∧ (takeX B n at_ bd).1.size ≤ n := by
  unfold takeX numX
  cases bd with
  | some q => exact ⟨rfl, rfl, Nat.zero_le _⟩
  | none =>
    simp only
    split
    · refine ⟨rfl, by simp [textAt, numAt], ?_⟩
      simp [textAt, ByteArray.size]
      omega
    · exact ⟨rfl, rfl, Nat.zero_le _⟩
theorem numX_lt (B : List UInt8) (n at_ : Nat) (bd : Option Nat) (hn : n ≤ 2) : (numX B n at_ bd).1 < 65536 := by
  unfold numX
  cases bd with
  | some q => show 0 < 65536; omega
  | none =>
    simp only
    split
    · exact numAt_lt B at_ n hn
    · show 0 < 65536; omega
set_option maxHeartbeats 800000 in
set_option maxRecDepth 100000 in
theorem rnumber_calls (w0 w : World) (sb : Nat) (B : List UInt8) (n at_ : Nat) (bd : Option Nat) (x at1 : Nat) (bd1 : Option Nat) (v : Int) (hv : v = n) (hn : n ≤ 2) (hl : B.length ≤ 140737488355328) (h : ScAt w0 w sb B at_ bd) (hX : numX B n at_ bd = (x, at1, bd1)) :
    Calls Try.prog 77 #[.pointer (some ⟨sb, 0, none⟩), .int .i64 v] w fun e w' => e = .returned (.int .i64 (x : Int)) ∧ ScAt w0 w' sb B at1 bd1 ∧ Same [sb] w w' := by
  obtain ⟨h1, h2, h3⟩ := numX_take B n at_ bd
  rw [hX] at h1 h2
  simp only at h1 h2
  generalize (takeX B n at_ bd).1 = t at *
  have hT := rtake_calls w0 w sb B n at_ bd t at1 bd1 v hv (by omega) hl h h1
  have HSZ : Hid (t.size = t.data.toList.length) := by show _ = _; rw [Array.length_toList]; rfl
  have H2 : Hid (valB t.data.toList = x) := h2
  subst hv
  clear h h1 hX h2
  go_enter Try.func77, Try.ntmps77
  go_wp2_with fail
  refine hT.mono ?_
  rintro e w1 ⟨rfl, A1, S1⟩
  have HF : Hid (ScAt w0 w1 sb B at1 bd1 ∧ Same [sb] w w1) := ⟨A1, S1⟩
  clear A1 S1 hT
  go_wp2_with fail
  go_loopw [6, 7] (fun m i wr => ∃ j : Nat, j ≤ t.size ∧ m = .int .i64 (valB (t.data.toList.take j) : Nat) ∧ i = .int .i64 j ∧ wr = w1) (fun _ i _ => t.size - (intOf i).toNat)
  case atStart => exact ⟨0, Nat.zero_le _, rfl, rfl, rfl⟩
  case round =>
    obtain ⟨j, hj, rfl, rfl, rfl⟩ := hrel
    by_cases hjl : j < t.size
    · have l1 : (j : Int) < (t.size : Int) := by omega
      have HVN : Hid (valB (t.data.toList.take (j + 1)) = valB (t.data.toList.take j) * 256 + t[j].toNat) := by show _ = _; rw [take_snoc t j hjl, valB_snoc]
      have hl2 : valB (t.data.toList.take j) < 256 := valB_one _ (by rw [List.length_take]; have := HSZ.out; omega)
      have hb : t[j].toNat < 256 := t[j].toNat_lt
      generalize valB (t.data.toList.take j) = m at *
      have hw1 : IntKind.i64.wrap (256 * (m : Int)) = 256 * (m : Int) := IntWalk.i64_in _ (by omega)
      have hw2 : IntKind.i64.wrap (256 * (m : Int) + (t[j].toNat : Int)) = 256 * (m : Int) + (t[j].toNat : Int) := IntWalk.i64_in _ (by omega)
      go_wp2
      go_roundw
      case rel => exact ⟨j + 1, by omega, by rw [HVN.out]; go_num, by go_num, trivial⟩
      case measure => simp [intOf]; omega
    · have l1 : (t.size : Int) ≤ (j : Int) := by omega
      have e : j = t.size := by omega
      rw [e, HSZ.out, List.take_length, H2.out, ← HSZ.out]
      go_wp2
      go_ret
      exact ⟨rfl, HF.out⟩
def seenX (k at_ : Nat) (l : List Nat) (bd : Option Nat) : Option Nat := l.foldl (fun b y => mustB b (decide (y ≠ k)) at_) bd
def numsX (B : List UInt8) (bound : Nat) : Nat → List Nat → Nat → Option Nat → List Nat × Nat × Option Nat
  | 0, l, at_, bd => (l, at_, bd)
  | _ + 1, l, at_, some q => (l, at_, some q)
  | c + 1, l, at_, none => numsX B bound c (l ++ [(numX B 2 at_ none).1]) (numX B 2 at_ none).2.1 (seenX (numX B 2 at_ none).1 at_ l (mustB (numX B 2 at_ none).2.2 (decide ((numX B 2 at_ none).1 < bound)) at_))
def intsV (l : List Nat) : List Value := l.map fun x : Nat => Value.int .i64 x
theorem own_cell {w : World} {base : Nat} {a : Option Addr} {cap : Nat} {L : List Nat} (h : w.ownsRow base 3 1 (.slice a L.length cap) L.length (intsV L)) (j : Nat) (hj : j < L.length) : ∃ g, a = some ⟨g, 0, none⟩ ∧ w.cell? ⟨g, j, none⟩ = some (.int .i64 ((L[j]! : Nat) : Int)) := by
  obtain ⟨g, cs, rfl, hbg, hAg, hcl, hct⟩ := owns_atN h (by omega)
  refine ⟨g, rfl, ?_⟩
  rw [hAg.cell?]
  have : (cs.take (L.length * 1))[j]? = cs[j]? := by rw [List.getElem?_take, if_pos (by omega)]
  rw [← this, hct]
  simp [intsV, List.getElem?_map, List.getElem?_eq_getElem hj, getElem!_pos L j hj]
theorem seenX_succ (k at_ : Nat) (l : List Nat) (bd : Option Nat) (j : Nat) (hj : j < l.length) : seenX k at_ (l.take (j + 1)) bd = mustB (seenX k at_ (l.take j) bd) (decide (l[j]! ≠ k)) at_ := by
  unfold seenX
  rw [List.take_succ_eq_append_getElem hj, List.foldl_append, getElem!_pos l j hj]
  rfl
/-- What numbers leaves. -/
structure NumsX (w0 w w' : World) (sb base : Nat) (B : List UInt8) (v v' : Value) (r : List Nat × Nat × Option Nat) : Prop where
  sc : ScAt w0 w' sb B r.2.1 r.2.2
  own : w'.ownsRow base 3 1 v' r.1.length (intsV r.1)
  lies : v'.ownBlock = v.ownBlock ∨ ∃ g, v'.ownBlock = some g ∧ w.heap.size ≤ g
  same : Same (sb :: v.ownBlock.toList) w w'
set_option maxHeartbeats 1600000 in
set_option maxRecDepth 100000 in
theorem scNumbers_calls (w0 w : World) (sb base : Nat) (B : List UInt8) (c bound at_ : Nat) (bd : Option Nat) (L : List Nat) (lv : Value) (vc vb : Int) (hvc : vc = c) (hvb : vb = bound) (hl : B.length ≤ 140737488355328) (h : ScAt w0 w sb B at_ bd) (ho : w.ownsRow base 3 1 lv L.length (intsV L)) (hb : base ≤ w.heap.size) (hsb : sb < base) (hn : L.length + c ≤ 1000000) :
    Calls Try.prog 108 #[.pointer (some ⟨sb, 0, none⟩), .int .i64 vc, .int .i64 vb, lv] w fun e w' => ∃ v', e = .returned v' ∧ NumsX w0 w w' sb base B lv v' (numsX B bound c L at_ bd) := by
  subst hvc hvb
  have hnot := runNot
  obtain ⟨i0, hi, hz0, hz1, hz2⟩ := info_parts Try.info3
  generalize hR : numsX B bound c L at_ bd = R
  have HR : Hid (numsX B bound c L at_ bd = R) := hR
  have HS0 : Hid (ScAt w0 w sb B at_ bd) := h
  have HO : Hid (w.ownsRow base 3 1 lv L.length (intsV L)) := ho
  have hnew := h.new
  clear h ho hR
  go_enter Try.func108, Try.ntmps108
  go_wp2_with fail
  go_loopw [1, 3] (fun n l wr => ∃ (c' : Nat) (L' : List Nat) (at' : Nat) (bd' : Option Nat), n = .int .i64 c' ∧ L'.length + c' ≤ 1000000 ∧ numsX B bound c' L' at' bd' = R ∧ NumsX w0 w wr sb base B lv l (L', at', bd')) (fun n _ _ => (intOf n).toNat)
  case atStart => exact ⟨c, L, at_, bd, rfl, hn, HR.out, HS0.out, HO.out, Or.inl rfl, Same.refl _ _⟩
  case round =>
    obtain ⟨c', L', at', bd', rfl, hn', hR', hN⟩ := hrel
    have hcc1 : wr.cell? ⟨sb, 1, none⟩ = some (.int .i64 at') := hN.sc.cell.cell? 1
    have hcc2 : wr.cell? ⟨sb, 2, none⟩ = some (.int .i64 (badI bd')) := hN.sc.cell.cell? 2
    obtain ⟨ra, rc, rfl⟩ := owns_form hN.own
    have HN : Hid (NumsX w0 w wr sb base B lv (.slice ra L'.length rc) (L', at', bd')) := hN
    have hwz := hN.same.size
    clear hN
    rcases Nat.eq_zero_or_pos c' with rfl | hc0
    · have HE : Hid ((L', at', bd') = R) := by show _ = _; rw [← hR']; rfl
      clear hR'
      go_wp2
      go_ret
      exact ⟨_, rfl, by rw [← HE.out]; exact HN.out⟩
    have l1 : (0 : Int) < (c' : Int) := by omega
    cases bd' with
    | some q =>
      have HE : Hid ((L', at', some q) = R) := by
        show _ = _; rw [← hR']
        obtain ⟨c1, rfl⟩ : ∃ c1, c' = c1 + 1 := ⟨c' - 1, by omega⟩
        rfl
      simp only [badI] at hcc2
      have l2 : ¬ ((q : Int) < 0) := by omega
      have l3 : (0 : Int) ≤ (q : Int) := by omega
      clear hR'
      go_wp2
      go_ret
      exact ⟨_, rfl, by rw [← HE.out]; exact HN.out⟩
    | none =>
      simp only [badI] at hcc2
      have l2 : (-1 : Int) < 0 := by omega
      obtain ⟨k, hk⟩ : ∃ k, (numX B 2 at' none).1 = k := ⟨_, rfl⟩
      obtain ⟨at1, hat1⟩ : ∃ k, (numX B 2 at' none).2.1 = k := ⟨_, rfl⟩
      obtain ⟨bd1, hbd1⟩ : ∃ k, (numX B 2 at' none).2.2 = k := ⟨_, rfl⟩
      have hX : numX B 2 at' none = (k, at1, bd1) := by rw [← hk, ← hat1, ← hbd1]
      have HE : Hid (numsX B bound (c' - 1) (L' ++ [k]) at1 (seenX k at' L' (mustB bd1 (decide (k < bound)) at')) = R) := by
        show _ = _
        rw [← hR']
        obtain ⟨c1, rfl⟩ : ∃ c1, c' = c1 + 1 := ⟨c' - 1, by omega⟩
        rw [numsX, hk, hat1, hbd1, Nat.add_sub_cancel]
      have hNu := rnumber_calls w0 wr sb B 2 at' none k at1 bd1 2 rfl (by omega) hl HN.out.sc hX
      have hkb : k < 65536 := by rw [← hk]; exact numX_lt B 2 at' none (by omega)
      clear hk hat1 hbd1 hX hR'
      go_wp2_with fail
      refine hNu.mono ?_
      rintro e w2 ⟨rfl, A2, S2⟩
      clear hNu
      have hM := rmust_calls w0 w2 sb B at1 bd1 (decide (k < bound)) at' (at' : Int) rfl A2
      have O2 := owns_same HN.out.own S2 (by intro q hq; simp at hq; omega)
      have HA2 : Hid (w2.ownsRow base 3 1 (.slice ra L'.length rc) L'.length (intsV L') ∧ Same [sb] wr w2) := ⟨O2, S2⟩
      clear A2 O2 S2
      go_wp2_with fail
      refine hM.mono ?_
      rintro e w3 ⟨rfl, A3, S3⟩
      clear hM
      obtain ⟨bd2, hbd2⟩ : ∃ x, mustB bd1 (decide (k < bound)) at' = x := ⟨_, rfl⟩
      rw [hbd2] at A3 HE
      have HA3 : Hid (ScAt w0 w3 sb B at1 bd2 ∧ w3.ownsRow base 3 1 (.slice ra L'.length rc) L'.length (intsV L') ∧ Same [sb] wr w3) := ⟨A3, owns_same HA2.out.1 S3 (by intro q hq; simp at hq; omega), HA2.out.2.step S3 (fun q hq _ => hq)⟩
      clear A3 S3 HA2 hbd2
      go_wp2_with fail
      go_loopw [11] (fun i wr2 => ∃ j : Nat, j ≤ L'.length ∧ i = .int .i64 j ∧ Hid (ScAt w0 wr2 sb B at1 (seenX k at' (L'.take j) bd2) ∧ wr2.ownsRow base 3 1 (.slice ra L'.length rc) L'.length (intsV L') ∧ Same [sb] wr wr2)) (fun i _ => L'.length - (intOf i).toNat)
      case atStart => exact ⟨0, Nat.zero_le _, rfl, HA3.out⟩
      case round =>
        obtain ⟨j, hj, rfl, HJ⟩ := hrel
        by_cases hjl : j < L'.length
        · have l4 : (j : Int) < (L'.length : Int) := by omega
          obtain ⟨g, rfl, hcell⟩ := own_cell HJ.out.2.1 j hjl
          have hM := fun ok => rmust_calls w0 _ sb B at1 _ ok at' (at' : Int) rfl HJ.out.1
          have HSE : Hid (seenX k at' (L'.take (j + 1)) bd2 = mustB (seenX k at' (L'.take j) bd2) (decide (L'[j]! ≠ k)) at') := seenX_succ k at' L' bd2 j hjl
          generalize L'[j]! = y at *
          generalize seenX k at' (L'.take j) bd2 = bdj at *
          have hd : ((y : Int) != (k : Int)) = decide (y ≠ k) := by
            by_cases e : y = k
            · subst e; simp
            · have : ¬ (y : Int) = (k : Int) := by omega
              simp [e, this]
          have hM' := hM ((y : Int) != (k : Int))
          have HD : Hid (((y : Int) != (k : Int)) = decide (y ≠ k)) := hd
          clear hM hd
          go_wp2_with fail
          refine hM'.mono ?_
          rintro e w4 ⟨rfl, A4, S4⟩
          rw [HD.out] at A4
          have HF : Hid (ScAt w0 w4 sb B at1 (seenX k at' (L'.take (j + 1)) bd2) ∧ w4.ownsRow base 3 1 (.slice (some ⟨g, 0, none⟩) L'.length rc) L'.length (intsV L') ∧ Same [sb] _ w4) := ⟨by rw [HSE.out]; exact A4, owns_same HJ.out.2.1 S4 (by intro q hq; simp at hq; omega), HJ.out.2.2.step S4 (fun q hq _ => hq)⟩
          clear hM' A4 S4 HJ
          go_wp2
          go_roundw
          case rel => exact ⟨j + 1, by omega, by go_num, HF.out⟩
          case measure => simp [intOf]; omega
        · have l4 : (L'.length : Int) ≤ (j : Int) := by omega
          have ej : j = L'.length := by omega
          rw [ej, List.take_length] at HJ
          obtain ⟨bd3, hbd3⟩ : ∃ x, seenX k at' L' bd2 = x := ⟨_, rfl⟩
          rw [hbd3] at HJ HE
          have hbw : base ≤ wr.heap.size := by have := HJ.out.2.2.size; omega
          have hown := HJ.out.2.1
          clear ej hbd3
          go_wp2_with (at_builtin; refine wpList_append_own_at _ rfl _ _ 39 rfl base 3 i0 (.int .i64 0) 1 8 Try.underlying39 hi hz0 hz1 hz2 rfl (by decide) _ _ _ rfl (hown.alloc _) ⟨wr.heap.size, 0, none⟩ 1 1 [.int .i64 (k : Int)] rfl rfl ?c1 ?c2 ?c3 ?c4 ?c5 ?_)
          case c1 =>
            intro j u hj
            match j, hj with
            | 0, hj => simp at hj; subst hj; simp [Addr.add]
          case c2 => intro u hu; simp at hu; subst hu; rfl
          case c3 => unfold maxLen; omega
          case c4 => omega
          case c5 => first | omega | (simp; omega)
          intro v' w5 hown' hgrow _ hblk
          have HF : Hid (NumsX w0 w w5 sb base B lv v' (L' ++ [k], at1, bd3)) := by
            have hrow := owns_row hown
            have S5 : Same (Value.ownBlock (.slice ra L'.length rc)).toList wr w5 := ((Same.refl _ _).alloc _).grown hgrow (fun q hq _ => by simp [hq])
            have hbl : ∀ q ∈ (Value.ownBlock (.slice ra L'.length rc)).toList, base ≤ q := fun q hq => hrow q (by simpa using hq)
            have hlies := HN.out.lies
            have hsz := HJ.out.2.2.size
            refine ⟨HJ.out.1.next S5 (fun hq => by have := hbl _ hq; omega) (fun q hq => by have := hbl _ hq; omega), ?_, ?_, ?_⟩
            · show w5.ownsRow base 3 1 v' (L' ++ [k]).length (intsV (L' ++ [k]))
              rw [List.length_append, List.length_singleton]
              unfold intsV at hown' ⊢
              rw [List.map_append]
              exact hown'
            · rcases hblk with e | e
              · rw [e]; exact hlies
              · exact Or.inr ⟨_, e, by omega⟩
            · refine (HN.out.same.step HJ.out.2.2 (fun q hq _ => by simp at hq; simp [hq])).step S5 (fun q hq hlt => ?_)
              rcases hlies with e | ⟨g, e, hg⟩
              · rw [e] at hq; exact List.mem_cons_of_mem _ hq
              · rw [e] at hq; simp at hq; omega
          clear hown hown' hgrow hblk HJ HN
          have hwc : IntKind.i64.wrap ((c' : Int) - 1) = ((c' - 1 : Nat) : Int) := by rw [IntWalk.i64_in _ (by omega)]; omega
          go_wp2
          go_roundw
          case rel => exact ⟨c' - 1, L' ++ [k], at1, bd3, by first | rfl | go_num | (congr 1; omega), by simp; omega, HE.out, HF.out⟩
          case measure => simp [intOf]; omega
theorem numsX_pre (B : List UInt8) (bound : Nat) : ∀ (c : Nat) (l : List Nat) (at_ : Nat) (bd : Option Nat), ∃ X, (numsX B bound c l at_ bd).1 = l ++ X
  | 0, l, at_, bd => ⟨[], by simp [numsX]⟩
  | c + 1, l, at_, some q => ⟨[], by simp [numsX]⟩
  | c + 1, l, at_, none => by
    rw [numsX]
    obtain ⟨X, hX⟩ := numsX_pre B bound c (l ++ [(numX B 2 at_ none).1]) (numX B 2 at_ none).2.1 (seenX (numX B 2 at_ none).1 at_ l (mustB (numX B 2 at_ none).2.2 (decide ((numX B 2 at_ none).1 < bound)) at_))
    exact ⟨(numX B 2 at_ none).1 :: X, by rw [hX, List.append_assoc]; rfl⟩
theorem numsX_len (B : List UInt8) (bound : Nat) : ∀ (c : Nat) (l : List Nat) (at_ : Nat) (bd : Option Nat), (numsX B bound c l at_ bd).1.length ≤ l.length + c
  | 0, l, at_, bd => by simp [numsX]
  | c + 1, l, at_, some q => by simp [numsX]
  | c + 1, l, at_, none => by
    rw [numsX]
    have := numsX_len B bound c (l ++ [(numX B 2 at_ none).1]) (numX B 2 at_ none).2.1 (seenX (numX B 2 at_ none).1 at_ l (mustB (numX B 2 at_ none).2.2 (decide ((numX B 2 at_ none).1 < bound)) at_))
    rw [List.length_append, List.length_singleton] at this
    omega
/-- A volume or picture of the reference: where its struct and its three lists lie; what it holds. -/
structure RVol where
  vb : Nat
  dg : Nat
  bg : Nat
  kg : Option Nat
  name : ByteArray
  of_ : ByteArray
  data : List ByteArray
  blocks : List Nat
  kept : List Nat
  lost : Bool
end
section
open Go.RowKit Go.Sort
variable [DecidableEq Blk] [Inhabited Blk] [Inhabited Vol] [Inhabited RVol]
theorem runNotR (x : Bool) (w : World) : (Op.unary .not (.bool x)).run Try.prog w = .ok (.bool (!x)) w := rfl
/-- A list of texts in a block of its own, with spare room behind. -/
structure TextsAt (w : World) (g : Nat) (cap : Nat) (l : List ByteArray) : Prop where
  ex : ∃ cs, At w g 9 cs ∧ cs.length = cap ∧ cs.take l.length = l.map Value.string ∧ l.length ≤ cap ∧ cap ≤ maxLen
theorem TextsAt.same {w w' : World} {g cap : Nat} {l : List ByteArray} (h : TextsAt w g cap l) {S : List Nat} (hs : Same S w w') (hn : g ∉ S) : TextsAt w' g cap l := by
  obtain ⟨cs, h1, h2⟩ := h.ex
  exact ⟨cs, hs.at h1 hn, h2⟩
theorem TextsAt.cell {w : World} {g cap : Nat} {l : List ByteArray} (h : TextsAt w g cap l) (i : Nat) (hi : i < l.length) : w.cell? ⟨g, i, none⟩ = some (.string l[i]!) := by
  obtain ⟨cs, h1, h2, h3, h4⟩ := h.ex
  have e : (cs.take l.length)[i]? = cs[i]? := by rw [List.getElem?_take, if_pos hi]
  rw [h1.cell?, ← e, h3]
  simp [List.getElem?_map, List.getElem?_eq_getElem hi, getElem!_pos l i hi]
structure RVolAt (w : World) (v : RVol) : Prop where
  ex : ∃ dc bc kc, At w v.vb 162 [.string v.name, .string v.of_, .slice (some ⟨v.dg, 0, none⟩) v.data.length dc, .slice (some ⟨v.bg, 0, none⟩) v.blocks.length bc, .slice (v.kg.map fun g => ⟨g, 0, none⟩) v.kept.length kc, .bool v.lost] ∧
    TextsAt w v.dg dc v.data ∧ NumsAt w v.bg bc v.blocks ∧ (v.kg = none → v.kept = [] ∧ kc = 0) ∧ (∀ g, v.kg = some g → NumsAt w g kc v.kept)
  data : v.data.length ≤ 200
  blocks : v.blocks.length ≤ 200
  kept : v.kept.length ≤ 200
/-- The reference's Pool. -/
structure RSt where
  rb : Nat
  lg : Option Nat
  n : Nat
  vols : List RVol
structure RefAt (w : World) (s : RSt) : Prop where
  pool : ∃ cap, At w s.rb 125 [.int .i64 s.n, .slice (s.lg.map fun b => ⟨b, 0, none⟩) s.vols.length cap] ∧ s.vols.length ≤ cap ∧ (s.lg = none → s.vols = [] ∧ cap = 0)
  arr : ∀ b, s.lg = some b → ∃ cs, At w b 130 cs ∧ cs.take s.vols.length = s.vols.map (fun v => ptr v.vb) ∧ s.vols.length ≤ cs.length
  vols : ∀ v ∈ s.vols, RVolAt w v
  few : s.vols.length ≤ 20
  n : s.n ≤ 200
theorem RefAt.cell {w : World} {s : RSt} (h : RefAt w s) (i : Nat) (hi : i < s.vols.length) :
    ∃ b, s.lg = some b ∧ w.cell? ⟨b, i, none⟩ = some (.pointer (some ⟨(s.vols[i]!).vb, 0, none⟩)) ∧ s.vols[i]! ∈ s.vols := by
  obtain ⟨cap, hp, h1, h2⟩ := h.pool
  cases hab : s.lg with
  | none => rw [(h2 hab).1] at hi; simp at hi
  | some b =>
    obtain ⟨cs, hc, h3, h4⟩ := h.arr b hab
    refine ⟨b, rfl, ?_, ?_⟩
    · have : (cs.take s.vols.length)[i]? = cs[i]? := by rw [List.getElem?_take, if_pos hi]
      rw [hc.cell?, ← this, h3]
      simp [List.getElem?_map, List.getElem?_eq_getElem hi, getElem!_pos s.vols i hi, ptr]
    · rw [getElem!_pos s.vols i hi]; exact List.getElem_mem hi
theorem bytes_beq (a b : ByteArray) : (a.toList == b.toList) = decide (a = b) := by
  rw [← beq_toListBytes]
  show (a.data == b.data) = decide (a = b)
  rw [Bool.eq_iff_iff, beq_iff_eq, decide_eq_true_iff]
  exact ⟨fun h => ByteArray.ext h, fun h => by rw [h]⟩
/-- What has this name, the first of them. -/
def RSt.at? (s : RSt) (t : ByteArray) : Option RVol := s.vols.find? fun v => decide (v.name = t)
set_option maxHeartbeats 400000 in
set_option maxRecDepth 100000 in
theorem refFind_calls (s : RSt) (t : ByteArray) (w : World) (h : RefAt w s) :
    Calls Try.prog 113 #[.pointer (some ⟨s.rb, 0, none⟩), .string t] w fun e w' => e = .returned (.pointer ((s.at? t).map fun v => ⟨v.vb, 0, none⟩)) ∧ w' = w := by
  obtain ⟨cap, hp, h1, h2⟩ := h.pool
  have c1 : w.cell? ⟨s.rb, 1, none⟩ = some (.slice (s.lg.map fun b => ⟨b, 0, none⟩) s.vols.length cap) := hp.cell? 1
  have hfew := h.few
  have HR : Hid (s.at? t = s.vols.find? fun v => decide (v.name = t)) := rfl
  generalize s.at? t = res at *
  go_enter Try.func113, Try.ntmps113
  go_wp2
  go_loopw [5] (fun i wr => ∃ k : Nat, k ≤ s.vols.length ∧ i = .int .i64 k ∧ wr = w ∧ Hid (∀ v ∈ s.vols.take k, ¬ v.name = t)) (fun i _ => s.vols.length - (intOf i).toNat)
  case atStart => exact ⟨0, Nat.zero_le _, rfl, rfl, by show ∀ v ∈ _, _; simp⟩
  case round =>
    obtain ⟨k, hk, rfl, rfl, HN⟩ := hrel
    by_cases hkl : k < s.vols.length
    · obtain ⟨b, hb, e1, hm⟩ := h.cell k hkl
      obtain ⟨dc, bc, kc, hv, _⟩ := (h.vols _ hm).ex
      have e2 : wr.cell? ⟨(s.vols[k]!).vb, 0, none⟩ = some (.string (s.vols[k]!).name) := hv.cell? 0
      have hb' : (s.lg.map fun b => (⟨b, 0, none⟩ : Addr)) = some ⟨b, 0, none⟩ := by rw [hb]; rfl
      rw [hb'] at c1
      have HT : Hid (s.vols.take (k + 1) = s.vols.take k ++ [s.vols[k]!]) := by show _ = _; rw [List.take_succ_eq_append_getElem hkl, getElem!_pos s.vols k hkl]
      have HD : Hid (s.vols = s.vols.take k ++ s.vols[k]! :: s.vols.drop (k + 1)) := by
        show _ = _
        rw [getElem!_pos s.vols k hkl, ← List.drop_eq_getElem_cons hkl, List.take_append_drop]
      generalize s.vols[k]! = vv at *
      have l1 : (k : Int) < (s.vols.length : Int) := by omega
      clear h hv hp hm hb' hb
      by_cases hn : vv.name = t
      · have hbq : (vv.name.toList == t.toList) = true := by rw [hn]; simp
        have HF : Hid (res = some vv) := by
          show _ = _
          rw [HR.out, HD.out, List.find?_append]
          have : (s.vols.take k).find? (fun v => decide (v.name = t)) = none := by
            rw [List.find?_eq_none]; intro v hv; simpa using HN.out v hv
          rw [this]; simp [hn]
        go_wp2
        go_ret
        rw [HF.out]
        exact ⟨rfl, rfl⟩
      · have hbq : (vv.name.toList == t.toList) = false := by
          rw [bytes_beq]; exact decide_eq_false hn
        go_wp2
        go_roundw
        case rel => exact ⟨k + 1, by omega, by go_num, by first | rfl | trivial, by
          show ∀ v ∈ _, _
          rw [HT.out]
          intro v hv
          rcases List.mem_append.1 hv with hv | hv
          · exact HN.out v hv
          · simp at hv; subst hv; exact hn⟩
        case measure => simp [intOf]; omega
    · have ek : k = s.vols.length := by omega
      subst ek
      have HF : Hid (res = none) := by
        show _ = _
        rw [HR.out, List.find?_eq_none]
        intro v hv
        have := HN.out v (by rw [List.take_length]; exact hv)
        simpa using this
      clear HN h hp
      go_wp2
      go_ret
      rw [HF.out]
      exact ⟨rfl, rfl⟩
set_option maxHeartbeats 400000 in
set_option maxRecDepth 100000 in
theorem refIsName_calls (s : ByteArray) (w : World) (hs : s.size ≤ maxLen) :
    Calls Try.prog 107 #[.string s] w fun e w' => e = .returned (.bool (nameB s)) ∧ w' = w := by
  unfold maxLen at hs
  go_enter Try.func107, Try.ntmps107
  go_wp2
  go_loop [3] (fun i => ∃ k : Nat, k ≤ s.size ∧ i = .int .i64 k ∧ Hid ((s.data.toList.take k).all lowerB = true)) (fun i => s.size - (intOf i).toNat)
  case atStart => exact ⟨0, Nat.zero_le _, rfl, rfl⟩
  case round =>
    obtain ⟨k, hk, rfl, HA⟩ := hrel
    by_cases hlt : k < s.size
    · have hlt' : (k : Int) < (s.size : Int) := by omega
      have HT' : Hid (s.data.toList.take (k + 1) = s.data.toList.take k ++ [s[k]]) := take_snoc s k hlt
      have HN : Hid (lowerB s[k] = false → nameB s = false) := nameB_no s k hlt
      go_wp2
      · have hb : (s[k].toNat : Int) < 97 ∨ 122 < (s[k].toNat : Int) := by assumption
        have hl : lowerB s[k] = false := by simp [lowerB]; omega
        go_ret
        rw [HN.out hl]
        simp
      · have hb : 97 ≤ (s[k].toNat : Int) ∧ (s[k].toNat : Int) ≤ 122 := by assumption
        have hl : lowerB s[k] = true := by simp [lowerB]; omega
        go_round
        case rel => exact ⟨k + 1, by omega, by go_num, by show _ = true; rw [HT'.out, List.all_append, HA.out]; simp [hl]⟩
        case measure => simp [intOf]; omega
      · have hb : (s[k].toNat : Int) < 97 := by assumption
        have hl : lowerB s[k] = false := by simp [lowerB]; omega
        go_ret
        rw [HN.out hl]
        simp
    · have ek : k = s.size := by omega
      subst ek
      by_cases h1 : 1 ≤ s.size
      · have h1' : (1 : Int) ≤ (s.size : Int) := by omega
        by_cases h2 : s.size ≤ 10
        · have HY : Hid (nameB s = true) := nameB_yes s h1 h2 HA.out
          go_wp2
          all_goals first
            | omega
            | (go_ret
               rw [HY.out]
               simp [h1, h2]
               omega)
        · have HY : Hid (nameB s = false) := by show _ = _; simp [nameB, h2]
          go_wp2
          all_goals first
            | omega
            | (go_ret
               rw [HY.out]
               simp [h1, h2]
               omega)
      · have HY : Hid (nameB s = false) := by show _ = _; simp [nameB, h1]
        have h1' : decide (1 ≤ (s.size : Int)) = false := decide_eq_false (by omega)
        go_wp2
        go_ret
        rw [HY.out]
        simp [h1]
def RSt.all (s : RSt) : List Nat := s.vols.flatMap (·.blocks)
set_option maxHeartbeats 800000 in
set_option maxRecDepth 100000 in
theorem refTaken_calls (s : RSt) (n : Nat) (w : World) (h : RefAt w s) :
    Calls Try.prog 112 #[.pointer (some ⟨s.rb, 0, none⟩), .int .i64 n] w fun e w' => e = .returned (.bool (decide (n ∈ s.all))) ∧ w' = w := by
  obtain ⟨cap, hp, h1, h2⟩ := h.pool
  have c1 : w.cell? ⟨s.rb, 1, none⟩ = some (.slice (s.lg.map fun b => ⟨b, 0, none⟩) s.vols.length cap) := hp.cell? 1
  have hfew := h.few
  have HR : Hid (n ∈ s.all ↔ ∃ v ∈ s.vols, n ∈ v.blocks) := by show _ ↔ _; simp [RSt.all, List.mem_flatMap]
  generalize hres : decide (n ∈ s.all) = res at *
  have HRES : Hid (decide (n ∈ s.all) = res) := hres
  clear hres
  go_enter Try.func112, Try.ntmps112
  go_wp2
  go_loopw [5] (fun i wr => ∃ k : Nat, k ≤ s.vols.length ∧ i = .int .i64 k ∧ wr = w ∧ Hid (∀ v ∈ s.vols.take k, n ∉ v.blocks)) (fun i _ => s.vols.length - (intOf i).toNat)
  case atStart => exact ⟨0, Nat.zero_le _, rfl, rfl, by show ∀ v ∈ _, _; simp⟩
  case round =>
    obtain ⟨k, hk, rfl, rfl, HN⟩ := hrel
    by_cases hkl : k < s.vols.length
    · obtain ⟨b, hb, e1, hm⟩ := h.cell k hkl
      have hvv := h.vols _ hm
      obtain ⟨dc, bc, kc, hv, _, hbl, _⟩ := hvv.ex
      have hbs := hvv.blocks
      have e3 : wr.cell? ⟨(s.vols[k]!).vb, 3, none⟩ = some (.slice (some ⟨(s.vols[k]!).bg, 0, none⟩) (s.vols[k]!).blocks.length bc) := hv.cell? 3
      have hb' : (s.lg.map fun b => (⟨b, 0, none⟩ : Addr)) = some ⟨b, 0, none⟩ := by rw [hb]; rfl
      rw [hb'] at c1
      have HT : Hid (s.vols.take (k + 1) = s.vols.take k ++ [s.vols[k]!]) := by show _ = _; rw [List.take_succ_eq_append_getElem hkl, getElem!_pos s.vols k hkl]
      have HM : Hid (s.vols[k]! ∈ s.vols) := hm
      generalize s.vols[k]! = vv at *
      have l1 : (k : Int) < (s.vols.length : Int) := by omega
      clear h hv hp hm hb' hb hvv
      go_wp2_with fail
      go_loop [6] (fun i => ∃ j : Nat, j ≤ vv.blocks.length ∧ i = .int .i64 j ∧ Hid (n ∉ vv.blocks.take j)) (fun i => vv.blocks.length - (intOf i).toNat)
      case atStart => exact ⟨0, Nat.zero_le _, rfl, by show _ ∉ _; simp⟩
      case round =>
        obtain ⟨j, hj, rfl, HJ⟩ := hrel
        by_cases hjl : j < vv.blocks.length
        · have cj := hbl.cell j hjl
          have HTJ : Hid (vv.blocks.take (j + 1) = vv.blocks.take j ++ [vv.blocks[j]!]) := by show _ = _; rw [List.take_succ_eq_append_getElem hjl, getElem!_pos vv.blocks j hjl]
          have HMJ : Hid (vv.blocks[j]! ∈ vv.blocks) := by show _ ∈ _; rw [getElem!_pos vv.blocks j hjl]; exact List.getElem_mem hjl
          generalize vv.blocks[j]! = y at *
          have l2 : (j : Int) < (vv.blocks.length : Int) := by omega
          by_cases hy : y = n
          · subst hy
            have HF : Hid (res = true) := by show _ = _; rw [← HRES.out]; exact decide_eq_true (HR.out.2 ⟨vv, HM.out, HMJ.out⟩)
            go_wp2
            go_ret
            rw [HF.out]
            exact ⟨rfl, rfl⟩
          · have hy' : ((y : Int) == (n : Int)) = false := beq_eq_false_iff_ne.2 (by omega)
            go_wp2
            go_round
            case rel => exact ⟨j + 1, by omega, by go_num, by show _ ∉ _; rw [HTJ.out]; simp [HJ.out]; exact fun e => hy e.symm⟩
            case measure => simp [intOf]; omega
        · have ej : j = vv.blocks.length := by omega
          have HB : Hid (n ∉ vv.blocks) := by have := HJ.out; rw [ej, List.take_length] at this; exact this
          clear HJ
          go_wp2_with fail
          go_roundw
          case rel => exact ⟨k + 1, by omega, by go_num, by first | rfl | trivial, by
            show ∀ v ∈ _, _
            rw [HT.out]
            intro v hv
            rcases List.mem_append.1 hv with hv | hv
            · exact HN.out v hv
            · simp at hv; subst hv; exact HB.out⟩
          case measure => simp [intOf]; omega
    · have ek : k = s.vols.length := by omega
      subst ek
      have HF : Hid (res = false) := by
        show _ = _
        rw [← HRES.out]
        refine decide_eq_false fun hm => ?_
        obtain ⟨v, hv, hb⟩ := HR.out.1 hm
        exact HN.out v (by rw [List.take_length]; exact hv) hb
      clear HN h hp
      go_wp2
      go_ret
      rw [HF.out]
      exact ⟨rfl, rfl⟩
/-- The free blocks, the lowest first. -/
def RSt.freeL (s : RSt) (k : Nat) : List Nat := (List.range k).filter fun x => decide (x ∉ s.all)
theorem RSt.freeL_succ (s : RSt) (k : Nat) : s.freeL (k + 1) = s.freeL k ++ (if k ∈ s.all then [] else [k]) := by
  unfold RSt.freeL
  rw [List.range_succ, List.filter_append]
  congr 1
  by_cases h : k ∈ s.all
  · simp [h]
  · simp [h]
theorem RSt.freeL_len (s : RSt) (k : Nat) : (s.freeL k).length ≤ k := by
  have := List.length_filter_le (fun x => decide (x ∉ s.all)) (List.range k)
  simpa [RSt.freeL] using this
set_option maxHeartbeats 800000 in
set_option maxRecDepth 100000 in
theorem refFree_calls (s : RSt) (w : World) (h : RefAt w s) :
    Calls Try.prog 84 #[.pointer (some ⟨s.rb, 0, none⟩)] w fun e w' => ∃ v, e = .returned v ∧ w'.ownsRow w.heap.size 3 1 v (s.freeL s.n).length ((s.freeL s.n).map (fun x : Nat => Value.int .i64 x)) ∧ Same [] w w' := by
  obtain ⟨cap, hp, h1, h2⟩ := h.pool
  have hnot := runNotR
  have hn := h.n
  obtain ⟨i0, hi, hz0, hz1, hz2⟩ := info_parts Try.info3
  go_enter Try.func84, Try.ntmps84
  go_wp2
  go_loopw [3, 4] (fun u i wr => ∃ k : Nat, k ≤ s.n ∧ i = .int .i64 k ∧ Same [] w wr ∧ wr.ownsRow w.heap.size 3 1 u (s.freeL k).length ((s.freeL k).map (fun x : Nat => Value.int .i64 x)))
    (fun _ i _ => s.n - (intOf i).toNat)
  case atStart => exact ⟨0, Nat.zero_le _, rfl, Same.refl _ _, by simpa [RSt.freeL] using World.ownsRow_nil w w.heap.size 3 1⟩
  case round =>
    obtain ⟨k, hk, rfl, hS, hown⟩ := hrel
    obtain ⟨ua, ucap, rfl⟩ := owns_form hown
    have c0 : wr.cell? ⟨s.rb, 0, none⟩ = some (.int .i64 s.n) := (hS.at hp (by simp)).cell? 0
    by_cases hkl : k < s.n
    · have hR : RefAt wr s := by
        refine ⟨⟨cap, hS.at hp (by simp), h1, h2⟩, fun b hb => ?_, fun v hv => ?_, h.few, h.n⟩
        · obtain ⟨cs, hc, h3⟩ := h.arr b hb
          exact ⟨cs, hS.at hc (by simp), h3⟩
        · obtain ⟨dc, bc, kc, a1, a2, a3, a4, a5⟩ := (h.vols v hv).ex
          exact ⟨⟨dc, bc, kc, hS.at a1 (by simp), a2.same hS (by simp), a3.same hS (by simp), a4, fun a ha => (a5 a ha).same hS (by simp)⟩, (h.vols v hv).data, (h.vols v hv).blocks, (h.vols v hv).kept⟩
      have hT := refTaken_calls s k wr hR
      have l1 : (k : Int) < (s.n : Int) := by omega
      have HX : Hid (s.freeL (k + 1) = s.freeL k ++ (if k ∈ s.all then [] else [k])) := s.freeL_succ k
      have hfl := s.freeL_len k
      have hsz := hS.size
      clear hR
      by_cases hkt : k ∈ s.all
      · rw [decide_eq_true hkt] at hT
        generalize s.freeL k = pp at *
        go_wp2_with (go_at_call 112; refine hT.mono ?_; rintro e wz ⟨rfl, rfl⟩)
        go_roundw
        case rel => exact ⟨k + 1, by omega, by go_num, hS, by rw [HX.out, if_pos hkt, List.append_nil]; exact hown⟩
        case measure => simp [intOf]; omega
      · rw [decide_eq_false hkt] at hT
        generalize s.freeL k = pp at *
        go_wp2_with (first | (go_at_call 112; refine hT.mono ?_; rintro e wz ⟨rfl, rfl⟩) | (at_builtin; refine wpList_append_own _ rfl _ _ 39 rfl w.heap.size 3 i0 (.int .i64 0) 1 8 Try.underlying39 hi hz0 hz1 hz2 rfl (by decide) _ _ _ rfl (hown.alloc _) ⟨wz.heap.size, 0, none⟩ 1 1 [.int .i64 (k : Nat)] rfl rfl ?c1 ?c2 ?c3 ?c4 ?c5 ?_))
        case c1 =>
          intro j u hj
          match j, hj with
          | 0, hj => simp at hj; subst hj; simp [Addr.add]
        case c2 => intro u hu; simp at hu; subst hu; rfl
        case c3 => unfold maxLen; omega
        case c4 => omega
        case c5 => simp; omega
        intro v' w4 hown' hgrow _
        have S4 : Same [] w w4 := (hS.alloc _).grown hgrow (fun i hi hl => by have := (hown.lt i hi).1; omega)
        have O4 : w4.ownsRow w.heap.size 3 1 v' (s.freeL (k + 1)).length ((s.freeL (k + 1)).map (fun x : Nat => Value.int .i64 x)) := by
          rw [HX.out, if_neg hkt, List.map_append, List.length_append]; exact hown'
        clear hown' hgrow hown hS hT c0
        go_wp2
        go_roundw
        case rel => exact ⟨k + 1, by omega, by go_num, S4, O4⟩
        case measure => simp [intOf]; omega
    · have ek : k = s.n := by omega
      subst ek
      go_wp2
      go_ret
      exact ⟨_, rfl, hown, hS⟩
theorem RSt.at?_mem {s : RSt} {t : ByteArray} {v : RVol} (h : s.at? t = some v) : v ∈ s.vols ∧ v.name = t := by
  unfold RSt.at? at h
  exact ⟨List.mem_of_find?_eq_some h, by simpa using List.find?_some h⟩
/-- What 'at' answers: the code, and the volume where it is 0. -/
def RSt.atC (s : RSt) (t : ByteArray) (k : Int) : Nat :=
  match s.at? t with
  | none => 4
  | some v => if v.lost then 9 else if k < 0 ∨ (v.data.length : Int) ≤ k then 1 else 0
set_option maxHeartbeats 400000 in
set_option maxRecDepth 100000 in
theorem refAt_none (s : RSt) (t : ByteArray) (k : Int) (w : World) (h : RefAt w s) (hc : s.atC t k ≠ 0) :
    Calls Try.prog 114 #[.pointer (some ⟨s.rb, 0, none⟩), .string t, .int .i64 k] w fun e w' => e = .returned (.tuple #[.pointer none, .int .i64 (s.atC t k)]) ∧ w' = w := by
  have hF := refFind_calls s t w h
  have HC : Hid (s.atC t k = match s.at? t with
    | none => 4
    | some v => if v.lost then 9 else if k < 0 ∨ (v.data.length : Int) ≤ k then 1 else 0) := rfl
  generalize s.atC t k = res at *
  cases ha : s.at? t with
  | none =>
    rw [ha] at hF
    have HF : Hid (res = 4) := by show _ = _; rw [HC.out, ha]
    clear HC
    go_enter Try.func114, Try.ntmps114
    go_wp2_with (first | (go_at_call 113; refine hF.mono ?_; rintro e wz ⟨rfl, rfl⟩))
    go_ret2
    rw [HF.out]
    exact ⟨rfl, rfl⟩
  | some v =>
    rw [ha] at hF
    obtain ⟨hm, hnm⟩ := RSt.at?_mem ha
    obtain ⟨dc, bc, kc, hv, _⟩ := (h.vols v hm).ex
    have hd := (h.vols v hm).data
    have e2 : w.cell? ⟨v.vb, 2, none⟩ = some (.slice (some ⟨v.dg, 0, none⟩) v.data.length dc) := hv.cell? 2
    have e5 : w.cell? ⟨v.vb, 5, none⟩ = some (.bool v.lost) := hv.cell? 5
    clear hv h
    cases hl : v.lost with
    | true =>
      rw [hl] at e5
      have HF : Hid (res = 9) := by show _ = _; rw [HC.out, ha]; simp [hl]
      clear HC
      go_enter Try.func114, Try.ntmps114
      go_wp2_with (first | (go_at_call 113; refine hF.mono ?_; rintro e wz ⟨rfl, rfl⟩))
      go_ret2
      rw [HF.out]
      exact ⟨rfl, rfl⟩
    | false =>
      rw [hl] at e5
      by_cases hk : k < 0
      · have HF : Hid (res = 1) := by show _ = _; rw [HC.out, ha]; simp [hl, hk]
        clear HC
        go_enter Try.func114, Try.ntmps114
        go_wp2_with (first | (go_at_call 113; refine hF.mono ?_; rintro e wz ⟨rfl, rfl⟩))
        go_ret2
        rw [HF.out]
        exact ⟨rfl, rfl⟩
      · by_cases hk2 : (v.data.length : Int) ≤ k
        · have HF : Hid (res = 1) := by show _ = _; rw [HC.out, ha]; simp [hl, hk2]
          clear HC
          have hk' : 0 ≤ k := by omega
          go_enter Try.func114, Try.ntmps114
          go_wp2_with (first | (go_at_call 113; refine hF.mono ?_; rintro e wz ⟨rfl, rfl⟩))
          go_ret2
          rw [HF.out]
          exact ⟨rfl, rfl⟩
        · exact absurd (by rw [HC.out, ha]; simp [hl, hk2]; omega) hc
set_option maxHeartbeats 400000 in
set_option maxRecDepth 100000 in
theorem refAt_some (s : RSt) (t : ByteArray) (k : Nat) (v : RVol) (w : World) (h : RefAt w s) (ha : s.at? t = some v) (hl : v.lost = false) (hk : k < v.data.length) :
    Calls Try.prog 114 #[.pointer (some ⟨s.rb, 0, none⟩), .string t, .int .i64 k] w fun e w' => e = .returned (.tuple #[.pointer (some ⟨v.vb, 0, none⟩), .int .i64 0]) ∧ w' = w := by
  have hF := refFind_calls s t w h
  rw [ha] at hF
  obtain ⟨hm, hnm⟩ := RSt.at?_mem ha
  obtain ⟨dc, bc, kc, hv, _⟩ := (h.vols v hm).ex
  have hd := (h.vols v hm).data
  have e2 : w.cell? ⟨v.vb, 2, none⟩ = some (.slice (some ⟨v.dg, 0, none⟩) v.data.length dc) := hv.cell? 2
  have e5 : w.cell? ⟨v.vb, 5, none⟩ = some (.bool v.lost) := hv.cell? 5
  rw [hl] at e5
  clear hv h
  have l1 : (k : Int) < (v.data.length : Int) := by omega
  have l0 : (0 : Int) ≤ (k : Int) := by omega
  go_enter Try.func114, Try.ntmps114
  go_wp2_with (first | (go_at_call 113; refine hF.mono ?_; rintro e wz ⟨rfl, rfl⟩))
  go_ret2
  exact ⟨rfl, rfl⟩
def zero8 : ByteArray := ⟨#[0, 0, 0, 0, 0, 0, 0, 0]⟩
set_option maxHeartbeats 400000 in
set_option maxRecDepth 100000 in
theorem refRead_none (s : RSt) (t : ByteArray) (k : Int) (w : World) (h : RefAt w s) (hc : s.atC t k ≠ 0) :
    Calls Try.prog 86 #[.pointer (some ⟨s.rb, 0, none⟩), .string t, .int .i64 k] w fun e w' => e = .returned (.tuple #[.string zero8, .int .i64 (s.atC t k)]) ∧ w' = w := by
  have hA := refAt_none s t k w h hc
  generalize s.atC t k = res at *
  have hr : ((res : Int) == 0) = false := beq_eq_false_iff_ne.2 (by omega)
  go_enter Try.func86, Try.ntmps86
  go_wp2_with (first | (go_at_call 114; refine hA.mono ?_; rintro e wz ⟨rfl, rfl⟩))
  go_ret2
  exact ⟨rfl, rfl⟩
set_option maxHeartbeats 400000 in
set_option maxRecDepth 100000 in
theorem refRead_some (s : RSt) (t : ByteArray) (k : Nat) (v : RVol) (w : World) (h : RefAt w s) (ha : s.at? t = some v) (hl : v.lost = false) (hk : k < v.data.length) :
    Calls Try.prog 86 #[.pointer (some ⟨s.rb, 0, none⟩), .string t, .int .i64 k] w fun e w' => e = .returned (.tuple #[.string v.data[k]!, .int .i64 0]) ∧ w' = w := by
  have hA := refAt_some s t k v w h ha hl hk
  obtain ⟨hm, hnm⟩ := RSt.at?_mem ha
  obtain ⟨dc, bc, kc, hv, hdat, _⟩ := (h.vols v hm).ex
  have hd := (h.vols v hm).data
  have e2 : w.cell? ⟨v.vb, 2, none⟩ = some (.slice (some ⟨v.dg, 0, none⟩) v.data.length dc) := hv.cell? 2
  have ek := hdat.cell k hk
  generalize v.data[k]! = y at *
  have l1 : (k : Int) < (v.data.length : Int) := by omega
  clear hv h hdat
  go_enter Try.func86, Try.ntmps86
  go_wp2_with (first | (go_at_call 114; refine hA.mono ?_; rintro e wz ⟨rfl, rfl⟩))
  go_ret2
  exact ⟨rfl, rfl⟩
set_option maxHeartbeats 400000 in
set_option maxRecDepth 100000 in
theorem refMap_some (s : RSt) (t : ByteArray) (v : RVol) (w : World) (h : RefAt w s) (ha : s.at? t = some v) :
    Calls Try.prog 85 #[.pointer (some ⟨s.rb, 0, none⟩), .string t] w fun e w' => ∃ bc, e = .returned (.tuple #[.slice (some ⟨v.bg, 0, none⟩) v.blocks.length bc, .int .i64 0]) ∧ NumsAt w v.bg bc v.blocks ∧ w' = w := by
  have hF := refFind_calls s t w h
  rw [ha] at hF
  obtain ⟨hm, hnm⟩ := RSt.at?_mem ha
  obtain ⟨dc, bc, kc, hv, _, hbl, _⟩ := (h.vols v hm).ex
  have e3 : w.cell? ⟨v.vb, 3, none⟩ = some (.slice (some ⟨v.bg, 0, none⟩) v.blocks.length bc) := hv.cell? 3
  clear hv h
  go_enter Try.func85, Try.ntmps85
  go_wp2_with (first | (go_at_call 113; refine hF.mono ?_; rintro e wz ⟨rfl, rfl⟩))
  go_ret2
  exact ⟨bc, rfl, hbl, rfl⟩
/-- How many pictures something has. -/
def RSt.pics (s : RSt) (t : ByteArray) (k : Nat) : Nat := ((s.vols.take k).filter fun v => decide (v.of_ = t)).length
end
end Go.Proofs.Ytpddgdjocffgdaa
