/- The disk's heap of free blocks: lowerChild, by a contract. -/
import Derived.Test.YtpddgdjocffgdaaProg
import Derived.WalkKit
import Derived.Sort.WalkC
import Derived.Deep.LoopGhost
import Derived.Deep.QuietTactic
import Derived.BigRegion
import Derived.BigQuiet
namespace Go.Proofs.Ytpddgdjocffgdaa
open Go.RowKit Go.Sort
set_option linter.unusedVariables false
set_option linter.unusedSimpArgs false
set_option linter.unusedSectionVars false

/-- The lowest of i and the two below it, among the first m of d. -/
def low1 (m i : Nat) (d : Array Int) : Nat := if 2 * i + 1 < m ∧ d[2 * i + 1]! < d[i]! then 2 * i + 1 else i
def low (m i : Nat) (d : Array Int) : Nat := if 2 * i + 2 < m ∧ d[2 * i + 2]! < d[low1 m i d]! then 2 * i + 2 else low1 m i d

theorem low1_lt (m i : Nat) (d : Array Int) (h : i < m) : low1 m i d < m := by unfold low1; split <;> omega
theorem low_lt (m i : Nat) (d : Array Int) (h : i < m) : low m i d < m := by
  have := low1_lt m i d h
  unfold low; split <;> omega

/-- Where the search of the lower child stands: the next one to look at, and the best so far. -/
def LowAt (m i : Nat) (d : Array Int) (j bst : Nat) : Prop := (j = 2 * i + 1 ∧ bst = i) ∨ (j = 2 * i + 2 ∧ bst = low1 m i d ∧ 2 * i + 1 < m) ∨ (j = 2 * i + 3 ∧ bst = low m i d ∧ 2 * i + 2 < m)

theorem LowAt.bst_lt {m i : Nat} {d : Array Int} {j bst : Nat} (h : LowAt m i d j bst) (hj : j < m) : bst < m := by
  rcases h with ⟨_, h⟩ | ⟨_, h, h2⟩ | ⟨_, h, h2⟩
  · omega
  · have := low1_lt m i d (by omega); omega
  · have := low_lt m i d (by omega); omega

theorem LowAt.yes {m i : Nat} {d : Array Int} {j bst : Nat} (h : LowAt m i d j bst) (hj : j < m) (hle : j ≤ 2 * i + 2) (hx : d[j]! < d[bst]!) : LowAt m i d (j + 1) j := by
  rcases h with ⟨rfl, rfl⟩ | ⟨rfl, rfl, h2⟩ | ⟨rfl, _, _⟩
  · exact Or.inr (Or.inl ⟨rfl, by unfold low1; rw [if_pos ⟨hj, hx⟩], hj⟩)
  · exact Or.inr (Or.inr ⟨rfl, by unfold low; rw [if_pos ⟨hj, hx⟩], hj⟩)
  · omega

theorem LowAt.no {m i : Nat} {d : Array Int} {j bst : Nat} (h : LowAt m i d j bst) (hj : j < m) (hle : j ≤ 2 * i + 2) (hx : ¬ d[j]! < d[bst]!) : LowAt m i d (j + 1) bst := by
  rcases h with ⟨rfl, rfl⟩ | ⟨rfl, rfl, h2⟩ | ⟨rfl, _, _⟩
  · exact Or.inr (Or.inl ⟨rfl, by unfold low1; rw [if_neg (fun h => hx h.2)], hj⟩)
  · exact Or.inr (Or.inr ⟨rfl, by unfold low; rw [if_neg (fun h => hx h.2)], hj⟩)
  · omega

theorem LowAt.done {m i : Nat} {d : Array Int} {j bst : Nat} (h : LowAt m i d j bst) (hn : ¬ (j < m ∧ j ≤ 2 * i + 2)) : bst = low m i d := by
  rcases h with ⟨rfl, rfl⟩ | ⟨rfl, rfl, h2⟩ | ⟨rfl, h, _⟩
  · unfold low low1; rw [if_neg (by omega), if_neg (by omega)]
  · unfold low; rw [if_neg (by omega)]
  · exact h

set_option maxHeartbeats 2000000 in
set_option maxRecDepth 100000 in
theorem lowerChild_calls (b off m cap i : Nat) (d : Array Int) (w : World) (hm : m ≤ d.size) (hmx : m ≤ 1000) (him : i ≤ 1000) (hH : Holds (Value.int .i64) w b off d) :
    Calls Try.prog 124 #[.slice (some ⟨b, off, none⟩) m cap, .int .i64 i] w fun e w' => e = .returned (.int .i64 (low m i d)) ∧ ∃ q, w' = w.drewN q := by
  go_enter Try.func124, Try.ntmps124
  go_wp2
  go_loopw [5, 6] (fun s c wr => ∃ (j bst q : Nat), s = .int .i64 bst ∧ c = .int .i64 j ∧ wr = w.drewN q ∧ LowAt m i d j bst)
    (fun _ c _ => 2 * i + 3 - (intOf c).toNat)
  case atStart => exact ⟨2 * i + 1, i, 0, rfl, by go_num, rfl, Or.inl ⟨rfl, rfl⟩⟩
  case round =>
    obtain ⟨j, bst, q, rfl, rfl, rfl, hj⟩ := hrel
    by_cases hlt : j < m ∧ j ≤ 2 * i + 2
    · obtain ⟨hlt, hle⟩ := hlt
      have hb : bst < m := hj.bst_lt hlt
      obtain ⟨xj, hxj⟩ : ∃ x, d[j]! = x := ⟨_, rfl⟩
      obtain ⟨xb, hxb⟩ : ∃ x, d[bst]! = x := ⟨_, rfl⟩
      obtain ⟨cj, fj⟩ := hH j (by omega)
      obtain ⟨cb, fb⟩ := hH bst (by omega)
      rw [hxj] at cj
      rw [hxb] at cb
      have HX : Hid (d[j]! = xj ∧ d[bst]! = xb) := ⟨hxj, hxb⟩
      clear hxj hxb hH
      have l1 : (j : Int) ≤ 2 * (i : Int) + 2 := by omega
      have l2 : (j : Int) < (m : Int) := by omega
      have l3 : (bst : Int) < (m : Int) := by omega
      go_wp2_with fail
      go_quiet (fail)
      go_wp2
      · go_roundw
        case rel => exact ⟨j + 1, j, _, rfl, by go_num, rfl, hj.yes hlt hle (by rw [HX.out.1, HX.out.2]; assumption)⟩
        case measure => simp [intOf]; omega
      · go_roundw
        case rel => exact ⟨j + 1, bst, _, rfl, by go_num, rfl, hj.no hlt hle (by rw [HX.out.1, HX.out.2]; omega)⟩
        case measure => simp [intOf]; omega
    · have HE : Hid (bst = low m i d) := hj.done hlt
      clear hj
      go_wp2
      all_goals
        go_ret
        rw [HE.out]
        exact ⟨rfl, _, rfl⟩
end Go.Proofs.Ytpddgdjocffgdaa
