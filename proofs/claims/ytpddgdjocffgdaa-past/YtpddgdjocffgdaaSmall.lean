/- Small functions of package strata, by contracts. -/
import Derived.Test.YtpddgdjocffgdaaNames
namespace Go.Proofs.Ytpddgdjocffgdaa
open Go.RowKit Go.Sort
set_option linter.unusedVariables false
set_option linter.unusedSimpArgs false
set_option linter.unusedSectionVars false
variable [DecidableEq Blk] [Inhabited Blk]

def lowerB (c : UInt8) : Bool := decide (97 ≤ c.toNat) && decide (c.toNat ≤ 122)
def nameB (s : ByteArray) : Bool := decide (1 ≤ s.size) && decide (s.size ≤ 10) && s.data.toList.all lowerB

theorem isCount_calls (n : Int) (w : World) :
    Calls Try.prog 51 #[.int .i64 n] w fun e w' => e = .returned (.bool (decide (1 ≤ n ∧ n ≤ 200))) ∧ w' = w := by
  by_cases h1 : 1 ≤ n
  · by_cases h2 : n ≤ 200
    · have e : decide (1 ≤ n ∧ n ≤ 200) = true := decide_eq_true ⟨h1, h2⟩
      rw [e]
      go_enter Try.func51, Try.ntmps51
      go_wp2
      go_ret
      simp [h1, h2]
    · have e : decide (1 ≤ n ∧ n ≤ 200) = false := decide_eq_false (by omega)
      rw [e]
      go_enter Try.func51, Try.ntmps51
      go_wp2
      go_ret
      simp [h2]
  · have e : decide (1 ≤ n ∧ n ≤ 200) = false := decide_eq_false (by omega)
    rw [e]
    have h1' : decide (1 ≤ n) = false := decide_eq_false h1
    go_enter Try.func51, Try.ntmps51
    go_wp2
    go_ret
    simp [h1]

theorem take_snoc (s : ByteArray) (k : Nat) (h : k < s.size) : s.data.toList.take (k + 1) = s.data.toList.take k ++ [s[k]] := by
  rw [List.take_succ_eq_append_getElem (by simpa using h)]; rfl
theorem nameB_no (s : ByteArray) (k : Nat) (h : k < s.size) (hl : lowerB s[k] = false) : nameB s = false := by
  have hm : s[k] ∈ s.data.toList := by
    have : s[k] = s.data.toList[k]'(by simpa using h) := rfl
    rw [this]; exact List.getElem_mem _
  have : s.data.toList.all lowerB = false := by
    rw [List.all_eq_false]; exact ⟨s[k], hm, by simp [hl]⟩
  simp [nameB, this]
theorem nameB_yes (s : ByteArray) (h1 : 1 ≤ s.size) (h2 : s.size ≤ 10) (h : (s.data.toList.take s.size).all lowerB = true) : nameB s = true := by
  rw [List.take_of_length_le (by simp)] at h
  simp only [nameB, h, h1, h2, decide_true, Bool.and_self]

set_option maxHeartbeats 400000 in
set_option maxRecDepth 100000 in
theorem isName_calls (s : ByteArray) (w : World) (hs : s.size ≤ maxLen) :
    Calls Try.prog 91 #[.string s] w fun e w' => e = .returned (.bool (nameB s)) ∧ w' = w := by
  unfold maxLen at hs
  by_cases h1 : 1 ≤ s.size
  · by_cases h2 : s.size ≤ 10
    · go_enter Try.func91, Try.ntmps91
      go_wp2
      go_loop [14] (fun i => ∃ k : Nat, k ≤ s.size ∧ i = .int .i64 k ∧ Hid ((s.data.toList.take k).all lowerB = true)) (fun i => s.size - (intOf i).toNat)
      case atStart => exact ⟨0, Nat.zero_le _, rfl, rfl⟩
      case round =>
        obtain ⟨k, hk, rfl, HA⟩ := hrel
        by_cases hlt : k < s.size
        · have hlt' : (k : Int) < (s.size : Int) := by omega
          have HT := take_snoc s k hlt
          have HT' : Hid (s.data.toList.take (k + 1) = s.data.toList.take k ++ [s[k]]) := HT
          clear HT
          have HN : Hid (lowerB s[k] = false → nameB s = false) := nameB_no s k hlt
          go_wp2
          · have hb : (s[k].toNat : Int) < 97 ∨ 122 < (s[k].toNat : Int) := by assumption
            have hl : lowerB s[k] = false := by simp [lowerB]; omega
            go_ret
            rw [HN.out hl]
            simp
          · have hb : 97 ≤ (s[k].toNat : Int) ∧ (s[k].toNat : Int) ≤ 122 := by assumption
            have hl : lowerB s[k] = true := by simp [lowerB]; omega
            go_round
            case rel => exact ⟨k + 1, by omega, by go_num, by show _ = true; rw [HT'.out, List.all_append, HA.out]; simp [hl]⟩
            case measure => simp [intOf]; omega
          · have hb : (s[k].toNat : Int) < 97 := by assumption
            have hl : lowerB s[k] = false := by simp [lowerB]; omega
            go_ret
            rw [HN.out hl]
            simp
        · have ek : k = s.size := by omega
          subst ek
          have HY : Hid (nameB s = true) := nameB_yes s h1 h2 HA.out
          go_wp2
          go_ret
          rw [HY.out]
          exact ⟨rfl, rfl⟩
    · have e : nameB s = false := by simp [nameB, h2]
      rw [e]
      go_enter Try.func91, Try.ntmps91
      go_wp2
      go_ret
      simp
  · have e : nameB s = false := by simp [nameB, h1]
    rw [e]
    have h1' : (s.size : Int) < 1 := by omega
    go_enter Try.func91, Try.ntmps91
    go_wp2
    go_ret
    simp
end Go.Proofs.Ytpddgdjocffgdaa
