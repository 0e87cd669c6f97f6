/- The statement's own small functions: pick, has, by contracts. -/
import Derived.Test.YtpddgdjocffgdaaPoolAB
import Derived.Test.YtpddgdjocffgdaaPoolBB
import Derived.Test.YtpddgdjocffgdaaPoolN
namespace Go.Proofs.Ytpddgdjocffgdaa
open Go.RowKit Go.Sort
set_option linter.unusedVariables false
set_option linter.unusedSimpArgs false
set_option linter.unusedSectionVars false
variable [DecidableEq Blk] [Inhabited Blk]
variable [Inhabited Vol]

def pickF (c n : Int) : Int := (if c < 0 then -(c + 1) else c).tmod n
theorem pickF_bd (c n : Int) (h : 0 < n) : 0 ≤ pickF c n ∧ pickF c n < n := by
  unfold pickF
  have h0 : 0 ≤ (if c < 0 then -(c + 1) else c) := by split <;> omega
  exact ⟨Int.tmod_nonneg n h0, Int.tmod_lt_of_pos _ h⟩

set_option maxHeartbeats 400000 in
theorem pick_calls (c n : Int) (w : World) (h1 : -9223372036854775808 ≤ c) (h2 : c ≤ 9223372036854775807) (hn : 0 < n) (hn2 : n ≤ 1000) :
    Calls Try.prog 16 #[.int .i64 c, .int .i64 n] w fun e w' => e = .returned (.int .i64 (pickF c n)) ∧ w' = w := by
  have hne : ¬ n = 0 := by omega
  have hb := pickF_bd c n hn
  by_cases hc : c < 0
  · have HP : Hid (pickF c n = -((c + 1).tmod n)) := by show _ = _; unfold pickF; rw [if_pos hc, Int.neg_tmod]
    go_enter Try.func16, Try.ntmps16
    go_wp2
    go_ret
    rw [HP.out]
    exact ⟨rfl, rfl⟩
  · have HP : Hid (pickF c n = c % n) := by show _ = _; unfold pickF; rw [if_neg hc, Int.tmod_eq_emod_of_nonneg (by omega)]
    go_enter Try.func16, Try.ntmps16
    go_wp2
    go_ret
    rw [HP.out]
    exact ⟨rfl, rfl⟩

set_option maxHeartbeats 400000 in
set_option maxRecDepth 100000 in
theorem has_calls (g : Nat) (xs : List Nat) (n : Nat) (w : World) (v : Value) (h : SlAt w v g xs) (hl : xs.length ≤ 1000) :
    Calls Try.prog 47 #[v, .int .i64 n] w fun e w' => e = .returned (.bool (decide (n ∈ xs))) ∧ w' = w := by
  obtain ⟨a, cap, rfl, hsl⟩ := h.ex
  clear h
  go_enter Try.func47, Try.ntmps47
  go_wp2
  go_loopw [5] (fun i wr => ∃ k : Nat, k ≤ xs.length ∧ i = .int .i64 k ∧ wr = w ∧ Hid (n ∉ xs.take k)) (fun i _ => xs.length - (intOf i).toNat)
  case atStart => exact ⟨0, Nat.zero_le _, rfl, rfl, by show _ ∉ _; simp⟩
  case round =>
    obtain ⟨k, hk, rfl, rfl, HN⟩ := hrel
    by_cases hkl : k < xs.length
    · obtain ⟨rfl, cs, hr⟩ := hsl (fun e => by rw [e] at hkl; simp at hkl)
      have ck := hr.cell k hkl
      rw [← hr.at_.cell?] at ck
      have HT : Hid (xs.take (k + 1) = xs.take k ++ [xs[k]!]) := by show _ = _; rw [List.take_succ_eq_append_getElem hkl, getElem!_pos xs k hkl]
      have HM : Hid (xs[k]! ∈ xs) := by show _ ∈ _; rw [getElem!_pos xs k hkl]; exact List.getElem_mem hkl
      generalize xs[k]! = y at *
      have l1 : (k : Int) < (xs.length : Int) := by omega
      clear hsl hr
      by_cases hy : y = n
      · subst hy
        go_wp2
        go_ret
        rw [decide_eq_true HM.out]
        exact ⟨rfl, rfl⟩
      · have hy' : ((y : Int) == (n : Int)) = false := beq_eq_false_iff_ne.2 (by omega)
        go_wp2
        go_roundw
        case rel => exact ⟨k + 1, by omega, by go_num, by first | rfl | trivial, by show _ ∉ _; rw [HT.out]; simp [HN.out]; exact fun e => hy e.symm⟩
        case measure => simp [intOf]; omega
    · have ek : k = xs.length := by omega
      subst ek
      have HF : Hid (decide (n ∈ xs) = false) := decide_eq_false (by have := HN.out; rwa [List.take_length] at this)
      clear HN hsl
      go_wp2
      go_ret
      rw [HF.out]
      exact ⟨rfl, rfl⟩
theorem After.trans {w w1 w2 : World} {s s1 s2 : St} {fr1 fr2 : List Nat} (a : After w s w1 s1 fr1) (b : After w1 s1 w2 s2 fr2) : After w s w2 s2 fr2 := by
  refine ⟨b.pool, b.good, a.same.step b.same fun k hk hl => ?_, fun k hk => ?_, b.pb.trans a.pb, b.n.trans a.n⟩
  · rcases a.foot k hk with h | h
    · exact h
    · omega
  · rcases b.foot k hk with h | h
    · exact a.foot k h
    · have := a.same.size; exact Or.inr (by omega)
theorem After.start {w : World} {s : St} {fr : List Nat} (h : PoolAt w s) (hG : Good s fr) : After w s w s fr := ⟨h, hG, Same.refl _ _, fun _ hk => Or.inl hk, rfl, rfl⟩
theorem After.new {w w1 w2 : World} {s s1 : St} {fr1 : List Nat} (a : After w s w1 s1 fr1) (h : Same [] w1 w2) : After w s w2 s1 fr1 :=
  a.trans ⟨a.pool.new h, a.good, h.mono (by simp), fun _ hk => Or.inl hk, rfl, rfl⟩

end Go.Proofs.Ytpddgdjocffgdaa
