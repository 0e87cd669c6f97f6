/- The disk's heap of free blocks: sink and rise, by contracts. -/
import Derived.Test.YtpddgdjocffgdaaHeapA
namespace Go.Proofs.Ytpddgdjocffgdaa
open Go.RowKit Go.Sort
set_option linter.unusedVariables false
set_option linter.unusedSimpArgs false
set_option linter.unusedSectionVars false

/-- What sink does to the first m of d, from i on. -/
def sift (m : Nat) : Nat → Nat → Array Int → Array Int
  | 0, _, d => d
  | f + 1, i, d => if low m i d = i then d else sift m f (low m i d) (swp d (low m i d) i)

theorem sift_stop (m f i : Nat) (d : Array Int) (h : low m i d = i) : sift m f i d = d := by
  cases f with
  | zero => rfl
  | succ f => simp only [sift]; rw [if_pos h]
theorem sift_go (m f i l : Nat) (d : Array Int) (h : low m i d = l) (hne : l ≠ i) (hf : 1 ≤ f) : sift m f i d = sift m (f - 1) l (swp d l i) := by
  obtain ⟨g, rfl⟩ : ∃ g, f = g + 1 := ⟨f - 1, by omega⟩
  simp only [sift, Nat.add_sub_cancel]
  rw [h, if_neg hne]
theorem low_ge (m i : Nat) (d : Array Int) : i ≤ low m i d := by unfold low low1; split <;> split <;> omega
theorem low_eq_of_ge (m i : Nat) (d : Array Int) (h : m ≤ 2 * i + 1) : low m i d = i := by unfold low low1; rw [if_neg (by omega), if_neg (by omega)]

theorem swp_size (d : Array Int) (i j : Nat) : (swp d i j).size = d.size := by simp [swp]

set_option maxHeartbeats 4000000 in
set_option maxRecDepth 100000 in
theorem sink_calls (b off m cap : Nat) (d : Array Int) (w : World) (hm : m ≤ d.size) (hmx : m ≤ 1000) (hH : Holds (Value.int .i64) w b off d) :
    Calls Try.prog 117 #[.slice (some ⟨b, off, none⟩) m cap, .int .i64 0] w fun e w' => e = .returned (.tuple #[]) ∧ ∃ q, w' = (putRow (Value.int .i64) w b off (sift m m 0 d)).drewN q := by
  go_enter Try.func117, Try.ntmps117
  go_wp2_with fail
  go_loopg [1] (m + 1) (fun g si wr => ∃ (i f q : Nat) (dk : Array Int), si = .int .i64 i ∧ dk.size = d.size ∧ (i < m ∨ i = 0) ∧ m - i ≤ f ∧ m + 1 - i ≤ g ∧ wr = (putRow (Value.int .i64) w b off dk).drewN q ∧ Hid (sift m m 0 d = sift m f i dk))
  case atStart => exact ⟨0, m, 0, d, rfl, rfl, by omega, by omega, by omega, by rw [putRow_self (Value.int .i64) _ b off d hH]; rfl, rfl⟩
  case round =>
    obtain ⟨i, f, q, dk, rfl, hds, him, hfm, hg, rfl, HE⟩ := hrel
    have hHk : Holds (Value.int .i64) (putRow (Value.int .i64) w b off dk) b off dk := holds_putRow _ _ b off d dk hH hds
    have hHq : Holds (Value.int .i64) ((putRow (Value.int .i64) w b off dk).drewN q) b off dk := hHk
    have hge := low_ge m i dk
    obtain ⟨l, hl⟩ : ∃ l, low m i dk = l := ⟨_, rfl⟩
    go_wp2_with fail
    refine (lowerChild_calls b off m cap i dk _ (by omega) hmx (by omega) hHq).mono ?_
    rintro e w1 ⟨rfl, q1, rfl⟩
    by_cases hli : l = i
    · have HS : Hid (sift m f i dk = dk) := sift_stop m f i dk (hl.trans hli)
      clear hHk hHq hH
      go_wp2
      refine bodyPost_ret (results_none rfl _ _ _) rfl ⟨rfl, ?_⟩
      rw [HE.out, HS.out]
      exact ⟨_, rfl⟩
    · have hlm : l < m := by
        rcases Nat.lt_or_ge i m with h | h
        · have := low_lt m i dk h; omega
        · have := low_eq_of_ge m i dk (by omega); omega
      have HS : Hid (sift m f i dk = sift m (f - 1) l (swp dk l i)) := sift_go m f i l dk hl hli (by omega)
      go_wp2_with fail
      obtain ⟨xi, hxi⟩ : ∃ x, dk[i]! = x := ⟨_, rfl⟩
      obtain ⟨xl, hxl⟩ : ∃ x, dk[l]! = x := ⟨_, rfl⟩
      obtain ⟨ci, fi⟩ := hHk i (by omega)
      obtain ⟨cl, fl⟩ := hHk l (by omega)
      rw [hxi] at ci
      rw [hxl] at cl
      generalize hwq : (putRow (Value.int .i64) w b off dk).drewN _ = wq
      have ci' : wq.cell? ⟨b, off + i, none⟩ = some (.int .i64 xi) := by rw [← hwq]; exact ci
      have cl' : wq.cell? ⟨b, off + l, none⟩ = some (.int .i64 xl) := by rw [← hwq]; exact cl
      have fi' : wq.frozen? ⟨b, off + i, none⟩ = false := by rw [← hwq]; exact fi
      have fl' : wq.frozen? ⟨b, off + l, none⟩ = false := by rw [← hwq]; exact fl
      have l1 : (i : Int) < (m : Int) := by omega
      have l2 : (l : Int) < (m : Int) := by omega
      have hil : i < l := by omega
      have HX : Hid (dk[i]! = xi ∧ dk[l]! = xl) := ⟨hxi, hxl⟩
      have HW : Hid ((putRow (Value.int .i64) w b off dk).drewN (q + q1) = wq) := hwq
      clear hHk hHq hH hxi hxl ci cl fi fl hwq hl
      go_region
      go_wp2
      go_roundg (m + 1 - l)
      case measure => omega
      case rel =>
        exact ⟨l, f - 1, q + q1 + 1, swp dk l i, by go_num, by simp [swp, hds], by omega, by omega, Nat.le_refl _, by rw [← HW.out, ← HX.out.1, ← HX.out.2]; exact swap_worldC (Value.int .i64) w b off dk (q + q1) l i (by omega) (by omega), (show Hid _ from HE.out.trans HS.out)⟩

/-- What rise does, from i on. -/
def lift : Nat → Nat → Array Int → Array Int
  | 0, _, d => d
  | f + 1, i, d => if i = 0 ∨ d[(i - 1) / 2]! ≤ d[i]! then d else lift f ((i - 1) / 2) (swp d ((i - 1) / 2) i)

theorem lift_stop (f i : Nat) (d : Array Int) (h : i = 0 ∨ d[(i - 1) / 2]! ≤ d[i]!) : lift f i d = d := by
  cases f with
  | zero => rfl
  | succ f => simp only [lift]; rw [if_pos h]
theorem lift_go (f i : Nat) (d : Array Int) (h : ¬ (i = 0 ∨ d[(i - 1) / 2]! ≤ d[i]!)) (hf : 1 ≤ f) : lift f i d = lift (f - 1) ((i - 1) / 2) (swp d ((i - 1) / 2) i) := by
  obtain ⟨g, rfl⟩ : ∃ g, f = g + 1 := ⟨f - 1, by omega⟩
  simp only [lift, Nat.add_sub_cancel]
  rw [if_neg h]

set_option maxHeartbeats 4000000 in
set_option maxRecDepth 100000 in
theorem rise_calls (b off m cap i0 : Nat) (d : Array Int) (w : World) (hm : m ≤ d.size) (hmx : m ≤ 1000) (hi0 : i0 < m) (hH : Holds (Value.int .i64) w b off d) :
    Calls Try.prog 116 #[.slice (some ⟨b, off, none⟩) m cap, .int .i64 i0] w fun e w' => e = .returned (.tuple #[]) ∧ ∃ q, w' = (putRow (Value.int .i64) w b off (lift i0 i0 d)).drewN q := by
  go_enter Try.func116, Try.ntmps116
  go_wp2_with fail
  go_loopg [1] (i0 + 1) (fun g si wr => ∃ (i f q : Nat) (dk : Array Int), si = .int .i64 i ∧ dk.size = d.size ∧ i < m ∧ i ≤ f ∧ i + 1 ≤ g ∧ wr = (putRow (Value.int .i64) w b off dk).drewN q ∧ Hid (lift i0 i0 d = lift f i dk))
  case atStart => exact ⟨i0, i0, 0, d, rfl, rfl, by omega, by omega, by omega, by rw [putRow_self (Value.int .i64) _ b off d hH]; rfl, rfl⟩
  case round =>
    obtain ⟨i, f, q, dk, rfl, hds, him, hfm, hg, rfl, HE⟩ := hrel
    have hHk : Holds (Value.int .i64) (putRow (Value.int .i64) w b off dk) b off dk := holds_putRow _ _ b off d dk hH hds
    by_cases h0 : i = 0
    · have HS : Hid (lift f i dk = dk) := lift_stop f i dk (Or.inl h0)
      clear hHk hH
      go_wp2
      refine bodyPost_end (results_none rfl _ _ _) rfl ⟨rfl, ?_⟩
      rw [HE.out, HS.out]
      exact ⟨_, rfl⟩
    · obtain ⟨u, hu⟩ : ∃ u, (i - 1) / 2 = u := ⟨_, rfl⟩
      have hui : u < i := by omega
      obtain ⟨xi, hxi⟩ : ∃ x, dk[i]! = x := ⟨_, rfl⟩
      obtain ⟨xu, hxu⟩ : ∃ x, dk[u]! = x := ⟨_, rfl⟩
      obtain ⟨ci, fi⟩ := hHk i (by omega)
      obtain ⟨cu, fu⟩ := hHk u (by omega)
      rw [hxi] at ci
      rw [hxu] at cu
      have l1 : (i : Int) < (m : Int) := by omega
      have l2 : (u : Int) < (m : Int) := by omega
      have HL : Hid (((i : Int) - 1) / 2 = (u : Int)) := by show _ = _; omega
      have HS : Hid (if xu ≤ xi then lift f i dk = dk else lift f i dk = lift (f - 1) u (swp dk u i)) := by
        show ite _ _ _
        split
        · exact lift_stop f i dk (Or.inr (by rw [hu, hxi, hxu]; assumption))
        · rw [lift_go f i dk (by rw [hu, hxi, hxu]; omega) (by omega), hu]
      have HX : Hid (dk[i]! = xi ∧ dk[u]! = xu) := ⟨hxi, hxu⟩
      clear hHk hH hxi hxu hu
      go_wp2_with fail
      rw [HL.out]
      go_quiet (fail)
      go_wp2_with fail
      · refine bodyPost_ret (results_none rfl _ _ _) rfl ⟨rfl, ?_⟩
        have hle : xu ≤ xi := by assumption
        have h2 := HS.out
        rw [if_pos hle] at h2
        rw [HE.out, h2]
        exact ⟨q + nq, World.drewN_drewN _ _ _⟩
      · have hle : ¬ xu ≤ xi := by omega
        have h2 : Hid (lift f i dk = lift (f - 1) u (swp dk u i)) := by have h2 := HS.out; rw [if_neg hle] at h2; exact h2
        clear HS
        rw [show ((putRow (Value.int .i64) w b off dk).drewN q).drewN nq = (putRow (Value.int .i64) w b off dk).drewN (q + nq) from World.drewN_drewN _ _ _]
        obtain ⟨q1, hq1⟩ : ∃ q1, (q + nq) = q1 := ⟨_, rfl⟩
        rw [hq1]
        clear hq1
        generalize hwq : (putRow (Value.int .i64) w b off dk).drewN q1 = wq
        have ci' : wq.cell? ⟨b, off + i, none⟩ = some (.int .i64 xi) := by rw [← hwq]; exact ci
        have cu' : wq.cell? ⟨b, off + u, none⟩ = some (.int .i64 xu) := by rw [← hwq]; exact cu
        have fi' : wq.frozen? ⟨b, off + i, none⟩ = false := by rw [← hwq]; exact fi
        have fu' : wq.frozen? ⟨b, off + u, none⟩ = false := by rw [← hwq]; exact fu
        have HW : Hid ((putRow (Value.int .i64) w b off dk).drewN q1 = wq) := hwq
        clear ci cu fi fu hwq
        go_region
        go_wp2
        go_roundg (u + 1)
        case measure => omega
        case rel =>
          exact ⟨u, f - 1, q1 + 1, swp dk u i, by go_num, by simp [swp, hds], by omega, by omega, Nat.le_refl _, by rw [← HW.out, ← HX.out.1, ← HX.out.2]; exact swap_worldC (Value.int .i64) w b off dk q1 u i (by omega) (by omega), (show Hid _ from HE.out.trans h2.out)⟩
end Go.Proofs.Ytpddgdjocffgdaa
