/- A Pool: Remove, and what Revert refuses, by contracts. -/
import Derived.Test.YtpddgdjocffgdaaPoolI
import Derived.Test.YtpddgdjocffgdaaPoolQ
import Derived.Test.YtpddgdjocffgdaaPoolP
namespace Go.Proofs.Ytpddgdjocffgdaa
open Go.RowKit Go.Sort
set_option linter.unusedVariables false
set_option linter.unusedSimpArgs false
set_option linter.unusedSectionVars false
variable [DecidableEq Blk] [Inhabited Blk]
variable [Inhabited Vol]

set_option maxHeartbeats 400000 in
theorem remove_none (s : St) (t : ByteArray) (w : World) (h : PoolAt w s) (hi : s.has t = false) :
    Calls Try.prog 20 #[.pointer (some ⟨s.pb, 0, none⟩), .string t] w fun e w' => e = .returned (.int .i64 4) ∧ w' = w := by
  have hf := find_not s t w h hi
  clear h
  go_enter Try.func20, Try.ntmps20
  go_wp2_with (go_at_call 48; refine hf.mono ?_; rintro e w' ⟨rfl, rfl⟩)
  go_ret
  exact ⟨rfl, rfl⟩

set_option maxHeartbeats 400000 in
theorem remove_busy (s : St) (t : ByteArray) (w : World) (h : PoolAt w s) (hi : s.has t = true) (hb : s.picsOf (s.vol t).vb ≠ []) :
    Calls Try.prog 20 #[.pointer (some ⟨s.pb, 0, none⟩), .string t] w fun e w' => e = .returned (.int .i64 8) ∧ Same [] w w' := by
  have hf := find_has s t w h hi
  have hP := picturesOf_calls s (s.vol t) w h (St.has_mem hi).1
  have hl : 0 < (s.picsOf (s.vol t).vb).length := by cases hq : s.picsOf (s.vol t).vb <;> simp_all
  have hl2 : (s.picsOf (s.vol t).vb).length ≤ 20 := Nat.le_trans (List.length_filter_le _ _) h.few
  clear h
  go_enter Try.func20, Try.ntmps20
  go_wp2_with (first | (go_at_call 48; refine hf.mono ?_; rintro e w' ⟨rfl, rfl⟩) | (go_at_call 54; refine hP.mono ?_; rintro e w1 ⟨sl, rfl, hown, S1⟩; obtain ⟨ag, acap, rfl⟩ := owns_form hown))
  go_ret
  exact ⟨rfl, S1⟩

set_option maxHeartbeats 400000 in
theorem remove_ok (s : St) (fr : List Nat) (t : ByteArray) (w : World) (h : PoolAt w s) (hG : Good s fr) (hi : s.has t = true) (hb : s.picsOf (s.vol t).vb = []) :
    Calls Try.prog 20 #[.pointer (some ⟨s.pb, 0, none⟩), .string t] w fun e w' => e = .returned (.int .i64 0) ∧
      ∃ g, After w s w' { s with m := s.m + (s.vol t).xs.length, bl := giveB (s.vol t).xs s.bl, d := giveD s.m (s.vol t).xs s.d, ab := some g, vols := delVol (posOf s.names t) s.vols } (insAll (s.vol t).xs fr) := by
  have hf := find_has s t w h hi
  have hP := picturesOf_calls s (s.vol t) w h (St.has_mem hi).1
  rw [hb] at hP
  have hno : ∀ u ∈ s.vols, u.org ≠ some (s.vol t).vb := fun u hu e => by
    have : u ∈ s.picsOf (s.vol t).vb := by simp [St.picsOf, hu, e]
    rw [hb] at this; simp at this
  have hD := fun W (hW : Same [] w W) => drop_ok s fr t W (h.new hW) hG hi hno
  clear h hG
  go_enter Try.func20, Try.ntmps20
  go_wp2_with (first | (go_at_call 48; refine hf.mono ?_; rintro e w' ⟨rfl, rfl⟩) | (go_at_call 54; refine hP.mono ?_; rintro e w1 ⟨sl, rfl, hown, S1⟩; obtain ⟨ag, acap, rfl⟩ := owns_form hown) | (go_at_call 55; refine (hD _ S1).mono ?_; rintro e w3 ⟨rfl, g, hA⟩))
  have hFin := hA.old S1
  clear hA hD hown
  go_ret
  exact ⟨rfl, g, hFin⟩

set_option maxHeartbeats 400000 in
theorem revert_none (s : St) (t : ByteArray) (w : World) (h : PoolAt w s) (hi : s.has t = false) :
    Calls Try.prog 32 #[.pointer (some ⟨s.pb, 0, none⟩), .string t] w fun e w' => e = .returned (.int .i64 4) ∧ w' = w := by
  have hf := find_not s t w h hi
  clear h
  go_enter Try.func32, Try.ntmps32
  go_wp2_with (go_at_call 48; refine hf.mono ?_; rintro e w' ⟨rfl, rfl⟩)
  go_ret
  exact ⟨rfl, rfl⟩
set_option maxHeartbeats 400000 in
theorem revert_vol (s : St) (t : ByteArray) (w : World) (h : PoolAt w s) (hi : s.has t = true) (ho : (s.vol t).org = none) :
    Calls Try.prog 32 #[.pointer (some ⟨s.pb, 0, none⟩), .string t] w fun e w' => e = .returned (.int .i64 7) ∧ w' = w := by
  have hf := find_has s t w h hi
  have hI := isPicture_calls (s.vol t) w (h.vols _ (St.has_mem hi).1)
  rw [ho] at hI
  have hnot := runNot
  clear h
  go_enter Try.func32, Try.ntmps32
  go_wp2_with (first | (go_at_call 48; refine hf.mono ?_; rintro e w' ⟨rfl, rfl⟩) | (go_at_call 56; refine hI.mono ?_; rintro e w' ⟨rfl, rfl⟩))
  go_ret
  exact ⟨rfl, rfl⟩
set_option maxHeartbeats 400000 in
theorem revert_lost (s : St) (t : ByteArray) (w : World) (h : PoolAt w s) (hi : s.has t = true) (ho : (s.vol t).org ≠ none) (hl : (s.vol t).lost = true) :
    Calls Try.prog 32 #[.pointer (some ⟨s.pb, 0, none⟩), .string t] w fun e w' => e = .returned (.int .i64 9) ∧ w' = w := by
  have hf := find_has s t w h hi
  have hI := isPicture_calls (s.vol t) w (h.vols _ (St.has_mem hi).1)
  have ho' : (s.vol t).org.isSome = true := by cases hq : (s.vol t).org <;> simp_all
  rw [ho'] at hI
  have c4 := lost_cell h (St.has_mem hi).1
  rw [hl] at c4
  have hnot := runNot
  clear h
  go_enter Try.func32, Try.ntmps32
  go_wp2_with (first | (go_at_call 48; refine hf.mono ?_; rintro e w' ⟨rfl, rfl⟩) | (go_at_call 56; refine hI.mono ?_; rintro e w' ⟨rfl, rfl⟩))
  go_ret
  exact ⟨rfl, rfl⟩
set_option maxHeartbeats 400000 in
theorem revert_busy (s : St) (t : ByteArray) (w : World) (h : PoolAt w s) (hi : s.has t = true) (ho : (s.vol t).org ≠ none) (hl : (s.vol t).lost = false) (hb : 1 < (s.picsOf (s.orgOf (s.vol t)).vb).length) :
    Calls Try.prog 32 #[.pointer (some ⟨s.pb, 0, none⟩), .string t] w fun e w' => e = .returned (.int .i64 8) ∧ Same [] w w' := by
  have hf := find_has s t w h hi
  have hmem := (St.has_mem hi).1
  have hI := isPicture_calls (s.vol t) w (h.vols _ hmem)
  have ho' : (s.vol t).org.isSome = true := by cases hq : (s.vol t).org <;> simp_all
  rw [ho'] at hI
  have c4 := lost_cell h hmem
  rw [hl] at c4
  obtain ⟨o1, o2, o3, o4⟩ := h.orgOf hmem
  obtain ⟨_, _, _, hvo, _, _⟩ := (h.vols _ hmem).vol
  have c2 : w.cell? ⟨(s.vol t).vb, 2, none⟩ = some (.pointer (adr (s.vol t).org)) := hvo.cell? 2
  rw [o4 ho] at c2
  simp only [adr, Option.map_some] at c2
  have hP := picturesOf_calls s (s.orgOf (s.vol t)) w h o1
  have hl2 : (s.picsOf (s.orgOf (s.vol t)).vb).length ≤ 20 := Nat.le_trans (List.length_filter_le _ _) h.few
  have hnot := runNot
  clear h hvo
  generalize (s.orgOf (s.vol t)).vb = ub at *
  go_enter Try.func32, Try.ntmps32
  go_wp2_with (first | (go_at_call 48; refine hf.mono ?_; rintro e w' ⟨rfl, rfl⟩) | (go_at_call 56; refine hI.mono ?_; rintro e w' ⟨rfl, rfl⟩) | (go_at_call 54; refine hP.mono ?_; rintro e w1 ⟨sl, rfl, hown, S1⟩; obtain ⟨ag, acap, rfl⟩ := owns_form hown))
  go_ret
  exact ⟨rfl, S1⟩
end Go.Proofs.Ytpddgdjocffgdaa
