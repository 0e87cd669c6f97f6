/- A Pool: Picture, by contracts. -/
import Derived.Test.YtpddgdjocffgdaaPoolO
namespace Go.Proofs.Ytpddgdjocffgdaa
open Go.RowKit Go.Sort
set_option linter.unusedVariables false
set_option linter.unusedSimpArgs false
set_option linter.unusedSectionVars false
variable [DecidableEq Blk] [Inhabited Blk]
variable [Inhabited Vol]

set_option maxHeartbeats 400000 in
theorem picture_name (s : St) (t u : ByteArray) (k : Int) (w : World) (h : PoolAt w s) (ht : t.size ≤ maxLen) (hn : nameB t = false) :
    Calls Try.prog 25 #[.pointer (some ⟨s.pb, 0, none⟩), .string t, .string u, .int .i64 k] w fun e w' => e = .returned (.int .i64 2) ∧ w' = w := by
  have hF := findNew_name s t w h ht hn
  have hnot := runNot
  clear h ht
  generalize posOf s.names t = po at *
  go_enter Try.func25, Try.ntmps25
  go_wp2_with (first | (go_at_call 50; refine hF.mono ?_; rintro e w' ⟨rfl, rfl⟩))
  go_ret
  exact ⟨rfl, rfl⟩

set_option maxHeartbeats 400000 in
theorem picture_exists (s : St) (t u : ByteArray) (k : Int) (w : World) (h : PoolAt w s) (ht : t.size ≤ maxLen) (hn : nameB t = true) (hx : s.has t = true) :
    Calls Try.prog 25 #[.pointer (some ⟨s.pb, 0, none⟩), .string t, .string u, .int .i64 k] w fun e w' => e = .returned (.int .i64 3) ∧ w' = w := by
  have hF := findNew_exists s t w h ht hn hx
  have hnot := runNot
  clear h ht
  generalize posOf s.names t = po at *
  go_enter Try.func25, Try.ntmps25
  go_wp2_with (first | (go_at_call 50; refine hF.mono ?_; rintro e w' ⟨rfl, rfl⟩))
  go_ret
  exact ⟨rfl, rfl⟩

set_option maxHeartbeats 400000 in
theorem picture_none (s : St) (t u : ByteArray) (k : Int) (w : World) (h : PoolAt w s) (ht : t.size ≤ maxLen) (hn : nameB t = true) (hx : s.has t = false) (hu : s.has u = false) :
    Calls Try.prog 25 #[.pointer (some ⟨s.pb, 0, none⟩), .string t, .string u, .int .i64 k] w fun e w' => e = .returned (.int .i64 4) ∧ w' = w := by
  have hF := findNew_ok s t w h ht hn hx
  have hD := find_not s u w h hu
  have hnot := runNot
  clear h ht
  generalize posOf s.names t = po at *
  go_enter Try.func25, Try.ntmps25
  go_wp2_with (first | (go_at_call 50; refine hF.mono ?_; rintro e w' ⟨rfl, rfl⟩) | (go_at_call 48; refine hD.mono ?_; rintro e w' ⟨rfl, rfl⟩))
  go_ret
  exact ⟨rfl, rfl⟩

set_option maxHeartbeats 400000 in
theorem picture_picture (s : St) (t u : ByteArray) (k : Int) (w : World) (h : PoolAt w s) (ht : t.size ≤ maxLen) (hn : nameB t = true) (hx : s.has t = false) (hu : s.has u = true) (ho : (s.vol u).org ≠ none) :
    Calls Try.prog 25 #[.pointer (some ⟨s.pb, 0, none⟩), .string t, .string u, .int .i64 k] w fun e w' => e = .returned (.int .i64 7) ∧ w' = w := by
  have hF := findNew_ok s t w h ht hn hx
  have hD := find_has s u w h hu
  have hm := (St.has_mem hu).1
  have hI := isPicture_calls (s.vol u) w (h.vols _ hm)
  have ho' : (s.vol u).org.isSome = true := by cases hq : (s.vol u).org <;> simp_all
  rw [ho'] at hI
  generalize (s.vol u).vb = ub at *
  have hnot := runNot
  clear h ht
  generalize posOf s.names t = po at *
  go_enter Try.func25, Try.ntmps25
  go_wp2_with (first | (go_at_call 50; refine hF.mono ?_; rintro e w' ⟨rfl, rfl⟩) | (go_at_call 48; refine hD.mono ?_; rintro e w' ⟨rfl, rfl⟩) | (go_at_call 56; refine hI.mono ?_; rintro e w' ⟨rfl, rfl⟩))
  go_ret
  exact ⟨rfl, rfl⟩

set_option maxHeartbeats 400000 in
theorem picture_low (s : St) (t u : ByteArray) (k : Int) (w : World) (h : PoolAt w s) (ht : t.size ≤ maxLen) (hn : nameB t = true) (hx : s.has t = false) (hu : s.has u = true) (ho : (s.vol u).org = none) (hk : k < 1) :
    Calls Try.prog 25 #[.pointer (some ⟨s.pb, 0, none⟩), .string t, .string u, .int .i64 k] w fun e w' => e = .returned (.int .i64 1) ∧ w' = w := by
  have hF := findNew_ok s t w h ht hn hx
  have hD := find_has s u w h hu
  have hm := (St.has_mem hu).1
  have hI := isPicture_calls (s.vol u) w (h.vols _ hm)
  rw [ho] at hI
  generalize (s.vol u).vb = ub at *
  have hnot := runNot
  clear h ht
  generalize posOf s.names t = po at *
  go_enter Try.func25, Try.ntmps25
  go_wp2_with (first | (go_at_call 50; refine hF.mono ?_; rintro e w' ⟨rfl, rfl⟩) | (go_at_call 48; refine hD.mono ?_; rintro e w' ⟨rfl, rfl⟩) | (go_at_call 56; refine hI.mono ?_; rintro e w' ⟨rfl, rfl⟩))
  go_ret
  exact ⟨rfl, rfl⟩

set_option maxHeartbeats 400000 in
theorem picture_high (s : St) (t u : ByteArray) (k : Int) (w : World) (h : PoolAt w s) (ht : t.size ≤ maxLen) (hn : nameB t = true) (hx : s.has t = false) (hu : s.has u = true) (ho : (s.vol u).org = none) (hk0 : 1 ≤ k) (hk : (s.vol u).xs.length < k) :
    Calls Try.prog 25 #[.pointer (some ⟨s.pb, 0, none⟩), .string t, .string u, .int .i64 k] w fun e w' => e = .returned (.int .i64 1) ∧ w' = w := by
  have hF := findNew_ok s t w h ht hn hx
  have hD := find_has s u w h hu
  have hm := (St.has_mem hu).1
  have hI := isPicture_calls (s.vol u) w (h.vols _ hm)
  rw [ho] at hI
  have hZ := size_vol (s.vol u) w (h.vols _ hm) ho
  have hsm := (h.vols _ hm).small
  generalize (s.vol u).vb = ub at *
  generalize (s.vol u).xs.length = ul at *
  have hnot := runNot
  clear h ht
  generalize posOf s.names t = po at *
  go_enter Try.func25, Try.ntmps25
  go_wp2_with (first | (go_at_call 50; refine hF.mono ?_; rintro e w' ⟨rfl, rfl⟩) | (go_at_call 48; refine hD.mono ?_; rintro e w' ⟨rfl, rfl⟩) | (go_at_call 56; refine hI.mono ?_; rintro e w' ⟨rfl, rfl⟩) | (go_at_call 57; refine hZ.mono ?_; rintro e w' ⟨rfl, rfl⟩))
  go_ret
  exact ⟨rfl, rfl⟩

set_option maxHeartbeats 1000000 in
/-- Picture up to its call of add. -/
theorem picture_add (s : St) (t u : ByteArray) (k : Nat) (w : World) (Q : Ending → World → Prop) (h : PoolAt w s) (ht : t.size ≤ maxLen) (hn : nameB t = true) (hx : s.has t = false) (hu : s.has u = true) (ho : (s.vol u).org = none) (hk : 1 ≤ k ∧ k ≤ (s.vol u).xs.length)
    (hA : ∀ W vb, Same [] w W → w.heap.size ≤ vb → At W vb 100 [.string t, .slice none 0 0, .pointer (some ⟨(s.vol u).vb, 0, none⟩), .slice none 0 0, .bool false] →
      Calls Try.prog 52 #[.pointer (some ⟨s.pb, 0, none⟩), .int .i64 (posOf s.names t : Nat), .pointer (some ⟨vb, 0, none⟩), .int .i64 k] W fun e w' => ∃ x, e = .returned (.int .i64 x) ∧ Q (.returned (.int .i64 x)) w') :
    Calls Try.prog 25 #[.pointer (some ⟨s.pb, 0, none⟩), .string t, .string u, .int .i64 k] w Q := by
  have hF := findNew_ok s t w h ht hn hx
  have hD := find_has s u w h hu
  have hm := (St.has_mem hu).1
  have hI := isPicture_calls (s.vol u) w (h.vols _ hm)
  rw [ho] at hI
  have hZ := size_vol (s.vol u) w (h.vols _ hm) ho
  have hsm := (h.vols _ hm).small
  have hts : t.size ≤ 10 := by simp [nameB] at hn; exact hn.1.2
  have hnot := runNot
  clear h ht hm
  generalize posOf s.names t = po at *
  generalize (s.vol u).vb = ub at *
  generalize (s.vol u).xs.length = ul at *
  have l1 : (1 : Int) ≤ (k : Int) := by omega
  have l2 : (k : Int) ≤ (ul : Int) := by omega
  go_enter Try.func25, Try.ntmps25
  go_wp2_with (first | (go_at_call 50; refine hF.mono ?_; rintro e w' ⟨rfl, rfl⟩) | (go_at_call 48; refine hD.mono ?_; rintro e w' ⟨rfl, rfl⟩) | (go_at_call 56; refine hI.mono ?_; rintro e w' ⟨rfl, rfl⟩) | (go_at_call 57; refine hZ.mono ?_; rintro e w' ⟨rfl, rfl⟩))
  refine (clone_calls t _ (by omega)).mono ?_
  rintro e w2 ⟨rfl, S2⟩
  go_wp2_with fail
  have A0 := At.new w2 #[Value.string t, Value.slice none 0 0, Value.pointer (some ⟨ub, 0, none⟩), Value.slice none 0 0, Value.bool false] 100
  have hz := S2.size
  refine (hA _ _ (S2.alloc _) hz A0).mono ?_
  rintro e w3 ⟨x, rfl, hQ⟩
  clear hA A0
  go_wp2
  exact hQ

theorem picture_many (s : St) (t u : ByteArray) (k : Nat) (w : World) (h : PoolAt w s) (ht : t.size ≤ maxLen) (hn : nameB t = true) (hx : s.has t = false) (hu : s.has u = true) (ho : (s.vol u).org = none) (hk : 1 ≤ k ∧ k ≤ (s.vol u).xs.length) (hv : 20 ≤ s.vols.length) :
    Calls Try.prog 25 #[.pointer (some ⟨s.pb, 0, none⟩), .string t, .string u, .int .i64 k] w fun e w' => e = .returned (.int .i64 5) ∧ Same [] w w' :=
  picture_add s t u k w _ h ht hn hx hu ho hk fun W vb hW _ _ => (add_many s _ _ vb W (h.new hW) hv).mono fun e w' ⟨h1, h2⟩ => ⟨5, h1, rfl, by rw [h2]; exact hW⟩

theorem picture_full (s : St) (fr : List Nat) (t u : ByteArray) (k : Nat) (w : World) (h : PoolAt w s) (hG : Good s fr) (ht : t.size ≤ maxLen) (hn : nameB t = true) (hx : s.has t = false) (hu : s.has u = true) (ho : (s.vol u).org = none) (hk : 1 ≤ k ∧ k ≤ (s.vol u).xs.length) (hv : s.vols.length < 20) (hf : fr.length < k) :
    Calls Try.prog 25 #[.pointer (some ⟨s.pb, 0, none⟩), .string t, .string u, .int .i64 k] w fun e w' => e = .returned (.int .i64 6) ∧ ∃ d', After w s w' { s with d := d' } fr :=
  picture_add s t u k w _ h ht hn hx hu ho hk fun W vb hW _ _ => (add_full s fr _ k vb W (h.new hW) hG ⟨hk.1, by have := (h.vols _ (St.has_mem hu).1).small; omega⟩ hv hf).mono fun e w' ⟨h1, d', h2⟩ => ⟨6, h1, rfl, d', h2.old hW⟩

theorem picture_ok (s : St) (fr : List Nat) (t u : ByteArray) (k : Nat) (w : World) (h : PoolAt w s) (hG : Good s fr) (ht : t.size ≤ maxLen) (hn : nameB t = true) (hx : s.has t = false) (hu : s.has u = true) (ho : (s.vol u).org = none) (hk : 1 ≤ k ∧ k ≤ (s.vol u).xs.length) (hv : s.vols.length < 20) (hf : k ≤ fr.length) :
    Calls Try.prog 25 #[.pointer (some ⟨s.pb, 0, none⟩), .string t, .string u, .int .i64 k] w fun e w' => e = .returned (.int .i64 0) ∧
      ∃ g vb gb, After w s w' { s with m := s.m - k, d := popsD s.m k s.d, ab := some g, vols := insVol (posOf s.names t) ⟨vb, gb, t, fr.take k, some (s.vol u).vb, none, [], false⟩ s.vols } (fr.drop k) ∧ w.heap.size ≤ vb :=
  picture_add s t u k w _ h ht hn hx hu ho hk fun W vb hW hvb hA =>
    (add_ok s fr t k vb (some (s.vol u).vb) W (h.new hW) hG hA (fun hm => by have := h.foot_lt _ hm; omega) hn hx ⟨hk.1, by have := (h.vols _ (St.has_mem hu).1).small; omega⟩ hv hf (fun o ho2 => ⟨s.vol u, (St.has_mem hu).1, by simpa using ho2, ho, hk.2⟩)).mono fun e w' ⟨h1, g, gb, h2⟩ => ⟨0, h1, rfl, g, vb, gb, h2.after hW hvb, hvb⟩
end Go.Proofs.Ytpddgdjocffgdaa
