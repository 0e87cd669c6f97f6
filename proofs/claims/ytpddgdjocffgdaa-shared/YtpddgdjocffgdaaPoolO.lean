/- A Pool: Create, by contracts. -/
import Derived.Test.YtpddgdjocffgdaaPoolH
namespace Go.Proofs.Ytpddgdjocffgdaa
open Go.RowKit Go.Sort
set_option linter.unusedVariables false
set_option linter.unusedSimpArgs false
set_option linter.unusedSectionVars false
variable [DecidableEq Blk] [Inhabited Blk]
variable [Inhabited Vol]

set_option maxHeartbeats 400000 in
theorem create_name (s : St) (t : ByteArray) (k : Int) (w : World) (h : PoolAt w s) (ht : t.size ≤ maxLen) (hn : nameB t = false) :
    Calls Try.prog 19 #[.pointer (some ⟨s.pb, 0, none⟩), .string t, .int .i64 k] w fun e w' => e = .returned (.int .i64 2) ∧ w' = w := by
  have hF := findNew_name s t w h ht hn
  have hnot := runNot
  clear h ht
  generalize posOf s.names t = po at *
  go_enter Try.func19, Try.ntmps19
  go_wp2_with (first | (go_at_call 50; refine hF.mono ?_; rintro e w' ⟨rfl, rfl⟩))
  go_ret
  exact ⟨rfl, rfl⟩

set_option maxHeartbeats 400000 in
theorem create_exists (s : St) (t : ByteArray) (k : Int) (w : World) (h : PoolAt w s) (ht : t.size ≤ maxLen) (hn : nameB t = true) (hx : s.has t = true) :
    Calls Try.prog 19 #[.pointer (some ⟨s.pb, 0, none⟩), .string t, .int .i64 k] w fun e w' => e = .returned (.int .i64 3) ∧ w' = w := by
  have hF := findNew_exists s t w h ht hn hx
  have hnot := runNot
  clear h ht
  generalize posOf s.names t = po at *
  go_enter Try.func19, Try.ntmps19
  go_wp2_with (first | (go_at_call 50; refine hF.mono ?_; rintro e w' ⟨rfl, rfl⟩))
  go_ret
  exact ⟨rfl, rfl⟩

set_option maxHeartbeats 400000 in
theorem create_arg (s : St) (t : ByteArray) (k : Int) (w : World) (h : PoolAt w s) (ht : t.size ≤ maxLen) (hn : nameB t = true) (hx : s.has t = false) (hk : ¬ (1 ≤ k ∧ k ≤ 200)) :
    Calls Try.prog 19 #[.pointer (some ⟨s.pb, 0, none⟩), .string t, .int .i64 k] w fun e w' => e = .returned (.int .i64 1) ∧ w' = w := by
  have hF := findNew_ok s t w h ht hn hx
  have hC := isCount_calls k w
  rw [decide_eq_false hk] at hC
  clear hk
  have hnot := runNot
  clear h ht
  generalize posOf s.names t = po at *
  go_enter Try.func19, Try.ntmps19
  go_wp2_with (first | (go_at_call 50; refine hF.mono ?_; rintro e w' ⟨rfl, rfl⟩) | (go_at_call 51; refine hC.mono ?_; rintro e w' ⟨rfl, rfl⟩))
  go_ret
  exact ⟨rfl, rfl⟩

set_option maxHeartbeats 1000000 in
/-- Create up to its call of add. -/
theorem create_add (s : St) (t : ByteArray) (k : Nat) (w : World) (Q : Ending → World → Prop) (h : PoolAt w s) (ht : t.size ≤ maxLen) (hn : nameB t = true) (hx : s.has t = false) (hk : 1 ≤ k ∧ k ≤ 200)
    (hA : ∀ W vb, Same [] w W → w.heap.size ≤ vb → At W vb 100 [.string t, .slice none 0 0, .pointer none, .slice none 0 0, .bool false] →
      Calls Try.prog 52 #[.pointer (some ⟨s.pb, 0, none⟩), .int .i64 (posOf s.names t : Nat), .pointer (some ⟨vb, 0, none⟩), .int .i64 k] W fun e w' => ∃ x, e = .returned (.int .i64 x) ∧ Q (.returned (.int .i64 x)) w') :
    Calls Try.prog 19 #[.pointer (some ⟨s.pb, 0, none⟩), .string t, .int .i64 k] w Q := by
  have hF := findNew_ok s t w h ht hn hx
  have hC := isCount_calls k w
  rw [decide_eq_true (by omega : (1 : Int) ≤ k ∧ (k : Int) ≤ 200)] at hC
  have hts : t.size ≤ 10 := by simp [nameB] at hn; exact hn.1.2
  have hnot := runNot
  clear h ht
  generalize posOf s.names t = po at *
  go_enter Try.func19, Try.ntmps19
  go_wp2_with (first | (go_at_call 50; refine hF.mono ?_; rintro e w' ⟨rfl, rfl⟩) | (go_at_call 51; refine hC.mono ?_; rintro e w' ⟨rfl, rfl⟩))
  refine (clone_calls t _ (by omega)).mono ?_
  rintro e w2 ⟨rfl, S2⟩
  go_wp2_with fail
  have A0 := At.new w2 #[Value.string t, Value.slice none 0 0, Value.pointer none, Value.slice none 0 0, Value.bool false] 100
  have hz := S2.size
  refine (hA _ _ (S2.alloc _) hz A0).mono ?_
  rintro e w3 ⟨x, rfl, hQ⟩
  clear hA A0
  go_wp2
  exact hQ

theorem create_many (s : St) (t : ByteArray) (k : Nat) (w : World) (h : PoolAt w s) (ht : t.size ≤ maxLen) (hn : nameB t = true) (hx : s.has t = false) (hk : 1 ≤ k ∧ k ≤ 200) (hv : 20 ≤ s.vols.length) :
    Calls Try.prog 19 #[.pointer (some ⟨s.pb, 0, none⟩), .string t, .int .i64 k] w fun e w' => e = .returned (.int .i64 5) ∧ Same [] w w' :=
  create_add s t k w _ h ht hn hx hk fun W vb hW _ _ => (add_many s _ _ vb W (h.new hW) hv).mono fun e w' ⟨h1, h2⟩ => ⟨5, h1, rfl, by rw [h2]; exact hW⟩

theorem After.old {w0 w w' : World} {s s' : St} {fr : List Nat} (h : After w s w' s' fr) (h0 : Same [] w0 w) : After w0 s w' s' fr :=
  ⟨h.pool, h.good, (h0.mono (T := s.foot) (by simp)).step h.same (fun k hk _ => hk), fun k hk => (h.foot k hk).imp id fun e => Nat.le_trans h0.size e, h.pb, h.n⟩

theorem create_full (s : St) (fr : List Nat) (t : ByteArray) (k : Nat) (w : World) (h : PoolAt w s) (hG : Good s fr) (ht : t.size ≤ maxLen) (hn : nameB t = true) (hx : s.has t = false) (hk : 1 ≤ k ∧ k ≤ 200) (hv : s.vols.length < 20) (hf : fr.length < k) :
    Calls Try.prog 19 #[.pointer (some ⟨s.pb, 0, none⟩), .string t, .int .i64 k] w fun e w' => e = .returned (.int .i64 6) ∧ ∃ d', After w s w' { s with d := d' } fr :=
  create_add s t k w _ h ht hn hx hk fun W vb hW _ _ => (add_full s fr _ k vb W (h.new hW) hG hk hv hf).mono fun e w' ⟨h1, d', h2⟩ => ⟨6, h1, rfl, d', h2.old hW⟩

theorem create_ok (s : St) (fr : List Nat) (t : ByteArray) (k : Nat) (w : World) (h : PoolAt w s) (hG : Good s fr) (ht : t.size ≤ maxLen) (hn : nameB t = true) (hx : s.has t = false) (hk : 1 ≤ k ∧ k ≤ 200) (hv : s.vols.length < 20) (hf : k ≤ fr.length) :
    Calls Try.prog 19 #[.pointer (some ⟨s.pb, 0, none⟩), .string t, .int .i64 k] w fun e w' => e = .returned (.int .i64 0) ∧
      ∃ g vb gb, After w s w' { s with m := s.m - k, d := popsD s.m k s.d, ab := some g, vols := insVol (posOf s.names t) ⟨vb, gb, t, fr.take k, none, none, [], false⟩ s.vols } (fr.drop k) ∧ w.heap.size ≤ vb :=
  create_add s t k w _ h ht hn hx hk fun W vb hW hvb hA =>
    (add_ok s fr t k vb none W (h.new hW) hG hA (fun hm => by have := h.foot_lt _ hm; omega) hn hx hk hv hf (by simp)).mono fun e w' ⟨h1, g, gb, h2⟩ => ⟨0, h1, rfl, g, vb, gb, h2.after hW hvb, hvb⟩
end Go.Proofs.Ytpddgdjocffgdaa
