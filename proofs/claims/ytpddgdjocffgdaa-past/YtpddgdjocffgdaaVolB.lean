/- Volumes: numbers, cut, extend, told, by contracts. -/
import Derived.Test.YtpddgdjocffgdaaVolA
import Derived.Lib.SliceRun
namespace Go.Proofs.Ytpddgdjocffgdaa
open Go.RowKit Go.Sort
set_option linter.unusedVariables false
set_option linter.unusedSimpArgs false
set_option linter.unusedSectionVars false
variable [DecidableEq Blk] [Inhabited Blk]
variable [Inhabited Vol]

theorem ints_one (xs : List Nat) : ∀ u ∈ xs.map (fun x : Nat => Value.int .i64 x), u.oneCell' = true := by
  intro u hu
  obtain ⟨x, _, rfl⟩ := List.mem_map.1 hu
  rfl

/-- A row that a law of append leaves, as a block. -/
theorem owns_row_at {w : World} {base : Nat} {a : Option Addr} {cap n : Nat} {xs : List Nat} (h : w.ownsRow base 3 1 (.slice a n cap) n (xs.map (fun x : Nat => Value.int .i64 x))) (hn : n = xs.length) (hp : xs ≠ []) :
    ∃ g cs, a = some ⟨g, 0, none⟩ ∧ base ≤ g ∧ RowAt w g xs cs ∧ xs.length ≤ cap := by
  subst hn
  obtain ⟨g, cs, h1, h2, h3, h4, h5, h6⟩ := owns_at h (by cases xs <;> simp at *)
  exact ⟨g, cs, h1, h2, ⟨h3, h6, by omega⟩, h4⟩

set_option maxHeartbeats 1000000 in
set_option maxRecDepth 100000 in
theorem sliceClone_calls (gb cap : Nat) (xs : List Nat) (cs : List Value) (w : World) (hr : RowAt w gb xs cs) (hp : xs ≠ []) (hs : xs.length ≤ 200) :
    Calls Try.prog 90 #[.slice (some ⟨gb, 0, none⟩) xs.length cap] w fun e w' => ∃ g cap' cs', e = .returned (.slice (some ⟨g, 0, none⟩) xs.length cap') ∧ w.heap.size ≤ g ∧ RowAt w' g xs cs' ∧ xs.length ≤ cap' ∧ Same [] w w' := by
  obtain ⟨i0, hi, hz0, hz1, hz2⟩ := info_parts Try.info3
  have hpos : 0 < xs.length := by cases xs <;> simp at *
  have lg := hr.at_.lt
  go_enter Try.func90, Try.ntmps90
  have hnil : (binOp .eql 39 (.slice (some ⟨gb, 0, none⟩) xs.length cap) (.slice none 0 0)).run Try.prog w = .ok (.bool false) w := Lib.run_eql_slice_nil w _ _ _ _ _ _ _ Try.underlying39
  go_wp2_with (at_builtin; refine wpList_append_grows _ rfl _ _ 39 rfl 3 i0 (.int .i64 0) 1 8 Try.underlying39 hi hz0 hz1 hz2 rfl (by decide) (some ⟨w.heap.size, 0, none⟩) 0 0 [] rfl (by intro h; cases h) rfl (by intro b _ j u hu; simp at hu) ⟨gb, 0, none⟩ xs.length cap (xs.map (fun x : Nat => Value.int .i64 x)) rfl (by simp) ?c1 (ints_one xs) (by omega) (by unfold maxLen; omega) (by omega) ?_)
  case c1 =>
    intro j u hj
    have hl : j < xs.length := by
      rcases Nat.lt_or_ge j xs.length with h | h
      · exact h
      · rw [List.getElem?_eq_none (by simpa using h)] at hj; cases hj
    rw [Addr.add_lit, Nat.zero_add, (hr.at_.alloc _).cell?, hr.cell j hl]
    rw [← hj]; simp [List.getElem?_map, List.getElem?_eq_getElem hl, getElem!_pos xs j hl]
  intro v' w1 hown hgrow
  try rw [Nat.zero_add, List.nil_append] at hown
  obtain ⟨a', cap', rfl⟩ := owns_form hown
  obtain ⟨g, cs', rfl, hg, hR, hle⟩ := owns_row_at hown rfl hp
  have S1 : Same [] w w1 := ((Same.refl _ _).alloc _).grown hgrow (fun k hk => by cases hk)
  have hg' : w.heap.size ≤ g := by omega
  clear hown hgrow hr
  go_wp2
  go_ret
  exact ⟨g, cap', cs', rfl, hg', hR, hle, S1⟩

set_option maxHeartbeats 1000000 in
theorem numbers_calls (v : Vol) (w : World) (h : VolAt w v) :
    Calls Try.prog 49 #[.pointer (some ⟨v.vb, 0, none⟩)] w fun e w' => ∃ g cs', e = .returned (.slice (some ⟨g, 0, none⟩) v.xs.length v.xs.length) ∧ w.heap.size ≤ g ∧ RowAt w' g v.xs cs' ∧ Same [] w w' := by
  obtain ⟨cap, kcap, hcap, hv, _, _⟩ := h.vol
  obtain ⟨cs, hr⟩ := h.row
  have c1 : w.cell? ⟨v.vb, 1, none⟩ = some (.slice (some ⟨v.gb, 0, none⟩) v.xs.length cap) := hv.cell? 1
  have hs := h.small
  have hp := h.pos
  go_enter Try.func49, Try.ntmps49
  go_wp2_with fail
  refine (sliceClone_calls v.gb cap v.xs cs w hr hp hs).mono ?_
  rintro e w1 ⟨g, cap', cs', rfl, hg, hR, hle, S1⟩
  clear h hv hr
  go_wp2
  go_ret
  exact ⟨g, cs', rfl, hg, hR, S1⟩

set_option maxHeartbeats 1000000 in
theorem cut_calls (v : Vol) (k : Nat) (w : World) (h : VolAt w v) (ho : v.org = none) (h1 : 1 ≤ k) (hk : k < v.xs.length) :
    Calls Try.prog 59 #[.pointer (some ⟨v.vb, 0, none⟩), .int .i64 k] w fun e w' => e = .returned (.slice (some ⟨v.gb, k, none⟩) (v.xs.length - k) (v.xs.length - k)) ∧
      VolAt w' { v with xs := v.xs.take k } ∧ Same [v.vb] w w' := by
  obtain ⟨cap, kcap, hcap, hv, hk1, hk2⟩ := h.vol
  have hkg := (h.plain ho).1
  have S1 : Same [v.vb] w (w.setCell ⟨v.vb, 1, none⟩ (.slice (some ⟨v.gb, 0, none⟩) k k)) := (Same.refl _ _).set v.vb 1 _ (by simp)
  have V1 : VolAt (w.setCell ⟨v.vb, 1, none⟩ (.slice (some ⟨v.gb, 0, none⟩) k k)) { v with xs := v.xs.take k } := by
    have A1 := hv.set_same 1 (.slice (some ⟨v.gb, 0, none⟩) k k)
    simp only [Vol.cells, List.set_cons_succ, List.set_cons_zero] at A1
    have hl : (v.xs.take k).length = k := by rw [List.length_take]; omega
    obtain ⟨cs, hr⟩ := h.row
    have hnd := h.nodup
    have hne : v.gb ∉ [v.vb] := by
      simp only [Vol.foot, List.nodup_cons, List.mem_cons, not_or] at hnd
      simp; exact fun e => hnd.1.1 e.symm
    refine ⟨⟨k, kcap, by simp [hl], by simp only [Vol.cells, hl]; exact A1, hk1, fun g hg => (hk2 g hg).same S1 (by rw [hkg] at hg; cases hg)⟩, ⟨cs, ⟨S1.at hr.at_ hne, ?_, ?_⟩⟩, h.nodup, ?_, ?_, ?_, h.plain⟩
    · have e1 : cs.take k = (cs.take v.xs.length).take k := by rw [List.take_take, Nat.min_eq_left (by omega)]
      show cs.take (v.xs.take k).length = _
      rw [hl, e1, hr.eq, List.map_take]
    · have := hr.le; show (v.xs.take k).length ≤ _; omega
    · intro e; have e' : (v.xs.take k).length = 0 := by show ({ v with xs := v.xs.take k } : Vol).xs.length = 0; rw [e]; rfl
      omega
    · show (v.xs.take k).length ≤ 200; have := h.small; omega
    · show v.kept.length ≤ _; rw [h.kept_nil ho]; simp
  have c1 : w.cell? ⟨v.vb, 1, none⟩ = some (.slice (some ⟨v.gb, 0, none⟩) v.xs.length cap) := hv.cell? 1
  have f1 : w.frozen? ⟨v.vb, 1, none⟩ = false := hv.frozen 1
  have hs := h.small
  clear h hv hk1 hk2
  go_enter Try.func59, Try.ntmps59
  go_wp2
  go_ret
  exact ⟨rfl, V1, S1⟩

set_option maxHeartbeats 1000000 in
theorem cut_whole (v : Vol) (k : Nat) (w : World) (h : VolAt w v) (ho : v.org = none) (h1 : 1 ≤ k) (hk : k = v.xs.length) :
    Calls Try.prog 59 #[.pointer (some ⟨v.vb, 0, none⟩), .int .i64 k] w fun e w' => e = .returned (.slice (some ⟨v.gb, 0, none⟩) 0 0) ∧
      VolAt w' { v with xs := v.xs.take k } ∧ Same [v.vb] w w' := by
  obtain ⟨cap, kcap, hcap, hv, hk1, hk2⟩ := h.vol
  have hkg := (h.plain ho).1
  have S1 : Same [v.vb] w (w.setCell ⟨v.vb, 1, none⟩ (.slice (some ⟨v.gb, 0, none⟩) k k)) := (Same.refl _ _).set v.vb 1 _ (by simp)
  have V1 : VolAt (w.setCell ⟨v.vb, 1, none⟩ (.slice (some ⟨v.gb, 0, none⟩) k k)) { v with xs := v.xs.take k } := by
    have A1 := hv.set_same 1 (.slice (some ⟨v.gb, 0, none⟩) k k)
    simp only [Vol.cells, List.set_cons_succ, List.set_cons_zero] at A1
    have hl : (v.xs.take k).length = k := by rw [List.length_take]; omega
    obtain ⟨cs, hr⟩ := h.row
    have hnd := h.nodup
    have hne : v.gb ∉ [v.vb] := by
      simp only [Vol.foot, List.nodup_cons, List.mem_cons, not_or] at hnd
      simp; exact fun e => hnd.1.1 e.symm
    refine ⟨⟨k, kcap, by simp [hl], by simp only [Vol.cells, hl]; exact A1, hk1, fun g hg => (hk2 g hg).same S1 (by rw [hkg] at hg; cases hg)⟩, ⟨cs, ⟨S1.at hr.at_ hne, ?_, ?_⟩⟩, h.nodup, ?_, ?_, ?_, h.plain⟩
    · have e1 : cs.take k = (cs.take v.xs.length).take k := by rw [List.take_take, Nat.min_eq_left (by omega)]
      show cs.take (v.xs.take k).length = _
      rw [hl, e1, hr.eq, List.map_take]
    · have := hr.le; show (v.xs.take k).length ≤ _; omega
    · intro e; have e' : (v.xs.take k).length = 0 := by show ({ v with xs := v.xs.take k } : Vol).xs.length = 0; rw [e]; rfl
      omega
    · show (v.xs.take k).length ≤ 200; have := h.small; omega
    · show v.kept.length ≤ _; rw [h.kept_nil ho]; simp
  have c1 : w.cell? ⟨v.vb, 1, none⟩ = some (.slice (some ⟨v.gb, 0, none⟩) v.xs.length cap) := hv.cell? 1
  have f1 : w.frozen? ⟨v.vb, 1, none⟩ = false := hv.frozen 1
  have hs := h.small
  clear h hv hk1 hk2
  subst hk
  go_enter Try.func59, Try.ntmps59
  go_wp2
  go_ret
  exact ⟨rfl, V1, S1⟩

theorem row_cells {w : World} {g : Nat} {xs : List Nat} {cs : List Value} (h : RowAt w g xs cs) : ∀ j u, (xs.map (fun x : Nat => Value.int .i64 x))[j]? = some u → w.cell? ⟨g, j, none⟩ = some u := by
  intro j u hj
  have hl : j < xs.length := by
    rcases Nat.lt_or_ge j xs.length with h | h
    · exact h
    · rw [List.getElem?_eq_none (by simpa using h)] at hj; cases hj
  rw [h.at_.cell?, h.cell j hl, ← hj]
  simp [List.getElem?_map, List.getElem?_eq_getElem hl, getElem!_pos xs j hl]

set_option maxHeartbeats 1000000 in
set_option maxRecDepth 100000 in
theorem extend_calls (v : Vol) (mb c : Nat) (ys : List Nat) (ms : List Value) (w : World) (h : VolAt w v) (ho : v.org = none) (hm : RowAt w mb ys ms) (hy : ys ≠ []) (hs : v.xs.length + ys.length ≤ 200) :
    Calls Try.prog 61 #[.pointer (some ⟨v.vb, 0, none⟩), .slice (some ⟨mb, 0, none⟩) ys.length c] w fun e w' => e = .returned (.tuple #[]) ∧ ∃ g, w.heap.size ≤ g ∧ VolAt w' { v with gb := g, xs := v.xs ++ ys } ∧ Same [v.vb] w w' := by
  obtain ⟨cap, kcap, hcap, hv, hk1, hk2⟩ := h.vol
  obtain ⟨cs, hr⟩ := h.row
  have hkg := (h.plain ho).1
  have c1 : w.cell? ⟨v.vb, 1, none⟩ = some (.slice (some ⟨v.gb, 0, none⟩) v.xs.length cap) := hv.cell? 1
  have hpos : 0 < ys.length := by cases ys <;> simp at *
  have lv := hv.lt
  obtain ⟨i0, hi, hz0, hz1, hz2⟩ := info_parts Try.info3
  go_enter Try.func61, Try.ntmps61
  go_wp2_with (at_builtin; refine wpList_append_grows _ rfl _ _ 39 rfl 3 i0 (.int .i64 0) 1 8 Try.underlying39 hi hz0 hz1 hz2 rfl (by decide) (some ⟨v.gb, 0, none⟩) v.xs.length v.xs.length (v.xs.map (fun x : Nat => Value.int .i64 x)) rfl (by intro h; cases h) (by simp) (by intro b hb j u hu; simp only [Option.some.injEq] at hb; subst hb; rw [Addr.add_lit, Nat.zero_add]; exact row_cells hr j u hu) ⟨mb, 0, none⟩ ys.length c (ys.map (fun x : Nat => Value.int .i64 x)) rfl (by simp) (by intro j u hu; rw [Addr.add_lit, Nat.zero_add]; exact row_cells hm j u hu) (ints_one ys) (by omega) (by unfold maxLen; omega) (by omega) ?_)
  intro v' w1 hown hgrow
  rw [← List.map_append] at hown
  obtain ⟨a', cap', rfl⟩ := owns_form hown
  obtain ⟨g, cs', rfl, hg, hR, hle⟩ := owns_row_at hown (by simp) (by simp [hy])
  have A1 : At w1 v.vb _ _ := hv.of_heap (hgrow.block v.vb lv (by simp))
  have b1 : w1.cell? ⟨v.vb, 1, none⟩ = some (.slice (some ⟨v.gb, 0, none⟩) v.xs.length cap) := A1.cell? 1
  have g1 : w1.frozen? ⟨v.vb, 1, none⟩ = false := A1.frozen 1
  have A2 := A1.set_same 1 (.slice (some ⟨g, 0, none⟩) (v.xs.length + ys.length) cap')
  simp only [Vol.cells, List.set_cons_succ, List.set_cons_zero] at A2
  have hge : v.vb ≠ g := by omega
  have R2 : RowAt (w1.setCell ⟨v.vb, 1, none⟩ (.slice (some ⟨g, 0, none⟩) (v.xs.length + ys.length) cap')) g (v.xs ++ ys) cs' := ⟨hR.at_.set_other v.vb 1 _ (Ne.symm hge), hR.eq, hR.le⟩
  have S2 : Same [v.vb] w (w1.setCell ⟨v.vb, 1, none⟩ (.slice (some ⟨g, 0, none⟩) (v.xs.length + ys.length) cap')) := ((Same.refl _ _).grown hgrow (by simp)).set v.vb 1 _ (by simp)
  have V2 : VolAt (w1.setCell ⟨v.vb, 1, none⟩ (.slice (some ⟨g, 0, none⟩) (v.xs.length + ys.length) cap')) { v with gb := g, xs := v.xs ++ ys } :=
    ⟨⟨cap', kcap, by simpa using hle, by simp only [Vol.cells, List.length_append]; exact A2, hk1, fun g' hg' => by rw [hkg] at hg'; cases hg'⟩, ⟨cs', R2⟩, by simp [Vol.foot, hkg, hge], by simp [hy], by simpa using hs, by show v.kept.length ≤ _; rw [h.kept_nil ho]; simp, h.plain⟩
  clear A1 A2 R2 hR hown hgrow h hm hv hr c1 hk1 hk2
  go_wp2
  refine bodyPost_end (results_none rfl _ _ _) rfl ⟨rfl, g, hg, V2, S2⟩
end Go.Proofs.Ytpddgdjocffgdaa
