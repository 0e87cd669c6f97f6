/- Volumes: numbers, cut, extend, told, by contracts. -/
import Derived.Test.YtbidkjjklnacbaaVolA
import Derived.Lib.SliceRun
namespace Go.Proofs.Ytbidkjjklnacbaa
open Go.RowKit Go.Sort
set_option linter.unusedVariables false
set_option linter.unusedSimpArgs false
set_option linter.unusedSectionVars false
variable [DecidableEq Blk] [Inhabited Blk]

theorem ints_one (xs : List Nat) : ∀ u ∈ xs.map (fun x : Nat => Value.int .i64 x), u.oneCell' = true := by
  intro u hu
  obtain ⟨x, _, rfl⟩ := List.mem_map.1 hu
  rfl

/-- A row that a law of append leaves, as a block. -/
theorem owns_row_at {w : World} {base : Nat} {a : Option Addr} {cap n : Nat} {xs : List Nat} (h : w.ownsRow base 3 1 (.slice a n cap) n (xs.map (fun x : Nat => Value.int .i64 x))) (hn : n = xs.length) (hp : xs ≠ []) :
    ∃ g cs, a = some ⟨g, 0, none⟩ ∧ base ≤ g ∧ RowAt w g xs cs ∧ xs.length ≤ cap := by
  subst hn
  obtain ⟨g, cs, h1, h2, h3, h4, h5, h6⟩ := owns_at h (by cases xs <;> simp at *)
  exact ⟨g, cs, h1, h2, ⟨h3, h6, by omega⟩, h4⟩

set_option maxHeartbeats 1000000 in
set_option maxRecDepth 100000 in
theorem sliceClone_calls (gb cap : Nat) (xs : List Nat) (cs : List Value) (w : World) (hr : RowAt w gb xs cs) (hp : xs ≠ []) (hs : xs.length ≤ 200) :
    Calls Try.prog 51 #[.slice (some ⟨gb, 0, none⟩) xs.length cap] w fun e w' => ∃ g cap' cs', e = .returned (.slice (some ⟨g, 0, none⟩) xs.length cap') ∧ w.heap.size ≤ g ∧ RowAt w' g xs cs' ∧ xs.length ≤ cap' ∧ Same [] w w' := by
  obtain ⟨i0, hi, hz0, hz1, hz2⟩ := info_parts Try.info3
  have hpos : 0 < xs.length := by cases xs <;> simp at *
  have lg := hr.at_.lt
  go_enter Try.func51, Try.ntmps51
  have hnil : (binOp .eql 25 (.slice (some ⟨gb, 0, none⟩) xs.length cap) (.slice none 0 0)).run Try.prog w = .ok (.bool false) w := Lib.run_eql_slice_nil w _ _ _ _ _ _ _ Try.underlying25
  go_wp2_with (at_builtin; refine wpList_append_grows _ rfl _ _ 25 rfl 3 i0 (.int .i64 0) 1 8 Try.underlying25 hi hz0 hz1 hz2 rfl (by decide) (some ⟨w.heap.size, 0, none⟩) 0 0 [] rfl (by intro h; cases h) rfl (by intro b _ j u hu; simp at hu) ⟨gb, 0, none⟩ xs.length cap (xs.map (fun x : Nat => Value.int .i64 x)) rfl (by simp) ?c1 (ints_one xs) (by omega) (by unfold maxLen; omega) (by omega) ?_)
  case c1 =>
    intro j u hj
    have hl : j < xs.length := by
      rcases Nat.lt_or_ge j xs.length with h | h
      · exact h
      · rw [List.getElem?_eq_none (by simpa using h)] at hj; cases hj
    rw [Addr.add_lit, Nat.zero_add, (hr.at_.alloc _).cell?, hr.cell j hl]
    rw [← hj]; simp [List.getElem?_map, List.getElem?_eq_getElem hl, getElem!_pos xs j hl]
  intro v' w1 hown hgrow
  try rw [Nat.zero_add, List.nil_append] at hown
  obtain ⟨a', cap', rfl⟩ := owns_form hown
  obtain ⟨g, cs', rfl, hg, hR, hle⟩ := owns_row_at hown rfl hp
  have S1 : Same [] w w1 := ((Same.refl _ _).alloc _).grown hgrow (fun k hk => by cases hk)
  have hg' : w.heap.size ≤ g := by omega
  clear hown hgrow hr
  go_wp2
  go_ret
  exact ⟨g, cap', cs', rfl, hg', hR, hle, S1⟩

set_option maxHeartbeats 1000000 in
theorem numbers_calls (vb gb : Nat) (name : ByteArray) (xs : List Nat) (w : World) (h : VolAt w vb gb name xs) :
    Calls Try.prog 24 #[.pointer (some ⟨vb, 0, none⟩)] w fun e w' => ∃ g cs', e = .returned (.slice (some ⟨g, 0, none⟩) xs.length xs.length) ∧ w.heap.size ≤ g ∧ RowAt w' g xs cs' ∧ Same [] w w' := by
  obtain ⟨cap, hcap, hv⟩ := h.vol
  obtain ⟨cs, hr⟩ := h.row
  have c1 : w.cell? ⟨vb, 1, none⟩ = some (.slice (some ⟨gb, 0, none⟩) xs.length cap) := hv.cell? 1
  have hs := h.small
  have hp := h.pos
  go_enter Try.func24, Try.ntmps24
  go_wp2_with fail
  refine (sliceClone_calls gb cap xs cs w hr hp hs).mono ?_
  rintro e w1 ⟨g, cap', cs', rfl, hg, hR, hle, S1⟩
  clear h hv hr
  go_wp2
  go_ret
  exact ⟨g, cs', rfl, hg, hR, S1⟩

set_option maxHeartbeats 1000000 in
theorem cut_calls (vb gb k : Nat) (name : ByteArray) (xs : List Nat) (w : World) (h : VolAt w vb gb name xs) (hk : k < xs.length) :
    Calls Try.prog 34 #[.pointer (some ⟨vb, 0, none⟩), .int .i64 k] w fun e w' => e = .returned (.slice (some ⟨gb, k, none⟩) (xs.length - k) (xs.length - k)) ∧
      At w' vb 75 [.string name, .slice (some ⟨gb, 0, none⟩) k k] ∧ Same [vb] w w' := by
  obtain ⟨cap, hcap, hv⟩ := h.vol
  have c1 : w.cell? ⟨vb, 1, none⟩ = some (.slice (some ⟨gb, 0, none⟩) xs.length cap) := hv.cell? 1
  have f1 : w.frozen? ⟨vb, 1, none⟩ = false := hv.frozen 1
  have hs := h.small
  have hc := size_calls vb xs.length cap _ _ _ w hv (by omega)
  have A1 : At _ _ _ [.string name, .slice (some ⟨gb, 0, none⟩) k k] := hv.set_same 1 (.slice (some ⟨gb, 0, none⟩) k k)
  clear h
  go_enter Try.func34, Try.ntmps34
  go_wp2_with (go_at_call 33; refine hc.mono ?_; rintro e w' ⟨rfl, rfl⟩)
  go_ret
  exact ⟨rfl, A1, (Same.refl _ _).set vb 1 _ (by simp)⟩

set_option maxHeartbeats 1000000 in
theorem cut_whole (vb gb k : Nat) (name : ByteArray) (xs : List Nat) (w : World) (h : VolAt w vb gb name xs) (hk : k = xs.length) :
    Calls Try.prog 34 #[.pointer (some ⟨vb, 0, none⟩), .int .i64 k] w fun e w' => e = .returned (.slice (some ⟨gb, 0, none⟩) 0 0) ∧
      At w' vb 75 [.string name, .slice (some ⟨gb, 0, none⟩) k k] ∧ Same [vb] w w' := by
  subst hk
  obtain ⟨cap, hcap, hv⟩ := h.vol
  have c1 : w.cell? ⟨vb, 1, none⟩ = some (.slice (some ⟨gb, 0, none⟩) xs.length cap) := hv.cell? 1
  have f1 : w.frozen? ⟨vb, 1, none⟩ = false := hv.frozen 1
  have hs := h.small
  have hc := size_calls vb xs.length cap _ _ _ w hv (by omega)
  have A1 : At _ _ _ [.string name, .slice (some ⟨gb, 0, none⟩) xs.length xs.length] := hv.set_same 1 (.slice (some ⟨gb, 0, none⟩) xs.length xs.length)
  clear h
  go_enter Try.func34, Try.ntmps34
  go_wp2_with (go_at_call 33; refine hc.mono ?_; rintro e w' ⟨rfl, rfl⟩)
  go_ret
  exact ⟨rfl, A1, (Same.refl _ _).set vb 1 _ (by simp)⟩

theorem row_cells {w : World} {g : Nat} {xs : List Nat} {cs : List Value} (h : RowAt w g xs cs) : ∀ j u, (xs.map (fun x : Nat => Value.int .i64 x))[j]? = some u → w.cell? ⟨g, j, none⟩ = some u := by
  intro j u hj
  have hl : j < xs.length := by
    rcases Nat.lt_or_ge j xs.length with h | h
    · exact h
    · rw [List.getElem?_eq_none (by simpa using h)] at hj; cases hj
  rw [h.at_.cell?, h.cell j hl, ← hj]
  simp [List.getElem?_map, List.getElem?_eq_getElem hl, getElem!_pos xs j hl]

set_option maxHeartbeats 1000000 in
set_option maxRecDepth 100000 in
theorem extend_calls (vb gb mb c : Nat) (name : ByteArray) (xs ys : List Nat) (ms : List Value) (w : World) (h : VolAt w vb gb name xs) (hm : RowAt w mb ys ms) (hy : ys ≠ []) (hs : xs.length + ys.length ≤ 200) :
    Calls Try.prog 35 #[.pointer (some ⟨vb, 0, none⟩), .slice (some ⟨mb, 0, none⟩) ys.length c] w fun e w' => e = .returned (.tuple #[]) ∧ ∃ g, w.heap.size ≤ g ∧ VolAt w' vb g name (xs ++ ys) ∧ Same [vb] w w' := by
  obtain ⟨cap, hcap, hv⟩ := h.vol
  obtain ⟨cs, hr⟩ := h.row
  have c1 : w.cell? ⟨vb, 1, none⟩ = some (.slice (some ⟨gb, 0, none⟩) xs.length cap) := hv.cell? 1
  have hpos : 0 < ys.length := by cases ys <;> simp at *
  have hc := size_calls vb xs.length cap _ _ _ w hv (by omega)
  have lv := hv.lt
  obtain ⟨i0, hi, hz0, hz1, hz2⟩ := info_parts Try.info3
  go_enter Try.func35, Try.ntmps35
  go_wp2_with (first | (go_at_call 33; refine hc.mono ?_; rintro e w' ⟨rfl, rfl⟩) | (at_builtin; refine wpList_append_grows _ rfl _ _ 25 rfl 3 i0 (.int .i64 0) 1 8 Try.underlying25 hi hz0 hz1 hz2 rfl (by decide) (some ⟨gb, 0, none⟩) xs.length xs.length (xs.map (fun x : Nat => Value.int .i64 x)) rfl (by intro h; cases h) (by simp) (by intro b hb j u hu; simp only [Option.some.injEq] at hb; subst hb; rw [Addr.add_lit, Nat.zero_add]; exact row_cells hr j u hu) ⟨mb, 0, none⟩ ys.length c (ys.map (fun x : Nat => Value.int .i64 x)) rfl (by simp) (by intro j u hu; rw [Addr.add_lit, Nat.zero_add]; exact row_cells hm j u hu) (ints_one ys) (by omega) (by unfold maxLen; omega) (by omega) ?_))
  intro v' w1 hown hgrow
  rw [← List.map_append] at hown
  obtain ⟨a', cap', rfl⟩ := owns_form hown
  obtain ⟨g, cs', rfl, hg, hR, hle⟩ := owns_row_at hown (by simp) (by simp [hy])
  have A1 : At w1 vb _ _ := hv.of_heap (hgrow.block vb lv (by simp))
  have b1 : w1.cell? ⟨vb, 1, none⟩ = some (.slice (some ⟨gb, 0, none⟩) xs.length cap) := A1.cell? 1
  have g1 : w1.frozen? ⟨vb, 1, none⟩ = false := A1.frozen 1
  have A2 := A1.set_same 1 (.slice (some ⟨g, 0, none⟩) (xs.length + ys.length) cap')
  have hge : vb ≠ g := by omega
  have R2 : RowAt (w1.setCell ⟨vb, 1, none⟩ (.slice (some ⟨g, 0, none⟩) (xs.length + ys.length) cap')) g (xs ++ ys) cs' := ⟨hR.at_.set_other vb 1 _ (Ne.symm hge), hR.eq, hR.le⟩
  have S2 : Same [vb] w' (w1.setCell ⟨vb, 1, none⟩ (.slice (some ⟨g, 0, none⟩) (xs.length + ys.length) cap')) := ((Same.refl _ _).grown hgrow (by simp)).set vb 1 _ (by simp)
  have V2 : VolAt (w1.setCell ⟨vb, 1, none⟩ (.slice (some ⟨g, 0, none⟩) (xs.length + ys.length) cap')) vb g name (xs ++ ys) := ⟨⟨cap', hle, by simpa using A2⟩, ⟨cs', R2⟩, hge, by simp [hy], by simpa using hs⟩
  clear A1 A2 R2 hR hown hgrow h hm hv hr c1
  go_wp2
  refine bodyPost_end (results_none rfl _ _ _) rfl ⟨rfl, g, hg, V2, S2⟩

set_option maxHeartbeats 1000000 in
set_option maxRecDepth 100000 in
theorem told_calls (vb gb : Nat) (name : ByteArray) (xs : List Nat) (w : World) (h : VolAt w vb gb name xs) :
    Calls Try.prog 50 #[.pointer (some ⟨vb, 0, none⟩)] w fun e w' => e = .returned (.agg #[.string name, .int .i64 xs.length, .string ⟨#[]⟩, .int .i64 0, .int .i64 0, .bool false]) ∧ Same [] w w' := by
  obtain ⟨cap, hcap, hv⟩ := h.vol
  have c0 : w.cell? ⟨vb, 0, none⟩ = some (.string name) := hv.cell? 0
  have hs := h.small
  have lv := hv.lt
  have hc : ∀ o, Calls Try.prog 33 #[.pointer (some ⟨vb, 0, none⟩)] ((w.alloc o).drew) fun e w' => e = .returned (.int .i64 xs.length) ∧ w' = (w.alloc o).drew := fun o => size_calls vb xs.length cap _ _ _ _ (hv.alloc o).drew (by omega)
  clear h
  go_enter Try.func50, Try.ntmps50
  go_wp2
  go_region_with (go_at_call 33; refine (hc _).mono ?_; rintro e w' ⟨rfl, rfl⟩)
  all_goals
    go_wp2
    exact bodyPost_ret (v := .agg #[.string name, .int .i64 xs.length, .string ⟨#[]⟩, .int .i64 0, .int .i64 0, .bool false]) (by simp [results, Try.results50, go_sem]) rfl ⟨rfl, ((Same.refl _ _).alloc _).drew⟩
end Go.Proofs.Ytbidkjjklnacbaa
