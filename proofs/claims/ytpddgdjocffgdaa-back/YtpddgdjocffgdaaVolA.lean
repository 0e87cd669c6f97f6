/- Volumes: a string cloned; what a volume tells of itself, by contracts. -/
import Derived.Test.YtpddgdjocffgdaaSmall
import Derived.Test.YtpddgdjocffgdaaBlkEq
import Derived.Test.YtpddgdjocffgdaaPtr
import Derived.Lib.Strings
import Derived.Lib.Walk
import Derived.Lib.BufferWrite
import Derived.Lib.UnsafeStr
import Derived.Lib.Buffer
namespace Go.Proofs.Ytpddgdjocffgdaa
open Go.RowKit Go.Sort
set_option linter.unusedVariables false
set_option linter.unusedSimpArgs false
set_option linter.unusedSectionVars false
variable [DecidableEq Blk] [Inhabited Blk]

theorem Same.ofBelow {w w' : World} (h : Below w.heap.size w w') (S : List Nat) : Same S w w' := ⟨h.os, h.tape, h.output, h.size, fun k hk _ => h.block k hk⟩


set_option maxHeartbeats 2000000 in
set_option maxRecDepth 100000 in
theorem liteClone_calls (s : ByteArray) (w : World) (hlim : s.size ≤ 1000) :
    Calls Try.prog 93 #[.string s] w fun e w' => e = .returned (.string s) ∧ Below w.heap.size w w' := by
  by_cases h0 : s.size = 0
  · have hs : s = ⟨#[]⟩ := by
      apply ByteArray.ext
      exact Array.eq_empty_of_size_eq_zero h0
    subst hs
    go_enter Try.func93, Try.ntmps93
    go_wp2
    go_ret
    exact ⟨rfl, Below.refl _ _⟩
  · obtain ⟨i0, hi, hz0, hz1, hz2⟩ := info_parts Try.info5
    have hinfo : (Try.prog.info? 5).map (·.size) = some 1 := by rw [hi]; simp [hz1]
    have hco : Try.prog.cellsOf 5 = 1 := by simp [Program.cellsOf, hi, hz1]
    obtain ⟨M, hM⟩ : ∃ M, M = madeCells (Value.int .u8 0).cells (((s.size : Nat) : Int).toNat * i0.size) := ⟨_, rfl⟩
    have hMs : M.size = s.size := by rw [hM, size_madeCells, hz1]; simp
    have hmk : ∀ W : World, (Instr.makeSlice 25 (.int .i64 (s.size : Int)) (.int .i64 (s.size : Int))).run Try.prog W = .ok (.slice (some ⟨W.heap.size, 0, none⟩) s.size s.size) (W.alloc (.cells M 5)) := fun W => by
      have h := run_make (P := Try.prog) W 25 5 i0 (.int .u8 0) Try.underlying25 hi hz0 .i64 .i64 (s.size : Int) (s.size : Int) (by omega) (by omega) (by rw [hz2]; omega) (by omega)
      rw [← hM] at h
      simpa using h
    clear hM
    have hcp := Lib.run_copy_row_string (P := Try.prog) (w.alloc (.cells M 5)) 25 9 3 5 w.heap.size 0 s.size s.size s M 5 Try.underlying25 hinfo (heap_alloc_new w _) (Nat.le_refl _) (by omega)
    obtain ⟨Y, hY⟩ : ∃ Y, Y = (M.toList.take 0 ++ Lib.byteCells s.data.toList ++ M.toList.drop (0 + s.size)).toArray := ⟨_, rfl⟩
    rw [← hY] at hcp
    have hYl : Y.toList = Lib.byteCells s.data.toList := by
      rw [hY, List.toList_toArray, List.take_zero, List.nil_append, List.drop_of_length_le (by rw [Array.length_toList]; omega), List.append_nil]
    have hYs : Y.size = s.size := by rw [← Array.length_toList, hYl, Lib.byteCells_length, ← Lib.size_eq]
    have hgY : ((w.alloc (.cells M 5)).setRow w.heap.size Y).heap[w.heap.size]? = some (.cells Y 5 (0, 0)) := setRow_heap _ _ M _ 5 (0, 0) (heap_alloc_new w _)
    have hne : s.data.toList ≠ [] := fun e => h0 (by rw [Lib.size_eq, e]; rfl)
    have hUS := Lib.run_unsafeString_row (P := Try.prog) ((w.alloc (.cells M 5)).setRow w.heap.size Y) 170 3 9 5 Try.underlying170 hco w.heap.size Y.size (by unfold World.shape?; rw [hgY]) s.data.toList hne (by rw [← Lib.size_eq]; omega) (by rw [← Lib.size_eq]; omega)
      (fun j x hx => Lib.cells_of_row hgY Y.size j _ (by rw [List.take_of_length_le (by rw [Array.length_toList]; exact Nat.le_refl _), hYl]; simp [Lib.byteCells, hx]))
    rw [← Lib.size_eq] at hUS
    clear hY
    go_enter Try.func93, Try.ntmps93
    go_wp2
    go_ret
    have hb1 : Below w.heap.size w (w.alloc (.cells M 5)) := (Below.refl _ w).alloc (Nat.le_refl _) _
    have hb2 : Below w.heap.size (w.alloc (.cells M 5)) ((w.alloc (.cells M 5)).setRow w.heap.size Y) := ⟨rfl, rfl, rfl, by simp, fun k hk => setRow_other _ _ _ _ (by omega)⟩
    exact ⟨rfl, Lib.below_freeze (hb1.trans hb2) (p := ⟨w.heap.size, 0, none⟩) (Nat.le_refl _) _⟩

theorem clone_calls (s : ByteArray) (w : World) (hlim : s.size ≤ 1000) :
    Calls Try.prog 53 #[.string s] w fun e w' => e = .returned (.string s) ∧ Same [] w w' := by
  go_enter Try.func53, Try.ntmps53
  go_wp2_with (go_at_call 93; refine (liteClone_calls s _ hlim).mono ?_; rintro e w' ⟨rfl, hb⟩)
  go_ret
  exact ⟨rfl, Same.ofBelow hb _⟩

/-- A slice of ints in a block: the value, and the numbers. -/
structure RowAt (w : World) (g : Nat) (xs : List Nat) (cs : List Value) : Prop where
  at_ : At w g 3 cs
  eq : cs.take xs.length = xs.map (fun x : Nat => Value.int .i64 x)
  le : xs.length ≤ cs.length

theorem RowAt.cell {w : World} {g : Nat} {xs : List Nat} {cs : List Value} (h : RowAt w g xs cs) (i : Nat) (hi : i < xs.length) : cs[i]? = some (.int .i64 (xs[i]! : Nat)) := by
  have : (cs.take xs.length)[i]? = cs[i]? := by rw [List.getElem?_take, if_pos hi]
  rw [← this, h.eq]
  simp [List.getElem?_map, List.getElem?_eq_getElem hi, getElem!_pos xs i hi]
theorem RowAt.same {w w' : World} {g : Nat} {xs : List Nat} {cs : List Value} (h : RowAt w g xs cs) {S : List Nat} (hs : Same S w w') (hn : g ∉ S) : RowAt w' g xs cs := ⟨hs.at h.at_ hn, h.eq, h.le⟩

/-- A list of numbers in a block of its own, with spare room behind. -/
structure NumsAt (w : World) (g : Nat) (cap : Nat) (l : List Nat) : Prop where
  ex : ∃ cs, At w g 3 cs ∧ cs.length = cap ∧ cs.take l.length = l.map (fun x : Nat => Value.int .i64 x) ∧ l.length ≤ cap ∧ cap ≤ maxLen
theorem NumsAt.same {w w' : World} {g cap : Nat} {l : List Nat} (h : NumsAt w g cap l) {S : List Nat} (hs : Same S w w') (hn : g ∉ S) : NumsAt w' g cap l := by
  obtain ⟨cs, h1, h2⟩ := h.ex
  exact ⟨cs, hs.at h1 hn, h2⟩
theorem NumsAt.lt {w : World} {g cap : Nat} {l : List Nat} (h : NumsAt w g cap l) : g < w.heap.size := by
  obtain ⟨cs, h1, h2⟩ := h.ex
  exact h1.lt
theorem NumsAt.cell {w : World} {g cap : Nat} {l : List Nat} (h : NumsAt w g cap l) (i : Nat) (hi : i < l.length) : w.cell? ⟨g, i, none⟩ = some (.int .i64 (l[i]! : Nat)) := by
  obtain ⟨cs, h1, h2, h3, h4⟩ := h.ex
  have e : (cs.take l.length)[i]? = cs[i]? := by rw [List.getElem?_take, if_pos hi]
  rw [h1.cell?, ← e, h3]
  simp [List.getElem?_map, List.getElem?_eq_getElem hi, getElem!_pos l i hi]
theorem nums_owns {w : World} {g cap : Nat} {l : List Nat} (h : NumsAt w g cap l) {n : Nat} (hn : n = l.length) : w.ownsRow 0 3 1 (.slice (some ⟨g, 0, none⟩) n cap) n (l.map (fun x : Nat => Value.int .i64 x)) := by
  obtain ⟨cs, h1, h2, h3, h4, h5⟩ := h.ex
  subst hn
  refine ⟨by simp, .inr ⟨g, cap, cs.toArray, rfl, Nat.zero_le _, h1, h4, h5, by simpa using h2, by simpa using h3⟩⟩
theorem owns_nums {w : World} {base : Nat} {v : Value} {n : Nat} {l : List Nat} (h : w.ownsRow base 3 1 v n (l.map (fun x : Nat => Value.int .i64 x))) (hl : l ≠ []) :
    ∃ g cap, v = .slice (some ⟨g, 0, none⟩) l.length cap ∧ base ≤ g ∧ NumsAt w g cap l := by
  have hn : l.length = n := by simpa using h.1
  rcases h.2 with ⟨h1, h2⟩ | ⟨g, cap', cur, h1, h2, h3, h4, h5, h6, h7⟩
  · exact absurd (List.eq_nil_of_length_eq_zero (hn.trans h2)) hl
  · refine ⟨g, cap', by rw [hn]; exact h1, h2, ⟨cur.toList, ?_, by simpa using h6, by simpa [hn] using h7, by omega, h5⟩⟩
    unfold At
    simpa using h3

/-- A volume, or a picture of one (that has an origin): where its struct and its rows lie; its name; its blocks; the places that it keeps; whether it is lost. -/
structure Vol where
  vb : Nat
  gb : Nat
  name : ByteArray
  xs : List Nat
  org : Option Nat
  kg : Option Nat
  kept : List Nat
  lost : Bool

variable [Inhabited Vol]

/-- Where it lies. -/
def Vol.foot (v : Vol) : List Nat := v.vb :: v.gb :: v.kg.toList
def adr (b : Option Nat) : Option Addr := b.map fun b => ⟨b, 0, none⟩
def Vol.cells (v : Vol) (cap kcap : Nat) : List Value := [.string v.name, .slice (some ⟨v.gb, 0, none⟩) v.xs.length cap, .pointer (adr v.org), .slice (adr v.kg) v.kept.length kcap, .bool v.lost]

/-- A volume in memory: its struct, the row of its blocks' numbers, and the row of the places that it keeps. -/
structure VolAt (w : World) (v : Vol) : Prop where
  vol : ∃ cap kcap, v.xs.length ≤ cap ∧ At w v.vb 100 (v.cells cap kcap) ∧ (v.kg = none → v.kept = [] ∧ kcap = 0) ∧ (∀ g, v.kg = some g → NumsAt w g kcap v.kept)
  row : ∃ cs, RowAt w v.gb v.xs cs
  nodup : v.foot.Nodup
  pos : v.xs ≠ []
  small : v.xs.length ≤ 200
  room : v.kept.length ≤ v.xs.length
  plain : v.org = none → v.kg = none ∧ v.lost = false

theorem VolAt.kept_nil {w : World} {v : Vol} (h : VolAt w v) (ho : v.org = none) : v.kept = [] := by
  obtain ⟨cap, kcap, hc, hv, hk, hg⟩ := h.vol
  exact (hk (h.plain ho).1).1
theorem VolAt.same {w w' : World} {v : Vol} (h : VolAt w v) {S : List Nat} (hs : Same S w w') (h1 : ∀ k ∈ v.foot, k ∉ S) : VolAt w' v := by
  obtain ⟨cap, kcap, hc, hv, hk, hg⟩ := h.vol
  obtain ⟨cs, hr⟩ := h.row
  exact ⟨⟨cap, kcap, hc, hs.at hv (h1 _ (by simp [Vol.foot])), hk, fun g e => (hg g e).same hs (h1 _ (by simp [Vol.foot, e]))⟩, ⟨cs, hr.same hs (h1 _ (by simp [Vol.foot]))⟩, h.nodup, h.pos, h.small, h.room, h.plain⟩
theorem VolAt.new {w w' : World} {v : Vol} (h : VolAt w v) (hs : Same [] w w') : VolAt w' v := h.same hs (by simp)
theorem VolAt.foot_lt {w : World} {v : Vol} (h : VolAt w v) : ∀ k ∈ v.foot, k < w.heap.size := by
  obtain ⟨cap, kcap, hc, hv, hk, hg⟩ := h.vol
  obtain ⟨cs, hr⟩ := h.row
  intro k hm
  simp only [Vol.foot, List.mem_cons, Option.mem_toList, Option.mem_def] at hm
  rcases hm with rfl | rfl | e
  · exact hv.lt
  · exact hr.at_.lt
  · exact (hg k e).lt

theorem isPicture_calls (v : Vol) (w : World) (h : VolAt w v) :
    Calls Try.prog 56 #[.pointer (some ⟨v.vb, 0, none⟩)] w fun e w' => e = .returned (.bool v.org.isSome) ∧ w' = w := by
  obtain ⟨cap, kcap, hc, hv, hk, hg⟩ := h.vol
  have c2 : w.cell? ⟨v.vb, 2, none⟩ = some (.pointer (adr v.org)) := hv.cell? 2
  clear h hv hk hg
  cases ho : v.org with
  | none =>
    rw [ho] at c2
    have hq := neq_nil_nil (P := Try.prog) w Try.underlying80
    simp only [adr, Option.map_none] at c2
    go_enter Try.func56, Try.ntmps56
    go_wp2
    go_ret
    exact ⟨rfl, rfl⟩
  | some o =>
    rw [ho] at c2
    have hq := neq_some_nil (P := Try.prog) w ⟨o, 0, none⟩ Try.underlying80
    simp only [adr, Option.map_some] at c2
    go_enter Try.func56, Try.ntmps56
    go_wp2
    go_ret
    exact ⟨rfl, rfl⟩

set_option maxHeartbeats 400000 in
theorem size_vol (v : Vol) (w : World) (h : VolAt w v) (ho : v.org = none) :
    Calls Try.prog 57 #[.pointer (some ⟨v.vb, 0, none⟩)] w fun e w' => e = .returned (.int .i64 v.xs.length) ∧ w' = w := by
  have hI := isPicture_calls v w h
  rw [ho] at hI
  obtain ⟨cap, kcap, hc, hv, hk, hg⟩ := h.vol
  have c1 : w.cell? ⟨v.vb, 1, none⟩ = some (.slice (some ⟨v.gb, 0, none⟩) v.xs.length cap) := hv.cell? 1
  have hs := h.small
  clear h hv hk hg
  go_enter Try.func57, Try.ntmps57
  go_wp2_with (go_at_call 56; refine hI.mono ?_; rintro e w' ⟨rfl, rfl⟩)
  go_ret
  exact ⟨rfl, rfl⟩
set_option maxHeartbeats 400000 in
theorem size_pic (v u : Vol) (w : World) (h : VolAt w v) (hu : VolAt w u) (ho : v.org = some u.vb) (hu0 : u.org = none) :
    Calls Try.prog 57 #[.pointer (some ⟨v.vb, 0, none⟩)] w fun e w' => e = .returned (.int .i64 u.xs.length) ∧ w' = w := by
  have hI := isPicture_calls v w h
  rw [ho] at hI
  have hz := size_vol u w hu hu0
  obtain ⟨cap, kcap, hc, hv, hk, hg⟩ := h.vol
  have c2 : w.cell? ⟨v.vb, 2, none⟩ = some (.pointer (adr v.org)) := hv.cell? 2
  rw [ho] at c2
  simp only [adr, Option.map_some] at c2
  clear h hv hk hg hu
  go_enter Try.func57, Try.ntmps57
  go_wp2_with (first | (go_at_call 56; refine hI.mono ?_; rintro e w' ⟨rfl, rfl⟩) | (go_at_call 57; refine hz.mono ?_; rintro e w' ⟨rfl, rfl⟩))
  go_ret
  exact ⟨rfl, rfl⟩

set_option maxHeartbeats 400000 in
theorem hasPlace_calls (vb n : Nat) (k : Int) (w : World) (hn : n ≤ 1000)
    (hc : Calls Try.prog 57 #[.pointer (some ⟨vb, 0, none⟩)] w fun e w' => e = .returned (.int .i64 n) ∧ w' = w) :
    Calls Try.prog 98 #[.pointer (some ⟨vb, 0, none⟩), .int .i64 k] w fun e w' => e = .returned (.bool (decide (0 ≤ k ∧ k < n))) ∧ w' = w := by
  by_cases h1 : 0 ≤ k
  · by_cases h2 : k < n
    · have e : decide (0 ≤ k ∧ k < n) = true := decide_eq_true ⟨h1, h2⟩
      rw [e]
      go_enter Try.func98, Try.ntmps98
      go_wp2_with (go_at_call 57; refine hc.mono ?_; rintro e w' ⟨rfl, rfl⟩)
      go_ret
      simp [h1, h2]
    · have e : decide (0 ≤ k ∧ k < n) = false := decide_eq_false (by omega)
      rw [e]
      go_enter Try.func98, Try.ntmps98
      go_wp2_with (go_at_call 57; refine hc.mono ?_; rintro e w' ⟨rfl, rfl⟩)
      go_ret
      simp [h1, h2]
  · have e : decide (0 ≤ k ∧ k < n) = false := decide_eq_false (by omega)
    rw [e]
    have h1' : decide (0 ≤ k) = false := decide_eq_false h1
    go_enter Try.func98, Try.ntmps98
    go_wp2_with (go_at_call 57; refine hc.mono ?_; rintro e w' ⟨rfl, rfl⟩)
    go_ret
    simp [h1]
end Go.Proofs.Ytpddgdjocffgdaa
