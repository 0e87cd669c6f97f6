/- The disk: Read, Write, Free, by contracts. -/
import Derived.Test.YtpddgdjocffgdaaHeapC
namespace Go.Proofs.Ytpddgdjocffgdaa
open Go.RowKit Go.Sort
set_option linter.unusedVariables false
set_option linter.unusedSimpArgs false
set_option linter.unusedSectionVars false

/-- A block of eight bytes. -/
structure Blk where
  b0 : Int
  b1 : Int
  b2 : Int
  b3 : Int
  b4 : Int
  b5 : Int
  b6 : Int
  b7 : Int

def Blk.zero : Blk := ⟨0, 0, 0, 0, 0, 0, 0, 0⟩
variable [DecidableEq Blk] [Inhabited Blk]
def Blk.cells (b : Blk) : List Value := [.int .u8 b.b0, .int .u8 b.b1, .int .u8 b.b2, .int .u8 b.b3, .int .u8 b.b4, .int .u8 b.b5, .int .u8 b.b6, .int .u8 b.b7]
def Blk.val (b : Blk) : Value := .agg #[.int .u8 b.b0, .int .u8 b.b1, .int .u8 b.b2, .int .u8 b.b3, .int .u8 b.b4, .int .u8 b.b5, .int .u8 b.b6, .int .u8 b.b7]
def flat : List Blk → List Value
  | [] => []
  | b :: r => b.cells ++ flat r

theorem flat_length (l : List Blk) : (flat l).length = l.length * 8 := by
  induction l with
  | nil => rfl
  | cons b r ih => simp [flat, Blk.cells, ih]; omega
theorem flat_get (l : List Blk) : ∀ (k j : Nat), k < l.length → j < 8 → (flat l)[k * 8 + j]? = (l[k]!).cells[j]? := by
  induction l with
  | nil => intro k j h; simp at h
  | cons b r ih =>
    intro k j hk hj
    cases k with
    | zero =>
      have : (b :: r)[0]! = b := rfl
      rw [this, flat, Nat.zero_mul, Nat.zero_add, List.getElem?_append_left (by simpa [Blk.cells] using hj)]
    | succ k =>
      have e : (b :: r)[k + 1]! = r[k]! := by simp
      rw [e, ← ih k j (by simpa using hk) hj, flat, List.getElem?_append_right (by simp [Blk.cells]; omega)]
      congr 1
      simp [Blk.cells]; omega
theorem flat_set (l : List Blk) : ∀ (k : Nat) (b : Blk), k < l.length →
    ((((((((flat l).set (k * 8) (.int .u8 b.b0)).set (k * 8 + 1) (.int .u8 b.b1)).set (k * 8 + 2) (.int .u8 b.b2)).set (k * 8 + 3) (.int .u8 b.b3)).set (k * 8 + 4) (.int .u8 b.b4)).set (k * 8 + 5) (.int .u8 b.b5)).set (k * 8 + 6) (.int .u8 b.b6)).set (k * 8 + 7) (.int .u8 b.b7) = flat (l.set k b) := by
  induction l with
  | nil => intro k b h; simp at h
  | cons a r ih =>
    intro k b hk
    cases k with
    | zero => simp [flat, Blk.cells]
    | succ k =>
      have := ih k b (by simpa using hk)
      simp only [List.set_cons_succ, flat, ← this]
      simp only [Blk.cells, List.cons_append, List.nil_append]
      rw [show (k + 1) * 8 = k * 8 + 8 by omega]
      simp only [Nat.add_assoc, Nat.reduceAdd, List.set_cons_succ]

theorem At.eight {w : World} {bb : Nat} {t : TypeId} {bl : List Blk} (h : At w bb t (flat bl)) (k : Nat) (hk : k < bl.length) :
    w.cell? ⟨bb, k * 8, none⟩ = some (.int .u8 (bl[k]!).b0) ∧ w.cell? ⟨bb, k * 8 + 1, none⟩ = some (.int .u8 (bl[k]!).b1) ∧ w.cell? ⟨bb, k * 8 + 2, none⟩ = some (.int .u8 (bl[k]!).b2) ∧ w.cell? ⟨bb, k * 8 + 3, none⟩ = some (.int .u8 (bl[k]!).b3) ∧
    w.cell? ⟨bb, k * 8 + 4, none⟩ = some (.int .u8 (bl[k]!).b4) ∧ w.cell? ⟨bb, k * 8 + 5, none⟩ = some (.int .u8 (bl[k]!).b5) ∧ w.cell? ⟨bb, k * 8 + 6, none⟩ = some (.int .u8 (bl[k]!).b6) ∧ w.cell? ⟨bb, k * 8 + 7, none⟩ = some (.int .u8 (bl[k]!).b7) := by
  refine ⟨?_, ?_, ?_, ?_, ?_, ?_, ?_, ?_⟩
  · have := flat_get bl k 0 hk (by omega); rw [Nat.add_zero] at this; rw [h.cell?, this]; rfl
  all_goals (rw [h.cell?, flat_get bl k _ hk (by omega)]; rfl)

theorem At.set8 {w : World} {bb : Nat} {t : TypeId} {bl : List Blk} (h : At w bb t (flat bl)) (k : Nat) (hk : k < bl.length) (x0 x1 x2 x3 x4 x5 x6 x7 : Int) :
    At ((((((((w.setCell ⟨bb, k * 8, none⟩ (.int .u8 x0)).setCell ⟨bb, k * 8 + 1, none⟩ (.int .u8 x1)).setCell ⟨bb, k * 8 + 2, none⟩ (.int .u8 x2)).setCell ⟨bb, k * 8 + 3, none⟩ (.int .u8 x3)).setCell ⟨bb, k * 8 + 4, none⟩ (.int .u8 x4)).setCell ⟨bb, k * 8 + 5, none⟩ (.int .u8 x5)).setCell ⟨bb, k * 8 + 6, none⟩ (.int .u8 x6)).setCell ⟨bb, k * 8 + 7, none⟩ (.int .u8 x7)) bb t (flat (bl.set k ⟨x0, x1, x2, x3, x4, x5, x6, x7⟩)) ∧ Same [bb] w ((((((((w.setCell ⟨bb, k * 8, none⟩ (.int .u8 x0)).setCell ⟨bb, k * 8 + 1, none⟩ (.int .u8 x1)).setCell ⟨bb, k * 8 + 2, none⟩ (.int .u8 x2)).setCell ⟨bb, k * 8 + 3, none⟩ (.int .u8 x3)).setCell ⟨bb, k * 8 + 4, none⟩ (.int .u8 x4)).setCell ⟨bb, k * 8 + 5, none⟩ (.int .u8 x5)).setCell ⟨bb, k * 8 + 6, none⟩ (.int .u8 x6)).setCell ⟨bb, k * 8 + 7, none⟩ (.int .u8 x7)) := by
  refine ⟨?_, (((((((((Same.refl _ _).set bb _ _ (by simp)).set bb _ _ (by simp)).set bb _ _ (by simp)).set bb _ _ (by simp)).set bb _ _ (by simp)).set bb _ _ (by simp)).set bb _ _ (by simp)).set bb _ _ (by simp))⟩
  rw [← flat_set bl k _ hk]
  exact ((((((((h.set_same _ _).set_same _ _).set_same _ _).set_same _ _).set_same _ _).set_same _ _).set_same _ _).set_same _ _)

set_option maxHeartbeats 400000 in
set_option maxRecDepth 100000 in
theorem diskRead_calls (db bb n k : Nat) (t t' : TypeId) (v1 : Value) (bl : List Blk) (w : World) (s : Value) (v : Int) (hs : s = .pointer (some ⟨db, 0, none⟩)) (hv : v = (k : Int))
    (h0 : At w db t [.slice (some ⟨bb, 0, none⟩) n n, v1]) (h1 : At w bb t' (flat bl)) (hl : bl.length = n) (hk : k < n) (hn : n ≤ 1000) :
    Calls Try.prog 40 #[s, .int .i64 v] w fun e w' => e = .returned (bl[k]!).val ∧ Same [] w w' := by
  subst hs hv
  obtain ⟨c0, c1, c2, c3, c4, c5, c6, c7⟩ := h1.eight k (by omega)
  have h0' : w.cell? ⟨db, 0, none⟩ = some (.slice (some ⟨bb, 0, none⟩) n n) := h0.cell? 0
  have lb := h0.lt
  have lbb := h1.lt
  unfold Blk.val
  generalize bl[k]! = y at *
  obtain ⟨x0, x1, x2, x3, x4, x5, x6, x7⟩ := y
  clear h0 h1 hl
  go_enter Try.func40, Try.ntmps40
  go_wp2
  exact bodyPost_ret (v := .agg #[.int .u8 x0, .int .u8 x1, .int .u8 x2, .int .u8 x3, .int .u8 x4, .int .u8 x5, .int .u8 x6, .int .u8 x7]) (by simp [results, Try.results40, go_sem]) rfl ⟨rfl, (Same.refl _ _).alloc _⟩

set_option maxHeartbeats 400000 in
set_option maxRecDepth 100000 in
theorem diskWrite_calls (db bb n k : Nat) (t t' : TypeId) (v1 : Value) (bl : List Blk) (b : Blk) (w : World) (s u : Value) (v : Int) (hs : s = .pointer (some ⟨db, 0, none⟩)) (hv : v = (k : Int)) (hu : u = b.val)
    (h0 : At w db t [.slice (some ⟨bb, 0, none⟩) n n, v1]) (h1 : At w bb t' (flat bl)) (hl : bl.length = n) (hk : k < n) (hn : n ≤ 1000) :
    Calls Try.prog 68 #[s, .int .i64 v, u] w fun e w' => e = .returned (.tuple #[]) ∧ At w' bb t' (flat (bl.set k b)) ∧ Same [bb] w w' := by
  subst hs hv hu
  obtain ⟨x0, x1, x2, x3, x4, x5, x6, x7⟩ := b
  obtain ⟨c0, c1, c2, c3, c4, c5, c6, c7⟩ := h1.eight k (by omega)
  have h0' : w.cell? ⟨db, 0, none⟩ = some (.slice (some ⟨bb, 0, none⟩) n n) := h0.cell? 0
  have lb := h0.lt
  have lbb := h1.lt
  have f := h1.frozen
  have hk' : (k : Int) < (n : Int) := by omega
  unfold Blk.val
  go_enter Try.func68, Try.ntmps68
  go_wp2
  go_region
  all_goals
    go_wp2
    refine bodyPost_end (results_none rfl _ _ _) rfl ⟨rfl, ?_, ?_⟩
    · rw [← flat_set bl k _ (by omega)]
      exact (((((((((h1.set_same _ _).set_same _ _).set_same _ _).set_same _ _).set_same _ _).set_same _ _).set_same _ _).set_same _ _).alloc _).drew
    · exact ((((((((((Same.refl _ _).set bb _ _ (by simp)).set bb _ _ (by simp)).set bb _ _ (by simp)).set bb _ _ (by simp)).set bb _ _ (by simp)).set bb _ _ (by simp)).set bb _ _ (by simp)).set bb _ _ (by simp)).alloc _).drew
theorem diskFree_calls (db n m : Nat) (t : TypeId) (v0 : Value) (a : Option Addr) (w : World) (s : Value) (hs : s = .pointer (some ⟨db, 0, none⟩)) (h0 : At w db t [v0, .slice a m n]) (hn : m ≤ 1000) :
    Calls Try.prog 62 #[s] w fun e w' => e = .returned (.int .i64 m) ∧ w' = w := by
  subst hs
  have h1 : w.cell? ⟨db, 1, none⟩ = some (.slice a m n) := h0.cell? 1
  clear h0
  go_enter Try.func62, Try.ntmps62
  go_wp2
  go_ret
  exact ⟨rfl, rfl⟩
end Go.Proofs.Ytpddgdjocffgdaa
