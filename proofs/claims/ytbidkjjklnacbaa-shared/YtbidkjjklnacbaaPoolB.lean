/- A Pool: findPlace, Free, Map, Read, by contracts. -/
import Derived.Test.YtbidkjjklnacbaaPoolA
namespace Go.Proofs.Ytbidkjjklnacbaa
open Go.RowKit Go.Sort
set_option linter.unusedVariables false
set_option linter.unusedSimpArgs false
set_option linter.unusedSectionVars false
variable [DecidableEq Blk] [Inhabited Blk]
variable [Inhabited Vol]

/-- What has a name. -/
def St.vol (s : St) (t : ByteArray) : Vol := s.vols[posOf s.names t]!
def St.has (s : St) (t : ByteArray) : Bool := isIn s.names t

theorem St.has_mem {s : St} {t : ByteArray} (h : s.has t = true) : s.vol t ∈ s.vols ∧ (s.vol t).name = t ∧ posOf s.names t < s.vols.length := by
  unfold St.has isIn at h
  simp only [Bool.and_eq_true, decide_eq_true_eq] at h
  have hl : posOf s.names t < s.vols.length := by simpa [St.names] using h.1
  refine ⟨?_, ?_, hl⟩
  · unfold St.vol; rw [getElem!_pos s.vols _ hl]; exact List.getElem_mem hl
  · have := (cmpB_zero _ _).1 h.2
    rw [getElem!_pos s.names _ h.1] at this
    unfold St.vol
    rw [getElem!_pos s.vols _ hl]
    simpa [St.names] using this

theorem find_has (s : St) (t : ByteArray) (w : World) (h : PoolAt w s) (hi : s.has t = true) :
    Calls Try.prog 23 #[.pointer (some ⟨s.pb, 0, none⟩), .string t] w fun e w' => e = .returned (.tuple #[.pointer (some ⟨(s.vol t).vb, 0, none⟩), .int .i64 0]) ∧ w' = w := by
  have := find_calls s t w h
  unfold St.has at hi
  simp only [hi, if_true] at this
  exact this
theorem find_not (s : St) (t : ByteArray) (w : World) (h : PoolAt w s) (hi : s.has t = false) :
    Calls Try.prog 23 #[.pointer (some ⟨s.pb, 0, none⟩), .string t] w fun e w' => e = .returned (.tuple #[.pointer none, .int .i64 4]) ∧ w' = w := by
  have := find_calls s t w h
  unfold St.has at hi
  simp only [hi, Bool.false_eq_true, if_false] at this
  exact this

set_option maxHeartbeats 400000 in
theorem findPlace_none (s : St) (t : ByteArray) (k : Int) (w : World) (h : PoolAt w s) (hi : s.has t = false) :
    Calls Try.prog 47 #[.pointer (some ⟨s.pb, 0, none⟩), .string t, .int .i64 k] w fun e w' => e = .returned (.tuple #[.int .i64 0, .int .i64 4]) ∧ w' = w := by
  have hf := find_not s t w h hi
  clear h
  go_enter Try.func47, Try.ntmps47
  go_wp2_with (go_at_call 23; refine hf.mono ?_; rintro e w' ⟨rfl, rfl⟩)
  go_ret2
  exact ⟨rfl, rfl⟩
set_option maxHeartbeats 400000 in
theorem findPlace_out (s : St) (t : ByteArray) (k : Int) (w : World) (h : PoolAt w s) (hi : s.has t = true) (hk : ¬ (0 ≤ k ∧ k < (s.vol t).xs.length)) :
    Calls Try.prog 47 #[.pointer (some ⟨s.pb, 0, none⟩), .string t, .int .i64 k] w fun e w' => e = .returned (.tuple #[.int .i64 0, .int .i64 1]) ∧ w' = w := by
  have hf := find_has s t w h hi
  have hv := h.vols _ (St.has_mem hi).1
  obtain ⟨cap, hcap, hvo⟩ := hv.vol
  have hp := hasPlace_calls (s.vol t).vb (s.vol t).xs.length cap _ _ _ k w hvo (by have := hv.small; omega)
  rw [decide_eq_false hk] at hp
  have hnot : ∀ (x : Bool) (w : World), (Op.unary .not (.bool x)).run Try.prog w = .ok (.bool (!x)) w := fun _ _ => rfl
  clear h hv hvo hk
  go_enter Try.func47, Try.ntmps47
  go_wp2_with (first | (go_at_call 23; refine hf.mono ?_; rintro e w' ⟨rfl, rfl⟩) | (go_at_call 76; refine hp.mono ?_; rintro e w' ⟨rfl, rfl⟩))
  go_ret2
  exact ⟨rfl, rfl⟩
set_option maxHeartbeats 400000 in
set_option maxRecDepth 100000 in
theorem findPlace_in (s : St) (t : ByteArray) (k : Nat) (w : World) (h : PoolAt w s) (hi : s.has t = true) (hk : k < (s.vol t).xs.length) :
    Calls Try.prog 47 #[.pointer (some ⟨s.pb, 0, none⟩), .string t, .int .i64 k] w fun e w' => e = .returned (.tuple #[.int .i64 ((s.vol t).xs[k]! : Nat), .int .i64 0]) ∧ w' = w := by
  have hf := find_has s t w h hi
  have hv := h.vols _ (St.has_mem hi).1
  obtain ⟨cap, hcap, hvo⟩ := hv.vol
  obtain ⟨cs, hr⟩ := hv.row
  have hp := hasPlace_calls (s.vol t).vb (s.vol t).xs.length cap _ _ _ k w hvo (by have := hv.small; omega)
  rw [decide_eq_true (show (0 : Int) ≤ k ∧ (k : Int) < ((s.vol t).xs.length : Nat) by omega)] at hp
  have hnot : ∀ (x : Bool) (w : World), (Op.unary .not (.bool x)).run Try.prog w = .ok (.bool (!x)) w := fun _ _ => rfl
  have c1 : w.cell? ⟨(s.vol t).vb, 1, none⟩ = some (.slice (some ⟨(s.vol t).gb, 0, none⟩) (s.vol t).xs.length cap) := hvo.cell? 1
  have c2 : w.cell? ⟨(s.vol t).gb, k, none⟩ = some (.int .i64 ((s.vol t).xs[k]! : Nat)) := by rw [hr.at_.cell?]; exact hr.cell k hk
  have hs := hv.small
  clear h hv hvo hr
  generalize (s.vol t).xs[k]! = y at *
  generalize (s.vol t).vb = vb at *
  generalize (s.vol t).gb = gb at *
  have l1 : (k : Int) < ((s.vol t).xs.length : Int) := by omega
  go_enter Try.func47, Try.ntmps47
  go_wp2_with (first | (go_at_call 23; refine hf.mono ?_; rintro e w' ⟨rfl, rfl⟩) | (go_at_call 76; refine hp.mono ?_; rintro e w' ⟨rfl, rfl⟩))
  go_ret2
  exact ⟨rfl, rfl⟩

set_option maxHeartbeats 400000 in
theorem free_calls (s : St) (w : World) (h : PoolAt w s) :
    Calls Try.prog 14 #[.pointer (some ⟨s.pb, 0, none⟩)] w fun e w' => e = .returned (.int .i64 s.m) ∧ w' = w := by
  have hm := made_calls s w h
  obtain ⟨cap, hp, _, _⟩ := h.pool
  have c1 : w.cell? ⟨s.pb, 1, none⟩ = some (.pointer (some ⟨s.db, 0, none⟩)) := hp.cell? 1
  have hf := diskFree_calls s.db s.n s.m _ _ _ w _ rfl h.disk.disk (by have := h.disk.le; have := h.disk.small; omega)
  have hnot : ∀ (x : Bool) (w : World), (Op.unary .not (.bool x)).run Try.prog w = .ok (.bool (!x)) w := fun _ _ => rfl
  unfold ptr at hm
  clear h hp
  go_enter Try.func14, Try.ntmps14
  go_wp2_with (first | (go_at_call 25; refine hm.mono ?_; rintro e w' ⟨rfl, rfl⟩) | (go_at_call 36; refine hf.mono ?_; rintro e w' ⟨rfl, rfl⟩))
  go_ret
  exact ⟨rfl, rfl⟩

set_option maxHeartbeats 400000 in
theorem map_none (s : St) (t : ByteArray) (w : World) (h : PoolAt w s) (hi : s.has t = false) :
    Calls Try.prog 9 #[.pointer (some ⟨s.pb, 0, none⟩), .string t] w fun e w' => e = .returned (.tuple #[.slice none 0 0, .int .i64 4]) ∧ w' = w := by
  have hf := find_not s t w h hi
  clear h
  go_enter Try.func9, Try.ntmps9
  go_wp2_with (go_at_call 23; refine hf.mono ?_; rintro e w' ⟨rfl, rfl⟩)
  go_ret2
  exact ⟨rfl, rfl⟩
set_option maxHeartbeats 400000 in
theorem map_some (s : St) (t : ByteArray) (w : World) (h : PoolAt w s) (hi : s.has t = true) :
    Calls Try.prog 9 #[.pointer (some ⟨s.pb, 0, none⟩), .string t] w fun e w' => ∃ g cs, e = .returned (.tuple #[.slice (some ⟨g, 0, none⟩) (s.vol t).xs.length (s.vol t).xs.length, .int .i64 0]) ∧ w.heap.size ≤ g ∧ RowAt w' g (s.vol t).xs cs ∧ Same [] w w' := by
  have hf := find_has s t w h hi
  have hn := numbers_calls _ _ _ _ w (h.vols _ (St.has_mem hi).1)
  clear h
  go_enter Try.func9, Try.ntmps9
  go_wp2_with (first | (go_at_call 23; refine hf.mono ?_; rintro e w' ⟨rfl, rfl⟩) | (go_at_call 24; refine hn.mono ?_; rintro e w1 ⟨g, cs, rfl, hg, hR, S1⟩))
  go_ret2
  exact ⟨g, cs, rfl, hg, hR, S1⟩

def zeroVal : Value := Blk.zero.val

set_option maxHeartbeats 400000 in
set_option maxRecDepth 100000 in
theorem read_err (s : St) (t : ByteArray) (k e0 : Int) (w : World) (he : e0 ≠ 0) (hf : ∀ w', Same [] w w' → Calls Try.prog 47 #[.pointer (some ⟨s.pb, 0, none⟩), .string t, .int .i64 k] w' fun e w'' => e = .returned (.tuple #[.int .i64 0, .int .i64 e0]) ∧ w'' = w') :
    Calls Try.prog 20 #[.pointer (some ⟨s.pb, 0, none⟩), .string t, .int .i64 k] w fun e w' => e = .returned (.tuple #[Blk.zero.val, .int .i64 e0]) ∧ Same [] w w' := by
  have hf' := hf _ ((Same.refl [] w).alloc (Obj.cells #[.int .u8 0, .int .u8 0, .int .u8 0, .int .u8 0, .int .u8 0, .int .u8 0, .int .u8 0, .int .u8 0] 51))
  clear hf
  have he' : (e0 != 0) = true := by simpa using he
  unfold Blk.val Blk.zero
  go_enter Try.func20, Try.ntmps20
  go_wp2_with (go_at_call 47; refine hf'.mono ?_; rintro e w' ⟨rfl, rfl⟩)
  exact bodyPost_ret (v := .tuple #[.agg #[.int .u8 0, .int .u8 0, .int .u8 0, .int .u8 0, .int .u8 0, .int .u8 0, .int .u8 0, .int .u8 0], .int .i64 e0]) (by simp [results, Try.results20, go_sem]) rfl ⟨rfl, (Same.refl _ _).alloc _⟩

set_option maxHeartbeats 400000 in
set_option maxRecDepth 100000 in
theorem read_some (s : St) (t : ByteArray) (k : Nat) (w : World) (h : PoolAt w s) (hi : s.has t = true) (hk : k < (s.vol t).xs.length) (hn : (s.vol t).xs[k]! < s.n) :
    Calls Try.prog 20 #[.pointer (some ⟨s.pb, 0, none⟩), .string t, .int .i64 k] w fun e w' => e = .returned (.tuple #[(s.bl[(s.vol t).xs[k]!]!).val, .int .i64 0]) ∧ Same [] w w' := by
  have S0 := (Same.refl [] w).alloc (Obj.cells #[.int .u8 0, .int .u8 0, .int .u8 0, .int .u8 0, .int .u8 0, .int .u8 0, .int .u8 0, .int .u8 0] 51)
  have h1 := h.new S0
  have N0 := At.new w #[.int .u8 0, .int .u8 0, .int .u8 0, .int .u8 0, .int .u8 0, .int .u8 0, .int .u8 0, .int .u8 0] 51
  have hf := findPlace_in s t k _ h1 hi hk
  obtain ⟨cap, hp, _, _⟩ := h1.pool
  have c1 := hp.cell? 1
  simp only [List.getElem?_cons_succ, List.getElem?_cons_zero, ptr] at c1
  have hR := diskRead_calls s.db s.bb s.n (s.vol t).xs[k]! _ _ _ s.bl _ _ _ rfl rfl h1.disk.disk h1.disk.data h1.disk.len hn (by have := h1.disk.small; omega)
  generalize (s.vol t).xs[k]! = yy at *
  generalize s.bl[yy]! = y at *
  clear h h1 hp
  go_enter Try.func20, Try.ntmps20
  go_wp2_with fail
  refine hf.mono ?_
  rintro e w' ⟨rfl, rfl⟩
  go_wp2_with fail
  refine hR.mono ?_
  rintro e w2 ⟨rfl, S2⟩
  have N1 := S2.at N0 (by simp)
  have S3 := S0.step S2 (by simp)
  have z0 : w2.cell? ⟨w.heap.size, 0, none⟩ = some (.int .u8 0) := N1.cell? 0
  have z1 : w2.cell? ⟨w.heap.size, 1, none⟩ = some (.int .u8 0) := N1.cell? 1
  have z2 : w2.cell? ⟨w.heap.size, 2, none⟩ = some (.int .u8 0) := N1.cell? 2
  have z3 : w2.cell? ⟨w.heap.size, 3, none⟩ = some (.int .u8 0) := N1.cell? 3
  have z4 : w2.cell? ⟨w.heap.size, 4, none⟩ = some (.int .u8 0) := N1.cell? 4
  have z5 : w2.cell? ⟨w.heap.size, 5, none⟩ = some (.int .u8 0) := N1.cell? 5
  have z6 : w2.cell? ⟨w.heap.size, 6, none⟩ = some (.int .u8 0) := N1.cell? 6
  have z7 : w2.cell? ⟨w.heap.size, 7, none⟩ = some (.int .u8 0) := N1.cell? 7
  have fz := N1.frozen
  unfold Blk.val
  obtain ⟨x0, x1, x2, x3, x4, x5, x6, x7⟩ := y
  clear hf hR c1 N0 S0 N1
  go_wp2
  refine bodyPost_ret (v := .tuple #[.agg #[.int .u8 x0, .int .u8 x1, .int .u8 x2, .int .u8 x3, .int .u8 x4, .int .u8 x5, .int .u8 x6, .int .u8 x7], .int .i64 0]) (by simp [results, Try.results20, go_sem, z0, z1, z2, z3, z4, z5, z6, z7]) rfl ⟨rfl, ?_⟩
  exact ((((((((S3.set w.heap.size _ _ (by simp)).set w.heap.size _ _ (by simp)).set w.heap.size _ _ (by simp)).set w.heap.size _ _ (by simp)).set w.heap.size _ _ (by simp)).set w.heap.size _ _ (by simp)).set w.heap.size _ _ (by simp)).set w.heap.size _ _ (by simp))
end Go.Proofs.Ytbidkjjklnacbaa
