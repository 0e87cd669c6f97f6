/- A new disk and a new Pool, by contracts. -/
import Derived.Test.YtpddgdjocffgdaaPoolF
namespace Go.Proofs.Ytpddgdjocffgdaa
open Go.RowKit Go.Sort
set_option linter.unusedVariables false
set_option linter.unusedSimpArgs false
set_option linter.unusedSectionVars false
variable [DecidableEq Blk] [Inhabited Blk]
variable [Inhabited Vol]

def upRow (n k : Nat) : List Value := (List.range n).map fun j => Value.int .i64 (if j < k then (j : Int) else 0)
theorem upRow_set (n k : Nat) (h : k < n) : (upRow n k).set k (.int .i64 k) = upRow n (k + 1) := by
  apply List.ext_getElem?
  intro j
  unfold upRow
  rw [List.getElem?_set]
  simp only [List.length_map, List.length_range, List.getElem?_map]
  by_cases hj : k = j
  · subst hj
    rw [if_pos rfl, if_pos h, List.getElem?_range h]
    simp
  · rw [if_neg hj]
    by_cases hjn : j < n
    · rw [List.getElem?_range hjn]
      simp only [Option.map_some, Option.some.injEq, Value.int.injEq, true_and]
      by_cases h1 : j < k
      · rw [if_pos h1, if_pos (by omega)]
      · rw [if_neg h1, if_neg (by omega)]
    · rw [List.getElem?_eq_none (by simpa using hjn)]; rfl
theorem upRow_zero (n : Nat) : upRow n 0 = List.replicate n (.int .i64 0) := by
  unfold upRow
  rw [List.eq_replicate_iff]
  refine ⟨by simp, fun b hb => ?_⟩
  obtain ⟨j, _, rfl⟩ := List.mem_map.1 hb
  simp

set_option maxHeartbeats 400000 in
set_option maxRecDepth 100000 in
theorem upTo_calls (n : Nat) (w : World) (hn : n ≤ 200) :
    Calls Try.prog 115 #[.int .i64 n] w fun e w' => ∃ g, e = .returned (.slice (some ⟨g, 0, none⟩) n n) ∧ w.heap.size ≤ g ∧ At w' g 3 (upRow n n) ∧ Same [] w w' := by
  obtain ⟨i0, hi, hz0, hz1, hz2⟩ := info_parts Try.info3
  have hmk : (Instr.makeSlice 135 (.int .i64 (n : Int)) (.int .i64 (n : Int))).run Try.prog w = .ok (.slice (some ⟨w.heap.size, 0, none⟩) n n) (w.alloc (.cells (List.replicate n (Value.int .i64 0)).toArray 3)) := by
    have h := run_make (P := Try.prog) w 135 3 i0 (.int .i64 0) Try.underlying135 hi hz0 .i64 .i64 (n : Int) (n : Int) (by omega) (by omega) (by rw [hz2]; omega) (by omega)
    rw [hz1] at h
    have e : (madeCells (Value.int .i64 0).cells ((n : Int).toNat * 1)) = (List.replicate n (Value.int .i64 0)).toArray := by
      apply Array.toList_inj.1
      have := toList_madeCells_one (.int .i64 0) n
      simpa [Value.cells] using this
    rw [e] at h
    simpa using h
  have A0 := At.new w (List.replicate n (Value.int .i64 0)).toArray 3
  have S0 : Same [] w (w.alloc (.cells (List.replicate n (Value.int .i64 0)).toArray 3)) := (Same.refl _ _).alloc _
  go_enter Try.func115, Try.ntmps115
  generalize hL : (List.replicate n (Value.int .i64 0)).toArray = L at *
  go_wp2
  go_loopw [9] (fun i wr => ∃ k : Nat, k ≤ n ∧ i = .int .i64 k ∧ At wr w.heap.size 3 (upRow n k) ∧ Same [] w wr) (fun i _ => n - (intOf i).toNat)
  case atStart => exact ⟨0, Nat.zero_le _, rfl, by rw [upRow_zero]; rw [← hL] at A0 ⊢; simpa using A0, S0⟩
  case round =>
    obtain ⟨k, hk, rfl, hA, hS⟩ := hrel
    by_cases hkl : k < n
    · have ck : ∃ v, wr.cell? ⟨w.heap.size, k, none⟩ = some (.int .i64 v) := by
        refine ⟨0, ?_⟩
        rw [hA.cell?]
        unfold upRow
        rw [List.getElem?_map, List.getElem?_range hkl]
        simp
      obtain ⟨v, ck⟩ := ck
      have fk := hA.frozen k
      have A1 := hA.set_same k (.int .i64 k)
      rw [upRow_set n k hkl] at A1
      have S1 : Same [] w (wr.setCell ⟨w.heap.size, k, none⟩ (.int .i64 k)) := hS.set w.heap.size k _ (by simp)
      have l1 : (k : Int) < (n : Int) := by omega
      clear hA hS hmk
      go_wp2
      go_roundw
      case rel => exact ⟨k + 1, by omega, by go_num, A1, S1⟩
      case measure => simp [intOf]; omega
    · have ek : k = n := by omega
      subst ek
      clear hmk
      go_wp2
      go_ret
      exact ⟨w.heap.size, rfl, Nat.le_refl _, hA, hS⟩

theorem Try.info51 : (Try.prog.info? 55).map (fun i => (i.zero, i.size, i.bytes)) = some (some (.agg #[.int .u8 0, .int .u8 0, .int .u8 0, .int .u8 0, .int .u8 0, .int .u8 0, .int .u8 0, .int .u8 0]), 8, 8) := by kernel_rfl

theorem flat_zero (n : Nat) : flat (List.replicate n Blk.zero) = List.replicate (n * 8) (.int .u8 0) := by
  induction n with
  | zero => rfl
  | succ n ih =>
    rw [List.replicate_succ, flat, ih, show (n + 1) * 8 = 8 + n * 8 by omega, ← List.replicate_append_replicate]
    rfl
theorem made_blocks (n : Nat) : madeCells (Value.agg #[.int .u8 0, .int .u8 0, .int .u8 0, .int .u8 0, .int .u8 0, .int .u8 0, .int .u8 0, .int .u8 0]).cells (n * 8) = (flat (List.replicate n Blk.zero)).toArray := by
  apply Array.toList_inj.1
  rw [flat_zero]
  have hc : (Value.agg #[.int .u8 0, .int .u8 0, .int .u8 0, .int .u8 0, .int .u8 0, .int .u8 0, .int .u8 0, .int .u8 0]).cells = Array.replicate 8 (.int .u8 0) := rfl
  rw [hc]
  apply List.ext_getElem?
  intro j
  by_cases hj : j < n * 8
  · have hm : j % 8 < 8 := Nat.mod_lt _ (by omega)
    simp [madeCells, hj, hm]
  · simp [madeCells, hj]

def upArr (n : Nat) : Array Int := ((List.range n).map fun j : Nat => (j : Int)).toArray
theorem upArr_row (n : Nat) : (upArr n).toList.map (Value.int .i64) = upRow n n := by
  unfold upArr upRow
  simp only [List.map_map]
  apply List.map_congr_left
  intro j hj
  simp at hj
  simp [hj]

structure NewAt (w w' : World) (n db : Nat) : Prop where
  ex : ∃ bb fb, w.heap.size ≤ db ∧ w.heap.size ≤ bb ∧ w.heap.size ≤ fb ∧ DiskAt w' db bb fb n n (List.replicate n Blk.zero) (upArr n)
  same : Same [] w w'

set_option maxHeartbeats 400000 in
set_option maxRecDepth 100000 in
theorem new_calls (n : Nat) (w : World) (hn : n ≤ 200) :
    Calls Try.prog 89 #[.int .i64 n] w fun e w' => ∃ db, e = .returned (.pointer (some ⟨db, 0, none⟩)) ∧ NewAt w w' n db := by
  obtain ⟨i0, hi, hz0, hz1, hz2⟩ := info_parts Try.info51
  have hmk : ∀ W : World, (Instr.makeSlice 52 (.int .i64 (n : Int)) (.int .i64 (n : Int))).run Try.prog W = .ok (.slice (some ⟨W.heap.size, 0, none⟩) n n) (W.alloc (.cells (flat (List.replicate n Blk.zero)).toArray 55)) := fun W => by
    have h := run_make (P := Try.prog) W 52 55 i0 _ Try.underlying52 hi hz0 .i64 .i64 (n : Int) (n : Int) (by omega) (by omega) (by rw [hz2]; omega) (by omega)
    rw [hz1] at h
    have e : ((n : Int).toNat * 8) = n * 8 := by simp
    rw [e, made_blocks] at h
    simpa using h
  generalize hL : (flat (List.replicate n Blk.zero)).toArray = L at *
  go_enter Try.func89, Try.ntmps89
  go_wp2
  go_region_with (go_at_call 115; refine (upTo_calls n _ hn).mono ?_; rintro e w2 ⟨fb, rfl, hfb, hA2, hS2⟩)
  · have B1 := hS2.at (At.new w L 55).drew (by simp)
    have N1 := At.new w2 #[Value.slice (some ⟨w.heap.size, 0, none⟩) n n, Value.slice (some ⟨fb, 0, none⟩) n n] 137
    have hsz := hS2.size
    have lb1 := B1.lt
    have lf1 := hA2.lt
    simp at hsz hfb
    go_wp2
    go_ret
    refine ⟨w2.heap.size, rfl, ⟨w.heap.size, fb, by omega, Nat.le_refl _, by omega, ⟨N1, ?_, ?_, by omega, by omega, by omega, by simp, by simp [upArr], Nat.le_refl _, hn⟩⟩, ((((Same.refl _ _).alloc _).drew).step hS2 (by simp)).alloc _⟩
    · have := B1.alloc (.cells #[Value.slice (some ⟨w.heap.size, 0, none⟩) n n, Value.slice (some ⟨fb, 0, none⟩) n n] 137)
      rw [← hL] at this
      simpa using this
    · rw [upArr_row]; exact hA2.alloc _
  · have B1 := (At.new w2 L 55).alloc (.cells #[Value.slice (some ⟨w2.heap.size, 0, none⟩) n n, Value.slice (some ⟨fb, 0, none⟩) n n] 137)
    have N1 := At.new (w2.alloc (.cells L 55)) #[Value.slice (some ⟨w2.heap.size, 0, none⟩) n n, Value.slice (some ⟨fb, 0, none⟩) n n] 137
    have hsz := hS2.size
    have lf1 := hA2.lt
    simp at hsz hfb
    go_wp2
    go_ret
    refine ⟨w2.heap.size + 1, rfl, ⟨w2.heap.size, fb, by omega, by omega, by omega, ⟨?_, ?_, ?_, by omega, by omega, by omega, by simp, by simp [upArr], Nat.le_refl _, hn⟩⟩, ((((Same.refl _ _).drew).step hS2 (by simp)).alloc _).alloc _⟩
    · simpa using N1
    · rw [← hL] at B1 ⊢
      simpa using B1
    · rw [upArr_row]; exact (hA2.alloc _).alloc _

theorem upArr_get (n j : Nat) (h : j < n) : (upArr n)[j]! = (j : Int) := by
  unfold upArr
  rw [getElem!_pos _ j (by simpa using h)]
  simp
theorem upArr_heap (n : Nat) : HeapIs n (upArr n) (List.range n) := by
  refine ⟨by simp [upArr], fun j h1 h2 => ?_, fun i j hi hj e => ?_, fun i hi => ?_, fun x hx => ?_, List.pairwise_lt_range, by simp⟩
  · rw [upArr_get n _ (by omega), upArr_get n j h2]; omega
  · rw [upArr_get n i hi, upArr_get n j hj] at e; omega
  · exact ⟨i, List.mem_range.2 hi, upArr_get n i hi⟩
  · exact ⟨x, List.mem_range.1 hx, upArr_get n x (List.mem_range.1 hx)⟩

def newSt (pb db bb fb n : Nat) : St := ⟨pb, db, bb, fb, none, n, n, List.replicate n Blk.zero, upArr n, []⟩

theorem newSt_good (pb db bb fb n : Nat) : Good (newSt pb db bb fb n) (List.range n) :=
  ⟨upArr_heap n, by simp [newSt], fun x hx => by
    have hx' : x < n := List.mem_range.1 hx
    show (List.replicate n Blk.zero)[x]! = Blk.zero
    rw [getElem!_pos _ x (by simpa using hx')]; simp, by simp [newSt], fun v hv => by simp [newSt] at hv⟩

set_option maxHeartbeats 400000 in
theorem newPool_no (n : Int) (w : World) (hn : ¬ (1 ≤ n ∧ n ≤ 200)) :
    Calls Try.prog 46 #[.int .i64 n] w fun e w' => e = .returned (.tuple #[.pointer none, .int .i64 1]) ∧ w' = w := by
  have hC := isCount_calls n w
  rw [decide_eq_false hn] at hC
  have hnot : ∀ (x : Bool) (w : World), (Op.unary .not (.bool x)).run Try.prog w = .ok (.bool (!x)) w := fun _ _ => rfl
  clear hn
  go_enter Try.func46, Try.ntmps46
  go_wp2_with (go_at_call 51; refine hC.mono ?_; rintro e w' ⟨rfl, rfl⟩)
  go_ret2
  exact ⟨rfl, rfl⟩

structure PoolNew (w w' : World) (n pb : Nat) : Prop where
  ex : ∃ db bb fb, PoolAt w' (newSt pb db bb fb n) ∧ (∀ k ∈ (newSt pb db bb fb n).foot, w.heap.size ≤ k)
  same : Same [] w w'

set_option maxHeartbeats 400000 in
set_option maxRecDepth 100000 in
theorem newPoolOf_calls (db : Nat) (a : Option Addr) (n c : Nat) (w : World) :
    Calls Try.prog 88 #[.pointer (some ⟨db, 0, none⟩), .slice a n c] w fun e w' => e = .returned (.pointer (some ⟨w.heap.size, 0, none⟩)) ∧
      At w' w.heap.size 38 [ptr w.heap.size, ptr db, .slice a n c] ∧ Same [] w w' := by
  have N1 := At.new w #[.pointer (some ⟨w.heap.size, 0, none⟩), .pointer (some ⟨db, 0, none⟩), .slice a n c] 38
  have S1 : Same [] w (w.alloc (.cells #[.pointer (some ⟨w.heap.size, 0, none⟩), .pointer (some ⟨db, 0, none⟩), .slice a n c] 38)) := (Same.refl _ _).alloc _
  go_enter Try.func88, Try.ntmps88
  go_wp2
  go_ret
  exact ⟨rfl, N1, S1⟩

set_option maxHeartbeats 400000 in
set_option maxRecDepth 100000 in
theorem newPool_ok (n : Nat) (w : World) (hn : 1 ≤ n ∧ n ≤ 200) :
    Calls Try.prog 46 #[.int .i64 n] w fun e w' => ∃ pb, e = .returned (.tuple #[.pointer (some ⟨pb, 0, none⟩), .int .i64 0]) ∧ PoolNew w w' n pb := by
  have hC := isCount_calls n w
  rw [decide_eq_true (by omega : (1 : Int) ≤ n ∧ (n : Int) ≤ 200)] at hC
  have hnot : ∀ (x : Bool) (w : World), (Op.unary .not (.bool x)).run Try.prog w = .ok (.bool (!x)) w := fun _ _ => rfl
  go_enter Try.func46, Try.ntmps46
  go_wp2_with (first | (go_at_call 51; refine hC.mono ?_; rintro e w' ⟨rfl, rfl⟩) | (go_at_call 89; refine (new_calls n _ hn.2).mono ?_; rintro e w1 ⟨db, rfl, hN⟩) | (go_at_call 88; refine (newPoolOf_calls db none 0 0 _).mono ?_; rintro e w2 ⟨rfl, N1, S1⟩))
  go_ret2
  obtain ⟨⟨bb, fb, h1, h2, h3, hD⟩, hS⟩ := hN
  have ld := hD.disk.lt
  have lb := hD.data.lt
  have lf := hD.free.lt
  have hne1 := hD.ne1
  have hne2 := hD.ne2
  have hne3 := hD.ne3
  have hsz := hS.size
  refine ⟨w1.heap.size, rfl, ⟨db, bb, fb, ⟨⟨0, N1, Nat.le_refl _, fun _ => rfl⟩, by simp [newSt], hD.same S1 (by simp) (by simp) (by simp), by simp [newSt], ?_, by simp [newSt], by simp [newSt], by simp [newSt]⟩, ?_⟩, hS.step S1 (by simp)⟩
  · simp [newSt, St.foot]; omega
  · simp [newSt, St.foot]; omega
end Go.Proofs.Ytpddgdjocffgdaa
