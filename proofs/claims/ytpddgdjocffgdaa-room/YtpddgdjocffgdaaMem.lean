/- Words for memory: a block's whole content, and what a call leaves as it was. -/
import Derived.WalkKit
import Derived.Sort.WalkC
namespace Go.Proofs.Ytpddgdjocffgdaa
open Go.RowKit Go.Sort
set_option linter.unusedVariables false
set_option linter.unusedSimpArgs false
set_option linter.unusedSectionVars false

/-- Block b holds just these cells, none of them frozen. -/
def At (w : World) (b : Nat) (t : TypeId) (cs : List Value) : Prop := w.heap[b]? = some (.cells cs.toArray t (0, 0))

theorem At.lt {w : World} {b : Nat} {t : TypeId} {cs : List Value} (h : At w b t cs) : b < w.heap.size := by
  unfold At at h
  rcases Nat.lt_or_ge b w.heap.size with h' | h'
  · exact h'
  · rw [Array.getElem?_eq_none h'] at h; cases h
theorem At.cell? {w : World} {b : Nat} {t : TypeId} {cs : List Value} (h : At w b t cs) (i : Nat) : w.cell? ⟨b, i, none⟩ = cs[i]? := by
  unfold At at h
  simp [World.cell?, h]
theorem At.frozen {w : World} {b : Nat} {t : TypeId} {cs : List Value} (h : At w b t cs) (i : Nat) : w.frozen? ⟨b, i, none⟩ = false := by
  unfold At at h
  simp [World.frozen?, h]
theorem At.of_heap {w w' : World} {b : Nat} {t : TypeId} {cs : List Value} (h : At w b t cs) (e : w'.heap[b]? = w.heap[b]?) : At w' b t cs := by
  unfold At at *; rw [e]; exact h
theorem At.drewN {w : World} {b : Nat} {t : TypeId} {cs : List Value} (h : At w b t cs) (q : Nat) : At (w.drewN q) b t cs := h
theorem At.drew {w : World} {b : Nat} {t : TypeId} {cs : List Value} (h : At w b t cs) : At w.drew b t cs := h
theorem At.alloc {w : World} {b : Nat} {t : TypeId} {cs : List Value} (h : At w b t cs) (o : Obj) : At (w.alloc o) b t cs :=
  h.of_heap (Below.heap_alloc w o b h.lt)
theorem At.new (w : World) (c : Array Value) (t : TypeId) : At (w.alloc (.cells c t)) w.heap.size t c.toList := by
  show (w.heap.push _)[w.heap.size]? = _
  simp
theorem At.set_same {w : World} {b : Nat} {t : TypeId} {cs : List Value} (h : At w b t cs) (i : Nat) (v : Value) : At (w.setCell ⟨b, i, none⟩ v) b t (cs.set i v) := by
  unfold At at *
  simp [World.setCell, Array.getElem?_modify, h]
theorem At.set_other {w : World} {b : Nat} {t : TypeId} {cs : List Value} (h : At w b t cs) (b' i : Nat) (v : Value) (hne : b ≠ b') : At (w.setCell ⟨b', i, none⟩ v) b t cs :=
  h.of_heap (Below.heap_setCell w _ v b hne)
theorem At.inj {w : World} {b : Nat} {t t' : TypeId} {cs cs' : List Value} (h : At w b t cs) (h' : At w b t' cs') : t = t' ∧ cs = cs' := by
  unfold At at h h'
  rw [h] at h'
  simp only [Option.some.injEq, Obj.cells.injEq] at h'
  obtain ⟨a, b, _⟩ := h'
  exact ⟨b, by simpa using a⟩

/-- A row of the sort's words. -/
theorem At.holds {w : World} {b : Nat} {t : TypeId} {d : Array Int} {k : IntKind} (h : At w b t (d.toList.map (Value.int k))) : Holds (Value.int k) w b 0 d := by
  intro j hj
  refine ⟨?_, h.frozen _⟩
  rw [h.cell?, Nat.zero_add, List.getElem?_map, Array.getElem?_toList, getElem!_pos d j hj, Array.getElem?_eq_getElem hj]
  rfl
theorem At.putRow_same {w : World} {b : Nat} {t : TypeId} {d d' : Array Int} {k : IntKind} (h : At w b t (d.toList.map (Value.int k))) (hs : d'.size = d.size) : At (putRow (Value.int k) w b 0 d') b t (d'.toList.map (Value.int k)) := by
  unfold At at *
  simp only [putRow, mapBlock, Array.getElem?_modify, h, if_true, Option.map_some, onCells]
  congr 2
  apply Array.ext_getElem?
  intro i
  simp only [putCells, Array.getElem?_mapIdx]
  by_cases hi : i < d.size
  · simp [hs, hi, getElem!_pos d' i (by omega)]
  · simp [hs, hi]
theorem At.putRow_other {w : World} {b : Nat} {t : TypeId} {cs : List Value} (h : At w b t cs) {α : Type} [Inhabited α] (enc : α → Value) (b' off : Nat) (d : Array α) (hne : b ≠ b') : At (putRow enc w b' off d) b t cs := by
  refine h.of_heap ?_
  simp only [putRow, mapBlock, Array.getElem?_modify]
  rw [if_neg (by omega)]

/-- All that was there is as it was, but for the blocks of S. -/
structure Same (S : List Nat) (w w' : World) : Prop where
  os : w'.os = w.os
  tape : w'.tape = w.tape
  output : w'.output = w.output
  size : w.heap.size ≤ w'.heap.size
  block : ∀ k, k < w.heap.size → k ∉ S → w'.heap[k]? = w.heap[k]?

theorem Same.refl (S : List Nat) (w : World) : Same S w w := ⟨rfl, rfl, rfl, Nat.le_refl _, fun _ _ _ => rfl⟩
theorem Same.trans {S T : List Nat} {a b c : World} (h : Same S a b) (k : Same T b c) : Same (S ++ T) a c :=
  ⟨k.os.trans h.os, k.tape.trans h.tape, k.output.trans h.output, Nat.le_trans h.size k.size, fun i hi hn => by
    simp only [List.mem_append, not_or] at hn
    exact (k.block i (Nat.lt_of_lt_of_le hi h.size) hn.2).trans (h.block i hi hn.1)⟩
/-- A greater list; blocks that were not there yet do not count. -/
theorem Same.mono {S T : List Nat} {a b : World} (h : Same S a b) (hs : ∀ k, k ∈ S → k < a.heap.size → k ∈ T) : Same T a b :=
  ⟨h.os, h.tape, h.output, h.size, fun i hi hn => h.block i hi fun hm => hn (hs i hm hi)⟩
theorem Same.step {S T : List Nat} {a b c : World} (h : Same S a b) (k : Same T b c) (ht : ∀ k, k ∈ T → k < a.heap.size → k ∈ S) : Same S a c :=
  (h.trans k).mono fun i hi hl => by
    rcases List.mem_append.1 hi with hi | hi
    · exact hi
    · exact ht i hi hl
theorem Same.drewN {S : List Nat} {a b : World} (h : Same S a b) (q : Nat) : Same S a (b.drewN q) := ⟨h.os, h.tape, h.output, h.size, h.block⟩
theorem Same.drew {S : List Nat} {a b : World} (h : Same S a b) : Same S a b.drew := ⟨h.os, h.tape, h.output, h.size, h.block⟩
theorem Same.alloc {S : List Nat} {a b : World} (h : Same S a b) (o : Obj) : Same S a (b.alloc o) :=
  h.step (T := []) ⟨rfl, rfl, rfl, by simp, fun k hk _ => Below.heap_alloc _ _ _ hk⟩ (by simp)
theorem Same.set {S : List Nat} {a b : World} (h : Same S a b) (k i : Nat) (v : Value) (hk : k < a.heap.size → k ∈ S) : Same S a (b.setCell ⟨k, i, none⟩ v) :=
  h.step (T := [k]) ⟨rfl, rfl, rfl, by simp, fun j _ hn => Below.heap_setCell _ _ _ _ (by simpa using hn)⟩ (by simpa using hk)
theorem Same.putRow {S : List Nat} {a b : World} (h : Same S a b) {α : Type} [Inhabited α] (enc : α → Value) (k off : Nat) (d : Array α) (hk : k < a.heap.size → k ∈ S) : Same S a (putRow enc b k off d) := by
  refine h.step (T := [k]) ⟨rfl, rfl, rfl, by simp [Sort.putRow, mapBlock], fun j _ hn => ?_⟩ (by simpa using hk)
  simp only [Sort.putRow, mapBlock, Array.getElem?_modify]
  rw [if_neg (by simp at hn; omega)]
theorem Same.grown {S : List Nat} {a b c : World} (h : Same S a b) {row : Option Nat} (hg : b.grownBy c row) (hk : ∀ k, row = some k → k < a.heap.size → k ∈ S) : Same S a c :=
  h.step (T := row.toList) ⟨hg.os, hg.tape, hg.output, hg.size, fun k hk hn => hg.block k hk (by simpa using fun e : some k = row => hn (by simp [← e]))⟩ (fun k hk' => hk k (by simpa using hk'))
theorem Same.at {S : List Nat} {a b : World} (h : Same S a b) {k : Nat} {t : TypeId} {cs : List Value} (hA : At a k t cs) (hn : k ∉ S) : At b k t cs := hA.of_heap (h.block k hA.lt hn)
theorem Same.below {S : List Nat} {a b : World} (h : Same S a b) {B : Nat} (hB : B ≤ a.heap.size) (hs : ∀ k, k ∈ S → B ≤ k) : Below B a b :=
  ⟨h.os, h.tape, h.output, h.size, fun k hk => h.block k (by omega) fun hm => by have := hs k hm; omega⟩
end Go.Proofs.Ytpddgdjocffgdaa
