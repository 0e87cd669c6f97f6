/- A Pool: Revert, by a contract. The statement Back: its Pool and its calls. The statement Back: what Revert leaves. The statement Back, by a contract. An image that is loaded, whole or with one byte changed. Again: what is wanted behind the first Load. -/
import Derived.Test.YtpddgdjocffgdaaG14
import Derived.Deep.RegionHeld3
import Derived.Test.YtpddgdjocffgdaaG11
import Derived.Test.YtpddgdjocffgdaaG13
namespace Go.Proofs.Ytpddgdjocffgdaa
set_option linter.unusedVariables false
set_option linter.unusedSimpArgs false
set_option linter.unusedSectionVars false
section
open Go.RowKit Go.Sort
variable [DecidableEq Blk] [Inhabited Blk] [Inhabited Vol]
/-- A Pool that the law made, at some point of its run. -/
structure Held (w : World) (pb : Nat) (wr : World) (s : St) (fr : List Nat) : Prop where
  pb : s.pb = pb
  pool : PoolAt wr s
  good : Good s fr
  foot : ∀ k ∈ s.foot, w.heap.size ≤ k
  same : Same [] w wr
theorem Held.next {w : World} {pb : Nat} {wr w' : World} {s s' : St} {fr fr' : List Nat} (h : Held w pb wr s fr) (hA : After wr s w' s' fr') : Held w pb w' s' fr' := by
  have hz := h.same.size
  refine ⟨hA.pb.trans h.pb, hA.pool, hA.good, fun k hk => ?_, h.same.step hA.same fun k hk hl => by have := h.foot k hk; omega⟩
  rcases hA.foot k hk with e | e
  · exact h.foot k e
  · omega
theorem Held.new {w : World} {pb : Nat} {wr w' : World} {s : St} {fr : List Nat} (h : Held w pb wr s fr) (hs : Same [] wr w') : Held w pb w' s fr :=
  h.next ((After.start h.pool h.good).new hs)
end
section
open Go.RowKit Go.Sort
variable [DecidableEq Blk] [Inhabited Blk] [Inhabited Vol] [Inhabited PEnt]
theorem imaged_of {w : World} {s : St} {fr : List Nat} (h : PoolAt w s) (hG : Good s fr) (hn : 1 ≤ s.n) (hf : ∀ x, x < s.n → (s.bl[x]!).fits) : Imaged s w := by
  have hn2 := h.disk.small
  refine ⟨h, fun v hv => ?_, fun v hv x hx => ?_, fun v hv x hx => ?_, hf⟩
  · have := hG.names v hv
    simp only [nameB, Bool.and_eq_true, decide_eq_true_eq] at this
    exact this.1.2
  · have := hG.lt.2 v hv x hx; omega
  · have ht := told_of h hG hn hv
    have := ht.kept.2 x hx
    have := ht.size.2
    omega
/-- A new list of bytes, for a reader of it. -/
theorem BytesNew.old {w w' : World} {g : Nat} {bs : List UInt8} (h : BytesNew w w' g bs) (hl : bs.length ≤ 140737488355328) : BytesOld w' (some ⟨g, 0, none⟩) bs := by
  obtain ⟨cs, hA, hc⟩ := h.ex
  refine ⟨fun _ => ⟨g, 0, rfl, hA.lt, fun i hi => ?_⟩, hl⟩
  rw [Nat.zero_add, hA.cell?]
  have : (cs.take bs.length)[i]? = cs[i]? := by rw [List.getElem?_take, if_pos hi]
  rw [← this, hc, List.getElem?_map, List.getElem?_eq_getElem hi, getElem!_pos bs i hi]
  rfl
/-- The text of a new list of bytes. -/
theorem BytesNew.text {w w' W : World} {g n : Nat} {bs : List UInt8} (h : BytesNew w w' g bs) (hS : Same [] w' W) (hn : bs.length = n) :
    Sem.run Try.prog (convert 25 9 (.slice (some ⟨g, 0, none⟩) n n)) W = .ok (.string ⟨bs.toArray⟩) W := by
  subst hn
  obtain ⟨cs, hA, hc⟩ := h.ex
  have hA' := hS.at hA (by simp)
  refine text_conv W g 0 bs.length bs rfl (fun i hi => ?_) bs.length
  rw [Nat.zero_add, hA'.cell?]
  have : (cs.take bs.length)[i]? = cs[i]? := by rw [List.getElem?_take, if_pos hi]
  rw [← this, hc, List.getElem?_map, List.getElem?_eq_getElem hi, getElem!_pos bs i hi]
  rfl
end
end Go.Proofs.Ytpddgdjocffgdaa
