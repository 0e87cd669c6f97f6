/- The program's state beside the document's own answer: what is new, and what is made longer or shorter. The program's state beside the document's own answer: a Write, and a Revert. The program's state beside the document's own answer: a Revert. A Pool: Resize, by contracts. A Pool: Resize, by contracts: a greater size. -/
import Derived.Test.YtpddgdjocffgdaaG31
import Derived.Test.YtpddgdjocffgdaaG15
import Derived.Test.YtpddgdjocffgdaaG21
import Derived.Test.YtpddgdjocffgdaaG10
import Derived.Test.YtpddgdjocffgdaaG11
namespace Go.Proofs.Ytpddgdjocffgdaa
set_option linter.unusedVariables false
set_option linter.unusedSimpArgs false
set_option linter.unusedSectionVars false
section
open Go.RowKit Go.Sort
variable [DecidableEq Blk] [Inhabited Blk] [Inhabited Vol]
theorem Good.room {s : St} {fr : List Nat} (hG : Good s fr) {t : ByteArray} (hi : s.has t = true) : s.m + (s.vol t).xs.length ≤ s.n := by
  obtain ⟨hmem, hname, hpos⟩ := St.has_mem hi
  have h1 := hG.parts.length_eq
  have h2 := hG.heap.len
  have h3 : (s.vol t).xs.length ≤ (s.vols.flatMap (·.xs)).length := by
    have := (delVol_perm (posOf s.names t) s.vols hpos).flatMap_right (·.xs)
    have := this.length_eq
    simp only [List.flatMap_cons, List.length_append] at this
    have e : s.vols[posOf s.names t]! = s.vol t := rfl
    rw [e] at this
    omega
  simp only [List.length_append, List.length_range] at h1
  omega
theorem PoolAt.apart {w : World} {s : St} (h : PoolAt w s) {v : Vol} (hv : v ∈ s.vols) : v.gb ∉ [s.db, s.bb, s.fb] ∧ v.vb ∉ [s.db, s.bb, s.fb] ∧ s.pb ≠ v.vb ∧ v.vb ≠ v.gb := by
  have key : ∀ k ∈ v.foot, k ∉ [s.db, s.bb, s.fb] ∧ s.pb ≠ k := fun k hk => by
    have := (apart_of h.nodup).disk v hv k hk
    simp only [List.mem_cons, not_or, List.not_mem_nil, not_false_eq_true, and_true] at this ⊢
    exact ⟨⟨this.2.1, this.2.2.1, this.2.2.2⟩, fun e => this.1 e.symm⟩
  have hn := (h.vols v hv).nodup
  simp only [Vol.foot, List.nodup_cons, List.mem_cons, not_or] at hn
  exact ⟨(key v.gb (by simp [Vol.foot])).1, (key v.vb (by simp [Vol.foot])).1, (key v.vb (by simp [Vol.foot])).2, hn.1.1⟩
end
end Go.Proofs.Ytpddgdjocffgdaa
