/- The document's own answer: Create up to add, by a contract. The document's own answer: what add refuses, by contracts. The document's own answer: what it has in memory; names compared; a volume put in its place. The document's own answer: add, by contract. The document's own answer: add to an empty list; Create that makes, by contract. The document's own answer: one volume told otherwise; Revert, by contract. -/
import Derived.Test.YtpddgdjocffgdaaG18
import Derived.Deep.RegionLawGrows
import Derived.Test.YtpddgdjocffgdaaG04
import Derived.Test.YtpddgdjocffgdaaG11
namespace Go.Proofs.Ytpddgdjocffgdaa
set_option linter.unusedVariables false
set_option linter.unusedSimpArgs false
set_option linter.unusedSectionVars false
section
open Go.RowKit Go.Sort
variable [DecidableEq Blk] [Inhabited Blk] [Inhabited Vol] [Inhabited RVol]
theorem Try.infoStr : (Try.prog.info? 9).map (fun i => (i.zero, i.size, i.bytes)) = some (some (.string ⟨#[]⟩), 1, 16) := by kernel_rfl
def RVol.foot (v : RVol) : List Nat := v.vb :: v.dg :: v.bg :: v.kg.toList
def RSt.foot (s : RSt) : List Nat := s.rb :: (s.lg.toList ++ s.vols.flatMap RVol.foot)
theorem RSt.foot_rb (s : RSt) : s.rb ∈ s.foot := by simp [RSt.foot]
theorem RSt.foot_lg (s : RSt) {b : Nat} (h : s.lg = some b) : b ∈ s.foot := by simp [RSt.foot, h]
theorem RSt.foot_vol (s : RSt) {v : RVol} (hv : v ∈ s.vols) {k : Nat} (hk : k ∈ v.foot) : k ∈ s.foot := by
  simp only [RSt.foot, List.mem_cons, List.mem_append, List.mem_flatMap]
  exact Or.inr (Or.inr ⟨v, hv, hk⟩)
theorem RSt.foot_cases {s : RSt} {k : Nat} (h : k ∈ s.foot) : k = s.rb ∨ s.lg = some k ∨ ∃ v ∈ s.vols, k ∈ v.foot := by
  simp only [RSt.foot, List.mem_cons, List.mem_append, List.mem_flatMap, Option.mem_toList] at h
  rcases h with h | h | h
  · exact Or.inl h
  · exact Or.inr (Or.inl (by simpa using h))
  · exact Or.inr (Or.inr h)
theorem RVolAt.sameF {w w' : World} {v : RVol} (h : RVolAt w v) {S : List Nat} (hs : Same S w w') (hd : ∀ k ∈ v.foot, k ∉ S) : RVolAt w' v := by
  obtain ⟨dc, bc, kc, a1, a2, a3, a4, a5⟩ := h.ex
  refine ⟨⟨dc, bc, kc, hs.at a1 (hd _ (by simp [RVol.foot])), a2.same hs (hd _ (by simp [RVol.foot])), a3.same hs (hd _ (by simp [RVol.foot])), a4, fun g hg => (a5 g hg).same hs (hd _ (by simp [RVol.foot, hg]))⟩, h.data, h.blocks, h.kept⟩
theorem RVolAt.foot_lt {w : World} {v : RVol} (h : RVolAt w v) : ∀ k ∈ v.foot, k < w.heap.size := by
  obtain ⟨dc, bc, kc, a1, a2, a3, a4, a5⟩ := h.ex
  intro k hk
  simp only [RVol.foot, List.mem_cons, Option.mem_toList] at hk
  rcases hk with rfl | rfl | rfl | hk
  · exact a1.lt
  · obtain ⟨cs, h1, _⟩ := a2.ex; exact h1.lt
  · exact a3.lt
  · exact (a5 k (by simpa using hk)).lt
theorem RefAt.sameF {w w' : World} {s : RSt} (h : RefAt w s) {S : List Nat} (hs : Same S w w') (hd : ∀ k ∈ s.foot, k ∉ S) : RefAt w' s := by
  obtain ⟨cap, hp, h1, h2⟩ := h.pool
  refine ⟨⟨cap, hs.at hp (hd _ s.foot_rb), h1, h2⟩, fun b hb => ?_, fun v hv => (h.vols v hv).sameF hs fun k hk => hd k (s.foot_vol hv hk), h.few, h.n⟩
  obtain ⟨cs, hc, h3⟩ := h.arr b hb
  exact ⟨cs, hs.at hc (hd _ (s.foot_lg hb)), h3⟩
theorem RefAt.foot_lt {w : World} {s : RSt} (h : RefAt w s) : ∀ k ∈ s.foot, k < w.heap.size := by
  intro k hk
  rcases RSt.foot_cases hk with rfl | hb | ⟨v, hv, hk⟩
  · obtain ⟨cap, hp, _⟩ := h.pool; exact hp.lt
  · obtain ⟨cs, hc, _⟩ := h.arr k hb; exact hc.lt
  · exact (h.vols v hv).foot_lt k hk
/-- A new volume of the reference, with its blocks, in its place. -/
def insR (i : Nat) (v : RVol) (l : List RVol) : List RVol := l.take i ++ v :: l.drop i
structure AddAt (w w' : World) (s : RSt) (vb : Nat) (t of_ : ByteArray) (data : List ByteArray) (xs : List Nat) (p base : Nat) : Prop where
  ex : ∃ g bg dg, w.heap.size ≤ g ∧ w.heap.size ≤ bg ∧ base ≤ dg ∧ g ≠ bg ∧ RefAt w' { s with lg := some g, vols := insR p ⟨vb, dg, bg, none, t, of_, data, xs, [], false⟩ s.vols }
  same : Same [s.rb, vb] w w'
theorem getRv {l : List RVol} {i : Nat} (h : i < l.length) : l[i]! ∈ l := by
  rw [getElem!_pos l i h]; exact List.getElem_mem h
theorem RSt.foot_parts {s : RSt} (h : s.foot.Nodup) : s.rb ∉ s.lg.toList ∧ (∀ v ∈ s.vols, s.rb ∉ v.foot) ∧ (∀ b, s.lg = some b → ∀ v ∈ s.vols, b ∉ v.foot) ∧ (s.vols.flatMap RVol.foot).Nodup := by
  unfold RSt.foot at h
  rw [List.nodup_cons, List.nodup_append] at h
  obtain ⟨h1, h2, h3, h4⟩ := h
  simp only [List.mem_append, not_or, List.mem_flatMap, not_exists, not_and] at h1
  refine ⟨h1.1, fun v hv hk => h1.2 v hv hk, fun b hb v hv hk => ?_, h3⟩
  exact h4 b (by simp [hb]) b (List.mem_flatMap.2 ⟨v, hv, hk⟩) rfl
end
end Go.Proofs.Ytpddgdjocffgdaa
