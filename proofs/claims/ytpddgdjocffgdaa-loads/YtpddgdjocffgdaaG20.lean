/- The document's own answer: what a call leaves; Create that makes. The document's own answer: Picture, by contract. The document's own answer: Revert, by contract. The document's own answer: a place kept, a place told otherwise; Write to a picture, by contract. -/
import Derived.Test.YtpddgdjocffgdaaG19
namespace Go.Proofs.Ytpddgdjocffgdaa
set_option linter.unusedVariables false
set_option linter.unusedSimpArgs false
set_option linter.unusedSectionVars false
section
open Go.RowKit Go.Sort
variable [DecidableEq Blk] [Inhabited Blk] [Inhabited Vol] [Inhabited RVol]
/-- What a call leaves of the reference's Pool. -/
structure RAfter (w : World) (s : RSt) (w' : World) (s' : RSt) : Prop where
  ref : RefAt w' s'
  nodup : s'.foot.Nodup
  same : Same s.foot w w'
  foot : ∀ k ∈ s'.foot, k ∈ s.foot ∨ w.heap.size ≤ k
  rb : s'.rb = s.rb
  n : s'.n = s.n
theorem RAfter.still {w w' : World} {s : RSt} (h : RefAt w s) (hnd : s.foot.Nodup) (hs : Same [] w w') : RAfter w s w' s :=
  ⟨h.same0 hs, hnd, hs.mono (by simp), fun k hk => Or.inl hk, rfl, rfl⟩
theorem insR_foot (i : Nat) (v : RVol) (l : List RVol) : ((insR i v l).flatMap RVol.foot).Perm (v.foot ++ l.flatMap RVol.foot) := by
  have h : (insR i v l).Perm (v :: l) := by
    unfold insR
    exact List.perm_middle.trans (List.Perm.cons _ (by rw [List.take_append_drop]))
  have := h.flatMap_right (f := RVol.foot)
  simpa [List.flatMap_cons] using this
theorem RVolAt.types {w : World} {v : RVol} (h : RVolAt w v) : v.vb ≠ v.dg ∧ v.vb ≠ v.bg ∧ v.dg ≠ v.bg := by
  obtain ⟨dc, bc, kc, a1, a2, a3, _⟩ := h.ex
  obtain ⟨c2, b2, _⟩ := a2.ex
  obtain ⟨c3, b3, _⟩ := a3.ex
  refine ⟨fun e => ?_, fun e => ?_, fun e => ?_⟩
  · rw [← e] at b2; exact absurd (b2.inj a1).1 (by decide)
  · rw [← e] at b3; exact absurd (b3.inj a1).1 (by decide)
  · rw [← e] at b3; exact absurd (b3.inj b2).1 (by decide)
theorem RefAt.types {w : World} {s : RSt} (h : RefAt w s) {b : Nat} (hb : s.lg = some b) {v : RVol} (hv : v ∈ s.vols) : b ≠ v.vb ∧ b ≠ v.dg ∧ b ≠ v.bg := by
  obtain ⟨cs, hc, _⟩ := h.arr b hb
  obtain ⟨dc, bc, kc, a1, a2, a3, _⟩ := (h.vols v hv).ex
  obtain ⟨c2, b2, _⟩ := a2.ex
  obtain ⟨c3, b3, _⟩ := a3.ex
  refine ⟨fun e => ?_, fun e => ?_, fun e => ?_⟩
  · rw [← e] at a1; exact absurd (a1.inj hc).1 (by decide)
  · rw [← e] at b2; exact absurd (b2.inj hc).1 (by decide)
  · rw [← e] at b3; exact absurd (b3.inj hc).1 (by decide)
theorem insR_mem {i : Nat} {v x : RVol} {l : List RVol} : x ∈ insR i v l ↔ x = v ∨ x ∈ l := by
  have h : (insR i v l).Perm (v :: l) := by
    unfold insR
    exact List.perm_middle.trans (List.Perm.cons _ (by rw [List.take_append_drop]))
  rw [h.mem_iff, List.mem_cons]
/-- What 'add' leaves, seen from ahead of the volume's making. -/
theorem AddAt.after {w0 w w' : World} {s : RSt} {vb : Nat} {t of_ : ByteArray} {data : List ByteArray} {xs : List Nat} {p base : Nat} (hA : AddAt w w' s vb t of_ data xs p base) (h : RefAt w0 s) (hnd : s.foot.Nodup) (h0 : Same [] w0 w) (hvb : w0.heap.size ≤ vb) (hb : w0.heap.size ≤ base) :
    ∃ g bg dg, RAfter w0 s w' { s with lg := some g, vols := insR p ⟨vb, dg, bg, none, t, of_, data, xs, [], false⟩ s.vols } := by
  obtain ⟨⟨g, bg, dg, h1, h2, h3, h4, hR⟩, hS⟩ := hA
  have hs0 := h0.size
  have hm : (⟨vb, dg, bg, none, t, of_, data, xs, [], false⟩ : RVol) ∈ insR p ⟨vb, dg, bg, none, t, of_, data, xs, [], false⟩ s.vols := insR_mem.2 (Or.inl rfl)
  obtain ⟨t1, t2, t3⟩ := (hR.vols _ hm).types
  obtain ⟨t4, t5, t6⟩ := hR.types (b := g) rfl hm
  have hlt := h.foot_lt
  refine ⟨g, bg, dg, hR, ?_, ?_, ?_, rfl, rfl⟩
  · obtain ⟨p1, p2, p3, p4⟩ := RSt.foot_parts hnd
    unfold RSt.foot
    show (s.rb :: ([g] ++ (insR p ⟨vb, dg, bg, none, t, of_, data, xs, [], false⟩ s.vols).flatMap RVol.foot)).Nodup
    have hp := insR_foot p ⟨vb, dg, bg, none, t, of_, data, xs, [], false⟩ s.vols
    have hq : (s.rb :: ([g] ++ (insR p ⟨vb, dg, bg, none, t, of_, data, xs, [], false⟩ s.vols).flatMap RVol.foot)).Perm (s.rb :: ([g] ++ ([vb, dg, bg] ++ s.vols.flatMap RVol.foot))) :=
      List.Perm.cons _ (List.Perm.append_left _ (by simpa [RVol.foot] using hp))
    rw [hq.nodup_iff]
    have hold : ∀ k ∈ s.vols.flatMap RVol.foot, k < w0.heap.size := fun k hk => by
      obtain ⟨v, hv, hkv⟩ := List.mem_flatMap.1 hk
      exact hlt k (s.foot_vol hv hkv)
    have hrb := hlt _ s.foot_rb
    have ho : ∀ k, w0.heap.size ≤ k → k ∉ s.vols.flatMap RVol.foot := fun k hk hm => by have := hold k hm; omega
    have hrn : s.rb ∉ s.vols.flatMap RVol.foot := fun hm => by
      obtain ⟨v, hv, hkv⟩ := List.mem_flatMap.1 hm
      exact p2 v hv hkv
    have n1 := ho g (by omega)
    have n2 := ho vb hvb
    have n3 := ho dg (by omega)
    have n4 := ho bg (by omega)
    simp only [List.cons_append, List.nil_append, List.nodup_cons, List.mem_cons, not_or]
    simp only at t1 t2 t3 t4 t5 t6
    exact ⟨⟨by omega, by omega, by omega, by omega, hrn⟩, ⟨t4, t5, t6, n1⟩, ⟨t1, t2, n2⟩, ⟨t3, n3⟩, n4, p4⟩
  · refine (h0.mono (T := s.foot) (by simp)).step hS ?_
    intro k hk hl
    simp at hk
    rcases hk with rfl | rfl
    · exact s.foot_rb
    · omega
  · intro k hk
    rcases RSt.foot_cases hk with e | e | ⟨v, hv, hkv⟩
    · exact Or.inl (by rw [e]; exact s.foot_rb)
    · have : g = k := by simpa using e
      exact Or.inr (by omega)
    · rcases insR_mem.1 hv with rfl | hv
      · simp [RVol.foot] at hkv
        exact Or.inr (by omega)
      · exact Or.inl (s.foot_vol hv hkv)
theorem RAfter.trans {w0 w w' : World} {s s1 s2 : RSt} (h : RAfter w0 s w s1) (k : RAfter w s1 w' s2) : RAfter w0 s w' s2 := by
  refine ⟨k.ref, k.nodup, h.same.step k.same ?_, ?_, k.rb.trans h.rb, k.n.trans h.n⟩
  · intro x hx hl
    rcases h.foot x hx with e | e
    · exact e
    · omega
  · intro x hx
    rcases k.foot x hx with e | e
    · exact h.foot x e
    · exact Or.inr (Nat.le_trans h.same.size e)
/-- What keeping a place leaves of a picture of the reference. -/
def rkeep (k : Nat) (x : RVol) : List Nat × Bool := if k ∈ x.kept then (x.kept, x.lost) else if x.kept.length < x.blocks.length then (x.kept ++ [k], x.lost) else ([], true)
structure RSameK (v v1 : RVol) : Prop where
  vb : v1.vb = v.vb
  dg : v1.dg = v.dg
  bg : v1.bg = v.bg
  name : v1.name = v.name
  of_ : v1.of_ = v.of_
  data : v1.data = v.data
  blocks : v1.blocks = v.blocks
theorem RSameK.refl (v : RVol) : RSameK v v := ⟨rfl, rfl, rfl, rfl, rfl, rfl, rfl⟩
theorem TextsAt.set {w : World} {g cap : Nat} {l : List ByteArray} (h : TextsAt w g cap l) (k : Nat) (hk : k < l.length) (y : ByteArray) : TextsAt (w.setCell ⟨g, k, none⟩ (.string y)) g cap (l.set k y) := by
  obtain ⟨cs, h1, h2, h3, h4, h5⟩ := h.ex
  refine ⟨cs.set k (.string y), h1.set_same k _, by rw [List.length_set]; exact h2, ?_, by rw [List.length_set]; exact h4, h5⟩
  rw [List.length_set, List.take_set, h3, List.map_set]
theorem RefAt.cells {w : World} {s : RSt} (h : RefAt w s) {v : RVol} (hv : v ∈ s.vols) : w.cell? ⟨v.vb, 1, none⟩ = some (.string v.of_) ∧ (∃ dc, w.cell? ⟨v.vb, 2, none⟩ = some (.slice (some ⟨v.dg, 0, none⟩) v.data.length dc)) ∧ w.cell? ⟨v.vb, 5, none⟩ = some (.bool v.lost) := by
  obtain ⟨dc, bc, kc, a1, _⟩ := (h.vols v hv).ex
  exact ⟨a1.cell? 1, ⟨dc, a1.cell? 2⟩, a1.cell? 5⟩
end
end Go.Proofs.Ytpddgdjocffgdaa
