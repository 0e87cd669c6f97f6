/- The document's own answer: what a call leaves; Create that makes. The document's own answer: Picture, by contract. The document's own answer: Revert, by contract. The document's own answer: a place kept, a place told otherwise; Write to a picture, by contract. -/
import Derived.Test.YtpddgdjocffgdaaG19
namespace Go.Proofs.Ytpddgdjocffgdaa
section PartRefS
open Go.RowKit Go.Sort
set_option linter.unusedVariables false
set_option linter.unusedSimpArgs false
set_option linter.unusedSectionVars false
variable [DecidableEq Blk] [Inhabited Blk]
variable [Inhabited Vol]
variable [Inhabited RVol]

/-- What a call leaves of the reference's Pool. -/
structure RAfter (w : World) (s : RSt) (w' : World) (s' : RSt) : Prop where
  ref : RefAt w' s'
  nodup : s'.foot.Nodup
  same : Same s.foot w w'
  foot : ∀ k ∈ s'.foot, k ∈ s.foot ∨ w.heap.size ≤ k
  rb : s'.rb = s.rb
  n : s'.n = s.n
theorem RAfter.still {w w' : World} {s : RSt} (h : RefAt w s) (hnd : s.foot.Nodup) (hs : Same [] w w') : RAfter w s w' s :=
  ⟨h.same0 hs, hnd, hs.mono (by simp), fun k hk => Or.inl hk, rfl, rfl⟩
theorem insR_foot (i : Nat) (v : RVol) (l : List RVol) : ((insR i v l).flatMap RVol.foot).Perm (v.foot ++ l.flatMap RVol.foot) := by
  have h : (insR i v l).Perm (v :: l) := by
    unfold insR
    exact List.perm_middle.trans (List.Perm.cons _ (by rw [List.take_append_drop]))
  have := h.flatMap_right (f := RVol.foot)
  simpa [List.flatMap_cons] using this

theorem RVolAt.types {w : World} {v : RVol} (h : RVolAt w v) : v.vb ≠ v.dg ∧ v.vb ≠ v.bg ∧ v.dg ≠ v.bg := by
  obtain ⟨dc, bc, kc, a1, a2, a3, _⟩ := h.ex
  obtain ⟨c2, b2, _⟩ := a2.ex
  obtain ⟨c3, b3, _⟩ := a3.ex
  refine ⟨fun e => ?_, fun e => ?_, fun e => ?_⟩
  · rw [← e] at b2; exact absurd (b2.inj a1).1 (by decide)
  · rw [← e] at b3; exact absurd (b3.inj a1).1 (by decide)
  · rw [← e] at b3; exact absurd (b3.inj b2).1 (by decide)
theorem RefAt.types {w : World} {s : RSt} (h : RefAt w s) {b : Nat} (hb : s.lg = some b) {v : RVol} (hv : v ∈ s.vols) : b ≠ v.vb ∧ b ≠ v.dg ∧ b ≠ v.bg := by
  obtain ⟨cs, hc, _⟩ := h.arr b hb
  obtain ⟨dc, bc, kc, a1, a2, a3, _⟩ := (h.vols v hv).ex
  obtain ⟨c2, b2, _⟩ := a2.ex
  obtain ⟨c3, b3, _⟩ := a3.ex
  refine ⟨fun e => ?_, fun e => ?_, fun e => ?_⟩
  · rw [← e] at a1; exact absurd (a1.inj hc).1 (by decide)
  · rw [← e] at b2; exact absurd (b2.inj hc).1 (by decide)
  · rw [← e] at b3; exact absurd (b3.inj hc).1 (by decide)

theorem insR_mem {i : Nat} {v x : RVol} {l : List RVol} : x ∈ insR i v l ↔ x = v ∨ x ∈ l := by
  have h : (insR i v l).Perm (v :: l) := by
    unfold insR
    exact List.perm_middle.trans (List.Perm.cons _ (by rw [List.take_append_drop]))
  rw [h.mem_iff, List.mem_cons]

/-- What 'add' leaves, seen from ahead of the volume's making. -/
theorem AddAt.after {w0 w w' : World} {s : RSt} {vb : Nat} {t of_ : ByteArray} {data : List ByteArray} {xs : List Nat} {p base : Nat} (hA : AddAt w w' s vb t of_ data xs p base) (h : RefAt w0 s) (hnd : s.foot.Nodup) (h0 : Same [] w0 w) (hvb : w0.heap.size ≤ vb) (hb : w0.heap.size ≤ base) :
    ∃ g bg dg, RAfter w0 s w' { s with lg := some g, vols := insR p ⟨vb, dg, bg, none, t, of_, data, xs, [], false⟩ s.vols } := by
  obtain ⟨⟨g, bg, dg, h1, h2, h3, h4, hR⟩, hS⟩ := hA
  have hs0 := h0.size
  have hm : (⟨vb, dg, bg, none, t, of_, data, xs, [], false⟩ : RVol) ∈ insR p ⟨vb, dg, bg, none, t, of_, data, xs, [], false⟩ s.vols := insR_mem.2 (Or.inl rfl)
  obtain ⟨t1, t2, t3⟩ := (hR.vols _ hm).types
  obtain ⟨t4, t5, t6⟩ := hR.types (b := g) rfl hm
  have hlt := h.foot_lt
  refine ⟨g, bg, dg, hR, ?_, ?_, ?_, rfl, rfl⟩
  · obtain ⟨p1, p2, p3, p4⟩ := RSt.foot_parts hnd
    unfold RSt.foot
    show (s.rb :: ([g] ++ (insR p ⟨vb, dg, bg, none, t, of_, data, xs, [], false⟩ s.vols).flatMap RVol.foot)).Nodup
    have hp := insR_foot p ⟨vb, dg, bg, none, t, of_, data, xs, [], false⟩ s.vols
    have hq : (s.rb :: ([g] ++ (insR p ⟨vb, dg, bg, none, t, of_, data, xs, [], false⟩ s.vols).flatMap RVol.foot)).Perm (s.rb :: ([g] ++ ([vb, dg, bg] ++ s.vols.flatMap RVol.foot))) :=
      List.Perm.cons _ (List.Perm.append_left _ (by simpa [RVol.foot] using hp))
    rw [hq.nodup_iff]
    have hold : ∀ k ∈ s.vols.flatMap RVol.foot, k < w0.heap.size := fun k hk => by
      obtain ⟨v, hv, hkv⟩ := List.mem_flatMap.1 hk
      exact hlt k (s.foot_vol hv hkv)
    have hrb := hlt _ s.foot_rb
    have ho : ∀ k, w0.heap.size ≤ k → k ∉ s.vols.flatMap RVol.foot := fun k hk hm => by have := hold k hm; omega
    have hrn : s.rb ∉ s.vols.flatMap RVol.foot := fun hm => by
      obtain ⟨v, hv, hkv⟩ := List.mem_flatMap.1 hm
      exact p2 v hv hkv
    have n1 := ho g (by omega)
    have n2 := ho vb hvb
    have n3 := ho dg (by omega)
    have n4 := ho bg (by omega)
    simp only [List.cons_append, List.nil_append, List.nodup_cons, List.mem_cons, not_or]
    simp only at t1 t2 t3 t4 t5 t6
    exact ⟨⟨by omega, by omega, by omega, by omega, hrn⟩, ⟨t4, t5, t6, n1⟩, ⟨t1, t2, n2⟩, ⟨t3, n3⟩, n4, p4⟩
  · refine (h0.mono (T := s.foot) (by simp)).step hS ?_
    intro k hk hl
    simp at hk
    rcases hk with rfl | rfl
    · exact s.foot_rb
    · omega
  · intro k hk
    rcases RSt.foot_cases hk with e | e | ⟨v, hv, hkv⟩
    · exact Or.inl (by rw [e]; exact s.foot_rb)
    · have : g = k := by simpa using e
      exact Or.inr (by omega)
    · rcases insR_mem.1 hv with rfl | hv
      · simp [RVol.foot] at hkv
        exact Or.inr (by omega)
      · exact Or.inl (s.foot_vol hv hkv)

/-- A place in the list for a new name. -/
structure PlaceR (s : RSt) (t : ByteArray) (p : Nat) : Prop where
  le : p ≤ s.vols.length
  lt : ∀ j, j < p → cmpB (s.vols[j]!).name t < 0
  ge : p < s.vols.length → ¬ cmpB (s.vols[p]!).name t < 0
end PartRefS

section PartRefT
open Go.RowKit Go.Sort
set_option linter.unusedVariables false
set_option linter.unusedSimpArgs false
set_option linter.unusedSectionVars false
variable [DecidableEq Blk] [Inhabited Blk]
variable [Inhabited Vol]
variable [Inhabited RVol]

theorem empty_bytes {x : ByteArray} (h : x ≠ ⟨#[]⟩) : x.toList.isEmpty = false := by
  have hq := bytes_beq x ⟨#[]⟩
  rw [decide_eq_false h] at hq
  rw [← hq, Bool.eq_iff_iff, List.isEmpty_iff, beq_iff_eq]
  have e0 : (⟨#[]⟩ : ByteArray).toList = [] := by simp
  rw [e0]

theorem texts_one : ∀ (l : List ByteArray), ∀ u ∈ l.map Value.string, u.oneCell' = true := fun l u hu => by
  obtain ⟨v, _, rfl⟩ := List.mem_map.1 hu; rfl
end PartRefT

section PartRefU
open Go.RowKit Go.Sort
set_option linter.unusedVariables false
set_option linter.unusedSimpArgs false
set_option linter.unusedSectionVars false
variable [DecidableEq Blk] [Inhabited Blk]
variable [Inhabited Vol]
variable [Inhabited RVol]

theorem sub_flatR (f : RVol → List Nat) {a b : List RVol} (h : a.Sublist b) : (a.flatMap f).Sublist (b.flatMap f) := by
  induction h with
  | slnil => exact List.Sublist.refl _
  | cons x _ ih => simp only [List.flatMap_cons]; exact ih.trans (List.sublist_append_right _ _)
  | cons_cons x _ ih => simp only [List.flatMap_cons]; exact List.Sublist.append (List.Sublist.refl _) ih

/-- What a list of fewer has in memory. -/
theorem foot_filter (s : RSt) (lg : Option Nat) (vs : List RVol) (hs : vs.Sublist s.vols) {B : Nat} (hl : ∀ b, lg = some b → B ≤ b) : ∀ k ∈ RSt.foot { s with lg := lg, vols := vs }, k ∈ s.foot ∨ B ≤ k := by
  intro k hk
  rcases RSt.foot_cases hk with e | e | ⟨v, hv, hkv⟩
  · exact Or.inl (by rw [e]; exact s.foot_rb)
  · exact Or.inr (hl k e)
  · exact Or.inl (s.foot_vol (hs.subset hv) hkv)
theorem nodup_filter (s : RSt) (lg : Option Nat) (vs : List RVol) (hs : vs.Sublist s.vols) (hnd : s.foot.Nodup) {B : Nat} (hB : ∀ k ∈ s.foot, k < B) (hl : ∀ b, lg = some b → B ≤ b) : (RSt.foot { s with lg := lg, vols := vs }).Nodup := by
  obtain ⟨p1, p2, p3, p4⟩ := RSt.foot_parts hnd
  have hsub : (vs.flatMap RVol.foot).Sublist (s.vols.flatMap RVol.foot) := sub_flatR _ hs
  unfold RSt.foot
  show (s.rb :: (lg.toList ++ vs.flatMap RVol.foot)).Nodup
  have hrb := hB _ s.foot_rb
  rw [List.nodup_cons, List.nodup_append]
  refine ⟨fun hm => ?_, by cases lg <;> simp, p4.sublist hsub, fun a ha b hb e => ?_⟩
  · rcases List.mem_append.1 hm with hm | hm
    · have := hl s.rb (by simpa using hm); omega
    · obtain ⟨v, hv, hkv⟩ := List.mem_flatMap.1 (hsub.subset hm)
      exact p2 v hv hkv
  · subst e
    have := hl a (by simpa using ha)
    obtain ⟨v, hv, hkv⟩ := List.mem_flatMap.1 (hsub.subset hb)
    have := hB a (s.foot_vol hv hkv)
    omega
theorem without_sub (s : RSt) (t : ByteArray) (k : Nat) : (s.without t k).Sublist s.vols := List.filter_sublist.trans (List.take_sublist _ _)

theorem filter_set_skip (p : RVol → Bool) : ∀ (l : List RVol) (i : Nat) (x : RVol), i < l.length → p x = false → p (l[i]!) = false → (l.set i x).filter p = l.filter p
  | [], i, x, hi, _, _ => by simp at hi
  | a :: r, 0, x, hi, hx, ha => by
    have ha' : p a = false := by simpa using ha
    rw [List.set_cons_zero, List.filter_cons, List.filter_cons, if_neg (by rw [hx]; simp), if_neg (by rw [ha']; simp)]
  | a :: r, i + 1, x, hi, hx, ha => by
    have hi' : i < r.length := by simpa using hi
    have e : (a :: r)[i + 1]! = r[i]! := by rw [getElem!_pos _ (i + 1) hi, getElem!_pos r i hi']; rfl
    rw [e] at ha
    rw [List.set_cons_succ, List.filter_cons, List.filter_cons, filter_set_skip p r i x hi' hx ha]

theorem revert_foot {w : World} {s : RSt} {iv io : Nat} {v o : RVol} (h : RefAt w s) (hiv : iv < s.vols.length) (hio : io < s.vols.length) (hv : s.vols[iv]! = v) (ho : s.vols[io]! = o) {t : ByteArray} :
    ∀ k ∈ (RSt.without { s with vols := s.vols.set io { o with dg := v.dg, data := v.data } } t s.vols.length).flatMap RVol.foot, k ∈ s.foot := by
  intro k hk
  have hvm : v ∈ s.vols := by rw [← hv]; exact getRv hiv
  have hom : o ∈ s.vols := by rw [← ho]; exact getRv hio
  obtain ⟨x, hx, hkx⟩ := List.mem_flatMap.1 hk
  have hx' : x ∈ s.vols.set io { o with dg := v.dg, data := v.data } := (without_sub _ _ _).subset hx
  rcases setR_mem hio hx' with rfl | ⟨j, hj, _, rfl⟩
  · simp only [RVol.foot, List.mem_cons] at hkx
    rcases hkx with e | e | e | e
    · exact s.foot_vol hom (by rw [e]; simp [RVol.foot])
    · exact s.foot_vol hvm (by rw [e]; simp [RVol.foot])
    · exact s.foot_vol hom (by rw [e]; simp [RVol.foot])
    · exact s.foot_vol hom (by simp only [RVol.foot, List.mem_cons]; exact Or.inr (Or.inr (Or.inr e)))
  · exact s.foot_vol (getRv hj) hkx

/-- The data of a picture become its origin's, and the picture goes: no block belongs to two. -/
theorem revert_nodup {w : World} {s : RSt} {iv io : Nat} {v o : RVol} (h : RefAt w s) (hnd : s.foot.Nodup) (hiv : iv < s.vols.length) (hio : io < s.vols.length) (hne : iv ≠ io) (hv : s.vols[iv]! = v) (ho : s.vols[io]! = o) {t : ByteArray} (hnm : v.name = t) (lg : Option Nat) (hlg : ∀ b, lg = some b → w.heap.size ≤ b) :
    (RSt.foot { s with lg := lg, vols := RSt.without { s with vols := s.vols.set io { o with dg := v.dg, data := v.data } } t s.vols.length }).Nodup := by
  have hlt := h.foot_lt
  have hfresh : w.heap.size ∉ s.foot := fun hm => by have := hlt _ hm; omega
  have hvm : v ∈ s.vols := by rw [← hv]; exact getRv hiv
  have hom : o ∈ s.vols := by rw [← ho]; exact getRv hio
  obtain ⟨p1, p2, p3, p4⟩ := RSt.foot_parts hnd
  have hvn : v.foot.Nodup := (flat_apart RVol.foot s.vols p4).1 v hvm
  have hon : o.foot.Nodup := (flat_apart RVol.foot s.vols p4).1 o hom
  -- first the picture's data lie elsewhere
  have n1 : (RSt.foot { s with vols := s.vols.set iv { v with dg := w.heap.size } }).Nodup := by
    refine nodup_setR hnd iv hiv _ ?_ ?_
    · have hvl := (h.vols v hvm).foot_lt
      simp only [RVol.foot, List.nodup_cons, List.mem_cons, not_or] at hvn ⊢
      have l1 := hvl v.vb (by simp [RVol.foot])
      have l2 := hvl v.bg (by simp [RVol.foot])
      refine ⟨⟨by omega, hvn.1.2.1, hvn.1.2.2⟩, ⟨by omega, fun hm => ?_⟩, hvn.2.2⟩
      have := hvl w.heap.size (by simp only [RVol.foot, List.mem_cons]; exact Or.inr (Or.inr (Or.inr hm)))
      omega
    · intro k hk
      rw [hv]
      simp only [RVol.foot, List.mem_cons] at hk ⊢
      rcases hk with e | e | e | e
      · exact Or.inl (Or.inl e)
      · exact Or.inr (by rw [e]; exact hfresh)
      · exact Or.inl (Or.inr (Or.inr (Or.inl e)))
      · exact Or.inl (Or.inr (Or.inr (Or.inr e)))
  have hio1 : io < (RSt.vols { s with vols := s.vols.set iv { v with dg := w.heap.size } }).length := by show io < (s.vols.set iv _).length; rw [List.length_set]; exact hio
  have ho1 : (RSt.vols { s with vols := s.vols.set iv { v with dg := w.heap.size } })[io]! = o := by
    show (s.vols.set iv _)[io]! = o
    rw [getElem!_pos _ io (by rw [List.length_set]; exact hio), List.getElem_set, if_neg hne, ← ho, getElem!_pos s.vols io hio]
  have hdg : v.dg ∉ RSt.foot { s with vols := s.vols.set iv { v with dg := w.heap.size } } := fun hm => by
    rcases RSt.foot_cases hm with e | e | ⟨x, hx, hkx⟩
    · exact p2 v hvm (by show s.rb ∈ _; have : v.dg = s.rb := e; rw [← this]; simp [RVol.foot])
    · exact p3 v.dg e v hvm (by simp [RVol.foot])
    · rcases setR_mem hiv hx with rfl | ⟨j, hj, hjne, rfl⟩
      · simp only [RVol.foot, List.nodup_cons, List.mem_cons, not_or] at hvn hkx
        have l1 := (h.vols v hvm).foot_lt v.dg (by simp [RVol.foot])
        rcases hkx with e | e | e | e
        · exact hvn.1.1 e.symm
        · omega
        · exact hvn.2.1.1 e
        · exact hvn.2.1.2 e
      · exact rfoot_apart hnd hiv hj (fun e => hjne e.symm) (k := v.dg) (by rw [hv]; simp [RVol.foot]) hkx
  have n2 : (RSt.foot { s with vols := (s.vols.set iv { v with dg := w.heap.size }).set io { o with dg := v.dg, data := v.data } }).Nodup := by
    refine nodup_setR n1 io hio1 { o with dg := v.dg, data := v.data } ?_ ?_
    · simp only [RVol.foot, List.nodup_cons, List.mem_cons, not_or] at hon ⊢
      have hap : ∀ k ∈ o.foot, k ≠ v.dg := fun k hk e => rfoot_apart hnd hio hiv (fun q => hne q.symm) (k := k) (by rw [ho]; exact hk) (by rw [hv, e]; simp [RVol.foot])
      refine ⟨⟨hap _ (by simp [RVol.foot]), hon.1.2.1, hon.1.2.2⟩, ⟨fun e => hap o.bg (by simp [RVol.foot]) e.symm, fun hm => hap v.dg (by simp only [RVol.foot, List.mem_cons]; exact Or.inr (Or.inr (Or.inr hm))) rfl⟩, hon.2.2⟩
    · intro k hk
      rw [ho1]
      simp only [RVol.foot, List.mem_cons] at hk ⊢
      rcases hk with e | e | e | e
      · exact Or.inl (Or.inl e)
      · exact Or.inr (by rw [e]; exact hdg)
      · exact Or.inl (Or.inr (Or.inr (Or.inl e)))
      · exact Or.inl (Or.inr (Or.inr (Or.inr e)))
  have hB2 : ∀ k ∈ RSt.foot { s with vols := (s.vols.set iv { v with dg := w.heap.size }).set io { o with dg := v.dg, data := v.data } }, k < w.heap.size + 1 := by
    intro k hk
    rcases RSt.foot_cases hk with e | e | ⟨x, hx, hkx⟩
    · have := hlt _ s.foot_rb; have : k = s.rb := e; omega
    · have := hlt _ (s.foot_lg e); omega
    · rcases setR_mem hio1 hx with rfl | ⟨j, hj, hjne, rfl⟩
      · simp only [RVol.foot, List.mem_cons] at hkx
        have hol := (h.vols o hom).foot_lt
        have hvl := (h.vols v hvm).foot_lt
        rcases hkx with e | e | e | e
        · have := hol o.vb (by simp [RVol.foot]); omega
        · have := hvl v.dg (by simp [RVol.foot]); omega
        · have := hol o.bg (by simp [RVol.foot]); omega
        · have := hol k (by simp only [RVol.foot, List.mem_cons]; exact Or.inr (Or.inr (Or.inr e))); omega
      · have hj' : j < s.vols.length := by have : j < (s.vols.set iv _).length := hj; rw [List.length_set] at this; exact this
        have hkx' : k ∈ ((s.vols.set iv { v with dg := w.heap.size })[j]!).foot := hkx
        rw [getElem!_pos _ j (by rw [List.length_set]; exact hj'), List.getElem_set] at hkx'
        by_cases e : iv = j
        · rw [if_pos e] at hkx'
          simp only [RVol.foot, List.mem_cons] at hkx'
          have hvl := (h.vols v hvm).foot_lt
          rcases hkx' with e | e | e | e
          · have := hvl v.vb (by simp [RVol.foot]); omega
          · omega
          · have := hvl v.bg (by simp [RVol.foot]); omega
          · have := hvl k (by simp only [RVol.foot, List.mem_cons]; exact Or.inr (Or.inr (Or.inr e))); omega
        · rw [if_neg e] at hkx'
          have := hlt k (s.foot_vol (List.getElem_mem hj') hkx'); omega
  have hsub : (RSt.without { s with vols := s.vols.set io { o with dg := v.dg, data := v.data } } t s.vols.length).Sublist ((s.vols.set iv { v with dg := w.heap.size }).set io { o with dg := v.dg, data := v.data }) := by
    have e : RSt.without { s with vols := s.vols.set io { o with dg := v.dg, data := v.data } } t s.vols.length = ((s.vols.set iv { v with dg := w.heap.size }).set io { o with dg := v.dg, data := v.data }).filter fun x => decide (¬ x.name = t) := by
      unfold RSt.without
      show ((s.vols.set io _).take s.vols.length).filter _ = _
      rw [List.take_of_length_le (by rw [List.length_set]; omega), List.set_comm _ _ hne]
      refine (filter_set_skip _ _ iv _ (by rw [List.length_set]; exact hiv) (by simp [hnm]) ?_).symm
      rw [getElem!_pos _ iv (by rw [List.length_set]; exact hiv), List.getElem_set, if_neg (fun e => hne e.symm)]
      have : s.vols[iv] = v := by rw [← hv, getElem!_pos s.vols iv hiv]
      rw [this]
      simp [hnm]
    rw [e]
    exact List.filter_sublist
  have n3 := nodup_filter { s with vols := (s.vols.set iv { v with dg := w.heap.size }).set io { o with dg := v.dg, data := v.data } } none _ hsub n2 hB2 (by simp)
  have hfl := revert_foot h hiv hio hv ho (t := t)
  cases lg with
  | none => exact n3
  | some b =>
    have hb := hlg b rfl
    have hrb := hlt _ s.foot_rb
    have n4 : (s.rb :: ([] ++ (RSt.without { s with vols := s.vols.set io { o with dg := v.dg, data := v.data } } t s.vols.length).flatMap RVol.foot)).Nodup := n3
    show (s.rb :: ([b] ++ (RSt.without { s with vols := s.vols.set io { o with dg := v.dg, data := v.data } } t s.vols.length).flatMap RVol.foot)).Nodup
    simp only [List.nil_append, List.cons_append, List.nodup_cons, List.mem_cons, not_or] at n4 ⊢
    exact ⟨⟨by omega, n4.1⟩, fun hm => by have := hlt _ (hfl b hm); omega, n4.2⟩
end PartRefU

section PartRefV
open Go.RowKit Go.Sort
set_option linter.unusedVariables false
set_option linter.unusedSimpArgs false
set_option linter.unusedSectionVars false
variable [DecidableEq Blk] [Inhabited Blk]
variable [Inhabited Vol]
variable [Inhabited RVol]

theorem RAfter.trans {w0 w w' : World} {s s1 s2 : RSt} (h : RAfter w0 s w s1) (k : RAfter w s1 w' s2) : RAfter w0 s w' s2 := by
  refine ⟨k.ref, k.nodup, h.same.step k.same ?_, ?_, k.rb.trans h.rb, k.n.trans h.n⟩
  · intro x hx hl
    rcases h.foot x hx with e | e
    · exact e
    · omega
  · intro x hx
    rcases k.foot x hx with e | e
    · exact h.foot x e
    · exact Or.inr (Nat.le_trans h.same.size e)

/-- What keeping a place leaves of a picture of the reference. -/
def rkeep (k : Nat) (x : RVol) : List Nat × Bool := if k ∈ x.kept then (x.kept, x.lost) else if x.kept.length < x.blocks.length then (x.kept ++ [k], x.lost) else ([], true)
structure RSameK (v v1 : RVol) : Prop where
  vb : v1.vb = v.vb
  dg : v1.dg = v.dg
  bg : v1.bg = v.bg
  name : v1.name = v.name
  of_ : v1.of_ = v.of_
  data : v1.data = v.data
  blocks : v1.blocks = v.blocks
theorem RSameK.refl (v : RVol) : RSameK v v := ⟨rfl, rfl, rfl, rfl, rfl, rfl, rfl⟩
theorem setR_self {l : List RVol} {i : Nat} {v : RVol} (hi : i < l.length) (hv : l[i]! = v) : l.set i v = l := by
  rw [← hv, getElem!_pos l i hi, List.set_getElem_self]

theorem TextsAt.set {w : World} {g cap : Nat} {l : List ByteArray} (h : TextsAt w g cap l) (k : Nat) (hk : k < l.length) (y : ByteArray) : TextsAt (w.setCell ⟨g, k, none⟩ (.string y)) g cap (l.set k y) := by
  obtain ⟨cs, h1, h2, h3, h4, h5⟩ := h.ex
  refine ⟨cs.set k (.string y), h1.set_same k _, by rw [List.length_set]; exact h2, ?_, by rw [List.length_set]; exact h4, h5⟩
  rw [List.length_set, List.take_set, h3, List.map_set]

/-- A place of one told otherwise. -/
theorem ref_data {w : World} {s : RSt} {i k : Nat} {v : RVol} (h : RefAt w s) (hnd : s.foot.Nodup) (hi : i < s.vols.length) (hv : s.vols[i]! = v) (hk : k < v.data.length) (y : ByteArray) :
    RAfter w s (w.setCell ⟨v.dg, k, none⟩ (.string y)) { s with vols := s.vols.set i { v with data := v.data.set k y } } := by
  have hm : v ∈ s.vols := by rw [← hv]; exact getRv hi
  have hV := h.vols v hm
  have hvf : v.foot.Nodup := (flat_apart RVol.foot s.vols (RSt.foot_parts hnd).2.2.2).1 v hm
  have S1 : Same [v.dg] w (w.setCell ⟨v.dg, k, none⟩ (.string y)) := (Same.refl _ _).set _ _ _ (by simp)
  obtain ⟨dc, bc, kc, a1, a2, a3, a4, a5⟩ := hV.ex
  have hvf' := hvf
  simp only [RVol.foot, List.nodup_cons, List.mem_cons, not_or] at hvf'
  have V1 : RVolAt (w.setCell ⟨v.dg, k, none⟩ (.string y)) { v with data := v.data.set k y } := by
    refine ⟨⟨dc, bc, kc, ?_, a2.set k hk y, a3.same S1 (by simpa using fun e => hvf'.2.1.1 e.symm), a4, fun g hg => (a5 g hg).same S1 ?_⟩, by rw [List.length_set]; exact hV.data, hV.blocks, hV.kept⟩
    · have := S1.at a1 (by simpa using hvf'.1.1)
      simpa using this
    · simp
      intro e
      have hg' : v.kg = some g := hg
      exact hvf'.2.1.2 (by rw [hg', e]; simp)
  refine ⟨ref_set h hnd i hi _ (by rw [hv]) V1 S1 (by rw [hv]; simp [RVol.foot]), nodup_setR hnd i hi _ hvf (fun x hx => by rw [hv]; exact Or.inl hx), S1.mono ?_, foot_setR i hi _ fun x hx => by rw [hv]; exact Or.inl hx, rfl, rfl⟩
  intro x hx _
  simp at hx
  rw [hx]
  exact s.foot_vol hm (by simp [RVol.foot])

theorem set_getR {l : List RVol} {i : Nat} {v : RVol} (hi : i < l.length) : (l.set i v)[i]! = v := by
  rw [getElem!_pos _ i (by rw [List.length_set]; exact hi), List.getElem_set, if_pos rfl]

theorem RefAt.cells {w : World} {s : RSt} (h : RefAt w s) {v : RVol} (hv : v ∈ s.vols) : w.cell? ⟨v.vb, 1, none⟩ = some (.string v.of_) ∧ (∃ dc, w.cell? ⟨v.vb, 2, none⟩ = some (.slice (some ⟨v.dg, 0, none⟩) v.data.length dc)) ∧ w.cell? ⟨v.vb, 5, none⟩ = some (.bool v.lost) := by
  obtain ⟨dc, bc, kc, a1, _⟩ := (h.vols v hv).ex
  exact ⟨a1.cell? 1, ⟨dc, a1.cell? 2⟩, a1.cell? 5⟩
end PartRefV
end Go.Proofs.Ytpddgdjocffgdaa
