/- What stands everywhere: when a picture is written at a place that it keeps; when something comes. -/
import Derived.Test.YtpddgdjocffgdaaPoolW
namespace Go.Proofs.Ytpddgdjocffgdaa
open Go.RowKit Go.Sort
set_option linter.unusedVariables false
set_option linter.unusedSimpArgs false
set_option linter.unusedSectionVars false
variable [DecidableEq Blk] [Inhabited Blk]
variable [Inhabited Vol]

theorem kept_looks {w : World} {s : St} {fr : List Nat} (h : PoolAt w s) (hG : Good s fr) (i : Nat) (v : Vol) (k : Nat) (b : Blk) (hi : i < s.vols.length) (hv : s.vols[i]! = v) (hk : k ∈ v.kept) (j : Nat) (hj : j < s.vols.length) (q : Nat) (hq : q < s.size (s.vols[j]!)) :
    St.look { s with bl := s.bl.set v.xs[v.kept.idxOf k]! b } (s.vols[j]!) q = if j = i ∧ q = k then b else s.look (s.vols[j]!) q := by
  have hmem : v ∈ s.vols := by rw [← hv]; exact get_mem hi
  have hil : v.kept.idxOf k < v.xs.length := Nat.lt_of_lt_of_le (idxOf_lt hk) (h.vols v hmem).room
  have hy : v.xs[v.kept.idxOf k]! ∈ v.xs := mem_getElem! hil
  have hyl : v.xs[v.kept.idxOf k]! < s.bl.length := by rw [h.disk.len]; exact hG.lt.2 v hmem _ hy
  have ho : v.org ≠ none := fun e => by rw [(h.vols v hmem).kept_nil e] at hk; simp at hk
  unfold St.look
  rw [holder_bl]
  by_cases hh : s.holder (s.vols[j]!) q = v.xs[v.kept.idxOf k]!
  · rw [hh]
    show (s.bl.set v.xs[v.kept.idxOf k]! b)[v.xs[v.kept.idxOf k]!]! = _
    rw [get_set_eq b hyl]
    suffices hs : j = i ∧ q = k by rw [if_pos hs]
    by_cases hm : q ∈ (s.vols[j]!).kept
    · have e : s.holder (s.vols[j]!) q = (s.vols[j]!).xs[(s.vols[j]!).kept.idxOf q]! := by unfold St.holder; rw [if_pos hm]
      have hjl : (s.vols[j]!).kept.idxOf q < (s.vols[j]!).xs.length := Nat.lt_of_lt_of_le (idxOf_lt hm) (h.vols _ (get_mem hj)).room
      have hin : v.xs[v.kept.idxOf k]! ∈ (s.vols[j]!).xs := by rw [← hh, e]; exact mem_getElem! hjl
      have hji : j = i := by
        by_cases hji : j = i
        · exact hji
        · exact absurd (by rw [hv]; exact hy) (hG.xs_apart hj hi hji hin)
      subst hji
      refine ⟨rfl, ?_⟩
      rw [hv] at e hm hjl
      rw [hv, e] at hh
      have hnd := hG.xs_nodup hmem
      rw [getElem!_pos v.xs _ hjl, getElem!_pos v.xs _ hil] at hh
      have hidx := (List.getElem_inj (h₀ := hjl) (h₁ := hil) hnd).1 hh
      have a := idxOf_get hm
      have c := idxOf_get hk
      rw [hidx] at a
      exact a.symm.trans c
    · exfalso
      have e : s.holder (s.vols[j]!) q = (s.orgOf (s.vols[j]!)).xs[q]! := by unfold St.holder; rw [if_neg hm]
      obtain ⟨o1, o2, o3, o4⟩ := h.orgOf (get_mem hj)
      obtain ⟨m, hm2, em⟩ := mem_index o1
      have hqm : q < (s.vols[m]!).xs.length := by rw [em]; exact hq
      have hin : v.xs[v.kept.idxOf k]! ∈ (s.vols[m]!).xs := by rw [← hh, e, ← em]; exact mem_getElem! hqm
      have hmi : m ≠ i := fun e2 => ho (by rw [← hv, ← e2, em]; exact o2)
      exact hG.xs_apart hm2 hi hmi hin (by rw [hv]; exact hy)
  · have hlt : s.holder (s.vols[j]!) q < s.bl.length := by rw [h.disk.len]; exact holder_lt h hG (get_mem hj) hq
    show (s.bl.set v.xs[v.kept.idxOf k]! b)[s.holder (s.vols[j]!) q]! = _
    rw [get_set_ne b hh hlt, if_neg]
    rintro ⟨rfl, rfl⟩
    apply hh
    unfold St.holder
    rw [hv, if_pos hk]

/-- Something came: all that was there holds what it held. -/
theorem orgOf_more {w w' : World} {s s' : St} (h : PoolAt w s) (h' : PoolAt w' s') (hsub : ∀ v ∈ s.vols, v ∈ s'.vols) {u : Vol} (hu : u ∈ s.vols) : s'.orgOf u = s.orgOf u := by
  obtain ⟨o1, o2, o3, o4⟩ := h.orgOf hu
  cases ho : u.org with
  | none => rw [o3 ho]; unfold St.orgOf; rw [ho]
  | some b =>
    have e := o4 (by rw [ho]; simp)
    rw [ho] at e
    have e2 : b = (s.orgOf u).vb := by simpa using e
    have := h'.volAt (hsub _ o1)
    rw [← e2] at this
    rw [← this]
    conv => lhs; unfold St.orgOf
    rw [ho]
theorem look_more {w w' : World} {s s' : St} (h : PoolAt w s) (h' : PoolAt w' s') (hsub : ∀ v ∈ s.vols, v ∈ s'.vols) (hbl : s'.bl = s.bl) {u : Vol} (hu : u ∈ s.vols) (q : Nat) : s'.look u q = s.look u q ∧ s'.size u = s.size u := by
  have e := orgOf_more h h' hsub hu
  refine ⟨?_, ?_⟩
  · unfold St.look St.holder; rw [e, hbl]
  · unfold St.size; rw [e]
/-- A new picture holds what its origin holds. -/
theorem look_new {w w' : World} {s s' : St} (h : PoolAt w s) (h' : PoolAt w' s') (hsub : ∀ v ∈ s.vols, v ∈ s'.vols) (hbl : s'.bl = s.bl) {u v : Vol} (hu : u ∈ s.vols) (hu0 : u.org = none) (hv : v ∈ s'.vols) (ho : v.org = some u.vb) (hk : v.kept = []) (q : Nat) : s'.look v q = s.look u q ∧ s'.size v = s.size u := by
  have e : s'.orgOf v = u := by unfold St.orgOf; rw [ho]; exact h'.volAt (hsub u hu)
  have e2 : s.orgOf u = u := (h.orgOf hu).2.2.1 hu0
  have e3 := (h.vols u hu).kept_nil hu0
  refine ⟨?_, ?_⟩
  · unfold St.look St.holder
    rw [e, e2, hk, e3, hbl]
    simp
  · unfold St.size; rw [e, e2]
theorem insVol_get (m j : Nat) (v : Vol) (l : List Vol) (hm : m ≤ l.length) (hj : j ≤ l.length) : (insVol m v l)[j]! = if j < m then l[j]! else if j = m then v else l[j - 1]! := by
  have hlen : (insVol m v l).length = l.length + 1 := by unfold insVol; simp; omega
  rw [getElem!_pos _ j (by omega)]
  unfold insVol
  by_cases h1 : j < m
  · rw [if_pos h1, List.getElem_append_left (by simp; omega), List.getElem_take, getElem!_pos l j (by omega)]
  · rw [if_neg h1]
    have ht : (l.take m).length = m := by simp; omega
    by_cases h2 : j = m
    · subst h2
      rw [if_pos rfl, List.getElem_append_right (by omega)]
      simp [ht]
    · rw [if_neg h2, List.getElem_append_right (by omega), getElem!_pos l (j - 1) (by omega)]
      obtain ⟨d, rfl⟩ : ∃ d, j = m + 1 + d := ⟨j - m - 1, by omega⟩
      simp only [ht, show m + 1 + d - m = d + 1 by omega, List.getElem_cons_succ, List.getElem_drop]
      congr 1
      omega
end Go.Proofs.Ytpddgdjocffgdaa
