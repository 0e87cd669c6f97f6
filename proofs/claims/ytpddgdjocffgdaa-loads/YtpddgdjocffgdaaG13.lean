/- A byte that is another changes the sum. A Pool and the one that was loaded from its image hold the same. All blocks are bytes, where all that can be read is. A Pool: Write, by contracts, up to what writes. A Pool: writeVolume, by a contract. A Pool: what a Write of a volume leaves, in what stands everywhere. A Pool: writePicture, by contracts. A Pool: Write, by contracts: what it leaves. What stands everywhere: when a picture is written at a place that it keeps; when something comes. -/
import Derived.Test.YtpddgdjocffgdaaG12
import Derived.Test.YtpddgdjocffgdaaG03
import Derived.Test.YtpddgdjocffgdaaG11
namespace Go.Proofs.Ytpddgdjocffgdaa
set_option linter.unusedVariables false
set_option linter.unusedSimpArgs false
set_option linter.unusedSectionVars false
section
open Go.RowKit Go.Sort
variable [DecidableEq Blk] [Inhabited Blk] [Inhabited Vol] [Inhabited PEnt]
structure AlikeV (s s' : St) (i : Nat) : Prop where
  name : (s'.vols[i]!).name = (s.vols[i]!).name
  xs : (s'.vols[i]!).xs = (s.vols[i]!).xs
  kept : (s'.vols[i]!).kept = (s.vols[i]!).kept
  lost : (s'.vols[i]!).lost = (s.vols[i]!).lost
  none : (s'.vols[i]!).org = none ↔ (s.vols[i]!).org = none
  org : ∃ j, j < s.vols.length ∧ s.orgOf (s.vols[i]!) = s.vols[j]! ∧ s'.orgOf (s'.vols[i]!) = s'.vols[j]!
/-- Two Pools that hold the same. -/
structure Alike (s s' : St) : Prop where
  n : s'.n = s.n
  bl : s'.bl = s.bl
  len : s'.vols.length = s.vols.length
  vol : ∀ i, i < s.vols.length → AlikeV s s' i
theorem Alike.names {s s' : St} (h : Alike s s') : s'.names = s.names := by
  unfold St.names
  apply List.ext_getElem
  · rw [List.length_map, List.length_map, h.len]
  · intro i h1 h2
    rw [List.length_map] at h1 h2
    have := (h.vol i h2).name
    rw [getElem!_pos _ i h1, getElem!_pos _ i h2] at this
    rw [List.getElem_map, List.getElem_map]
    exact this
theorem Alike.size {s s' : St} (h : Alike s s') (i : Nat) (hi : i < s.vols.length) : s'.size (s'.vols[i]!) = s.size (s.vols[i]!) := by
  obtain ⟨j, hj, e1, e2⟩ := (h.vol i hi).org
  unfold St.size
  rw [e1, e2, (h.vol j hj).xs]
theorem Alike.look {s s' : St} (h : Alike s s') (i : Nat) (hi : i < s.vols.length) (k : Nat) : s'.look (s'.vols[i]!) k = s.look (s.vols[i]!) k := by
  obtain ⟨j, hj, e1, e2⟩ := (h.vol i hi).org
  unfold St.look St.holder
  rw [e1, e2, (h.vol j hj).xs, (h.vol i hi).xs, (h.vol i hi).kept, h.bl]
end
section
open Go.RowKit Go.Sort
variable [DecidableEq Blk] [Inhabited Blk] [Inhabited Vol]
theorem holder_bl (s : St) (bl : List Blk) (v : Vol) (q : Nat) : St.holder { s with bl := bl } v q = s.holder v q := rfl
theorem Base.bl {s s' : St} (h : Base s s') (bl : List Blk) : Base s { s' with bl := bl } := ⟨h.len, h.same, h.lost⟩
/-- A place of a volume written: what stands everywhere. -/
theorem vol_looks {w w' : World} {s s1 : St} {fr : List Nat} {k iu : Nat} {u : Vol} {b : Blk} (h : PoolAt w s) (hiu : iu < s.vols.length) (hu : s.vols[iu]! = u) (hu0 : u.org = none) (hk : k < u.xs.length)
    (hK : Kept s s1 k (fun v => v.org = some u.vb)) (h' : PoolAt w' { s1 with bl := s1.bl.set u.xs[k]! b }) (hG' : Good { s1 with bl := s1.bl.set u.xs[k]! b } fr) (j : Nat) (hj : j < s.vols.length) (hl : (s1.vols[j]!).lost = false) (q : Nat) (hq : q < s.size (s.vols[j]!)) :
    St.look { s1 with bl := s1.bl.set u.xs[k]! b } (s1.vols[j]!) q = if j = iu ∧ q = k then b else s.look (s.vols[j]!) q := by
  have hlen := hK.base.len
  have hiu1 : iu < s1.vols.length := by rw [hlen]; exact hiu
  have hj1 : j < s1.vols.length := by rw [hlen]; exact hj
  obtain ⟨e1, e2, e3, e4⟩ := hK.base.same iu hiu
  rw [hu] at e1 e2 e3 e4
  have hu1 : (s1.vols[iu]!).org = none := by rw [e4]; exact hu0
  have hk1 : (s1.vols[iu]!).kept = [] := (h'.vols _ (get_mem (l := s1.vols) hiu1)).kept_nil hu1
  have hyl : u.xs[k]! < s1.bl.length := by
    have : u.xs[k]! < s1.n := hG'.lt.2 _ (get_mem (l := s1.vols) hiu1) _ (by rw [e3]; exact mem_getElem! hk)
    have hl' := h'.disk.len
    simp at hl'
    omega
  have hb := hK.base.bl (s1.bl.set u.xs[k]! b)
  have hsz : St.size { s1 with bl := s1.bl.set u.xs[k]! b } (s1.vols[j]!) = s.size (s.vols[j]!) := hb.size h h' j hj
  unfold St.look
  rw [holder_bl]
  by_cases hh : s1.holder (s1.vols[j]!) q = u.xs[k]!
  · rw [hh]
    show (s1.bl.set u.xs[k]! b)[u.xs[k]!]! = _
    rw [get_set_eq b hyl]
    suffices hs : j = iu ∧ q = k by rw [if_pos hs]
    have hnd : (s1.vols[iu]!).xs.Nodup := hG'.xs_nodup (get_mem (l := s1.vols) hiu1)
    have hyu : u.xs[k]! ∈ (s1.vols[iu]!).xs := by rw [e3]; exact mem_getElem! hk
    by_cases hm : q ∈ (s1.vols[j]!).kept
    · have e : s1.holder (s1.vols[j]!) q = (s1.vols[j]!).xs[(s1.vols[j]!).kept.idxOf q]! := by unfold St.holder; rw [if_pos hm]
      have hin : u.xs[k]! ∈ (s1.vols[j]!).xs := by
        rw [← hh, e]; exact mem_getElem! (Nat.lt_of_lt_of_le (idxOf_lt hm) (h'.vols _ (get_mem (l := s1.vols) hj1)).room)
      by_cases hji : j = iu
      · rw [hji, hk1] at hm; simp at hm
      · exact absurd hyu (hG'.xs_apart (s := { s1 with bl := s1.bl.set u.xs[k]! b }) hj1 hiu1 hji hin)
    · have e : s1.holder (s1.vols[j]!) q = (s1.orgOf (s1.vols[j]!)).xs[q]! := by unfold St.holder; rw [if_neg hm]
      obtain ⟨o1, o2, o3, o4⟩ := h'.orgOf (get_mem (l := s1.vols) hj1)
      obtain ⟨m, hm2, em⟩ := mem_index o1
      have hm3 : m < s1.vols.length := hm2
      have em' : s1.vols[m]! = s1.orgOf (s1.vols[j]!) := em
      have hqm : q < (s1.vols[m]!).xs.length := by
        rw [em']
        have : q < St.size { s1 with bl := s1.bl.set u.xs[k]! b } (s1.vols[j]!) := by rw [hsz]; exact hq
        exact this
      have hin : u.xs[k]! ∈ (s1.vols[m]!).xs := by
        rw [← hh, e, ← em']; exact mem_getElem! hqm
      have hmi : m = iu := by
        by_cases hmi : m = iu
        · exact hmi
        · exact absurd hyu (hG'.xs_apart (s := { s1 with bl := s1.bl.set u.xs[k]! b }) hm3 hiu1 hmi hin)
      subst hmi
      have hqk : q = k := by
        rw [e, ← em', e3] at hh
        rw [e3] at hqm hnd
        rw [getElem!_pos u.xs q hqm, getElem!_pos u.xs k hk] at hh
        exact (List.getElem_inj (h₀ := hqm) (h₁ := hk) hnd).1 hh
      subst hqk
      refine ⟨?_, rfl⟩
      by_cases hjo : (s1.vols[j]!).org = none
      · have e5 := o3 hjo
        have e6 : s1.vols[m]! = s1.vols[j]! := em'.trans e5
        exact (index_inj (s := { s1 with bl := s1.bl.set u.xs[q]! b }) h' hiu1 hj1 (by rw [show ({ s1 with bl := s1.bl.set u.xs[q]! b } : St).vols = s1.vols from rfl, e6])).symm
      · exfalso
        have e5 := o4 hjo
        have e6 : (s1.vols[j]!).org = some (s1.vols[m]!).vb := by rw [em']; exact e5
        have e7 : (s.vols[j]!).org = some u.vb := by rw [← (hK.base.same j hj).2.2.2, e6, e1]
        have hd := hK.did j hj e7
        have hd1 : (s1.vols[j]!).kept = (keepRes q (s.vols[j]!)).1 := congrArg Prod.fst hd
        have hd2 : (s1.vols[j]!).lost = (keepRes q (s.vols[j]!)).2 := congrArg Prod.snd hd
        rw [hd1] at hm
        rw [hd2] at hl
        unfold keepRes at hm hl
        split at hm
        · rename_i hc
          rw [if_pos hc] at hl
          rcases hc with hc | hc
          · exact hm hc
          · simp only at hl; rw [hc] at hl; cases hl
        · rename_i hc
          rw [if_neg hc] at hl
          split at hm
          · simp at hm
          · rename_i hr
            rw [if_neg hr] at hl
            cases hl
  · have hlt : s1.holder (s1.vols[j]!) q < s1.bl.length := by
      have := holder_lt h' hG' (get_mem (l := s1.vols) hj1) (k := q) (by rw [hsz]; exact hq)
      have hl' := h'.disk.len
      simp at hl'
      rw [holder_bl] at this
      have h2 : s1.holder (s1.vols[j]!) q < s1.n := this
      omega
    show (s1.bl.set u.xs[k]! b)[s1.holder (s1.vols[j]!) q]! = _
    rw [get_set_ne b hh hlt]
    have hne : ¬ (j = iu ∧ q = k) := by
      rintro ⟨rfl, rfl⟩
      apply hh
      unfold St.holder
      rw [hk1, if_neg (by simp)]
      have := (h'.orgOf (get_mem (l := s1.vols) hj1)).2.2.1 hu1
      have e5 : s1.orgOf (s1.vols[j]!) = s1.vols[j]! := this
      rw [e5, e3]
    rw [if_neg hne]
    exact hK.look j hj hl q hq
/-- What a call leaves that changes nothing. -/
theorem After.still {w w' : World} {s : St} {fr : List Nat} (h : PoolAt w s) (hG : Good s fr) (hs : Same [] w w') : After w s w' s fr :=
  ⟨h.new hs, hG, hs.mono (by simp), fun k hk => Or.inl hk, rfl, rfl⟩
end
end Go.Proofs.Ytpddgdjocffgdaa
