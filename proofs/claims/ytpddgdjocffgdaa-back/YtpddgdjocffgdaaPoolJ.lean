/- A Pool: Resize, by contracts; what a Write leaves. -/
import Derived.Test.YtpddgdjocffgdaaPoolI
namespace Go.Proofs.Ytpddgdjocffgdaa
open Go.RowKit Go.Sort
set_option linter.unusedVariables false
set_option linter.unusedSimpArgs false
set_option linter.unusedSectionVars false
variable [DecidableEq Blk] [Inhabited Blk]
variable [Inhabited Vol]

def setVol (i : Nat) (v : Vol) (l : List Vol) : List Vol := l.take i ++ v :: l.drop (i + 1)
theorem setVol_perm (i : Nat) (v : Vol) (l : List Vol) : (setVol i v l).Perm (v :: delVol i l) := List.perm_middle
theorem setVol_map {β : Type} (f : Vol → β) (i : Nat) (v : Vol) (l : List Vol) (h : i < l.length) (hf : f v = f l[i]!) : (setVol i v l).map f = l.map f := by
  have e : l = l.take i ++ l[i]! :: l.drop (i + 1) := by
    rw [getElem!_pos l i h, ← List.drop_eq_getElem_cons h, List.take_append_drop]
  unfold setVol
  rw [List.map_append, List.map_cons, hf]
  conv => rhs; rw [e]
  rw [List.map_append, List.map_cons]
theorem setVol_length (i : Nat) (v : Vol) (l : List Vol) (h : i < l.length) : (setVol i v l).length = l.length := by
  simp [setVol]; omega

theorem setVol_mem {i : Nat} {v : Vol} {l : List Vol} {x : Vol} : x ∈ setVol i v l ↔ x = v ∨ x ∈ delVol i l := by
  rw [(setVol_perm i v l).mem_iff, List.mem_cons]
theorem get_mem {l : List Vol} {i : Nat} (hi : i < l.length) : l[i]! ∈ l := by rw [getElem!_pos l i hi]; exact List.getElem_mem hi

/-- The footprint, one volume's put ahead. -/
theorem foot_del (s : St) (i : Nat) (hi : i < s.vols.length) : s.foot.Perm ((s.vols[i]!).foot ++ (s.pb :: s.db :: s.bb :: s.fb :: (s.ab.toList ++ (delVol i s.vols).flatMap Vol.foot))) := by
  have h1 := ((delVol_perm i s.vols hi).flatMap_right Vol.foot).symm
  rw [List.flatMap_cons] at h1
  unfold St.foot
  refine (List.Perm.cons _ (List.Perm.cons _ (List.Perm.cons _ (List.Perm.cons _ (List.Perm.append_left _ h1))))).trans ?_
  exact foot_perm _ _ _ _ _ _ _
theorem foot_set (s : St) (i : Nat) (v : Vol) : (St.foot { s with vols := setVol i v s.vols }).Perm (v.foot ++ (s.pb :: s.db :: s.bb :: s.fb :: (s.ab.toList ++ (delVol i s.vols).flatMap Vol.foot))) := by
  have h1 := (setVol_perm i v s.vols).flatMap_right Vol.foot
  rw [List.flatMap_cons] at h1
  unfold St.foot
  refine (List.Perm.cons _ (List.Perm.cons _ (List.Perm.cons _ (List.Perm.cons _ (List.Perm.append_left _ h1))))).trans ?_
  exact foot_perm _ _ _ _ _ _ _

theorem set_state {w w' : World} {s : St} (h : PoolAt w s) (i : Nat) (hi : i < s.vols.length) (v : Vol) (hvb : v.vb = (s.vols[i]!).vb) (hnm : v.name = (s.vols[i]!).name) (horg : v.org = (s.vols[i]!).org)
    (hfoot : ∀ k ∈ v.foot, k ∈ (s.vols[i]!).foot ∨ w.heap.size ≤ k)
    (hV : VolAt w' v) (hS : Same (s.vols[i]!).foot w w') : PoolAt w' { s with vols := setVol i v s.vols } := by
  have hmem := get_mem hi
  obtain ⟨cap, hp, h1, h2⟩ := h.pool
  have hlen := setVol_length i v s.vols hi
  have hptr := setVol_map (fun v => ptr v.vb) i v s.vols hi (by simp [hvb])
  have hnd := (foot_del s i hi).nodup_iff.1 h.nodup
  obtain ⟨n1, n2, n3⟩ := List.nodup_append.1 hnd
  have hout : ∀ k, k ∈ (s.pb :: s.db :: s.bb :: s.fb :: (s.ab.toList ++ (delVol i s.vols).flatMap Vol.foot)) → k ∉ (s.vols[i]!).foot := fun k hk hm => n3 k hm k hk rfl
  refine ⟨⟨cap, ?_, by rw [hlen]; exact h1, h2⟩, fun b hb => ?_, ?_, fun u hu => ?_, ?_, by rw [hlen]; exact h.few, ?_, fun u hu o ho => ?_⟩
  · rw [show (setVol i v s.vols).length = s.vols.length from hlen]
    exact hS.at hp (hout _ (by simp))
  · obtain ⟨cs, hc, h3, h4⟩ := h.arr b hb
    refine ⟨cs, hS.at hc (hout b ?_), by rw [hlen, hptr]; exact h3, by rw [hlen]; exact h4⟩
    simp [show s.ab = some b from hb]
  · exact h.disk.same hS (hout _ (by simp)) (hout _ (by simp)) (hout _ (by simp))
  · rcases setVol_mem.1 hu with rfl | hu
    · exact hV
    · refine (h.vols u ((delVol_sub i s.vols).mem hu)).same hS (fun k hk => hout k ?_)
      simp only [List.mem_cons, List.mem_append, List.mem_flatMap]
      exact Or.inr (Or.inr (Or.inr (Or.inr (Or.inr ⟨u, hu, hk⟩))))
  · rw [(foot_set s i v).nodup_iff]
    refine List.nodup_append.2 ⟨hV.nodup, n2, fun a ha b hb e => ?_⟩
    subst e
    rcases hfoot a ha with hm | hm
    · exact n3 a hm a hb rfl
    · have := h.foot_lt a ((foot_del s i hi).mem_iff.2 (List.mem_append_right _ hb)); omega
  · have hs := h.names_sorted
    have e := setVol_map (·.name) i v s.vols hi hnm
    unfold St.names at hs
    rw [← e, List.pairwise_map] at hs
    exact hs
  · have key : ∀ x ∈ s.vols, x.vb = o → x.org = none → ∃ y ∈ setVol i v s.vols, y.vb = o ∧ y.org = none := fun x hx e1 e2 => by
      rcases delVol_mem hi hx with e | e
      · exact ⟨v, setVol_mem.2 (Or.inl rfl), by rw [hvb, ← e]; exact e1, by rw [horg, ← e]; exact e2⟩
      · exact ⟨x, setVol_mem.2 (Or.inr e), e1, e2⟩
    rcases setVol_mem.1 hu with rfl | hu
    · obtain ⟨x, hx, e1, e2⟩ := h.orgs _ hmem o (by rw [← horg]; exact ho)
      exact key x hx e1 e2
    · obtain ⟨x, hx, e1, e2⟩ := h.orgs u ((delVol_sub i s.vols).mem hu) o ho
      exact key x hx e1 e2

/-- The footprint behind such a change. -/
theorem set_foot {s : St} {i : Nat} (hi : i < s.vols.length) {v : Vol} {B : Nat} (hf : ∀ k ∈ v.foot, k ∈ (s.vols[i]!).foot ∨ B ≤ k) : ∀ k ∈ St.foot { s with vols := setVol i v s.vols }, k ∈ s.foot ∨ B ≤ k := by
  intro k hk
  rcases List.mem_append.1 ((foot_set s i v).mem_iff.1 hk) with hk | hk
  · rcases hf k hk with e | e
    · exact Or.inl (s.foot_vol (get_mem hi) e)
    · exact Or.inr e
  · exact Or.inl ((foot_del s i hi).mem_iff.2 (List.mem_append_right _ hk))

/-- What is not its own origin: nothing is. -/
theorem PoolAt.org_ne {w : World} {s : St} (h : PoolAt w s) {v : Vol} (hv : v ∈ s.vols) : v.org ≠ some v.vb := by
  intro e
  obtain ⟨x, hx, e1, e2⟩ := h.orgs v hv _ e
  have := h.vb_inj hx hv e1
  rw [this] at e2
  rw [e2] at e; cases e

theorem pics_set {w : World} {s : St} (h : PoolAt w s) (hp : Pics s.vols) (i : Nat) (hi : i < s.vols.length) (v : Vol) (hvb : v.vb = (s.vols[i]!).vb) (horg : v.org = (s.vols[i]!).org) (hk : v.kept.Nodup) (hl : v.lost = true → v.kept = [])
    (h1 : ∀ u ∈ s.vols, v.org = some u.vb → (∀ k ∈ v.kept, k < u.xs.length) ∧ v.xs.length ≤ u.xs.length)
    (h2 : ∀ u ∈ s.vols, u.org = some v.vb → (∀ k ∈ u.kept, k < v.xs.length) ∧ u.xs.length ≤ v.xs.length) : Pics (setVol i v s.vols) := by
  have hsub := delVol_sub i s.vols
  intro x hx
  rcases setVol_mem.1 hx with rfl | hxo
  · refine ⟨hk, hl, fun u hu ho => ?_⟩
    rcases setVol_mem.1 hu with rfl | hu
    · exact absurd (by rw [← horg, ← hvb]; exact ho) (h.org_ne (get_mem hi))
    · exact h1 u (hsub.mem hu) ho
  · have hxs := hsub.mem hxo
    refine ⟨(hp x hxs).1, (hp x hxs).2.1, fun u hu ho => ?_⟩
    rcases setVol_mem.1 hu with rfl | hu
    · exact h2 x hxs ho
    · exact (hp x hxs).2.2 u (hsub.mem hu) ho

theorem Good.cut {w : World} {s : St} {fr : List Nat} (hP : PoolAt w s) (h : Good s fr) (hl : s.bl.length = s.n) (hd : s.d.size = s.n) (i : Nat) (hi : i < s.vols.length) (k : Nat) (v : Vol) (hx : v.xs = (s.vols[i]!).xs.take k) (hn : v.name = (s.vols[i]!).name) (hpc : Pics (setVol i v s.vols)) :
    Good { s with m := s.m + ((s.vols[i]!).xs.drop k).length, bl := giveB ((s.vols[i]!).xs.drop k) s.bl, d := giveD s.m ((s.vols[i]!).xs.drop k) s.d, vols := setVol i v s.vols } (insAll ((s.vols[i]!).xs.drop k) fr) := by
  have hp := delVol_perm i s.vols hi
  have hmem : s.vols[i]! ∈ s.vols := by rw [getElem!_pos s.vols i hi]; exact List.getElem_mem hi
  generalize hxs : (s.vols[i]!).xs = xs at *
  have hfl : (xs ++ (delVol i s.vols).flatMap (·.xs)).Perm (s.vols.flatMap (·.xs)) := by
    have := hp.flatMap_right (·.xs)
    rw [List.flatMap_cons, hxs] at this
    exact this
  have hfl2 : ((setVol i v s.vols).flatMap (·.xs)).Perm (xs.take k ++ (delVol i s.vols).flatMap (·.xs)) := by
    have := (setVol_perm i v s.vols).flatMap_right (·.xs)
    rw [List.flatMap_cons, hx] at this
    exact this
  have hpar : (insAll (xs.drop k) fr ++ (setVol i v s.vols).flatMap (·.xs)).Perm (List.range s.n) := by
    refine (((insAll_perm _ fr).append hfl2).trans ?_).trans h.parts
    have e1 : ((xs.drop k ++ fr) ++ (xs.take k ++ (delVol i s.vols).flatMap (·.xs))).Perm (fr ++ (xs ++ (delVol i s.vols).flatMap (·.xs))) := by
      refine (List.Perm.append_right _ List.perm_append_comm).trans ?_
      rw [List.append_assoc]
      refine List.Perm.append_left fr ?_
      rw [← List.append_assoc]
      refine List.Perm.append_right _ ?_
      have := List.perm_append_comm (l₁ := xs.drop k) (l₂ := xs.take k)
      rw [List.take_append_drop] at this; exact this
    exact e1.trans (List.Perm.append_left fr hfl)
  have hnd2 := (hpar.nodup_iff.2 List.nodup_range)
  have hnd3 : (xs.drop k ++ fr).Nodup := ((insAll_perm _ fr).nodup_iff.1 (List.nodup_append.1 hnd2).1)
  have hlen := hpar.length_eq
  simp only [List.length_append, List.length_range, insAll_length] at hlen
  refine ⟨?_, hpar, fun x hx' => ?_, fun u hu => ?_, hpc⟩
  · refine HeapIs.gives (xs.drop k) h.heap (List.nodup_append.1 hnd3).1 (fun x hx hm => ?_) ?_
    · exact (List.nodup_append.1 hnd3).2.2 x hx x hm rfl
    · have := h.heap.len; omega
  · have hxn : x < s.n := List.mem_range.1 (hpar.mem_iff.1 (List.mem_append_left _ hx'))
    show (giveB (xs.drop k) s.bl)[x]! = Blk.zero
    rw [giveB_get _ _ _ (by omega)]
    split
    · rfl
    · rename_i hni
      rcases (insAll_mem _ _ _).1 hx' with hx' | hx'
      · exact absurd hx' hni
      · exact h.zero x hx'
  · rcases List.mem_cons.1 ((setVol_perm i v s.vols).mem_iff.1 hu) with rfl | hu
    · rw [hn]; exact h.names _ hmem
    · exact h.names u ((delVol_sub i s.vols).mem hu)

theorem Good.grow {s : St} {fr : List Nat} (h : Good s fr) (i : Nat) (hi : i < s.vols.length) (k : Nat) (hk : k ≤ fr.length) (v : Vol) (hx : v.xs = (s.vols[i]!).xs ++ fr.take k) (hn : v.name = (s.vols[i]!).name) (hpc : Pics (setVol i v s.vols)) :
    Good { s with m := s.m - k, d := popsD s.m k s.d, vols := setVol i v s.vols } (fr.drop k) := by
  have hp := delVol_perm i s.vols hi
  have hmem : s.vols[i]! ∈ s.vols := by rw [getElem!_pos s.vols i hi]; exact List.getElem_mem hi
  obtain ⟨_, h2⟩ := h.heap.pops k (by rw [← h.heap.len]; exact hk)
  refine ⟨h2, ?_, fun x hx => h.zero x (List.mem_of_mem_drop hx), fun u hu => ?_, hpc⟩
  · have hfl : ((s.vols[i]!).xs ++ (delVol i s.vols).flatMap (·.xs)).Perm (s.vols.flatMap (·.xs)) := by
      have := hp.flatMap_right (·.xs)
      simpa using this
    have hfl2 : ((setVol i v s.vols).flatMap (·.xs)).Perm (((s.vols[i]!).xs ++ fr.take k) ++ (delVol i s.vols).flatMap (·.xs)) := by
      have := (setVol_perm i v s.vols).flatMap_right (·.xs)
      rw [List.flatMap_cons, hx] at this
      exact this
    refine ((List.Perm.append_left (fr.drop k) hfl2).trans ?_).trans h.parts
    have e1 : (fr.drop k ++ ((s.vols[i]!).xs ++ fr.take k ++ (delVol i s.vols).flatMap (·.xs))).Perm ((fr.take k ++ fr.drop k) ++ ((s.vols[i]!).xs ++ (delVol i s.vols).flatMap (·.xs))) := by
      have a1 : (fr.drop k ++ ((s.vols[i]!).xs ++ fr.take k ++ (delVol i s.vols).flatMap (·.xs))).Perm (fr.drop k ++ (fr.take k ++ (s.vols[i]!).xs ++ (delVol i s.vols).flatMap (·.xs))) :=
        List.Perm.append_left _ (List.Perm.append_right _ List.perm_append_comm)
      refine a1.trans ?_
      rw [List.append_assoc, ← List.append_assoc (fr.drop k)]
      exact List.Perm.append_right _ List.perm_append_comm
    rw [List.take_append_drop] at e1
    exact e1.trans (List.Perm.append_left fr hfl)
  · rcases List.mem_cons.1 ((setVol_perm i v s.vols).mem_iff.1 hu) with rfl | hu
    · rw [hn]; exact h.names _ hmem
    · exact h.names u ((delVol_sub i s.vols).mem hu)

/-- What a Write leaves. -/
theorem write_after {w w' : World} {s : St} {fr : List Nat} (h : PoolAt w s) (hG : Good s fr) (y : Nat) (b : Blk) (hy : y ∉ fr) (hA : At w' s.bb 55 (flat (s.bl.set y b))) (hS : Same [s.bb] w w') : After w s w' { s with bl := s.bl.set y b } fr := by
  have hD : DiskAt w' s.db s.bb s.fb s.n s.m (s.bl.set y b) s.d :=
    ⟨hS.at h.disk.disk (by simp; exact h.disk.ne1), hA, hS.at h.disk.free (by simp; exact h.disk.ne3.symm), h.disk.ne1, h.disk.ne2, h.disk.ne3, by simp [h.disk.len], h.disk.size, h.disk.le, h.disk.small⟩
  refine ⟨h.withDisk hS (by intro k hk; simp at hk; simp [hk]) hD, ⟨hG.heap, hG.parts, fun x hx => ?_, hG.names, hG.pics⟩, hS.mono (by simp [St.foot]), fun k hk => Or.inl hk, rfl, rfl⟩
  show (s.bl.set y b)[x]! = Blk.zero
  have hxl : x < s.bl.length := by rw [h.disk.len]; exact hG.lt.1 x hx
  have hne : y ≠ x := fun e => hy (by rw [e]; exact hx)
  rw [getElem!_pos _ x (by simpa using hxl), List.getElem_set_ne hne, ← getElem!_pos s.bl x hxl]
  exact hG.zero x hx
end Go.Proofs.Ytpddgdjocffgdaa
