/- A Pool: Resize, by contracts; what a Write leaves. -/
import Derived.Test.YtbidkjjklnacbaaPoolI
namespace Go.Proofs.Ytbidkjjklnacbaa
open Go.RowKit Go.Sort
set_option linter.unusedVariables false
set_option linter.unusedSimpArgs false
set_option linter.unusedSectionVars false
variable [DecidableEq Blk] [Inhabited Blk]
variable [Inhabited Vol]

def setVol (i : Nat) (v : Vol) (l : List Vol) : List Vol := l.take i ++ v :: l.drop (i + 1)
theorem setVol_perm (i : Nat) (v : Vol) (l : List Vol) : (setVol i v l).Perm (v :: delVol i l) := List.perm_middle
theorem setVol_map {β : Type} (f : Vol → β) (i : Nat) (v : Vol) (l : List Vol) (h : i < l.length) (hf : f v = f l[i]!) : (setVol i v l).map f = l.map f := by
  have e : l = l.take i ++ l[i]! :: l.drop (i + 1) := by
    rw [getElem!_pos l i h, ← List.drop_eq_getElem_cons h, List.take_append_drop]
  unfold setVol
  rw [List.map_append, List.map_cons, hf]
  conv => rhs; rw [e]
  rw [List.map_append, List.map_cons]
theorem setVol_length (i : Nat) (v : Vol) (l : List Vol) (h : i < l.length) : (setVol i v l).length = l.length := by
  simp [setVol]; omega

theorem set_state {w w' : World} {s : St} (h : PoolAt w s) (i : Nat) (hi : i < s.vols.length) (v : Vol) (hvb : v.vb = (s.vols[i]!).vb) (hnm : v.name = (s.vols[i]!).name) (hgb : v.gb = (s.vols[i]!).gb ∨ w.heap.size ≤ v.gb)
    (hV : VolAt w' v.vb v.gb v.name v.xs) (hS : Same [v.vb] w w') : PoolAt w' { s with vols := setVol i v s.vols } := by
  have hnd := h.nodup
  have hmem : s.vols[i]! ∈ s.vols := by rw [getElem!_pos s.vols i hi]; exact List.getElem_mem hi
  obtain ⟨cap, hp, h1, h2⟩ := h.pool
  have hlen := setVol_length i v s.vols hi
  have hptr := setVol_map (fun v => ptr v.vb) i v s.vols hi (by simp [hvb])
  have hvbs := setVol_map (·.vb) i v s.vols hi hvb
  have hm1 : v.vb ∈ s.vols.map (·.vb) := by rw [hvb]; exact List.mem_map_of_mem hmem
  have hnd' := hnd
  simp only [St.foot, List.nodup_cons, List.mem_cons, List.mem_append, not_or] at hnd'
  obtain ⟨⟨p1, p2, p3, p4⟩, ⟨q2, q3, q4⟩, ⟨r3, r4⟩, ⟨t4, hrest⟩⟩ := hnd'
  obtain ⟨ha1, ha2, ha3⟩ := List.nodup_append.1 hrest
  obtain ⟨hb1, hb2, hb3⟩ := List.nodup_append.1 ha2
  have hdp := delVol_perm i s.vols hi
  refine ⟨⟨cap, ?_, by rw [hlen]; exact h1, h2⟩, fun b hb => ?_, ?_, fun u hu => ?_, ?_, by rw [hlen]; exact h.few, ?_⟩
  · rw [show (setVol i v s.vols).length = s.vols.length from hlen]
    exact hS.at hp (by simp; intro e; exact p4.2.1 (e ▸ hm1))
  · obtain ⟨cs, hc, h3, h4⟩ := h.arr b hb
    refine ⟨cs, hS.at hc ?_, by rw [hlen, hptr]; exact h3, by rw [hlen]; exact h4⟩
    simp only [List.mem_singleton]
    intro e
    exact ha3 b (by simp [show s.ab = some b from hb]) v.vb (List.mem_append_left _ hm1) e
  · refine h.disk.same hS ?_ ?_ ?_
    · simp only [List.mem_singleton]; intro e; exact q4.2.1 (e ▸ hm1)
    · simp only [List.mem_singleton]; intro e; exact r4.2.1 (e ▸ hm1)
    · simp only [List.mem_singleton]; intro e; exact t4.2.1 (e ▸ hm1)
  · rcases List.mem_cons.1 ((setVol_perm i v s.vols).mem_iff.1 hu) with rfl | hu
    · exact hV
    · have hus := (delVol_sub i s.vols).mem hu
      have hpv : ((s.vols[i]!).vb :: (delVol i s.vols).map (·.vb)).Nodup := ((hdp.map (fun v : Vol => v.vb)).nodup_iff).2 hb1
      refine (h.vols u hus).same hS ?_ ?_
      · simp only [List.mem_singleton]
        intro e
        exact (List.nodup_cons.1 hpv).1 (by rw [← hvb, ← e]; exact List.mem_map_of_mem hu)
      · simp only [List.mem_singleton]
        intro e
        exact hb3 v.vb hm1 u.gb (List.mem_map_of_mem hus) e.symm
  · have hperm : (St.foot { s with vols := setVol i v s.vols }).Perm (v.gb :: (s.pb :: s.db :: s.bb :: s.fb :: (s.ab.toList ++ (s.vols.map (·.vb) ++ (delVol i s.vols).map (·.gb))))) := by
      unfold St.foot
      simp only
      rw [hvbs]
      have e1 : ((setVol i v s.vols).map (·.gb)).Perm (v.gb :: (delVol i s.vols).map (·.gb)) := by
        have := (setVol_perm i v s.vols).map (·.gb)
        simpa using this
      have e2 : (s.pb :: s.db :: s.bb :: s.fb :: (s.ab.toList ++ (s.vols.map (·.vb) ++ (setVol i v s.vols).map (·.gb)))).Perm (([s.pb, s.db, s.bb, s.fb] ++ (s.ab.toList ++ s.vols.map (·.vb))) ++ (v.gb :: (delVol i s.vols).map (·.gb))) := by
        simp only [List.cons_append, List.nil_append, List.append_assoc]
        refine List.Perm.cons _ (List.Perm.cons _ (List.Perm.cons _ (List.Perm.cons _ ?_)))
        exact List.Perm.append_left _ (List.Perm.append_left _ e1)
      refine e2.trans (List.perm_middle.trans (List.Perm.cons _ ?_))
      simp [List.append_assoc]
    have hperm0 : s.foot.Perm ((s.vols[i]!).gb :: (s.pb :: s.db :: s.bb :: s.fb :: (s.ab.toList ++ (s.vols.map (·.vb) ++ (delVol i s.vols).map (·.gb))))) := by
      unfold St.foot
      have e1 : (s.vols.map (·.gb)).Perm ((s.vols[i]!).gb :: (delVol i s.vols).map (·.gb)) := by
        have := (hdp.map (·.gb)).symm
        simpa using this
      have e2 : (s.pb :: s.db :: s.bb :: s.fb :: (s.ab.toList ++ (s.vols.map (·.vb) ++ s.vols.map (·.gb)))).Perm (([s.pb, s.db, s.bb, s.fb] ++ (s.ab.toList ++ s.vols.map (·.vb))) ++ ((s.vols[i]!).gb :: (delVol i s.vols).map (·.gb))) := by
        simp only [List.cons_append, List.nil_append, List.append_assoc]
        refine List.Perm.cons _ (List.Perm.cons _ (List.Perm.cons _ (List.Perm.cons _ ?_)))
        exact List.Perm.append_left _ (List.Perm.append_left _ e1)
      refine e2.trans (List.perm_middle.trans (List.Perm.cons _ ?_))
      simp [List.append_assoc]
    have hnd2 := hperm0.nodup_iff.1 hnd
    rw [hperm.nodup_iff]
    refine List.nodup_cons.2 ⟨?_, (List.nodup_cons.1 hnd2).2⟩
    rcases hgb with hgb | hgb
    · rw [hgb]; exact (List.nodup_cons.1 hnd2).1
    · intro hm
      have := h.foot_lt v.gb (hperm0.mem_iff.2 (List.mem_cons_of_mem _ hm)); omega
  · have hs := h.names_sorted
    have e := setVol_map (·.name) i v s.vols hi hnm
    unfold St.names at hs
    rw [← e, List.pairwise_map] at hs
    exact hs

/-- The footprint behind such a change. -/
theorem set_foot {s : St} {i : Nat} (hi : i < s.vols.length) {v : Vol} (hvb : v.vb = (s.vols[i]!).vb) {B : Nat} (hgb : v.gb = (s.vols[i]!).gb ∨ B ≤ v.gb) : ∀ k ∈ St.foot { s with vols := setVol i v s.vols }, k ∈ s.foot ∨ B ≤ k := by
  intro k hk
  have hvbs := setVol_map (·.vb) i v s.vols hi hvb
  have hmem : s.vols[i]! ∈ s.vols := by rw [getElem!_pos s.vols i hi]; exact List.getElem_mem hi
  simp only [St.foot, List.mem_cons, List.mem_append] at hk ⊢
  rw [hvbs] at hk
  rcases hk with hk | hk | hk | hk | hk | hk | hk
  · exact Or.inl (Or.inl hk)
  · exact Or.inl (Or.inr (Or.inl hk))
  · exact Or.inl (Or.inr (Or.inr (Or.inl hk)))
  · exact Or.inl (Or.inr (Or.inr (Or.inr (Or.inl hk))))
  · exact Or.inl (Or.inr (Or.inr (Or.inr (Or.inr (Or.inl hk)))))
  · exact Or.inl (Or.inr (Or.inr (Or.inr (Or.inr (Or.inr (Or.inl hk))))))
  · obtain ⟨u, hu, rfl⟩ := List.mem_map.1 hk
    rcases List.mem_cons.1 ((setVol_perm i v s.vols).mem_iff.1 hu) with rfl | hu
    · rcases hgb with e | e
      · rw [e]; exact Or.inl (Or.inr (Or.inr (Or.inr (Or.inr (Or.inr (Or.inr (List.mem_map_of_mem hmem)))))))
      · exact Or.inr e
    · exact Or.inl (Or.inr (Or.inr (Or.inr (Or.inr (Or.inr (Or.inr (List.mem_map_of_mem ((delVol_sub i s.vols).mem hu))))))))

theorem Good.cut {s : St} {fr : List Nat} (h : Good s fr) (hl : s.bl.length = s.n) (hd : s.d.size = s.n) (i : Nat) (hi : i < s.vols.length) (k : Nat) (v : Vol) (hx : v.xs = (s.vols[i]!).xs.take k) (hn : v.name = (s.vols[i]!).name) :
    Good { s with m := s.m + ((s.vols[i]!).xs.drop k).length, bl := giveB ((s.vols[i]!).xs.drop k) s.bl, d := giveD s.m ((s.vols[i]!).xs.drop k) s.d, vols := setVol i v s.vols } (insAll ((s.vols[i]!).xs.drop k) fr) := by
  have hp := delVol_perm i s.vols hi
  have hmem : s.vols[i]! ∈ s.vols := by rw [getElem!_pos s.vols i hi]; exact List.getElem_mem hi
  generalize hxs : (s.vols[i]!).xs = xs at *
  have hfl : (xs ++ (delVol i s.vols).flatMap (·.xs)).Perm (s.vols.flatMap (·.xs)) := by
    have := hp.flatMap_right (·.xs)
    rw [List.flatMap_cons, hxs] at this
    exact this
  have hfl2 : ((setVol i v s.vols).flatMap (·.xs)).Perm (xs.take k ++ (delVol i s.vols).flatMap (·.xs)) := by
    have := (setVol_perm i v s.vols).flatMap_right (·.xs)
    rw [List.flatMap_cons, hx] at this
    exact this
  have hpar : (insAll (xs.drop k) fr ++ (setVol i v s.vols).flatMap (·.xs)).Perm (List.range s.n) := by
    refine (((insAll_perm _ fr).append hfl2).trans ?_).trans h.parts
    have e1 : ((xs.drop k ++ fr) ++ (xs.take k ++ (delVol i s.vols).flatMap (·.xs))).Perm (fr ++ (xs ++ (delVol i s.vols).flatMap (·.xs))) := by
      refine (List.Perm.append_right _ List.perm_append_comm).trans ?_
      rw [List.append_assoc]
      refine List.Perm.append_left fr ?_
      rw [← List.append_assoc]
      refine List.Perm.append_right _ ?_
      have := List.perm_append_comm (l₁ := xs.drop k) (l₂ := xs.take k)
      rw [List.take_append_drop] at this; exact this
    exact e1.trans (List.Perm.append_left fr hfl)
  have hnd2 := (hpar.nodup_iff.2 List.nodup_range)
  have hnd3 : (xs.drop k ++ fr).Nodup := ((insAll_perm _ fr).nodup_iff.1 (List.nodup_append.1 hnd2).1)
  have hlen := hpar.length_eq
  simp only [List.length_append, List.length_range, insAll_length] at hlen
  refine ⟨?_, hpar, fun x hx' => ?_, fun u hu => ?_⟩
  · refine HeapIs.gives (xs.drop k) h.heap (List.nodup_append.1 hnd3).1 (fun x hx hm => ?_) ?_
    · exact (List.nodup_append.1 hnd3).2.2 x hx x hm rfl
    · have := h.heap.len; omega
  · have hxn : x < s.n := List.mem_range.1 (hpar.mem_iff.1 (List.mem_append_left _ hx'))
    show (giveB (xs.drop k) s.bl)[x]! = Blk.zero
    rw [giveB_get _ _ _ (by omega)]
    split
    · rfl
    · rename_i hni
      rcases (insAll_mem _ _ _).1 hx' with hx' | hx'
      · exact absurd hx' hni
      · exact h.zero x hx'
  · rcases List.mem_cons.1 ((setVol_perm i v s.vols).mem_iff.1 hu) with rfl | hu
    · rw [hn]; exact h.names _ hmem
    · exact h.names u ((delVol_sub i s.vols).mem hu)

theorem Good.grow {s : St} {fr : List Nat} (h : Good s fr) (i : Nat) (hi : i < s.vols.length) (k : Nat) (hk : k ≤ fr.length) (v : Vol) (hx : v.xs = (s.vols[i]!).xs ++ fr.take k) (hn : v.name = (s.vols[i]!).name) :
    Good { s with m := s.m - k, d := popsD s.m k s.d, vols := setVol i v s.vols } (fr.drop k) := by
  have hp := delVol_perm i s.vols hi
  have hmem : s.vols[i]! ∈ s.vols := by rw [getElem!_pos s.vols i hi]; exact List.getElem_mem hi
  obtain ⟨_, h2⟩ := h.heap.pops k (by rw [← h.heap.len]; exact hk)
  refine ⟨h2, ?_, fun x hx => h.zero x (List.mem_of_mem_drop hx), fun u hu => ?_⟩
  · have hfl : ((s.vols[i]!).xs ++ (delVol i s.vols).flatMap (·.xs)).Perm (s.vols.flatMap (·.xs)) := by
      have := hp.flatMap_right (·.xs)
      simpa using this
    have hfl2 : ((setVol i v s.vols).flatMap (·.xs)).Perm (((s.vols[i]!).xs ++ fr.take k) ++ (delVol i s.vols).flatMap (·.xs)) := by
      have := (setVol_perm i v s.vols).flatMap_right (·.xs)
      rw [List.flatMap_cons, hx] at this
      exact this
    refine ((List.Perm.append_left (fr.drop k) hfl2).trans ?_).trans h.parts
    have e1 : (fr.drop k ++ ((s.vols[i]!).xs ++ fr.take k ++ (delVol i s.vols).flatMap (·.xs))).Perm ((fr.take k ++ fr.drop k) ++ ((s.vols[i]!).xs ++ (delVol i s.vols).flatMap (·.xs))) := by
      have a1 : (fr.drop k ++ ((s.vols[i]!).xs ++ fr.take k ++ (delVol i s.vols).flatMap (·.xs))).Perm (fr.drop k ++ (fr.take k ++ (s.vols[i]!).xs ++ (delVol i s.vols).flatMap (·.xs))) :=
        List.Perm.append_left _ (List.Perm.append_right _ List.perm_append_comm)
      refine a1.trans ?_
      rw [List.append_assoc, ← List.append_assoc (fr.drop k)]
      exact List.Perm.append_right _ List.perm_append_comm
    rw [List.take_append_drop] at e1
    exact e1.trans (List.Perm.append_left fr hfl)
  · rcases List.mem_cons.1 ((setVol_perm i v s.vols).mem_iff.1 hu) with rfl | hu
    · rw [hn]; exact h.names _ hmem
    · exact h.names u ((delVol_sub i s.vols).mem hu)

/-- What a Write leaves. -/
theorem write_after {w w' : World} {s : St} {fr : List Nat} (h : PoolAt w s) (hG : Good s fr) (y : Nat) (b : Blk) (hy : y ∉ fr) (hA : At w' s.bb 51 (flat (s.bl.set y b))) (hS : Same [s.bb] w w') : After w s w' { s with bl := s.bl.set y b } fr := by
  have hnd := h.nodup
  simp only [St.foot, List.nodup_cons, List.mem_cons, List.mem_append, not_or] at hnd
  obtain ⟨⟨p1, p2, p3, p4⟩, ⟨q2, q3, q4⟩, ⟨r3, r4⟩, ⟨t4, hnd⟩⟩ := hnd
  have hD : DiskAt w' s.db s.bb s.fb s.n s.m (s.bl.set y b) s.d :=
    ⟨hS.at h.disk.disk (by simp; exact q2), hA, hS.at h.disk.free (by simp; exact fun e => r3 e.symm), h.disk.ne1, h.disk.ne2, h.disk.ne3, by simp [h.disk.len], h.disk.size, h.disk.le, h.disk.small⟩
  refine ⟨h.withDisk hS (by simp) hD, ⟨hG.heap, hG.parts, fun x hx => ?_, hG.names⟩, hS.mono (by simp [St.foot]), fun k hk => Or.inl hk, rfl, rfl⟩
  show (s.bl.set y b)[x]! = Blk.zero
  have hxl : x < s.bl.length := by rw [h.disk.len]; exact hG.lt.1 x hx
  have hne : y ≠ x := fun e => hy (by rw [e]; exact hx)
  rw [getElem!_pos _ x (by simpa using hxl), List.getElem_set_ne hne, ← getElem!_pos s.bl x hxl]
  exact hG.zero x hx
end Go.Proofs.Ytbidkjjklnacbaa
