/- What stands in volumes and pictures, while places are kept. -/
import Derived.Test.YtpddgdjocffgdaaPoolR
namespace Go.Proofs.Ytpddgdjocffgdaa
open Go.RowKit Go.Sort
set_option linter.unusedVariables false
set_option linter.unusedSimpArgs false
set_option linter.unusedSectionVars false
variable [DecidableEq Blk] [Inhabited Blk]
variable [Inhabited Vol]

theorem setVol_get (i j : Nat) (v : Vol) (l : List Vol) (hi : i < l.length) (hj : j < l.length) : (setVol i v l)[j]! = if j = i then v else l[j]! := by
  have e : setVol i v l = l.set i v := by
    unfold setVol
    rw [List.set_eq_take_append_cons_drop, if_pos hi]
  rw [e, getElem!_pos _ j (by simpa using hj), getElem!_pos l j hj, List.getElem_set]
  by_cases h : i = j
  · subst h; simp
  · rw [if_neg h, if_neg (fun e => h e.symm)]

theorem flat_apart {α : Type} (f : α → List Nat) : ∀ (l : List α), (l.flatMap f).Nodup → (∀ a ∈ l, (f a).Nodup) ∧ ∀ i j, i < l.length → j < l.length → ∀ x, (∃ a, l[i]? = some a ∧ x ∈ f a) → (∃ b, l[j]? = some b ∧ x ∈ f b) → i = j
  | [], _ => ⟨by simp, fun i j h => by simp at h⟩
  | a :: r, h => by
    rw [List.flatMap_cons, List.nodup_append] at h
    obtain ⟨h1, h2, h3⟩ := h
    obtain ⟨i1, i2⟩ := flat_apart f r h2
    refine ⟨fun x hx => ?_, fun i j hi hj x hx hy => ?_⟩
    · rcases List.mem_cons.1 hx with rfl | hx
      · exact h1
      · exact i1 x hx
    · obtain ⟨p, hp, hpx⟩ := hx
      obtain ⟨q, hq, hqx⟩ := hy
      cases i with
      | zero =>
        cases j with
        | zero => rfl
        | succ j =>
          simp at hp hq
          subst hp
          exact absurd rfl (h3 x hpx x (List.mem_flatMap.2 ⟨q, List.mem_of_getElem? hq, hqx⟩))
      | succ i =>
        cases j with
        | zero =>
          simp at hp hq
          subst hq
          exact absurd rfl (h3 x hqx x (List.mem_flatMap.2 ⟨p, List.mem_of_getElem? hp, hpx⟩))
        | succ j =>
          simp at hp hq hi hj
          rw [i2 i j hi hj x ⟨p, hp, hpx⟩ ⟨q, hq, hqx⟩]

theorem Good.xs_nodup {s : St} {fr : List Nat} (h : Good s fr) {v : Vol} (hv : v ∈ s.vols) : v.xs.Nodup :=
  (flat_apart (·.xs) s.vols (List.nodup_append.1 h.nodup).2.1).1 v hv
theorem Good.xs_apart {s : St} {fr : List Nat} (h : Good s fr) {i j : Nat} (hi : i < s.vols.length) (hj : j < s.vols.length) (hne : i ≠ j) {x : Nat} (hx : x ∈ (s.vols[i]!).xs) : x ∉ (s.vols[j]!).xs := fun hy =>
  hne ((flat_apart (·.xs) s.vols (List.nodup_append.1 h.nodup).2.1).2 i j hi hj x ⟨_, by rw [getElem!_pos s.vols i hi] at hx; exact ⟨List.getElem?_eq_getElem hi, hx⟩⟩ ⟨_, by rw [getElem!_pos s.vols j hj] at hy; exact ⟨List.getElem?_eq_getElem hj, hy⟩⟩)

theorem mem_index {l : List Vol} {v : Vol} (h : v ∈ l) : ∃ i, i < l.length ∧ l[i]! = v := by
  obtain ⟨i, hi, e⟩ := List.getElem_of_mem h
  exact ⟨i, hi, by rw [getElem!_pos l i hi]; exact e⟩

/-- The same volumes and pictures in the same order, with the same blocks and origins; what is not lost holds what it held. -/
structure Base (s s' : St) : Prop where
  len : s'.vols.length = s.vols.length
  same : ∀ i, i < s.vols.length → (s'.vols[i]!).vb = (s.vols[i]!).vb ∧ (s'.vols[i]!).name = (s.vols[i]!).name ∧ (s'.vols[i]!).xs = (s.vols[i]!).xs ∧ (s'.vols[i]!).org = (s.vols[i]!).org
  lost : ∀ i, i < s.vols.length → (s.vols[i]!).lost = true → (s'.vols[i]!).lost = true

theorem Base.refl (s : St) : Base s s := ⟨rfl, fun _ _ => ⟨rfl, rfl, rfl, rfl⟩, fun _ _ h => h⟩
theorem Base.trans {a b c : St} (h : Base a b) (k : Base b c) : Base a c := by
  refine ⟨k.len.trans h.len, fun i hi => ?_, fun i hi hl => k.lost i (by rw [h.len]; exact hi) (h.lost i hi hl)⟩
  obtain ⟨a1, a2, a3, a4⟩ := h.same i hi
  obtain ⟨b1, b2, b3, b4⟩ := k.same i (by rw [h.len]; exact hi)
  exact ⟨b1.trans a1, b2.trans a2, b3.trans a3, b4.trans a4⟩

/-- The origin of the one is where the origin of the other is. -/
theorem Base.orgOf {w w' : World} {s s' : St} (hb : Base s s') (h : PoolAt w s) (h' : PoolAt w' s') (i : Nat) (hi : i < s.vols.length) : ∃ j, j < s.vols.length ∧ s.orgOf (s.vols[i]!) = s.vols[j]! ∧ s'.orgOf (s'.vols[i]!) = s'.vols[j]! := by
  obtain ⟨o1, o2, o3, o4⟩ := h.orgOf (get_mem hi)
  have hi' : i < s'.vols.length := by rw [hb.len]; exact hi
  obtain ⟨p1, p2, p3, p4⟩ := h'.orgOf (get_mem hi')
  obtain ⟨q1, q2, q3, q4⟩ := hb.same i hi
  by_cases ho : (s.vols[i]!).org = none
  · exact ⟨i, hi, o3 ho, p3 (by rw [q4]; exact ho)⟩
  · obtain ⟨j, hj, e⟩ := mem_index o1
    refine ⟨j, hj, e.symm, ?_⟩
    have hj' : j < s'.vols.length := by rw [hb.len]; exact hj
    refine h'.vb_inj p1 (get_mem hj') ?_
    have e1 := o4 ho
    have e2 := p4 (by rw [q4]; exact ho)
    rw [q4, e1] at e2
    have e3 : (s.orgOf (s.vols[i]!)).vb = (s'.orgOf (s'.vols[i]!)).vb := by simpa using e2
    rw [← e3, ← e, (hb.same j hj).1]
theorem Base.size {w w' : World} {s s' : St} (hb : Base s s') (h : PoolAt w s) (h' : PoolAt w' s') (i : Nat) (hi : i < s.vols.length) : s'.size (s'.vols[i]!) = s.size (s.vols[i]!) := by
  obtain ⟨j, hj, e1, e2⟩ := hb.orgOf h h' i hi
  unfold St.size
  rw [e1, e2, (hb.same j hj).2.2.1]

/-- A block that another volume or picture has is not the one that holds what stands here. -/
theorem holder_apart {w : World} {s : St} {fr : List Nat} (h : PoolAt w s) (hG : Good s fr) {i : Nat} (hi : i < s.vols.length) (ho : (s.vols[i]!).org ≠ none) {j : Nat} (hj : j < s.vols.length) (hne : j ≠ i) {q : Nat} (hq : q < s.size (s.vols[j]!)) : s.holder (s.vols[j]!) q ∉ (s.vols[i]!).xs := by
  unfold St.holder
  split
  · rename_i hm
    exact hG.xs_apart hj hi hne (mem_getElem! (Nat.lt_of_lt_of_le (idxOf_lt hm) (h.vols _ (get_mem hj)).room))
  · obtain ⟨o1, o2, o3, o4⟩ := h.orgOf (get_mem hj)
    obtain ⟨m, hm, e⟩ := mem_index o1
    have hmi : m ≠ i := fun e2 => ho (by rw [← e2, e]; exact o2)
    have hq' : q < (s.orgOf (s.vols[j]!)).xs.length := hq
    rw [← e] at hq' ⊢
    exact hG.xs_apart hm hi hmi (mem_getElem! hq')

/-- One told otherwise, its blocks and origin the same. -/
theorem base_set {s : St} (bl : List Blk) (i : Nat) (hi : i < s.vols.length) (v : Vol) (h1 : v.vb = (s.vols[i]!).vb) (h2 : v.name = (s.vols[i]!).name) (h3 : v.xs = (s.vols[i]!).xs) (h4 : v.org = (s.vols[i]!).org) (h5 : (s.vols[i]!).lost = true → v.lost = true) : Base s { s with bl := bl, vols := setVol i v s.vols } := by
  refine ⟨setVol_length i v s.vols hi, fun j hj => ?_, fun j hj => ?_⟩
  · show (setVol i v s.vols)[j]!.vb = _ ∧ _
    rw [setVol_get i j v s.vols hi hj]
    split
    · rename_i e; subst e; exact ⟨h1, h2, h3, h4⟩
    · exact ⟨rfl, rfl, rfl, rfl⟩
  · show _ → (setVol i v s.vols)[j]!.lost = true
    rw [setVol_get i j v s.vols hi hj]
    split
    · rename_i e; subst e; exact h5
    · exact id

/-- The others' holders stay, whichever picture is told otherwise. -/
theorem holder_other {w w' : World} {s : St} (h : PoolAt w s) (bl : List Blk) (i : Nat) (hi : i < s.vols.length) (v : Vol) (hb : Base s { s with bl := bl, vols := setVol i v s.vols }) (h' : PoolAt w' { s with bl := bl, vols := setVol i v s.vols })
    (j : Nat) (hj : j < s.vols.length) (hne : j ≠ i) (q : Nat) : St.holder { s with bl := bl, vols := setVol i v s.vols } (s.vols[j]!) q = s.holder (s.vols[j]!) q := by
  obtain ⟨m, hm, e1, e2⟩ := hb.orgOf h h' j hj
  have e3 : (setVol i v s.vols)[j]! = s.vols[j]! := by rw [setVol_get i j v s.vols hi hj, if_neg hne]
  have e4 : St.orgOf { s with bl := bl, vols := setVol i v s.vols } (s.vols[j]!) = (setVol i v s.vols)[m]! := by rw [← e3]; exact e2
  unfold St.holder
  rw [e1, e4, (hb.same m hm).2.2.1]

theorem get_set_ne {bl : List Blk} {x y : Nat} (b : Blk) (h : x ≠ y) (hx : x < bl.length) : (bl.set y b)[x]! = bl[x]! := by
  rw [getElem!_pos _ x (by simpa using hx), getElem!_pos bl x hx, List.getElem_set_ne (fun e => h e.symm)]
theorem get_set_eq {bl : List Blk} {y : Nat} (b : Blk) (hy : y < bl.length) : (bl.set y b)[y]! = b := by
  rw [getElem!_pos _ y (by simpa using hy)]; simp

theorem idxOf_snoc_self {l : List Nat} {k : Nat} (h : k ∉ l) : (l ++ [k]).idxOf k = l.length := by
  rw [List.idxOf_append, if_neg h]; simp
theorem idxOf_snoc_ne {l : List Nat} {k q : Nat} (h : q ∈ l) : (l ++ [k]).idxOf q = l.idxOf q := by
  rw [List.idxOf_append, if_pos h]

/-- A place kept: each one holds what it held. -/
theorem keep_looks {w w' : World} {s : St} {fr : List Nat} (h : PoolAt w s) (hG : Good s fr) (i : Nat) (v : Vol) (g k : Nat) (b : Blk) (hi : i < s.vols.length) (hv : s.vols[i]! = v) (ho : v.org ≠ none) (hf : v.kept.length < v.xs.length) (hk : k ∉ v.kept) (hks : k < s.size v)
    (h' : PoolAt w' { s with bl := s.bl.set v.xs[v.kept.length]! b, vols := setVol i { v with kg := some g, kept := v.kept ++ [k] } s.vols }) (j : Nat) (hj : j < s.vols.length) (q : Nat) (hq : q < s.size (s.vols[j]!)) :
    St.look { s with bl := s.bl.set v.xs[v.kept.length]! b, vols := setVol i { v with kg := some g, kept := v.kept ++ [k] } s.vols } (setVol i { v with kg := some g, kept := v.kept ++ [k] } s.vols)[j]! q = if j = i ∧ q = k then b else s.look (s.vols[j]!) q := by
  have hb : Base s { s with bl := s.bl.set v.xs[v.kept.length]! b, vols := setVol i { v with kg := some g, kept := v.kept ++ [k] } s.vols } := base_set _ i hi _ (by rw [hv]) (by rw [hv]) (by rw [hv]) (by rw [hv]) (by rw [hv]; exact id)
  have hmem : v ∈ s.vols := by rw [← hv]; exact get_mem hi
  have hy : v.xs[v.kept.length]! ∈ v.xs := mem_getElem! hf
  have hyl : v.xs[v.kept.length]! < s.bl.length := by rw [h.disk.len]; exact hG.lt.2 v hmem _ hy
  by_cases hji : j = i
  · subst hji
    rw [setVol_get j j _ s.vols hi hi, if_pos rfl]
    rw [hv] at hq ⊢
    obtain ⟨m, hm, e1, e2⟩ := hb.orgOf h h' j hi
    rw [hv] at e1
    have e3 : St.orgOf { s with bl := s.bl.set v.xs[v.kept.length]! b, vols := setVol j { v with kg := some g, kept := v.kept ++ [k] } s.vols } { v with kg := some g, kept := v.kept ++ [k] } = (setVol j { v with kg := some g, kept := v.kept ++ [k] } s.vols)[m]! := by
      have : (setVol j { v with kg := some g, kept := v.kept ++ [k] } s.vols)[j]! = { v with kg := some g, kept := v.kept ++ [k] } := by rw [setVol_get j j _ s.vols hi hi, if_pos rfl]
      have e2' : St.orgOf { s with bl := s.bl.set v.xs[v.kept.length]! b, vols := setVol j { v with kg := some g, kept := v.kept ++ [k] } s.vols } (setVol j { v with kg := some g, kept := v.kept ++ [k] } s.vols)[j]! = (setVol j { v with kg := some g, kept := v.kept ++ [k] } s.vols)[m]! := e2
      rw [this] at e2'
      exact e2'
    unfold St.look St.holder
    rw [e3, (hb.same m hm).2.2.1, e1]
    show (s.bl.set v.xs[v.kept.length]! b)[if q ∈ v.kept ++ [k] then v.xs[(v.kept ++ [k]).idxOf q]! else (s.vols[m]!).xs[q]!]! = if j = j ∧ q = k then b else s.bl[if q ∈ v.kept then v.xs[v.kept.idxOf q]! else (s.vols[m]!).xs[q]!]!
    by_cases hqk : q = k
    · subst hqk
      rw [if_pos (show q ∈ v.kept ++ [q] by simp), if_pos (show j = j ∧ q = q from ⟨rfl, rfl⟩), idxOf_snoc_self hk, get_set_eq b hyl]
    · rw [if_neg (show ¬ (j = j ∧ q = k) from fun e => hqk e.2)]
      by_cases hqm : q ∈ v.kept
      · rw [if_pos (show q ∈ v.kept ++ [k] from List.mem_append_left _ hqm), if_pos hqm, idxOf_snoc_ne hqm]
        have hl1 := idxOf_lt hqm
        refine get_set_ne b ?_ ?_
        · intro e
          have hnd := hG.xs_nodup hmem
          rw [getElem!_pos v.xs _ (by omega), getElem!_pos v.xs _ hf] at e
          have := (List.getElem_inj (h₀ := by omega) (h₁ := hf) hnd).1 e
          omega
        · rw [h.disk.len]; exact hG.lt.2 v hmem _ (mem_getElem! (by omega))
      · rw [if_neg (show ¬ q ∈ v.kept ++ [k] by simp [hqm, hqk]), if_neg hqm]
        have hqo : q < (s.orgOf v).xs.length := hq
        have hom := (h.orgOf hmem).1
        refine get_set_ne b ?_ ?_
        · intro e
          have hmj : m ≠ j := by
            intro e2; subst e2
            have := (h.orgOf hmem).2.1
            rw [e1, hv] at this
            exact ho this
          rw [e1] at hqo
          have hx := hG.xs_apart hm hi hmj (mem_getElem! hqo)
          rw [e, hv] at hx
          exact hx hy
        · rw [h.disk.len, ← e1]; exact hG.lt.2 _ hom _ (mem_getElem! hqo)
  · rw [setVol_get i j _ s.vols hi hj, if_neg hji, if_neg (by simp [hji])]
    unfold St.look
    rw [holder_other h _ i hi _ hb h' j hj hji q]
    refine get_set_ne b ?_ ?_
    · intro e
      have := holder_apart h hG hi (by rw [hv]; exact ho) hj hji hq
      rw [e, hv] at this
      exact this hy
    · rw [h.disk.len]; exact holder_lt h hG (get_mem hj) hq

/-- One lost: the others hold what they held. -/
theorem lose_looks {w w' : World} {s : St} {fr : List Nat} (h : PoolAt w s) (hG : Good s fr) (i : Nat) (v : Vol) (hi : i < s.vols.length) (hv : s.vols[i]! = v) (ho : v.org ≠ none)
    (h' : PoolAt w' { s with bl := giveB v.xs s.bl, vols := setVol i v.losing s.vols }) (j : Nat) (hj : j < s.vols.length) (hji : j ≠ i) (q : Nat) (hq : q < s.size (s.vols[j]!)) :
    St.look { s with bl := giveB v.xs s.bl, vols := setVol i v.losing s.vols } (setVol i v.losing s.vols)[j]! q = s.look (s.vols[j]!) q := by
  have hb : Base s { s with bl := giveB v.xs s.bl, vols := setVol i v.losing s.vols } := base_set _ i hi _ (by rw [hv]; rfl) (by rw [hv]; rfl) (by rw [hv]; rfl) (by rw [hv]; rfl) (fun _ => rfl)
  rw [setVol_get i j _ s.vols hi hj, if_neg hji]
  unfold St.look
  rw [holder_other h _ i hi _ hb h' j hj hji q, giveB_get _ _ _ (by rw [h.disk.len]; exact holder_lt h hG (get_mem hj) hq), if_neg]
  have := holder_apart h hG hi (by rw [hv]; exact ho) hj hji hq
  rw [hv] at this
  exact this
end Go.Proofs.Ytpddgdjocffgdaa
