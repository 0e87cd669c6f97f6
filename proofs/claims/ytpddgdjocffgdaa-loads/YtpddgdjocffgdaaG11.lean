/- A Pool: Create, by contracts. A Pool: Picture, by contracts. A Pool: keep, by contracts. What stands in volumes and pictures, while places are kept. A Pool: picturesOf, by a contract. A Pool: what pictures keep, in steps. -/
import Derived.Test.YtpddgdjocffgdaaG10
import Derived.Maps.AppendAt
import Derived.Test.YtpddgdjocffgdaaG04
namespace Go.Proofs.Ytpddgdjocffgdaa
set_option linter.unusedVariables false
set_option linter.unusedSimpArgs false
set_option linter.unusedSectionVars false
section
open Go.RowKit Go.Sort
variable [DecidableEq Blk] [Inhabited Blk] [Inhabited Vol]
theorem After.old {w0 w w' : World} {s s' : St} {fr : List Nat} (h : After w s w' s' fr) (h0 : Same [] w0 w) : After w0 s w' s' fr :=
  ⟨h.pool, h.good, (h0.mono (T := s.foot) (by simp)).step h.same (fun k hk _ => hk), fun k hk => (h.foot k hk).imp id fun e => Nat.le_trans h0.size e, h.pb, h.n⟩
theorem flat_apart {α : Type} (f : α → List Nat) : ∀ (l : List α), (l.flatMap f).Nodup → (∀ a ∈ l, (f a).Nodup) ∧ ∀ i j, i < l.length → j < l.length → ∀ x, (∃ a, l[i]? = some a ∧ x ∈ f a) → (∃ b, l[j]? = some b ∧ x ∈ f b) → i = j
  | [], _ => ⟨by simp, fun i j h => by simp at h⟩
  | a :: r, h => by
    rw [List.flatMap_cons, List.nodup_append] at h
    obtain ⟨h1, h2, h3⟩ := h
    obtain ⟨i1, i2⟩ := flat_apart f r h2
    refine ⟨fun x hx => ?_, fun i j hi hj x hx hy => ?_⟩
    · rcases List.mem_cons.1 hx with rfl | hx
      · exact h1
      · exact i1 x hx
    · obtain ⟨p, hp, hpx⟩ := hx
      obtain ⟨q, hq, hqx⟩ := hy
      cases i with
      | zero =>
        cases j with
        | zero => rfl
        | succ j =>
          simp at hp hq
          subst hp
          exact absurd rfl (h3 x hpx x (List.mem_flatMap.2 ⟨q, List.mem_of_getElem? hq, hqx⟩))
      | succ i =>
        cases j with
        | zero =>
          simp at hp hq
          subst hq
          exact absurd rfl (h3 x hqx x (List.mem_flatMap.2 ⟨p, List.mem_of_getElem? hp, hpx⟩))
        | succ j =>
          simp at hp hq hi hj
          rw [i2 i j hi hj x ⟨p, hp, hpx⟩ ⟨q, hq, hqx⟩]
theorem Good.xs_nodup {s : St} {fr : List Nat} (h : Good s fr) {v : Vol} (hv : v ∈ s.vols) : v.xs.Nodup :=
  (flat_apart (·.xs) s.vols (List.nodup_append.1 h.nodup).2.1).1 v hv
theorem Good.xs_apart {s : St} {fr : List Nat} (h : Good s fr) {i j : Nat} (hi : i < s.vols.length) (hj : j < s.vols.length) (hne : i ≠ j) {x : Nat} (hx : x ∈ (s.vols[i]!).xs) : x ∉ (s.vols[j]!).xs := fun hy =>
  hne ((flat_apart (·.xs) s.vols (List.nodup_append.1 h.nodup).2.1).2 i j hi hj x ⟨_, by rw [getElem!_pos s.vols i hi] at hx; exact ⟨List.getElem?_eq_getElem hi, hx⟩⟩ ⟨_, by rw [getElem!_pos s.vols j hj] at hy; exact ⟨List.getElem?_eq_getElem hj, hy⟩⟩)
theorem mem_index {l : List Vol} {v : Vol} (h : v ∈ l) : ∃ i, i < l.length ∧ l[i]! = v := by
  obtain ⟨i, hi, e⟩ := List.getElem_of_mem h
  exact ⟨i, hi, by rw [getElem!_pos l i hi]; exact e⟩
/-- The same volumes and pictures in the same order, with the same blocks and origins; what is not lost holds what it held. -/
structure Base (s s' : St) : Prop where
  len : s'.vols.length = s.vols.length
  same : ∀ i, i < s.vols.length → (s'.vols[i]!).vb = (s.vols[i]!).vb ∧ (s'.vols[i]!).name = (s.vols[i]!).name ∧ (s'.vols[i]!).xs = (s.vols[i]!).xs ∧ (s'.vols[i]!).org = (s.vols[i]!).org
  lost : ∀ i, i < s.vols.length → (s.vols[i]!).lost = true → (s'.vols[i]!).lost = true
theorem Base.refl (s : St) : Base s s := ⟨rfl, fun _ _ => ⟨rfl, rfl, rfl, rfl⟩, fun _ _ h => h⟩
theorem Base.trans {a b c : St} (h : Base a b) (k : Base b c) : Base a c := by
  refine ⟨k.len.trans h.len, fun i hi => ?_, fun i hi hl => k.lost i (by rw [h.len]; exact hi) (h.lost i hi hl)⟩
  obtain ⟨a1, a2, a3, a4⟩ := h.same i hi
  obtain ⟨b1, b2, b3, b4⟩ := k.same i (by rw [h.len]; exact hi)
  exact ⟨b1.trans a1, b2.trans a2, b3.trans a3, b4.trans a4⟩
/-- The origin of the one is where the origin of the other is. -/
theorem Base.orgOf {w w' : World} {s s' : St} (hb : Base s s') (h : PoolAt w s) (h' : PoolAt w' s') (i : Nat) (hi : i < s.vols.length) : ∃ j, j < s.vols.length ∧ s.orgOf (s.vols[i]!) = s.vols[j]! ∧ s'.orgOf (s'.vols[i]!) = s'.vols[j]! := by
  obtain ⟨o1, o2, o3, o4⟩ := h.orgOf (get_mem hi)
  have hi' : i < s'.vols.length := by rw [hb.len]; exact hi
  obtain ⟨p1, p2, p3, p4⟩ := h'.orgOf (get_mem hi')
  obtain ⟨q1, q2, q3, q4⟩ := hb.same i hi
  by_cases ho : (s.vols[i]!).org = none
  · exact ⟨i, hi, o3 ho, p3 (by rw [q4]; exact ho)⟩
  · obtain ⟨j, hj, e⟩ := mem_index o1
    refine ⟨j, hj, e.symm, ?_⟩
    have hj' : j < s'.vols.length := by rw [hb.len]; exact hj
    refine h'.vb_inj p1 (get_mem hj') ?_
    have e1 := o4 ho
    have e2 := p4 (by rw [q4]; exact ho)
    rw [q4, e1] at e2
    have e3 : (s.orgOf (s.vols[i]!)).vb = (s'.orgOf (s'.vols[i]!)).vb := by simpa using e2
    rw [← e3, ← e, (hb.same j hj).1]
theorem Base.size {w w' : World} {s s' : St} (hb : Base s s') (h : PoolAt w s) (h' : PoolAt w' s') (i : Nat) (hi : i < s.vols.length) : s'.size (s'.vols[i]!) = s.size (s.vols[i]!) := by
  obtain ⟨j, hj, e1, e2⟩ := hb.orgOf h h' i hi
  unfold St.size
  rw [e1, e2, (hb.same j hj).2.2.1]
theorem get_set_ne {bl : List Blk} {x y : Nat} (b : Blk) (h : x ≠ y) (hx : x < bl.length) : (bl.set y b)[x]! = bl[x]! := by
  rw [getElem!_pos _ x (by simpa using hx), getElem!_pos bl x hx, List.getElem_set_ne (fun e => h e.symm)]
theorem get_set_eq {bl : List Blk} {y : Nat} (b : Blk) (hy : y < bl.length) : (bl.set y b)[y]! = b := by
  rw [getElem!_pos _ y (by simpa using hy)]; simp
/-- The pictures of what lies at a place. -/
def St.picsOf (s : St) (ub : Nat) : List Vol := s.vols.filter fun v => decide (v.org = some ub)
/-- What a picture keeps, and whether it is lost, when it must keep a place. -/
def keepRes (k : Nat) (v : Vol) : List Nat × Bool := if k ∈ v.kept ∨ v.lost = true then (v.kept, v.lost) else if v.kept.length < v.xs.length then (v.kept ++ [k], v.lost) else ([], true)
/-- The room of pictures that is not used is 0. -/
def Spare (s : St) : Prop := ∀ i, i < s.vols.length → (s.vols[i]!).org ≠ none → ∀ x ∈ (s.vols[i]!).xs.drop (s.vols[i]!).kept.length, s.bl[x]! = Blk.zero
/-- Some have kept a place; each one that is not lost holds what it held. -/
structure Kept (s s' : St) (k : Nat) (P : Vol → Prop) : Prop where
  base : Base s s'
  did : ∀ i, i < s.vols.length → P (s.vols[i]!) → ((s'.vols[i]!).kept, (s'.vols[i]!).lost) = keepRes k (s.vols[i]!)
  rest : ∀ i, i < s.vols.length → ¬ P (s.vols[i]!) → (s'.vols[i]!).kept = (s.vols[i]!).kept ∧ (s'.vols[i]!).lost = (s.vols[i]!).lost
  look : ∀ i, i < s.vols.length → (s'.vols[i]!).lost = false → ∀ q, q < s.size (s.vols[i]!) → s'.look (s'.vols[i]!) q = s.look (s.vols[i]!) q
  spare : Spare s → Spare s'
theorem After.step {w0 w w' : World} {s s1 s2 : St} {f1 f2 : List Nat} (h : After w0 s w s1 f1) (k : After w s1 w' s2 f2) : After w0 s w' s2 f2 := by
  have hz := h.same.size
  refine ⟨k.pool, k.good, h.same.step k.same ?_, fun q hq => ?_, k.pb.trans h.pb, k.n.trans h.n⟩
  · intro q hq hl
    rcases h.foot q hq with e | e
    · exact e
    · omega
  · rcases k.foot q hq with e | e
    · exact h.foot q e
    · right; omega
theorem Kept.congr {s s' : St} {k : Nat} {P Q : Vol → Prop} (h : Kept s s' k P) (e : ∀ i, i < s.vols.length → (P (s.vols[i]!) ↔ Q (s.vols[i]!))) : Kept s s' k Q :=
  ⟨h.base, fun i hi hq => h.did i hi ((e i hi).2 hq), fun i hi hq => h.rest i hi (fun hp => hq ((e i hi).1 hp)), h.look, h.spare⟩
theorem Kept.start (s : St) (k : Nat) : Kept s s k (fun v => v ∈ ([] : List Vol)) :=
  ⟨Base.refl s, fun i hi hp => by simp at hp, fun i hi _ => ⟨rfl, rfl⟩, fun i hi _ q _ => rfl, id⟩
/-- One picture has kept the place. -/
structure Step (s s' : St) (k i : Nat) : Prop where
  base : Base s s'
  did : ((s'.vols[i]!).kept, (s'.vols[i]!).lost) = keepRes k (s.vols[i]!)
  rest : ∀ j, j < s.vols.length → j ≠ i → (s'.vols[j]!).kept = (s.vols[j]!).kept ∧ (s'.vols[j]!).lost = (s.vols[j]!).lost
  look : ∀ j, j < s.vols.length → (s'.vols[j]!).lost = false → ∀ q, q < s.size (s.vols[j]!) → s'.look (s'.vols[j]!) q = s.look (s.vols[j]!) q
  spare : Spare s → Spare s'
theorem Step.none (s : St) (k i : Nat) (h : k ∈ (s.vols[i]!).kept ∨ (s.vols[i]!).lost = true) : Step s s k i :=
  ⟨Base.refl s, by rw [keepRes, if_pos h], fun j _ _ => ⟨rfl, rfl⟩, fun j _ _ q _ => rfl, id⟩
theorem index_inj {w : World} {s : St} (h : PoolAt w s) {i j : Nat} (hi : i < s.vols.length) (hj : j < s.vols.length) (e : (s.vols[i]!).vb = (s.vols[j]!).vb) : i = j := by
  have hp := flatMap_foot_vb _ h.flat_nodup
  rw [List.pairwise_iff_getElem] at hp
  rw [getElem!_pos s.vols i hi, getElem!_pos s.vols j hj] at e
  rcases Nat.lt_trichotomy i j with h1 | h1 | h1
  · exact absurd e (hp i j hi hj h1)
  · exact h1
  · exact absurd e.symm (hp j i hj hi h1)
theorem Kept.one {w w' : World} {s sj s2 : St} {k : Nat} {P : Vol → Prop} (hK : Kept s sj k P) (h : PoolAt w s) (hj : PoolAt w' sj) (i : Nat) (hi : i < s.vols.length) (hn : ¬ P (s.vols[i]!)) (hS : Step sj s2 k i) : Kept s s2 k (fun v => P v ∨ v = s.vols[i]!) := by
  have hlen := hK.base.len
  refine ⟨hK.base.trans hS.base, fun m hm hp => ?_, fun m hm hp => ?_, fun m hm hl q hq => ?_, fun sp => hS.spare (hK.spare sp)⟩
  · by_cases e : m = i
    · subst e
      obtain ⟨r1, r2⟩ := hK.rest m hm hn
      rw [hS.did]
      unfold keepRes
      rw [r1, r2, (hK.base.same m hm).2.2.1]
    · obtain ⟨r1, r2⟩ := hS.rest m (by rw [hlen]; exact hm) e
      rw [r1, r2]
      refine hK.did m hm ?_
      rcases hp with hp | hp
      · exact hp
      · exact absurd (index_inj h hm hi (by rw [hp])) e
  · have e : m ≠ i := fun e => hp (Or.inr (by rw [e]))
    obtain ⟨r1, r2⟩ := hS.rest m (by rw [hlen]; exact hm) e
    obtain ⟨q1, q2⟩ := hK.rest m hm (fun hq => hp (Or.inl hq))
    exact ⟨r1.trans q1, r2.trans q2⟩
  · have hm' : m < sj.vols.length := by rw [hlen]; exact hm
    have hlj : (sj.vols[m]!).lost = false := by
      cases hx : (sj.vols[m]!).lost with
      | false => rfl
      | true => rw [hS.base.lost m hm' hx] at hl; cases hl
    rw [hS.look m hm' hl q (by rw [hK.base.size h hj m hm]; exact hq)]
    exact hK.look m hm hlj q hq
end
end Go.Proofs.Ytpddgdjocffgdaa
