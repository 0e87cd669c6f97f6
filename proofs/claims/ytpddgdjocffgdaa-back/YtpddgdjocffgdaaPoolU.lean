/- A Pool: what pictures keep, in steps. -/
import Derived.Test.YtpddgdjocffgdaaPoolS
import Derived.Test.YtpddgdjocffgdaaPoolT
import Derived.Test.YtpddgdjocffgdaaPoolQ
namespace Go.Proofs.Ytpddgdjocffgdaa
open Go.RowKit Go.Sort
set_option linter.unusedVariables false
set_option linter.unusedSimpArgs false
set_option linter.unusedSectionVars false
variable [DecidableEq Blk] [Inhabited Blk]
variable [Inhabited Vol]

/-- What a picture keeps, and whether it is lost, when it must keep a place. -/
def keepRes (k : Nat) (v : Vol) : List Nat × Bool := if k ∈ v.kept ∨ v.lost = true then (v.kept, v.lost) else if v.kept.length < v.xs.length then (v.kept ++ [k], v.lost) else ([], true)

/-- Some have kept a place; each one that is not lost holds what it held. -/
structure Kept (s s' : St) (k : Nat) (P : Vol → Prop) : Prop where
  base : Base s s'
  did : ∀ i, i < s.vols.length → P (s.vols[i]!) → ((s'.vols[i]!).kept, (s'.vols[i]!).lost) = keepRes k (s.vols[i]!)
  rest : ∀ i, i < s.vols.length → ¬ P (s.vols[i]!) → (s'.vols[i]!).kept = (s.vols[i]!).kept ∧ (s'.vols[i]!).lost = (s.vols[i]!).lost
  look : ∀ i, i < s.vols.length → (s'.vols[i]!).lost = false → ∀ q, q < s.size (s.vols[i]!) → s'.look (s'.vols[i]!) q = s.look (s.vols[i]!) q

theorem After.step {w0 w w' : World} {s s1 s2 : St} {f1 f2 : List Nat} (h : After w0 s w s1 f1) (k : After w s1 w' s2 f2) : After w0 s w' s2 f2 := by
  have hz := h.same.size
  refine ⟨k.pool, k.good, h.same.step k.same ?_, fun q hq => ?_, k.pb.trans h.pb, k.n.trans h.n⟩
  · intro q hq hl
    rcases h.foot q hq with e | e
    · exact e
    · omega
  · rcases k.foot q hq with e | e
    · exact h.foot q e
    · right; omega

theorem Kept.congr {s s' : St} {k : Nat} {P Q : Vol → Prop} (h : Kept s s' k P) (e : ∀ i, i < s.vols.length → (P (s.vols[i]!) ↔ Q (s.vols[i]!))) : Kept s s' k Q :=
  ⟨h.base, fun i hi hq => h.did i hi ((e i hi).2 hq), fun i hi hq => h.rest i hi (fun hp => hq ((e i hi).1 hp)), h.look⟩
theorem Kept.start (s : St) (k : Nat) : Kept s s k (fun v => v ∈ ([] : List Vol)) :=
  ⟨Base.refl s, fun i hi hp => by simp at hp, fun i hi _ => ⟨rfl, rfl⟩, fun i hi _ q _ => rfl⟩

/-- One picture has kept the place. -/
structure Step (s s' : St) (k i : Nat) : Prop where
  base : Base s s'
  did : ((s'.vols[i]!).kept, (s'.vols[i]!).lost) = keepRes k (s.vols[i]!)
  rest : ∀ j, j < s.vols.length → j ≠ i → (s'.vols[j]!).kept = (s.vols[j]!).kept ∧ (s'.vols[j]!).lost = (s.vols[j]!).lost
  look : ∀ j, j < s.vols.length → (s'.vols[j]!).lost = false → ∀ q, q < s.size (s.vols[j]!) → s'.look (s'.vols[j]!) q = s.look (s.vols[j]!) q

theorem Step.none (s : St) (k i : Nat) (h : k ∈ (s.vols[i]!).kept ∨ (s.vols[i]!).lost = true) : Step s s k i :=
  ⟨Base.refl s, by rw [keepRes, if_pos h], fun j _ _ => ⟨rfl, rfl⟩, fun j _ _ q _ => rfl⟩

theorem index_inj {w : World} {s : St} (h : PoolAt w s) {i j : Nat} (hi : i < s.vols.length) (hj : j < s.vols.length) (e : (s.vols[i]!).vb = (s.vols[j]!).vb) : i = j := by
  have hp := flatMap_foot_vb _ h.flat_nodup
  rw [List.pairwise_iff_getElem] at hp
  rw [getElem!_pos s.vols i hi, getElem!_pos s.vols j hj] at e
  rcases Nat.lt_trichotomy i j with h1 | h1 | h1
  · exact absurd e (hp i j hi hj h1)
  · exact h1
  · exact absurd e.symm (hp j i hj hi h1)

theorem Kept.one {w w' : World} {s sj s2 : St} {k : Nat} {P : Vol → Prop} (hK : Kept s sj k P) (h : PoolAt w s) (hj : PoolAt w' sj) (i : Nat) (hi : i < s.vols.length) (hn : ¬ P (s.vols[i]!)) (hS : Step sj s2 k i) : Kept s s2 k (fun v => P v ∨ v = s.vols[i]!) := by
  have hlen := hK.base.len
  refine ⟨hK.base.trans hS.base, fun m hm hp => ?_, fun m hm hp => ?_, fun m hm hl q hq => ?_⟩
  · by_cases e : m = i
    · subst e
      obtain ⟨r1, r2⟩ := hK.rest m hm hn
      rw [hS.did]
      unfold keepRes
      rw [r1, r2, (hK.base.same m hm).2.2.1]
    · obtain ⟨r1, r2⟩ := hS.rest m (by rw [hlen]; exact hm) e
      rw [r1, r2]
      refine hK.did m hm ?_
      rcases hp with hp | hp
      · exact hp
      · exact absurd (index_inj h hm hi (by rw [hp])) e
  · have e : m ≠ i := fun e => hp (Or.inr (by rw [e]))
    obtain ⟨r1, r2⟩ := hS.rest m (by rw [hlen]; exact hm) e
    obtain ⟨q1, q2⟩ := hK.rest m hm (fun hq => hp (Or.inl hq))
    exact ⟨r1.trans q1, r2.trans q2⟩
  · have hm' : m < sj.vols.length := by rw [hlen]; exact hm
    have hlj : (sj.vols[m]!).lost = false := by
      cases hx : (sj.vols[m]!).lost with
      | false => rfl
      | true => rw [hS.base.lost m hm' hx] at hl; cases hl
    rw [hS.look m hm' hl q (by rw [hK.base.size h hj m hm]; exact hq)]
    exact hK.look m hm hlj q hq

theorem step_more {w w' : World} {s : St} {fr : List Nat} (h : PoolAt w s) (hG : Good s fr) (i : Nat) (v : Vol) (g k : Nat) (b : Blk) (hi : i < s.vols.length) (hv : s.vols[i]! = v) (ho : v.org ≠ none) (hl : v.lost = false) (hf : v.kept.length < v.xs.length) (hk : k ∉ v.kept) (hks : k < s.size v) (hb : b = s.look v k)
    (h' : PoolAt w' { s with bl := s.bl.set v.xs[v.kept.length]! b, vols := setVol i (v.keeping g k) s.vols }) : Step s { s with bl := s.bl.set v.xs[v.kept.length]! b, vols := setVol i (v.keeping g k) s.vols } k i := by
  refine ⟨base_set _ i hi _ (by rw [hv]; rfl) (by rw [hv]; rfl) (by rw [hv]; rfl) (by rw [hv]; rfl) (by rw [hv]; exact id), ?_, fun j hj hne => ?_, fun j hj _ q hq => ?_⟩
  · show ((setVol i (v.keeping g k) s.vols)[i]!.kept, (setVol i (v.keeping g k) s.vols)[i]!.lost) = _
    rw [setVol_get i i _ s.vols hi hi, if_pos rfl, hv, keepRes, if_neg (by simp [hk, hl]), if_pos hf]
    rfl
  · show (setVol i (v.keeping g k) s.vols)[j]!.kept = _ ∧ (setVol i (v.keeping g k) s.vols)[j]!.lost = _
    rw [setVol_get i j _ s.vols hi hj, if_neg hne]
    exact ⟨rfl, rfl⟩
  · have := keep_looks h hG i v g k b hi hv ho hf hk hks h' j hj q hq
    refine this.trans ?_
    split
    · rename_i e; obtain ⟨e1, e2⟩ := e; subst e1; subst e2; rw [hv]; exact hb
    · rfl
theorem step_lost {w w' : World} {s : St} {fr : List Nat} (h : PoolAt w s) (hG : Good s fr) (i : Nat) (v : Vol) (k : Nat) (hi : i < s.vols.length) (hv : s.vols[i]! = v) (ho : v.org ≠ none) (hl : v.lost = false) (hf : v.kept.length = v.xs.length) (hk : k ∉ v.kept)
    (h' : PoolAt w' { s with bl := giveB v.xs s.bl, vols := setVol i v.losing s.vols }) : Step s { s with bl := giveB v.xs s.bl, vols := setVol i v.losing s.vols } k i := by
  refine ⟨base_set _ i hi _ (by rw [hv]; rfl) (by rw [hv]; rfl) (by rw [hv]; rfl) (by rw [hv]; rfl) (fun _ => rfl), ?_, fun j hj hne => ?_, fun j hj hlj q hq => ?_⟩
  · show ((setVol i v.losing s.vols)[i]!.kept, (setVol i v.losing s.vols)[i]!.lost) = _
    rw [setVol_get i i _ s.vols hi hi, if_pos rfl, hv, keepRes, if_neg (by simp [hk, hl]), if_neg (by omega)]
    rfl
  · show (setVol i v.losing s.vols)[j]!.kept = _ ∧ (setVol i v.losing s.vols)[j]!.lost = _
    rw [setVol_get i j _ s.vols hi hj, if_neg hne]
    exact ⟨rfl, rfl⟩
  · have hji : j ≠ i := by
      intro e; subst e
      have : (setVol j v.losing s.vols)[j]!.lost = false := hlj
      rw [setVol_get j j _ s.vols hi hi, if_pos rfl] at this
      cases this
    exact lose_looks h hG i v hi hv ho h' j hj hji q hq

theorem picsOf_mem {s : St} {ub : Nat} {v : Vol} : v ∈ s.picsOf ub ↔ v ∈ s.vols ∧ v.org = some ub := by
  simp [St.picsOf]
theorem picsOf_nodup {w : World} {s : St} (h : PoolAt w s) (ub : Nat) : (s.picsOf ub).Pairwise fun a b => a.vb ≠ b.vb :=
  (flatMap_foot_vb _ h.flat_nodup).sublist List.filter_sublist

end Go.Proofs.Ytpddgdjocffgdaa
