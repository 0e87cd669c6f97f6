/- The program's state beside the document's own answer: what is new, and what is made longer or shorter. The program's state beside the document's own answer: a Write, and a Revert. The program's state beside the document's own answer: a Revert. A Pool: Resize, by contracts. A Pool: Resize, by contracts: a greater size. -/
import Derived.Test.YtpddgdjocffgdaaG31
import Derived.Test.YtpddgdjocffgdaaG15
import Derived.Test.YtpddgdjocffgdaaG21
import Derived.Test.YtpddgdjocffgdaaG10
import Derived.Test.YtpddgdjocffgdaaG11
namespace Go.Proofs.Ytpddgdjocffgdaa
section PartRelC
open Go.RowKit Go.Sort
set_option linter.unusedVariables false
set_option linter.unusedSimpArgs false
set_option linter.unusedSectionVars false
variable [DecidableEq Blk] [Inhabited Blk]
variable [Inhabited Vol]
variable [Inhabited RVol]

theorem get_replicate {α : Type} [Inhabited α] (n q : Nat) (a : α) (h : q < n) : (List.replicate n a)[q]! = a := by
  rw [getElem!_pos _ q (by simpa using h)]; simp

/-- A new volume. -/
theorem relV_new {w : World} {s s' : St} {fr : List Nat} {v0 : Vol} {x0 : RVol} (hG : Good s fr) (hbl : s'.bl = s.bl) {k : Nat} (hk : k ≤ fr.length) (hxs : v0.xs = fr.take k) (ho : v0.org = none) (hkp : v0.kept = []) (hl : v0.lost = false)
    (h1 : x0.name = v0.name) (h2 : x0.of_ = ⟨#[]⟩) (h3 : x0.data = List.replicate k zero8) (h4 : x0.blocks = fr.take k) (h5 : x0.kept = []) (h6 : x0.lost = false) : RelV s' v0 x0 := by
  have e : s'.orgOf v0 = v0 := by unfold St.orgOf; rw [ho]
  have hsz : s'.size v0 = k := by unfold St.size; rw [e, hxs, List.length_take]; omega
  have hlook : ∀ q, q < k → s'.look v0 q = Blk.zero := fun q hq => by
    unfold St.look St.holder
    rw [e, hkp, if_neg (by simp), hbl]
    refine hG.zero _ ?_
    rw [hxs]
    exact List.mem_of_mem_take (mem_getElem! (by rw [List.length_take]; omega))
  refine ⟨h1, by rw [h2, if_pos ho], by rw [h3, hsz]; simp, by rw [h4, hxs], by rw [h5, hkp], by rw [h6, hl], fun _ q hq => ?_, fun _ q hq => ?_⟩
  · rw [hlook q (by omega)]; exact Blk.zero_ok
  · rw [hlook q (by omega), h3, get_replicate _ _ _ (by omega), Blk.zero_text]

/-- A new picture. -/
theorem relV_picture {w w' : World} {s s' : St} {v0 u : Vol} {x0 xu : RVol} (hP : PoolAt w s) (h' : PoolAt w' s') (hsub : ∀ v ∈ s.vols, v ∈ s'.vols) (hbl : s'.bl = s.bl) (hu : u ∈ s.vols) (hu0 : u.org = none) (hru : RelV s u xu) (hv0 : v0 ∈ s'.vols) (ho : v0.org = some u.vb) (hkp : v0.kept = []) (hl : v0.lost = false)
    (h1 : x0.name = v0.name) (h2 : x0.of_ = u.name) (h3 : x0.data = xu.data) (h4 : x0.blocks = v0.xs) (h5 : x0.kept = []) (h6 : x0.lost = false) : RelV s' v0 x0 := by
  have hul : u.lost = false := ((hP.vols u hu).plain hu0).2
  have e : s'.orgOf v0 = u := by unfold St.orgOf; rw [ho]; exact h'.volAt (hsub u hu)
  have hn := look_new hP h' hsub hbl hu hu0 hv0 ho hkp
  have hsz := (hn 0).2
  refine ⟨h1, by rw [h2, if_neg (by rw [ho]; simp), e], by rw [h3, hsz]; exact hru.size, h4, by rw [h5, hkp], by rw [h6, hl], fun _ q hq => ?_, fun _ q hq => ?_⟩
  · rw [(hn q).1]; exact hru.ok hul q (by omega)
  · rw [(hn q).1, h3]; exact hru.data hul q (by omega)

/-- One without pictures has its blocks changed: the others are as they were. -/
theorem rel_others {w w' : World} {s s' : St} {r : RSt} {i : Nat} {v' : Vol} (h : Rel s r) (hP : PoolAt w s) (h' : PoolAt w' s') (hi : i < s.vols.length) (hv : s'.vols = setVol i v' s.vols) (hno : s.picsOf (s.vols[i]!).vb = [])
    (hb : ∀ j, j < s.vols.length → j ≠ i → ∀ q ∈ (s.vols[j]!).xs, s'.bl[q]! = s.bl[q]!) (j : Nat) (hj : j < s.vols.length) (hne : j ≠ i) : RelV s' (s.vols[j]!) (r.vols[j]!) := by
  have hm := get_mem hj
  obtain ⟨o1, o2, o3, o4⟩ := hP.orgOf hm
  have ho : s.orgOf (s.vols[j]!) ≠ s.vols[i]! := fun e => by
    by_cases hq : (s.vols[j]!).org = none
    · rw [o3 hq] at e
      exact names_ne hP hj hi hne (congrArg Vol.name e)
    · have e4 := o4 hq
      rw [e] at e4
      have : s.vols[j]! ∈ s.picsOf (s.vols[i]!).vb := picsOf_mem.2 ⟨hm, e4⟩
      rw [hno] at this
      simp at this
  obtain ⟨jo, hjo, ejo⟩ := mem_index o1
  have hjne : jo ≠ i := fun e => ho (by rw [← e]; exact ejo.symm)
  refine (h.each j hj).keep hP h' hm (fun _ => ?_) fun _ q hq => ?_
  · rw [hv, ← ejo]; exact setVol_mem.2 (Or.inr (del_mem hP hi hjo hjne))
  · rcases holder_in hP hm hq with e | e
    · exact hb j hj hne _ e
    · rw [← ejo] at e
      exact hb jo hjo hjne _ e

theorem setL_get {α : Type} [Inhabited α] (l : List α) (i j : Nat) (v : α) (hi : i < l.length) (hj : j < l.length) : (l.set i v)[j]! = if j = i then v else l[j]! := by
  rw [getElem!_pos _ j (by simpa using hj), List.getElem_set]
  by_cases h : i = j
  · subst h; simp
  · rw [if_neg h, if_neg (fun e => h e.symm), getElem!_pos l j hj]

/-- All but one as they were, and that one as it is now. -/
theorem rel_set {s s' : St} {r : RSt} {i : Nat} {v' : Vol} {x' : RVol} (h : Rel s r) (hi : i < s.vols.length) (hv : s'.vols = setVol i v' s.vols) (hn : s'.n = s.n) (hx : RelV s' v' x') (ho : ∀ j, j < s.vols.length → j ≠ i → RelV s' (s.vols[j]!) (r.vols[j]!)) : Rel s' { r with vols := r.vols.set i x' } := by
  refine ⟨h.n.trans hn.symm, ?_, fun j hj => ?_⟩
  · show (r.vols.set i x').length = _
    rw [hv, setVol_length i v' s.vols hi, List.length_set]; exact h.len
  · have hj' : j < s.vols.length := by rw [hv, setVol_length i v' s.vols hi] at hj; exact hj
    show RelV s' (s'.vols[j]!) ((r.vols.set i x')[j]!)
    rw [hv, setVol_get i j v' s.vols hi hj', setL_get _ _ _ _ (by rw [h.len]; exact hi) (by rw [h.len]; exact hj')]
    by_cases e : j = i
    · rw [if_pos e, if_pos e]; exact hx
    · rw [if_neg e, if_neg e]; exact ho j hj' e

theorem take_get {α : Type} [Inhabited α] (l : List α) (k q : Nat) (h : q < k) (hl : q < l.length) : (l.take k)[q]! = l[q]! := by
  rw [getElem!_pos _ q (by simp; omega), getElem!_pos l q hl]; simp
theorem app_get_left {α : Type} [Inhabited α] (a b : List α) (q : Nat) (h : q < a.length) : (a ++ b)[q]! = a[q]! := by
  rw [getElem!_pos _ q (by simp; omega), getElem!_pos a q h, List.getElem_append_left h]
theorem app_get_right {α : Type} [Inhabited α] (a b : List α) (q : Nat) (h : a.length ≤ q) (hb : q < a.length + b.length) : (a ++ b)[q]! = b[q - a.length]! := by
  rw [getElem!_pos _ q (by simp; omega), getElem!_pos b _ (by omega), List.getElem_append_right h]

/-- A volume made shorter. -/
theorem relV_cut {w : World} {s s' : St} {fr : List Nat} {v v' : Vol} {x x' : RVol} {k : Nat} (hP : PoolAt w s) (hG : Good s fr) (hv : v ∈ s.vols) (hr : RelV s v x) (ho : v.org = none) (hk : k ≤ v.xs.length) (hbl : s'.bl = giveB (v.xs.drop k) s.bl) (hv' : v' = { v with xs := v.xs.take k }) (hn : v.xs.Nodup)
    (h1 : x'.name = x.name) (h2 : x'.of_ = x.of_) (h3 : x'.data = x.data.take k) (h4 : x'.blocks = x.blocks.take k) (h5 : x'.kept = x.kept) (h6 : x'.lost = x.lost) : RelV s' v' x' := by
  have e0 : s.orgOf v = v := (hP.orgOf hv).2.2.1 ho
  have hsz0 : s.size v = v.xs.length := by unfold St.size; rw [e0]
  have hkn := (hP.vols v hv).kept_nil ho
  have hl := ((hP.vols v hv).plain ho).2
  have ho' : v'.org = none := by rw [hv']; exact ho
  have hx' : v'.xs = v.xs.take k := by rw [hv']
  have hk' : v'.kept = [] := by rw [hv']; exact hkn
  have e : s'.orgOf v' = v' := by unfold St.orgOf; rw [ho']
  have hsz : s'.size v' = k := by unfold St.size; rw [e, hx', List.length_take]; omega
  have hlook : ∀ q, q < k → s'.look v' q = s.look v q := fun q hq => by
    unfold St.look St.holder
    rw [e, e0, hk', hkn, if_neg (by simp), if_neg (by simp), hx', take_get _ _ _ hq (by omega), hbl]
    have hm : v.xs[q]! ∈ v.xs := mem_getElem! (by omega)
    rw [giveB_get _ _ _ (by rw [hP.disk.len]; exact hG.lt.2 v hv _ hm), if_neg]
    intro hd
    rw [← List.take_append_drop k v.xs, List.nodup_append] at hn
    refine hn.2.2 v.xs[q]! ?_ _ hd rfl
    rw [← take_get v.xs k q hq (by omega)]
    exact mem_getElem! (by rw [List.length_take]; omega)
  have hd0 := hr.size
  refine ⟨by rw [h1, hr.name, hv'], by rw [h2, hr.of_, if_pos ho, if_pos ho'], by rw [h3, hsz, List.length_take]; omega, by rw [h4, hr.blocks, hx'], by rw [h5, hr.kept, hv'], by rw [h6, hr.lost, hv'], fun _ q hq => ?_, fun _ q hq => ?_⟩
  · rw [hlook q (by omega)]; exact hr.ok hl q (by omega)
  · rw [hlook q (by omega), h3, take_get _ _ _ (by omega) (by omega)]; exact hr.data hl q (by omega)

/-- A volume made longer. -/
theorem relV_grow {w : World} {s s' : St} {fr : List Nat} {v v' : Vol} {x x' : RVol} {m g : Nat} (hP : PoolAt w s) (hG : Good s fr) (hv : v ∈ s.vols) (hr : RelV s v x) (ho : v.org = none) (hm : m ≤ fr.length) (hbl : s'.bl = s.bl) (hv' : v' = { v with gb := g, xs := v.xs ++ fr.take m })
    (h1 : x'.name = x.name) (h2 : x'.of_ = x.of_) (h3 : x'.data = x.data ++ List.replicate m zero8) (h4 : x'.blocks = x.blocks ++ fr.take m) (h5 : x'.kept = x.kept) (h6 : x'.lost = x.lost) : RelV s' v' x' := by
  have e0 : s.orgOf v = v := (hP.orgOf hv).2.2.1 ho
  have hsz0 : s.size v = v.xs.length := by unfold St.size; rw [e0]
  have hkn := (hP.vols v hv).kept_nil ho
  have hl := ((hP.vols v hv).plain ho).2
  have ho' : v'.org = none := by rw [hv']; exact ho
  have hx' : v'.xs = v.xs ++ fr.take m := by rw [hv']
  have hk' : v'.kept = [] := by rw [hv']; exact hkn
  have e : s'.orgOf v' = v' := by unfold St.orgOf; rw [ho']
  have hft : (fr.take m).length = m := by rw [List.length_take]; omega
  have hsz : s'.size v' = v.xs.length + m := by unfold St.size; rw [e, hx', List.length_append, hft]
  have hd0 := hr.size
  have hlook : ∀ q, q < v.xs.length → s'.look v' q = s.look v q := fun q hq => by
    unfold St.look St.holder
    rw [e, e0, hk', hkn, if_neg (by simp), if_neg (by simp), hx', app_get_left _ _ _ hq, hbl]
  have hlook2 : ∀ q, v.xs.length ≤ q → q < v.xs.length + m → s'.look v' q = Blk.zero := fun q hq1 hq2 => by
    unfold St.look St.holder
    rw [e, hk', if_neg (by simp), hx', app_get_right _ _ _ hq1 (by omega), hbl]
    exact hG.zero _ (List.mem_of_mem_take (mem_getElem! (by omega)))
  refine ⟨by rw [h1, hr.name, hv'], by rw [h2, hr.of_, if_pos ho, if_pos ho'], by rw [h3, hsz, List.length_append, List.length_replicate]; omega, by rw [h4, hr.blocks, hx'], by rw [h5, hr.kept, hv'], by rw [h6, hr.lost, hv'], fun _ q hq => ?_, fun _ q hq => ?_⟩
  · by_cases hq1 : q < v.xs.length
    · rw [hlook q hq1]; exact hr.ok hl q (by omega)
    · rw [hlook2 q (by omega) (by omega)]; exact Blk.zero_ok
  · by_cases hq1 : q < v.xs.length
    · rw [hlook q hq1, h3, app_get_left _ _ _ (by omega)]; exact hr.data hl q (by omega)
    · rw [hlook2 q (by omega) (by omega), h3, app_get_right _ _ _ (by omega) (by rw [List.length_replicate]; omega), get_replicate _ _ _ (by omega), Blk.zero_text]
end PartRelC

section PartRelD
open Go.RowKit Go.Sort
set_option linter.unusedVariables false
set_option linter.unusedSimpArgs false
set_option linter.unusedSectionVars false
variable [DecidableEq Blk] [Inhabited Blk]
variable [Inhabited Vol]
variable [Inhabited RVol]

theorem set_get {α : Type} [Inhabited α] (l : List α) (k q : Nat) (y : α) (hq : q < l.length) : (l.set k y)[q]! = if q = k then y else l[q]! := by
  rw [getElem!_pos _ q (by simpa using hq), List.getElem_set]
  by_cases h : k = q
  · subst h; simp
  · rw [if_neg h, if_neg (fun e => h e.symm), getElem!_pos l q hq]

/-- A Write to a volume. -/
theorem rel_write_vol {w w' : World} {s s1 : St} {r : RSt} {fr : List Nat} {k iu : Nat} {u : Vol} {b : Blk} {rv : List RVol} (h : Rel s r) (hP : PoolAt w s) (hG : Good s fr) (hiu : iu < s.vols.length) (hu : s.vols[iu]! = u) (hu0 : u.org = none) (hk : k < u.xs.length) (hbo : b.ok)
    (hK : Kept s s1 k (fun v => v.org = some u.vb)) (h' : PoolAt w' { s1 with bl := s1.bl.set u.xs[k]! b }) (hG' : Good { s1 with bl := s1.bl.set u.xs[k]! b } fr) (hn : s1.n = s.n)
    (hrv : RWrote r.vols rv iu k u.name b.text) : Rel { s1 with bl := s1.bl.set u.xs[k]! b } { r with vols := rv } := by
  have hb := hK.base.bl (s1.bl.set u.xs[k]! b)
  have hl := h.len
  refine ⟨h.n.trans hn.symm, by rw [hrv.len, hl]; exact hK.base.len.symm, fun j hj => ?_⟩
  have hj' : j < s.vols.length := by have : j < s1.vols.length := hj; rw [hK.base.len] at this; exact this
  have hjr : j < r.vols.length := by omega
  have hm := get_mem hj'
  have hr := h.each j hj'
  obtain ⟨s1', s2', s3', s4'⟩ := hb.same j hj'
  obtain ⟨c1, c2, c3⟩ := hrv.same j hjr
  have cd := hrv.data j hjr
  have ck := hrv.kept j hjr
  obtain ⟨jo, hjo, e1, e2⟩ := hb.orgOf hP h' j hj'
  have hsz := hb.size hP h' j hj'
  have hon : (St.orgOf { s1 with bl := s1.bl.set u.xs[k]! b } (s1.vols[j]!)).name = (s.orgOf (s.vols[j]!)).name := by
    show (St.orgOf _ (St.vols { s1 with bl := s1.bl.set u.xs[k]! b })[j]!).name = _
    rw [e1, e2]; exact (hb.same jo hjo).2.1
  have hpc : (s.vols[j]!).org = some u.vb ↔ (r.vols[j]!).of_ = u.name := by
    rw [hr.of_]
    obtain ⟨o1, o2, o3, o4⟩ := hP.orgOf hm
    by_cases ho : (s.vols[j]!).org = none
    · rw [if_pos ho, ho]
      refine ⟨fun e => by simp at e, fun e => absurd e.symm (name_ne_nil hG (by rw [← hu]; exact get_mem hiu))⟩
    · rw [if_neg ho, o4 ho]
      constructor
      · intro e
        have : (s.orgOf (s.vols[j]!)).vb = u.vb := by simpa using e
        rw [hP.vb_inj o1 (by rw [← hu]; exact get_mem hiu) this]
      · intro e
        obtain ⟨a, ha, ea⟩ := mem_index o1
        by_cases hai : a = iu
        · rw [← ea, hai, hu]
        · exact absurd (by rw [ea, hu]; exact e) (names_ne hP ha hiu hai)
  have hkl : ((s1.vols[j]!).kept, (s1.vols[j]!).lost) = ((rv[j]!).kept, (rv[j]!).lost) := by
    rw [ck]
    by_cases hp : (s.vols[j]!).org = some u.vb
    · rw [hK.did j hj' hp]
      unfold keepRes rkeep
      rw [hr.kept, hr.lost, hr.blocks]
      by_cases hlo : (s.vols[j]!).lost = true
      · rw [if_pos (Or.inr hlo), if_neg (fun e => by have := e.2; rw [hlo] at this; cases this)]
      · have hlo' : (s.vols[j]!).lost = false := by simpa using hlo
        rw [if_pos (⟨hpc.1 hp, hlo'⟩ : (r.vols[j]!).of_ = u.name ∧ _)]
        by_cases hkk : k ∈ (s.vols[j]!).kept
        · rw [if_pos (Or.inl hkk), if_pos hkk]
        · rw [if_neg (fun e => e.elim hkk (fun q => by rw [hlo'] at q; cases q)), if_neg hkk]
    · obtain ⟨k1, k2⟩ := hK.rest j hj' hp
      rw [if_neg (fun e => hp (hpc.2 e.1)), k1, k2, hr.kept, hr.lost]
  have hk1 := congrArg Prod.fst hkl
  have hk2 := congrArg Prod.snd hkl
  simp only at hk1 hk2
  have hlk : (s1.vols[j]!).lost = false → ∀ q, q < s.size (s.vols[j]!) → St.look { s1 with bl := s1.bl.set u.xs[k]! b } (s1.vols[j]!) q = if j = iu ∧ q = k then b else s.look (s.vols[j]!) q := fun hlo q hq => vol_looks hP hiu hu hu0 hk hK h' hG' j hj' hlo q hq
  have hold : (s1.vols[j]!).lost = false → (s.vols[j]!).lost = false := fun hlo => by
    cases hc : (s.vols[j]!).lost with
    | false => rfl
    | true => have := hb.lost j hj' hc; rw [show (St.vols { s1 with bl := s1.bl.set u.xs[k]! b })[j]! = s1.vols[j]! from rfl, hlo] at this; cases this
  have hsz' : St.size { s1 with bl := s1.bl.set u.xs[k]! b } (s1.vols[j]!) = s.size (s.vols[j]!) := hsz
  have s4 : (s1.vols[j]!).org = (s.vols[j]!).org := s4'
  have s2 : (s1.vols[j]!).name = (s.vols[j]!).name := s2'
  have s3 : (s1.vols[j]!).xs = (s.vols[j]!).xs := s3'
  show RelV _ (s1.vols[j]!) (rv[j]!)
  refine ⟨by rw [c1, hr.name, s2], ?_, ?_, by rw [c3, hr.blocks, s3], hk1.symm, hk2.symm, fun hlo q hq => ?_, fun hlo q hq => ?_⟩
  · rw [c2, hr.of_, s4, hon]
  · rw [cd, hsz']; split
    · rw [List.length_set]; exact hr.size
    · exact hr.size
  · rw [hsz'] at hq
    rw [hlk hlo q hq]
    split
    · exact hbo
    · exact hr.ok (hold hlo) q hq
  · rw [hsz'] at hq
    rw [hlk hlo q hq, cd]
    by_cases hji : j = iu
    · rw [if_pos hji]
      rw [set_get _ _ _ _ (by rw [hr.size]; exact hq)]
      by_cases hqk : q = k
      · rw [if_pos hqk, if_pos ⟨hji, hqk⟩]
      · rw [if_neg hqk, if_neg (fun e => hqk e.2)]; exact hr.data (hold hlo) q hq
    · rw [if_neg hji, if_neg (fun e => hji e.1)]; exact hr.data (hold hlo) q hq

/-- The states differ at one volume, whose names, blocks and origin stay, and in what the blocks hold. -/
theorem rel_write_pic {w w' : World} {s s' : St} {r : RSt} {i : Nat} {v' : Vol} {x' : RVol} (h : Rel s r) (hP : PoolAt w s) (h' : PoolAt w' s') (hi : i < s.vols.length) (hb : Base s s') (hn : s'.n = s.n)
    (hv : ∀ j, j < s.vols.length → s'.vols[j]! = if j = i then v' else s.vols[j]!)
    (hlook : ∀ j, j < s.vols.length → j ≠ i → (s.vols[j]!).lost = false → ∀ q, q < s.size (s.vols[j]!) → s'.look (s'.vols[j]!) q = s.look (s.vols[j]!) q)
    (h1 : x'.name = (r.vols[i]!).name) (h2 : x'.of_ = (r.vols[i]!).of_) (h3 : x'.data.length = (r.vols[i]!).data.length) (h4 : x'.blocks = (r.vols[i]!).blocks) (h5 : x'.kept = v'.kept) (h6 : x'.lost = v'.lost)
    (h7 : v'.lost = false → ∀ q, q < s.size (s.vols[i]!) → (s'.look v' q).ok ∧ x'.data[q]! = (s'.look v' q).text) : Rel s' { r with vols := r.vols.set i x' } := by
  have hl := h.len
  refine ⟨h.n.trans hn.symm, by rw [List.length_set, hl]; exact hb.len.symm, fun j hj => ?_⟩
  have hj' : j < s.vols.length := by rw [hb.len] at hj; exact hj
  have hr := h.each j hj'
  obtain ⟨s1, s2, s3, s4⟩ := hb.same j hj'
  obtain ⟨jo, hjo, e1, e2⟩ := hb.orgOf hP h' j hj'
  have hsz := hb.size hP h' j hj'
  have hon : (s'.orgOf (s'.vols[j]!)).name = (s.orgOf (s.vols[j]!)).name := by rw [e1, e2]; exact (hb.same jo hjo).2.1
  show RelV s' (s'.vols[j]!) ((r.vols.set i x')[j]!)
  rw [setL_get _ _ _ _ (by omega) (by omega)]
  by_cases hji : j = i
  · subst hji
    have ev : s'.vols[j]! = v' := by rw [hv j hj', if_pos rfl]
    rw [if_pos rfl]
    refine ⟨by rw [h1, hr.name, s2], by rw [h2, hr.of_, s4, hon], by rw [h3, hr.size, hsz], by rw [h4, hr.blocks, s3], by rw [h5, ev], by rw [h6, ev], fun hlo q hq => ?_, fun hlo q hq => ?_⟩
    · rw [hsz] at hq; rw [ev] at hlo ⊢; exact (h7 hlo q hq).1
    · rw [hsz] at hq; rw [ev] at hlo ⊢; exact (h7 hlo q hq).2
  · rw [if_neg hji]
    have ev : s'.vols[j]! = s.vols[j]! := by rw [hv j hj', if_neg hji]
    refine hr.congr s2 (by rw [s4]) hon hsz s3 (by rw [ev]) (by rw [ev]) fun hlo q hq => ?_
    rw [ev] at hlo
    exact hlook j hj' hji hlo q hq
end PartRelD

section PartRelE
open Go.RowKit Go.Sort
set_option linter.unusedVariables false
set_option linter.unusedSimpArgs false
set_option linter.unusedSectionVars false
variable [DecidableEq Blk] [Inhabited Blk]
variable [Inhabited Vol]
variable [Inhabited RVol]

theorem two_of {l : List Vol} {a b : Vol} (ha : a ∈ l) (hb : b ∈ l) (h : a ≠ b) : 2 ≤ l.length := by
  match l, ha, hb with
  | [x], ha, hb =>
    simp at ha hb
    exact absurd (ha.trans hb.symm) h
  | x :: y :: r, _, _ => simp

/-- What is left behind a Revert. -/
theorem rel_revert {w w' : World} {s s' : St} {r : RSt} {fr : List Nat} {i iu : Nat} {u v : Vol} (h : Rel s r) (hP : PoolAt w s) (hG : Good s fr) (h' : PoolAt w' s') (hi : i < s.vols.length) (hvi : s.vols[i]! = v) (hiu : iu < s.vols.length) (hu : s.vols[iu]! = u) (ho : v.org = some u.vb) (hl : v.lost = false) (hone : (s.picsOf u.vb).length ≤ 1)
    (hv : s'.vols = delVol i s.vols) (hbl : s'.bl = giveB v.xs (revB u v s.bl v.kept.length)) (dg : Nat) (j : Nat) (hj : j < s.vols.length) (hne : j ≠ i) : RelV s' (s.vols[j]!) ((r.vols.set iu { (r.vols[iu]!) with dg := dg, data := (r.vols[i]!).data })[j]!) := by
  have hlr := h.len
  have hvm : v ∈ s.vols := by rw [← hvi]; exact get_mem hi
  have hum : u ∈ s.vols := by rw [← hu]; exact get_mem hiu
  have hou : s.orgOf v = u := by
    have := (hP.orgOf hvm).2.2.2 (by rw [ho]; simp)
    rw [ho] at this
    exact hP.vb_inj (hP.orgOf hvm).1 hum (by simpa using this.symm)
  have hu0 : u.org = none := by rw [← hou]; exact (hP.orgOf hvm).2.1
  have hii : i ≠ iu := fun e => by
    rw [e, hu] at hvi
    rw [← hvi, hu0] at ho
    cases ho
  have hpk := (hG.pics v hvm).2.2 u hum ho
  have hapU : ∀ x ∈ v.xs, x ∉ u.xs := fun x hx => by rw [← hvi] at hx; rw [← hu]; exact hG.xs_apart hi hiu hii hx
  have hlt : ∀ z ∈ s.vols, ∀ x ∈ z.xs, x < s.bl.length := fun z hz x hx => by rw [hP.disk.len]; exact hG.lt.2 z hz x hx
  rw [setL_get _ _ _ _ (by omega) (by omega)]
  by_cases hji : j = iu
  · subst hji
    rw [if_pos rfl, hu]
    have hru := h.each j hj
    have hrv := h.each i hi
    rw [hu] at hru
    rw [hvi] at hrv
    have e0 : s.orgOf u = u := (hP.orgOf hum).2.2.1 hu0
    have e1 : s'.orgOf u = u := by unfold St.orgOf; rw [hu0]
    have hsz : s'.size u = u.xs.length := by unfold St.size; rw [e1]
    have hszv : s.size v = u.xs.length := by unfold St.size; rw [hou]
    have hkn := (hP.vols u hum).kept_nil hu0
    have hlook : ∀ q, q < u.xs.length → s'.look u q = s.look v q := fun q hq => by
      have hmq : u.xs[q]! ∈ u.xs := mem_getElem! hq
      unfold St.look St.holder
      rw [e1, hkn, if_neg (by simp), hou, hbl]
      rw [giveB_get _ _ _ (by rw [revB_length]; exact hlt u hum _ hmq), if_neg (fun hm => hapU _ hm hmq)]
      rw [revB_in u v s.bl hpk.1 (hG.pics v hvm).1 (hG.xs_nodup hum) (hP.vols v hvm).room hapU (hlt u hum) (hlt v hvm) q hq _ (Nat.le_refl _), List.take_length]
      split <;> rfl
    refine ⟨hru.name, by show (r.vols[j]!).of_ = _; rw [hru.of_, if_pos hu0, if_pos hu0], ?_, hru.blocks, hru.kept, hru.lost, fun _ q hq => ?_, fun _ q hq => ?_⟩
    · show (r.vols[i]!).data.length = _
      rw [hrv.size, hszv, hsz]
    · rw [hlook q (by omega)]; exact hrv.ok hl q (by omega)
    · rw [hlook q (by omega)]; exact hrv.data hl q (by omega)
  · rw [if_neg hji]
    have hm := get_mem hj
    obtain ⟨o1, o2, o3, o4⟩ := hP.orgOf hm
    obtain ⟨jo, hjo, ejo⟩ := mem_index o1
    have hjoi : jo ≠ i := fun e => by
      have : s.orgOf (s.vols[j]!) = v := by rw [← ejo, e, hvi]
      rw [this, ho] at o2
      cases o2
    have hjou : jo ≠ iu := fun e => by
      have eo : s.orgOf (s.vols[j]!) = u := by rw [← ejo, e, hu]
      by_cases hq : (s.vols[j]!).org = none
      · rw [o3 hq] at eo
        exact names_ne hP hj hiu hji (by rw [eo, hu])
      · have e4 := o4 hq
        rw [eo] at e4
        have h1 : s.vols[j]! ∈ s.picsOf u.vb := picsOf_mem.2 ⟨hm, e4⟩
        have h2 : v ∈ s.picsOf u.vb := picsOf_mem.2 ⟨hvm, ho⟩
        have := two_of h1 h2 (fun e => names_ne hP hj hi hne (by rw [e, hvi]))
        omega
    have hout : ∀ a, a < s.vols.length → a ≠ i → a ≠ iu → ∀ x ∈ (s.vols[a]!).xs, s'.bl[x]! = s.bl[x]! := fun a ha ha1 ha2 x hx => by
      have hxl := hlt _ (get_mem ha) x hx
      rw [hbl, giveB_get _ _ _ (by rw [revB_length]; exact hxl), if_neg (by rw [← hvi]; exact hG.xs_apart ha hi ha1 hx)]
      exact revB_out u v s.bl hpk.1 x (by rw [← hu]; exact hG.xs_apart ha hiu ha2 hx) hxl _ (Nat.le_refl _)
    refine (h.each j hj).keep hP h' hm (fun _ => ?_) fun _ q hq => ?_
    · rw [hv, ← ejo]; exact del_mem hP hi hjo hjoi
    · rcases holder_in hP hm hq with e | e
      · exact hout j hj hne hji _ e
      · rw [← ejo] at e
        exact hout jo hjo hjoi hjou _ e
end PartRelE

section PartPoolK
open Go.RowKit Go.Sort
set_option linter.unusedVariables false
set_option linter.unusedSimpArgs false
set_option linter.unusedSectionVars false
variable [DecidableEq Blk] [Inhabited Blk]
variable [Inhabited Vol]

set_option maxHeartbeats 400000 in
theorem resize_none (s : St) (t : ByteArray) (k : Int) (w : World) (h : PoolAt w s) (hi : s.has t = false) :
    Calls Try.prog 21 #[.pointer (some ⟨s.pb, 0, none⟩), .string t, .int .i64 k] w fun e w' => e = .returned (.int .i64 4) ∧ w' = w := by
  have hf := find_not s t w h hi
  clear h
  go_enter Try.func21, Try.ntmps21
  go_wp2_with (go_at_call 48; refine hf.mono ?_; rintro e w' ⟨rfl, rfl⟩)
  go_ret
  exact ⟨rfl, rfl⟩

set_option maxHeartbeats 400000 in
theorem resize_picture (s : St) (t : ByteArray) (k : Int) (w : World) (h : PoolAt w s) (hi : s.has t = true) (ho : (s.vol t).org ≠ none) :
    Calls Try.prog 21 #[.pointer (some ⟨s.pb, 0, none⟩), .string t, .int .i64 k] w fun e w' => e = .returned (.int .i64 7) ∧ w' = w := by
  have hf := find_has s t w h hi
  have hI := isPicture_calls (s.vol t) w (h.vols _ (St.has_mem hi).1)
  have ho' : (s.vol t).org.isSome = true := by cases hq : (s.vol t).org <;> simp_all
  rw [ho'] at hI
  clear h
  go_enter Try.func21, Try.ntmps21
  go_wp2_with (first | (go_at_call 48; refine hf.mono ?_; rintro e w' ⟨rfl, rfl⟩) | (go_at_call 56; refine hI.mono ?_; rintro e w' ⟨rfl, rfl⟩))
  go_ret
  exact ⟨rfl, rfl⟩

set_option maxHeartbeats 400000 in
theorem resize_busy (s : St) (t : ByteArray) (k : Int) (w : World) (h : PoolAt w s) (hi : s.has t = true) (ho : (s.vol t).org = none) (hb : s.picsOf (s.vol t).vb ≠ []) :
    Calls Try.prog 21 #[.pointer (some ⟨s.pb, 0, none⟩), .string t, .int .i64 k] w fun e w' => e = .returned (.int .i64 8) ∧ Same [] w w' := by
  have hf := find_has s t w h hi
  have hI := isPicture_calls (s.vol t) w (h.vols _ (St.has_mem hi).1)
  rw [ho] at hI
  have hPc := picturesOf_calls s (s.vol t) w h (St.has_mem hi).1
  have hl : 0 < (s.picsOf (s.vol t).vb).length := by cases hq : s.picsOf (s.vol t).vb <;> simp_all
  have hl2 : (s.picsOf (s.vol t).vb).length ≤ 20 := Nat.le_trans (List.length_filter_le _ _) h.few
  clear h
  go_enter Try.func21, Try.ntmps21
  go_wp2_with (first | (go_at_call 48; refine hf.mono ?_; rintro e w' ⟨rfl, rfl⟩) | (go_at_call 56; refine hI.mono ?_; rintro e w' ⟨rfl, rfl⟩) | (go_at_call 54; refine hPc.mono ?_; rintro e wp ⟨sl, rfl, hown, S0⟩; obtain ⟨ag, acap, rfl⟩ := owns_form hown))
  go_ret
  exact ⟨rfl, S0⟩

set_option maxHeartbeats 400000 in
theorem resize_arg (s : St) (t : ByteArray) (k : Int) (w : World) (h : PoolAt w s) (hi : s.has t = true) (ho : (s.vol t).org = none) (hb : s.picsOf (s.vol t).vb = []) (hk : ¬ (1 ≤ k ∧ k ≤ 200)) :
    Calls Try.prog 21 #[.pointer (some ⟨s.pb, 0, none⟩), .string t, .int .i64 k] w fun e w' => e = .returned (.int .i64 1) ∧ Same [] w w' := by
  have hf := find_has s t w h hi
  have hI := isPicture_calls (s.vol t) w (h.vols _ (St.has_mem hi).1)
  rw [ho] at hI
  have hPc := picturesOf_calls s (s.vol t) w h (St.has_mem hi).1
  rw [hb] at hPc
  have hC := fun W => isCount_calls k W
  rw [decide_eq_false hk] at hC
  have hnot := runNot
  clear h hk
  go_enter Try.func21, Try.ntmps21
  go_wp2_with (first | (go_at_call 48; refine hf.mono ?_; rintro e w' ⟨rfl, rfl⟩) | (go_at_call 56; refine hI.mono ?_; rintro e w' ⟨rfl, rfl⟩) | (go_at_call 54; refine hPc.mono ?_; rintro e wp ⟨sl, rfl, hown, S0⟩; obtain ⟨ag, acap, rfl⟩ := owns_form hown) | (go_at_call 51; refine (hC _).mono ?_; rintro e w' ⟨rfl, rfl⟩))
  go_ret
  exact ⟨rfl, S0⟩

/-- Resize up to where it cuts or takes. -/
structure Head (s : St) (t : ByteArray) (w : World) : Prop where
  has : s.has t = true
  org : (s.vol t).org = none
  pics : s.picsOf (s.vol t).vb = []

theorem Good.room {s : St} {fr : List Nat} (hG : Good s fr) {t : ByteArray} (hi : s.has t = true) : s.m + (s.vol t).xs.length ≤ s.n := by
  obtain ⟨hmem, hname, hpos⟩ := St.has_mem hi
  have h1 := hG.parts.length_eq
  have h2 := hG.heap.len
  have h3 : (s.vol t).xs.length ≤ (s.vols.flatMap (·.xs)).length := by
    have := (delVol_perm (posOf s.names t) s.vols hpos).flatMap_right (·.xs)
    have := this.length_eq
    simp only [List.flatMap_cons, List.length_append] at this
    have e : s.vols[posOf s.names t]! = s.vol t := rfl
    rw [e] at this
    omega
  simp only [List.length_append, List.length_range] at h1
  omega

theorem PoolAt.apart {w : World} {s : St} (h : PoolAt w s) {v : Vol} (hv : v ∈ s.vols) : v.gb ∉ [s.db, s.bb, s.fb] ∧ v.vb ∉ [s.db, s.bb, s.fb] ∧ s.pb ≠ v.vb ∧ v.vb ≠ v.gb := by
  have key : ∀ k ∈ v.foot, k ∉ [s.db, s.bb, s.fb] ∧ s.pb ≠ k := fun k hk => by
    have := (apart_of h.nodup).disk v hv k hk
    simp only [List.mem_cons, not_or, List.not_mem_nil, not_false_eq_true, and_true] at this ⊢
    exact ⟨⟨this.2.1, this.2.2.1, this.2.2.2⟩, fun e => this.1 e.symm⟩
  have hn := (h.vols v hv).nodup
  simp only [Vol.foot, List.nodup_cons, List.mem_cons, not_or] at hn
  exact ⟨(key v.gb (by simp [Vol.foot])).1, (key v.vb (by simp [Vol.foot])).1, (key v.vb (by simp [Vol.foot])).2, hn.1.1⟩

/-- No picture of it: whatever it becomes, pictures are in order. -/
theorem pics_plain {w : World} {s : St} {fr : List Nat} (h : PoolAt w s) (hG : Good s fr) {t : ByteArray} (hd : Head s t w) (v : Vol) (h1 : v.vb = (s.vol t).vb) (h2 : v.org = (s.vol t).org) (h3 : v.kept = []) (h4 : v.lost = false) : Pics (setVol (posOf s.names t) v s.vols) := by
  obtain ⟨hmem, hname, hpos⟩ := St.has_mem hd.has
  refine pics_set h hG.pics (posOf s.names t) hpos v h1 h2 (by rw [h3]; exact List.nodup_nil) (fun _ => h3) (fun u hu e => ?_) (fun u hu e => ?_)
  · rw [h2, hd.org] at e; cases e
  · have : u ∈ s.picsOf (s.vol t).vb := by simp [St.picsOf, hu, e, h1]
    rw [hd.pics] at this; simp at this

set_option maxHeartbeats 1000000 in
set_option maxRecDepth 100000 in
theorem resize_cut (s : St) (fr : List Nat) (t : ByteArray) (k : Nat) (w : World) (h : PoolAt w s) (hG : Good s fr) (hd : Head s t w) (hk : 1 ≤ k ∧ k < (s.vol t).xs.length) :
    Calls Try.prog 21 #[.pointer (some ⟨s.pb, 0, none⟩), .string t, .int .i64 k] w fun e w' => e = .returned (.int .i64 0) ∧
      After w s w' { s with m := s.m + ((s.vol t).xs.drop k).length, bl := giveB ((s.vol t).xs.drop k) s.bl, d := giveD s.m ((s.vol t).xs.drop k) s.d, vols := setVol (posOf s.names t) { (s.vol t) with xs := (s.vol t).xs.take k } s.vols } (insAll ((s.vol t).xs.drop k) fr) := by
  have hs0 := (h.vols _ (St.has_mem hd.has).1).small
  have hi := hd.has
  have hf := find_has s t w h hi
  have hmem := (St.has_mem hi).1
  have hpos := (St.has_mem hi).2.2
  have hv := h.vols _ hmem
  have hs := hv.small
  obtain ⟨cs, hr⟩ := hv.row
  have hI := isPicture_calls (s.vol t) w hv
  rw [hd.org] at hI
  have hPc := picturesOf_calls s (s.vol t) w h hmem
  rw [hd.pics] at hPc
  have hC := fun W => isCount_calls k W
  rw [decide_eq_true (by omega : (1 : Int) ≤ k ∧ (k : Int) ≤ 200)] at hC
  have hZ := fun W (hW : Same [] w W) => size_vol (s.vol t) W (hv.new hW) hd.org
  have hnot := runNot
  obtain ⟨cap, hp, _, _⟩ := h.pool
  obtain ⟨ap1, ap2, ap3, ap4⟩ := h.apart hmem
  have hroom := hG.room hi
  have hlt := hG.lt.2 _ hmem
  have hCut := fun W (hW : Same [] w W) => cut_calls (s.vol t) k W (hv.new hW) hd.org hk.1 hk.2
  have hGive := fun W (hW : Same [(s.vol t).vb] w W) u hu => give_calls s.db s.bb s.fb s.n s.m (s.vol t).gb k ((s.vol t).xs.length - k) s.bl s.d ((s.vol t).xs.drop k) (some ⟨(s.vol t).gb, k, none⟩) _ cs W _ u rfl hu
    (h.disk.same hW (by simp at ap2 ⊢; exact fun e => ap2.1 e.symm) (by simp at ap2 ⊢; exact fun e => ap2.2.1 e.symm) (by simp at ap2 ⊢; exact fun e => ap2.2.2 e.symm)) (fun _ => ⟨rfl, hW.at hr.at_ (by simp; exact fun e => ap4 e.symm), ap1⟩)
    (fun j hj => by
      simp at hj
      rw [hr.cell (k + j) (by omega), getElem!_pos _ _ (by omega), getElem!_pos _ j (by simp; omega)]
      simp) (fun x hx => hlt x (List.mem_of_mem_drop hx)) (by simp; omega)
  have hpd : ∀ W, Same [(s.vol t).vb] w W → W.cell? ⟨s.pb, 1, none⟩ = some (.pointer (some ⟨s.db, 0, none⟩)) := fun W hW => (hW.at hp (by simp [ap3])).cell? 1
  have c1 : ∀ W, Same [] w W → W.cell? ⟨s.pb, 1, none⟩ = some (.pointer (some ⟨s.db, 0, none⟩)) := fun W hW => (hW.at hp (by simp)).cell? 1
  have H : Hid (PoolAt w s ∧ Good s fr) := ⟨h, hG⟩
  have HD : Hid (Head s t w) := hd
  have HC1 : Hid (∀ W, Same [] w W → W.cell? ⟨s.pb, 1, none⟩ = some (.pointer (some ⟨s.db, 0, none⟩))) := c1
  clear h hG hv hr hp c1 hd
  have l1 : (k : Int) ≤ ((s.vol t).xs.length : Int) := by omega
  go_enter Try.func21, Try.ntmps21
  go_wp2_with (first | (go_at_call 48; refine hf.mono ?_; rintro e w' ⟨rfl, hw⟩; obtain rfl := hw.symm) | (go_at_call 56; refine hI.mono ?_; rintro e w' ⟨rfl, hw⟩; obtain rfl := hw.symm) | (go_at_call 54; refine hPc.mono ?_; rintro e wp ⟨sl, rfl, hown, S0⟩; obtain ⟨ag, acap, rfl⟩ := owns_form hown) | (go_at_call 51; refine (hC _).mono ?_; rintro e w' ⟨rfl, hw⟩; obtain rfl := hw.symm) | (go_at_call 57; refine (hZ _ (by assumption)).mono ?_; rintro e w' ⟨rfl, hw⟩; obtain rfl := hw.symm))
  have p0 := HC1.out _ S0
  go_region_with (first | (go_at_call 59; refine (hCut _ (S0.drew)).mono ?_; rintro e w2 ⟨rfl, V2, S2⟩; have SS : Same [(s.vol t).vb] w w2 := (S0.drew.mono (T := [(s.vol t).vb]) (by simp)).step S2 (by simp); have p2 := hpd w2 SS) | (go_at_call 58; refine (hGive w2 SS _ (by rw [List.length_drop])).mono ?_; rintro e w3 ⟨rfl, D3, S3⟩))
  all_goals
    obtain ⟨h, hG⟩ := H.out
    have hf2 : ∀ q ∈ ({ (s.vol t) with xs := (s.vol t).xs.take k } : Vol).foot, q ∈ (s.vols[posOf s.names t]!).foot ∨ w.heap.size ≤ q := fun q hq => Or.inl hq
    have hP2 := set_state h (posOf s.names t) hpos { (s.vol t) with xs := (s.vol t).xs.take k } rfl rfl rfl hf2 V2 (SS.mono (by intro q hq _; simp at hq; rw [hq]; exact List.mem_cons_self))
    have hP3 := hP2.withDisk S3 (by intro q hq; simp at hq; rcases hq with e | e | e <;> simp [e]) D3
    have hG3 := Good.cut h hG h.disk.len h.disk.size (posOf s.names t) hpos k { (s.vol t) with xs := (s.vol t).xs.take k } rfl rfl (pics_plain h hG HD.out _ rfl rfl ((h.vols _ hmem).kept_nil HD.out.org) ((h.vols _ hmem).plain HD.out.org).2)
    have hvf : (s.vol t).vb ∈ s.foot := s.foot_vol hmem (by simp [Vol.foot])
    have hFin : After w s w3 { s with m := s.m + ((s.vol t).xs.drop k).length, bl := giveB ((s.vol t).xs.drop k) s.bl, d := giveD s.m ((s.vol t).xs.drop k) s.d, vols := setVol (posOf s.names t) { (s.vol t) with xs := (s.vol t).xs.take k } s.vols } (insAll ((s.vol t).xs.drop k) fr) :=
      ⟨hP3, hG3, (SS.mono (T := s.foot) (by simp; exact fun _ => hvf)).step S3 (by simp [St.foot]), set_foot (s := s) hpos hf2, rfl, rfl⟩
    clear hP3 hG3 hP2 V2 D3 S3 S2 SS h hG hGive hCut hpd hf2
    rw [List.length_drop] at hFin
    go_wp2
    go_ret
    exact ⟨rfl, hFin⟩
end PartPoolK

section PartPoolM
open Go.RowKit Go.Sort
set_option linter.unusedVariables false
set_option linter.unusedSimpArgs false
set_option linter.unusedSectionVars false
variable [DecidableEq Blk] [Inhabited Blk]
variable [Inhabited Vol]

set_option maxHeartbeats 1000000 in
set_option maxRecDepth 100000 in
theorem resize_grow (s : St) (fr : List Nat) (t : ByteArray) (k : Nat) (w : World) (h : PoolAt w s) (hG : Good s fr) (hd : Head s t w) (hk : (s.vol t).xs.length < k ∧ k ≤ 200) (hf' : k - (s.vol t).xs.length ≤ fr.length) :
    Calls Try.prog 21 #[.pointer (some ⟨s.pb, 0, none⟩), .string t, .int .i64 k] w fun e w' => e = .returned (.int .i64 0) ∧ ∃ g,
      After w s w' { s with m := s.m - (k - (s.vol t).xs.length), d := popsD s.m (k - (s.vol t).xs.length) s.d, vols := setVol (posOf s.names t) { (s.vol t) with gb := g, xs := (s.vol t).xs ++ fr.take (k - (s.vol t).xs.length) } s.vols } (fr.drop (k - (s.vol t).xs.length)) := by
  have hi := hd.has
  have hf := find_has s t w h hi
  have hmem := (St.has_mem hi).1
  have hpos := (St.has_mem hi).2.2
  have hv := h.vols _ hmem
  have hs := hv.small
  obtain ⟨cs, hr⟩ := hv.row
  have hI := isPicture_calls (s.vol t) w hv
  rw [hd.org] at hI
  have hPc := picturesOf_calls s (s.vol t) w h hmem
  rw [hd.pics] at hPc
  have hC := fun W => isCount_calls k W
  rw [decide_eq_true (by omega : (1 : Int) ≤ k ∧ (k : Int) ≤ 200)] at hC
  have hZ := fun W (hW : Same [] w W) => size_vol (s.vol t) W (hv.new hW) hd.org
  have hnot := runNot
  obtain ⟨cap, hp, _, _⟩ := h.pool
  have hml := hG.heap.len
  have hT := fun W (hW : Same [] w W) v (hv : v = ((k - (s.vol t).xs.length : Nat) : Int)) => take_calls s.db s.bb s.fb s.n s.m (k - (s.vol t).xs.length) s.bl s.d fr W _ v rfl hv (by omega) (h.disk.same hW (by simp) (by simp) (by simp)) hG.all hG.lt.1
  have HC1 : Hid (∀ W, Same [] w W → W.cell? ⟨s.pb, 1, none⟩ = some (.pointer (some ⟨s.db, 0, none⟩))) := fun W hW => (hW.at hp (by simp)).cell? 1
  have H : Hid (PoolAt w s ∧ Good s fr) := ⟨h, hG⟩
  have HD : Hid (Head s t w) := hd
  clear h hG hv hr hp hd
  have l1 : ((s.vol t).xs.length : Int) < (k : Int) := by omega
  generalize hL : (s.vol t).xs.length = L at *
  have HL : Hid ((s.vol t).xs.length = L) := hL
  clear hL
  have hsub : IntKind.i64.wrap ((k : Int) - (L : Int)) = (k : Int) - (L : Int) := IntWalk.i64_in _ (by omega)
  go_enter Try.func21, Try.ntmps21
  go_wp2_with (first | (go_at_call 48; refine hf.mono ?_; rintro e w' ⟨rfl, hw⟩; obtain rfl := hw.symm) | (go_at_call 56; refine hI.mono ?_; rintro e w' ⟨rfl, hw⟩; obtain rfl := hw.symm) | (go_at_call 54; refine hPc.mono ?_; rintro e wp ⟨sl, rfl, hown, S0⟩; obtain ⟨ag, acap, rfl⟩ := owns_form hown) | (go_at_call 51; refine (hC _).mono ?_; rintro e w' ⟨rfl, hw⟩; obtain rfl := hw.symm) | (go_at_call 57; refine (hZ _ (by assumption)).mono ?_; rintro e w' ⟨rfl, hw⟩; obtain rfl := hw.symm))
  have p0 := HC1.out _ S0
  go_region_with (first | (go_at_call 57; refine (hZ _ (S0.drew)).mono ?_; rintro e w2 ⟨rfl, rfl⟩) | (go_at_call 60; refine (hT _ (S0.drew) _ (by omega)).mono ?_; rintro e w3 (⟨_, v', rfl, D3, O3, S3⟩ | ⟨hbad, _⟩); rotate_left; (omega); obtain ⟨a3, cap3, rfl⟩ := owns_form O3))
  all_goals
    obtain ⟨h, hG⟩ := H.out
    have hv := h.vols _ hmem
    have hS3 : Same [s.db, s.fb] w w3 := (S0.drew.mono (T := [s.db, s.fb]) (by simp)).step S3 (by simp)
    have hpops := (hG.heap.pops (k - L) (by omega)).1
    rw [hpops, List.map_map] at O3
    have hxsl : (fr.take (k - L)).length = k - L := by simp; omega
    have hyne : fr.take (k - L) ≠ [] := by intro e; rw [e] at hxsl; simp at hxsl; omega
    obtain ⟨mb, ms, rfl, hmb, hR, hle⟩ := owns_row_at (xs := fr.take (k - L)) O3 hxsl.symm hyne
    have hP3 := h.withDisk (bl' := s.bl) hS3 (by intro q hq; simp at hq; rcases hq with e | e <;> simp [e]) D3
    have hv3 := hP3.vols _ hmem
    have hE := extend_calls (s.vol t) mb cap3 (fr.take (k - L)) ms w3 hv3 HD.out.org hR hyne (by rw [hxsl, HL.out]; omega)
    rw [hxsl] at hE
    have hG3 := hG.grow (posOf s.names t) hpos (k - L) hf'
    have hsz3 := hS3.size
    have HFin : Hid (∀ (w4 : World) (g : Nat), w3.heap.size ≤ g → VolAt w4 { (s.vol t) with gb := g, xs := (s.vol t).xs ++ fr.take (k - L) } → Same [(s.vol t).vb] w3 w4 → After w s w4 { s with m := s.m - (k - L), d := popsD s.m (k - L) s.d, vols := setVol (posOf s.names t) { (s.vol t) with gb := g, xs := (s.vol t).xs ++ fr.take (k - L) } s.vols } (fr.drop (k - L))) := by
      intro w4 g hg hV4 hS4
      have hkg := (hv.plain HD.out.org).1
      have hft : ∀ B, B ≤ w3.heap.size → ∀ q ∈ ({ (s.vol t) with gb := g, xs := (s.vol t).xs ++ fr.take (k - L) } : Vol).foot, q ∈ (s.vols[posOf s.names t]!).foot ∨ B ≤ q := by
        intro B hB q hq
        simp only [Vol.foot, hkg, Option.toList_none, List.mem_cons, List.not_mem_nil, or_false] at hq
        rcases hq with e | e
        · left; rw [e]; exact List.mem_cons_self
        · right; omega
      have hP4 := set_state hP3 (posOf s.names t) hpos { (s.vol t) with gb := g, xs := (s.vol t).xs ++ fr.take (k - L) } rfl rfl rfl (hft _ (Nat.le_refl _)) hV4 (hS4.mono (by intro q hq _; simp at hq; rw [hq]; exact List.mem_cons_self))
      have hvf : (s.vol t).vb ∈ s.foot := s.foot_vol hmem (by simp [Vol.foot])
      exact ⟨hP4, hG3 _ rfl rfl (pics_plain h hG HD.out _ rfl rfl (hv.kept_nil HD.out.org) (hv.plain HD.out.org).2), (hS3.mono (T := s.foot) (by simp [St.foot])).step hS4 (by simp; exact fun _ => hvf), set_foot (s := s) hpos (hft _ (by omega)), rfl, rfl⟩
    clear hG3 hP3 hv3 hR O3 D3 S3 h hG hv hT hZ hpops
    go_wp2_with (go_at_call 61; refine hE.mono ?_; rintro e w4 ⟨rfl, g, hg, hV4, hS4⟩)
    have hF := HFin.out w4 g hg hV4 hS4
    clear HFin hV4 hS4 hE
    go_ret
    exact ⟨rfl, g, hF⟩
end PartPoolM
end Go.Proofs.Ytpddgdjocffgdaa
