/- Both sides of a call, side by side: what Create, Picture, Remove, Revert answer and leave. A Pool: Resize, by contracts: the same size, and a greater one. Both sides of a call, side by side: what Resize and Write answer and leave. A Pool of the program beside the document's: what both are in memory, and what a pair of calls leaves. -/
import Derived.Test.YtpddgdjocffgdaaG32
import Derived.Test.YtpddgdjocffgdaaG13
import Derived.Test.YtpddgdjocffgdaaG11
import Derived.Test.YtpddgdjocffgdaaG21
import Derived.Test.YtpddgdjocffgdaaG18
import Derived.Test.YtpddgdjocffgdaaG08
namespace Go.Proofs.Ytpddgdjocffgdaa
section PartPairA
open Go.RowKit Go.Sort
set_option linter.unusedVariables false
set_option linter.unusedSimpArgs false
set_option linter.unusedSectionVars false
variable [DecidableEq Blk] [Inhabited Blk]
variable [Inhabited Vol]
variable [Inhabited RVol]

theorem spare_mem {s : St} : Spare s ↔ ∀ v ∈ s.vols, v.org ≠ none → ∀ x ∈ v.xs.drop v.kept.length, s.bl[x]! = Blk.zero := by
  constructor
  · intro h v hv
    obtain ⟨i, hi, rfl⟩ := mem_index hv
    exact h i hi
  · intro h i hi
    exact h _ (get_mem hi)

/-- The relation speaks of what a state holds, not of where it lies. -/
theorem Rel.eq {s s' : St} {r : RSt} (h : Rel s r) (hv : s'.vols = s.vols) (hb : s'.bl = s.bl) (hn : s'.n = s.n) : Rel s' r := by
  have ho : ∀ v, s'.orgOf v = s.orgOf v := fun v => by unfold St.orgOf St.volAt; rw [hv]
  refine ⟨h.n.trans hn.symm, by rw [hv]; exact h.len, fun i hi => ?_⟩
  rw [hv] at hi ⊢
  refine (h.each i hi).congr rfl Iff.rfl (by rw [ho]) (by unfold St.size; rw [ho]) rfl rfl rfl fun _ q _ => ?_
  unfold St.look St.holder; rw [ho, hb]

/-- Both answer the same number, and leave what is in relation. -/
structure Pair (w : World) (s : St) (fr : List Nat) (r : RSt) (fp : Nat) (ap : Array Value) (fq : Nat) (aq : Array Value) : Prop where
  ex : ∃ (c : Int) (P : St → List Nat → Prop), 0 ≤ c ∧ c ≤ 13 ∧
    Calls Try.prog fp ap w (fun e w1 => e = .returned (.int .i64 c) ∧ ∃ s' fr', After w s w1 s' fr' ∧ Spare s' ∧ P s' fr') ∧
    ∀ w1, RefAt w1 r → Calls Try.prog fq aq w1 (fun e w2 => e = .returned (.int .i64 c) ∧ ∃ r', RAfter w1 r w2 r' ∧ ∀ W s' fr', PoolAt W s' → Good s' fr' → P s' fr' → Rel s' r')

theorem toSame {f : Nat} {a : Array Value} {w : World} {x : Ending} (h : Calls Try.prog f a w fun e w' => e = x ∧ w' = w) : Calls Try.prog f a w fun e w' => e = x ∧ Same [] w w' :=
  h.mono fun e w' ⟨h1, h2⟩ => ⟨h1, by rw [h2]; exact Same.refl _ _⟩

/-- Both refuse, or there is nothing to change. -/
theorem Pair.noD {w : World} {s : St} {fr : List Nat} {r : RSt} {fp : Nat} {ap : Array Value} {fq : Nat} {aq : Array Value} (c : Int) (hc : 0 ≤ c ∧ c ≤ 13) (hsp : Spare s) (hrel : Rel s r) (hnd : r.foot.Nodup)
    (h1 : Calls Try.prog fp ap w fun e w1 => e = .returned (.int .i64 c) ∧ ∃ d', After w s w1 { s with d := d' } fr) (h2 : ∀ w1, RefAt w1 r → Calls Try.prog fq aq w1 fun e w2 => e = .returned (.int .i64 c) ∧ Same [] w1 w2) : Pair w s fr r fp ap fq aq := by
  refine ⟨c, fun s' _ => s'.vols = s.vols ∧ s'.bl = s.bl ∧ s'.n = s.n, hc.1, hc.2, h1.mono ?_, fun w1 hR => (h2 w1 hR).mono ?_⟩
  · rintro e w1 ⟨rfl, d', hA⟩
    exact ⟨rfl, _, _, hA, hsp, rfl, rfl, rfl⟩
  · rintro e w2 ⟨rfl, hS⟩
    exact ⟨rfl, r, RAfter.still hR hnd hS, fun W s' fr' _ _ ⟨a, b, c⟩ => hrel.eq a b c⟩
theorem Pair.no {w : World} {s : St} {fr : List Nat} {r : RSt} {fp : Nat} {ap : Array Value} {fq : Nat} {aq : Array Value} (c : Int) (hc : 0 ≤ c ∧ c ≤ 13) (hP : PoolAt w s) (hG : Good s fr) (hsp : Spare s) (hrel : Rel s r) (hnd : r.foot.Nodup)
    (h1 : Calls Try.prog fp ap w fun e w1 => e = .returned (.int .i64 c) ∧ Same [] w w1) (h2 : ∀ w1, RefAt w1 r → Calls Try.prog fq aq w1 fun e w2 => e = .returned (.int .i64 c) ∧ Same [] w1 w2) : Pair w s fr r fp ap fq aq :=
  Pair.noD c hc hsp hrel hnd (h1.mono fun e w1 ⟨a, b⟩ => ⟨a, s.d, After.still hP hG b⟩) h2

theorem placeR {w : World} {s : St} {r : RSt} (h : Rel s r) (hP : PoolAt w s) (t : ByteArray) : PlaceR r t (posOf s.names t) ∧ posOf s.names t ≤ s.vols.length := by
  obtain ⟨s1, s2⟩ := countP_split (fun n => decide (cmpB n t < 0)) s.names (names_mono t hP.names_sorted)
  have hp : s.names.countP (fun n => decide (cmpB n t < 0)) = posOf s.names t := rfl
  rw [hp] at s1 s2
  have hnl : s.names.length = s.vols.length := by simp [St.names]
  have hle : posOf s.names t ≤ s.vols.length := by
    have := List.countP_le_length (p := fun n => decide (cmpB n t < 0)) (l := s.names)
    rw [hp] at this
    omega
  have hg : ∀ j, j < s.vols.length → (r.vols[j]!).name = s.names[j]! := fun j hj => by
    rw [(h.each j hj).name, getElem!_pos s.vols j hj, getElem!_pos s.names j (by omega)]; simp [St.names]
  refine ⟨⟨by rw [h.len]; exact hle, fun j hj => ?_, fun hl => ?_⟩, hle⟩
  · rw [hg j (by omega)]
    have := s1 (s.names[j]!) (by rw [getElem!_pos s.names j (by omega)]; exact List.mem_take_iff_getElem.2 ⟨j, by omega, rfl⟩)
    simpa using this
  · rw [h.len] at hl
    rw [hg _ hl]
    have := s2 (s.names[posOf s.names t]!) (by rw [getElem!_pos s.names _ (by omega), List.drop_eq_getElem_cons (by omega)]; exact List.mem_cons_self)
    simpa using this

/-- One more: the room of all but it is as it was. -/
theorem spare_ins {s s' : St} {p : Nat} {v0 : Vol} (sp : Spare s) (hv : s'.vols = insVol p v0 s.vols) (hb : s'.bl = s.bl) (h0 : ∀ x ∈ v0.xs.drop v0.kept.length, v0.org ≠ none → s.bl[x]! = Blk.zero) : Spare s' := by
  refine spare_mem.2 fun v hm ho x hx => ?_
  rw [hb]
  rw [hv] at hm
  rcases insVol_mem.1 hm with rfl | hm
  · exact h0 x hx ho
  · exact spare_mem.1 sp v hm ho x hx

theorem Rel.of_pic {w : World} {s : St} {r : RSt} {fr : List Nat} (h : Rel s r) (hP : PoolAt w s) (hG : Good s fr) {i : Nat} (hi : i < s.vols.length) (ho : (s.vols[i]!).org ≠ none) : (r.vols[i]!).of_ = (s.orgOf (s.vols[i]!)).name ∧ (r.vols[i]!).of_ ≠ ⟨#[]⟩ := by
  have e := (h.each i hi).of_
  rw [if_neg ho] at e
  exact ⟨e, by rw [e]; exact name_ne_nil hG (hP.orgOf (get_mem hi)).1⟩
theorem Rel.of_vol {s : St} {r : RSt} (h : Rel s r) {i : Nat} (hi : i < s.vols.length) (ho : (s.vols[i]!).org = none) : (r.vols[i]!).of_ = ⟨#[]⟩ := by
  have e := (h.each i hi).of_
  rw [if_pos ho] at e
  exact e

theorem delR_without {w : World} {s : St} {r : RSt} (h : Rel s r) (hP : PoolAt w s) {t : ByteArray} (ht : s.has t = true) : r.without t r.vols.length = delR (posOf s.names t) r.vols :=
  without_eq h hP ht r.vols h.len (fun j hj => (h.each j hj).name) r.rb r.lg r.n

theorem spare_del {w : World} {s s' : St} {fr : List Nat} {i : Nat} (hP : PoolAt w s) (hG : Good s fr) (sp : Spare s) (hi : i < s.vols.length) (hv : s'.vols = delVol i s.vols)
    (hb : ∀ j, j < s.vols.length → j ≠ i → (s.vols[j]!).org ≠ none → ∀ x ∈ (s.vols[j]!).xs, s'.bl[x]! = s.bl[x]!) : Spare s' := by
  refine spare_mem.2 fun v hm ho x hx => ?_
  rw [hv] at hm
  obtain ⟨j, hj, hne, rfl⟩ := del_index hi hm
  rw [hb j hj hne ho x (List.mem_of_mem_drop hx)]
  exact sp j hj ho x hx
end PartPairA

section PartPoolL
open Go.RowKit Go.Sort
set_option linter.unusedVariables false
set_option linter.unusedSimpArgs false
set_option linter.unusedSectionVars false
variable [DecidableEq Blk] [Inhabited Blk]
variable [Inhabited Vol]

theorem setVol_self (i : Nat) (l : List Vol) (h : i < l.length) : setVol i l[i]! l = l := by
  unfold setVol
  rw [getElem!_pos l i h, ← List.drop_eq_getElem_cons h, List.take_append_drop]

set_option maxHeartbeats 1000000 in
set_option maxRecDepth 100000 in
theorem resize_same (s : St) (fr : List Nat) (t : ByteArray) (k : Nat) (w : World) (h : PoolAt w s) (hG : Good s fr) (hd : Head s t w) (hk : k = (s.vol t).xs.length) :
    Calls Try.prog 21 #[.pointer (some ⟨s.pb, 0, none⟩), .string t, .int .i64 k] w fun e w' => e = .returned (.int .i64 0) ∧ After w s w' s fr := by
  have hs0 := (h.vols _ (St.has_mem hd.has).1).small
  have hxp : 1 ≤ (s.vol t).xs.length := by have := (h.vols _ (St.has_mem hd.has).1).pos; cases hx : (s.vol t).xs <;> simp_all
  have hi := hd.has
  have hf := find_has s t w h hi
  have hmem := (St.has_mem hi).1
  have hpos := (St.has_mem hi).2.2
  have hv := h.vols _ hmem
  have hs := hv.small
  obtain ⟨cs, hr⟩ := hv.row
  have hI := isPicture_calls (s.vol t) w hv
  rw [hd.org] at hI
  have hPc := picturesOf_calls s (s.vol t) w h hmem
  rw [hd.pics] at hPc
  have hC := fun W => isCount_calls k W
  rw [decide_eq_true (by omega : (1 : Int) ≤ k ∧ (k : Int) ≤ 200)] at hC
  have hZ := fun W (hW : Same [] w W) => size_vol (s.vol t) W (hv.new hW) hd.org
  have hnot := runNot
  obtain ⟨cap, hp, _, _⟩ := h.pool
  obtain ⟨ap1, ap2, ap3, ap4⟩ := h.apart hmem
  have hCut := fun W (hW : Same [] w W) => cut_whole (s.vol t) k W (hv.new hW) hd.org (by omega) hk
  have hGive := fun W (hW : Same [(s.vol t).vb] w W) u hu => give_calls s.db s.bb s.fb s.n s.m (s.vol t).gb 0 0 s.bl s.d [] (some ⟨(s.vol t).gb, 0, none⟩) 3 cs W _ u rfl hu
    (h.disk.same hW (by simp at ap2 ⊢; exact fun e => ap2.1 e.symm) (by simp at ap2 ⊢; exact fun e => ap2.2.1 e.symm) (by simp at ap2 ⊢; exact fun e => ap2.2.2 e.symm)) (fun hne => absurd rfl hne)
    (fun j hj => by simp at hj) (fun x hx => by simp at hx) (by simp; exact h.disk.le)
  have hpd : ∀ W, Same [(s.vol t).vb] w W → W.cell? ⟨s.pb, 1, none⟩ = some (.pointer (some ⟨s.db, 0, none⟩)) := fun W hW => (hW.at hp (by simp [ap3])).cell? 1
  have HC1 : Hid (∀ W, Same [] w W → W.cell? ⟨s.pb, 1, none⟩ = some (.pointer (some ⟨s.db, 0, none⟩))) := fun W hW => (hW.at hp (by simp)).cell? 1
  have H : Hid (PoolAt w s ∧ Good s fr) := ⟨h, hG⟩
  have HK : Hid (k = (s.vol t).xs.length) := hk
  clear h hG hv hr hp hd
  have l1 : (k : Int) ≤ ((s.vol t).xs.length : Int) := by omega
  clear hk
  go_enter Try.func21, Try.ntmps21
  go_wp2_with (first | (go_at_call 48; refine hf.mono ?_; rintro e w' ⟨rfl, hw⟩; obtain rfl := hw.symm) | (go_at_call 56; refine hI.mono ?_; rintro e w' ⟨rfl, hw⟩; obtain rfl := hw.symm) | (go_at_call 54; refine hPc.mono ?_; rintro e wp ⟨sl, rfl, hown, S0⟩; obtain ⟨ag, acap, rfl⟩ := owns_form hown) | (go_at_call 51; refine (hC _).mono ?_; rintro e w' ⟨rfl, hw⟩; obtain rfl := hw.symm) | (go_at_call 57; refine (hZ _ (by assumption)).mono ?_; rintro e w' ⟨rfl, hw⟩; obtain rfl := hw.symm))
  have p0 := HC1.out _ S0
  go_region_with (first | (go_at_call 59; refine (hCut _ (S0.drew)).mono ?_; rintro e w2 ⟨rfl, V2, S2⟩; have SS : Same [(s.vol t).vb] w w2 := (S0.drew.mono (T := [(s.vol t).vb]) (by simp)).step S2 (by simp); have p2 := hpd w2 SS) | (go_at_call 58; refine (hGive w2 SS _ (by rfl)).mono ?_; rintro e w3 ⟨rfl, D3, S3⟩))
  all_goals
    obtain ⟨h, hG⟩ := H.out
    have ev : ({ (s.vol t) with xs := (s.vol t).xs.take k } : Vol) = s.vol t := by rw [HK.out, List.take_length]
    rw [ev] at V2
    have hP2 := set_state h (posOf s.names t) hpos (s.vol t) rfl rfl rfl (fun q hq => Or.inl hq) V2 (SS.mono (by intro q hq _; simp at hq; rw [hq]; exact List.mem_cons_self))
    have es : setVol (posOf s.names t) (s.vol t) s.vols = s.vols := setVol_self _ _ hpos
    rw [es] at hP2
    have hP3 := hP2.withDisk S3 (by intro q hq; simp at hq; rcases hq with e | e | e <;> simp [e]) D3
    have hvf : (s.vol t).vb ∈ s.foot := s.foot_vol hmem (by simp [Vol.foot])
    have hFin : After w s w3 s fr :=
      ⟨hP3, hG, (SS.mono (T := s.foot) (by simp; exact fun _ => hvf)).step S3 (by simp [St.foot]), fun j hj => Or.inl hj, rfl, rfl⟩
    clear hP3 hP2 V2 D3 S3 S2 SS h hG hGive hCut hpd
    go_wp2
    go_ret
    exact ⟨rfl, hFin⟩

set_option maxHeartbeats 1000000 in
set_option maxRecDepth 100000 in
theorem resize_full (s : St) (fr : List Nat) (t : ByteArray) (k : Nat) (w : World) (h : PoolAt w s) (hG : Good s fr) (hd : Head s t w) (hk : (s.vol t).xs.length < k ∧ k ≤ 200) (hf' : fr.length < k - (s.vol t).xs.length) :
    Calls Try.prog 21 #[.pointer (some ⟨s.pb, 0, none⟩), .string t, .int .i64 k] w fun e w' => e = .returned (.int .i64 6) ∧ ∃ d', After w s w' { s with d := d' } fr := by
  have hi := hd.has
  have hf := find_has s t w h hi
  have hmem := (St.has_mem hi).1
  have hpos := (St.has_mem hi).2.2
  have hv := h.vols _ hmem
  have hs := hv.small
  obtain ⟨cs, hr⟩ := hv.row
  have hI := isPicture_calls (s.vol t) w hv
  rw [hd.org] at hI
  have hPc := picturesOf_calls s (s.vol t) w h hmem
  rw [hd.pics] at hPc
  have hC := fun W => isCount_calls k W
  rw [decide_eq_true (by omega : (1 : Int) ≤ k ∧ (k : Int) ≤ 200)] at hC
  have hZ := fun W (hW : Same [] w W) => size_vol (s.vol t) W (hv.new hW) hd.org
  have hnot := runNot
  obtain ⟨cap, hp, _, _⟩ := h.pool
  have hml := hG.heap.len
  have hT := fun W (hW : Same [] w W) v (hv : v = ((k - (s.vol t).xs.length : Nat) : Int)) => take_calls s.db s.bb s.fb s.n s.m (k - (s.vol t).xs.length) s.bl s.d fr W _ v rfl hv (by omega) (h.disk.same hW (by simp) (by simp) (by simp)) hG.all hG.lt.1
  have HC1 : Hid (∀ W, Same [] w W → W.cell? ⟨s.pb, 1, none⟩ = some (.pointer (some ⟨s.db, 0, none⟩))) := fun W hW => (hW.at hp (by simp)).cell? 1
  have H : Hid (PoolAt w s ∧ Good s fr) := ⟨h, hG⟩
  clear h hG hv hr hp hd
  have l1 : ((s.vol t).xs.length : Int) < (k : Int) := by omega
  generalize hL : (s.vol t).xs.length = L at *
  clear hL
  have hsub : IntKind.i64.wrap ((k : Int) - (L : Int)) = (k : Int) - (L : Int) := IntWalk.i64_in _ (by omega)
  go_enter Try.func21, Try.ntmps21
  go_wp2_with (first | (go_at_call 48; refine hf.mono ?_; rintro e w' ⟨rfl, hw⟩; obtain rfl := hw.symm) | (go_at_call 56; refine hI.mono ?_; rintro e w' ⟨rfl, hw⟩; obtain rfl := hw.symm) | (go_at_call 54; refine hPc.mono ?_; rintro e wp ⟨sl, rfl, hown, S0⟩; obtain ⟨ag, acap, rfl⟩ := owns_form hown) | (go_at_call 51; refine (hC _).mono ?_; rintro e w' ⟨rfl, hw⟩; obtain rfl := hw.symm) | (go_at_call 57; refine (hZ _ (by assumption)).mono ?_; rintro e w' ⟨rfl, hw⟩; obtain rfl := hw.symm))
  have p0 := HC1.out _ S0
  go_region_with (first | (go_at_call 57; refine (hZ _ (S0.drew)).mono ?_; rintro e w2 ⟨rfl, rfl⟩) | (go_at_call 60; refine (hT _ (S0.drew) _ (by omega)).mono ?_; rintro e w3 (⟨hbad, _⟩ | ⟨_, rfl, D3, S3⟩); (omega)))
  all_goals
    obtain ⟨h, hG⟩ := H.out
    have e0 : giveB fr s.bl = s.bl := giveB_zero fr s.bl fun x hx => ⟨by rw [h.disk.len]; exact hG.lt.1 x hx, hG.zero x hx⟩
    rw [e0] at D3
    have hS3 : Same [s.db, s.bb, s.fb] w w3 := (S0.drew.mono (T := [s.db, s.bb, s.fb]) (by simp)).step S3 (by simp)
    have hFin : After w s w3 { s with d := giveD 0 fr (popsD s.m s.m s.d) } fr := ⟨h.withDisk hS3 (by intro q hq; simp at hq; rcases hq with e | e | e <;> simp [e]) D3, ⟨hG.back, hG.parts, hG.zero, hG.names, hG.pics⟩, hS3.mono (by simp [St.foot]), fun k hk => Or.inl hk, rfl, rfl⟩
    clear D3 S3 hS3 h hG hT hZ
    go_wp2
    go_ret
    exact ⟨rfl, _, hFin⟩
end PartPoolL

section PartPairB
open Go.RowKit Go.Sort
set_option linter.unusedVariables false
set_option linter.unusedSimpArgs false
set_option linter.unusedSectionVars false
variable [DecidableEq Blk] [Inhabited Blk]
variable [Inhabited Vol]
variable [Inhabited RVol]

/-- A volume told otherwise is no matter of the pictures' room. -/
theorem spare_vol {s s' : St} {i : Nat} {v' : Vol} (sp : Spare s) (hi : i < s.vols.length) (hv : s'.vols = setVol i v' s.vols) (ho : v'.org = none)
    (hb : ∀ j, j < s.vols.length → j ≠ i → ∀ x ∈ (s.vols[j]!).xs, s'.bl[x]! = s.bl[x]!) : Spare s' := by
  intro j hj hoj x hx
  rw [hv] at hj hoj hx
  rw [setVol_length i v' s.vols hi] at hj
  rw [setVol_get i j v' s.vols hi hj] at hoj hx
  by_cases e : j = i
  · rw [if_pos e] at hoj; exact absurd ho hoj
  · rw [if_neg e] at hoj hx
    rw [hb j hj e x (List.mem_of_mem_drop hx)]
    exact sp j hj hoj x hx

theorem base_bl (s : St) (bl : List Blk) : Base s { s with bl := bl } := ⟨rfl, fun _ _ => ⟨rfl, rfl, rfl, rfl⟩, fun _ _ h => h⟩

theorem atC_none {w : World} {s : St} {r : RSt} (h : Rel s r) (hP : PoolAt w s) {t : ByteArray} (ht : s.has t = false) (k : Int) : r.atC t k = 4 := by
  unfold RSt.atC; rw [h.at_not hP ht]
theorem atC_has {w : World} {s : St} {r : RSt} (h : Rel s r) (hP : PoolAt w s) {t : ByteArray} (ht : s.has t = true) (k : Int) : r.atC t k = if (s.vol t).lost then 9 else if k < 0 ∨ (s.size (s.vol t) : Int) ≤ k then 1 else 0 := by
  unfold RSt.atC; rw [h.at_has hP ht]
  simp only
  have hrv := h.vol ht
  rw [hrv.lost, hrv.size]
end PartPairB

section PartBothA
open Go.RowKit Go.Sort
set_option linter.unusedVariables false
set_option linter.unusedSimpArgs false
set_option linter.unusedSectionVars false
variable [DecidableEq Blk] [Inhabited Blk]
variable [Inhabited Vol]
variable [Inhabited RVol]

/-- Both Pools in memory, in relation. -/
structure TwoAt (w : World) (s : St) (fr : List Nat) (r : RSt) : Prop where
  pool : PoolAt w s
  good : Good s fr
  spare : Spare s
  ref : RefAt w r
  nodup : r.foot.Nodup
  rel : Rel s r
  apart : ∀ k ∈ s.foot, k ∉ r.foot
structure BothAt (w : World) (bb : Nat) (s : St) (fr : List Nat) (r : RSt) : Prop where
  both : At w bb 30 [.pointer (some ⟨s.pb, 0, none⟩), .pointer (some ⟨r.rb, 0, none⟩)]
  two : TwoAt w s fr r
  out : bb ∉ s.foot ++ r.foot

theorem TwoAt.same {w w' : World} {s : St} {fr : List Nat} {r : RSt} (h : TwoAt w s fr r) {S : List Nat} (hs : Same S w w') (hd : ∀ k ∈ s.foot ++ r.foot, k ∉ S) : TwoAt w' s fr r :=
  ⟨h.pool.same hs (fun k hk => hd k (List.mem_append_left _ hk)), h.good, h.spare, h.ref.sameF hs (fun k hk => hd k (List.mem_append_right _ hk)), h.nodup, h.rel, h.apart⟩
theorem TwoAt.new {w w' : World} {s : St} {fr : List Nat} {r : RSt} (h : TwoAt w s fr r) (hs : Same [] w w') : TwoAt w' s fr r := h.same hs (by simp)
theorem BothAt.same {w w' : World} {bb : Nat} {s : St} {fr : List Nat} {r : RSt} (h : BothAt w bb s fr r) {S : List Nat} (hs : Same S w w') (hd : ∀ k ∈ bb :: (s.foot ++ r.foot), k ∉ S) : BothAt w' bb s fr r :=
  ⟨hs.at h.both (hd bb (by simp)), h.two.same hs (fun k hk => hd k (List.mem_cons_of_mem _ hk)), h.out⟩
theorem BothAt.new {w w' : World} {bb : Nat} {s : St} {fr : List Nat} {r : RSt} (h : BothAt w bb s fr r) (hs : Same [] w w') : BothAt w' bb s fr r := h.same hs (by simp)
theorem TwoAt.foot_lt {w : World} {s : St} {fr : List Nat} {r : RSt} (h : TwoAt w s fr r) : ∀ k ∈ s.foot ++ r.foot, k < w.heap.size := fun k hk => by
  rcases List.mem_append.1 hk with hk | hk
  · exact h.pool.foot_lt k hk
  · exact h.ref.foot_lt k hk

/-- What a call leaves of both. -/
structure BothNext (w : World) (bb : Nat) (s : St) (r : RSt) (w' : World) : Prop where
  ex : ∃ s' fr' r', BothAt w' bb s' fr' r' ∧ ∀ k ∈ s'.foot ++ r'.foot, k ∈ s.foot ++ r.foot ∨ w.heap.size ≤ k
  same : Same (s.foot ++ r.foot) w w'

theorem BothNext.still {w w' : World} {bb : Nat} {s : St} {fr : List Nat} {r : RSt} (h : BothAt w bb s fr r) (hs : Same [] w w') : BothNext w bb s r w' :=
  ⟨⟨s, fr, r, h.new hs, fun k hk => Or.inl hk⟩, hs.mono (by simp)⟩
theorem BothNext.old {w0 w w' : World} {bb : Nat} {s : St} {r : RSt} (h : BothNext w bb s r w') (h0 : Same [] w0 w) : BothNext w0 bb s r w' := by
  obtain ⟨⟨s', fr', r', a, b⟩, c⟩ := h
  have := h0.size
  exact ⟨⟨s', fr', r', a, fun k hk => (b k hk).imp id fun e => by omega⟩, (h0.mono (T := s.foot ++ r.foot) (by simp)).step c (fun k hk _ => hk)⟩
theorem BothNext.more {w w' w2 : World} {bb : Nat} {s : St} {r : RSt} (h : BothNext w bb s r w') (h0 : Same [] w' w2) : BothNext w bb s r w2 := by
  obtain ⟨⟨s', fr', r', a, b⟩, c⟩ := h
  exact ⟨⟨s', fr', r', a.new h0, b⟩, c.step h0 (by simp)⟩

theorem BothAt.next {w w1 w2 : World} {bb : Nat} {s s' : St} {fr fr' : List Nat} {r r' : RSt} (h : BothAt w bb s fr r) (hA : After w s w1 s' fr') (hsp : Spare s') (hR : RAfter w1 r w2 r') (hrel : Rel s' r') : BothNext w bb s r w2 := by
  have hz1 := hA.same.size
  have hrl := h.two.ref.foot_lt
  have hsl' := hA.pool.foot_lt
  have hap : ∀ k ∈ s'.foot, k ∉ r.foot := fun k hk hr => by
    rcases hA.foot k hk with e | e
    · exact h.two.apart k e hr
    · have := hrl k hr; omega
  have P2 : PoolAt w2 s' := hA.pool.same hR.same hap
  have ap2 : ∀ k ∈ s'.foot, k ∉ r'.foot := fun k hk hr => by
    rcases hR.foot k hr with e | e
    · exact hap k hk e
    · have := hsl' k hk; omega
  have hbl := h.both.lt
  have hbs : bb ∉ s.foot := fun hm => h.out (List.mem_append_left _ hm)
  have hbr : bb ∉ r.foot := fun hm => h.out (List.mem_append_right _ hm)
  have hb2 := hR.same.at (hA.same.at h.both hbs) hbr
  rw [← hA.pb, ← hR.rb] at hb2
  refine ⟨⟨s', fr', r', ⟨hb2, ⟨P2, hA.good, hsp, hR.ref, hR.nodup, hrel, ap2⟩, fun hm => ?_⟩, fun k hk => ?_⟩, ?_⟩
  · rcases List.mem_append.1 hm with hm | hm
    · rcases hA.foot _ hm with e | e
      · exact hbs e
      · omega
    · rcases hR.foot _ hm with e | e
      · exact hbr e
      · omega
  · rcases List.mem_append.1 hk with hk | hk
    · exact (hA.foot k hk).imp (List.mem_append_left _) id
    · rcases hR.foot k hk with e | e
      · exact Or.inl (List.mem_append_right _ e)
      · exact Or.inr (by omega)
  · exact (hA.same.mono (T := s.foot ++ r.foot) (fun k hk _ => List.mem_append_left _ hk)).step hR.same (fun k hk _ => List.mem_append_right _ hk)

/-- What the reference finds while the program's call has been made. -/
theorem BothAt.mid {w w1 : World} {bb : Nat} {s s' : St} {fr fr' : List Nat} {r : RSt} (h : BothAt w bb s fr r) (hA : After w s w1 s' fr') : RefAt w1 r ∧ At w1 bb 30 [.pointer (some ⟨s.pb, 0, none⟩), .pointer (some ⟨r.rb, 0, none⟩)] :=
  ⟨h.two.ref.sameF hA.same (fun k hk hs => h.two.apart k hs hk), hA.same.at h.both (fun hm => h.out (List.mem_append_left _ hm))⟩

theorem num_int (c : Int) (w : World) (h0 : 0 ≤ c) (h : c ≤ 13) : Calls Try.prog 35 #[.int .i64 c] w fun e w' => e = .returned (.int .i64 c) ∧ w' = w := by
  obtain ⟨n, rfl⟩ : ∃ n : Nat, c = n := ⟨c.toNat, by omega⟩
  exact num_calls n w (by omega)

theorem blkUp_ok (s : ByteArray) (k : Nat) : (blkUp s k).ok := by
  have h : ∀ i, 0 ≤ byteAt s k i ∧ byteAt s k i ≤ 255 := fun i => by
    unfold byteAt
    split
    · have := (s.data[i]!).toNat_lt; omega
    · omega
  intro n hn
  simp only [Blk.ints, blkUp, List.mem_cons, List.mem_nil_iff, or_false] at hn
  rcases hn with rfl | rfl | rfl | rfl | rfl | rfl | rfl | rfl <;> exact h _
end PartBothA
end Go.Proofs.Ytpddgdjocffgdaa
