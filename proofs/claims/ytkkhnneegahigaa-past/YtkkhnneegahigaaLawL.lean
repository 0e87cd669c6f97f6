/- The statement Back: what Revert leaves. -/
import Derived.Test.YtkkhnneegahigaaLawK
namespace Go.Proofs.Ytkkhnneegahigaa
open Go.RowKit Go.Sort
set_option linter.unusedVariables false
set_option linter.unusedSimpArgs false
set_option linter.unusedSectionVars false
variable [DecidableEq Blk] [Inhabited Blk]
variable [Inhabited Vol]

theorem revB_out (u v : Vol) (bl : List Blk) (hk : ∀ k ∈ v.kept, k < u.xs.length) (x : Nat) (hx : x ∉ u.xs) (hl : x < bl.length) : ∀ j, j ≤ v.kept.length → (revB u v bl j)[x]! = bl[x]!
  | 0, _ => rfl
  | j + 1, hj => by
    have ih := revB_out u v bl hk x hx hl j (by omega)
    have hm : v.kept[j]! ∈ v.kept := by rw [getElem!_pos v.kept j (by omega)]; exact List.getElem_mem _
    have hne : x ≠ u.xs[v.kept[j]!]! := fun e => hx (by rw [e]; exact mem_getElem! (hk _ hm))
    show ((revB u v bl j).set u.xs[v.kept[j]!]! ((revB u v bl j)[v.xs[j]!]!))[x]! = _
    rw [get_set_ne _ hne (by rw [revB_length]; exact hl)]
    exact ih

theorem revB_in (u v : Vol) (bl : List Blk) (hk : ∀ k ∈ v.kept, k < u.xs.length) (hkn : v.kept.Nodup) (hun : u.xs.Nodup) (hr : v.kept.length ≤ v.xs.length) (hd : ∀ x ∈ v.xs, x ∉ u.xs) (hub : ∀ x ∈ u.xs, x < bl.length) (hvb : ∀ x ∈ v.xs, x < bl.length) (q : Nat) (hq : q < u.xs.length) :
    ∀ j, j ≤ v.kept.length → (revB u v bl j)[u.xs[q]!]! = if q ∈ v.kept.take j then bl[v.xs[v.kept.idxOf q]!]! else bl[u.xs[q]!]!
  | 0, _ => by simp [revB]
  | j + 1, hj => by
    have ih := revB_in u v bl hk hkn hun hr hd hub hvb q hq j (by omega)
    have hjl : j < v.kept.length := by omega
    have hm : v.kept[j]! ∈ v.kept := by rw [getElem!_pos v.kept j hjl]; exact List.getElem_mem _
    have hxm : v.xs[j]! ∈ v.xs := mem_getElem! (by omega)
    have hval : (revB u v bl j)[v.xs[j]!]! = bl[v.xs[j]!]! := revB_out u v bl hk _ (hd _ hxm) (hvb _ hxm) j (by omega)
    have htk : v.kept.take (j + 1) = v.kept.take j ++ [v.kept[j]!] := by rw [List.take_succ_eq_append_getElem hjl, getElem!_pos v.kept j hjl]
    show ((revB u v bl j).set u.xs[v.kept[j]!]! ((revB u v bl j)[v.xs[j]!]!))[u.xs[q]!]! = _
    rw [hval]
    by_cases hqk : q = v.kept[j]!
    · have hnin : q ∉ v.kept.take j := by
        intro hmq
        obtain ⟨i, hi, e⟩ := List.getElem_of_mem hmq
        have hi' : i < j := by simp at hi; omega
        rw [List.getElem_take] at e
        have e2 : v.kept[i]'(by omega) = v.kept[j]'hjl := by rw [e, hqk, getElem!_pos v.kept j hjl]
        have := (List.getElem_inj (h₀ := by omega) (h₁ := hjl) hkn).1 e2
        omega
      have hidx : v.kept.idxOf q = j := idxOf_at v.kept j q hjl hqk.symm hnin
      rw [← hqk, get_set_eq _ (by rw [revB_length]; exact hub _ (mem_getElem! hq)), htk, if_pos (by rw [← hqk]; simp), hidx]
    · have hne : u.xs[q]! ≠ u.xs[v.kept[j]!]! := fun e => by
        rw [getElem!_pos u.xs q hq, getElem!_pos u.xs _ (hk _ hm)] at e
        exact hqk ((List.getElem_inj (h₀ := hq) (h₁ := hk _ hm) hun).1 e)
      rw [get_set_ne _ hne (by rw [revB_length]; exact hub _ (mem_getElem! hq)), ih, htk]
      by_cases hin : q ∈ v.kept.take j
      · rw [if_pos hin, if_pos (List.mem_append_left _ hin)]
      · rw [if_neg hin, if_neg (fun hm2 => (List.mem_append.1 hm2).elim hin (fun e => hqk (by simpa only [List.mem_singleton] using e)))]

theorem backRevert (s : St) (fr : List Nat) (size : Nat) (w : World) (h : PoolAt w s) (hG : Good s fr) (hI : BackInv s fr size) (hs : size ≤ 20) :
    Calls Try.prog 26 #[.pointer (some ⟨s.pb, 0, none⟩), .string ⟨#[112, 105, 99]⟩] w fun e w' => e = .returned (.int .i64 0) ∧ ∃ s' fr', After w s w' s' fr' ∧ OneW s' fr' size ∧ ∀ q, q < size → s'.look (s'.vol vN) q = s.look (s.vols[0]!) q := by
  have h2 := hI.two
  obtain ⟨v1, v2, v3, v4⟩ := h2.vol
  have l0 : 0 < s.vols.length := by rw [h2.len]; omega
  have l1 : 1 < s.vols.length := by rw [h2.len]; omega
  have m0 := get_mem l0
  have m1 := get_mem l1
  have hp : (s.picsOf (s.vols[1]!).vb).length ≤ 1 := by
    have key : ∀ (a b : Vol) (x : Nat), b.org = none → ([a, b].filter fun v => decide (v.org = some x)).length ≤ 1 := fun a b x hb => by
      simp only [List.filter_cons, List.filter_nil, hb]
      split <;> simp
    have e := key (s.vols[0]!) (s.vols[1]!) (s.vols[1]!).vb h2.o1
    rw [← two_list h2.len] at e
    exact e
  have hr := revert_ok s fr picN (s.vols[1]!) (s.vols[0]!) w h hG v1 v3 h2.o0 m1 hI.lost hp
  refine hr.mono ?_
  rintro e w' ⟨he, g, hA⟩
  have hpo : posOf s.names picN = 0 := by
    rw [h2.names]
    have a := cmpB_self picN
    have b := v_pic
    simp [posOf, a, b]
  have hdel : delVol (posOf s.names picN) s.vols = [s.vols[1]!] := by
    rw [hpo]
    conv => lhs; rw [two_list h2.len]
    rfl
  have hone : OneW { s with m := s.m + (s.vols[0]!).xs.length, bl := giveB (s.vols[0]!).xs (revB (s.vols[1]!) (s.vols[0]!) s.bl (s.vols[0]!).kept.length), d := giveD s.m (s.vols[0]!).xs s.d, ab := some g, vols := delVol (posOf s.names picN) s.vols } (insAll (s.vols[0]!).xs fr) size := by
    refine ⟨⟨s.vols[1]!, hdel, h2.n1, h2.o1, h2.x1⟩, ?_⟩
    rw [insAll_length, h2.x0, hI.free]
    omega
  refine ⟨he, _, _, hA, hone, fun q hq => ?_⟩
  obtain ⟨f1, f2, f3, f4, f5, f6⟩ := hone.facts
  have hvv : St.vol { s with m := s.m + (s.vols[0]!).xs.length, bl := giveB (s.vols[0]!).xs (revB (s.vols[1]!) (s.vols[0]!) s.bl (s.vols[0]!).kept.length), d := giveD s.m (s.vols[0]!).xs s.d, ab := some g, vols := delVol (posOf s.names picN) s.vols } vN = s.vols[1]! := by
    have e : delVol (posOf s.names picN) s.vols = [_] := f6
    exact (List.cons.inj (hdel.symm.trans e)).1.symm
  have hmem' := (St.has_mem f1).1
  have eo := (hA.pool.orgOf hmem').2.2.1 f2
  have ek := (hA.pool.vols _ hmem').kept_nil f2
  unfold St.look St.holder
  rw [ek, if_neg (by simp), eo, hvv]
  show (giveB (s.vols[0]!).xs (revB (s.vols[1]!) (s.vols[0]!) s.bl (s.vols[0]!).kept.length))[(s.vols[1]!).xs[q]!]! = _
  have hqx : q < (s.vols[1]!).xs.length := by rw [h2.x1]; exact hq
  have hmq : (s.vols[1]!).xs[q]! ∈ (s.vols[1]!).xs := mem_getElem! hqx
  have hap : ∀ x ∈ (s.vols[0]!).xs, x ∉ (s.vols[1]!).xs := fun x hx => hG.xs_apart l0 l1 (by omega) hx
  rw [giveB_get _ _ _ (by rw [revB_length, h.disk.len]; exact hG.lt.2 _ m1 _ hmq), if_neg (fun hm => hap _ hm hmq)]
  rw [revB_in (s.vols[1]!) (s.vols[0]!) s.bl ((hG.pics _ m0).2.2 _ m1 h2.o0).1 (hG.pics _ m0).1 (hG.xs_nodup m1) (h.vols _ m0).room hap (fun x hx => by rw [h.disk.len]; exact hG.lt.2 _ m1 _ hx) (fun x hx => by rw [h.disk.len]; exact hG.lt.2 _ m0 _ hx) q hqx _ (Nat.le_refl _), List.take_length]
  have eo0 : s.orgOf (s.vols[0]!) = s.vols[1]! := by
    have := (h.orgOf m0).2.2.2 (by rw [h2.o0]; simp)
    rw [h2.o0] at this
    exact h.vb_inj (h.orgOf m0).1 m1 (by simpa using this.symm)
  rw [eo0]
  split <;> rfl
end Go.Proofs.Ytkkhnneegahigaa
