/- The statement Back: what Revert leaves. -/
import Derived.Test.YtpddgdjocffgdaaLawK
namespace Go.Proofs.Ytpddgdjocffgdaa
open Go.RowKit Go.Sort
set_option linter.unusedVariables false
set_option linter.unusedSimpArgs false
set_option linter.unusedSectionVars false
variable [DecidableEq Blk] [Inhabited Blk]
variable [Inhabited Vol]

theorem backRevert (s : St) (fr : List Nat) (size : Nat) (w : World) (h : PoolAt w s) (hG : Good s fr) (hI : BackInv s fr size) (hs : size ≤ 20) :
    Calls Try.prog 32 #[.pointer (some ⟨s.pb, 0, none⟩), .string ⟨#[112, 105, 99]⟩] w fun e w' => e = .returned (.int .i64 0) ∧ ∃ s' fr', After w s w' s' fr' ∧ OneW s' fr' size ∧ ∀ q, q < size → s'.look (s'.vol vN) q = s.look (s.vols[0]!) q := by
  have h2 := hI.two
  obtain ⟨v1, v2, v3, v4⟩ := h2.vol
  have l0 : 0 < s.vols.length := by rw [h2.len]; omega
  have l1 : 1 < s.vols.length := by rw [h2.len]; omega
  have m0 := get_mem l0
  have m1 := get_mem l1
  have hp : (s.picsOf (s.vols[1]!).vb).length ≤ 1 := by
    have key : ∀ (a b : Vol) (x : Nat), b.org = none → ([a, b].filter fun v => decide (v.org = some x)).length ≤ 1 := fun a b x hb => by
      simp only [List.filter_cons, List.filter_nil, hb]
      split <;> simp
    have e := key (s.vols[0]!) (s.vols[1]!) (s.vols[1]!).vb h2.o1
    rw [← two_list h2.len] at e
    exact e
  have hr := revert_ok s fr picN (s.vols[1]!) (s.vols[0]!) w h hG v1 v3 h2.o0 m1 hI.lost hp
  refine hr.mono ?_
  rintro e w' ⟨he, g, hA⟩
  have hpo : posOf s.names picN = 0 := by
    rw [h2.names]
    have a := cmpB_self picN
    have b := v_pic
    simp [posOf, a, b]
  have hdel : delVol (posOf s.names picN) s.vols = [s.vols[1]!] := by
    rw [hpo]
    conv => lhs; rw [two_list h2.len]
    rfl
  have hone : OneW { s with m := s.m + (s.vols[0]!).xs.length, bl := giveB (s.vols[0]!).xs (revB (s.vols[1]!) (s.vols[0]!) s.bl (s.vols[0]!).kept.length), d := giveD s.m (s.vols[0]!).xs s.d, ab := some g, vols := delVol (posOf s.names picN) s.vols } (insAll (s.vols[0]!).xs fr) size := by
    refine ⟨⟨s.vols[1]!, hdel, h2.n1, h2.o1, h2.x1⟩, ?_⟩
    rw [insAll_length, h2.x0, hI.free]
    omega
  refine ⟨he, _, _, hA, hone, fun q hq => ?_⟩
  obtain ⟨f1, f2, f3, f4, f5, f6⟩ := hone.facts
  have hvv : St.vol { s with m := s.m + (s.vols[0]!).xs.length, bl := giveB (s.vols[0]!).xs (revB (s.vols[1]!) (s.vols[0]!) s.bl (s.vols[0]!).kept.length), d := giveD s.m (s.vols[0]!).xs s.d, ab := some g, vols := delVol (posOf s.names picN) s.vols } vN = s.vols[1]! := by
    have e : delVol (posOf s.names picN) s.vols = [_] := f6
    exact (List.cons.inj (hdel.symm.trans e)).1.symm
  have hmem' := (St.has_mem f1).1
  have eo := (hA.pool.orgOf hmem').2.2.1 f2
  have ek := (hA.pool.vols _ hmem').kept_nil f2
  unfold St.look St.holder
  rw [ek, if_neg (by simp), eo, hvv]
  show (giveB (s.vols[0]!).xs (revB (s.vols[1]!) (s.vols[0]!) s.bl (s.vols[0]!).kept.length))[(s.vols[1]!).xs[q]!]! = _
  have hqx : q < (s.vols[1]!).xs.length := by rw [h2.x1]; exact hq
  have hmq : (s.vols[1]!).xs[q]! ∈ (s.vols[1]!).xs := mem_getElem! hqx
  have hap : ∀ x ∈ (s.vols[0]!).xs, x ∉ (s.vols[1]!).xs := fun x hx => hG.xs_apart l0 l1 (by omega) hx
  rw [giveB_get _ _ _ (by rw [revB_length, h.disk.len]; exact hG.lt.2 _ m1 _ hmq), if_neg (fun hm => hap _ hm hmq)]
  rw [revB_in (s.vols[1]!) (s.vols[0]!) s.bl ((hG.pics _ m0).2.2 _ m1 h2.o0).1 (hG.pics _ m0).1 (hG.xs_nodup m1) (h.vols _ m0).room hap (fun x hx => by rw [h.disk.len]; exact hG.lt.2 _ m1 _ hx) (fun x hx => by rw [h.disk.len]; exact hG.lt.2 _ m0 _ hx) q hqx _ (Nat.le_refl _), List.take_length]
  have eo0 : s.orgOf (s.vols[0]!) = s.vols[1]! := by
    have := (h.orgOf m0).2.2.2 (by rw [h2.o0]; simp)
    rw [h2.o0] at this
    exact h.vb_inj (h.orgOf m0).1 m1 (by simpa using this.symm)
  rw [eo0]
  split <;> rfl
end Go.Proofs.Ytpddgdjocffgdaa
