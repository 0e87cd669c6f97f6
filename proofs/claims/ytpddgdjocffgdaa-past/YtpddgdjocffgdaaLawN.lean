/- The statement Past: its Pool, in plain words. -/
import Derived.Test.YtpddgdjocffgdaaLawK
namespace Go.Proofs.Ytpddgdjocffgdaa
open Go.RowKit Go.Sort
set_option linter.unusedVariables false
set_option linter.unusedSimpArgs false
set_option linter.unusedSectionVars false
variable [DecidableEq Blk] [Inhabited Blk]
variable [Inhabited Vol]

/-- The name of the i-th picture. -/
def pN (i : Nat) : ByteArray := ⟨#[112, UInt8.ofNat (97 + i)]⟩

/-- A volume and pictures of it, each with room for all its places. -/
structure Many (s : St) (size m : Nat) : Prop where
  len : s.vols.length = m + 1
  few : m ≤ 8
  nv : (s.vols[m]!).name = vN
  ov : (s.vols[m]!).org = none
  xv : (s.vols[m]!).xs.length = size
  pic : ∀ i, i < m → (s.vols[i]!).name = pN i ∧ (s.vols[i]!).org = some (s.vols[m]!).vb ∧ (s.vols[i]!).xs.length = size

theorem Many.base {s s' : St} {size m : Nat} (h : Many s size m) (hb : Base s s') : Many s' size m := by
  have hv := hb.same m (by rw [h.len]; omega)
  refine ⟨hb.len.trans h.len, h.few, hv.2.1.trans h.nv, by rw [hv.2.2.2]; exact h.ov, by rw [hv.2.2.1]; exact h.xv, fun i hi => ?_⟩
  have hi' := hb.same i (by rw [h.len]; omega)
  obtain ⟨p1, p2, p3⟩ := h.pic i hi
  exact ⟨hi'.2.1.trans p1, by rw [hi'.2.2.2, hv.1]; exact p2, by rw [hi'.2.2.1]; exact p3⟩

theorem Many.names {s : St} {size m : Nat} (h : Many s size m) : s.names = (List.range m).map pN ++ [vN] := by
  unfold St.names
  refine List.ext_getElem (by simp [h.len]) fun i h1 h2 => ?_
  have hi : i < s.vols.length := by simpa using h1
  have hl := h.len
  rw [List.getElem_map, ← getElem!_pos s.vols i hi]
  by_cases e : i < m
  · rw [List.getElem_append_left (by simpa using e), (h.pic i e).1]
    simp
  · have e2 : i = m := by omega
    subst e2
    rw [List.getElem_append_right (by simp), h.nv]
    simp

/-- Each is found by its name. -/
theorem vol_named {w : World} {s : St} (h : PoolAt w s) {i : Nat} (hi : i < s.vols.length) : s.has (s.vols[i]!).name = true ∧ s.vol (s.vols[i]!).name = s.vols[i]! := by
  have hso := h.names_sorted
  have hh : s.has (s.vols[i]!).name = true := (isIn_iff hso _).2 (by unfold St.names; exact List.mem_map_of_mem (get_mem hi))
  refine ⟨hh, ?_⟩
  obtain ⟨h1, h2, h3⟩ := St.has_mem hh
  have hl : s.names.length = s.vols.length := by simp [St.names]
  have hg : ∀ j (hj : j < s.vols.length), s.names[j]'(by omega) = (s.vols[j]!).name := fun j hj => by
    rw [getElem!_pos s.vols j hj]; simp [St.names]
  have key : posOf s.names (s.vols[i]!).name = i := by
    rw [List.pairwise_iff_getElem] at hso
    have hn : (s.vols[posOf s.names (s.vols[i]!).name]!).name = (s.vols[i]!).name := h2
    rcases Nat.lt_trichotomy (posOf s.names (s.vols[i]!).name) i with e | e | e
    · have := hso _ i (by omega) (by omega) e
      rw [hg _ h3, hg i hi, hn, cmpB_self] at this
      omega
    · exact e
    · have := hso i _ (by omega) (by omega) e
      rw [hg _ h3, hg i hi, hn, cmpB_self] at this
      omega
  show s.vols[posOf s.names (s.vols[i]!).name]! = _
  rw [key]

theorem many_size {w : World} {s : St} {size m : Nat} (h : PoolAt w s) (hM : Many s size m) (i : Nat) (hi : i ≤ m) : s.size (s.vols[i]!) = size := by
  have hl := hM.len
  have mv : s.vols[m]! ∈ s.vols := get_mem (by omega)
  have mi : s.vols[i]! ∈ s.vols := get_mem (by omega)
  unfold St.size
  by_cases e : i = m
  · rw [e, (h.orgOf mv).2.2.1 hM.ov]; exact hM.xv
  · obtain ⟨p1, p2, p3⟩ := hM.pic i (by omega)
    have := (h.orgOf mi).2.2.2 (by rw [p2]; simp)
    rw [p2] at this
    have e0 : s.orgOf (s.vols[i]!) = s.vols[m]! := h.vb_inj (h.orgOf mi).1 mv (by simpa using this.symm)
    rw [e0]; exact hM.xv

/-- What Past knows of its Pool. -/
structure PastInv (s : St) (fr : List Nat) (size : Nat) (now : List Blk) (pasts : List (List Blk)) : Prop where
  many : Many s size pasts.length
  lost : ∀ i, i < pasts.length → (s.vols[i]!).lost = false
  free : fr.length + size + pasts.length * size = 200
  nl : now.length = size
  pl : ∀ i, i < pasts.length → (pasts[i]!).length = size
  lookv : ∀ q, q < size → s.look (s.vols[pasts.length]!) q = now[q]!
  lookp : ∀ i, i < pasts.length → ∀ q, q < size → s.look (s.vols[i]!) q = (pasts[i]!)[q]!

theorem PastInv.lostA {w : World} {s : St} {fr : List Nat} {size : Nat} {now : List Blk} {pasts : List (List Blk)} (hI : PastInv s fr size now pasts) (h : PoolAt w s) (i : Nat) (hi : i ≤ pasts.length) : (s.vols[i]!).lost = false := by
  have hl := hI.many.len
  by_cases e : i = pasts.length
  · rw [e]; exact ((h.vols _ (get_mem (by omega))).plain hI.many.ov).2
  · exact hI.lost i (by omega)

theorem PastInv.keeps {w : World} {s : St} {fr : List Nat} {size : Nat} {now : List Blk} {pasts : List (List Blk)} (hI : PastInv s fr size now pasts) (h : PoolAt w s) (hG : Good s fr) {i k : Nat} (hi : i < pasts.length) (hk : k < size) (hn : k ∉ (s.vols[i]!).kept) : (s.vols[i]!).kept.length < (s.vols[i]!).xs.length := by
  have hM := hI.many
  have hl := hM.len
  have m0 : s.vols[i]! ∈ s.vols := get_mem (by omega)
  have m1 : s.vols[pasts.length]! ∈ s.vols := get_mem (by omega)
  obtain ⟨n1, n2, n3⟩ := hM.pic i hi
  obtain ⟨p1, p2, p3⟩ := hG.pics _ m0
  obtain ⟨q1, q2⟩ := p3 _ m1 n2
  rw [n3]
  rw [hM.xv] at q1
  exact few_of p1 q1 hk hn

theorem now_set {size k : Nat} {now : List Blk} (hl : now.length = size) (x : Blk) (hk : k < size) (q : Nat) (hq : q < size) : (now.set k x)[q]! = if q = k then x else now[q]! := by
  by_cases e : q = k
  · subst e; rw [if_pos rfl]; exact get_set_eq x (by omega)
  · rw [if_neg e]; exact get_set_ne x e (by omega)
theorem pasts_set {pasts : List (List Blk)} (l : List Blk) {n i : Nat} (hn : n < pasts.length) (hi : i < pasts.length) : (pasts.set n l)[i]! = if i = n then l else pasts[i]! := by
  rw [getElem!_pos _ i (by simpa using hi), getElem!_pos pasts i hi, List.getElem_set]
  by_cases e : n = i
  · subst e; simp
  · rw [if_neg e, if_neg (fun h => e h.symm)]

theorem pastWriteV (s : St) (fr : List Nat) (size k : Nat) (now : List Blk) (pasts : List (List Blk)) (x : Blk) (w : World) (h : PoolAt w s) (hG : Good s fr) (hI : PastInv s fr size now pasts) (hk : k < size) :
    Calls Try.prog 27 #[.pointer (some ⟨s.pb, 0, none⟩), .string ⟨#[118]⟩, .int .i64 k, x.val] w fun e w' => e = .returned (.int .i64 0) ∧ ∃ s', After w s w' s' fr ∧ PastInv s' fr size (now.set k x) pasts := by
  have hM := hI.many
  have hl := hM.len
  have lv : pasts.length < s.vols.length := by omega
  have hv := vol_named h lv
  rw [hM.nv] at hv
  obtain ⟨v1, v2⟩ := hv
  have ho : (s.vol vN).org = none := by rw [v2]; exact hM.ov
  have hkx : k < (s.vol vN).xs.length := by rw [v2, hM.xv]; exact hk
  have hmem := (St.has_mem v1).1
  have hks : k < s.size (s.vol vN) := by rw [v2, many_size h hM _ (Nat.le_refl _)]; exact hk
  by_cases hx : s.look (s.vol vN) k = x
  · refine (write_same s vN k x w h v1 ((h.vols _ hmem).plain ho).2 hks (holder_lt h hG hmem hks) hx).mono ?_
    rintro e w' ⟨he, hS⟩
    have e1 : now.set k x = now := by
      rw [← hx, v2, hI.lookv k hk, getElem!_pos now k (by rw [hI.nl]; exact hk)]
      simp
    rw [e1]
    exact ⟨he, s, After.still h hG hS, hI⟩
  · refine (write_volume s fr vN k x w h hG v1 ho hkx hx).mono ?_
    rintro e w' ⟨he, s1, hK, hA⟩
    rw [v2] at hK hA
    have hM' := hM.base (hK.base.bl (s1.bl.set (s.vols[pasts.length]!).xs[k]! x))
    have hlost : ∀ i, i < pasts.length → (s1.vols[i]!).lost = false := fun i hi => by
      have hd := hK.did i (by omega) (hM.pic i hi).2.1
      have hd2 : (s1.vols[i]!).lost = (keepRes k (s.vols[i]!)).2 := congrArg Prod.snd hd
      rw [hd2, keepRes]
      split
      · exact hI.lost i hi
      · rename_i hc
        rw [if_pos (hI.keeps h hG hi hk (fun hm => hc (Or.inl hm)))]
        exact hI.lost i hi
    have hlv : (s1.vols[pasts.length]!).lost = false := ((hA.pool.vols _ (get_mem (l := s1.vols) (by rw [hK.base.len]; exact lv))).plain hM'.ov).2
    refine ⟨he, _, hA, hM', hlost, hI.free, by simp [hI.nl], hI.pl, fun q hq => ?_, fun i hi q hq => ?_⟩
    · have := vol_looks h lv rfl hM.ov (by rw [hM.xv]; exact hk) hK hA.pool hA.good _ lv hlv q (by rw [many_size h hM _ (Nat.le_refl _)]; exact hq)
      refine this.trans ?_
      rw [now_set hI.nl x hk q hq, hI.lookv q hq]
      simp
    · have := vol_looks h lv rfl hM.ov (by rw [hM.xv]; exact hk) hK hA.pool hA.good i (by omega) (hlost i hi) q (by rw [many_size h hM i (by omega)]; exact hq)
      refine this.trans ?_
      rw [if_neg (by omega), hI.lookp i hi q hq]

theorem pastWriteP (s : St) (fr : List Nat) (size k n : Nat) (now : List Blk) (pasts : List (List Blk)) (x : Blk) (w : World) (h : PoolAt w s) (hG : Good s fr) (hI : PastInv s fr size now pasts) (hk : k < size) (hn : n < pasts.length) :
    Calls Try.prog 27 #[.pointer (some ⟨s.pb, 0, none⟩), .string (pN n), .int .i64 k, x.val] w fun e w' => e = .returned (.int .i64 0) ∧ ∃ s', After w s w' s' fr ∧ PastInv s' fr size now (pasts.set n ((pasts[n]!).set k x)) := by
  have hM := hI.many
  have hl := hM.len
  have ln : n < s.vols.length := by omega
  obtain ⟨n1, n2, n3⟩ := hM.pic n hn
  have hv := vol_named h ln
  rw [n1] at hv
  obtain ⟨v1, v2⟩ := hv
  have ho : (s.vol (pN n)).org ≠ none := by rw [v2, n2]; simp
  have hlo : (s.vol (pN n)).lost = false := by rw [v2]; exact hI.lost n hn
  have hmem := (St.has_mem v1).1
  have hks : k < s.size (s.vol (pN n)) := by rw [v2, many_size h hM n (by omega)]; exact hk
  have hpl : ∀ i, i < (pasts.set n ((pasts[n]!).set k x)).length → ((pasts.set n ((pasts[n]!).set k x))[i]!).length = size := fun i hi => by
    have hi' : i < pasts.length := by simpa using hi
    rw [pasts_set _ hn hi']
    split
    · rw [List.length_set]; exact hI.pl n hn
    · exact hI.pl i hi'
  have hnd : ∀ i, i < pasts.length → ∀ q, q < size → ((pasts.set n ((pasts[n]!).set k x))[i]!)[q]! = if i = n ∧ q = k then x else (pasts[i]!)[q]! := fun i hi q hq => by
    rw [pasts_set _ hn hi]
    by_cases e : i = n
    · subst e
      rw [if_pos rfl, now_set (hI.pl i hi) x hk q hq]
      simp
    · rw [if_neg e, if_neg (fun h => e h.1)]
  have hll : (pasts.set n ((pasts[n]!).set k x)).length = pasts.length := List.length_set ..
  by_cases hx : s.look (s.vol (pN n)) k = x
  · refine (write_same s (pN n) k x w h v1 hlo hks (holder_lt h hG hmem hks) hx).mono ?_
    rintro e w' ⟨he, hS⟩
    refine ⟨he, s, After.still h hG hS, by rw [hll]; exact hM, by rw [hll]; exact hI.lost, by rw [hll]; exact hI.free, hI.nl, hpl, by rw [hll]; exact hI.lookv, fun i hi q hq => ?_⟩
    rw [hll] at hi
    rw [hnd i hi q hq]
    split
    · rename_i e; obtain ⟨e1, e2⟩ := e; subst e1; subst e2; rw [← v2]; exact hx
    · exact hI.lookp i hi q hq
  · by_cases hkk : k ∈ (s.vol (pN n)).kept
    · refine (write_picture_kept s fr (pN n) k x w h hG v1 ho hlo hks hx hkk).mono ?_
      rintro e w' ⟨he, hA⟩
      have hlk := fun j hj q hq => kept_looks h hG n (s.vol (pN n)) k x ln v2.symm hkk j hj q hq
      refine ⟨he, _, hA, ?_, by rw [hll]; exact hI.lost, by rw [hll]; exact hI.free, hI.nl, hpl, fun q hq => ?_, fun i hi q hq => ?_⟩
      · rw [hll]; exact ⟨hM.len, hM.few, hM.nv, hM.ov, hM.xv, hM.pic⟩
      · rw [hll]
        refine (hlk pasts.length (by omega) q (by rw [many_size h hM _ (Nat.le_refl _)]; exact hq)).trans ?_
        rw [if_neg (by omega)]
        exact hI.lookv q hq
      · rw [hll] at hi
        refine (hlk i (by omega) q (by rw [many_size h hM i (by omega)]; exact hq)).trans ?_
        rw [hnd i hi q hq, hI.lookp i hi q hq]
    · have hf : (s.vol (pN n)).kept.length < (s.vol (pN n)).xs.length := by rw [v2] at hkk ⊢; exact hI.keeps h hG hn hk hkk
      refine (write_picture_more s fr (pN n) k x w h hG v1 ho hlo hks hx hkk hf).mono ?_
      rintro e w' ⟨he, i, g, hi, hiv, hA⟩
      have hi0 : i = n := index_inj h hi ln (by rw [hiv, v2])
      subst hi0
      have hb : Base s { s with bl := s.bl.set (s.vol (pN i)).xs[(s.vol (pN i)).kept.length]! x, vols := setVol i ((s.vol (pN i)).keeping g k) s.vols } := base_set _ i hi _ (by rw [hiv]; rfl) (by rw [hiv]; rfl) (by rw [hiv]; rfl) (by rw [hiv]; rfl) (by rw [hiv]; exact id)
      have hlk := fun j hj q hq => keep_looks h hG i (s.vol (pN i)) g k x hi hiv ho hf hkk hks hA.pool j hj q hq
      refine ⟨he, _, hA, by rw [hll]; exact hM.base hb, fun j hj => ?_, by rw [hll]; exact hI.free, hI.nl, hpl, fun q hq => ?_, fun j hj q hq => ?_⟩
      · rw [hll] at hj
        show ((setVol i ((s.vol (pN i)).keeping g k) s.vols)[j]!).lost = false
        rw [setVol_get i j _ s.vols hi (by omega)]
        split
        · exact hlo
        · exact hI.lost j hj
      · rw [hll]
        refine (hlk pasts.length (by omega) q (by rw [many_size h hM _ (Nat.le_refl _)]; exact hq)).trans ?_
        rw [if_neg (by omega)]
        exact hI.lookv q hq
      · rw [hll] at hj
        refine (hlk j (by omega) q (by rw [many_size h hM j (by omega)]; exact hq)).trans ?_
        rw [hnd j hj q hq, hI.lookp j hj q hq]

theorem pN_new : ∀ m, m < 8 → isIn ((List.range m).map pN ++ [vN]) (pN m) = false ∧ posOf ((List.range m).map pN ++ [vN]) (pN m) = m ∧ nameB (pN m) = true := by
  decide +kernel

theorem pastPicture (s : St) (fr : List Nat) (size : Nat) (now : List Blk) (pasts : List (List Blk)) (w : World) (h : PoolAt w s) (hG : Good s fr) (hI : PastInv s fr size now pasts) (hs : 1 ≤ size ∧ size ≤ 20) (hm : pasts.length < 8) :
    Calls Try.prog 25 #[.pointer (some ⟨s.pb, 0, none⟩), .string (pN pasts.length), .string ⟨#[118]⟩, .int .i64 size] w fun e w' => e = .returned (.int .i64 0) ∧ ∃ s' fr', After w s w' s' fr' ∧ PastInv s' fr' size now (pasts ++ [now]) := by
  have hM := hI.many
  have hl := hM.len
  have lv : pasts.length < s.vols.length := by omega
  have hv := vol_named h lv
  rw [hM.nv] at hv
  obtain ⟨v1, v2⟩ := hv
  obtain ⟨c1, c2, c3⟩ := pN_new _ hm
  rw [← hM.names] at c1 c2
  have hfr : size ≤ fr.length := by
    have hf := hI.free
    have h1 : pasts.length * size ≤ 7 * 20 := Nat.mul_le_mul (by omega) hs.2
    omega
  refine (picture_ok s fr (pN pasts.length) vN size w h hG (by unfold maxLen; show 2 ≤ _; omega) c3 c1 v1 (by rw [v2]; exact hM.ov) (by rw [v2, hM.xv]; omega) (by omega) hfr).mono ?_
  rintro e w' ⟨he, g, vb, gb, hA, hvb⟩
  rw [c2, v2] at hA
  generalize hnew : (⟨vb, gb, pN pasts.length, fr.take size, some (s.vols[pasts.length]!).vb, none, [], false⟩ : Vol) = nw at hA
  have hget := fun j hj => insVol_get pasts.length j nw s.vols (by omega) hj
  have hsub : ∀ v ∈ s.vols, v ∈ insVol pasts.length nw s.vols := fun v hv => insVol_mem.2 (Or.inr hv)
  have hvin : nw ∈ insVol pasts.length nw s.vols := insVol_mem.2 (Or.inl rfl)
  have g1 : ∀ i, i < pasts.length → (insVol pasts.length nw s.vols)[i]! = s.vols[i]! := fun i hi => by rw [hget i (by omega), if_pos hi]
  have g2 : (insVol pasts.length nw s.vols)[pasts.length]! = nw := by rw [hget _ (by omega), if_neg (by omega), if_pos rfl]
  have g3 : (insVol pasts.length nw s.vols)[pasts.length + 1]! = s.vols[pasts.length]! := by rw [hget _ (by omega), if_neg (by omega), if_neg (by omega)]; rfl
  have hlen : (insVol pasts.length nw s.vols).length = s.vols.length + 1 := by rw [(insVol_perm _ _ _).length_eq]; rfl
  have hll : (pasts ++ [now]).length = pasts.length + 1 := by simp
  have p1 : ∀ i, i < pasts.length → (pasts ++ [now])[i]! = pasts[i]! := fun i hi => by
    rw [getElem!_pos _ i (by simp; omega), getElem!_pos pasts i hi, List.getElem_append_left hi]
  have p2 : (pasts ++ [now])[pasts.length]! = now := by
    rw [getElem!_pos _ _ (by simp)]; simp
  have mv : s.vols[pasts.length]! ∈ s.vols := get_mem lv
  have o1 : nw.org = some (s.vols[pasts.length]!).vb := by rw [← hnew]
  have o2 : nw.kept = [] := by rw [← hnew]
  have o3 : nw.lost = false := by rw [← hnew]
  have o4 : nw.name = pN pasts.length := by rw [← hnew]
  have o5 : nw.xs.length = size := by rw [← hnew]; show (fr.take size).length = size; rw [List.length_take]; omega
  clear hnew
  refine ⟨he, _, _, hA, ?_, fun i hi => ?_, ?_, hI.nl, fun i hi => ?_, fun q hq => ?_, fun i hi q hq => ?_⟩
  · rw [hll]
    refine ⟨by show (insVol pasts.length nw s.vols).length = _; omega, by omega, ?_, ?_, ?_, fun i hi => ?_⟩
    · show ((insVol pasts.length nw s.vols)[pasts.length + 1]!).name = _; rw [g3]; exact hM.nv
    · show ((insVol pasts.length nw s.vols)[pasts.length + 1]!).org = _; rw [g3]; exact hM.ov
    · show ((insVol pasts.length nw s.vols)[pasts.length + 1]!).xs.length = _; rw [g3]; exact hM.xv
    · show ((insVol pasts.length nw s.vols)[i]!).name = _ ∧ ((insVol pasts.length nw s.vols)[i]!).org = some ((insVol pasts.length nw s.vols)[pasts.length + 1]!).vb ∧ ((insVol pasts.length nw s.vols)[i]!).xs.length = _
      rw [g3]
      by_cases e : i < pasts.length
      · rw [g1 i e]; exact hM.pic i e
      · have e2 : i = pasts.length := by omega
        subst e2
        rw [g2]; exact ⟨o4, o1, o5⟩
  · rw [hll] at hi
    show ((insVol pasts.length nw s.vols)[i]!).lost = false
    by_cases e : i < pasts.length
    · rw [g1 i e]; exact hI.lost i e
    · have e2 : i = pasts.length := by omega
      subst e2
      rw [g2]; exact o3
  · rw [hll, List.length_drop, Nat.add_mul]
    have := hI.free
    omega
  · rw [hll] at hi
    by_cases e : i < pasts.length
    · rw [p1 i e]; exact hI.pl i e
    · have e2 : i = pasts.length := by omega
      subst e2
      rw [p2]; exact hI.nl
  · rw [hll]
    show St.look _ ((insVol pasts.length nw s.vols)[pasts.length + 1]!) q = _
    rw [g3]
    exact (look_more h hA.pool hsub rfl mv q).1.trans (hI.lookv q hq)
  · rw [hll] at hi
    show St.look _ ((insVol pasts.length nw s.vols)[i]!) q = _
    by_cases e : i < pasts.length
    · rw [g1 i e, p1 i e]
      exact (look_more h hA.pool hsub rfl (get_mem (by omega)) q).1.trans (hI.lookp i e q hq)
    · have e2 : i = pasts.length := by omega
      subst e2
      rw [g2, p2]
      exact (look_new h hA.pool hsub rfl mv hM.ov hvin o1 o2 q).1.trans (hI.lookv q hq)
end Go.Proofs.Ytpddgdjocffgdaa
