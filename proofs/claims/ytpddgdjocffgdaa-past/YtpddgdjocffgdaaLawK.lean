/- The statement Back: its Pool and its calls. -/
import Derived.Test.YtpddgdjocffgdaaLawI
import Derived.Test.YtpddgdjocffgdaaPoolAA
import Derived.Test.YtpddgdjocffgdaaPoolZ
namespace Go.Proofs.Ytpddgdjocffgdaa
open Go.RowKit Go.Sort
set_option linter.unusedVariables false
set_option linter.unusedSimpArgs false
set_option linter.unusedSectionVars false
variable [DecidableEq Blk] [Inhabited Blk]
variable [Inhabited Vol]

/-- A Pool with one volume, and the rest free. -/
structure OneW (s : St) (fr : List Nat) (size : Nat) : Prop where
  ex : ∃ v, s.vols = [v] ∧ v.name = vN ∧ v.org = none ∧ v.xs.length = size
  free : fr.length = 200 - size

theorem OneV.weak {s : St} {fr : List Nat} {size : Nat} (h : OneV s fr size) : OneW s fr size := by
  obtain ⟨v, h1, h2, h3, h4, _⟩ := h.ex
  exact ⟨⟨v, h1, h2, h3, h4⟩, h.free⟩

theorem OneW.facts {s : St} {fr : List Nat} {size : Nat} (h : OneW s fr size) : s.has vN = true ∧ (s.vol vN).org = none ∧ (s.vol vN).xs.length = size ∧ s.picsOf (s.vol vN).vb = [] ∧ s.names = [vN] ∧ s.vols = [s.vol vN] := by
  obtain ⟨v, hv, hvn, hvo, hvl⟩ := h.ex
  have hns : s.names = [vN] := by unfold St.names; rw [hv]; simp [hvn]
  have hu : s.has vN = true := by unfold St.has; rw [hns]; exact isIn_one vN
  have hvv : s.vol vN = v := by unfold St.vol; rw [hns, posOf_one, hv]; rfl
  refine ⟨hu, by rw [hvv]; exact hvo, by rw [hvv]; exact hvl, ?_, hns, by rw [hvv]; exact hv⟩
  unfold St.picsOf
  rw [hv]
  simp [hvo]

theorem oneWrite (s : St) (fr : List Nat) (size k : Nat) (x : Blk) (w : World) (h : PoolAt w s) (hG : Good s fr) (hI : OneW s fr size) (hk : k < size) :
    Calls Try.prog 27 #[.pointer (some ⟨s.pb, 0, none⟩), .string ⟨#[118]⟩, .int .i64 k, x.val] w fun e w' => e = .returned (.int .i64 0) ∧ ∃ s', After w s w' s' fr ∧ OneW s' fr size := by
  obtain ⟨f1, f2, f3, f4, _, _⟩ := hI.facts
  refine (write_plain s fr vN k x w h hG f1 f2 f4 (by rw [f3]; exact hk)).mono ?_
  rintro e w' ⟨he, hA⟩
  obtain ⟨v, h1, h2⟩ := hI.ex
  exact ⟨he, _, hA, ⟨v, h1, h2⟩, hI.free⟩

/-- What Back knows of its Pool, with its picture. -/
structure BackInv (s : St) (fr : List Nat) (size : Nat) : Prop where
  two : Two s size size
  lost : (s.vols[0]!).lost = false
  free : fr.length = 200 - size - size

theorem picture_two (s : St) (fr : List Nat) (size : Nat) (w : World) (h : PoolAt w s) (hG : Good s fr) (h1 : OneW s fr size) (hs : 1 ≤ size ∧ size ≤ 20) :
    Calls Try.prog 25 #[.pointer (some ⟨s.pb, 0, none⟩), .string ⟨#[112, 105, 99]⟩, .string ⟨#[118]⟩, .int .i64 size] w fun e w' => e = .returned (.int .i64 0) ∧ ∃ s' fr', After w s w' s' fr' ∧ BackInv s' fr' size := by
  obtain ⟨f1, f2, f3, f4, hns, hv⟩ := h1.facts
  have hfl := h1.free
  have hx : s.has picN = false := by
    unfold St.has; rw [hns]
    have a := v_pic
    have b : cmpB vN picN ≠ 0 := fun e => by have := (cmpB_zero _ _).1 e; exact absurd this (by decide +kernel)
    simp [isIn, posOf, a, b]
  have hpo : posOf s.names picN = 0 := by
    rw [hns]
    have a := v_pic
    simp [posOf, a]
  have hvn := (St.has_mem f1).2.1
  refine (picture_ok s fr picN vN size w h hG (by unfold maxLen; decide) picN_name hx f1 f2 (by rw [f3]; omega) (by rw [hv]; simp) (by omega)).mono ?_
  rintro e w' ⟨he, g, vb, gb, hA, hvb⟩
  have hvols : insVol (posOf s.names picN) ⟨vb, gb, picN, fr.take size, some (s.vol vN).vb, none, [], false⟩ s.vols = [⟨vb, gb, picN, fr.take size, some (s.vol vN).vb, none, [], false⟩, s.vol vN] := by
    rw [hpo]
    conv => lhs; rw [hv]
    rfl
  refine ⟨he, _, _, hA, ?_, ?_, by rw [List.length_drop]; omega⟩
  · refine ⟨?_, ?_, ?_, ?_, ?_, ?_, ?_⟩
    · show (insVol _ _ s.vols).length = 2
      rw [hvols]; rfl
    · show ((insVol _ _ s.vols)[0]!).name = _
      rw [hvols]; rfl
    · show ((insVol _ _ s.vols)[1]!).name = _
      rw [hvols]; exact hvn
    · show ((insVol _ _ s.vols)[0]!).org = some ((insVol _ _ s.vols)[1]!).vb
      rw [hvols]; rfl
    · show ((insVol _ _ s.vols)[1]!).org = _
      rw [hvols]; exact f2
    · show ((insVol _ _ s.vols)[0]!).xs.length = _
      rw [hvols]; show (fr.take size).length = size; rw [List.length_take]; omega
    · show ((insVol _ _ s.vols)[1]!).xs.length = _
      rw [hvols]; exact f3
  · show ((insVol _ _ s.vols)[0]!).lost = false
    rw [hvols]; rfl

theorem sub_len2 {α : Type} [DecidableEq α] : ∀ (l m : List α), l.Nodup → (∀ x ∈ l, x ∈ m) → l.length ≤ m.length
  | [], _, _, _ => Nat.zero_le _
  | x :: r, m, hn, hs => by
    obtain ⟨n1, n2⟩ := List.nodup_cons.1 hn
    have hx := hs x (by simp)
    have := sub_len2 r (m.erase x) n2 (fun y hy => (List.mem_erase_of_ne (fun e => n1 (by rw [← e]; exact hy))).2 (hs y (by simp [hy])))
    rw [List.length_erase_of_mem hx] at this
    have := List.length_pos_of_mem hx
    simp only [List.length_cons]
    omega

/-- Numbers below a bound, none twice, and one that is not among them: fewer than the bound. -/
theorem few_of {l : List Nat} {n k : Nat} (h : l.Nodup) (hl : ∀ x ∈ l, x < n) (hk : k < n) (hn : k ∉ l) : l.length < n := by
  have h1 : (k :: l).Nodup := List.nodup_cons.2 ⟨hn, h⟩
  have h2 := sub_len2 (k :: l) (List.range n) h1 (fun x hx => by
    rcases List.mem_cons.1 hx with e | e
    · rw [e]; exact List.mem_range.2 hk
    · exact List.mem_range.2 (hl x e))
  simp at h2
  omega

theorem BackInv.keeps {w : World} {s : St} {fr : List Nat} {size : Nat} (hI : BackInv s fr size) (h : PoolAt w s) (hG : Good s fr) {k : Nat} (hk : k < size) (hn : k ∉ (s.vols[0]!).kept) : (s.vols[0]!).kept.length < (s.vols[0]!).xs.length := by
  have h2 := hI.two
  have m0 : s.vols[0]! ∈ s.vols := get_mem (by rw [h2.len]; omega)
  have m1 : s.vols[1]! ∈ s.vols := get_mem (by rw [h2.len]; omega)
  obtain ⟨p1, p2, p3⟩ := hG.pics _ m0
  obtain ⟨q1, q2⟩ := p3 _ m1 h2.o0
  rw [h2.x0]
  rw [h2.x1] at q1
  exact few_of p1 q1 hk hn

theorem backWriteV (s : St) (fr : List Nat) (size k : Nat) (x : Blk) (w : World) (h : PoolAt w s) (hG : Good s fr) (hI : BackInv s fr size) (hk : k < size) :
    Calls Try.prog 27 #[.pointer (some ⟨s.pb, 0, none⟩), .string ⟨#[118]⟩, .int .i64 k, x.val] w fun e w' => e = .returned (.int .i64 0) ∧ ∃ s', After w s w' s' fr ∧ BackInv s' fr size := by
  have h2 := hI.two
  obtain ⟨v1, v2, v3, v4⟩ := h2.vol
  have ho : (s.vol vN).org = none := by rw [v4]; exact h2.o1
  have hkx : k < (s.vol vN).xs.length := by rw [v4, h2.x1]; exact hk
  have hmem := (St.has_mem v2).1
  have hks : k < s.size (s.vol vN) := by rw [v4, (two_size h h2).1]; exact hk
  by_cases hx : s.look (s.vol vN) k = x
  · refine (write_same s vN k x w h v2 ((h.vols _ hmem).plain ho).2 hks (holder_lt h hG hmem hks) hx).mono ?_
    rintro e w' ⟨he, hS⟩
    exact ⟨he, s, After.still h hG hS, hI⟩
  · refine (write_volume s fr vN k x w h hG v2 ho hkx hx).mono ?_
    rintro e w' ⟨he, s1, hK, hA⟩
    refine ⟨he, _, hA, h2.base (hK.base.bl _), ?_, hI.free⟩
    have hd := hK.did 0 (by rw [h2.len]; omega) (by rw [v4]; exact h2.o0)
    have hd2 : (s1.vols[0]!).lost = (keepRes k (s.vols[0]!)).2 := congrArg Prod.snd hd
    show (s1.vols[0]!).lost = false
    rw [hd2, keepRes]
    split
    · exact hI.lost
    · rename_i hc
      rw [if_pos (hI.keeps h hG hk (fun hm => hc (Or.inl hm)))]
      exact hI.lost

theorem backWriteP (s : St) (fr : List Nat) (size k : Nat) (x : Blk) (w : World) (h : PoolAt w s) (hG : Good s fr) (hI : BackInv s fr size) (hk : k < size) :
    Calls Try.prog 27 #[.pointer (some ⟨s.pb, 0, none⟩), .string ⟨#[112, 105, 99]⟩, .int .i64 k, x.val] w fun e w' => e = .returned (.int .i64 0) ∧ ∃ s', After w s w' s' fr ∧ BackInv s' fr size := by
  have h2 := hI.two
  obtain ⟨v1, v2, v3, v4⟩ := h2.vol
  have ho : (s.vol picN).org ≠ none := by rw [v3, h2.o0]; simp
  have hl : (s.vol picN).lost = false := by rw [v3]; exact hI.lost
  have hmem := (St.has_mem v1).1
  have hks : k < s.size (s.vol picN) := by rw [v3, (two_size h h2).2]; exact hk
  by_cases hx : s.look (s.vol picN) k = x
  · refine (write_same s picN k x w h v1 hl hks (holder_lt h hG hmem hks) hx).mono ?_
    rintro e w' ⟨he, hS⟩
    exact ⟨he, s, After.still h hG hS, hI⟩
  · by_cases hkk : k ∈ (s.vol picN).kept
    · refine (write_picture_kept s fr picN k x w h hG v1 ho hl hks hx hkk).mono ?_
      rintro e w' ⟨he, hA⟩
      exact ⟨he, _, hA, ⟨h2.len, h2.n0, h2.n1, h2.o0, h2.o1, h2.x0, h2.x1⟩, hI.lost, hI.free⟩
    · refine (write_picture_more s fr picN k x w h hG v1 ho hl hks hx hkk (by rw [v3] at hkk ⊢; exact hI.keeps h hG hk hkk)).mono ?_
      rintro e w' ⟨he, i, g, hi, hiv, hA⟩
      have hi0 : i = 0 := index_inj h hi (by rw [h2.len]; omega) (by rw [hiv, v3])
      subst hi0
      have hb : Base s { s with bl := s.bl.set (s.vol picN).xs[(s.vol picN).kept.length]! x, vols := setVol 0 ((s.vol picN).keeping g k) s.vols } := base_set _ 0 hi _ (by rw [hiv]; rfl) (by rw [hiv]; rfl) (by rw [hiv]; rfl) (by rw [hiv]; rfl) (by rw [hiv]; exact id)
      refine ⟨he, _, hA, h2.base hb, ?_, hI.free⟩
      show ((setVol 0 ((s.vol picN).keeping g k) s.vols)[0]!).lost = false
      rw [setVol_get 0 0 _ s.vols hi hi, if_pos rfl]
      exact hl
end Go.Proofs.Ytpddgdjocffgdaa
