/- Any write of bytes leaves all that can be read bytes. The statement's own small functions: pick, has, by contracts. A Pool: Remove, and what Revert refuses, by contracts. The statement's function opened, by a contract. The statements' functions block, told, same, by contracts. The statement Room: its Pool, in plain words. The statement Room: its calls. Again: its Pool, in plain words, and its calls. Again: told and same, whether the picture is lost or not. -/
import Derived.Test.YtpddgdjocffgdaaG13
import Derived.Test.YtpddgdjocffgdaaG04
import Derived.Test.YtpddgdjocffgdaaG08
import Derived.Test.YtpddgdjocffgdaaG10
import Derived.Test.YtpddgdjocffgdaaG11
namespace Go.Proofs.Ytpddgdjocffgdaa
section PartSameC
open Go.RowKit Go.Sort
set_option linter.unusedVariables false
set_option linter.unusedSimpArgs false
set_option linter.unusedSectionVars false
variable [DecidableEq Blk] [Inhabited Blk]
variable [Inhabited Vol]
variable [Inhabited PEnt]

/-- All that can be read is bytes. -/
def FitsS (s : St) : Prop := ∀ i, i < s.vols.length → (s.vols[i]!).lost = false → ∀ q, q < s.size (s.vols[i]!) → (s.look (s.vols[i]!) q).fits
theorem base_bl2 (s : St) (bl : List Blk) : Base s { s with bl := bl } := ⟨rfl, fun _ _ => ⟨rfl, rfl, rfl, rfl⟩, fun _ _ h => h⟩

theorem fits_write {w : World} {s : St} {fr : List Nat} (hP : PoolAt w s) (hG : Good s fr) (hsp : Spare s) (hF : FitsS s) (t : ByteArray) (n : Nat) (b : Blk) (hb : b.fits) (h1 : s.has t = true) (hn : n < s.size (s.vol t)) :
    Calls Try.prog 27 #[.pointer (some ⟨s.pb, 0, none⟩), .string t, .int .i64 n, b.val] w fun e w' => ∃ (x : Int) (s' : St), e = .returned (.int .i64 x) ∧ After w s w' s' fr ∧ Base s s' ∧ Spare s' ∧ FitsS s' := by
  obtain ⟨hm, hnm, hp⟩ := St.has_mem h1
  by_cases hl : (s.vol t).lost = true
  · refine (write_err s t n 9 b w (by decide) fun w' hS => findPlace_lost s t n w' (hP.new hS) h1 hl).mono ?_
    rintro e w' ⟨he, hS⟩
    exact ⟨9, s, he, After.still hP hG hS, Base.refl s, hsp, hF⟩
  have hl' : (s.vol t).lost = false := by simpa using hl
  have hho := holder_lt hP hG hm hn
  by_cases hsame : s.look (s.vol t) n = b
  · refine (write_same s t n b w hP h1 hl' hn hho hsame).mono ?_
    rintro e w' ⟨he, hS⟩
    exact ⟨0, s, he, After.still hP hG hS, Base.refl s, hsp, hF⟩
  by_cases ho : (s.vol t).org = none
  · have hnx : n < (s.vol t).xs.length := by unfold St.size at hn; rw [(hP.orgOf hm).2.2.1 ho] at hn; exact hn
    refine (write_volume s fr t n b w hP hG h1 ho hnx hsame).mono ?_
    rintro e w1 ⟨he, s1, hK, hA⟩
    obtain ⟨b1, b2, b3, b4⟩ := hK.base.same _ hp
    have hB := hK.base.bl (s1.bl.set (s.vol t).xs[n]! b)
    refine ⟨0, _, he, hA, hB, spare_set hA.pool hA.good (posOf s.names t) (by rw [hK.base.len]; exact hp) (by rw [b4]; exact ho) (by rw [b3]; exact mem_getElem! hnx) (hK.spare hsp), ?_⟩
    intro i hi hli q hq
    have hi' : i < s.vols.length := by have : i < s1.vols.length := hi; rw [hK.base.len] at this; exact this
    have hz := hB.size hP hA.pool i hi'
    have hq' : q < s.size (s.vols[i]!) := by rw [← hz]; exact hq
    have hlk := vol_looks hP hp (u := s.vol t) rfl ho hnx hK hA.pool hA.good i hi' hli q hq'
    show (St.look { s1 with bl := s1.bl.set (s.vol t).xs[n]! b } (s1.vols[i]!) q).fits
    rw [hlk]
    by_cases e : i = posOf s.names t ∧ q = n
    · rw [if_pos e]; exact hb
    · rw [if_neg e]
      refine hF i hi' ?_ q hq'
      cases hlo : (s.vols[i]!).lost with
      | false => rfl
      | true =>
        have := hK.base.lost i hi' hlo
        have h3 : (s1.vols[i]!).lost = false := hli
        rw [this] at h3; cases h3
  · by_cases hkk : n ∈ (s.vol t).kept
    · refine (write_picture_kept s fr t n b w hP hG h1 ho hl' hn hsame hkk).mono ?_
      rintro e w1 ⟨he, hA⟩
      refine ⟨0, _, he, hA, base_bl2 s _, spare_used hP hG (posOf s.names t) hp ((s.vol t).kept.idxOf n) (idxOf_lt hkk) (hP.vols _ hm).room b hsp, ?_⟩
      intro i hi hli q hq
      have hi' : i < s.vols.length := hi
      have hz := (base_bl2 s _).size hP hA.pool i hi'
      have hq' : q < s.size (s.vols[i]!) := by rw [← hz]; exact hq
      have hlk := kept_looks hP hG (posOf s.names t) (s.vol t) n b hp rfl hkk i hi' q hq'
      show (St.look { s with bl := s.bl.set (s.vol t).xs[(s.vol t).kept.idxOf n]! b } (s.vols[i]!) q).fits
      rw [hlk]
      by_cases e : i = posOf s.names t ∧ q = n
      · rw [if_pos e]; exact hb
      · rw [if_neg e]; exact hF i hi' hli q hq'
    · by_cases hf : (s.vol t).kept.length < (s.vol t).xs.length
      · refine (write_picture_more s fr t n b w hP hG h1 ho hl' hn hsame hkk hf).mono ?_
        rintro e w1 ⟨he, i0, g, hi0, hvi, hA⟩
        obtain rfl : i0 = posOf s.names t := index_inj hP hi0 hp (by rw [hvi]; rfl)
        have hB : Base s { s with bl := s.bl.set (s.vol t).xs[(s.vol t).kept.length]! b, vols := setVol (posOf s.names t) ((s.vol t).keeping g n) s.vols } := base_set _ _ hp _ rfl rfl rfl rfl id
        refine ⟨0, _, he, hA, hB, spare_more hP hG (posOf s.names t) (s.vol t) g n b hp rfl hf hsp, ?_⟩
        intro i hi hli q hq
        have hi' : i < s.vols.length := by rw [← hB.len]; exact hi
        have hz := hB.size hP hA.pool i hi'
        have hq' : q < s.size (s.vols[i]!) := by rw [← hz]; exact hq
        have hlk : St.look { s with bl := s.bl.set (s.vol t).xs[(s.vol t).kept.length]! b, vols := setVol (posOf s.names t) ((s.vol t).keeping g n) s.vols } (setVol (posOf s.names t) ((s.vol t).keeping g n) s.vols)[i]! q = if i = posOf s.names t ∧ q = n then b else s.look (s.vols[i]!) q := keep_looks hP hG (posOf s.names t) (s.vol t) g n b hp rfl ho hf hkk hn hA.pool i hi' q hq'
        show (St.look { s with bl := s.bl.set (s.vol t).xs[(s.vol t).kept.length]! b, vols := setVol (posOf s.names t) ((s.vol t).keeping g n) s.vols } (setVol (posOf s.names t) ((s.vol t).keeping g n) s.vols)[i]! q).fits
        rw [hlk]
        by_cases e : i = posOf s.names t ∧ q = n
        · rw [if_pos e]; exact hb
        · rw [if_neg e]
          refine hF i hi' ?_ q hq'
          cases hlo : (s.vols[i]!).lost with
          | false => rfl
          | true => rw [hB.lost i hi' hlo] at hli; cases hli
      · have hroom := (hP.vols _ hm).room
        have hf' : (s.vol t).kept.length = (s.vol t).xs.length := by omega
        refine (write_picture_lost s fr t n b w hP hG h1 ho hl' hn hsame hkk hf').mono ?_
        rintro e w1 ⟨he, i0, hi0, hvi, hA⟩
        obtain rfl : i0 = posOf s.names t := index_inj hP hi0 hp (by rw [hvi]; rfl)
        have hB : Base s { s with bl := giveB (s.vol t).xs s.bl, vols := setVol (posOf s.names t) (s.vol t).losing s.vols } := base_set _ _ hp _ rfl rfl rfl rfl (fun _ => rfl)
        refine ⟨10, _, he, hA, hB, spare_lost hP hG (posOf s.names t) (s.vol t) hp rfl hsp, ?_⟩
        intro i hi hli q hq
        have hi' : i < s.vols.length := by rw [← hB.len]; exact hi
        have hz := hB.size hP hA.pool i hi'
        have hq' : q < s.size (s.vols[i]!) := by rw [← hz]; exact hq
        have hne : i ≠ posOf s.names t := fun e => by
          have h3 : (setVol (posOf s.names t) (s.vol t).losing s.vols)[i]!.lost = false := hli
          rw [setVol_get _ _ _ _ hp hi', if_pos e] at h3
          cases h3
        have hlk := lose_looks hP hG (posOf s.names t) (s.vol t) hp rfl ho hA.pool i hi' hne q hq'
        show (St.look { s with bl := giveB (s.vol t).xs s.bl, vols := setVol (posOf s.names t) (s.vol t).losing s.vols } (setVol (posOf s.names t) (s.vol t).losing s.vols)[i]! q).fits
        rw [hlk]
        refine hF i hi' ?_ q hq'
        cases hlo : (s.vols[i]!).lost with
        | false => rfl
        | true => rw [hB.lost i hi' hlo] at hli; cases hli
end PartSameC

section PartLawA
open Go.RowKit Go.Sort
set_option linter.unusedVariables false
set_option linter.unusedSimpArgs false
set_option linter.unusedSectionVars false
variable [DecidableEq Blk] [Inhabited Blk]
variable [Inhabited Vol]

def pickF (c n : Int) : Int := (if c < 0 then -(c + 1) else c).tmod n
theorem pickF_bd (c n : Int) (h : 0 < n) : 0 ≤ pickF c n ∧ pickF c n < n := by
  unfold pickF
  have h0 : 0 ≤ (if c < 0 then -(c + 1) else c) := by split <;> omega
  exact ⟨Int.tmod_nonneg n h0, Int.tmod_lt_of_pos _ h⟩

set_option maxHeartbeats 400000 in
theorem pick_calls (c n : Int) (w : World) (h1 : -9223372036854775808 ≤ c) (h2 : c ≤ 9223372036854775807) (hn : 0 < n) (hn2 : n ≤ 1000) :
    Calls Try.prog 16 #[.int .i64 c, .int .i64 n] w fun e w' => e = .returned (.int .i64 (pickF c n)) ∧ w' = w := by
  have hne : ¬ n = 0 := by omega
  have hb := pickF_bd c n hn
  by_cases hc : c < 0
  · have HP : Hid (pickF c n = -((c + 1).tmod n)) := by show _ = _; unfold pickF; rw [if_pos hc, Int.neg_tmod]
    go_enter Try.func16, Try.ntmps16
    go_wp2
    go_ret
    rw [HP.out]
    exact ⟨rfl, rfl⟩
  · have HP : Hid (pickF c n = c % n) := by show _ = _; unfold pickF; rw [if_neg hc, Int.tmod_eq_emod_of_nonneg (by omega)]
    go_enter Try.func16, Try.ntmps16
    go_wp2
    go_ret
    rw [HP.out]
    exact ⟨rfl, rfl⟩

set_option maxHeartbeats 400000 in
set_option maxRecDepth 100000 in
theorem has_calls (g : Nat) (xs : List Nat) (n : Nat) (w : World) (v : Value) (h : SlAt w v g xs) (hl : xs.length ≤ 1000) :
    Calls Try.prog 47 #[v, .int .i64 n] w fun e w' => e = .returned (.bool (decide (n ∈ xs))) ∧ w' = w := by
  obtain ⟨a, cap, rfl, hsl⟩ := h.ex
  clear h
  go_enter Try.func47, Try.ntmps47
  go_wp2
  go_loopw [5] (fun i wr => ∃ k : Nat, k ≤ xs.length ∧ i = .int .i64 k ∧ wr = w ∧ Hid (n ∉ xs.take k)) (fun i _ => xs.length - (intOf i).toNat)
  case atStart => exact ⟨0, Nat.zero_le _, rfl, rfl, by show _ ∉ _; simp⟩
  case round =>
    obtain ⟨k, hk, rfl, rfl, HN⟩ := hrel
    by_cases hkl : k < xs.length
    · obtain ⟨rfl, cs, hr⟩ := hsl (fun e => by rw [e] at hkl; simp at hkl)
      have ck := hr.cell k hkl
      rw [← hr.at_.cell?] at ck
      have HT : Hid (xs.take (k + 1) = xs.take k ++ [xs[k]!]) := by show _ = _; rw [List.take_succ_eq_append_getElem hkl, getElem!_pos xs k hkl]
      have HM : Hid (xs[k]! ∈ xs) := by show _ ∈ _; rw [getElem!_pos xs k hkl]; exact List.getElem_mem hkl
      generalize xs[k]! = y at *
      have l1 : (k : Int) < (xs.length : Int) := by omega
      clear hsl hr
      by_cases hy : y = n
      · subst hy
        go_wp2
        go_ret
        rw [decide_eq_true HM.out]
        exact ⟨rfl, rfl⟩
      · have hy' : ((y : Int) == (n : Int)) = false := beq_eq_false_iff_ne.2 (by omega)
        go_wp2
        go_roundw
        case rel => exact ⟨k + 1, by omega, by go_num, by first | rfl | trivial, by show _ ∉ _; rw [HT.out]; simp [HN.out]; exact fun e => hy e.symm⟩
        case measure => simp [intOf]; omega
    · have ek : k = xs.length := by omega
      subst ek
      have HF : Hid (decide (n ∈ xs) = false) := decide_eq_false (by have := HN.out; rwa [List.take_length] at this)
      clear HN hsl
      go_wp2
      go_ret
      rw [HF.out]
      exact ⟨rfl, rfl⟩
theorem After.trans {w w1 w2 : World} {s s1 s2 : St} {fr1 fr2 : List Nat} (a : After w s w1 s1 fr1) (b : After w1 s1 w2 s2 fr2) : After w s w2 s2 fr2 := by
  refine ⟨b.pool, b.good, a.same.step b.same fun k hk hl => ?_, fun k hk => ?_, b.pb.trans a.pb, b.n.trans a.n⟩
  · rcases a.foot k hk with h | h
    · exact h
    · omega
  · rcases b.foot k hk with h | h
    · exact a.foot k h
    · have := a.same.size; exact Or.inr (by omega)
theorem After.start {w : World} {s : St} {fr : List Nat} (h : PoolAt w s) (hG : Good s fr) : After w s w s fr := ⟨h, hG, Same.refl _ _, fun _ hk => Or.inl hk, rfl, rfl⟩
theorem After.new {w w1 w2 : World} {s s1 : St} {fr1 : List Nat} (a : After w s w1 s1 fr1) (h : Same [] w1 w2) : After w s w2 s1 fr1 :=
  a.trans ⟨a.pool.new h, a.good, h.mono (by simp), fun _ hk => Or.inl hk, rfl, rfl⟩
end PartLawA

section PartPoolY
open Go.RowKit Go.Sort
set_option linter.unusedVariables false
set_option linter.unusedSimpArgs false
set_option linter.unusedSectionVars false
variable [DecidableEq Blk] [Inhabited Blk]
variable [Inhabited Vol]

set_option maxHeartbeats 400000 in
theorem remove_none (s : St) (t : ByteArray) (w : World) (h : PoolAt w s) (hi : s.has t = false) :
    Calls Try.prog 20 #[.pointer (some ⟨s.pb, 0, none⟩), .string t] w fun e w' => e = .returned (.int .i64 4) ∧ w' = w := by
  have hf := find_not s t w h hi
  clear h
  go_enter Try.func20, Try.ntmps20
  go_wp2_with (go_at_call 48; refine hf.mono ?_; rintro e w' ⟨rfl, rfl⟩)
  go_ret
  exact ⟨rfl, rfl⟩

set_option maxHeartbeats 400000 in
theorem remove_busy (s : St) (t : ByteArray) (w : World) (h : PoolAt w s) (hi : s.has t = true) (hb : s.picsOf (s.vol t).vb ≠ []) :
    Calls Try.prog 20 #[.pointer (some ⟨s.pb, 0, none⟩), .string t] w fun e w' => e = .returned (.int .i64 8) ∧ Same [] w w' := by
  have hf := find_has s t w h hi
  have hP := picturesOf_calls s (s.vol t) w h (St.has_mem hi).1
  have hl : 0 < (s.picsOf (s.vol t).vb).length := by cases hq : s.picsOf (s.vol t).vb <;> simp_all
  have hl2 : (s.picsOf (s.vol t).vb).length ≤ 20 := Nat.le_trans (List.length_filter_le _ _) h.few
  clear h
  go_enter Try.func20, Try.ntmps20
  go_wp2_with (first | (go_at_call 48; refine hf.mono ?_; rintro e w' ⟨rfl, rfl⟩) | (go_at_call 54; refine hP.mono ?_; rintro e w1 ⟨sl, rfl, hown, S1⟩; obtain ⟨ag, acap, rfl⟩ := owns_form hown))
  go_ret
  exact ⟨rfl, S1⟩

set_option maxHeartbeats 400000 in
theorem remove_ok (s : St) (fr : List Nat) (t : ByteArray) (w : World) (h : PoolAt w s) (hG : Good s fr) (hi : s.has t = true) (hb : s.picsOf (s.vol t).vb = []) :
    Calls Try.prog 20 #[.pointer (some ⟨s.pb, 0, none⟩), .string t] w fun e w' => e = .returned (.int .i64 0) ∧
      ∃ g, After w s w' { s with m := s.m + (s.vol t).xs.length, bl := giveB (s.vol t).xs s.bl, d := giveD s.m (s.vol t).xs s.d, ab := some g, vols := delVol (posOf s.names t) s.vols } (insAll (s.vol t).xs fr) := by
  have hf := find_has s t w h hi
  have hP := picturesOf_calls s (s.vol t) w h (St.has_mem hi).1
  rw [hb] at hP
  have hno : ∀ u ∈ s.vols, u.org ≠ some (s.vol t).vb := fun u hu e => by
    have : u ∈ s.picsOf (s.vol t).vb := by simp [St.picsOf, hu, e]
    rw [hb] at this; simp at this
  have hD := fun W (hW : Same [] w W) => drop_ok s fr t W (h.new hW) hG hi hno
  clear h hG
  go_enter Try.func20, Try.ntmps20
  go_wp2_with (first | (go_at_call 48; refine hf.mono ?_; rintro e w' ⟨rfl, rfl⟩) | (go_at_call 54; refine hP.mono ?_; rintro e w1 ⟨sl, rfl, hown, S1⟩; obtain ⟨ag, acap, rfl⟩ := owns_form hown) | (go_at_call 55; refine (hD _ S1).mono ?_; rintro e w3 ⟨rfl, g, hA⟩))
  have hFin := hA.old S1
  clear hA hD hown
  go_ret
  exact ⟨rfl, g, hFin⟩

set_option maxHeartbeats 400000 in
theorem revert_none (s : St) (t : ByteArray) (w : World) (h : PoolAt w s) (hi : s.has t = false) :
    Calls Try.prog 32 #[.pointer (some ⟨s.pb, 0, none⟩), .string t] w fun e w' => e = .returned (.int .i64 4) ∧ w' = w := by
  have hf := find_not s t w h hi
  clear h
  go_enter Try.func32, Try.ntmps32
  go_wp2_with (go_at_call 48; refine hf.mono ?_; rintro e w' ⟨rfl, rfl⟩)
  go_ret
  exact ⟨rfl, rfl⟩
set_option maxHeartbeats 400000 in
theorem revert_vol (s : St) (t : ByteArray) (w : World) (h : PoolAt w s) (hi : s.has t = true) (ho : (s.vol t).org = none) :
    Calls Try.prog 32 #[.pointer (some ⟨s.pb, 0, none⟩), .string t] w fun e w' => e = .returned (.int .i64 7) ∧ w' = w := by
  have hf := find_has s t w h hi
  have hI := isPicture_calls (s.vol t) w (h.vols _ (St.has_mem hi).1)
  rw [ho] at hI
  have hnot := runNot
  clear h
  go_enter Try.func32, Try.ntmps32
  go_wp2_with (first | (go_at_call 48; refine hf.mono ?_; rintro e w' ⟨rfl, rfl⟩) | (go_at_call 56; refine hI.mono ?_; rintro e w' ⟨rfl, rfl⟩))
  go_ret
  exact ⟨rfl, rfl⟩
set_option maxHeartbeats 400000 in
theorem revert_lost (s : St) (t : ByteArray) (w : World) (h : PoolAt w s) (hi : s.has t = true) (ho : (s.vol t).org ≠ none) (hl : (s.vol t).lost = true) :
    Calls Try.prog 32 #[.pointer (some ⟨s.pb, 0, none⟩), .string t] w fun e w' => e = .returned (.int .i64 9) ∧ w' = w := by
  have hf := find_has s t w h hi
  have hI := isPicture_calls (s.vol t) w (h.vols _ (St.has_mem hi).1)
  have ho' : (s.vol t).org.isSome = true := by cases hq : (s.vol t).org <;> simp_all
  rw [ho'] at hI
  have c4 := lost_cell h (St.has_mem hi).1
  rw [hl] at c4
  have hnot := runNot
  clear h
  go_enter Try.func32, Try.ntmps32
  go_wp2_with (first | (go_at_call 48; refine hf.mono ?_; rintro e w' ⟨rfl, rfl⟩) | (go_at_call 56; refine hI.mono ?_; rintro e w' ⟨rfl, rfl⟩))
  go_ret
  exact ⟨rfl, rfl⟩
set_option maxHeartbeats 400000 in
theorem revert_busy (s : St) (t : ByteArray) (w : World) (h : PoolAt w s) (hi : s.has t = true) (ho : (s.vol t).org ≠ none) (hl : (s.vol t).lost = false) (hb : 1 < (s.picsOf (s.orgOf (s.vol t)).vb).length) :
    Calls Try.prog 32 #[.pointer (some ⟨s.pb, 0, none⟩), .string t] w fun e w' => e = .returned (.int .i64 8) ∧ Same [] w w' := by
  have hf := find_has s t w h hi
  have hmem := (St.has_mem hi).1
  have hI := isPicture_calls (s.vol t) w (h.vols _ hmem)
  have ho' : (s.vol t).org.isSome = true := by cases hq : (s.vol t).org <;> simp_all
  rw [ho'] at hI
  have c4 := lost_cell h hmem
  rw [hl] at c4
  obtain ⟨o1, o2, o3, o4⟩ := h.orgOf hmem
  obtain ⟨_, _, _, hvo, _, _⟩ := (h.vols _ hmem).vol
  have c2 : w.cell? ⟨(s.vol t).vb, 2, none⟩ = some (.pointer (adr (s.vol t).org)) := hvo.cell? 2
  rw [o4 ho] at c2
  simp only [adr, Option.map_some] at c2
  have hP := picturesOf_calls s (s.orgOf (s.vol t)) w h o1
  have hl2 : (s.picsOf (s.orgOf (s.vol t)).vb).length ≤ 20 := Nat.le_trans (List.length_filter_le _ _) h.few
  have hnot := runNot
  clear h hvo
  generalize (s.orgOf (s.vol t)).vb = ub at *
  go_enter Try.func32, Try.ntmps32
  go_wp2_with (first | (go_at_call 48; refine hf.mono ?_; rintro e w' ⟨rfl, rfl⟩) | (go_at_call 56; refine hI.mono ?_; rintro e w' ⟨rfl, rfl⟩) | (go_at_call 54; refine hP.mono ?_; rintro e w1 ⟨sl, rfl, hown, S1⟩; obtain ⟨ag, acap, rfl⟩ := owns_form hown))
  go_ret
  exact ⟨rfl, S1⟩
end PartPoolY

section PartLawD
open Go.RowKit Go.Sort
set_option linter.unusedVariables false
set_option linter.unusedSimpArgs false
set_option linter.unusedSectionVars false
variable [DecidableEq Blk] [Inhabited Blk]
variable [Inhabited Vol]

def first : ByteArray := ⟨#[102, 105, 114, 115, 116]⟩
theorem first_name : nameB first = true := by decide +kernel
theorem isIn_nil (t : ByteArray) : isIn [] t = false := by simp [isIn]
theorem posOf_nil (t : ByteArray) : posOf [] t = 0 := rfl
theorem posOf_one (t : ByteArray) : posOf [t] t = 0 := by simp [posOf, cmpB_self]
theorem isIn_one (t : ByteArray) : isIn [t] t = true := by simp [isIn, posOf_one, cmpB_self]

theorem read_plain (s : St) (fr : List Nat) (t : ByteArray) (k : Nat) (w : World) (h : PoolAt w s) (hG : Good s fr) (hi : s.has t = true) (ho : (s.vol t).org = none) (hk : k < (s.vol t).xs.length) :
    Calls Try.prog 30 #[.pointer (some ⟨s.pb, 0, none⟩), .string t, .int .i64 k] w fun e w' => e = .returned (.tuple #[(s.bl[(s.vol t).xs[k]!]!).val, .int .i64 0]) ∧ Same [] w w' := by
  have hmem := (St.has_mem hi).1
  have eo : s.orgOf (s.vol t) = s.vol t := (h.orgOf hmem).2.2.1 ho
  have hk' : k < s.size (s.vol t) := by unfold St.size; rw [eo]; exact hk
  have eh : s.holder (s.vol t) k = (s.vol t).xs[k]! := by unfold St.holder; rw [(h.vols _ hmem).kept_nil ho, eo]; simp
  have := read_some s t k w h hi ((h.vols _ hmem).plain ho).2 hk' (holder_lt h hG hmem hk')
  unfold St.look at this
  rw [eh] at this
  exact this

structure Opened (w w' : World) (pb : Nat) : Prop where
  ex : ∃ s fr, s.pb = pb ∧ PoolAt w' s ∧ Good s fr ∧ s.n = 200 ∧ s.vols = [] ∧ (∀ k ∈ s.foot, w.heap.size ≤ k)
  same : Same [] w w'

/-- The Pool with one volume. -/
structure OneVol (s : St) (fr : List Nat) (t : ByteArray) : Prop where
  has : s.has t = true
  xs : (s.vol t).xs = [0, 1, 2]
  n : s.n = 200
  m : s.m = 197
  len : s.vols.length = 1
  pos : posOf s.names t = 0
  org : (s.vol t).org = none
  pics : s.picsOf (s.vol t).vb = []

set_option maxHeartbeats 800000 in
set_option maxRecDepth 100000 in
theorem opened_calls (w : World) :
    Calls Try.prog 15 #[] w fun e w' => ∃ pb, e = .returned (.pointer (some ⟨pb, 0, none⟩)) ∧ Opened w w' pb := by
  have hN := newPool_ok 200 w (by omega)
  obtain ⟨i26, hi26⟩ : ∃ i, Try.prog.info? 38 = some i := Option.isSome_iff_exists.1 (by kernel_rfl)
  have HE := fun W => equal_blocks ⟨1, 2, 0, 0, 0, 0, 0, 0⟩ ⟨1, 2, 0, 0, 0, 0, 0, 0⟩ W
  simp only [decide_true] at HE
  go_enter Try.func15, Try.ntmps15
  go_wp2_with fail
  refine hN.mono ?_
  rintro e w1 ⟨pb, rfl, hP⟩
  obtain ⟨⟨db, bb, fb, hP0, hfoot0⟩, S0⟩ := hP
  have hG0 := newSt_good pb db bb fb 200
  have hx0 : (newSt pb db bb fb 200).has first = false := isIn_nil first
  have hC := create_ok (newSt pb db bb fb 200) (List.range 200) first 3 w1 hP0 hG0 (by unfold maxLen; decide) first_name hx0 (by omega) (by simp [newSt]) (by simp)
  have hC' : Calls Try.prog 19 #[.pointer (some ⟨pb, 0, none⟩), .string ⟨#[102, 105, 114, 115, 116]⟩, .int .i64 3] w1 (fun e w' => e = .returned (.int .i64 0) ∧ ∃ s fr, After w1 (newSt pb db bb fb 200) w' s fr ∧ OneVol s fr first) := by
    refine hC.mono ?_
    rintro e w' ⟨he, g, vb, gb, hA, hvb⟩
    refine ⟨he, _, _, hA, ?_⟩
    refine ⟨?_, ?_, rfl, rfl, rfl, ?_, ?_, ?_⟩
    · show isIn [first] first = true
      exact isIn_one first
    · show ([(⟨vb, gb, first, (List.range 200).take 3, none, none, [], false⟩ : Vol)][posOf [first] first]!).xs = [0, 1, 2]
      rw [posOf_one]; rfl
    · show posOf [first] first = 0
      exact posOf_one first
    · show ([(⟨vb, gb, first, (List.range 200).take 3, none, none, [], false⟩ : Vol)][posOf [first] first]!).org = none
      rw [posOf_one]; rfl
    · exact rfl
  clear hC hN
  go_wp2_with fail
  refine hC'.mono ?_
  rintro e w2 ⟨rfl, s1, fr1, hA1, hO1⟩
  clear hC'
  have hpb1 : s1.pb = pb := hA1.pb
  have hP1 := hA1.pool
  have hM := map_some s1 first w2 hP1 hO1.has
  rw [hO1.xs, hpb1] at hM
  have hM' : Calls Try.prog 18 #[.pointer (some ⟨pb, 0, none⟩), .string ⟨#[102, 105, 114, 115, 116]⟩] w2 (fun e w' => ∃ g cs, e = .returned (.tuple #[.slice (some ⟨g, 0, none⟩) 3 3, .int .i64 0]) ∧ w2.heap.size ≤ g ∧ RowAt w' g [0, 1, 2] cs ∧ Same [] w2 w') := hM
  clear hM
  go_wp2_with fail
  refine hM'.mono ?_
  rintro e w3 ⟨lg, lcs, rfl, hlg, hR3, S3⟩
  clear hM'
  have hA3 := hA1.new S3
  have hx2 : (s1.vol first).xs[2]! = 2 := by rw [hO1.xs]; rfl
  have hW := write_plain s1 fr1 first 2 ⟨1, 2, 0, 0, 0, 0, 0, 0⟩ w3 hA3.pool hA3.good hO1.has hO1.org hO1.pics (by rw [hO1.xs]; decide)
  rw [hx2] at hW
  have hW' : Calls Try.prog 27 #[.pointer (some ⟨pb, 0, none⟩), .string ⟨#[102, 105, 114, 115, 116]⟩, .int .i64 2, .agg #[.int .u8 1, .int .u8 2, .int .u8 0, .int .u8 0, .int .u8 0, .int .u8 0, .int .u8 0, .int .u8 0]] w3 (fun e w' => e = .returned (.int .i64 0) ∧ After w3 s1 w' { s1 with bl := s1.bl.set 2 ⟨1, 2, 0, 0, 0, 0, 0, 0⟩ } fr1) := by rw [← hpb1]; exact hW
  clear hW
  go_wp2_with fail
  refine hW'.mono ?_
  rintro e w4 ⟨rfl, hAW⟩
  clear hW'
  have hA4 := hA3.trans hAW
  have S4 := hAW.same
  have hlg4 : lg ∉ s1.foot := fun hm => by have := hP1.foot_lt lg hm; omega
  have hbbf : s1.bb ∈ s1.foot := by simp [St.foot]
  have hR4 := hR3.same S4 hlg4
  have hRd := read_plain { s1 with bl := s1.bl.set 2 ⟨1, 2, 0, 0, 0, 0, 0, 0⟩ } fr1 first 2 w4 hA4.pool hA4.good hO1.has hO1.org (by show 2 < (s1.vol first).xs.length; rw [hO1.xs]; decide)
  have hbl2 : (s1.bl.set 2 ⟨1, 2, 0, 0, 0, 0, 0, 0⟩)[2]! = (⟨1, 2, 0, 0, 0, 0, 0, 0⟩ : Blk) := by
    have hl : s1.bl.length = 200 := by rw [hP1.disk.len, hO1.n]
    rw [getElem!_pos _ 2 (by simp [hl])]; simp
  have hRd' : Calls Try.prog 30 #[.pointer (some ⟨pb, 0, none⟩), .string ⟨#[102, 105, 114, 115, 116]⟩, .int .i64 2] w4 (fun e w' => e = .returned (.tuple #[.agg #[.int .u8 1, .int .u8 2, .int .u8 0, .int .u8 0, .int .u8 0, .int .u8 0, .int .u8 0, .int .u8 0], .int .i64 0]) ∧ Same [] w4 w') := by
    have e1 : St.vol { s1 with bl := s1.bl.set 2 ⟨1, 2, 0, 0, 0, 0, 0, 0⟩ } first = s1.vol first := rfl
    rw [e1, hx2] at hRd
    simp only [hpb1] at hRd
    rw [hbl2] at hRd
    exact hRd
  clear hRd
  go_wp2_with fail
  refine hRd'.mono ?_
  rintro e w5 ⟨rfl, S5⟩
  clear hRd'
  have hA5 := hA4.new S5
  have S6 : Same [] w5 (w5.alloc (Obj.cells #[.int .u8 1, .int .u8 2, .int .u8 0, .int .u8 0, .int .u8 0, .int .u8 0, .int .u8 0, .int .u8 0] 55)) := (Same.refl _ _).alloc _
  have N6 := At.new w5 #[.int .u8 1, .int .u8 2, .int .u8 0, .int .u8 0, .int .u8 0, .int .u8 0, .int .u8 0, .int .u8 0] 55
  have hA6 := hA5.new S6
  go_wp2_with fail
  generalize w5.alloc (Obj.cells #[.int .u8 1, .int .u8 2, .int .u8 0, .int .u8 0, .int .u8 0, .int .u8 0, .int .u8 0, .int .u8 0] 55) = w6 at *
  have hF := free_calls _ w6 hA6.pool
  have hF' : Calls Try.prog 23 #[.pointer (some ⟨pb, 0, none⟩)] w6 (fun e w' => e = .returned (.int .i64 197) ∧ w' = w6) := by
    simp only [hpb1, hO1.m] at hF
    exact hF
  clear hF
  refine hF'.mono ?_
  rintro e w7 ⟨rfl, rfl⟩
  clear hF'
  have hRm := remove_ok _ fr1 first w7 hA6.pool hA6.good hO1.has hO1.pics
  have hRm' : Calls Try.prog 20 #[.pointer (some ⟨pb, 0, none⟩), .string ⟨#[102, 105, 114, 115, 116]⟩] w7 (fun e w' => e = .returned (.int .i64 0) ∧ ∃ s fr, After w1 (newSt pb db bb fb 200) w' s fr ∧ s.m = 200 ∧ s.vols = [] ∧ Same s1.foot w7 w') := by
    rw [← hpb1]
    refine hRm.mono ?_
    rintro e w' ⟨he, g, hA⟩
    rw [hpb1]
    refine ⟨he, _, _, hA6.trans hA, ?_, ?_, hA.same⟩
    · show s1.m + (s1.vol first).xs.length = 200
      rw [hO1.m, hO1.xs]; rfl
    · show delVol (posOf s1.names first) s1.vols = []
      have := hO1.len
      unfold delVol
      rw [hO1.pos, List.take_zero, List.nil_append]
      exact List.drop_of_length_le (by omega)
  clear hRm
  go_wp2_with fail
  refine hRm'.mono ?_
  rintro e w8 ⟨rfl, s3, fr3, hA8, hm8, hv8, S8⟩
  clear hRm'
  have hF := free_calls _ w8 hA8.pool
  have hF' : Calls Try.prog 23 #[.pointer (some ⟨pb, 0, none⟩)] w8 (fun e w' => e = .returned (.int .i64 200) ∧ w' = w8) := by
    rw [hm8, show s3.pb = pb from hA8.pb] at hF
    exact hF
  clear hF
  have hlt1 := hP1.foot_lt
  have hs3 := S3.size
  have hs4 := S4.size
  have hs5 := S5.size
  have lg3 := hR3.at_.lt
  have h5f : w5.heap.size ∉ s1.foot := fun hm => by have := hlt1 _ hm; omega
  have N8 := S8.at N6 h5f
  have R8 := ((hR4.same S5 (by simp)).same S6 (by simp)).same S8 hlg4
  have b0 : w8.cell? ⟨w5.heap.size, 0, none⟩ = some (.int .u8 1) := N8.cell? 0
  have b1 : w8.cell? ⟨w5.heap.size, 1, none⟩ = some (.int .u8 2) := N8.cell? 1
  have b2 : w8.cell? ⟨w5.heap.size, 2, none⟩ = some (.int .u8 0) := N8.cell? 2
  have b3 : w8.cell? ⟨w5.heap.size, 3, none⟩ = some (.int .u8 0) := N8.cell? 3
  have b4 : w8.cell? ⟨w5.heap.size, 4, none⟩ = some (.int .u8 0) := N8.cell? 4
  have b5 : w8.cell? ⟨w5.heap.size, 5, none⟩ = some (.int .u8 0) := N8.cell? 5
  have b6 : w8.cell? ⟨w5.heap.size, 6, none⟩ = some (.int .u8 0) := N8.cell? 6
  have b7 : w8.cell? ⟨w5.heap.size, 7, none⟩ = some (.int .u8 0) := N8.cell? 7
  have d0 : w8.cell? ⟨lg, 0, none⟩ = some (.int .i64 0) := by rw [R8.at_.cell?]; exact R8.cell 0 (by decide)
  have d1 : w8.cell? ⟨lg, 1, none⟩ = some (.int .i64 1) := by rw [R8.at_.cell?]; exact R8.cell 1 (by decide)
  have d2 : w8.cell? ⟨lg, 2, none⟩ = some (.int .i64 2) := by rw [R8.at_.cell?]; exact R8.cell 2 (by decide)
  have hFin : Opened w w8 pb := by
    refine ⟨⟨s3, fr3, hA8.pb, hA8.pool, hA8.good, hA8.n, hv8, fun k hk => ?_⟩, ?_⟩
    · have := S0.size
      rcases hA8.foot k hk with h | h
      · exact hfoot0 k h
      · omega
    · exact S0.step hA8.same (fun k hk hl => by have := hfoot0 k hk; omega)
  clear hA8 hA6 hA5 hA4 hA3 hA1 hP1 hP0 hG0 N8 R8 hR4 hR3 N6 S8 S6 S5 S4 S3 S0 hO1 hAW
  go_wp2_with (go_at_call 23; refine hF'.mono ?_; rintro e w9 ⟨rfl, rfl⟩)
  go_ret
  exact ⟨pb, rfl, hFin⟩
end PartLawD

section PartLawG
open Go.RowKit Go.Sort
set_option linter.unusedVariables false
set_option linter.unusedSimpArgs false
set_option linter.unusedSectionVars false
variable [DecidableEq Blk] [Inhabited Blk]
variable [Inhabited Vol]

theorem flat_append (a b : List Blk) : flat (a ++ b) = flat a ++ flat b := by
  induction a with
  | nil => rfl
  | cons x r ih => simp [flat, ih]

/-- A block by a raw number. -/
def blkOf (c : Int) : Blk := ⟨pickF c 9, 0, 0, 0, 0, 0, 0, (pickF (c.tdiv 9) 3).tdiv 2⟩

theorem tdiv_bd9 (c : Int) (h1 : -9223372036854775808 ≤ c) (h2 : c ≤ 9223372036854775807) : -9223372036854775808 ≤ c.tdiv 9 ∧ c.tdiv 9 ≤ 9223372036854775807 := by
  rcases Int.le_total 0 c with h | h
  · have a := Int.tdiv_nonneg h (by omega : (0 : Int) ≤ 9)
    have b := Int.tdiv_le_self 9 h
    omega
  · have a := Int.tdiv_nonneg (show (0 : Int) ≤ -c by omega) (by omega : (0 : Int) ≤ 9)
    have b := Int.tdiv_le_self 9 (show (0 : Int) ≤ -c by omega)
    rw [Int.neg_tdiv] at a b
    omega

set_option maxHeartbeats 800000 in
set_option maxRecDepth 100000 in
theorem kblock_calls (c : Int) (w : World) (h1 : -9223372036854775808 ≤ c) (h2 : c ≤ 9223372036854775807) : Calls Try.prog 24 #[.int .i64 c] w fun e w' => e = .returned (blkOf c).val ∧ Same [] w w' := by
  obtain ⟨t1, t2⟩ := tdiv_bd9 c h1 h2
  have hp1 := fun W => pick_calls c 9 W h1 h2 (by omega) (by omega)
  have hp2 := fun W => pick_calls (c.tdiv 9) 3 W t1 t2 (by omega) (by omega)
  obtain ⟨b1, b2⟩ := pickF_bd c 9 (by omega)
  obtain ⟨b3, b4⟩ := pickF_bd (c.tdiv 9) 3 (by omega)
  unfold Blk.val blkOf
  generalize pickF c 9 = p at *
  generalize pickF (c.tdiv 9) 3 = q at *
  have b5 : 0 ≤ q.tdiv 2 ∧ q.tdiv 2 ≤ 1 := by
    have : q = 0 ∨ q = 1 ∨ q = 2 := by omega
    rcases this with rfl | rfl | rfl <;> decide
  have u1 : IntKind.u8.wrap p = p := by rw [IntKind.wrap_u8]; omega
  have u2 : IntKind.u8.wrap (q.tdiv 2) = q.tdiv 2 := by rw [IntKind.wrap_u8]; omega
  have hc1 : IntKind.i64.wrap (c.tdiv 9) = c.tdiv 9 := IntWalk.i64_in _ (by omega)
  have hc2 : IntKind.i64.wrap (q.tdiv 2) = q.tdiv 2 := IntWalk.i64_in _ (by omega)
  go_enter Try.func24, Try.ntmps24
  go_wp2_with fail
  refine (hp1 _).mono ?_
  rintro e wz ⟨rfl, rfl⟩
  clear hp1
  go_wp2_with fail
  refine (hp2 _).mono ?_
  rintro e wz ⟨rfl, rfl⟩
  clear hp2
  go_wp2
  refine bodyPost_ret (v := .agg #[.int .u8 p, .int .u8 0, .int .u8 0, .int .u8 0, .int .u8 0, .int .u8 0, .int .u8 0, .int .u8 (q.tdiv 2)]) (by simp [results, Try.results24, go_sem]) rfl ⟨rfl, ?_⟩
  exact ((Same.refl _ _).alloc _).alloc _

set_option maxHeartbeats 1000000 in
set_option maxRecDepth 100000 in
theorem ktold_ok (pv : Value) (t : ByteArray) (n : Nat) (f : Nat → Blk) (w : World) (hn : n ≤ 1000)
    (hR : ∀ W, Same [] w W → ∀ i, i < n → Calls Try.prog 30 #[pv, .string t, .int .i64 i] W fun e w' => e = .returned (.tuple #[(f i).val, .int .i64 0]) ∧ Same [] W w') :
    Calls Try.prog 28 #[pv, .string t, .int .i64 n] w fun e w' => ∃ v, e = .returned (.tuple #[v, .bool true]) ∧ w'.ownsRow w.heap.size 55 8 v n (flat ((List.range n).map f)) ∧ Same [] w w' := by
  obtain ⟨i0, hi, hz0, hz1, hz2⟩ := info_parts Try.info51
  go_enter Try.func28, Try.ntmps28
  go_wp2_with fail
  go_loopw [8, 9] (fun v i wr => ∃ k : Nat, k ≤ n ∧ i = .int .i64 k ∧ Same [] w wr ∧ wr.ownsRow w.heap.size 55 8 v k (flat ((List.range k).map f)))
    (fun _ i _ => n - (intOf i).toNat)
  case atStart => exact ⟨0, Nat.zero_le _, rfl, Same.refl _ _, World.ownsRow_nil _ _ _ _⟩
  case round =>
    obtain ⟨k, hk, rfl, hS, hown⟩ := hrel
    obtain ⟨a, cp, rfl⟩ := owns_form hown
    by_cases hkl : k < n
    · have hRk := hR wr hS k hkl
      have HV : Hid (flat ((List.range (k + 1)).map f) = flat ((List.range k).map f) ++ (f k).cells) := by
        show _ = _
        rw [List.range_succ, List.map_append, flat_append]
        simp [flat]
      generalize f k = bk at *
      obtain ⟨x0, x1, x2, x3, x4, x5, x6, x7⟩ := bk
      unfold Blk.val at hRk
      have l2 : (k : Int) < (n : Int) := by omega
      go_wp2_with fail
      refine hRk.mono ?_
      rintro e w1 ⟨rfl, S1⟩
      have hown1 := owns_same hown S1 (by simp)
      have hS1 := hS.step S1 (by simp)
      have hsz := hS1.size
      clear hown hS hRk
      go_wp2_with (at_builtin; refine wpList_append_own _ rfl _ _ 52 rfl w.heap.size 55 i0 (.agg #[.int .u8 0, .int .u8 0, .int .u8 0, .int .u8 0, .int .u8 0, .int .u8 0, .int .u8 0, .int .u8 0]) 8 8 Try.underlying52 hi hz0 hz1 hz2 rfl (by decide) _ _ _ rfl ((hown1.alloc _).alloc _) ⟨w1.heap.size + 1, 0, none⟩ 1 1 [.int .u8 x0, .int .u8 x1, .int .u8 x2, .int .u8 x3, .int .u8 x4, .int .u8 x5, .int .u8 x6, .int .u8 x7] rfl rfl ?c1 ?c2 ?c3 ?c4 ?c5 ?_)
      case c1 =>
        intro j u hj
        rw [Addr.add_lit, Nat.zero_add, World.cell?_alloc_at _ _ _ _ (by simp), ← hj]
        simp
      case c2 => intro u hu; simp only [List.mem_cons, List.not_mem_nil, or_false] at hu; rcases hu with rfl | rfl | rfl | rfl | rfl | rfl | rfl | rfl <;> rfl
      case c3 => unfold maxLen; omega
      case c4 => omega
      case c5 => first | omega | (simp; done) | (simp; omega)
      intro v' w2 hown' hgrow _
      have S2 : Same [] w w2 := ((hS1.alloc _).alloc _).grown hgrow (fun j hj hl => by have := (hown1.lt j hj).1; omega)
      have O2 : w2.ownsRow w.heap.size 55 8 v' (k + 1) (flat ((List.range (k + 1)).map f)) := by
        rw [HV.out]; exact hown'
      clear hown' hgrow hown1 hS1 S1
      go_wp2
      go_roundw
      case rel => exact ⟨k + 1, by omega, by go_num, S2, O2⟩
      case measure => simp [intOf]; omega
    · have ek : k = n := by omega
      subst ek
      have HO : Hid _ := hown
      clear hown hR
      go_wp2
      go_ret2
      exact ⟨_, rfl, HO.out, hS⟩

theorem flat_eight (l : List Blk) (cs : List Value) (hc : cs.take (l.length * 8) = flat l) (w : World) (g : Nat) (t : TypeId) (h : At w g t cs) (k : Nat) (hk : k < l.length) :
    w.cell? ⟨g, k * 8, none⟩ = some (.int .u8 (l[k]!).b0) ∧ w.cell? ⟨g, k * 8 + 1, none⟩ = some (.int .u8 (l[k]!).b1) ∧ w.cell? ⟨g, k * 8 + 2, none⟩ = some (.int .u8 (l[k]!).b2) ∧ w.cell? ⟨g, k * 8 + 3, none⟩ = some (.int .u8 (l[k]!).b3) ∧
    w.cell? ⟨g, k * 8 + 4, none⟩ = some (.int .u8 (l[k]!).b4) ∧ w.cell? ⟨g, k * 8 + 5, none⟩ = some (.int .u8 (l[k]!).b5) ∧ w.cell? ⟨g, k * 8 + 6, none⟩ = some (.int .u8 (l[k]!).b6) ∧ w.cell? ⟨g, k * 8 + 7, none⟩ = some (.int .u8 (l[k]!).b7) := by
  have key : ∀ j, j < 8 → w.cell? ⟨g, k * 8 + j, none⟩ = (l[k]!).cells[j]? := fun j hj => by
    rw [h.cell?, ← flat_get l k j hk hj, ← hc, List.getElem?_take, if_pos (by omega)]
  exact ⟨key 0 (by omega), key 1 (by omega), key 2 (by omega), key 3 (by omega), key 4 (by omega), key 5 (by omega), key 6 (by omega), key 7 (by omega)⟩

theorem take_eq_succ {a b : List Blk} {k : Nat} (ha : k < a.length) (hb : k < b.length) (h : a.take k = b.take k) (e : a[k]! = b[k]!) : a.take (k + 1) = b.take (k + 1) := by
  rw [List.take_succ_eq_append_getElem ha, List.take_succ_eq_append_getElem hb, h, ← getElem!_pos a k ha, ← getElem!_pos b k hb, e]

set_option maxHeartbeats 1000000 in
set_option maxRecDepth 100000 in
theorem ksame_calls (a b : List Blk) (av bv : Option Addr) (ac bc : Nat) (w : World) (ga gb : Nat) (ca cb : List Value) (ha : a ≠ [] → av = some ⟨ga, 0, none⟩ ∧ At w ga 55 ca) (hca : ca.take (a.length * 8) = flat a) (hb : b ≠ [] → bv = some ⟨gb, 0, none⟩ ∧ At w gb 55 cb) (hcb : cb.take (b.length * 8) = flat b) (hl : a.length ≤ 1000) (hl2 : b.length = a.length) :
    Calls Try.prog 29 #[.slice av a.length ac, .slice bv b.length bc] w fun e w' => ∃ q, e = .returned (.bool (decide (a = b))) ∧ w' = w.drewN q := by
  rw [hl2]
  generalize hres : decide (a = b) = res
  have HRES : Hid (decide (a = b) = res) := hres
  clear hres
  go_enter Try.func29, Try.ntmps29
  go_wp2_with fail
  go_loopw [5] (fun i wr => ∃ k : Nat, k ≤ a.length ∧ i = .int .i64 k ∧ (∃ q, wr = w.drewN q) ∧ Hid (a.take k = b.take k)) (fun i _ => a.length - (intOf i).toNat)
  case atStart => exact ⟨0, Nat.zero_le _, rfl, ⟨0, rfl⟩, by show _ = _; simp⟩
  case round =>
    obtain ⟨k, hk, rfl, ⟨q, rfl⟩, HT⟩ := hrel
    by_cases hkl : k < a.length
    · obtain ⟨rfl, hA⟩ := ha (by intro e; rw [e] at hkl; simp at hkl)
      obtain ⟨rfl, hB⟩ := hb (by intro e; rw [e] at hl2; simp at hl2; omega)
      obtain ⟨a0, a1, a2, a3, a4, a5, a6, a7⟩ := flat_eight a ca hca _ ga _ hA k hkl
      obtain ⟨c0, c1, c2, c3, c4, c5, c6, c7⟩ := flat_eight b cb hcb _ gb _ hB k (by omega)
      have HE := fun W => equal_blocks a[k]! b[k]! W
      have HN : Hid (a[k]! = b[k]! → a.take (k + 1) = b.take (k + 1)) := take_eq_succ hkl (by omega) HT.out
      have HX : Hid (a[k]! ≠ b[k]! → a ≠ b) := fun h e => h (by rw [e])
      generalize hak : a[k]! = x at *
      generalize hbk : b[k]! = y at *
      obtain ⟨x0, x1, x2, x3, x4, x5, x6, x7⟩ := x
      obtain ⟨y0, y1, y2, y3, y4, y5, y6, y7⟩ := y
      simp only at a0 a1 a2 a3 a4 a5 a6 a7 c0 c1 c2 c3 c4 c5 c6 c7 HE
      have l2 : (k : Int) < (a.length : Int) := by omega
      clear hA hB hca hcb ha hb hak hbk
      by_cases hxy : (⟨x0, x1, x2, x3, x4, x5, x6, x7⟩ : Blk) = ⟨y0, y1, y2, y3, y4, y5, y6, y7⟩
      · have HT2 : Hid _ := HN.out hxy
        rw [decide_eq_true hxy] at HE
        clear HN HX hxy
        go_wp2_with fail
        go_quiet (fail)
        go_wp2
        go_roundw
        case rel => exact ⟨k + 1, by omega, by go_num, ⟨_, rfl⟩, HT2⟩
        case measure => simp [intOf]; omega
      · have HF : Hid (res = false) := by show _ = _; rw [← HRES.out]; exact decide_eq_false (HX.out hxy)
        rw [decide_eq_false hxy] at HE
        clear HN HX hxy
        go_wp2_with fail
        go_quiet (fail)
        go_wp2
        go_ret
        rw [HF.out]
        exact ⟨_, rfl, World.drewN_drewN _ _ _⟩
    · have ek : k = a.length := by omega
      have HF : Hid (res = true) := by
        show _ = _
        rw [← HRES.out]
        have h1 := HT.out
        rw [ek, List.take_length, List.take_of_length_le (by omega)] at h1
        exact decide_eq_true h1
      subst ek
      clear ha hb hca hcb
      go_wp2
      go_ret
      rw [HF.out]
      exact ⟨_, rfl, rfl⟩
end PartLawG

section PartLawH
open Go.RowKit Go.Sort
set_option linter.unusedVariables false
set_option linter.unusedSimpArgs false
set_option linter.unusedSectionVars false
variable [DecidableEq Blk] [Inhabited Blk]
variable [Inhabited Vol]

def vN : ByteArray := ⟨#[118]⟩
def picN : ByteArray := ⟨#[112, 105, 99]⟩
theorem vN_name : nameB vN = true := by decide +kernel
theorem picN_name : nameB picN = true := by decide +kernel
theorem pic_v : cmpB picN vN < 0 := by decide +kernel
theorem v_pic : ¬ cmpB vN picN < 0 := by decide +kernel

/-- A volume and one picture of it. -/
structure Two (s : St) (size room : Nat) : Prop where
  len : s.vols.length = 2
  n0 : (s.vols[0]!).name = picN
  n1 : (s.vols[1]!).name = vN
  o0 : (s.vols[0]!).org = some (s.vols[1]!).vb
  o1 : (s.vols[1]!).org = none
  x0 : (s.vols[0]!).xs.length = room
  x1 : (s.vols[1]!).xs.length = size

theorem two_list {l : List Vol} (h : l.length = 2) : l = [l[0]!, l[1]!] := by
  match l, h with
  | [a, b], _ => rfl
theorem Two.names {s : St} {size room : Nat} (h : Two s size room) : s.names = [picN, vN] := by
  unfold St.names
  rw [two_list h.len]
  show [(s.vols[0]!).name, (s.vols[1]!).name] = _
  rw [h.n0, h.n1]
theorem Two.vol {s : St} {size room : Nat} (h : Two s size room) : s.has picN = true ∧ s.has vN = true ∧ s.vol picN = s.vols[0]! ∧ s.vol vN = s.vols[1]! := by
  have h1 : posOf [picN, vN] picN = 0 := by
    have a := cmpB_self picN
    have b := v_pic
    simp [posOf, a, b]
  have h2 : posOf [picN, vN] vN = 1 := by
    have a := cmpB_self vN
    have b := pic_v
    simp [posOf, a, b]
  unfold St.has St.vol isIn
  rw [h.names, h1, h2]
  refine ⟨?_, ?_, rfl, rfl⟩
  · simp [cmpB_self]
  · simp [cmpB_self]
theorem Two.base {s s' : St} {size room : Nat} (h : Two s size room) (hb : Base s s') : Two s' size room := by
  have h0 := hb.same 0 (by rw [h.len]; omega)
  have h1 := hb.same 1 (by rw [h.len]; omega)
  exact ⟨hb.len.trans h.len, h0.2.1.trans h.n0, h1.2.1.trans h.n1, by rw [h0.2.2.2, h1.1]; exact h.o0, by rw [h1.2.2.2]; exact h.o1, by rw [h0.2.2.1]; exact h.x0, by rw [h1.2.2.1]; exact h.x1⟩

/-- How many are true. -/
def trues : List Bool → Nat
  | [] => 0
  | b :: r => (if b then 1 else 0) + trues r
theorem trues_set : ∀ (l : List Bool) (k : Nat), k < l.length → l[k]! = false → trues (l.set k true) = trues l + 1
  | b :: r, 0, _, h => by simp at h; simp [trues, h]; omega
  | b :: r, k + 1, hk, h => by
    have ih := trues_set r k (by simpa using hk) (by simpa using h)
    simp only [List.set_cons_succ, trues, ih]
    omega
  | [], k, hk, _ => by simp at hk
theorem trues_le (l : List Bool) : trues l ≤ l.length := by
  induction l with
  | nil => exact Nat.le_refl _
  | cons b r ih => simp only [trues, List.length_cons]; split <;> omega
theorem trues_zero (n : Nat) : trues (List.replicate n false) = 0 := by
  induction n with
  | zero => rfl
  | succ n ih => simp [List.replicate_succ, trues, ih]
theorem bget_set (l : List Bool) (k q : Nat) (hk : k < l.length) (hq : q < l.length) : (l.set k true)[q]! = if q = k then true else l[q]! := by
  rw [getElem!_pos _ q (by simpa using hq), getElem!_pos l q hq, List.getElem_set]
  by_cases e : k = q
  · subst e; simp
  · rw [if_neg e, if_neg (fun h => e h.symm)]

/-- What Room knows of its Pool. -/
structure RoomInv (s : St) (size room : Nat) (now : List Blk) (ch : List Bool) : Prop where
  two : Two s size room
  nl : now.length = size
  cl : ch.length = size
  look : ∀ q, q < size → s.look (s.vols[1]!) q = now[q]!
  few : trues ch ≤ room → (s.vols[0]!).lost = false ∧ (s.vols[0]!).kept.length = trues ch ∧ ∀ q, q < size → (q ∈ (s.vols[0]!).kept ↔ ch[q]! = true)
  many : room < trues ch → (s.vols[0]!).lost = true

theorem two_size {w : World} {s : St} {size room : Nat} (h : PoolAt w s) (h2 : Two s size room) : s.size (s.vols[1]!) = size ∧ s.size (s.vols[0]!) = size := by
  have m0 : s.vols[0]! ∈ s.vols := get_mem (by rw [h2.len]; omega)
  have m1 : s.vols[1]! ∈ s.vols := get_mem (by rw [h2.len]; omega)
  have e1 : s.orgOf (s.vols[1]!) = s.vols[1]! := (h.orgOf m1).2.2.1 h2.o1
  have e0 : s.orgOf (s.vols[0]!) = s.vols[1]! := by
    have := (h.orgOf m0).2.2.2 (by rw [h2.o0]; simp)
    rw [h2.o0] at this
    exact h.vb_inj (h.orgOf m0).1 m1 (by simpa using this.symm)
  unfold St.size
  rw [e1, e0]
  exact ⟨h2.x1, h2.x1⟩

/-- A Write that changed something: what Room knows then. -/
theorem RoomInv.write {w w' : World} {s s1 : St} {fr : List Nat} {size room k : Nat} {now : List Blk} {ch : List Bool} {x : Blk} (hI : RoomInv s size room now ch) (h : PoolAt w s) (hG : Good s fr) (hk : k < size)
    (hK : Kept s s1 k (fun v => v.org = some (s.vols[1]!).vb)) (h' : PoolAt w' { s1 with bl := s1.bl.set (s.vols[1]!).xs[k]! x }) (hG' : Good { s1 with bl := s1.bl.set (s.vols[1]!).xs[k]! x } fr) :
    RoomInv { s1 with bl := s1.bl.set (s.vols[1]!).xs[k]! x } size room (now.set k x) (if ch[k]! = true then ch else ch.set k true) := by
  have h2 := hI.two
  have l0 : 0 < s.vols.length := by rw [h2.len]; omega
  have l1 : 1 < s.vols.length := by rw [h2.len]; omega
  have hb := hK.base.bl (s1.bl.set (s.vols[1]!).xs[k]! x)
  have h2' := h2.base hb
  have m1' : s1.vols[1]! ∈ s1.vols := get_mem (by rw [hK.base.len]; exact l1)
  have hl1 : (s1.vols[1]!).lost = false := ((h'.vols _ m1').plain h2'.o1).2
  have hd := hK.did 0 l0 h2.o0
  have hd1 : (s1.vols[0]!).kept = (keepRes k (s.vols[0]!)).1 := congrArg Prod.fst hd
  have hd2 : (s1.vols[0]!).lost = (keepRes k (s.vols[0]!)).2 := congrArg Prod.snd hd
  have hroom := (h.vols _ (get_mem l0)).room
  rw [h2.x0] at hroom
  refine ⟨h2', by simp [hI.nl], by split <;> simp [hI.cl], fun q hq => ?_, fun hf => ?_, fun hm => ?_⟩
  · have := vol_looks h l1 rfl h2.o1 (by rw [h2.x1]; exact hk) hK h' hG' 1 l1 hl1 q (by rw [(two_size h h2).1]; exact hq)
    refine this.trans ?_
    by_cases e : q = k
    · subst e
      rw [if_pos ⟨rfl, rfl⟩, getElem!_pos _ q (by simp [hI.nl]; exact hq)]; simp
    · rw [if_neg (fun h => e h.2), hI.look q hq, get_set_ne x e (by rw [hI.nl]; exact hq)]
  · show (s1.vols[0]!).lost = false ∧ (s1.vols[0]!).kept.length = _ ∧ ∀ q, q < size → (q ∈ (s1.vols[0]!).kept ↔ _)
    by_cases hc : ch[k]! = true
    · rw [if_pos hc] at hf ⊢
      obtain ⟨f1, f2, f3⟩ := hI.few hf
      have hin : k ∈ (s.vols[0]!).kept := (f3 k hk).2 hc
      have e : keepRes k (s.vols[0]!) = ((s.vols[0]!).kept, (s.vols[0]!).lost) := by rw [keepRes, if_pos (Or.inl hin)]
      rw [e] at hd1 hd2
      rw [hd1, hd2]
      exact ⟨f1, f2, f3⟩
    · have hc' : ch[k]! = false := by simpa using hc
      have hkl : k < ch.length := by rw [hI.cl]; exact hk
      rw [if_neg hc] at hf ⊢
      rw [trues_set ch k hkl hc'] at hf ⊢
      obtain ⟨f1, f2, f3⟩ := hI.few (by omega)
      have hin : k ∉ (s.vols[0]!).kept := fun hm => hc ((f3 k hk).1 hm)
      have e : keepRes k (s.vols[0]!) = ((s.vols[0]!).kept ++ [k], (s.vols[0]!).lost) := by
        rw [keepRes, if_neg (fun hx => hx.elim hin (fun e => by rw [f1] at e; cases e)), if_pos (by rw [h2.x0, f2]; omega)]
      rw [e] at hd1 hd2
      rw [hd1, hd2]
      refine ⟨f1, by rw [List.length_append, f2]; rfl, fun q hq => ?_⟩
      rw [bget_set ch k q hkl (by rw [hI.cl]; exact hq)]
      by_cases e : q = k
      · subst e; rw [if_pos rfl]; simp
      · rw [if_neg e]
        simp only [List.mem_append, List.mem_singleton, e, or_false]
        exact f3 q hq
  · show (s1.vols[0]!).lost = true
    by_cases hc : ch[k]! = true
    · rw [if_pos hc] at hm
      have hl := hI.many hm
      have e : keepRes k (s.vols[0]!) = ((s.vols[0]!).kept, (s.vols[0]!).lost) := by rw [keepRes, if_pos (Or.inr hl)]
      rw [e] at hd2
      rw [hd2]; exact hl
    · have hc' : ch[k]! = false := by simpa using hc
      have hkl : k < ch.length := by rw [hI.cl]; exact hk
      rw [if_neg hc, trues_set ch k hkl hc'] at hm
      by_cases hlt : room < trues ch
      · have hl := hI.many hlt
        have e : keepRes k (s.vols[0]!) = ((s.vols[0]!).kept, (s.vols[0]!).lost) := by rw [keepRes, if_pos (Or.inr hl)]
        rw [e] at hd2
        rw [hd2]; exact hl
      · obtain ⟨f1, f2, f3⟩ := hI.few (by omega)
        have hin : k ∉ (s.vols[0]!).kept := fun hm => hc ((f3 k hk).1 hm)
        have e : keepRes k (s.vols[0]!) = ([], true) := by
          rw [keepRes, if_neg (fun hx => hx.elim hin (fun e => by rw [f1] at e; cases e)), if_neg (by rw [h2.x0, f2]; omega)]
        rw [e] at hd2
        exact hd2
end PartLawH

section PartLawI
open Go.RowKit Go.Sort
set_option linter.unusedVariables false
set_option linter.unusedSimpArgs false
set_option linter.unusedSectionVars false
variable [DecidableEq Blk] [Inhabited Blk]
variable [Inhabited Vol]

theorem insVol_nil (i : Nat) (v : Vol) : insVol i v [] = [v] := by simp [insVol]

/-- A Pool with one volume, all 0, and the rest free. -/
structure OneV (s : St) (fr : List Nat) (size : Nat) : Prop where
  ex : ∃ v, s.vols = [v] ∧ v.name = vN ∧ v.org = none ∧ v.xs.length = size ∧ ∀ x ∈ v.xs, s.bl[x]! = Blk.zero
  free : fr.length = 200 - size

theorem create_v (s : St) (fr : List Nat) (size : Nat) (w : World) (h : PoolAt w s) (hG : Good s fr) (hn : s.n = 200) (hv : s.vols = []) (hs : 1 ≤ size ∧ size ≤ 20) :
    Calls Try.prog 19 #[.pointer (some ⟨s.pb, 0, none⟩), .string ⟨#[118]⟩, .int .i64 size] w fun e w' => e = .returned (.int .i64 0) ∧ ∃ s' fr', After w s w' s' fr' ∧ OneV s' fr' size := by
  have hfl : fr.length = 200 := by
    have := hG.parts.length_eq
    rw [hv] at this
    simpa [hn] using this
  have hx : s.has vN = false := by unfold St.has St.names; rw [hv]; exact isIn_nil vN
  refine (create_ok s fr vN size w h hG (by unfold maxLen; decide) vN_name hx (by omega) (by rw [hv]; simp) (by omega)).mono ?_
  rintro e w' ⟨he, g, vb, gb, hA, hvb⟩
  refine ⟨he, _, _, hA, ⟨⟨vb, gb, vN, fr.take size, none, none, [], false⟩, ?_, rfl, rfl, ?_, ?_⟩, ?_⟩
  · show insVol _ _ s.vols = _
    rw [hv, insVol_nil]
  · show (fr.take size).length = size
    rw [List.length_take]; omega
  · intro x hx
    exact hG.zero x (List.mem_of_mem_take hx)
  · rw [List.length_drop]; omega

theorem picture_pic (s : St) (fr : List Nat) (size room : Nat) (w : World) (h : PoolAt w s) (hG : Good s fr) (h1 : OneV s fr size) (hs : 1 ≤ size ∧ size ≤ 20) (hr : 1 ≤ room ∧ room ≤ size) :
    Calls Try.prog 25 #[.pointer (some ⟨s.pb, 0, none⟩), .string ⟨#[112, 105, 99]⟩, .string ⟨#[118]⟩, .int .i64 room] w fun e w' => e = .returned (.int .i64 0) ∧ ∃ s' fr', After w s w' s' fr' ∧ RoomInv s' size room (List.replicate size Blk.zero) (List.replicate size false) ∧ fr'.length = 200 - size - room := by
  obtain ⟨v, hv, hvn, hvo, hvl, hvz⟩ := h1.ex
  have hfl := h1.free
  have hns : s.names = [vN] := by unfold St.names; rw [hv]; simp [hvn]
  have hx : s.has picN = false := by
    unfold St.has; rw [hns]
    have a := v_pic
    have b : cmpB vN picN ≠ 0 := fun e => by have := (cmpB_zero _ _).1 e; exact absurd this (by decide +kernel)
    simp [isIn, posOf, a, b]
  have hu : s.has vN = true := by unfold St.has; rw [hns]; exact isIn_one vN
  have hvv : s.vol vN = v := by unfold St.vol; rw [hns, posOf_one, hv]; rfl
  have hpo : posOf s.names picN = 0 := by
    rw [hns]
    have a := v_pic
    simp [posOf, a]
  have hvne : v.xs ≠ [] := by intro e; rw [e] at hvl; simp at hvl; omega
  refine (picture_ok s fr picN vN room w h hG (by unfold maxLen; decide) picN_name hx hu (by rw [hvv]; exact hvo) (by rw [hvv, hvl]; exact hr) (by rw [hv]; simp) (by omega)).mono ?_
  rintro e w' ⟨he, g, vb, gb, hA, hvb⟩
  refine ⟨he, _, _, hA, ?_, by rw [List.length_drop]; omega⟩
  have hP := hA.pool
  have hvols : insVol (posOf s.names picN) ⟨vb, gb, picN, fr.take room, some (s.vol vN).vb, none, [], false⟩ s.vols = [⟨vb, gb, picN, fr.take room, some v.vb, none, [], false⟩, v] := by
    rw [hpo, hv, hvv]; rfl
  have h2 : Two { s with m := s.m - room, d := popsD s.m room s.d, ab := some g, vols := insVol (posOf s.names picN) ⟨vb, gb, picN, fr.take room, some (s.vol vN).vb, none, [], false⟩ s.vols } size room := by
    rw [hvols]
    exact ⟨rfl, rfl, hvn, rfl, hvo, by show (fr.take room).length = room; rw [List.length_take]; omega, hvl⟩
  refine ⟨h2, by simp, by simp, fun q hq => ?_, fun _ => ?_, fun hm => ?_⟩
  · have m1 := get_mem (l := insVol (posOf s.names picN) ⟨vb, gb, picN, fr.take room, some (s.vol vN).vb, none, [], false⟩ s.vols) (i := 1) (by rw [hvols]; simp)
    have eo := (hP.orgOf m1).2.2.1 h2.o1
    have ek := (hP.vols _ m1).kept_nil h2.o1
    unfold St.look St.holder
    rw [ek, if_neg (by simp), eo]
    show s.bl[((insVol (posOf s.names picN) ⟨vb, gb, picN, fr.take room, some (s.vol vN).vb, none, [], false⟩ s.vols)[1]!).xs[q]!]! = _
    rw [hvols]
    rw [getElem!_pos (List.replicate size Blk.zero) q (by simpa using hq), List.getElem_replicate]
    exact hvz _ (mem_getElem! (by show q < v.xs.length; omega))
  · show ((insVol (posOf s.names picN) ⟨vb, gb, picN, fr.take room, some (s.vol vN).vb, none, [], false⟩ s.vols)[0]!).lost = false ∧ ((insVol (posOf s.names picN) ⟨vb, gb, picN, fr.take room, some (s.vol vN).vb, none, [], false⟩ s.vols)[0]!).kept.length = _ ∧ ∀ q, q < size → (q ∈ ((insVol (posOf s.names picN) ⟨vb, gb, picN, fr.take room, some (s.vol vN).vb, none, [], false⟩ s.vols)[0]!).kept ↔ _)
    rw [hvols]
    refine ⟨rfl, by rw [trues_zero]; rfl, fun q hq => ?_⟩
    rw [getElem!_pos (List.replicate size false) q (by simpa using hq), List.getElem_replicate]
    simp
  · rw [trues_zero] at hm; omega

/-- What is true of the places, behind a Write. -/
def chNext (now : List Blk) (ch : List Bool) (k : Nat) (x : Blk) : List Bool := if now[k]! = x then ch else if ch[k]! = true then ch else ch.set k true

theorem roomWrite (s : St) (fr : List Nat) (size room k : Nat) (now : List Blk) (ch : List Bool) (x : Blk) (w : World) (h : PoolAt w s) (hG : Good s fr) (hI : RoomInv s size room now ch) (hk : k < size) :
    Calls Try.prog 27 #[.pointer (some ⟨s.pb, 0, none⟩), .string ⟨#[118]⟩, .int .i64 k, x.val] w fun e w' => e = .returned (.int .i64 0) ∧ ∃ s', After w s w' s' fr ∧ RoomInv s' size room (now.set k x) (chNext now ch k x) := by
  have h2 := hI.two
  obtain ⟨v1, v2, v3, v4⟩ := h2.vol
  have l1 : 1 < s.vols.length := by rw [h2.len]; omega
  have ho : (s.vol vN).org = none := by rw [v4]; exact h2.o1
  have hkx : k < (s.vol vN).xs.length := by rw [v4, h2.x1]; exact hk
  by_cases hx : now[k]! = x
  · have hl : s.look (s.vol vN) k = x := by rw [v4, hI.look k hk]; exact hx
    have hmem := (St.has_mem v2).1
    have hks : k < s.size (s.vol vN) := by rw [v4, (two_size h h2).1]; exact hk
    refine (write_same s vN k x w h v2 ((h.vols _ hmem).plain ho).2 hks (holder_lt h hG hmem hks) hl).mono ?_
    rintro e w' ⟨he, hS⟩
    refine ⟨he, s, After.still h hG hS, ?_⟩
    have e1 : now.set k x = now := by
      rw [← hx, getElem!_pos now k (by rw [hI.nl]; exact hk)]; simp
    rw [e1, chNext, if_pos hx]
    exact hI
  · have hl : s.look (s.vol vN) k ≠ x := by rw [v4, hI.look k hk]; exact hx
    refine (write_volume s fr vN k x w h hG v2 ho hkx hl).mono ?_
    rintro e w' ⟨he, s1, hK, hA⟩
    rw [v4] at hK hA
    refine ⟨he, _, hA, ?_⟩
    rw [chNext, if_neg hx]
    exact hI.write h hG hk hK hA.pool hA.good

theorem roomRead_few (s : St) (fr : List Nat) (size room : Nat) (now : List Blk) (ch : List Bool) (w : World) (h : PoolAt w s) (hG : Good s fr) (hI : RoomInv s size room now ch) (hs : 1 ≤ size) (hf : trues ch ≤ room) :
    Calls Try.prog 30 #[.pointer (some ⟨s.pb, 0, none⟩), .string ⟨#[112, 105, 99]⟩, .int .i64 0] w fun e w' => ∃ b : Blk, e = .returned (.tuple #[b.val, .int .i64 0]) ∧ Same [] w w' := by
  obtain ⟨v1, v2, v3, v4⟩ := hI.two.vol
  have hmem := (St.has_mem v1).1
  have hks : 0 < s.size (s.vol picN) := by rw [v3, (two_size h hI.two).2]; omega
  refine (read_some s picN 0 w h v1 (by rw [v3]; exact (hI.few hf).1) hks (holder_lt h hG hmem hks)).mono ?_
  rintro e w' ⟨he, hS⟩
  exact ⟨_, he, hS⟩
theorem roomRead_many (s : St) (size room : Nat) (now : List Blk) (ch : List Bool) (w : World) (h : PoolAt w s) (hI : RoomInv s size room now ch) (hf : room < trues ch) :
    Calls Try.prog 30 #[.pointer (some ⟨s.pb, 0, none⟩), .string ⟨#[112, 105, 99]⟩, .int .i64 0] w fun e w' => e = .returned (.tuple #[Blk.zero.val, .int .i64 9]) ∧ Same [] w w' := by
  obtain ⟨v1, v2, v3, v4⟩ := hI.two.vol
  exact read_err s picN 0 9 w (by omega) fun w' hw' => findPlace_lost s picN 0 w' (h.new hw') v1 (by rw [v3]; exact hI.many hf)
theorem roomList (s : St) (size room : Nat) (w : World) (h : PoolAt w s) (h2 : Two s size room) :
    Calls Try.prog 31 #[.pointer (some ⟨s.pb, 0, none⟩)] w fun e w' => ∃ lg, e = .returned (.slice (some ⟨lg, 0, none⟩) 2 2) ∧ Same [] w w' ∧ w'.cell? ⟨lg, 0, none⟩ = some (.string ⟨#[112, 105, 99]⟩) ∧ w'.cell? ⟨lg, 4, none⟩ = some (.int .i64 ((s.vols[0]!).kept.length : Nat)) ∧ w'.cell? ⟨lg, 5, none⟩ = some (.bool (s.vols[0]!).lost) := by
  have hL := list_calls s w h
  rw [h2.len] at hL
  refine hL.mono ?_
  rintro e w' ⟨a, he, hS, hx⟩
  obtain ⟨g, cs, rfl, hg, hA, ht⟩ := hx (fun e => by have := h2.len; rw [e] at this; simp at this)
  have e0 : s.told (s.vols[0]!) = [.string (s.vols[0]!).name, .int .i64 (s.size (s.vols[0]!)), .string (s.orgOf (s.vols[0]!)).name, .int .i64 (s.vols[0]!).xs.length, .int .i64 (s.vols[0]!).kept.length, .bool (s.vols[0]!).lost] := by
    unfold St.told; rw [h2.o0]
  have e1 : s.toldAll s.vols = s.told (s.vols[0]!) ++ s.toldAll [s.vols[1]!] := by
    conv => lhs; rw [two_list h2.len]
    rfl
  rw [e1, e0, h2.n0] at ht
  have key : ∀ j, j < 6 → cs[j]? = (cs.take (2 * 6))[j]? := fun j hj => by rw [List.getElem?_take, if_pos (by omega)]
  refine ⟨g, he, hS, ?_, ?_, ?_⟩
  · rw [hA.cell?, key 0 (by omega), ht]; rfl
  · rw [hA.cell?, key 4 (by omega), ht]; rfl
  · rw [hA.cell?, key 5 (by omega), ht]; rfl
end PartLawI

section PartAgainA
open Go.RowKit Go.Sort
set_option linter.unusedVariables false
set_option linter.unusedSimpArgs false
set_option linter.unusedSectionVars false
variable [DecidableEq Blk] [Inhabited Blk]
variable [Inhabited Vol]
variable [Inhabited PEnt]

structure AgInv (s : St) (size room : Nat) : Prop where
  two : Two s size room
  spare : Spare s
  fits : FitsS s
  n : s.n = 200

theorem again_picture (s : St) (fr : List Nat) (size room : Nat) (w : World) (h : PoolAt w s) (hG : Good s fr) (h1 : OneV s fr size) (hn : s.n = 200) (hs : 1 ≤ size ∧ size ≤ 20) (hr : 1 ≤ room ∧ room ≤ size) :
    Calls Try.prog 25 #[.pointer (some ⟨s.pb, 0, none⟩), .string ⟨#[112, 105, 99]⟩, .string ⟨#[118]⟩, .int .i64 room] w fun e w' => e = .returned (.int .i64 0) ∧ ∃ s' fr', After w s w' s' fr' ∧ AgInv s' size room := by
  obtain ⟨v, hv, hvn, hvo, hvl, hvz⟩ := h1.ex
  have hfl := h1.free
  have hns : s.names = [vN] := by unfold St.names; rw [hv]; simp [hvn]
  have hx : s.has picN = false := by
    unfold St.has; rw [hns]
    have a := v_pic
    have b : cmpB vN picN ≠ 0 := fun e => by have := (cmpB_zero _ _).1 e; exact absurd this (by decide +kernel)
    simp [isIn, posOf, a, b]
  have hu : s.has vN = true := by unfold St.has; rw [hns]; exact isIn_one vN
  have hvv : s.vol vN = v := by unfold St.vol; rw [hns, posOf_one, hv]; rfl
  have hpo : posOf s.names picN = 0 := by
    rw [hns]
    have a := v_pic
    simp [posOf, a]
  have hzero : ∀ x, x < s.n → s.bl[x]! = Blk.zero := fun x hx => by
    have hm := hG.parts.mem_iff.2 (List.mem_range.2 hx)
    rcases List.mem_append.1 hm with hm | hm
    · exact hG.zero x hm
    · rw [hv] at hm
      exact hvz x (by simpa using hm)
  refine (picture_ok s fr picN vN room w h hG (by unfold maxLen; decide) picN_name hx hu (by rw [hvv]; exact hvo) (by rw [hvv, hvl]; exact hr) (by rw [hv]; simp) (by omega)).mono ?_
  rintro e w' ⟨he, g, vb, gb, hA, hvb⟩
  refine ⟨he, _, _, hA, ?_, ?_, ?_, hn⟩
  · have hvols : insVol (posOf s.names picN) ⟨vb, gb, picN, fr.take room, some (s.vol vN).vb, none, [], false⟩ s.vols = [⟨vb, gb, picN, fr.take room, some v.vb, none, [], false⟩, v] := by
      rw [hpo, hv, hvv]; rfl
    rw [hvols]
    exact ⟨rfl, rfl, hvn, rfl, hvo, by show (fr.take room).length = room; rw [List.length_take]; omega, hvl⟩
  · intro i hi ho x hx
    have hm := List.mem_of_mem_drop hx
    exact hzero x (hA.good.lt.2 _ (get_mem hi) x hm)
  · intro i hi hl q hq
    have := holder_lt hA.pool hA.good (get_mem hi) hq
    have e : St.look { s with m := s.m - room, d := popsD s.m room s.d, ab := some g, vols := insVol (posOf s.names picN) ⟨vb, gb, picN, fr.take room, some (s.vol vN).vb, none, [], false⟩ s.vols } _ q = Blk.zero := hzero _ this
    rw [e]
    exact zero_fits

theorem again_write (s : St) (fr : List Nat) (size room k : Nat) (t : ByteArray) (b : Blk) (w : World) (h : PoolAt w s) (hG : Good s fr) (hI : AgInv s size room) (ht : t = vN ∨ t = picN) (hk : k < size) (hb : b.fits) :
    Calls Try.prog 27 #[.pointer (some ⟨s.pb, 0, none⟩), .string t, .int .i64 k, b.val] w fun e w' => ∃ (x : Int) (s' : St), e = .returned (.int .i64 x) ∧ After w s w' s' fr ∧ AgInv s' size room := by
  obtain ⟨v1, v2, v3, v4⟩ := hI.two.vol
  obtain ⟨z1, z0⟩ := two_size h hI.two
  have hh : s.has t = true ∧ k < s.size (s.vol t) := by
    rcases ht with rfl | rfl
    · exact ⟨v2, by rw [v4, z1]; exact hk⟩
    · exact ⟨v1, by rw [v3, z0]; exact hk⟩
  refine (fits_write h hG hI.spare hI.fits t k b hb hh.1 hh.2).mono ?_
  rintro e w' ⟨x, s', he, hA, hB, hS, hF⟩
  exact ⟨x, s', he, hA, hI.two.base hB, hS, hF, by rw [hA.n]; exact hI.n⟩

/-- All that an image asks of it. -/
theorem AgInv.imaged {w : World} {s : St} {fr : List Nat} {size room : Nat} (hI : AgInv s size room) (h : PoolAt w s) (hG : Good s fr) : Imaged s w := by
  have hn := hI.n
  refine ⟨h, fun v hv => ?_, fun v hv x hx => ?_, fun v hv x hx => ?_, fits_all h hG hI.spare hI.fits⟩
  · have := hG.names v hv
    simp only [nameB, Bool.and_eq_true, decide_eq_true_eq] at this
    exact this.1.2
  · have := hG.lt.2 v hv x hx; omega
  · have ht := told_of h hG (by omega) hv
    have := ht.kept.2 x hx
    have := ht.size.2
    omega
end PartAgainA

section PartAgainB
open Go.RowKit Go.Sort
set_option linter.unusedVariables false
set_option linter.unusedSimpArgs false
set_option linter.unusedSectionVars false
variable [DecidableEq Blk] [Inhabited Blk]
variable [Inhabited Vol]
variable [Inhabited PEnt]

set_option maxHeartbeats 1000000 in
set_option maxRecDepth 100000 in
theorem ktold_no (pv : Value) (t : ByteArray) (n : Nat) (w : World) (hn : 1 ≤ n)
    (hR : ∀ W, Same [] w W → Calls Try.prog 30 #[pv, .string t, .int .i64 0] W fun e w' => e = .returned (.tuple #[Blk.zero.val, .int .i64 9]) ∧ Same [] W w') :
    Calls Try.prog 28 #[pv, .string t, .int .i64 n] w fun e w' => e = .returned (.tuple #[.slice none 0 0, .bool false]) ∧ Same [] w w' := by
  have l1 : (0 : Int) < (n : Int) := by omega
  go_enter Try.func28, Try.ntmps28
  go_wp2_with fail
  go_loopw [8, 9] (fun v i wr => v = .slice none 0 0 ∧ i = .int .i64 0 ∧ wr = w) (fun _ i _ => n - (intOf i).toNat)
  case atStart => exact ⟨rfl, rfl, rfl⟩
  case round =>
    obtain ⟨rfl, rfl, rfl⟩ := hrel
    have hRR := hR _ (Same.refl [] _)
    unfold Blk.zero Blk.val at hRR
    clear hR
    go_wp2_with (go_at_call 30; refine hRR.mono ?_; rintro e w2 ⟨rfl, S2⟩)
    refine bodyPost_ret (v := .tuple #[.slice none 0 0, .bool false]) (by simp [results, Try.results28, go_sem]) rfl ⟨rfl, S2.alloc _⟩

/-- What told tells. -/
def toldL (s : St) (v : Vol) (n : Nat) : List Blk := if v.lost then [] else (List.range n).map (s.look v)

theorem told_any (s : St) (fr : List Nat) (t : ByteArray) (n : Nat) (w : World) (h : PoolAt w s) (hG : Good s fr) (hi : s.has t = true) (hn : s.size (s.vol t) = n) (h1 : 1 ≤ n ∧ n ≤ 200) :
    Calls Try.prog 28 #[.pointer (some ⟨s.pb, 0, none⟩), .string t, .int .i64 n] w fun e w' => ∃ v, e = .returned (.tuple #[v, .bool (!(s.vol t).lost)]) ∧ w'.ownsRow w.heap.size 55 8 v (toldL s (s.vol t) n).length (flat (toldL s (s.vol t) n)) ∧ Same [] w w' := by
  have hm := (St.has_mem hi).1
  cases hl : (s.vol t).lost with
  | true =>
    refine (ktold_no _ t n w h1.1 fun W hW => ?_).mono ?_
    · exact read_err s t 0 9 W (by omega) fun w' hw' => findPlace_lost s t 0 w' ((h.new hW).new hw') hi hl
    · rintro e w' ⟨rfl, hS⟩
      have e : toldL s (s.vol t) n = [] := by unfold toldL; rw [hl]; rfl
      rw [e]
      exact ⟨_, rfl, World.ownsRow_nil _ _ _ _, hS⟩
  | false =>
    refine (ktold_ok _ t n (s.look (s.vol t)) w (by omega) fun W hW i hi' => ?_).mono ?_
    · exact read_some s t i W (h.new hW) hi hl (by rw [hn]; exact hi') (holder_lt h hG hm (by rw [hn]; exact hi'))
    · rintro e w' ⟨v, rfl, ho, hS⟩
      have e : toldL s (s.vol t) n = (List.range n).map (s.look (s.vol t)) := by unfold toldL; rw [hl]; rfl
      rw [e, List.length_map, List.length_range]
      exact ⟨_, rfl, ho, hS⟩

theorem rows_same (L : List Blk) (w1 W : World) (b1 b2 : Nat) (v1 v2 : Value) (o1 : w1.ownsRow b1 55 8 v1 L.length (flat L)) (hS : Same [] w1 W) (o2 : W.ownsRow b2 55 8 v2 L.length (flat L)) (hl : L.length ≤ 1000) :
    Calls Try.prog 29 #[v1, v2] W fun e w' => e = .returned (.bool true) ∧ Same [] W w' := by
  obtain ⟨a1, c1, rfl⟩ := owns_form o1
  obtain ⟨a2, c2, rfl⟩ := owns_form o2
  have key : ∀ {w : World} {b : Nat} {a : Option Addr} {c : Nat}, w.ownsRow b 55 8 (.slice a L.length c) L.length (flat L) → ∃ g cs, (L ≠ [] → a = some ⟨g, 0, none⟩ ∧ At w g 55 cs) ∧ cs.take (L.length * 8) = flat L := by
    intro w b a c o
    by_cases h0 : L.length = 0
    · have e : L = [] := List.eq_nil_of_length_eq_zero h0
      exact ⟨0, [], fun h => absurd e h, by rw [e]; rfl⟩
    · obtain ⟨g, cs, h1, _, h3, _, h5⟩ := owns_atN o h0
      exact ⟨g, cs, fun _ => ⟨h1, h3⟩, h5⟩
  obtain ⟨g1, cs1, p1, q1⟩ := key o1
  obtain ⟨g2, cs2, p2, q2⟩ := key o2
  refine (ksame_calls L L a1 a2 c1 c2 W g1 g2 cs1 cs2 (fun h => ⟨(p1 h).1, hS.at (p1 h).2 (by simp)⟩) q1 p2 q2 hl rfl).mono ?_
  rintro e w' ⟨q, rfl, rfl⟩
  exact ⟨by simp, (Same.refl _ _).drewN _⟩

/-- What two Pools that hold the same tell of a name. -/
theorem Alike.told {s s' : St} (h : Alike s s') (t : ByteArray) (hi : s.has t = true) (n : Nat) : s'.has t = true ∧ s'.size (s'.vol t) = s.size (s.vol t) ∧ (s'.vol t).lost = (s.vol t).lost ∧ toldL s' (s'.vol t) n = toldL s (s.vol t) n := by
  have hp := (St.has_mem hi).2.2
  have e : s'.vol t = s'.vols[posOf s.names t]! := by unfold St.vol; rw [h.names]
  have e0 : s.vol t = s.vols[posOf s.names t]! := rfl
  have hl := (h.vol _ hp).lost
  refine ⟨by unfold St.has at *; rw [h.names]; exact hi, by rw [e, e0]; exact h.size _ hp, by rw [e, e0]; exact hl, ?_⟩
  unfold toldL
  rw [e, e0, hl]
  have : s'.look (s'.vols[posOf s.names t]!) = s.look (s.vols[posOf s.names t]!) := funext fun k => h.look _ hp k
  rw [this]
end PartAgainB
end Go.Proofs.Ytpddgdjocffgdaa
