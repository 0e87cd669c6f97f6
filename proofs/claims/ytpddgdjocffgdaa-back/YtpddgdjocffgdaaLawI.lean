/- The statement Room: its calls. -/
import Derived.Test.YtpddgdjocffgdaaLawH
namespace Go.Proofs.Ytpddgdjocffgdaa
open Go.RowKit Go.Sort
set_option linter.unusedVariables false
set_option linter.unusedSimpArgs false
set_option linter.unusedSectionVars false
variable [DecidableEq Blk] [Inhabited Blk]
variable [Inhabited Vol]

theorem insVol_nil (i : Nat) (v : Vol) : insVol i v [] = [v] := by simp [insVol]

/-- A Pool with one volume, all 0, and the rest free. -/
structure OneV (s : St) (fr : List Nat) (size : Nat) : Prop where
  ex : ∃ v, s.vols = [v] ∧ v.name = vN ∧ v.org = none ∧ v.xs.length = size ∧ ∀ x ∈ v.xs, s.bl[x]! = Blk.zero
  free : fr.length = 200 - size

theorem create_v (s : St) (fr : List Nat) (size : Nat) (w : World) (h : PoolAt w s) (hG : Good s fr) (hn : s.n = 200) (hv : s.vols = []) (hs : 1 ≤ size ∧ size ≤ 20) :
    Calls Try.prog 19 #[.pointer (some ⟨s.pb, 0, none⟩), .string ⟨#[118]⟩, .int .i64 size] w fun e w' => e = .returned (.int .i64 0) ∧ ∃ s' fr', After w s w' s' fr' ∧ OneV s' fr' size := by
  have hfl : fr.length = 200 := by
    have := hG.parts.length_eq
    rw [hv] at this
    simpa [hn] using this
  have hx : s.has vN = false := by unfold St.has St.names; rw [hv]; exact isIn_nil vN
  refine (create_ok s fr vN size w h hG (by unfold maxLen; decide) vN_name hx (by omega) (by rw [hv]; simp) (by omega)).mono ?_
  rintro e w' ⟨he, g, vb, gb, hA, hvb⟩
  refine ⟨he, _, _, hA, ⟨⟨vb, gb, vN, fr.take size, none, none, [], false⟩, ?_, rfl, rfl, ?_, ?_⟩, ?_⟩
  · show insVol _ _ s.vols = _
    rw [hv, insVol_nil]
  · show (fr.take size).length = size
    rw [List.length_take]; omega
  · intro x hx
    exact hG.zero x (List.mem_of_mem_take hx)
  · rw [List.length_drop]; omega

theorem picture_pic (s : St) (fr : List Nat) (size room : Nat) (w : World) (h : PoolAt w s) (hG : Good s fr) (h1 : OneV s fr size) (hs : 1 ≤ size ∧ size ≤ 20) (hr : 1 ≤ room ∧ room ≤ size) :
    Calls Try.prog 25 #[.pointer (some ⟨s.pb, 0, none⟩), .string ⟨#[112, 105, 99]⟩, .string ⟨#[118]⟩, .int .i64 room] w fun e w' => e = .returned (.int .i64 0) ∧ ∃ s' fr', After w s w' s' fr' ∧ RoomInv s' size room (List.replicate size Blk.zero) (List.replicate size false) ∧ fr'.length = 200 - size - room := by
  obtain ⟨v, hv, hvn, hvo, hvl, hvz⟩ := h1.ex
  have hfl := h1.free
  have hns : s.names = [vN] := by unfold St.names; rw [hv]; simp [hvn]
  have hx : s.has picN = false := by
    unfold St.has; rw [hns]
    have a := v_pic
    have b : cmpB vN picN ≠ 0 := fun e => by have := (cmpB_zero _ _).1 e; exact absurd this (by decide +kernel)
    simp [isIn, posOf, a, b]
  have hu : s.has vN = true := by unfold St.has; rw [hns]; exact isIn_one vN
  have hvv : s.vol vN = v := by unfold St.vol; rw [hns, posOf_one, hv]; rfl
  have hpo : posOf s.names picN = 0 := by
    rw [hns]
    have a := v_pic
    simp [posOf, a]
  have hvne : v.xs ≠ [] := by intro e; rw [e] at hvl; simp at hvl; omega
  refine (picture_ok s fr picN vN room w h hG (by unfold maxLen; decide) picN_name hx hu (by rw [hvv]; exact hvo) (by rw [hvv, hvl]; exact hr) (by rw [hv]; simp) (by omega)).mono ?_
  rintro e w' ⟨he, g, vb, gb, hA, hvb⟩
  refine ⟨he, _, _, hA, ?_, by rw [List.length_drop]; omega⟩
  have hP := hA.pool
  have hvols : insVol (posOf s.names picN) ⟨vb, gb, picN, fr.take room, some (s.vol vN).vb, none, [], false⟩ s.vols = [⟨vb, gb, picN, fr.take room, some v.vb, none, [], false⟩, v] := by
    rw [hpo, hv, hvv]; rfl
  have h2 : Two { s with m := s.m - room, d := popsD s.m room s.d, ab := some g, vols := insVol (posOf s.names picN) ⟨vb, gb, picN, fr.take room, some (s.vol vN).vb, none, [], false⟩ s.vols } size room := by
    rw [hvols]
    exact ⟨rfl, rfl, hvn, rfl, hvo, by show (fr.take room).length = room; rw [List.length_take]; omega, hvl⟩
  refine ⟨h2, by simp, by simp, fun q hq => ?_, fun _ => ?_, fun hm => ?_⟩
  · have m1 := get_mem (l := insVol (posOf s.names picN) ⟨vb, gb, picN, fr.take room, some (s.vol vN).vb, none, [], false⟩ s.vols) (i := 1) (by rw [hvols]; simp)
    have eo := (hP.orgOf m1).2.2.1 h2.o1
    have ek := (hP.vols _ m1).kept_nil h2.o1
    unfold St.look St.holder
    rw [ek, if_neg (by simp), eo]
    show s.bl[((insVol (posOf s.names picN) ⟨vb, gb, picN, fr.take room, some (s.vol vN).vb, none, [], false⟩ s.vols)[1]!).xs[q]!]! = _
    rw [hvols]
    rw [getElem!_pos (List.replicate size Blk.zero) q (by simpa using hq), List.getElem_replicate]
    exact hvz _ (mem_getElem! (by show q < v.xs.length; omega))
  · show ((insVol (posOf s.names picN) ⟨vb, gb, picN, fr.take room, some (s.vol vN).vb, none, [], false⟩ s.vols)[0]!).lost = false ∧ ((insVol (posOf s.names picN) ⟨vb, gb, picN, fr.take room, some (s.vol vN).vb, none, [], false⟩ s.vols)[0]!).kept.length = _ ∧ ∀ q, q < size → (q ∈ ((insVol (posOf s.names picN) ⟨vb, gb, picN, fr.take room, some (s.vol vN).vb, none, [], false⟩ s.vols)[0]!).kept ↔ _)
    rw [hvols]
    refine ⟨rfl, by rw [trues_zero]; rfl, fun q hq => ?_⟩
    rw [getElem!_pos (List.replicate size false) q (by simpa using hq), List.getElem_replicate]
    simp
  · rw [trues_zero] at hm; omega

/-- What is true of the places, behind a Write. -/
def chNext (now : List Blk) (ch : List Bool) (k : Nat) (x : Blk) : List Bool := if now[k]! = x then ch else if ch[k]! = true then ch else ch.set k true

theorem roomWrite (s : St) (fr : List Nat) (size room k : Nat) (now : List Blk) (ch : List Bool) (x : Blk) (w : World) (h : PoolAt w s) (hG : Good s fr) (hI : RoomInv s size room now ch) (hk : k < size) :
    Calls Try.prog 27 #[.pointer (some ⟨s.pb, 0, none⟩), .string ⟨#[118]⟩, .int .i64 k, x.val] w fun e w' => e = .returned (.int .i64 0) ∧ ∃ s', After w s w' s' fr ∧ RoomInv s' size room (now.set k x) (chNext now ch k x) := by
  have h2 := hI.two
  obtain ⟨v1, v2, v3, v4⟩ := h2.vol
  have l1 : 1 < s.vols.length := by rw [h2.len]; omega
  have ho : (s.vol vN).org = none := by rw [v4]; exact h2.o1
  have hkx : k < (s.vol vN).xs.length := by rw [v4, h2.x1]; exact hk
  by_cases hx : now[k]! = x
  · have hl : s.look (s.vol vN) k = x := by rw [v4, hI.look k hk]; exact hx
    have hmem := (St.has_mem v2).1
    have hks : k < s.size (s.vol vN) := by rw [v4, (two_size h h2).1]; exact hk
    refine (write_same s vN k x w h v2 ((h.vols _ hmem).plain ho).2 hks (holder_lt h hG hmem hks) hl).mono ?_
    rintro e w' ⟨he, hS⟩
    refine ⟨he, s, After.still h hG hS, ?_⟩
    have e1 : now.set k x = now := by
      rw [← hx, getElem!_pos now k (by rw [hI.nl]; exact hk)]; simp
    rw [e1, chNext, if_pos hx]
    exact hI
  · have hl : s.look (s.vol vN) k ≠ x := by rw [v4, hI.look k hk]; exact hx
    refine (write_volume s fr vN k x w h hG v2 ho hkx hl).mono ?_
    rintro e w' ⟨he, s1, hK, hA⟩
    rw [v4] at hK hA
    refine ⟨he, _, hA, ?_⟩
    rw [chNext, if_neg hx]
    exact hI.write h hG hk hK hA.pool hA.good

theorem roomRead_few (s : St) (fr : List Nat) (size room : Nat) (now : List Blk) (ch : List Bool) (w : World) (h : PoolAt w s) (hG : Good s fr) (hI : RoomInv s size room now ch) (hs : 1 ≤ size) (hf : trues ch ≤ room) :
    Calls Try.prog 30 #[.pointer (some ⟨s.pb, 0, none⟩), .string ⟨#[112, 105, 99]⟩, .int .i64 0] w fun e w' => ∃ b : Blk, e = .returned (.tuple #[b.val, .int .i64 0]) ∧ Same [] w w' := by
  obtain ⟨v1, v2, v3, v4⟩ := hI.two.vol
  have hmem := (St.has_mem v1).1
  have hks : 0 < s.size (s.vol picN) := by rw [v3, (two_size h hI.two).2]; omega
  refine (read_some s picN 0 w h v1 (by rw [v3]; exact (hI.few hf).1) hks (holder_lt h hG hmem hks)).mono ?_
  rintro e w' ⟨he, hS⟩
  exact ⟨_, he, hS⟩
theorem roomRead_many (s : St) (size room : Nat) (now : List Blk) (ch : List Bool) (w : World) (h : PoolAt w s) (hI : RoomInv s size room now ch) (hf : room < trues ch) :
    Calls Try.prog 30 #[.pointer (some ⟨s.pb, 0, none⟩), .string ⟨#[112, 105, 99]⟩, .int .i64 0] w fun e w' => e = .returned (.tuple #[Blk.zero.val, .int .i64 9]) ∧ Same [] w w' := by
  obtain ⟨v1, v2, v3, v4⟩ := hI.two.vol
  exact read_err s picN 0 9 w (by omega) fun w' hw' => findPlace_lost s picN 0 w' (h.new hw') v1 (by rw [v3]; exact hI.many hf)
theorem roomList (s : St) (size room : Nat) (w : World) (h : PoolAt w s) (h2 : Two s size room) :
    Calls Try.prog 31 #[.pointer (some ⟨s.pb, 0, none⟩)] w fun e w' => ∃ lg, e = .returned (.slice (some ⟨lg, 0, none⟩) 2 2) ∧ Same [] w w' ∧ w'.cell? ⟨lg, 0, none⟩ = some (.string ⟨#[112, 105, 99]⟩) ∧ w'.cell? ⟨lg, 4, none⟩ = some (.int .i64 ((s.vols[0]!).kept.length : Nat)) ∧ w'.cell? ⟨lg, 5, none⟩ = some (.bool (s.vols[0]!).lost) := by
  have hL := list_calls s w h
  rw [h2.len] at hL
  refine hL.mono ?_
  rintro e w' ⟨a, he, hS, hx⟩
  obtain ⟨g, cs, rfl, hg, hA, ht⟩ := hx (fun e => by have := h2.len; rw [e] at this; simp at this)
  have e0 : s.told (s.vols[0]!) = [.string (s.vols[0]!).name, .int .i64 (s.size (s.vols[0]!)), .string (s.orgOf (s.vols[0]!)).name, .int .i64 (s.vols[0]!).xs.length, .int .i64 (s.vols[0]!).kept.length, .bool (s.vols[0]!).lost] := by
    unfold St.told; rw [h2.o0]
  have e1 : s.toldAll s.vols = s.told (s.vols[0]!) ++ s.toldAll [s.vols[1]!] := by
    conv => lhs; rw [two_list h2.len]
    rfl
  rw [e1, e0, h2.n0] at ht
  have key : ∀ j, j < 6 → cs[j]? = (cs.take (2 * 6))[j]? := fun j hj => by rw [List.getElem?_take, if_pos (by omega)]
  refine ⟨g, he, hS, ?_, ?_, ?_⟩
  · rw [hA.cell?, key 0 (by omega), ht]; rfl
  · rw [hA.cell?, key 4 (by omega), ht]; rfl
  · rw [hA.cell?, key 5 (by omega), ht]; rfl
end Go.Proofs.Ytpddgdjocffgdaa
