/- A Pool: Resize, by contracts: a greater size. -/
import Derived.Test.YtpddgdjocffgdaaPoolK
namespace Go.Proofs.Ytpddgdjocffgdaa
open Go.RowKit Go.Sort
set_option linter.unusedVariables false
set_option linter.unusedSimpArgs false
set_option linter.unusedSectionVars false
variable [DecidableEq Blk] [Inhabited Blk]
variable [Inhabited Vol]

set_option maxHeartbeats 1000000 in
set_option maxRecDepth 100000 in
theorem resize_grow (s : St) (fr : List Nat) (t : ByteArray) (k : Nat) (w : World) (h : PoolAt w s) (hG : Good s fr) (hd : Head s t w) (hk : (s.vol t).xs.length < k ∧ k ≤ 200) (hf' : k - (s.vol t).xs.length ≤ fr.length) :
    Calls Try.prog 21 #[.pointer (some ⟨s.pb, 0, none⟩), .string t, .int .i64 k] w fun e w' => e = .returned (.int .i64 0) ∧ ∃ g,
      After w s w' { s with m := s.m - (k - (s.vol t).xs.length), d := popsD s.m (k - (s.vol t).xs.length) s.d, vols := setVol (posOf s.names t) { (s.vol t) with gb := g, xs := (s.vol t).xs ++ fr.take (k - (s.vol t).xs.length) } s.vols } (fr.drop (k - (s.vol t).xs.length)) := by
  have hi := hd.has
  have hf := find_has s t w h hi
  have hmem := (St.has_mem hi).1
  have hpos := (St.has_mem hi).2.2
  have hv := h.vols _ hmem
  have hs := hv.small
  obtain ⟨cs, hr⟩ := hv.row
  have hI := isPicture_calls (s.vol t) w hv
  rw [hd.org] at hI
  have hPc := picturesOf_calls s (s.vol t) w h hmem
  rw [hd.pics] at hPc
  have hC := fun W => isCount_calls k W
  rw [decide_eq_true (by omega : (1 : Int) ≤ k ∧ (k : Int) ≤ 200)] at hC
  have hZ := fun W (hW : Same [] w W) => size_vol (s.vol t) W (hv.new hW) hd.org
  have hnot := runNot
  obtain ⟨cap, hp, _, _⟩ := h.pool
  have hml := hG.heap.len
  have hT := fun W (hW : Same [] w W) v (hv : v = ((k - (s.vol t).xs.length : Nat) : Int)) => take_calls s.db s.bb s.fb s.n s.m (k - (s.vol t).xs.length) s.bl s.d fr W _ v rfl hv (by omega) (h.disk.same hW (by simp) (by simp) (by simp)) hG.all hG.lt.1
  have HC1 : Hid (∀ W, Same [] w W → W.cell? ⟨s.pb, 1, none⟩ = some (.pointer (some ⟨s.db, 0, none⟩))) := fun W hW => (hW.at hp (by simp)).cell? 1
  have H : Hid (PoolAt w s ∧ Good s fr) := ⟨h, hG⟩
  have HD : Hid (Head s t w) := hd
  clear h hG hv hr hp hd
  have l1 : ((s.vol t).xs.length : Int) < (k : Int) := by omega
  generalize hL : (s.vol t).xs.length = L at *
  have HL : Hid ((s.vol t).xs.length = L) := hL
  clear hL
  have hsub : IntKind.i64.wrap ((k : Int) - (L : Int)) = (k : Int) - (L : Int) := IntWalk.i64_in _ (by omega)
  go_enter Try.func21, Try.ntmps21
  go_wp2_with (first | (go_at_call 48; refine hf.mono ?_; rintro e w' ⟨rfl, hw⟩; obtain rfl := hw.symm) | (go_at_call 56; refine hI.mono ?_; rintro e w' ⟨rfl, hw⟩; obtain rfl := hw.symm) | (go_at_call 54; refine hPc.mono ?_; rintro e wp ⟨sl, rfl, hown, S0⟩; obtain ⟨ag, acap, rfl⟩ := owns_form hown) | (go_at_call 51; refine (hC _).mono ?_; rintro e w' ⟨rfl, hw⟩; obtain rfl := hw.symm) | (go_at_call 57; refine (hZ _ (by assumption)).mono ?_; rintro e w' ⟨rfl, hw⟩; obtain rfl := hw.symm))
  have p0 := HC1.out _ S0
  go_region_with (first | (go_at_call 57; refine (hZ _ (S0.drew)).mono ?_; rintro e w2 ⟨rfl, rfl⟩) | (go_at_call 60; refine (hT _ (S0.drew) _ (by omega)).mono ?_; rintro e w3 (⟨_, v', rfl, D3, O3, S3⟩ | ⟨hbad, _⟩); rotate_left; (omega); obtain ⟨a3, cap3, rfl⟩ := owns_form O3))
  all_goals
    obtain ⟨h, hG⟩ := H.out
    have hv := h.vols _ hmem
    have hS3 : Same [s.db, s.fb] w w3 := (S0.drew.mono (T := [s.db, s.fb]) (by simp)).step S3 (by simp)
    have hpops := (hG.heap.pops (k - L) (by omega)).1
    rw [hpops, List.map_map] at O3
    have hxsl : (fr.take (k - L)).length = k - L := by simp; omega
    have hyne : fr.take (k - L) ≠ [] := by intro e; rw [e] at hxsl; simp at hxsl; omega
    obtain ⟨mb, ms, rfl, hmb, hR, hle⟩ := owns_row_at (xs := fr.take (k - L)) O3 hxsl.symm hyne
    have hP3 := h.withDisk (bl' := s.bl) hS3 (by intro q hq; simp at hq; rcases hq with e | e <;> simp [e]) D3
    have hv3 := hP3.vols _ hmem
    have hE := extend_calls (s.vol t) mb cap3 (fr.take (k - L)) ms w3 hv3 HD.out.org hR hyne (by rw [hxsl, HL.out]; omega)
    rw [hxsl] at hE
    have hG3 := hG.grow (posOf s.names t) hpos (k - L) hf'
    have hsz3 := hS3.size
    have HFin : Hid (∀ (w4 : World) (g : Nat), w3.heap.size ≤ g → VolAt w4 { (s.vol t) with gb := g, xs := (s.vol t).xs ++ fr.take (k - L) } → Same [(s.vol t).vb] w3 w4 → After w s w4 { s with m := s.m - (k - L), d := popsD s.m (k - L) s.d, vols := setVol (posOf s.names t) { (s.vol t) with gb := g, xs := (s.vol t).xs ++ fr.take (k - L) } s.vols } (fr.drop (k - L))) := by
      intro w4 g hg hV4 hS4
      have hkg := (hv.plain HD.out.org).1
      have hft : ∀ B, B ≤ w3.heap.size → ∀ q ∈ ({ (s.vol t) with gb := g, xs := (s.vol t).xs ++ fr.take (k - L) } : Vol).foot, q ∈ (s.vols[posOf s.names t]!).foot ∨ B ≤ q := by
        intro B hB q hq
        simp only [Vol.foot, hkg, Option.toList_none, List.mem_cons, List.not_mem_nil, or_false] at hq
        rcases hq with e | e
        · left; rw [e]; exact List.mem_cons_self
        · right; omega
      have hP4 := set_state hP3 (posOf s.names t) hpos { (s.vol t) with gb := g, xs := (s.vol t).xs ++ fr.take (k - L) } rfl rfl rfl (hft _ (Nat.le_refl _)) hV4 (hS4.mono (by intro q hq _; simp at hq; rw [hq]; exact List.mem_cons_self))
      have hvf : (s.vol t).vb ∈ s.foot := s.foot_vol hmem (by simp [Vol.foot])
      exact ⟨hP4, hG3 _ rfl rfl (pics_plain h hG HD.out _ rfl rfl (hv.kept_nil HD.out.org) (hv.plain HD.out.org).2), (hS3.mono (T := s.foot) (by simp [St.foot])).step hS4 (by simp; exact fun _ => hvf), set_foot (s := s) hpos (hft _ (by omega)), rfl, rfl⟩
    clear hG3 hP3 hv3 hR O3 D3 S3 h hG hv hT hZ hpops
    go_wp2_with (go_at_call 61; refine hE.mono ?_; rintro e w4 ⟨rfl, g, hg, hV4, hS4⟩)
    have hF := HFin.out w4 g hg hV4 hS4
    clear HFin hV4 hS4 hE
    go_ret
    exact ⟨rfl, g, hF⟩
end Go.Proofs.Ytpddgdjocffgdaa
