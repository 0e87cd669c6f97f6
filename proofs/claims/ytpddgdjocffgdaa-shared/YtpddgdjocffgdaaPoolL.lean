/- A Pool: Resize, by contracts: the same size, and a greater one. -/
import Derived.Test.YtpddgdjocffgdaaPoolK
namespace Go.Proofs.Ytpddgdjocffgdaa
open Go.RowKit Go.Sort
set_option linter.unusedVariables false
set_option linter.unusedSimpArgs false
set_option linter.unusedSectionVars false
variable [DecidableEq Blk] [Inhabited Blk]
variable [Inhabited Vol]

theorem setVol_self (i : Nat) (l : List Vol) (h : i < l.length) : setVol i l[i]! l = l := by
  unfold setVol
  rw [getElem!_pos l i h, ← List.drop_eq_getElem_cons h, List.take_append_drop]

set_option maxHeartbeats 1000000 in
set_option maxRecDepth 100000 in
theorem resize_same (s : St) (fr : List Nat) (t : ByteArray) (k : Nat) (w : World) (h : PoolAt w s) (hG : Good s fr) (hd : Head s t w) (hk : k = (s.vol t).xs.length) :
    Calls Try.prog 21 #[.pointer (some ⟨s.pb, 0, none⟩), .string t, .int .i64 k] w fun e w' => e = .returned (.int .i64 0) ∧ After w s w' s fr := by
  have hs0 := (h.vols _ (St.has_mem hd.has).1).small
  have hxp : 1 ≤ (s.vol t).xs.length := by have := (h.vols _ (St.has_mem hd.has).1).pos; cases hx : (s.vol t).xs <;> simp_all
  have hi := hd.has
  have hf := find_has s t w h hi
  have hmem := (St.has_mem hi).1
  have hpos := (St.has_mem hi).2.2
  have hv := h.vols _ hmem
  have hs := hv.small
  obtain ⟨cs, hr⟩ := hv.row
  have hI := isPicture_calls (s.vol t) w hv
  rw [hd.org] at hI
  have hPc := picturesOf_calls s (s.vol t) w h hmem
  rw [hd.pics] at hPc
  have hC := fun W => isCount_calls k W
  rw [decide_eq_true (by omega : (1 : Int) ≤ k ∧ (k : Int) ≤ 200)] at hC
  have hZ := fun W (hW : Same [] w W) => size_vol (s.vol t) W (hv.new hW) hd.org
  have hnot := runNot
  obtain ⟨cap, hp, _, _⟩ := h.pool
  obtain ⟨ap1, ap2, ap3, ap4⟩ := h.apart hmem
  have hCut := fun W (hW : Same [] w W) => cut_whole (s.vol t) k W (hv.new hW) hd.org (by omega) hk
  have hGive := fun W (hW : Same [(s.vol t).vb] w W) u hu => give_calls s.db s.bb s.fb s.n s.m (s.vol t).gb 0 0 s.bl s.d [] (some ⟨(s.vol t).gb, 0, none⟩) 3 cs W _ u rfl hu
    (h.disk.same hW (by simp at ap2 ⊢; exact fun e => ap2.1 e.symm) (by simp at ap2 ⊢; exact fun e => ap2.2.1 e.symm) (by simp at ap2 ⊢; exact fun e => ap2.2.2 e.symm)) (fun hne => absurd rfl hne)
    (fun j hj => by simp at hj) (fun x hx => by simp at hx) (by simp; exact h.disk.le)
  have hpd : ∀ W, Same [(s.vol t).vb] w W → W.cell? ⟨s.pb, 1, none⟩ = some (.pointer (some ⟨s.db, 0, none⟩)) := fun W hW => (hW.at hp (by simp [ap3])).cell? 1
  have HC1 : Hid (∀ W, Same [] w W → W.cell? ⟨s.pb, 1, none⟩ = some (.pointer (some ⟨s.db, 0, none⟩))) := fun W hW => (hW.at hp (by simp)).cell? 1
  have H : Hid (PoolAt w s ∧ Good s fr) := ⟨h, hG⟩
  have HK : Hid (k = (s.vol t).xs.length) := hk
  clear h hG hv hr hp hd
  have l1 : (k : Int) ≤ ((s.vol t).xs.length : Int) := by omega
  clear hk
  go_enter Try.func21, Try.ntmps21
  go_wp2_with (first | (go_at_call 48; refine hf.mono ?_; rintro e w' ⟨rfl, hw⟩; obtain rfl := hw.symm) | (go_at_call 56; refine hI.mono ?_; rintro e w' ⟨rfl, hw⟩; obtain rfl := hw.symm) | (go_at_call 54; refine hPc.mono ?_; rintro e wp ⟨sl, rfl, hown, S0⟩; obtain ⟨ag, acap, rfl⟩ := owns_form hown) | (go_at_call 51; refine (hC _).mono ?_; rintro e w' ⟨rfl, hw⟩; obtain rfl := hw.symm) | (go_at_call 57; refine (hZ _ (by assumption)).mono ?_; rintro e w' ⟨rfl, hw⟩; obtain rfl := hw.symm))
  have p0 := HC1.out _ S0
  go_region_with (first | (go_at_call 59; refine (hCut _ (S0.drew)).mono ?_; rintro e w2 ⟨rfl, V2, S2⟩; have SS : Same [(s.vol t).vb] w w2 := (S0.drew.mono (T := [(s.vol t).vb]) (by simp)).step S2 (by simp); have p2 := hpd w2 SS) | (go_at_call 58; refine (hGive w2 SS _ (by rfl)).mono ?_; rintro e w3 ⟨rfl, D3, S3⟩))
  all_goals
    obtain ⟨h, hG⟩ := H.out
    have ev : ({ (s.vol t) with xs := (s.vol t).xs.take k } : Vol) = s.vol t := by rw [HK.out, List.take_length]
    rw [ev] at V2
    have hP2 := set_state h (posOf s.names t) hpos (s.vol t) rfl rfl rfl (fun q hq => Or.inl hq) V2 (SS.mono (by intro q hq _; simp at hq; rw [hq]; exact List.mem_cons_self))
    have es : setVol (posOf s.names t) (s.vol t) s.vols = s.vols := setVol_self _ _ hpos
    rw [es] at hP2
    have hP3 := hP2.withDisk S3 (by intro q hq; simp at hq; rcases hq with e | e | e <;> simp [e]) D3
    have hvf : (s.vol t).vb ∈ s.foot := s.foot_vol hmem (by simp [Vol.foot])
    have hFin : After w s w3 s fr :=
      ⟨hP3, hG, (SS.mono (T := s.foot) (by simp; exact fun _ => hvf)).step S3 (by simp [St.foot]), fun j hj => Or.inl hj, rfl, rfl⟩
    clear hP3 hP2 V2 D3 S3 S2 SS h hG hGive hCut hpd
    go_wp2
    go_ret
    exact ⟨rfl, hFin⟩

set_option maxHeartbeats 1000000 in
set_option maxRecDepth 100000 in
theorem resize_full (s : St) (fr : List Nat) (t : ByteArray) (k : Nat) (w : World) (h : PoolAt w s) (hG : Good s fr) (hd : Head s t w) (hk : (s.vol t).xs.length < k ∧ k ≤ 200) (hf' : fr.length < k - (s.vol t).xs.length) :
    Calls Try.prog 21 #[.pointer (some ⟨s.pb, 0, none⟩), .string t, .int .i64 k] w fun e w' => e = .returned (.int .i64 6) ∧ ∃ d', After w s w' { s with d := d' } fr := by
  have hi := hd.has
  have hf := find_has s t w h hi
  have hmem := (St.has_mem hi).1
  have hpos := (St.has_mem hi).2.2
  have hv := h.vols _ hmem
  have hs := hv.small
  obtain ⟨cs, hr⟩ := hv.row
  have hI := isPicture_calls (s.vol t) w hv
  rw [hd.org] at hI
  have hPc := picturesOf_calls s (s.vol t) w h hmem
  rw [hd.pics] at hPc
  have hC := fun W => isCount_calls k W
  rw [decide_eq_true (by omega : (1 : Int) ≤ k ∧ (k : Int) ≤ 200)] at hC
  have hZ := fun W (hW : Same [] w W) => size_vol (s.vol t) W (hv.new hW) hd.org
  have hnot := runNot
  obtain ⟨cap, hp, _, _⟩ := h.pool
  have hml := hG.heap.len
  have hT := fun W (hW : Same [] w W) v (hv : v = ((k - (s.vol t).xs.length : Nat) : Int)) => take_calls s.db s.bb s.fb s.n s.m (k - (s.vol t).xs.length) s.bl s.d fr W _ v rfl hv (by omega) (h.disk.same hW (by simp) (by simp) (by simp)) hG.all hG.lt.1
  have HC1 : Hid (∀ W, Same [] w W → W.cell? ⟨s.pb, 1, none⟩ = some (.pointer (some ⟨s.db, 0, none⟩))) := fun W hW => (hW.at hp (by simp)).cell? 1
  have H : Hid (PoolAt w s ∧ Good s fr) := ⟨h, hG⟩
  clear h hG hv hr hp hd
  have l1 : ((s.vol t).xs.length : Int) < (k : Int) := by omega
  generalize hL : (s.vol t).xs.length = L at *
  clear hL
  have hsub : IntKind.i64.wrap ((k : Int) - (L : Int)) = (k : Int) - (L : Int) := IntWalk.i64_in _ (by omega)
  go_enter Try.func21, Try.ntmps21
  go_wp2_with (first | (go_at_call 48; refine hf.mono ?_; rintro e w' ⟨rfl, hw⟩; obtain rfl := hw.symm) | (go_at_call 56; refine hI.mono ?_; rintro e w' ⟨rfl, hw⟩; obtain rfl := hw.symm) | (go_at_call 54; refine hPc.mono ?_; rintro e wp ⟨sl, rfl, hown, S0⟩; obtain ⟨ag, acap, rfl⟩ := owns_form hown) | (go_at_call 51; refine (hC _).mono ?_; rintro e w' ⟨rfl, hw⟩; obtain rfl := hw.symm) | (go_at_call 57; refine (hZ _ (by assumption)).mono ?_; rintro e w' ⟨rfl, hw⟩; obtain rfl := hw.symm))
  have p0 := HC1.out _ S0
  go_region_with (first | (go_at_call 57; refine (hZ _ (S0.drew)).mono ?_; rintro e w2 ⟨rfl, rfl⟩) | (go_at_call 60; refine (hT _ (S0.drew) _ (by omega)).mono ?_; rintro e w3 (⟨hbad, _⟩ | ⟨_, rfl, D3, S3⟩); (omega)))
  all_goals
    obtain ⟨h, hG⟩ := H.out
    have e0 : giveB fr s.bl = s.bl := giveB_zero fr s.bl fun x hx => ⟨by rw [h.disk.len]; exact hG.lt.1 x hx, hG.zero x hx⟩
    rw [e0] at D3
    have hS3 : Same [s.db, s.bb, s.fb] w w3 := (S0.drew.mono (T := [s.db, s.bb, s.fb]) (by simp)).step S3 (by simp)
    have hFin : After w s w3 { s with d := giveD 0 fr (popsD s.m s.m s.d) } fr := ⟨h.withDisk hS3 (by intro q hq; simp at hq; rcases hq with e | e | e <;> simp [e]) D3, ⟨hG.back, hG.parts, hG.zero, hG.names, hG.pics⟩, hS3.mono (by simp [St.foot]), fun k hk => Or.inl hk, rfl, rfl⟩
    clear D3 S3 hS3 h hG hT hZ
    go_wp2
    go_ret
    exact ⟨rfl, _, hFin⟩
end Go.Proofs.Ytpddgdjocffgdaa
