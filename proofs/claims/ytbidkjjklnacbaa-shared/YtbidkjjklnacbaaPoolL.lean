/- A Pool: Resize, by contracts: the same size, and a greater one. -/
import Derived.Test.YtbidkjjklnacbaaPoolK
namespace Go.Proofs.Ytbidkjjklnacbaa
open Go.RowKit Go.Sort
set_option linter.unusedVariables false
set_option linter.unusedSimpArgs false
set_option linter.unusedSectionVars false
variable [DecidableEq Blk] [Inhabited Blk]
variable [Inhabited Vol]

theorem setVol_self (i : Nat) (l : List Vol) (h : i < l.length) : setVol i l[i]! l = l := by
  unfold setVol
  rw [getElem!_pos l i h, ← List.drop_eq_getElem_cons h, List.take_append_drop]

set_option maxHeartbeats 1000000 in
set_option maxRecDepth 100000 in
theorem resize_same (s : St) (fr : List Nat) (t : ByteArray) (k : Nat) (w : World) (h : PoolAt w s) (hG : Good s fr) (hi : s.has t = true) (hk : k = (s.vol t).xs.length) :
    Calls Try.prog 12 #[.pointer (some ⟨s.pb, 0, none⟩), .string t, .int .i64 k] w fun e w' => e = .returned (.int .i64 0) ∧ After w s w' s fr := by
  have hf := find_has s t w h hi
  obtain ⟨hmem, hname, hpos⟩ := St.has_mem hi
  have hv := h.vols _ hmem
  have hs := hv.small
  have hxp : 1 ≤ (s.vol t).xs.length := by have := hv.pos; cases hx : (s.vol t).xs <;> simp_all
  obtain ⟨vcap, hvc, hvo⟩ := hv.vol
  obtain ⟨cs, hr⟩ := hv.row
  have hC := isCount_calls k w
  rw [decide_eq_true (by omega : (1 : Int) ≤ k ∧ (k : Int) ≤ 200)] at hC
  have hZ := size_calls (s.vol t).vb (s.vol t).xs.length vcap _ _ _ w hvo (by omega)
  have hnot := runNot
  obtain ⟨cap, hp, _, _⟩ := h.pool
  have c1 : w.cell? ⟨s.pb, 1, none⟩ = some (.pointer (some ⟨s.db, 0, none⟩)) := hp.cell? 1
  obtain ⟨ap1, ap2, ap3, ap4⟩ := h.apart hmem
  have hCut := fun W (hW : Same [] w W) => cut_whole (s.vol t).vb (s.vol t).gb k (s.vol t).name (s.vol t).xs W (hv.same hW (by simp) (by simp)) hk
  have hGive := fun W (hW : Same [(s.vol t).vb] w W) u hu => give_calls s.db s.bb s.fb s.n s.m (s.vol t).gb 0 0 s.bl s.d [] (some ⟨(s.vol t).gb, 0, none⟩) 3 cs W _ u rfl hu
    (h.disk.same hW (by simp at ap2 ⊢; exact fun e => ap2.1 e.symm) (by simp at ap2 ⊢; exact fun e => ap2.2.1 e.symm) (by simp at ap2 ⊢; exact fun e => ap2.2.2 e.symm)) (fun hne => absurd rfl hne)
    (fun j hj => by simp at hj) (fun x hx => by simp at hx) (by simp; exact h.disk.le)
  have hpd : ∀ W, Same [(s.vol t).vb] w W → W.cell? ⟨s.pb, 1, none⟩ = some (.pointer (some ⟨s.db, 0, none⟩)) := fun W hW => (hW.at hp (by simp [ap3])).cell? 1
  have H : Hid (PoolAt w s ∧ Good s fr ∧ VolAt w (s.vol t).vb (s.vol t).gb (s.vol t).name (s.vol t).xs ∧ RowAt w (s.vol t).gb (s.vol t).xs cs) := ⟨h, hG, hv, hr⟩
  clear h hG hv hvo hr hp
  have l1 : (k : Int) ≤ ((s.vol t).xs.length : Int) := by omega
  have HK : Hid (k = (s.vol t).xs.length) := hk
  clear hk
  go_enter Try.func12, Try.ntmps12
  go_wp2_with (first | (go_at_call 23; refine hf.mono ?_; rintro e w' ⟨rfl, rfl⟩) | (go_at_call 28; refine hC.mono ?_; rintro e w' ⟨rfl, rfl⟩) | (go_at_call 33; refine hZ.mono ?_; rintro e w' ⟨rfl, rfl⟩))
  go_region_with (first | (go_at_call 34; refine (hCut _ ((Same.refl [] _).drew)).mono ?_; rintro e w2 ⟨rfl, A2, S2⟩; have p2 := hpd w2 (((Same.refl [(s.vol t).vb] _).drew).step S2 (by simp))) | (go_at_call 32; refine (hGive w2 (((Same.refl [(s.vol t).vb] _).drew).step S2 (by simp)) _ (by rfl)).mono ?_; rintro e w3 ⟨rfl, D3, S3⟩))
  all_goals
    obtain ⟨h, hG, hv, hr⟩ := H.out
    have hS2 : Same [(s.vol t).vb] _ w2 := ((Same.refl [(s.vol t).vb] _).drew).step S2 (by simp)
    have hV2 : VolAt w2 (s.vol t).vb (s.vol t).gb (s.vol t).name (s.vol t).xs := by
      refine ⟨⟨k, by have := HK.out; omega, by rw [← HK.out]; exact A2⟩, ⟨cs, hr.same hS2 (by simp; exact fun e => ap4 e.symm)⟩, ap4, hv.pos, hv.small⟩
    have hP2 := set_state h (posOf s.names t) hpos (s.vol t) rfl rfl (Or.inl rfl) hV2 hS2
    have es : setVol (posOf s.names t) (s.vol t) s.vols = s.vols := setVol_self _ _ hpos
    rw [es] at hP2
    have hP3 := hP2.withDisk S3 (by simp) D3
    have hvf : (s.vol t).vb ∈ s.foot := by
      simp only [St.foot, List.mem_cons, List.mem_append]; exact Or.inr (Or.inr (Or.inr (Or.inr (Or.inr (Or.inl (List.mem_map_of_mem hmem))))))
    have hFin : After _ s w3 s fr :=
      ⟨hP3, hG, (hS2.mono (T := s.foot) (by simp; exact fun _ => hvf)).step S3 (by simp [St.foot]), fun j hj => Or.inl hj, rfl, rfl⟩
    clear hP3 hP2 hV2 hS2 D3 S3 A2 S2 h hG hv hr hGive hCut hpd
    go_wp2
    go_ret
    exact ⟨rfl, hFin⟩

set_option maxHeartbeats 1000000 in
set_option maxRecDepth 100000 in
theorem resize_full (s : St) (fr : List Nat) (t : ByteArray) (k : Nat) (w : World) (h : PoolAt w s) (hG : Good s fr) (hi : s.has t = true) (hk : (s.vol t).xs.length < k ∧ k ≤ 200) (hf' : fr.length < k - (s.vol t).xs.length) :
    Calls Try.prog 12 #[.pointer (some ⟨s.pb, 0, none⟩), .string t, .int .i64 k] w fun e w' => e = .returned (.int .i64 6) ∧ ∃ d', After w s w' { s with d := d' } fr := by
  have hf := find_has s t w h hi
  obtain ⟨hmem, hname, hpos⟩ := St.has_mem hi
  have hv := h.vols _ hmem
  have hs := hv.small
  obtain ⟨vcap, hvc, hvo⟩ := hv.vol
  have hC := isCount_calls k w
  rw [decide_eq_true (by omega : (1 : Int) ≤ k ∧ (k : Int) ≤ 200)] at hC
  have hZ := size_calls (s.vol t).vb (s.vol t).xs.length vcap _ _ _ w hvo (by omega)
  have hZ2 := fun W (hW : Same [] w W) => size_calls (s.vol t).vb (s.vol t).xs.length vcap _ _ _ W (hW.at hvo (by simp)) (by omega)
  have hnot := runNot
  obtain ⟨cap, hp, _, _⟩ := h.pool
  have c1 : w.cell? ⟨s.pb, 1, none⟩ = some (.pointer (some ⟨s.db, 0, none⟩)) := hp.cell? 1
  have hml := hG.heap.len
  have hT := fun W (hW : Same [] w W) v (hv : v = ((k - (s.vol t).xs.length : Nat) : Int)) => take_calls s.db s.bb s.fb s.n s.m (k - (s.vol t).xs.length) s.bl s.d fr W _ v rfl hv (by omega) (h.disk.same hW (by simp) (by simp) (by simp)) hG.all hG.lt.1
  have H : Hid (PoolAt w s ∧ Good s fr) := ⟨h, hG⟩
  clear h hG hv hvo hp
  have l1 : ((s.vol t).xs.length : Int) < (k : Int) := by omega
  generalize hL : (s.vol t).xs.length = L at *
  clear hL
  have hsub : IntKind.i64.wrap ((k : Int) - (L : Int)) = (k : Int) - (L : Int) := IntWalk.i64_in _ (by omega)
  go_enter Try.func12, Try.ntmps12
  go_wp2_with (first | (go_at_call 23; refine hf.mono ?_; rintro e w' ⟨rfl, rfl⟩) | (go_at_call 28; refine hC.mono ?_; rintro e w' ⟨rfl, rfl⟩) | (go_at_call 33; refine hZ.mono ?_; rintro e w' ⟨rfl, rfl⟩))
  go_region_with (first | (go_at_call 33; refine (hZ2 _ ((Same.refl [] _).drew)).mono ?_; rintro e w2 ⟨rfl, rfl⟩) | (go_at_call 29; refine (hT _ ((Same.refl [] _).drew) _ (by omega)).mono ?_; rintro e w3 (⟨hbad, _⟩ | ⟨_, rfl, D3, S3⟩); (omega)))
  all_goals
    obtain ⟨h, hG⟩ := H.out
    have e0 : giveB fr s.bl = s.bl := giveB_zero fr s.bl fun x hx => ⟨by rw [h.disk.len]; exact hG.lt.1 x hx, hG.zero x hx⟩
    rw [e0] at D3
    have hS3 : Same [s.db, s.bb, s.fb] _ w3 := ((Same.refl _ _).drew).step S3 (by simp)
    have hFin : After _ s w3 { s with d := giveD 0 fr (popsD s.m s.m s.d) } fr := ⟨h.withDisk hS3 (by simp) D3, ⟨hG.back, hG.parts, hG.zero, hG.names⟩, hS3.mono (by simp [St.foot]), fun k hk => Or.inl hk, rfl, rfl⟩
    clear D3 S3 hS3 h hG hT hZ2
    go_wp2
    go_ret
    exact ⟨rfl, _, hFin⟩
end Go.Proofs.Ytbidkjjklnacbaa
