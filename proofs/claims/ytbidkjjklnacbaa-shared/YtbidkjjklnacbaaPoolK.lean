/- A Pool: Resize, by contracts. -/
import Derived.Test.YtbidkjjklnacbaaPoolJ
namespace Go.Proofs.Ytbidkjjklnacbaa
open Go.RowKit Go.Sort
set_option linter.unusedVariables false
set_option linter.unusedSimpArgs false
set_option linter.unusedSectionVars false
variable [DecidableEq Blk] [Inhabited Blk]
variable [Inhabited Vol]

set_option maxHeartbeats 400000 in
theorem resize_none (s : St) (t : ByteArray) (k : Int) (w : World) (h : PoolAt w s) (hi : s.has t = false) :
    Calls Try.prog 12 #[.pointer (some ⟨s.pb, 0, none⟩), .string t, .int .i64 k] w fun e w' => e = .returned (.int .i64 4) ∧ w' = w := by
  have hf := find_not s t w h hi
  clear h
  go_enter Try.func12, Try.ntmps12
  go_wp2_with (go_at_call 23; refine hf.mono ?_; rintro e w' ⟨rfl, rfl⟩)
  go_ret
  exact ⟨rfl, rfl⟩

set_option maxHeartbeats 400000 in
theorem resize_arg (s : St) (t : ByteArray) (k : Int) (w : World) (h : PoolAt w s) (hi : s.has t = true) (hk : ¬ (1 ≤ k ∧ k ≤ 200)) :
    Calls Try.prog 12 #[.pointer (some ⟨s.pb, 0, none⟩), .string t, .int .i64 k] w fun e w' => e = .returned (.int .i64 1) ∧ w' = w := by
  have hf := find_has s t w h hi
  have hC := isCount_calls k w
  rw [decide_eq_false hk] at hC
  have hnot := runNot
  clear h hk
  go_enter Try.func12, Try.ntmps12
  go_wp2_with (first | (go_at_call 23; refine hf.mono ?_; rintro e w' ⟨rfl, rfl⟩) | (go_at_call 28; refine hC.mono ?_; rintro e w' ⟨rfl, rfl⟩))
  go_ret
  exact ⟨rfl, rfl⟩

theorem Good.room {s : St} {fr : List Nat} (hG : Good s fr) {t : ByteArray} (hi : s.has t = true) : s.m + (s.vol t).xs.length ≤ s.n := by
  obtain ⟨hmem, hname, hpos⟩ := St.has_mem hi
  have h1 := hG.parts.length_eq
  have h2 := hG.heap.len
  have h3 : (s.vol t).xs.length ≤ (s.vols.flatMap (·.xs)).length := by
    have := (delVol_perm (posOf s.names t) s.vols hpos).flatMap_right (·.xs)
    have := this.length_eq
    simp only [List.flatMap_cons, List.length_append] at this
    have e : s.vols[posOf s.names t]! = s.vol t := rfl
    rw [e] at this
    omega
  simp only [List.length_append, List.length_range] at h1
  omega

theorem PoolAt.apart {w : World} {s : St} (h : PoolAt w s) {v : Vol} (hv : v ∈ s.vols) : v.gb ∉ [s.db, s.bb, s.fb] ∧ v.vb ∉ [s.db, s.bb, s.fb] ∧ s.pb ≠ v.vb ∧ v.vb ≠ v.gb := by
  have hnd := h.nodup
  have m2 : v.gb ∈ s.vols.map (·.gb) := List.mem_map_of_mem hv
  have m1 : v.vb ∈ s.vols.map (·.vb) := List.mem_map_of_mem hv
  simp only [St.foot, List.nodup_cons, List.mem_cons, List.mem_append, not_or] at hnd
  obtain ⟨⟨p1, p2, p3, p4⟩, ⟨q2, q3, q4⟩, ⟨r3, r4⟩, ⟨t4, hnd⟩⟩ := hnd
  simp only [List.mem_cons, List.not_mem_nil, or_false, not_or]
  exact ⟨⟨fun e => q4.2.2 (e ▸ m2), fun e => r4.2.2 (e ▸ m2), fun e => t4.2.2 (e ▸ m2)⟩, ⟨fun e => q4.2.1 (e ▸ m1), fun e => r4.2.1 (e ▸ m1), fun e => t4.2.1 (e ▸ m1)⟩, fun e => p4.2.1 (e ▸ m1), (h.vols v hv).ne⟩

set_option maxHeartbeats 1000000 in
set_option maxRecDepth 100000 in
theorem resize_cut (s : St) (fr : List Nat) (t : ByteArray) (k : Nat) (w : World) (h : PoolAt w s) (hG : Good s fr) (hi : s.has t = true) (hk : 1 ≤ k ∧ k < (s.vol t).xs.length) :
    Calls Try.prog 12 #[.pointer (some ⟨s.pb, 0, none⟩), .string t, .int .i64 k] w fun e w' => e = .returned (.int .i64 0) ∧
      After w s w' { s with m := s.m + ((s.vol t).xs.drop k).length, bl := giveB ((s.vol t).xs.drop k) s.bl, d := giveD s.m ((s.vol t).xs.drop k) s.d, vols := setVol (posOf s.names t) ⟨(s.vol t).vb, (s.vol t).gb, (s.vol t).name, (s.vol t).xs.take k⟩ s.vols } (insAll ((s.vol t).xs.drop k) fr) := by
  have hf := find_has s t w h hi
  obtain ⟨hmem, hname, hpos⟩ := St.has_mem hi
  have hv := h.vols _ hmem
  have hs := hv.small
  obtain ⟨vcap, hvc, hvo⟩ := hv.vol
  obtain ⟨cs, hr⟩ := hv.row
  have hC := isCount_calls k w
  rw [decide_eq_true (by omega : (1 : Int) ≤ k ∧ (k : Int) ≤ 200)] at hC
  have hZ := size_calls (s.vol t).vb (s.vol t).xs.length vcap _ _ _ w hvo (by omega)
  have hnot := runNot
  obtain ⟨cap, hp, _, _⟩ := h.pool
  have c1 : w.cell? ⟨s.pb, 1, none⟩ = some (.pointer (some ⟨s.db, 0, none⟩)) := hp.cell? 1
  obtain ⟨ap1, ap2, ap3, ap4⟩ := h.apart hmem
  have hroom := hG.room hi
  have hlt := hG.lt.2 _ hmem
  have hCut := fun W (hW : Same [] w W) => cut_calls (s.vol t).vb (s.vol t).gb k (s.vol t).name (s.vol t).xs W (hv.same hW (by simp) (by simp)) hk.2
  have hGive := fun W (hW : Same [(s.vol t).vb] w W) u hu => give_calls s.db s.bb s.fb s.n s.m (s.vol t).gb k ((s.vol t).xs.length - k) s.bl s.d ((s.vol t).xs.drop k) (some ⟨(s.vol t).gb, k, none⟩) _ cs W _ u rfl hu
    (h.disk.same hW (by simp at ap2 ⊢; exact fun e => ap2.1 e.symm) (by simp at ap2 ⊢; exact fun e => ap2.2.1 e.symm) (by simp at ap2 ⊢; exact fun e => ap2.2.2 e.symm)) (fun _ => ⟨rfl, hW.at hr.at_ (by simp; exact fun e => ap4 e.symm), ap1⟩)
    (fun j hj => by
      simp at hj
      rw [hr.cell (k + j) (by omega), getElem!_pos _ _ (by omega), getElem!_pos _ j (by simp; omega)]
      simp) (fun x hx => hlt x (List.mem_of_mem_drop hx)) (by simp; omega)
  have hpd : ∀ W, Same [(s.vol t).vb] w W → W.cell? ⟨s.pb, 1, none⟩ = some (.pointer (some ⟨s.db, 0, none⟩)) := fun W hW => (hW.at hp (by simp [ap3])).cell? 1
  have H : Hid (PoolAt w s ∧ Good s fr ∧ VolAt w (s.vol t).vb (s.vol t).gb (s.vol t).name (s.vol t).xs ∧ RowAt w (s.vol t).gb (s.vol t).xs cs) := ⟨h, hG, hv, hr⟩
  clear h hG hv hvo hr hp
  have l1 : (k : Int) ≤ ((s.vol t).xs.length : Int) := by omega
  go_enter Try.func12, Try.ntmps12
  go_wp2_with (first | (go_at_call 23; refine hf.mono ?_; rintro e w' ⟨rfl, rfl⟩) | (go_at_call 28; refine hC.mono ?_; rintro e w' ⟨rfl, rfl⟩) | (go_at_call 33; refine hZ.mono ?_; rintro e w' ⟨rfl, rfl⟩))
  rename_i w0
  go_region_with (first | (go_at_call 34; refine (hCut _ ((Same.refl [] _).drew)).mono ?_; rintro e w2 ⟨rfl, A2, S2⟩; have p2 := hpd w2 (((Same.refl [(s.vol t).vb] _).drew).step S2 (by simp))) | (go_at_call 32; refine (hGive w2 (((Same.refl [(s.vol t).vb] _).drew).step S2 (by simp)) _ (by rw [List.length_drop])).mono ?_; rintro e w3 ⟨rfl, D3, S3⟩))
  all_goals
    obtain ⟨h, hG, hv, hr⟩ := H.out
    have hS2 : Same [(s.vol t).vb] _ w2 := ((Same.refl [(s.vol t).vb] _).drew).step S2 (by simp)
    have hV2 : VolAt w2 (s.vol t).vb (s.vol t).gb (s.vol t).name ((s.vol t).xs.take k) := by
      have e1 : ((s.vol t).xs.take k).length = k := by simp; omega
      refine ⟨⟨k, by omega, by rw [e1]; exact A2⟩, ⟨cs, ⟨hS2.at hr.at_ (by simp; exact fun e => ap4 e.symm), ?_, ?_⟩⟩, ap4, fun e => by rw [e] at e1; simp at e1; omega, by omega⟩
      · have e2 : cs.take k = (cs.take (s.vol t).xs.length).take k := by rw [List.take_take, Nat.min_eq_left (by omega)]
        rw [e1, e2, hr.eq, List.map_take]
      · have := hr.le; omega
    have hP2 := set_state h (posOf s.names t) hpos ⟨(s.vol t).vb, (s.vol t).gb, (s.vol t).name, (s.vol t).xs.take k⟩ rfl rfl (Or.inl rfl) hV2 hS2
    have hP3 := hP2.withDisk S3 (by simp) D3
    have hG3 := hG.cut h.disk.len h.disk.size (posOf s.names t) hpos k ⟨(s.vol t).vb, (s.vol t).gb, (s.vol t).name, (s.vol t).xs.take k⟩ rfl rfl
    have hvf : (s.vol t).vb ∈ s.foot := by
      simp only [St.foot, List.mem_cons, List.mem_append]; exact Or.inr (Or.inr (Or.inr (Or.inr (Or.inr (Or.inl (List.mem_map_of_mem hmem))))))
    have hFin : After _ s w3 { s with m := s.m + ((s.vol t).xs.drop k).length, bl := giveB ((s.vol t).xs.drop k) s.bl, d := giveD s.m ((s.vol t).xs.drop k) s.d, vols := setVol (posOf s.names t) ⟨(s.vol t).vb, (s.vol t).gb, (s.vol t).name, (s.vol t).xs.take k⟩ s.vols } (insAll ((s.vol t).xs.drop k) fr) :=
      ⟨hP3, hG3, (hS2.mono (T := s.foot) (by simp; exact fun _ => hvf)).step S3 (by simp [St.foot]), set_foot (s := s) (v := ⟨(s.vol t).vb, (s.vol t).gb, (s.vol t).name, (s.vol t).xs.take k⟩) hpos rfl (Or.inl rfl), rfl, rfl⟩
    clear hP3 hG3 hP2 hV2 hS2 D3 S3 A2 S2 h hG hv hr hGive hCut hpd
    go_wp2
    go_ret
    exact ⟨rfl, hFin⟩
end Go.Proofs.Ytbidkjjklnacbaa
