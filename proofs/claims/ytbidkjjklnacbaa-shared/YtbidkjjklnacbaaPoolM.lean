/- A Pool: Resize, by contracts: a greater size. -/
import Derived.Test.YtbidkjjklnacbaaPoolK
namespace Go.Proofs.Ytbidkjjklnacbaa
open Go.RowKit Go.Sort
set_option linter.unusedVariables false
set_option linter.unusedSimpArgs false
set_option linter.unusedSectionVars false
variable [DecidableEq Blk] [Inhabited Blk]
variable [Inhabited Vol]

set_option maxHeartbeats 1000000 in
set_option maxRecDepth 100000 in
theorem resize_grow (s : St) (fr : List Nat) (t : ByteArray) (k : Nat) (w : World) (h : PoolAt w s) (hG : Good s fr) (hi : s.has t = true) (hk : (s.vol t).xs.length < k ∧ k ≤ 200) (hf' : k - (s.vol t).xs.length ≤ fr.length) :
    Calls Try.prog 12 #[.pointer (some ⟨s.pb, 0, none⟩), .string t, .int .i64 k] w fun e w' => e = .returned (.int .i64 0) ∧ ∃ g,
      After w s w' { s with m := s.m - (k - (s.vol t).xs.length), d := popsD s.m (k - (s.vol t).xs.length) s.d, vols := setVol (posOf s.names t) ⟨(s.vol t).vb, g, (s.vol t).name, (s.vol t).xs ++ fr.take (k - (s.vol t).xs.length)⟩ s.vols } (fr.drop (k - (s.vol t).xs.length)) := by
  have hf := find_has s t w h hi
  obtain ⟨hmem, hname, hpos⟩ := St.has_mem hi
  have hv := h.vols _ hmem
  have hs := hv.small
  obtain ⟨vcap, hvc, hvo⟩ := hv.vol
  have hC := isCount_calls k w
  rw [decide_eq_true (by omega : (1 : Int) ≤ k ∧ (k : Int) ≤ 200)] at hC
  have hZ := size_calls (s.vol t).vb (s.vol t).xs.length vcap _ _ _ w hvo (by omega)
  have hZ2 := fun W (hW : Same [] w W) => size_calls (s.vol t).vb (s.vol t).xs.length vcap _ _ _ W (hW.at hvo (by simp)) (by omega)
  have hnot := runNot
  obtain ⟨cap, hp, _, _⟩ := h.pool
  have c1 : w.cell? ⟨s.pb, 1, none⟩ = some (.pointer (some ⟨s.db, 0, none⟩)) := hp.cell? 1
  have hml := hG.heap.len
  have hT := fun W (hW : Same [] w W) v (hv : v = ((k - (s.vol t).xs.length : Nat) : Int)) => take_calls s.db s.bb s.fb s.n s.m (k - (s.vol t).xs.length) s.bl s.d fr W _ v rfl hv (by omega) (h.disk.same hW (by simp) (by simp) (by simp)) hG.all hG.lt.1
  have H : Hid (PoolAt w s ∧ Good s fr) := ⟨h, hG⟩
  clear h hG hv hvo hp
  have l1 : ((s.vol t).xs.length : Int) < (k : Int) := by omega
  generalize hL : (s.vol t).xs.length = L at *
  have HL : Hid ((s.vol t).xs.length = L) := hL
  clear hL
  have hsub : IntKind.i64.wrap ((k : Int) - (L : Int)) = (k : Int) - (L : Int) := IntWalk.i64_in _ (by omega)
  go_enter Try.func12, Try.ntmps12
  go_wp2_with (first | (go_at_call 23; refine hf.mono ?_; rintro e w' ⟨rfl, rfl⟩) | (go_at_call 28; refine hC.mono ?_; rintro e w' ⟨rfl, rfl⟩) | (go_at_call 33; refine hZ.mono ?_; rintro e w' ⟨rfl, rfl⟩))
  go_region_with (first | (go_at_call 33; refine (hZ2 _ ((Same.refl [] _).drew)).mono ?_; rintro e w2 ⟨rfl, rfl⟩) | (go_at_call 29; refine (hT _ ((Same.refl [] _).drew) _ (by omega)).mono ?_; rintro e w3 (⟨_, v', rfl, D3, O3, S3⟩ | ⟨hbad, _⟩); rotate_left; (omega); obtain ⟨a3, cap3, rfl⟩ := owns_form O3))
  all_goals
    obtain ⟨h, hG⟩ := H.out
    have hv := h.vols _ hmem
    have hS3 : Same [s.db, s.fb] _ w3 := ((Same.refl _ _).drew).step S3 (by simp)
    have hpops := (hG.heap.pops (k - L) (by omega)).1
    rw [hpops, List.map_map] at O3
    have hxsl : (fr.take (k - L)).length = k - L := by simp; omega
    have hyne : fr.take (k - L) ≠ [] := by intro e; rw [e] at hxsl; simp at hxsl; omega
    obtain ⟨mb, ms, rfl, hmb, hR, hle⟩ := owns_row_at (xs := fr.take (k - L)) O3 hxsl.symm hyne
    have hP3 := h.withDisk (bl' := s.bl) hS3 (by simp) D3
    have hv3 := hP3.vols _ hmem
    have hE := extend_calls (s.vol t).vb (s.vol t).gb mb cap3 (s.vol t).name (s.vol t).xs (fr.take (k - L)) ms w3 hv3 hR hyne (by rw [hxsl, HL.out]; omega)
    rw [hxsl] at hE
    have hG3 := hG.grow (posOf s.names t) hpos (k - L) hf'
    have hsz3 := hS3.size
    have HFin : Hid (∀ (w4 : World) (g : Nat), w3.heap.size ≤ g → VolAt w4 (s.vol t).vb g (s.vol t).name ((s.vol t).xs ++ fr.take (k - L)) → Same [(s.vol t).vb] w3 w4 → After w' s w4 { s with m := s.m - (k - L), d := popsD s.m (k - L) s.d, vols := setVol (posOf s.names t) ⟨(s.vol t).vb, g, (s.vol t).name, (s.vol t).xs ++ fr.take (k - L)⟩ s.vols } (fr.drop (k - L))) := by
      intro w4 g hg hV4 hS4
      have hP4 := set_state hP3 (posOf s.names t) hpos ⟨(s.vol t).vb, g, (s.vol t).name, (s.vol t).xs ++ fr.take (k - L)⟩ rfl rfl (Or.inr hg) hV4 hS4
      have hvf : (s.vol t).vb ∈ s.foot := by
        simp only [St.foot, List.mem_cons, List.mem_append]; exact Or.inr (Or.inr (Or.inr (Or.inr (Or.inr (Or.inl (List.mem_map_of_mem hmem))))))
      exact ⟨hP4, hG3 ⟨(s.vol t).vb, g, (s.vol t).name, (s.vol t).xs ++ fr.take (k - L)⟩ rfl rfl, (hS3.mono (T := s.foot) (by simp [St.foot])).step hS4 (by simp; exact fun _ => hvf), set_foot (s := s) (v := ⟨(s.vol t).vb, g, (s.vol t).name, (s.vol t).xs ++ fr.take (k - L)⟩) hpos rfl (Or.inr (by simp; omega)), rfl, rfl⟩
    clear hG3 hP3 hv3 hR O3 D3 S3 h hG hv hT hZ2 hpops
    go_wp2_with (go_at_call 35; refine hE.mono ?_; rintro e w4 ⟨rfl, g, hg, hV4, hS4⟩)
    have hF := HFin.out w4 g hg hV4 hS4
    clear HFin hV4 hS4 hE
    go_ret
    exact ⟨rfl, g, hF⟩
end Go.Proofs.Ytbidkjjklnacbaa
