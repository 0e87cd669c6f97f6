/- A Pool: Resize, by contracts. -/
import Derived.Test.YtpddgdjocffgdaaPoolJ
import Derived.Test.YtpddgdjocffgdaaPoolQ
import Derived.Test.YtpddgdjocffgdaaPoolP
namespace Go.Proofs.Ytpddgdjocffgdaa
open Go.RowKit Go.Sort
set_option linter.unusedVariables false
set_option linter.unusedSimpArgs false
set_option linter.unusedSectionVars false
variable [DecidableEq Blk] [Inhabited Blk]
variable [Inhabited Vol]

set_option maxHeartbeats 400000 in
theorem resize_none (s : St) (t : ByteArray) (k : Int) (w : World) (h : PoolAt w s) (hi : s.has t = false) :
    Calls Try.prog 21 #[.pointer (some ⟨s.pb, 0, none⟩), .string t, .int .i64 k] w fun e w' => e = .returned (.int .i64 4) ∧ w' = w := by
  have hf := find_not s t w h hi
  clear h
  go_enter Try.func21, Try.ntmps21
  go_wp2_with (go_at_call 48; refine hf.mono ?_; rintro e w' ⟨rfl, rfl⟩)
  go_ret
  exact ⟨rfl, rfl⟩

set_option maxHeartbeats 400000 in
theorem resize_picture (s : St) (t : ByteArray) (k : Int) (w : World) (h : PoolAt w s) (hi : s.has t = true) (ho : (s.vol t).org ≠ none) :
    Calls Try.prog 21 #[.pointer (some ⟨s.pb, 0, none⟩), .string t, .int .i64 k] w fun e w' => e = .returned (.int .i64 7) ∧ w' = w := by
  have hf := find_has s t w h hi
  have hI := isPicture_calls (s.vol t) w (h.vols _ (St.has_mem hi).1)
  have ho' : (s.vol t).org.isSome = true := by cases hq : (s.vol t).org <;> simp_all
  rw [ho'] at hI
  clear h
  go_enter Try.func21, Try.ntmps21
  go_wp2_with (first | (go_at_call 48; refine hf.mono ?_; rintro e w' ⟨rfl, rfl⟩) | (go_at_call 56; refine hI.mono ?_; rintro e w' ⟨rfl, rfl⟩))
  go_ret
  exact ⟨rfl, rfl⟩

set_option maxHeartbeats 400000 in
theorem resize_busy (s : St) (t : ByteArray) (k : Int) (w : World) (h : PoolAt w s) (hi : s.has t = true) (ho : (s.vol t).org = none) (hb : s.picsOf (s.vol t).vb ≠ []) :
    Calls Try.prog 21 #[.pointer (some ⟨s.pb, 0, none⟩), .string t, .int .i64 k] w fun e w' => e = .returned (.int .i64 8) ∧ Same [] w w' := by
  have hf := find_has s t w h hi
  have hI := isPicture_calls (s.vol t) w (h.vols _ (St.has_mem hi).1)
  rw [ho] at hI
  have hPc := picturesOf_calls s (s.vol t) w h (St.has_mem hi).1
  have hl : 0 < (s.picsOf (s.vol t).vb).length := by cases hq : s.picsOf (s.vol t).vb <;> simp_all
  have hl2 : (s.picsOf (s.vol t).vb).length ≤ 20 := Nat.le_trans (List.length_filter_le _ _) h.few
  clear h
  go_enter Try.func21, Try.ntmps21
  go_wp2_with (first | (go_at_call 48; refine hf.mono ?_; rintro e w' ⟨rfl, rfl⟩) | (go_at_call 56; refine hI.mono ?_; rintro e w' ⟨rfl, rfl⟩) | (go_at_call 54; refine hPc.mono ?_; rintro e wp ⟨sl, rfl, hown, S0⟩; obtain ⟨ag, acap, rfl⟩ := owns_form hown))
  go_ret
  exact ⟨rfl, S0⟩

set_option maxHeartbeats 400000 in
theorem resize_arg (s : St) (t : ByteArray) (k : Int) (w : World) (h : PoolAt w s) (hi : s.has t = true) (ho : (s.vol t).org = none) (hb : s.picsOf (s.vol t).vb = []) (hk : ¬ (1 ≤ k ∧ k ≤ 200)) :
    Calls Try.prog 21 #[.pointer (some ⟨s.pb, 0, none⟩), .string t, .int .i64 k] w fun e w' => e = .returned (.int .i64 1) ∧ Same [] w w' := by
  have hf := find_has s t w h hi
  have hI := isPicture_calls (s.vol t) w (h.vols _ (St.has_mem hi).1)
  rw [ho] at hI
  have hPc := picturesOf_calls s (s.vol t) w h (St.has_mem hi).1
  rw [hb] at hPc
  have hC := fun W => isCount_calls k W
  rw [decide_eq_false hk] at hC
  have hnot := runNot
  clear h hk
  go_enter Try.func21, Try.ntmps21
  go_wp2_with (first | (go_at_call 48; refine hf.mono ?_; rintro e w' ⟨rfl, rfl⟩) | (go_at_call 56; refine hI.mono ?_; rintro e w' ⟨rfl, rfl⟩) | (go_at_call 54; refine hPc.mono ?_; rintro e wp ⟨sl, rfl, hown, S0⟩; obtain ⟨ag, acap, rfl⟩ := owns_form hown) | (go_at_call 51; refine (hC _).mono ?_; rintro e w' ⟨rfl, rfl⟩))
  go_ret
  exact ⟨rfl, S0⟩

/-- Resize up to where it cuts or takes. -/
structure Head (s : St) (t : ByteArray) (w : World) : Prop where
  has : s.has t = true
  org : (s.vol t).org = none
  pics : s.picsOf (s.vol t).vb = []

theorem Good.room {s : St} {fr : List Nat} (hG : Good s fr) {t : ByteArray} (hi : s.has t = true) : s.m + (s.vol t).xs.length ≤ s.n := by
  obtain ⟨hmem, hname, hpos⟩ := St.has_mem hi
  have h1 := hG.parts.length_eq
  have h2 := hG.heap.len
  have h3 : (s.vol t).xs.length ≤ (s.vols.flatMap (·.xs)).length := by
    have := (delVol_perm (posOf s.names t) s.vols hpos).flatMap_right (·.xs)
    have := this.length_eq
    simp only [List.flatMap_cons, List.length_append] at this
    have e : s.vols[posOf s.names t]! = s.vol t := rfl
    rw [e] at this
    omega
  simp only [List.length_append, List.length_range] at h1
  omega

theorem PoolAt.apart {w : World} {s : St} (h : PoolAt w s) {v : Vol} (hv : v ∈ s.vols) : v.gb ∉ [s.db, s.bb, s.fb] ∧ v.vb ∉ [s.db, s.bb, s.fb] ∧ s.pb ≠ v.vb ∧ v.vb ≠ v.gb := by
  have key : ∀ k ∈ v.foot, k ∉ [s.db, s.bb, s.fb] ∧ s.pb ≠ k := fun k hk => by
    have := (apart_of h.nodup).disk v hv k hk
    simp only [List.mem_cons, not_or, List.not_mem_nil, not_false_eq_true, and_true] at this ⊢
    exact ⟨⟨this.2.1, this.2.2.1, this.2.2.2⟩, fun e => this.1 e.symm⟩
  have hn := (h.vols v hv).nodup
  simp only [Vol.foot, List.nodup_cons, List.mem_cons, not_or] at hn
  exact ⟨(key v.gb (by simp [Vol.foot])).1, (key v.vb (by simp [Vol.foot])).1, (key v.vb (by simp [Vol.foot])).2, hn.1.1⟩

/-- No picture of it: whatever it becomes, pictures are in order. -/
theorem pics_plain {w : World} {s : St} {fr : List Nat} (h : PoolAt w s) (hG : Good s fr) {t : ByteArray} (hd : Head s t w) (v : Vol) (h1 : v.vb = (s.vol t).vb) (h2 : v.org = (s.vol t).org) (h3 : v.kept = []) (h4 : v.lost = false) : Pics (setVol (posOf s.names t) v s.vols) := by
  obtain ⟨hmem, hname, hpos⟩ := St.has_mem hd.has
  refine pics_set h hG.pics (posOf s.names t) hpos v h1 h2 (by rw [h3]; exact List.nodup_nil) (fun _ => h3) (fun u hu e => ?_) (fun u hu e => ?_)
  · rw [h2, hd.org] at e; cases e
  · have : u ∈ s.picsOf (s.vol t).vb := by simp [St.picsOf, hu, e, h1]
    rw [hd.pics] at this; simp at this

set_option maxHeartbeats 1000000 in
set_option maxRecDepth 100000 in
theorem resize_cut (s : St) (fr : List Nat) (t : ByteArray) (k : Nat) (w : World) (h : PoolAt w s) (hG : Good s fr) (hd : Head s t w) (hk : 1 ≤ k ∧ k < (s.vol t).xs.length) :
    Calls Try.prog 21 #[.pointer (some ⟨s.pb, 0, none⟩), .string t, .int .i64 k] w fun e w' => e = .returned (.int .i64 0) ∧
      After w s w' { s with m := s.m + ((s.vol t).xs.drop k).length, bl := giveB ((s.vol t).xs.drop k) s.bl, d := giveD s.m ((s.vol t).xs.drop k) s.d, vols := setVol (posOf s.names t) { (s.vol t) with xs := (s.vol t).xs.take k } s.vols } (insAll ((s.vol t).xs.drop k) fr) := by
  have hs0 := (h.vols _ (St.has_mem hd.has).1).small
  have hi := hd.has
  have hf := find_has s t w h hi
  have hmem := (St.has_mem hi).1
  have hpos := (St.has_mem hi).2.2
  have hv := h.vols _ hmem
  have hs := hv.small
  obtain ⟨cs, hr⟩ := hv.row
  have hI := isPicture_calls (s.vol t) w hv
  rw [hd.org] at hI
  have hPc := picturesOf_calls s (s.vol t) w h hmem
  rw [hd.pics] at hPc
  have hC := fun W => isCount_calls k W
  rw [decide_eq_true (by omega : (1 : Int) ≤ k ∧ (k : Int) ≤ 200)] at hC
  have hZ := fun W (hW : Same [] w W) => size_vol (s.vol t) W (hv.new hW) hd.org
  have hnot := runNot
  obtain ⟨cap, hp, _, _⟩ := h.pool
  obtain ⟨ap1, ap2, ap3, ap4⟩ := h.apart hmem
  have hroom := hG.room hi
  have hlt := hG.lt.2 _ hmem
  have hCut := fun W (hW : Same [] w W) => cut_calls (s.vol t) k W (hv.new hW) hd.org hk.1 hk.2
  have hGive := fun W (hW : Same [(s.vol t).vb] w W) u hu => give_calls s.db s.bb s.fb s.n s.m (s.vol t).gb k ((s.vol t).xs.length - k) s.bl s.d ((s.vol t).xs.drop k) (some ⟨(s.vol t).gb, k, none⟩) _ cs W _ u rfl hu
    (h.disk.same hW (by simp at ap2 ⊢; exact fun e => ap2.1 e.symm) (by simp at ap2 ⊢; exact fun e => ap2.2.1 e.symm) (by simp at ap2 ⊢; exact fun e => ap2.2.2 e.symm)) (fun _ => ⟨rfl, hW.at hr.at_ (by simp; exact fun e => ap4 e.symm), ap1⟩)
    (fun j hj => by
      simp at hj
      rw [hr.cell (k + j) (by omega), getElem!_pos _ _ (by omega), getElem!_pos _ j (by simp; omega)]
      simp) (fun x hx => hlt x (List.mem_of_mem_drop hx)) (by simp; omega)
  have hpd : ∀ W, Same [(s.vol t).vb] w W → W.cell? ⟨s.pb, 1, none⟩ = some (.pointer (some ⟨s.db, 0, none⟩)) := fun W hW => (hW.at hp (by simp [ap3])).cell? 1
  have c1 : ∀ W, Same [] w W → W.cell? ⟨s.pb, 1, none⟩ = some (.pointer (some ⟨s.db, 0, none⟩)) := fun W hW => (hW.at hp (by simp)).cell? 1
  have H : Hid (PoolAt w s ∧ Good s fr) := ⟨h, hG⟩
  have HD : Hid (Head s t w) := hd
  have HC1 : Hid (∀ W, Same [] w W → W.cell? ⟨s.pb, 1, none⟩ = some (.pointer (some ⟨s.db, 0, none⟩))) := c1
  clear h hG hv hr hp c1 hd
  have l1 : (k : Int) ≤ ((s.vol t).xs.length : Int) := by omega
  go_enter Try.func21, Try.ntmps21
  go_wp2_with (first | (go_at_call 48; refine hf.mono ?_; rintro e w' ⟨rfl, hw⟩; obtain rfl := hw.symm) | (go_at_call 56; refine hI.mono ?_; rintro e w' ⟨rfl, hw⟩; obtain rfl := hw.symm) | (go_at_call 54; refine hPc.mono ?_; rintro e wp ⟨sl, rfl, hown, S0⟩; obtain ⟨ag, acap, rfl⟩ := owns_form hown) | (go_at_call 51; refine (hC _).mono ?_; rintro e w' ⟨rfl, hw⟩; obtain rfl := hw.symm) | (go_at_call 57; refine (hZ _ (by assumption)).mono ?_; rintro e w' ⟨rfl, hw⟩; obtain rfl := hw.symm))
  have p0 := HC1.out _ S0
  go_region_with (first | (go_at_call 59; refine (hCut _ (S0.drew)).mono ?_; rintro e w2 ⟨rfl, V2, S2⟩; have SS : Same [(s.vol t).vb] w w2 := (S0.drew.mono (T := [(s.vol t).vb]) (by simp)).step S2 (by simp); have p2 := hpd w2 SS) | (go_at_call 58; refine (hGive w2 SS _ (by rw [List.length_drop])).mono ?_; rintro e w3 ⟨rfl, D3, S3⟩))
  all_goals
    obtain ⟨h, hG⟩ := H.out
    have hf2 : ∀ q ∈ ({ (s.vol t) with xs := (s.vol t).xs.take k } : Vol).foot, q ∈ (s.vols[posOf s.names t]!).foot ∨ w.heap.size ≤ q := fun q hq => Or.inl hq
    have hP2 := set_state h (posOf s.names t) hpos { (s.vol t) with xs := (s.vol t).xs.take k } rfl rfl rfl hf2 V2 (SS.mono (by intro q hq _; simp at hq; rw [hq]; exact List.mem_cons_self))
    have hP3 := hP2.withDisk S3 (by intro q hq; simp at hq; rcases hq with e | e | e <;> simp [e]) D3
    have hG3 := Good.cut h hG h.disk.len h.disk.size (posOf s.names t) hpos k { (s.vol t) with xs := (s.vol t).xs.take k } rfl rfl (pics_plain h hG HD.out _ rfl rfl ((h.vols _ hmem).kept_nil HD.out.org) ((h.vols _ hmem).plain HD.out.org).2)
    have hvf : (s.vol t).vb ∈ s.foot := s.foot_vol hmem (by simp [Vol.foot])
    have hFin : After w s w3 { s with m := s.m + ((s.vol t).xs.drop k).length, bl := giveB ((s.vol t).xs.drop k) s.bl, d := giveD s.m ((s.vol t).xs.drop k) s.d, vols := setVol (posOf s.names t) { (s.vol t) with xs := (s.vol t).xs.take k } s.vols } (insAll ((s.vol t).xs.drop k) fr) :=
      ⟨hP3, hG3, (SS.mono (T := s.foot) (by simp; exact fun _ => hvf)).step S3 (by simp [St.foot]), set_foot (s := s) hpos hf2, rfl, rfl⟩
    clear hP3 hG3 hP2 V2 D3 S3 S2 SS h hG hGive hCut hpd hf2
    rw [List.length_drop] at hFin
    go_wp2
    go_ret
    exact ⟨rfl, hFin⟩
end Go.Proofs.Ytpddgdjocffgdaa
