/- Again's walk. -/
import Derived.Test.YtpddgdjocffgdaaG15
namespace Go.Proofs.Ytpddgdjocffgdaa
section PartAgainC
open Go.RowKit Go.Sort
set_option linter.unusedVariables false
set_option linter.unusedSimpArgs false
set_option linter.unusedSectionVars false
variable [DecidableEq Blk] [Inhabited Blk]
variable [Inhabited Vol]
variable [Inhabited PEnt]

theorem blkOf_fits (c : Int) : (blkOf c).fits := by
  intro n hn
  have h1 := pickF_bd c 9 (by omega)
  have h2 := pickF_bd (c.tdiv 9) 3 (by omega)
  simp only [Blk.intsI, blkOf, List.mem_cons, List.not_mem_nil, or_false] at hn
  rcases hn with rfl | rfl | rfl | rfl | rfl | rfl | rfl | rfl
  · omega
  · omega
  · omega
  · omega
  · omega
  · omega
  · omega
  · have h3 := Int.tdiv_nonneg h2.1 (by omega : (0 : Int) ≤ 2)
    have h4 := Int.tdiv_le_self 2 h2.1
    omega

theorem img_len {s : St} {w : World} (h : Imaged s w) : (imgB s).length ≤ 30000 := by
  have h1 := listB_length s s.vols (fun v hv => h.entry hv)
  have h2 := h.pool.few
  have h3 := h.pool.disk.len
  have h4 := h.pool.disk.small
  unfold imgB bodyB
  simp only [List.length_append, two_length, blks_length, List.length_cons, List.length_nil]
  have : markB.length = 4 := rfl
  omega

set_option maxHeartbeats 8000000 in
set_option maxRecDepth 100000 in
theorem again_calls (sz : Int) (a : Option Addr) (b off len cap : Nat) (zs : List Int) (fl by_ : Int) (w : World) (s1 : -9223372036854775808 ≤ sz) (s2 : sz ≤ 9223372036854775807) (g1 : -9223372036854775808 ≤ fl) (g2 : fl ≤ 9223372036854775807) (y1 : -9223372036854775808 ≤ by_) (y2 : by_ ≤ 9223372036854775807)
    (ha : 0 < len → a = some ⟨b, off, none⟩) (hb : 0 < len → b < w.heap.size) (hm : len ≤ 9223372036854775807)
    (hc : ∀ t, t < len → w.cell? ⟨b, off + t, none⟩ = some (.int .i64 (zs.getD t 0))) (hz : ∀ t, -9223372036854775808 ≤ zs.getD t 0 ∧ zs.getD t 0 ≤ 9223372036854775807) :
    Calls Try.prog 9 #[.int .i64 sz, .slice a len cap, .int .i64 fl, .int .i64 by_] w fun e w' => e = .returned (.bool true) ∧ Below w.heap.size w w' := by
  have hnot := runNot
  have hps := fun W => pick_calls sz 12 W s1 s2 (by omega) (by omega)
  have hbs := pickF_bd sz 12 (by omega)
  obtain ⟨q1, hq1⟩ : ∃ q : Nat, pickF sz 12 = (q : Int) := ⟨(pickF sz 12).toNat, by omega⟩
  rw [hq1] at hps hbs
  have hw1 : IntKind.i64.wrap (1 + (q1 : Int)) = ((q1 + 1 : Nat) : Int) := by rw [IntWalk.i64_in _ (by omega)]; omega
  clear hq1
  go_enter Try.func9, Try.ntmps9
  go_wp2_with fail
  refine (opened_calls w).mono ?_
  rintro e w1 ⟨pb, rfl, hO⟩
  obtain ⟨⟨s, fr, e1, h1, h2, h3, h4, h5⟩, S⟩ := hO
  have hH1 : Held w pb w1 s fr := ⟨e1, h1, h2, h5, S⟩
  go_wp2_with fail
  refine (hps _).mono ?_
  rintro e wz ⟨rfl, rfl⟩
  clear hps
  go_wp2_with fail
  obtain ⟨size, hsize⟩ : ∃ size : Nat, (q1 : Int) + 1 = (size : Nat) := ⟨q1 + 1, by omega⟩
  rw [hsize]
  have hs20 : 1 ≤ size ∧ size ≤ 20 := by omega
  clear hsize hbs hw1
  have hCr := create_v s fr size wz h1 h2 h3 h4 hs20
  rw [e1] at hCr
  refine hCr.mono ?_
  rintro e w2 ⟨rfl, s', fr', hA2, hO2⟩
  have hH2 := hH1.next hA2
  have hn2 : s'.n = 200 := by rw [hA2.n]; exact h3
  have hpr := fun W => pick_calls by_ size W y1 y2 (by omega) (by omega)
  have hbr := pickF_bd by_ size (by omega)
  obtain ⟨q2, hq2⟩ : ∃ q : Nat, pickF by_ size = (q : Int) := ⟨(pickF by_ size).toNat, by omega⟩
  rw [hq2] at hpr hbr
  have hw2 : IntKind.i64.wrap (1 + (q2 : Int)) = ((q2 + 1 : Nat) : Int) := by rw [IntWalk.i64_in _ (by omega)]; omega
  clear hq2 hCr hA2 hH1
  go_wp2_with fail
  refine (hpr _).mono ?_
  rintro e wy ⟨rfl, rfl⟩
  clear hpr
  go_wp2_with fail
  obtain ⟨room, hroom⟩ : ∃ room : Nat, (q2 : Int) + 1 = (room : Nat) := ⟨q2 + 1, by omega⟩
  rw [hroom]
  have hr20 : 1 ≤ room ∧ room ≤ size := by omega
  clear hroom hbr hw2
  have hPc := again_picture s' fr' size room wy hH2.pool hH2.good hO2 hn2 hs20 hr20
  rw [hH2.pb] at hPc
  refine hPc.mono ?_
  rintro e w3 ⟨rfl, s3, fr3, hA3, hB3⟩
  have hH3 := hH2.next hA3
  clear hPc hA3 hH2 hO2 h1 h2 h5
  go_wp2_with fail
  go_loopw [12, 13] (fun i nm wr => ∃ (j : Nat) (s : St) (fr : List Nat), j ≤ len ∧ j ≤ 60 ∧ i = .int .i64 j ∧ Held w pb wr s fr ∧ AgInv s size room)
    (fun i _ _ => 60 - (intOf i).toNat)
  case atStart => exact ⟨0, s3, fr3, Nat.zero_le _, by omega, rfl, hH3, hB3⟩
  case round =>
    clear hH3 hB3
    obtain ⟨j, s, fr, hj, hj6, rfl, hI, hB⟩ := hrel
    by_cases hjl : j < len ∧ j < 60
    · obtain ⟨hjl, hj60⟩ := hjl
      obtain rfl := ha (by omega)
      have hbw := hb (by omega)
      have HSS : Hid (∀ W, Same [] w W → W.cell? ⟨b, off + j, none⟩ = some (.int .i64 (zs.getD j 0))) := fun W hW => by
        rw [(hW.below (Nat.le_refl _) (by simp)).cell hbw]; exact hc j hjl
      have cz := HSS.out wr hI.same
      obtain ⟨z1, z2⟩ := hz j
      generalize zs.getD j 0 = z at *
      have l1 : (j : Int) < (len : Int) := by omega
      have hPk := fun W => pick_calls z size W z1 z2 (by omega) (by omega)
      have hbk := pickF_bd z size (by omega)
      obtain ⟨kk, hkk⟩ : ∃ kk : Nat, pickF z size = (kk : Int) := ⟨(pickF z size).toNat, by omega⟩
      rw [hkk] at hPk hbk
      have hkks : kk < size := by omega
      obtain ⟨t1, t2⟩ := tdiv_bdn z 20 (by omega) z1 z2
      have hw20 : IntKind.i64.wrap (z.tdiv 20) = z.tdiv 20 := IntWalk.i64_in _ (by omega)
      obtain ⟨t3, t4⟩ := tdiv_bdn z 180 (by omega) z1 z2
      have hw180 : IntKind.i64.wrap (z.tdiv 180) = z.tdiv 180 := IntWalk.i64_in _ (by omega)
      have hP3 := fun W => pick_calls (z.tdiv 180) 4 W t3 t4 (by omega) (by omega)
      have hBk := fun W => kblock_calls (z.tdiv 20) W t1 t2
      have hWv := fun W (hW : Held w pb W s fr) => again_write s fr size room kk ⟨#[118]⟩ (blkOf (z.tdiv 20)) W hW.pool hW.good hB (Or.inl rfl) hkks (blkOf_fits _)
      have hWp := fun W (hW : Held w pb W s fr) => again_write s fr size room kk ⟨#[112, 105, 99]⟩ (blkOf (z.tdiv 20)) W hW.pool hW.good hB (Or.inr rfl) hkks (blkOf_fits _)
      rw [hI.pb] at hWv hWp
      generalize blkOf (z.tdiv 20) = x at *
      generalize pickF (z.tdiv 180) 4 = q3 at *
      obtain ⟨x0, x1, x2, x3, x4, x5, x6, x7⟩ := x
      unfold Blk.val at hBk hWv hWp
      clear hkk
      have HI : Hid (Held w pb wr s fr) := hI
      clear hI hB
      by_cases hq3 : q3 = 0
      · subst hq3
        go_wp2_with (go_at_call 16; refine (hP3 _).mono ?_; rintro e w' ⟨rfl, hw⟩; obtain rfl := hw.symm)
        go_region_held3 (fun w' => w'.cell? ⟨b, off + j, none⟩ = some (.int .i64 z)) (first | assumption | exact cz) (first | (go_at_call 16; refine (hPk _).mono ?_; rintro e w' ⟨rfl, rfl⟩) | (go_at_call 24; refine (hBk _).mono ?_; rintro e w4 ⟨rfl, S4⟩; have hH4 := HI.out.new (((Same.refl [] wr).drew).step S4 (by simp)); have hk4 := HSS.out w4 hH4.same) | (go_at_call 27; refine (hWp w4 hH4).mono ?_; rintro e w5 ⟨xe, s5, rfl, hA5, hB5⟩; have hH5 := hH4.next hA5; have hk5 := HSS.out w5 hH5.same))
        all_goals
          have HH5 : Hid (Held w pb w5 s5 fr ∧ AgInv s5 size room) := ⟨hH5, hB5⟩
          clear hH5 hB5 hA5 hH4 HI hWv hWp hBk hPk S4 HSS hP3
          go_wp2
          go_roundw
          case rel => exact ⟨j + 1, s5, fr, by omega, by omega, by go_num, HH5.out.1, HH5.out.2⟩
          case measure => simp [intOf]; omega
      · have hq3' : (q3 == 0) = false := by simpa using hq3
        go_wp2_with (go_at_call 16; refine (hP3 _).mono ?_; rintro e w' ⟨rfl, hw⟩; obtain rfl := hw.symm)
        go_region_held3 (fun w' => w'.cell? ⟨b, off + j, none⟩ = some (.int .i64 z)) (first | assumption | exact cz) (first | (go_at_call 16; refine (hPk _).mono ?_; rintro e w' ⟨rfl, rfl⟩) | (go_at_call 24; refine (hBk _).mono ?_; rintro e w4 ⟨rfl, S4⟩; have hH4 := HI.out.new (((Same.refl [] wr).drew).step S4 (by simp)); have hk4 := HSS.out w4 hH4.same) | (go_at_call 27; refine (hWv w4 hH4).mono ?_; rintro e w5 ⟨xe, s5, rfl, hA5, hB5⟩; have hH5 := hH4.next hA5; have hk5 := HSS.out w5 hH5.same))
        all_goals
          have HH5 : Hid (Held w pb w5 s5 fr ∧ AgInv s5 size room) := ⟨hH5, hB5⟩
          clear hH5 hB5 hA5 hH4 HI hWv hWp hBk hPk S4 HSS hP3
          go_wp2
          go_roundw
          case rel => exact ⟨j + 1, s5, fr, by omega, by omega, by go_num, HH5.out.1, HH5.out.2⟩
          case measure => simp [intOf]; omega
    · have hstop : (len : Int) ≤ (j : Int) ∨ ((j : Int) < (len : Int) ∧ (60 : Int) ≤ (j : Int)) := by omega
      have hIm := image_calls s wr (hB.imaged hI.pool hI.good)
      rw [hI.pb] at hIm
      have HI : Hid (Held w pb wr s fr ∧ AgInv s size room) := ⟨hI, hB⟩
      clear hjl hj hj6 hI hB ha hb hm hc hz
      rcases hstop with hst | ⟨hst, hst2⟩
      all_goals
        go_wp2_with fail
        refine hIm.mono ?_
        rintro e w4 ⟨xg, rfl, hN4⟩
        have hH4 := HI.out.1.new hN4.same
        have hAg := HI.out.2
        have hfa := fits_all hH4.pool hH4.good hAg.spare hAg.fits
        have hIM := hAg.imaged hH4.pool hH4.good
        have hln := img_len hIM
        have hO4 := hN4.old (by omega)
        have hLd := load_back hH4.pool hH4.good hAg.spare (by rw [hAg.n]; omega) hfa (some ⟨xg, 0, none⟩) (imgB s).length hO4 (Nat.le_refl _)
        have hxl := hN4.new
        obtain ⟨n, hne⟩ : ∃ n, (imgB s).length = n := ⟨_, rfl⟩
        rw [hne] at hLd hln
        have HNE : Hid ((imgB s).length = n) := hne
        have HN4 : Hid (BytesNew wr w4 xg (imgB s) ∧ Held w pb w4 s fr) := ⟨hN4, hH4⟩
        rw [hne]
        have HLd : Hid (Calls Try.prog 33 #[.slice (some ⟨xg, 0, none⟩) n n] w4 fun e w' => ∃ (s2 : St) (fr2 : List Nat), e = .returned (.tuple #[.pointer (some ⟨s2.pb, 0, none⟩), .int .i64 0, .int .i64 0]) ∧ PoolAt w' s2 ∧ Good s2 fr2 ∧ Spare s2 ∧ Alike s s2 ∧ imgB s2 = imgB s ∧ (∀ k ∈ s2.foot, w4.heap.size ≤ k) ∧ Same [] w4 w') := hLd
        clear hne hLd hN4 hH4 hO4 hIM hIm hfa hAg
        go_wp2_with fail
        refine HLd.out.mono ?_
        rintro e w5 ⟨s2, fr2, rfl, hP2, hG2, hS2, hAl, hi2, hf2, S5⟩
        have HP5 : Hid (PoolAt w5 s2 ∧ Good s2 fr2 ∧ Alike s s2 ∧ imgB s2 = imgB s ∧ Same [] w4 w5) := ⟨hP2, hG2, hAl, hi2, S5⟩
        have hn2' : s2.n = 200 := by rw [hAl.n]; exact HI.out.2.n
        have HIm2 : Hid (Calls Try.prog 12 #[.pointer (some ⟨s2.pb, 0, none⟩)] w5 fun e w' => ∃ g, e = .returned (.slice (some ⟨g, 0, none⟩) n n) ∧ BytesNew w5 w' g (imgB s)) := by
          have hff : ∀ x, x < s2.n → (s2.bl[x]!).fits := fun x hx => by
            rw [hAl.bl]
            exact fits_all HN4.out.2.pool HN4.out.2.good HI.out.2.spare HI.out.2.fits x (by rw [← hAl.n]; exact hx)
          have := image_calls s2 w5 (imaged_of hP2 hG2 (by omega) hff)
          rw [hi2, HNE.out] at this
          exact this
        obtain ⟨pb2, hpb2⟩ : ∃ p, s2.pb = p := ⟨_, rfl⟩
        rw [hpb2] at HIm2
        have HPB : Hid (s2.pb = pb2) := hpb2
        rw [hpb2]
        clear hpb2 hP2 hG2 hS2 hAl hi2 hf2 S5 HLd hn2'
        go_wp2_with fail
        refine HIm2.out.mono ?_
        rintro e w6 ⟨yg, rfl, hN6⟩
        have hS6 := hN6.same
        have HN6 : Hid (BytesNew w5 w6 yg (imgB s) ∧ Held w pb w6 s fr ∧ PoolAt w6 s2) := ⟨hN6, (HN4.out.2.new HP5.out.2.2.2.2).new hN6.same, HP5.out.1.new hN6.same⟩
        clear hN6 HIm2 hS6
        obtain ⟨L1, L2, lo, hL1, hL2, T1, T2, T3, T4⟩ := again_tells HN6.out.2.1.pool HN6.out.2.1.good HI.out.2 hs20 HN6.out.2.2 HP5.out.2.1 HP5.out.2.2.1
        rw [HN6.out.2.1.pb] at T1 T3
        rw [HPB.out] at T2 T4
        go_wp2_with fail
        refine (T1 _ (Same.refl _ _)).mono ?_
        rintro e w7 ⟨l1, rfl, o1, S7⟩
        clear T1
        go_wp2_with fail
        refine (T2 _ S7).mono ?_
        rintro e w8 ⟨m1, rfl, o2, S8⟩
        clear T2
        have HR1 := rows_same L1 w7 w8 _ _ l1 m1 o1 S8 o2 (by omega)
        have S68 := S7.step S8 (by simp)
        clear o1 o2 S7 S8
        go_wp2_with fail
        refine HR1.mono ?_
        rintro e w9 ⟨rfl, S9⟩
        have S69 := S68.step S9 (by simp)
        clear HR1 S68 S9
        go_wp2_with fail
        refine (T3 _ S69).mono ?_
        rintro e w10 ⟨l2, rfl, o1, S10⟩
        clear T3
        have S610 := S69.step S10 (by simp)
        clear S69 S10
        go_wp2_with fail
        refine (T4 _ S610).mono ?_
        rintro e w11 ⟨m2, rfl, o2, S11⟩
        clear T4
        have HR2 := rows_same L2 w10 w11 _ _ l2 m2 o1 S11 o2 (by omega)
        have S611 := S610.step S11 (by simp)
        clear o1 o2 S610 S11
        go_wp2_with fail
        refine HR2.mono ?_
        rintro e w12 ⟨rfl, S12⟩
        have S612 := S611.step S12 (by simp)
        clear HR2 S611 S12
        have S412 : Same [] w4 w12 := (HP5.out.2.2.2.2.step HN6.out.1.same (by simp)).step S612 (by simp)
        have hx := HN4.out.1.text S412 HNE.out
        have hy := HN6.out.1.text S612 HNE.out
        have hbn : (lo == lo) = true := by simp
        generalize (⟨(imgB s).toArray⟩ : ByteArray) = tx at hx hy
        have hn0 : 0 < n := by
          have h0 := HNE.out
          have h1 := (end_img s).1
          omega
        have hpf := fun W => pick_big fl n W g1 g2 (by omega) (by omega)
        have hbf := pickF_bd fl n (by omega)
        obtain ⟨kf, hkf⟩ : ∃ q : Nat, pickF fl n = (q : Int) := ⟨(pickF fl n).toNat, by omega⟩
        rw [hkf] at hpf hbf
        have hkn : kf < n := by omega
        have hpg := fun W => pick_calls by_ 255 W y1 y2 (by omega) (by omega)
        have hbg := pickF_bd by_ 255 (by omega)
        obtain ⟨pg, hpg'⟩ : ∃ q : Nat, pickF by_ 255 = (q : Int) := ⟨(pickF by_ 255).toNat, by omega⟩
        rw [hpg'] at hpg hbg
        obtain ⟨y, hy1, hy2⟩ := flip_byte (imgB s)[kf]! pg (by omega)
        obtain ⟨f1, f2, f3, f4⟩ := HN4.out.1.flip S412 (by rw [HNE.out]; exact hkn) (by rw [HNE.out]; omega) y
        have f4' : BytesOld (w12.setCell ⟨xg, kf, none⟩ (byteV y)).drew (some ⟨xg, 0, none⟩) ((imgB s).set kf y) := ⟨f4.ex, f4.len⟩
        have hLf := load_flip s (some ⟨xg, 0, none⟩) n kf y (by rw [HNE.out]; exact hkn) hy2 f4' (by rw [HNE.out]; exact Nat.le_refl _)
        rw [HNE.out] at hLf
        unfold byteV at f1 hLf
        have hx8 := ((imgB s)[kf]!).toNat_lt
        generalize ((imgB s)[kf]!).toNat = x8 at *
        have k1 : (kf : Int) < (n : Int) := by omega
        have k2 : ((kf : Int)).toNat = kf := by omega
        have w1 : IntKind.i64.wrap ((x8 : Int) + 1) = (x8 : Int) + 1 := IntWalk.i64_in _ (by omega)
        have w2 : IntKind.i64.wrap ((x8 : Int) + 1 + (pg : Int)) = (x8 : Int) + 1 + (pg : Int) := IntWalk.i64_in _ (by omega)
        have HS12 : Hid (Same [] w w12 ∧ w.heap.size ≤ xg) := ⟨HN6.out.2.1.same.step S612 (by simp), Nat.le_trans HI.out.1.same.size HN4.out.1.new⟩
        clear hkf hpg' S412 S612 HN4 HN6 HP5 HI f4 f4'
        go_wp2_with fail
        refine (hpf _).mono ?_
        rintro e w' ⟨rfl, hw⟩
        obtain rfl := hw.symm
        clear hpf hx hy
        go_wp2_with fail
        refine region_tail 13 (by kernel_rfl) (by kernel_rfl) ?_
        simp only [List.take_succ_cons, List.take_zero, List.drop_succ_cons, List.drop_zero]
        repeat still_step
        still_call (hpg _)
        repeat still_step
        refine wpStill_nil ?_
        have HLf : Hid (Calls Try.prog 33 #[.slice (some ⟨xg, 0, none⟩) n n] (w12.setCell ⟨xg, kf, none⟩ (.int .u8 (y.toNat : Int))).drew fun e w' => e = .returned (.tuple #[.pointer none, .int .i64 11, .int .i64 0]) ∧ Same [] (w12.setCell ⟨xg, kf, none⟩ (.int .u8 (y.toNat : Int))).drew w') := hLf
        clear hLf
        have hy3 : ((x8 : Int) + 1 + (pg : Int)) % 256 = (y.toNat : Int) := by rw [← IntKind.wrap_u8]; exact hy1
        clear hy1 hy2
        go_wp2_with fail
        try rw [hy3]
        refine HLf.out.mono ?_
        rintro e w13 ⟨rfl, S13⟩
        have HB : Hid (Below w.heap.size w w13) := by
          have h1 : Same [] w (w12.setCell ⟨xg, kf, none⟩ (.int .u8 (y.toNat : Int))).drew := (HS12.out.1.set xg kf _ (fun h => by have := HS12.out.2; omega)).drew
          exact (h1.step S13 (by simp)).below (Nat.le_refl _) (by simp)
        clear S13 HLf
        go_wp2
        go_ret
        exact ⟨rfl, HB.out⟩
end PartAgainC
end Go.Proofs.Ytpddgdjocffgdaa
