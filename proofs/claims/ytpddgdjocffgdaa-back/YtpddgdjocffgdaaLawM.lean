/- The statement Back, by a contract. -/
import Derived.Test.YtpddgdjocffgdaaLawL
import Derived.Deep.RegionHeld3
namespace Go.Proofs.Ytpddgdjocffgdaa
open Go.RowKit Go.Sort
set_option linter.unusedVariables false
set_option linter.unusedSimpArgs false
set_option linter.unusedSectionVars false
variable [DecidableEq Blk] [Inhabited Blk]
variable [Inhabited Vol]

theorem tdiv_bdn (c n : Int) (hn : 1 ≤ n) (h1 : -9223372036854775808 ≤ c) (h2 : c ≤ 9223372036854775807) : -9223372036854775808 ≤ c.tdiv n ∧ c.tdiv n ≤ 9223372036854775807 := by
  rcases Int.le_total 0 c with h | h
  · have a := Int.tdiv_nonneg h (by omega : (0 : Int) ≤ n)
    have b := Int.tdiv_le_self n h
    omega
  · have a := Int.tdiv_nonneg (show (0 : Int) ≤ -c by omega) (by omega : (0 : Int) ≤ n)
    have b := Int.tdiv_le_self n (show (0 : Int) ≤ -c by omega)
    rw [Int.neg_tdiv] at a b
    omega

/-- A Pool that the law made, at some point of its run. -/
structure Held (w : World) (pb : Nat) (wr : World) (s : St) (fr : List Nat) : Prop where
  pb : s.pb = pb
  pool : PoolAt wr s
  good : Good s fr
  foot : ∀ k ∈ s.foot, w.heap.size ≤ k
  same : Same [] w wr

theorem Held.next {w : World} {pb : Nat} {wr w' : World} {s s' : St} {fr fr' : List Nat} (h : Held w pb wr s fr) (hA : After wr s w' s' fr') : Held w pb w' s' fr' := by
  have hz := h.same.size
  refine ⟨hA.pb.trans h.pb, hA.pool, hA.good, fun k hk => ?_, h.same.step hA.same fun k hk hl => by have := h.foot k hk; omega⟩
  rcases hA.foot k hk with e | e
  · exact h.foot k e
  · omega
theorem Held.new {w : World} {pb : Nat} {wr w' : World} {s : St} {fr : List Nat} (h : Held w pb wr s fr) (hs : Same [] wr w') : Held w pb w' s fr :=
  h.next ((After.start h.pool h.good).new hs)

set_option maxHeartbeats 2000000 in
set_option maxRecDepth 100000 in
theorem back_calls (sz : Int) (a : Option Addr) (b off len cap : Nat) (zs : List Int) (a2 : Option Addr) (b2 off2 len2 cap2 : Nat) (zs2 : List Int) (w : World) (s1 : -9223372036854775808 ≤ sz) (s2 : sz ≤ 9223372036854775807)
    (ha : 0 < len → a = some ⟨b, off, none⟩) (hb : 0 < len → b < w.heap.size) (hm : len ≤ 9223372036854775807)
    (hc : ∀ t, t < len → w.cell? ⟨b, off + t, none⟩ = some (.int .i64 (zs.getD t 0))) (hz : ∀ t, -9223372036854775808 ≤ zs.getD t 0 ∧ zs.getD t 0 ≤ 9223372036854775807)
    (ha2 : 0 < len2 → a2 = some ⟨b2, off2, none⟩) (hb2 : 0 < len2 → b2 < w.heap.size) (hm2 : len2 ≤ 9223372036854775807)
    (hc2 : ∀ t, t < len2 → w.cell? ⟨b2, off2 + t, none⟩ = some (.int .i64 (zs2.getD t 0))) (hz2 : ∀ t, -9223372036854775808 ≤ zs2.getD t 0 ∧ zs2.getD t 0 ≤ 9223372036854775807) :
    Calls Try.prog 8 #[.int .i64 sz, .slice a len cap, .slice a2 len2 cap2] w fun e w' => e = .returned (.bool true) ∧ Below w.heap.size w w' := by
  have hnot := runNot
  have hps := fun W => pick_calls sz 20 W s1 s2 (by omega) (by omega)
  have hbs := pickF_bd sz 20 (by omega)
  obtain ⟨q1, hq1⟩ : ∃ q : Nat, pickF sz 20 = (q : Int) := ⟨(pickF sz 20).toNat, by omega⟩
  rw [hq1] at hps hbs
  have hw1 : IntKind.i64.wrap (1 + (q1 : Int)) = ((q1 + 1 : Nat) : Int) := by rw [IntWalk.i64_in _ (by omega)]; omega
  clear hq1
  go_enter Try.func8, Try.ntmps8
  go_wp2_with fail
  refine (opened_calls w).mono ?_
  rintro e w1 ⟨pb, rfl, hO⟩
  obtain ⟨⟨s, fr, e1, h1, h2, h3, h4, h5⟩, S⟩ := hO
  have hH1 : Held w pb w1 s fr := ⟨e1, h1, h2, h5, S⟩
  go_wp2_with fail
  refine (hps _).mono ?_
  rintro e wz ⟨rfl, rfl⟩
  clear hps
  go_wp2_with fail
  obtain ⟨size, hsize⟩ : ∃ size : Nat, (q1 : Int) + 1 = (size : Nat) := ⟨q1 + 1, by omega⟩
  rw [hsize]
  have hs20 : 1 ≤ size ∧ size ≤ 20 := by omega
  clear hsize hbs hw1
  have hCr := create_v s fr size wz h1 h2 h3 h4 hs20
  rw [e1] at hCr
  refine hCr.mono ?_
  rintro e w2 ⟨rfl, s', fr', hA2, hO2⟩
  have hH2 := hH1.next hA2
  have hO2 := hO2.weak
  clear hCr hA2 hH1 h1 h2 h3 h4 h5 S e1
  go_wp2_with fail
  go_loopw [8, 9] (fun ev i wr => ∃ (k : Nat) (s : St) (fr : List Nat), k ≤ len ∧ k ≤ 60 ∧ ev = .int .i64 0 ∧ i = .int .i64 k ∧ Held w pb wr s fr ∧ OneW s fr size)
    (fun _ i _ => 60 - (intOf i).toNat)
  case atStart => exact ⟨0, s', fr', Nat.zero_le _, by omega, rfl, rfl, hH2, hO2⟩
  case round =>
    clear hH2 hO2
    obtain ⟨k, s, fr, hk, hk6, rfl, rfl, hI, hO⟩ := hrel
    by_cases hkl : k < len ∧ k < 60
    · obtain ⟨hkl, hk60⟩ := hkl
      obtain rfl := ha (by omega)
      have hbw := hb (by omega)
      have HSS : Hid (∀ W, Same [] w W → W.cell? ⟨b, off + k, none⟩ = some (.int .i64 (zs.getD k 0))) := fun W hW => by
        rw [(hW.below (Nat.le_refl _) (by simp)).cell hbw]; exact hc k hkl
      have cz := HSS.out wr hI.same
      obtain ⟨z1, z2⟩ := hz k
      generalize zs.getD k 0 = z at *
      have l1 : (k : Int) < (len : Int) := by omega
      have hPk := fun W => pick_calls z size W z1 z2 (by omega) (by omega)
      have hbk := pickF_bd z size (by omega)
      obtain ⟨kk, hkk⟩ : ∃ kk : Nat, pickF z size = (kk : Int) := ⟨(pickF z size).toNat, by omega⟩
      rw [hkk] at hPk hbk
      have hkks : kk < size := by omega
      obtain ⟨t1, t2⟩ := tdiv_bdn z 20 (by omega) z1 z2
      have hw20 : IntKind.i64.wrap (z.tdiv 20) = z.tdiv 20 := IntWalk.i64_in _ (by omega)
      have hBk := fun W => kblock_calls (z.tdiv 20) W t1 t2
      have hWr := fun W (hW : Held w pb W s fr) => oneWrite s fr size kk (blkOf (z.tdiv 20)) W hW.pool hW.good hO hkks
      rw [hI.pb] at hWr
      generalize blkOf (z.tdiv 20) = x at *
      obtain ⟨x0, x1, x2, x3, x4, x5, x6, x7⟩ := x
      unfold Blk.val at hBk hWr
      clear hkk
      have HI : Hid (Held w pb wr s fr) := hI
      clear hI hO
      go_wp2_with fail
      go_region_held3 (fun w' => w'.cell? ⟨b, off + k, none⟩ = some (.int .i64 z)) (first | assumption | exact cz) (first | (go_at_call 16; refine (hPk _).mono ?_; rintro e w' ⟨rfl, rfl⟩) | (go_at_call 24; refine (hBk _).mono ?_; rintro e w3 ⟨rfl, S3⟩; have hH3 := HI.out.new (((Same.refl [] wr).drew).step S3 (by simp)); have hk3 := HSS.out w3 hH3.same) | (go_at_call 27; refine (hWr w3 hH3).mono ?_; rintro e w5 ⟨rfl, s5, hA5, hO5⟩; have hH5 := hH3.next hA5; have hk5 := HSS.out w5 hH5.same))
      all_goals
        have HH5 : Hid (Held w pb w5 s5 fr ∧ OneW s5 fr size) := ⟨hH5, hO5⟩
        clear hH5 hO5 hA5 hH3 HI hWr hBk hPk S3 HSS
        go_wp2
        go_roundw
        case rel => exact ⟨k + 1, s5, fr, by omega, by omega, rfl, by go_num, HH5.out.1, HH5.out.2⟩
        case measure => simp [intOf]; omega
    · have hstop : (len : Int) ≤ (k : Int) ∨ ((k : Int) < (len : Int) ∧ (60 : Int) ≤ (k : Int)) := by omega
      have hPc := picture_two s fr size wr hI.pool hI.good hO hs20
      rw [hI.pb] at hPc
      have HI : Hid (Held w pb wr s fr) := hI
      clear hkl hk hk6 hI hO ha hb hm hc hz
      rcases hstop with hst | ⟨hst, hst2⟩
      all_goals
        go_wp2_with fail
        refine hPc.mono ?_
        rintro e w3 ⟨rfl, s3, fr3, hA3, hB3⟩
        have hH3 := HI.out.next hA3
        clear hPc hA3 HI
        go_wp2_with fail
        go_loopw [8, 11] (fun ev i wr => ∃ (j : Nat) (s : St) (fr : List Nat), j ≤ len2 ∧ j ≤ 60 ∧ ev = .int .i64 0 ∧ i = .int .i64 j ∧ Held w pb wr s fr ∧ BackInv s fr size)
          (fun _ i _ => 60 - (intOf i).toNat)
        case atStart => exact ⟨0, s3, fr3, Nat.zero_le _, by omega, rfl, rfl, hH3, hB3⟩
        case round =>
          clear hH3 hB3
          obtain ⟨j, s, fr, hj, hj6, rfl, rfl, hI, hB⟩ := hrel
          by_cases hjl : j < len2 ∧ j < 60
          · obtain ⟨hjl, hj60⟩ := hjl
            obtain rfl := ha2 (by omega)
            have hbw := hb2 (by omega)
            have HSS : Hid (∀ W, Same [] w W → W.cell? ⟨b2, off2 + j, none⟩ = some (.int .i64 (zs2.getD j 0))) := fun W hW => by
              rw [(hW.below (Nat.le_refl _) (by simp)).cell hbw]; exact hc2 j hjl
            have cz := HSS.out wr hI.same
            obtain ⟨z1, z2⟩ := hz2 j
            generalize zs2.getD j 0 = z at *
            have l1 : (j : Int) < (len2 : Int) := by omega
            have hPk := fun W => pick_calls z size W z1 z2 (by omega) (by omega)
            have hbk := pickF_bd z size (by omega)
            obtain ⟨kk, hkk⟩ : ∃ kk : Nat, pickF z size = (kk : Int) := ⟨(pickF z size).toNat, by omega⟩
            rw [hkk] at hPk hbk
            have hkks : kk < size := by omega
            obtain ⟨t1, t2⟩ := tdiv_bdn z 20 (by omega) z1 z2
            have hw20 : IntKind.i64.wrap (z.tdiv 20) = z.tdiv 20 := IntWalk.i64_in _ (by omega)
            obtain ⟨t3, t4⟩ := tdiv_bdn z 180 (by omega) z1 z2
            have hw180 : IntKind.i64.wrap (z.tdiv 180) = z.tdiv 180 := IntWalk.i64_in _ (by omega)
            have hP3 := fun W => pick_calls (z.tdiv 180) 3 W t3 t4 (by omega) (by omega)
            have hBk := fun W => kblock_calls (z.tdiv 20) W t1 t2
            have hWv := fun W (hW : Held w pb W s fr) => backWriteV s fr size kk (blkOf (z.tdiv 20)) W hW.pool hW.good hB hkks
            have hWp := fun W (hW : Held w pb W s fr) => backWriteP s fr size kk (blkOf (z.tdiv 20)) W hW.pool hW.good hB hkks
            rw [hI.pb] at hWv hWp
            generalize blkOf (z.tdiv 20) = x at *
            generalize pickF (z.tdiv 180) 3 = q3 at *
            obtain ⟨x0, x1, x2, x3, x4, x5, x6, x7⟩ := x
            unfold Blk.val at hBk hWv hWp
            clear hkk
            have HI : Hid (Held w pb wr s fr) := hI
            clear hI hB
            by_cases hq3 : q3 = 0
            · subst hq3
              go_wp2_with (go_at_call 16; refine (hP3 _).mono ?_; rintro e w' ⟨rfl, hw⟩; obtain rfl := hw.symm)
              go_region_held3 (fun w' => w'.cell? ⟨b2, off2 + j, none⟩ = some (.int .i64 z)) (first | assumption | exact cz) (first | (go_at_call 16; refine (hPk _).mono ?_; rintro e w' ⟨rfl, rfl⟩) | (go_at_call 24; refine (hBk _).mono ?_; rintro e w4 ⟨rfl, S4⟩; have hH4 := HI.out.new (((Same.refl [] wr).drew).step S4 (by simp)); have hk4 := HSS.out w4 hH4.same) | (go_at_call 27; refine (hWp w4 hH4).mono ?_; rintro e w5 ⟨rfl, s5, hA5, hB5⟩; have hH5 := hH4.next hA5; have hk5 := HSS.out w5 hH5.same))
              all_goals
                have HH5 : Hid (Held w pb w5 s5 fr ∧ BackInv s5 fr size) := ⟨hH5, hB5⟩
                clear hH5 hB5 hA5 hH4 HI hWv hWp hBk hPk S4 HSS hP3
                go_wp2
                go_roundw
                case rel => exact ⟨j + 1, s5, fr, by omega, by omega, rfl, by go_num, HH5.out.1, HH5.out.2⟩
                case measure => simp [intOf]; omega
            · have hq3' : (q3 == 0) = false := by simpa using hq3
              go_wp2_with (go_at_call 16; refine (hP3 _).mono ?_; rintro e w' ⟨rfl, hw⟩; obtain rfl := hw.symm)
              go_region_held3 (fun w' => w'.cell? ⟨b2, off2 + j, none⟩ = some (.int .i64 z)) (first | assumption | exact cz) (first | (go_at_call 16; refine (hPk _).mono ?_; rintro e w' ⟨rfl, rfl⟩) | (go_at_call 24; refine (hBk _).mono ?_; rintro e w4 ⟨rfl, S4⟩; have hH4 := HI.out.new (((Same.refl [] wr).drew).step S4 (by simp)); have hk4 := HSS.out w4 hH4.same) | (go_at_call 27; refine (hWv w4 hH4).mono ?_; rintro e w5 ⟨rfl, s5, hA5, hB5⟩; have hH5 := hH4.next hA5; have hk5 := HSS.out w5 hH5.same))
              all_goals
                have HH5 : Hid (Held w pb w5 s5 fr ∧ BackInv s5 fr size) := ⟨hH5, hB5⟩
                clear hH5 hB5 hA5 hH4 HI hWv hWp hBk hPk S4 HSS hP3
                go_wp2
                go_roundw
                case rel => exact ⟨j + 1, s5, fr, by omega, by omega, rfl, by go_num, HH5.out.1, HH5.out.2⟩
                case measure => simp [intOf]; omega
          · have hstop2 : (len2 : Int) ≤ (j : Int) ∨ ((j : Int) < (len2 : Int) ∧ (60 : Int) ≤ (j : Int)) := by omega
            have h2 := hB.two
            obtain ⟨v1, v2, v3, v4⟩ := h2.vol
            have hT1 := ktold_ok (.pointer (some ⟨pb, 0, none⟩)) ⟨#[112, 105, 99]⟩ size (fun q => s.look (s.vols[0]!) q) wr (by omega) (fun W hW i hi => by
              have hP := hI.pool.new hW
              have hmem := (St.has_mem v1).1
              have hks : i < s.size (s.vol picN) := by rw [v3, (two_size hI.pool h2).2]; exact hi
              have hR := read_some s picN i W hP v1 (by rw [v3]; exact hB.lost) hks (holder_lt hP hI.good hmem hks)
              rw [v3, hI.pb] at hR
              exact hR)
            have HW : Hid (∀ s5 fr5, OneW s5 fr5 size → (∀ q, q < size → s5.look (s5.vol vN) q = s.look (s.vols[0]!) q) → (List.range size).map (fun q => s5.look (s5.vol vN) q) = (List.range size).map (fun q => s.look (s.vols[0]!) q)) := fun s5 fr5 _ h => List.map_congr_left (fun q hq => h q (List.mem_range.1 hq))
            have hWl : ((List.range size).map (fun q => s.look (s.vols[0]!) q)).length = size := by simp
            have HI : Hid (Held w pb wr s fr ∧ BackInv s fr size) := ⟨hI, hB⟩
            have hflt := hI.pool.foot_lt
            clear hjl hj hj6 hI hB h2 v1 v2 v3 v4 ha2 hb2 hm2 hc2 hz2
            generalize hWL : (List.range size).map (fun q => s.look (s.vols[0]!) q) = WL at *
            clear hWL
            rcases hstop2 with hst3 | ⟨hst3, hst4⟩
            all_goals
              go_wp2_with fail
              refine hT1.mono ?_
              rintro e w4 ⟨wv, rfl, hown1, S4⟩
              obtain ⟨wa, wc, rfl⟩ := owns_form hown1
              have hH4 := HI.out.1.new S4
              have hRv := backRevert s fr size w4 hH4.pool hH4.good HI.out.2 hs20.2
              rw [hH4.pb] at hRv
              clear hT1
              go_wp2_with fail
              refine hRv.mono ?_
              rintro e w5 ⟨rfl, s5, fr5, hA5, hO5, hlk5⟩
              have hH5 := hH4.next hA5
              obtain ⟨f1, f2, f3, f4, f5, f6⟩ := hO5.facts
              have hT2 := ktold_ok (.pointer (some ⟨pb, 0, none⟩)) ⟨#[118]⟩ size (fun q => s5.look (s5.vol vN) q) w5 (by omega) (fun W hW i hi => by
                have hP := hH5.pool.new hW
                have hmem := (St.has_mem f1).1
                have eo := (hP.orgOf hmem).2.2.1 f2
                have hks : i < s5.size (s5.vol vN) := by unfold St.size; rw [eo, f3]; exact hi
                have hR := read_some s5 vN i W hP f1 ((hP.vols _ hmem).plain f2).2 hks (holder_lt hP hH5.good hmem hks)
                rw [hH5.pb] at hR
                exact hR)
              rw [HW.out s5 fr5 hO5 hlk5] at hT2
              obtain ⟨ga, ca, rfl, hga, hA1, hcl1, hct1⟩ := owns_atN hown1 (by omega)
              have hA1' := hA5.same.at hA1 (fun hm => by have := hflt _ hm; omega)
              have hm5 : (s5.m : Int) = 200 - (size : Int) := by
                have e1 := hH5.good.heap.len
                have e2 := hO5.free
                omega
              have hno : s5.has picN = false := by
                unfold St.has; rw [f5]
                have a := v_pic
                have b : cmpB vN picN ≠ 0 := fun e => by have := (cmpB_zero _ _).1 e; exact absurd this (by decide +kernel)
                simp [isIn, posOf, a, b]
              clear hRv hlk5 hown1 hA1 HW
              go_wp2_with fail
              refine hT2.mono ?_
              rintro e w6 ⟨lv, rfl, hown2, S6⟩
              obtain ⟨la, lc, rfl⟩ := owns_form hown2
              obtain ⟨gb, cb, rfl, hgb, hA2, hcl2, hct2⟩ := owns_atN hown2 (by omega)
              have hSM := ksame_calls WL WL (some ⟨gb, 0, none⟩) (some ⟨ga, 0, none⟩) lc wc w6 gb ga cb ca (fun _ => ⟨rfl, hA2⟩) (by rw [hWl]; exact hct2) (fun _ => ⟨rfl, S6.at hA1' (by simp)⟩) (by rw [hWl]; exact hct1) (by omega) rfl
              rw [hWl, decide_eq_true rfl] at hSM
              have hH6 := hH5.new S6
              have hRm := fun q => remove_none s5 picN (w6.drewN q) (hH6.pool.new ((Same.refl [] w6).drewN q)) hno
              have hFr := fun q => free_calls s5 (w6.drewN q) (hH6.pool.new ((Same.refl [] w6).drewN q))
              rw [hH6.pb] at hRm hFr
              have hB6 := hH6.same
              have hsub : IntKind.i64.wrap (200 - (size : Int)) = 200 - (size : Int) := IntWalk.i64_in _ (by omega)
              rw [hm5] at hFr
              clear hT2 hown2 hA2 hA1' hH6 hH5 hA5 hO5 hH4 HI f1 f2 f3 f4 f5 f6
              go_wp2_with (first | (go_at_call 29; refine hSM.mono ?_; rintro e w7 ⟨q, rfl, hw7⟩; subst hw7) | (go_at_call 20; refine (hRm q).mono ?_; rintro e w8 ⟨rfl, hw8⟩; subst hw8) | (go_at_call 23; refine (hFr q).mono ?_; rintro e w9 ⟨rfl, hw9⟩; subst hw9))
              go_ret
              exact ⟨by simp, (hB6.drewN q).below (Nat.le_refl _) (by simp)⟩
end Go.Proofs.Ytpddgdjocffgdaa
