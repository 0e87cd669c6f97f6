/- The statement Shared, by a contract. -/
import Derived.Test.YtpddgdjocffgdaaLawE
namespace Go.Proofs.Ytpddgdjocffgdaa
open Go.RowKit Go.Sort
set_option linter.unusedVariables false
set_option linter.unusedSimpArgs false
set_option linter.unusedSectionVars false
variable [DecidableEq Blk] [Inhabited Blk]
variable [Inhabited Vol]

set_option maxHeartbeats 800000 in
set_option maxRecDepth 100000 in
theorem shared_calls (a : Option Addr) (b off len cap : Nat) (zs : List Int) (w : World) (ha : 0 < len → a = some ⟨b, off, none⟩) (hb : 0 < len → b < w.heap.size) (hm : len ≤ 9223372036854775807)
    (hc : ∀ t, t < len → w.cell? ⟨b, off + t, none⟩ = some (.int .i64 (zs.getD t 0))) (hz : ∀ t, -9223372036854775808 ≤ zs.getD t 0 ∧ zs.getD t 0 ≤ 9223372036854775807) :
    Calls Try.prog 5 #[.slice a len cap] w fun e w' => e = .returned (.bool true) ∧ Below w.heap.size w w' := by
  have hnot := runNot
  go_enter Try.func5, Try.ntmps5
  go_wp2_with fail
  refine (opened_calls w).mono ?_
  rintro e w1 ⟨pb, rfl, hO⟩
  have hR0 : Round w pb w1 := by
    obtain ⟨⟨s, fr, e1, h1, h2, h3, h4, h5⟩, S⟩ := hO
    exact ⟨s, fr, e1, h1, h2, h3, by rw [h4]; simp, h5, S, by rw [h4]; simp⟩
  clear hO
  go_wp2_with fail
  go_loopw [4] (fun i wr => ∃ k : Nat, k ≤ len ∧ k ≤ 60 ∧ i = .int .i64 k ∧ Round w pb wr) (fun i _ => 60 - (intOf i).toNat)
  case atStart => exact ⟨0, Nat.zero_le _, by omega, rfl, hR0⟩
  case round =>
    clear hR0
    obtain ⟨k, hk, hk6, rfl, s, fr, hI⟩ := hrel
    by_cases hkl : k < len ∧ k < 60
    · obtain ⟨hkl, hk60⟩ := hkl
      obtain rfl := ha (by omega)
      have hbw := hb (by omega)
      have cz : wr.cell? ⟨b, off + k, none⟩ = some (.int .i64 (zs.getD k 0)) := by
        rw [(hI.same.below (Nat.le_refl _) (by simp)).cell hbw]; exact hc k hkl
      obtain ⟨z1, z2⟩ := hz k
      generalize zs.getD k 0 = z at *
      have l1 : (k : Int) < (len : Int) := by omega
      have hP6 := pick_calls z 6 wr z1 z2 (by omega) (by omega)
      go_wp2_with fail
      refine hP6.mono ?_
      rintro e wz ⟨rfl, rfl⟩
      have hb6 := pickF_bd z 6 (by omega)
      obtain ⟨r, hr⟩ : ∃ r : Nat, pickF z 6 = (r : Int) := ⟨(pickF z 6).toNat, by omega⟩
      rw [hr] at hb6 ⊢
      clear hP6
      have HR : Hid (pickF z 6 = (r : Int)) := hr
      clear hr
      have r6 : r < 6 := by omega
      have hcv := name_run r wz
      have hI1 := hI.next ((After.start hI.pool hI.good).new ((Same.refl [] wz).alloc (Obj.cells #[.int .u8 (97 + (r : Int))] 5))) hI.names hI.plain
      have cz1 : (wz.alloc (Obj.cells #[.int .u8 (97 + (r : Int))] 5)).cell? ⟨b, off + k, none⟩ = some (.int .i64 z) := by
        rw [World.cell?_alloc_past _ _ _ (by have := hI.same.size; omega)]; exact cz
      generalize hnmr : nm r = t at *
      have ht6 : t ∈ six := by rw [← hnmr]; exact nm_six r r6
      have htn : nameB t = true := by rw [← hnmr]; exact nm_name r r6
      clear hnmr
      go_wp2_with fail
      generalize wz.alloc (Obj.cells #[.int .u8 (97 + (r : Int))] 5) = w2 at *
      clear hcv cz
      obtain ⟨t1, t2⟩ := tdiv_bd z 6 (by omega) z1 z2
      have hP50 := pick_calls (z.tdiv 6) 50 w2 t1 t2 (by omega) (by omega)
      refine hP50.mono ?_
      rintro e wz2 ⟨rfl, rfl⟩
      have hb50 := pickF_bd (z.tdiv 6) 50 (by omega)
      generalize pickF (z.tdiv 6) 50 = q at *
      clear hP50 t1 t2
      have hAll := all_calls s fr wz2 hI1.pool hI1.good (by rw [hI1.n]; omega) hI1.plain
      rw [hI1.pb] at hAll
      go_wp2_with fail
      refine hAll.mono ?_
      rintro e w3 ⟨uv, rfl, hown, S3⟩
      clear hAll
      obtain ⟨ua, ucap, rfl⟩ := owns_form hown
      obtain ⟨ug, hug, husl⟩ := owns_sl hown rfl
      have hug3 : ug < w3.heap.size ∨ flatX s.vols = [] := by
        obtain ⟨_, _, _, hx⟩ := husl.ex
        by_cases he : flatX s.vols = []
        · exact Or.inr he
        · obtain ⟨_, cs, hr⟩ := hx he; exact Or.inl hr.at_.lt
      have hI3 := hI1.next ((After.start hI1.pool hI1.good).new S3) hI1.names hI1.plain
      have cz3 : w3.cell? ⟨b, off + k, none⟩ = some (.int .i64 z) := by
        rw [(S3.below (Nat.le_refl _) (by simp)).cell (by have := hI1.same.size; simp; omega)]; exact cz1
      have hcnt := hI1.good.count
      rw [hI1.n] at hcnt
      have hufoot : ug ∉ s.foot := fun hm => by have := hI1.pool.foot_lt ug hm; omega
      have hlenu : (flatX s.vols).length ≤ 200 := by omega
      have HS : Hid (SlAt w3 (Value.slice ua (flatX s.vols).length ucap) ug (flatX s.vols)) := husl
      clear hown cz1 husl S3
      generalize hU : (flatX s.vols).length = U at *
      have HU : Hid ((flatX s.vols).length = U) := hU
      clear hU
      go_wp2_with fail
      cases hhas : s.has t with
      | false =>
        have hM := map_none s t w3 hI3.pool hhas
        rw [hI3.pb] at hM
        refine hM.mono ?_
        rintro e w4 ⟨rfl, rfl⟩
        clear hM
        by_cases hfull : fr.length < (1 + q).toNat
        · have hC := create_fits s fr t (1 + q) w4 hI3.pool hI3.good htn hhas (by omega) hI3.few hfull hI3.plain
          rw [hI3.pb] at hC
          go_wp2_with fail
          refine hC.mono ?_
          rintro e w5 ⟨rfl, s5, fr5, hA5, hN5⟩
          have hI5 : Round w pb w5 := ⟨s5, fr5, hI3.next hA5 (fun v hv => by
            rcases hN5.1 v hv with e | ⟨u, hu, e⟩
            · rw [e]; exact ht6
            · rw [← e]; exact hI3.names u hu) hN5.2⟩
          have g1 : (0 : Int) < 1 + q := by omega
          have g2 : 200 - (U : Int) < 1 + q := by omega
          clear hC hA5 hN5 hI3 hI1 hI hhas
          go_wp2_with fail
          go_roundw
          case rel => exact ⟨k + 1, by omega, by omega, by go_num, hI5⟩
          case measure => simp [intOf]; omega
        · have hC := create_grew s fr t (1 + q) w4 hI3.pool hI3.good htn hhas (by omega) hI3.few (by omega) hI3.plain
          rw [hI3.pb] at hC
          go_wp2_with fail
          refine hC.mono ?_
          rintro e w5 ⟨rfl, s5, fr5, hA5, hGr, hN5⟩
          have hN6 : ∀ v ∈ s5.vols, v.name ∈ six := fun v hv => by
            rcases hN5.1 v hv with e | ⟨u, hu, e⟩
            · rw [e]; exact ht6
            · rw [← e]; exact hI3.names u hu
          have hI5 := hI3.next hA5 hN6 hN5.2
          have hus5 := HS.out.same hA5.same hufoot
          have hov : SlAt w5 (Value.slice none 0 0) 0 [] := ⟨none, 0, rfl, fun hne => absurd rfl hne⟩
          have hgr := fun p sz uv hp hsz => grown_fits s5 fr5 t w5 p (Value.slice none 0 0) uv sz 0 ug [] (flatX s.vols) hp hsz hI5.pool hI5.good hGr.has hI5.plain (by rw [hI5.n]; omega) hov
          have g1 : (0 : Int) < 1 + q := by omega
          have g2 : ¬ (200 - (U : Int) < 1 + q) := by omega
          have g3 : (1 + q == 0) = false := beq_eq_false_iff_ne.2 (by omega)
          clear hC hA5 hN5 hhas
          go_wp2_with fail
          refine (hgr _ _ _ (by rw [hI5.pb]) (by rw [hGr.len]; omega) hus5 (by simp) (by have := HU.out; omega) hGr.pre hGr.low hGr.zero).mono ?_
          rintro e w6 ⟨rfl, bl6, hA6⟩
          have hI6 : Round w pb w6 := ⟨_, fr5, hI5.next hA6 hN6 hI5.plain⟩
          clear hgr hA6 hI5 hI3 hI1 hI hGr hus5 hov HS
          go_wp2_with fail
          go_roundw
          case rel => exact ⟨k + 1, by omega, by omega, by go_num, hI6⟩
          case measure => simp [intOf]; omega
      | true =>
        have hM := map_some s t w3 hI3.pool hhas
        rw [hI3.pb] at hM
        have hvm := (St.has_mem hhas).1
        have hvp := (hI3.pool.vols _ hvm).pos
        have hvs := (hI3.pool.vols _ hvm).small
        refine hM.mono ?_
        rintro e w4 ⟨og, ocs, rfl, hog, hRo, S4⟩
        clear hM
        have hI4 := hI3.next ((After.start hI3.pool hI3.good).new S4) hI3.names hI3.plain
        have cz4 : w4.cell? ⟨b, off + k, none⟩ = some (.int .i64 z) := by
          rw [(S4.below (Nat.le_refl _) (by simp)).cell (by have := hI3.same.size; simp; omega)]; exact cz3
        have hofoot : og ∉ s.foot := fun hm => by have := hI3.pool.foot_lt og hm; omega
        have HS4 : Hid (SlAt w4 (Value.slice ua U ucap) ug (flatX s.vols)) := HS.out.same S4 (by simp)
        have HO4 : Hid (SlAt w4 (Value.slice (some ⟨og, 0, none⟩) (s.vol t).xs.length (s.vol t).xs.length) og (s.vol t).xs) := ⟨_, _, rfl, fun _ => ⟨rfl, ocs, hRo⟩⟩
        have hLp : 1 ≤ (s.vol t).xs.length := by cases hx : (s.vol t).xs <;> simp_all
        clear HS hRo S4 cz3 hI3 hvp
        generalize hL : (s.vol t).xs.length = L at *
        have HL : Hid ((s.vol t).xs.length = L) := hL
        clear hL
        obtain ⟨t3, t4⟩ := tdiv_bd z 300 (by omega) z1 z2
        have hP3 := pick_calls (z.tdiv 300) 3 w4 t3 t4 (by omega) (by omega)
        have hb3 := pickF_bd (z.tdiv 300) 3 (by omega)
        go_wp2_with fail
        refine hP3.mono ?_
        rintro e w4' ⟨rfl, rfl⟩
        clear hP3 t3 t4
        generalize pickF (z.tdiv 300) 3 = q3 at *
        by_cases hq3 : q3 = 0
        · subst hq3
          have hC := remove_fits s fr t w4' hI4.pool hI4.good hhas hI4.plain
          rw [hI4.pb] at hC
          go_wp2_with fail
          refine hC.mono ?_
          rintro e w5 ⟨rfl, s5, fr5, hA5, hN5⟩
          have hI5 : Round w pb w5 := ⟨s5, fr5, hI4.next hA5 (fun v hv => by
            rcases hN5.1 v hv with e | ⟨u, hu, e⟩
            · rw [e]; exact ht6
            · rw [← e]; exact hI4.names u hu) hN5.2⟩
          have g1 : ¬ ((L : Int) < 0) := by omega
          clear hC hA5 hN5 hI4 hI1 hI hhas HS4 HO4
          go_wp2_with fail
          go_roundw
          case rel => exact ⟨k + 1, by omega, by omega, by go_num, hI5⟩
          case measure => simp [intOf]; omega
        · have hq3' : (q3 == 0) = false := beq_eq_false_iff_ne.2 hq3
          by_cases hfull : L < (1 + q).toNat ∧ fr.length < (1 + q).toNat - L
          · have hC := resize_fits s fr t (1 + q) w4' hI4.pool hI4.good hhas (by omega) (by rw [HL.out]; exact hfull) hI4.plain
            rw [hI4.pb] at hC
            go_wp2_with fail
            refine hC.mono ?_
            rintro e w5 ⟨rfl, s5, fr5, hA5, hN5⟩
            have hI5 : Round w pb w5 := ⟨s5, fr5, hI4.next hA5 (fun v hv => by
              rcases hN5.1 v hv with e | ⟨u, hu, e⟩
              · rw [e]; exact ht6
              · rw [← e]; exact hI4.names u hu) hN5.2⟩
            have g1 : (L : Int) < 1 + q := by omega
            have g2 : 200 - (U : Int) < 1 + q - (L : Int) := by omega
            clear hC hA5 hN5 hI4 hI1 hI hhas HS4 HO4
            go_wp2_with fail
            go_roundw
            case rel => exact ⟨k + 1, by omega, by omega, by go_num, hI5⟩
            case measure => simp [intOf]; omega
          · have hC := resize_grew s fr t (1 + q) w4' hI4.pool hI4.good hhas (by omega) (by rw [HL.out]; omega) hI4.plain
            rw [hI4.pb] at hC
            go_wp2_with fail
            refine hC.mono ?_
            rintro e w5 ⟨rfl, s5, fr5, hA5, hGr, hN5⟩
            have hN6 : ∀ v ∈ s5.vols, v.name ∈ six := fun v hv => by
              rcases hN5.1 v hv with e | ⟨u, hu, e⟩
              · rw [e]; exact ht6
              · rw [← e]; exact hI4.names u hu
            have hI5 := hI4.next hA5 hN6 hN5.2
            have hus5 := HS4.out.same hA5.same hufoot
            have hov : SlAt w5 (Value.slice (some ⟨og, 0, none⟩) L L) og (s.vol t).xs := HO4.out.same hA5.same hofoot
            have hgr := fun p sz uv hp hsz => grown_fits s5 fr5 t w5 p (Value.slice (some ⟨og, 0, none⟩) L L) uv sz og ug (s.vol t).xs (flatX s.vols) hp hsz hI5.pool hI5.good hGr.has hI5.plain (by rw [hI5.n]; omega) hov
            have g3 : (1 + q == 0) = false := beq_eq_false_iff_ne.2 (by omega)
            clear hC hA5 hN5 hhas
            by_cases hbig : (L : Int) < 1 + q
            · have g2 : ¬ (200 - (U : Int) < 1 + q - (L : Int)) := by omega
              go_wp2_with fail
              refine (hgr _ _ _ (by rw [hI5.pb]) (by rw [hGr.len]; omega) hus5 (by rw [HL.out]; omega) (by have := HU.out; omega) hGr.pre hGr.low hGr.zero).mono ?_
              rintro e w6 ⟨rfl, bl6, hA6⟩
              have hI6 : Round w pb w6 := ⟨_, fr5, hI5.next hA6 hN6 hI5.plain⟩
              clear hgr hA6 hI5 hI4 hI1 hI hGr hus5 hov HS4 HO4
              go_wp2_with fail
              go_roundw
              case rel => exact ⟨k + 1, by omega, by omega, by go_num, hI6⟩
              case measure => simp [intOf]; omega
            · have hbig' : decide ((L : Int) < 1 + q) = false := decide_eq_false hbig
              go_wp2_with fail
              refine (hgr _ _ _ (by rw [hI5.pb]) (by rw [hGr.len]; omega) hus5 (by rw [HL.out]; omega) (by have := HU.out; omega) hGr.pre hGr.low hGr.zero).mono ?_
              rintro e w6 ⟨rfl, bl6, hA6⟩
              have hI6 : Round w pb w6 := ⟨_, fr5, hI5.next hA6 hN6 hI5.plain⟩
              clear hgr hA6 hI5 hI4 hI1 hI hGr hus5 hov HS4 HO4
              go_wp2_with fail
              go_roundw
              case rel => exact ⟨k + 1, by omega, by omega, by go_num, hI6⟩
              case measure => simp [intOf]; omega
    · clear hc hz
      have hAll := all_calls s fr wr hI.pool hI.good (by rw [hI.n]; omega) hI.plain
      rw [hI.pb] at hAll
      have hcnt := hI.good.count
      rw [hI.n] at hcnt
      have hlen := hI.good.heap.len
      have hex : (k : Int) < (len : Int) → ¬ ((k : Int) < 60) := by omega
      by_cases hkl2 : k < len
      · have hk60 : ¬ (k < 60) := by omega
        have l1 : (k : Int) < (len : Int) := by omega
        have l2 : ¬ ((k : Int) < 60) := by omega
        clear hex
        go_wp2_with fail
        refine hAll.mono ?_
        rintro e w3 ⟨uv, rfl, hown, S3⟩
        clear hAll
        have hI3 := hI.next ((After.start hI.pool hI.good).new S3) hI.names hI.plain
        have hF := free_calls s w3 hI3.pool
        rw [hI3.pb] at hF
        have hS := hI3.same
        obtain ⟨ua, ucap, rfl⟩ := owns_form hown
        have hm : (s.m : Int) = 200 - ((flatX s.vols).length : Int) := by omega
        have hm1 : (flatX s.vols).length ≤ 200 := by omega
        clear hown
        generalize (flatX s.vols).length = U at *
        have hm2 : ((s.m : Int) == 200 - (U : Int)) = true := beq_iff_eq.2 hm
        have HM : Hid ((s.m : Int) = 200 - (U : Int)) := hm
        clear hm
        go_wp2_with (go_at_call 23; refine hF.mono ?_; rintro e w4 ⟨rfl, rfl⟩)
        go_ret
        exact ⟨rfl, hS.below (Nat.le_refl _) (by simp)⟩
      · have hk60 : k ≤ 60 := hk6
        have l1 : ¬ ((k : Int) < (len : Int)) := by omega
        clear hex
        go_wp2_with fail
        refine hAll.mono ?_
        rintro e w3 ⟨uv, rfl, hown, S3⟩
        clear hAll
        have hI3 := hI.next ((After.start hI.pool hI.good).new S3) hI.names hI.plain
        have hF := free_calls s w3 hI3.pool
        rw [hI3.pb] at hF
        have hS := hI3.same
        obtain ⟨ua, ucap, rfl⟩ := owns_form hown
        have hm : (s.m : Int) = 200 - ((flatX s.vols).length : Int) := by omega
        have hm1 : (flatX s.vols).length ≤ 200 := by omega
        clear hown
        generalize (flatX s.vols).length = U at *
        have hm2 : ((s.m : Int) == 200 - (U : Int)) = true := beq_iff_eq.2 hm
        have HM : Hid ((s.m : Int) = 200 - (U : Int)) := hm
        clear hm
        go_wp2_with (go_at_call 23; refine hF.mono ?_; rintro e w4 ⟨rfl, rfl⟩)
        go_ret
        exact ⟨rfl, hS.below (Nat.le_refl _) (by simp)⟩
end Go.Proofs.Ytpddgdjocffgdaa
