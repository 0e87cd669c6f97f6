/- A Pool: writeVolume, by a contract. -/
import Derived.Test.YtpddgdjocffgdaaPoolU
namespace Go.Proofs.Ytpddgdjocffgdaa
open Go.RowKit Go.Sort
set_option linter.unusedVariables false
set_option linter.unusedSimpArgs false
set_option linter.unusedSectionVars false
variable [DecidableEq Blk] [Inhabited Blk]
variable [Inhabited Vol]

set_option maxHeartbeats 4000000 in
set_option maxRecDepth 100000 in
theorem writeVolume_calls (s : St) (fr : List Nat) (iu : Nat) (u : Vol) (k : Nat) (b : Blk) (w : World) (bv : Value) (hbv : bv = b.val) (h : PoolAt w s) (hG : Good s fr) (hiu : iu < s.vols.length) (hu : s.vols[iu]! = u) (hu0 : u.org = none) (hk : k < u.xs.length) :
    Calls Try.prog 66 #[.pointer (some ⟨s.pb, 0, none⟩), .pointer (some ⟨u.vb, 0, none⟩), .int .i64 k, bv] w fun e w' => e = .returned (.tuple #[]) ∧
      ∃ s1, Kept s s1 k (fun v => v.org = some u.vb) ∧ After w s w' { s1 with bl := s1.bl.set u.xs[k]! b } fr ∧ (s.picsOf u.vb = [] → s1 = s) := by
  subst hbv
  obtain ⟨x0, x1, x2, x3, x4, x5, x6, x7⟩ := b
  have hmem : u ∈ s.vols := by rw [← hu]; exact get_mem hiu
  have hH := fun W (hW : Same [] w W) => holder_vol u k W ((h.new hW).vols u hmem) hu0 hk
  have hP := fun W (hW : Same [] w W) => picturesOf_calls s u W (h.new hW) hmem
  generalize hyy : u.xs[k]! = yy at *
  have HYY : Hid (u.xs[k]! = yy) := hyy
  clear hyy
  unfold Blk.val
  go_enter Try.func66, Try.ntmps66
  go_wp2_with (first | (go_at_call 64; refine (hH _ ((Same.refl _ _).alloc _)).mono ?_; rintro e w' ⟨rfl, rfl⟩) | (go_at_call 54; refine (hP _ ((Same.refl _ _).alloc _)).mono ?_; rintro e w1 ⟨sl, rfl, hown, S1⟩; obtain ⟨ag, acap, rfl⟩ := owns_form hown))
  have hown0 := hown
  have Bw : At w1 w.heap.size 55 [.int .u8 x0, .int .u8 x1, .int .u8 x2, .int .u8 x3, .int .u8 x4, .int .u8 x5, .int .u8 x6, .int .u8 x7] := S1.at (At.new w _ _) (by simp)
  have S01 : Same [] w w1 := ((Same.refl _ _).alloc _).step S1 (by simp)
  have hP1 := h.new S01
  have hA1 : After w1 s w1 s fr := ⟨hP1, hG, Same.refl _ _, fun k hk => Or.inl hk, rfl, rfl⟩
  have hflt := h.foot_lt
  have hbase : ∀ q ∈ s.foot, q < (w.alloc (Obj.cells #[.int .u8 x0, .int .u8 x1, .int .u8 x2, .int .u8 x3, .int .u8 x4, .int .u8 x5, .int .u8 x6, .int .u8 x7] 55)).heap.size := fun q hq => by have := hflt q hq; simp; omega
  have hnb : w.heap.size ∉ s.foot := fun hm => by have := hflt _ hm; omega
  have hyx : yy ∈ u.xs := by rw [← HYY.out]; exact mem_getElem! hk
  have hpl : (s.picsOf u.vb).length ≤ 20 := Nat.le_trans (List.length_filter_le _ _) h.few
  have HH : Hid (PoolAt w s ∧ Good s fr ∧ yy < s.n) := ⟨h, hG, hG.lt.2 u hmem _ hyx⟩
  have HO : Hid (w1.ownsRow (w.alloc (Obj.cells #[.int .u8 x0, .int .u8 x1, .int .u8 x2, .int .u8 x3, .int .u8 x4, .int .u8 x5, .int .u8 x6, .int .u8 x7] 55)).heap.size 80 1 (.slice ag (s.picsOf u.vb).length acap) (s.picsOf u.vb).length ((s.picsOf u.vb).map fun v => ptr v.vb)) := hown
  clear hown hown0 hP hH S1 h hG hP1
  go_loopw [20] (fun i wr => ∃ j : Nat, j ≤ (s.picsOf u.vb).length ∧ i = .int .i64 j ∧ At wr w.heap.size 55 [.int .u8 x0, .int .u8 x1, .int .u8 x2, .int .u8 x3, .int .u8 x4, .int .u8 x5, .int .u8 x6, .int .u8 x7] ∧ ∃ sj, Kept s sj k (fun v => v ∈ (s.picsOf u.vb).take j) ∧ After w1 s wr sj fr ∧ (s.picsOf u.vb = [] → sj = s))
    (fun i _ => (s.picsOf u.vb).length - (intOf i).toNat)
  case atStart => exact ⟨0, Nat.zero_le _, rfl, Bw, s, (by simpa using Kept.start s k), hA1, fun _ => rfl⟩
  case round =>
    obtain ⟨j, hj, rfl, HB, sj, hK, hA, hNN⟩ := hrel
    have HNN : Hid (s.picsOf u.vb = [] → sj = s) := hNN
    clear hNN
    by_cases hjl : j < (s.picsOf u.vb).length
    · have HNE : Hid (s.picsOf u.vb ≠ []) := by show _ ≠ _; intro e; rw [e] at hjl; simp at hjl
      obtain ⟨h, hG, hyn⟩ := HH.out
      have hOr := owns_same HO.out hA.same hbase
      obtain ⟨gr, crow, rfl, hgr, hAr, _, hcl, hct⟩ := owns_at hOr (by omega)
      obtain ⟨p, hp⟩ : ∃ p, (s.picsOf u.vb)[j]! = p := ⟨_, rfl⟩
      have hpm : p ∈ s.picsOf u.vb := by rw [← hp, getElem!_pos _ j hjl]; exact List.getElem_mem hjl
      obtain ⟨hpv, hpo⟩ := picsOf_mem.1 hpm
      have cp : wr.cell? ⟨gr, j, none⟩ = some (.pointer (some ⟨p.vb, 0, none⟩)) := by
        rw [hAr.cell?]
        have e : (crow.take (s.picsOf u.vb).length)[j]? = crow[j]? := by rw [List.getElem?_take, if_pos hjl]
        rw [← e, hct, List.getElem?_map, List.getElem?_eq_getElem hjl, ← getElem!_pos _ j hjl, hp]
        rfl
      have hnp : p ∉ (s.picsOf u.vb).take j := by
        intro hm
        obtain ⟨q, hq, e⟩ := List.getElem_of_mem hm
        have hq' : q < j := by simp at hq; omega
        have hpw := List.pairwise_iff_getElem.1 (picsOf_nodup h u.vb) q j (by omega) hjl hq'
        rw [List.getElem_take] at e
        rw [e, ← getElem!_pos _ j hjl, hp] at hpw
        exact hpw rfl
      obtain ⟨i, hi, hip⟩ := mem_index hpv
      have HT : Hid (∀ v, (v ∈ (s.picsOf u.vb).take j ∨ v = s.vols[i]!) ↔ v ∈ (s.picsOf u.vb).take (j + 1)) := by
        intro v
        rw [List.take_succ_eq_append_getElem hjl, List.mem_append, List.mem_singleton, ← getElem!_pos _ j hjl, hp, hip]
      have hij : i < sj.vols.length := by rw [hK.base.len]; exact hi
      obtain ⟨r1, r2⟩ := hK.rest i hi (by rw [hip]; exact hnp)
      obtain ⟨b1, b2, b3, b4⟩ := hK.base.same i hi
      rw [hip] at r1 r2 b1 b2 b3 b4
      obtain ⟨v', hv'⟩ : ∃ v', sj.vols[i]! = v' := ⟨_, rfl⟩
      rw [hv'] at r1 r2 b1 b2 b3 b4
      have hvm : v' ∈ sj.vols := by rw [← hv']; exact get_mem hij
      have hVv := hA.pool.vols v' hvm
      have hov : v'.org ≠ none := by rw [b4, hpo]; simp
      have hszv : sj.size v' = u.xs.length := by
        have e1 := hK.base.size h hA.pool i hi
        rw [hv', hip] at e1
        rw [e1]
        unfold St.size
        have e2 := (h.orgOf hpv).2.2.2 (by rw [hpo]; simp)
        rw [hpo] at e2
        have e3 : s.orgOf p = u := h.vb_inj (h.orgOf hpv).1 hmem (by simpa using e2.symm)
        rw [e3]
      have hks : k < sj.size v' := by rw [hszv]; exact hk
      have c4 : wr.cell? ⟨p.vb, 4, none⟩ = some (.bool p.lost) := by have := lost_cell hA.pool hvm; rw [b1, r2] at this; exact this
      have hnot := runNot
      have l2 : (j : Int) < ((s.picsOf u.vb).length : Int) := by omega
      have HNX : Hid (∀ s2, Step sj s2 k i → Kept s s2 k (fun v => v ∈ (s.picsOf u.vb).take (j + 1))) := fun s2 hS =>
        (hK.one h hA.pool i hi (by rw [hip]; exact hnp) hS).congr fun m hm => HT.out _
      by_cases hin : k ∈ p.kept
      · have hKI := keptIn_has v' k wr hVv (by rw [r1]; exact hin)
        rw [b1] at hKI
        have hK2 := HNX.out sj (Step.none sj k i (Or.inl (by rw [hv', r1]; exact hin)))
        generalize v'.xs[v'.kept.idxOf k]! = zz at *
        have HA : Hid (After w1 s wr sj fr) := hA
        have HK2 : Hid (Kept s sj k (fun v => v ∈ (s.picsOf u.vb).take (j + 1))) := hK2
        clear hK hA HNX hK2 hOr hAr hct hVv h hG HT
        go_wp2_with (go_at_call 99; refine hKI.mono ?_; rintro e wz ⟨rfl, rfl⟩)
        go_roundw
        case rel => exact ⟨j + 1, by omega, by go_num, HB, sj, HK2.out, HA.out, fun e => absurd e HNE.out⟩
        case measure => simp [intOf]; omega
      · have hKI := keptIn_not v' k wr hVv (by rw [r1]; exact hin)
        rw [b1] at hKI
        cases hpl2 : p.lost with
        | true =>
          rw [hpl2] at c4
          have hK2 := HNX.out sj (Step.none sj k i (Or.inr (by rw [hv', r2]; exact hpl2)))
          have HA : Hid (After w1 s wr sj fr) := hA
          have HK2 : Hid (Kept s sj k (fun v => v ∈ (s.picsOf u.vb).take (j + 1))) := hK2
          clear hK hA HNX hK2 hOr hAr hct hVv h hG HT
          go_wp2_with (go_at_call 99; refine hKI.mono ?_; rintro e wz ⟨rfl, rfl⟩)
          go_roundw
          case rel => exact ⟨j + 1, by omega, by go_num, HB, sj, HK2.out, HA.out, fun e => absurd e HNE.out⟩
          case measure => simp [intOf]; omega
        | false =>
          rw [hpl2] at c4
          obtain ⟨pc, hpp, _, _⟩ := hA.pool.pool
          have hpbE := hA.pb
          have hnE := hA.n
          have c1 : wr.cell? ⟨s.pb, 1, none⟩ = some (.pointer (some ⟨sj.db, 0, none⟩)) := by rw [← hpbE]; exact hpp.cell? 1
          have hR := diskRead_calls sj.db sj.bb sj.n yy _ _ _ sj.bl wr _ _ rfl rfl hA.pool.disk.disk hA.pool.disk.data hA.pool.disk.len (by rw [hnE]; exact hyn) (by have := hA.pool.disk.small; omega)
          have hlook : sj.bl[yy]! = sj.look v' k := by
            unfold St.look St.holder
            rw [if_neg (by rw [r1]; exact hin)]
            have e2 := (hA.pool.orgOf hvm).2.2.2 hov
            obtain ⟨m, hm, e3, e4⟩ := hK.base.orgOf h hA.pool i hi
            rw [hv'] at e4
            rw [hip] at e3
            rw [e4, (hK.base.same m hm).2.2.1, ← e3]
            have e5 := (h.orgOf hpv).2.2.2 (by rw [hpo]; simp)
            rw [hpo] at e5
            have e6 : s.orgOf p = u := h.vb_inj (h.orgOf hpv).1 hmem (by simpa using e5.symm)
            rw [e6, HYY.out]
          generalize hold : sj.bl[yy]! = old at *
          by_cases hroom : v'.kept.length < v'.xs.length
          · have hKp := fun W (hW : Same [] wr W) => keep_more sj fr i v' k old W _ rfl (hA.pool.new hW) hA.good hij hv' hov (by rw [r2]; exact hpl2) hroom (by rw [r1]; exact hin) hks
            have HS : Hid (∀ W g, PoolAt W { sj with bl := sj.bl.set v'.xs[v'.kept.length]! old, vols := setVol i (v'.keeping g k) sj.vols } → Kept s { sj with bl := sj.bl.set v'.xs[v'.kept.length]! old, vols := setVol i (v'.keeping g k) sj.vols } k (fun v => v ∈ (s.picsOf u.vb).take (j + 1))) := fun W g hW =>
              HNX.out _ (step_more hA.pool hA.good i v' g k old hij hv' hov (by rw [r2]; exact hpl2) hroom (by rw [r1]; exact hin) hks hlook hW)
            rw [hpbE, b1] at hKp
            have HA : Hid (After w1 s wr sj fr) := hA
            clear hK hA HNX hOr hAr hct hVv h hG HT hpp hlook
            go_wp2_with (first | (go_at_call 99; refine hKI.mono ?_; rintro e wz ⟨rfl, rfl⟩) | (go_at_call 40; refine hR.mono ?_; rintro e w3 ⟨rfl, S3⟩) | (go_at_call 100; refine (hKp _ S3).mono ?_; rintro e w4 ⟨rfl, g, hA4⟩))
            rw [← hpbE] at hA4
            have hA5 := HA.out.step (hA4.old S3)
            have hB5 := (hA4.old S3).same.at HB (fun hm => by
              rcases HA.out.foot _ hm with e | e
              · exact hnb e
              · have := Bw.lt; omega)
            have HK2 : Hid _ := HS.out w4 g hA4.pool
            have HA5 : Hid _ := hA5
            clear HA hA4 hA5 HS hKp S3
            go_roundw
            case rel => exact ⟨j + 1, by omega, by go_num, hB5, _, HK2.out, HA5.out, fun e => absurd e HNE.out⟩
            case measure => simp [intOf]; omega
          · have hfull : v'.kept.length = v'.xs.length := by have := hVv.room; omega
            have hKp := fun W (hW : Same [] wr W) => keep_lost sj fr i v' k old W _ rfl (hA.pool.new hW) hA.good hij hv' hov hfull
            have HS : Hid (∀ W, PoolAt W { sj with bl := giveB v'.xs sj.bl, vols := setVol i v'.losing sj.vols } → Kept s { sj with bl := giveB v'.xs sj.bl, vols := setVol i v'.losing sj.vols } k (fun v => v ∈ (s.picsOf u.vb).take (j + 1))) := fun W hW =>
              HNX.out _ (step_lost hA.pool hA.good i v' k hij hv' hov (by rw [r2]; exact hpl2) hfull (by rw [r1]; exact hin) hW)
            rw [hpbE, b1] at hKp
            have HA : Hid (After w1 s wr sj fr) := hA
            clear hK hA HNX hOr hAr hct hVv h hG HT hpp hlook
            go_wp2_with (first | (go_at_call 99; refine hKI.mono ?_; rintro e wz ⟨rfl, rfl⟩) | (go_at_call 40; refine hR.mono ?_; rintro e w3 ⟨rfl, S3⟩) | (go_at_call 100; refine (hKp _ S3).mono ?_; rintro e w4 ⟨rfl, hA4⟩))
            rw [← hpbE] at hA4
            have hA5 := HA.out.step (hA4.old S3)
            have hB5 := (hA4.old S3).same.at HB (fun hm => by
              rcases HA.out.foot _ hm with e | e
              · exact hnb e
              · have := Bw.lt; omega)
            have HK2 : Hid _ := HS.out w4 hA4.pool
            have HA5 : Hid _ := hA5
            clear HA hA4 hA5 HS hKp S3
            go_roundw
            case rel => exact ⟨j + 1, by omega, by go_num, hB5, _, HK2.out, HA5.out, fun e => absurd e HNE.out⟩
            case measure => simp [intOf]; omega
    · have ej : j = (s.picsOf u.vb).length := by omega
      subst ej
      obtain ⟨h, hG, hyn⟩ := HH.out
      rw [List.take_length] at hK
      have hKf : Kept s sj k (fun v => v.org = some u.vb) := hK.congr fun m hm => by
        rw [picsOf_mem]
        exact ⟨fun e => e.2, fun e => ⟨get_mem hm, e⟩⟩
      obtain ⟨pc, hpp, _, _⟩ := hA.pool.pool
      have hpbE := hA.pb
      have hnE := hA.n
      have c1 : wr.cell? ⟨s.pb, 1, none⟩ = some (.pointer (some ⟨sj.db, 0, none⟩)) := by rw [← hpbE]; exact hpp.cell? 1
      have y0 : wr.cell? ⟨w.heap.size, 0, none⟩ = some (.int .u8 x0) := HB.cell? 0
      have y1 : wr.cell? ⟨w.heap.size, 1, none⟩ = some (.int .u8 x1) := HB.cell? 1
      have y2 : wr.cell? ⟨w.heap.size, 2, none⟩ = some (.int .u8 x2) := HB.cell? 2
      have y3 : wr.cell? ⟨w.heap.size, 3, none⟩ = some (.int .u8 x3) := HB.cell? 3
      have y4 : wr.cell? ⟨w.heap.size, 4, none⟩ = some (.int .u8 x4) := HB.cell? 4
      have y5 : wr.cell? ⟨w.heap.size, 5, none⟩ = some (.int .u8 x5) := HB.cell? 5
      have y6 : wr.cell? ⟨w.heap.size, 6, none⟩ = some (.int .u8 x6) := HB.cell? 6
      have y7 : wr.cell? ⟨w.heap.size, 7, none⟩ = some (.int .u8 x7) := HB.cell? 7
      have hyf : yy ∉ fr := by rw [← HYY.out]; exact hG.apart_fr hmem (mem_getElem! hk)
      have hW := fun W (hW : Same [] wr W) bv (hbv : bv = Blk.val ⟨x0, x1, x2, x3, x4, x5, x6, x7⟩) => diskWrite_calls sj.db sj.bb sj.n yy _ _ _ sj.bl ⟨x0, x1, x2, x3, x4, x5, x6, x7⟩ W _ bv _ rfl rfl hbv (hW.at hA.pool.disk.disk (by simp)) (hW.at hA.pool.disk.data (by simp)) hA.pool.disk.len (by rw [hnE]; exact hyn) (by have := hA.pool.disk.small; omega)
      have HF : Hid (∀ w6, At w6 sj.bb 55 (flat (sj.bl.set yy ⟨x0, x1, x2, x3, x4, x5, x6, x7⟩)) → Same [sj.bb] wr w6 → After w s w6 { sj with bl := sj.bl.set yy ⟨x0, x1, x2, x3, x4, x5, x6, x7⟩ } fr) := fun w6 A6 S6 =>
        ((hA.step (write_after hA.pool hA.good yy ⟨x0, x1, x2, x3, x4, x5, x6, x7⟩ hyf A6 S6)).old S01)
      have HKF : Hid (Kept s sj k (fun v => v.org = some u.vb)) := hKf
      clear hK hA hKf h hG hpp HB
      go_wp2_with fail
      refine region_tail 6 (by kernel_rfl) (by kernel_rfl) ?_
      simp only [List.take_succ_cons, List.take_zero, List.drop_succ_cons, List.drop_zero]
      repeat still_step
      refine wpStill_nil ?_
      go_wp2_with (go_at_call 68; refine (hW _ ((Same.refl _ _).drew) _ rfl).mono ?_; rintro e w6 ⟨rfl, A6, S6⟩)
      have hFin := HF.out w6 A6 ((Same.refl _ _).drew.step S6 (by simp))
      clear HF A6 S6 hW
      refine bodyPost_end (results_none rfl _ _ _) rfl ⟨rfl, sj, HKF.out, hFin, HNN.out⟩
end Go.Proofs.Ytpddgdjocffgdaa
