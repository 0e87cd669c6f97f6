/- The statement's function grown, by a contract. -/
import Derived.Test.YtpddgdjocffgdaaLawB
import Derived.Test.YtpddgdjocffgdaaLawD
namespace Go.Proofs.Ytpddgdjocffgdaa
open Go.RowKit Go.Sort
set_option linter.unusedVariables false
set_option linter.unusedSimpArgs false
set_option linter.unusedSectionVars false
variable [DecidableEq Blk] [Inhabited Blk]
variable [Inhabited Vol]

/-- Each of these is the lowest from the one ahead on that is not used. -/
def Low (us : List Nat) : Nat → List Nat → Prop
  | _, [] => True
  | low, y :: r => low ≤ y ∧ y ∉ us ∧ (∀ x, low ≤ x → x < y → x ∈ us) ∧ Low us (y + 1) r

theorem write_fits (s : St) (fr : List Nat) (t : ByteArray) (k : Nat) (x0 : Int) (w : World) (h : PoolAt w s) (hG : Good s fr) (hi : s.has t = true) (ho : (s.vol t).org = none) (hp : s.picsOf (s.vol t).vb = []) (hk : k < (s.vol t).xs.length) :
    Calls Try.prog 27 #[.pointer (some ⟨s.pb, 0, none⟩), .string t, .int .i64 k, .agg #[.int .u8 x0, .int .u8 5, .int .u8 0, .int .u8 0, .int .u8 0, .int .u8 0, .int .u8 0, .int .u8 0]] w fun e w' => e = .returned (.int .i64 0) ∧ After w s w' { s with bl := s.bl.set (s.vol t).xs[k]! ⟨x0, 5, 0, 0, 0, 0, 0, 0⟩ } fr :=
  write_plain s fr t k ⟨x0, 5, 0, 0, 0, 0, 0, 0⟩ w h hG hi ho hp hk

set_option maxHeartbeats 800000 in
set_option maxRecDepth 100000 in
theorem grown_calls (s : St) (fr : List Nat) (t : ByteArray) (w : World) (ov uv : Value) (og ug : Nat) (xs0 us : List Nat) (h : PoolAt w s) (hG : Good s fr) (hi : s.has t = true) (ho : (s.vol t).org = none) (hp : s.picsOf (s.vol t).vb = []) (hn : s.n ≤ 200)
    (hov : SlAt w ov og xs0) (huv : SlAt w uv ug us) (hl0 : xs0.length ≤ 200) (hlu : us.length ≤ 200)
    (hpre : ∀ i, i < xs0.length → i < (s.vol t).xs.length → (s.vol t).xs[i]! = xs0[i]!) (hlow : Low us 0 ((s.vol t).xs.drop xs0.length)) (hzero : ∀ x ∈ (s.vol t).xs.drop xs0.length, s.bl[x]! = Blk.zero) :
    Calls Try.prog 22 #[.pointer (some ⟨s.pb, 0, none⟩), .string t, .int .i64 (s.vol t).xs.length, ov, uv] w fun e w' => e = .returned (.bool true) ∧ ∃ bl', After w s w' { s with bl := bl' } fr := by
  have hmem := (St.has_mem hi).1
  have hvs := (h.vols _ hmem).small
  have hxn := hG.lt.2 _ hmem
  have hM := map_some s t w h hi
  obtain ⟨oa, ocap, rfl, hoc⟩ := hov.ex
  obtain ⟨ua, ucap, rfl, huc⟩ := huv.ex
  have HE := fun W => equal_blocks Blk.zero Blk.zero W
  simp only [Blk.zero, decide_true] at HE
  have hnot := runNot
  go_enter Try.func22, Try.ntmps22
  go_wp2_with fail
  refine hM.mono ?_
  rintro e w1 ⟨mg, ms, rfl, hmg, hR, S1⟩
  clear hM
  go_wp2_with fail
  go_loopw [13, 14] (fun l i wr => ∃ li ii : Nat, ii ≤ (s.vol t).xs.length ∧ l = .int .i64 li ∧ i = .int .i64 ii ∧ li ≤ 200 ∧ Same [] w1 wr ∧ Hid (Low us li ((s.vol t).xs.drop (max ii xs0.length))))
    (fun _ i _ => (s.vol t).xs.length - (intOf i).toNat)
  case atStart => exact ⟨0, 0, Nat.zero_le _, rfl, rfl, by omega, Same.refl _ _, by show Low _ _ _; rw [Nat.max_eq_right (Nat.zero_le _)]; exact hlow⟩
  case round =>
    obtain ⟨li, ii, hii, rfl, rfl, hli, hS, HL⟩ := hrel
    have hS' := S1.step hS (by simp)
    by_cases hil : ii < (s.vol t).xs.length
    · have hR1 := hR.same hS (by simp)
      have ci := hR1.cell ii hil
      rw [← hR1.at_.cell?] at ci
      have hxm : (s.vol t).xs[ii]! ∈ (s.vol t).xs := by rw [getElem!_pos _ ii hil]; exact List.getElem_mem hil
      have hxi := hxn _ hxm
      have l1 : (ii : Int) < ((s.vol t).xs.length : Int) := by omega
      by_cases hio : ii < xs0.length
      · obtain ⟨rfl, ocs, hor⟩ := hoc (fun e => by rw [e] at hio; simp at hio)
        have hor1 := hor.same hS' (by simp)
        have co := hor1.cell ii hio
        rw [← hor1.at_.cell?, ← hpre ii hio hil] at co
        have HL2 : Hid (Low us li ((s.vol t).xs.drop (max (ii + 1) xs0.length))) := by
          show Low _ _ _
          have := HL.out
          rw [Nat.max_eq_right (by omega)] at this ⊢
          exact this
        generalize (s.vol t).xs[ii]! = y at *
        have l2 : (ii : Int) < (xs0.length : Int) := by omega
        clear hR1 hor1
        go_wp2_with fail
        go_quiet (fail)
        go_wp2_with fail
        go_roundw
        case rel => exact ⟨li, ii + 1, by omega, rfl, by go_num, hli, hS.drewN _, HL2⟩
        case measure => simp [intOf]; omega
      · have hP1 := h.new hS'
        have hRd := read_plain s fr t ii wr hP1 hG hi ho hil
        have hmx : max ii xs0.length = ii := Nat.max_eq_left (by omega)
        have hdr : (s.vol t).xs.drop ii = (s.vol t).xs[ii]! :: (s.vol t).xs.drop (ii + 1) := by rw [getElem!_pos _ ii hil, ← List.drop_eq_getElem_cons hil]
        have hz : s.bl[(s.vol t).xs[ii]!]! = Blk.zero := hzero _ (by
          have h9 : (s.vol t).xs[ii]! ∈ (s.vol t).xs.drop ii := by rw [hdr]; exact List.mem_cons_self
          have h8 : (s.vol t).xs.drop ii = ((s.vol t).xs.drop xs0.length).drop (ii - xs0.length) := by rw [List.drop_drop]; congr 1; omega
          rw [h8] at h9
          exact List.mem_of_mem_drop h9)
        rw [hz] at hRd
        have HL1 := HL.out
        rw [hmx, hdr] at HL1
        obtain ⟨g1, g2, g3, g4⟩ := HL1
        have HL2 : Hid (Low us ((s.vol t).xs[ii]! + 1) ((s.vol t).xs.drop (max (ii + 1) xs0.length))) := by
          show Low _ _ _
          rw [Nat.max_eq_left (by omega)]
          exact g4
        have hHas := fun n => has_calls ug us n wr _ ⟨ua, ucap, rfl, fun hne => ⟨(huc hne).1, (huc hne).2.choose, (huc hne).2.choose_spec.same hS' (by simp)⟩⟩ (by omega)
        generalize hYY : (s.vol t).xs[ii]! = y at *
        have HY : Hid ((s.vol t).xs[ii]! = y) := hYY
        clear hYY
        clear HL hdr hmx
        have G2 : Hid (y ∉ us) := g2
        have G3 : Hid (∀ x, li ≤ x → x < y → x ∈ us) := g3
        clear g2 g3 g4 hz hR1
        have l3 : ¬ ((ii : Int) < (xs0.length : Int)) := by omega
        simp only [Blk.val, Blk.zero] at hRd
        go_wp2_with fail
        go_loop [13] (fun l => ∃ lj : Nat, li ≤ lj ∧ lj ≤ y ∧ l = .int .i64 lj) (fun l => y - (intOf l).toNat)
        case atStart => exact ⟨li, Nat.le_refl _, g1, rfl⟩
        case round =>
          obtain ⟨lj, h1, h2, rfl⟩ := hrel
          have hH := hHas lj
          by_cases hly : lj = y
          · subst hly
            rw [decide_eq_false G2.out] at hH
            go_wp2_with (first | (go_at_call 47; refine hH.mono ?_; rintro e wz ⟨rfl, rfl⟩))
            refine hRd.mono ?_
            rintro e w3 ⟨rfl, S3⟩
            have hR3 := hR.same (hS.step S3 (by simp)) (by simp)
            have c3 := hR3.cell ii hil
            rw [← hR3.at_.cell?] at c3
            rw [show (s.vol t).xs[ii]! = lj from HY.out] at c3
            have lm3 := hR3.at_.lt
            have hSf := hS.step S3 (by simp)
            clear hR3 hH hHas hRd ci
            go_wp2
            go_roundw
            case rel => exact ⟨lj + 1, ii + 1, by omega, by go_num, by go_num, by omega, hSf.alloc _, HL2⟩
            case measure => simp [intOf]; omega
          · rw [decide_eq_true (G3.out lj h1 (by omega))] at hH
            go_wp2_with (first | (go_at_call 47; refine hH.mono ?_; rintro e wz ⟨rfl, rfl⟩))
            go_round
            case rel => exact ⟨lj + 1, by omega, by omega, by go_num⟩
            case measure => simp [intOf]; omega
    · clear HL hpre hlow hzero hoc huc
      have A0 := (After.start h hG).new hS'
      have hsb : St.has { s with bl := s.bl } t = true := hi
      clear h hG hR
      go_wp2_with fail
      go_loopw [17] (fun i wr2 => ∃ (ii : Nat) (bl' : List Blk), ii ≤ (s.vol t).xs.length ∧ i = .int .i64 ii ∧ After w s wr2 { s with bl := bl' } fr)
        (fun i _ => (s.vol t).xs.length - (intOf i).toNat)
      case atStart => exact ⟨0, s.bl, Nat.zero_le _, rfl, A0⟩
      case round =>
        obtain ⟨jj, bl', hjj, rfl, hA⟩ := hrel
        by_cases hjl : jj < (s.vol t).xs.length
        · have hW := fun x0 => write_fits { s with bl := bl' } fr t jj x0 wr hA.pool hA.good hi ho hp hjl
          have l4 : (jj : Int) < ((s.vol t).xs.length : Int) := by omega
          go_wp2_with fail
          refine (hW _).mono ?_
          rintro e w4 ⟨rfl, hA4⟩
          have hA5 := hA.trans hA4
          clear hW hA hA4 A0
          go_wp2
          go_roundw
          case rel => exact ⟨jj + 1, _, by omega, by go_num, hA5⟩
          case measure => simp [intOf]; omega
        · go_wp2
          go_ret
          exact ⟨rfl, bl', hA⟩
end Go.Proofs.Ytpddgdjocffgdaa
