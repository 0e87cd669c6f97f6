/- The statement Room, by a contract. -/
import Derived.Test.YtpddgdjocffgdaaLawI
namespace Go.Proofs.Ytpddgdjocffgdaa
open Go.RowKit Go.Sort
set_option linter.unusedVariables false
set_option linter.unusedSimpArgs false
set_option linter.unusedSectionVars false
variable [DecidableEq Blk] [Inhabited Blk]
variable [Inhabited Vol]

theorem tdiv_bd20 (c : Int) (h1 : -9223372036854775808 ≤ c) (h2 : c ≤ 9223372036854775807) : -9223372036854775808 ≤ c.tdiv 20 ∧ c.tdiv 20 ≤ 9223372036854775807 := by
  rcases Int.le_total 0 c with h | h
  · have a := Int.tdiv_nonneg h (by omega : (0 : Int) ≤ 20)
    have b := Int.tdiv_le_self 20 h
    omega
  · have a := Int.tdiv_nonneg (show (0 : Int) ≤ -c by omega) (by omega : (0 : Int) ≤ 20)
    have b := Int.tdiv_le_self 20 (show (0 : Int) ≤ -c by omega)
    rw [Int.neg_tdiv] at a b
    omega

/-- What stands at the head of each round of Room. -/
structure RoomAt (w : World) (pb : Nat) (size room ng cg : Nat) (wr : World) (s : St) (fr : List Nat) (now : List Blk) (ch : List Bool) : Prop where
  pb : s.pb = pb
  pool : PoolAt wr s
  good : Good s fr
  inv : RoomInv s size room now ch
  foot : ∀ k ∈ s.foot, w.heap.size ≤ k
  same : Same [] w wr
  now : At wr ng 55 (flat now)
  ch : At wr cg 4 (ch.map Value.bool)
  nn : ng ∉ s.foot
  nc : cg ∉ s.foot
  ne : ng ≠ cg
  bn : w.heap.size ≤ ng
  bc : w.heap.size ≤ cg

theorem RoomAt.next {w : World} {pb size room ng cg : Nat} {wr w' : World} {s s' : St} {fr fr' : List Nat} {now now' : List Blk} {ch ch' : List Bool} (h : RoomAt w pb size room ng cg wr s fr now ch) (hA : After wr s w' s' fr') (hI : RoomInv s' size room now' ch') (e1 : now' = now) (e2 : ch' = ch) : RoomAt w pb size room ng cg w' s' fr' now' ch' := by
  subst e1 e2
  have hz := h.same.size
  have ln := h.now.lt
  have lc := h.ch.lt
  have hk : ∀ k, k < wr.heap.size → k ∉ s.foot → k ∉ s'.foot := fun k hk hn hm => by
    rcases hA.foot k hm with e | e
    · exact hn e
    · omega
  refine ⟨hA.pb.trans h.pb, hA.pool, hA.good, hI, fun k hk => ?_, h.same.step hA.same fun k hk hl => by have := h.foot k hk; omega, hA.same.at h.now h.nn, hA.same.at h.ch h.nc, hk _ ln h.nn, hk _ lc h.nc, h.ne, h.bn, h.bc⟩
  rcases hA.foot k hk with e | e
  · exact h.foot k e
  · omega

theorem RoomAt.store {w : World} {pb size room ng cg : Nat} {wr w4 w5 : World} {s s' : St} {fr fr' : List Nat} {now now' : List Blk} {ch ch' : List Bool} (h : RoomAt w pb size room ng cg wr s fr now ch) (hA : After wr s w4 s' fr') (hI : RoomInv s' size room now' ch')
    (hs : Same [ng, cg] w4 w5) (a1 : At w5 ng 55 (flat now')) (a2 : At w5 cg 4 (ch'.map Value.bool)) : RoomAt w pb size room ng cg w5 s' fr' now' ch' := by
  have hz := h.same.size
  have hz2 := hA.same.size
  have ln := h.now.lt
  have lc := h.ch.lt
  have hk : ∀ k, k < wr.heap.size → k ∉ s.foot → k ∉ s'.foot := fun k hk hn hm => by
    rcases hA.foot k hm with e | e
    · exact hn e
    · omega
  have n1 := hk _ ln h.nn
  have n2 := hk _ lc h.nc
  have S4 : Same [] w w4 := h.same.step hA.same fun k hk hl => by have := h.foot k hk; omega
  refine ⟨hA.pb.trans h.pb, hA.pool.same hs ?_, hA.good, hI, fun k hk => ?_, S4.step hs ?_, a1, a2, n1, n2, h.ne, h.bn, h.bc⟩
  · intro k hk hm
    simp only [List.mem_cons, List.not_mem_nil, or_false] at hm
    rcases hm with e | e
    · exact n1 (e ▸ hk)
    · exact n2 (e ▸ hk)
  · rcases hA.foot k hk with e | e
    · exact h.foot k e
    · omega
  · intro k hk hl
    have := h.bn
    have := h.bc
    simp only [List.mem_cons, List.not_mem_nil, or_false] at hk
    omega

theorem run_make_blocks (n : Nat) (hn : n ≤ 1000) : ∃ L : Array Value, L.toList = flat (List.replicate n Blk.zero) ∧ ∀ W : World, (Instr.makeSlice 52 (.int .i64 (n : Int)) (.int .i64 (n : Int))).run Try.prog W = .ok (.slice (some ⟨W.heap.size, 0, none⟩) n n) (W.alloc (.cells L 55)) := by
  obtain ⟨i0, hi, hz0, hz1, hz2⟩ := info_parts Try.info51
  refine ⟨(flat (List.replicate n Blk.zero)).toArray, by simp, fun W => ?_⟩
  have h := run_make (P := Try.prog) W 52 55 i0 _ Try.underlying52 hi hz0 .i64 .i64 (n : Int) (n : Int) (by omega) (by omega) (by rw [hz2]; omega) (by omega)
  rw [hz1] at h
  have e : ((n : Int).toNat * 8) = n * 8 := by simp
  rw [e, made_blocks] at h
  simpa using h
theorem Try.infoBool : (Try.prog.info? 4).map (fun i => (i.zero, i.size, i.bytes)) = some (some (.bool false), 1, 1) := by kernel_rfl
theorem made_bools (n : Nat) : madeCells (Value.bool false).cells (n * 1) = (List.replicate n (Value.bool false)).toArray := by
  apply Array.toList_inj.1
  have hc : (Value.bool false).cells = Array.replicate 1 (.bool false) := rfl
  rw [hc]
  apply List.ext_getElem?
  intro j
  by_cases hj : j < n
  · have hm : j % 1 = 0 := Nat.mod_one j
    simp [madeCells, hj, hm]
  · simp [madeCells, hj]
theorem run_make_bools (n : Nat) (hn : n ≤ 1000) : ∃ L : Array Value, L.toList = (List.replicate n false).map Value.bool ∧ ∀ W : World, (Instr.makeSlice 64 (.int .i64 (n : Int)) (.int .i64 (n : Int))).run Try.prog W = .ok (.slice (some ⟨W.heap.size, 0, none⟩) n n) (W.alloc (.cells L 4)) := by
  obtain ⟨i0, hi, hz0, hz1, hz2⟩ := info_parts Try.infoBool
  refine ⟨(List.replicate n (Value.bool false)).toArray, by simp, fun W => ?_⟩
  have h := run_make (P := Try.prog) W 64 4 i0 _ Try.underlying64 hi hz0 .i64 .i64 (n : Int) (n : Int) (by omega) (by omega) (by rw [hz2]; omega) (by omega)
  rw [hz1] at h
  have e : ((n : Int).toNat * 1) = n * 1 := by simp
  rw [e, made_bools] at h
  simpa using h

set_option maxHeartbeats 2000000 in
set_option maxRecDepth 100000 in
theorem room_calls (sz rm : Int) (a : Option Addr) (b off len cap : Nat) (zs : List Int) (w : World) (s1 : -9223372036854775808 ≤ sz) (s2 : sz ≤ 9223372036854775807) (r1 : -9223372036854775808 ≤ rm) (r2 : rm ≤ 9223372036854775807) (ha : 0 < len → a = some ⟨b, off, none⟩) (hb : 0 < len → b < w.heap.size) (hm : len ≤ 9223372036854775807)
    (hc : ∀ t, t < len → w.cell? ⟨b, off + t, none⟩ = some (.int .i64 (zs.getD t 0))) (hz : ∀ t, -9223372036854775808 ≤ zs.getD t 0 ∧ zs.getD t 0 ≤ 9223372036854775807) :
    Calls Try.prog 7 #[.int .i64 sz, .int .i64 rm, .slice a len cap] w fun e w' => e = .returned (.bool true) ∧ Below w.heap.size w w' := by
  have hnot := runNot
  have hps := fun W => pick_calls sz 20 W s1 s2 (by omega) (by omega)
  have hbs := pickF_bd sz 20 (by omega)
  obtain ⟨q1, hq1⟩ : ∃ q : Nat, pickF sz 20 = (q : Int) := ⟨(pickF sz 20).toNat, by omega⟩
  rw [hq1] at hps hbs
  have hpr := fun W => pick_calls rm ((q1 + 1 : Nat) : Int) W r1 r2 (by omega) (by omega)
  have hbr := pickF_bd rm ((q1 + 1 : Nat) : Int) (by omega)
  obtain ⟨q2, hq2⟩ : ∃ q : Nat, pickF rm ((q1 + 1 : Nat) : Int) = (q : Int) := ⟨(pickF rm ((q1 + 1 : Nat) : Int)).toNat, by omega⟩
  rw [hq2] at hpr hbr
  have hpr' : ∀ W z, z = ((q1 + 1 : Nat) : Int) → Calls Try.prog 16 #[.int .i64 rm, .int .i64 z] W fun e w' => e = .returned (.int .i64 (q2 : Int)) ∧ w' = W := fun W z hz => by subst hz; exact hpr W
  clear hpr
  have hw1 : IntKind.i64.wrap (1 + (q1 : Int)) = ((q1 + 1 : Nat) : Int) := by rw [IntWalk.i64_in _ (by omega)]; omega
  have hw2 : IntKind.i64.wrap (1 + (q2 : Int)) = ((q2 + 1 : Nat) : Int) := by rw [IntWalk.i64_in _ (by omega)]; omega
  clear hq1 hq2
  go_enter Try.func7, Try.ntmps7
  go_wp2_with fail
  refine (opened_calls w).mono ?_
  rintro e w1 ⟨pb, rfl, hO⟩
  obtain ⟨⟨s, fr, e1, h1, h2, h3, h4, h5⟩, S⟩ := hO
  go_wp2_with fail
  refine (hps _).mono ?_
  rintro e wz ⟨rfl, rfl⟩
  clear hps
  go_wp2_with fail
  refine (hpr' _ _ (by first | rfl | omega | (simp; omega))).mono ?_
  rintro e wz' ⟨rfl, rfl⟩
  clear hpr'
  go_wp2_with fail
  obtain ⟨size, hsize⟩ : ∃ size : Nat, (q1 : Int) + 1 = (size : Nat) := ⟨q1 + 1, by omega⟩
  obtain ⟨room, hroom⟩ : ∃ room : Nat, (q2 : Int) + 1 = (room : Nat) := ⟨q2 + 1, by omega⟩
  rw [hsize, hroom]
  have hs20 : 1 ≤ size ∧ size ≤ 20 := by omega
  have hrs : 1 ≤ room ∧ room ≤ size := by omega
  clear hsize hroom hbs hbr hw1 hw2
  subst e1
  refine (create_v s fr size wz' h1 h2 h3 h4 hs20).mono ?_
  rintro e w2 ⟨rfl, s', fr', hA2, hO2⟩
  go_wp2_with fail
  have hPc := picture_pic s' fr' size room w2 hA2.pool hA2.good hO2 hs20 hrs
  rw [hA2.pb] at hPc
  refine hPc.mono ?_
  rintro e w3 ⟨rfl, s'', fr'', hA3, hI3, _⟩
  clear hPc
  have hA4 := hA2.step hA3
  obtain ⟨LB, hLB, hmB⟩ := run_make_blocks size (by omega)
  obtain ⟨LC, hLC, hmC⟩ := run_make_bools size (by omega)
  have hz3 := hA4.same.size
  have hz0 := S.size
  have S4 : Same [] w w3 := S.step hA4.same (fun k hk hl => by have := h5 k hk; omega)
  have hft : ∀ k ∈ s''.foot, w.heap.size ≤ k := fun k hk => by
    rcases hA4.foot k hk with e | e
    · exact h5 k e
    · omega
  have hlt3 := hA4.pool.foot_lt
  have hR0 : RoomAt w s.pb size room w3.heap.size (w3.heap.size + 1) ((w3.alloc (.cells LB 55)).alloc (.cells LC 4)) s'' fr'' (List.replicate size Blk.zero) (List.replicate size false) := by
    have N1 := (At.new w3 LB 55).alloc (.cells LC 4)
    have N2 := At.new (w3.alloc (.cells LB 55)) LC 4
    rw [hLB] at N1
    rw [hLC, show (w3.alloc (.cells LB 55)).heap.size = w3.heap.size + 1 by simp] at N2
    have S5 : Same [] w3 ((w3.alloc (.cells LB 55)).alloc (.cells LC 4)) := ((Same.refl _ _).alloc _).alloc _
    exact ⟨hA4.pb, hA4.pool.new S5, hA4.good, hI3, hft, S4.step S5 (by simp), N1, N2, fun hm => by have := hlt3 _ hm; omega, fun hm => by have := hlt3 _ hm; omega, by omega, by omega, by omega⟩
  clear hI3 hA4 hA3 hA2 hO2 h1 h2 h4 hlt3 hft S4 hLB hLC
  go_wp2_with fail
  generalize s.pb = pb at *
  go_loopw [12, 13] (fun nv i wr => ∃ (k : Nat) (s : St) (fr : List Nat) (now : List Blk) (ch : List Bool), k ≤ len ∧ k ≤ 100 ∧ nv = .int .i64 (trues ch : Nat) ∧ i = .int .i64 k ∧ RoomAt w pb size room w3.heap.size (w3.heap.size + 1) wr s fr now ch)
    (fun _ i _ => 100 - (intOf i).toNat)
  case atStart => exact ⟨0, s'', fr'', _, _, Nat.zero_le _, by omega, by rw [trues_zero]; rfl, rfl, hR0⟩
  case round =>
    clear hR0
    obtain ⟨k, s, fr, now, ch, hk, hk6, rfl, rfl, hI⟩ := hrel
    by_cases hkl : k < len ∧ k < 100
    · obtain ⟨hkl, hk60⟩ := hkl
      obtain rfl := ha (by omega)
      have hbw := hb (by omega)
      have cz : wr.cell? ⟨b, off + k, none⟩ = some (.int .i64 (zs.getD k 0)) := by
        rw [(hI.same.below (Nat.le_refl _) (by simp)).cell hbw]; exact hc k hkl
      obtain ⟨z1, z2⟩ := hz k
      generalize zs.getD k 0 = z at *
      have l1 : (k : Int) < (len : Int) := by omega
      have hPk := pick_calls z size wr z1 z2 (by omega) (by omega)
      have hbk := pickF_bd z size (by omega)
      obtain ⟨kk, hkk⟩ : ∃ kk : Nat, pickF z size = (kk : Int) := ⟨(pickF z size).toNat, by omega⟩
      rw [hkk] at hPk hbk
      have hkks : kk < size := by omega
      obtain ⟨t1, t2⟩ := tdiv_bd20 z z1 z2
      have hw20 : IntKind.i64.wrap (z.tdiv 20) = z.tdiv 20 := IntWalk.i64_in _ (by omega)
      have hBk := kblock_calls (z.tdiv 20) wr t1 t2
      generalize blkOf (z.tdiv 20) = x at *
      obtain ⟨x0, x1, x2, x3, x4, x5, x6, x7⟩ := x
      unfold Blk.val at hBk
      clear hkk
      go_wp2_with fail
      refine hPk.mono ?_
      rintro e wz ⟨rfl, rfl⟩
      clear hPk
      go_wp2_with fail
      refine hBk.mono ?_
      rintro e w2 ⟨rfl, S2⟩
      clear hBk cz
      have hI2 := hI.next ((After.start hI.pool hI.good).new S2) hI.inv rfl rfl
      have Sx : Same [] w2 (w2.alloc (Obj.cells #[.int .u8 x0, .int .u8 x1, .int .u8 x2, .int .u8 x3, .int .u8 x4, .int .u8 x5, .int .u8 x6, .int .u8 x7] 55)) := (Same.refl _ _).alloc _
      have hI3 := hI2.next ((After.start hI2.pool hI2.good).new Sx) hI2.inv rfl rfl
      have X3 := At.new w2 #[.int .u8 x0, .int .u8 x1, .int .u8 x2, .int .u8 x3, .int .u8 x4, .int .u8 x5, .int .u8 x6, .int .u8 x7] 55
      have hxf : w2.heap.size ∉ s.foot := fun hm => by have := hI2.pool.foot_lt _ hm; omega
      have hn1 : w2.heap.size ≠ w3.heap.size + 1 := by have := hI2.ch.lt; omega
      have hn2 : w2.heap.size ≠ w3.heap.size := by have := hI2.now.lt; omega
      have hn3 : w3.heap.size ≠ w3.heap.size + 1 := by omega
      clear hI hI2 S2 Sx
      have hWr := roomWrite s fr size room kk now ch ⟨x0, x1, x2, x3, x4, x5, x6, x7⟩ _ hI3.pool hI3.good hI3.inv hkks
      rw [hI3.pb] at hWr
      unfold Blk.val at hWr
      go_wp2_with fail
      refine hWr.mono ?_
      rintro e w4 ⟨rfl, s', hA4, hI4⟩
      clear hWr
      have hNow := hA4.same.at hI3.now hI3.nn
      have hCh := hA4.same.at hI3.ch hI3.nc
      have X4 := hA4.same.at X3 hxf
      have hkn : kk < now.length := by rw [hI3.inv.nl]; exact hkks
      have hkc : kk < ch.length := by rw [hI3.inv.cl]; exact hkks
      obtain ⟨a0, a1, a2, a3, a4, a5, a6, a7⟩ := hNow.eight kk hkn
      have cc : w4.cell? ⟨w3.heap.size + 1, kk, none⟩ = some (.bool ch[kk]!) := by
        rw [hCh.cell?, List.getElem?_map, List.getElem?_eq_getElem hkc, getElem!_pos ch kk hkc]; rfl
      have b0 : w4.cell? ⟨w2.heap.size, 0, none⟩ = some (.int .u8 x0) := X4.cell? 0
      have b1 : w4.cell? ⟨w2.heap.size, 1, none⟩ = some (.int .u8 x1) := X4.cell? 1
      have b2 : w4.cell? ⟨w2.heap.size, 2, none⟩ = some (.int .u8 x2) := X4.cell? 2
      have b3 : w4.cell? ⟨w2.heap.size, 3, none⟩ = some (.int .u8 x3) := X4.cell? 3
      have b4 : w4.cell? ⟨w2.heap.size, 4, none⟩ = some (.int .u8 x4) := X4.cell? 4
      have b5 : w4.cell? ⟨w2.heap.size, 5, none⟩ = some (.int .u8 x5) := X4.cell? 5
      have b6 : w4.cell? ⟨w2.heap.size, 6, none⟩ = some (.int .u8 x6) := X4.cell? 6
      have b7 : w4.cell? ⟨w2.heap.size, 7, none⟩ = some (.int .u8 x7) := X4.cell? 7
      have fn := hNow.frozen
      have fc := hCh.frozen
      have HE := fun W => equal_blocks now[kk]! ⟨x0, x1, x2, x3, x4, x5, x6, x7⟩ W
      have HCN : Hid (chNext now ch kk ⟨x0, x1, x2, x3, x4, x5, x6, x7⟩ = if now[kk]! = ⟨x0, x1, x2, x3, x4, x5, x6, x7⟩ then ch else if ch[kk]! = true then ch else ch.set kk true) := rfl
      have htr : trues ch ≤ 20 := by have := trues_le ch; rw [hI3.inv.cl] at this; omega
      have HCC : Hid (ch[kk]! = false → trues (ch.set kk true) = trues ch + 1) := fun e => trues_set ch kk hkc e
      have HI4 : Hid (RoomInv s' size room (now.set kk ⟨x0, x1, x2, x3, x4, x5, x6, x7⟩) (chNext now ch kk ⟨x0, x1, x2, x3, x4, x5, x6, x7⟩)) := hI4
      have HMM : Hid (RoomAt w pb size room w3.heap.size (w3.heap.size + 1) _ s fr now ch ∧ After _ s w4 s' fr ∧ At w4 w3.heap.size 55 (flat now) ∧ At w4 (w3.heap.size + 1) 4 (ch.map Value.bool)) := ⟨hI3, hA4, hNow, hCh⟩
      clear hI3 hA4 hI4 X3 X4 hNow hCh
      generalize hy : now[kk]! = y at *
      generalize hcv : ch[kk]! = cv at *
      obtain ⟨y0, y1, y2, y3, y4, y5, y6, y7⟩ := y
      simp only at a0 a1 a2 a3 a4 a5 a6 a7 HE
      have l3 : (kk : Int) < (size : Int) := by omega
      clear hy hcv
      by_cases hxy : (⟨y0, y1, y2, y3, y4, y5, y6, y7⟩ : Blk) = ⟨x0, x1, x2, x3, x4, x5, x6, x7⟩
      · rw [decide_eq_true hxy] at HE
        have HCF : Hid (chNext now ch kk ⟨x0, x1, x2, x3, x4, x5, x6, x7⟩ = ch) := by show _ = _; rw [HCN.out, if_pos hxy]
        clear HCN hxy HCC
        go_wp2_with fail
        go_quiet (fail)
        go_wp2_with fail
        obtain ⟨hI3, hA4, hNow, hCh⟩ := HMM.out
        obtain ⟨E1, E2⟩ := (hNow.drewN nq).set8 kk hkn x0 x1 x2 x3 x4 x5 x6 x7
        have hI4 := HI4.out
        rw [HCF.out] at hI4
        have hI5 := hI3.store hA4 hI4 (((Same.refl [w3.heap.size, w3.heap.size + 1] w4).drewN nq).step E2 (by simp)) E1 (E2.at (hCh.drewN nq) (by simp))
        clear hI3 hA4 hNow hCh E1 E2 HMM HI4 hI4 HCF a0 a1 a2 a3 a4 a5 a6 a7 b0 b1 b2 b3 b4 b5 b6 b7 cc fn fc HE
        generalize hCH : ch = CH at *
        generalize hNW : now.set kk ⟨x0, x1, x2, x3, x4, x5, x6, x7⟩ = NW at *
        clear hCH hNW
        have hs2 := hI5.inv.two
        generalize hW5 : (((((((((w4.drewN nq).setCell ⟨w3.heap.size, kk * 8, none⟩ (.int .u8 x0)).setCell ⟨w3.heap.size, kk * 8 + 1, none⟩ (.int .u8 x1)).setCell ⟨w3.heap.size, kk * 8 + 2, none⟩ (.int .u8 x2)).setCell ⟨w3.heap.size, kk * 8 + 3, none⟩ (.int .u8 x3)).setCell ⟨w3.heap.size, kk * 8 + 4, none⟩ (.int .u8 x4)).setCell ⟨w3.heap.size, kk * 8 + 5, none⟩ (.int .u8 x5)).setCell ⟨w3.heap.size, kk * 8 + 6, none⟩ (.int .u8 x6)).setCell ⟨w3.heap.size, kk * 8 + 7, none⟩ (.int .u8 x7)) = w5 at *
        clear hW5
        have htr2 : trues CH ≤ 20 := by have := trues_le CH; rw [hI5.inv.cl] at this; omega
        by_cases hfm : trues CH ≤ room
        · have hRd := roomRead_few s' fr size room NW CH w5 hI5.pool hI5.good hI5.inv hs20.1 hfm
          rw [hI5.pb] at hRd
          obtain ⟨f1, f2, f3⟩ := hI5.inv.few hfm
          refine hRd.mono ?_
          rintro e w6 ⟨bb, rfl, S6⟩
          obtain ⟨g0, g1, g2, g3, g4, g5, g6, g7⟩ := bb
          unfold Blk.val
          have hI6 := hI5.next ((After.start hI5.pool hI5.good).new S6) hI5.inv rfl rfl
          have hL := fun W (hW : Same [] w6 W) => roomList s' size room W (hI6.pool.new hW) hs2
          rw [hI6.pb, f1, f2] at hL
          have HI6 : Hid _ := hI6
          clear hI5 hI6 hRd S6
          go_wp2_with fail
          refine (hL _ ((Same.refl _ _).alloc _)).mono ?_
          rintro e w7 ⟨lg, rfl, S7, c0, c4, c5⟩
          have hI7 := HI6.out.next ((After.start HI6.out.pool HI6.out.good).new (((Same.refl [] w6).alloc _).step S7 (by simp))) HI6.out.inv rfl rfl
          have HI7 : Hid _ := hI7
          have l5 : ((trues CH : Nat) : Int) ≤ (room : Int) := by omega
          have l6 : decide ((room : Int) < ((trues CH : Nat) : Int)) = false := decide_eq_false (by omega)
          clear hI7 HI6 hL S7
          go_wp2_with fail
          go_roundw
          case rel => exact ⟨k + 1, s', fr, NW, CH, by omega, by omega, rfl, by go_num, HI7.out⟩
          case measure => simp [intOf]; omega
        · have hRd := roomRead_many s' size room NW CH w5 hI5.pool hI5.inv (by omega)
          rw [hI5.pb] at hRd
          have f1 := hI5.inv.many (by omega)
          refine hRd.mono ?_
          rintro e w6 ⟨rfl, S6⟩
          unfold Blk.val Blk.zero
          have hI6 := hI5.next ((After.start hI5.pool hI5.good).new S6) hI5.inv rfl rfl
          have hL := fun W (hW : Same [] w6 W) => roomList s' size room W (hI6.pool.new hW) hs2
          rw [hI6.pb, f1] at hL
          generalize (s'.vols[0]!).kept.length = kl at hL
          have HI6 : Hid _ := hI6
          clear hI5 hI6 hRd S6
          go_wp2_with fail
          refine (hL _ ((Same.refl _ _).alloc _)).mono ?_
          rintro e w7 ⟨lg, rfl, S7, c0, c4, c5⟩
          have hI7 := HI6.out.next ((After.start HI6.out.pool HI6.out.good).new (((Same.refl [] w6).alloc _).step S7 (by simp))) HI6.out.inv rfl rfl
          have HI7 : Hid _ := hI7
          have l5 : (room : Int) < ((trues CH : Nat) : Int) := by omega
          have l6 : decide (((trues CH : Nat) : Int) ≤ (room : Int)) = false := decide_eq_false (by omega)
          clear hI7 HI6 hL S7
          go_wp2_with fail
          go_roundw
          case rel => exact ⟨k + 1, s', fr, NW, CH, by omega, by omega, rfl, by go_num, HI7.out⟩
          case measure => simp [intOf]; omega
      · rw [decide_eq_false hxy] at HE
        cases cv with
        | true =>
          have HCF : Hid (chNext now ch kk ⟨x0, x1, x2, x3, x4, x5, x6, x7⟩ = ch) := by show _ = _; rw [HCN.out, if_neg hxy, if_pos rfl]
          clear HCN hxy HCC
          go_wp2_with fail
          go_quiet (fail)
          go_wp2_with fail
          obtain ⟨hI3, hA4, hNow, hCh⟩ := HMM.out
          obtain ⟨E1, E2⟩ := (hNow.drewN nq).set8 kk hkn x0 x1 x2 x3 x4 x5 x6 x7
          have hI4 := HI4.out
          rw [HCF.out] at hI4
          have hI5 := hI3.store hA4 hI4 (((Same.refl [w3.heap.size, w3.heap.size + 1] w4).drewN nq).step E2 (by simp)) E1 (E2.at (hCh.drewN nq) (by simp))
          clear hI3 hA4 hNow hCh E1 E2 HMM HI4 hI4 HCF a0 a1 a2 a3 a4 a5 a6 a7 b0 b1 b2 b3 b4 b5 b6 b7 cc fn fc HE
          generalize hCH : ch = CH at *
          generalize hNW : now.set kk ⟨x0, x1, x2, x3, x4, x5, x6, x7⟩ = NW at *
          clear hCH hNW
          have hs2 := hI5.inv.two
          generalize hW5 : (((((((((w4.drewN nq).setCell ⟨w3.heap.size, kk * 8, none⟩ (.int .u8 x0)).setCell ⟨w3.heap.size, kk * 8 + 1, none⟩ (.int .u8 x1)).setCell ⟨w3.heap.size, kk * 8 + 2, none⟩ (.int .u8 x2)).setCell ⟨w3.heap.size, kk * 8 + 3, none⟩ (.int .u8 x3)).setCell ⟨w3.heap.size, kk * 8 + 4, none⟩ (.int .u8 x4)).setCell ⟨w3.heap.size, kk * 8 + 5, none⟩ (.int .u8 x5)).setCell ⟨w3.heap.size, kk * 8 + 6, none⟩ (.int .u8 x6)).setCell ⟨w3.heap.size, kk * 8 + 7, none⟩ (.int .u8 x7)) = w5 at *
          clear hW5
          have htr2 : trues CH ≤ 20 := by have := trues_le CH; rw [hI5.inv.cl] at this; omega
          by_cases hfm : trues CH ≤ room
          · have hRd := roomRead_few s' fr size room NW CH w5 hI5.pool hI5.good hI5.inv hs20.1 hfm
            rw [hI5.pb] at hRd
            obtain ⟨f1, f2, f3⟩ := hI5.inv.few hfm
            refine hRd.mono ?_
            rintro e w6 ⟨bb, rfl, S6⟩
            obtain ⟨g0, g1, g2, g3, g4, g5, g6, g7⟩ := bb
            unfold Blk.val
            have hI6 := hI5.next ((After.start hI5.pool hI5.good).new S6) hI5.inv rfl rfl
            have hL := fun W (hW : Same [] w6 W) => roomList s' size room W (hI6.pool.new hW) hs2
            rw [hI6.pb, f1, f2] at hL
            have HI6 : Hid _ := hI6
            clear hI5 hI6 hRd S6
            go_wp2_with fail
            refine (hL _ ((Same.refl _ _).alloc _)).mono ?_
            rintro e w7 ⟨lg, rfl, S7, c0, c4, c5⟩
            have hI7 := HI6.out.next ((After.start HI6.out.pool HI6.out.good).new (((Same.refl [] w6).alloc _).step S7 (by simp))) HI6.out.inv rfl rfl
            have HI7 : Hid _ := hI7
            have l5 : ((trues CH : Nat) : Int) ≤ (room : Int) := by omega
            have l6 : decide ((room : Int) < ((trues CH : Nat) : Int)) = false := decide_eq_false (by omega)
            clear hI7 HI6 hL S7
            go_wp2_with fail
            go_roundw
            case rel => exact ⟨k + 1, s', fr, NW, CH, by omega, by omega, rfl, by go_num, HI7.out⟩
            case measure => simp [intOf]; omega
          · have hRd := roomRead_many s' size room NW CH w5 hI5.pool hI5.inv (by omega)
            rw [hI5.pb] at hRd
            have f1 := hI5.inv.many (by omega)
            refine hRd.mono ?_
            rintro e w6 ⟨rfl, S6⟩
            unfold Blk.val Blk.zero
            have hI6 := hI5.next ((After.start hI5.pool hI5.good).new S6) hI5.inv rfl rfl
            have hL := fun W (hW : Same [] w6 W) => roomList s' size room W (hI6.pool.new hW) hs2
            rw [hI6.pb, f1] at hL
            generalize (s'.vols[0]!).kept.length = kl at hL
            have HI6 : Hid _ := hI6
            clear hI5 hI6 hRd S6
            go_wp2_with fail
            refine (hL _ ((Same.refl _ _).alloc _)).mono ?_
            rintro e w7 ⟨lg, rfl, S7, c0, c4, c5⟩
            have hI7 := HI6.out.next ((After.start HI6.out.pool HI6.out.good).new (((Same.refl [] w6).alloc _).step S7 (by simp))) HI6.out.inv rfl rfl
            have HI7 : Hid _ := hI7
            have l5 : (room : Int) < ((trues CH : Nat) : Int) := by omega
            have l6 : decide (((trues CH : Nat) : Int) ≤ (room : Int)) = false := decide_eq_false (by omega)
            clear hI7 HI6 hL S7
            go_wp2_with fail
            go_roundw
            case rel => exact ⟨k + 1, s', fr, NW, CH, by omega, by omega, rfl, by go_num, HI7.out⟩
            case measure => simp [intOf]; omega
        | false =>
          have HCF : Hid (chNext now ch kk ⟨x0, x1, x2, x3, x4, x5, x6, x7⟩ = ch.set kk true) := by show _ = _; rw [HCN.out, if_neg hxy, if_neg (by simp)]
          have hcc2 : ((trues ch : Nat) : Int) + 1 = ((trues (ch.set kk true) : Nat) : Int) := by rw [HCC.out rfl]; omega
          clear HCN hxy HCC
          go_wp2_with fail
          go_quiet (fail)
          go_wp2_with fail
          obtain ⟨hI3, hA4, hNow, hCh⟩ := HMM.out
          have C1 := (hCh.drewN nq).set_same kk (.bool true)
          rw [← List.map_set] at C1
          have N1 := (hNow.drewN nq).set_other (w3.heap.size + 1) kk (.bool true) (by omega)
          obtain ⟨E1, E2⟩ := N1.set8 kk hkn x0 x1 x2 x3 x4 x5 x6 x7
          have hI4 := HI4.out
          rw [HCF.out] at hI4
          have hI5 := hI3.store hA4 hI4 ((((Same.refl [w3.heap.size, w3.heap.size + 1] w4).drewN nq).set (w3.heap.size + 1) kk (.bool true) (by simp)).step E2 (by simp)) E1 (E2.at C1 (by simp))
          clear hI3 hA4 hNow hCh E1 E2 HMM HI4 hI4 HCF a0 a1 a2 a3 a4 a5 a6 a7 b0 b1 b2 b3 b4 b5 b6 b7 cc fn fc HE
          generalize hCH : ch.set kk true = CH at *
          generalize hNW : now.set kk ⟨x0, x1, x2, x3, x4, x5, x6, x7⟩ = NW at *
          clear hCH hNW
          have hs2 := hI5.inv.two
          generalize hW5 : ((((((((((w4.drewN nq).setCell ⟨w3.heap.size + 1, kk, none⟩ (.bool true)).setCell ⟨w3.heap.size, kk * 8, none⟩ (.int .u8 x0)).setCell ⟨w3.heap.size, kk * 8 + 1, none⟩ (.int .u8 x1)).setCell ⟨w3.heap.size, kk * 8 + 2, none⟩ (.int .u8 x2)).setCell ⟨w3.heap.size, kk * 8 + 3, none⟩ (.int .u8 x3)).setCell ⟨w3.heap.size, kk * 8 + 4, none⟩ (.int .u8 x4)).setCell ⟨w3.heap.size, kk * 8 + 5, none⟩ (.int .u8 x5)).setCell ⟨w3.heap.size, kk * 8 + 6, none⟩ (.int .u8 x6)).setCell ⟨w3.heap.size, kk * 8 + 7, none⟩ (.int .u8 x7)) = w5 at *
          clear hW5
          have htr2 : trues CH ≤ 20 := by have := trues_le CH; rw [hI5.inv.cl] at this; omega
          by_cases hfm : trues CH ≤ room
          · have hRd := roomRead_few s' fr size room NW CH w5 hI5.pool hI5.good hI5.inv hs20.1 hfm
            rw [hI5.pb] at hRd
            obtain ⟨f1, f2, f3⟩ := hI5.inv.few hfm
            refine hRd.mono ?_
            rintro e w6 ⟨bb, rfl, S6⟩
            obtain ⟨g0, g1, g2, g3, g4, g5, g6, g7⟩ := bb
            unfold Blk.val
            have hI6 := hI5.next ((After.start hI5.pool hI5.good).new S6) hI5.inv rfl rfl
            have hL := fun W (hW : Same [] w6 W) => roomList s' size room W (hI6.pool.new hW) hs2
            rw [hI6.pb, f1, f2] at hL
            have HI6 : Hid _ := hI6
            clear hI5 hI6 hRd S6
            go_wp2_with fail
            refine (hL _ ((Same.refl _ _).alloc _)).mono ?_
            rintro e w7 ⟨lg, rfl, S7, c0, c4, c5⟩
            have hI7 := HI6.out.next ((After.start HI6.out.pool HI6.out.good).new (((Same.refl [] w6).alloc _).step S7 (by simp))) HI6.out.inv rfl rfl
            have HI7 : Hid _ := hI7
            have l5 : ((trues CH : Nat) : Int) ≤ (room : Int) := by omega
            have l6 : decide ((room : Int) < ((trues CH : Nat) : Int)) = false := decide_eq_false (by omega)
            clear hI7 HI6 hL S7
            go_wp2_with fail
            go_roundw
            case rel => exact ⟨k + 1, s', fr, NW, CH, by omega, by omega, rfl, by go_num, HI7.out⟩
            case measure => simp [intOf]; omega
          · have hRd := roomRead_many s' size room NW CH w5 hI5.pool hI5.inv (by omega)
            rw [hI5.pb] at hRd
            have f1 := hI5.inv.many (by omega)
            refine hRd.mono ?_
            rintro e w6 ⟨rfl, S6⟩
            unfold Blk.val Blk.zero
            have hI6 := hI5.next ((After.start hI5.pool hI5.good).new S6) hI5.inv rfl rfl
            have hL := fun W (hW : Same [] w6 W) => roomList s' size room W (hI6.pool.new hW) hs2
            rw [hI6.pb, f1] at hL
            generalize (s'.vols[0]!).kept.length = kl at hL
            have HI6 : Hid _ := hI6
            clear hI5 hI6 hRd S6
            go_wp2_with fail
            refine (hL _ ((Same.refl _ _).alloc _)).mono ?_
            rintro e w7 ⟨lg, rfl, S7, c0, c4, c5⟩
            have hI7 := HI6.out.next ((After.start HI6.out.pool HI6.out.good).new (((Same.refl [] w6).alloc _).step S7 (by simp))) HI6.out.inv rfl rfl
            have HI7 : Hid _ := hI7
            have l5 : (room : Int) < ((trues CH : Nat) : Int) := by omega
            have l6 : decide (((trues CH : Nat) : Int) ≤ (room : Int)) = false := decide_eq_false (by omega)
            clear hI7 HI6 hL S7
            go_wp2_with fail
            go_roundw
            case rel => exact ⟨k + 1, s', fr, NW, CH, by omega, by omega, rfl, by go_num, HI7.out⟩
            case measure => simp [intOf]; omega
    · have hwr : Same [] w wr := hI.same
      have h2 := hI.inv.two
      obtain ⟨v1, v2, v3, v4⟩ := h2.vol
      have hT := ktold_ok (.pointer (some ⟨pb, 0, none⟩)) ⟨#[118]⟩ size (fun q => now[q]!) wr (by omega) (fun W hW i hi => by
        have hP := hI.pool.new hW
        have hmem := (St.has_mem v2).1
        have hks : i < s.size (s.vol vN) := by rw [v4, (two_size hI.pool h2).1]; exact hi
        have hR := read_some s vN i W hP v2 ((hP.vols _ hmem).plain (by rw [v4]; exact h2.o1)).2 hks (holder_lt hP hI.good hmem hks)
        rw [v4, hI.inv.look i hi, hI.pb] at hR
        exact hR)
      have hmap : (List.range size).map (fun q => now[q]!) = now := by
        apply List.ext_getElem
        · simp [hI.inv.nl]
        · intro i h1 h2
          simp only [List.getElem_map, List.getElem_range]
          rw [getElem!_pos now i h2]
      rw [hmap] at hT
      have hng := hI.now
      have hnl := hI.inv.nl
      have HI : Hid (At wr w3.heap.size 55 (flat now) ∧ Same [] w wr) := ⟨hng, hwr⟩
      clear hI hng hwr hmap
      have hstop : (len : Int) ≤ (k : Int) ∨ ((k : Int) < (len : Int) ∧ (100 : Int) ≤ (k : Int)) := by omega
      clear hkl hk hk6
      have HSM : Hid (∀ (v : Value) (w5 : World), w5.ownsRow wr.heap.size 55 8 v size (flat now) → Same [] wr w5 → Calls Try.prog 29 #[v, .slice (some ⟨w3.heap.size, 0, none⟩) size size] w5 fun e w' => ∃ q, e = .returned (.bool true) ∧ w' = w5.drewN q) := by
        intro v w5 hown hS
        obtain ⟨av, ac, rfl⟩ := owns_form hown
        obtain ⟨ga, ca, rfl, hga, hA, hcl, hct⟩ := owns_atN hown (by omega)
        have h := ksame_calls now now (some ⟨ga, 0, none⟩) (some ⟨w3.heap.size, 0, none⟩) ac size w5 ga w3.heap.size ca (flat now) (fun _ => ⟨rfl, hA⟩) (by rw [hnl]; exact hct) (fun _ => ⟨rfl, hS.at HI.out.1 (by simp)⟩) (List.take_of_length_le (by rw [flat_length]; exact Nat.le_refl _)) (by omega) rfl
        rw [hnl, decide_eq_true rfl] at h
        exact h
      rcases hstop with hst | ⟨hst, hst2⟩
      · go_wp2_with fail
        refine hT.mono ?_
        rintro e w5 ⟨v, rfl, hown, S5⟩
        have hSM := HSM.out v w5 hown S5
        have hB := HI.out.2.step S5 (by simp)
        clear hT hown HSM HI
        go_wp2_with (go_at_call 29; refine hSM.mono ?_; rintro e w6 ⟨q, rfl, rfl⟩)
        go_ret
        exact ⟨rfl, (hB.drewN q).below (Nat.le_refl _) (by simp)⟩
      · go_wp2_with fail
        refine hT.mono ?_
        rintro e w5 ⟨v, rfl, hown, S5⟩
        have hSM := HSM.out v w5 hown S5
        have hB := HI.out.2.step S5 (by simp)
        clear hT hown HSM HI
        go_wp2_with (go_at_call 29; refine hSM.mono ?_; rintro e w6 ⟨q, rfl, rfl⟩)
        go_ret
        exact ⟨rfl, (hB.drewN q).below (Nat.le_refl _) (by simp)⟩
end Go.Proofs.Ytpddgdjocffgdaa
