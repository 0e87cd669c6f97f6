/- A Pool: Write, by a contract. -/
import Derived.Test.YtbidkjjklnacbaaPoolB
namespace Go.Proofs.Ytbidkjjklnacbaa
open Go.RowKit Go.Sort
set_option linter.unusedVariables false
set_option linter.unusedSimpArgs false
set_option linter.unusedSectionVars false
variable [DecidableEq Blk] [Inhabited Blk]
variable [Inhabited Vol]

theorem all_range_int : ∀ (xs ys : List Int), xs.length = ys.length → ((List.range xs.length).all fun i => xs.getD i 0 == ys.getD i 0) = (xs == ys)
  | [], [], _ => rfl
  | x :: xs, y :: ys, h => by
    have ih := all_range_int xs ys (by simpa using h)
    rw [List.length_cons, List.range_succ_eq_map, List.all_cons, List.all_map]
    simp only [List.getD_cons_zero, Function.comp_def, List.getD_cons_succ, ih]
    simp [List.cons_beq_cons]
  | [], _ :: _, h => by simp at h
  | _ :: _, [], h => by simp at h

theorem run_equalIn_ints {P : Program} (w : World) (d : Nat) (t e : TypeId) (n : Nat) (ht : P.underlying t = some (.array n e)) (he : P.underlying e = some (.int .u8)) (hsz : ∀ w, (sizeOf e).run P w = .ok 1 w)
    (xs ys : List Int) (hx : xs.length = n) (hy : ys.length = n) :
    (Op.equalIn (d + 2) t (.agg (xs.map (Value.int .u8)).toArray) (.agg (ys.map (Value.int .u8)).toArray)).run P w = .ok (xs == ys) w := by
  rw [← all_range_int xs ys (hx.trans hy.symm), hx, List.range_eq_range', Op.equalIn]
  simp only [Sem.run_bind, run_underlying ht, Result.andThen_ok, hsz, Std.Legacy.Range.forIn_eq_forIn_range', Std.Legacy.Range.size, Nat.sub_zero, Nat.add_sub_cancel, Nat.div_one]
  have hl : ∀ i ∈ List.range' 0 n 1, i < n := fun i hi => by simpa using (List.mem_range'_1.1 hi).2
  generalize List.range' 0 n 1 = l at hl ⊢
  induction l with
  | nil => simp
  | cons i l ih =>
    have hi : i < n := hl i (by simp)
    have px : (part e (xs.map (Value.int .u8)).toArray (i * 1)).run P w = .ok (.int .u8 (xs.getD i 0)) w := by
      simp [part, isAgg, run_underlying he, List.getD, List.getElem?_eq_getElem (show i < xs.length by omega)]
    have py : (part e (ys.map (Value.int .u8)).toArray (i * 1)).run P w = .ok (.int .u8 (ys.getD i 0)) w := by
      simp [part, isAgg, run_underlying he, List.getD, List.getElem?_eq_getElem (show i < ys.length by omega)]
    have pe : (Op.equalIn (d + 1) e (.int .u8 (xs.getD i 0)) (.int .u8 (ys.getD i 0))).run P w = .ok (xs.getD i 0 == ys.getD i 0) w := by
      rw [run_equalIn_int w d e .u8 .u8 _ _ he]
    simp only [List.forIn_cons, Sem.run_bind, px, py, pe, Result.andThen_ok, List.all_cons]
    cases hb : (xs.getD i 0 == ys.getD i 0)
    · simp
    · simp only [Bool.not_true, Bool.false_eq_true, if_false, Sem.run_pure, Result.andThen_ok, Bool.true_and]
      exact ih fun j hj => hl j (by simp [hj])

def Blk.list (b : Blk) : List Int := [b.b0, b.b1, b.b2, b.b3, b.b4, b.b5, b.b6, b.b7]
theorem Blk.list_eq (a b : Blk) : (a.list == b.list) = decide (a = b) := by
  obtain ⟨a0, a1, a2, a3, a4, a5, a6, a7⟩ := a
  obtain ⟨c0, c1, c2, c3, c4, c5, c6, c7⟩ := b
  rw [Bool.eq_iff_iff]
  simp [Blk.list]

/-- Two blocks compared. -/
theorem equal_blocks (a b : Blk) (w : World) : (Op.equalIn 10000 51 (.agg #[.int .u8 a.b0, .int .u8 a.b1, .int .u8 a.b2, .int .u8 a.b3, .int .u8 a.b4, .int .u8 a.b5, .int .u8 a.b6, .int .u8 a.b7]) (.agg #[.int .u8 b.b0, .int .u8 b.b1, .int .u8 b.b2, .int .u8 b.b3, .int .u8 b.b4, .int .u8 b.b5, .int .u8 b.b6, .int .u8 b.b7])).run Try.prog w = .ok (decide (a = b)) w := by
  rw [← Blk.list_eq]
  obtain ⟨i0, hi, hz0, hz1, hz2⟩ := info_parts Try.info5
  exact run_equalIn_ints (P := Try.prog) w 9998 51 5 8 Try.underlying51 Try.underlying5 (fun w => by simp [sizeOf, typeInfo, hi, hz1]) a.list b.list rfl rfl

set_option maxHeartbeats 400000 in
set_option maxRecDepth 100000 in
theorem write_err (s : St) (t : ByteArray) (k e0 : Int) (b : Blk) (w : World) (he : e0 ≠ 0) (hf : ∀ w', Same [] w w' → Calls Try.prog 47 #[.pointer (some ⟨s.pb, 0, none⟩), .string t, .int .i64 k] w' fun e w'' => e = .returned (.tuple #[.int .i64 0, .int .i64 e0]) ∧ w'' = w') :
    Calls Try.prog 19 #[.pointer (some ⟨s.pb, 0, none⟩), .string t, .int .i64 k, b.val] w fun e w' => e = .returned (.int .i64 e0) ∧ Same [] w w' := by
  obtain ⟨x0, x1, x2, x3, x4, x5, x6, x7⟩ := b
  have hf' := hf _ ((Same.refl [] w).alloc (Obj.cells #[.int .u8 x0, .int .u8 x1, .int .u8 x2, .int .u8 x3, .int .u8 x4, .int .u8 x5, .int .u8 x6, .int .u8 x7] 51))
  clear hf
  have he' : (e0 != 0) = true := by simpa using he
  unfold Blk.val
  go_enter Try.func19, Try.ntmps19
  go_wp2_with (go_at_call 47; refine hf'.mono ?_; rintro e w' ⟨rfl, rfl⟩)
  go_ret
  exact ⟨rfl, (Same.refl _ _).alloc _⟩

set_option maxHeartbeats 1000000 in
set_option maxRecDepth 100000 in
theorem write_some (s : St) (t : ByteArray) (k : Nat) (b : Blk) (w : World) (h : PoolAt w s) (hi : s.has t = true) (hk : k < (s.vol t).xs.length) (hn : (s.vol t).xs[k]! < s.n) :
    Calls Try.prog 19 #[.pointer (some ⟨s.pb, 0, none⟩), .string t, .int .i64 k, b.val] w fun e w' => e = .returned (.int .i64 0) ∧ At w' s.bb 51 (flat (s.bl.set (s.vol t).xs[k]! b)) ∧ Same [s.bb] w w' := by
  obtain ⟨x0, x1, x2, x3, x4, x5, x6, x7⟩ := b
  have S0 := (Same.refl [] w).alloc (Obj.cells #[.int .u8 x0, .int .u8 x1, .int .u8 x2, .int .u8 x3, .int .u8 x4, .int .u8 x5, .int .u8 x6, .int .u8 x7] 51)
  have h1 := h.new S0
  have N0 := At.new w #[.int .u8 x0, .int .u8 x1, .int .u8 x2, .int .u8 x3, .int .u8 x4, .int .u8 x5, .int .u8 x6, .int .u8 x7] 51
  have hf := findPlace_in s t k _ h1 hi hk
  obtain ⟨cap, hp, _, _⟩ := h1.pool
  have hlp : s.pb < w.heap.size := h.foot_lt _ (by simp [St.foot])
  generalize (s.vol t).xs[k]! = yy at *
  have hD := h1.disk
  clear h h1
  unfold Blk.val
  go_enter Try.func19, Try.ntmps19
  go_wp2_with fail
  refine hf.mono ?_
  rintro e w' ⟨rfl, rfl⟩
  go_wp2_with fail
  generalize w.alloc (Obj.cells #[.int .u8 x0, .int .u8 x1, .int .u8 x2, .int .u8 x3, .int .u8 x4, .int .u8 x5, .int .u8 x6, .int .u8 x7] 51) = w1 at *
  have c1 : w1.cell? ⟨s.pb, 1, none⟩ = some (.pointer (some ⟨s.db, 0, none⟩)) := hp.cell? 1
  have b0 : w1.cell? ⟨w.heap.size, 0, none⟩ = some (.int .u8 x0) := N0.cell? 0
  have b1 : w1.cell? ⟨w.heap.size, 1, none⟩ = some (.int .u8 x1) := N0.cell? 1
  have b2 : w1.cell? ⟨w.heap.size, 2, none⟩ = some (.int .u8 x2) := N0.cell? 2
  have b3 : w1.cell? ⟨w.heap.size, 3, none⟩ = some (.int .u8 x3) := N0.cell? 3
  have b4 : w1.cell? ⟨w.heap.size, 4, none⟩ = some (.int .u8 x4) := N0.cell? 4
  have b5 : w1.cell? ⟨w.heap.size, 5, none⟩ = some (.int .u8 x5) := N0.cell? 5
  have b6 : w1.cell? ⟨w.heap.size, 6, none⟩ = some (.int .u8 x6) := N0.cell? 6
  have b7 : w1.cell? ⟨w.heap.size, 7, none⟩ = some (.int .u8 x7) := N0.cell? 7
  have hR := fun W (hW : Same [] w1 W) => diskRead_calls s.db s.bb s.n yy _ _ _ s.bl W _ _ rfl rfl (hW.at hD.disk (by simp)) (hW.at hD.data (by simp)) hD.len hn (by have := hD.small; omega)
  generalize hold : s.bl[yy]! = old at *
  obtain ⟨o0, o1, o2, o3, o4, o5, o6, o7⟩ := old
  unfold Blk.val at hR
  clear hf
  have HH : Hid (s.bl[yy]! = ⟨o0, o1, o2, o3, o4, o5, o6, o7⟩) := hold
  clear hold
  have HE := fun W => equal_blocks ⟨o0, o1, o2, o3, o4, o5, o6, o7⟩ ⟨x0, x1, x2, x3, x4, x5, x6, x7⟩ W
  simp only at HE
  have hgp : ∃ g, decide ((⟨o0, o1, o2, o3, o4, o5, o6, o7⟩ : Blk) = ⟨x0, x1, x2, x3, x4, x5, x6, x7⟩) = g := ⟨_, rfl⟩
  obtain ⟨g, hg⟩ := hgp
  rw [hg] at HE
  have HG : Hid (decide ((⟨o0, o1, o2, o3, o4, o5, o6, o7⟩ : Blk) = ⟨x0, x1, x2, x3, x4, x5, x6, x7⟩) = g) := hg
  clear hg
  go_region_with (go_at_call 48; refine (hR _ ((Same.refl [] w1).drew)).mono ?_; rintro e w2 ⟨rfl, S2⟩; have d0 : w2.cell? ⟨w.heap.size, 0, none⟩ = some (.int .u8 x0) := (S2.at N0.drew (by simp)).cell? 0; have d1 : w2.cell? ⟨w.heap.size, 1, none⟩ = some (.int .u8 x1) := (S2.at N0.drew (by simp)).cell? 1; have d2 : w2.cell? ⟨w.heap.size, 2, none⟩ = some (.int .u8 x2) := (S2.at N0.drew (by simp)).cell? 2; have d3 : w2.cell? ⟨w.heap.size, 3, none⟩ = some (.int .u8 x3) := (S2.at N0.drew (by simp)).cell? 3; have d4 : w2.cell? ⟨w.heap.size, 4, none⟩ = some (.int .u8 x4) := (S2.at N0.drew (by simp)).cell? 4; have d5 : w2.cell? ⟨w.heap.size, 5, none⟩ = some (.int .u8 x5) := (S2.at N0.drew (by simp)).cell? 5; have d6 : w2.cell? ⟨w.heap.size, 6, none⟩ = some (.int .u8 x6) := (S2.at N0.drew (by simp)).cell? 6; have d7 : w2.cell? ⟨w.heap.size, 7, none⟩ = some (.int .u8 x7) := (S2.at N0.drew (by simp)).cell? 7)
  all_goals
    have D2 := hD.same ((Same.refl [] w1).drew.step S2 (by simp)) (by simp) (by simp) (by simp)
    have P2 : w2.cell? ⟨s.pb, 1, none⟩ = some (.pointer (some ⟨s.db, 0, none⟩)) := (S2.at hp.drew (by simp)).cell? 1
    have S3 : Same [] w w2 := S0.drew.step S2 (by simp)
    clear b0 b1 b2 b3 b4 b5 b6 b7 c1 hR HE S2 S0 hD
    cases g with
    | true =>
      go_wp2
      go_ret
      have e1 : s.bl.set yy ⟨x0, x1, x2, x3, x4, x5, x6, x7⟩ = s.bl := by
        have := of_decide_eq_true HG.out
        rw [← this, ← HH.out, getElem!_pos s.bl yy (by rw [D2.len]; exact hn)]
        simp
      exact ⟨rfl, by rw [e1]; exact D2.data, S3.mono (by simp)⟩
    | false =>
      go_wp2_with fail
      have hW := fun W (hW : Same [] w2 W) u (hu : u = Blk.val ⟨x0, x1, x2, x3, x4, x5, x6, x7⟩) => diskWrite_calls s.db s.bb s.n yy _ _ _ s.bl ⟨x0, x1, x2, x3, x4, x5, x6, x7⟩ W _ u _ rfl rfl hu (hW.at D2.disk (by simp)) (hW.at D2.data (by simp)) D2.len hn (by have := D2.small; omega)
      go_region_with (go_at_call 49; refine (hW _ ((Same.refl [] w2).drew) _ rfl).mono ?_; rintro e w3 ⟨rfl, A3, S4⟩)
      all_goals
        have S5 : Same [s.bb] w w3 := (S3.mono (T := [s.bb]) (by simp)).drew.step S4 (by simp)
        clear hW D2 S3 S4 P2 d0 d1 d2 d3 d4 d5 d6 d7
        go_wp2
        go_ret
        exact ⟨rfl, A3, S5⟩
end Go.Proofs.Ytbidkjjklnacbaa
