/- The statements' functions block, told, same, by contracts. -/
import Derived.Test.YtpddgdjocffgdaaLawA
namespace Go.Proofs.Ytpddgdjocffgdaa
open Go.RowKit Go.Sort
set_option linter.unusedVariables false
set_option linter.unusedSimpArgs false
set_option linter.unusedSectionVars false
variable [DecidableEq Blk] [Inhabited Blk]
variable [Inhabited Vol]

theorem flat_append (a b : List Blk) : flat (a ++ b) = flat a ++ flat b := by
  induction a with
  | nil => rfl
  | cons x r ih => simp [flat, ih]

/-- A block by a raw number. -/
def blkOf (c : Int) : Blk := ⟨pickF c 9, 0, 0, 0, 0, 0, 0, (pickF (c.tdiv 9) 3).tdiv 2⟩

theorem tdiv_bd9 (c : Int) (h1 : -9223372036854775808 ≤ c) (h2 : c ≤ 9223372036854775807) : -9223372036854775808 ≤ c.tdiv 9 ∧ c.tdiv 9 ≤ 9223372036854775807 := by
  rcases Int.le_total 0 c with h | h
  · have a := Int.tdiv_nonneg h (by omega : (0 : Int) ≤ 9)
    have b := Int.tdiv_le_self 9 h
    omega
  · have a := Int.tdiv_nonneg (show (0 : Int) ≤ -c by omega) (by omega : (0 : Int) ≤ 9)
    have b := Int.tdiv_le_self 9 (show (0 : Int) ≤ -c by omega)
    rw [Int.neg_tdiv] at a b
    omega

set_option maxHeartbeats 800000 in
set_option maxRecDepth 100000 in
theorem kblock_calls (c : Int) (w : World) (h1 : -9223372036854775808 ≤ c) (h2 : c ≤ 9223372036854775807) : Calls Try.prog 24 #[.int .i64 c] w fun e w' => e = .returned (blkOf c).val ∧ Same [] w w' := by
  obtain ⟨t1, t2⟩ := tdiv_bd9 c h1 h2
  have hp1 := fun W => pick_calls c 9 W h1 h2 (by omega) (by omega)
  have hp2 := fun W => pick_calls (c.tdiv 9) 3 W t1 t2 (by omega) (by omega)
  obtain ⟨b1, b2⟩ := pickF_bd c 9 (by omega)
  obtain ⟨b3, b4⟩ := pickF_bd (c.tdiv 9) 3 (by omega)
  unfold Blk.val blkOf
  generalize pickF c 9 = p at *
  generalize pickF (c.tdiv 9) 3 = q at *
  have b5 : 0 ≤ q.tdiv 2 ∧ q.tdiv 2 ≤ 1 := by
    have : q = 0 ∨ q = 1 ∨ q = 2 := by omega
    rcases this with rfl | rfl | rfl <;> decide
  have u1 : IntKind.u8.wrap p = p := by rw [IntKind.wrap_u8]; omega
  have u2 : IntKind.u8.wrap (q.tdiv 2) = q.tdiv 2 := by rw [IntKind.wrap_u8]; omega
  have hc1 : IntKind.i64.wrap (c.tdiv 9) = c.tdiv 9 := IntWalk.i64_in _ (by omega)
  have hc2 : IntKind.i64.wrap (q.tdiv 2) = q.tdiv 2 := IntWalk.i64_in _ (by omega)
  go_enter Try.func24, Try.ntmps24
  go_wp2_with fail
  refine (hp1 _).mono ?_
  rintro e wz ⟨rfl, rfl⟩
  clear hp1
  go_wp2_with fail
  refine (hp2 _).mono ?_
  rintro e wz ⟨rfl, rfl⟩
  clear hp2
  go_wp2
  refine bodyPost_ret (v := .agg #[.int .u8 p, .int .u8 0, .int .u8 0, .int .u8 0, .int .u8 0, .int .u8 0, .int .u8 0, .int .u8 (q.tdiv 2)]) (by simp [results, Try.results24, go_sem]) rfl ⟨rfl, ?_⟩
  exact ((Same.refl _ _).alloc _).alloc _

set_option maxHeartbeats 1000000 in
set_option maxRecDepth 100000 in
theorem ktold_ok (pv : Value) (t : ByteArray) (n : Nat) (f : Nat → Blk) (w : World) (hn : n ≤ 1000)
    (hR : ∀ W, Same [] w W → ∀ i, i < n → Calls Try.prog 30 #[pv, .string t, .int .i64 i] W fun e w' => e = .returned (.tuple #[(f i).val, .int .i64 0]) ∧ Same [] W w') :
    Calls Try.prog 28 #[pv, .string t, .int .i64 n] w fun e w' => ∃ v, e = .returned (.tuple #[v, .bool true]) ∧ w'.ownsRow w.heap.size 55 8 v n (flat ((List.range n).map f)) ∧ Same [] w w' := by
  obtain ⟨i0, hi, hz0, hz1, hz2⟩ := info_parts Try.info51
  go_enter Try.func28, Try.ntmps28
  go_wp2_with fail
  go_loopw [8, 9] (fun v i wr => ∃ k : Nat, k ≤ n ∧ i = .int .i64 k ∧ Same [] w wr ∧ wr.ownsRow w.heap.size 55 8 v k (flat ((List.range k).map f)))
    (fun _ i _ => n - (intOf i).toNat)
  case atStart => exact ⟨0, Nat.zero_le _, rfl, Same.refl _ _, World.ownsRow_nil _ _ _ _⟩
  case round =>
    obtain ⟨k, hk, rfl, hS, hown⟩ := hrel
    obtain ⟨a, cp, rfl⟩ := owns_form hown
    by_cases hkl : k < n
    · have hRk := hR wr hS k hkl
      have HV : Hid (flat ((List.range (k + 1)).map f) = flat ((List.range k).map f) ++ (f k).cells) := by
        show _ = _
        rw [List.range_succ, List.map_append, flat_append]
        simp [flat]
      generalize f k = bk at *
      obtain ⟨x0, x1, x2, x3, x4, x5, x6, x7⟩ := bk
      unfold Blk.val at hRk
      have l2 : (k : Int) < (n : Int) := by omega
      go_wp2_with fail
      refine hRk.mono ?_
      rintro e w1 ⟨rfl, S1⟩
      have hown1 := owns_same hown S1 (by simp)
      have hS1 := hS.step S1 (by simp)
      have hsz := hS1.size
      clear hown hS hRk
      go_wp2_with (at_builtin; refine wpList_append_own _ rfl _ _ 52 rfl w.heap.size 55 i0 (.agg #[.int .u8 0, .int .u8 0, .int .u8 0, .int .u8 0, .int .u8 0, .int .u8 0, .int .u8 0, .int .u8 0]) 8 8 Try.underlying52 hi hz0 hz1 hz2 rfl (by decide) _ _ _ rfl ((hown1.alloc _).alloc _) ⟨w1.heap.size + 1, 0, none⟩ 1 1 [.int .u8 x0, .int .u8 x1, .int .u8 x2, .int .u8 x3, .int .u8 x4, .int .u8 x5, .int .u8 x6, .int .u8 x7] rfl rfl ?c1 ?c2 ?c3 ?c4 ?c5 ?_)
      case c1 =>
        intro j u hj
        rw [Addr.add_lit, Nat.zero_add, World.cell?_alloc_at _ _ _ _ (by simp), ← hj]
        simp
      case c2 => intro u hu; simp only [List.mem_cons, List.not_mem_nil, or_false] at hu; rcases hu with rfl | rfl | rfl | rfl | rfl | rfl | rfl | rfl <;> rfl
      case c3 => unfold maxLen; omega
      case c4 => omega
      case c5 => first | omega | (simp; done) | (simp; omega)
      intro v' w2 hown' hgrow _
      have S2 : Same [] w w2 := ((hS1.alloc _).alloc _).grown hgrow (fun j hj hl => by have := (hown1.lt j hj).1; omega)
      have O2 : w2.ownsRow w.heap.size 55 8 v' (k + 1) (flat ((List.range (k + 1)).map f)) := by
        rw [HV.out]; exact hown'
      clear hown' hgrow hown1 hS1 S1
      go_wp2
      go_roundw
      case rel => exact ⟨k + 1, by omega, by go_num, S2, O2⟩
      case measure => simp [intOf]; omega
    · have ek : k = n := by omega
      subst ek
      have HO : Hid _ := hown
      clear hown hR
      go_wp2
      go_ret2
      exact ⟨_, rfl, HO.out, hS⟩

theorem flat_eight (l : List Blk) (cs : List Value) (hc : cs.take (l.length * 8) = flat l) (w : World) (g : Nat) (t : TypeId) (h : At w g t cs) (k : Nat) (hk : k < l.length) :
    w.cell? ⟨g, k * 8, none⟩ = some (.int .u8 (l[k]!).b0) ∧ w.cell? ⟨g, k * 8 + 1, none⟩ = some (.int .u8 (l[k]!).b1) ∧ w.cell? ⟨g, k * 8 + 2, none⟩ = some (.int .u8 (l[k]!).b2) ∧ w.cell? ⟨g, k * 8 + 3, none⟩ = some (.int .u8 (l[k]!).b3) ∧
    w.cell? ⟨g, k * 8 + 4, none⟩ = some (.int .u8 (l[k]!).b4) ∧ w.cell? ⟨g, k * 8 + 5, none⟩ = some (.int .u8 (l[k]!).b5) ∧ w.cell? ⟨g, k * 8 + 6, none⟩ = some (.int .u8 (l[k]!).b6) ∧ w.cell? ⟨g, k * 8 + 7, none⟩ = some (.int .u8 (l[k]!).b7) := by
  have key : ∀ j, j < 8 → w.cell? ⟨g, k * 8 + j, none⟩ = (l[k]!).cells[j]? := fun j hj => by
    rw [h.cell?, ← flat_get l k j hk hj, ← hc, List.getElem?_take, if_pos (by omega)]
  exact ⟨key 0 (by omega), key 1 (by omega), key 2 (by omega), key 3 (by omega), key 4 (by omega), key 5 (by omega), key 6 (by omega), key 7 (by omega)⟩

theorem take_eq_succ {a b : List Blk} {k : Nat} (ha : k < a.length) (hb : k < b.length) (h : a.take k = b.take k) (e : a[k]! = b[k]!) : a.take (k + 1) = b.take (k + 1) := by
  rw [List.take_succ_eq_append_getElem ha, List.take_succ_eq_append_getElem hb, h, ← getElem!_pos a k ha, ← getElem!_pos b k hb, e]

set_option maxHeartbeats 1000000 in
set_option maxRecDepth 100000 in
theorem ksame_calls (a b : List Blk) (av bv : Option Addr) (ac bc : Nat) (w : World) (ga gb : Nat) (ca cb : List Value) (ha : a ≠ [] → av = some ⟨ga, 0, none⟩ ∧ At w ga 55 ca) (hca : ca.take (a.length * 8) = flat a) (hb : b ≠ [] → bv = some ⟨gb, 0, none⟩ ∧ At w gb 55 cb) (hcb : cb.take (b.length * 8) = flat b) (hl : a.length ≤ 1000) (hl2 : b.length = a.length) :
    Calls Try.prog 29 #[.slice av a.length ac, .slice bv b.length bc] w fun e w' => ∃ q, e = .returned (.bool (decide (a = b))) ∧ w' = w.drewN q := by
  rw [hl2]
  generalize hres : decide (a = b) = res
  have HRES : Hid (decide (a = b) = res) := hres
  clear hres
  go_enter Try.func29, Try.ntmps29
  go_wp2_with fail
  go_loopw [5] (fun i wr => ∃ k : Nat, k ≤ a.length ∧ i = .int .i64 k ∧ (∃ q, wr = w.drewN q) ∧ Hid (a.take k = b.take k)) (fun i _ => a.length - (intOf i).toNat)
  case atStart => exact ⟨0, Nat.zero_le _, rfl, ⟨0, rfl⟩, by show _ = _; simp⟩
  case round =>
    obtain ⟨k, hk, rfl, ⟨q, rfl⟩, HT⟩ := hrel
    by_cases hkl : k < a.length
    · obtain ⟨rfl, hA⟩ := ha (by intro e; rw [e] at hkl; simp at hkl)
      obtain ⟨rfl, hB⟩ := hb (by intro e; rw [e] at hl2; simp at hl2; omega)
      obtain ⟨a0, a1, a2, a3, a4, a5, a6, a7⟩ := flat_eight a ca hca _ ga _ hA k hkl
      obtain ⟨c0, c1, c2, c3, c4, c5, c6, c7⟩ := flat_eight b cb hcb _ gb _ hB k (by omega)
      have HE := fun W => equal_blocks a[k]! b[k]! W
      have HN : Hid (a[k]! = b[k]! → a.take (k + 1) = b.take (k + 1)) := take_eq_succ hkl (by omega) HT.out
      have HX : Hid (a[k]! ≠ b[k]! → a ≠ b) := fun h e => h (by rw [e])
      generalize hak : a[k]! = x at *
      generalize hbk : b[k]! = y at *
      obtain ⟨x0, x1, x2, x3, x4, x5, x6, x7⟩ := x
      obtain ⟨y0, y1, y2, y3, y4, y5, y6, y7⟩ := y
      simp only at a0 a1 a2 a3 a4 a5 a6 a7 c0 c1 c2 c3 c4 c5 c6 c7 HE
      have l2 : (k : Int) < (a.length : Int) := by omega
      clear hA hB hca hcb ha hb hak hbk
      by_cases hxy : (⟨x0, x1, x2, x3, x4, x5, x6, x7⟩ : Blk) = ⟨y0, y1, y2, y3, y4, y5, y6, y7⟩
      · have HT2 : Hid _ := HN.out hxy
        rw [decide_eq_true hxy] at HE
        clear HN HX hxy
        go_wp2_with fail
        go_quiet (fail)
        go_wp2
        go_roundw
        case rel => exact ⟨k + 1, by omega, by go_num, ⟨_, rfl⟩, HT2⟩
        case measure => simp [intOf]; omega
      · have HF : Hid (res = false) := by show _ = _; rw [← HRES.out]; exact decide_eq_false (HX.out hxy)
        rw [decide_eq_false hxy] at HE
        clear HN HX hxy
        go_wp2_with fail
        go_quiet (fail)
        go_wp2
        go_ret
        rw [HF.out]
        exact ⟨_, rfl, World.drewN_drewN _ _ _⟩
    · have ek : k = a.length := by omega
      have HF : Hid (res = true) := by
        show _ = _
        rw [← HRES.out]
        have h1 := HT.out
        rw [ek, List.take_length, List.take_of_length_le (by omega)] at h1
        exact decide_eq_true h1
      subst ek
      clear ha hb hca hcb
      go_wp2
      go_ret
      rw [HF.out]
      exact ⟨_, rfl, rfl⟩
end Go.Proofs.Ytpddgdjocffgdaa
