/- The document's own answer: drop, Remove, by contracts. The document's own answer: keeps, keep, by contracts. The document's own answer: keep, by contracts. The document's own answer: New, by contracts. The document's own answer: List, by contracts. The statements' own small functions: num, by a contract. The statements' own small functions: text, by a contract. The statements' own small functions: block, by a contract. The document's own answer: what Write, Resize and Create refuse, by contracts. -/
import Derived.Test.YtpddgdjocffgdaaG17
import Derived.Maps.AppendAt
import Derived.Test.YtpddgdjocffgdaaG03
namespace Go.Proofs.Ytpddgdjocffgdaa
set_option linter.unusedVariables false
set_option linter.unusedSimpArgs false
set_option linter.unusedSectionVars false
section
open Go.RowKit Go.Sort
variable [DecidableEq Blk] [Inhabited Blk] [Inhabited Vol] [Inhabited RVol]
/-- A volume lies as it did where no block of its sorts was written. -/
theorem RVolAt.same {w w' : World} {v : RVol} (h : RVolAt w v) {S : List Nat} (hs : Same S w w')
    (hb : ∀ b ∈ S, ∀ cs, ¬ At w b 162 cs ∧ ¬ At w b 9 cs ∧ ¬ At w b 3 cs) : RVolAt w' v := by
  obtain ⟨dc, bc, kc, a1, a2, a3, a4, a5⟩ := h.ex
  refine ⟨⟨dc, bc, kc, hs.at a1 (fun hm => (hb _ hm _).1 a1), ?_, ?_, a4, fun a ha => ?_⟩, h.data, h.blocks, h.kept⟩
  · obtain ⟨cs, h1, h2⟩ := a2.ex
    exact a2.same hs (fun hm => (hb _ hm _).2.1 h1)
  · obtain ⟨cs, h1, h2⟩ := a3.ex
    exact a3.same hs (fun hm => (hb _ hm _).2.2 h1)
  · obtain ⟨cs, h1, h2⟩ := (a5 a ha).ex
    exact (a5 a ha).same hs (fun hm => (hb _ hm _).2.2 h1)
theorem RVolAt.same0 {w w' : World} {v : RVol} (h : RVolAt w v) (hs : Same [] w w') : RVolAt w' v := h.same hs (by simp)
theorem RefAt.same0 {w w' : World} {s : RSt} (h : RefAt w s) (hs : Same [] w w') : RefAt w' s := by
  obtain ⟨cap, hp, h1, h2⟩ := h.pool
  refine ⟨⟨cap, hs.at hp (by simp), h1, h2⟩, fun b hb => ?_, fun v hv => (h.vols v hv).same0 hs, h.few, h.n⟩
  obtain ⟨cs, hc, h3⟩ := h.arr b hb
  exact ⟨cs, hs.at hc (by simp), h3⟩
set_option maxHeartbeats 400000 in
set_option maxRecDepth 100000 in
theorem refFreeN_calls (s : RSt) (w : World) (h : RefAt w s) :
    Calls Try.prog 43 #[.pointer (some ⟨s.rb, 0, none⟩)] w fun e w' => e = .returned (.int .i64 (s.freeL s.n).length) ∧ Same [] w w' := by
  have hF := refFree_calls s w h
  go_enter Try.func43, Try.ntmps43
  go_wp2_with (first | (go_at_call 84; refine hF.mono ?_; rintro e wz ⟨v, rfl, hown, hS⟩; obtain ⟨ua, ucap, rfl⟩ := owns_form hown))
  go_ret
  exact ⟨rfl, hS⟩
/-- What List says of one. -/
def RVol.told (v : RVol) : List Value :=
  if v.of_ = ⟨#[]⟩ then [.string v.name, .int .i64 v.data.length, .string ⟨#[]⟩, .int .i64 0, .int .i64 0, .bool false]
  else [.string v.name, .int .i64 v.data.length, .string v.of_, .int .i64 v.blocks.length, .int .i64 v.kept.length, .bool v.lost]
def rtoldAll : List RVol → List Value
  | [] => []
  | v :: r => v.told ++ rtoldAll r
theorem rtoldAll_append (a b : List RVol) : rtoldAll (a ++ b) = rtoldAll a ++ rtoldAll b := by
  induction a with
  | nil => rfl
  | cons v r ih => simp [rtoldAll, ih]
set_option maxHeartbeats 1000000 in
set_option maxRecDepth 100000 in
theorem refList_calls (s : RSt) (w : World) (h : RefAt w s) :
    Calls Try.prog 83 #[.pointer (some ⟨s.rb, 0, none⟩)] w fun e w' => ∃ a cap, e = .returned (.slice a s.vols.length cap) ∧ Same [] w w' ∧
      (s.vols ≠ [] → ∃ g cs, a = some ⟨g, 0, none⟩ ∧ w.heap.size ≤ g ∧ At w' g 70 cs ∧ cs.take (s.vols.length * 6) = rtoldAll s.vols) := by
  obtain ⟨cap, hp, h1, h2⟩ := h.pool
  have hfew := h.few
  obtain ⟨i0, hi, hz0, hz1, hz2⟩ := info_parts Try.info57
  go_enter Try.func83, Try.ntmps83
  go_wp2
  go_loopw [3, 4] (fun u i wr => ∃ k : Nat, k ≤ s.vols.length ∧ i = .int .i64 k ∧ Same [] w wr ∧ wr.ownsRow w.heap.size 70 6 u k (rtoldAll (s.vols.take k)))
    (fun _ i _ => s.vols.length - (intOf i).toNat)
  case atStart => exact ⟨0, Nat.zero_le _, rfl, Same.refl _ _, World.ownsRow_nil _ _ _ _⟩
  case round =>
    obtain ⟨k, hk, rfl, hS, hown⟩ := hrel
    have c1 : wr.cell? ⟨s.rb, 1, none⟩ = some (.slice (s.lg.map fun b => ⟨b, 0, none⟩) s.vols.length cap) := (hS.at hp (by simp)).cell? 1
    have hR := h.same0 hS
    obtain ⟨ua, ucap, rfl⟩ := owns_form hown
    by_cases hkl : k < s.vols.length
    · obtain ⟨b, hb, e1, hm⟩ := hR.cell k hkl
      have hRV := hR.vols _ hm
      obtain ⟨dc, bc, kc, hv, _⟩ := hRV.ex
      have q0 : wr.cell? ⟨(s.vols[k]!).vb, 0, none⟩ = some (.string (s.vols[k]!).name) := hv.cell? 0
      have q1 : wr.cell? ⟨(s.vols[k]!).vb, 1, none⟩ = some (.string (s.vols[k]!).of_) := hv.cell? 1
      have q2 : wr.cell? ⟨(s.vols[k]!).vb, 2, none⟩ = some (.slice (some ⟨(s.vols[k]!).dg, 0, none⟩) (s.vols[k]!).data.length dc) := hv.cell? 2
      have q3 : wr.cell? ⟨(s.vols[k]!).vb, 3, none⟩ = some (.slice (some ⟨(s.vols[k]!).bg, 0, none⟩) (s.vols[k]!).blocks.length bc) := hv.cell? 3
      have q4 : wr.cell? ⟨(s.vols[k]!).vb, 4, none⟩ = some (.slice ((s.vols[k]!).kg.map fun g => ⟨g, 0, none⟩) (s.vols[k]!).kept.length kc) := hv.cell? 4
      have q5 : wr.cell? ⟨(s.vols[k]!).vb, 5, none⟩ = some (.bool (s.vols[k]!).lost) := hv.cell? 5
      have z0 := hv.lt
      have z1 := hRV.data
      have z2 := hRV.blocks
      have z3 := hRV.kept
      have hb' : (s.lg.map fun b => (⟨b, 0, none⟩ : Addr)) = some ⟨b, 0, none⟩ := by rw [hb]; rfl
      rw [hb'] at c1
      have HV : Hid (s.vols.take (k + 1) = s.vols.take k ++ [s.vols[k]!]) := by show _ = _; rw [List.take_succ_eq_append_getElem hkl, getElem!_pos s.vols k hkl]
      generalize s.vols[k]! = vv at *
      have l1 : (k : Int) < (s.vols.length : Int) := by omega
      have hsz := hS.size
      clear hR hRV hv hm hb' hb
      by_cases hn : vv.of_ = ⟨#[]⟩
      · have HTD : Hid (vv.told = [.string vv.name, .int .i64 vv.data.length, .string ⟨#[]⟩, .int .i64 0, .int .i64 0, .bool false]) := by show _ = _; rw [RVol.told, if_pos hn]
        rw [hn] at q1
        go_wp2_with (first | (at_builtin; fail))
        go_region
        go_wp2_with (at_builtin; refine wpList_append_own _ rfl _ _ 67 rfl w.heap.size 70 i0 (.agg #[.string ⟨#[]⟩, .int .i64 0, .string ⟨#[]⟩, .int .i64 0, .int .i64 0, .bool false]) 6 64 Try.underlying67 hi hz0 hz1 hz2 rfl (by decide) _ _ _ rfl ((hown.alloc _).alloc _) ⟨wr.heap.size + 1, 0, none⟩ 1 1 [.string vv.name, .int .i64 vv.data.length, .string ⟨#[]⟩, .int .i64 0, .int .i64 0, .bool false] rfl rfl ?c1 ?c2 ?c3 ?c4 ?c5 ?_)
        case c1 =>
          intro j u hj
          rw [Addr.add_lit, Nat.zero_add]
          refine Eq.trans (World.cell?_alloc_at _ _ _ _ (by simp)) ?_
          rw [← hj]
          simp
        case c2 => intro u hu; simp at hu; rcases hu with rfl | rfl | rfl | rfl | rfl <;> rfl
        case c3 => unfold maxLen; omega
        case c4 => omega
        case c5 => simp; omega
        intro v' w2 hown' hgrow _
        have S2 : Same [] w w2 := ((hS.alloc _).alloc _).drew.grown hgrow (fun j hj hl => by have := (hown.lt j hj).1; omega)
        have O2 : w2.ownsRow w.heap.size 70 6 v' (k + 1) (rtoldAll (s.vols.take (k + 1))) := by
          rw [HV.out, rtoldAll_append]; simpa [rtoldAll, HTD.out] using hown'
        clear hown' hgrow hown hS c1 e1 q0 q1 q2 q3 q4 q5
        go_wp2
        go_roundw
        case rel => exact ⟨k + 1, by omega, by go_num, S2, O2⟩
        case measure => simp [intOf]; omega
      · have HTD : Hid (vv.told = [.string vv.name, .int .i64 vv.data.length, .string vv.of_, .int .i64 vv.blocks.length, .int .i64 vv.kept.length, .bool vv.lost]) := by show _ = _; rw [RVol.told, if_neg hn]
        have hbq : vv.of_.toList.isEmpty = false := by
          have hq : (vv.of_.toList == (⟨#[]⟩ : ByteArray).toList) = false := by rw [bytes_beq]; exact decide_eq_false hn
          rw [← hq, Bool.eq_iff_iff, List.isEmpty_iff, beq_iff_eq]
          have e0 : (⟨#[]⟩ : ByteArray).toList = [] := by simp
          rw [e0]
        go_wp2_with (first | (at_builtin; fail))
        go_region
        go_wp2_with (at_builtin; refine wpList_append_own _ rfl _ _ 67 rfl w.heap.size 70 i0 (.agg #[.string ⟨#[]⟩, .int .i64 0, .string ⟨#[]⟩, .int .i64 0, .int .i64 0, .bool false]) 6 64 Try.underlying67 hi hz0 hz1 hz2 rfl (by decide) _ _ _ rfl ((hown.alloc _).alloc _) ⟨wr.heap.size + 1, 0, none⟩ 1 1 [.string vv.name, .int .i64 vv.data.length, .string vv.of_, .int .i64 vv.blocks.length, .int .i64 vv.kept.length, .bool vv.lost] rfl rfl ?c1 ?c2 ?c3 ?c4 ?c5 ?_)
        case c1 =>
          intro j u hj
          rw [Addr.add_lit, Nat.zero_add]
          refine Eq.trans (World.cell?_alloc_at _ _ _ _ (by simp)) ?_
          rw [← hj]
          simp
        case c2 => intro u hu; simp at hu; rcases hu with rfl | rfl | rfl | rfl | rfl | rfl <;> rfl
        case c3 => unfold maxLen; omega
        case c4 => omega
        case c5 => simp; omega
        intro v' w2 hown' hgrow _
        have S2 : Same [] w w2 := ((hS.alloc _).alloc _).drew.grown hgrow (fun j hj hl => by have := (hown.lt j hj).1; omega)
        have O2 : w2.ownsRow w.heap.size 70 6 v' (k + 1) (rtoldAll (s.vols.take (k + 1))) := by
          rw [HV.out, rtoldAll_append]; simpa [rtoldAll, HTD.out] using hown'
        clear hown' hgrow hown hS c1 e1 q0 q1 q2 q3 q4 q5
        go_wp2
        go_roundw
        case rel => exact ⟨k + 1, by omega, by go_num, S2, O2⟩
        case measure => simp [intOf]; omega
    · have ek : k = s.vols.length := by omega
      subst ek
      rw [List.take_length] at hown
      clear hR
      go_wp2
      go_ret
      refine ⟨ua, ucap, rfl, hS, fun hne => ?_⟩
      obtain ⟨g, cs, h1, h2, h3, _, h5⟩ := owns_atN hown (by cases hv : s.vols <;> simp_all)
      exact ⟨g, cs, h1, h2, h3, h5⟩
theorem num_calls (n : Nat) (w : World) (h : n ≤ 13) : Calls Try.prog 35 #[.int .i64 n] w fun e w' => e = .returned (.int .i64 n) ∧ w' = w := by
  go_enter Try.func35, Try.ntmps35
  go_wp2
  go_ret
  exact ⟨rfl, rfl⟩
def Blk.ints (b : Blk) : List Int := [b.b0, b.b1, b.b2, b.b3, b.b4, b.b5, b.b6, b.b7]
/-- A block as a text. -/
def Blk.text (b : Blk) : ByteArray := b.ints.foldl (fun r n => r.push (UInt8.ofNat n.toNat)) ByteArray.empty
theorem Blk.cells_ints (b : Blk) : b.cells = b.ints.map (Value.int .u8) := rfl
theorem Blk.ints_length (b : Blk) : b.ints.length = 8 := rfl
set_option maxHeartbeats 800000 in
set_option maxRecDepth 100000 in
theorem text_calls (b : Blk) (w : World) : Calls Try.prog 87 #[b.val] w fun e w' => e = .returned (.string b.text) ∧ Same [] w w' := by
  obtain ⟨i0, hi, hz0, hz1, hz2⟩ := info_parts Try.info5
  have A0 : At (w.alloc (.cells #[.int .u8 b.b0, .int .u8 b.b1, .int .u8 b.b2, .int .u8 b.b3, .int .u8 b.b4, .int .u8 b.b5, .int .u8 b.b6, .int .u8 b.b7] 55)) w.heap.size 55 b.cells := At.new w _ _
  have S0 : Same [] w (w.alloc (.cells #[.int .u8 b.b0, .int .u8 b.b1, .int .u8 b.b2, .int .u8 b.b3, .int .u8 b.b4, .int .u8 b.b5, .int .u8 b.b6, .int .u8 b.b7] 55)) := (Same.refl _ _).alloc _
  have HT : Hid (b.ints.foldl (fun r n => r.push (UInt8.ofNat n.toNat)) ByteArray.empty = b.text) := rfl
  have hlen := b.ints_length
  rw [b.cells_ints] at A0
  generalize hbi : b.ints = bi at *
  generalize b.text = bt at *
  unfold Blk.val
  go_enter Try.func87, Try.ntmps87
  go_wp2_with fail
  go_loopw [3, 4] (fun u i wr => ∃ k : Nat, k ≤ 8 ∧ i = .int .i64 k ∧ Same [] w wr ∧ At wr w.heap.size 55 (bi.map (Value.int .u8)) ∧ w.heap.size + 1 ≤ wr.heap.size ∧ wr.ownsRow (w.heap.size + 1) 5 1 u k ((bi.take k).map (Value.int .u8)))
    (fun _ i _ => 8 - (intOf i).toNat)
  case atStart => exact ⟨0, Nat.zero_le _, rfl, S0, A0, by simp, World.ownsRow_nil _ _ _ _⟩
  case round =>
    obtain ⟨k, hk, rfl, hS, hA, hsz, hown⟩ := hrel
    obtain ⟨ua, ucap, rfl⟩ := owns_form hown
    by_cases hkl : k < 8
    · have e1 : wr.cell? ⟨w.heap.size, k, none⟩ = some (.int .u8 bi[k]!) := by
        rw [hA.cell?, List.getElem?_map, List.getElem?_eq_getElem (by omega)]
        rw [getElem!_pos bi k (by omega)]; rfl
      have HX : Hid (bi.take (k + 1) = bi.take k ++ [bi[k]!]) := by show _ = _; rw [List.take_succ_eq_append_getElem (by omega), getElem!_pos bi k (by omega)]
      generalize bi[k]! = x at *
      have l1 : (k : Int) < 8 := by omega
      go_wp2_with (at_builtin; refine wpList_append_own _ rfl _ _ 25 rfl (w.heap.size + 1) 5 i0 (.int .u8 0) 1 1 Try.underlying25 hi hz0 hz1 hz2 rfl (by decide) _ _ _ rfl (hown.alloc _) ⟨wr.heap.size, 0, none⟩ 1 1 [.int .u8 x] rfl rfl ?c1 ?c2 ?c3 ?c4 ?c5 ?_)
      case c1 =>
        intro j u hj
        match j, hj with
        | 0, hj => simp at hj; subst hj; simp [Addr.add]
      case c2 => intro u hu; simp at hu; subst hu; rfl
      case c3 => unfold maxLen; omega
      case c4 => omega
      case c5 => simp; omega
      intro v' w4 hown' hgrow _
      have S4 : Same [] w w4 := (hS.alloc _).grown hgrow (fun i hi hl => by have := (hown.lt i hi).1; omega)
      have A4 : At w4 w.heap.size 55 (bi.map (Value.int .u8)) := (hA.alloc _).of_heap (hgrow.block _ (hA.alloc _).lt (fun e => by have := (hown.lt _ e.symm).1; omega))
      have Z4 : w.heap.size + 1 ≤ w4.heap.size := by have := hgrow.size; simp at this; omega
      have O4 : w4.ownsRow (w.heap.size + 1) 5 1 v' (k + 1) ((bi.take (k + 1)).map (Value.int .u8)) := by
        rw [HX.out, List.map_append]; simpa [List.map_take] using hown'
      clear hown' hgrow hown hS hA e1
      go_wp2
      go_roundw
      case rel => exact ⟨k + 1, by omega, by go_num, S4, A4, Z4, O4⟩
      case measure => simp [intOf]; omega
    · have ek : k = 8 := by omega
      subst ek
      obtain ⟨g, cs, rfl, hge, hC, _, hcs⟩ := owns_atN hown (by omega)
      have hb8 : bi.take 8 = bi := List.take_of_length_le (by rw [hlen]; exact Nat.le_refl _)
      rw [hb8] at hcs
      have hconv : (convert 25 9 (.slice (some ⟨g, 0, none⟩) 8 ucap)).run Try.prog wr = .ok (.string bt) wr := by
        rw [run_convert_bytes_string _ _ _ 5 _ _ _ Try.underlying25 Try.underlying5 Try.underlying9]
        have hl := run_loadCells_list (P := Try.prog) (w := wr) ⟨g, 0, none⟩ (bi.map (Value.int .u8)) (fun j v hj => by
          rw [Addr.add_lit, Nat.zero_add, hC.cell?, ← hj, ← hcs, List.getElem?_take]
          have : j < 8 := by
            rcases Nat.lt_or_ge j 8 with h' | h'
            · exact h'
            · rw [List.getElem?_eq_none (by simp; omega)] at hj; cases hj
          rw [if_pos (by omega)])
        rw [show (bi.map (Value.int .u8)).length = 8 by simpa using hlen] at hl
        rw [run_bytesToString _ _ _ _ bi hl, HT.out]
      clear hown hA hC hcs
      go_wp2
      go_ret
      exact ⟨rfl, hS⟩
end
end Go.Proofs.Ytpddgdjocffgdaa
