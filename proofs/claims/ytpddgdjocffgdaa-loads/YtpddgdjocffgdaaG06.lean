/- A reader of an image: numbers, by contract. -/
import Derived.Test.YtpddgdjocffgdaaG05
import Derived.Deep.OwnRows
namespace Go.Proofs.Ytpddgdjocffgdaa
set_option linter.unusedVariables false
set_option linter.unusedSimpArgs false
set_option linter.unusedSectionVars false
section
open Go.RowKit Go.Sort
variable [DecidableEq Blk] [Inhabited Blk] [Inhabited Vol]
/-- A row of the same thing. -/
theorem run_make_same (t e : TypeId) (z : Value) (bytes n : Nat) (ht : Try.prog.underlying t = some (.slice e)) (hinfo : (Try.prog.info? e).map (fun i => (i.zero, i.size, i.bytes)) = some (some z, 1, bytes)) (hz1 : z.cells = #[z]) (hb : bytes ≤ 100) (hn : n ≤ 1000) :
    ∃ L : Array Value, L.toList = List.replicate n z ∧ ∀ W : World, (Instr.makeSlice t (.int .i64 (n : Int)) (.int .i64 (n : Int))).run Try.prog W = .ok (.slice (some ⟨W.heap.size, 0, none⟩) n n) (W.alloc (.cells L e)) := by
  obtain ⟨i0, hi, hz0, hsz, hz2⟩ := info_parts hinfo
  have hmul : i0.bytes * n ≤ 100000 := by rw [hz2]; exact Nat.le_trans (Nat.mul_le_mul hb hn) (by omega)
  refine ⟨(List.replicate n z).toArray, by simp, fun W => ?_⟩
  have h := run_make (P := Try.prog) W t e i0 z ht hi hz0 .i64 .i64 (n : Int) (n : Int) (by omega) (by omega) (by
    have : ((i0.bytes * n : Nat) : Int) = (i0.bytes : Int) * (n : Int) := by simp
    first
      | omega
      | (simp; omega)) (by omega)
  rw [hsz] at h
  have e1 : (madeCells z.cells ((n : Int).toNat * 1)) = (List.replicate n z).toArray := by
    apply Array.toList_inj.1
    have := toList_madeCells_one z n
    rw [hz1]
    simpa using this
  rw [e1] at h
  simpa using h
/-- Which numbers were seen. -/
def seenCells (bound : Nat) (L : List Nat) : List Value := (List.range bound).map fun i => .bool (decide (i ∈ L))
theorem seen_get (bound : Nat) (L : List Nat) (k : Nat) (hk : k < bound) : (seenCells bound L)[k]? = some (.bool (decide (k ∈ L))) := by
  unfold seenCells
  rw [List.getElem?_map, List.getElem?_range hk]
  rfl
theorem seen_set (bound : Nat) (L : List Nat) (k : Nat) (hk : k < bound) : (seenCells bound L).set k (.bool true) = seenCells bound (L ++ [k]) := by
  apply List.ext_getElem?
  intro i
  unfold seenCells
  rw [List.getElem?_set, List.length_map, List.length_range]
  by_cases h : k = i
  · subst h
    rw [if_pos rfl, if_pos hk, List.getElem?_map, List.getElem?_range hk]
    simp
  · rw [if_neg h, List.getElem?_map, List.getElem?_map]
    by_cases hi : i < bound
    · rw [List.getElem?_range hi]
      simp only [Option.map_some, List.mem_append, List.mem_singleton]
      have : ¬ i = k := fun e => h e.symm
      simp [this]
    · rw [List.getElem?_eq_none (by simpa using hi)]; rfl
theorem seen_nil (bound : Nat) : seenCells bound [] = List.replicate bound (.bool false) := by
  unfold seenCells
  apply List.ext_getElem
  · simp
  · intro i h1 h2; simp
theorem rnums_succ (B : List UInt8) (bound c : Nat) (seen acc : List Nat) (at_ : Nat) : rnums B bound (c + 1) seen acc at_ = match rnum B 2 0 (bound - 1) at_ with
    | .error q => .error q
    | .ok (k, at1) => if k ∈ seen ++ acc then .error at_ else rnums B bound c seen (acc ++ [k]) at1 := rfl
/-- What numbers leave. -/
structure NumsGot (w0 w w' : World) (a : Option Addr) (B : List UInt8) (rd tk bound : Nat) (L xs : List Nat) (at1 g : Nat) : Prop where
  rdr : RdAt w0 w' a B rd at1
  row : At w' g 3 (xs.map fun x : Nat => Value.int .i64 x)
  seen : At w' tk 4 (seenCells bound (L ++ xs))
  new : w.heap.size ≤ g
  same : Same [rd, tk] w w'
/-- What numbers answer. -/
def NumsPost (w0 w : World) (a : Option Addr) (B : List UInt8) (rd tk bound c : Nat) (L : List Nat) (spec : Except Nat (List Nat × Nat)) (e : Ending) (w' : World) : Prop :=
  match spec with
  | .ok (xs, at1) => ∃ g, e = .returned (.slice (some ⟨g, 0, none⟩) c c) ∧ xs.length = c ∧ NumsGot w0 w w' a B rd tk bound L xs at1 g
  | .error q => e = bad q ∧ Same [] w0 w'
set_option maxHeartbeats 2000000 in
set_option maxRecDepth 100000 in
theorem rnumbers_calls (w0 w : World) (a : Option Addr) (B : List UInt8) (rd tk at_ c bound : Nat) (L : List Nat) (hB : BytesOld w0 a B) (h : RdAt w0 w a B rd at_) (hT : At w tk 4 (seenCells bound L)) (htk : w0.heap.size ≤ tk) (hne : tk ≠ rd) (hc : c ≤ 200) (hb : 1 ≤ bound ∧ bound ≤ 200) :
    Calls Try.prog 126 #[.pointer (some ⟨rd, 0, none⟩), .int .i64 c, .slice (some ⟨tk, 0, none⟩) bound bound] w (NumsPost w0 w a B rd tk bound c L (rnums B bound c L [] at_)) := by
  have hnot := runNot
  obtain ⟨LB, hLB, hmk⟩ := run_make_same 39 3 (.int .i64 0) 8 c Try.underlying39 Try.info3 rfl (by omega) (by omega)
  have hnew := h.new
  have hrl := h.cell.lt
  have htl := hT.lt
  generalize hspec : rnums B bound c L [] at_ = spec
  have HSP : Hid (rnums B bound c L [] at_ = spec) := hspec
  clear hspec
  have S0 : Same [] w (w.alloc (.cells LB 3)) := (Same.refl _ _).alloc _
  have A0 := At.new w LB 3
  rw [hLB] at A0
  have HI0 : Hid (RdAt w0 (w.alloc (.cells LB 3)) a B rd at_ ∧ At (w.alloc (.cells LB 3)) tk 4 (seenCells bound L) ∧ At (w.alloc (.cells LB 3)) w.heap.size 3 (List.replicate c (.int .i64 0)) ∧ Same [rd, tk] w (w.alloc (.cells LB 3))) := ⟨h.next S0 (by simp) (by simp), S0.at hT (by simp), A0, S0.mono (by simp)⟩
  have HBO : Hid (BytesOld w0 a B) := hB
  clear h hT A0 S0 hLB hB
  go_enter Try.func126, Try.ntmps126
  go_wp2
  go_loopw [14] (fun i wr => ∃ (k ati : Nat) (acc : List Nat), k ≤ c ∧ i = .int .i64 k ∧ acc.length = k ∧ RdAt w0 wr a B rd ati ∧ At wr tk 4 (seenCells bound (L ++ acc)) ∧ At wr w.heap.size 3 (acc.map (fun x : Nat => Value.int .i64 x) ++ List.replicate (c - k) (.int .i64 0)) ∧ Same [rd, tk] w wr ∧ Hid (rnums B bound (c - k) L acc ati = spec)) (fun i _ => c - (intOf i).toNat)
  case atStart => exact ⟨0, at_, [], Nat.zero_le _, rfl, rfl, HI0.out.1, by simpa using HI0.out.2.1, by simpa using HI0.out.2.2.1, HI0.out.2.2.2, HSP.out⟩
  case round =>
    obtain ⟨k, ati, acc, hk, rfl, hal, hR, hTk, hA, hS, HQ⟩ := hrel
    have HOLD : Hid (Same [] w0 wr) := hR.same
    by_cases hkl : k < c
    · have eck : c - k = (c - k - 1) + 1 := by omega
      have c1 : wr.cell? ⟨rd, 1, none⟩ = some (.int .i64 ati) := hR.cell.cell? 1
      have l1 : (k : Int) < (c : Int) := by omega
      have hgne : w.heap.size ≠ rd := by omega
      have hgnt : w.heap.size ≠ tk := by omega
      have q0 := HQ.out
      rw [eck, rnums_succ] at q0
      cases hs : rnum B 2 0 (bound - 1) ati with
      | error q =>
        rw [hs] at q0
        have HE : Hid (spec = .error q) := q0.symm
        have hN := number_gave w0 wr a B rd ati 2 0 (bound - 1) q 2 0 ((bound : Int) - 1) HBO.out hR (by omega) hs rfl rfl (by omega)
        clear hR hTk hA q0 HQ
        go_wp2_with (go_at_call 102; refine hN.mono ?_; rintro e w1 ⟨rfl, S1⟩; unfold bad)
        refine ⟨rfl, ?_⟩
        show NumsPost _ _ _ _ _ _ _ _ _ _ _ _
        rw [HE.out]
        exact ⟨rfl, S1⟩
      | ok p =>
        obtain ⟨x, at1⟩ := p
        rw [hs] at q0
        simp only at q0
        have hN := number_got w0 wr a B rd ati 2 0 (bound - 1) x at1 2 0 ((bound : Int) - 1) HBO.out hR (by omega) hs rfl rfl (by omega)
        have hxb : x < bound := by have := (rnum_ok hs).2.2.1; omega
        have HA : Hid (At wr tk 4 (seenCells bound (L ++ acc)) ∧ At wr w.heap.size 3 (acc.map (fun x : Nat => Value.int .i64 x) ++ List.replicate (c - k) (.int .i64 0))) := ⟨hTk, hA⟩
        have HX : Hid ((acc.map (fun x : Nat => Value.int .i64 x) ++ List.replicate (c - k) (Value.int .i64 0)).set k (Value.int .i64 (x : Nat)) = ((acc ++ [x]).map (fun x : Nat => Value.int .i64 x) ++ List.replicate (c - (k + 1)) (Value.int .i64 0))) := by
          show _ = _
          rw [List.set_append_right _ _ (by simp; omega), List.map_append, List.append_assoc]
          congr 1
          rw [List.length_map, hal, Nat.sub_self, show c - k = (c - (k + 1)) + 1 by omega, List.replicate_succ, List.set_cons_zero]
          rfl
        have HD : Hid ((acc.map (fun x : Nat => Value.int .i64 x) ++ List.replicate (c - k) (Value.int .i64 0))[k]? = some (.int .i64 0)) := by
          show _ = _
          rw [List.getElem?_append_right (by simp; omega), List.length_map, hal, Nat.sub_self, eck, List.replicate_succ]
          rfl
        clear hR hTk hA HQ
        by_cases hin : x ∈ L ++ acc
        · rw [if_pos hin] at q0
          have HE : Hid (spec = .error ati) := q0.symm
          have hMb := fun W => must_bad ati W
          unfold bad at hMb
          have hsn := seen_get bound (L ++ acc) x hxb
          rw [decide_eq_true hin] at hsn
          have HSN : Hid _ := hsn
          clear q0 hsn hin
          go_wp2_with (first | (go_at_call 102; refine hN.mono ?_; rintro e w1 ⟨rfl, hR1, S1⟩; have B1 := S1.at HA.out.2 (by simpa using hgne); have T1 := S1.at HA.out.1 (by simpa using hne); have d1 : w1.cell? ⟨w.heap.size, k, none⟩ = some (.int .i64 0) := (B1.cell? k).trans HD.out; have f1 := B1.frozen k; have d2 : w1.cell? ⟨tk, x, none⟩ = some (.bool true) := (T1.cell? x).trans HSN.out; have HS1 : Hid (Same [] w0 (w1.setCell ⟨w.heap.size, k, none⟩ (.int .i64 (x : Nat)))) := (hR1.same.set _ _ _ (by intro hh; have := HOLD.out.size; omega)); clear B1 T1 hR1) | (go_at_call 106; refine (hMb _).mono ?_; rintro e w' ⟨rfl, hw⟩; obtain rfl := hw.symm))
          refine ⟨rfl, ?_⟩
          show NumsPost _ _ _ _ _ _ _ _ _ _ _ _
          rw [HE.out]
          exact ⟨rfl, HS1.out⟩
        · rw [if_neg hin] at q0
          have HE : Hid (rnums B bound (c - (k + 1)) L (acc ++ [x]) at1 = spec) := by
            show _ = _
            rw [← q0]; rfl
          have hM := fun W q => must_ok q W
          have hsn := seen_get bound (L ++ acc) x hxb
          rw [decide_eq_false hin] at hsn
          have HSN : Hid _ := hsn
          clear q0 hsn hin
          have hkl3 : (x : Int) < (bound : Int) := by omega
          go_wp2_with (first | (go_at_call 102; refine hN.mono ?_; rintro e w1 ⟨rfl, hR1, S1⟩; have B1 := S1.at HA.out.2 (by simpa using hgne); have T1 := S1.at HA.out.1 (by simpa using hne); have d1 : w1.cell? ⟨w.heap.size, k, none⟩ = some (.int .i64 0) := (B1.cell? k).trans HD.out; have f1 := B1.frozen k; have d2 : w1.cell? ⟨tk, x, none⟩ = some (.bool false) := (T1.cell? x).trans HSN.out; have f2 := T1.frozen x; have HS1 : Hid (RdAt w0 w1 a B rd at1 ∧ Same [rd] wr w1 ∧ At w1 w.heap.size 3 (acc.map (fun x : Nat => Value.int .i64 x) ++ List.replicate (c - k) (Value.int .i64 0)) ∧ At w1 tk 4 (seenCells bound (L ++ acc))) := ⟨hR1, S1, B1, T1⟩; clear B1 T1 hR1) | (go_at_call 106; refine (hM _ _).mono ?_; rintro e w' ⟨rfl, hw⟩; obtain rfl := hw.symm))
          go_roundw
          case rel =>
            obtain ⟨hR1, S1', B1, T1⟩ := HS1.out
            have S2 : Same [w.heap.size, tk] w1 ((w1.setCell ⟨w.heap.size, k, none⟩ (.int .i64 (x : Nat))).setCell ⟨tk, x, none⟩ (.bool true)) := ((Same.refl _ _).set _ _ _ (by simp)).set _ _ _ (by simp)
            refine ⟨k + 1, at1, acc ++ [x], by omega, by go_num, by simp [hal], hR1.next S2 (by simp; exact ⟨fun e => hgne e.symm, fun e => hne e.symm⟩) (by intro q hq; simp at hq; rcases hq with rfl | rfl <;> omega), ?_, ?_, ?_, HE.out⟩
            · have := (T1.set_other w.heap.size k (.int .i64 (x : Nat)) (fun e => hgnt e.symm)).set_same x (.bool true)
              rw [seen_set bound (L ++ acc) x hxb, List.append_assoc] at this
              exact this
            · have := (B1.set_same k (.int .i64 (x : Nat))).set_other tk x (.bool true) hgnt
              rw [HX.out] at this
              exact this
            · refine (hS.step S1' (by intro q hq _; simp at hq; simp [hq])).step S2 (fun q hq hl => ?_)
              simp at hq
              rcases hq with rfl | rfl
              · omega
              · simp
          case measure => simp [intOf]; omega
    · have ek : k = c := by omega
      subst ek
      have q0 := HQ.out
      rw [Nat.sub_self] at q0 hA
      have HE : Hid (spec = .ok (acc, ati)) := q0.symm
      have HF : Hid (NumsGot w0 w wr a B rd tk bound L acc ati w.heap.size) := ⟨hR, by simpa using hA, hTk, Nat.le_refl _, hS⟩
      clear hR hTk hA hS HQ q0
      go_wp2
      first
        | (show NumsPost _ _ _ _ _ _ _ _ _ _ _ _; rw [HE.out]; exact ⟨_, rfl, hal, HF.out⟩)
        | (go_ret; show NumsPost _ _ _ _ _ _ _ _ _ _ _ _; rw [HE.out]; exact ⟨_, rfl, hal, HF.out⟩)
end
end Go.Proofs.Ytpddgdjocffgdaa
