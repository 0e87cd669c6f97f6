/- The disk's heap of free blocks: pop and push, by contracts. -/
import Derived.Test.YtpddgdjocffgdaaHeapB
import Derived.Test.YtpddgdjocffgdaaMem
import Derived.Deep.RegionWith
namespace Go.Proofs.Ytpddgdjocffgdaa
open Go.RowKit Go.Sort
set_option linter.unusedVariables false
set_option linter.unusedSimpArgs false
set_option linter.unusedSectionVars false

def popD (m : Nat) (d : Array Int) : Array Int := sift m m 0 (d.setIfInBounds 0 d[m]!)
def pushD (m : Nat) (n : Int) (d : Array Int) : Array Int := lift m m (d.setIfInBounds m n)

theorem sift_size (m f : Nat) : ∀ (i : Nat) (d : Array Int), (sift m f i d).size = d.size := by
  induction f with
  | zero => intro i d; rfl
  | succ f ih => intro i d; simp only [sift]; split
                 · rfl
                 · rw [ih, swp_size]
theorem lift_size (f : Nat) : ∀ (i : Nat) (d : Array Int), (lift f i d).size = d.size := by
  induction f with
  | zero => intro i d; rfl
  | succ f ih => intro i d; simp only [lift]; split
                 · rfl
                 · rw [ih, swp_size]
theorem popD_size (m : Nat) (d : Array Int) : (popD m d).size = d.size := by simp [popD, sift_size]
theorem pushD_size (m : Nat) (n : Int) (d : Array Int) : (pushD m n d).size = d.size := by simp [pushD, lift_size]

theorem map_set_toList (d : Array Int) (i : Nat) (x : Int) (k : IntKind) : ((d.toList.map (Value.int k)).set i (.int k x)) = (d.setIfInBounds i x).toList.map (Value.int k) := by
  rw [Array.toList_setIfInBounds, List.map_set]

set_option maxHeartbeats 400000 in
theorem pop_none (hb fb cap : Nat) (t : TypeId) (v0 : Value) (a : Option Addr) (w : World) (h0 : At w hb t [v0, .slice a 0 cap]) :
    Calls Try.prog 97 #[.pointer (some ⟨hb, 1, none⟩)] w fun e w' => e = .returned (.tuple #[.int .i64 0, .bool false]) ∧ w' = w := by
  have c0 : w.cell? ⟨hb, 1, none⟩ = some (.slice a 0 cap) := h0.cell? 1
  clear h0
  go_enter Try.func97, Try.ntmps97
  go_wp2
  go_ret2
  exact ⟨rfl, rfl⟩

set_option maxHeartbeats 400000 in
set_option maxRecDepth 100000 in
theorem pop_some (hb fb m cap : Nat) (t t' : TypeId) (v0 : Value) (d : Array Int) (w : World) (h0 : At w hb t [v0, .slice (some ⟨fb, 0, none⟩) (m + 1) cap]) (hne : hb ≠ fb)
    (h1 : At w fb t' (d.toList.map (Value.int .i64))) (hs : d.size = cap) (hm : m + 1 ≤ cap) (hc : cap ≤ 1000) :
    Calls Try.prog 97 #[.pointer (some ⟨hb, 1, none⟩)] w fun e w' => e = .returned (.tuple #[.int .i64 d[0]!, .bool true]) ∧
      At w' hb t [v0, .slice (some ⟨fb, 0, none⟩) m cap] ∧ At w' fb t' ((popD m d).toList.map (Value.int .i64)) ∧ Same [hb, fb] w w' := by
  have c0 : w.cell? ⟨hb, 1, none⟩ = some (.slice (some ⟨fb, 0, none⟩) (m + 1) cap) := h0.cell? 1
  have f0 : w.frozen? ⟨hb, 1, none⟩ = false := h0.frozen 1
  obtain ⟨x0, hx0⟩ : ∃ x, d[0]! = x := ⟨_, rfl⟩
  obtain ⟨xm, hxm⟩ : ∃ x, d[m]! = x := ⟨_, rfl⟩
  have c1 : w.cell? ⟨fb, 0, none⟩ = some (.int .i64 x0) := by have := (h1.holds 0 (by omega)).1; rw [hx0] at this; exact this
  have c2 : w.cell? ⟨fb, m, none⟩ = some (.int .i64 xm) := by have := (h1.holds m (by omega)).1; rw [hxm, Nat.zero_add] at this; exact this
  have f1 : w.frozen? ⟨fb, 0, none⟩ = false := h1.frozen 0
  have A1 : At ((w.setCell ⟨fb, 0, none⟩ (.int .i64 xm)).setCell ⟨hb, 1, none⟩ (.slice (some ⟨fb, 0, none⟩) m cap)) fb t' ((d.setIfInBounds 0 xm).toList.map (Value.int .i64)) := by
    rw [← map_set_toList]; exact (h1.set_same 0 _).set_other hb 1 _ (Ne.symm hne)
  have A0 : At ((w.setCell ⟨fb, 0, none⟩ (.int .i64 xm)).setCell ⟨hb, 1, none⟩ (.slice (some ⟨fb, 0, none⟩) m cap)) hb t [v0, .slice (some ⟨fb, 0, none⟩) m cap] :=
    (h0.set_other fb 0 _ hne).set_same 1 _
  have F0 : Same [hb, fb] w ((w.setCell ⟨fb, 0, none⟩ (.int .i64 xm)).setCell ⟨hb, 1, none⟩ (.slice (some ⟨fb, 0, none⟩) m cap)) :=
    ((Same.refl _ _).set fb 0 _ (by simp)).set hb 1 _ (by simp)
  have fm : ((m : Int) + 1 == 0) = false := beq_eq_false_iff_ne.2 (by omega)
  have HX : Hid (d[0]! = x0 ∧ d[m]! = xm) := ⟨hx0, hxm⟩
  have hne0 : ¬ fb = hb := fun e => hne e.symm
  clear h0 h1 hx0 hxm
  go_enter Try.func97, Try.ntmps97
  go_wp2_with fail
  refine (sink_calls fb 0 m cap (d.setIfInBounds 0 xm) _ (by simp; omega) (by omega) A1.holds).mono ?_
  rintro e w1 ⟨rfl, q, rfl⟩
  clear c0 f0 c1 c2 f1
  go_wp2
  go_ret2
  rw [HX.out.1]
  refine ⟨rfl, (A0.putRow_other _ _ _ _ hne).drewN q, ?_, (F0.putRow _ fb 0 _ (by simp)).drewN q⟩
  have e : popD m d = sift m m 0 (d.setIfInBounds 0 xm) := by unfold popD; rw [HX.out.2]
  rw [e]
  exact (A1.putRow_same (by rw [sift_size])).drewN q

theorem rise_fits (b off m cap i0 : Nat) (d : Array Int) (w : World) (s : Value) (v : Int) (hs : s = .slice (some ⟨b, off, none⟩) m cap) (hv : v = (i0 : Int)) (hm : m ≤ d.size) (hmx : m ≤ 1000) (hi0 : i0 < m) (hH : Holds (Value.int .i64) w b off d) :
    Calls Try.prog 116 #[s, .int .i64 v] w fun e w' => e = .returned (.tuple #[]) ∧ ∃ q, w' = (putRow (Value.int .i64) w b off (lift i0 i0 d)).drewN q := by
  subst hs hv; exact rise_calls b off m cap i0 d w hm hmx hi0 hH

theorem Try.info3 : (Try.prog.info? 3).map (fun i => (i.zero, i.size, i.bytes)) = some (some (.int .i64 0), 1, 8) := by kernel_rfl

set_option maxHeartbeats 400000 in
set_option maxRecDepth 100000 in
theorem push_calls (hb fb m cap : Nat) (n : Int) (t t' : TypeId) (v0 : Value) (d : Array Int) (w : World) (h0 : At w hb t [v0, .slice (some ⟨fb, 0, none⟩) m cap]) (hne : hb ≠ fb)
    (h1 : At w fb t' (d.toList.map (Value.int .i64))) (hs : d.size = cap) (hm : m < cap) (hc : cap ≤ 1000) :
    Calls Try.prog 95 #[.pointer (some ⟨hb, 1, none⟩), .int .i64 n] w fun e w' => e = .returned (.tuple #[]) ∧
      At w' hb t [v0, .slice (some ⟨fb, 0, none⟩) (m + 1) cap] ∧ At w' fb t' ((pushD m n d).toList.map (Value.int .i64)) ∧ Same [hb, fb] w w' := by
  have c0 : w.cell? ⟨hb, 1, none⟩ = some (.slice (some ⟨fb, 0, none⟩) m cap) := h0.cell? 1
  have f0 : w.frozen? ⟨hb, 1, none⟩ = false := h0.frozen 1
  have hne0 : ¬ fb = hb := fun e => hne e.symm
  have lb := h0.lt
  have lf := h1.lt
  obtain ⟨i0, hi, hz0, hz1, hz2⟩ := info_parts Try.info3
  go_enter Try.func95, Try.ntmps95
  go_wp2_with (at_builtin; refine wpList_append_arg _ rfl _ _ 135 rfl 3 i0 (.int .i64 0) 1 8 Try.underlying135 hi hz0 hz1 hz2 rfl (by decide) fb 0 m cap ((d.toList.map (Value.int .i64)).take m) rfl ?lo ?olds ⟨w.heap.size, 0, none⟩ 1 1 [.int .i64 n] rfl rfl ?c1 ?c2 ?spare ?maxLen ?bytes ?room ?grow)
  case lo => simp; omega
  case olds =>
    intro j u hj
    rw [Nat.zero_add, (h1.alloc _).cell?]
    rw [List.getElem?_take] at hj
    split at hj
    · exact hj
    · cases hj
  case c1 =>
    intro j u hj
    match j, hj with
    | 0, hj => simp at hj; subst hj; simp [Addr.add]
  case c2 => intro u hu; simp at hu; subst hu; rfl
  case spare =>
    intro _ j hj
    simp at hj
    subst hj
    refine ⟨?_, (h1.alloc _).frozen _⟩
    rw [(h1.alloc _).cell?]
    simp
    omega
  case maxLen => unfold maxLen; omega
  case bytes => omega
  case grow => intro h; omega
  case room =>
    intro _
    simp only [World.setCells, Nat.zero_add, Nat.mul_one]
    have B1 : At ((w.alloc (Obj.cells #[Value.int .i64 n] 3)).setCell ⟨fb, m, none⟩ (.int .i64 n)) fb t' ((d.setIfInBounds m n).toList.map (Value.int .i64)) := by
      rw [← map_set_toList]
      exact (h1.alloc _).set_same m _
    have B0 : At ((w.alloc (Obj.cells #[Value.int .i64 n] 3)).setCell ⟨fb, m, none⟩ (.int .i64 n)) hb t [v0, .slice (some ⟨fb, 0, none⟩) m cap] :=
      (h0.alloc _).set_other fb _ _ hne
    have G0 : Same [hb, fb] w ((w.alloc (Obj.cells #[Value.int .i64 n] 3)).setCell ⟨fb, m, none⟩ (.int .i64 n)) :=
      ((Same.refl _ _).alloc _).set fb _ _ (by simp)
    clear h0 h1 c0 f0
    generalize (w.alloc (Obj.cells #[Value.int .i64 n] 3)).setCell ⟨fb, m, none⟩ (.int .i64 n) = W1 at *
    have c1 := B0.cell? 1
    have f1 := B0.frozen 1
    have A1 := B1.set_other hb 1 (.slice (some ⟨fb, 0, none⟩) (m + 1) cap) hne0
    have A0 : At _ _ _ [v0, .slice (some ⟨fb, 0, none⟩) (m + 1) cap] := B0.set_same 1 (.slice (some ⟨fb, 0, none⟩) (m + 1) cap)
    have F0 := G0.set hb 1 (.slice (some ⟨fb, 0, none⟩) (m + 1) cap) (by simp)
    clear B0 B1 G0
    simp at c1
    go_wp2_with fail
    generalize hW2 : W1.setCell ⟨hb, 1, none⟩ (.slice (some ⟨fb, 0, none⟩) (m + 1) cap) = W2 at *
    have c2 : W2.cell? ⟨hb, 1, none⟩ = some (.slice (some ⟨fb, 0, none⟩) (m + 1) cap) := A0.cell? 1
    clear hW2 c1 f1
    go_region_with (go_at_call 116; refine (rise_fits fb 0 (m + 1) cap m (d.setIfInBounds m n) _ _ _ (by rfl) (by first | omega | exact IntWalk.i64_in _ (by omega)) (by simp; omega) (by omega) (by omega) (by exact A1.holds)).mono ?_; rintro e w1 ⟨rfl, q, rfl⟩)
    all_goals
     go_wp2
     refine bodyPost_end (results_none rfl _ _ _) rfl ⟨rfl, (A0.drew.putRow_other _ _ _ _ hne).drewN _, ?_, (F0.drew.putRow _ fb 0 _ (by simp)).drewN _⟩
     exact (A1.drew.putRow_same (by rw [lift_size])).drewN _
end Go.Proofs.Ytpddgdjocffgdaa
