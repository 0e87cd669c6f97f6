/- The law stratalaw.Unmade returns true: on a Pool that is nil, or that the caller made, every call with an error answers ErrClosed, and the others answer nothing. No condition beyond the row's own; the program is that of the commit named beside this claim. -/
import Derived.Test.YtpddgdjocffgdaaRows
import Derived.Test.YtpddgdjocffgdaaBlkEq
import Derived.Test.YtpddgdjocffgdaaPtr
import Derived.WalkKit
import Derived.ProofKit
import Derived.OpenShut
import Derived.Below
namespace Go.Proofs.Ytpddgdjocffgdaa
open Go.ChangeShapes Go.WideShapes Go.ChangeAt Go.RowKit Go.Sort
set_option linter.unusedVariables false
set_option linter.unusedSimpArgs false
set_option linter.unusedSectionVars false

/-- A Pool that is none, whatever is new in memory. -/
def Shut (w : World) (p : Value) : Prop := ∀ W, Same [] w W → Calls Try.prog 36 #[p] W fun e w' => e = .returned (.bool false) ∧ w' = W
theorem Shut.step {w w' : World} {p : Value} (h : Shut w p) (s : Same [] w w') : Shut w' p := fun W hW => h W (s.step hW (by simp))

theorem shut_nil (w : World) : Shut w (.pointer none) := by
  intro W _
  obtain ⟨i0, hi⟩ : ∃ i, Try.prog.info? 38 = some i := Option.isSome_iff_exists.1 (by kernel_rfl)
  go_enter Try.func36, Try.ntmps36
  go_wp2
  go_ret
  exact ⟨rfl, rfl⟩

set_option maxRecDepth 100000 in
theorem shut_zero (w : World) (b : Nat) (t : TypeId) (v1 v2 : Value) (h : At w b t [.pointer none, v1, v2]) : Shut w (.pointer (some ⟨b, 0, none⟩)) := by
  intro W hW
  have c0 : W.cell? ⟨b, 0, none⟩ = some (.pointer none) := (hW.at h (by simp)).cell? 0
  obtain ⟨i0, hi⟩ : ∃ i, Try.prog.info? 38 = some i := Option.isSome_iff_exists.1 (by kernel_rfl)
  have heq := eql_nil_some (P := Try.prog) W ⟨b, 0, none⟩ Try.underlying27
  go_enter Try.func36, Try.ntmps36
  go_wp2
  go_ret
  simp

theorem runNot0 (x : Bool) (w : World) : (Op.unary .not (.bool x)).run Try.prog w = .ok (.bool (!x)) w := rfl

set_option maxHeartbeats 400000 in
set_option maxRecDepth 100000 in
theorem find_shut (p : Value) (t : ByteArray) (w : World) (h : Shut w p) : Calls Try.prog 48 #[p, .string t] w fun e w' => e = .returned (.tuple #[.pointer none, .int .i64 13]) ∧ w' = w := by
  have hc := h w (Same.refl _ _)
  have hnot := runNot0
  clear h
  go_enter Try.func48, Try.ntmps48
  go_wp2_with (go_at_call 36; refine hc.mono ?_; rintro e w' ⟨rfl, rfl⟩)
  go_ret2
  exact ⟨rfl, rfl⟩

set_option maxHeartbeats 400000 in
set_option maxRecDepth 100000 in
theorem findNew_shut (p : Value) (t : ByteArray) (w : World) (h : Shut w p) : Calls Try.prog 50 #[p, .string t] w fun e w' => e = .returned (.tuple #[.int .i64 0, .int .i64 13]) ∧ w' = w := by
  have hc := h w (Same.refl _ _)
  have hnot := runNot0
  clear h
  go_enter Try.func50, Try.ntmps50
  go_wp2_with (go_at_call 36; refine hc.mono ?_; rintro e w' ⟨rfl, rfl⟩)
  go_ret2
  exact ⟨rfl, rfl⟩

set_option maxHeartbeats 400000 in
set_option maxRecDepth 100000 in
theorem findPlace_shut (p : Value) (t : ByteArray) (k : Int) (w : World) (h : Shut w p) : Calls Try.prog 63 #[p, .string t, .int .i64 k] w fun e w' => e = .returned (.tuple #[.pointer none, .int .i64 13]) ∧ w' = w := by
  have hc := find_shut p t w h
  have hnot := runNot0
  clear h
  go_enter Try.func63, Try.ntmps63
  go_wp2_with (go_at_call 48; refine hc.mono ?_; rintro e w' ⟨rfl, rfl⟩)
  go_ret2
  exact ⟨rfl, rfl⟩

set_option maxHeartbeats 400000 in
set_option maxRecDepth 100000 in
theorem create_shut (p : Value) (t : ByteArray) (k : Int) (w : World) (h : Shut w p) : Calls Try.prog 19 #[p, .string t, .int .i64 k] w fun e w' => e = .returned (.int .i64 13) ∧ w' = w := by
  have hc := findNew_shut p t w h
  have hnot := runNot0
  clear h
  go_enter Try.func19, Try.ntmps19
  go_wp2_with (go_at_call 50; refine hc.mono ?_; rintro e w' ⟨rfl, rfl⟩)
  go_ret
  exact ⟨rfl, rfl⟩

set_option maxHeartbeats 400000 in
set_option maxRecDepth 100000 in
theorem picture_shut (p : Value) (t u : ByteArray) (k : Int) (w : World) (h : Shut w p) : Calls Try.prog 25 #[p, .string t, .string u, .int .i64 k] w fun e w' => e = .returned (.int .i64 13) ∧ w' = w := by
  have hc := findNew_shut p t w h
  have hnot := runNot0
  clear h
  go_enter Try.func25, Try.ntmps25
  go_wp2_with (go_at_call 50; refine hc.mono ?_; rintro e w' ⟨rfl, rfl⟩)
  go_ret
  exact ⟨rfl, rfl⟩

set_option maxHeartbeats 400000 in
set_option maxRecDepth 100000 in
theorem resize_shut (p : Value) (t : ByteArray) (k : Int) (w : World) (h : Shut w p) : Calls Try.prog 21 #[p, .string t, .int .i64 k] w fun e w' => e = .returned (.int .i64 13) ∧ w' = w := by
  have hc := find_shut p t w h
  have hnot := runNot0
  clear h
  go_enter Try.func21, Try.ntmps21
  go_wp2_with (go_at_call 48; refine hc.mono ?_; rintro e w' ⟨rfl, rfl⟩)
  go_ret
  exact ⟨rfl, rfl⟩

set_option maxHeartbeats 400000 in
set_option maxRecDepth 100000 in
theorem revert_shut (p : Value) (t : ByteArray) (w : World) (h : Shut w p) : Calls Try.prog 32 #[p, .string t] w fun e w' => e = .returned (.int .i64 13) ∧ w' = w := by
  have hc := find_shut p t w h
  have hnot := runNot0
  clear h
  go_enter Try.func32, Try.ntmps32
  go_wp2_with (go_at_call 48; refine hc.mono ?_; rintro e w' ⟨rfl, rfl⟩)
  go_ret
  exact ⟨rfl, rfl⟩

set_option maxHeartbeats 400000 in
set_option maxRecDepth 100000 in
theorem remove_shut (p : Value) (t : ByteArray) (w : World) (h : Shut w p) : Calls Try.prog 20 #[p, .string t] w fun e w' => e = .returned (.int .i64 13) ∧ w' = w := by
  have hc := find_shut p t w h
  have hnot := runNot0
  clear h
  go_enter Try.func20, Try.ntmps20
  go_wp2_with (go_at_call 48; refine hc.mono ?_; rintro e w' ⟨rfl, rfl⟩)
  go_ret
  exact ⟨rfl, rfl⟩

set_option maxHeartbeats 400000 in
set_option maxRecDepth 100000 in
theorem map_shut (p : Value) (t : ByteArray) (w : World) (h : Shut w p) : Calls Try.prog 18 #[p, .string t] w fun e w' => e = .returned (.tuple #[.slice none 0 0, .int .i64 13]) ∧ w' = w := by
  have hc := find_shut p t w h
  have hnot := runNot0
  clear h
  go_enter Try.func18, Try.ntmps18
  go_wp2_with (go_at_call 48; refine hc.mono ?_; rintro e w' ⟨rfl, rfl⟩)
  go_ret2
  exact ⟨rfl, rfl⟩

set_option maxHeartbeats 400000 in
set_option maxRecDepth 100000 in
theorem list_shut (p : Value)  (w : World) (h : Shut w p) : Calls Try.prog 31 #[p] w fun e w' => e = .returned (.slice none 0 0) ∧ w' = w := by
  have hc := h w (Same.refl _ _)
  have hnot := runNot0
  clear h
  go_enter Try.func31, Try.ntmps31
  go_wp2_with (go_at_call 36; refine hc.mono ?_; rintro e w' ⟨rfl, rfl⟩)
  go_ret
  exact ⟨rfl, rfl⟩

set_option maxHeartbeats 400000 in
set_option maxRecDepth 100000 in
theorem free_shut (p : Value)  (w : World) (h : Shut w p) : Calls Try.prog 23 #[p] w fun e w' => e = .returned (.int .i64 0) ∧ w' = w := by
  have hc := h w (Same.refl _ _)
  have hnot := runNot0
  clear h
  go_enter Try.func23, Try.ntmps23
  go_wp2_with (go_at_call 36; refine hc.mono ?_; rintro e w' ⟨rfl, rfl⟩)
  go_ret
  exact ⟨rfl, rfl⟩

set_option maxHeartbeats 400000 in
set_option maxRecDepth 100000 in
theorem image_shut (p : Value) (w : World) (h : Shut w p) : Calls Try.prog 12 #[p] w fun e w' => e = .returned (.slice none 0 0) ∧ w' = w := by
  have hc := h w (Same.refl _ _)
  have hnot := runNot0
  clear h
  go_enter Try.func12, Try.ntmps12
  go_wp2_with (go_at_call 36; refine hc.mono ?_; rintro e w' ⟨rfl, rfl⟩)
  go_ret
  exact ⟨rfl, rfl⟩

set_option maxHeartbeats 400000 in
set_option maxRecDepth 100000 in
theorem read_shut (p : Value) (t : ByteArray) (k : Int) (w : World) (h : Shut w p) : Calls Try.prog 30 #[p, .string t, .int .i64 k] w fun e w' => e = .returned (.tuple #[.agg #[.int .u8 0, .int .u8 0, .int .u8 0, .int .u8 0, .int .u8 0, .int .u8 0, .int .u8 0, .int .u8 0], .int .i64 13]) ∧ Same [] w w' := by
  have hf' := findPlace_shut p t k _ (h.step ((Same.refl [] w).alloc (Obj.cells #[.int .u8 0, .int .u8 0, .int .u8 0, .int .u8 0, .int .u8 0, .int .u8 0, .int .u8 0, .int .u8 0] 55)))
  clear h
  go_enter Try.func30, Try.ntmps30
  go_wp2_with (go_at_call 63; refine hf'.mono ?_; rintro e w' ⟨rfl, rfl⟩)
  exact bodyPost_ret (v := .tuple #[.agg #[.int .u8 0, .int .u8 0, .int .u8 0, .int .u8 0, .int .u8 0, .int .u8 0, .int .u8 0, .int .u8 0], .int .i64 13]) (by simp [results, Try.results30, go_sem]) rfl ⟨rfl, (Same.refl _ _).alloc _⟩

set_option maxHeartbeats 400000 in
set_option maxRecDepth 100000 in
theorem write_shut (p : Value) (t : ByteArray) (k : Int) (b : Blk) (u : Value) (w : World) (h : Shut w p) (hu : u = b.val) : Calls Try.prog 27 #[p, .string t, .int .i64 k, u] w fun e w' => e = .returned (.int .i64 13) ∧ Same [] w w' := by
  subst hu
  obtain ⟨x0, x1, x2, x3, x4, x5, x6, x7⟩ := b
  have hf' := findPlace_shut p t k _ (h.step ((Same.refl [] w).alloc (Obj.cells #[.int .u8 x0, .int .u8 x1, .int .u8 x2, .int .u8 x3, .int .u8 x4, .int .u8 x5, .int .u8 x6, .int .u8 x7] 55)))
  clear h
  unfold Blk.val
  go_enter Try.func27, Try.ntmps27
  go_wp2_with (go_at_call 63; refine hf'.mono ?_; rintro e w' ⟨rfl, rfl⟩)
  go_ret
  exact ⟨rfl, (Same.refl _ _).alloc _⟩

theorem num_calls0 (e : Int) (w : World) : Calls Try.prog 35 #[.int .i64 e] w fun x w' => x = .returned (.int .i64 e) ∧ w' = w := by
  go_enter Try.func35, Try.ntmps35
  go_wp2
  go_ret
  simp

set_option maxHeartbeats 1000000 in
set_option maxRecDepth 100000 in
theorem none_shut (p : Value) (w : World) (h : Shut w p) : Calls Try.prog 14 #[p] w fun e w' => e = .returned (.bool true) ∧ Same [] w w' := by
  have hnot := runNot0
  haveI i1 : DecidableEq Blk := fun a b => Classical.propDecidable (a = b)
  haveI i2 : Inhabited Blk := ⟨Blk.zero⟩
  have HE := fun W => equal_blocks Blk.zero Blk.zero W
  have hdz : decide (Blk.zero = Blk.zero) = true := decide_eq_true rfl
  rw [hdz] at HE
  simp only [Blk.zero] at HE
  have hS : ∀ W, Same [] w W → Shut W p := fun W hW => h.step hW
  clear h
  go_enter Try.func14, Try.ntmps14
  go_wp2_with (first
    | (go_at_call 19; refine (create_shut p _ _ _ (hS _ (Same.refl _ _))).mono ?_; rintro e w' ⟨rfl, rfl⟩)
    | (go_at_call 25; refine (picture_shut p _ _ _ _ (hS _ (Same.refl _ _))).mono ?_; rintro e w' ⟨rfl, rfl⟩))
  refine (read_shut p _ _ _ (hS _ (Same.refl _ _))).mono ?_
  rintro e w1 ⟨rfl, S1⟩
  go_wp2_with fail
  have AX := At.new w1 #[.int .u8 0, .int .u8 0, .int .u8 0, .int .u8 0, .int .u8 0, .int .u8 0, .int .u8 0, .int .u8 0] 55
  have hsz := S1.size
  have SX := S1.alloc (Obj.cells #[.int .u8 0, .int .u8 0, .int .u8 0, .int .u8 0, .int .u8 0, .int .u8 0, .int .u8 0, .int .u8 0] 55)
  refine (write_shut p _ _ ⟨1, 0, 0, 0, 0, 0, 0, 0⟩ _ _ (hS _ SX) rfl).mono ?_
  rintro e w2 ⟨rfl, S2⟩
  have S3 := SX.step S2 (by simp)
  have A2 := S2.at AX (by simp)
  have z0 : w2.cell? ⟨w1.heap.size, 0, none⟩ = some (.int .u8 0) := A2.cell? 0
  have z1 : w2.cell? ⟨w1.heap.size, 1, none⟩ = some (.int .u8 0) := A2.cell? 1
  have z2 : w2.cell? ⟨w1.heap.size, 2, none⟩ = some (.int .u8 0) := A2.cell? 2
  have z3 : w2.cell? ⟨w1.heap.size, 3, none⟩ = some (.int .u8 0) := A2.cell? 3
  have z4 : w2.cell? ⟨w1.heap.size, 4, none⟩ = some (.int .u8 0) := A2.cell? 4
  have z5 : w2.cell? ⟨w1.heap.size, 5, none⟩ = some (.int .u8 0) := A2.cell? 5
  have z6 : w2.cell? ⟨w1.heap.size, 6, none⟩ = some (.int .u8 0) := A2.cell? 6
  have z7 : w2.cell? ⟨w1.heap.size, 7, none⟩ = some (.int .u8 0) := A2.cell? 7
  clear AX SX S1 S2 A2
  go_wp2_with (first
    | (go_at_call 21; refine (resize_shut p _ _ _ (hS _ S3)).mono ?_; rintro e w' ⟨rfl, rfl⟩)
    | (go_at_call 32; refine (revert_shut p _ _ (hS _ S3)).mono ?_; rintro e w' ⟨rfl, rfl⟩)
    | (go_at_call 20; refine (remove_shut p _ _ (hS _ S3)).mono ?_; rintro e w' ⟨rfl, rfl⟩)
    | (go_at_call 18; refine (map_shut p _ _ (hS _ S3)).mono ?_; rintro e w' ⟨rfl, rfl⟩)
    | (go_at_call 31; refine (list_shut p _ (hS _ S3)).mono ?_; rintro e w' ⟨rfl, rfl⟩)
    | (go_at_call 23; refine (free_shut p _ (hS _ S3)).mono ?_; rintro e w' ⟨rfl, rfl⟩)
    | (go_at_call 12; refine (image_shut p _ (hS _ S3)).mono ?_; rintro e w' ⟨rfl, rfl⟩)
    | (go_at_call 35; refine (num_calls0 _ _).mono ?_; rintro e w' ⟨rfl, rfl⟩))
  go_ret
  exact ⟨rfl, S3⟩

set_option maxHeartbeats 400000 in
set_option maxRecDepth 100000 in
theorem unmade_walk (w : World) : Calls Try.prog 4 #[] w fun e w' => e = .returned (.bool true) ∧ Same [] w w' := by
  go_enter Try.func4, Try.ntmps4
  go_wp2_with fail
  refine (none_shut _ _ (shut_nil _)).mono ?_
  rintro e w1 ⟨rfl, S1⟩
  go_wp2_with fail
  refine (none_shut _ _ (shut_zero _ _ _ _ _ (At.new w1 _ _))).mono ?_
  rintro e w2 ⟨rfl, S2⟩
  have S3 := (S1.alloc _).step S2 (by simp)
  clear S1 S2
  go_wp2
  go_ret
  exact ⟨rfl, S3⟩

theorem Same.toBelow {a b : World} (h : Same [] a b) : Below a.heap.size a b := h.below (Nat.le_refl _) (by simp)

theorem unmadeOwn : ownKnob Try.prog.godebug = none := by kernel_rfl

set_option maxRecDepth 100000 in
theorem unmade_lifted (os : Os) (started : os.Started) (H : Type) (enc : TypeId × Value → H) :
    ReturnsInHanded {} Try.checked os 4 .any (Rows.unmadeSpec.pre6 enc Try.prog Try.f4 Rows.unmadeRow.domain false) (Rows.unmadeSpec.post enc Try.prog Try.f4 false true false false) := by
  refine returnsInHanded_of_change (C := Try.checked) unmadeOwn started (by kernel_rfl) Try.func4
    (ChangeSpec.witness6 (enc := enc) (C := Try.checked) false ⟨#[], #[], []⟩ 8 (by kernel_rfl) (by kernel_rfl) (by kernel_rfl) (by kernel_rfl)) ?_
  intro W base args ds gs before hval0 hW hcnd _
  have hW' := hW
  obtain ⟨p, q, hA0, hV, rfl, hfz, hnd⟩ := hW
  have hA : DataW.TrodAll enc Try.prog W 0 (fun _ => true) true Try.f4.params.toList args.toList ds p := hA0
  rw [Try.params4] at hA
  obtain ⟨hargs, rfl, rfl⟩ := trodAll_nil hA
  obtain rfl : args = #[] := by cases args; simp_all
  obtain ⟨rfl, rfl⟩ := trodVars_none hV
  clear hA0 hval0
  refine (unmade_walk W).mono fun e W' ⟨he, hs⟩ => ?_
  subst he
  exact ⟨_, rfl, _, _, _, [], _, [], hW', trodAll_mk1 (shut_bool Try.underlying4 _), trodAll_mk0, rfl, hs.toBelow.frame _, fun h => by cases h⟩

theorem unmade_over : Rows.unmadeRow.holds Try.pinned (OpenSpec.ofChange Rows.unmadeSpec) :=
  OpenClaim.holds_of_wide 4 Try.f4 rfl rfl rfl rfl rfl rfl rfl ⟨rfl, rfl, rfl, rfl, rfl⟩ rfl rfl rfl rfl rfl (by kernel_rfl) Try.func4 (by kernel_rfl)
    (of_decide_eq_true (by kernel_rfl)) (by unfold Func.isWrapper; first | (rw [if_pos (by decide +kernel)]; kernel_rfl) | (rw [if_neg (by decide +kernel)]; exact ⟨rfl, rfl⟩))
    (fun os started H enc _ => unmade_lifted os started H enc)

/-- The statement. -/
theorem unmade_holds : Rows.UnmadeSaid := unmade_over
#print axioms unmade_holds
end Go.Proofs.Ytpddgdjocffgdaa
