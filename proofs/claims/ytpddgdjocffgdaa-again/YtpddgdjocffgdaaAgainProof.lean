/- For every size, list of raw numbers and two numbers the law stratakeep.Again returns true: what Image tells of a Pool that was written to is loaded, holds the same and has the same image; with any one byte changed Load refuses it with ErrSum. No condition beyond the row's own; the program is that of the commit named beside this claim. -/
import Derived.Test.YtpddgdjocffgdaaRows
import Derived.Test.YtpddgdjocffgdaaG16
import Derived.WalkKit
import Derived.ProofKit
import Derived.OpenShut
import Derived.ShutString
import Derived.ChangeOld
import Derived.Below
namespace Go.Proofs.Ytpddgdjocffgdaa
open Go.ChangeShapes Go.WideShapes Go.ChangeAt Go.RowKit
open Go.ChangeMaps (open_string shut_string)
set_option linter.unusedVariables false
set_option linter.unusedSimpArgs false
set_option linter.unusedSectionVars false

theorem againOwn : ownKnob Try.prog.godebug = none := by kernel_rfl
theorem againLaid : laidOutB Try.prog = true := by kernel_rfl

/-- WHAT THE WALK IS TOLD OF A SLICE OF INTEGERS THAT CAME IN: it is nil; or it leads to a row of 'cap' cells, the numbers 'zs' (the first 'len' are its elements, the rest its spare past), each fitting its kind. -/
def AgainInts (k : IntKind) (w : World) (a : Option Addr) (len cap : Nat) (zs : List Int) : Prop :=
  (a = none ∧ len = 0 ∧ cap = 0 ∧ zs = []) ∨
  ∃ x, a = some x ∧ len ≤ cap ∧ cap ≤ maxLen ∧ zs.length = cap ∧ (∀ i, i < zs.length → w.cell? (x.add i) = some (.int k (zs.getD i 0))) ∧ ∀ n ∈ zs, (Lit.int k n).wf = true

/-! ### STEP 1: THE WALK: the Go text returns true, AND WRITES NOTHING THAT WAS THERE: 'Below w.heap.size w w'' (Derived/Below.lean: '.refl', '.alloc', '.drew', '.setCell' at a new block, '.trans'). Open each 'AgainInts' by 'rcases' AHEAD of 'go_enter'; part every test ahead of the walk. -/
/-- What the walk takes of one such row: where it lies, that it lies below, and what stands in it. -/
theorem againRow_open {w : World} {a0 : Option Addr} {len0 cap0 : Nat} {z0 : List Int} (w0 : AgainInts .i64 w a0 len0 cap0 z0) :
    ∃ b off : Nat, (0 < len0 → a0 = some ⟨b, off, none⟩) ∧ (0 < len0 → b < w.heap.size) ∧ len0 ≤ 9223372036854775807 ∧
      (∀ t, t < len0 → w.cell? ⟨b, off + t, none⟩ = some (.int .i64 (z0.getD t 0))) ∧ ∀ t, -9223372036854775808 ≤ z0.getD t 0 ∧ z0.getD t 0 ≤ 9223372036854775807 := by
  have hz : ∀ t, -9223372036854775808 ≤ z0.getD t 0 ∧ z0.getD t 0 ≤ 9223372036854775807 := by
    intro t
    by_cases ht : t < z0.length
    · have hm : z0.getD t 0 ∈ z0 := by simp only [List.getD, List.getElem?_eq_getElem ht, Option.getD_some]; exact List.getElem_mem ht
      rcases w0 with ⟨_, _, _, rfl⟩ | ⟨x, _, _, _, _, _, hwf⟩
      · simp at ht
      · exact bounds_i64 (hwf _ hm)
    · have : z0.getD t 0 = 0 := by simp [List.getD, List.getElem?_eq_none (Nat.le_of_not_lt ht)]
      rw [this]; omega
  rcases w0 with ⟨rfl, rfl, rfl, rfl⟩ | ⟨x, rfl, hl, hm, hzl, hc, hwf⟩
  · exact ⟨0, 0, by omega, by omega, by omega, by intro t ht; omega, hz⟩
  · unfold maxLen at hm
    obtain ⟨xb, xo, xs⟩ := x
    by_cases hl0 : len0 = 0
    · subst hl0
      exact ⟨0, 0, by omega, by omega, by omega, by intro t ht; omega, hz⟩
    · have h00 := hc 0 (by omega)
      have hxs : xs = none := by
        cases xs with
        | none => rfl
        | some sp => simp [Addr.add, World.cell?] at h00; split at h00 <;> simp at h00
      subst hxs
      have hcc : ∀ t, t < len0 → w.cell? ⟨xb, xo + t, none⟩ = some (.int .i64 (z0.getD t 0)) := fun t ht => by
        have := hc t (by omega)
        rwa [Addr.add_lit] at this
      obtain ⟨c, e, fr, hb, _⟩ := Sort.cells_of_cell? (hcc 0 (by omega))
      have hblt : xb < w.heap.size := by
        rcases Nat.lt_or_ge xb w.heap.size with h' | h'
        · exact h'
        · rw [Array.getElem?_eq_none h'] at hb; cases hb
      exact ⟨xb, xo, fun _ => rfl, fun _ => hblt, by omega, hcc, hz⟩

theorem again_walk (sz : Int) (ws : (Lit.int .i64 sz).wf = true) (a0 : Option Addr) (len0 cap0 : Nat) (z0 : List Int) (fl : Int) (wf : (Lit.int .i64 fl).wf = true) (by_ : Int) (wb : (Lit.int .i64 by_).wf = true) (w : World) (w0 : AgainInts .i64 w a0 len0 cap0 z0) :
    Calls Try.prog 9 #[.int .i64 sz, .slice a0 len0 cap0, .int .i64 fl, .int .i64 by_] w fun e w' => e = .returned (.bool true) ∧ Below w.heap.size w w' := by
  haveI i1 : DecidableEq Blk := fun a b => Classical.propDecidable (a = b)
  haveI i2 : Inhabited Blk := ⟨Blk.zero⟩
  haveI i3 : Inhabited Vol := ⟨⟨0, 0, ⟨#[]⟩, [], none, none, [], false⟩⟩
  haveI i4 : Inhabited PEnt := ⟨⟨⟨#[]⟩, 0, 0, 0, 0, [], []⟩⟩
  obtain ⟨s1, s2⟩ := bounds_i64 ws
  obtain ⟨g1, g2⟩ := bounds_i64 wf
  obtain ⟨y1, y2⟩ := bounds_i64 wb
  obtain ⟨b, off, ha, hb, hm, hc, hz⟩ := againRow_open w0
  exact again_calls sz a0 b off len0 cap0 z0 fl by_ w s1 s2 g1 g2 y1 y2 ha hb hm hc hz

/-! ### THE ROW's STEP: WRITTEN OUT: LEAVE IT -/
set_option maxRecDepth 100000 in
theorem again_lifted (os : Os) (started : os.Started) (H : Type) (enc : TypeId × Value → H) :
    ReturnsInHanded {} Try.checked os 9 .any (Rows.againSpec.pre6 enc Try.prog Try.f9 Rows.againRow.domain false) (Rows.againSpec.post enc Try.prog Try.f9 false true false false) := by
  refine returnsInHanded_of_change (C := Try.checked) againOwn started (by kernel_rfl) Try.func9
    (ChangeSpec.witness6 (enc := enc) (C := Try.checked) false ⟨#[], #[.int .i64 0, .slice none 0 0, .int .i64 0, .int .i64 0], []⟩ 8 (by kernel_rfl) (by kernel_rfl) (by kernel_rfl) (by kernel_rfl)) ?_
  intro W base args ds gs before hval0 hW hcnd _
  have hval : ∀ (j : Nat) t v, Try.f9.params[j]? = some t → args[j]? = some v → Value.okWide Try.prog W .any base t v := hval0
  have hW' := hW
  obtain ⟨p, q, hA0, hV, rfl, hfz, hnd⟩ := hW
  have hA : DataW.TrodAll enc Try.prog W 0 (fun _ => true) true Try.f9.params.toList args.toList ds p := hA0
  rw [Try.params9] at hA hval
  obtain ⟨v0, vs0, d0, ds0, p0, q0, hargs, rfl, rfl, h0, r0⟩ := trodAll_cons hA
  obtain ⟨v1, vs1, d1, ds1, p1, q1, rfl, rfl, rfl, h1, r1⟩ := trodAll_cons r0
  obtain ⟨v2, vs2, d2, ds2, p2, q2, rfl, rfl, rfl, h2, r2⟩ := trodAll_cons r1
  obtain ⟨v3, vs3, d3, ds3, p3, q3, rfl, rfl, rfl, h3, r3⟩ := trodAll_cons r2
  obtain ⟨rfl, rfl, rfl⟩ := trodAll_nil r3
  obtain rfl : args = #[v0, v1, v2, v3] := by cases args; simp_all
  obtain ⟨rfl, rfl⟩ := trodVars_none hV
  obtain ⟨sz, rfl, rfl, rfl, ws⟩ := open_int Try.underlying3 (hval 0 3 v0 rfl rfl) h0
  obtain ⟨a0, len0, cap0, rfl⟩ := okWide_slice Try.underlying39 (hval 1 39 v1 rfl rfl)
  have k0 := h1
  have lt0 : ∀ x ∈ p1, x.block < W.heap.size := by obtain ⟨m, hm⟩ := k0; exact DataW.trod_lt m _ _ _ hm
  obtain ⟨z0, w0⟩ : ∃ zs, AgainInts .i64 W a0 len0 cap0 zs := by
    obtain ⟨fuel, hf⟩ := h1
    rcases open_ints Try.underlying39 Try.underlying3 (by kernel_rfl) hf with ⟨hcs, _⟩ | ⟨x, l, c, zs, hcs, _, hl, hm, hz, _, hcell, hwz⟩
    · simp [Value.cells] at hcs
      obtain ⟨rfl, rfl, rfl⟩ := hcs
      exact ⟨[], .inl ⟨rfl, rfl, rfl, rfl⟩⟩
    · simp [Value.cells] at hcs
      obtain ⟨rfl, rfl, rfl⟩ := hcs
      exact ⟨zs, .inr ⟨_, rfl, hl, hm, by simpa using hz, hcell, hwz⟩⟩
  obtain ⟨fl, rfl, rfl, rfl, wf⟩ := open_int Try.underlying3 (hval 2 3 v2 rfl rfl) h2
  obtain ⟨by_, rfl, rfl, rfl, wb⟩ := open_int Try.underlying3 (hval 3 3 v3 rfl rfl) h3
  clear hA0 hval0
  refine (again_walk sz ws a0 len0 cap0 z0 fl wf by_ wb W w0).mono fun e W' ⟨he, bel⟩ => ?_
  subst he
  exact ⟨_, rfl, _, _, _, [], _, [], hW', trodAll_mk1 (shut_bool Try.underlying4 _), (trodAll_cons_mk (shut_int Try.underlying3 ws) (trodAll_cons_mk (Below.trod againLaid (by kernel_rfl) (of_decide_eq_true (by kernel_rfl)) k0 bel lt0) (trodAll_cons_mk (shut_int Try.underlying3 wf) (trodAll_cons_mk (shut_int Try.underlying3 wb) trodAll_mk0)))), rfl, bel.frame _, fun h => by cases h⟩

theorem again_over : Rows.againRow.holds Try.pinned (OpenSpec.ofChange Rows.againSpec) :=
  OpenClaim.holds_of_wide 9 Try.f9 rfl rfl rfl rfl rfl rfl rfl ⟨rfl, rfl, rfl, rfl, rfl⟩ rfl rfl rfl rfl rfl (by kernel_rfl) Try.func9 (by kernel_rfl)
    (of_decide_eq_true (by kernel_rfl)) (by unfold Func.isWrapper; first | (rw [if_pos (by decide +kernel)]; kernel_rfl) | (rw [if_neg (by decide +kernel)]; exact ⟨rfl, rfl⟩))
    (fun os started H enc _ => again_lifted os started H enc)

/-- ████ THE STATEMENT ████ -/
theorem again_holds : Rows.AgainSaid := again_over
#print axioms again_holds
end Go.Proofs.Ytpddgdjocffgdaa
