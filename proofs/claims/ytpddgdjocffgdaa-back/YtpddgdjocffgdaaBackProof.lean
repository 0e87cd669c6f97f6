/- For every size and two lists of raw numbers the law stratakeep.Back returns true: going back to a picture makes every place of the volume what it was when the picture was taken, whatever was written since, and the picture is gone then, with the blocks that it held free again. No condition beyond the row's own; the program is that of the commit named beside this claim. -/
import Derived.Test.YtpddgdjocffgdaaRows
import Derived.Test.YtpddgdjocffgdaaLawM
import Derived.WalkKit
import Derived.ProofKit
import Derived.OpenShut
import Derived.ShutString
import Derived.ChangeOld
import Derived.Below
namespace Go.Proofs.Ytpddgdjocffgdaa
open Go.ChangeShapes Go.WideShapes Go.ChangeAt Go.RowKit
open Go.ChangeMaps (open_string shut_string)
set_option linter.unusedVariables false
set_option linter.unusedSimpArgs false
set_option linter.unusedSectionVars false

theorem backOwn : ownKnob Try.prog.godebug = none := by kernel_rfl
theorem backLaid : laidOutB Try.prog = true := by kernel_rfl

/-- WHAT THE WALK IS TOLD OF A SLICE OF INTEGERS THAT CAME IN: it is nil; or it leads to a row of 'cap' cells, the numbers 'zs' (the first 'len' are its elements, the rest its spare back), each fitting its kind. -/
def BackRow (k : IntKind) (w : World) (a : Option Addr) (len cap : Nat) (zs : List Int) : Prop :=
  (a = none ∧ len = 0 ∧ cap = 0 ∧ zs = []) ∨
  ∃ x, a = some x ∧ len ≤ cap ∧ cap ≤ maxLen ∧ zs.length = cap ∧ (∀ i, i < zs.length → w.cell? (x.add i) = some (.int k (zs.getD i 0))) ∧ ∀ n ∈ zs, (Lit.int k n).wf = true

/-! ### STEP 1: THE WALK: the Go text returns true, AND WRITES NOTHING THAT WAS THERE: 'Below w.heap.size w w'' (Derived/Below.lean: '.refl', '.alloc', '.drew', '.setCell' at a new block, '.trans'). Open each 'BackRow' by 'rcases' AHEAD of 'go_enter'; part every test ahead of the walk. -/
/-- What the walk takes of one such row: where it lies, that it lies below, and what stands in it. -/
theorem backRow_open {w : World} {a0 : Option Addr} {len0 cap0 : Nat} {z0 : List Int} (w0 : BackRow .i64 w a0 len0 cap0 z0) :
    ∃ b off : Nat, (0 < len0 → a0 = some ⟨b, off, none⟩) ∧ (0 < len0 → b < w.heap.size) ∧ len0 ≤ 9223372036854775807 ∧
      (∀ t, t < len0 → w.cell? ⟨b, off + t, none⟩ = some (.int .i64 (z0.getD t 0))) ∧ ∀ t, -9223372036854775808 ≤ z0.getD t 0 ∧ z0.getD t 0 ≤ 9223372036854775807 := by
  have hz : ∀ t, -9223372036854775808 ≤ z0.getD t 0 ∧ z0.getD t 0 ≤ 9223372036854775807 := by
    intro t
    by_cases ht : t < z0.length
    · have hm : z0.getD t 0 ∈ z0 := by simp only [List.getD, List.getElem?_eq_getElem ht, Option.getD_some]; exact List.getElem_mem ht
      rcases w0 with ⟨_, _, _, rfl⟩ | ⟨x, _, _, _, _, _, hwf⟩
      · simp at ht
      · exact bounds_i64 (hwf _ hm)
    · have : z0.getD t 0 = 0 := by simp [List.getD, List.getElem?_eq_none (Nat.le_of_not_lt ht)]
      rw [this]; omega
  rcases w0 with ⟨rfl, rfl, rfl, rfl⟩ | ⟨x, rfl, hl, hm, hzl, hc, hwf⟩
  · exact ⟨0, 0, by omega, by omega, by omega, by intro t ht; omega, hz⟩
  · unfold maxLen at hm
    obtain ⟨xb, xo, xs⟩ := x
    by_cases hl0 : len0 = 0
    · subst hl0
      exact ⟨0, 0, by omega, by omega, by omega, by intro t ht; omega, hz⟩
    · have h00 := hc 0 (by omega)
      have hxs : xs = none := by
        cases xs with
        | none => rfl
        | some sp => simp [Addr.add, World.cell?] at h00; split at h00 <;> simp at h00
      subst hxs
      have hcc : ∀ t, t < len0 → w.cell? ⟨xb, xo + t, none⟩ = some (.int .i64 (z0.getD t 0)) := fun t ht => by
        have := hc t (by omega)
        rwa [Addr.add_lit] at this
      obtain ⟨c, e, fr, hb, _⟩ := Sort.cells_of_cell? (hcc 0 (by omega))
      have hblt : xb < w.heap.size := by
        rcases Nat.lt_or_ge xb w.heap.size with h' | h'
        · exact h'
        · rw [Array.getElem?_eq_none h'] at hb; cases hb
      exact ⟨xb, xo, fun _ => rfl, fun _ => hblt, by omega, hcc, hz⟩

theorem back_walk (sz : Int) (ws : (Lit.int .i64 sz).wf = true) (a0 : Option Addr) (len0 cap0 : Nat) (z0 : List Int) (a1 : Option Addr) (len1 cap1 : Nat) (z1 : List Int) (w : World) (w0 : BackRow .i64 w a0 len0 cap0 z0) (w1 : BackRow .i64 w a1 len1 cap1 z1) :
    Calls Try.prog 8 #[.int .i64 sz, .slice a0 len0 cap0, .slice a1 len1 cap1] w fun e w' => e = .returned (.bool true) ∧ Below w.heap.size w w' := by
  haveI i1 : DecidableEq Blk := fun a b => Classical.propDecidable (a = b)
  haveI i2 : Inhabited Blk := ⟨Blk.zero⟩
  haveI i3 : Inhabited Vol := ⟨⟨0, 0, ⟨#[]⟩, [], none, none, [], false⟩⟩
  obtain ⟨s1, s2⟩ := bounds_i64 ws
  obtain ⟨b, off, ha, hb, hm, hc, hz⟩ := backRow_open w0
  obtain ⟨b2, off2, ha2, hb2, hm2, hc2, hz2⟩ := backRow_open w1
  exact back_calls sz a0 b off len0 cap0 z0 a1 b2 off2 len1 cap1 z1 w s1 s2 ha hb hm hc hz ha2 hb2 hm2 hc2 hz2

/-! ### THE ROW's STEP: WRITTEN OUT: LEAVE IT -/
set_option maxRecDepth 100000 in
theorem back_lifted (os : Os) (started : os.Started) (H : Type) (enc : TypeId × Value → H) :
    ReturnsInHanded {} Try.checked os 8 .any (Rows.backSpec.pre6 enc Try.prog Try.f8 Rows.backRow.domain false) (Rows.backSpec.post enc Try.prog Try.f8 false true false false) := by
  refine returnsInHanded_of_change (C := Try.checked) backOwn started (by kernel_rfl) Try.func8
    (ChangeSpec.witness6 (enc := enc) (C := Try.checked) false ⟨#[], #[.int .i64 0, .slice none 0 0, .slice none 0 0], []⟩ 8 (by kernel_rfl) (by kernel_rfl) (by kernel_rfl) (by kernel_rfl)) ?_
  intro W base args ds gs before hval0 hW hcnd _
  have hval : ∀ (j : Nat) t v, Try.f8.params[j]? = some t → args[j]? = some v → Value.okWide Try.prog W .any base t v := hval0
  have hW' := hW
  obtain ⟨p, q, hA0, hV, rfl, hfz, hnd⟩ := hW
  have hA : DataW.TrodAll enc Try.prog W 0 (fun _ => true) true Try.f8.params.toList args.toList ds p := hA0
  rw [Try.params8] at hA hval
  obtain ⟨v0, vs0, d0, ds0, p0, q0, hargs, rfl, rfl, h0, r0⟩ := trodAll_cons hA
  obtain ⟨v1, vs1, d1, ds1, p1, q1, rfl, rfl, rfl, h1, r1⟩ := trodAll_cons r0
  obtain ⟨v2, vs2, d2, ds2, p2, q2, rfl, rfl, rfl, h2, r2⟩ := trodAll_cons r1
  obtain ⟨rfl, rfl, rfl⟩ := trodAll_nil r2
  obtain rfl : args = #[v0, v1, v2] := by cases args; simp_all
  obtain ⟨rfl, rfl⟩ := trodVars_none hV
  obtain ⟨sz, rfl, rfl, rfl, ws⟩ := open_int Try.underlying3 (hval 0 3 v0 rfl rfl) h0
  obtain ⟨a0, len0, cap0, rfl⟩ := okWide_slice Try.underlying39 (hval 1 39 v1 rfl rfl)
  have k0 := h1
  have lt0 : ∀ x ∈ p1, x.block < W.heap.size := by obtain ⟨m, hm⟩ := k0; exact DataW.trod_lt m _ _ _ hm
  obtain ⟨z0, w0⟩ : ∃ zs, BackRow .i64 W a0 len0 cap0 zs := by
    obtain ⟨fuel, hf⟩ := h1
    rcases open_ints Try.underlying39 Try.underlying3 (by kernel_rfl) hf with ⟨hcs, _⟩ | ⟨x, l, c, zs, hcs, _, hl, hm, hz, _, hcell, hwz⟩
    · simp [Value.cells] at hcs
      obtain ⟨rfl, rfl, rfl⟩ := hcs
      exact ⟨[], .inl ⟨rfl, rfl, rfl, rfl⟩⟩
    · simp [Value.cells] at hcs
      obtain ⟨rfl, rfl, rfl⟩ := hcs
      exact ⟨zs, .inr ⟨_, rfl, hl, hm, by simpa using hz, hcell, hwz⟩⟩
  obtain ⟨a1, len1, cap1, rfl⟩ := okWide_slice Try.underlying39 (hval 2 39 v2 rfl rfl)
  have k1 := h2
  have lt1 : ∀ x ∈ p2, x.block < W.heap.size := by obtain ⟨m, hm⟩ := k1; exact DataW.trod_lt m _ _ _ hm
  obtain ⟨z1, w1⟩ : ∃ zs, BackRow .i64 W a1 len1 cap1 zs := by
    obtain ⟨fuel, hf⟩ := h2
    rcases open_ints Try.underlying39 Try.underlying3 (by kernel_rfl) hf with ⟨hcs, _⟩ | ⟨x, l, c, zs, hcs, _, hl, hm, hz, _, hcell, hwz⟩
    · simp [Value.cells] at hcs
      obtain ⟨rfl, rfl, rfl⟩ := hcs
      exact ⟨[], .inl ⟨rfl, rfl, rfl, rfl⟩⟩
    · simp [Value.cells] at hcs
      obtain ⟨rfl, rfl, rfl⟩ := hcs
      exact ⟨zs, .inr ⟨_, rfl, hl, hm, by simpa using hz, hcell, hwz⟩⟩
  clear hA0 hval0
  refine (back_walk sz ws a0 len0 cap0 z0 a1 len1 cap1 z1 W w0 w1).mono fun e W' ⟨he, bel⟩ => ?_
  subst he
  exact ⟨_, rfl, _, _, _, [], _, [], hW', trodAll_mk1 (shut_bool Try.underlying4 _), (trodAll_cons_mk (shut_int Try.underlying3 ws) (trodAll_cons_mk (Below.trod backLaid (by kernel_rfl) (of_decide_eq_true (by kernel_rfl)) k0 bel lt0) (trodAll_cons_mk (Below.trod backLaid (by kernel_rfl) (of_decide_eq_true (by kernel_rfl)) k1 bel lt1) trodAll_mk0))), rfl, bel.frame _, fun h => by cases h⟩

theorem back_over : Rows.backRow.holds Try.pinned (OpenSpec.ofChange Rows.backSpec) :=
  OpenClaim.holds_of_wide 8 Try.f8 rfl rfl rfl rfl rfl rfl rfl ⟨rfl, rfl, rfl, rfl, rfl⟩ rfl rfl rfl rfl rfl (by kernel_rfl) Try.func8 (by kernel_rfl)
    (of_decide_eq_true (by kernel_rfl)) (by unfold Func.isWrapper; first | (rw [if_pos (by decide +kernel)]; kernel_rfl) | (rw [if_neg (by decide +kernel)]; exact ⟨rfl, rfl⟩))
    (fun os started H enc _ => back_lifted os started H enc)

/-- ████ THE STATEMENT ████ -/
theorem back_holds : Rows.BackSaid := back_over
#print axioms back_holds
end Go.Proofs.Ytpddgdjocffgdaa
