/- For every text the law stratalaw.Loads returns true: Load of any bytes, and of any bytes with their sum, answers as the document's own reader does: the same error and place, or a Pool that has this image and answers everything as the document's. No condition beyond the row's own; the program is that of the commit named beside this claim. -/
import Derived.Test.YtpddgdjocffgdaaRows
import Derived.Test.YtpddgdjocffgdaaG35
import Derived.WalkKit
import Derived.ProofKit
import Derived.OpenShut
import Derived.ShutString
import Derived.ChangeOld
import Derived.Below
import Derived.SizedLaws
namespace Go.Proofs.Ytpddgdjocffgdaa
set_option linter.unusedVariables false
set_option linter.unusedSimpArgs false
set_option linter.unusedSectionVars false
section
open Go.ChangeShapes Go.WideShapes Go.ChangeAt Go.RowKit
open Go.ChangeMaps (open_string shut_string)
theorem loadsOwn : ownKnob Try.prog.godebug = none := by kernel_rfl
theorem loads_walk (t : ByteArray) (hl : t.data.toList.length ≤ reachBytes) (w : World) :
    Calls Try.prog 3 #[.string t] w fun e w' => e = .returned (.bool true) ∧ Below w.heap.size w w' := by
  haveI i1 : DecidableEq Blk := fun a b => Classical.propDecidable (a = b)
  haveI i2 : Inhabited Blk := ⟨Blk.zero⟩
  haveI i3 : Inhabited Vol := ⟨⟨0, 0, ⟨#[]⟩, [], none, none, [], false⟩⟩
  haveI i4 : Inhabited PEnt := ⟨⟨⟨#[]⟩, 0, 0, 0, 0, [], []⟩⟩
  haveI i5 : Inhabited RVol := ⟨⟨0, 0, 0, none, ⟨#[]⟩, ⟨#[]⟩, [], [], [], false⟩⟩
  haveI i6 : Inhabited RRow := ⟨⟨⟨⟨#[]⟩, 0, none, 0, [], [], false⟩, 0, 0, 0, 0, none, 0⟩⟩
  have hlen : t.data.toList.length = t.size := by rw [Array.length_toList]; rfl
  have hr : reachBytes = 140737488351232 := rfl
  refine (loads_calls w t (by omega)).mono fun e w' h => ⟨h.1, h.2.below (Nat.le_refl _) (by simp)⟩
set_option maxRecDepth 100000 in
theorem loads_lifted (os : Os) (started : os.Started) (H : Type) (enc : TypeId × Value → H) :
    ReturnsInHanded {} Try.checked os 3 .any (Rows.loadsSpec.pre6 enc Try.prog Try.f3 Rows.loadsRow.domain false) (Rows.loadsSpec.post enc Try.prog Try.f3 false true false false) := by
  refine returnsInHanded_of_change_sized (C := Try.checked) loadsOwn started (by kernel_rfl) Try.func3
    (ChangeSpec.witness6 (enc := enc) (C := Try.checked) false ⟨#[], #[.string ⟨#[]⟩], []⟩ 8 (by kernel_rfl) (by kernel_rfl) (by kernel_rfl) (by kernel_rfl)) ?_
  intro W base args ds gs before hval0 hW hcnd hsz _
  have hval : ∀ (j : Nat) t v, Try.f3.params[j]? = some t → args[j]? = some v → Value.okWide Try.prog W .any base t v := hval0
  have hW' := hW
  obtain ⟨p, q, hA0, hV, rfl, hfz, hnd⟩ := hW
  have hA : DataW.TrodAll enc Try.prog W 0 (fun _ => true) true Try.f3.params.toList args.toList ds p := hA0
  rw [Try.params3] at hA hval
  obtain ⟨v0, vs0, d0, ds0, p0, q0, hargs, rfl, rfl, h0, r0⟩ := trodAll_cons hA
  obtain ⟨rfl, rfl, rfl⟩ := trodAll_nil r0
  obtain rfl : args = #[v0] := by cases args; simp_all
  obtain ⟨rfl, rfl⟩ := trodVars_none hV
  obtain ⟨t, rfl, rfl, rfl, wt⟩ := open_string Try.underlying9 (hval 0 9 v0 rfl rfl) h0
  have hl : t.data.toList.length ≤ reachBytes := sized_string hsz (j := 0) (t := 9) rfl rfl
  clear hA0 hval0
  refine (loads_walk t hl W).mono fun e W' ⟨he, bel⟩ => ?_
  subst he
  exact ⟨_, rfl, _, _, _, [], _, [], hW', trodAll_mk1 (shut_bool Try.underlying4 _), (trodAll_cons_mk (shut_string Try.underlying9 wt) trodAll_mk0), rfl, bel.frame _, fun h => by cases h⟩
theorem loads_over : Rows.loadsRow.holds Try.pinned (OpenSpec.ofChange Rows.loadsSpec) :=
  OpenClaim.holds_of_wide 3 Try.f3 rfl rfl rfl rfl rfl rfl rfl ⟨rfl, rfl, rfl, rfl, rfl⟩ rfl rfl rfl rfl rfl (by kernel_rfl) Try.func3 (by kernel_rfl)
    (of_decide_eq_true (by kernel_rfl)) (by unfold Func.isWrapper; first | (rw [if_pos (by decide +kernel)]; kernel_rfl) | (rw [if_neg (by decide +kernel)]; exact ⟨rfl, rfl⟩))
    (fun os started H enc _ => loads_lifted os started H enc)
/-- THE STATEMENT. -/
theorem loads_holds : Rows.LoadsSaid := loads_over
end
end Go.Proofs.Ytpddgdjocffgdaa
