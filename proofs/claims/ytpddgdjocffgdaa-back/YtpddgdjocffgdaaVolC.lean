/- Volumes and pictures: told, keptIn, holder, by contracts. -/
import Derived.Test.YtpddgdjocffgdaaVolB
namespace Go.Proofs.Ytpddgdjocffgdaa
open Go.RowKit Go.Sort
set_option linter.unusedVariables false
set_option linter.unusedSimpArgs false
set_option linter.unusedSectionVars false
variable [DecidableEq Blk] [Inhabited Blk]
variable [Inhabited Vol]

set_option maxHeartbeats 1000000 in
set_option maxRecDepth 100000 in
theorem told_vol (v : Vol) (w : World) (h : VolAt w v) (ho : v.org = none) :
    Calls Try.prog 67 #[.pointer (some ⟨v.vb, 0, none⟩)] w fun e w' => e = .returned (.agg #[.string v.name, .int .i64 v.xs.length, .string ⟨#[]⟩, .int .i64 0, .int .i64 0, .bool false]) ∧ Same [] w w' := by
  obtain ⟨cap, kcap, hcap, hv, hk1, hk2⟩ := h.vol
  have hs := h.small
  have lv := hv.lt
  have hI : ∀ W, Same [] w W → Calls Try.prog 56 #[.pointer (some ⟨v.vb, 0, none⟩)] W fun e w' => e = .returned (.bool false) ∧ w' = W := fun W hW => by
    have := isPicture_calls v W (h.new hW); rw [ho] at this; exact this
  have hc : ∀ W, Same [] w W → Calls Try.prog 57 #[.pointer (some ⟨v.vb, 0, none⟩)] W fun e w' => e = .returned (.int .i64 v.xs.length) ∧ w' = W := fun W hW => size_vol v W (h.new hW) ho
  have c0 : w.cell? ⟨v.vb, 0, none⟩ = some (.string v.name) := hv.cell? 0
  have hnot : ∀ (x : Bool) (w : World), (Op.unary .not (.bool x)).run Try.prog w = .ok (.bool (!x)) w := fun _ _ => rfl
  clear h hv hk1 hk2
  go_enter Try.func67, Try.ntmps67
  go_wp2_with (go_at_call 56; refine (hI _ ((Same.refl _ _).alloc _)).mono ?_; rintro e w' ⟨rfl, rfl⟩)
  go_region_with (go_at_call 57; refine (hc _ ((Same.refl _ _).alloc _).drew).mono ?_; rintro e w' ⟨rfl, rfl⟩)
  all_goals
    go_wp2
    exact bodyPost_ret (v := .agg #[.string v.name, .int .i64 v.xs.length, .string ⟨#[]⟩, .int .i64 0, .int .i64 0, .bool false]) (by simp [results, Try.results67, go_sem]) rfl ⟨rfl, ((Same.refl _ _).alloc _).drew⟩
end Go.Proofs.Ytpddgdjocffgdaa
