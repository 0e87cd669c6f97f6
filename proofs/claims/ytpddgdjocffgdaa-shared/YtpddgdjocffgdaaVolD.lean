/- Pictures: told, by a contract. -/
import Derived.Test.YtpddgdjocffgdaaVolB
namespace Go.Proofs.Ytpddgdjocffgdaa
open Go.RowKit Go.Sort
set_option linter.unusedVariables false
set_option linter.unusedSimpArgs false
set_option linter.unusedSectionVars false
variable [DecidableEq Blk] [Inhabited Blk]
variable [Inhabited Vol]

set_option maxHeartbeats 2000000 in
set_option maxRecDepth 100000 in
theorem told_pic (v u : Vol) (w : World) (h : VolAt w v) (hu : VolAt w u) (ho : v.org = some u.vb) (hu0 : u.org = none) :
    Calls Try.prog 67 #[.pointer (some ⟨v.vb, 0, none⟩)] w fun e w' => e = .returned (.agg #[.string v.name, .int .i64 u.xs.length, .string u.name, .int .i64 v.xs.length, .int .i64 v.kept.length, .bool v.lost]) ∧ Same [] w w' := by
  obtain ⟨cap, kcap, hcap, hv, hk1, hk2⟩ := h.vol
  obtain ⟨ucap, ukcap, hucap, huv, _, _⟩ := hu.vol
  have hs := h.small
  have hr := h.room
  have hsu := hu.small
  have lv := hv.lt
  have lu := huv.lt
  have hI : ∀ W, Same [] w W → Calls Try.prog 56 #[.pointer (some ⟨v.vb, 0, none⟩)] W fun e w' => e = .returned (.bool true) ∧ w' = W := fun W hW => by
    have := isPicture_calls v W (h.new hW); rw [ho] at this; exact this
  have hc : ∀ W, Same [] w W → Calls Try.prog 57 #[.pointer (some ⟨v.vb, 0, none⟩)] W fun e w' => e = .returned (.int .i64 u.xs.length) ∧ w' = W := fun W hW => size_pic v u W (h.new hW) (hu.new hW) ho hu0
  have c0 : w.cell? ⟨v.vb, 0, none⟩ = some (.string v.name) := hv.cell? 0
  have c1 : w.cell? ⟨v.vb, 1, none⟩ = some (.slice (some ⟨v.gb, 0, none⟩) v.xs.length cap) := hv.cell? 1
  have c2 : w.cell? ⟨v.vb, 2, none⟩ = some (.pointer (adr v.org)) := hv.cell? 2
  rw [ho] at c2
  simp only [adr, Option.map_some] at c2
  have c3 : w.cell? ⟨v.vb, 3, none⟩ = some (.slice (adr v.kg) v.kept.length kcap) := hv.cell? 3
  have c4 : w.cell? ⟨v.vb, 4, none⟩ = some (.bool v.lost) := hv.cell? 4
  have d0 : w.cell? ⟨u.vb, 0, none⟩ = some (.string u.name) := huv.cell? 0
  have hnot : ∀ (x : Bool) (w : World), (Op.unary .not (.bool x)).run Try.prog w = .ok (.bool (!x)) w := fun _ _ => rfl
  clear h hv hk1 hk2 huv hu
  go_enter Try.func67, Try.ntmps67
  go_wp2_with (go_at_call 56; refine (hI _ ((Same.refl _ _).alloc _)).mono ?_; rintro e w' ⟨rfl, rfl⟩)
  refine region_tail 28 (by kernel_rfl) (by kernel_rfl) ?_
  simp only [List.take_succ_cons, List.take_zero, List.drop_succ_cons, List.drop_zero]
  repeat still_step
  still_call (hc _ ((Same.refl _ _).alloc _).drew)
  repeat still_step
  refine wpStill_nil ?_
  go_wp2
  exact bodyPost_ret (v := .agg #[.string v.name, .int .i64 u.xs.length, .string u.name, .int .i64 v.xs.length, .int .i64 v.kept.length, .bool v.lost]) (by simp [results, Try.results67, go_sem]) rfl ⟨rfl, ((Same.refl _ _).alloc _).drew⟩
end Go.Proofs.Ytpddgdjocffgdaa
