/- A Pool: writePicture, by contracts. -/
import Derived.Test.YtpddgdjocffgdaaPoolS
namespace Go.Proofs.Ytpddgdjocffgdaa
open Go.RowKit Go.Sort
set_option linter.unusedVariables false
set_option linter.unusedSimpArgs false
set_option linter.unusedSectionVars false
variable [DecidableEq Blk] [Inhabited Blk]
variable [Inhabited Vol]

set_option maxHeartbeats 1000000 in
set_option maxRecDepth 100000 in
theorem writePicture_kept (s : St) (fr : List Nat) (v : Vol) (k : Nat) (b : Blk) (w : World) (h : PoolAt w s) (hG : Good s fr) (hv : v ∈ s.vols) (hk : k ∈ v.kept) :
    Calls Try.prog 65 #[.pointer (some ⟨s.pb, 0, none⟩), .pointer (some ⟨v.vb, 0, none⟩), .int .i64 k, b.val] w fun e w' => e = .returned (.int .i64 0) ∧
      After w s w' { s with bl := s.bl.set v.xs[v.kept.idxOf k]! b } fr := by
  obtain ⟨x0, x1, x2, x3, x4, x5, x6, x7⟩ := b
  have S0 := (Same.refl [] w).alloc (Obj.cells #[.int .u8 x0, .int .u8 x1, .int .u8 x2, .int .u8 x3, .int .u8 x4, .int .u8 x5, .int .u8 x6, .int .u8 x7] 55)
  have hKI := keptIn_has v k _ ((h.new S0).vols v hv) hk
  have hyx : v.xs[v.kept.idxOf k]! ∈ v.xs := mem_getElem! (Nat.lt_of_lt_of_le (idxOf_lt hk) (h.vols v hv).room)
  have hyn := hG.lt.2 v hv _ hyx
  have hyf := hG.apart_fr hv hyx
  obtain ⟨cap, hp, _, _⟩ := (h.new S0).pool
  have c1 : (w.alloc (Obj.cells #[.int .u8 x0, .int .u8 x1, .int .u8 x2, .int .u8 x3, .int .u8 x4, .int .u8 x5, .int .u8 x6, .int .u8 x7] 55)).cell? ⟨s.pb, 1, none⟩ = some (.pointer (some ⟨s.db, 0, none⟩)) := hp.cell? 1
  have z0 : (w.alloc (Obj.cells #[.int .u8 x0, .int .u8 x1, .int .u8 x2, .int .u8 x3, .int .u8 x4, .int .u8 x5, .int .u8 x6, .int .u8 x7] 55)).cell? ⟨w.heap.size, 0, none⟩ = some (.int .u8 x0) := (At.new w #[.int .u8 x0, .int .u8 x1, .int .u8 x2, .int .u8 x3, .int .u8 x4, .int .u8 x5, .int .u8 x6, .int .u8 x7] 55).cell? 0
  have z1 : (w.alloc (Obj.cells #[.int .u8 x0, .int .u8 x1, .int .u8 x2, .int .u8 x3, .int .u8 x4, .int .u8 x5, .int .u8 x6, .int .u8 x7] 55)).cell? ⟨w.heap.size, 1, none⟩ = some (.int .u8 x1) := (At.new w #[.int .u8 x0, .int .u8 x1, .int .u8 x2, .int .u8 x3, .int .u8 x4, .int .u8 x5, .int .u8 x6, .int .u8 x7] 55).cell? 1
  have z2 : (w.alloc (Obj.cells #[.int .u8 x0, .int .u8 x1, .int .u8 x2, .int .u8 x3, .int .u8 x4, .int .u8 x5, .int .u8 x6, .int .u8 x7] 55)).cell? ⟨w.heap.size, 2, none⟩ = some (.int .u8 x2) := (At.new w #[.int .u8 x0, .int .u8 x1, .int .u8 x2, .int .u8 x3, .int .u8 x4, .int .u8 x5, .int .u8 x6, .int .u8 x7] 55).cell? 2
  have z3 : (w.alloc (Obj.cells #[.int .u8 x0, .int .u8 x1, .int .u8 x2, .int .u8 x3, .int .u8 x4, .int .u8 x5, .int .u8 x6, .int .u8 x7] 55)).cell? ⟨w.heap.size, 3, none⟩ = some (.int .u8 x3) := (At.new w #[.int .u8 x0, .int .u8 x1, .int .u8 x2, .int .u8 x3, .int .u8 x4, .int .u8 x5, .int .u8 x6, .int .u8 x7] 55).cell? 3
  have z4 : (w.alloc (Obj.cells #[.int .u8 x0, .int .u8 x1, .int .u8 x2, .int .u8 x3, .int .u8 x4, .int .u8 x5, .int .u8 x6, .int .u8 x7] 55)).cell? ⟨w.heap.size, 4, none⟩ = some (.int .u8 x4) := (At.new w #[.int .u8 x0, .int .u8 x1, .int .u8 x2, .int .u8 x3, .int .u8 x4, .int .u8 x5, .int .u8 x6, .int .u8 x7] 55).cell? 4
  have z5 : (w.alloc (Obj.cells #[.int .u8 x0, .int .u8 x1, .int .u8 x2, .int .u8 x3, .int .u8 x4, .int .u8 x5, .int .u8 x6, .int .u8 x7] 55)).cell? ⟨w.heap.size, 5, none⟩ = some (.int .u8 x5) := (At.new w #[.int .u8 x0, .int .u8 x1, .int .u8 x2, .int .u8 x3, .int .u8 x4, .int .u8 x5, .int .u8 x6, .int .u8 x7] 55).cell? 5
  have z6 : (w.alloc (Obj.cells #[.int .u8 x0, .int .u8 x1, .int .u8 x2, .int .u8 x3, .int .u8 x4, .int .u8 x5, .int .u8 x6, .int .u8 x7] 55)).cell? ⟨w.heap.size, 6, none⟩ = some (.int .u8 x6) := (At.new w #[.int .u8 x0, .int .u8 x1, .int .u8 x2, .int .u8 x3, .int .u8 x4, .int .u8 x5, .int .u8 x6, .int .u8 x7] 55).cell? 6
  have z7 : (w.alloc (Obj.cells #[.int .u8 x0, .int .u8 x1, .int .u8 x2, .int .u8 x3, .int .u8 x4, .int .u8 x5, .int .u8 x6, .int .u8 x7] 55)).cell? ⟨w.heap.size, 7, none⟩ = some (.int .u8 x7) := (At.new w #[.int .u8 x0, .int .u8 x1, .int .u8 x2, .int .u8 x3, .int .u8 x4, .int .u8 x5, .int .u8 x6, .int .u8 x7] 55).cell? 7
  generalize v.xs[v.kept.idxOf k]! = yy at *
  have hW := fun W (hW : Same [] w W) bv (hbv : bv = Blk.val ⟨x0, x1, x2, x3, x4, x5, x6, x7⟩) => diskWrite_calls s.db s.bb s.n yy _ _ _ s.bl ⟨x0, x1, x2, x3, x4, x5, x6, x7⟩ W _ bv _ rfl rfl hbv (hW.at h.disk.disk (by simp)) (hW.at h.disk.data (by simp)) h.disk.len hyn (by have := h.disk.small; omega)
  have HF : Hid (∀ w6, At w6 s.bb 55 (flat (s.bl.set yy ⟨x0, x1, x2, x3, x4, x5, x6, x7⟩)) → Same [s.bb] w w6 → After w s w6 { s with bl := s.bl.set yy ⟨x0, x1, x2, x3, x4, x5, x6, x7⟩ } fr) := fun w6 A6 S6 => write_after h hG yy _ hyf A6 S6
  have HS0 : Hid (Same [] w (w.alloc (Obj.cells #[.int .u8 x0, .int .u8 x1, .int .u8 x2, .int .u8 x3, .int .u8 x4, .int .u8 x5, .int .u8 x6, .int .u8 x7] 55))) := S0
  clear h hG hp S0
  unfold Blk.val
  go_enter Try.func65, Try.ntmps65
  go_wp2_with (go_at_call 99; refine hKI.mono ?_; rintro e wz ⟨rfl, rfl⟩)
  refine region_tail 6 (by kernel_rfl) (by kernel_rfl) ?_
  simp only [List.take_succ_cons, List.take_zero, List.drop_succ_cons, List.drop_zero]
  repeat still_step
  refine wpStill_nil ?_
  go_wp2_with (go_at_call 68; refine (hW _ (HS0.out.drew) _ rfl).mono ?_; rintro e w6 ⟨rfl, A6, S6⟩)
  have hFin := HF.out w6 A6 ((HS0.out.drew.mono (T := [s.bb]) (by simp)).step S6 (by simp))
  clear HF A6 S6 hW HS0
  go_ret
  exact ⟨rfl, hFin⟩

set_option maxHeartbeats 1000000 in
set_option maxRecDepth 100000 in
theorem writePicture_keep (s : St) (v : Vol) (k : Nat) (b : Blk) (w : World) (Q : Ending → World → Prop) (h : PoolAt w s) (hv : v ∈ s.vols) (hk : k ∉ v.kept)
    (hA : ∀ W, Same [] w W → Calls Try.prog 100 #[.pointer (some ⟨s.pb, 0, none⟩), .pointer (some ⟨v.vb, 0, none⟩), .int .i64 k, b.val] W fun e w' => ∃ x, e = .returned (.int .i64 x) ∧ Q (.returned (.int .i64 x)) w') :
    Calls Try.prog 65 #[.pointer (some ⟨s.pb, 0, none⟩), .pointer (some ⟨v.vb, 0, none⟩), .int .i64 k, b.val] w Q := by
  obtain ⟨x0, x1, x2, x3, x4, x5, x6, x7⟩ := b
  have S0 := (Same.refl [] w).alloc (Obj.cells #[.int .u8 x0, .int .u8 x1, .int .u8 x2, .int .u8 x3, .int .u8 x4, .int .u8 x5, .int .u8 x6, .int .u8 x7] 55)
  have hKI := keptIn_not v k _ ((h.new S0).vols v hv) hk
  have HS0 : Hid (Same [] w (w.alloc (Obj.cells #[.int .u8 x0, .int .u8 x1, .int .u8 x2, .int .u8 x3, .int .u8 x4, .int .u8 x5, .int .u8 x6, .int .u8 x7] 55))) := S0
  clear h S0
  unfold Blk.val at *
  go_enter Try.func65, Try.ntmps65
  go_wp2_with (first | (go_at_call 99; refine hKI.mono ?_; rintro e wz ⟨rfl, rfl⟩) | (go_at_call 100; refine (hA _ HS0.out).mono ?_; rintro e w4 ⟨x, rfl, hQ⟩))
  exact hQ
end Go.Proofs.Ytpddgdjocffgdaa
