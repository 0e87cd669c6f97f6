/- The statement's function opened, by a contract. -/
import Derived.Test.YtpddgdjocffgdaaLawA
import Derived.Test.YtpddgdjocffgdaaPoolY
namespace Go.Proofs.Ytpddgdjocffgdaa
open Go.RowKit Go.Sort
set_option linter.unusedVariables false
set_option linter.unusedSimpArgs false
set_option linter.unusedSectionVars false
variable [DecidableEq Blk] [Inhabited Blk]
variable [Inhabited Vol]

def first : ByteArray := ⟨#[102, 105, 114, 115, 116]⟩
theorem first_name : nameB first = true := by decide +kernel
theorem isIn_nil (t : ByteArray) : isIn [] t = false := by simp [isIn]
theorem posOf_nil (t : ByteArray) : posOf [] t = 0 := rfl
theorem posOf_one (t : ByteArray) : posOf [t] t = 0 := by simp [posOf, cmpB_self]
theorem isIn_one (t : ByteArray) : isIn [t] t = true := by simp [isIn, posOf_one, cmpB_self]

theorem read_plain (s : St) (fr : List Nat) (t : ByteArray) (k : Nat) (w : World) (h : PoolAt w s) (hG : Good s fr) (hi : s.has t = true) (ho : (s.vol t).org = none) (hk : k < (s.vol t).xs.length) :
    Calls Try.prog 30 #[.pointer (some ⟨s.pb, 0, none⟩), .string t, .int .i64 k] w fun e w' => e = .returned (.tuple #[(s.bl[(s.vol t).xs[k]!]!).val, .int .i64 0]) ∧ Same [] w w' := by
  have hmem := (St.has_mem hi).1
  have eo : s.orgOf (s.vol t) = s.vol t := (h.orgOf hmem).2.2.1 ho
  have hk' : k < s.size (s.vol t) := by unfold St.size; rw [eo]; exact hk
  have eh : s.holder (s.vol t) k = (s.vol t).xs[k]! := by unfold St.holder; rw [(h.vols _ hmem).kept_nil ho, eo]; simp
  have := read_some s t k w h hi ((h.vols _ hmem).plain ho).2 hk' (holder_lt h hG hmem hk')
  unfold St.look at this
  rw [eh] at this
  exact this

structure Opened (w w' : World) (pb : Nat) : Prop where
  ex : ∃ s fr, s.pb = pb ∧ PoolAt w' s ∧ Good s fr ∧ s.n = 200 ∧ s.vols = [] ∧ (∀ k ∈ s.foot, w.heap.size ≤ k)
  same : Same [] w w'

/-- The Pool with one volume. -/
structure OneVol (s : St) (fr : List Nat) (t : ByteArray) : Prop where
  has : s.has t = true
  xs : (s.vol t).xs = [0, 1, 2]
  n : s.n = 200
  m : s.m = 197
  len : s.vols.length = 1
  pos : posOf s.names t = 0
  org : (s.vol t).org = none
  pics : s.picsOf (s.vol t).vb = []

set_option maxHeartbeats 800000 in
set_option maxRecDepth 100000 in
theorem opened_calls (w : World) :
    Calls Try.prog 15 #[] w fun e w' => ∃ pb, e = .returned (.pointer (some ⟨pb, 0, none⟩)) ∧ Opened w w' pb := by
  have hN := newPool_ok 200 w (by omega)
  obtain ⟨i26, hi26⟩ : ∃ i, Try.prog.info? 38 = some i := Option.isSome_iff_exists.1 (by kernel_rfl)
  have HE := fun W => equal_blocks ⟨1, 2, 0, 0, 0, 0, 0, 0⟩ ⟨1, 2, 0, 0, 0, 0, 0, 0⟩ W
  simp only [decide_true] at HE
  go_enter Try.func15, Try.ntmps15
  go_wp2_with fail
  refine hN.mono ?_
  rintro e w1 ⟨pb, rfl, hP⟩
  obtain ⟨⟨db, bb, fb, hP0, hfoot0⟩, S0⟩ := hP
  have hG0 := newSt_good pb db bb fb 200
  have hx0 : (newSt pb db bb fb 200).has first = false := isIn_nil first
  have hC := create_ok (newSt pb db bb fb 200) (List.range 200) first 3 w1 hP0 hG0 (by unfold maxLen; decide) first_name hx0 (by omega) (by simp [newSt]) (by simp)
  have hC' : Calls Try.prog 19 #[.pointer (some ⟨pb, 0, none⟩), .string ⟨#[102, 105, 114, 115, 116]⟩, .int .i64 3] w1 (fun e w' => e = .returned (.int .i64 0) ∧ ∃ s fr, After w1 (newSt pb db bb fb 200) w' s fr ∧ OneVol s fr first) := by
    refine hC.mono ?_
    rintro e w' ⟨he, g, vb, gb, hA, hvb⟩
    refine ⟨he, _, _, hA, ?_⟩
    refine ⟨?_, ?_, rfl, rfl, rfl, ?_, ?_, ?_⟩
    · show isIn [first] first = true
      exact isIn_one first
    · show ([(⟨vb, gb, first, (List.range 200).take 3, none, none, [], false⟩ : Vol)][posOf [first] first]!).xs = [0, 1, 2]
      rw [posOf_one]; rfl
    · show posOf [first] first = 0
      exact posOf_one first
    · show ([(⟨vb, gb, first, (List.range 200).take 3, none, none, [], false⟩ : Vol)][posOf [first] first]!).org = none
      rw [posOf_one]; rfl
    · exact rfl
  clear hC hN
  go_wp2_with fail
  refine hC'.mono ?_
  rintro e w2 ⟨rfl, s1, fr1, hA1, hO1⟩
  clear hC'
  have hpb1 : s1.pb = pb := hA1.pb
  have hP1 := hA1.pool
  have hM := map_some s1 first w2 hP1 hO1.has
  rw [hO1.xs, hpb1] at hM
  have hM' : Calls Try.prog 18 #[.pointer (some ⟨pb, 0, none⟩), .string ⟨#[102, 105, 114, 115, 116]⟩] w2 (fun e w' => ∃ g cs, e = .returned (.tuple #[.slice (some ⟨g, 0, none⟩) 3 3, .int .i64 0]) ∧ w2.heap.size ≤ g ∧ RowAt w' g [0, 1, 2] cs ∧ Same [] w2 w') := hM
  clear hM
  go_wp2_with fail
  refine hM'.mono ?_
  rintro e w3 ⟨lg, lcs, rfl, hlg, hR3, S3⟩
  clear hM'
  have hA3 := hA1.new S3
  have hx2 : (s1.vol first).xs[2]! = 2 := by rw [hO1.xs]; rfl
  have hW := write_plain s1 fr1 first 2 ⟨1, 2, 0, 0, 0, 0, 0, 0⟩ w3 hA3.pool hA3.good hO1.has hO1.org hO1.pics (by rw [hO1.xs]; decide)
  rw [hx2] at hW
  have hW' : Calls Try.prog 27 #[.pointer (some ⟨pb, 0, none⟩), .string ⟨#[102, 105, 114, 115, 116]⟩, .int .i64 2, .agg #[.int .u8 1, .int .u8 2, .int .u8 0, .int .u8 0, .int .u8 0, .int .u8 0, .int .u8 0, .int .u8 0]] w3 (fun e w' => e = .returned (.int .i64 0) ∧ After w3 s1 w' { s1 with bl := s1.bl.set 2 ⟨1, 2, 0, 0, 0, 0, 0, 0⟩ } fr1) := by rw [← hpb1]; exact hW
  clear hW
  go_wp2_with fail
  refine hW'.mono ?_
  rintro e w4 ⟨rfl, hAW⟩
  clear hW'
  have hA4 := hA3.trans hAW
  have S4 := hAW.same
  have hlg4 : lg ∉ s1.foot := fun hm => by have := hP1.foot_lt lg hm; omega
  have hbbf : s1.bb ∈ s1.foot := by simp [St.foot]
  have hR4 := hR3.same S4 hlg4
  have hRd := read_plain { s1 with bl := s1.bl.set 2 ⟨1, 2, 0, 0, 0, 0, 0, 0⟩ } fr1 first 2 w4 hA4.pool hA4.good hO1.has hO1.org (by show 2 < (s1.vol first).xs.length; rw [hO1.xs]; decide)
  have hbl2 : (s1.bl.set 2 ⟨1, 2, 0, 0, 0, 0, 0, 0⟩)[2]! = (⟨1, 2, 0, 0, 0, 0, 0, 0⟩ : Blk) := by
    have hl : s1.bl.length = 200 := by rw [hP1.disk.len, hO1.n]
    rw [getElem!_pos _ 2 (by simp [hl])]; simp
  have hRd' : Calls Try.prog 30 #[.pointer (some ⟨pb, 0, none⟩), .string ⟨#[102, 105, 114, 115, 116]⟩, .int .i64 2] w4 (fun e w' => e = .returned (.tuple #[.agg #[.int .u8 1, .int .u8 2, .int .u8 0, .int .u8 0, .int .u8 0, .int .u8 0, .int .u8 0, .int .u8 0], .int .i64 0]) ∧ Same [] w4 w') := by
    have e1 : St.vol { s1 with bl := s1.bl.set 2 ⟨1, 2, 0, 0, 0, 0, 0, 0⟩ } first = s1.vol first := rfl
    rw [e1, hx2] at hRd
    simp only [hpb1] at hRd
    rw [hbl2] at hRd
    exact hRd
  clear hRd
  go_wp2_with fail
  refine hRd'.mono ?_
  rintro e w5 ⟨rfl, S5⟩
  clear hRd'
  have hA5 := hA4.new S5
  have S6 : Same [] w5 (w5.alloc (Obj.cells #[.int .u8 1, .int .u8 2, .int .u8 0, .int .u8 0, .int .u8 0, .int .u8 0, .int .u8 0, .int .u8 0] 55)) := (Same.refl _ _).alloc _
  have N6 := At.new w5 #[.int .u8 1, .int .u8 2, .int .u8 0, .int .u8 0, .int .u8 0, .int .u8 0, .int .u8 0, .int .u8 0] 55
  have hA6 := hA5.new S6
  go_wp2_with fail
  generalize w5.alloc (Obj.cells #[.int .u8 1, .int .u8 2, .int .u8 0, .int .u8 0, .int .u8 0, .int .u8 0, .int .u8 0, .int .u8 0] 55) = w6 at *
  have hF := free_calls _ w6 hA6.pool
  have hF' : Calls Try.prog 23 #[.pointer (some ⟨pb, 0, none⟩)] w6 (fun e w' => e = .returned (.int .i64 197) ∧ w' = w6) := by
    simp only [hpb1, hO1.m] at hF
    exact hF
  clear hF
  refine hF'.mono ?_
  rintro e w7 ⟨rfl, rfl⟩
  clear hF'
  have hRm := remove_ok _ fr1 first w7 hA6.pool hA6.good hO1.has hO1.pics
  have hRm' : Calls Try.prog 20 #[.pointer (some ⟨pb, 0, none⟩), .string ⟨#[102, 105, 114, 115, 116]⟩] w7 (fun e w' => e = .returned (.int .i64 0) ∧ ∃ s fr, After w1 (newSt pb db bb fb 200) w' s fr ∧ s.m = 200 ∧ s.vols = [] ∧ Same s1.foot w7 w') := by
    rw [← hpb1]
    refine hRm.mono ?_
    rintro e w' ⟨he, g, hA⟩
    rw [hpb1]
    refine ⟨he, _, _, hA6.trans hA, ?_, ?_, hA.same⟩
    · show s1.m + (s1.vol first).xs.length = 200
      rw [hO1.m, hO1.xs]; rfl
    · show delVol (posOf s1.names first) s1.vols = []
      have := hO1.len
      unfold delVol
      rw [hO1.pos, List.take_zero, List.nil_append]
      exact List.drop_of_length_le (by omega)
  clear hRm
  go_wp2_with fail
  refine hRm'.mono ?_
  rintro e w8 ⟨rfl, s3, fr3, hA8, hm8, hv8, S8⟩
  clear hRm'
  have hF := free_calls _ w8 hA8.pool
  have hF' : Calls Try.prog 23 #[.pointer (some ⟨pb, 0, none⟩)] w8 (fun e w' => e = .returned (.int .i64 200) ∧ w' = w8) := by
    rw [hm8, show s3.pb = pb from hA8.pb] at hF
    exact hF
  clear hF
  have hlt1 := hP1.foot_lt
  have hs3 := S3.size
  have hs4 := S4.size
  have hs5 := S5.size
  have lg3 := hR3.at_.lt
  have h5f : w5.heap.size ∉ s1.foot := fun hm => by have := hlt1 _ hm; omega
  have N8 := S8.at N6 h5f
  have R8 := ((hR4.same S5 (by simp)).same S6 (by simp)).same S8 hlg4
  have b0 : w8.cell? ⟨w5.heap.size, 0, none⟩ = some (.int .u8 1) := N8.cell? 0
  have b1 : w8.cell? ⟨w5.heap.size, 1, none⟩ = some (.int .u8 2) := N8.cell? 1
  have b2 : w8.cell? ⟨w5.heap.size, 2, none⟩ = some (.int .u8 0) := N8.cell? 2
  have b3 : w8.cell? ⟨w5.heap.size, 3, none⟩ = some (.int .u8 0) := N8.cell? 3
  have b4 : w8.cell? ⟨w5.heap.size, 4, none⟩ = some (.int .u8 0) := N8.cell? 4
  have b5 : w8.cell? ⟨w5.heap.size, 5, none⟩ = some (.int .u8 0) := N8.cell? 5
  have b6 : w8.cell? ⟨w5.heap.size, 6, none⟩ = some (.int .u8 0) := N8.cell? 6
  have b7 : w8.cell? ⟨w5.heap.size, 7, none⟩ = some (.int .u8 0) := N8.cell? 7
  have d0 : w8.cell? ⟨lg, 0, none⟩ = some (.int .i64 0) := by rw [R8.at_.cell?]; exact R8.cell 0 (by decide)
  have d1 : w8.cell? ⟨lg, 1, none⟩ = some (.int .i64 1) := by rw [R8.at_.cell?]; exact R8.cell 1 (by decide)
  have d2 : w8.cell? ⟨lg, 2, none⟩ = some (.int .i64 2) := by rw [R8.at_.cell?]; exact R8.cell 2 (by decide)
  have hFin : Opened w w8 pb := by
    refine ⟨⟨s3, fr3, hA8.pb, hA8.pool, hA8.good, hA8.n, hv8, fun k hk => ?_⟩, ?_⟩
    · have := S0.size
      rcases hA8.foot k hk with h | h
      · exact hfoot0 k h
      · omega
    · exact S0.step hA8.same (fun k hk hl => by have := hfoot0 k hk; omega)
  clear hA8 hA6 hA5 hA4 hA3 hA1 hP1 hP0 hG0 N8 R8 hR4 hR3 N6 S8 S6 S5 S4 S3 S0 hO1 hAW
  go_wp2_with (go_at_call 23; refine hF'.mono ?_; rintro e w9 ⟨rfl, rfl⟩)
  go_ret
  exact ⟨pb, rfl, hFin⟩
end Go.Proofs.Ytpddgdjocffgdaa
