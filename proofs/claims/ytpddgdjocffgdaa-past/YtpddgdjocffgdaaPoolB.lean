/- A Pool: findPlace, Free, Map, Read, by contracts. -/
import Derived.Test.YtpddgdjocffgdaaPoolA
namespace Go.Proofs.Ytpddgdjocffgdaa
open Go.RowKit Go.Sort
set_option linter.unusedVariables false
set_option linter.unusedSimpArgs false
set_option linter.unusedSectionVars false
variable [DecidableEq Blk] [Inhabited Blk]
variable [Inhabited Vol]

/-- What has a name. -/
def St.vol (s : St) (t : ByteArray) : Vol := s.vols[posOf s.names t]!
def St.has (s : St) (t : ByteArray) : Bool := isIn s.names t

theorem St.has_mem {s : St} {t : ByteArray} (h : s.has t = true) : s.vol t ∈ s.vols ∧ (s.vol t).name = t ∧ posOf s.names t < s.vols.length := by
  unfold St.has isIn at h
  simp only [Bool.and_eq_true, decide_eq_true_eq] at h
  have hl : posOf s.names t < s.vols.length := by simpa [St.names] using h.1
  refine ⟨?_, ?_, hl⟩
  · unfold St.vol; rw [getElem!_pos s.vols _ hl]; exact List.getElem_mem hl
  · have := (cmpB_zero _ _).1 h.2
    rw [getElem!_pos s.names _ h.1] at this
    unfold St.vol
    rw [getElem!_pos s.vols _ hl]
    simpa [St.names] using this

theorem find_has (s : St) (t : ByteArray) (w : World) (h : PoolAt w s) (hi : s.has t = true) :
    Calls Try.prog 48 #[.pointer (some ⟨s.pb, 0, none⟩), .string t] w fun e w' => e = .returned (.tuple #[.pointer (some ⟨(s.vol t).vb, 0, none⟩), .int .i64 0]) ∧ w' = w := by
  have := find_calls s t w h
  unfold St.has at hi
  simp only [hi, if_true] at this
  exact this
theorem find_not (s : St) (t : ByteArray) (w : World) (h : PoolAt w s) (hi : s.has t = false) :
    Calls Try.prog 48 #[.pointer (some ⟨s.pb, 0, none⟩), .string t] w fun e w' => e = .returned (.tuple #[.pointer none, .int .i64 4]) ∧ w' = w := by
  have := find_calls s t w h
  unfold St.has at hi
  simp only [hi, Bool.false_eq_true, if_false] at this
  exact this

/-- Its size: of a picture its origin's; which block holds what stands at a place; what stands there. -/
def St.size (s : St) (v : Vol) : Nat := (s.orgOf v).xs.length
def St.holder (s : St) (v : Vol) (k : Nat) : Nat := if k ∈ v.kept then v.xs[v.kept.idxOf k]! else (s.orgOf v).xs[k]!
def St.look (s : St) (v : Vol) (k : Nat) : Blk := s.bl[s.holder v k]!

theorem size_at {s : St} {w : World} (h : PoolAt w s) {v : Vol} (hv : v ∈ s.vols) :
    Calls Try.prog 57 #[.pointer (some ⟨v.vb, 0, none⟩)] w fun e w' => e = .returned (.int .i64 (s.size v)) ∧ w' = w := by
  obtain ⟨h1, h2, h3, h4⟩ := h.orgOf hv
  by_cases ho : v.org = none
  · unfold St.size; rw [h3 ho]; exact size_vol v w (h.vols v hv) ho
  · exact size_pic v (s.orgOf v) w (h.vols v hv) (h.vols _ h1) (h4 ho) h2
theorem holder_at {s : St} {w : World} (h : PoolAt w s) {v : Vol} (hv : v ∈ s.vols) {k : Nat} (hk : k < s.size v) :
    Calls Try.prog 64 #[.pointer (some ⟨v.vb, 0, none⟩), .int .i64 k] w fun e w' => e = .returned (.int .i64 (s.holder v k : Nat)) ∧ w' = w := by
  obtain ⟨h1, h2, h3, h4⟩ := h.orgOf hv
  by_cases ho : v.org = none
  · have e : s.orgOf v = v := h3 ho
    have e2 : s.holder v k = v.xs[k]! := by unfold St.holder; rw [(h.vols v hv).kept_nil ho, e]; simp
    rw [e2]
    exact holder_vol v k w (h.vols v hv) ho (by have : s.size v = v.xs.length := by { unfold St.size; rw [e] }; omega)
  · by_cases hm : k ∈ v.kept
    · have e2 : s.holder v k = v.xs[v.kept.idxOf k]! := by unfold St.holder; rw [if_pos hm]
      rw [e2]
      exact holder_kept v k w (h.vols v hv) ho hm
    · have e2 : s.holder v k = (s.orgOf v).xs[k]! := by unfold St.holder; rw [if_neg hm]
      rw [e2]
      exact holder_through v (s.orgOf v) k w (h.vols v hv) (h.vols _ h1) (h4 ho) h2 hm hk
theorem size_small {s : St} {w : World} (h : PoolAt w s) {v : Vol} (hv : v ∈ s.vols) : s.size v ≤ 200 := (h.vols _ (h.orgOf hv).1).small
theorem lost_cell {s : St} {w : World} (h : PoolAt w s) {v : Vol} (hv : v ∈ s.vols) : w.cell? ⟨v.vb, 4, none⟩ = some (.bool v.lost) := by
  obtain ⟨cap, kcap, _, hvo, _, _⟩ := (h.vols v hv).vol
  exact hvo.cell? 4

set_option maxHeartbeats 400000 in
theorem findPlace_none (s : St) (t : ByteArray) (k : Int) (w : World) (h : PoolAt w s) (hi : s.has t = false) :
    Calls Try.prog 63 #[.pointer (some ⟨s.pb, 0, none⟩), .string t, .int .i64 k] w fun e w' => e = .returned (.tuple #[.pointer none, .int .i64 4]) ∧ w' = w := by
  have hf := find_not s t w h hi
  clear h
  go_enter Try.func63, Try.ntmps63
  go_wp2_with (go_at_call 48; refine hf.mono ?_; rintro e w' ⟨rfl, rfl⟩)
  go_ret2
  exact ⟨rfl, rfl⟩
set_option maxHeartbeats 400000 in
theorem findPlace_lost (s : St) (t : ByteArray) (k : Int) (w : World) (h : PoolAt w s) (hi : s.has t = true) (hl : (s.vol t).lost = true) :
    Calls Try.prog 63 #[.pointer (some ⟨s.pb, 0, none⟩), .string t, .int .i64 k] w fun e w' => e = .returned (.tuple #[.pointer none, .int .i64 9]) ∧ w' = w := by
  have hf := find_has s t w h hi
  have c4 := lost_cell h (St.has_mem hi).1
  rw [hl] at c4
  clear h
  go_enter Try.func63, Try.ntmps63
  go_wp2_with (go_at_call 48; refine hf.mono ?_; rintro e w' ⟨rfl, rfl⟩)
  go_ret2
  exact ⟨rfl, rfl⟩
set_option maxHeartbeats 400000 in
theorem findPlace_out (s : St) (t : ByteArray) (k : Int) (w : World) (h : PoolAt w s) (hi : s.has t = true) (hl : (s.vol t).lost = false) (hk : ¬ (0 ≤ k ∧ k < s.size (s.vol t))) :
    Calls Try.prog 63 #[.pointer (some ⟨s.pb, 0, none⟩), .string t, .int .i64 k] w fun e w' => e = .returned (.tuple #[.pointer none, .int .i64 1]) ∧ w' = w := by
  have hf := find_has s t w h hi
  have hm := (St.has_mem hi).1
  have hp := hasPlace_calls (s.vol t).vb (s.size (s.vol t)) k w (by have := size_small h hm; omega) (size_at h hm)
  rw [decide_eq_false hk] at hp
  have c4 := lost_cell h hm
  rw [hl] at c4
  have hnot : ∀ (x : Bool) (w : World), (Op.unary .not (.bool x)).run Try.prog w = .ok (.bool (!x)) w := fun _ _ => rfl
  clear h hk
  go_enter Try.func63, Try.ntmps63
  go_wp2_with (first | (go_at_call 48; refine hf.mono ?_; rintro e w' ⟨rfl, rfl⟩) | (go_at_call 98; refine hp.mono ?_; rintro e w' ⟨rfl, rfl⟩))
  go_ret2
  exact ⟨rfl, rfl⟩
set_option maxHeartbeats 400000 in
set_option maxRecDepth 100000 in
theorem findPlace_in (s : St) (t : ByteArray) (k : Nat) (w : World) (h : PoolAt w s) (hi : s.has t = true) (hl : (s.vol t).lost = false) (hk : k < s.size (s.vol t)) :
    Calls Try.prog 63 #[.pointer (some ⟨s.pb, 0, none⟩), .string t, .int .i64 k] w fun e w' => e = .returned (.tuple #[.pointer (some ⟨(s.vol t).vb, 0, none⟩), .int .i64 0]) ∧ w' = w := by
  have hf := find_has s t w h hi
  have hm := (St.has_mem hi).1
  have hp := hasPlace_calls (s.vol t).vb (s.size (s.vol t)) k w (by have := size_small h hm; omega) (size_at h hm)
  rw [decide_eq_true (show (0 : Int) ≤ k ∧ (k : Int) < (s.size (s.vol t) : Nat) by omega)] at hp
  have c4 := lost_cell h hm
  rw [hl] at c4
  have hnot : ∀ (x : Bool) (w : World), (Op.unary .not (.bool x)).run Try.prog w = .ok (.bool (!x)) w := fun _ _ => rfl
  clear h hk
  generalize (s.vol t).vb = vb at *
  go_enter Try.func63, Try.ntmps63
  go_wp2_with (first | (go_at_call 48; refine hf.mono ?_; rintro e w' ⟨rfl, rfl⟩) | (go_at_call 98; refine hp.mono ?_; rintro e w' ⟨rfl, rfl⟩))
  go_ret2
  exact ⟨rfl, rfl⟩

set_option maxHeartbeats 400000 in
theorem free_calls (s : St) (w : World) (h : PoolAt w s) :
    Calls Try.prog 23 #[.pointer (some ⟨s.pb, 0, none⟩)] w fun e w' => e = .returned (.int .i64 s.m) ∧ w' = w := by
  have hm := made_calls s w h
  obtain ⟨cap, hp, _, _⟩ := h.pool
  have c1 : w.cell? ⟨s.pb, 1, none⟩ = some (.pointer (some ⟨s.db, 0, none⟩)) := hp.cell? 1
  have hf := diskFree_calls s.db s.n s.m _ _ _ w _ rfl h.disk.disk (by have := h.disk.le; have := h.disk.small; omega)
  have hnot : ∀ (x : Bool) (w : World), (Op.unary .not (.bool x)).run Try.prog w = .ok (.bool (!x)) w := fun _ _ => rfl
  unfold ptr at hm
  clear h hp
  go_enter Try.func23, Try.ntmps23
  go_wp2_with (first | (go_at_call 36; refine hm.mono ?_; rintro e w' ⟨rfl, rfl⟩) | (go_at_call 62; refine hf.mono ?_; rintro e w' ⟨rfl, rfl⟩))
  go_ret
  exact ⟨rfl, rfl⟩

set_option maxHeartbeats 400000 in
theorem map_none (s : St) (t : ByteArray) (w : World) (h : PoolAt w s) (hi : s.has t = false) :
    Calls Try.prog 18 #[.pointer (some ⟨s.pb, 0, none⟩), .string t] w fun e w' => e = .returned (.tuple #[.slice none 0 0, .int .i64 4]) ∧ w' = w := by
  have hf := find_not s t w h hi
  clear h
  go_enter Try.func18, Try.ntmps18
  go_wp2_with (go_at_call 48; refine hf.mono ?_; rintro e w' ⟨rfl, rfl⟩)
  go_ret2
  exact ⟨rfl, rfl⟩
set_option maxHeartbeats 400000 in
theorem map_some (s : St) (t : ByteArray) (w : World) (h : PoolAt w s) (hi : s.has t = true) :
    Calls Try.prog 18 #[.pointer (some ⟨s.pb, 0, none⟩), .string t] w fun e w' => ∃ g cs, e = .returned (.tuple #[.slice (some ⟨g, 0, none⟩) (s.vol t).xs.length (s.vol t).xs.length, .int .i64 0]) ∧ w.heap.size ≤ g ∧ RowAt w' g (s.vol t).xs cs ∧ Same [] w w' := by
  have hf := find_has s t w h hi
  have hn := numbers_calls _ w (h.vols _ (St.has_mem hi).1)
  clear h
  go_enter Try.func18, Try.ntmps18
  go_wp2_with (first | (go_at_call 48; refine hf.mono ?_; rintro e w' ⟨rfl, rfl⟩) | (go_at_call 49; refine hn.mono ?_; rintro e w1 ⟨g, cs, rfl, hg, hR, S1⟩))
  go_ret2
  exact ⟨g, cs, rfl, hg, hR, S1⟩

def zeroVal : Value := Blk.zero.val

set_option maxHeartbeats 400000 in
set_option maxRecDepth 100000 in
theorem read_err (s : St) (t : ByteArray) (k e0 : Int) (w : World) (he : e0 ≠ 0) (hf : ∀ w', Same [] w w' → Calls Try.prog 63 #[.pointer (some ⟨s.pb, 0, none⟩), .string t, .int .i64 k] w' fun e w'' => e = .returned (.tuple #[.pointer none, .int .i64 e0]) ∧ w'' = w') :
    Calls Try.prog 30 #[.pointer (some ⟨s.pb, 0, none⟩), .string t, .int .i64 k] w fun e w' => e = .returned (.tuple #[Blk.zero.val, .int .i64 e0]) ∧ Same [] w w' := by
  have hf' := hf _ ((Same.refl [] w).alloc (Obj.cells #[.int .u8 0, .int .u8 0, .int .u8 0, .int .u8 0, .int .u8 0, .int .u8 0, .int .u8 0, .int .u8 0] 55))
  clear hf
  have he' : (e0 != 0) = true := by simpa using he
  unfold Blk.val Blk.zero
  go_enter Try.func30, Try.ntmps30
  go_wp2_with (go_at_call 63; refine hf'.mono ?_; rintro e w' ⟨rfl, rfl⟩)
  exact bodyPost_ret (v := .tuple #[.agg #[.int .u8 0, .int .u8 0, .int .u8 0, .int .u8 0, .int .u8 0, .int .u8 0, .int .u8 0, .int .u8 0], .int .i64 e0]) (by simp [results, Try.results30, go_sem]) rfl ⟨rfl, (Same.refl _ _).alloc _⟩

set_option maxHeartbeats 400000 in
set_option maxRecDepth 100000 in
theorem read_some (s : St) (t : ByteArray) (k : Nat) (w : World) (h : PoolAt w s) (hi : s.has t = true) (hl : (s.vol t).lost = false) (hk : k < s.size (s.vol t)) (hn : s.holder (s.vol t) k < s.n) :
    Calls Try.prog 30 #[.pointer (some ⟨s.pb, 0, none⟩), .string t, .int .i64 k] w fun e w' => e = .returned (.tuple #[(s.look (s.vol t) k).val, .int .i64 0]) ∧ Same [] w w' := by
  have S0 := (Same.refl [] w).alloc (Obj.cells #[.int .u8 0, .int .u8 0, .int .u8 0, .int .u8 0, .int .u8 0, .int .u8 0, .int .u8 0, .int .u8 0] 55)
  have h1 := h.new S0
  have N0 := At.new w #[.int .u8 0, .int .u8 0, .int .u8 0, .int .u8 0, .int .u8 0, .int .u8 0, .int .u8 0, .int .u8 0] 55
  have hf := findPlace_in s t k _ h1 hi hl hk
  have hH := fun W (hW : Same [] w W) => holder_at (h.new hW) (St.has_mem hi).1 hk
  obtain ⟨cap, hp, _, _⟩ := h.pool
  have c1 := hp.cell? 1
  simp only [List.getElem?_cons_succ, List.getElem?_cons_zero, ptr] at c1
  have lp := hp.lt
  have hR := fun W (hW : Same [] w W) => diskRead_calls s.db s.bb s.n (s.holder (s.vol t) k) _ _ _ s.bl W _ _ rfl rfl (h.new hW).disk.disk (h.new hW).disk.data h.disk.len hn (by have := h.disk.small; omega)
  unfold St.look
  generalize s.holder (s.vol t) k = yy at *
  generalize s.bl[yy]! = y at *
  have HS0 : Hid (Same [] w (w.alloc (Obj.cells #[.int .u8 0, .int .u8 0, .int .u8 0, .int .u8 0, .int .u8 0, .int .u8 0, .int .u8 0, .int .u8 0] 55))) := S0
  have HN : Hid (At (w.alloc (Obj.cells #[.int .u8 0, .int .u8 0, .int .u8 0, .int .u8 0, .int .u8 0, .int .u8 0, .int .u8 0, .int .u8 0] 55)) w.heap.size 55 [.int .u8 0, .int .u8 0, .int .u8 0, .int .u8 0, .int .u8 0, .int .u8 0, .int .u8 0, .int .u8 0]) := N0
  clear h h1 hp S0 N0
  go_enter Try.func30, Try.ntmps30
  go_wp2_with (go_at_call 63; refine hf.mono ?_; rintro e w' ⟨rfl, rfl⟩)
  unfold Blk.val at *
  obtain ⟨x0, x1, x2, x3, x4, x5, x6, x7⟩ := y
  go_region_with (first | (go_at_call 64; refine (hH _ (HS0.out.drew)).mono ?_; rintro e w' ⟨rfl, rfl⟩) | (go_at_call 40; refine (hR _ (HS0.out.drew)).mono ?_; rintro e w2 ⟨rfl, S2⟩; have z0 : w2.cell? ⟨w.heap.size, 0, none⟩ = some (.int .u8 0) := (S2.at HN.out.drew (by simp)).cell? 0; have z1 : w2.cell? ⟨w.heap.size, 1, none⟩ = some (.int .u8 0) := (S2.at HN.out.drew (by simp)).cell? 1; have z2 : w2.cell? ⟨w.heap.size, 2, none⟩ = some (.int .u8 0) := (S2.at HN.out.drew (by simp)).cell? 2; have z3 : w2.cell? ⟨w.heap.size, 3, none⟩ = some (.int .u8 0) := (S2.at HN.out.drew (by simp)).cell? 3; have z4 : w2.cell? ⟨w.heap.size, 4, none⟩ = some (.int .u8 0) := (S2.at HN.out.drew (by simp)).cell? 4; have z5 : w2.cell? ⟨w.heap.size, 5, none⟩ = some (.int .u8 0) := (S2.at HN.out.drew (by simp)).cell? 5; have z6 : w2.cell? ⟨w.heap.size, 6, none⟩ = some (.int .u8 0) := (S2.at HN.out.drew (by simp)).cell? 6; have z7 : w2.cell? ⟨w.heap.size, 7, none⟩ = some (.int .u8 0) := (S2.at HN.out.drew (by simp)).cell? 7; have fz := (S2.at HN.out.drew (by simp)).frozen; have SA : Same [] w w2 := HS0.out.drew.step S2 (by simp)))
  all_goals
    clear hf hH hR c1 HN HS0
    go_wp2
    refine bodyPost_ret (v := .tuple #[.agg #[.int .u8 x0, .int .u8 x1, .int .u8 x2, .int .u8 x3, .int .u8 x4, .int .u8 x5, .int .u8 x6, .int .u8 x7], .int .i64 0]) (by simp [results, Try.results30, go_sem, z0, z1, z2, z3, z4, z5, z6, z7]) rfl ⟨rfl, ?_⟩
    exact ((((((((SA.set w.heap.size _ _ (by simp)).set w.heap.size _ _ (by simp)).set w.heap.size _ _ (by simp)).set w.heap.size _ _ (by simp)).set w.heap.size _ _ (by simp)).set w.heap.size _ _ (by simp)).set w.heap.size _ _ (by simp)).set w.heap.size _ _ (by simp))
end Go.Proofs.Ytpddgdjocffgdaa
