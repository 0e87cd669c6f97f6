/- The disk: Give, by a contract. -/
import Derived.Test.YtpddgdjocffgdaaDiskA
namespace Go.Proofs.Ytpddgdjocffgdaa
open Go.RowKit Go.Sort
set_option linter.unusedVariables false
set_option linter.unusedSimpArgs false
set_option linter.unusedSectionVars false
variable [DecidableEq Blk] [Inhabited Blk]

/-- A disk in memory: its struct, its blocks, the row of its heap (of which the first m are the heap). -/
structure DiskAt (w : World) (db bb fb n m : Nat) (bl : List Blk) (d : Array Int) : Prop where
  disk : At w db 137 [.slice (some ⟨bb, 0, none⟩) n n, .slice (some ⟨fb, 0, none⟩) m n]
  data : At w bb 55 (flat bl)
  free : At w fb 3 (d.toList.map (Value.int .i64))
  ne1 : db ≠ bb
  ne2 : db ≠ fb
  ne3 : bb ≠ fb
  len : bl.length = n
  size : d.size = n
  le : m ≤ n
  small : n ≤ 200

theorem DiskAt.same {w w' : World} {db bb fb n m : Nat} {bl : List Blk} {d : Array Int} (h : DiskAt w db bb fb n m bl d) {S : List Nat} (hs : Same S w w') (h1 : db ∉ S) (h2 : bb ∉ S) (h3 : fb ∉ S) : DiskAt w' db bb fb n m bl d :=
  ⟨hs.at h.disk h1, hs.at h.data h2, hs.at h.free h3, h.ne1, h.ne2, h.ne3, h.len, h.size, h.le, h.small⟩

def giveB (xs : List Nat) (bl : List Blk) : List Blk := xs.foldl (fun l k => l.set k Blk.zero) bl
def giveD (m : Nat) : List Nat → Array Int → Array Int
  | [], d => d
  | k :: r, d => giveD (m + 1) r (pushD m k d)
theorem giveD_append (xs : List Nat) : ∀ (m k : Nat) (d : Array Int), giveD m (xs ++ [k]) d = pushD (m + xs.length) k (giveD m xs d) := by
  induction xs with
  | nil => intro m k d; rfl
  | cons x r ih => intro m k d; simp only [List.cons_append, giveD, ih, List.length_cons]; rw [show m + 1 + r.length = m + (r.length + 1) by omega]
theorem giveB_append (xs : List Nat) (k : Nat) (bl : List Blk) : giveB (xs ++ [k]) bl = (giveB xs bl).set k Blk.zero := by simp [giveB]
theorem giveB_length (xs : List Nat) : ∀ (bl : List Blk), (giveB xs bl).length = bl.length := by
  induction xs with
  | nil => intro bl; rfl
  | cons x r ih => intro bl; simp only [giveB, List.foldl_cons] at *; rw [ih]; simp

set_option maxHeartbeats 1000000 in
set_option maxRecDepth 100000 in
theorem wipe_calls (db bb fb n m sb so cap : Nat) (bl : List Blk) (d : Array Int) (xs : List Nat) (a : Option Addr) (t : TypeId) (cs : List Value) (w : World) (s u : Value) (hs : s = .pointer (some ⟨db, 0, none⟩)) (hu : u = .slice a xs.length cap)
    (hD : DiskAt w db bb fb n m bl d) (hx : xs ≠ [] → a = some ⟨sb, so, none⟩ ∧ At w sb t cs ∧ sb ≠ bb) (hc : ∀ j, j < xs.length → cs[so + j]? = some (.int .i64 (xs[j]! : Nat))) (hlt : ∀ x ∈ xs, x < n) (hm : xs.length ≤ 1000) :
    Calls Try.prog 94 #[s, u] w fun e w' => e = .returned (.tuple #[]) ∧ DiskAt w' db bb fb n m (giveB xs bl) d ∧ Same [bb] w w' := by
  subst hs hu
  have hn := hD.small
  go_enter Try.func94, Try.ntmps94
  go_wp2
  go_loopw [8] (fun i wr => ∃ k : Nat, k ≤ xs.length ∧ i = .int .i64 k ∧ DiskAt wr db bb fb n m (giveB (xs.take k) bl) d ∧ Same [bb] w wr)
    (fun i _ => xs.length - (intOf i).toNat)
  case atStart => exact ⟨0, Nat.zero_le _, rfl, hD, Same.refl _ _⟩
  case round =>
    obtain ⟨k, hk, rfl, hDk, hS⟩ := hrel
    by_cases hkl : k < xs.length
    · obtain ⟨rfl, hA, hn1⟩ := hx (fun e => by rw [e] at hkl; simp at hkl)
      have hAk := hS.at hA (by simpa using hn1)
      obtain ⟨y, hy⟩ : ∃ y, xs[k]! = y := ⟨_, rfl⟩
      have cy : wr.cell? ⟨sb, so + k, none⟩ = some (.int .i64 (y : Nat)) := by rw [hAk.cell?, hc k hkl, hy]
      have hyn : y < n := hlt y (by rw [← hy, getElem!_pos xs k hkl]; exact List.getElem_mem hkl)
      obtain ⟨B, hB⟩ : ∃ B, giveB (xs.take k) bl = B := ⟨_, rfl⟩
      rw [hB] at hDk
      have hBl : B.length = n := hDk.len
      obtain ⟨c0, c1, c2, c3, c4, c5, c6, c7⟩ := hDk.data.eight y (by omega)
      have d0 : wr.cell? ⟨db, 0, none⟩ = some (.slice (some ⟨bb, 0, none⟩) n n) := hDk.disk.cell? 0
      have fz := hDk.data.frozen
      have HX : Hid (xs[k]! = y ∧ giveB (xs.take k) bl = B) := ⟨hy, hB⟩
      have l1 : (y : Int) < (n : Int) := by omega
      have l2 : (k : Int) < (xs.length : Int) := by omega
      obtain ⟨E1, E2⟩ := hDk.data.set8 y (by omega) 0 0 0 0 0 0 0 0
      have G0 := E2.at hDk.disk (by simp [hDk.ne1])
      have G2 := E2.at hDk.free (by simp [hDk.ne3.symm])
      have mk : ∀ W, At W db 137 [.slice (some ⟨bb, 0, none⟩) n n, .slice (some ⟨fb, 0, none⟩) m n] → At W bb 55 (flat (B.set y ⟨0, 0, 0, 0, 0, 0, 0, 0⟩)) → At W fb 3 (d.toList.map (Value.int .i64)) → DiskAt W db bb fb n m (giveB (xs.take (k + 1)) bl) d := by
        intro W g0 e1 g2
        have e1' : xs.take (k + 1) = xs.take k ++ [y] := by rw [List.take_succ_eq_append_getElem hkl, ← HX.out.1, getElem!_pos xs k hkl]
        rw [e1', giveB_append, HX.out.2]
        exact ⟨g0, e1, g2, hDk.ne1, hDk.ne2, hDk.ne3, by simp [hDk.len], hDk.size, hDk.le, hDk.small⟩
      have D1 := mk _ G0 E1 G2
      clear mk
      have S1 := hS.step E2 (by simp)
      clear hy hB hx hA hAk E1 E2 G0 G2 hDk hS
      go_wp2
      go_roundw
      case rel => exact ⟨k + 1, by omega, by go_num, D1, S1⟩
      case measure => simp [intOf]; omega
    · go_wp2
      refine bodyPost_end (results_none rfl _ _ _) rfl ⟨rfl, ?_, hS⟩
      have ek : k = xs.length := by omega
      rw [ek, List.take_length] at hDk
      exact hDk

set_option maxHeartbeats 1000000 in
set_option maxRecDepth 100000 in
theorem give_calls (db bb fb n m sb so cap : Nat) (bl : List Blk) (d : Array Int) (xs : List Nat) (a : Option Addr) (t : TypeId) (cs : List Value) (w : World) (s u : Value) (hs : s = .pointer (some ⟨db, 0, none⟩)) (hu : u = .slice a xs.length cap)
    (hD : DiskAt w db bb fb n m bl d) (hx : xs ≠ [] → a = some ⟨sb, so, none⟩ ∧ At w sb t cs ∧ sb ∉ [db, bb, fb]) (hc : ∀ j, j < xs.length → cs[so + j]? = some (.int .i64 (xs[j]! : Nat))) (hlt : ∀ x ∈ xs, x < n) (hm : m + xs.length ≤ n) :
    Calls Try.prog 58 #[s, u] w fun e w' => e = .returned (.tuple #[]) ∧ DiskAt w' db bb fb n (m + xs.length) (giveB xs bl) (giveD m xs d) ∧ Same [db, bb, fb] w w' := by
  subst hs hu
  have hn := hD.small
  have hW := wipe_calls db bb fb n m sb so cap bl d xs a t cs w _ _ rfl rfl hD (fun h => ⟨(hx h).1, (hx h).2.1, fun e => (hx h).2.2 (by simp [e])⟩) hc hlt (by omega)
  have hx1 : ∀ w1, Same [bb] w w1 → xs ≠ [] → a = some ⟨sb, so, none⟩ ∧ At w1 sb t cs ∧ sb ∉ [db, bb, fb] := fun w1 h1 h => ⟨(hx h).1, h1.at (hx h).2.1 (fun e => (hx h).2.2 (by simp at e; simp [e])), (hx h).2.2⟩
  clear hD hx
  go_enter Try.func58, Try.ntmps58
  go_wp2_with (go_at_call 94; refine hW.mono ?_; rintro e w1 ⟨rfl, hD, S0⟩)
  have hx := hx1 w1 S0
  clear hx1 hW
  go_loopw [11] (fun i wr => ∃ k : Nat, k ≤ xs.length ∧ i = .int .i64 k ∧ DiskAt wr db bb fb n (m + k) (giveB xs bl) (giveD m (xs.take k) d) ∧ Same [db, bb, fb] w1 wr)
    (fun i _ => xs.length - (intOf i).toNat)
  case atStart => exact ⟨0, Nat.zero_le _, rfl, hD, Same.refl _ _⟩
  case round =>
    obtain ⟨k, hk, rfl, hDk, hS⟩ := hrel
    by_cases hkl : k < xs.length
    · obtain ⟨rfl, hA, hn1⟩ := hx (fun e => by rw [e] at hkl; simp at hkl)
      have hAk := hS.at hA hn1
      obtain ⟨y, hy⟩ : ∃ y, xs[k]! = y := ⟨_, rfl⟩
      have cy : wr.cell? ⟨sb, so + k, none⟩ = some (.int .i64 (y : Nat)) := by rw [hAk.cell?, hc k hkl, hy]
      have hyn : y < n := hlt y (by rw [← hy, getElem!_pos xs k hkl]; exact List.getElem_mem hkl)
      obtain ⟨D, hD'⟩ : ∃ D, giveD m (xs.take k) d = D := ⟨_, rfl⟩
      rw [hD'] at hDk
      have HX : Hid (xs[k]! = y ∧ giveD m (xs.take k) d = D) := ⟨hy, hD'⟩
      have l1 : (y : Int) < (n : Int) := by omega
      have l2 : (k : Int) < (xs.length : Int) := by omega
      clear hy hD' hx hA hAk
      go_wp2_with fail
      refine (push_calls db fb (m + k) n y _ _ _ D wr hDk.disk hDk.ne2 hDk.free hDk.size (by omega) (by omega)).mono ?_
      rintro e w2 ⟨rfl, P0, P1, P2⟩
      have D1 : DiskAt w2 db bb fb n (m + (k + 1)) (giveB xs bl) (giveD m (xs.take (k + 1)) d) := by
        have e1 : xs.take (k + 1) = xs.take k ++ [y] := by rw [List.take_succ_eq_append_getElem hkl, ← HX.out.1, getElem!_pos xs k hkl]
        rw [e1, giveD_append, HX.out.2, List.length_take, Nat.min_eq_left (by omega)]
        exact ⟨P0, P2.at hDk.data (by simp [hDk.ne1.symm, hDk.ne3]), P1, hDk.ne1, hDk.ne2, hDk.ne3, hDk.len, by rw [pushD_size]; exact hDk.size, by omega, hDk.small⟩
      have S1 : Same [db, bb, fb] w1 w2 := hS.step P2 (by simp)
      clear P0 P1 P2 hDk hS cy
      go_wp2
      go_roundw
      case rel => exact ⟨k + 1, by omega, by go_num, D1, S1⟩
      case measure => simp [intOf]; omega
    · go_wp2
      refine bodyPost_end (results_none rfl _ _ _) rfl ⟨rfl, ?_, (S0.mono (T := [db, bb, fb]) (by simp)).step hS (by simp)⟩
      have ek : k = xs.length := by omega
      rw [ek, List.take_length] at hDk
      exact hDk
end Go.Proofs.Ytpddgdjocffgdaa
