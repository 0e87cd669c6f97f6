/- Pictures: keptIn, holder, by contracts. -/
import Derived.Test.YtpddgdjocffgdaaVolB
namespace Go.Proofs.Ytpddgdjocffgdaa
open Go.RowKit Go.Sort
set_option linter.unusedVariables false
set_option linter.unusedSimpArgs false
set_option linter.unusedSectionVars false
variable [DecidableEq Blk] [Inhabited Blk]
variable [Inhabited Vol]

theorem idxOf_at : ∀ (l : List Nat) (j k : Nat), j < l.length → l[j]! = k → k ∉ l.take j → l.idxOf k = j
  | [], j, k, h, _, _ => by simp at h
  | a :: r, 0, k, _, e, _ => by simp at e; simp [e]
  | a :: r, j + 1, k, h, e, hn => by
    simp only [List.take_succ_cons, List.mem_cons, not_or] at hn
    have := idxOf_at r j k (by simpa using h) (by simpa using e) hn.2
    rw [List.idxOf_cons, this]
    have : (a == k) = false := beq_eq_false_iff_ne.2 (fun e => hn.1 e.symm)
    simp [this]
theorem idxOf_lt {l : List Nat} {k : Nat} (h : k ∈ l) : l.idxOf k < l.length := List.idxOf_lt_length_of_mem h
theorem idxOf_get {l : List Nat} {k : Nat} (h : k ∈ l) : l[l.idxOf k]! = k := by
  rw [getElem!_pos l _ (idxOf_lt h)]; exact List.getElem_idxOf (idxOf_lt h)

/-- Where a number stands in a list: -1 if it does not. -/
def placeOf (l : List Nat) (k : Nat) : Int := if k ∈ l then ((l.idxOf k : Nat) : Int) else -1

set_option maxHeartbeats 1000000 in
set_option maxRecDepth 100000 in
theorem index_nums (l : List Nat) (og : Option Nat) (cap k : Nat) (w : World) (s : Value) (hs : s = .slice (adr og) l.length cap) (hk1 : og = none → l = [] ∧ cap = 0) (hk2 : ∀ g, og = some g → NumsAt w g cap l) (hl : l.length ≤ 200) :
    Calls Try.prog 118 #[s, .int .i64 k] w fun e w' => e = .returned (.int .i64 (placeOf l k)) ∧ w' = w := by
  subst hs
  generalize hres : placeOf l k = res at *
  have HRES : Hid (placeOf l k = res) := hres
  clear hres
  go_enter Try.func118, Try.ntmps118
  go_wp2
  go_loopw [8] (fun i wr => ∃ j : Nat, j ≤ l.length ∧ i = .int .i64 j ∧ wr = w ∧ Hid (k ∉ l.take j)) (fun i _ => l.length - (intOf i).toNat)
  case atStart => exact ⟨0, Nat.zero_le _, rfl, rfl, by show _ ∉ _; simp⟩
  case round =>
    obtain ⟨j, hj, rfl, rfl, HJ⟩ := hrel
    by_cases hjl : j < l.length
    · obtain ⟨g, hg⟩ : ∃ g, og = some g := by
        cases hgk : og with
        | none => rw [(hk1 hgk).1] at hjl; simp at hjl
        | some g => exact ⟨g, rfl⟩
      have cj := (hk2 g hg).cell j hjl
      subst hg
      simp only [adr, Option.map_some]
      have HTJ : Hid (l.take (j + 1) = l.take j ++ [l[j]!]) := by show _ = _; rw [List.take_succ_eq_append_getElem hjl, getElem!_pos l j hjl]
      have HMJ : Hid (l[j]! ∈ l) := by show _ ∈ _; rw [getElem!_pos l j hjl]; exact List.getElem_mem hjl
      have HI : Hid (l[j]! = k → l.idxOf k = j) := fun e => idxOf_at l j k hjl e HJ.out
      generalize l[j]! = y at *
      have l2 : (j : Int) < (l.length : Int) := by omega
      clear hk1 hk2
      by_cases hy : y = k
      · subst hy
        have HF : Hid (res = (j : Int)) := by show _ = _; rw [← HRES.out, placeOf, if_pos HMJ.out, HI.out rfl]
        go_wp2
        go_ret
        rw [HF.out]
        exact ⟨rfl, rfl⟩
      · have hy' : ((k : Int) == (y : Int)) = false := beq_eq_false_iff_ne.2 (by omega)
        go_wp2
        go_roundw
        case rel => exact ⟨j + 1, by omega, by go_num, by first | rfl | trivial, by show _ ∉ _; rw [HTJ.out]; simp [HJ.out]; exact fun e => hy e.symm⟩
        case measure => simp [intOf]; omega
    · have ej : j = l.length := by omega
      have HF : Hid (res = -1) := by
        show _ = _
        have := HJ.out
        rw [ej, List.take_length] at this
        rw [← HRES.out, placeOf, if_neg this]
      subst ej
      clear HJ hk1 hk2
      go_wp2
      go_ret
      rw [HF.out]
      exact ⟨rfl, rfl⟩

set_option maxHeartbeats 400000 in
theorem keptIn_not (v : Vol) (k : Nat) (w : World) (h : VolAt w v) (hk : k ∉ v.kept) :
    Calls Try.prog 99 #[.pointer (some ⟨v.vb, 0, none⟩), .int .i64 k] w fun e w' => e = .returned (.tuple #[.int .i64 0, .bool false]) ∧ w' = w := by
  obtain ⟨cap, kcap, hcap, hv, hk1, hk2⟩ := h.vol
  have hX := fun s hs => index_nums v.kept v.kg kcap k w s hs hk1 hk2 (by have := h.small; have := h.room; omega)
  rw [placeOf, if_neg hk] at hX
  have c3 : w.cell? ⟨v.vb, 3, none⟩ = some (.slice (adr v.kg) v.kept.length kcap) := hv.cell? 3
  clear h hv hk1 hk2
  go_enter Try.func99, Try.ntmps99
  go_wp2_with (go_at_call 118; refine (hX _ rfl).mono ?_; rintro e w' ⟨rfl, rfl⟩)
  go_ret2
  exact ⟨rfl, rfl⟩
set_option maxHeartbeats 400000 in
theorem keptIn_has (v : Vol) (k : Nat) (w : World) (h : VolAt w v) (hk : k ∈ v.kept) :
    Calls Try.prog 99 #[.pointer (some ⟨v.vb, 0, none⟩), .int .i64 k] w fun e w' => e = .returned (.tuple #[.int .i64 (v.xs[v.kept.idxOf k]! : Nat), .bool true]) ∧ w' = w := by
  obtain ⟨cap, kcap, hcap, hv, hk1, hk2⟩ := h.vol
  have hX := fun s hs => index_nums v.kept v.kg kcap k w s hs hk1 hk2 (by have := h.small; have := h.room; omega)
  rw [placeOf, if_pos hk] at hX
  have c3 : w.cell? ⟨v.vb, 3, none⟩ = some (.slice (adr v.kg) v.kept.length kcap) := hv.cell? 3
  have c1 : w.cell? ⟨v.vb, 1, none⟩ = some (.slice (some ⟨v.gb, 0, none⟩) v.xs.length cap) := hv.cell? 1
  obtain ⟨cs, hr⟩ := h.row
  have hlt : v.kept.idxOf k < v.xs.length := Nat.lt_of_lt_of_le (idxOf_lt hk) h.room
  have cx : w.cell? ⟨v.gb, v.kept.idxOf k, none⟩ = some (.int .i64 (v.xs[v.kept.idxOf k]! : Nat)) := by rw [hr.at_.cell?]; exact hr.cell _ hlt
  have hs := h.small
  clear h hv hk1 hk2 hr
  generalize v.xs[v.kept.idxOf k]! = y at *
  generalize v.kept.idxOf k = i at *
  have l1 : (i : Int) < (v.xs.length : Int) := by omega
  have l2 : ¬ ((i : Int) < 0) := by omega
  go_enter Try.func99, Try.ntmps99
  go_wp2_with (go_at_call 118; refine (hX _ rfl).mono ?_; rintro e w' ⟨rfl, rfl⟩)
  go_ret2
  exact ⟨rfl, rfl⟩

set_option maxHeartbeats 400000 in
theorem holder_vol (v : Vol) (k : Nat) (w : World) (h : VolAt w v) (ho : v.org = none) (hk : k < v.xs.length) :
    Calls Try.prog 64 #[.pointer (some ⟨v.vb, 0, none⟩), .int .i64 k] w fun e w' => e = .returned (.int .i64 (v.xs[k]! : Nat)) ∧ w' = w := by
  have hI := isPicture_calls v w h
  rw [ho] at hI
  obtain ⟨cap, kcap, hcap, hv, hk1, hk2⟩ := h.vol
  have c1 : w.cell? ⟨v.vb, 1, none⟩ = some (.slice (some ⟨v.gb, 0, none⟩) v.xs.length cap) := hv.cell? 1
  obtain ⟨cs, hr⟩ := h.row
  have cx : w.cell? ⟨v.gb, k, none⟩ = some (.int .i64 (v.xs[k]! : Nat)) := by rw [hr.at_.cell?]; exact hr.cell _ hk
  have hs := h.small
  have hnot : ∀ (x : Bool) (w : World), (Op.unary .not (.bool x)).run Try.prog w = .ok (.bool (!x)) w := fun _ _ => rfl
  clear h hv hk1 hk2 hr
  generalize v.xs[k]! = y at *
  have l1 : (k : Int) < (v.xs.length : Int) := by omega
  go_enter Try.func64, Try.ntmps64
  go_wp2_with (go_at_call 56; refine hI.mono ?_; rintro e w' ⟨rfl, rfl⟩)
  go_ret
  exact ⟨rfl, rfl⟩
set_option maxHeartbeats 400000 in
theorem holder_kept (v : Vol) (k : Nat) (w : World) (h : VolAt w v) (ho : v.org ≠ none) (hk : k ∈ v.kept) :
    Calls Try.prog 64 #[.pointer (some ⟨v.vb, 0, none⟩), .int .i64 k] w fun e w' => e = .returned (.int .i64 (v.xs[v.kept.idxOf k]! : Nat)) ∧ w' = w := by
  have hI := isPicture_calls v w h
  have ho' : v.org.isSome = true := by cases hq : v.org <;> simp_all
  rw [ho'] at hI
  have hK := keptIn_has v k w h hk
  have hnot : ∀ (x : Bool) (w : World), (Op.unary .not (.bool x)).run Try.prog w = .ok (.bool (!x)) w := fun _ _ => rfl
  clear h
  generalize v.xs[v.kept.idxOf k]! = y at *
  go_enter Try.func64, Try.ntmps64
  go_wp2_with (first | (go_at_call 56; refine hI.mono ?_; rintro e w' ⟨rfl, rfl⟩) | (go_at_call 99; refine hK.mono ?_; rintro e w' ⟨rfl, rfl⟩))
  go_ret
  exact ⟨rfl, rfl⟩
set_option maxHeartbeats 400000 in
theorem holder_through (v u : Vol) (k : Nat) (w : World) (h : VolAt w v) (hu : VolAt w u) (ho : v.org = some u.vb) (hu0 : u.org = none) (hk : k ∉ v.kept) (hku : k < u.xs.length) :
    Calls Try.prog 64 #[.pointer (some ⟨v.vb, 0, none⟩), .int .i64 k] w fun e w' => e = .returned (.int .i64 (u.xs[k]! : Nat)) ∧ w' = w := by
  have hI := isPicture_calls v w h
  rw [ho] at hI
  have hK := keptIn_not v k w h hk
  have hH := holder_vol u k w hu hu0 hku
  obtain ⟨cap, kcap, hcap, hv, hk1, hk2⟩ := h.vol
  have c2 : w.cell? ⟨v.vb, 2, none⟩ = some (.pointer (adr v.org)) := hv.cell? 2
  rw [ho] at c2
  simp only [adr, Option.map_some] at c2
  have hnot : ∀ (x : Bool) (w : World), (Op.unary .not (.bool x)).run Try.prog w = .ok (.bool (!x)) w := fun _ _ => rfl
  clear h hv hk1 hk2 hu
  generalize u.xs[k]! = y at *
  go_enter Try.func64, Try.ntmps64
  go_wp2_with (first | (go_at_call 56; refine hI.mono ?_; rintro e w' ⟨rfl, rfl⟩) | (go_at_call 99; refine hK.mono ?_; rintro e w' ⟨rfl, rfl⟩) | (go_at_call 64; refine hH.mono ?_; rintro e w' ⟨rfl, rfl⟩))
  go_ret
  exact ⟨rfl, rfl⟩
end Go.Proofs.Ytpddgdjocffgdaa
