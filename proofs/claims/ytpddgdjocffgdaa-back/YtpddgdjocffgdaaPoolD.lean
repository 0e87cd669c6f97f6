/- A Pool: List, by a contract. -/
import Derived.Test.YtpddgdjocffgdaaPoolB
import Derived.Test.YtpddgdjocffgdaaVolC
import Derived.Test.YtpddgdjocffgdaaVolD
namespace Go.Proofs.Ytpddgdjocffgdaa
open Go.RowKit Go.Sort
set_option linter.unusedVariables false
set_option linter.unusedSimpArgs false
set_option linter.unusedSectionVars false
variable [DecidableEq Blk] [Inhabited Blk]
variable [Inhabited Vol]

/-- What List tells of one. -/
def St.told (s : St) (v : Vol) : List Value :=
  match v.org with
  | none => [.string v.name, .int .i64 v.xs.length, .string ⟨#[]⟩, .int .i64 0, .int .i64 0, .bool false]
  | some _ => [.string v.name, .int .i64 (s.size v), .string (s.orgOf v).name, .int .i64 v.xs.length, .int .i64 v.kept.length, .bool v.lost]
theorem St.told_length (s : St) (v : Vol) : (s.told v).length = 6 := by unfold St.told; split <;> rfl
theorem St.told_one (s : St) (v : Vol) : ∀ u ∈ s.told v, u.oneCell' = true := by
  intro u hu
  unfold St.told at hu
  split at hu
  all_goals
    simp only [List.mem_cons, List.not_mem_nil, or_false] at hu
    rcases hu with rfl | rfl | rfl | rfl | rfl | rfl <;> rfl
theorem told_at {s : St} {w : World} (h : PoolAt w s) {v : Vol} (hv : v ∈ s.vols) :
    Calls Try.prog 67 #[.pointer (some ⟨v.vb, 0, none⟩)] w fun e w' => e = .returned (.agg (s.told v).toArray) ∧ Same [] w w' := by
  obtain ⟨h1, h2, h3, h4⟩ := h.orgOf hv
  cases ho : v.org with
  | none =>
    have e : s.told v = [.string v.name, .int .i64 v.xs.length, .string ⟨#[]⟩, .int .i64 0, .int .i64 0, .bool false] := by unfold St.told; rw [ho]
    rw [e]
    exact told_vol v w (h.vols v hv) ho
  | some b =>
    have e : s.told v = [.string v.name, .int .i64 (s.size v), .string (s.orgOf v).name, .int .i64 v.xs.length, .int .i64 v.kept.length, .bool v.lost] := by unfold St.told; rw [ho]
    rw [e]
    exact told_pic v (s.orgOf v) w (h.vols v hv) (h.vols _ h1) (h4 (by rw [ho]; simp)) h2
def St.toldAll (s : St) : List Vol → List Value
  | [] => []
  | v :: r => s.told v ++ s.toldAll r
theorem toldAll_append (s : St) (a b : List Vol) : s.toldAll (a ++ b) = s.toldAll a ++ s.toldAll b := by
  induction a with
  | nil => rfl
  | cons v r ih => simp [St.toldAll, ih]
theorem toldAll_length (s : St) (a : List Vol) : (s.toldAll a).length = a.length * 6 := by
  induction a with
  | nil => rfl
  | cons v r ih => simp [St.toldAll, ih, St.told_length]; omega

theorem owns_le {w : World} {base : Nat} {e : TypeId} {size : Nat} {a : Option Addr} {cap n : Nat} {xs : List Value} (h : w.ownsRow base e size (.slice a n cap) n xs) : n ≤ cap := by
  rcases h.2 with ⟨h1, rfl⟩ | ⟨g, cap', cur, h1, h2, h3, h4, h5⟩
  · omega
  · simp only [Value.slice.injEq] at h1; omega
theorem owns_atN {w : World} {base : Nat} {e : TypeId} {size : Nat} {a : Option Addr} {cap n : Nat} {xs : List Value} (h : w.ownsRow base e size (.slice a n cap) n xs) (hn : n ≠ 0) :
    ∃ g cs, a = some ⟨g, 0, none⟩ ∧ base ≤ g ∧ At w g e cs ∧ cs.length = cap * size ∧ cs.take (n * size) = xs := by
  rcases h.2 with ⟨h1, rfl⟩ | ⟨g, cap', cur, h1, h2, h3, h4, h5, h6, h7⟩
  · exact absurd rfl hn
  · simp only [Value.slice.injEq] at h1
    obtain ⟨rfl, _, rfl⟩ := h1
    refine ⟨g, cur.toList, rfl, h2, ?_, by simpa using h6, by simpa using h7⟩
    unfold At
    simpa using h3

theorem Try.info57 : (Try.prog.info? 70).map (fun i => (i.zero, i.size, i.bytes)) = some (some (.agg #[.string ⟨#[]⟩, .int .i64 0, .string ⟨#[]⟩, .int .i64 0, .int .i64 0, .bool false]), 6, 64) := by kernel_rfl

set_option maxHeartbeats 1000000 in
set_option maxRecDepth 100000 in
theorem list_calls (s : St) (w : World) (h : PoolAt w s) :
    Calls Try.prog 31 #[.pointer (some ⟨s.pb, 0, none⟩)] w fun e w' => ∃ a, e = .returned (.slice a s.vols.length s.vols.length) ∧ Same [] w w' ∧
      (s.vols ≠ [] → ∃ g cs, a = some ⟨g, 0, none⟩ ∧ w.heap.size ≤ g ∧ At w' g 70 cs ∧ cs.take (s.vols.length * 6) = s.toldAll s.vols) := by
  have hm := made_calls s w h
  unfold ptr at hm
  obtain ⟨cap, hp, _, _⟩ := h.pool
  have c2 : w.cell? ⟨s.pb, 2, none⟩ = some (.slice (s.ab.map fun b => ⟨b, 0, none⟩) s.vols.length cap) := hp.cell? 2
  have hnot : ∀ (x : Bool) (w : World), (Op.unary .not (.bool x)).run Try.prog w = .ok (.bool (!x)) w := fun _ _ => rfl
  have hfew := h.few
  clear hp
  obtain ⟨i0, hi, hz0, hz1, hz2⟩ := info_parts Try.info57
  go_enter Try.func31, Try.ntmps31
  go_wp2_with (go_at_call 36; refine hm.mono ?_; rintro e w' ⟨rfl, rfl⟩)
  rename_i w0
  go_loopw [3, 14] (fun v i wr => ∃ k : Nat, k ≤ s.vols.length ∧ i = .int .i64 k ∧ Same [] w' wr ∧ wr.ownsRow w'.heap.size 70 6 v k (s.toldAll (s.vols.take k)))
    (fun _ i _ => s.vols.length - (intOf i).toNat)
  case atStart => exact ⟨0, Nat.zero_le _, rfl, Same.refl _ _, World.ownsRow_nil _ _ _ _⟩
  case round =>
    obtain ⟨k, hk, rfl, hS, hown⟩ := hrel
    obtain ⟨a, cp, rfl⟩ := owns_form hown
    by_cases hkl : k < s.vols.length
    · obtain ⟨b, hb, e1, e2⟩ := (h.new hS).cell k hkl
      have hvm : s.vols[k]! ∈ s.vols := by rw [getElem!_pos s.vols k hkl]; exact List.getElem_mem hkl
      have hT := told_at (h.new hS) hvm
      have hb' : (s.ab.map fun b => (⟨b, 0, none⟩ : Addr)) = some ⟨b, 0, none⟩ := by rw [hb]; rfl
      have HV : Hid (s.vols.take (k + 1) = s.vols.take k ++ [s.vols[k]!]) := by show _ = _; rw [List.take_succ_eq_append_getElem hkl, getElem!_pos s.vols k hkl]
      generalize s.vols[k]! = vv at *
      obtain ⟨y0, y1, y2, y3, y4, y5, hy, o0, o1, o2, o3, o4, o5⟩ : ∃ y0 y1 y2 y3 y4 y5 : Value, s.told vv = [y0, y1, y2, y3, y4, y5] ∧ y0.oneCell' = true ∧ y1.oneCell' = true ∧ y2.oneCell' = true ∧ y3.oneCell' = true ∧ y4.oneCell' = true ∧ y5.oneCell' = true := by
        have ho := s.told_one vv
        unfold St.told at ho ⊢
        split
        all_goals exact ⟨_, _, _, _, _, _, rfl, rfl, rfl, rfl, rfl, rfl, rfl⟩
      rw [hy] at hT
      have HY : Hid (s.told vv = [y0, y1, y2, y3, y4, y5]) := hy
      clear hy
      rw [hb']
      have l2 : (k : Int) < (s.vols.length : Int) := by omega
      clear h c2 hm hb'
      go_wp2_with fail
      refine hT.mono ?_
      rintro e w1 ⟨rfl, S1⟩
      have hown1 := owns_same hown S1 (by simp)
      have hS1 := hS.step S1 (by simp)
      have hsz := hS1.size
      clear hown hS hT e1 e2
      go_wp2_with (at_builtin; refine wpList_append_own _ rfl _ _ 67 rfl w'.heap.size 70 i0 (.agg #[.string ⟨#[]⟩, .int .i64 0, .string ⟨#[]⟩, .int .i64 0, .int .i64 0, .bool false]) 6 64 Try.underlying67 hi hz0 hz1 hz2 rfl (by decide) _ _ _ rfl (hown1.alloc _) ⟨w1.heap.size, 0, none⟩ 1 1 [y0, y1, y2, y3, y4, y5] rfl rfl ?c1 ?c2 ?c3 ?c4 ?c5 ?_)
      case c1 =>
        intro j u hj
        rw [Addr.add_lit, Nat.zero_add, World.cell?_alloc_at _ _ _ _ rfl, ← hj]
        simp
      case c2 => intro u hu; simp only [List.mem_cons, List.not_mem_nil, or_false] at hu; rcases hu with rfl | rfl | rfl | rfl | rfl | rfl <;> assumption
      case c3 => unfold maxLen; omega
      case c4 => omega
      case c5 => simp; omega
      intro v' w2 hown' hgrow _
      have S2 : Same [] w' w2 := (hS1.alloc _).grown hgrow (fun j hj hl => by have := (hown1.lt j hj).1; omega)
      have O2 : w2.ownsRow w'.heap.size 70 6 v' (k + 1) (s.toldAll (s.vols.take (k + 1))) := by
        rw [HV.out, toldAll_append]; simpa [St.toldAll, HY.out] using hown'
      clear hown' hgrow hown1 hS1 S1
      go_wp2
      go_roundw
      case rel => exact ⟨k + 1, by omega, by go_num, S2, O2⟩
      case measure => simp [intOf]; omega
    · have hkc := owns_le hown
      have ek : k = s.vols.length := by omega
      subst ek
      rw [List.take_length] at hown
      go_wp2
      go_ret
      refine ⟨a, rfl, hS, fun hne => ?_⟩
      obtain ⟨g, cs, h1, h2, h3, _, h5⟩ := owns_atN hown (by cases hv : s.vols <;> simp_all)
      exact ⟨g, cs, h1, h2, h3, h5⟩
end Go.Proofs.Ytpddgdjocffgdaa
