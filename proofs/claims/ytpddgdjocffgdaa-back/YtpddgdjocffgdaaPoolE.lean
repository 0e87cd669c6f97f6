/- A Pool: insert, by a contract. -/
import Derived.Test.YtpddgdjocffgdaaPoolD
import Derived.Test.YtpddgdjocffgdaaHeapM
namespace Go.Proofs.Ytpddgdjocffgdaa
open Go.RowKit Go.Sort
set_option linter.unusedVariables false
set_option linter.unusedSimpArgs false
set_option linter.unusedSectionVars false
variable [DecidableEq Blk] [Inhabited Blk]
variable [Inhabited Vol]

/-- Nothing appended to a row that is owned. -/
theorem wpList_append_none {P : Program} (w : World) {ops : Array Oper} {rest : List Oper} {o : Oper} {a : Act} {Q : Exit → Act → World → Prop}
    (hg : o.guard = none) (s x : Operand) (t : TypeId) (hop : o.op = Op.call { callee := Callee.builtin Builtin.append, args := #[s, x], argTypes := #[t, t] })
    (base : Nat) (e : TypeId) (i : TypeInfo) (size : Nat) (h1 : P.underlying t = some (.slice e)) (h2 : P.info? e = some i)
    (v : Value) (n : Nat) (xs : List Value) (hs : a.eval s = v) (hown : w.ownsRow base e size v n xs) (hx : a.eval x = .slice none 0 0)
    (hK : wpList P ops Q rest (a.put o.dst v) w) : wpList P ops Q (o :: rest) a w := by
  refine wpList_plain hg fun K hK' => ?_
  have hrun := run_append_owned_none (P := P) w base t o.type e i size h1 h2 v n xs hown
  unfold Oper.wp
  simp [execOp, hop, resolve, invoke, builtin, hs, hx, hrun, Result.andThen]
  exact hK' _ _ hK

theorem Try.info59 : (Try.prog.info? 80).map (fun i => (i.zero, i.size, i.bytes)) = some (some (.pointer none), 1, 8) := by kernel_rfl

theorem ptrs_one (vs : List Vol) : ∀ u ∈ vs.map (fun v => ptr v.vb), u.oneCell' = true := by
  intro u hu
  obtain ⟨x, _, rfl⟩ := List.mem_map.1 hu
  rfl

/-- The Pool's struct, with the volumes' slice that insert or Remove leaves. -/
structure ArrAt (w w' : World) (s : St) (ps : List Value) : Prop where
  ex : ∃ g cap cs, w.heap.size ≤ g ∧ At w' s.pb 38 [ptr s.pb, ptr s.db, .slice (some ⟨g, 0, none⟩) ps.length cap] ∧ ps.length ≤ cap ∧ At w' g 80 cs ∧ cs.take ps.length = ps ∧ ps.length ≤ cs.length
  same : Same [s.pb] w w'

theorem arrAt_of (s : St) (w w1 : World) (ps : List Value) (a : Option Addr) (cap base : Nat) (v0 : Value) (P1 : At w1 s.pb 38 [ptr s.pb, ptr s.db, v0]) (S1 : Same [s.pb] w w1)
    (hown : w1.ownsRow base 80 1 (.slice a ps.length cap) ps.length ps) (hne : ps.length ≠ 0) (hb : w.heap.size ≤ base) : ArrAt w (w1.setCell ⟨s.pb, 2, none⟩ (.slice a ps.length cap)) s ps := by
  obtain ⟨g, cs, rfl, hg, hA, hcl, ht⟩ := owns_atN hown hne
  have hle := owns_le hown
  have hlt : s.pb < w.heap.size ∨ w.heap.size ≤ s.pb := by omega
  have hgp : g ≠ s.pb := by
    intro e
    subst e
    obtain ⟨_, e2⟩ := P1.inj hA
    have : (cs.take (ps.length * 1)).length = ps.length := by rw [ht]
    rw [← e2] at ht hcl
    cases ps with
    | nil => exact hne rfl
    | cons p r =>
      have e3 := P1.inj hA
      simp at e3
  refine ⟨⟨g, cap, cs, by omega, P1.set_same 2 _, hle, hA.set_other s.pb 2 _ hgp, by simpa using ht, by omega⟩, S1.set s.pb 2 _ (by simp)⟩

set_option maxHeartbeats 1000000 in
set_option maxRecDepth 100000 in
theorem insert_nil (s : St) (vb : Nat) (w : World) (h : PoolAt w s) (hab : s.ab = none) :
    Calls Try.prog 92 #[.pointer (some ⟨s.pb, 0, none⟩), .int .i64 0, .pointer (some ⟨vb, 0, none⟩)] w fun e w' => e = .returned (.tuple #[]) ∧ ArrAt w w' s [ptr vb] := by
  have hv0 := h.none_nil hab
  obtain ⟨cap, hp, hl, hc⟩ := h.pool
  rw [hab, hv0] at hp
  have ec := hc hab
  subst ec
  have c2 : w.cell? ⟨s.pb, 2, none⟩ = some (.slice none 0 0) := hp.cell? 2
  have lp := hp.lt
  obtain ⟨i0, hi, hz0, hz1, hz2⟩ := info_parts Try.info59
  clear h hc hl
  go_enter Try.func92, Try.ntmps92
  go_wp2_with (at_builtin; refine wpList_append_own _ rfl (.tmp 13) (.tmp 15) 36 rfl w.heap.size 80 i0 (.pointer none) 1 8 Try.underlying36 hi hz0 hz1 hz2 rfl (by decide) _ _ _ rfl (World.ownsRow_nil _ _ _ _) ⟨w.heap.size, 0, none⟩ 1 1 [ptr vb] rfl rfl ?c1 ?c2 ?c3 ?c4 ?c5 ?_)
  case c1 =>
    intro j u hj
    match j, hj with
    | 0, hj => simp at hj; subst hj; simp [Addr.add, ptr]
  case c2 => intro u hu; simp at hu; subst hu; rfl
  case c3 => unfold maxLen; omega
  case c4 => omega
  case c5 => simp
  intro v' w1 hown hgrow _
  have P1 : At w1 s.pb _ _ := (hp.alloc _).of_heap (hgrow.block s.pb (hp.alloc _).lt (by simp [Value.ownBlock]))
  have S1 : Same [s.pb] w w1 := ((Same.refl _ _).alloc _).grown hgrow (by simp [Value.ownBlock])
  have d2 : w1.cell? ⟨s.pb, 2, none⟩ = some (.slice none 0 0) := P1.cell? 2
  have f2 : w1.frozen? ⟨s.pb, 2, none⟩ = false := P1.frozen 2
  obtain ⟨a', cap', rfl⟩ := owns_form hown
  have hA := arrAt_of s w w1 [ptr vb] a' cap' _ _ P1 S1 (by simpa using hown) (by simp) (Nat.le_refl _)
  clear hgrow c2 hp
  go_wp2_with (at_builtin; refine wpList_append_none _ rfl (.tmp 18) (.tmp 24) 36 rfl w.heap.size 80 i0 1 Try.underlying36 hi _ _ _ rfl hown rfl ?_)
  refine bodyPost_end (results_none rfl _ _ _) rfl ⟨rfl, hA⟩

set_option maxHeartbeats 1000000 in
set_option maxRecDepth 100000 in
theorem insert_some (s : St) (vb b i : Nat) (w : World) (h : PoolAt w s) (hab : s.ab = some b) (hil : i ≤ s.vols.length) :
    Calls Try.prog 92 #[.pointer (some ⟨s.pb, 0, none⟩), .int .i64 i, .pointer (some ⟨vb, 0, none⟩)] w fun e w' => e = .returned (.tuple #[]) ∧ ArrAt w w' s ((s.vols.take i).map (fun v => ptr v.vb) ++ [ptr vb] ++ (s.vols.drop i).map (fun v => ptr v.vb)) := by
  obtain ⟨cap, hp, hl, hc⟩ := h.pool
  rw [hab] at hp
  obtain ⟨cs, hB, hcs, hcl⟩ := h.arr b hab
  have c2 : w.cell? ⟨s.pb, 2, none⟩ = some (.slice (some ⟨b, 0, none⟩) s.vols.length cap) := hp.cell? 2
  have lp := hp.lt
  have lbb := hB.lt
  have hfew := h.few
  obtain ⟨i0, hi, hz0, hz1, hz2⟩ := info_parts Try.info59
  clear hc
  go_enter Try.func92, Try.ntmps92
  go_wp2_with (at_builtin; refine wpList_append_grows _ rfl (.tmp 13) (.tmp 15) 36 rfl 80 i0 (.pointer none) 1 8 Try.underlying36 hi hz0 hz1 hz2 rfl (by decide) (some ⟨b, 0, none⟩) i i ((s.vols.take i).map (fun v => ptr v.vb)) rfl (by intro h; cases h) ?lo ?olds ⟨w.heap.size, 0, none⟩ 1 1 [ptr vb] rfl rfl ?c1 ?c2 ?full ?c3 ?c4 ?_)
  case lo => simp; omega
  case olds =>
    intro b1 hb1 j u hj
    simp only [Option.some.injEq] at hb1
    subst hb1
    have hj2 : j < i := by
      rcases Nat.lt_or_ge j i with h' | h'
      · exact h'
      · rw [List.getElem?_eq_none (by simp; omega)] at hj; cases hj
    rw [Addr.add_lit, Nat.zero_add, (hB.alloc _).cell?]
    have e1 : (cs.take s.vols.length)[j]? = cs[j]? := by rw [List.getElem?_take, if_pos (by omega)]
    rw [← e1, hcs, ← hj, List.map_take, List.getElem?_take, if_pos hj2]
  case c1 =>
    intro j u hj
    match j, hj with
    | 0, hj => simp at hj; subst hj; simp [Addr.add, ptr]
  case c2 => intro u hu; simp at hu; subst hu; rfl
  case full => omega
  case c3 => unfold maxLen; omega
  case c4 => omega
  intro v' w1 hown hgrow
  have P1 : At w1 s.pb _ _ := (hp.alloc _).of_heap (hgrow.block s.pb (hp.alloc _).lt (by simp))
  have B1 : At w1 b _ _ := (hB.alloc _).of_heap (hgrow.block b (hB.alloc _).lt (by simp))
  have S1 : Same [s.pb] w w1 := ((Same.refl _ _).alloc _).grown hgrow (by simp)
  have d2 : w1.cell? ⟨s.pb, 2, none⟩ = some (.slice (some ⟨b, 0, none⟩) s.vols.length cap) := P1.cell? 2
  obtain ⟨a', cap', rfl⟩ := owns_form hown
  have hsz1 := P1.lt
  have hsz2 := hgrow.size
  simp at hsz2
  clear hgrow c2
  by_cases hlt : i < s.vols.length
  · have l1 : (i : Int) < (s.vols.length : Int) := by omega
    go_wp2_with (at_builtin; refine wpList_append_own _ rfl (.tmp 18) (.tmp 24) 36 rfl (w.heap.size + 1) 80 i0 (.pointer none) 1 8 Try.underlying36 hi hz0 hz1 hz2 rfl (by decide) _ _ _ rfl hown ⟨b, i, none⟩ (s.vols.length - i) (cap - i) ((s.vols.drop i).map (fun v => ptr v.vb)) rfl ?n1 ?c1 ?c2 ?c3 ?c4 ?c5 ?_)
    case n1 => simp
    case c1 =>
      intro j u hj
      have hj2 : i + j < s.vols.length := by
        rcases Nat.lt_or_ge (i + j) s.vols.length with h' | h'
        · exact h'
        · rw [List.getElem?_eq_none (by simp; omega)] at hj; cases hj
      rw [Addr.add_lit, B1.cell?]
      have e1 : (cs.take s.vols.length)[i + j]? = cs[i + j]? := by rw [List.getElem?_take, if_pos (by omega)]
      rw [← e1, hcs, ← hj, List.map_drop, List.getElem?_drop]
    case c2 => exact ptrs_one _
    case c3 => unfold maxLen; omega
    case c4 => omega
    case c5 => omega
    intro v'' w2 hown2 hgrow2 _
    have hr := owns_row hown
    have P2 : At w2 s.pb _ _ := P1.of_heap (hgrow2.block s.pb hsz1 (fun e => by have := hr s.pb e.symm; omega))
    have S2 : Same [s.pb] w w2 := S1.grown hgrow2 (fun j hj hl => by have := hr j hj; omega)
    have f2 : w2.frozen? ⟨s.pb, 2, none⟩ = false := P2.frozen 2
    have e2 : w2.cell? ⟨s.pb, 2, none⟩ = some (.slice (some ⟨b, 0, none⟩) s.vols.length cap) := P2.cell? 2
    have hl2 : ((s.vols.take i).map (fun v => ptr v.vb) ++ [ptr vb] ++ (s.vols.drop i).map (fun v => ptr v.vb)).length = i + 1 + (s.vols.length - i) := by simp; omega
    have hown3 : w2.ownsRow (w.heap.size + 1) 80 1 v'' (i + 1 + (s.vols.length - i)) ((s.vols.take i).map (fun v => ptr v.vb) ++ [ptr vb] ++ (s.vols.drop i).map (fun v => ptr v.vb)) := by
      simpa [List.map_take, List.map_drop] using hown2
    obtain ⟨a2, cap2, rfl⟩ := owns_form hown3
    rw [← hl2] at hown3
    have hA := arrAt_of s w w2 _ a2 cap2 _ _ P2 S2 hown3 (by rw [hl2]; omega) (by omega)
    rw [hl2] at hA
    clear hown hown2 hown3 hgrow2 P1 B1 S1 d2 P2 S2 hr hcs hB h
    go_wp2
    refine bodyPost_end (results_none rfl _ _ _) rfl ⟨rfl, hA⟩
  · have e : i = s.vols.length := by omega
    subst e
    obtain ⟨g', cs', rfl, _, _, _, _⟩ := owns_atN hown (by omega)
    by_cases hc0 : cap = s.vols.length
    · subst hc0
      go_wp2_with (at_builtin; refine wpList_append_own _ rfl (.tmp 18) (.tmp 24) 36 rfl (w.heap.size + 1) 80 i0 (.pointer none) 1 8 Try.underlying36 hi hz0 hz1 hz2 rfl (by decide) _ _ _ rfl hown ⟨b, 0, none⟩ 0 0 [] rfl ?n1 ?c1 ?c2 ?c3 ?c4 ?c5 ?_)
      case n1 => simp
      case c1 => intro j u hj; simp at hj
      case c2 => intro u hu; simp at hu
      case c3 => unfold maxLen; omega
      case c4 => omega
      case c5 => omega
      intro v'' w2 hown2 hgrow2 _
      have hr := owns_row hown
      have P2 : At w2 s.pb _ _ := P1.of_heap (hgrow2.block s.pb hsz1 (fun e => by have := hr s.pb e.symm; omega))
      have S2 : Same [s.pb] w w2 := S1.grown hgrow2 (fun j hj hl => by have := hr j hj; omega)
      have f2 : w2.frozen? ⟨s.pb, 2, none⟩ = false := P2.frozen 2
      have e2 : w2.cell? ⟨s.pb, 2, none⟩ = some (.slice (some ⟨b, 0, none⟩) s.vols.length s.vols.length) := P2.cell? 2
      have hl2 : ((s.vols.take s.vols.length).map (fun v => ptr v.vb) ++ [ptr vb] ++ (s.vols.drop s.vols.length).map (fun v => ptr v.vb)).length = s.vols.length + 1 := by simp
      have hown3 : w2.ownsRow (w.heap.size + 1) 80 1 v'' (s.vols.length + 1) ((s.vols.take s.vols.length).map (fun v => ptr v.vb) ++ [ptr vb] ++ (s.vols.drop s.vols.length).map (fun v => ptr v.vb)) := by
        rw [← List.map_take, List.take_length] at hown2
        simpa using hown2
      obtain ⟨a2, cap2, rfl⟩ := owns_form hown3
      rw [← hl2] at hown3
      have hA := arrAt_of s w w2 _ a2 cap2 _ _ P2 S2 hown3 (by rw [hl2]; omega) (by omega)
      rw [hl2] at hA
      clear hown hown2 hown3 hgrow2 P1 B1 S1 d2 P2 S2 hr hcs hB h
      go_wp2
      refine bodyPost_end (results_none rfl _ _ _) rfl ⟨rfl, hA⟩
    · have hc1 : s.vols.length < cap := by omega
      go_wp2_with (at_builtin; refine wpList_append_own _ rfl (.tmp 18) (.tmp 24) 36 rfl (w.heap.size + 1) 80 i0 (.pointer none) 1 8 Try.underlying36 hi hz0 hz1 hz2 rfl (by decide) _ _ _ rfl hown ⟨b, s.vols.length, none⟩ 0 (cap - s.vols.length) [] rfl ?n1 ?c1 ?c2 ?c3 ?c4 ?c5 ?_)
      case n1 => simp
      case c1 => intro j u hj; simp at hj
      case c2 => intro u hu; simp at hu
      case c3 => unfold maxLen; omega
      case c4 => omega
      case c5 => omega
      intro v'' w2 hown2 hgrow2 _
      have hr := owns_row hown
      have P2 : At w2 s.pb _ _ := P1.of_heap (hgrow2.block s.pb hsz1 (fun e => by have := hr s.pb e.symm; omega))
      have S2 : Same [s.pb] w w2 := S1.grown hgrow2 (fun j hj hl => by have := hr j hj; omega)
      have f2 : w2.frozen? ⟨s.pb, 2, none⟩ = false := P2.frozen 2
      have e2 : w2.cell? ⟨s.pb, 2, none⟩ = some (.slice (some ⟨b, 0, none⟩) s.vols.length cap) := P2.cell? 2
      have hl2 : ((s.vols.take s.vols.length).map (fun v => ptr v.vb) ++ [ptr vb] ++ (s.vols.drop s.vols.length).map (fun v => ptr v.vb)).length = s.vols.length + 1 := by simp
      have hown3 : w2.ownsRow (w.heap.size + 1) 80 1 v'' (s.vols.length + 1) ((s.vols.take s.vols.length).map (fun v => ptr v.vb) ++ [ptr vb] ++ (s.vols.drop s.vols.length).map (fun v => ptr v.vb)) := by
        rw [← List.map_take, List.take_length] at hown2
        simpa using hown2
      obtain ⟨a2, cap2, rfl⟩ := owns_form hown3
      rw [← hl2] at hown3
      have hA := arrAt_of s w w2 _ a2 cap2 _ _ P2 S2 hown3 (by rw [hl2]; omega) (by omega)
      rw [hl2] at hA
      clear hown hown2 hown3 hgrow2 P1 B1 S1 d2 P2 S2 hr hcs hB h
      go_wp2
      refine bodyPost_end (results_none rfl _ _ _) rfl ⟨rfl, hA⟩
end Go.Proofs.Ytpddgdjocffgdaa
