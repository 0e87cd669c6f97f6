/- A Pool: insert, by a contract. A Pool: its state in order, and how it changes when a volume comes. Of a Pool's names and what is told of it; a row appended to a row. Bytes put behind bytes: numbers, lists of numbers, by contracts. A Pool: findNew, add, by contracts. -/
import Derived.Test.YtpddgdjocffgdaaG03
import Derived.Test.YtpddgdjocffgdaaG02
import Derived.Lib.AppendStr
namespace Go.Proofs.Ytpddgdjocffgdaa
section PartPoolE
open Go.RowKit Go.Sort
set_option linter.unusedVariables false
set_option linter.unusedSimpArgs false
set_option linter.unusedSectionVars false
variable [DecidableEq Blk] [Inhabited Blk]
variable [Inhabited Vol]

/-- Nothing appended to a row that is owned. -/
theorem wpList_append_none {P : Program} (w : World) {ops : Array Oper} {rest : List Oper} {o : Oper} {a : Act} {Q : Exit → Act → World → Prop}
    (hg : o.guard = none) (s x : Operand) (t : TypeId) (hop : o.op = Op.call { callee := Callee.builtin Builtin.append, args := #[s, x], argTypes := #[t, t] })
    (base : Nat) (e : TypeId) (i : TypeInfo) (size : Nat) (h1 : P.underlying t = some (.slice e)) (h2 : P.info? e = some i)
    (v : Value) (n : Nat) (xs : List Value) (hs : a.eval s = v) (hown : w.ownsRow base e size v n xs) (hx : a.eval x = .slice none 0 0)
    (hK : wpList P ops Q rest (a.put o.dst v) w) : wpList P ops Q (o :: rest) a w := by
  refine wpList_plain hg fun K hK' => ?_
  have hrun := run_append_owned_none (P := P) w base t o.type e i size h1 h2 v n xs hown
  unfold Oper.wp
  simp [execOp, hop, resolve, invoke, builtin, hs, hx, hrun, Result.andThen]
  exact hK' _ _ hK

theorem Try.info59 : (Try.prog.info? 80).map (fun i => (i.zero, i.size, i.bytes)) = some (some (.pointer none), 1, 8) := by kernel_rfl

theorem ptrs_one (vs : List Vol) : ∀ u ∈ vs.map (fun v => ptr v.vb), u.oneCell' = true := by
  intro u hu
  obtain ⟨x, _, rfl⟩ := List.mem_map.1 hu
  rfl

/-- The Pool's struct, with the volumes' slice that insert or Remove leaves. -/
structure ArrAt (w w' : World) (s : St) (ps : List Value) : Prop where
  ex : ∃ g cap cs, w.heap.size ≤ g ∧ At w' s.pb 38 [ptr s.pb, ptr s.db, .slice (some ⟨g, 0, none⟩) ps.length cap] ∧ ps.length ≤ cap ∧ At w' g 80 cs ∧ cs.take ps.length = ps ∧ ps.length ≤ cs.length
  same : Same [s.pb] w w'

theorem arrAt_of (s : St) (w w1 : World) (ps : List Value) (a : Option Addr) (cap base : Nat) (v0 : Value) (P1 : At w1 s.pb 38 [ptr s.pb, ptr s.db, v0]) (S1 : Same [s.pb] w w1)
    (hown : w1.ownsRow base 80 1 (.slice a ps.length cap) ps.length ps) (hne : ps.length ≠ 0) (hb : w.heap.size ≤ base) : ArrAt w (w1.setCell ⟨s.pb, 2, none⟩ (.slice a ps.length cap)) s ps := by
  obtain ⟨g, cs, rfl, hg, hA, hcl, ht⟩ := owns_atN hown hne
  have hle := owns_le hown
  have hlt : s.pb < w.heap.size ∨ w.heap.size ≤ s.pb := by omega
  have hgp : g ≠ s.pb := by
    intro e
    subst e
    obtain ⟨_, e2⟩ := P1.inj hA
    have : (cs.take (ps.length * 1)).length = ps.length := by rw [ht]
    rw [← e2] at ht hcl
    cases ps with
    | nil => exact hne rfl
    | cons p r =>
      have e3 := P1.inj hA
      simp at e3
  refine ⟨⟨g, cap, cs, by omega, P1.set_same 2 _, hle, hA.set_other s.pb 2 _ hgp, by simpa using ht, by omega⟩, S1.set s.pb 2 _ (by simp)⟩

set_option maxHeartbeats 1000000 in
set_option maxRecDepth 100000 in
theorem insert_nil (s : St) (vb : Nat) (w : World) (h : PoolAt w s) (hab : s.ab = none) :
    Calls Try.prog 92 #[.pointer (some ⟨s.pb, 0, none⟩), .int .i64 0, .pointer (some ⟨vb, 0, none⟩)] w fun e w' => e = .returned (.tuple #[]) ∧ ArrAt w w' s [ptr vb] := by
  have hv0 := h.none_nil hab
  obtain ⟨cap, hp, hl, hc⟩ := h.pool
  rw [hab, hv0] at hp
  have ec := hc hab
  subst ec
  have c2 : w.cell? ⟨s.pb, 2, none⟩ = some (.slice none 0 0) := hp.cell? 2
  have lp := hp.lt
  obtain ⟨i0, hi, hz0, hz1, hz2⟩ := info_parts Try.info59
  clear h hc hl
  go_enter Try.func92, Try.ntmps92
  go_wp2_with (at_builtin; refine wpList_append_own _ rfl (.tmp 13) (.tmp 15) 36 rfl w.heap.size 80 i0 (.pointer none) 1 8 Try.underlying36 hi hz0 hz1 hz2 rfl (by decide) _ _ _ rfl (World.ownsRow_nil _ _ _ _) ⟨w.heap.size, 0, none⟩ 1 1 [ptr vb] rfl rfl ?c1 ?c2 ?c3 ?c4 ?c5 ?_)
  case c1 =>
    intro j u hj
    match j, hj with
    | 0, hj => simp at hj; subst hj; simp [Addr.add, ptr]
  case c2 => intro u hu; simp at hu; subst hu; rfl
  case c3 => unfold maxLen; omega
  case c4 => omega
  case c5 => simp
  intro v' w1 hown hgrow _
  have P1 : At w1 s.pb _ _ := (hp.alloc _).of_heap (hgrow.block s.pb (hp.alloc _).lt (by simp [Value.ownBlock]))
  have S1 : Same [s.pb] w w1 := ((Same.refl _ _).alloc _).grown hgrow (by simp [Value.ownBlock])
  have d2 : w1.cell? ⟨s.pb, 2, none⟩ = some (.slice none 0 0) := P1.cell? 2
  have f2 : w1.frozen? ⟨s.pb, 2, none⟩ = false := P1.frozen 2
  obtain ⟨a', cap', rfl⟩ := owns_form hown
  have hA := arrAt_of s w w1 [ptr vb] a' cap' _ _ P1 S1 (by simpa using hown) (by simp) (Nat.le_refl _)
  clear hgrow c2 hp
  go_wp2_with (at_builtin; refine wpList_append_none _ rfl (.tmp 18) (.tmp 24) 36 rfl w.heap.size 80 i0 1 Try.underlying36 hi _ _ _ rfl hown rfl ?_)
  refine bodyPost_end (results_none rfl _ _ _) rfl ⟨rfl, hA⟩

set_option maxHeartbeats 1000000 in
set_option maxRecDepth 100000 in
theorem insert_some (s : St) (vb b i : Nat) (w : World) (h : PoolAt w s) (hab : s.ab = some b) (hil : i ≤ s.vols.length) :
    Calls Try.prog 92 #[.pointer (some ⟨s.pb, 0, none⟩), .int .i64 i, .pointer (some ⟨vb, 0, none⟩)] w fun e w' => e = .returned (.tuple #[]) ∧ ArrAt w w' s ((s.vols.take i).map (fun v => ptr v.vb) ++ [ptr vb] ++ (s.vols.drop i).map (fun v => ptr v.vb)) := by
  obtain ⟨cap, hp, hl, hc⟩ := h.pool
  rw [hab] at hp
  obtain ⟨cs, hB, hcs, hcl⟩ := h.arr b hab
  have c2 : w.cell? ⟨s.pb, 2, none⟩ = some (.slice (some ⟨b, 0, none⟩) s.vols.length cap) := hp.cell? 2
  have lp := hp.lt
  have lbb := hB.lt
  have hfew := h.few
  obtain ⟨i0, hi, hz0, hz1, hz2⟩ := info_parts Try.info59
  clear hc
  go_enter Try.func92, Try.ntmps92
  go_wp2_with (at_builtin; refine wpList_append_grows _ rfl (.tmp 13) (.tmp 15) 36 rfl 80 i0 (.pointer none) 1 8 Try.underlying36 hi hz0 hz1 hz2 rfl (by decide) (some ⟨b, 0, none⟩) i i ((s.vols.take i).map (fun v => ptr v.vb)) rfl (by intro h; cases h) ?lo ?olds ⟨w.heap.size, 0, none⟩ 1 1 [ptr vb] rfl rfl ?c1 ?c2 ?full ?c3 ?c4 ?_)
  case lo => simp; omega
  case olds =>
    intro b1 hb1 j u hj
    simp only [Option.some.injEq] at hb1
    subst hb1
    have hj2 : j < i := by
      rcases Nat.lt_or_ge j i with h' | h'
      · exact h'
      · rw [List.getElem?_eq_none (by simp; omega)] at hj; cases hj
    rw [Addr.add_lit, Nat.zero_add, (hB.alloc _).cell?]
    have e1 : (cs.take s.vols.length)[j]? = cs[j]? := by rw [List.getElem?_take, if_pos (by omega)]
    rw [← e1, hcs, ← hj, List.map_take, List.getElem?_take, if_pos hj2]
  case c1 =>
    intro j u hj
    match j, hj with
    | 0, hj => simp at hj; subst hj; simp [Addr.add, ptr]
  case c2 => intro u hu; simp at hu; subst hu; rfl
  case full => omega
  case c3 => unfold maxLen; omega
  case c4 => omega
  intro v' w1 hown hgrow
  have P1 : At w1 s.pb _ _ := (hp.alloc _).of_heap (hgrow.block s.pb (hp.alloc _).lt (by simp))
  have B1 : At w1 b _ _ := (hB.alloc _).of_heap (hgrow.block b (hB.alloc _).lt (by simp))
  have S1 : Same [s.pb] w w1 := ((Same.refl _ _).alloc _).grown hgrow (by simp)
  have d2 : w1.cell? ⟨s.pb, 2, none⟩ = some (.slice (some ⟨b, 0, none⟩) s.vols.length cap) := P1.cell? 2
  obtain ⟨a', cap', rfl⟩ := owns_form hown
  have hsz1 := P1.lt
  have hsz2 := hgrow.size
  simp at hsz2
  clear hgrow c2
  by_cases hlt : i < s.vols.length
  · have l1 : (i : Int) < (s.vols.length : Int) := by omega
    go_wp2_with (at_builtin; refine wpList_append_own _ rfl (.tmp 18) (.tmp 24) 36 rfl (w.heap.size + 1) 80 i0 (.pointer none) 1 8 Try.underlying36 hi hz0 hz1 hz2 rfl (by decide) _ _ _ rfl hown ⟨b, i, none⟩ (s.vols.length - i) (cap - i) ((s.vols.drop i).map (fun v => ptr v.vb)) rfl ?n1 ?c1 ?c2 ?c3 ?c4 ?c5 ?_)
    case n1 => simp
    case c1 =>
      intro j u hj
      have hj2 : i + j < s.vols.length := by
        rcases Nat.lt_or_ge (i + j) s.vols.length with h' | h'
        · exact h'
        · rw [List.getElem?_eq_none (by simp; omega)] at hj; cases hj
      rw [Addr.add_lit, B1.cell?]
      have e1 : (cs.take s.vols.length)[i + j]? = cs[i + j]? := by rw [List.getElem?_take, if_pos (by omega)]
      rw [← e1, hcs, ← hj, List.map_drop, List.getElem?_drop]
    case c2 => exact ptrs_one _
    case c3 => unfold maxLen; omega
    case c4 => omega
    case c5 => omega
    intro v'' w2 hown2 hgrow2 _
    have hr := owns_row hown
    have P2 : At w2 s.pb _ _ := P1.of_heap (hgrow2.block s.pb hsz1 (fun e => by have := hr s.pb e.symm; omega))
    have S2 : Same [s.pb] w w2 := S1.grown hgrow2 (fun j hj hl => by have := hr j hj; omega)
    have f2 : w2.frozen? ⟨s.pb, 2, none⟩ = false := P2.frozen 2
    have e2 : w2.cell? ⟨s.pb, 2, none⟩ = some (.slice (some ⟨b, 0, none⟩) s.vols.length cap) := P2.cell? 2
    have hl2 : ((s.vols.take i).map (fun v => ptr v.vb) ++ [ptr vb] ++ (s.vols.drop i).map (fun v => ptr v.vb)).length = i + 1 + (s.vols.length - i) := by simp; omega
    have hown3 : w2.ownsRow (w.heap.size + 1) 80 1 v'' (i + 1 + (s.vols.length - i)) ((s.vols.take i).map (fun v => ptr v.vb) ++ [ptr vb] ++ (s.vols.drop i).map (fun v => ptr v.vb)) := by
      simpa [List.map_take, List.map_drop] using hown2
    obtain ⟨a2, cap2, rfl⟩ := owns_form hown3
    rw [← hl2] at hown3
    have hA := arrAt_of s w w2 _ a2 cap2 _ _ P2 S2 hown3 (by rw [hl2]; omega) (by omega)
    rw [hl2] at hA
    clear hown hown2 hown3 hgrow2 P1 B1 S1 d2 P2 S2 hr hcs hB h
    go_wp2
    refine bodyPost_end (results_none rfl _ _ _) rfl ⟨rfl, hA⟩
  · have e : i = s.vols.length := by omega
    subst e
    obtain ⟨g', cs', rfl, _, _, _, _⟩ := owns_atN hown (by omega)
    by_cases hc0 : cap = s.vols.length
    · subst hc0
      go_wp2_with (at_builtin; refine wpList_append_own _ rfl (.tmp 18) (.tmp 24) 36 rfl (w.heap.size + 1) 80 i0 (.pointer none) 1 8 Try.underlying36 hi hz0 hz1 hz2 rfl (by decide) _ _ _ rfl hown ⟨b, 0, none⟩ 0 0 [] rfl ?n1 ?c1 ?c2 ?c3 ?c4 ?c5 ?_)
      case n1 => simp
      case c1 => intro j u hj; simp at hj
      case c2 => intro u hu; simp at hu
      case c3 => unfold maxLen; omega
      case c4 => omega
      case c5 => omega
      intro v'' w2 hown2 hgrow2 _
      have hr := owns_row hown
      have P2 : At w2 s.pb _ _ := P1.of_heap (hgrow2.block s.pb hsz1 (fun e => by have := hr s.pb e.symm; omega))
      have S2 : Same [s.pb] w w2 := S1.grown hgrow2 (fun j hj hl => by have := hr j hj; omega)
      have f2 : w2.frozen? ⟨s.pb, 2, none⟩ = false := P2.frozen 2
      have e2 : w2.cell? ⟨s.pb, 2, none⟩ = some (.slice (some ⟨b, 0, none⟩) s.vols.length s.vols.length) := P2.cell? 2
      have hl2 : ((s.vols.take s.vols.length).map (fun v => ptr v.vb) ++ [ptr vb] ++ (s.vols.drop s.vols.length).map (fun v => ptr v.vb)).length = s.vols.length + 1 := by simp
      have hown3 : w2.ownsRow (w.heap.size + 1) 80 1 v'' (s.vols.length + 1) ((s.vols.take s.vols.length).map (fun v => ptr v.vb) ++ [ptr vb] ++ (s.vols.drop s.vols.length).map (fun v => ptr v.vb)) := by
        rw [← List.map_take, List.take_length] at hown2
        simpa using hown2
      obtain ⟨a2, cap2, rfl⟩ := owns_form hown3
      rw [← hl2] at hown3
      have hA := arrAt_of s w w2 _ a2 cap2 _ _ P2 S2 hown3 (by rw [hl2]; omega) (by omega)
      rw [hl2] at hA
      clear hown hown2 hown3 hgrow2 P1 B1 S1 d2 P2 S2 hr hcs hB h
      go_wp2
      refine bodyPost_end (results_none rfl _ _ _) rfl ⟨rfl, hA⟩
    · have hc1 : s.vols.length < cap := by omega
      go_wp2_with (at_builtin; refine wpList_append_own _ rfl (.tmp 18) (.tmp 24) 36 rfl (w.heap.size + 1) 80 i0 (.pointer none) 1 8 Try.underlying36 hi hz0 hz1 hz2 rfl (by decide) _ _ _ rfl hown ⟨b, s.vols.length, none⟩ 0 (cap - s.vols.length) [] rfl ?n1 ?c1 ?c2 ?c3 ?c4 ?c5 ?_)
      case n1 => simp
      case c1 => intro j u hj; simp at hj
      case c2 => intro u hu; simp at hu
      case c3 => unfold maxLen; omega
      case c4 => omega
      case c5 => omega
      intro v'' w2 hown2 hgrow2 _
      have hr := owns_row hown
      have P2 : At w2 s.pb _ _ := P1.of_heap (hgrow2.block s.pb hsz1 (fun e => by have := hr s.pb e.symm; omega))
      have S2 : Same [s.pb] w w2 := S1.grown hgrow2 (fun j hj hl => by have := hr j hj; omega)
      have f2 : w2.frozen? ⟨s.pb, 2, none⟩ = false := P2.frozen 2
      have e2 : w2.cell? ⟨s.pb, 2, none⟩ = some (.slice (some ⟨b, 0, none⟩) s.vols.length cap) := P2.cell? 2
      have hl2 : ((s.vols.take s.vols.length).map (fun v => ptr v.vb) ++ [ptr vb] ++ (s.vols.drop s.vols.length).map (fun v => ptr v.vb)).length = s.vols.length + 1 := by simp
      have hown3 : w2.ownsRow (w.heap.size + 1) 80 1 v'' (s.vols.length + 1) ((s.vols.take s.vols.length).map (fun v => ptr v.vb) ++ [ptr vb] ++ (s.vols.drop s.vols.length).map (fun v => ptr v.vb)) := by
        rw [← List.map_take, List.take_length] at hown2
        simpa using hown2
      obtain ⟨a2, cap2, rfl⟩ := owns_form hown3
      rw [← hl2] at hown3
      have hA := arrAt_of s w w2 _ a2 cap2 _ _ P2 S2 hown3 (by rw [hl2]; omega) (by omega)
      rw [hl2] at hA
      clear hown hown2 hown3 hgrow2 P1 B1 S1 d2 P2 S2 hr hcs hB h
      go_wp2
      refine bodyPost_end (results_none rfl _ _ _) rfl ⟨rfl, hA⟩
end PartPoolE

section PartPoolF
open Go.RowKit Go.Sort
set_option linter.unusedVariables false
set_option linter.unusedSimpArgs false
set_option linter.unusedSectionVars false
variable [DecidableEq Blk] [Inhabited Blk]
variable [Inhabited Vol]

theorem countP_split {α : Type} (p : α → Bool) : ∀ (l : List α), l.Pairwise (fun a b => p b = true → p a = true) → (∀ x ∈ l.take (l.countP p), p x = true) ∧ (∀ x ∈ l.drop (l.countP p), p x = false)
  | [], _ => by simp
  | a :: r, h => by
    obtain ⟨h1, h2⟩ := List.pairwise_cons.1 h
    obtain ⟨i1, i2⟩ := countP_split p r h2
    cases ha : p a with
    | true =>
      rw [List.countP_cons_of_pos ha]
      simp only [List.take_succ_cons, List.drop_succ_cons, List.mem_cons]
      exact ⟨fun x hx => by
        rcases hx with rfl | hx
        · exact ha
        · exact i1 x hx, i2⟩
    | false =>
      have hr : ∀ x ∈ r, p x = false := fun x hx => by
        cases hx' : p x with
        | false => rfl
        | true => have := h1 x hx hx'; rw [ha] at this; cases this
      have e : (a :: r).countP p = 0 := by
        rw [List.countP_eq_zero]
        intro x hx
        rcases List.mem_cons.1 hx with rfl | hx
        · simp [ha]
        · simp [hr x hx]
      rw [e]
      simp only [List.take_zero, List.drop_zero, List.mem_cons]
      exact ⟨fun x hx => by simp at hx, fun x hx => by
        rcases hx with rfl | hx
        · exact ha
        · exact hr x hx⟩

theorem cmpL_neg : ∀ (a b : List UInt8), Lib.compareBytes b a = - Lib.compareBytes a b
  | [], [] => rfl
  | [], _ :: _ => rfl
  | _ :: _, [] => rfl
  | x :: a, y :: b => by
    have ih := cmpL_neg a b
    unfold Lib.compareBytes
    by_cases hxy : x < y
    · have : ¬ y < x := fun h => UInt8.lt_irrefl _ (UInt8.lt_trans hxy h)
      rw [if_pos hxy, if_neg this, if_pos hxy]; rfl
    · by_cases hyx : y < x
      · rw [if_pos hyx, if_neg hxy, if_pos hyx]
      · rw [if_neg hyx, if_neg hxy, if_neg hxy, if_neg hyx, ih]
theorem cmpB_neg (a b : ByteArray) : cmpB b a = - cmpB a b := cmpL_neg _ _
theorem cmpB_self (a : ByteArray) : cmpB a a = 0 := (cmpB_zero a a).2 rfl

theorem names_mono {ns : List ByteArray} (t : ByteArray) (h : ns.Pairwise fun a b => cmpB a b < 0) : ns.Pairwise fun a b => decide (cmpB b t < 0) = true → decide (cmpB a t < 0) = true :=
  h.imp fun {a b} hab hb => by simp at hb ⊢; exact cmpB_trans a b t hab hb

theorem isIn_iff {ns : List ByteArray} (h : ns.Pairwise fun a b => cmpB a b < 0) (t : ByteArray) : isIn ns t = true ↔ t ∈ ns := by
  obtain ⟨s1, s2⟩ := countP_split (fun n => decide (cmpB n t < 0)) ns (names_mono t h)
  have hp : ns.countP (fun n => decide (cmpB n t < 0)) = posOf ns t := rfl
  rw [hp] at s1 s2
  unfold isIn
  simp only [Bool.and_eq_true, decide_eq_true_eq]
  constructor
  · rintro ⟨hl, he⟩
    rw [getElem!_pos ns _ hl] at he
    rw [← (cmpB_zero _ _).1 he]; exact List.getElem_mem hl
  · intro ht
    have hd : t ∈ ns.drop (posOf ns t) := by
      have := List.take_append_drop (posOf ns t) ns
      rw [← this] at ht
      rcases List.mem_append.1 ht with ht | ht
      · have := s1 t ht; rw [cmpB_self] at this; simp at this
      · exact ht
    have hl : posOf ns t < ns.length := by
      have := List.length_pos_of_mem hd
      simp at this; omega
    refine ⟨hl, ?_⟩
    rw [getElem!_pos ns _ hl]
    rw [List.drop_eq_getElem_cons hl] at hd
    rcases List.mem_cons.1 hd with e | hd
    · rw [← e]; exact cmpB_self t
    · have hpw : (ns.drop (posOf ns t)).Pairwise fun a b => cmpB a b < 0 := h.sublist (List.drop_sublist _ _)
      rw [List.drop_eq_getElem_cons hl] at hpw
      have h1 := (List.pairwise_cons.1 hpw).1 t hd
      have h2 := s2 (ns[posOf ns t]) (by rw [List.drop_eq_getElem_cons hl]; exact List.mem_cons_self)
      simp at h2
      omega

/-- A volume put in its place. -/
def insVol (i : Nat) (v : Vol) (l : List Vol) : List Vol := l.take i ++ v :: l.drop i

theorem insVol_sorted (s : List Vol) (v : Vol) (h : s.Pairwise fun a b => cmpB a.name b.name < 0) (hn : isIn (s.map (·.name)) v.name = false) : (insVol (posOf (s.map (·.name)) v.name) v s).Pairwise fun a b => cmpB a.name b.name < 0 := by
  have hpn : (s.map (·.name)).Pairwise fun a b => cmpB a b < 0 := by rw [List.pairwise_map]; exact h
  obtain ⟨s1, s2⟩ := countP_split (fun n => decide (cmpB n v.name < 0)) (s.map (·.name)) (names_mono v.name hpn)
  have hp : (s.map (·.name)).countP (fun n => decide (cmpB n v.name < 0)) = posOf (s.map (·.name)) v.name := rfl
  rw [hp] at s1 s2
  have hni : v.name ∉ s.map (·.name) := fun hm => by rw [(isIn_iff hpn v.name).2 hm] at hn; cases hn
  generalize posOf (s.map (·.name)) v.name = i at *
  have t1 : ∀ x ∈ s.take i, cmpB x.name v.name < 0 := fun x hx => by
    have := s1 x.name (by rw [← List.map_take]; exact List.mem_map_of_mem hx)
    simpa using this
  have t2 : ∀ x ∈ s.drop i, cmpB v.name x.name < 0 := fun x hx => by
    have h1 := s2 x.name (by rw [← List.map_drop]; exact List.mem_map_of_mem hx)
    have h2 : cmpB x.name v.name ≠ 0 := fun e => hni (by
      rw [← (cmpB_zero _ _).1 e]
      exact List.mem_map_of_mem (List.mem_of_mem_drop hx))
    simp at h1
    rw [cmpB_neg x.name v.name]
    omega
  unfold insVol
  have hw := h
  rw [← List.take_append_drop i s, List.pairwise_append] at hw
  obtain ⟨a1, a2, a3⟩ := hw
  rw [List.pairwise_append]
  refine ⟨a1, List.pairwise_cons.2 ⟨t2, a2⟩, fun a ha b hb => ?_⟩
  rcases List.mem_cons.1 hb with rfl | hb
  · exact t1 a ha
  · exact a3 a ha b hb

/-- The pictures are in order: each keeps a place once, and places of its origin alone; a lost one none; its room is not greater than its origin. -/
def Pics (l : List Vol) : Prop := ∀ v ∈ l, v.kept.Nodup ∧ (v.lost = true → v.kept = []) ∧ ∀ u ∈ l, v.org = some u.vb → (∀ k ∈ v.kept, k < u.xs.length) ∧ v.xs.length ≤ u.xs.length

structure Good (s : St) (fr : List Nat) : Prop where
  heap : HeapIs s.m s.d fr
  parts : (fr ++ s.vols.flatMap (·.xs)).Perm (List.range s.n)
  zero : ∀ x ∈ fr, s.bl[x]! = Blk.zero
  names : ∀ v ∈ s.vols, nameB v.name = true
  pics : Pics s.vols

/-- What a call leaves of a Pool. -/
structure After (w : World) (s : St) (w' : World) (s' : St) (fr' : List Nat) : Prop where
  pool : PoolAt w' s'
  good : Good s' fr'
  same : Same s.foot w w'
  foot : ∀ k ∈ s'.foot, k ∈ s.foot ∨ w.heap.size ≤ k
  pb : s'.pb = s.pb
  n : s'.n = s.n

theorem Good.lt {s : St} {fr : List Nat} (h : Good s fr) : (∀ x ∈ fr, x < s.n) ∧ (∀ v ∈ s.vols, ∀ x ∈ v.xs, x < s.n) := by
  refine ⟨fun x hx => ?_, fun v hv x hx => ?_⟩
  · exact List.mem_range.1 (h.parts.mem_iff.1 (List.mem_append_left _ hx))
  · exact List.mem_range.1 (h.parts.mem_iff.1 (List.mem_append_right _ (List.mem_flatMap.2 ⟨v, hv, hx⟩)))
theorem Good.nodup {s : St} {fr : List Nat} (h : Good s fr) : (fr ++ s.vols.flatMap (·.xs)).Nodup := h.parts.nodup_iff.2 List.nodup_range
theorem mem_getElem! {xs : List Nat} {k : Nat} (h : k < xs.length) : xs[k]! ∈ xs := by rw [getElem!_pos xs k h]; exact List.getElem_mem h
/-- The block that holds what stands at a place is one of its own, or one of its origin's. -/
theorem holder_mem {w : World} {s : St} (h : PoolAt w s) {v : Vol} (hv : v ∈ s.vols) {k : Nat} (hk : k < s.size v) : ∃ u ∈ s.vols, s.holder v k ∈ u.xs := by
  unfold St.holder
  split
  · rename_i hm
    exact ⟨v, hv, mem_getElem! (Nat.lt_of_lt_of_le (idxOf_lt hm) (h.vols v hv).room)⟩
  · exact ⟨s.orgOf v, (h.orgOf hv).1, mem_getElem! hk⟩
theorem holder_lt {w : World} {s : St} (h : PoolAt w s) {fr : List Nat} (hG : Good s fr) {v : Vol} (hv : v ∈ s.vols) {k : Nat} (hk : k < s.size v) : s.holder v k < s.n := by
  obtain ⟨u, hu, hm⟩ := holder_mem h hv hk
  exact hG.lt.2 u hu _ hm

theorem giveB_zero (xs : List Nat) : ∀ (bl : List Blk), (∀ x ∈ xs, x < bl.length ∧ bl[x]! = Blk.zero) → giveB xs bl = bl := by
  induction xs with
  | nil => intro bl _; rfl
  | cons x r ih =>
    intro bl h
    obtain ⟨hl, hx⟩ := h x (by simp)
    have e : bl.set x Blk.zero = bl := by
      rw [← hx, getElem!_pos bl x hl]; simp
    have e2 : giveB (x :: r) bl = giveB r (bl.set x Blk.zero) := rfl
    rw [e2, e]
    exact ih bl fun y hy => h y (by simp [hy])

theorem insVol_perm (i : Nat) (v : Vol) (l : List Vol) : (insVol i v l).Perm (v :: l) := by
  unfold insVol
  have := List.perm_middle (a := v) (l₁ := l.take i) (l₂ := l.drop i)
  rw [List.take_append_drop] at this; exact this
theorem insVol_mem {i : Nat} {v : Vol} {l : List Vol} {u : Vol} : u ∈ insVol i v l ↔ u = v ∨ u ∈ l := by
  rw [(insVol_perm i v l).mem_iff, List.mem_cons]
theorem footV_ins (i : Nat) (v : Vol) (l : List Vol) : ((insVol i v l).flatMap Vol.foot).Perm (v.foot ++ l.flatMap Vol.foot) := by
  have := (insVol_perm i v l).flatMap_right Vol.foot
  rwa [List.flatMap_cons] at this

/-- The head of the footprint, put aside. -/
theorem foot_perm (a b c d : Nat) (o : Option Nat) (x y : List Nat) : (a :: b :: c :: d :: (o.toList ++ (x ++ y))).Perm (x ++ (a :: b :: c :: d :: (o.toList ++ y))) := by
  have h1 : (o.toList ++ (x ++ y)).Perm (x ++ (o.toList ++ y)) := by
    rw [← List.append_assoc, ← List.append_assoc]
    exact (List.perm_append_comm).append_right y
  have h2 : (a :: b :: c :: d :: (x ++ (o.toList ++ y))).Perm (x ++ (a :: b :: c :: d :: (o.toList ++ y))) := by
    have := List.perm_append_comm (l₁ := [a, b, c, d]) (l₂ := x)
    have := this.append_right (o.toList ++ y)
    simpa using this
  exact (((((h1.cons d).cons c).cons b).cons a)).trans h2

/-- Where a volume has come, the Pool is one again. -/
theorem insert_state {w w' : World} {s : St} (h : PoolAt w s) (v : Vol) (hv : VolAt w v) (h1 : ∀ k ∈ v.foot, k ∉ s.foot) (hfew : s.vols.length < 20) (hn : isIn s.names v.name = false)
    (hvo : ∀ o, v.org = some o → ∃ u ∈ s.vols, u.vb = o ∧ u.org = none)
    (hA : ArrAt w w' s ((s.vols.take (posOf s.names v.name)).map (fun v => ptr v.vb) ++ [ptr v.vb] ++ (s.vols.drop (posOf s.names v.name)).map (fun v => ptr v.vb))) :
    ∃ g, w.heap.size ≤ g ∧ PoolAt w' { s with ab := some g, vols := insVol (posOf s.names v.name) v s.vols } := by
  obtain ⟨g, cap, cs, hg, hP, hle, hB, hcs, hcl⟩ := hA.ex
  refine ⟨g, hg, ?_⟩
  have hps : ((s.vols.take (posOf s.names v.name)).map (fun v => ptr v.vb) ++ [ptr v.vb] ++ (s.vols.drop (posOf s.names v.name)).map (fun v => ptr v.vb)) = (insVol (posOf s.names v.name) v s.vols).map (fun v => ptr v.vb) := by
    simp [insVol]
  have hlen : (insVol (posOf s.names v.name) v s.vols).length = s.vols.length + 1 := by
    simpa using (insVol_perm (posOf s.names v.name) v s.vols).length_eq
  rw [hps] at hP hle hcs hcl
  rw [List.length_map] at hP hle hcs hcl
  have hnd := h.nodup
  have hap := apart_of hnd
  have hpb : ∀ k ∈ s.foot, k ≠ s.pb → k ∉ [s.pb] := fun k _ hne => by simpa using hne
  have hpbn := hap.pb
  refine ⟨⟨cap, hP, hle, by simp⟩, fun b hb => ?_, ?_, fun u hu => ?_, ?_, by rw [hlen]; omega, insVol_sorted s.vols v h.sorted hn, fun u hu o ho => ?_⟩
  · simp only [Option.some.injEq] at hb
    subst hb
    exact ⟨cs, hB, hcs, hcl⟩
  · refine h.disk.same hA.same ?_ ?_ ?_
    · intro hm; simp at hm; exact hpbn (by rw [← hm]; simp)
    · intro hm; simp at hm; exact hpbn (by rw [← hm]; simp)
    · intro hm; simp at hm; exact hpbn (by rw [← hm]; simp)
  · rcases insVol_mem.1 hu with rfl | hm
    · exact hv.same hA.same (fun k hk hx => h1 k hk (by simp at hx; rw [hx]; exact s.foot_pb))
    · exact (h.vols u hm).same hA.same (fun k hk hx => by
        simp at hx
        have := hap.disk u hm k hk
        simp only [List.mem_cons, not_or] at this
        exact this.1 hx)
  · have hlt := h.foot_lt
    have hvlt := hv.foot_lt
    have hsub : List.Sublist (s.pb :: s.db :: s.bb :: s.fb :: s.vols.flatMap Vol.foot) s.foot := by
      unfold St.foot
      exact List.Sublist.cons_cons _ (List.Sublist.cons_cons _ (List.Sublist.cons_cons _ (List.Sublist.cons_cons _ (List.sublist_append_right _ _))))
    have hp : (St.foot { s with ab := some g, vols := insVol (posOf s.names v.name) v s.vols }).Perm (g :: (v.foot ++ (s.pb :: s.db :: s.bb :: s.fb :: s.vols.flatMap Vol.foot))) := by
      unfold St.foot
      have e1 := footV_ins (posOf s.names v.name) v s.vols
      simp only [Option.toList_some, List.singleton_append]
      have e2 : ∀ (a b c d : Nat) (l : List Nat), (a :: b :: c :: d :: g :: l).Perm (g :: a :: b :: c :: d :: l) := fun a b c d l =>
        (List.perm_middle (a := g) (l₁ := [a, b, c, d]) (l₂ := l))
      refine (e2 _ _ _ _ _).trans (List.Perm.cons _ ?_)
      refine (List.Perm.append_left [s.pb, s.db, s.bb, s.fb] e1).trans ?_
      have := (List.perm_append_comm (l₁ := [s.pb, s.db, s.bb, s.fb]) (l₂ := v.foot)).append_right (s.vols.flatMap Vol.foot)
      simpa using this
    rw [hp.nodup_iff]
    refine List.nodup_cons.2 ⟨fun hm => ?_, List.nodup_append.2 ⟨hv.nodup, hnd.sublist hsub, fun a ha b hb e => ?_⟩⟩
    · rcases List.mem_append.1 hm with hm | hm
      · have := hvlt g hm; omega
      · have := hlt g (hsub.mem hm); omega
    · subst e
      exact h1 a ha (hsub.mem hb)
  · rcases insVol_mem.1 hu with rfl | hm
    · obtain ⟨x, hx, hx2⟩ := hvo o ho
      exact ⟨x, insVol_mem.2 (Or.inr hx), hx2⟩
    · obtain ⟨x, hx, hx2⟩ := h.orgs u hm o ho
      exact ⟨x, insVol_mem.2 (Or.inr hx), hx2⟩
end PartPoolF

section PartPoolAB
open Go.RowKit Go.Sort
set_option linter.unusedVariables false
set_option linter.unusedSimpArgs false
set_option linter.unusedSectionVars false
variable [DecidableEq Blk] [Inhabited Blk]
variable [Inhabited Vol]

/-- A list of numbers as the statement holds it: a slice, nil where there are none. -/
structure SlAt (w : World) (v : Value) (g : Nat) (xs : List Nat) : Prop where
  ex : ∃ a cap, v = .slice a xs.length cap ∧ (xs ≠ [] → a = some ⟨g, 0, none⟩ ∧ ∃ cs, RowAt w g xs cs)
theorem SlAt.same {w w' : World} {v : Value} {g : Nat} {xs : List Nat} (h : SlAt w v g xs) {S : List Nat} (hs : Same S w w') (hn : g ∉ S) : SlAt w' v g xs := by
  obtain ⟨a, cap, e, h⟩ := h.ex
  refine ⟨a, cap, e, fun hne => ?_⟩
  obtain ⟨h1, cs, h2⟩ := h hne
  exact ⟨h1, cs, h2.same hs hn⟩

theorem posOf_get {ns : List ByteArray} (h : ns.Pairwise fun a b => cmpB a b < 0) (i : Nat) (hi : i < ns.length) : posOf ns ns[i]! = i := by
  rw [getElem!_pos ns i hi]
  refine countP_bound _ ns i (Nat.le_of_lt hi) (fun t ht => ?_) (fun t h1 h2 => ?_)
  · rw [getElem!_pos ns t (by omega)]
    exact decide_eq_true (List.pairwise_iff_getElem.1 h t i (by omega) hi ht)
  · rw [getElem!_pos ns t h2]
    rcases Nat.lt_or_ge i t with h' | h'
    · have := List.pairwise_iff_getElem.1 h i t hi h2 h'
      exact decide_eq_false (by rw [cmpB_neg ns[i] ns[t]]; omega)
    · have e : t = i := by omega
      subst e
      exact decide_eq_false (by rw [cmpB_self]; omega)

theorem vol_get {w : World} {s : St} (h : PoolAt w s) (i : Nat) (hi : i < s.vols.length) : s.has (s.vols[i]!).name = true ∧ s.vol (s.vols[i]!).name = s.vols[i]! := by
  have hn : s.names[i]! = (s.vols[i]!).name := by rw [getElem!_pos _ i (by simpa [St.names] using hi), getElem!_pos s.vols i hi]; simp [St.names]
  have hp := posOf_get h.names_sorted i (by simpa [St.names] using hi)
  rw [hn] at hp
  refine ⟨?_, ?_⟩
  · unfold St.has
    rw [isIn_iff h.names_sorted]
    rw [getElem!_pos s.vols i hi]
    exact List.mem_map_of_mem (List.getElem_mem hi)
  · unfold St.vol; rw [hp]

theorem toldAll_get (s : St) (l : List Vol) : ∀ (i j : Nat), i < l.length → j < 6 → (s.toldAll l)[i * 6 + j]? = (s.told (l[i]!))[j]? := by
  induction l with
  | nil => intro i j h; simp at h
  | cons b r ih =>
    intro i j hi hj
    cases i with
    | zero =>
      have : (b :: r)[0]! = b := rfl
      rw [this, St.toldAll, Nat.zero_mul, Nat.zero_add, List.getElem?_append_left (by rw [St.told_length]; exact hj)]
    | succ i =>
      have e : (b :: r)[i + 1]! = r[i]! := by simp
      rw [e, ← ih i j (by simpa using hi) hj, St.toldAll, List.getElem?_append_right (by rw [St.told_length]; omega)]
      congr 1
      rw [St.told_length]; omega

def flatX (l : List Vol) : List Nat := l.flatMap (·.xs)
theorem flatX_snoc (l : List Vol) (i : Nat) (h : i < l.length) : flatX (l.take (i + 1)) = flatX (l.take i) ++ (l[i]!).xs := by
  unfold flatX
  rw [List.take_succ_eq_append_getElem h, List.flatMap_append, getElem!_pos l i h]
  simp

theorem owns_sl {w : World} {base : Nat} {v : Value} {n : Nat} {xs : List Nat} (h : w.ownsRow base 3 1 v n (xs.map (fun x : Nat => Value.int .i64 x))) (hn : n = xs.length) : ∃ g, base ≤ g ∧ SlAt w v g xs := by
  subst hn
  obtain ⟨a, cap, rfl⟩ := owns_form h
  by_cases hx : xs = []
  · exact ⟨base, Nat.le_refl _, a, cap, rfl, fun hne => absurd hx hne⟩
  · obtain ⟨g, cs, h1, h2, h3, h4⟩ := owns_row_at h rfl hx
    exact ⟨g, h2, a, cap, rfl, fun _ => ⟨h1, cs, h3⟩⟩

/-- append onto a row that is owned; the new row is the old one, or new. -/
theorem wpList_append_own2 {P : Program} (w : World) {ops : Array Oper} {rest : List Oper} {o : Oper} {a : Act} {Q : Exit → Act → World → Prop} (hgd : o.guard = none) (s x : Operand) (t : TypeId)
    (ho : o.op = .call { callee := .builtin .append, args := #[s, x], argTypes := #[t, t] })
    (base : Nat) (e : TypeId) (i : TypeInfo) (z : Value) (size bytes : Nat) (ht : P.underlying t = some (.slice e)) (hi : P.info? e = some i) (hz : i.zero = some z)
    (hsize : i.size = size) (hby : i.bytes = bytes) (hzs : z.cells.size = size) (hsz : 0 < size)
    (v : Value) (n : Nat) (xs : List Value) (hs : a.eval s = v) (hown : w.ownsRow base e size v n xs)
    (ad : Addr) (m c : Nat) (news : List Value) (hx : a.eval x = .slice (some ad) m c) (hl : news.length = m * size) (hnews : ∀ j u, news[j]? = some u → w.cell? (ad.add j) = some u) (h1 : ∀ u ∈ news, u.oneCell' = true)
    (h63 : n + m ≤ maxLen) (hbytes : (n + m) * bytes ≤ 140737488355328) (hbase : base ≤ w.heap.size)
    (h : ∀ v' w', w'.ownsRow base e size v' (n + m) (xs ++ news) → w.grownBy w' v.ownBlock → (v'.ownBlock = v.ownBlock ∨ ∀ k, v'.ownBlock = some k → w.heap.size ≤ k) → wpList P ops Q rest (a.put o.dst v') w') : wpList P ops Q (o :: rest) a w := by
  have hown0 := hown
  rcases hown.2 with ⟨rfl, rfl⟩ | ⟨g, cap, cur, rfl, hg, hh, hnc, hcm, hcs, hct⟩
  · have hxs : xs = [] := List.eq_nil_of_length_eq_zero (by have := hown.1; omega)
    subst hxs
    refine wpList_append_own w hgd s x t ho w.heap.size e i z size bytes ht hi hz hsize hby hzs hsz _ _ _ hs (World.ownsRow_nil _ _ _ _) ad m c news hx hl hnews h1 h63 hbytes (Nat.le_refl _) ?_
    intro v' w' h2 h3 _
    exact h v' w' (owns_base h2 hbase) h3 (Or.inr (owns_row h2))
  · by_cases hr : n + m ≤ cap
    · refine wpList_append_fits w hgd s x t ho base e i size ht hi hsize g n cap xs hs hown0 ad m c news hx hl hnews h1 hr ?_
      intro w' h2 h3
      exact h _ w' h2 h3 (Or.inl rfl)
    · refine wpList_append_grows w hgd s x t ho e i z size bytes ht hi hz hsize hby hzs hsz (some ⟨g, 0, none⟩) n cap xs hs (by intro hc; cases hc) hown.1 (fun b hb j u hj => by
        simp only [Option.some.injEq] at hb
        subst hb
        exact hown0.cells rfl j u hj) ad m c news hx hl hnews h1 (by omega) h63 hbytes ?_
      intro v' w' h2 h3
      exact h v' w' (owns_base h2 hbase) ⟨h3.os, h3.tape, h3.output, h3.size, fun k hk hne => h3.block k hk (by simp)⟩ (Or.inr (owns_row h2))
end PartPoolAB

section PartImgA
open Go.RowKit Go.Sort
set_option linter.unusedVariables false
set_option linter.unusedSimpArgs false
set_option linter.unusedSectionVars false
variable [DecidableEq Blk] [Inhabited Blk]
variable [Inhabited Vol]

/-- A byte as a cell. -/
def byteV (b : UInt8) : Value := .int .u8 (b.toNat : Int)
/-- A list of bytes in new memory, that is its holder's own. -/
structure Buf (w0 w : World) (v : Value) (bs : List UInt8) : Prop where
  own : w.ownsRow w0.heap.size 5 1 v bs.length (bs.map byteV)
  same : Same [] w0 w
theorem Buf.new {w0 w w' : World} {v : Value} {bs : List UInt8} (h : Buf w0 w v bs) (hs : Same [] w w') : Buf w0 w' v bs := ⟨owns_same h.own hs (by simp), h.same.step hs (by simp)⟩
theorem Buf.form {w0 w : World} {v : Value} {bs : List UInt8} (h : Buf w0 w v bs) : ∃ a cap, v = .slice a bs.length cap := owns_form h.own
theorem Buf.app {w0 w w1 w2 : World} {v v' : Value} {bs ns : List UInt8} {n : Nat} (h : Buf w0 w v bs) (hs : Same [] w w1) (hn : n = bs.length + ns.length) (ho : w2.ownsRow w0.heap.size 5 1 v' n (bs.map byteV ++ ns.map byteV)) (hg : w1.grownBy w2 v.ownBlock) : Buf w0 w2 v' (bs ++ ns) := by
  refine ⟨by rw [List.length_append, List.map_append, ← hn]; exact ho, (h.same.step hs (by simp)).grown hg fun k hk hl => ?_⟩
  have := (h.own.lt k hk).1
  omega

/-- A number of two bytes. -/
def two (n : Nat) : List UInt8 := [UInt8.ofNat (n / 256), UInt8.ofNat n]
def nums (l : List Nat) : List UInt8 := two l.length ++ l.flatMap two
theorem two_length (n : Nat) : (two n).length = 2 := rfl
theorem twos_length (l : List Nat) : (l.flatMap two).length = 2 * l.length := by
  induction l with
  | nil => rfl
  | cons a r ih => rw [List.flatMap_cons, List.length_append, ih, two_length, List.length_cons]; omega
theorem nums_length (l : List Nat) : (nums l).length = 2 + 2 * l.length := by rw [nums, List.length_append, two_length, twos_length]
theorem u8_wrap (n : Nat) : IntKind.u8.wrap (n : Int) = ((UInt8.ofNat n).toNat : Int) := by
  simp [IntKind.wrap, UInt8.toNat_ofNat', IntKind.signed, IntKind.bits]

theorem two_cells (n : Nat) (hn : n ≤ 65535) : (two n).map byteV = [.int .u8 ((n : Int) / 256), .int .u8 ((n : Int) % 256)] := by
  simp [two, byteV, UInt8.toNat_ofNat']
  omega
theorem one_cells (n : Nat) : [UInt8.ofNat n].map byteV = [.int .u8 ((n : Int) % 256)] := by
  simp [byteV, UInt8.toNat_ofNat']
theorem bytes_one : ∀ (l : List UInt8), ∀ u ∈ l.map byteV, u.oneCell' = true := fun l u hu => by
  obtain ⟨x, _, rfl⟩ := List.mem_map.1 hu; rfl
theorem cells_new {w : World} {l : List Value} {t : TypeId} : ∀ j u, l[j]? = some u → (w.alloc (.cells l.toArray t)).cell? ((⟨w.heap.size, 0, none⟩ : Addr).add j) = some u := by
  intro j u hj
  rw [Addr.add_lit, Nat.zero_add, (At.new w l.toArray t).cell?]
  simpa using hj

set_option maxHeartbeats 400000 in
set_option maxRecDepth 100000 in
theorem putNumber_calls (w0 w : World) (v : Value) (bs : List UInt8) (n : Nat) (h : Buf w0 w v bs) (hl : bs.length ≤ 100000) (hn : n ≤ 65535) :
    Calls Try.prog 37 #[v, .int .i64 n] w fun e w' => ∃ v', e = .returned v' ∧ Buf w0 w' v' (bs ++ two n) := by
  obtain ⟨a, cap, rfl⟩ := h.form
  obtain ⟨i0, hi, hz0, hz1, hz2⟩ := info_parts Try.info5
  have HT : Hid ((two n).map byteV = [.int .u8 ((n : Int) / 256), .int .u8 ((n : Int) % 256)]) := two_cells n hn
  have hz := h.same.size
  have HH : Hid (Buf w0 w (.slice a bs.length cap) bs) := h
  have hown := h.own
  clear h
  go_enter Try.func37, Try.ntmps37
  go_wp2_with (at_builtin; refine wpList_append_own _ rfl _ _ 25 rfl w0.heap.size 5 i0 (.int .u8 0) 1 1 Try.underlying25 hi hz0 hz1 hz2 rfl (by decide) _ _ _ rfl (hown.alloc _) ⟨w.heap.size, 0, none⟩ 2 2 [.int .u8 ((n : Int) / 256), .int .u8 ((n : Int) % 256)] rfl rfl ?c1 ?c2 ?c3 ?c4 ?c5 ?_)
  case c1 => exact cells_new
  case c2 => intro u hu; simp at hu; rcases hu with rfl | rfl <;> rfl
  case c3 => unfold maxLen; omega
  case c4 => omega
  case c5 => simp; omega
  intro v' w4 hown' hgrow _
  have HB : Hid (Buf w0 w4 v' (bs ++ two n)) := HH.out.app ((Same.refl _ _).alloc _) rfl (by rw [HT.out]; exact hown') hgrow
  clear hown' hgrow hown
  go_wp2
  go_ret
  exact ⟨_, rfl, HB.out⟩

/-- A list of numbers in memory, in a block of its own, or none. -/
structure NumsIn (w : World) (a : Option Addr) (l : List Nat) : Prop where
  nil : a = none → l = []
  at_ : ∀ x, a = some x → ∃ g cs, x = ⟨g, 0, none⟩ ∧ RowAt w g l cs
theorem NumsIn.new {w w' : World} {a : Option Addr} {l : List Nat} (h : NumsIn w a l) (hs : Same [] w w') : NumsIn w' a l := ⟨h.nil, fun x hx => by
  obtain ⟨g, cs, e, hn⟩ := h.at_ x hx
  exact ⟨g, cs, e, hn.same hs (by simp)⟩⟩
theorem NumsIn.of {w : World} {og : Option Nat} {cap : Nat} {l : List Nat} (h1 : og = none → l = [] ∧ cap = 0) (h2 : ∀ g, og = some g → NumsAt w g cap l) : NumsIn w (adr og) l := by
  refine ⟨fun e => ?_, fun x hx => ?_⟩
  · cases og with
    | none => exact (h1 rfl).1
    | some g => simp [adr] at e
  · cases og with
    | none => simp [adr] at hx
    | some g =>
      simp [adr] at hx
      obtain ⟨cs, q1, q2, q3, q4, q5⟩ := (h2 g rfl).ex
      exact ⟨g, cs, hx.symm, q1, q3, by omega⟩
theorem RowAt.cellAt {w : World} {g : Nat} {xs : List Nat} {cs : List Value} (h : RowAt w g xs cs) (i : Nat) (hi : i < xs.length) : w.cell? ⟨g, i, none⟩ = some (.int .i64 (xs[i]! : Nat)) := by
  rw [h.at_.cell?]; exact h.cell i hi

theorem take_twos (l : List Nat) (k : Nat) (hk : k < l.length) : (l.take (k + 1)).flatMap two = (l.take k).flatMap two ++ two l[k]! := by
  rw [List.take_succ_eq_append_getElem hk, List.flatMap_append, getElem!_pos l k hk]
  simp

set_option maxHeartbeats 800000 in
set_option maxRecDepth 100000 in
theorem putNumbers_calls (w0 w : World) (v : Value) (bs : List UInt8) (an : Option Addr) (cap : Nat) (l : List Nat) (h : Buf w0 w v bs) (hl : bs.length ≤ 50000) (hN : NumsIn w0 an l) (hll : l.length ≤ 200) (hx : ∀ x ∈ l, x ≤ 65535) :
    Calls Try.prog 81 #[v, .slice an l.length cap] w fun e w' => ∃ v', e = .returned v' ∧ Buf w0 w' v' (bs ++ nums l) := by
  have hP := putNumber_calls w0 w v bs l.length h (by omega) (by omega)
  have HN : Hid (NumsIn w0 an l) := hN
  have HX : Hid (∀ x ∈ l, x ≤ 65535) := hx
  have HPN : Hid (∀ (W : World) (v : Value) (bs : List UInt8) (n : Nat), Buf w0 W v bs → bs.length ≤ 100000 → n ≤ 65535 → Calls Try.prog 37 #[v, .int .i64 n] W fun e w' => ∃ v', e = .returned v' ∧ Buf w0 w' v' (bs ++ two n)) := fun W v bs n h1 h2 h3 => putNumber_calls w0 W v bs n h1 h2 h3
  clear h hN hx
  go_enter Try.func81, Try.ntmps81
  go_wp2_with (go_at_call 37; refine hP.mono ?_; rintro e w1 ⟨v1, rfl, hB1⟩)
  clear hP
  go_loopw [0, 13] (fun u i wr => ∃ k : Nat, k ≤ l.length ∧ i = .int .i64 k ∧ Buf w0 wr u (bs ++ two l.length ++ (l.take k).flatMap two)) (fun _ i _ => l.length - (intOf i).toNat)
  case atStart => exact ⟨0, Nat.zero_le _, rfl, by simpa using hB1⟩
  case round =>
    clear hB1
    obtain ⟨k, hk, rfl, hB⟩ := hrel
    by_cases hkl : k < l.length
    · obtain ⟨xa, hxa⟩ : ∃ xa, an = some xa := by
        cases an with
        | none => rw [HN.out.nil rfl] at hkl; simp at hkl
        | some g => exact ⟨g, rfl⟩
      obtain ⟨g, cs, rfl, hNg⟩ := HN.out.at_ xa hxa
      subst hxa
      have c1 := (hNg.same hB.same (by simp)).cellAt k hkl
      have hxk := HX.out (l[k]!) (by rw [getElem!_pos l k hkl]; exact List.getElem_mem hkl)
      have HT : Hid ((l.take (k + 1)).flatMap two = (l.take k).flatMap two ++ two l[k]!) := take_twos l k hkl
      have hlen : (bs ++ two l.length ++ (l.take k).flatMap two).length ≤ 100000 := by
        rw [List.length_append, List.length_append, twos_length, two_length, List.length_take]; omega
      have hP := HPN.out wr _ _ (l[k]!) hB hlen hxk
      generalize l[k]! = x at *
      have l1 : (k : Int) < (l.length : Int) := by omega
      clear hB hNg
      go_wp2_with (go_at_call 37; refine hP.mono ?_; rintro e w2 ⟨v2, rfl, hB2⟩)
      go_roundw
      case rel => exact ⟨k + 1, by omega, by go_num, by rw [HT.out, ← List.append_assoc]; exact hB2⟩
      case measure => simp [intOf]; omega
    · have ek : k = l.length := by omega
      subst ek
      have hE : bs ++ two l.length ++ (l.take l.length).flatMap two = bs ++ nums l := by rw [List.take_length, nums, List.append_assoc]
      rw [hE] at hB
      have HB : Hid _ := hB
      clear hB
      go_wp2
      go_ret
      exact ⟨_, rfl, HB.out⟩

/-- What an image tells of the kind. -/
def Vol.kindN (v : Vol) : Nat := if v.lost then 2 else if v.org.isSome then 1 else 0
set_option maxHeartbeats 400000 in
set_option maxRecDepth 100000 in
theorem kind_calls (v : Vol) (w : World) (h : VolAt w v) : Calls Try.prog 80 #[.pointer (some ⟨v.vb, 0, none⟩)] w fun e w' => e = .returned (.int .i64 v.kindN) ∧ w' = w := by
  have hI := isPicture_calls v w h
  obtain ⟨cap, kcap, _, hv, _⟩ := h.vol
  have c4 : w.cell? ⟨v.vb, 4, none⟩ = some (.bool v.lost) := hv.cell? 4
  unfold Vol.kindN
  cases hl : v.lost with
  | true =>
    rw [hl] at c4
    clear hI hv h
    go_enter Try.func80, Try.ntmps80
    go_wp2
    go_ret
    exact ⟨rfl, rfl⟩
  | false =>
    rw [hl] at c4
    cases ho : v.org.isSome with
    | true =>
      rw [ho] at hI
      clear hv h
      go_enter Try.func80, Try.ntmps80
      go_wp2_with (go_at_call 56; refine hI.mono ?_; rintro e w1 ⟨rfl, hw⟩; obtain rfl := hw.symm)
      go_ret
      exact ⟨rfl, rfl⟩
    | false =>
      rw [ho] at hI
      clear hv h
      go_enter Try.func80, Try.ntmps80
      go_wp2_with (go_at_call 56; refine hI.mono ?_; rintro e w1 ⟨rfl, hw⟩; obtain rfl := hw.symm)
      go_ret
      exact ⟨rfl, rfl⟩

/-- The sum of bytes. -/
def sumB (l : List UInt8) : Nat := l.foldl (fun n b => (n * 31 + b.toNat) % 65521) 1
theorem sumB_lt (l : List UInt8) : sumB l < 65521 := by
  unfold sumB
  have : ∀ (l : List UInt8) (n : Nat), n < 65521 → l.foldl (fun n b => (n * 31 + b.toNat) % 65521) n < 65521 := by
    intro l
    induction l with
    | nil => intro n h; exact h
    | cons a r ih => intro n _; exact ih _ (Nat.mod_lt _ (by omega))
  exact this l 1 (by omega)
theorem sumB_snoc (l : List UInt8) (b : UInt8) : sumB (l ++ [b]) = (sumB l * 31 + b.toNat) % 65521 := by
  unfold sumB; rw [List.foldl_append]; rfl

/-- Bytes in memory, in a row. -/
structure BytesAt (w : World) (a : Option Addr) (bs : List UInt8) : Prop where
  ex : bs ≠ [] → ∃ b off, a = some ⟨b, off, none⟩ ∧ ∀ i, i < bs.length → w.cell? ⟨b, off + i, none⟩ = some (byteV bs[i]!)

set_option maxHeartbeats 800000 in
set_option maxRecDepth 100000 in
theorem sum_calls (w : World) (a : Option Addr) (cap : Nat) (bs : List UInt8) (h : BytesAt w a bs) (hl : bs.length ≤ maxLen) :
    Calls Try.prog 41 #[.slice a bs.length cap] w fun e w' => e = .returned (.int .i64 (sumB bs)) ∧ w' = w := by
  unfold maxLen at hl
  have HH : Hid (BytesAt w a bs) := h
  have HTK : Hid (∀ k, k < bs.length → bs.take (k + 1) = bs.take k ++ [bs[k]!]) := fun k hk => by rw [List.take_succ_eq_append_getElem hk, getElem!_pos bs k hk]
  clear h
  go_enter Try.func41, Try.ntmps41
  go_wp2
  go_loopw [3, 8] (fun n i wr => ∃ k : Nat, k ≤ bs.length ∧ i = .int .i64 k ∧ n = .int .i64 (sumB (bs.take k)) ∧ wr = w) (fun _ i _ => bs.length - (intOf i).toNat)
  case atStart => exact ⟨0, Nat.zero_le _, rfl, rfl, rfl⟩
  case round =>
    obtain ⟨k, hk, rfl, rfl, rfl⟩ := hrel
    by_cases hkl : k < bs.length
    · obtain ⟨b, off, rfl, hc⟩ := HH.out.ex (by intro e; rw [e] at hkl; simp at hkl)
      have c1 := hc k hkl
      unfold byteV at c1
      have HS : Hid (sumB (bs.take (k + 1)) = (sumB (bs.take k) * 31 + (bs[k]!).toNat) % 65521) := by show _ = _; rw [HTK.out k hkl, sumB_snoc]
      have hlt := sumB_lt (bs.take k)
      have hbt := (bs[k]!).toNat_lt
      generalize sumB (bs.take k) = m at *
      generalize (bs[k]!).toNat = x at *
      have l1 : (k : Int) < (bs.length : Int) := by omega
      have hx1 : ((m : Int) * 31 + (x : Int)).tmod 65521 = (((m * 31 + x) % 65521 : Nat) : Int) := by
        rw [Int.tmod_eq_emod_of_nonneg (by omega)]; omega
      clear HH hc
      go_wp2
      go_roundw
      case rel => exact ⟨k + 1, by omega, by go_num, by rw [HS.out]; first | rfl | (simp; done) | (congr 1; omega), by first | rfl | trivial⟩
      case measure => simp [intOf]; omega
    · have ek : k = bs.length := by omega
      subst ek
      have HE : Hid (sumB (bs.take bs.length) = sumB bs) := by show _ = _; rw [List.take_length]
      clear HH
      go_wp2
      go_ret
      rw [HE.out]
      exact ⟨rfl, rfl⟩
end PartImgA

section PartPoolG
open Go.RowKit Go.Sort
set_option linter.unusedVariables false
set_option linter.unusedSimpArgs false
set_option linter.unusedSectionVars false
variable [DecidableEq Blk] [Inhabited Blk]
variable [Inhabited Vol]

theorem made_plain (s : St) (w : World) (h : PoolAt w s) :
    Calls Try.prog 36 #[.pointer (some ⟨s.pb, 0, none⟩)] w fun e w' => e = .returned (.bool true) ∧ w' = w := made_calls s w h
theorem index_plain (s : St) (t : ByteArray) (w : World) (h : PoolAt w s) :
    Calls Try.prog 82 #[.pointer (some ⟨s.pb, 0, none⟩), .string t] w fun e w' => e = .returned (.tuple #[.int .i64 (posOf s.names t : Nat), .bool (isIn s.names t)]) ∧ w' = w := index_calls s t w h

theorem runNot (x : Bool) (w : World) : (Op.unary .not (.bool x)).run Try.prog w = .ok (.bool (!x)) w := rfl


set_option maxHeartbeats 400000 in
theorem findNew_name (s : St) (t : ByteArray) (w : World) (h : PoolAt w s) (ht : t.size ≤ maxLen) (hn : nameB t = false) :
    Calls Try.prog 50 #[.pointer (some ⟨s.pb, 0, none⟩), .string t] w fun e w' => e = .returned (.tuple #[.int .i64 0, .int .i64 2]) ∧ w' = w := by
  have hm := made_plain s w h
  have hI := isName_calls t w ht
  rw [hn] at hI
  have hnot := runNot
  clear h ht
  generalize posOf s.names t = po at *
  go_enter Try.func50, Try.ntmps50
  go_wp2_with (first | (go_at_call 36; refine hm.mono ?_; rintro e w' ⟨rfl, rfl⟩) | (go_at_call 91; refine hI.mono ?_; rintro e w' ⟨rfl, rfl⟩))
  go_ret2
  exact ⟨rfl, rfl⟩

set_option maxHeartbeats 400000 in
theorem findNew_exists (s : St) (t : ByteArray) (w : World) (h : PoolAt w s) (ht : t.size ≤ maxLen) (hn : nameB t = true) (hx : s.has t = true) :
    Calls Try.prog 50 #[.pointer (some ⟨s.pb, 0, none⟩), .string t] w fun e w' => e = .returned (.tuple #[.int .i64 0, .int .i64 3]) ∧ w' = w := by
  have hm := made_plain s w h
  have hI := isName_calls t w ht
  rw [hn] at hI
  have hX := index_plain s t w h
  unfold St.has at hx
  rw [hx] at hX
  have hnot := runNot
  clear h ht
  generalize posOf s.names t = po at *
  go_enter Try.func50, Try.ntmps50
  go_wp2_with (first | (go_at_call 36; refine hm.mono ?_; rintro e w' ⟨rfl, rfl⟩) | (go_at_call 91; refine hI.mono ?_; rintro e w' ⟨rfl, rfl⟩) | (go_at_call 82; refine hX.mono ?_; rintro e w' ⟨rfl, rfl⟩))
  go_ret2
  exact ⟨rfl, rfl⟩

set_option maxHeartbeats 400000 in
theorem findNew_ok (s : St) (t : ByteArray) (w : World) (h : PoolAt w s) (ht : t.size ≤ maxLen) (hn : nameB t = true) (hx : s.has t = false) :
    Calls Try.prog 50 #[.pointer (some ⟨s.pb, 0, none⟩), .string t] w fun e w' => e = .returned (.tuple #[.int .i64 (posOf s.names t : Nat), .int .i64 0]) ∧ w' = w := by
  have hm := made_plain s w h
  have hI := isName_calls t w ht
  rw [hn] at hI
  have hX := index_plain s t w h
  unfold St.has at hx
  rw [hx] at hX
  have hnot := runNot
  clear h ht
  generalize posOf s.names t = po at *
  go_enter Try.func50, Try.ntmps50
  go_wp2_with (first | (go_at_call 36; refine hm.mono ?_; rintro e w' ⟨rfl, rfl⟩) | (go_at_call 91; refine hI.mono ?_; rintro e w' ⟨rfl, rfl⟩) | (go_at_call 82; refine hX.mono ?_; rintro e w' ⟨rfl, rfl⟩))
  go_ret2
  exact ⟨rfl, rfl⟩

theorem Good.all {s : St} {fr : List Nat} (h : Good s fr) : popsL s.m s.m s.d = fr.map (fun x : Nat => (x : Int)) := by
  have := (h.heap.pops s.m (Nat.le_refl _)).1
  rw [this, List.take_of_length_le (by rw [h.heap.len]; exact Nat.le_refl _)]

/-- Taken and given back: the same free blocks. -/
theorem Good.back {s : St} {fr : List Nat} (h : Good s fr) : HeapIs s.m (giveD 0 fr (popsD s.m s.m s.d)) fr := by
  have h1 := (h.heap.pops s.m (Nat.le_refl _)).2
  rw [Nat.sub_self, List.drop_of_length_le (by rw [h.heap.len]; exact Nat.le_refl _)] at h1
  have hnd : fr.Nodup := (List.nodup_append.1 h.nodup).1
  have h2 := HeapIs.gives fr h1 hnd (by simp) (by rw [popsD_size, Nat.zero_add, h.heap.len]; exact h.heap.size)
  rw [Nat.zero_add, h.heap.len] at h2
  have e : insAll fr [] = fr := sorted_ext _ _ h2.sorted h.heap.sorted (fun z => by rw [insAll_mem]; simp)
  rw [e] at h2
  exact h2

theorem PoolAt.withDisk {w w' : World} {s : St} (h : PoolAt w s) {S : List Nat} (hs : Same S w w') (hS : ∀ k ∈ S, k = s.db ∨ k = s.bb ∨ k = s.fb ∨ k ∉ s.foot) {m' : Nat} {bl' : List Blk} {d' : Array Int} (hd : DiskAt w' s.db s.bb s.fb s.n m' bl' d') : PoolAt w' { s with m := m', bl := bl', d := d' } := by
  have hap := apart_of h.nodup
  obtain ⟨cap, hp, h1, h2⟩ := h.pool
  have hne : ∀ k, k ∈ s.foot → k ∉ [s.db, s.bb, s.fb] → k ∉ S := fun k hk hd hm => by
    simp only [List.mem_cons, List.not_mem_nil, or_false, not_or] at hd
    rcases hS k hm with e | e | e | e
    · exact hd.1 e
    · exact hd.2.1 e
    · exact hd.2.2 e
    · exact e hk
  refine ⟨⟨cap, hs.at hp (hne _ s.foot_pb ?_), h1, h2⟩, fun b hb => ?_, hd, fun v hv => ?_, h.nodup, h.few, h.sorted, h.orgs⟩
  · have := hap.pb
    simp only [List.mem_cons, not_or, List.not_mem_nil, not_false_eq_true, and_true] at this ⊢
    exact ⟨this.1, this.2.1, this.2.2.1⟩
  · obtain ⟨cs, hc, h3⟩ := h.arr b hb
    have hb' : s.ab = some b := hb
    have q1 := hap.db
    have q2 := hap.bb
    have q3 := hap.fb
    simp only [hb', Option.toList_some, List.singleton_append, List.mem_cons, not_or] at q1 q2 q3
    refine ⟨cs, hs.at hc (hne b (s.foot_ab hb') ?_), h3⟩
    simp only [List.mem_cons, not_or, List.not_mem_nil, not_false_eq_true, and_true]
    exact ⟨fun e => q1.2.2.1 e.symm, fun e => q2.2.1 e.symm, fun e => q3.1 e.symm⟩
  · refine (h.vols v hv).same hs (fun k hk => hne k (s.foot_vol hv hk) ?_)
    have := hap.disk v hv k hk
    simp only [List.mem_cons, not_or, List.not_mem_nil, not_false_eq_true, and_true] at this ⊢
    exact ⟨this.2.1, this.2.2.1, this.2.2.2⟩

set_option maxHeartbeats 400000 in
theorem add_many (s : St) (i k : Int) (vb : Nat) (w : World) (h : PoolAt w s) (hv : 20 ≤ s.vols.length) :
    Calls Try.prog 52 #[.pointer (some ⟨s.pb, 0, none⟩), .int .i64 i, .pointer (some ⟨vb, 0, none⟩), .int .i64 k] w fun e w' => e = .returned (.int .i64 5) ∧ w' = w := by
  obtain ⟨cap, hp, _, _⟩ := h.pool
  have c2 : w.cell? ⟨s.pb, 2, none⟩ = some (.slice (s.ab.map fun b => ⟨b, 0, none⟩) s.vols.length cap) := hp.cell? 2
  have hf := h.few
  clear h hp
  go_enter Try.func52, Try.ntmps52
  go_wp2
  go_ret
  exact ⟨rfl, rfl⟩

set_option maxHeartbeats 1000000 in
theorem add_full (s : St) (fr : List Nat) (i : Int) (k vb : Nat) (w : World) (h : PoolAt w s) (hG : Good s fr) (hk : 1 ≤ k ∧ k ≤ 200) (hv : s.vols.length < 20) (hf : fr.length < k) :
    Calls Try.prog 52 #[.pointer (some ⟨s.pb, 0, none⟩), .int .i64 i, .pointer (some ⟨vb, 0, none⟩), .int .i64 k] w fun e w' => e = .returned (.int .i64 6) ∧ ∃ d', After w s w' { s with d := d' } fr := by
  have hT := take_calls s.db s.bb s.fb s.n s.m k s.bl s.d fr w _ _ rfl rfl (by omega) h.disk hG.all hG.lt.1
  obtain ⟨cap, hp, _, _⟩ := h.pool
  have c1 : w.cell? ⟨s.pb, 1, none⟩ = some (.pointer (some ⟨s.db, 0, none⟩)) := hp.cell? 1
  have c2 : w.cell? ⟨s.pb, 2, none⟩ = some (.slice (s.ab.map fun b => ⟨b, 0, none⟩) s.vols.length cap) := hp.cell? 2
  have H : Hid (PoolAt w s ∧ Good s fr) := ⟨h, hG⟩
  have hml := hG.heap.len
  clear h hG hp
  have l0 : (s.vols.length : Int) < 20 := by omega
  go_enter Try.func52, Try.ntmps52
  go_wp2_with fail
  refine hT.mono ?_
  rintro e w1 (⟨h1, _⟩ | ⟨_, rfl, hD, hS⟩)
  · omega
  go_wp2
  go_ret
  obtain ⟨h, hG⟩ := H.out
  have e0 : giveB fr s.bl = s.bl := giveB_zero fr s.bl fun x hx => ⟨by rw [h.disk.len]; exact hG.lt.1 x hx, hG.zero x hx⟩
  rw [e0] at hD
  refine ⟨rfl, _, ⟨h.withDisk hS (by intro k hk; simp at hk; rcases hk with e | e | e <;> simp [e]) hD, ⟨hG.back, hG.parts, hG.zero, hG.names, hG.pics⟩, hS.mono (by simp [St.foot]), fun k hk => Or.inl hk, rfl, rfl⟩⟩
end PartPoolG
end Go.Proofs.Ytpddgdjocffgdaa
