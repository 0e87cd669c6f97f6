/- The document's own answer: Write to a volume, by contract. The document's own answer: Resize, by contract. The reference's reader of an image: one entry: what it reads, and the memory on the way. -/
import Derived.Test.YtpddgdjocffgdaaG20
import Derived.Maps.AppendAt
import Derived.Test.YtpddgdjocffgdaaG17
import Derived.Deep.DeepCutAuto
import Derived.Deep.RegionHeld3
namespace Go.Proofs.Ytpddgdjocffgdaa
set_option linter.unusedVariables false
set_option linter.unusedSimpArgs false
set_option linter.unusedSectionVars false
section
open Go.RowKit Go.Sort
variable [DecidableEq Blk] [Inhabited Blk] [Inhabited Vol] [Inhabited RVol]
/-- The reference's volumes behind a Write to one of them. -/
structure RWrote (a b : List RVol) (iu k : Nat) (t y : ByteArray) : Prop where
  len : b.length = a.length
  same : ∀ j, j < a.length → (b[j]!).name = (a[j]!).name ∧ (b[j]!).of_ = (a[j]!).of_ ∧ (b[j]!).blocks = (a[j]!).blocks
  data : ∀ j, j < a.length → (b[j]!).data = if j = iu then (a[j]!).data.set k y else (a[j]!).data
  kept : ∀ j, j < a.length → ((b[j]!).kept, (b[j]!).lost) = if (a[j]!).of_ = t ∧ (a[j]!).lost = false then rkeep k (a[j]!) else ((a[j]!).kept, (a[j]!).lost)
/-- So many of them have kept the place. -/
structure KeptUp (a b : List RVol) (t : ByteArray) (k j : Nat) : Prop where
  len : b.length = a.length
  same : ∀ m, m < a.length → RSameK (a[m]!) (b[m]!)
  did : ∀ m, m < j → m < a.length → ((b[m]!).kept, (b[m]!).lost) = if (a[m]!).of_ = t ∧ (a[m]!).lost = false then rkeep k (a[m]!) else ((a[m]!).kept, (a[m]!).lost)
  rest : ∀ m, j ≤ m → m < a.length → b[m]! = a[m]!
theorem KeptUp.start (a : List RVol) (t : ByteArray) (k : Nat) : KeptUp a a t k 0 := ⟨rfl, fun m _ => RSameK.refl _, fun m hm => by omega, fun m _ _ => rfl⟩
theorem KeptUp.skip {a b : List RVol} {t : ByteArray} {k j : Nat} (h : KeptUp a b t k j) (hn : j < a.length → ¬ ((a[j]!).of_ = t ∧ (a[j]!).lost = false)) : KeptUp a b t k (j + 1) := by
  refine ⟨h.len, h.same, fun m hm hl => ?_, fun m hm hl => h.rest m (by omega) hl⟩
  by_cases e : m < j
  · exact h.did m e hl
  · have e' : m = j := by omega
    subst e'
    rw [if_neg (hn hl), h.rest m (Nat.le_refl _) hl]
theorem KeptUp.step {a b : List RVol} {t : ByteArray} {k j : Nat} (h : KeptUp a b t k j) (hj : j < a.length) (v1 : RVol) (hs : RSameK (a[j]!) v1) (hk : (v1.kept, v1.lost) = rkeep k (a[j]!)) (hy : (a[j]!).of_ = t ∧ (a[j]!).lost = false) : KeptUp a (b.set j v1) t k (j + 1) := by
  have hjb : j < b.length := by rw [h.len]; exact hj
  have hg : ∀ m, m < a.length → (b.set j v1)[m]! = if m = j then v1 else b[m]! := fun m hm => by
    rw [getElem!_pos _ m (by rw [List.length_set, h.len]; exact hm), List.getElem_set]
    by_cases e : j = m
    · rw [if_pos e, if_pos e.symm]
    · rw [if_neg e, if_neg (fun q => e q.symm), getElem!_pos b m (by rw [h.len]; exact hm)]
  refine ⟨by rw [List.length_set]; exact h.len, fun m hm => ?_, fun m hm hl => ?_, fun m hm hl => ?_⟩
  · rw [hg m hm]
    by_cases e : m = j
    · rw [if_pos e, e]; exact hs
    · rw [if_neg e]; exact h.same m hm
  · rw [hg m hl]
    by_cases e : m = j
    · rw [if_pos e, e, if_pos hy]; exact hk
    · rw [if_neg e]; exact h.did m (by omega) hl
  · rw [hg m hl, if_neg (by omega)]; exact h.rest m (by omega) hl
theorem KeptUp.done {a b : List RVol} {t y : ByteArray} {k iu : Nat} (h : KeptUp a b t k a.length) (hi : iu < a.length) : RWrote a (b.set iu { (b[iu]!) with data := (b[iu]!).data.set k y }) iu k t y := by
  have hg : ∀ m, m < a.length → (b.set iu { (b[iu]!) with data := (b[iu]!).data.set k y })[m]! = if m = iu then { (b[iu]!) with data := (b[iu]!).data.set k y } else b[m]! := fun m hm => by
    rw [getElem!_pos _ m (by rw [List.length_set, h.len]; exact hm), List.getElem_set]
    by_cases e : iu = m
    · rw [if_pos e, if_pos e.symm]
    · rw [if_neg e, if_neg (fun q => e q.symm), getElem!_pos b m (by rw [h.len]; exact hm)]
  refine ⟨by rw [List.length_set]; exact h.len, fun m hm => ?_, fun m hm => ?_, fun m hm => ?_⟩
  · rw [hg m hm]
    have hs := h.same m hm
    by_cases e : m = iu
    · rw [if_pos e]; subst e; exact ⟨hs.name, hs.of_, hs.blocks⟩
    · rw [if_neg e]; exact ⟨hs.name, hs.of_, hs.blocks⟩
  · rw [hg m hm]
    have hs := h.same m hm
    by_cases e : m = iu
    · rw [if_pos e, if_pos e]; subst e; show (b[m]!).data.set k y = _; rw [hs.data]
    · rw [if_neg e, if_neg e]; exact hs.data
  · rw [hg m hm]
    by_cases e : m = iu
    · rw [if_pos e]; subst e; exact h.did m hm hm
    · rw [if_neg e]; exact h.did m hm hm
theorem RVol.parts {v : RVol} (h : v.foot.Nodup) : v.vb ≠ v.dg ∧ v.vb ≠ v.bg ∧ (∀ g, v.kg = some g → v.vb ≠ g ∧ v.dg ≠ g ∧ v.bg ≠ g) ∧ v.dg ≠ v.bg := by
  simp only [RVol.foot, List.nodup_cons, List.mem_cons, not_or] at h
  refine ⟨h.1.1, h.1.2.1, fun g hg => ?_, h.2.1.1⟩
  rw [hg] at h
  simp at h
  exact ⟨h.1.2.2, h.2.1.2, h.2.2⟩
theorem RAfter.old {w0 w w' : World} {s s' : RSt} (h : RAfter w s w' s') (h0 : Same [] w0 w) : RAfter w0 s w' s' :=
  ⟨h.ref, h.nodup, (h0.mono (T := s.foot) (by simp)).step h.same (fun k hk _ => hk), fun k hk => (h.foot k hk).imp id fun e => Nat.le_trans h0.size e, h.rb, h.n⟩
/-- A volume that has grown by so many. -/
def RVol.grown (v : RVol) (g bg : Nat) (fl : List Nat) (j : Nat) : RVol := { v with dg := g, bg := bg, data := v.data ++ List.replicate j zero8, blocks := v.blocks ++ fl.take j }
theorem step_append_own_at {P : Program} {ops : Array Oper} {o : Oper} {a : Act} {w : World} {K : Act → World → Prop} {Q : Exit → Act → World → Prop} {E : Prop}
    (hg : o.guard = none) (s x : Operand) (t : TypeId) (hop : o.op = Op.call { callee := Callee.builtin Builtin.append, args := #[s, x], argTypes := #[t, t] })
    (base : Nat) (e : TypeId) (i : TypeInfo) (z : Value) (size bytes : Nat) (h1 : P.underlying t = some (.slice e)) (h2 : P.info? e = some i) (h3 : i.zero = some z) (h4 : i.size = size) (h5 : i.bytes = bytes) (h6 : z.cells.size = size) (h7 : 0 < size)
    (v : Value) (n : Nat) (xs : List Value) (hs : a.eval s = v) (hown : w.ownsRow base e size v n xs)
    (ad : Addr) (m c : Nat) (news : List Value) (hx : a.eval x = .slice (some ad) m c) (hn : news.length = m * size) (hc : ∀ j u, news[j]? = some u → w.cell? (ad.add j) = some u) (h1c : ∀ u ∈ news, u.oneCell' = true)
    (b1 : n + m ≤ maxLen) (b2 : (n + m) * bytes ≤ 140737488355328) (b3 : base ≤ w.heap.size)
    (hK : ∀ v' w', w'.ownsRow base e size v' (n + m) (xs ++ news) → w.grownBy w' v.ownBlock → (v'.ownBlock = v.ownBlock ∨ v'.ownBlock = some w.heap.size) → K (a.put o.dst v') w') :
    if Region.wanted o (yielded ops a.tmps) = true then Oper.wp P o a w K Q else E := by
  have hw : Region.wanted o (yielded ops a.tmps) = true := by simp [Region.wanted, hg]
  rw [if_pos hw]
  obtain ⟨v', w', hrun, r1, r2, _, r3⟩ := run_append_own_at (P := P) w base t o.type e i z size bytes h1 h2 h3 h4 h5 h6 h7 v n xs hown ad m c news hn hc h1c b1 b2 b3
  unfold Oper.wp
  simp [execOp, hop, resolve, invoke, builtin, hs, hx, hrun, Result.andThen]
  exact hK v' w' r1 r2 r3
/-- An entry as the reference reads it. -/
structure REnt where
  name : ByteArray
  size : Nat
  origin : Option Nat
  oat : Nat
  xs : List Nat
  kept : List Nat
  lost : Bool
/-- The head of an entry: its name, kind, size, the place behind. -/
structure RHead where
  name : ByteArray
  kind : Nat
  size : Nat
  at_ : Nat
  bd : Option Nat
def aheadX (ahead : Option ByteArray) (t : ByteArray) (at_ : Nat) (bd : Option Nat) : Option Nat :=
  match ahead with
  | none => bd
  | some u => mustB bd (decide (cmpB u t < 0)) at_
def headX (B : List UInt8) (ahead : Option ByteArray) (a0 : Nat) (b0 : Option Nat) : RHead :=
  let x1 := numX B 1 a0 b0
  let b1 := mustB x1.2.2 (decide (1 ≤ x1.1 ∧ x1.1 ≤ 10)) a0
  let x2 := takeX B x1.1 x1.2.1 b1
  let b2 := mustB x2.2.2 (nameB x2.1) x1.2.1
  let b3 := aheadX ahead x2.1 x1.2.1 b2
  let x4 := numX B 1 x2.2.1 b3
  let b4 := mustB x4.2.2 (decide (x4.1 ≤ 2)) x2.2.1
  let x5 := numX B 2 x4.2.1 b4
  let b5 := mustB x5.2.2 (decide (1 ≤ x5.1 ∧ x5.1 ≤ 200)) x4.2.1
  ⟨x2.1, x4.1, x5.1, x5.2.1, b5⟩
/-- Its blocks. -/
def tailX (B : List UInt8) (bound : Nat) (used : List Nat) (kind size a0 : Nat) (b0 : Option Nat) : Nat × List Nat × Nat × Option Nat :=
  let x7 := numX B 2 a0 b0
  let b7 := mustB x7.2.2 (decide (1 ≤ x7.1 ∧ x7.1 ≤ size ∧ (0 < kind ∨ x7.1 = size))) a0
  (x7.1, numsX B bound x7.1 used x7.2.1 b7)
def keptX (B : List UInt8) (kind n size a0 : Nat) (b0 : Option Nat) : List Nat × Nat × Option Nat :=
  let x9 := numX B 2 a0 b0
  let b9 := mustB x9.2.2 (decide (x9.1 ≤ n ∧ (kind = 1 ∨ x9.1 = 0))) a0
  numsX B size x9.1 [] x9.2.1 b9
/-- Its origin. -/
def orgX (B : List UInt8) (count kind a0 : Nat) (b0 : Option Nat) : Option Nat × Nat × Nat × Option Nat :=
  if kind = 0 then (none, 0, a0, b0) else (some (numX B 1 a0 b0).1, a0, (numX B 1 a0 b0).2.1, mustB (numX B 1 a0 b0).2.2 (decide ((numX B 1 a0 b0).1 < count)) a0)
def orgI : Option Nat → Int
  | none => -1
  | some o => o
def entryX (B : List UInt8) (ahead : Option ByteArray) (bound count : Nat) (used : List Nat) (a0 : Nat) (b0 : Option Nat) : REnt × List Nat × Nat × Option Nat :=
  let h := headX B ahead a0 b0
  let o := orgX B count h.kind h.at_ h.bd
  let t := tailX B bound used h.kind h.size o.2.2.1 o.2.2.2
  let k := if h.kind = 0 then ([], t.2.2) else keptX B h.kind t.1 h.size t.2.2.1 t.2.2.2
  (⟨h.name, h.size, o.1, o.2.1, t.2.1.drop used.length, k.1, decide (h.kind = 2)⟩, t.2.1, k.2)
theorem ScAt.must_eq {w0 w : World} {sb : Nat} {B : List UInt8} {at_ q : Nat} {bd : Option Nat} {ok ok' : Bool} (h : ScAt w0 w sb B at_ (mustB bd ok q)) (e : ok = ok') : ScAt w0 w sb B at_ (mustB bd ok' q) := e ▸ h
theorem text_less (t u : ByteArray) : Op.bytesLess t.toList u.toList = decide (cmpB t u < 0) := by
  rw [ByteArray.toList_eq, ByteArray.toList_eq]; exact lessL _ _
theorem takeX_size (B : List UInt8) (n at_ : Nat) (bd : Option Nat) : (takeX B n at_ bd).1.size ≤ n := (numX_take B n at_ bd).2.2
/-- The memory on the way. -/
structure EMid (w0 w W : World) (sb : Nat) (B : List UInt8) (at_ : Nat) (bd : Option Nat) (S : List Nat) (ec vc : List Value) : Prop where
  sc : ScAt w0 W sb B at_ bd
  ent : At W (w.heap.size + 1) 132 ec
  vol : At W w.heap.size 162 vc
  same : Same (sb :: S) w W
  lt : sb < w.heap.size
  low : w0.heap.size ≤ w.heap.size
theorem EMid.call {w0 w W W' : World} {sb : Nat} {B : List UInt8} {at_ at1 : Nat} {bd bd1 : Option Nat} {S : List Nat} {ec vc : List Value} (h : EMid w0 w W sb B at_ bd S ec vc) (hs : ScAt w0 W' sb B at1 bd1) (hS : Same [sb] W W') : EMid w0 w W' sb B at1 bd1 S ec vc :=
  ⟨hs, hS.at h.ent (by have := h.lt; simp; omega), hS.at h.vol (by have := h.lt; simp; omega), h.same.step hS (fun k hk _ => by simp at hk; simp [hk]), h.lt, h.low⟩
theorem EMid.drew {w0 w W : World} {sb : Nat} {B : List UInt8} {at_ : Nat} {bd : Option Nat} {S : List Nat} {ec vc : List Value} (h : EMid w0 w W sb B at_ bd S ec vc) : EMid w0 w W.drew sb B at_ bd S ec vc :=
  ⟨h.sc.next ((Same.refl [] W).drew) (by simp) (by simp), h.ent.drew, h.vol.drew, h.same.drew, h.lt, h.low⟩
theorem EMid.setE {w0 w W : World} {sb : Nat} {B : List UInt8} {at_ : Nat} {bd : Option Nat} {S : List Nat} {ec vc : List Value} (h : EMid w0 w W sb B at_ bd S ec vc) (i : Nat) (v : Value) : EMid w0 w (W.setCell ⟨w.heap.size + 1, i, none⟩ v) sb B at_ bd S (ec.set i v) vc := by
  have hlt := h.lt
  have hlo := h.low
  have S1 : Same [w.heap.size + 1] W (W.setCell ⟨w.heap.size + 1, i, none⟩ v) := (Same.refl _ _).set _ _ _ (by simp)
  exact ⟨h.sc.next S1 (by simp; omega) (by intro k hk; simp at hk; omega), h.ent.set_same i v, h.vol.set_other _ _ _ (by omega), h.same.step S1 (fun k hk hl => by simp at hk; omega), h.lt, h.low⟩
theorem EMid.setV {w0 w W : World} {sb : Nat} {B : List UInt8} {at_ : Nat} {bd : Option Nat} {S : List Nat} {ec vc : List Value} (h : EMid w0 w W sb B at_ bd S ec vc) (i : Nat) (v : Value) : EMid w0 w (W.setCell ⟨w.heap.size, i, none⟩ v) sb B at_ bd S ec (vc.set i v) := by
  have hlt := h.lt
  have hlo := h.low
  have S1 : Same [w.heap.size] W (W.setCell ⟨w.heap.size, i, none⟩ v) := (Same.refl _ _).set _ _ _ (by simp)
  exact ⟨h.sc.next S1 (by simp; omega) (by intro k hk; simp at hk; omega), h.ent.set_other _ _ _ (by omega), h.vol.set_same i v, h.same.step S1 (fun k hk hl => by simp at hk; omega), h.lt, h.low⟩
theorem EMid.new {w0 w W W' : World} {sb : Nat} {B : List UInt8} {at_ : Nat} {bd : Option Nat} {S : List Nat} {ec vc : List Value} (h : EMid w0 w W sb B at_ bd S ec vc) (hS : Same [] W W') : EMid w0 w W' sb B at_ bd S ec vc :=
  ⟨h.sc.next hS (by simp) (by simp), hS.at h.ent (by simp), hS.at h.vol (by simp), h.same.step hS (by simp), h.lt, h.low⟩
theorem step_append_none {P : Program} {ops : Array Oper} {o : Oper} {a : Act} {w : World} {K : Act → World → Prop} {Q : Exit → Act → World → Prop} {E : Prop}
    (hg : o.guard = none) (s x : Operand) (t : TypeId) (hop : o.op = Op.call { callee := Callee.builtin Builtin.append, args := #[s, x], argTypes := #[t, t] })
    (base : Nat) (e : TypeId) (i : TypeInfo) (size : Nat) (h1 : P.underlying t = some (.slice e)) (h2 : P.info? e = some i)
    (v : Value) (n : Nat) (xs : List Value) (hs : a.eval s = v) (hown : w.ownsRow base e size v n xs) (hx : a.eval x = .slice none 0 0)
    (hK : K (a.put o.dst v) w) :
    if Region.wanted o (yielded ops a.tmps) = true then Oper.wp P o a w K Q else E := by
  have hw : Region.wanted o (yielded ops a.tmps) = true := by simp [Region.wanted, hg]
  rw [if_pos hw]
  have hrun := run_append_owned_none (P := P) w base t o.type e i size h1 h2 v n xs hown
  unfold Oper.wp
  simp [execOp, hop, resolve, invoke, builtin, hs, hx, hrun, Result.andThen]
  exact hK
/-- Nothing onto nil. -/
theorem step_append_zero {P : Program} {ops : Array Oper} {o : Oper} {a : Act} {w : World} {K : Act → World → Prop} {Q : Exit → Act → World → Prop} {E : Prop}
    (hg : o.guard = none) (s x : Operand) (t : TypeId) (hop : o.op = Op.call { callee := Callee.builtin Builtin.append, args := #[s, x], argTypes := #[t, t] })
    (e : TypeId) (i : TypeInfo) (z : Value) (size bytes : Nat) (h1 : P.underlying t = some (.slice e)) (h2 : P.info? e = some i) (h3 : i.zero = some z) (h4 : i.size = size) (h5 : i.bytes = bytes) (h6 : z.cells.size = size) (h7 : 0 < size)
    (hs : a.eval s = .slice none 0 0) (ad : Addr) (c : Nat) (hx : a.eval x = .slice (some ad) 0 c)
    (hK : ∀ w', Same [] w w' → K (a.put o.dst (.slice none 0 0)) w') :
    if Region.wanted o (yielded ops a.tmps) = true then Oper.wp P o a w K Q else E := by
  have hw : Region.wanted o (yielded ops a.tmps) = true := by simp [Region.wanted, hg]
  rw [if_pos hw]
  obtain ⟨v', w', hrun, r1, r2, r3, r4⟩ := run_append_own_at (P := P) w w.heap.size t o.type e i z size bytes h1 h2 h3 h4 h5 h6 h7 (.slice none 0 0) 0 [] (World.ownsRow_nil _ _ _ _) ad 0 c [] (by simp) (by intro j u hj; simp at hj) (by simp) (by unfold maxLen; omega) (by omega) (Nat.le_refl _)
  obtain rfl := r3.2 ⟨rfl, rfl⟩
  unfold Oper.wp
  simp [execOp, hop, resolve, invoke, builtin, hs, hx, hrun, Result.andThen]
  exact hK w' ((Same.refl [] w).grown r2 (fun j hj hl => by simp [Value.ownBlock] at hj))
/-- What stood ahead: the last entry's name, in memory. -/
structure AheadAt (w : World) (a : Option Addr) (m : Nat) (ahead : Option ByteArray) (sb : Nat) (S : List Nat) : Prop where
  no : m = 0 → ahead = none
  ex : m ≠ 0 → ∃ t ag pe pv cs ce cv, ahead = some t ∧ a = some ⟨ag, 0, none⟩ ∧ At w ag 127 cs ∧ cs[m - 1]? = some (ptr pe) ∧ At w pe 132 ce ∧ ce[0]? = some (ptr pv) ∧ At w pv 162 cv ∧ cv[0]? = some (.string t) ∧ ag ∉ sb :: S ∧ pe ∉ sb :: S ∧ pv ∉ sb :: S
/-- A statement list without its first ones. -/
def dropSeq : Nat → Code → Code
  | 0, c => c
  | n + 1, .seq _ b => dropSeq n b
  | _ + 1, c => c
theorem owns_but {w w' : World} {base : Nat} {e : TypeId} {size : Nat} {v : Value} {n : Nat} {xs : List Value} (h : w.ownsRow base e size v n xs) {S : List Nat} (hs : Same S w w') (hS : ∀ g, v.ownBlock = some g → g ∉ S) : w'.ownsRow base e size v n xs := by
  refine ⟨h.1, ?_⟩
  rcases h.2 with h | ⟨g, cap, cur, h1, h2, h3, h4⟩
  · exact Or.inl h
  · refine Or.inr ⟨g, cap, cur, h1, h2, ?_, h4⟩
    have hl : g < w.heap.size := by
      rcases Nat.lt_or_ge g w.heap.size with h' | h'
      · exact h'
      · rw [Array.getElem?_eq_none h'] at h3; cases h3
    rw [hs.block g hl (hS g (by rw [h1]; rfl))]
    exact h3
/-- What entry leaves. -/
structure EntX (w0 w w' : World) (sb base : Nat) (B : List UInt8) (lv allv bv kv : Value) (r : REnt × List Nat × Nat × Option Nat) : Prop where
  sc : ScAt w0 w' sb B r.2.2.1 r.2.2.2
  ent : At w' (w.heap.size + 1) 132 [.pointer (some ⟨w.heap.size, 0, none⟩), .int .i64 (r.1.size : Int), .int .i64 (orgI r.1.origin), .int .i64 (r.1.oat : Int)]
  vol : At w' w.heap.size 162 [.string r.1.name, .string ⟨#[]⟩, .slice none 0 0, bv, kv, .bool r.1.lost]
  all : w'.ownsRow base 3 1 allv r.2.1.length (intsV r.2.1)
  lies : allv.ownBlock = lv.ownBlock ∨ ∃ g, allv.ownBlock = some g ∧ w.heap.size + 2 ≤ g
  rows : ∃ hb hk, w.heap.size + 2 ≤ hb ∧ (∀ g, allv.ownBlock = some g → g < hb) ∧ w'.ownsRow hb 3 1 bv r.1.xs.length (intsV r.1.xs) ∧ hb ≤ hk ∧ (∀ g, bv.ownBlock = some g → g < hk) ∧ w'.ownsRow hk 3 1 kv r.1.kept.length (intsV r.1.kept)
  same : Same (sb :: lv.ownBlock.toList) w w'
end
end Go.Proofs.Ytpddgdjocffgdaa
