/- The document's own answer: Create up to add, by a contract. The document's own answer: what add refuses, by contracts. The document's own answer: what it has in memory; names compared; a volume put in its place. The document's own answer: add, by contract. The document's own answer: add to an empty list; Create that makes, by contract. The document's own answer: one volume told otherwise; Revert, by contract. -/
import Derived.Test.YtpddgdjocffgdaaG18
import Derived.Deep.RegionLawGrows
import Derived.Test.YtpddgdjocffgdaaG04
import Derived.Test.YtpddgdjocffgdaaG11
namespace Go.Proofs.Ytpddgdjocffgdaa
section PartRefM
open Go.RowKit Go.Sort
set_option linter.unusedVariables false
set_option linter.unusedSimpArgs false
set_option linter.unusedSectionVars false
variable [DecidableEq Blk] [Inhabited Blk]
variable [Inhabited Vol]
variable [Inhabited RVol]

theorem Try.infoStr : (Try.prog.info? 9).map (fun i => (i.zero, i.size, i.bytes)) = some (some (.string ⟨#[]⟩), 1, 16) := by kernel_rfl

/-- A volume that is made, and has no blocks yet. -/
structure Bare (w : World) (vb : Nat) (t of_ : ByteArray) (base : Nat) (data : List ByteArray) : Prop where
  ex : ∃ u, At w vb 162 [.string t, .string of_, u, .slice none 0 0, .slice none 0 0, .bool false] ∧ w.ownsRow base 9 1 u data.length (data.map Value.string)
end PartRefM

section PartRefN
open Go.RowKit Go.Sort
set_option linter.unusedVariables false
set_option linter.unusedSimpArgs false
set_option linter.unusedSectionVars false
variable [DecidableEq Blk] [Inhabited Blk]
variable [Inhabited Vol]
variable [Inhabited RVol]
end PartRefN

section PartRefO
open Go.RowKit Go.Sort
set_option linter.unusedVariables false
set_option linter.unusedSimpArgs false
set_option linter.unusedSectionVars false
variable [DecidableEq Blk] [Inhabited Blk]
variable [Inhabited Vol]
variable [Inhabited RVol]

def RVol.foot (v : RVol) : List Nat := v.vb :: v.dg :: v.bg :: v.kg.toList
def RSt.foot (s : RSt) : List Nat := s.rb :: (s.lg.toList ++ s.vols.flatMap RVol.foot)
theorem RSt.foot_rb (s : RSt) : s.rb ∈ s.foot := by simp [RSt.foot]
theorem RSt.foot_lg (s : RSt) {b : Nat} (h : s.lg = some b) : b ∈ s.foot := by simp [RSt.foot, h]
theorem RSt.foot_vol (s : RSt) {v : RVol} (hv : v ∈ s.vols) {k : Nat} (hk : k ∈ v.foot) : k ∈ s.foot := by
  simp only [RSt.foot, List.mem_cons, List.mem_append, List.mem_flatMap]
  exact Or.inr (Or.inr ⟨v, hv, hk⟩)
theorem RSt.foot_cases {s : RSt} {k : Nat} (h : k ∈ s.foot) : k = s.rb ∨ s.lg = some k ∨ ∃ v ∈ s.vols, k ∈ v.foot := by
  simp only [RSt.foot, List.mem_cons, List.mem_append, List.mem_flatMap, Option.mem_toList] at h
  rcases h with h | h | h
  · exact Or.inl h
  · exact Or.inr (Or.inl (by simpa using h))
  · exact Or.inr (Or.inr h)
theorem RVolAt.sameF {w w' : World} {v : RVol} (h : RVolAt w v) {S : List Nat} (hs : Same S w w') (hd : ∀ k ∈ v.foot, k ∉ S) : RVolAt w' v := by
  obtain ⟨dc, bc, kc, a1, a2, a3, a4, a5⟩ := h.ex
  refine ⟨⟨dc, bc, kc, hs.at a1 (hd _ (by simp [RVol.foot])), a2.same hs (hd _ (by simp [RVol.foot])), a3.same hs (hd _ (by simp [RVol.foot])), a4, fun g hg => (a5 g hg).same hs (hd _ (by simp [RVol.foot, hg]))⟩, h.data, h.blocks, h.kept⟩
theorem RVolAt.foot_lt {w : World} {v : RVol} (h : RVolAt w v) : ∀ k ∈ v.foot, k < w.heap.size := by
  obtain ⟨dc, bc, kc, a1, a2, a3, a4, a5⟩ := h.ex
  intro k hk
  simp only [RVol.foot, List.mem_cons, Option.mem_toList] at hk
  rcases hk with rfl | rfl | rfl | hk
  · exact a1.lt
  · obtain ⟨cs, h1, _⟩ := a2.ex; exact h1.lt
  · exact a3.lt
  · exact (a5 k (by simpa using hk)).lt
theorem RefAt.sameF {w w' : World} {s : RSt} (h : RefAt w s) {S : List Nat} (hs : Same S w w') (hd : ∀ k ∈ s.foot, k ∉ S) : RefAt w' s := by
  obtain ⟨cap, hp, h1, h2⟩ := h.pool
  refine ⟨⟨cap, hs.at hp (hd _ s.foot_rb), h1, h2⟩, fun b hb => ?_, fun v hv => (h.vols v hv).sameF hs fun k hk => hd k (s.foot_vol hv hk), h.few, h.n⟩
  obtain ⟨cs, hc, h3⟩ := h.arr b hb
  exact ⟨cs, hs.at hc (hd _ (s.foot_lg hb)), h3⟩
theorem RefAt.foot_lt {w : World} {s : RSt} (h : RefAt w s) : ∀ k ∈ s.foot, k < w.heap.size := by
  intro k hk
  rcases RSt.foot_cases hk with rfl | hb | ⟨v, hv, hk⟩
  · obtain ⟨cap, hp, _⟩ := h.pool; exact hp.lt
  · obtain ⟨cs, hc, _⟩ := h.arr k hb; exact hc.lt
  · exact (h.vols v hv).foot_lt k hk

theorem bytesLess_cmp : ∀ (a b : List UInt8), Op.bytesLess a b = decide (Lib.compareBytes a b < 0)
  | [], [] => by simp [Op.bytesLess, Lib.compareBytes]
  | [], _ :: _ => by simp [Op.bytesLess, Lib.compareBytes]
  | _ :: _, [] => by simp [Op.bytesLess, Lib.compareBytes]
  | x :: a, y :: b => by
    have ih := bytesLess_cmp a b
    unfold Op.bytesLess Lib.compareBytes
    by_cases hxy : x < y
    · simp [hxy]
    · by_cases hyx : y < x
      · have hne : x ≠ y := fun e => by subst e; exact UInt8.lt_irrefl _ hyx
        simp [hxy, hyx, hne]
      · have e : x = y := UInt8.le_antisymm (UInt8.not_lt.1 hyx) (UInt8.not_lt.1 hxy)
        subst e
        simp [ih, UInt8.lt_irrefl]
theorem less_cmp (a b : ByteArray) : Op.bytesLess a.toList b.toList = decide (cmpB a b < 0) := by
  rw [ByteArray.toList_eq, ByteArray.toList_eq]; exact bytesLess_cmp _ _

/-- A new volume of the reference, with its blocks, in its place. -/
def insR (i : Nat) (v : RVol) (l : List RVol) : List RVol := l.take i ++ v :: l.drop i
structure AddAt (w w' : World) (s : RSt) (vb : Nat) (t of_ : ByteArray) (data : List ByteArray) (xs : List Nat) (p base : Nat) : Prop where
  ex : ∃ g bg dg, w.heap.size ≤ g ∧ w.heap.size ≤ bg ∧ base ≤ dg ∧ g ≠ bg ∧ RefAt w' { s with lg := some g, vols := insR p ⟨vb, dg, bg, none, t, of_, data, xs, [], false⟩ s.vols }
  same : Same [s.rb, vb] w w'
end PartRefO

section PartRefP
open Go.RowKit Go.Sort
set_option linter.unusedVariables false
set_option linter.unusedSimpArgs false
set_option linter.unusedSectionVars false
variable [DecidableEq Blk] [Inhabited Blk]
variable [Inhabited Vol]
variable [Inhabited RVol]

theorem ptrs_oneR : ∀ (l : List RVol), ∀ u ∈ l.map (fun v => ptr v.vb), u.oneCell' = true := fun l u hu => by
  obtain ⟨v, _, rfl⟩ := List.mem_map.1 hu; rfl
theorem nums_one : ∀ (l : List Nat), ∀ u ∈ l.map (fun x : Nat => Value.int .i64 x), u.oneCell' = true := fun l u hu => by
  obtain ⟨v, _, rfl⟩ := List.mem_map.1 hu; rfl

/-- The new volume has its blocks; the list is as it was. -/
structure Filled (w w' : World) (s : RSt) (vb : Nat) (t of_ : ByteArray) (data : List ByteArray) (xs : List Nat) (base : Nat) (B : Nat) : Prop where
  ex : ∃ bg dg, w.heap.size ≤ bg ∧ bg < B ∧ base ≤ dg ∧ dg < B ∧ RVolAt w' ⟨vb, dg, bg, none, t, of_, data, xs, [], false⟩
  ref : RefAt w' s
  same : Same [vb] w w'

/-- The list told anew: what stands in memory then. -/
theorem add_done {w w4 w5 : World} {s : RSt} {vb : Nat} {t of_ : ByteArray} {data : List ByteArray} {xs : List Nat} {p base : Nat} (hF : Filled w w4 s vb t of_ data xs base w4.heap.size) (hfew : s.vols.length < 20) (h5 : Same [] w4 w5) (a : Option Addr) (cap m : Nat)
    (hm : m = s.vols.length + 1) (hown : w5.ownsRow w4.heap.size 130 1 (.slice a m cap) m ((insR p ⟨vb, 0, 0, none, t, of_, data, xs, [], false⟩ s.vols).map (fun v => ptr v.vb))) (hp : p ≤ s.vols.length) :
    AddAt w (w5.setCell ⟨s.rb, 1, none⟩ (.slice a m cap)) s vb t of_ data xs p base := by
  obtain ⟨⟨bg, dg, b1, b2, b3, b4, hV⟩, hR, hS⟩ := hF
  obtain ⟨pc, hp0, h1, h2⟩ := hR.pool
  have hlen : (insR p ⟨vb, dg, bg, none, t, of_, data, xs, [], false⟩ s.vols).length = s.vols.length + 1 := by simp [insR]; omega
  have hmap : (insR p ⟨vb, 0, 0, none, t, of_, data, xs, [], false⟩ s.vols).map (fun v => ptr v.vb) = (insR p ⟨vb, dg, bg, none, t, of_, data, xs, [], false⟩ s.vols).map (fun v => ptr v.vb) := by simp [insR]
  rw [hmap] at hown
  have hsz := hS.size
  have hsz5 := h5.size
  obtain ⟨g, cs, rfl, hg, hA, hcl, ht⟩ := owns_atN hown (by omega)
  have hle := owns_le hown
  have hp5 := h5.at hp0 (by simp)
  have S5 : Same [s.rb] w4 (w5.setCell ⟨s.rb, 1, none⟩ (.slice (some ⟨g, 0, none⟩) m cap)) := (h5.mono (by simp)).set _ _ _ (by simp)
  have hpl := hp0.lt
  have noT : ∀ b ∈ [s.rb], ∀ cs, ¬ At w4 b 162 cs ∧ ¬ At w4 b 9 cs ∧ ¬ At w4 b 3 cs := by
    intro b hb cs
    simp at hb
    subst hb
    exact ⟨fun hA => absurd (hA.inj hp0).1 (by decide), fun hA => absurd (hA.inj hp0).1 (by decide), fun hA => absurd (hA.inj hp0).1 (by decide)⟩
  refine ⟨⟨g, bg, dg, by omega, b1, b3, by omega, ⟨⟨cap, ?_, ?_, fun hq => by cases hq⟩, fun b hb => ?_, fun v hv => ?_, ?_, hR.n⟩⟩, ?_⟩
  · show At _ s.rb _ [.int .i64 s.n, .slice ((some g).map fun b => ⟨b, 0, none⟩) (insR p ⟨vb, dg, bg, none, t, of_, data, xs, [], false⟩ s.vols).length cap]
    rw [hlen, ← hm]
    exact hp5.set_same 1 _
  · show (insR p ⟨vb, dg, bg, none, t, of_, data, xs, [], false⟩ s.vols).length ≤ cap
    rw [hlen]; omega
  · cases hb
    refine ⟨cs, hA.set_other _ _ _ (by omega), ?_, ?_⟩
    · show cs.take (insR p ⟨vb, dg, bg, none, t, of_, data, xs, [], false⟩ s.vols).length = _
      rw [hlen, ← hm]; simpa using ht
    · show (insR p ⟨vb, dg, bg, none, t, of_, data, xs, [], false⟩ s.vols).length ≤ _
      rw [hlen, hcl]; omega
  · have hv' : v ∈ insR p ⟨vb, dg, bg, none, t, of_, data, xs, [], false⟩ s.vols := hv
    have : v = ⟨vb, dg, bg, none, t, of_, data, xs, [], false⟩ ∨ v ∈ s.vols := by
      unfold insR at hv'
      rcases List.mem_append.1 hv' with hv' | hv'
      · exact Or.inr (List.mem_of_mem_take hv')
      · rcases List.mem_cons.1 hv' with hv' | hv'
        · exact Or.inl hv'
        · exact Or.inr (List.mem_of_mem_drop hv')
    rcases this with rfl | hv
    · exact hV.same S5 noT
    · exact (hR.vols v hv).same S5 noT
  · show (insR p ⟨vb, dg, bg, none, t, of_, data, xs, [], false⟩ s.vols).length ≤ 20
    rw [hlen]; omega
  · exact (hS.mono (T := [s.rb, vb]) (by simp)).step S5 (by simp)

theorem step_append_own {P : Program} {ops : Array Oper} {o : Oper} {a : Act} {w : World} {K : Act → World → Prop} {Q : Exit → Act → World → Prop} {E : Prop}
    (hg : o.guard = none) (s x : Operand) (t : TypeId) (hop : o.op = Op.call { callee := Callee.builtin Builtin.append, args := #[s, x], argTypes := #[t, t] })
    (base : Nat) (e : TypeId) (i : TypeInfo) (z : Value) (size bytes : Nat) (h1 : P.underlying t = some (.slice e)) (h2 : P.info? e = some i) (h3 : i.zero = some z) (h4 : i.size = size) (h5 : i.bytes = bytes) (h6 : z.cells.size = size) (h7 : 0 < size)
    (v : Value) (n : Nat) (xs : List Value) (hs : a.eval s = v) (hown : w.ownsRow base e size v n xs)
    (ad : Addr) (m c : Nat) (news : List Value) (hx : a.eval x = .slice (some ad) m c) (hn : news.length = m * size) (hc : ∀ j u, news[j]? = some u → w.cell? (ad.add j) = some u) (h1c : ∀ u ∈ news, u.oneCell' = true)
    (b1 : n + m ≤ maxLen) (b2 : (n + m) * bytes ≤ 140737488355328) (b3 : base ≤ w.heap.size)
    (hK : ∀ v' w', w'.ownsRow base e size v' (n + m) (xs ++ news) → w.grownBy w' v.ownBlock → K (a.put o.dst v') w') :
    if Region.wanted o (yielded ops a.tmps) = true then Oper.wp P o a w K Q else E := by
  have hw : Region.wanted o (yielded ops a.tmps) = true := by simp [Region.wanted, hg]
  rw [if_pos hw]
  obtain ⟨v', w', hrun, r1, r2, _⟩ := run_append_own (P := P) w base t o.type e i z size bytes h1 h2 h3 h4 h5 h6 h7 v n xs hown ad m c news hn hc h1c b1 b2 b3
  unfold Oper.wp
  simp [execOp, hop, resolve, invoke, builtin, hs, hx, hrun, Result.andThen]
  exact hK v' w' r1 r2

/-- The new volume has its blocks. -/
theorem filled_of {w w2 w3 : World} {s : RSt} {vb n : Nat} {t of_ : ByteArray} {base : Nat} {data : List ByteArray} {dg dc : Nat} {fl : List Nat} (h : RefAt w s) (hvb : vb ∉ s.foot) (hbase : vb < base) (hdg : base ≤ dg) (hT : TextsAt w dg dc data) (hdl : data.length ≤ 200)
    (hA : At w vb 162 [.string t, .string of_, .slice (some ⟨dg, 0, none⟩) data.length dc, .slice none 0 0, .slice none 0 0, .bool false]) (hS : Same [] w w2) (hgrow : w2.grownBy w3 none) (hn : 1 ≤ n ∧ n ≤ 200) (hf : n ≤ fl.length) (bg bc : Nat)
    (hbg : w2.heap.size ≤ bg) (hN : NumsAt w3 bg bc (fl.take n)) :
    Filled w (w3.setCell ⟨vb, 3, none⟩ (.slice (some ⟨bg, 0, none⟩) n bc)) s vb t of_ data (fl.take n) base (w3.setCell ⟨vb, 3, none⟩ (.slice (some ⟨bg, 0, none⟩) n bc)).heap.size := by
  have S3 : Same [] w w3 := hS.grown hgrow (by simp)
  have A3 := S3.at hA (by simp)
  have S4 : Same [vb] w (w3.setCell ⟨vb, 3, none⟩ (.slice (some ⟨bg, 0, none⟩) n bc)) := (S3.mono (by simp)).set _ _ _ (by simp)
  have S34 : Same [vb] w3 (w3.setCell ⟨vb, 3, none⟩ (.slice (some ⟨bg, 0, none⟩) n bc)) := (Same.refl _ _).set _ _ _ (by simp)
  have hl : (fl.take n).length = n := by rw [List.length_take]; omega
  have hsz := hS.size
  have hvl := hA.lt
  have hdl' : dg < w.heap.size := by obtain ⟨cs, h1, _⟩ := hT.ex; exact h1.lt
  refine ⟨⟨bg, dg, by omega, ?_, hdg, ?_, ⟨⟨dc, bc, 0, ?_, ?_, ?_, fun _ => ⟨rfl, rfl⟩, fun g hg => by cases hg⟩, hdl, by rw [hl]; omega, by simp⟩⟩, h.sameF S4 (fun k hk hm => by simp at hm; subst hm; exact hvb hk), S4⟩
  · have := hN.lt; have := S34.size; omega
  · have := S4.size; omega
  · have := A3.set_same 3 (.slice (some ⟨bg, 0, none⟩) n bc)
    simp only [hl]
    exact this
  · exact hT.same S4 (by simp; omega)
  · exact hN.same S34 (by simp; omega)
end PartRefP

section PartRefR
open Go.RowKit Go.Sort
set_option linter.unusedVariables false
set_option linter.unusedSimpArgs false
set_option linter.unusedSectionVars false
variable [DecidableEq Blk] [Inhabited Blk]
variable [Inhabited Vol]
variable [Inhabited RVol]
end PartRefR

section PartRefQ
open Go.RowKit Go.Sort
set_option linter.unusedVariables false
set_option linter.unusedSimpArgs false
set_option linter.unusedSectionVars false
variable [DecidableEq Blk] [Inhabited Blk]
variable [Inhabited Vol]
variable [Inhabited RVol]

theorem getRv {l : List RVol} {i : Nat} (h : i < l.length) : l[i]! ∈ l := by
  rw [getElem!_pos l i h]; exact List.getElem_mem h
theorem RSt.foot_parts {s : RSt} (h : s.foot.Nodup) : s.rb ∉ s.lg.toList ∧ (∀ v ∈ s.vols, s.rb ∉ v.foot) ∧ (∀ b, s.lg = some b → ∀ v ∈ s.vols, b ∉ v.foot) ∧ (s.vols.flatMap RVol.foot).Nodup := by
  unfold RSt.foot at h
  rw [List.nodup_cons, List.nodup_append] at h
  obtain ⟨h1, h2, h3, h4⟩ := h
  simp only [List.mem_append, not_or, List.mem_flatMap, not_exists, not_and] at h1
  refine ⟨h1.1, fun v hv hk => h1.2 v hv hk, fun b hb v hv hk => ?_, h3⟩
  exact h4 b (by simp [hb]) b (List.mem_flatMap.2 ⟨v, hv, hk⟩) rfl
theorem rfoot_apart {s : RSt} (h : s.foot.Nodup) {i j : Nat} (hi : i < s.vols.length) (hj : j < s.vols.length) (hne : i ≠ j) {k : Nat} (hk : k ∈ (s.vols[i]!).foot) : k ∉ (s.vols[j]!).foot := fun hk' =>
  hne ((flat_apart RVol.foot s.vols (RSt.foot_parts h).2.2.2).2 i j hi hj k ⟨_, by rw [getElem!_pos s.vols i hi] at hk; exact ⟨List.getElem?_eq_getElem hi, hk⟩⟩ ⟨_, by rw [getElem!_pos s.vols j hj] at hk'; exact ⟨List.getElem?_eq_getElem hj, hk'⟩⟩)
theorem setR_mem {l : List RVol} {i : Nat} {x y : RVol} (hi : i < l.length) (h : y ∈ l.set i x) : y = x ∨ ∃ j, j < l.length ∧ j ≠ i ∧ l[j]! = y := by
  obtain ⟨j, hj, rfl⟩ := List.getElem_of_mem h
  rw [List.length_set] at hj
  rw [List.getElem_set]
  by_cases e : i = j
  · rw [if_pos e]; exact Or.inl rfl
  · rw [if_neg e]; exact Or.inr ⟨j, hj, fun q => e q.symm, getElem!_pos l j hj⟩

/-- One volume told otherwise. -/
theorem ref_set {w w' : World} {s : RSt} (h : RefAt w s) (hnd : s.foot.Nodup) (i : Nat) (hi : i < s.vols.length) (x : RVol) (hvb : x.vb = (s.vols[i]!).vb) (hV : RVolAt w' x) {S : List Nat} (hS : Same S w w') (hsub : ∀ k ∈ S, k ∈ (s.vols[i]!).foot) : RefAt w' { s with vols := s.vols.set i x } := by
  obtain ⟨cap, hp, h1, h2⟩ := h.pool
  obtain ⟨p1, p2, p3, p4⟩ := RSt.foot_parts hnd
  have hm := getRv hi
  refine ⟨⟨cap, ?_, ?_, fun hq => ?_⟩, fun b hb => ?_, fun v hv => ?_, ?_, h.n⟩
  · show At w' s.rb _ [.int .i64 s.n, .slice (s.lg.map fun b => ⟨b, 0, none⟩) (s.vols.set i x).length cap]
    rw [List.length_set]
    exact hS.at hp fun hk => p2 _ hm (hsub _ hk)
  · show (s.vols.set i x).length ≤ cap
    rw [List.length_set]; exact h1
  · have := (h2 hq).1
    rw [this] at hi
    simp at hi
  · obtain ⟨cs, hc, h3, h4⟩ := h.arr b hb
    refine ⟨cs, hS.at hc fun hk => p3 b hb _ hm (hsub _ hk), ?_, ?_⟩
    · show cs.take (s.vols.set i x).length = (s.vols.set i x).map fun v => ptr v.vb
      rw [List.length_set, h3]
      apply List.ext_getElem
      · simp
      · intro j hj1 hj2
        simp only [List.getElem_map, List.getElem_set]
        by_cases e : i = j
        · subst e
          rw [if_pos rfl, hvb, getElem!_pos s.vols i hi]
        · rw [if_neg e]
    · show (s.vols.set i x).length ≤ _
      rw [List.length_set]; exact h4
  · rcases setR_mem hi hv with rfl | ⟨j, hj, hne, rfl⟩
    · exact hV
    · exact (h.vols _ (getRv hj)).sameF hS fun k hk hk' => rfoot_apart hnd hj hi hne hk (hsub _ hk')
  · show (s.vols.set i x).length ≤ 20
    rw [List.length_set]; exact h.few
theorem foot_setR {s : RSt} (i : Nat) (hi : i < s.vols.length) (x : RVol) {B : Nat} (hf : ∀ k ∈ x.foot, k ∈ (s.vols[i]!).foot ∨ B ≤ k) : ∀ k ∈ RSt.foot { s with vols := s.vols.set i x }, k ∈ s.foot ∨ B ≤ k := by
  intro k hk
  rcases RSt.foot_cases hk with h1 | h1 | ⟨v, hv, hkv⟩
  · exact Or.inl (by rw [h1]; exact s.foot_rb)
  · exact Or.inl (s.foot_lg h1)
  · rcases setR_mem hi hv with rfl | ⟨j, hj, hne, rfl⟩
    · exact (hf k hkv).imp (fun h => s.foot_vol (getRv hi) h) id
    · exact Or.inl (s.foot_vol (getRv hj) hkv)
theorem flat_set_nodup (f : RVol → List Nat) : ∀ (l : List RVol) (i : Nat) (x : RVol), i < l.length → (l.flatMap f).Nodup → (f x).Nodup → (∀ k ∈ f x, k ∈ f (l[i]!) ∨ k ∉ l.flatMap f) → ((l.set i x).flatMap f).Nodup
  | [], i, x, hi, _, _, _ => by simp at hi
  | a :: r, 0, x, hi, hn, hx, hs => by
    simp only [List.set_cons_zero, List.flatMap_cons, List.nodup_append] at hn ⊢
    refine ⟨hx, hn.2.1, fun k hk b hb e => ?_⟩
    subst e
    rcases hs k hk with h | h
    · have h' : k ∈ f a := by simpa using h
      exact hn.2.2 k h' k hb rfl
    · exact h (by simp [List.flatMap_cons]; exact Or.inr (by simpa [List.mem_flatMap] using hb))
  | a :: r, i + 1, x, hi, hn, hx, hs => by
    simp only [List.set_cons_succ, List.flatMap_cons, List.nodup_append] at hn ⊢
    have hi' : i < r.length := by simpa using hi
    have e : (a :: r)[i + 1]! = r[i]! := by rw [getElem!_pos _ (i + 1) hi, getElem!_pos r i hi']; rfl
    rw [e] at hs
    have ih := flat_set_nodup f r i x hi' hn.2.1 hx fun k hk => (hs k hk).imp id fun h h2 => h (by simp only [List.flatMap_cons, List.mem_append]; exact Or.inr h2)
    refine ⟨hn.1, ih, fun k hk b hb e => ?_⟩
    subst e
    obtain ⟨v, hv, hkv⟩ := List.mem_flatMap.1 hb
    rcases setR_mem hi' hv with rfl | ⟨j, hj, _, rfl⟩
    · rcases hs k hkv with h | h
      · exact hn.2.2 k hk k (List.mem_flatMap.2 ⟨_, getRv hi', h⟩) rfl
      · exact h (by simp only [List.flatMap_cons, List.mem_append]; exact Or.inl hk)
    · exact hn.2.2 k hk k (List.mem_flatMap.2 ⟨_, getRv hj, hkv⟩) rfl
theorem nodup_setR {s : RSt} (hnd : s.foot.Nodup) (i : Nat) (hi : i < s.vols.length) (x : RVol) (hx : x.foot.Nodup) (hf : ∀ k ∈ x.foot, k ∈ (s.vols[i]!).foot ∨ k ∉ s.foot) : (RSt.foot { s with vols := s.vols.set i x }).Nodup := by
  obtain ⟨p1, p2, p3, p4⟩ := RSt.foot_parts hnd
  have hno : ∀ k, k ∉ s.foot → k ∉ s.vols.flatMap RVol.foot := fun k hk hm => hk (by unfold RSt.foot; simp only [List.mem_cons, List.mem_append]; exact Or.inr (Or.inr hm))
  have hfl := flat_set_nodup RVol.foot s.vols i x hi p4 hx fun k hk => (hf k hk).imp id (hno k)
  have hmem : ∀ k, k ∈ (s.vols.set i x).flatMap RVol.foot → k ∈ s.vols.flatMap RVol.foot ∨ k ∉ s.foot := fun k hk => by
    obtain ⟨v, hv, hkv⟩ := List.mem_flatMap.1 hk
    rcases setR_mem hi hv with rfl | ⟨j, hj, _, rfl⟩
    · exact (hf k hkv).imp (fun h => List.mem_flatMap.2 ⟨_, getRv hi, h⟩) id
    · exact Or.inl (List.mem_flatMap.2 ⟨_, getRv hj, hkv⟩)
  have hnd' := hnd
  unfold RSt.foot at hnd' ⊢
  rw [List.nodup_cons, List.nodup_append] at hnd' ⊢
  obtain ⟨h1, h2, h3, h4⟩ := hnd'
  refine ⟨fun hm => ?_, h2, hfl, fun a ha b hb e => ?_⟩
  · rcases List.mem_append.1 hm with hm | hm
    · exact h1 (List.mem_append.2 (Or.inl hm))
    · rcases hmem _ hm with h | h
      · exact h1 (List.mem_append.2 (Or.inr h))
      · exact h s.foot_rb
  · subst e
    rcases hmem _ hb with h | h
    · exact h4 a ha a h rfl
    · exact h (s.foot_lg (by simpa using ha))
end PartRefQ
end Go.Proofs.Ytpddgdjocffgdaa
