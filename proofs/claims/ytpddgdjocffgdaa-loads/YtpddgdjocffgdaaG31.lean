/- The program's state beside the document's own answer: what both hold in common. The reference's reader of an image beside the program's: the same errors, at the same places. The reference's Load, by a contract. The Pool that the program has loaded beside that of the reference. The program's state beside the document's own answer: one more, one less, one told otherwise. -/
import Derived.Test.YtpddgdjocffgdaaG18
import Derived.Test.YtpddgdjocffgdaaG19
import Derived.Test.YtpddgdjocffgdaaG13
import Derived.Test.YtpddgdjocffgdaaG29
import Derived.Test.YtpddgdjocffgdaaG30
import Derived.Test.YtpddgdjocffgdaaG12
namespace Go.Proofs.Ytpddgdjocffgdaa
set_option linter.unusedVariables false
set_option linter.unusedSimpArgs false
set_option linter.unusedSectionVars false
section
open Go.RowKit Go.Sort
variable [DecidableEq Blk] [Inhabited Blk] [Inhabited Vol] [Inhabited RVol]
/-- Eight bytes. -/
def Blk.ok (b : Blk) : Prop := ∀ n ∈ b.ints, 0 ≤ n ∧ n ≤ 255
theorem Blk.zero_ok : Blk.zero.ok := by
  intro n hn
  simp [Blk.ints, Blk.zero] at hn
  omega
theorem Blk.text_eq (b : Blk) : b.text = ⟨#[UInt8.ofNat b.b0.toNat, UInt8.ofNat b.b1.toNat, UInt8.ofNat b.b2.toNat, UInt8.ofNat b.b3.toNat, UInt8.ofNat b.b4.toNat, UInt8.ofNat b.b5.toNat, UInt8.ofNat b.b6.toNat, UInt8.ofNat b.b7.toNat]⟩ := rfl
theorem Blk.zero_text : Blk.zero.text = zero8 := rfl
theorem byte_inj {a b : Int} (ha : 0 ≤ a ∧ a ≤ 255) (hb : 0 ≤ b ∧ b ≤ 255) (h : UInt8.ofNat a.toNat = UInt8.ofNat b.toNat) : a = b := by
  have := congrArg UInt8.toNat h
  simp at this
  omega
theorem Blk.text_inj {a b : Blk} (ha : a.ok) (hb : b.ok) (h : a.text = b.text) : a = b := by
  rw [Blk.text_eq, Blk.text_eq] at h
  simp only [ByteArray.mk.injEq, Array.mk.injEq, List.cons.injEq, and_true] at h
  obtain ⟨h0, h1, h2, h3, h4, h5, h6, h7⟩ := h
  cases a; cases b
  simp only [Blk.ok, Blk.ints, List.mem_cons, List.mem_nil_iff, or_false, forall_eq_or_imp, forall_eq] at ha hb
  obtain ⟨a0, a1, a2, a3, a4, a5, a6, a7⟩ := ha
  obtain ⟨b0, b1, b2, b3, b4, b5, b6, b7⟩ := hb
  rw [byte_inj a0 b0 h0, byte_inj a1 b1 h1, byte_inj a2 b2 h2, byte_inj a3 b3 h3, byte_inj a4 b4 h4, byte_inj a5 b5 h5, byte_inj a6 b6 h6, byte_inj a7 b7 h7]
/-- A volume or picture of the program beside one of the reference. -/
structure RelV (s : St) (v : Vol) (x : RVol) : Prop where
  name : x.name = v.name
  of_ : x.of_ = if v.org = none then ⟨#[]⟩ else (s.orgOf v).name
  size : x.data.length = s.size v
  blocks : x.blocks = v.xs
  kept : x.kept = v.kept
  lost : x.lost = v.lost
  ok : v.lost = false → ∀ q, q < s.size v → (s.look v q).ok
  data : v.lost = false → ∀ q, q < s.size v → x.data[q]! = (s.look v q).text
structure Rel (s : St) (r : RSt) : Prop where
  n : r.n = s.n
  len : r.vols.length = s.vols.length
  each : ∀ i, i < s.vols.length → RelV s (s.vols[i]!) (r.vols[i]!)
theorem RelV.congr {s s' : St} {v v' : Vol} {x : RVol} (h : RelV s v x) (hn : v'.name = v.name) (ho : v'.org = none ↔ v.org = none) (hon : (s'.orgOf v').name = (s.orgOf v).name) (hz : s'.size v' = s.size v) (hx : v'.xs = v.xs) (hk : v'.kept = v.kept) (hl : v'.lost = v.lost)
    (hq : v'.lost = false → ∀ q, q < s.size v → s'.look v' q = s.look v q) : RelV s' v' x where
  name := by rw [h.name, hn]
  of_ := by rw [h.of_, hon]; simp [ho]
  size := by rw [h.size, hz]
  blocks := by rw [h.blocks, hx]
  kept := by rw [h.kept, hk]
  lost := by rw [h.lost, hl]
  ok := fun hv q hlt => by rw [hq hv q (by omega)]; exact h.ok (by rw [← hl]; exact hv) q (by omega)
  data := fun hv q hlt => by rw [hq hv q (by omega)]; exact h.data (by rw [← hl]; exact hv) q (by omega)
theorem Rel.names {s : St} {r : RSt} (h : Rel s r) : r.vols.map (·.name) = s.names := by
  apply List.ext_getElem
  · simp [St.names, h.len]
  · intro i h1 h2
    have hi : i < s.vols.length := by simpa [St.names] using h2
    have hi' : i < r.vols.length := by rw [h.len]; exact hi
    have e := (h.each i hi).name
    rw [getElem!_pos _ i hi', getElem!_pos _ i hi] at e
    simpa [St.names] using e
theorem Rel.all {s : St} {r : RSt} (h : Rel s r) : r.all = s.vols.flatMap (·.xs) := by
  unfold RSt.all
  have e : r.vols.map (·.blocks) = s.vols.map (·.xs) := by
    apply List.ext_getElem
    · simp [h.len]
    · intro i h1 h2
      have hi : i < s.vols.length := by simpa using h2
      have hi' : i < r.vols.length := by rw [h.len]; exact hi
      have e := (h.each i hi).blocks
      rw [getElem!_pos _ i hi', getElem!_pos _ i hi] at e
      simpa using e
  rw [List.flatMap_def, List.flatMap_def, e]
theorem Rel.free {s : St} {r : RSt} {fr : List Nat} (h : Rel s r) (hG : Good s fr) : r.freeL r.n = fr := by
  refine sorted_ext _ _ (List.Pairwise.filter _ List.pairwise_lt_range) hG.heap.sorted fun z => ?_
  unfold RSt.freeL
  rw [List.mem_filter, h.all, h.n]
  have hp : z ∈ List.range s.n ↔ z ∈ fr ++ s.vols.flatMap (·.xs) := hG.parts.mem_iff.symm
  have hnd := List.nodup_append.1 hG.nodup
  constructor
  · rintro ⟨h1, h2⟩
    rcases List.mem_append.1 (hp.1 h1) with h3 | h3
    · exact h3
    · exact absurd h3 (by simpa using h2)
  · intro hz
    refine ⟨hp.2 (List.mem_append.2 (Or.inl hz)), ?_⟩
    simp only [decide_eq_true_eq]
    intro h3
    exact hnd.2.2 z hz z h3 rfl
theorem find_index {l : List RVol} (t : ByteArray) (i : Nat) (hi : i < l.length) (hn : (l[i]!).name = t) (hd : ∀ j, j < i → (l[j]!).name ≠ t) : l.find? (fun v => decide (v.name = t)) = some l[i]! := by
  have e : l = l.take i ++ l[i]! :: l.drop (i + 1) := by rw [getElem!_pos l i hi, ← List.drop_eq_getElem_cons hi, List.take_append_drop]
  conv => lhs; rw [e]
  rw [List.find?_append]
  have : (l.take i).find? (fun v => decide (v.name = t)) = none := by
    rw [List.find?_eq_none]
    intro v hv
    obtain ⟨j, hj, rfl⟩ := List.getElem_of_mem hv
    have hj' : j < i := by simp at hj; omega
    have := hd j hj'
    rw [getElem!_pos l j (by omega)] at this
    simpa using this
  rw [this, Option.none_or]
  exact List.find?_cons_of_pos (p := fun v : RVol => decide (v.name = t)) (decide_eq_true hn)
/-- Names in their order differ. -/
theorem names_ne {w : World} {s : St} (h : PoolAt w s) {i j : Nat} (hi : i < s.vols.length) (hj : j < s.vols.length) (hne : i ≠ j) : (s.vols[i]!).name ≠ (s.vols[j]!).name := fun e => by
  have hs := h.sorted
  rw [List.pairwise_iff_getElem] at hs
  rw [getElem!_pos s.vols i hi, getElem!_pos s.vols j hj] at e
  rcases Nat.lt_or_ge i j with hl | hl
  · have := hs i j hi hj hl
    rw [e, cmpB_self] at this
    omega
  · have := hs j i hj hi (by omega)
    rw [e, cmpB_self] at this
    omega
theorem Rel.at_has {w : World} {s : St} {r : RSt} (h : Rel s r) (hP : PoolAt w s) {t : ByteArray} (ht : s.has t = true) : r.at? t = some (r.vols[posOf s.names t]!) := by
  obtain ⟨h1, h2, h3⟩ := St.has_mem ht
  refine find_index t _ (by rw [h.len]; exact h3) ?_ fun j hj => ?_
  · rw [(h.each _ h3).name]; exact h2
  · rw [(h.each j (by omega)).name]
    intro e
    exact names_ne hP (by omega) h3 (by omega : j ≠ posOf s.names t) (e.trans h2.symm)
theorem Rel.at_not {w : World} {s : St} {r : RSt} (h : Rel s r) (hP : PoolAt w s) {t : ByteArray} (ht : s.has t = false) : r.at? t = none := by
  unfold RSt.at?
  rw [List.find?_eq_none]
  intro v hv hn
  have hn' : v.name = t := by simpa using hn
  have : t ∈ s.names := by rw [← h.names, ← hn']; exact List.mem_map_of_mem hv
  have := (isIn_iff hP.names_sorted t).2 this
  unfold St.has at ht
  rw [this] at ht
  cases ht
theorem Rel.vol {s : St} {r : RSt} (h : Rel s r) {t : ByteArray} (ht : s.has t = true) : RelV s (s.vol t) (r.vols[posOf s.names t]!) := h.each _ (St.has_mem ht).2.2
theorem filter_len {α β : Type} (p : α → Bool) (q : β → Bool) : ∀ (a : List α) (b : List β), a.length = b.length → (∀ i (h1 : i < a.length) (h2 : i < b.length), p a[i] = q b[i]) → (a.filter p).length = (b.filter q).length
  | [], [], _, _ => rfl
  | [], _ :: _, h, _ => by simp at h
  | _ :: _, [], h, _ => by simp at h
  | x :: a, y :: b, h, e => by
    have ih := filter_len p q a b (by simpa using h) (fun i h1 h2 => e (i + 1) (by simpa using h1) (by simpa using h2))
    have e0 : p x = q y := e 0 (by simp) (by simp)
    rw [List.filter_cons, List.filter_cons, e0]
    split <;> simp [ih]
theorem name_ne_nil {s : St} {fr : List Nat} (hG : Good s fr) {v : Vol} (hv : v ∈ s.vols) : v.name ≠ ⟨#[]⟩ := fun e => by
  have := hG.names v hv
  rw [e] at this
  simp [nameB] at this
  exact absurd this.1 (by decide)
/-- How many pictures: both say the same. -/
theorem Rel.pics {w : World} {s : St} {r : RSt} {fr : List Nat} (h : Rel s r) (hP : PoolAt w s) (hG : Good s fr) {u : Vol} (hu : u ∈ s.vols) : r.pics u.name r.vols.length = (s.picsOf u.vb).length := by
  unfold RSt.pics St.picsOf
  rw [List.take_length]
  refine filter_len _ _ _ _ h.len fun i h1 h2 => ?_
  have e := (h.each i h2).of_
  rw [getElem!_pos _ i h1, getElem!_pos _ i h2] at e
  have hm : s.vols[i] ∈ s.vols := List.getElem_mem h2
  rw [e]
  obtain ⟨o1, o2, o3, o4⟩ := hP.orgOf hm
  by_cases ho : (s.vols[i]).org = none
  · rw [if_pos ho, ho]
    have : ¬ ((⟨#[]⟩ : ByteArray) = u.name) := fun e => name_ne_nil hG hu e.symm
    simp [this]
  · rw [if_neg ho]
    have e4 := o4 ho
    rw [e4]
    by_cases hq : s.orgOf s.vols[i] = u
    · rw [hq]; simp
    · have hne : ¬ (s.orgOf s.vols[i]).vb = u.vb := fun e => hq (hP.vb_inj o1 hu e)
      have hnn : ¬ (s.orgOf s.vols[i]).name = u.name := fun e => by
        obtain ⟨a, ha, ea⟩ := mem_index o1
        obtain ⟨b, hb, eb⟩ := mem_index hu
        by_cases hab : a = b
        · subst hab; exact hq (ea.symm.trans eb)
        · exact names_ne hP ha hb hab (by rw [ea, eb]; exact e)
      simp [hne, hnn]
end
section
open Go.RowKit Go.Sort
variable [DecidableEq Blk] [Inhabited Blk] [Inhabited Vol] [Inhabited PEnt] [Inhabited RVol] [Inhabited RRow]
theorem ref_none (p : PEnt) : p.ref.origin = none ↔ p.kind = 0 := by
  unfold PEnt.ref
  by_cases h : p.kind = 0
  · simp [h]
  · simp [h]
theorem ref_some (p : PEnt) (h : p.kind ≠ 0) : p.ref.origin = some p.origin := by
  unfold PEnt.ref; simp [h]
/-- The origins. -/
theorem join_spec {xs : List RRow} {ps : List PEnt} (h : xs.map (·.e) = ps.map PEnt.ref) (ho : ∀ p ∈ ps, p.kind ≠ 0 → p.origin < ps.length) : ∀ i, i ≤ ps.length → (joinX xs i = none → rjoin ps ps = rjoin ps (ps.drop i)) ∧ ∀ q, joinX xs i = some q → rjoin ps ps = .error q
  | 0, _ => ⟨fun _ => by rw [List.drop_zero], fun q hq => by cases hq⟩
  | i + 1, hi => by
    obtain ⟨h1, h2⟩ := join_spec h ho i (by omega)
    obtain ⟨hl, _, he⟩ := xs_ent h
    have hd : ps.drop i = ps[i]! :: ps.drop (i + 1) := by rw [List.drop_eq_getElem_cons (by omega), getElem!_pos ps i (by omega)]
    have hm : ps[i]! ∈ ps := by rw [getElem!_pos ps i (by omega)]; exact List.getElem_mem _
    cases hj : joinX xs i with
    | some q0 =>
      have e : joinX xs (i + 1) = some q0 := by simp only [joinX, hj]
      rw [e]
      exact ⟨fun hc => (by cases hc), fun q hq => (by cases hq; exact h2 q0 hj)⟩
    | none =>
      have h3 := h1 hj
      rw [hd, rjoin] at h3
      by_cases hk : (ps[i]!).kind = 0
      · have e : joinX xs (i + 1) = none := by simp only [joinX, hj, he i (by omega), (ref_none _).2 hk]
        rw [e]
        rw [if_pos hk] at h3
        exact ⟨fun _ => h3, fun q hq => by cases hq⟩
      · have hol := ho _ hm hk
        have e : joinX xs (i + 1) = if (ps[(ps[i]!).origin]!).kind = 0 ∧ (ps[(ps[i]!).origin]!).size = (ps[i]!).size then none else some (ps[i]!).originAt := by
          simp only [joinX, hj, he i (by omega), ref_some _ hk, he _ hol, ref_none]
          rfl
        rw [e]
        rw [if_neg hk] at h3
        by_cases hc : (ps[(ps[i]!).origin]!).kind = 0 ∧ (ps[(ps[i]!).origin]!).size = (ps[i]!).size
        · rw [if_pos hc] at h3 ⊢
          exact ⟨fun _ => h3, fun q hq => by cases hq⟩
        · rw [if_neg hc] at h3 ⊢
          exact ⟨fun hx => (by cases hx), fun q hq => by cases hq; exact h3⟩
theorem join_all {xs : List RRow} {ps : List PEnt} (h : xs.map (·.e) = ps.map PEnt.ref) (ho : ∀ p ∈ ps, p.kind ≠ 0 → p.origin < ps.length) : (joinX xs xs.length = none → rjoin ps ps = .ok ()) ∧ ∀ q, joinX xs xs.length = some q → rjoin ps ps = .error q := by
  obtain ⟨hl, _, _⟩ := xs_ent h
  obtain ⟨h1, h2⟩ := join_spec h ho ps.length (Nat.le_refl _)
  rw [hl]
  refine ⟨fun hn => ?_, h2⟩
  rw [h1 hn, List.drop_length]; rfl
/-- Eight bytes as a text. -/
theorem text8 (B : List UInt8) (i : Nat) (h : i + 8 ≤ B.length) : (blk8 B i).text = textAt B i 8 := by
  have h1 := blk_bytes B i h
  rw [Blk.text_eq]
  unfold textAt
  rw [← h1]
  rfl
theorem blk8_ok (B : List UInt8) (i : Nat) : (blk8 B i).ok := by
  have hb : ∀ x : UInt8, 0 ≤ (x.toNat : Int) ∧ (x.toNat : Int) ≤ 255 := fun x => by have := x.toNat_lt; omega
  intro n hn
  simp only [Blk.ints, blk8, List.mem_cons, List.mem_nil_iff, or_false] at hn
  rcases hn with rfl | rfl | rfl | rfl | rfl | rfl | rfl | rfl <;> exact hb _
theorem text_zero (B : List UInt8) (i : Nat) (h : i + 8 ≤ B.length) : textAt B i 8 = zero8 ↔ blk8 B i = Blk.zero := by
  rw [← text8 B i h, ← Blk.zero_text]
  exact ⟨fun e => Blk.text_inj (blk8_ok B i) Blk.zero_ok e, fun e => by rw [e]⟩
theorem picD_get (B : List UInt8) (a2 : Nat) (x : RRow) (d : List ByteArray) (hn : x.e.kept.Nodup) : ∀ m, m ≤ x.e.kept.length → ∀ i, i < m → x.e.kept[i]! < d.length → (picD B a2 x d m)[x.e.kept[i]!]! = textAt B (a2 + 8 * x.e.xs[i]!) 8
  | 0, _, i, hi, _ => by omega
  | m + 1, hm, i, hi, hl => by
    rw [picD_succ]
    have hlen : x.e.kept[i]! < (picD B a2 x d m).length := by rw [picD_length]; exact hl
    rw [getElem!_pos ((picD B a2 x d m).set _ _) _ (by rw [List.length_set]; exact hlen), List.getElem_set]
    by_cases e : i = m
    · subst e
      rw [if_pos rfl]
    · have hne : x.e.kept[m]! ≠ x.e.kept[i]! := fun h => e (by
        exfalso
        rw [getElem!_pos x.e.kept m (by omega), getElem!_pos x.e.kept i (by omega)] at h
        exact List.pairwise_iff_getElem.1 hn i m (by omega) (by omega) (by omega) h.symm)
      rw [if_neg hne]
      have := picD_get B a2 x d hn m (by omega) i (by omega) hl
      rw [getElem!_pos (picD B a2 x d m) _ hlen] at this
      exact this
theorem picD_else (B : List UInt8) (a2 : Nat) (x : RRow) (d : List ByteArray) (q : Nat) (hq : q < d.length) : ∀ m, (∀ i, i < m → x.e.kept[i]! ≠ q) → (picD B a2 x d m)[q]! = d[q]!
  | 0, _ => rfl
  | m + 1, h => by
    rw [picD_succ]
    have hlen : q < (picD B a2 x d m).length := by rw [picD_length]; exact hq
    rw [getElem!_pos ((picD B a2 x d m).set _ _) _ (by rw [List.length_set]; exact hlen), List.getElem_set, if_neg (h m (by omega))]
    have := picD_else B a2 x d q hq m (fun i hi => h i (by omega))
    rw [getElem!_pos (picD B a2 x d m) _ hlen] at this
    exact this
theorem dataX_get (B : List UInt8) (a2 : Nat) (l : List Nat) (i : Nat) (hi : i < l.length) : (dataX B a2 l)[i]! = textAt B (a2 + 8 * l[i]!) 8 := by
  unfold dataX
  rw [getElem!_pos _ i (by simpa using hi), List.getElem_map, getElem!_pos l i hi]
/-- What is told of the entries, all together. -/
structure AllOk (B : List UInt8) (n a1 : Nat) (xs : List RRow) (ps : List PEnt) : Prop where
  eq : xs.map (·.e) = ps.map PEnt.ref
  ents : EntsOk ps.length n ps
  join : joinX xs xs.length = none
  len : a1 + 8 * n ≤ B.length
theorem AllOk.org {B : List UInt8} {n a1 : Nat} {xs : List RRow} {ps : List PEnt} (h : AllOk B n a1 xs ps) (j : Nat) (hj : j < ps.length) (hk : (ps[j]!).kind ≠ 0) : (ps[j]!).origin < ps.length ∧ (ps[(ps[j]!).origin]!).kind = 0 ∧ (ps[(ps[j]!).origin]!).size = (ps[j]!).size := by
  obtain ⟨hl, _, he⟩ := xs_ent h.eq
  have hm : ps[j]! ∈ ps := by rw [getElem!_pos ps j hj]; exact List.getElem_mem hj
  have hol := (h.ents.all _ hm).org hk
  have h1 := joinX_ok xs xs.length (Nat.le_refl _) h.join j (by omega) (ps[j]!).origin (by rw [he j hj]; exact ref_some _ hk)
  rw [he _ hol, he j hj] at h1
  exact ⟨hol, (ref_none _).1 h1.1, h1.2⟩
theorem blk_spec {w0 w' : World} {B : List UInt8} {n a1 : Nat} {xs : List RRow} {ps : List PEnt} {rb : Nat} {r : RSt} (h : AllOk B n a1 xs ps) (hT : TiedOk w0 w' B a1 n xs rb r) (hnm : ∀ x ∈ xs, x.e.name ≠ ⟨#[]⟩) (hX : XsOk n xs) (k : Nat) (hk : k < n) : (textAt B (a1 + 8 * k) 8 = r.blk k) ↔ (k ∈ usedP ps ∨ blk8 B (a1 + k * 8) = Blk.zero) := by
  obtain ⟨hl, _, he⟩ := xs_ent h.eq
  have hmp : ∀ j, j < ps.length → ps[j]! ∈ ps := fun j hj => by rw [getElem!_pos ps j hj]; exact List.getElem_mem hj
  have hpick : ∀ j, j < ps.length → ∀ i, i < (ps[j]!).xs.length → (r.vols[j]!).pick k i = if (ps[j]!).xs[i]! = k ∧ i < (if (ps[j]!).kind = 0 then (ps[j]!).xs.length else (ps[j]!).kept.length) then some (textAt B (a1 + 8 * k) 8) else none := fun j hj i hi => by
    obtain ⟨_, e2, e3, e4, e5, _⟩ := hT.each j (by omega)
    rw [he j hj] at e4 e5
    have e4 : (r.vols[j]!).blocks = (ps[j]!).xs := e4
    have e5 : (r.vols[j]!).kept = (ps[j]!).kept := e5
    have hof := ofs_empty xs n hX hnm j (by omega)
    rw [← e2, he j hj, ref_none] at hof
    unfold RVol.pick
    rw [e3, e4, e5]
    by_cases hx : (ps[j]!).xs[i]! = k
    · rw [if_pos hx]
      by_cases hkd : (ps[j]!).kind = 0
      · rw [if_pos (hof.2 hkd), if_pos ⟨hx, by rw [if_pos hkd]; exact hi⟩]
        congr 1
        unfold holdX
        rw [he j hj, (ref_none _).2 hkd]
        simp only
        show (dataX B a1 (ps[j]!).xs)[i]! = _
        rw [dataX_get B a1 _ i hi, hx]
      · rw [if_neg (fun e => hkd (hof.1 e))]
        by_cases hkl : i < (ps[j]!).kept.length
        · rw [if_pos hkl, if_pos ⟨hx, by rw [if_neg hkd]; exact hkl⟩]
          congr 1
          obtain ⟨o1, o2, o3⟩ := h.org j hj hkd
          have hpo := h.ents.all _ (hmp j hj)
          have hpq := h.ents.all _ (hmp _ o1)
          unfold holdX
          rw [he j hj, ref_some _ hkd]
          simp only
          have hkk : (xs[j]!).e.kept = (ps[j]!).kept := by rw [he j hj]; rfl
          have hxx : (xs[j]!).e.xs = (ps[j]!).xs := by rw [he j hj]; rfl
          have hoo : (xs[(ps[j]!).origin]!).e.xs = (ps[(ps[j]!).origin]!).xs := by rw [he _ o1]; rfl
          have hg := picD_get B a1 xs[j]! (dataX B a1 (xs[(ps[j]!).origin]!).e.xs) (by rw [hkk]; exact hpo.kept.1) (ps[j]!).kept.length (by rw [hkk]; exact Nat.le_refl _) i hkl (by
            rw [hkk, dataX, List.length_map, hoo, (hpq.plain o2).1, o3]
            exact hpo.kept.2 _ (by rw [getElem!_pos _ i hkl]; exact List.getElem_mem hkl))
          rw [hkk, hxx, hx] at hg
          exact hg
        · rw [if_neg hkl, if_neg (fun hc => hkl (by have := hc.2; rw [if_neg hkd] at this; exact this))]
    · rw [if_neg hx, if_neg (fun hc => hx hc.1)]
  have hlenb : ∀ j, j < ps.length → (r.vols[j]!).blocks.length = (ps[j]!).xs.length := fun j hj => by
    obtain ⟨_, _, _, e4, _⟩ := hT.each j (by omega)
    rw [e4, he j hj]; rfl
  have hv : ∀ v ∈ r.vols, ∃ j, j < ps.length ∧ v = r.vols[j]! := fun v hv => by
    obtain ⟨j, hj, e⟩ := List.getElem_of_mem hv
    have := hT.len
    exact ⟨j, by omega, by rw [getElem!_pos _ j hj]; exact e.symm⟩
  have hsome : ∀ v ∈ r.vols, ∀ t, v.blk k = some t → t = textAt B (a1 + 8 * k) 8 ∧ k ∈ usedP ps := fun v hvm t ht => by
    obtain ⟨j, hj, rfl⟩ := hv v hvm
    unfold RVol.blk at ht
    obtain ⟨i, hi, hp⟩ := List.exists_of_findSome?_eq_some ht
    have hi := List.mem_range.1 hi
    rw [hlenb j hj] at hi
    rw [hpick j hj i hi] at hp
    by_cases hc : (ps[j]!).xs[i]! = k ∧ i < (if (ps[j]!).kind = 0 then (ps[j]!).xs.length else (ps[j]!).kept.length)
    · rw [if_pos hc] at hp
      cases hp
      refine ⟨rfl, List.mem_flatMap.2 ⟨_, hmp j hj, ?_⟩⟩
      rw [← hc.1, getElem!_pos _ i hi]
      exact List.mem_take_iff_getElem.2 ⟨i, by omega, rfl⟩
    · rw [if_neg hc] at hp; cases hp
  by_cases hU : k ∈ usedP ps
  · refine ⟨fun _ => Or.inl hU, fun _ => ?_⟩
    obtain ⟨p, hp, hx⟩ := List.mem_flatMap.1 hU
    obtain ⟨j, hj, e⟩ := List.getElem_of_mem hp
    have e : ps[j]! = p := by rw [getElem!_pos ps j hj]; exact e
    obtain ⟨i, hi, hxi⟩ := List.mem_take_iff_getElem.1 hx
    have hjr : j < r.vols.length := by have := hT.len; omega
    have hmr : r.vols[j]! ∈ r.vols := by rw [getElem!_pos _ j hjr]; exact List.getElem_mem hjr
    have hne : (r.vols[j]!).blk k ≠ none := fun hn => by
      unfold RVol.blk at hn
      have := List.findSome?_eq_none_iff.1 hn i (List.mem_range.2 (by rw [hlenb j hj, e]; omega))
      rw [hpick j hj i (by rw [e]; omega), e, if_pos ⟨by rw [getElem!_pos _ i (by omega)]; exact hxi, by omega⟩] at this
      cases this
    unfold RSt.blk
    cases hf : r.vols.findSome? (·.blk k) with
    | none => exact absurd (List.findSome?_eq_none_iff.1 hf _ hmr) hne
    | some t =>
      obtain ⟨v, hvm, ht⟩ := List.exists_of_findSome?_eq_some hf
      rw [(hsome v hvm t ht).1]; rfl
  · have hnone : r.vols.findSome? (·.blk k) = none := List.findSome?_eq_none_iff.2 fun v hvm => by
      cases hb : v.blk k with
      | none => rfl
      | some t => exact absurd (hsome v hvm t hb).2 hU
    unfold RSt.blk
    rw [hnone]
    show textAt B (a1 + 8 * k) 8 = zero8 ↔ _
    have := h.len
    rw [text_zero B _ (by omega), Nat.mul_comm 8 k]
    exact ⟨Or.inr, fun hc => hc.resolve_left hU⟩
theorem blocksX_stay (B : List UInt8) (r : RSt) (a1 q : Nat) (bd : Option Nat) (k : Nat) (h : blocksX B r a1 k bd = some q) : ∀ f, blocksX B r a1 (k + f) bd = some q
  | 0 => h
  | f + 1 => by rw [← Nat.add_assoc, blocksX_succ, blocksX_stay B r a1 q bd k h f]; rfl
theorem blocks_spec (B : List UInt8) (r : RSt) (U : List Nat) (a1 n : Nat) (h : ∀ k, k < n → ((textAt B (a1 + 8 * k) 8 = r.blk k) ↔ (k ∈ U ∨ blk8 B (a1 + k * 8) = Blk.zero))) : ∀ f k, k + f ≤ n → blocksX B r a1 k none = none → (rfree B U a1 f k = .ok () → blocksX B r a1 (k + f) none = none) ∧ ∀ q, rfree B U a1 f k = .error q → blocksX B r a1 (k + f) none = some q
  | 0, k, _, hb => ⟨fun _ => hb, fun q hq => by simp [rfree] at hq⟩
  | f + 1, k, hk, hb => by
    unfold rfree
    have hs := blocksX_succ B r a1 k none
    rw [hb] at hs
    by_cases hc : k ∈ U ∨ blk8 B (a1 + k * 8) = Blk.zero
    · rw [if_pos hc]
      have e : decide (textAt B (a1 + 8 * k) 8 = r.blk k) = true := decide_eq_true ((h k (by omega)).2 hc)
      rw [e] at hs
      have := blocks_spec B r U a1 n h f (k + 1) (by omega) hs
      rw [show k + (f + 1) = k + 1 + f by omega]
      exact this
    · rw [if_neg hc]
      have e : decide (textAt B (a1 + 8 * k) 8 = r.blk k) = false := decide_eq_false (fun hx => hc ((h k (by omega)).1 hx))
      rw [e] at hs
      have hs : blocksX B r a1 (k + 1) none = some (a1 + 8 * k) := hs
      have := blocksX_stay B r a1 _ none (k + 1) hs f
      refine ⟨fun hx => (by cases hx), fun q hq => ?_⟩
      cases hq
      rw [show k + (f + 1) = k + 1 + f by omega, this, Nat.mul_comm 8 k]
def ROk (w : World) (B : List UInt8) (e : Ending) (w' : World) : Prop :=
  match rpool B with
  | .error q => e = .returned (.tuple #[.pointer none, .int .i64 12, .int .i64 q]) ∧ Same [] w w'
  | .ok (n, ps, at2) => ∃ r xs, e = .returned (.tuple #[.pointer (some ⟨r.rb, 0, none⟩), .int .i64 0, .int .i64 0]) ∧ AllOk B n at2 xs ps ∧ TiedOk w w' B at2 n xs r.rb r ∧ Same [] w w'
def RLoadPost (w : World) (I : List UInt8) (e : Ending) (w' : World) : Prop :=
  if 2 ≤ I.length ∧ endN I = sumB (aheadB I) then ROk w (aheadB I) e w' else e = .returned (.tuple #[.pointer none, .int .i64 11, .int .i64 0]) ∧ Same [] w w'
theorem ROk.bad {w w' : World} {B : List UInt8} {q : Nat} (h : rpool B = .error q) (hS : Same [] w w') : ROk w B (.returned (.tuple #[.pointer none, .int .i64 12, .int .i64 (q : Int)])) w' := by
  unfold ROk
  rw [h]
  exact ⟨rfl, hS⟩
/-- The size and the count. -/
theorem size_bad (B : List UInt8) (a : Nat) (q : Nat) : sizeX B a (some q) = (0, a, some q) := rfl
theorem count_bad (B : List UInt8) (a : Nat) (q : Nat) : countX B a (some q) = (0, a, some q) := rfl
theorem head_spec {B : List UInt8} {n count a1 a2 : Nat} {b1 b2 : Option Nat} (h1 : sizeX B 4 none = (n, a1, b1)) (h2 : countX B a1 b1 = (count, a2, b2)) :
    (∀ q, b2 = some q → rnum B 2 1 200 4 = .error q ∨ ((1 ≤ n ∧ n ≤ 200) ∧ rnum B 2 1 200 4 = .ok (n, a1) ∧ rnum B 1 0 20 a1 = .error q)) ∧ (b2 = none → (1 ≤ n ∧ n ≤ 200) ∧ count ≤ 20 ∧ rnum B 2 1 200 4 = .ok (n, a1) ∧ rnum B 1 0 20 a1 = .ok (count, a2)) := by
  unfold sizeX at h1
  simp only [Prod.mk.injEq] at h1
  obtain ⟨e1, e2, e3⟩ := h1
  cases hr : rnum B 2 1 200 4 with
  | error q =>
    have := num_err hr (decide (1 ≤ (numX B 2 4 none).1 ∧ (numX B 2 4 none).1 ≤ 200)) (by simp)
    rw [this] at e3
    subst e3
    rw [count_bad] at h2
    simp only [Prod.mk.injEq] at h2
    obtain ⟨_, _, rfl⟩ := h2
    exact ⟨fun q' hq => Or.inl (by cases hq; rfl), fun hn => by cases hn⟩
  | ok pr =>
    obtain ⟨v, at1⟩ := pr
    obtain ⟨f1, f2, f3⟩ := num_ok hr
    have f4 := (rnum_ok hr).2.2.2.2
    rw [f1] at e1 e2 e3
    simp only at e1 e2 e3
    subst e1 e2
    have e : decide (1 ≤ v ∧ v ≤ 200) = true := decide_eq_true ⟨f2, f3⟩
    rw [e] at e3
    have e3 : none = b1 := e3
    subst e3
    unfold countX at h2
    simp only [Prod.mk.injEq] at h2
    obtain ⟨g1, g2, g3⟩ := h2
    have h6 : at1 = 6 := by omega
    cases hc : rnum B 1 0 20 at1 with
    | error q =>
      have := num_err hc (decide ((numX B 1 at1 none).1 ≤ 20)) (by simp)
      rw [h6] at this g3
      rw [this] at g3
      subst g3
      exact ⟨fun q' hq => Or.inr ⟨⟨f2, f3⟩, rfl, by cases hq; rfl⟩, fun hn => by cases hn⟩
    | ok pr =>
      obtain ⟨c, at2⟩ := pr
      obtain ⟨k1, k2, k3⟩ := num_ok hc
      rw [k1] at g1 g2 g3
      simp only at g1 g2 g3
      subst g1 g2
      have e : decide (c ≤ 20) = true := decide_eq_true k3
      rw [e] at g3
      have g3 : none = b2 := g3
      subst g3
      exact ⟨fun q hq => (by cases hq), fun _ => ⟨⟨f2, f3⟩, k3, rfl, rfl⟩⟩
theorem ScAt.bd_inj {w0 w : World} {sb : Nat} {B : List UInt8} {a a' : Nat} {bd bd' : Option Nat} (h : ScAt w0 w sb B a bd) (h' : ScAt w0 w sb B a' bd') : bd = bd' := by
  have h1 := h.cell.cell? 2
  have h2 := h'.cell.cell? 2
  rw [h1] at h2
  have h3 : badI bd = badI bd' := by simpa using h2
  cases bd <;> cases bd' <;> simp only [badI] at h3
  · rfl
  · omega
  · omega
  · congr 1; omega
theorem rows_nil (w : World) (base : Nat) : Rows w base [] (ofsX [] 0) (List.replicate ([] : List RRow).length (.slice none 0 0, [])) :=
  ⟨fun j hj => by simp at hj, fun j hj => by simp at hj, fun j hj => by simp at hj, fun j k hj => by simp at hj, by simp, fun x hx => by simp at hx, rfl, rfl⟩
/-- The end of a text. -/
theorem end_two (x y : UInt8) (s : Nat) (hs : s < 65536) : ([x, y] = two s) ↔ valB [x, y] = s := by
  have hx := x.toNat_lt
  have hy := y.toNat_lt
  have hv : valB [x, y] = x.toNat * 256 + y.toNat := by simp [valB]
  rw [hv]
  unfold two
  constructor
  · intro h
    simp only [List.cons.injEq, and_true] at h
    obtain ⟨h1, h2⟩ := h
    have e1 := congrArg UInt8.toNat h1
    have e2 := congrArg UInt8.toNat h2
    simp at e1 e2
    omega
  · intro h
    simp only [List.cons.injEq, and_true]
    constructor
    · apply UInt8.toNat.inj
      simp
      omega
    · apply UInt8.toNat.inj
      simp
      omega
set_option maxHeartbeats 4000000 in
set_option maxRecDepth 100000 in
theorem refLoad_good (w : World) (t : ByteArray) (m : Nat) (B : List UInt8) (hl : B.length ≤ 140737488355328) (hm : t.size = m + 2) (hm2 : m ≤ 140737488355328) (hB : t.extract 0 m = ⟨B.toArray⟩) (hE : t.extract m t.size = ⟨(two (sumB B)).toArray⟩) :
    Calls Try.prog 34 #[.string t] w (ROk w B) := by
  refine load_head w t m B hl hm hm2 hB hE (ROk w B) ?_
  intro _ _ _ _ _ _ _ _ _ _ _ _ _ _ _ _ _ _ _ _ _ _ _ _ _ _ _ _ _ _ _ _ _ _ _ _ _ _ _ _ _ _ _ _ _ _ _ _ _ _ _ _ _ _ _ _ _ _ _ _ _ _ _ _ _ _ _ _ _ _ _ _ _ _ _ _ _ _ _ _ _ _ _ _ _ _ _ _ _ _ _ _ _ _ _ _ _ _ _ _ _ _ _ _ _ _ _ _ _ _ _ _ _ _ _ _ _ _ _ _ _ _ _ _ _ _ _ _ _ _ _ _ _ _ _ _ _ _ _ wd sb hM
  obtain ⟨a0, b0, hsc, hre⟩ : ∃ a bd, ScAt w wd sb B a bd ∧ ((∃ q, rmark B 4 0 = .error q ∧ bd = some q) ∨ (rmark B 4 0 = .ok 4 ∧ a = 4 ∧ bd = none)) := by
    rcases hM.out with ⟨q, at_, h1, h2⟩ | ⟨h1, h2⟩
    · exact ⟨at_, some q, h2, Or.inl ⟨q, h1, rfl⟩⟩
    · exact ⟨4, none, h2, Or.inr ⟨h1.symm, rfl, rfl⟩⟩
  have hSw : ∀ {w1 : World}, Same [] w w1 → ∀ {w2 : World}, Same [] w1 w2 → Same [] w w2 := fun h1 _ h2 => h1.step h2 (by simp)
  refine load_mid _ _ _ _ _ _ _ _ _ _ _ _ _ _ _ _ _ _ _ _ _ _ _ _ _ _ _ _ _ _ _ _ _ _ _ _ _ _ _ _ _ _ _ _ _ _ _ _ _ _ _ _ _ _ _ _ _ _ _ _ _ _ _ _ _ _ _ _ _ _ _ _ _ _ _ _ _ _ _ _ _ _ _ _ _ _ _ _ _ _ _ _ _ _ _ _ _ _ _ _ _ _ _ _ _ _ _ _ _ _ _ _ _ _ _ _ _ _ _ _ _ _ _ _ _ _ _ _ _ _ _ _ _ _ _ _ _ _ _ w wd sb B a0 b0 hl hsc (ROk w B) ?_
  intro _ _ _ _ _ _ _ _ _ _ _ _ _ _ _ _ _ _ _ _ _ _ _ _ _ _ _ _ _ _ _ _ _ _ _ _ _ _ _ _ _ _ _ _ _ _ _ _ _ _ _ _ _ _ _ _ _ _ _ _ _ _ _ _ _ _ _ _ _ _ _ _ _ _ _ _ _ _ _ _ _ _ _ _ _ _ _ _ _ _ _ _ _ _ _ _ _ _ _ _ _ _ _ _ _ _ _ _ _ _ _ _ _ _ _ _ _ _ _ _ _ _ _ _ _ _ _ _ _ _ _ _ _ _ _ wd2 n count a1 a2 b1 b2 hh
  obtain ⟨h1, h2, hn6, hc6, hsc2, hP, hS2⟩ := hh.out
  have hsblt := hsc.cell.lt
  have hsz := hS2.size
  have hrlt := hP.lt
  have hw0 := hsc.same.size
  cases b2 with
  | some q =>
    have hrp : rpool B = .error q := by
      rcases hre with ⟨q0, e1, rfl⟩ | ⟨e1, rfl, rfl⟩
      · rw [size_bad] at h1
        simp only [Prod.mk.injEq] at h1
        obtain ⟨_, _, rfl⟩ := h1
        rw [count_bad] at h2
        simp only [Prod.mk.injEq] at h2
        obtain ⟨_, _, h2⟩ := h2
        cases h2
        simp only [rpool, e1]
      · rcases (head_spec h1 h2).1 q rfl with e2 | ⟨_, e2, e3⟩
        · simp only [rpool, e1, e2]
        · simp only [rpool, e1, e2, rlist, e3]
    exact load_ents_bad _ _ _ _ _ _ _ _ _ _ _ _ _ _ _ _ _ _ _ _ _ _ _ _ _ _ _ _ _ _ _ _ _ _ _ _ _ _ _ _ _ _ _ _ _ _ _ _ _ _ _ _ _ _ _ _ _ _ _ _ _ _ _ _ _ _ _ _ _ _ _ _ _ _ _ _ _ _ _ _ _ _ _ _ _ _ _ _ _ _ _ _ _ _ _ _ _ _ _ _ _ _ _ _ _ _ _ _ _ _ _ _ _ _ _ _ _ _ _ _ _ _ _ _ _ _ _ _ _ _ _ _ _ _ _ _ _ _ w wd2 sb B a2 q count hc6 hsc2 (ROk w B) (fun w' hw => ROk.bad hrp (hSw hsc2.same hw))
  | none =>
    obtain ⟨e1, rfl, rfl⟩ : rmark B 4 0 = .ok 4 ∧ a0 = 4 ∧ b0 = none := by
      rcases hre with ⟨q0, e1, rfl⟩ | h
      · rw [size_bad] at h1
        simp only [Prod.mk.injEq] at h1
        obtain ⟨_, _, rfl⟩ := h1
        rw [count_bad] at h2
        simp only [Prod.mk.injEq] at h2
        obtain ⟨_, _, h2⟩ := h2
        cases h2
      · exact h
    obtain ⟨hn, hc, e2, e3⟩ := (head_spec h1 h2).2 rfl
    have hrl : rlist B n a1 = rents B count n count [] a2 := by simp only [rlist, e3]
    refine load_ents _ _ _ _ _ _ _ _ _ _ _ _ _ _ _ _ _ _ _ _ _ _ _ _ _ _ _ _ _ _ _ _ _ _ _ _ _ _ _ _ _ _ _ _ _ _ _ _ _ _ _ _ _ _ _ _ _ _ _ _ _ _ _ _ _ _ _ _ _ _ _ _ _ _ _ _ _ _ _ _ _ _ _ _ _ _ _ _ _ _ _ _ _ _ _ _ _ _ _ _ _ _ _ _ _ _ _ _ _ _ _ _ _ _ _ _ _ _ _ _ _ _ _ _ _ _ _ _ _ _ _ _ _ _ _ w wd2 sb wd.heap.size wd2.heap.size B n count a2 hl hn hc ?_ (ROk w B) ?_
    · refine Or.inr ⟨[], [], .slice none 0 0, a2, rfl, rfl, ⟨fun p hp => by simp at hp, by simp, by simp⟩, rfl, ?_⟩
      refine ⟨hsc2, rows_nil _ _, fun x hx => by simp at hx, hP, World.ownsRow_nil _ _ _ _, World.ownsRow_nil _ _ _ _, World.ownsRow_nil _ _ _ _, fun g hg => (by cases hg), fun g hg => (by cases hg), fun g hg => (by cases hg), by omega, ⟨hrlt, by omega, hw0⟩, ⟨Nat.le_refl _, by omega⟩⟩
    · intro _ _ _ _ _ _ _ _ u11 u12 _ _ _ _ _ _ _ _ _ _ _ _ _ _ _ _ _ _ _ _ _ _ _ _ _ _ _ _ _ _ _ _ _ _ _ _ _ _ _ _ _ _ _ _ _ _ _ _ _ _ _ _ _ _ _ _ _ _ _ _ _ _ _ _ _ _ _ _ _ _ _ _ _ _ _ _ _ _ _ _ _ _ _ _ _ _ _ _ _ _ _ _ _ _ _ _ _ _ _ _ _ _ _ _ _ _ _ _ _ _ _ _ _ _ _ _ _ _ _ _ _ _ _ _ _ _ _ wd3 i hh3
      obtain ⟨hic, hR3, hlt3⟩ := hh3.out
      have hbadR : ∀ q at_, rents B count n count [] a2 = .error q → ScAt w wd3 sb B at_ (some q) → ∀ w', Same [] wd3 w' → ROk w B (.returned (.tuple #[.pointer none, .int .i64 12, .int .i64 (q : Int)])) w' := fun q at_ hq hs w' hw =>
        ROk.bad (by simp only [rpool, e1, e2, hrl, hq]) (hSw hs.same hw)
      rcases hR3 with ⟨q, at_, hq, hs⟩ | ⟨ps, xs, pv, at_, hpl, ht, hok, hxs, hI⟩
      · exact load_bad _ _ _ _ _ _ _ _ _ _ _ _ _ _ _ _ _ _ _ _ _ _ _ _ _ _ _ _ _ _ _ _ _ _ _ _ _ _ _ _ _ _ _ _ _ _ _ _ _ _ _ _ _ _ _ _ _ _ _ _ _ _ _ _ _ _ _ _ _ _ _ _ _ _ _ _ _ _ _ _ _ _ _ _ _ _ _ _ _ _ _ _ _ _ _ _ _ _ _ _ _ _ _ _ _ _ _ _ _ _ _ _ _ _ _ _ _ _ _ _ _ _ _ _ _ _ _ _ _ _ _ _ _ _ _ _ _ _ _ w wd3 sb B at_ q hs (ROk w B) (hbadR q at_ hq hs)
      · have hi : i = count := by
          rcases Nat.lt_or_ge i count with hlt | hge
          · obtain ⟨q, at', _, hs⟩ := hlt3 hlt
            have := hs.bd_inj hI.sc
            cases this
          · omega
        subst hi
        rw [Nat.sub_self] at ht
        have ht : rents B i n i [] a2 = .ok (ps, at_) := ht.symm
        have hok' := hok
        rw [← hpl] at hok'
        have ho : ∀ p ∈ ps, p.kind ≠ 0 → p.origin < ps.length := fun p hp hk => (hok'.all p hp).org hk
        obtain ⟨j1, j2⟩ := join_all hxs ho
        obtain ⟨hX, hnm⟩ := xs_ok hxs hok hpl hc hn.2
        have hrp : rpool B = (match rjoin ps ps with | .error q => .error q | .ok _ => match rdisk B (usedP ps) n at_ with | .error q => .error q | .ok (bl, at3) => if at3 = B.length then .ok (n, ps, at_) else .error at3) := by
          simp only [rpool, e1, e2, hrl, ht]
          rfl
        have hfull : ∀ w1 r, joinX xs xs.length = none → at_ + 8 * n ≤ B.length → TiedOk w w1 B at_ n xs wd.heap.size r → (rfree B (usedP ps) at_ n 0 = .ok () → blocksX B r at_ n none = none) ∧ ∀ q, rfree B (usedP ps) at_ n 0 = .error q → blocksX B r at_ n none = some q := fun w1 r hj hle hT => by
          have := blocks_spec B r (usedP ps) at_ n (fun k hk => blk_spec ⟨hxs, hok', hj, hle⟩ hT hnm hX k hk) n 0 (by omega) rfl
          rw [Nat.zero_add] at this
          exact this
        refine load_good _ _ _ _ _ _ _ _ _ _ _ _ _ _ _ _ _ _ _ _ _ _ _ _ _ _ _ _ _ _ _ _ _ _ _ _ _ _ _ _ _ _ _ _ _ _ _ _ _ _ _ _ _ _ _ _ _ _ _ _ _ _ _ _ _ _ _ _ _ _ _ _ _ _ _ _ _ _ _ _ _ _ _ _ _ _ _ _ _ _ _ _ _ _ _ _ _ _ _ _ _ _ _ _ _ _ _ _ _ _ _ _ _ _ _ _ _ _ _ _ _ _ _ _ _ _ _ _ _ _ _ _ _ _ _ _ w wd3 sb wd.heap.size wd2.heap.size B n i at_ _ ps xs u11 u12 pv _ hl hn.2 hc hI hxs hok hpl (ROk w B) ?_ ?_
        · intro w1 w' q a hPp hs hw
          refine ROk.bad ?_ (hSw hs.same hw)
          rw [hrp]
          rcases hPp with ⟨q', hj, hs'⟩ | ⟨hj, hle, hs'⟩ | ⟨r, hj, hle, hT, hs'⟩
          · have := hs.bd_inj hs'
            cases this
            rw [j2 _ hj]
          · have := hs.bd_inj hs'
            cases this
            rw [j1 hj]
            simp only
            unfold rdisk
            rw [if_neg (by omega)]
          · have hbd := hs.bd_inj hs'
            obtain ⟨f1, f2⟩ := hfull w1 r hj hle hT
            rw [j1 hj]
            simp only
            unfold rdisk
            rw [if_pos (by omega)]
            cases hf : rfree B (usedP ps) at_ n 0 with
            | error q' =>
              rw [f2 _ hf] at hbd
              cases hbd
              rfl
            | ok u =>
              rw [f1 hf] at hbd
              simp only [mustB] at hbd
              by_cases hz : at_ + 8 * n = B.length
              · rw [decide_eq_true hz] at hbd; cases hbd
              · rw [decide_eq_false hz] at hbd
                simp only [Bool.false_eq_true, if_false, Option.some.injEq] at hbd
                simp only
                rw [if_neg (by omega), hbd, Nat.mul_comm 8 n]
        · intro w1 a hPp hs
          rcases hPp with ⟨q', hj, hs'⟩ | ⟨hj, hle, hs'⟩ | ⟨r, hj, hle, hT, hs'⟩
          · have := hs.bd_inj hs'
            cases this
          · have := hs.bd_inj hs'
            cases this
          · have hbd := hs.bd_inj hs'
            obtain ⟨f1, f2⟩ := hfull w1 r hj hle hT
            unfold ROk
            have hok2 : rpool B = .ok (n, ps, at_) := by
              rw [hrp, j1 hj]
              simp only
              unfold rdisk
              rw [if_pos (by omega)]
              cases hf : rfree B (usedP ps) at_ n 0 with
              | error q' => rw [f2 _ hf] at hbd; cases hbd
              | ok u =>
                rw [f1 hf] at hbd
                simp only [mustB] at hbd
                by_cases hz : at_ + 8 * n = B.length
                · simp only
                  rw [if_pos (by omega)]
                · rw [decide_eq_false hz] at hbd
                  cases hbd
            rw [hok2]
            refine ⟨r, xs, by rw [hT.erb], ⟨hxs, hok', hj, hle⟩, ?_, hs.same⟩
            rw [hT.erb]
            exact hT
theorem extract_take (t : ByteArray) (m : Nat) : t.extract 0 m = ⟨(t.data.toList.take m).toArray⟩ := by
  apply ByteArray.ext
  rw [ByteArray.data_extract]
  apply Array.toList_inj.1
  simp [Array.toList_extract, List.extract_eq_take_drop]
theorem refLoad_calls (w : World) (t : ByteArray) (hl : t.size ≤ 140737488355328) : Calls Try.prog 34 #[.string t] w (RLoadPost w t.data.toList) := by
  have hsz : t.data.toList.length = t.size := by rw [Array.length_toList]; rfl
  by_cases h2 : 2 ≤ t.size
  · obtain ⟨m, hm⟩ : ∃ m, t.size = m + 2 := ⟨t.size - 2, by omega⟩
    have hab : aheadB t.data.toList = t.data.toList.take m := by unfold aheadB; rw [hsz, hm, Nat.add_sub_cancel]
    have hB : t.extract 0 m = ⟨(aheadB t.data.toList).toArray⟩ := by rw [hab]; exact extract_take t m
    have hbl : (aheadB t.data.toList).length ≤ 140737488355328 := by rw [hab, List.length_take]; omega
    have htl : t.extract m t.size = ⟨((t.data.toList.drop m).take 2).toArray⟩ := by
      apply ByteArray.ext
      rw [ByteArray.data_extract]
      apply Array.toList_inj.1
      rw [hm, Array.toList_extract, List.extract_eq_take_drop, Nat.add_sub_cancel_left]
    have hlen2 : (t.data.toList.drop m).length = 2 := by rw [List.length_drop]; omega
    obtain ⟨x, y, hxy⟩ : ∃ x y, t.data.toList.drop m = [x, y] := by
      match hq : t.data.toList.drop m, hlen2 with
      | [x, y], _ => exact ⟨x, y, rfl⟩
    have hend : endN t.data.toList = valB [x, y] := by
      unfold endN numAt
      rw [hsz, hm, Nat.add_sub_cancel, hxy]
      rfl
    rw [hxy] at htl
    have htl : t.extract m t.size = ⟨([x, y] : List UInt8).toArray⟩ := htl
    have hlt : sumB (aheadB t.data.toList) < 65536 := by have := sumB_lt (aheadB t.data.toList); omega
    have heq := end_two x y _ hlt
    by_cases hs : endN t.data.toList = sumB (aheadB t.data.toList)
    · have hE : t.extract m t.size = ⟨(two (sumB (aheadB t.data.toList))).toArray⟩ := by rw [htl, heq.2 (by rw [← hend]; exact hs)]
      refine (refLoad_good w t m _ hbl hm (by omega) hB hE).mono fun e w' h => ?_
      unfold RLoadPost
      rw [if_pos ⟨by omega, hs⟩]
      exact h
    · have hE : t.extract m t.size ≠ ⟨(two (sumB (aheadB t.data.toList))).toArray⟩ := fun h => hs (by
        rw [htl] at h
        have h : [x, y] = two (sumB (aheadB t.data.toList)) := by simpa using h
        rw [hend]
        exact heq.1 h)
      refine (load_other w t m _ hbl hm (by omega) hB hE).mono fun e w' h => ?_
      unfold RLoadPost
      rw [if_neg (fun hc => hs hc.2)]
      exact h
  · refine (load_none w t ?_).mono fun e w' h => ?_
    · have : t.data.toList.length < 2 := by omega
      match hq : t.data.toList, this with
      | [], _ => exact Or.inl (by apply ByteArray.ext; exact Array.toList_inj.1 hq)
      | [a], _ => exact Or.inr ⟨a, by apply ByteArray.ext; exact Array.toList_inj.1 hq⟩
    · unfold RLoadPost
      rw [if_neg (fun hc => h2 (by rw [← hsz]; exact hc.1))]
      exact h
theorem kept_idx {l : List Nat} {q : Nat} (h : q ∈ l) : l.idxOf q < l.length ∧ l[l.idxOf q]! = q := by
  have h1 := List.idxOf_lt_length_of_mem h
  refine ⟨h1, ?_⟩
  rw [getElem!_pos l _ h1]
  exact List.getElem_idxOf h1
theorem ofs_none (xs : List RRow) (i : Nat) (hi : i < xs.length) (ho : (xs[i]!).e.origin = none) : (ofsX xs xs.length)[i]! = ⟨#[]⟩ := by
  unfold ofsX
  rw [getElem!_pos (List.map _ _) i (by simpa using hi)]
  simp only [List.getElem_map, List.getElem_range, if_pos hi, ho]
theorem ofs_some (xs : List RRow) (i o : Nat) (hi : i < xs.length) (ho : (xs[i]!).e.origin = some o) : (ofsX xs xs.length)[i]! = (xs[o]!).e.name := by
  unfold ofsX
  rw [getElem!_pos (List.map _ _) i (by simpa using hi)]
  simp only [List.getElem_map, List.getElem_range, if_pos hi, ho]
theorem loaded_rel {w w' w1 w2 : World} {B : List UInt8} {n at_ : Nat} {pv : List (PEnt × Vol)} {ps : List PEnt} {pb db bb fb jg : Nat} {d : Array Int} {xs : List RRow} {rb : Nat} {r : RSt} (h : PoolRaw w w' B n at_ pv pb db bb fb jg d) (hps : pv.map (·.1) = ps) (hp : rpool B = .ok (n, ps, at_)) (hA : AllOk B n at_ xs ps) (hT : TiedOk w1 w2 B at_ n xs rb r) : Rel (ldSt pv pb db bb fb jg n B at_ d) r := by
  subst hps
  have hr := rpool_ok hp
  obtain ⟨hl, _, he⟩ := xs_ent hA.eq
  have hlp : (pv.map (·.1)).length = pv.length := by simp
  have hbl : ∀ k, k < n → (ldSt pv pb db bb fb jg n B at_ d).bl[k]! = blk8 B (at_ + k * 8) ∧ (blk8 B (at_ + k * 8)).text = textAt B (at_ + 8 * k) 8 := fun k hk => by
    have := hA.len
    refine ⟨blks8_get B at_ n k hk, ?_⟩
    rw [text8 B _ (by omega), Nat.mul_comm 8 k]
  refine ⟨hT.en, by rw [hT.len, hl, hlp]; show _ = (pv.map (joinV pv)).length; simp, fun i hi => ?_⟩
  have hi' : i < pv.length := by have : i < (pv.map (joinV pv)).length := hi; simpa using this
  have ev : (ldSt pv pb db bb fb jg n B at_ d).vols[i]! = joinV pv pv[i]! := by
    show (pv.map (joinV pv))[i]! = _
    rw [getElem!_pos _ i (by simpa using hi'), List.getElem_map, getElem!_pos pv i hi']
  obtain ⟨hfst, hmem⟩ := fst_get pv i hi'
  rw [ev]
  have j := joinV_jv (pv := pv) (h.ent _ hmem)
  obtain ⟨o1, o2⟩ := loaded_org h hr hmem
  obtain ⟨t1, t2, t3, t4, t5, t6⟩ := hT.each i (by rw [hl, hlp]; exact hi')
  have hei : (xs[i]!).e = (pv[i]!).1.ref := by rw [he i (by rw [hlp]; exact hi'), hfst]
  have hok := hr.ents.all (pv[i]!).1 (List.mem_map.2 ⟨_, hmem, rfl⟩)
  rw [hei] at t1 t4 t5 t6
  have hofs : ((xs[i]!).e.origin = none → (ofsX xs xs.length)[i]! = ⟨#[]⟩) ∧ ∀ o, (xs[i]!).e.origin = some o → (ofsX xs xs.length)[i]! = (xs[o]!).e.name := by
    have hix : i < xs.length := by rw [hl, hlp]; exact hi'
    exact ⟨fun e => ofs_none xs i hix e, fun o e => ofs_some xs i o hix e⟩
  by_cases hk : (pv[i]!).1.kind = 0
  · have hn : (joinV pv pv[i]!).org = none := j.none.2 hk
    have horg := o1 hk
    have hsz : (ldSt pv pb db bb fb jg n B at_ d).size (joinV pv pv[i]!) = (pv[i]!).1.xs.length := by unfold St.size; rw [horg, j.xs]
    have hd : (r.vols[i]!).data = dataX B at_ (pv[i]!).1.xs := by
      rw [t3]
      unfold holdX
      rw [hei, (ref_none _).2 hk]
      rfl
    have hlook : ∀ q, q < (pv[i]!).1.xs.length → (ldSt pv pb db bb fb jg n B at_ d).look (joinV pv pv[i]!) q = blk8 B (at_ + (pv[i]!).1.xs[q]! * 8) ∧ (pv[i]!).1.xs[q]! < n := fun q hq => by
      have hx : (pv[i]!).1.xs[q]! < n := (hok.xs.2 _ (by rw [getElem!_pos _ q hq]; exact List.getElem_mem hq)).1
      refine ⟨?_, hx⟩
      unfold St.look St.holder
      rw [j.kept, (hok.plain hk).2, if_neg (by simp), horg, j.xs]
      exact (hbl _ hx).1
    refine ⟨by rw [t1, j.name]; rfl, ?_, by rw [hd, hsz, dataX, List.length_map], by rw [t4, j.xs]; rfl, by rw [t5, j.kept]; rfl, by rw [t6, j.lost]; rfl, fun _ q hq => ?_, fun _ q hq => ?_⟩
    · rw [if_pos hn, t2]
      exact hofs.1 (by rw [hei]; exact (ref_none _).2 hk)
    · rw [hsz] at hq
      rw [(hlook q hq).1]
      exact blk8_ok B _
    · rw [hsz] at hq
      obtain ⟨e1, e2⟩ := hlook q hq
      rw [hd, dataX_get B at_ _ q hq, e1, (hbl _ e2).2]
  · have hn : (joinV pv pv[i]!).org ≠ none := fun e => hk (j.none.1 e)
    obtain ⟨p1, p2, horg, p4, p5⟩ := o2 hk
    have jo := joinV_jv (pv := pv) (h.ent _ p2)
    have hoko := hr.ents.all _ (List.mem_map.2 ⟨_, p2, rfl⟩)
    obtain ⟨hfo, _⟩ := fst_get pv (pv[i]!).1.origin p1
    have heo : (xs[(pv[i]!).1.origin]!).e = (pv[(pv[i]!).1.origin]!).1.ref := by rw [he _ (by rw [hlp]; exact p1), hfo]
    have hsz : (ldSt pv pb db bb fb jg n B at_ d).size (joinV pv pv[i]!) = (pv[(pv[i]!).1.origin]!).1.xs.length := by unfold St.size; rw [horg, jo.xs]
    have hso : (pv[(pv[i]!).1.origin]!).1.xs.length = (pv[i]!).1.size := by rw [(hoko.plain p4).1, p5]
    have hd : (r.vols[i]!).data = picD B at_ xs[i]! (dataX B at_ (pv[(pv[i]!).1.origin]!).1.xs) (pv[i]!).1.kept.length := by
      rw [t3]
      unfold holdX
      rw [hei, ref_some _ hk]
      simp only
      rw [heo]
      rfl
    have hkk : (xs[i]!).e.kept = (pv[i]!).1.kept := by rw [hei]; rfl
    have hxx : (xs[i]!).e.xs = (pv[i]!).1.xs := by rw [hei]; rfl
    have hlook : ∀ q, q < (pv[(pv[i]!).1.origin]!).1.xs.length → ∃ k, k < n ∧ (ldSt pv pb db bb fb jg n B at_ d).look (joinV pv pv[i]!) q = blk8 B (at_ + k * 8) ∧ (r.vols[i]!).data[q]! = textAt B (at_ + 8 * k) 8 := fun q hq => by
      unfold St.look St.holder
      rw [j.kept, j.xs, horg, jo.xs, hd]
      by_cases hqk : q ∈ (pv[i]!).1.kept
      · obtain ⟨a1, a2⟩ := kept_idx hqk
        have hxl : (pv[i]!).1.kept.idxOf q < (pv[i]!).1.xs.length := by have := hok.keptle; omega
        have hx : (pv[i]!).1.xs[(pv[i]!).1.kept.idxOf q]! < n := (hok.xs.2 _ (by rw [getElem!_pos (pv[i]!).1.xs _ hxl]; exact List.getElem_mem hxl)).1
        rw [if_pos hqk]
        refine ⟨_, hx, (hbl _ hx).1, ?_⟩
        have hg := picD_get B at_ xs[i]! (dataX B at_ (pv[(pv[i]!).1.origin]!).1.xs) (by rw [hkk]; exact hok.kept.1) (pv[i]!).1.kept.length (by rw [hkk]; exact Nat.le_refl _) ((pv[i]!).1.kept.idxOf q) a1 (by rw [hkk, a2, dataX, List.length_map]; exact hq)
        rw [hkk, hxx, a2] at hg
        exact hg
      · have hx : (pv[(pv[i]!).1.origin]!).1.xs[q]! < n := (hoko.xs.2 _ (by rw [getElem!_pos _ q hq]; exact List.getElem_mem hq)).1
        rw [if_neg hqk]
        refine ⟨_, hx, (hbl _ hx).1, ?_⟩
        rw [picD_else B at_ xs[i]! _ q (by rw [dataX, List.length_map]; exact hq) _ (fun a ha e => ?_), dataX_get B at_ _ q hq]
        rw [hkk, getElem!_pos _ a ha] at e
        exact hqk (by rw [← e]; exact List.getElem_mem ha)
    refine ⟨by rw [t1, j.name]; rfl, ?_, by rw [hd, picD_length, hsz, dataX, List.length_map], by rw [t4, j.xs]; rfl, by rw [t5, j.kept]; rfl, by rw [t6, j.lost]; rfl, fun _ q hq => ?_, fun _ q hq => ?_⟩
    · rw [if_neg hn, t2, hofs.2 _ (by rw [hei]; exact ref_some _ hk), horg, jo.name, heo]
      rfl
    · rw [hsz] at hq
      obtain ⟨k, _, e2, _⟩ := hlook q hq
      rw [e2]
      exact blk8_ok B _
    · rw [hsz] at hq
      obtain ⟨k, e1, e2, e3⟩ := hlook q hq
      rw [e3, e2, (hbl k e1).2]
end
end Go.Proofs.Ytpddgdjocffgdaa
