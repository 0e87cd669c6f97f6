/- A byte that is another changes the sum. A Pool and the one that was loaded from its image hold the same. All blocks are bytes, where all that can be read is. A Pool: Write, by contracts, up to what writes. A Pool: writeVolume, by a contract. A Pool: what a Write of a volume leaves, in what stands everywhere. A Pool: writePicture, by contracts. A Pool: Write, by contracts: what it leaves. What stands everywhere: when a picture is written at a place that it keeps; when something comes. -/
import Derived.Test.YtpddgdjocffgdaaG12
import Derived.Test.YtpddgdjocffgdaaG03
import Derived.Test.YtpddgdjocffgdaaG11
namespace Go.Proofs.Ytpddgdjocffgdaa
section PartSumA
open Go.RowKit Go.Sort
set_option linter.unusedVariables false
set_option linter.unusedSimpArgs false
set_option linter.unusedSectionVars false
variable [DecidableEq Blk] [Inhabited Blk]
variable [Inhabited Vol]
variable [Inhabited PEnt]

theorem sum_step_inj (a b c : Nat) (ha : a < 65521) (hb : b < 65521) (h : (a * 31 + c) % 65521 = (b * 31 + c) % 65521) : a = b := by omega
theorem sum_run (l : List UInt8) : ∀ a b : Nat, a < 65521 → b < 65521 → a ≠ b → l.foldl (fun n b => (n * 31 + b.toNat) % 65521) a ≠ l.foldl (fun n b => (n * 31 + b.toNat) % 65521) b := by
  induction l with
  | nil => intro a b _ _ h; exact h
  | cons x r ih =>
    intro a b ha hb h
    rw [List.foldl_cons, List.foldl_cons]
    exact ih _ _ (Nat.mod_lt _ (by omega)) (Nat.mod_lt _ (by omega)) (fun e => h (sum_step_inj a b _ ha hb e))
theorem sum_change (P R : List UInt8) (x y : UInt8) (h : x ≠ y) : sumB (P ++ x :: R) ≠ sumB (P ++ y :: R) := by
  unfold sumB
  rw [List.foldl_append, List.foldl_append, List.foldl_cons, List.foldl_cons]
  refine sum_run R _ _ (Nat.mod_lt _ (by omega)) (Nat.mod_lt _ (by omega)) fun e => h ?_
  have hx := x.toNat_lt
  have hy := y.toNat_lt
  apply UInt8.toNat_inj.1
  generalize List.foldl (fun n b => (n * 31 + b.toNat) % 65521) 1 P = n at e
  omega
theorem set_split (I : List UInt8) (k : Nat) (y : UInt8) (hk : k < I.length) : ∃ P R, I = P ++ I[k]! :: R ∧ I.set k y = P ++ y :: R ∧ P.length = k := by
  refine ⟨I.take k, I.drop (k + 1), ?_, ?_, by rw [List.length_take]; omega⟩
  · rw [getElem!_pos I k hk, ← List.drop_eq_getElem_cons hk, List.take_append_drop]
  · rw [List.set_eq_take_append_cons_drop, if_pos hk]
/-- An image with one byte that is another does not tell its own sum. -/
theorem flip_sum (I : List UInt8) (k : Nat) (y : UInt8) (hk : k < I.length) (h2 : 2 ≤ I.length) (he : endN I = sumB (aheadB I)) (hy : I[k]! ≠ y) : endN (I.set k y) ≠ sumB (aheadB (I.set k y)) := by
  have hl : (I.set k y).length = I.length := List.length_set
  by_cases h : k < I.length - 2
  · have e1 : endN (I.set k y) = endN I := by
      unfold endN numAt
      rw [hl, List.drop_set, if_pos h]
    have e2 : aheadB (I.set k y) = (aheadB I).set k y := by
      unfold aheadB
      rw [hl, List.take_set]
    have hk' : k < (aheadB I).length := by unfold aheadB; rw [List.length_take]; omega
    have e3 : (aheadB I)[k]! = I[k]! := by
      unfold aheadB
      rw [getElem!_pos _ k (by rw [List.length_take]; omega), getElem!_pos _ k hk, List.getElem_take]
    obtain ⟨P, R, p1, p2, p3⟩ := set_split (aheadB I) k y hk'
    rw [e1, he, e2, p2]
    rw [e3] at p1
    intro e
    rw [p1] at e
    exact sum_change P R _ _ hy e
  · have e2 : aheadB (I.set k y) = aheadB I := by
      unfold aheadB
      rw [hl, List.take_set_of_le (by omega)]
    rw [e2, ← he]
    intro e
    unfold endN numAt at e
    rw [hl] at e
    obtain ⟨a, b, hab⟩ := list_two (l := (I.drop (I.length - 2)).take 2) (by rw [List.length_take, List.length_drop]; omega)
    obtain ⟨c, d, hcd⟩ := list_two (l := ((I.set k y).drop (I.length - 2)).take 2) (by rw [List.length_take, List.length_drop, hl]; omega)
    rw [hab, hcd] at e
    have e' : two (valB [c, d]) = two (valB [a, b]) := by rw [e]
    rw [two_back, two_back] at e'
    have hD : (I.set k y).drop (I.length - 2) = I.drop (I.length - 2) := by
      have q1 : ((I.set k y).drop (I.length - 2)).take 2 = (I.set k y).drop (I.length - 2) := List.take_of_length_le (by rw [List.length_drop, hl]; omega)
      have q2 : (I.drop (I.length - 2)).take 2 = I.drop (I.length - 2) := List.take_of_length_le (by rw [List.length_drop]; omega)
      rw [← q1, ← q2, hab, hcd, e']
    have g1 : ((I.set k y).drop (I.length - 2))[k - (I.length - 2)]? = (I.drop (I.length - 2))[k - (I.length - 2)]? := by rw [hD]
    rw [List.getElem?_drop, List.getElem?_drop, show I.length - 2 + (k - (I.length - 2)) = k by omega, List.getElem?_set_self hk, List.getElem?_eq_getElem hk] at g1
    apply hy
    rw [getElem!_pos I k hk]
    exact (Option.some.inj g1).symm
end PartSumA

section PartSameA
open Go.RowKit Go.Sort
set_option linter.unusedVariables false
set_option linter.unusedSimpArgs false
set_option linter.unusedSectionVars false
variable [DecidableEq Blk] [Inhabited Blk]
variable [Inhabited Vol]
variable [Inhabited PEnt]

structure AlikeV (s s' : St) (i : Nat) : Prop where
  name : (s'.vols[i]!).name = (s.vols[i]!).name
  xs : (s'.vols[i]!).xs = (s.vols[i]!).xs
  kept : (s'.vols[i]!).kept = (s.vols[i]!).kept
  lost : (s'.vols[i]!).lost = (s.vols[i]!).lost
  none : (s'.vols[i]!).org = none ↔ (s.vols[i]!).org = none
  org : ∃ j, j < s.vols.length ∧ s.orgOf (s.vols[i]!) = s.vols[j]! ∧ s'.orgOf (s'.vols[i]!) = s'.vols[j]!
/-- Two Pools that hold the same. -/
structure Alike (s s' : St) : Prop where
  n : s'.n = s.n
  bl : s'.bl = s.bl
  len : s'.vols.length = s.vols.length
  vol : ∀ i, i < s.vols.length → AlikeV s s' i

theorem Alike.names {s s' : St} (h : Alike s s') : s'.names = s.names := by
  unfold St.names
  apply List.ext_getElem
  · rw [List.length_map, List.length_map, h.len]
  · intro i h1 h2
    rw [List.length_map] at h1 h2
    have := (h.vol i h2).name
    rw [getElem!_pos _ i h1, getElem!_pos _ i h2] at this
    rw [List.getElem_map, List.getElem_map]
    exact this
theorem Alike.size {s s' : St} (h : Alike s s') (i : Nat) (hi : i < s.vols.length) : s'.size (s'.vols[i]!) = s.size (s.vols[i]!) := by
  obtain ⟨j, hj, e1, e2⟩ := (h.vol i hi).org
  unfold St.size
  rw [e1, e2, (h.vol j hj).xs]
theorem Alike.look {s s' : St} (h : Alike s s') (i : Nat) (hi : i < s.vols.length) (k : Nat) : s'.look (s'.vols[i]!) k = s.look (s.vols[i]!) k := by
  obtain ⟨j, hj, e1, e2⟩ := (h.vol i hi).org
  unfold St.look St.holder
  rw [e1, e2, (h.vol j hj).xs, (h.vol i hi).xs, (h.vol i hi).kept, h.bl]

theorem loaded_alike {w0 w w' : World} {s : St} {fr : List Nat} {pv : List (PEnt × Vol)} {pb db bb fb jg : Nat} {d : Array Int} (hP : PoolAt w0 s) (hG : Good s fr)
    (h : PoolRaw w w' (bodyB s) s.n (7 + (listB s s.vols).length) pv pb db bb fb jg d) (hp : rpool (bodyB s) = .ok (s.n, s.pents s.vols 7, 7 + (listB s s.vols).length)) (hps : pv.map (·.1) = s.pents s.vols 7) (hb : blks8 (bodyB s) (7 + (listB s s.vols).length) s.n = s.bl) :
    Alike s (ldSt pv pb db bb fb jg s.n (bodyB s) (7 + (listB s s.vols).length) d) := by
  have hr := rpool_ok (B := bodyB s) (count := s.n) (ps := pv.map (·.1)) (by rw [hps]; exact hp)
  have hl : pv.length = s.vols.length := by
    have := congrArg List.length hps
    rw [List.length_map, s.pents_length] at this
    exact this
  have hvol : ∀ i, i < s.vols.length → (ldSt pv pb db bb fb jg s.n (bodyB s) (7 + (listB s s.vols).length) d).vols[i]! = joinV pv pv[i]! := fun i hi => by
    show (pv.map (joinV pv))[i]! = _
    rw [getElem!_pos _ i (by rw [List.length_map]; omega), getElem!_pos pv i (by omega), List.getElem_map]
  have hent : ∀ i, i < s.vols.length → ∃ a, pv[i]!.1 = s.pent (s.vols[i]!) a := fun i hi => by
    obtain ⟨a, ha⟩ := s.pents_get s.vols 7 i hi
    refine ⟨a, ?_⟩
    rw [← ha, ← hps, (fst_get pv i (by omega)).1]
  refine ⟨rfl, hb, by show (pv.map (joinV pv)).length = _; rw [List.length_map, hl], fun i hi => ?_⟩
  obtain ⟨a, ha⟩ := hent i hi
  have hm := (fst_get pv i (by omega)).2
  have j := joinV_jv (pv := pv) (h.ent _ hm)
  have hvm : s.vols[i]! ∈ s.vols := by rw [getElem!_pos _ i hi]; exact List.getElem_mem hi
  have va := hP.vols _ hvm
  obtain ⟨om, oo, on, os⟩ := hP.orgOf hvm
  obtain ⟨g0, g1⟩ := loaded_org h hr hm
  have hkind := s.pent_kind (s.vols[i]!) a
  rw [← ha] at hkind
  refine ⟨?_, ?_, ?_, ?_, ?_, ?_⟩
  · rw [hvol i hi, j.name, ha, s.pent_name]
  · rw [hvol i hi, j.xs, ha, s.pent_xs]
  · rw [hvol i hi, j.kept, ha]
    unfold St.pent
    cases hq : (s.vols[i]!).org with
    | none => exact (va.kept_nil hq).symm
    | some o => rfl
  · rw [hvol i hi, j.lost, ha]
    unfold St.pent
    cases hq : (s.vols[i]!).org with
    | none => rw [(va.plain hq).2]; rfl
    | some o =>
      simp only [Vol.kindN, hq]
      cases (s.vols[i]!).lost <;> simp
  · rw [hvol i hi, j.none]; exact hkind
  · by_cases ho : (s.vols[i]!).org = none
    · refine ⟨i, hi, on ho, ?_⟩
      rw [hvol i hi]
      exact g0 (hkind.2 ho)
    · have hk : pv[i]!.1.kind ≠ 0 := fun e => ho (hkind.1 e)
      obtain ⟨hol, hym, horg, _, _⟩ := g1 hk
      obtain ⟨q, hq⟩ := List.mem_iff_getElem?.1 om
      obtain ⟨hql, hqe⟩ := List.getElem?_eq_some_iff.1 hq
      have hs : s.names.Pairwise fun a b => cmpB a b < 0 := by
        unfold St.names; rw [List.pairwise_map]; exact hP.sorted
      have hnl : q < s.names.length := by unfold St.names; rw [List.length_map]; exact hql
      have e : s.names[q]! = (s.orgOf (s.vols[i]!)).name := by
        unfold St.names; rw [getElem!_pos _ q (by rw [List.length_map]; exact hql), List.getElem_map, hqe]
      have hpos : pv[i]!.1.origin = q := by
        rw [ha]
        have : (s.pent (s.vols[i]!) a).origin = posOf s.names (s.orgOf (s.vols[i]!)).name := by
          unfold St.pent
          cases hq' : (s.vols[i]!).org with
          | none => exact absurd hq' ho
          | some o => rfl
        rw [this, ← e, posOf_get hs q hnl]
      refine ⟨q, hql, by rw [getElem!_pos _ q hql]; exact hqe.symm, ?_⟩
      rw [hvol i hi, hvol q hql, horg, hpos]
end PartSameA

section PartSameB
open Go.RowKit Go.Sort
set_option linter.unusedVariables false
set_option linter.unusedSimpArgs false
set_option linter.unusedSectionVars false
variable [DecidableEq Blk] [Inhabited Blk]
variable [Inhabited Vol]
variable [Inhabited PEnt]

theorem zero_fits : Blk.zero.fits := by
  intro n hn
  simp [Blk.intsI, Blk.zero] at hn
  omega
theorem fits_all {w : World} {s : St} {fr : List Nat} (h : PoolAt w s) (hG : Good s fr) (hS : Spare s) (hl : ∀ i, i < s.vols.length → (s.vols[i]!).lost = false → ∀ q, q < s.size (s.vols[i]!) → (s.look (s.vols[i]!) q).fits) : ∀ x, x < s.n → (s.bl[x]!).fits := fun x hx => by
  have hm := hG.parts.mem_iff.2 (List.mem_range.2 hx)
  rcases List.mem_append.1 hm with hm | hm
  · rw [hG.zero x hm]; exact zero_fits
  · obtain ⟨v, hv, hxv⟩ := List.mem_flatMap.1 hm
    obtain ⟨i, hi⟩ := List.mem_iff_getElem?.1 hv
    obtain ⟨hil, hie⟩ := List.getElem?_eq_some_iff.1 hi
    have ev : s.vols[i]! = v := by rw [getElem!_pos _ i hil]; exact hie
    have va := h.vols v hv
    obtain ⟨om, oo, on, os⟩ := h.orgOf hv
    obtain ⟨p, hp⟩ := List.mem_iff_getElem?.1 hxv
    obtain ⟨hpl, hpe⟩ := List.getElem?_eq_some_iff.1 hp
    have epx : v.xs[p]! = x := by rw [getElem!_pos _ p hpl]; exact hpe
    by_cases ho : v.org = none
    · have := hl i hil (by rw [ev]; exact (va.plain ho).2) p (by rw [ev]; unfold St.size; rw [on ho]; exact hpl)
      rw [ev] at this
      have eh : s.look v p = s.bl[x]! := by
        unfold St.look St.holder
        rw [va.kept_nil ho, on ho]
        simp only [List.not_mem_nil, if_false, epx]
      rw [eh] at this
      exact this
    · have hP := hG.pics v hv
      by_cases hpk : p < v.kept.length
      · have hnl : v.lost = false := by
          cases hlo : v.lost with
          | false => rfl
          | true => rw [hP.2.1 hlo] at hpk; simp at hpk
        have hkm : v.kept[p] ∈ v.kept := List.getElem_mem hpk
        have hks := (hP.2.2 _ om (os ho)).1 _ hkm
        have := hl i hil (by rw [ev]; exact hnl) v.kept[p] (by rw [ev]; exact hks)
        rw [ev] at this
        have eh : s.look v v.kept[p] = s.bl[x]! := by
          unfold St.look St.holder
          rw [if_pos hkm]
          have ei : v.kept.idxOf v.kept[p] = p := hP.1.idxOf_getElem p hpk
          rw [ei, epx]
        rw [eh] at this
        exact this
      · have hz := hS i hil (by rw [ev]; exact ho) x (by
          rw [ev]
          refine List.mem_iff_getElem?.2 ⟨p - v.kept.length, ?_⟩
          rw [List.getElem?_drop, show v.kept.length + (p - v.kept.length) = p by omega]
          exact hp)
        rw [hz]; exact zero_fits
end PartSameB

section PartPoolC
open Go.RowKit Go.Sort
set_option linter.unusedVariables false
set_option linter.unusedSimpArgs false
set_option linter.unusedSectionVars false
variable [DecidableEq Blk] [Inhabited Blk]
variable [Inhabited Vol]

set_option maxHeartbeats 400000 in
set_option maxRecDepth 100000 in
theorem write_err (s : St) (t : ByteArray) (k e0 : Int) (b : Blk) (w : World) (he : e0 ≠ 0) (hf : ∀ w', Same [] w w' → Calls Try.prog 63 #[.pointer (some ⟨s.pb, 0, none⟩), .string t, .int .i64 k] w' fun e w'' => e = .returned (.tuple #[.pointer none, .int .i64 e0]) ∧ w'' = w') :
    Calls Try.prog 27 #[.pointer (some ⟨s.pb, 0, none⟩), .string t, .int .i64 k, b.val] w fun e w' => e = .returned (.int .i64 e0) ∧ Same [] w w' := by
  obtain ⟨x0, x1, x2, x3, x4, x5, x6, x7⟩ := b
  have hf' := hf _ ((Same.refl [] w).alloc (Obj.cells #[.int .u8 x0, .int .u8 x1, .int .u8 x2, .int .u8 x3, .int .u8 x4, .int .u8 x5, .int .u8 x6, .int .u8 x7] 55))
  clear hf
  have he' : (e0 != 0) = true := by simpa using he
  unfold Blk.val
  go_enter Try.func27, Try.ntmps27
  go_wp2_with (go_at_call 63; refine hf'.mono ?_; rintro e w' ⟨rfl, rfl⟩)
  go_ret
  exact ⟨rfl, (Same.refl _ _).alloc _⟩

set_option maxHeartbeats 2000000 in
set_option maxRecDepth 100000 in
theorem write_same (s : St) (t : ByteArray) (k : Nat) (b : Blk) (w : World) (h : PoolAt w s) (hi : s.has t = true) (hl : (s.vol t).lost = false) (hk : k < s.size (s.vol t)) (hn : s.holder (s.vol t) k < s.n) (hb : s.look (s.vol t) k = b) :
    Calls Try.prog 27 #[.pointer (some ⟨s.pb, 0, none⟩), .string t, .int .i64 k, b.val] w fun e w' => e = .returned (.int .i64 0) ∧ Same [] w w' := by
  obtain ⟨x0, x1, x2, x3, x4, x5, x6, x7⟩ := b
  have S0 := (Same.refl [] w).alloc (Obj.cells #[.int .u8 x0, .int .u8 x1, .int .u8 x2, .int .u8 x3, .int .u8 x4, .int .u8 x5, .int .u8 x6, .int .u8 x7] 55)
  have h1 := h.new S0
  have N0 := At.new w #[.int .u8 x0, .int .u8 x1, .int .u8 x2, .int .u8 x3, .int .u8 x4, .int .u8 x5, .int .u8 x6, .int .u8 x7] 55
  have hf := findPlace_in s t k _ h1 hi hl hk
  have hmem := (St.has_mem hi).1
  have hH := fun W (hW : Same [] w W) => holder_at (h.new hW) hmem hk
  obtain ⟨cap, hp, _, _⟩ := h.pool
  have c1 := hp.cell? 1
  simp only [List.getElem?_cons_succ, List.getElem?_cons_zero, ptr] at c1
  have lp := hp.lt
  have hR := fun W (hW : Same [] w W) => diskRead_calls s.db s.bb s.n (s.holder (s.vol t) k) _ _ _ s.bl W _ _ rfl rfl (h.new hW).disk.disk (h.new hW).disk.data h.disk.len hn (by have := h.disk.small; omega)
  unfold St.look at hb
  generalize s.holder (s.vol t) k = yy at *
  generalize s.bl[yy]! = old at *
  obtain ⟨o0, o1, o2, o3, o4, o5, o6, o7⟩ := old
  have HE := fun W => equal_blocks ⟨o0, o1, o2, o3, o4, o5, o6, o7⟩ ⟨x0, x1, x2, x3, x4, x5, x6, x7⟩ W
  simp only at HE
  rw [decide_eq_true hb] at HE
  have HS0 : Hid (Same [] w (w.alloc (Obj.cells #[.int .u8 x0, .int .u8 x1, .int .u8 x2, .int .u8 x3, .int .u8 x4, .int .u8 x5, .int .u8 x6, .int .u8 x7] 55))) := S0
  have HN : Hid (At (w.alloc (Obj.cells #[.int .u8 x0, .int .u8 x1, .int .u8 x2, .int .u8 x3, .int .u8 x4, .int .u8 x5, .int .u8 x6, .int .u8 x7] 55)) w.heap.size 55 [.int .u8 x0, .int .u8 x1, .int .u8 x2, .int .u8 x3, .int .u8 x4, .int .u8 x5, .int .u8 x6, .int .u8 x7]) := N0
  clear h h1 hp S0 N0 hb
  unfold Blk.val at *
  go_enter Try.func27, Try.ntmps27
  go_wp2_with (go_at_call 63; refine hf.mono ?_; rintro e w' ⟨rfl, rfl⟩)
  go_region_with (first | (go_at_call 64; refine (hH _ (HS0.out.drew)).mono ?_; rintro e w' ⟨rfl, rfl⟩) | (go_at_call 40; refine (hR _ (HS0.out.drew)).mono ?_; rintro e w2 ⟨rfl, S2⟩; have d0 : w2.cell? ⟨w.heap.size, 0, none⟩ = some (.int .u8 x0) := (S2.at HN.out.drew (by simp)).cell? 0; have d1 : w2.cell? ⟨w.heap.size, 1, none⟩ = some (.int .u8 x1) := (S2.at HN.out.drew (by simp)).cell? 1; have d2 : w2.cell? ⟨w.heap.size, 2, none⟩ = some (.int .u8 x2) := (S2.at HN.out.drew (by simp)).cell? 2; have d3 : w2.cell? ⟨w.heap.size, 3, none⟩ = some (.int .u8 x3) := (S2.at HN.out.drew (by simp)).cell? 3; have d4 : w2.cell? ⟨w.heap.size, 4, none⟩ = some (.int .u8 x4) := (S2.at HN.out.drew (by simp)).cell? 4; have d5 : w2.cell? ⟨w.heap.size, 5, none⟩ = some (.int .u8 x5) := (S2.at HN.out.drew (by simp)).cell? 5; have d6 : w2.cell? ⟨w.heap.size, 6, none⟩ = some (.int .u8 x6) := (S2.at HN.out.drew (by simp)).cell? 6; have d7 : w2.cell? ⟨w.heap.size, 7, none⟩ = some (.int .u8 x7) := (S2.at HN.out.drew (by simp)).cell? 7; have SA : Same [] w w2 := HS0.out.drew.step S2 (by simp)))
  all_goals
    clear hf hH hR c1 HN HS0 HE
    go_wp2
    go_ret
    exact ⟨rfl, SA⟩

set_option maxHeartbeats 2000000 in
set_option maxRecDepth 100000 in
theorem write_pic (s : St) (t : ByteArray) (k : Nat) (b : Blk) (w : World) (Q : Ending → World → Prop) (h : PoolAt w s) (hi : s.has t = true) (hl : (s.vol t).lost = false) (hk : k < s.size (s.vol t)) (hn : s.holder (s.vol t) k < s.n) (hb : s.look (s.vol t) k ≠ b) (ho : (s.vol t).org ≠ none)
    (hA : ∀ W, Same [] w W → Calls Try.prog 65 #[.pointer (some ⟨s.pb, 0, none⟩), .pointer (some ⟨(s.vol t).vb, 0, none⟩), .int .i64 k, b.val] W fun e w' => ∃ x, e = .returned (.int .i64 x) ∧ Q (.returned (.int .i64 x)) w') :
    Calls Try.prog 27 #[.pointer (some ⟨s.pb, 0, none⟩), .string t, .int .i64 k, b.val] w Q := by
  obtain ⟨x0, x1, x2, x3, x4, x5, x6, x7⟩ := b
  have S0 := (Same.refl [] w).alloc (Obj.cells #[.int .u8 x0, .int .u8 x1, .int .u8 x2, .int .u8 x3, .int .u8 x4, .int .u8 x5, .int .u8 x6, .int .u8 x7] 55)
  have h1 := h.new S0
  have N0 := At.new w #[.int .u8 x0, .int .u8 x1, .int .u8 x2, .int .u8 x3, .int .u8 x4, .int .u8 x5, .int .u8 x6, .int .u8 x7] 55
  have hf := findPlace_in s t k _ h1 hi hl hk
  have hmem := (St.has_mem hi).1
  have hH := fun W (hW : Same [] w W) => holder_at (h.new hW) hmem hk
  obtain ⟨cap, hp, _, _⟩ := h.pool
  have c1 := hp.cell? 1
  simp only [List.getElem?_cons_succ, List.getElem?_cons_zero, ptr] at c1
  have lp := hp.lt
  have hR := fun W (hW : Same [] w W) => diskRead_calls s.db s.bb s.n (s.holder (s.vol t) k) _ _ _ s.bl W _ _ rfl rfl (h.new hW).disk.disk (h.new hW).disk.data h.disk.len hn (by have := h.disk.small; omega)
  unfold St.look at hb
  generalize s.holder (s.vol t) k = yy at *
  generalize s.bl[yy]! = old at *
  obtain ⟨o0, o1, o2, o3, o4, o5, o6, o7⟩ := old
  have HE := fun W => equal_blocks ⟨o0, o1, o2, o3, o4, o5, o6, o7⟩ ⟨x0, x1, x2, x3, x4, x5, x6, x7⟩ W
  simp only at HE
  rw [decide_eq_false hb] at HE
  have HS0 : Hid (Same [] w (w.alloc (Obj.cells #[.int .u8 x0, .int .u8 x1, .int .u8 x2, .int .u8 x3, .int .u8 x4, .int .u8 x5, .int .u8 x6, .int .u8 x7] 55))) := S0
  have HN : Hid (At (w.alloc (Obj.cells #[.int .u8 x0, .int .u8 x1, .int .u8 x2, .int .u8 x3, .int .u8 x4, .int .u8 x5, .int .u8 x6, .int .u8 x7] 55)) w.heap.size 55 [.int .u8 x0, .int .u8 x1, .int .u8 x2, .int .u8 x3, .int .u8 x4, .int .u8 x5, .int .u8 x6, .int .u8 x7]) := N0
  have hI := fun W (hW : Same [] w W) => isPicture_calls (s.vol t) W ((h.new hW).vols _ hmem)
  have ho' : (s.vol t).org.isSome = true := by cases hq : (s.vol t).org <;> simp_all
  rw [ho'] at hI
  clear h h1 hp S0 N0 hb
  unfold Blk.val at *
  go_enter Try.func27, Try.ntmps27
  go_wp2_with (go_at_call 63; refine hf.mono ?_; rintro e w' ⟨rfl, rfl⟩)
  go_region_with (first | (go_at_call 64; refine (hH _ (HS0.out.drew)).mono ?_; rintro e w' ⟨rfl, rfl⟩) | (go_at_call 40; refine (hR _ (HS0.out.drew)).mono ?_; rintro e w2 ⟨rfl, S2⟩; have d0 : w2.cell? ⟨w.heap.size, 0, none⟩ = some (.int .u8 x0) := (S2.at HN.out.drew (by simp)).cell? 0; have d1 : w2.cell? ⟨w.heap.size, 1, none⟩ = some (.int .u8 x1) := (S2.at HN.out.drew (by simp)).cell? 1; have d2 : w2.cell? ⟨w.heap.size, 2, none⟩ = some (.int .u8 x2) := (S2.at HN.out.drew (by simp)).cell? 2; have d3 : w2.cell? ⟨w.heap.size, 3, none⟩ = some (.int .u8 x3) := (S2.at HN.out.drew (by simp)).cell? 3; have d4 : w2.cell? ⟨w.heap.size, 4, none⟩ = some (.int .u8 x4) := (S2.at HN.out.drew (by simp)).cell? 4; have d5 : w2.cell? ⟨w.heap.size, 5, none⟩ = some (.int .u8 x5) := (S2.at HN.out.drew (by simp)).cell? 5; have d6 : w2.cell? ⟨w.heap.size, 6, none⟩ = some (.int .u8 x6) := (S2.at HN.out.drew (by simp)).cell? 6; have d7 : w2.cell? ⟨w.heap.size, 7, none⟩ = some (.int .u8 x7) := (S2.at HN.out.drew (by simp)).cell? 7; have SA : Same [] w w2 := HS0.out.drew.step S2 (by simp)))
  all_goals
    clear hf hH hR c1 HN HS0 HE
    go_wp2_with (first | (go_at_call 56; refine (hI _ SA).mono ?_; rintro e w' ⟨rfl, rfl⟩) | (go_at_call 65; refine (hA _ SA).mono ?_; rintro e w4 ⟨x, rfl, hQ⟩))
    exact hQ

set_option maxHeartbeats 2000000 in
set_option maxRecDepth 100000 in
theorem write_vol (s : St) (t : ByteArray) (k : Nat) (b : Blk) (w : World) (Q : World → Prop) (h : PoolAt w s) (hi : s.has t = true) (hl : (s.vol t).lost = false) (hk : k < s.size (s.vol t)) (hn : s.holder (s.vol t) k < s.n) (hb : s.look (s.vol t) k ≠ b) (ho : (s.vol t).org = none)
    (hA : ∀ W, Same [] w W → Calls Try.prog 66 #[.pointer (some ⟨s.pb, 0, none⟩), .pointer (some ⟨(s.vol t).vb, 0, none⟩), .int .i64 k, b.val] W fun e w' => e = .returned (.tuple #[]) ∧ Q w') :
    Calls Try.prog 27 #[.pointer (some ⟨s.pb, 0, none⟩), .string t, .int .i64 k, b.val] w fun e w' => e = .returned (.int .i64 0) ∧ Q w' := by
  obtain ⟨x0, x1, x2, x3, x4, x5, x6, x7⟩ := b
  have S0 := (Same.refl [] w).alloc (Obj.cells #[.int .u8 x0, .int .u8 x1, .int .u8 x2, .int .u8 x3, .int .u8 x4, .int .u8 x5, .int .u8 x6, .int .u8 x7] 55)
  have h1 := h.new S0
  have N0 := At.new w #[.int .u8 x0, .int .u8 x1, .int .u8 x2, .int .u8 x3, .int .u8 x4, .int .u8 x5, .int .u8 x6, .int .u8 x7] 55
  have hf := findPlace_in s t k _ h1 hi hl hk
  have hmem := (St.has_mem hi).1
  have hH := fun W (hW : Same [] w W) => holder_at (h.new hW) hmem hk
  obtain ⟨cap, hp, _, _⟩ := h.pool
  have c1 := hp.cell? 1
  simp only [List.getElem?_cons_succ, List.getElem?_cons_zero, ptr] at c1
  have lp := hp.lt
  have hR := fun W (hW : Same [] w W) => diskRead_calls s.db s.bb s.n (s.holder (s.vol t) k) _ _ _ s.bl W _ _ rfl rfl (h.new hW).disk.disk (h.new hW).disk.data h.disk.len hn (by have := h.disk.small; omega)
  unfold St.look at hb
  generalize s.holder (s.vol t) k = yy at *
  generalize s.bl[yy]! = old at *
  obtain ⟨o0, o1, o2, o3, o4, o5, o6, o7⟩ := old
  have HE := fun W => equal_blocks ⟨o0, o1, o2, o3, o4, o5, o6, o7⟩ ⟨x0, x1, x2, x3, x4, x5, x6, x7⟩ W
  simp only at HE
  rw [decide_eq_false hb] at HE
  have HS0 : Hid (Same [] w (w.alloc (Obj.cells #[.int .u8 x0, .int .u8 x1, .int .u8 x2, .int .u8 x3, .int .u8 x4, .int .u8 x5, .int .u8 x6, .int .u8 x7] 55))) := S0
  have HN : Hid (At (w.alloc (Obj.cells #[.int .u8 x0, .int .u8 x1, .int .u8 x2, .int .u8 x3, .int .u8 x4, .int .u8 x5, .int .u8 x6, .int .u8 x7] 55)) w.heap.size 55 [.int .u8 x0, .int .u8 x1, .int .u8 x2, .int .u8 x3, .int .u8 x4, .int .u8 x5, .int .u8 x6, .int .u8 x7]) := N0
  have hI := fun W (hW : Same [] w W) => isPicture_calls (s.vol t) W ((h.new hW).vols _ hmem)
  rw [ho] at hI
  clear h h1 hp S0 N0 hb
  unfold Blk.val at *
  go_enter Try.func27, Try.ntmps27
  go_wp2_with (go_at_call 63; refine hf.mono ?_; rintro e w' ⟨rfl, rfl⟩)
  go_region_with (first | (go_at_call 64; refine (hH _ (HS0.out.drew)).mono ?_; rintro e w' ⟨rfl, rfl⟩) | (go_at_call 40; refine (hR _ (HS0.out.drew)).mono ?_; rintro e w2 ⟨rfl, S2⟩; have d0 : w2.cell? ⟨w.heap.size, 0, none⟩ = some (.int .u8 x0) := (S2.at HN.out.drew (by simp)).cell? 0; have d1 : w2.cell? ⟨w.heap.size, 1, none⟩ = some (.int .u8 x1) := (S2.at HN.out.drew (by simp)).cell? 1; have d2 : w2.cell? ⟨w.heap.size, 2, none⟩ = some (.int .u8 x2) := (S2.at HN.out.drew (by simp)).cell? 2; have d3 : w2.cell? ⟨w.heap.size, 3, none⟩ = some (.int .u8 x3) := (S2.at HN.out.drew (by simp)).cell? 3; have d4 : w2.cell? ⟨w.heap.size, 4, none⟩ = some (.int .u8 x4) := (S2.at HN.out.drew (by simp)).cell? 4; have d5 : w2.cell? ⟨w.heap.size, 5, none⟩ = some (.int .u8 x5) := (S2.at HN.out.drew (by simp)).cell? 5; have d6 : w2.cell? ⟨w.heap.size, 6, none⟩ = some (.int .u8 x6) := (S2.at HN.out.drew (by simp)).cell? 6; have d7 : w2.cell? ⟨w.heap.size, 7, none⟩ = some (.int .u8 x7) := (S2.at HN.out.drew (by simp)).cell? 7; have SA : Same [] w w2 := HS0.out.drew.step S2 (by simp)))
  all_goals
    clear hf hH hR c1 HN HS0 HE
    go_wp2_with (first | (go_at_call 56; refine (hI _ SA).mono ?_; rintro e w' ⟨rfl, rfl⟩) | (go_at_call 66; refine (hA _ SA).mono ?_; rintro e w4 ⟨rfl, hQ⟩))
    go_ret
    exact ⟨rfl, hQ⟩
end PartPoolC

section PartPoolV
open Go.RowKit Go.Sort
set_option linter.unusedVariables false
set_option linter.unusedSimpArgs false
set_option linter.unusedSectionVars false
variable [DecidableEq Blk] [Inhabited Blk]
variable [Inhabited Vol]

set_option maxHeartbeats 4000000 in
set_option maxRecDepth 100000 in
theorem writeVolume_calls (s : St) (fr : List Nat) (iu : Nat) (u : Vol) (k : Nat) (b : Blk) (w : World) (bv : Value) (hbv : bv = b.val) (h : PoolAt w s) (hG : Good s fr) (hiu : iu < s.vols.length) (hu : s.vols[iu]! = u) (hu0 : u.org = none) (hk : k < u.xs.length) :
    Calls Try.prog 66 #[.pointer (some ⟨s.pb, 0, none⟩), .pointer (some ⟨u.vb, 0, none⟩), .int .i64 k, bv] w fun e w' => e = .returned (.tuple #[]) ∧
      ∃ s1, Kept s s1 k (fun v => v.org = some u.vb) ∧ After w s w' { s1 with bl := s1.bl.set u.xs[k]! b } fr ∧ (s.picsOf u.vb = [] → s1 = s) := by
  subst hbv
  obtain ⟨x0, x1, x2, x3, x4, x5, x6, x7⟩ := b
  have hmem : u ∈ s.vols := by rw [← hu]; exact get_mem hiu
  have hH := fun W (hW : Same [] w W) => holder_vol u k W ((h.new hW).vols u hmem) hu0 hk
  have hP := fun W (hW : Same [] w W) => picturesOf_calls s u W (h.new hW) hmem
  generalize hyy : u.xs[k]! = yy at *
  have HYY : Hid (u.xs[k]! = yy) := hyy
  clear hyy
  unfold Blk.val
  go_enter Try.func66, Try.ntmps66
  go_wp2_with (first | (go_at_call 64; refine (hH _ ((Same.refl _ _).alloc _)).mono ?_; rintro e w' ⟨rfl, rfl⟩) | (go_at_call 54; refine (hP _ ((Same.refl _ _).alloc _)).mono ?_; rintro e w1 ⟨sl, rfl, hown, S1⟩; obtain ⟨ag, acap, rfl⟩ := owns_form hown))
  have hown0 := hown
  have Bw : At w1 w.heap.size 55 [.int .u8 x0, .int .u8 x1, .int .u8 x2, .int .u8 x3, .int .u8 x4, .int .u8 x5, .int .u8 x6, .int .u8 x7] := S1.at (At.new w _ _) (by simp)
  have S01 : Same [] w w1 := ((Same.refl _ _).alloc _).step S1 (by simp)
  have hP1 := h.new S01
  have hA1 : After w1 s w1 s fr := ⟨hP1, hG, Same.refl _ _, fun k hk => Or.inl hk, rfl, rfl⟩
  have hflt := h.foot_lt
  have hbase : ∀ q ∈ s.foot, q < (w.alloc (Obj.cells #[.int .u8 x0, .int .u8 x1, .int .u8 x2, .int .u8 x3, .int .u8 x4, .int .u8 x5, .int .u8 x6, .int .u8 x7] 55)).heap.size := fun q hq => by have := hflt q hq; simp; omega
  have hnb : w.heap.size ∉ s.foot := fun hm => by have := hflt _ hm; omega
  have hyx : yy ∈ u.xs := by rw [← HYY.out]; exact mem_getElem! hk
  have hpl : (s.picsOf u.vb).length ≤ 20 := Nat.le_trans (List.length_filter_le _ _) h.few
  have HH : Hid (PoolAt w s ∧ Good s fr ∧ yy < s.n) := ⟨h, hG, hG.lt.2 u hmem _ hyx⟩
  have HO : Hid (w1.ownsRow (w.alloc (Obj.cells #[.int .u8 x0, .int .u8 x1, .int .u8 x2, .int .u8 x3, .int .u8 x4, .int .u8 x5, .int .u8 x6, .int .u8 x7] 55)).heap.size 80 1 (.slice ag (s.picsOf u.vb).length acap) (s.picsOf u.vb).length ((s.picsOf u.vb).map fun v => ptr v.vb)) := hown
  clear hown hown0 hP hH S1 h hG hP1
  go_loopw [20] (fun i wr => ∃ j : Nat, j ≤ (s.picsOf u.vb).length ∧ i = .int .i64 j ∧ At wr w.heap.size 55 [.int .u8 x0, .int .u8 x1, .int .u8 x2, .int .u8 x3, .int .u8 x4, .int .u8 x5, .int .u8 x6, .int .u8 x7] ∧ ∃ sj, Kept s sj k (fun v => v ∈ (s.picsOf u.vb).take j) ∧ After w1 s wr sj fr ∧ (s.picsOf u.vb = [] → sj = s))
    (fun i _ => (s.picsOf u.vb).length - (intOf i).toNat)
  case atStart => exact ⟨0, Nat.zero_le _, rfl, Bw, s, (by simpa using Kept.start s k), hA1, fun _ => rfl⟩
  case round =>
    obtain ⟨j, hj, rfl, HB, sj, hK, hA, hNN⟩ := hrel
    have HNN : Hid (s.picsOf u.vb = [] → sj = s) := hNN
    clear hNN
    by_cases hjl : j < (s.picsOf u.vb).length
    · have HNE : Hid (s.picsOf u.vb ≠ []) := by show _ ≠ _; intro e; rw [e] at hjl; simp at hjl
      obtain ⟨h, hG, hyn⟩ := HH.out
      have hOr := owns_same HO.out hA.same hbase
      obtain ⟨gr, crow, rfl, hgr, hAr, _, hcl, hct⟩ := owns_at hOr (by omega)
      obtain ⟨p, hp⟩ : ∃ p, (s.picsOf u.vb)[j]! = p := ⟨_, rfl⟩
      have hpm : p ∈ s.picsOf u.vb := by rw [← hp, getElem!_pos _ j hjl]; exact List.getElem_mem hjl
      obtain ⟨hpv, hpo⟩ := picsOf_mem.1 hpm
      have cp : wr.cell? ⟨gr, j, none⟩ = some (.pointer (some ⟨p.vb, 0, none⟩)) := by
        rw [hAr.cell?]
        have e : (crow.take (s.picsOf u.vb).length)[j]? = crow[j]? := by rw [List.getElem?_take, if_pos hjl]
        rw [← e, hct, List.getElem?_map, List.getElem?_eq_getElem hjl, ← getElem!_pos _ j hjl, hp]
        rfl
      have hnp : p ∉ (s.picsOf u.vb).take j := by
        intro hm
        obtain ⟨q, hq, e⟩ := List.getElem_of_mem hm
        have hq' : q < j := by simp at hq; omega
        have hpw := List.pairwise_iff_getElem.1 (picsOf_nodup h u.vb) q j (by omega) hjl hq'
        rw [List.getElem_take] at e
        rw [e, ← getElem!_pos _ j hjl, hp] at hpw
        exact hpw rfl
      obtain ⟨i, hi, hip⟩ := mem_index hpv
      have HT : Hid (∀ v, (v ∈ (s.picsOf u.vb).take j ∨ v = s.vols[i]!) ↔ v ∈ (s.picsOf u.vb).take (j + 1)) := by
        intro v
        rw [List.take_succ_eq_append_getElem hjl, List.mem_append, List.mem_singleton, ← getElem!_pos _ j hjl, hp, hip]
      have hij : i < sj.vols.length := by rw [hK.base.len]; exact hi
      obtain ⟨r1, r2⟩ := hK.rest i hi (by rw [hip]; exact hnp)
      obtain ⟨b1, b2, b3, b4⟩ := hK.base.same i hi
      rw [hip] at r1 r2 b1 b2 b3 b4
      obtain ⟨v', hv'⟩ : ∃ v', sj.vols[i]! = v' := ⟨_, rfl⟩
      rw [hv'] at r1 r2 b1 b2 b3 b4
      have hvm : v' ∈ sj.vols := by rw [← hv']; exact get_mem hij
      have hVv := hA.pool.vols v' hvm
      have hov : v'.org ≠ none := by rw [b4, hpo]; simp
      have hszv : sj.size v' = u.xs.length := by
        have e1 := hK.base.size h hA.pool i hi
        rw [hv', hip] at e1
        rw [e1]
        unfold St.size
        have e2 := (h.orgOf hpv).2.2.2 (by rw [hpo]; simp)
        rw [hpo] at e2
        have e3 : s.orgOf p = u := h.vb_inj (h.orgOf hpv).1 hmem (by simpa using e2.symm)
        rw [e3]
      have hks : k < sj.size v' := by rw [hszv]; exact hk
      have c4 : wr.cell? ⟨p.vb, 4, none⟩ = some (.bool p.lost) := by have := lost_cell hA.pool hvm; rw [b1, r2] at this; exact this
      have hnot := runNot
      have l2 : (j : Int) < ((s.picsOf u.vb).length : Int) := by omega
      have HNX : Hid (∀ s2, Step sj s2 k i → Kept s s2 k (fun v => v ∈ (s.picsOf u.vb).take (j + 1))) := fun s2 hS =>
        (hK.one h hA.pool i hi (by rw [hip]; exact hnp) hS).congr fun m hm => HT.out _
      by_cases hin : k ∈ p.kept
      · have hKI := keptIn_has v' k wr hVv (by rw [r1]; exact hin)
        rw [b1] at hKI
        have hK2 := HNX.out sj (Step.none sj k i (Or.inl (by rw [hv', r1]; exact hin)))
        generalize v'.xs[v'.kept.idxOf k]! = zz at *
        have HA : Hid (After w1 s wr sj fr) := hA
        have HK2 : Hid (Kept s sj k (fun v => v ∈ (s.picsOf u.vb).take (j + 1))) := hK2
        clear hK hA HNX hK2 hOr hAr hct hVv h hG HT
        go_wp2_with (go_at_call 99; refine hKI.mono ?_; rintro e wz ⟨rfl, rfl⟩)
        go_roundw
        case rel => exact ⟨j + 1, by omega, by go_num, HB, sj, HK2.out, HA.out, fun e => absurd e HNE.out⟩
        case measure => simp [intOf]; omega
      · have hKI := keptIn_not v' k wr hVv (by rw [r1]; exact hin)
        rw [b1] at hKI
        cases hpl2 : p.lost with
        | true =>
          rw [hpl2] at c4
          have hK2 := HNX.out sj (Step.none sj k i (Or.inr (by rw [hv', r2]; exact hpl2)))
          have HA : Hid (After w1 s wr sj fr) := hA
          have HK2 : Hid (Kept s sj k (fun v => v ∈ (s.picsOf u.vb).take (j + 1))) := hK2
          clear hK hA HNX hK2 hOr hAr hct hVv h hG HT
          go_wp2_with (go_at_call 99; refine hKI.mono ?_; rintro e wz ⟨rfl, rfl⟩)
          go_roundw
          case rel => exact ⟨j + 1, by omega, by go_num, HB, sj, HK2.out, HA.out, fun e => absurd e HNE.out⟩
          case measure => simp [intOf]; omega
        | false =>
          rw [hpl2] at c4
          obtain ⟨pc, hpp, _, _⟩ := hA.pool.pool
          have hpbE := hA.pb
          have hnE := hA.n
          have c1 : wr.cell? ⟨s.pb, 1, none⟩ = some (.pointer (some ⟨sj.db, 0, none⟩)) := by rw [← hpbE]; exact hpp.cell? 1
          have hR := diskRead_calls sj.db sj.bb sj.n yy _ _ _ sj.bl wr _ _ rfl rfl hA.pool.disk.disk hA.pool.disk.data hA.pool.disk.len (by rw [hnE]; exact hyn) (by have := hA.pool.disk.small; omega)
          have hlook : sj.bl[yy]! = sj.look v' k := by
            unfold St.look St.holder
            rw [if_neg (by rw [r1]; exact hin)]
            have e2 := (hA.pool.orgOf hvm).2.2.2 hov
            obtain ⟨m, hm, e3, e4⟩ := hK.base.orgOf h hA.pool i hi
            rw [hv'] at e4
            rw [hip] at e3
            rw [e4, (hK.base.same m hm).2.2.1, ← e3]
            have e5 := (h.orgOf hpv).2.2.2 (by rw [hpo]; simp)
            rw [hpo] at e5
            have e6 : s.orgOf p = u := h.vb_inj (h.orgOf hpv).1 hmem (by simpa using e5.symm)
            rw [e6, HYY.out]
          generalize hold : sj.bl[yy]! = old at *
          by_cases hroom : v'.kept.length < v'.xs.length
          · have hKp := fun W (hW : Same [] wr W) => keep_more sj fr i v' k old W _ rfl (hA.pool.new hW) hA.good hij hv' hov (by rw [r2]; exact hpl2) hroom (by rw [r1]; exact hin) hks
            have HS : Hid (∀ W g, PoolAt W { sj with bl := sj.bl.set v'.xs[v'.kept.length]! old, vols := setVol i (v'.keeping g k) sj.vols } → Kept s { sj with bl := sj.bl.set v'.xs[v'.kept.length]! old, vols := setVol i (v'.keeping g k) sj.vols } k (fun v => v ∈ (s.picsOf u.vb).take (j + 1))) := fun W g hW =>
              HNX.out _ (step_more hA.pool hA.good i v' g k old hij hv' hov (by rw [r2]; exact hpl2) hroom (by rw [r1]; exact hin) hks hlook hW)
            rw [hpbE, b1] at hKp
            have HA : Hid (After w1 s wr sj fr) := hA
            clear hK hA HNX hOr hAr hct hVv h hG HT hpp hlook
            go_wp2_with (first | (go_at_call 99; refine hKI.mono ?_; rintro e wz ⟨rfl, rfl⟩) | (go_at_call 40; refine hR.mono ?_; rintro e w3 ⟨rfl, S3⟩) | (go_at_call 100; refine (hKp _ S3).mono ?_; rintro e w4 ⟨rfl, g, hA4⟩))
            rw [← hpbE] at hA4
            have hA5 := HA.out.step (hA4.old S3)
            have hB5 := (hA4.old S3).same.at HB (fun hm => by
              rcases HA.out.foot _ hm with e | e
              · exact hnb e
              · have := Bw.lt; omega)
            have HK2 : Hid _ := HS.out w4 g hA4.pool
            have HA5 : Hid _ := hA5
            clear HA hA4 hA5 HS hKp S3
            go_roundw
            case rel => exact ⟨j + 1, by omega, by go_num, hB5, _, HK2.out, HA5.out, fun e => absurd e HNE.out⟩
            case measure => simp [intOf]; omega
          · have hfull : v'.kept.length = v'.xs.length := by have := hVv.room; omega
            have hKp := fun W (hW : Same [] wr W) => keep_lost sj fr i v' k old W _ rfl (hA.pool.new hW) hA.good hij hv' hov hfull
            have HS : Hid (∀ W, PoolAt W { sj with bl := giveB v'.xs sj.bl, vols := setVol i v'.losing sj.vols } → Kept s { sj with bl := giveB v'.xs sj.bl, vols := setVol i v'.losing sj.vols } k (fun v => v ∈ (s.picsOf u.vb).take (j + 1))) := fun W hW =>
              HNX.out _ (step_lost hA.pool hA.good i v' k hij hv' hov (by rw [r2]; exact hpl2) hfull (by rw [r1]; exact hin) hW)
            rw [hpbE, b1] at hKp
            have HA : Hid (After w1 s wr sj fr) := hA
            clear hK hA HNX hOr hAr hct hVv h hG HT hpp hlook
            go_wp2_with (first | (go_at_call 99; refine hKI.mono ?_; rintro e wz ⟨rfl, rfl⟩) | (go_at_call 40; refine hR.mono ?_; rintro e w3 ⟨rfl, S3⟩) | (go_at_call 100; refine (hKp _ S3).mono ?_; rintro e w4 ⟨rfl, hA4⟩))
            rw [← hpbE] at hA4
            have hA5 := HA.out.step (hA4.old S3)
            have hB5 := (hA4.old S3).same.at HB (fun hm => by
              rcases HA.out.foot _ hm with e | e
              · exact hnb e
              · have := Bw.lt; omega)
            have HK2 : Hid _ := HS.out w4 hA4.pool
            have HA5 : Hid _ := hA5
            clear HA hA4 hA5 HS hKp S3
            go_roundw
            case rel => exact ⟨j + 1, by omega, by go_num, hB5, _, HK2.out, HA5.out, fun e => absurd e HNE.out⟩
            case measure => simp [intOf]; omega
    · have ej : j = (s.picsOf u.vb).length := by omega
      subst ej
      obtain ⟨h, hG, hyn⟩ := HH.out
      rw [List.take_length] at hK
      have hKf : Kept s sj k (fun v => v.org = some u.vb) := hK.congr fun m hm => by
        rw [picsOf_mem]
        exact ⟨fun e => e.2, fun e => ⟨get_mem hm, e⟩⟩
      obtain ⟨pc, hpp, _, _⟩ := hA.pool.pool
      have hpbE := hA.pb
      have hnE := hA.n
      have c1 : wr.cell? ⟨s.pb, 1, none⟩ = some (.pointer (some ⟨sj.db, 0, none⟩)) := by rw [← hpbE]; exact hpp.cell? 1
      have y0 : wr.cell? ⟨w.heap.size, 0, none⟩ = some (.int .u8 x0) := HB.cell? 0
      have y1 : wr.cell? ⟨w.heap.size, 1, none⟩ = some (.int .u8 x1) := HB.cell? 1
      have y2 : wr.cell? ⟨w.heap.size, 2, none⟩ = some (.int .u8 x2) := HB.cell? 2
      have y3 : wr.cell? ⟨w.heap.size, 3, none⟩ = some (.int .u8 x3) := HB.cell? 3
      have y4 : wr.cell? ⟨w.heap.size, 4, none⟩ = some (.int .u8 x4) := HB.cell? 4
      have y5 : wr.cell? ⟨w.heap.size, 5, none⟩ = some (.int .u8 x5) := HB.cell? 5
      have y6 : wr.cell? ⟨w.heap.size, 6, none⟩ = some (.int .u8 x6) := HB.cell? 6
      have y7 : wr.cell? ⟨w.heap.size, 7, none⟩ = some (.int .u8 x7) := HB.cell? 7
      have hyf : yy ∉ fr := by rw [← HYY.out]; exact hG.apart_fr hmem (mem_getElem! hk)
      have hW := fun W (hW : Same [] wr W) bv (hbv : bv = Blk.val ⟨x0, x1, x2, x3, x4, x5, x6, x7⟩) => diskWrite_calls sj.db sj.bb sj.n yy _ _ _ sj.bl ⟨x0, x1, x2, x3, x4, x5, x6, x7⟩ W _ bv _ rfl rfl hbv (hW.at hA.pool.disk.disk (by simp)) (hW.at hA.pool.disk.data (by simp)) hA.pool.disk.len (by rw [hnE]; exact hyn) (by have := hA.pool.disk.small; omega)
      have HF : Hid (∀ w6, At w6 sj.bb 55 (flat (sj.bl.set yy ⟨x0, x1, x2, x3, x4, x5, x6, x7⟩)) → Same [sj.bb] wr w6 → After w s w6 { sj with bl := sj.bl.set yy ⟨x0, x1, x2, x3, x4, x5, x6, x7⟩ } fr) := fun w6 A6 S6 =>
        ((hA.step (write_after hA.pool hA.good yy ⟨x0, x1, x2, x3, x4, x5, x6, x7⟩ hyf A6 S6)).old S01)
      have HKF : Hid (Kept s sj k (fun v => v.org = some u.vb)) := hKf
      clear hK hA hKf h hG hpp HB
      go_wp2_with fail
      refine region_tail 6 (by kernel_rfl) (by kernel_rfl) ?_
      simp only [List.take_succ_cons, List.take_zero, List.drop_succ_cons, List.drop_zero]
      repeat still_step
      refine wpStill_nil ?_
      go_wp2_with (go_at_call 68; refine (hW _ ((Same.refl _ _).drew) _ rfl).mono ?_; rintro e w6 ⟨rfl, A6, S6⟩)
      have hFin := HF.out w6 A6 ((Same.refl _ _).drew.step S6 (by simp))
      clear HF A6 S6 hW
      refine bodyPost_end (results_none rfl _ _ _) rfl ⟨rfl, sj, HKF.out, hFin, HNN.out⟩
end PartPoolV

section PartPoolW
open Go.RowKit Go.Sort
set_option linter.unusedVariables false
set_option linter.unusedSimpArgs false
set_option linter.unusedSectionVars false
variable [DecidableEq Blk] [Inhabited Blk]
variable [Inhabited Vol]

theorem holder_bl (s : St) (bl : List Blk) (v : Vol) (q : Nat) : St.holder { s with bl := bl } v q = s.holder v q := rfl
theorem Base.bl {s s' : St} (h : Base s s') (bl : List Blk) : Base s { s' with bl := bl } := ⟨h.len, h.same, h.lost⟩

/-- A place of a volume written: what stands everywhere. -/
theorem vol_looks {w w' : World} {s s1 : St} {fr : List Nat} {k iu : Nat} {u : Vol} {b : Blk} (h : PoolAt w s) (hiu : iu < s.vols.length) (hu : s.vols[iu]! = u) (hu0 : u.org = none) (hk : k < u.xs.length)
    (hK : Kept s s1 k (fun v => v.org = some u.vb)) (h' : PoolAt w' { s1 with bl := s1.bl.set u.xs[k]! b }) (hG' : Good { s1 with bl := s1.bl.set u.xs[k]! b } fr) (j : Nat) (hj : j < s.vols.length) (hl : (s1.vols[j]!).lost = false) (q : Nat) (hq : q < s.size (s.vols[j]!)) :
    St.look { s1 with bl := s1.bl.set u.xs[k]! b } (s1.vols[j]!) q = if j = iu ∧ q = k then b else s.look (s.vols[j]!) q := by
  have hlen := hK.base.len
  have hiu1 : iu < s1.vols.length := by rw [hlen]; exact hiu
  have hj1 : j < s1.vols.length := by rw [hlen]; exact hj
  obtain ⟨e1, e2, e3, e4⟩ := hK.base.same iu hiu
  rw [hu] at e1 e2 e3 e4
  have hu1 : (s1.vols[iu]!).org = none := by rw [e4]; exact hu0
  have hk1 : (s1.vols[iu]!).kept = [] := (h'.vols _ (get_mem (l := s1.vols) hiu1)).kept_nil hu1
  have hyl : u.xs[k]! < s1.bl.length := by
    have : u.xs[k]! < s1.n := hG'.lt.2 _ (get_mem (l := s1.vols) hiu1) _ (by rw [e3]; exact mem_getElem! hk)
    have hl' := h'.disk.len
    simp at hl'
    omega
  have hb := hK.base.bl (s1.bl.set u.xs[k]! b)
  have hsz : St.size { s1 with bl := s1.bl.set u.xs[k]! b } (s1.vols[j]!) = s.size (s.vols[j]!) := hb.size h h' j hj
  unfold St.look
  rw [holder_bl]
  by_cases hh : s1.holder (s1.vols[j]!) q = u.xs[k]!
  · rw [hh]
    show (s1.bl.set u.xs[k]! b)[u.xs[k]!]! = _
    rw [get_set_eq b hyl]
    suffices hs : j = iu ∧ q = k by rw [if_pos hs]
    have hnd : (s1.vols[iu]!).xs.Nodup := hG'.xs_nodup (get_mem (l := s1.vols) hiu1)
    have hyu : u.xs[k]! ∈ (s1.vols[iu]!).xs := by rw [e3]; exact mem_getElem! hk
    by_cases hm : q ∈ (s1.vols[j]!).kept
    · have e : s1.holder (s1.vols[j]!) q = (s1.vols[j]!).xs[(s1.vols[j]!).kept.idxOf q]! := by unfold St.holder; rw [if_pos hm]
      have hin : u.xs[k]! ∈ (s1.vols[j]!).xs := by
        rw [← hh, e]; exact mem_getElem! (Nat.lt_of_lt_of_le (idxOf_lt hm) (h'.vols _ (get_mem (l := s1.vols) hj1)).room)
      by_cases hji : j = iu
      · rw [hji, hk1] at hm; simp at hm
      · exact absurd hyu (hG'.xs_apart (s := { s1 with bl := s1.bl.set u.xs[k]! b }) hj1 hiu1 hji hin)
    · have e : s1.holder (s1.vols[j]!) q = (s1.orgOf (s1.vols[j]!)).xs[q]! := by unfold St.holder; rw [if_neg hm]
      obtain ⟨o1, o2, o3, o4⟩ := h'.orgOf (get_mem (l := s1.vols) hj1)
      obtain ⟨m, hm2, em⟩ := mem_index o1
      have hm3 : m < s1.vols.length := hm2
      have em' : s1.vols[m]! = s1.orgOf (s1.vols[j]!) := em
      have hqm : q < (s1.vols[m]!).xs.length := by
        rw [em']
        have : q < St.size { s1 with bl := s1.bl.set u.xs[k]! b } (s1.vols[j]!) := by rw [hsz]; exact hq
        exact this
      have hin : u.xs[k]! ∈ (s1.vols[m]!).xs := by
        rw [← hh, e, ← em']; exact mem_getElem! hqm
      have hmi : m = iu := by
        by_cases hmi : m = iu
        · exact hmi
        · exact absurd hyu (hG'.xs_apart (s := { s1 with bl := s1.bl.set u.xs[k]! b }) hm3 hiu1 hmi hin)
      subst hmi
      have hqk : q = k := by
        rw [e, ← em', e3] at hh
        rw [e3] at hqm hnd
        rw [getElem!_pos u.xs q hqm, getElem!_pos u.xs k hk] at hh
        exact (List.getElem_inj (h₀ := hqm) (h₁ := hk) hnd).1 hh
      subst hqk
      refine ⟨?_, rfl⟩
      by_cases hjo : (s1.vols[j]!).org = none
      · have e5 := o3 hjo
        have e6 : s1.vols[m]! = s1.vols[j]! := em'.trans e5
        exact (index_inj (s := { s1 with bl := s1.bl.set u.xs[q]! b }) h' hiu1 hj1 (by rw [show ({ s1 with bl := s1.bl.set u.xs[q]! b } : St).vols = s1.vols from rfl, e6])).symm
      · exfalso
        have e5 := o4 hjo
        have e6 : (s1.vols[j]!).org = some (s1.vols[m]!).vb := by rw [em']; exact e5
        have e7 : (s.vols[j]!).org = some u.vb := by rw [← (hK.base.same j hj).2.2.2, e6, e1]
        have hd := hK.did j hj e7
        have hd1 : (s1.vols[j]!).kept = (keepRes q (s.vols[j]!)).1 := congrArg Prod.fst hd
        have hd2 : (s1.vols[j]!).lost = (keepRes q (s.vols[j]!)).2 := congrArg Prod.snd hd
        rw [hd1] at hm
        rw [hd2] at hl
        unfold keepRes at hm hl
        split at hm
        · rename_i hc
          rw [if_pos hc] at hl
          rcases hc with hc | hc
          · exact hm hc
          · simp only at hl; rw [hc] at hl; cases hl
        · rename_i hc
          rw [if_neg hc] at hl
          split at hm
          · simp at hm
          · rename_i hr
            rw [if_neg hr] at hl
            cases hl
  · have hlt : s1.holder (s1.vols[j]!) q < s1.bl.length := by
      have := holder_lt h' hG' (get_mem (l := s1.vols) hj1) (k := q) (by rw [hsz]; exact hq)
      have hl' := h'.disk.len
      simp at hl'
      rw [holder_bl] at this
      have h2 : s1.holder (s1.vols[j]!) q < s1.n := this
      omega
    show (s1.bl.set u.xs[k]! b)[s1.holder (s1.vols[j]!) q]! = _
    rw [get_set_ne b hh hlt]
    have hne : ¬ (j = iu ∧ q = k) := by
      rintro ⟨rfl, rfl⟩
      apply hh
      unfold St.holder
      rw [hk1, if_neg (by simp)]
      have := (h'.orgOf (get_mem (l := s1.vols) hj1)).2.2.1 hu1
      have e5 : s1.orgOf (s1.vols[j]!) = s1.vols[j]! := this
      rw [e5, e3]
    rw [if_neg hne]
    exact hK.look j hj hl q hq
end PartPoolW

section PartPoolX
open Go.RowKit Go.Sort
set_option linter.unusedVariables false
set_option linter.unusedSimpArgs false
set_option linter.unusedSectionVars false
variable [DecidableEq Blk] [Inhabited Blk]
variable [Inhabited Vol]

set_option maxHeartbeats 1000000 in
set_option maxRecDepth 100000 in
theorem writePicture_kept (s : St) (fr : List Nat) (v : Vol) (k : Nat) (b : Blk) (w : World) (h : PoolAt w s) (hG : Good s fr) (hv : v ∈ s.vols) (hk : k ∈ v.kept) :
    Calls Try.prog 65 #[.pointer (some ⟨s.pb, 0, none⟩), .pointer (some ⟨v.vb, 0, none⟩), .int .i64 k, b.val] w fun e w' => e = .returned (.int .i64 0) ∧
      After w s w' { s with bl := s.bl.set v.xs[v.kept.idxOf k]! b } fr := by
  obtain ⟨x0, x1, x2, x3, x4, x5, x6, x7⟩ := b
  have S0 := (Same.refl [] w).alloc (Obj.cells #[.int .u8 x0, .int .u8 x1, .int .u8 x2, .int .u8 x3, .int .u8 x4, .int .u8 x5, .int .u8 x6, .int .u8 x7] 55)
  have hKI := keptIn_has v k _ ((h.new S0).vols v hv) hk
  have hyx : v.xs[v.kept.idxOf k]! ∈ v.xs := mem_getElem! (Nat.lt_of_lt_of_le (idxOf_lt hk) (h.vols v hv).room)
  have hyn := hG.lt.2 v hv _ hyx
  have hyf := hG.apart_fr hv hyx
  obtain ⟨cap, hp, _, _⟩ := (h.new S0).pool
  have c1 : (w.alloc (Obj.cells #[.int .u8 x0, .int .u8 x1, .int .u8 x2, .int .u8 x3, .int .u8 x4, .int .u8 x5, .int .u8 x6, .int .u8 x7] 55)).cell? ⟨s.pb, 1, none⟩ = some (.pointer (some ⟨s.db, 0, none⟩)) := hp.cell? 1
  have z0 : (w.alloc (Obj.cells #[.int .u8 x0, .int .u8 x1, .int .u8 x2, .int .u8 x3, .int .u8 x4, .int .u8 x5, .int .u8 x6, .int .u8 x7] 55)).cell? ⟨w.heap.size, 0, none⟩ = some (.int .u8 x0) := (At.new w #[.int .u8 x0, .int .u8 x1, .int .u8 x2, .int .u8 x3, .int .u8 x4, .int .u8 x5, .int .u8 x6, .int .u8 x7] 55).cell? 0
  have z1 : (w.alloc (Obj.cells #[.int .u8 x0, .int .u8 x1, .int .u8 x2, .int .u8 x3, .int .u8 x4, .int .u8 x5, .int .u8 x6, .int .u8 x7] 55)).cell? ⟨w.heap.size, 1, none⟩ = some (.int .u8 x1) := (At.new w #[.int .u8 x0, .int .u8 x1, .int .u8 x2, .int .u8 x3, .int .u8 x4, .int .u8 x5, .int .u8 x6, .int .u8 x7] 55).cell? 1
  have z2 : (w.alloc (Obj.cells #[.int .u8 x0, .int .u8 x1, .int .u8 x2, .int .u8 x3, .int .u8 x4, .int .u8 x5, .int .u8 x6, .int .u8 x7] 55)).cell? ⟨w.heap.size, 2, none⟩ = some (.int .u8 x2) := (At.new w #[.int .u8 x0, .int .u8 x1, .int .u8 x2, .int .u8 x3, .int .u8 x4, .int .u8 x5, .int .u8 x6, .int .u8 x7] 55).cell? 2
  have z3 : (w.alloc (Obj.cells #[.int .u8 x0, .int .u8 x1, .int .u8 x2, .int .u8 x3, .int .u8 x4, .int .u8 x5, .int .u8 x6, .int .u8 x7] 55)).cell? ⟨w.heap.size, 3, none⟩ = some (.int .u8 x3) := (At.new w #[.int .u8 x0, .int .u8 x1, .int .u8 x2, .int .u8 x3, .int .u8 x4, .int .u8 x5, .int .u8 x6, .int .u8 x7] 55).cell? 3
  have z4 : (w.alloc (Obj.cells #[.int .u8 x0, .int .u8 x1, .int .u8 x2, .int .u8 x3, .int .u8 x4, .int .u8 x5, .int .u8 x6, .int .u8 x7] 55)).cell? ⟨w.heap.size, 4, none⟩ = some (.int .u8 x4) := (At.new w #[.int .u8 x0, .int .u8 x1, .int .u8 x2, .int .u8 x3, .int .u8 x4, .int .u8 x5, .int .u8 x6, .int .u8 x7] 55).cell? 4
  have z5 : (w.alloc (Obj.cells #[.int .u8 x0, .int .u8 x1, .int .u8 x2, .int .u8 x3, .int .u8 x4, .int .u8 x5, .int .u8 x6, .int .u8 x7] 55)).cell? ⟨w.heap.size, 5, none⟩ = some (.int .u8 x5) := (At.new w #[.int .u8 x0, .int .u8 x1, .int .u8 x2, .int .u8 x3, .int .u8 x4, .int .u8 x5, .int .u8 x6, .int .u8 x7] 55).cell? 5
  have z6 : (w.alloc (Obj.cells #[.int .u8 x0, .int .u8 x1, .int .u8 x2, .int .u8 x3, .int .u8 x4, .int .u8 x5, .int .u8 x6, .int .u8 x7] 55)).cell? ⟨w.heap.size, 6, none⟩ = some (.int .u8 x6) := (At.new w #[.int .u8 x0, .int .u8 x1, .int .u8 x2, .int .u8 x3, .int .u8 x4, .int .u8 x5, .int .u8 x6, .int .u8 x7] 55).cell? 6
  have z7 : (w.alloc (Obj.cells #[.int .u8 x0, .int .u8 x1, .int .u8 x2, .int .u8 x3, .int .u8 x4, .int .u8 x5, .int .u8 x6, .int .u8 x7] 55)).cell? ⟨w.heap.size, 7, none⟩ = some (.int .u8 x7) := (At.new w #[.int .u8 x0, .int .u8 x1, .int .u8 x2, .int .u8 x3, .int .u8 x4, .int .u8 x5, .int .u8 x6, .int .u8 x7] 55).cell? 7
  generalize v.xs[v.kept.idxOf k]! = yy at *
  have hW := fun W (hW : Same [] w W) bv (hbv : bv = Blk.val ⟨x0, x1, x2, x3, x4, x5, x6, x7⟩) => diskWrite_calls s.db s.bb s.n yy _ _ _ s.bl ⟨x0, x1, x2, x3, x4, x5, x6, x7⟩ W _ bv _ rfl rfl hbv (hW.at h.disk.disk (by simp)) (hW.at h.disk.data (by simp)) h.disk.len hyn (by have := h.disk.small; omega)
  have HF : Hid (∀ w6, At w6 s.bb 55 (flat (s.bl.set yy ⟨x0, x1, x2, x3, x4, x5, x6, x7⟩)) → Same [s.bb] w w6 → After w s w6 { s with bl := s.bl.set yy ⟨x0, x1, x2, x3, x4, x5, x6, x7⟩ } fr) := fun w6 A6 S6 => write_after h hG yy _ hyf A6 S6
  have HS0 : Hid (Same [] w (w.alloc (Obj.cells #[.int .u8 x0, .int .u8 x1, .int .u8 x2, .int .u8 x3, .int .u8 x4, .int .u8 x5, .int .u8 x6, .int .u8 x7] 55))) := S0
  clear h hG hp S0
  unfold Blk.val
  go_enter Try.func65, Try.ntmps65
  go_wp2_with (go_at_call 99; refine hKI.mono ?_; rintro e wz ⟨rfl, rfl⟩)
  refine region_tail 6 (by kernel_rfl) (by kernel_rfl) ?_
  simp only [List.take_succ_cons, List.take_zero, List.drop_succ_cons, List.drop_zero]
  repeat still_step
  refine wpStill_nil ?_
  go_wp2_with (go_at_call 68; refine (hW _ (HS0.out.drew) _ rfl).mono ?_; rintro e w6 ⟨rfl, A6, S6⟩)
  have hFin := HF.out w6 A6 ((HS0.out.drew.mono (T := [s.bb]) (by simp)).step S6 (by simp))
  clear HF A6 S6 hW HS0
  go_ret
  exact ⟨rfl, hFin⟩

set_option maxHeartbeats 1000000 in
set_option maxRecDepth 100000 in
theorem writePicture_keep (s : St) (v : Vol) (k : Nat) (b : Blk) (w : World) (Q : Ending → World → Prop) (h : PoolAt w s) (hv : v ∈ s.vols) (hk : k ∉ v.kept)
    (hA : ∀ W, Same [] w W → Calls Try.prog 100 #[.pointer (some ⟨s.pb, 0, none⟩), .pointer (some ⟨v.vb, 0, none⟩), .int .i64 k, b.val] W fun e w' => ∃ x, e = .returned (.int .i64 x) ∧ Q (.returned (.int .i64 x)) w') :
    Calls Try.prog 65 #[.pointer (some ⟨s.pb, 0, none⟩), .pointer (some ⟨v.vb, 0, none⟩), .int .i64 k, b.val] w Q := by
  obtain ⟨x0, x1, x2, x3, x4, x5, x6, x7⟩ := b
  have S0 := (Same.refl [] w).alloc (Obj.cells #[.int .u8 x0, .int .u8 x1, .int .u8 x2, .int .u8 x3, .int .u8 x4, .int .u8 x5, .int .u8 x6, .int .u8 x7] 55)
  have hKI := keptIn_not v k _ ((h.new S0).vols v hv) hk
  have HS0 : Hid (Same [] w (w.alloc (Obj.cells #[.int .u8 x0, .int .u8 x1, .int .u8 x2, .int .u8 x3, .int .u8 x4, .int .u8 x5, .int .u8 x6, .int .u8 x7] 55))) := S0
  clear h S0
  unfold Blk.val at *
  go_enter Try.func65, Try.ntmps65
  go_wp2_with (first | (go_at_call 99; refine hKI.mono ?_; rintro e wz ⟨rfl, rfl⟩) | (go_at_call 100; refine (hA _ HS0.out).mono ?_; rintro e w4 ⟨x, rfl, hQ⟩))
  exact hQ
end PartPoolX

section PartPoolBB
open Go.RowKit Go.Sort
set_option linter.unusedVariables false
set_option linter.unusedSimpArgs false
set_option linter.unusedSectionVars false
variable [DecidableEq Blk] [Inhabited Blk]
variable [Inhabited Vol]

/-- What a call leaves that changes nothing. -/
theorem After.still {w w' : World} {s : St} {fr : List Nat} (h : PoolAt w s) (hG : Good s fr) (hs : Same [] w w') : After w s w' s fr :=
  ⟨h.new hs, hG, hs.mono (by simp), fun k hk => Or.inl hk, rfl, rfl⟩

/-- A volume without pictures written. -/
theorem write_plain (s : St) (fr : List Nat) (t : ByteArray) (k : Nat) (b : Blk) (w : World) (h : PoolAt w s) (hG : Good s fr) (hi : s.has t = true) (ho : (s.vol t).org = none) (hp : s.picsOf (s.vol t).vb = []) (hk : k < (s.vol t).xs.length) :
    Calls Try.prog 27 #[.pointer (some ⟨s.pb, 0, none⟩), .string t, .int .i64 k, b.val] w fun e w' => e = .returned (.int .i64 0) ∧ After w s w' { s with bl := s.bl.set (s.vol t).xs[k]! b } fr := by
  have hmem := (St.has_mem hi).1
  have hl := ((h.vols _ hmem).plain ho).2
  have eo : s.orgOf (s.vol t) = s.vol t := (h.orgOf hmem).2.2.1 ho
  have hk' : k < s.size (s.vol t) := by unfold St.size; rw [eo]; exact hk
  have hn := holder_lt h hG hmem hk'
  have eh : s.holder (s.vol t) k = (s.vol t).xs[k]! := by unfold St.holder; rw [(h.vols _ hmem).kept_nil ho, eo]; simp
  by_cases hb : s.look (s.vol t) k = b
  · refine (write_same s t k b w h hi hl hk' hn hb).mono ?_
    rintro e w' ⟨he, hS⟩
    refine ⟨he, ?_⟩
    have e1 : s.bl.set (s.vol t).xs[k]! b = s.bl := by
      unfold St.look at hb
      rw [eh] at hb hn
      rw [← hb, getElem!_pos s.bl _ (by rw [h.disk.len]; exact hn)]
      simp
    rw [e1]
    exact After.still h hG hS
  · obtain ⟨iu, hiu, hu⟩ := mem_index hmem
    refine write_vol s t k b w _ h hi hl hk' hn hb ho fun W hW => ?_
    refine (writeVolume_calls s fr iu (s.vol t) k b W _ rfl (h.new hW) hG hiu hu ho hk).mono ?_
    rintro e w' ⟨he, s1, hK, hA, hs⟩
    have := hs hp
    subst this
    exact ⟨he, hA.old hW⟩

/-- A volume written. -/
theorem write_volume (s : St) (fr : List Nat) (t : ByteArray) (k : Nat) (b : Blk) (w : World) (h : PoolAt w s) (hG : Good s fr) (hi : s.has t = true) (ho : (s.vol t).org = none) (hk : k < (s.vol t).xs.length) (hb : s.look (s.vol t) k ≠ b) :
    Calls Try.prog 27 #[.pointer (some ⟨s.pb, 0, none⟩), .string t, .int .i64 k, b.val] w fun e w' => e = .returned (.int .i64 0) ∧ ∃ s1, Kept s s1 k (fun v => v.org = some (s.vol t).vb) ∧ After w s w' { s1 with bl := s1.bl.set (s.vol t).xs[k]! b } fr := by
  have hmem := (St.has_mem hi).1
  have hl := ((h.vols _ hmem).plain ho).2
  have eo : s.orgOf (s.vol t) = s.vol t := (h.orgOf hmem).2.2.1 ho
  have hk' : k < s.size (s.vol t) := by unfold St.size; rw [eo]; exact hk
  have hn := holder_lt h hG hmem hk'
  obtain ⟨iu, hiu, hu⟩ := mem_index hmem
  refine write_vol s t k b w _ h hi hl hk' hn hb ho fun W hW => ?_
  refine (writeVolume_calls s fr iu (s.vol t) k b W _ rfl (h.new hW) hG hiu hu ho hk).mono ?_
  rintro e w' ⟨he, s1, hK, hA, hs⟩
  exact ⟨he, s1, hK, hA.old hW⟩

/-- A picture written, at a place that it keeps. -/
theorem write_picture_kept (s : St) (fr : List Nat) (t : ByteArray) (k : Nat) (b : Blk) (w : World) (h : PoolAt w s) (hG : Good s fr) (hi : s.has t = true) (ho : (s.vol t).org ≠ none) (hl : (s.vol t).lost = false) (hk : k < s.size (s.vol t)) (hb : s.look (s.vol t) k ≠ b) (hkk : k ∈ (s.vol t).kept) :
    Calls Try.prog 27 #[.pointer (some ⟨s.pb, 0, none⟩), .string t, .int .i64 k, b.val] w fun e w' => e = .returned (.int .i64 0) ∧ After w s w' { s with bl := s.bl.set (s.vol t).xs[(s.vol t).kept.idxOf k]! b } fr := by
  have hmem := (St.has_mem hi).1
  refine write_pic s t k b w _ h hi hl hk (holder_lt h hG hmem hk) hb ho fun W hW => ?_
  refine (writePicture_kept s fr (s.vol t) k b W (h.new hW) hG hmem hkk).mono ?_
  rintro e w' ⟨he, hA⟩
  exact ⟨0, he, rfl, hA.old hW⟩
/-- A picture written, at a place that it does not keep yet. -/
theorem write_picture_more (s : St) (fr : List Nat) (t : ByteArray) (k : Nat) (b : Blk) (w : World) (h : PoolAt w s) (hG : Good s fr) (hi : s.has t = true) (ho : (s.vol t).org ≠ none) (hl : (s.vol t).lost = false) (hk : k < s.size (s.vol t)) (hb : s.look (s.vol t) k ≠ b) (hkk : k ∉ (s.vol t).kept) (hf : (s.vol t).kept.length < (s.vol t).xs.length) :
    Calls Try.prog 27 #[.pointer (some ⟨s.pb, 0, none⟩), .string t, .int .i64 k, b.val] w fun e w' => e = .returned (.int .i64 0) ∧ ∃ i g, i < s.vols.length ∧ s.vols[i]! = s.vol t ∧ After w s w' { s with bl := s.bl.set (s.vol t).xs[(s.vol t).kept.length]! b, vols := setVol i ((s.vol t).keeping g k) s.vols } fr := by
  have hmem := (St.has_mem hi).1
  obtain ⟨i, hii, hv⟩ := mem_index hmem
  refine write_pic s t k b w _ h hi hl hk (holder_lt h hG hmem hk) hb ho fun W hW => ?_
  refine writePicture_keep s (s.vol t) k b W _ (h.new hW) hmem hkk fun W2 hW2 => ?_
  refine (keep_more s fr i (s.vol t) k b W2 _ rfl ((h.new hW).new hW2) hG hii hv ho hl hf hkk hk).mono ?_
  rintro e w' ⟨he, g, hA⟩
  refine ⟨0, he, 0, rfl, rfl, i, g, hii, hv, (hA.old hW2).old hW⟩
/-- A picture written that has no room. -/
theorem write_picture_lost (s : St) (fr : List Nat) (t : ByteArray) (k : Nat) (b : Blk) (w : World) (h : PoolAt w s) (hG : Good s fr) (hi : s.has t = true) (ho : (s.vol t).org ≠ none) (hl : (s.vol t).lost = false) (hk : k < s.size (s.vol t)) (hb : s.look (s.vol t) k ≠ b) (hkk : k ∉ (s.vol t).kept) (hf : (s.vol t).kept.length = (s.vol t).xs.length) :
    Calls Try.prog 27 #[.pointer (some ⟨s.pb, 0, none⟩), .string t, .int .i64 k, b.val] w fun e w' => e = .returned (.int .i64 10) ∧ ∃ i, i < s.vols.length ∧ s.vols[i]! = s.vol t ∧ After w s w' { s with bl := giveB (s.vol t).xs s.bl, vols := setVol i (s.vol t).losing s.vols } fr := by
  have hmem := (St.has_mem hi).1
  obtain ⟨i, hii, hv⟩ := mem_index hmem
  refine write_pic s t k b w _ h hi hl hk (holder_lt h hG hmem hk) hb ho fun W hW => ?_
  refine writePicture_keep s (s.vol t) k b W _ (h.new hW) hmem hkk fun W2 hW2 => ?_
  refine (keep_lost s fr i (s.vol t) k b W2 _ rfl ((h.new hW).new hW2) hG hii hv ho hf).mono ?_
  rintro e w' ⟨he, hA⟩
  refine ⟨10, he, 10, rfl, rfl, i, hii, hv, (hA.old hW2).old hW⟩
end PartPoolBB

section PartPoolZ
open Go.RowKit Go.Sort
set_option linter.unusedVariables false
set_option linter.unusedSimpArgs false
set_option linter.unusedSectionVars false
variable [DecidableEq Blk] [Inhabited Blk]
variable [Inhabited Vol]

theorem kept_looks {w : World} {s : St} {fr : List Nat} (h : PoolAt w s) (hG : Good s fr) (i : Nat) (v : Vol) (k : Nat) (b : Blk) (hi : i < s.vols.length) (hv : s.vols[i]! = v) (hk : k ∈ v.kept) (j : Nat) (hj : j < s.vols.length) (q : Nat) (hq : q < s.size (s.vols[j]!)) :
    St.look { s with bl := s.bl.set v.xs[v.kept.idxOf k]! b } (s.vols[j]!) q = if j = i ∧ q = k then b else s.look (s.vols[j]!) q := by
  have hmem : v ∈ s.vols := by rw [← hv]; exact get_mem hi
  have hil : v.kept.idxOf k < v.xs.length := Nat.lt_of_lt_of_le (idxOf_lt hk) (h.vols v hmem).room
  have hy : v.xs[v.kept.idxOf k]! ∈ v.xs := mem_getElem! hil
  have hyl : v.xs[v.kept.idxOf k]! < s.bl.length := by rw [h.disk.len]; exact hG.lt.2 v hmem _ hy
  have ho : v.org ≠ none := fun e => by rw [(h.vols v hmem).kept_nil e] at hk; simp at hk
  unfold St.look
  rw [holder_bl]
  by_cases hh : s.holder (s.vols[j]!) q = v.xs[v.kept.idxOf k]!
  · rw [hh]
    show (s.bl.set v.xs[v.kept.idxOf k]! b)[v.xs[v.kept.idxOf k]!]! = _
    rw [get_set_eq b hyl]
    suffices hs : j = i ∧ q = k by rw [if_pos hs]
    by_cases hm : q ∈ (s.vols[j]!).kept
    · have e : s.holder (s.vols[j]!) q = (s.vols[j]!).xs[(s.vols[j]!).kept.idxOf q]! := by unfold St.holder; rw [if_pos hm]
      have hjl : (s.vols[j]!).kept.idxOf q < (s.vols[j]!).xs.length := Nat.lt_of_lt_of_le (idxOf_lt hm) (h.vols _ (get_mem hj)).room
      have hin : v.xs[v.kept.idxOf k]! ∈ (s.vols[j]!).xs := by rw [← hh, e]; exact mem_getElem! hjl
      have hji : j = i := by
        by_cases hji : j = i
        · exact hji
        · exact absurd (by rw [hv]; exact hy) (hG.xs_apart hj hi hji hin)
      subst hji
      refine ⟨rfl, ?_⟩
      rw [hv] at e hm hjl
      rw [hv, e] at hh
      have hnd := hG.xs_nodup hmem
      rw [getElem!_pos v.xs _ hjl, getElem!_pos v.xs _ hil] at hh
      have hidx := (List.getElem_inj (h₀ := hjl) (h₁ := hil) hnd).1 hh
      have a := idxOf_get hm
      have c := idxOf_get hk
      rw [hidx] at a
      exact a.symm.trans c
    · exfalso
      have e : s.holder (s.vols[j]!) q = (s.orgOf (s.vols[j]!)).xs[q]! := by unfold St.holder; rw [if_neg hm]
      obtain ⟨o1, o2, o3, o4⟩ := h.orgOf (get_mem hj)
      obtain ⟨m, hm2, em⟩ := mem_index o1
      have hqm : q < (s.vols[m]!).xs.length := by rw [em]; exact hq
      have hin : v.xs[v.kept.idxOf k]! ∈ (s.vols[m]!).xs := by rw [← hh, e, ← em]; exact mem_getElem! hqm
      have hmi : m ≠ i := fun e2 => ho (by rw [← hv, ← e2, em]; exact o2)
      exact hG.xs_apart hm2 hi hmi hin (by rw [hv]; exact hy)
  · have hlt : s.holder (s.vols[j]!) q < s.bl.length := by rw [h.disk.len]; exact holder_lt h hG (get_mem hj) hq
    show (s.bl.set v.xs[v.kept.idxOf k]! b)[s.holder (s.vols[j]!) q]! = _
    rw [get_set_ne b hh hlt, if_neg]
    rintro ⟨rfl, rfl⟩
    apply hh
    unfold St.holder
    rw [hv, if_pos hk]

/-- Something came: all that was there holds what it held. -/
theorem orgOf_more {w w' : World} {s s' : St} (h : PoolAt w s) (h' : PoolAt w' s') (hsub : ∀ v ∈ s.vols, v ∈ s'.vols) {u : Vol} (hu : u ∈ s.vols) : s'.orgOf u = s.orgOf u := by
  obtain ⟨o1, o2, o3, o4⟩ := h.orgOf hu
  cases ho : u.org with
  | none => rw [o3 ho]; unfold St.orgOf; rw [ho]
  | some b =>
    have e := o4 (by rw [ho]; simp)
    rw [ho] at e
    have e2 : b = (s.orgOf u).vb := by simpa using e
    have := h'.volAt (hsub _ o1)
    rw [← e2] at this
    rw [← this]
    conv => lhs; unfold St.orgOf
    rw [ho]
theorem look_more {w w' : World} {s s' : St} (h : PoolAt w s) (h' : PoolAt w' s') (hsub : ∀ v ∈ s.vols, v ∈ s'.vols) (hbl : s'.bl = s.bl) {u : Vol} (hu : u ∈ s.vols) (q : Nat) : s'.look u q = s.look u q ∧ s'.size u = s.size u := by
  have e := orgOf_more h h' hsub hu
  refine ⟨?_, ?_⟩
  · unfold St.look St.holder; rw [e, hbl]
  · unfold St.size; rw [e]
/-- A new picture holds what its origin holds. -/
theorem look_new {w w' : World} {s s' : St} (h : PoolAt w s) (h' : PoolAt w' s') (hsub : ∀ v ∈ s.vols, v ∈ s'.vols) (hbl : s'.bl = s.bl) {u v : Vol} (hu : u ∈ s.vols) (hu0 : u.org = none) (hv : v ∈ s'.vols) (ho : v.org = some u.vb) (hk : v.kept = []) (q : Nat) : s'.look v q = s.look u q ∧ s'.size v = s.size u := by
  have e : s'.orgOf v = u := by unfold St.orgOf; rw [ho]; exact h'.volAt (hsub u hu)
  have e2 : s.orgOf u = u := (h.orgOf hu).2.2.1 hu0
  have e3 := (h.vols u hu).kept_nil hu0
  refine ⟨?_, ?_⟩
  · unfold St.look St.holder
    rw [e, e2, hk, e3, hbl]
    simp
  · unfold St.size; rw [e, e2]
theorem insVol_get (m j : Nat) (v : Vol) (l : List Vol) (hm : m ≤ l.length) (hj : j ≤ l.length) : (insVol m v l)[j]! = if j < m then l[j]! else if j = m then v else l[j - 1]! := by
  have hlen : (insVol m v l).length = l.length + 1 := by unfold insVol; simp; omega
  rw [getElem!_pos _ j (by omega)]
  unfold insVol
  by_cases h1 : j < m
  · rw [if_pos h1, List.getElem_append_left (by simp; omega), List.getElem_take, getElem!_pos l j (by omega)]
  · rw [if_neg h1]
    have ht : (l.take m).length = m := by simp; omega
    by_cases h2 : j = m
    · subst h2
      rw [if_pos rfl, List.getElem_append_right (by omega)]
      simp [ht]
    · rw [if_neg h2, List.getElem_append_right (by omega), getElem!_pos l (j - 1) (by omega)]
      obtain ⟨d, rfl⟩ : ∃ d, j = m + 1 + d := ⟨j - m - 1, by omega⟩
      simp only [ht, show m + 1 + d - m = d + 1 by omega, List.getElem_cons_succ, List.getElem_drop]
      congr 1
      omega
end PartPoolZ
end Go.Proofs.Ytpddgdjocffgdaa
