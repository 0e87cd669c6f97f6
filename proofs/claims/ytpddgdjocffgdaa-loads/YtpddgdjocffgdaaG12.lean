/- A Pool that was loaded is a Pool: what memory has is its state, and the state is good. A Pool that was loaded is good. What was printed is read back: numbers, names, rows. What was printed is read back: an entry, the list. What was printed is read back: all of it. An image is read back. What was read is what the bytes are. A Pool that was loaded has the image that it was loaded from. -/
import Derived.Test.YtpddgdjocffgdaaG10
import Derived.Test.YtpddgdjocffgdaaG11
import Derived.Test.YtpddgdjocffgdaaG04
namespace Go.Proofs.Ytpddgdjocffgdaa
set_option linter.unusedVariables false
set_option linter.unusedSimpArgs false
set_option linter.unusedSectionVars false
section
open Go.RowKit Go.Sort
variable [DecidableEq Blk] [Inhabited Blk] [Inhabited Vol] [Inhabited PEnt]
theorem rfree_ok {B : List UInt8} {U : List Nat} {at_ : Nat} : ∀ (f k : Nat), rfree B U at_ f k = .ok () → ∀ j, k ≤ j → j < k + f → j ∈ U ∨ blk8 B (at_ + j * 8) = Blk.zero
  | 0, k, _, j, h1, h2 => by omega
  | f + 1, k, h, j, h1, h2 => by
    unfold rfree at h
    by_cases hk : k ∈ U ∨ blk8 B (at_ + k * 8) = Blk.zero
    · rw [if_pos hk] at h
      by_cases e : j = k
      · subst e; exact hk
      · exact rfree_ok f (k + 1) h j (by omega) (by omega)
    · rw [if_neg hk] at h; cases h
theorem rjoin_ok (ps : List PEnt) : ∀ (l : List PEnt), rjoin ps l = .ok () → ∀ p ∈ l, p.kind ≠ 0 → ps[p.origin]!.kind = 0 ∧ ps[p.origin]!.size = p.size
  | [], _, p, hp, _ => by simp at hp
  | q :: r, h, p, hp, hk => by
    unfold rjoin at h
    by_cases h0 : q.kind = 0
    · rw [if_pos h0] at h
      rcases List.mem_cons.1 hp with rfl | hp
      · exact absurd h0 hk
      · exact rjoin_ok ps r h p hp hk
    · rw [if_neg h0] at h
      by_cases h1 : ps[q.origin]!.kind = 0 ∧ ps[q.origin]!.size = q.size
      · rw [if_pos h1] at h
        rcases List.mem_cons.1 hp with rfl | hp
        · exact h1
        · exact rjoin_ok ps r h p hp hk
      · rw [if_neg h1] at h; cases h
structure RpoolOk (B : List UInt8) (count : Nat) (ps : List PEnt) (at2 : Nat) : Prop where
  cnt : 1 ≤ count ∧ count ≤ 200
  ents : EntsOk ps.length count ps
  few : ps.length ≤ 20
  join : ∀ p ∈ ps, p.kind ≠ 0 → ps[p.origin]!.kind = 0 ∧ ps[p.origin]!.size = p.size
  free : ∀ j, j < count → j ∈ usedP ps ∨ blk8 B (at2 + j * 8) = Blk.zero
  len : at2 + count * 8 = B.length
theorem rpool_ok {B : List UInt8} {count : Nat} {ps : List PEnt} {at2 : Nat} (h : rpool B = .ok (count, ps, at2)) : RpoolOk B count ps at2 := by
  unfold rpool at h
  cases hs : rmark B 4 0 with
  | error q => rw [hs] at h; cases h
  | ok at0 =>
    rw [hs] at h
    simp only at h
    cases hs : rnum B 2 1 200 at0 with
    | error q => rw [hs] at h; cases h
    | ok pr =>
      obtain ⟨c, at1⟩ := pr
      rw [hs] at h
      simp only at h
      have hc := rnum_ok hs
      cases hl : rlist B c at1 with
      | error q => rw [hl] at h; cases h
      | ok pr =>
        obtain ⟨qs, a2⟩ := pr
        rw [hl] at h
        simp only at h
        cases hj : rjoin qs qs with
        | error q => rw [hj] at h; cases h
        | ok uu =>
          rw [hj] at h
          simp only at h
          cases hd : rdisk B (usedP qs) c a2 with
          | error q => rw [hd] at h; cases h
          | ok pr =>
            obtain ⟨bl, a3⟩ := pr
            rw [hd] at h
            simp only at h
            by_cases he : a3 = B.length
            · rw [if_pos he] at h
              simp only [Except.ok.injEq, Prod.mk.injEq] at h
              obtain ⟨rfl, rfl, rfl⟩ := h
              have heo : EntsOk qs.length c qs ∧ qs.length ≤ 20 := by
                unfold rlist at hl
                cases hs1 : rnum B 1 0 20 at1 with
                | error q => rw [hs1] at hl; cases hl
                | ok pr =>
                  obtain ⟨m, b2⟩ := pr
                  rw [hs1] at hl
                  simp only at hl
                  have hc20 := (rnum_ok hs1).2.2.1
                  rcases Nat.eq_zero_or_pos m with rfl | hcp
                  · simp only [rents, Except.ok.injEq, Prod.mk.injEq] at hl
                    rw [← hl.1]
                    exact ⟨⟨by simp, by simp, by simp⟩, by simp⟩
                  · have := rents_ok hc.2.1 hcp m [] b2 qs a2 hl ⟨by simp, by simp, by simp⟩
                    have e : qs.length = m := by simpa using this.2
                    rw [e]
                    exact ⟨this.1, hc20⟩
              unfold rdisk at hd
              by_cases hle : a2 + c * 8 ≤ B.length
              · rw [if_pos hle] at hd
                cases hf : rfree B (usedP qs) a2 c 0 with
                | error q => rw [hf] at hd; cases hd
                | ok uu =>
                  rw [hf] at hd
                  simp only [Except.ok.injEq, Prod.mk.injEq] at hd
                  exact ⟨⟨hc.2.1, hc.2.2.1⟩, heo.1, heo.2, rjoin_ok qs qs hj, fun j hj => rfree_ok c 0 hf j (by omega) (by omega), by rw [hd.2]; exact he⟩
              · rw [if_neg hle] at hd; cases hd
            · rw [if_neg he] at h; cases h
/-- The state of a Pool that was loaded. -/
def ldSt (pv : List (PEnt × Vol)) (pb db bb fb jg count : Nat) (B : List UInt8) (at_ : Nat) (d : Array Int) : St := ⟨pb, db, bb, fb, some jg, count, (freeOf (takenP pv) count).length, blks8 B at_ count, d, pv.map (joinV pv)⟩
theorem blks8_get (B : List UInt8) (at_ n j : Nat) (h : j < n) : (blks8 B at_ n)[j]! = blk8 B (at_ + j * 8) := by
  unfold blks8
  rw [getElem!_pos _ j (by simpa using h)]
  simp
theorem blks8_length (B : List UInt8) (at_ n : Nat) : (blks8 B at_ n).length = n := by simp [blks8]
/-- A joined volume with its entry. -/
structure JV (pv : List (PEnt × Vol)) (x : PEnt × Vol) (v : Vol) : Prop where
  name : v.name = x.1.name
  xs : v.xs = x.1.xs
  kept : v.kept = x.1.kept
  lost : v.lost = decide (x.1.kind = 2)
  none : v.org = none ↔ x.1.kind = 0
  some : ∀ o, v.org = some o → x.1.kind ≠ 0 ∧ o = pv[x.1.origin]!.2.vb
  vb : v.vb = x.2.vb
  foot : v.foot = x.2.foot
theorem joinV_jv {pv : List (PEnt × Vol)} {x : PEnt × Vol} (h : PV x) : JV pv x (joinV pv x) := by
  have e1 : x.2.xs = x.1.xs := by rw [h.eq]; rfl
  have e2 : x.2.kept = x.1.kept := by rw [h.eq]; rfl
  have e3 : x.2.org = none := by rw [h.eq]; rfl
  have e4 : x.2.name = x.1.name := by rw [h.eq]; rfl
  have e5 : x.2.lost = decide (x.1.kind = 2) := by rw [h.eq]; rfl
  obtain ⟨a1, a2, a3, a4, a5, a6⟩ := joinV_len pv x
  have hn : (joinV pv x).name = x.2.name ∧ (joinV pv x).lost = x.2.lost := by unfold joinV; split <;> simp
  refine ⟨by rw [hn.1, e4], by rw [a1, e1], by rw [a2, e2], by rw [hn.2, e5], ?_, ?_, a3, a6⟩
  · unfold joinV
    by_cases hk : x.1.kind = 0 <;> simp [hk, e3]
  · intro o ho
    unfold joinV at ho
    by_cases hk : x.1.kind = 0
    · simp [hk, e3] at ho
    · rw [if_neg hk] at ho; exact ⟨hk, (Option.some.inj ho).symm⟩
theorem usedP_sub (ps : List PEnt) : ∀ x ∈ usedP ps, x ∈ ps.flatMap (·.xs) := fun x hx => by
  obtain ⟨p, hp, hx⟩ := List.mem_flatMap.1 hx
  exact List.mem_flatMap.2 ⟨p, hp, List.mem_of_mem_take hx⟩
theorem joinV_flat (pv : List (PEnt × Vol)) (h : ∀ x ∈ pv, PV x) (l : List (PEnt × Vol)) (hl : ∀ x ∈ l, x ∈ pv) : (l.map (joinV pv)).flatMap (·.xs) = takenP l := by
  unfold takenP
  induction l with
  | nil => rfl
  | cons x r ih =>
    rw [List.map_cons, List.map_cons, List.flatMap_cons, List.flatMap_cons, ih (fun y hy => hl y (by simp [hy])), (joinV_jv (h x (hl x (by simp)))).xs]
theorem joinV_feet (pv l : List (PEnt × Vol)) : (l.map (joinV pv)).flatMap Vol.foot = l.flatMap fun x => x.2.foot := by
  induction l with
  | nil => rfl
  | cons x r ih => rw [List.map_cons, List.flatMap_cons, List.flatMap_cons, ih, (joinV_len pv x).2.2.2.2.2]
theorem fst_get (pv : List (PEnt × Vol)) (i : Nat) (h : i < pv.length) : (pv.map (·.1))[i]! = pv[i]!.1 ∧ pv[i]! ∈ pv := by
  rw [getElem!_pos pv i h, getElem!_pos _ i (by simpa using h)]
  exact ⟨by simp, List.getElem_mem h⟩
theorem freeOf_mem (L : List Nat) (n x : Nat) : x ∈ freeOf L n ↔ x < n ∧ x ∉ L := by simp [freeOf]
theorem freeOf_nodup (L : List Nat) (n : Nat) : (freeOf L n).Nodup := List.nodup_range.filter _
theorem loaded_free {B : List UInt8} {count at_ : Nat} {pv : List (PEnt × Vol)} (hr : RpoolOk B count (pv.map (·.1)) at_) : ∀ x ∈ freeOf (takenP pv) count, x < (blks8 B at_ count).length ∧ (blks8 B at_ count)[x]! = Blk.zero := fun x hx => by
  obtain ⟨h1, h2⟩ := (freeOf_mem _ _ _).1 hx
  rw [blks8_length, blks8_get B at_ count x h1]
  exact ⟨h1, (hr.free x h1).resolve_left fun hu => h2 (usedP_sub _ x hu)⟩
theorem loaded_pool {w w' : World} {B : List UInt8} {count at_ : Nat} {pv : List (PEnt × Vol)} {pb db bb fb jg : Nat} {d : Array Int} (h : PoolRaw w w' B count at_ pv pb db bb fb jg d) (hr : RpoolOk B count (pv.map (·.1)) at_) :
    PoolAt w' (ldSt pv pb db bb fb jg count B at_ d) := by
  have hjv : ∀ x ∈ pv, JV pv x (joinV pv x) := fun x hx => joinV_jv (h.ent x hx)
  have hok : ∀ x ∈ pv, PEntOk (pv.map (·.1)).length count [] x.1 := fun x hx => hr.ents.all x.1 (List.mem_map.2 ⟨x, hx, rfl⟩)
  have hfew : pv.length ≤ 20 := by have := hr.few; simpa using this
  have hgB := giveB_zero (freeOf (takenP pv) count) (blks8 B at_ count) (loaded_free hr)
  have hD := h.disk
  rw [hgB] at hD
  obtain ⟨o1, o2, o3, o4, o5, o6, o7⟩ := h.ord
  refine ⟨⟨pv.length, ?_, ?_, ?_⟩, ?_, hD, ?_, ?_, ?_, ?_, ?_⟩
  · show At w' pb _ [ptr pb, ptr db, .slice (some ⟨jg, 0, none⟩) (pv.map (joinV pv)).length pv.length]
    rw [List.length_map]; exact h.pool
  · show (pv.map (joinV pv)).length ≤ pv.length
    rw [List.length_map]; exact Nat.le_refl _
  · intro e; cases e
  · intro b hb
    cases hb
    refine ⟨_, h.arr, ?_, ?_⟩
    · show (pv.map fun x => ptr x.2.vb).take (pv.map (joinV pv)).length = (pv.map (joinV pv)).map fun v => ptr v.vb
      rw [List.take_of_length_le (by simp), List.map_map]
      apply List.map_congr_left
      intro x hx
      simp [(hjv x hx).vb]
    · show (pv.map (joinV pv)).length ≤ _
      simp
  · intro v hv
    obtain ⟨x, hx, rfl⟩ := List.mem_map.1 hv
    have hraw := h.vols x hx
    have j := hjv x hx
    have o := hok x hx
    have hxl : (joinV pv x).xs.length ≤ 200 ∧ 1 ≤ (joinV pv x).xs.length := by
      rw [j.xs]
      by_cases hk : x.1.kind = 0
      · have := (o.plain hk).1; have := o.size; omega
      · have := o.pic hk; have := o.size; omega
    have hkl : (joinV pv x).kept.length ≤ (joinV pv x).xs.length := by rw [j.kept, j.xs]; exact o.keptle
    refine ⟨⟨_, _, Nat.le_refl _, hraw.vol, fun hk => ⟨hraw.kept0 hk, by rw [hraw.kept0 hk]; rfl⟩, fun g hg => ⟨_, hraw.kept1 g hg, by simp, by rw [List.take_of_length_le (by simp)], Nat.le_refl _, by unfold maxLen; omega⟩⟩, ⟨_, hraw.row, by rw [List.take_of_length_le (by simp)], by simp⟩, ?_, ?_, hxl.1, hkl, ?_⟩
    · rw [j.foot]
      have hp := h.nodup
      rw [List.Nodup, List.pairwise_flatMap] at hp
      exact hp.1 x hx
    · intro e; rw [e] at hxl; simp at hxl
    · intro ho
      have hk := j.none.1 ho
      refine ⟨?_, by rw [j.lost, hk]; rfl⟩
      rw [(joinV_len pv x).2.2.2.2.1]
      exact (h.ent x hx).plain hk
  · show (pb :: db :: bb :: fb :: ((some jg).toList ++ (pv.map (joinV pv)).flatMap Vol.foot)).Nodup
    rw [joinV_feet]
    have hf : ∀ k ∈ pv.flatMap (fun x => x.2.foot), k < jg := fun k hk => by
      obtain ⟨x, hx, hk⟩ := List.mem_flatMap.1 hk
      exact (h.new x hx k hk).2
    have n1 := hD.ne1
    have n2 := hD.ne2
    have n3 := hD.ne3
    have far : ∀ q, jg < q → q ∉ (some jg).toList ++ pv.flatMap (fun x => x.2.foot) := fun q hq hm => by
      rcases List.mem_append.1 hm with hm | hm
      · simp at hm; omega
      · have := hf q hm; omega
    refine List.nodup_cons.2 ⟨?_, List.nodup_cons.2 ⟨?_, List.nodup_cons.2 ⟨?_, List.nodup_cons.2 ⟨far fb o4, ?_⟩⟩⟩⟩
    · intro hm
      rcases List.mem_cons.1 hm with hm | hm
      · omega
      rcases List.mem_cons.1 hm with hm | hm
      · omega
      rcases List.mem_cons.1 hm with hm | hm
      · omega
      · exact far pb (by omega) hm
    · intro hm
      rcases List.mem_cons.1 hm with hm | hm
      · exact n1 hm
      rcases List.mem_cons.1 hm with hm | hm
      · exact n2 hm
      · exact far db o2 hm
    · intro hm
      rcases List.mem_cons.1 hm with hm | hm
      · exact n3 hm
      · exact far bb o3 hm
    · show (jg :: pv.flatMap fun x => x.2.foot).Nodup
      exact List.nodup_cons.2 ⟨fun hm => by have := hf jg hm; omega, h.nodup⟩
  · show (pv.map (joinV pv)).length ≤ 20
    rw [List.length_map]; exact hfew
  · show (pv.map (joinV pv)).Pairwise fun a b => cmpB a.name b.name < 0
    rw [List.pairwise_map]
    have hs := hr.ents.sorted
    rw [List.pairwise_map] at hs
    refine List.Pairwise.imp_of_mem ?_ hs
    intro x y hx hy hc
    rw [(hjv x hx).name, (hjv y hy).name]
    exact hc
  · intro v hv o ho
    obtain ⟨x, hx, rfl⟩ := List.mem_map.1 hv
    obtain ⟨hk, rfl⟩ := (hjv x hx).some o ho
    have hol : x.1.origin < pv.length := by have := (hok x hx).org hk; simpa using this
    obtain ⟨e1, e2⟩ := fst_get pv x.1.origin hol
    refine ⟨joinV pv pv[x.1.origin]!, List.mem_map.2 ⟨_, e2, rfl⟩, (hjv _ e2).vb, (hjv _ e2).none.2 ?_⟩
    have := (hr.join x.1 (List.mem_map.2 ⟨x, hx, rfl⟩) hk).1
    rw [e1] at this
    exact this
theorem loaded_good {w w' : World} {B : List UInt8} {count at_ : Nat} {pv : List (PEnt × Vol)} {pb db bb fb jg : Nat} {d : Array Int} (h : PoolRaw w w' B count at_ pv pb db bb fb jg d) (hr : RpoolOk B count (pv.map (·.1)) at_) :
    Good (ldSt pv pb db bb fb jg count B at_ d) (insAll (freeOf (takenP pv) count) []) := by
  have hjv : ∀ x ∈ pv, JV pv x (joinV pv x) := fun x hx => joinV_jv (h.ent x hx)
  have hok : ∀ x ∈ pv, PEntOk (pv.map (·.1)).length count [] x.1 := fun x hx => hr.ents.all x.1 (List.mem_map.2 ⟨x, hx, rfl⟩)
  have hLn : (takenP pv).Nodup := hr.ents.nodup
  have hLl : ∀ x ∈ takenP pv, x < count := fun x hx => by
    obtain ⟨p, hp, hx⟩ := List.mem_flatMap.1 hx
    exact ((hr.ents.all p hp).xs.2 x hx).1
  refine ⟨?_, ?_, ?_, ?_, ?_⟩
  · show HeapIs (freeOf (takenP pv) count).length d _
    rw [h.heap]
    have h0 := ((upArr_heap count).pops count (Nat.le_refl _)).2
    rw [Nat.sub_self, List.drop_eq_nil_of_le (by simp)] at h0
    have hsz : (upArr count).size = count := by simp [upArr]
    have := h0.gives (freeOf (takenP pv) count) (freeOf_nodup _ _) (by simp) (by rw [popsD_size, hsz, Nat.zero_add]; exact freeOf_le _ _)
    rw [Nat.zero_add] at this
    exact this
  · show (insAll (freeOf (takenP pv) count) [] ++ (pv.map (joinV pv)).flatMap (·.xs)).Perm (List.range count)
    rw [joinV_flat pv h.ent pv (fun x hx => hx)]
    have hp := insAll_perm (freeOf (takenP pv) count) []
    rw [List.append_nil] at hp
    refine (hp.append_right _).trans ?_
    refine (List.perm_ext_iff_of_nodup ?_ List.nodup_range).2 fun x => ?_
    · rw [List.nodup_append]
      refine ⟨freeOf_nodup _ _, hLn, fun x hx y hy e => ?_⟩
      subst e
      exact ((freeOf_mem _ _ _).1 hx).2 hy
    · rw [List.mem_append, freeOf_mem, List.mem_range]
      constructor
      · rintro (⟨h1, _⟩ | h1)
        · exact h1
        · exact hLl x h1
      · intro h1
        by_cases hx : x ∈ takenP pv
        · exact Or.inr hx
        · exact Or.inl ⟨h1, hx⟩
  · intro x hx
    rw [insAll_mem] at hx
    exact (loaded_free hr x (hx.resolve_right (by simp))).2
  · intro v hv
    obtain ⟨x, hx, rfl⟩ := List.mem_map.1 hv
    rw [(hjv x hx).name]; exact (hok x hx).name
  · intro v hv
    obtain ⟨x, hx, rfl⟩ := List.mem_map.1 hv
    have j := hjv x hx
    have o := hok x hx
    refine ⟨by rw [j.kept]; exact o.kept.1, fun hl => ?_, fun u hu ho => ?_⟩
    · rw [j.kept]
      rw [j.lost] at hl
      exact o.lost (of_decide_eq_true hl)
    · obtain ⟨y, hy, rfl⟩ := List.mem_map.1 hu
      obtain ⟨hk, hvb⟩ := j.some _ ho
      have hol : x.1.origin < pv.length := by have := o.org hk; simpa using this
      obtain ⟨e1, e2⟩ := fst_get pv x.1.origin hol
      have hj := hr.join x.1 (List.mem_map.2 ⟨x, hx, rfl⟩) hk
      rw [e1] at hj
      have hyy : y = pv[x.1.origin]! := by
        obtain ⟨i, hi⟩ := List.mem_iff_getElem?.1 hy
        have hz : pv[x.1.origin]? = some pv[x.1.origin]! := by rw [getElem!_pos pv _ hol]; exact List.getElem?_eq_getElem hol
        by_cases hii : i = x.1.origin
        · subst hii
          rw [hi] at hz
          exact Option.some.inj hz
        · exact absurd (by rw [← hvb, (hjv y hy).vb]) (vbs_ne h.nodup hi hz hii)
      subst hyy
      have oy := (hok _ e2).plain hj.1
      rw [j.kept, j.xs, (hjv _ e2).xs, oy.1, hj.2]
      exact ⟨o.kept.2, (o.pic hk).2⟩
theorem loaded_spare {w w' : World} {B : List UInt8} {count at_ : Nat} {pv : List (PEnt × Vol)} {pb db bb fb jg : Nat} {d : Array Int} (h : PoolRaw w w' B count at_ pv pb db bb fb jg d) (hr : RpoolOk B count (pv.map (·.1)) at_) :
    Spare (ldSt pv pb db bb fb jg count B at_ d) := by
  intro i hi ho x hx
  have hi' : i < pv.length := by have : i < (pv.map (joinV pv)).length := hi; simpa using this
  have e : (ldSt pv pb db bb fb jg count B at_ d).vols[i]! = joinV pv pv[i]! := by
    show (pv.map (joinV pv))[i]! = _
    rw [getElem!_pos _ i (by simpa using hi'), getElem!_pos pv i hi']; simp
  obtain ⟨_, hm⟩ := fst_get pv i hi'
  rw [e] at ho hx
  have j := joinV_jv (pv := pv) (h.ent _ hm)
  have hk : pv[i]!.1.kind ≠ 0 := fun hk => ho (j.none.2 hk)
  rw [j.xs, j.kept] at hx
  have hxx : x ∈ pv[i]!.1.xs := List.mem_of_mem_drop hx
  have hmp : pv[i]!.1 ∈ pv.map (·.1) := List.mem_map.2 ⟨_, hm, rfl⟩
  have hlt := ((hr.ents.all _ hmp).xs.2 x hxx).1
  show (blks8 B at_ count)[x]! = Blk.zero
  rw [blks8_get B at_ count x hlt]
  refine (hr.free x hlt).resolve_left fun hu => ?_
  obtain ⟨p, hp, hxp⟩ := List.mem_flatMap.1 hu
  have hxp' := List.mem_of_mem_take hxp
  obtain ⟨q, hq⟩ := List.mem_iff_getElem?.1 hp
  have hql := (List.getElem?_eq_some_iff.1 hq).1
  have hqe := (List.getElem?_eq_some_iff.1 hq).2
  have hil : i < (pv.map (·.1)).length := by simpa using hi'
  have hie : (pv.map (·.1))[i] = pv[i]!.1 := by rw [getElem!_pos pv i hi']; simp
  have hn := hr.ents.nodup
  rw [List.Nodup, List.pairwise_flatMap] at hn
  have hpw := List.pairwise_iff_getElem.1 hn.2
  by_cases hqi : q = i
  · subst hqi
    rw [hie] at hqe
    subst hqe
    rw [if_neg hk] at hxp
    have hnx := (hr.ents.all _ hmp).xs.1
    rw [← List.take_append_drop pv[q]!.1.kept.length pv[q]!.1.xs, List.nodup_append] at hnx
    exact hnx.2.2 x hxp x hx rfl
  · rcases Nat.lt_or_gt_of_ne hqi with hlt' | hlt'
    · have := hpw q i hql hil hlt'
      rw [hqe, hie] at this
      exact this x hxp' x hxx rfl
    · have := hpw i q hil hql hlt'
      rw [hqe, hie] at this
      exact this x hxx x hxp' rfl
/-- What is left of bytes at a place. -/
structure Rest (B : List UInt8) (at_ : Nat) (R : List UInt8) : Prop where
  le : at_ ≤ B.length
  eq : B.drop at_ = R
theorem Rest.len {B R : List UInt8} {at_ : Nat} (h : Rest B at_ R) : at_ + R.length = B.length := by
  have := h.le
  rw [← h.eq, List.length_drop]; omega
theorem Rest.step {B X R : List UInt8} {at_ : Nat} (h : Rest B at_ (X ++ R)) : Rest B (at_ + X.length) R := by
  refine ⟨by have := h.len; rw [List.length_append] at this; omega, ?_⟩
  rw [← List.drop_drop, h.eq, List.drop_left]
/-- What an entry that is printed must be, to be read. -/
structure Told (s : St) (count : Nat) (v : Vol) : Prop where
  name : nameB v.name = true
  size : 1 ≤ s.size v ∧ s.size v ≤ 200
  plain : v.org = none → v.lost = false ∧ s.size v = v.xs.length
  pos : v.org ≠ none → posOf s.names (s.orgOf v).name < count
  pic : v.org ≠ none → 1 ≤ v.xs.length ∧ v.xs.length ≤ s.size v ∧ v.kept.length ≤ v.xs.length
  lost : v.lost = true → v.kept = []
  xs : v.xs.Nodup ∧ ∀ x ∈ v.xs, x < s.n
  kept : v.kept.Nodup ∧ ∀ x ∈ v.kept, x < s.size v
  n : 1 ≤ s.n ∧ s.n ≤ 200
  cnt : count ≤ 20
theorem told_of {w : World} {s : St} {fr : List Nat} (h : PoolAt w s) (hG : Good s fr) (hn : 1 ≤ s.n) {v : Vol} (hv : v ∈ s.vols) : Told s s.vols.length v := by
  obtain ⟨om, oo, on, os⟩ := h.orgOf hv
  have va := h.vols v hv
  have vo := h.vols _ om
  have hP := hG.pics v hv
  have h1 : ∀ u : Vol, VolAt w u → 1 ≤ u.xs.length := fun u hu => by
    have := hu.pos
    cases hx : u.xs with
    | nil => exact absurd hx this
    | cons a b => simp
  refine ⟨hG.names v hv, ⟨h1 _ vo, vo.small⟩, fun ho => ⟨(va.plain ho).2, by unfold St.size; rw [on ho]⟩, fun ho => ?_, fun ho => ⟨h1 v va, ((hP.2.2 _ om (os ho)).2), va.room⟩, hP.2.1, ⟨?_, (hG.lt.2 v hv)⟩, ⟨hP.1, fun k hk => ?_⟩, ⟨hn, h.disk.small⟩, h.few⟩
  · obtain ⟨i, hi⟩ := List.mem_iff_getElem?.1 om
    obtain ⟨hil, hie⟩ := List.getElem?_eq_some_iff.1 hi
    have hs : s.names.Pairwise fun a b => cmpB a b < 0 := by
      unfold St.names; rw [List.pairwise_map]; exact h.sorted
    have hnl : i < s.names.length := by unfold St.names; rw [List.length_map]; exact hil
    have e : s.names[i]! = (s.orgOf v).name := by
      unfold St.names; rw [getElem!_pos _ i (by rw [List.length_map]; exact hil), List.getElem_map, hie]
    rw [← e, posOf_get hs i hnl]
    exact hil
  · have := hG.nodup
    rw [List.nodup_append] at this
    have := this.2.1
    rw [List.Nodup, List.pairwise_flatMap] at this
    exact this.1 v hv
  · cases ho : v.org with
    | none =>
      have := va.kept_nil ho
      rw [this] at hk; simp at hk
    | some o =>
      have hne : v.org ≠ none := by simp [ho]
      exact (hP.2.2 _ om (os hne)).1 k hk
/-- From a place to a place stand these bytes. -/
structure Seg (B : List UInt8) (at_ : Nat) (X : List UInt8) (at1 : Nat) : Prop where
  le : at1 ≤ B.length
  sum : at_ + X.length = at1
  eq : B.drop at_ = X ++ B.drop at1
theorem Seg.trans {B X Y : List UInt8} {a b c : Nat} (h : Seg B a X b) (k : Seg B b Y c) : Seg B a (X ++ Y) c :=
  ⟨k.le, by rw [List.length_append]; have := h.sum; have := k.sum; omega, by rw [h.eq, k.eq, List.append_assoc]⟩
theorem Seg.nil {B : List UInt8} {a : Nat} (h : a ≤ B.length) : Seg B a [] a := ⟨h, rfl, rfl⟩
theorem Seg.take {B : List UInt8} {a n : Nat} (h : a + n ≤ B.length) : Seg B a ((B.drop a).take n) (a + n) := by
  refine ⟨h, by rw [List.length_take, List.length_drop]; omega, ?_⟩
  rw [← List.drop_drop, List.take_append_drop]
theorem two_back (a b : UInt8) : two (valB [a, b]) = [a, b] := by
  have ha := a.toNat_lt
  have hb := b.toNat_lt
  simp only [valB, two, List.foldl_cons, List.foldl_nil, List.cons.injEq, and_true]
  constructor <;> (apply UInt8.toNat_inj.1; rw [UInt8.toNat_ofNat']; omega)
theorem one_back (a : UInt8) : [UInt8.ofNat (valB [a])] = [a] := by
  have ha := a.toNat_lt
  simp only [valB, List.foldl_cons, List.foldl_nil, List.cons.injEq, and_true]
  apply UInt8.toNat_inj.1; rw [UInt8.toNat_ofNat']; omega
theorem list_two {l : List UInt8} (h : l.length = 2) : ∃ a b, l = [a, b] := by
  match l, h with
  | [a, b], _ => exact ⟨a, b, rfl⟩
theorem list_one {l : List UInt8} (h : l.length = 1) : ∃ a, l = [a] := by
  match l, h with
  | [a], _ => exact ⟨a, rfl⟩
theorem rnum_two_seg {B : List UInt8} {low high at_ x at1 : Nat} (h : rnum B 2 low high at_ = .ok (x, at1)) : Seg B at_ (two x) at1 := by
  obtain ⟨h1, _, _, h4, h5⟩ := rnum_ok h
  have s := Seg.take (B := B) (a := at_) (n := 2) h1
  obtain ⟨a, b, e⟩ := list_two (l := (B.drop at_).take 2) (by rw [List.length_take, List.length_drop]; omega)
  unfold numAt at h4
  rw [e] at h4 s
  rw [h4, two_back, h5]
  exact s
theorem rnum_one_seg {B : List UInt8} {low high at_ x at1 : Nat} (h : rnum B 1 low high at_ = .ok (x, at1)) : Seg B at_ [UInt8.ofNat x] at1 := by
  obtain ⟨h1, _, _, h4, h5⟩ := rnum_ok h
  have s := Seg.take (B := B) (a := at_) (n := 1) h1
  obtain ⟨a, e⟩ := list_one (l := (B.drop at_).take 1) (by rw [List.length_take, List.length_drop]; omega)
  unfold numAt at h4
  rw [e] at h4 s
  rw [h4, one_back, h5]
  exact s
theorem rnums_seg {B : List UInt8} {bound : Nat} : ∀ (c : Nat) (seen acc : List Nat) (at_ : Nat) (xs : List Nat) (at1 : Nat), at_ ≤ B.length → rnums B bound c seen acc at_ = .ok (xs, at1) → ∃ new, xs = acc ++ new ∧ new.length = c ∧ Seg B at_ (new.flatMap two) at1
  | 0, seen, acc, at_, xs, at1, hle, h => by
    simp only [rnums, Except.ok.injEq, Prod.mk.injEq] at h
    exact ⟨[], by simp [h.1], rfl, by rw [← h.2]; exact Seg.nil hle⟩
  | c + 1, seen, acc, at_, xs, at1, hle, h => by
    unfold rnums at h
    cases hs : rnum B 2 0 (bound - 1) at_ with
    | error q => rw [hs] at h; cases h
    | ok pr =>
      obtain ⟨k, at2⟩ := pr
      rw [hs] at h
      have sg := rnum_two_seg hs
      by_cases hm : k ∈ seen ++ acc
      · simp only [hm, if_true] at h; cases h
      · simp only [hm, if_false] at h
        obtain ⟨new, h1, h2, h3⟩ := rnums_seg c seen (acc ++ [k]) at2 xs at1 sg.le h
        exact ⟨k :: new, by rw [h1, List.append_assoc]; rfl, by simp [h2], by rw [List.flatMap_cons]; exact sg.trans h3⟩
theorem nums_seg {B : List UInt8} {bound low high at_ c at1 at2 : Nat} {seen xs : List Nat} (h1 : rnum B 2 low high at_ = .ok (c, at1)) (h2 : rnums B bound c seen [] at1 = .ok (xs, at2)) : Seg B at_ (nums xs) at2 := by
  have s1 := rnum_two_seg h1
  obtain ⟨new, e1, e2, s2⟩ := rnums_seg c seen [] at1 xs at2 s1.le h2
  rw [List.nil_append] at e1
  subst e1
  unfold nums
  rw [e2]
  exact s1.trans s2
theorem rname_seg {B : List UInt8} {ahead name : ByteArray} {at_ at1 : Nat} (h : rname B ahead at_ = .ok (name, at1)) : Seg B at_ ([UInt8.ofNat name.size] ++ name.data.toList) at1 := by
  unfold rname at h
  cases hs : rnum B 1 1 10 at_ with
  | error q => rw [hs] at h; cases h
  | ok pr =>
    obtain ⟨n, at2⟩ := pr
    rw [hs] at h
    simp only at h
    have s1 := rnum_one_seg hs
    by_cases h1 : at2 + n ≤ B.length
    · rw [if_pos h1] at h
      by_cases h2 : nameB (textAt B at2 n) = true ∧ cmpB ahead (textAt B at2 n) < 0
      · rw [if_pos h2] at h
        simp only [Except.ok.injEq, Prod.mk.injEq] at h
        have s2 := Seg.take (B := B) (a := at2) (n := n) h1
        have ed : name.data.toList = (B.drop at2).take n := by rw [← h.1]; simp [textAt]
        have es : name.size = n := by
          have : name.size = name.data.toList.length := by rw [Array.length_toList]; rfl
          rw [this, ed, List.length_take, List.length_drop]; omega
        rw [ed, es, ← h.2]
        exact s1.trans s2
      · rw [if_neg h2] at h; cases h
    · rw [if_neg h1] at h; cases h
/-- The bytes of an entry. -/
def PEnt.bytes (p : PEnt) : List UInt8 :=
  ([UInt8.ofNat p.name.size] ++ p.name.data.toList) ++ ([UInt8.ofNat p.kind] ++ (two p.size ++ (if p.kind = 0 then nums p.xs else [UInt8.ofNat p.origin] ++ (nums p.xs ++ nums p.kept))))
theorem rentry_seg {B : List UInt8} {count bound : Nat} {used : List Nat} {ahead : ByteArray} {at_ : Nat} {p : PEnt} {at1 : Nat} (h : rentry B count bound used ahead at_ = .ok (p, at1)) : Seg B at_ p.bytes at1 := by
  rw [rentry_eq] at h
  cases hs : rname B ahead at_ with
  | error q => rw [hs] at h; cases h
  | ok pr =>
    obtain ⟨name, a1⟩ := pr
    rw [hs] at h
    have s1 := rname_seg hs
    cases hs : rnum B 1 0 2 a1 with
    | error q => simp only [hs] at h; cases h
    | ok pr =>
      obtain ⟨kind, a2⟩ := pr
      simp only [hs] at h
      have s2 := rnum_one_seg hs
      cases hs : rnum B 2 1 200 a2 with
      | error q => simp only [hs] at h; cases h
      | ok pr =>
        obtain ⟨size, a3⟩ := pr
        simp only [hs] at h
        have s3 := rnum_two_seg hs
        by_cases hk0 : kind = 0
        · rw [if_pos hk0] at h
          unfold rvol at h
          cases hs : rnum B 2 size size a3 with
          | error q => simp only [hs] at h; cases h
          | ok pr =>
            obtain ⟨c, a4⟩ := pr
            simp only [hs] at h
            cases hs2 : rnums B bound c used [] a4 with
            | error q => simp only [hs2] at h; cases h
            | ok pr =>
              obtain ⟨xs, a5⟩ := pr
              simp only [hs2, Except.ok.injEq, Prod.mk.injEq] at h
              have s4 := nums_seg hs hs2
              rw [← h.1, ← h.2]
              subst hk0
              exact s1.trans (s2.trans (s3.trans s4))
        · rw [if_neg hk0] at h
          unfold rpic at h
          cases hs : rnum B 1 0 (count - 1) a3 with
          | error q => simp only [hs] at h; cases h
          | ok pr =>
            obtain ⟨origin, a4⟩ := pr
            simp only [hs] at h
            have s4 := rnum_one_seg hs
            cases hs : rnum B 2 1 size a4 with
            | error q => simp only [hs] at h; cases h
            | ok pr =>
              obtain ⟨c, a5⟩ := pr
              simp only [hs] at h
              cases hs2 : rnums B bound c used [] a5 with
              | error q => simp only [hs2] at h; cases h
              | ok pr =>
                obtain ⟨xs, a6⟩ := pr
                simp only [hs2] at h
                have s5 := nums_seg hs hs2
                cases hs3 : rnum B 2 0 (if kind = 2 then 0 else xs.length) a6 with
                | error q => simp only [hs3] at h; cases h
                | ok pr =>
                  obtain ⟨k, a7⟩ := pr
                  simp only [hs3] at h
                  cases hs4 : rnums B size k [] [] a7 with
                  | error q => simp only [hs4] at h; cases h
                  | ok pr =>
                    obtain ⟨kept, a8⟩ := pr
                    simp only [hs4, Except.ok.injEq, Prod.mk.injEq] at h
                    have s6 := nums_seg hs3 hs4
                    rw [← h.1, ← h.2]
                    unfold PEnt.bytes
                    simp only [hk0, if_false]
                    exact s1.trans (s2.trans (s3.trans (s4.trans (s5.trans s6))))
theorem rents_seg {B : List UInt8} {count bound : Nat} : ∀ (c : Nat) (acc : List PEnt) (at_ : Nat) (ps : List PEnt) (at1 : Nat), at_ ≤ B.length → rents B count bound c acc at_ = .ok (ps, at1) → ∃ new, ps = acc ++ new ∧ new.length = c ∧ Seg B at_ (new.flatMap PEnt.bytes) at1
  | 0, acc, at_, ps, at1, hle, h => by
    simp only [rents, Except.ok.injEq, Prod.mk.injEq] at h
    exact ⟨[], by simp [h.1], rfl, by rw [← h.2]; exact Seg.nil hle⟩
  | c + 1, acc, at_, ps, at1, hle, h => by
    unfold rents at h
    cases hs : rentry B count bound (acc.flatMap (·.xs)) ((acc.getLast?.map (·.name)).getD ⟨#[]⟩) at_ with
    | error q => rw [hs] at h; cases h
    | ok pr =>
      obtain ⟨p, at2⟩ := pr
      rw [hs] at h
      simp only at h
      have sg := rentry_seg hs
      obtain ⟨new, h1, h2, h3⟩ := rents_seg c (acc ++ [p]) at2 ps at1 sg.le h
      exact ⟨p :: new, by rw [h1, List.append_assoc]; rfl, by simp [h2], by rw [List.flatMap_cons]; exact sg.trans h3⟩
theorem rlist_seg {B : List UInt8} {bound at_ : Nat} {ps : List PEnt} {at1 : Nat} (h : rlist B bound at_ = .ok (ps, at1)) : Seg B at_ ([UInt8.ofNat ps.length] ++ ps.flatMap PEnt.bytes) at1 := by
  unfold rlist at h
  cases hs : rnum B 1 0 20 at_ with
  | error q => rw [hs] at h; cases h
  | ok pr =>
    obtain ⟨c, a1⟩ := pr
    rw [hs] at h
    simp only at h
    have s1 := rnum_one_seg hs
    obtain ⟨new, e1, e2, s2⟩ := rents_seg c [] a1 ps at1 s1.le h
    rw [List.nil_append] at e1
    subst e1
    rw [e2]
    exact s1.trans s2
theorem blk_bytes (B : List UInt8) (i : Nat) (h : i + 8 ≤ B.length) : (blk8 B i).bytes = (B.drop i).take 8 := by
  have e : (blk8 B i).bytes = [UInt8.ofNat ((B[i]!.toNat : Int)).toNat, UInt8.ofNat ((B[i + 1]!.toNat : Int)).toNat, UInt8.ofNat ((B[i + 2]!.toNat : Int)).toNat, UInt8.ofNat ((B[i + 3]!.toNat : Int)).toNat, UInt8.ofNat ((B[i + 4]!.toNat : Int)).toNat, UInt8.ofNat ((B[i + 5]!.toNat : Int)).toNat, UInt8.ofNat ((B[i + 6]!.toNat : Int)).toNat, UInt8.ofNat ((B[i + 7]!.toNat : Int)).toNat] := rfl
  have k : ∀ b : UInt8, UInt8.ofNat ((b.toNat : Int)).toNat = b := fun b => by
    apply UInt8.toNat_inj.1; rw [UInt8.toNat_ofNat']; have := b.toNat_lt; omega
  rw [e]
  simp only [k]
  rw [getElem!_pos B i (by omega), getElem!_pos B (i + 1) (by omega), getElem!_pos B (i + 2) (by omega), getElem!_pos B (i + 3) (by omega), getElem!_pos B (i + 4) (by omega), getElem!_pos B (i + 5) (by omega), getElem!_pos B (i + 6) (by omega), getElem!_pos B (i + 7) (by omega)]
  rw [List.drop_eq_getElem_cons (by omega), List.drop_eq_getElem_cons (by omega), List.drop_eq_getElem_cons (by omega), List.drop_eq_getElem_cons (by omega), List.drop_eq_getElem_cons (by omega), List.drop_eq_getElem_cons (by omega), List.drop_eq_getElem_cons (by omega), List.drop_eq_getElem_cons (by omega)]
  rfl
theorem blks_seg (B : List UInt8) (at_ : Nat) : ∀ n, at_ + n * 8 ≤ B.length → Seg B at_ ((blks8 B at_ n).flatMap Blk.bytes) (at_ + n * 8)
  | 0, h => by
    have : (blks8 B at_ 0).flatMap Blk.bytes = [] := by simp [blks8]
    rw [this]; simpa using Seg.nil (B := B) (a := at_) (by omega)
  | n + 1, h => by
    have ih := blks_seg B at_ n (by omega)
    have e : (blks8 B at_ (n + 1)).flatMap Blk.bytes = (blks8 B at_ n).flatMap Blk.bytes ++ (blk8 B (at_ + n * 8)).bytes := by
      unfold blks8
      rw [List.range_succ, List.map_append, List.flatMap_append]; simp
    rw [e, blk_bytes B _ (by omega), show at_ + (n + 1) * 8 = at_ + n * 8 + 8 by omega]
    exact ih.trans (Seg.take (by omega))
theorem rmark_seg {B : List UInt8} {at0 : Nat} (h : rmark B 4 0 = .ok at0) : Seg B 0 markB at0 := by
  have step : ∀ (n k a : Nat), rmark B (n + 1) k = .ok a → k + 1 ≤ B.length ∧ B[k]! = markB[k]! ∧ rmark B n (k + 1) = .ok a := fun n k a h => by
    unfold rmark at h
    by_cases h1 : k + 1 ≤ B.length
    · rw [if_pos h1] at h
      by_cases h2 : B[k]! = markB[k]!
      · rw [if_pos h2] at h; exact ⟨h1, h2, h⟩
      · rw [if_neg h2] at h; cases h
    · rw [if_neg h1] at h; cases h
  obtain ⟨l0, b0, h⟩ := step 3 0 at0 h
  obtain ⟨l1, b1, h⟩ := step 2 1 at0 h
  obtain ⟨l2, b2, h⟩ := step 1 2 at0 h
  obtain ⟨l3, b3, h⟩ := step 0 3 at0 h
  have e : at0 = 4 := by
    simp only [rmark, Except.ok.injEq] at h; omega
  subst e
  have sg := Seg.take (B := B) (a := 0) (n := 4) (by omega)
  have em : (B.drop 0).take 4 = markB := by
    rw [getElem!_pos B 0 (by omega)] at b0
    rw [getElem!_pos B 1 (by omega)] at b1
    rw [getElem!_pos B 2 (by omega)] at b2
    rw [getElem!_pos B 3 (by omega)] at b3
    rw [List.drop_eq_getElem_cons (by omega), List.drop_eq_getElem_cons (by omega), List.drop_eq_getElem_cons (by omega), List.drop_eq_getElem_cons (by omega)]
    simp only [List.take_succ_cons, List.take_zero, Nat.zero_add, b0, b1, b2, b3]
    rfl
  rw [em] at sg
  exact sg
theorem rpool_seg {B : List UInt8} {count : Nat} {ps : List PEnt} {at2 : Nat} (h : rpool B = .ok (count, ps, at2)) : B = markB ++ two count ++ [UInt8.ofNat ps.length] ++ ps.flatMap PEnt.bytes ++ (blks8 B at2 count).flatMap Blk.bytes := by
  have hok := rpool_ok h
  unfold rpool at h
  cases hs : rmark B 4 0 with
  | error q => rw [hs] at h; cases h
  | ok at0 =>
    rw [hs] at h
    simp only at h
    have s1 := rmark_seg hs
    cases hs : rnum B 2 1 200 at0 with
    | error q => rw [hs] at h; cases h
    | ok pr =>
      obtain ⟨c, at1⟩ := pr
      rw [hs] at h
      simp only at h
      have s2 := rnum_two_seg hs
      cases hl : rlist B c at1 with
      | error q => rw [hl] at h; cases h
      | ok pr =>
        obtain ⟨qs, a2⟩ := pr
        rw [hl] at h
        simp only at h
        have s3 := rlist_seg hl
        cases hj : rjoin qs qs with
        | error q => rw [hj] at h; cases h
        | ok uu =>
          rw [hj] at h
          simp only at h
          cases hd : rdisk B (usedP qs) c a2 with
          | error q => rw [hd] at h; cases h
          | ok pr =>
            obtain ⟨bl, a3⟩ := pr
            rw [hd] at h
            simp only at h
            by_cases he : a3 = B.length
            · rw [if_pos he] at h
              simp only [Except.ok.injEq, Prod.mk.injEq] at h
              obtain ⟨rfl, rfl, rfl⟩ := h
              have s4 := blks_seg B a2 c (by rw [hok.len]; exact Nat.le_refl _)
              have s := ((s1.trans s2).trans s3).trans s4
              have e := s.eq
              rw [List.drop_zero, hok.len, List.drop_length, List.append_nil] at e
              rw [← List.append_assoc] at e
              exact e
            · rw [if_neg he] at h; cases h
theorem loaded_org {w w' : World} {B : List UInt8} {count at_ : Nat} {pv : List (PEnt × Vol)} {pb db bb fb jg : Nat} {d : Array Int} (h : PoolRaw w w' B count at_ pv pb db bb fb jg d) (hr : RpoolOk B count (pv.map (·.1)) at_) {x : PEnt × Vol} (hx : x ∈ pv) :
    (x.1.kind = 0 → (ldSt pv pb db bb fb jg count B at_ d).orgOf (joinV pv x) = joinV pv x) ∧ (x.1.kind ≠ 0 → x.1.origin < pv.length ∧ pv[x.1.origin]! ∈ pv ∧ (ldSt pv pb db bb fb jg count B at_ d).orgOf (joinV pv x) = joinV pv pv[x.1.origin]! ∧ pv[x.1.origin]!.1.kind = 0 ∧ pv[x.1.origin]!.1.size = x.1.size) := by
  have hP := loaded_pool h hr
  have j := joinV_jv (pv := pv) (h.ent x hx)
  refine ⟨fun hk => ?_, fun hk => ?_⟩
  · unfold St.orgOf
    rw [j.none.2 hk]
  · have hol : x.1.origin < pv.length := by have := (hr.ents.all x.1 (List.mem_map.2 ⟨x, hx, rfl⟩)).org hk; simpa using this
    obtain ⟨e1, e2⟩ := fst_get pv x.1.origin hol
    have hj := hr.join x.1 (List.mem_map.2 ⟨x, hx, rfl⟩) hk
    rw [e1] at hj
    refine ⟨hol, e2, ?_, hj⟩
    have jy := joinV_jv (pv := pv) (h.ent _ e2)
    have ho : (joinV pv x).org = some pv[x.1.origin]!.2.vb := by unfold joinV; rw [if_neg hk]
    unfold St.orgOf
    rw [ho]
    show (ldSt pv pb db bb fb jg count B at_ d).volAt pv[x.1.origin]!.2.vb = _
    rw [← jy.vb]
    exact hP.volAt (List.mem_map.2 ⟨_, e2, rfl⟩)
theorem loaded_entry {w w' : World} {B : List UInt8} {count at_ : Nat} {pv : List (PEnt × Vol)} {pb db bb fb jg : Nat} {d : Array Int} (h : PoolRaw w w' B count at_ pv pb db bb fb jg d) (hr : RpoolOk B count (pv.map (·.1)) at_) {x : PEnt × Vol} (hx : x ∈ pv) :
    entryB (ldSt pv pb db bb fb jg count B at_ d) (joinV pv x) = x.1.bytes := by
  have hP := loaded_pool h hr
  have j := joinV_jv (pv := pv) (h.ent x hx)
  have o := hr.ents.all x.1 (List.mem_map.2 ⟨x, hx, rfl⟩)
  obtain ⟨g0, g1⟩ := loaded_org h hr hx
  by_cases hk : x.1.kind = 0
  · have ho := j.none.2 hk
    have hkn : (joinV pv x).kindN = x.1.kind := by unfold Vol.kindN; rw [j.lost, ho, hk]; rfl
    have hsz : (ldSt pv pb db bb fb jg count B at_ d).size (joinV pv x) = x.1.size := by
      unfold St.size; rw [g0 hk, j.xs]; exact (o.plain hk).1
    unfold entryB headB PEnt.bytes
    rw [ho, hkn, hsz, j.name, j.xs, if_pos hk]
    simp only [List.append_assoc]
  · obtain ⟨hol, hym, horg, hyk, hys⟩ := g1 hk
    have jy := joinV_jv (pv := pv) (h.ent _ hym)
    have oy := hr.ents.all _ (List.mem_map.2 ⟨_, hym, rfl⟩)
    cases hq : (joinV pv x).org with
    | none => exact absurd (j.none.1 hq) hk
    | some b =>
      have hkn : (joinV pv x).kindN = x.1.kind := by
        unfold Vol.kindN; rw [j.lost, hq]
        have := o.kind
        by_cases h2 : x.1.kind = 2
        · simp [h2]
        · simp [h2]; omega
      have hsz : (ldSt pv pb db bb fb jg count B at_ d).size (joinV pv x) = x.1.size := by
        unfold St.size; rw [horg, jy.xs, (oy.plain hyk).1, hys]
      have hpos : posOf (ldSt pv pb db bb fb jg count B at_ d).names ((ldSt pv pb db bb fb jg count B at_ d).orgOf (joinV pv x)).name = x.1.origin := by
        rw [horg]
        have hs : (ldSt pv pb db bb fb jg count B at_ d).names.Pairwise fun a b => cmpB a b < 0 := by
          unfold St.names; rw [List.pairwise_map]; exact hP.sorted
        have hnl : x.1.origin < (ldSt pv pb db bb fb jg count B at_ d).names.length := by
          show x.1.origin < ((pv.map (joinV pv)).map (·.name)).length
          simpa using hol
        have e : (ldSt pv pb db bb fb jg count B at_ d).names[x.1.origin]! = (joinV pv pv[x.1.origin]!).name := by
          show ((pv.map (joinV pv)).map (·.name))[x.1.origin]! = _
          rw [getElem!_pos _ _ (by simpa using hol), getElem!_pos pv _ hol]
          simp
        rw [← e]
        exact posOf_get hs _ hnl
      unfold entryB headB PEnt.bytes
      rw [hq, hkn, hsz, j.name, j.xs, j.kept, if_neg hk, hpos]
      simp only [List.append_assoc]
theorem loaded_body {w w' : World} {B : List UInt8} {count at_ : Nat} {pv : List (PEnt × Vol)} {pb db bb fb jg : Nat} {d : Array Int} (h : PoolRaw w w' B count at_ pv pb db bb fb jg d) (hp : rpool B = .ok (count, pv.map (·.1), at_)) :
    bodyB (ldSt pv pb db bb fb jg count B at_ d) = B := by
  have hr := rpool_ok hp
  have e := rpool_seg hp
  have el : listB (ldSt pv pb db bb fb jg count B at_ d) (pv.map (joinV pv)) = (pv.map (·.1)).flatMap PEnt.bytes := by
    unfold listB
    have : ∀ l : List (PEnt × Vol), (∀ x ∈ l, x ∈ pv) → (l.map (joinV pv)).flatMap (entryB (ldSt pv pb db bb fb jg count B at_ d)) = (l.map (·.1)).flatMap PEnt.bytes := by
      intro l
      induction l with
      | nil => intro _; rfl
      | cons x r ih =>
        intro hl
        rw [List.map_cons, List.map_cons, List.flatMap_cons, List.flatMap_cons, ih (fun y hy => hl y (by simp [hy])), loaded_entry h hr (hl x (by simp))]
    exact this pv fun x hx => hx
  have e2 : bodyB (ldSt pv pb db bb fb jg count B at_ d) = markB ++ two count ++ [UInt8.ofNat (pv.map (joinV pv)).length] ++ listB (ldSt pv pb db bb fb jg count B at_ d) (pv.map (joinV pv)) ++ (blks8 B at_ count).flatMap Blk.bytes := rfl
  rw [e2, el, List.length_map]
  rw [List.length_map] at e
  exact e.symm
end
end Go.Proofs.Ytpddgdjocffgdaa
