/- The statement Past: the names of its pictures, and its memory. -/
import Derived.Test.YtpddgdjocffgdaaLawN
import Derived.Laws.IdiomStrings
namespace Go.Proofs.Ytpddgdjocffgdaa
open Go.RowKit Go.Sort
set_option linter.unusedVariables false
set_option linter.unusedSimpArgs false
set_option linter.unusedSectionVars false
variable [DecidableEq Blk] [Inhabited Blk]
variable [Inhabited Vol]

theorem pN_text : ∀ i, i < 8 → ((⟨#[112]⟩ : ByteArray) ++ ⟨#[97 + UInt8.ofNat i]⟩) = pN i := by decide +kernel

set_option maxHeartbeats 800000 in
set_option maxRecDepth 100000 in
theorem kpicture_calls (i : Nat) (w : World) (hi : i < 8) : Calls Try.prog 26 #[.int .i64 i] w fun e w' => e = .returned (.string (pN i)) ∧ Same [] w w' := by
  have hw : IntKind.i64.wrap (97 + (i : Int)) = 97 + (i : Int) := IntWalk.i64_in _ (by omega)
  have hw8 : IntKind.u8.wrap (97 + (i : Int)) = 97 + (i : Int) := by rw [IntKind.wrap_u8]; omega
  have hn : ((UInt8.ofNat (97 + i)).toNat : Int) = 97 + (i : Int) := by
    rw [UInt8.toNat_ofNat']; omega
  have hcv : (convert 25 9 (.slice (some ⟨w.heap.size, 0, none⟩) 1 1)).run Try.prog (w.alloc (.cells #[.int .u8 (97 + (i : Int))] 5)) = .ok (.string ⟨#[UInt8.ofNat (97 + i)]⟩) (w.alloc (.cells #[.int .u8 (97 + (i : Int))] 5)) :=
    run_convert_bytes_back (P := Try.prog) _ 25 9 5 ⟨w.heap.size, 0, none⟩ 1 [UInt8.ofNat (97 + i)] Try.underlying25 Try.underlying5 Try.underlying9 (fun j hj => by
      have hj0 : j = 0 := by simpa using hj
      subst hj0
      rw [show (([UInt8.ofNat (97 + i)] : List UInt8)[0]) = UInt8.ofNat (97 + i) from rfl, hn]
      simp [Addr.add])
  go_enter Try.func26, Try.ntmps26
  go_wp2
  go_ret
  exact ⟨congrArg (fun t => Ending.returned (.string t)) (pN_text i hi), (Same.refl _ _).alloc _⟩
/-- What the rows of Past's pictures look like. -/
structure PRow where
  g : Nat
  cap : Nat
  rest : List Value
def PRow.val (size : Nat) (r : PRow) : Value := .slice (some ⟨r.g, 0, none⟩) size r.cap

/-- What stands at the head of each round of Past. -/
structure PastAt (w : World) (pb size ng : Nat) (wr : World) (s : St) (fr : List Nat) (now : List Blk) (pasts : List (List Blk)) (pg : Option Nat) (pcap : Nat) (rows : List PRow) : Prop where
  pb : s.pb = pb
  pool : PoolAt wr s
  good : Good s fr
  inv : PastInv s fr size now pasts
  foot : ∀ k ∈ s.foot, w.heap.size ≤ k
  same : Same [] w wr
  now : At wr ng 55 (flat now)
  own : wr.ownsRow w.heap.size 52 1 (.slice (adr pg) pasts.length pcap) pasts.length (rows.map (PRow.val size))
  row : ∀ i, i < pasts.length → ∃ r, rows[i]? = some r ∧ At wr r.g 55 (flat pasts[i]! ++ r.rest)
  out : ∀ k ∈ ng :: (pg.toList ++ rows.map (·.g)), w.heap.size ≤ k ∧ k < wr.heap.size ∧ k ∉ s.foot
  nd : (ng :: (pg.toList ++ rows.map (·.g))).Nodup

theorem PastAt.rl {w : World} {pb size ng : Nat} {wr : World} {s : St} {fr : List Nat} {now : List Blk} {pasts : List (List Blk)} {pg : Option Nat} {pcap : Nat} {rows : List PRow} (h : PastAt w pb size ng wr s fr now pasts pg pcap rows) : rows.length = pasts.length := by
  have := h.own.1
  simpa using this

/-- The Pool turned to something else, the memory as it was. -/
theorem PastAt.next {w : World} {pb size ng : Nat} {wr w' : World} {s s' : St} {fr fr' : List Nat} {now : List Blk} {pasts : List (List Blk)} {pg : Option Nat} {pcap : Nat} {rows : List PRow} (h : PastAt w pb size ng wr s fr now pasts pg pcap rows) (hA : After wr s w' s' fr') :
    s'.pb = pb ∧ PoolAt w' s' ∧ Good s' fr' ∧ (∀ k ∈ s'.foot, w.heap.size ≤ k) ∧ Same [] w w' ∧ At w' ng 55 (flat now) ∧ w'.ownsRow w.heap.size 52 1 (.slice (adr pg) pasts.length pcap) pasts.length (rows.map (PRow.val size)) ∧
      (∀ i, i < pasts.length → ∃ r, rows[i]? = some r ∧ At w' r.g 55 (flat pasts[i]! ++ r.rest)) ∧ ∀ k ∈ ng :: (pg.toList ++ rows.map (·.g)), w.heap.size ≤ k ∧ k < w'.heap.size ∧ k ∉ s'.foot := by
  have hz := h.same.size
  have hz2 := hA.same.size
  have hk : ∀ k, k < wr.heap.size → k ∉ s.foot → k ∉ s'.foot := fun k hk hn hm => by
    rcases hA.foot k hm with e | e
    · exact hn e
    · omega
  have hmem : ∀ (i : Nat) (r : PRow), rows[i]? = some r → r.g ∈ ng :: (pg.toList ++ rows.map (·.g)) := fun i r hr => by
    have := List.mem_of_getElem? hr
    simp only [List.mem_cons, List.mem_append, List.mem_map]
    exact Or.inr (Or.inr ⟨r, this, rfl⟩)
  refine ⟨hA.pb.trans h.pb, hA.pool, hA.good, fun k hk => ?_, h.same.step hA.same fun k hk hl => by have := h.foot k hk; omega, hA.same.at h.now (h.out ng (by simp)).2.2, ?_, fun i hi => ?_, fun k hm => ?_⟩
  · rcases hA.foot k hk with e | e
    · exact h.foot k e
    · omega
  · refine ⟨h.own.1, ?_⟩
    rcases h.own.2 with e | ⟨g, cap, cur, h1, h2, h3, h4⟩
    · exact Or.inl e
    · refine Or.inr ⟨g, cap, cur, h1, h2, ?_, h4⟩
      have hpg : pg = some g := by
        cases pg with
        | none => simp [adr] at h1
        | some x => simp [adr] at h1; rw [h1.1]
      have hg := h.out g (by rw [hpg]; simp)
      rw [hA.same.block g hg.2.1 hg.2.2]
      exact h3
  · obtain ⟨r, hr, hAt⟩ := h.row i hi
    exact ⟨r, hr, hA.same.at hAt (h.out _ (hmem i r hr)).2.2⟩
  · obtain ⟨o1, o2, o3⟩ := h.out k hm
    exact ⟨o1, by omega, hk k o2 o3⟩

theorem PastAt.go {w : World} {pb size ng : Nat} {wr w' : World} {s s' : St} {fr fr' : List Nat} {now : List Blk} {pasts : List (List Blk)} {pg : Option Nat} {pcap : Nat} {rows : List PRow} (h : PastAt w pb size ng wr s fr now pasts pg pcap rows) (hA : After wr s w' s' fr') (hI : PastInv s' fr' size now pasts) : PastAt w pb size ng w' s' fr' now pasts pg pcap rows := by
  obtain ⟨a1, a2, a3, a4, a5, a6, a7, a8, a9⟩ := h.next hA
  exact ⟨a1, a2, a3, hI, a4, a5, a6, a7, a8, a9, h.nd⟩
theorem PastAt.new {w : World} {pb size ng : Nat} {wr w' : World} {s : St} {fr : List Nat} {now : List Blk} {pasts : List (List Blk)} {pg : Option Nat} {pcap : Nat} {rows : List PRow} (h : PastAt w pb size ng wr s fr now pasts pg pcap rows) (hs : Same [] wr w') : PastAt w pb size ng w' s fr now pasts pg pcap rows :=
  h.go ((After.start h.pool h.good).new hs) h.inv

/-- The volume written, and 'now' too. -/
theorem PastAt.storeNow {w : World} {pb size ng : Nat} {wr w4 w5 : World} {s s' : St} {fr fr' : List Nat} {now now' : List Blk} {pasts : List (List Blk)} {pg : Option Nat} {pcap : Nat} {rows : List PRow} (h : PastAt w pb size ng wr s fr now pasts pg pcap rows) (hA : After wr s w4 s' fr') (hI : PastInv s' fr' size now' pasts)
    (hs : Same [ng] w4 w5) (a1 : At w5 ng 55 (flat now')) : PastAt w pb size ng w5 s' fr' now' pasts pg pcap rows := by
  obtain ⟨b1, b2, b3, b4, b5, b6, b7, b8, b9⟩ := h.next hA
  have hz := hs.size
  have hnd := h.nd
  rw [List.nodup_cons] at hnd
  have hn1 := b9 ng (by simp)
  refine ⟨b1, b2.same hs (fun k hk hm => by simp at hm; subst hm; exact hn1.2.2 hk), b3, hI, b4, b5.step hs (fun k hk hl => by simp at hk; omega), a1, ?_, fun i hi => ?_, fun k hm => ?_, h.nd⟩
  · refine ⟨b7.1, ?_⟩
    rcases b7.2 with e | ⟨g, cap, cur, h1, h2, h3, h4⟩
    · exact Or.inl e
    · refine Or.inr ⟨g, cap, cur, h1, h2, ?_, h4⟩
      have hpg : pg = some g := by
        cases pg with
        | none => simp [adr] at h1
        | some x => simp [adr] at h1; rw [h1.1]
      have hg := b9 g (by rw [hpg]; simp)
      rw [hs.block g hg.2.1 (fun hm => hnd.1 (by simp at hm; rw [← hm, hpg]; simp))]
      exact h3
  · obtain ⟨r, hr, hAt⟩ := b8 i hi
    have hmr : r.g ∈ rows.map (·.g) := List.mem_map_of_mem (List.mem_of_getElem? hr)
    exact ⟨r, hr, hs.at hAt (fun hm => hnd.1 (by simp only [List.mem_singleton] at hm; rw [← hm]; exact List.mem_append_right _ hmr))⟩
  · obtain ⟨o1, o2, o3⟩ := b9 k hm
    exact ⟨o1, by omega, o3⟩

/-- A picture written, and what Past holds of it too. -/
theorem PastAt.storePast {w : World} {pb size ng : Nat} {wr w4 w5 : World} {s s' : St} {fr fr' : List Nat} {now : List Blk} {pasts : List (List Blk)} {pg : Option Nat} {pcap : Nat} {rows : List PRow} (h : PastAt w pb size ng wr s fr now pasts pg pcap rows) (hA : After wr s w4 s' fr') (n : Nat) (r : PRow) (l : List Blk) (hn : n < pasts.length) (hr : rows[n]? = some r) (hI : PastInv s' fr' size now (pasts.set n l))
    (hs : Same [r.g] w4 w5) (a1 : At w5 r.g 55 (flat l ++ r.rest)) : PastAt w pb size ng w5 s' fr' now (pasts.set n l) pg pcap rows := by
  obtain ⟨b1, b2, b3, b4, b5, b6, b7, b8, b9⟩ := h.next hA
  have hz := hs.size
  have hnd := h.nd
  rw [List.nodup_cons, List.nodup_append] at hnd
  obtain ⟨d1, d2, d3, d4⟩ := hnd
  have hmr : r.g ∈ rows.map (·.g) := List.mem_map_of_mem (List.mem_of_getElem? hr)
  have hn1 := b9 r.g (by simp only [List.mem_cons, List.mem_append]; exact Or.inr (Or.inr hmr))
  have hll : (pasts.set n l).length = pasts.length := List.length_set ..
  refine ⟨b1, b2.same hs (fun k hk hm => by simp at hm; subst hm; exact hn1.2.2 hk), b3, hI, b4, b5.step hs (fun k hk hl => by simp at hk; omega), hs.at b6 (fun hm => d1 (by simp only [List.mem_singleton] at hm; rw [hm]; exact List.mem_append_right _ hmr)), ?_, fun i hi => ?_, fun k hm => ?_, h.nd⟩
  · rw [hll]
    refine ⟨b7.1, ?_⟩
    rcases b7.2 with e | ⟨g, cap, cur, h1, h2, h3, h4⟩
    · exact Or.inl e
    · refine Or.inr ⟨g, cap, cur, h1, h2, ?_, h4⟩
      have hpg : pg = some g := by
        cases pg with
        | none => simp [adr] at h1
        | some x => simp [adr] at h1; rw [h1.1]
      have hg := b9 g (by rw [hpg]; simp)
      rw [hs.block g hg.2.1 (fun hm => by simp only [List.mem_singleton] at hm; exact d4 g (by rw [hpg]; simp) r.g hmr hm)]
      exact h3
  · rw [hll] at hi
    rw [pasts_set _ hn hi]
    by_cases e : i = n
    · subst e
      rw [if_pos rfl]
      exact ⟨r, hr, a1⟩
    · rw [if_neg e]
      obtain ⟨r2, hr2, hAt⟩ := b8 i hi
      refine ⟨r2, hr2, hs.at hAt (fun hm => ?_)⟩
      simp only [List.mem_singleton] at hm
      obtain ⟨i1, i2⟩ := List.getElem?_eq_some_iff.1 hr2
      obtain ⟨j1, j2⟩ := List.getElem?_eq_some_iff.1 hr
      refine e ((List.getElem_inj (h₀ := by simpa using i1) (h₁ := by simpa using j1) d3).1 ?_)
      simp only [List.getElem_map, i2, j2, hm]
  · obtain ⟨o1, o2, o3⟩ := b9 k hm
    exact ⟨o1, by omega, o3⟩

/-- Eight cells of a row that has room behind its elements. -/
theorem At.set8r {w : World} {bb : Nat} {t : TypeId} {bl : List Blk} {rest : List Value} (h : At w bb t (flat bl ++ rest)) (k : Nat) (hk : k < bl.length) (x0 x1 x2 x3 x4 x5 x6 x7 : Int) :
    At ((((((((w.setCell ⟨bb, k * 8, none⟩ (.int .u8 x0)).setCell ⟨bb, k * 8 + 1, none⟩ (.int .u8 x1)).setCell ⟨bb, k * 8 + 2, none⟩ (.int .u8 x2)).setCell ⟨bb, k * 8 + 3, none⟩ (.int .u8 x3)).setCell ⟨bb, k * 8 + 4, none⟩ (.int .u8 x4)).setCell ⟨bb, k * 8 + 5, none⟩ (.int .u8 x5)).setCell ⟨bb, k * 8 + 6, none⟩ (.int .u8 x6)).setCell ⟨bb, k * 8 + 7, none⟩ (.int .u8 x7)) bb t (flat (bl.set k ⟨x0, x1, x2, x3, x4, x5, x6, x7⟩) ++ rest) ∧ Same [bb] w ((((((((w.setCell ⟨bb, k * 8, none⟩ (.int .u8 x0)).setCell ⟨bb, k * 8 + 1, none⟩ (.int .u8 x1)).setCell ⟨bb, k * 8 + 2, none⟩ (.int .u8 x2)).setCell ⟨bb, k * 8 + 3, none⟩ (.int .u8 x3)).setCell ⟨bb, k * 8 + 4, none⟩ (.int .u8 x4)).setCell ⟨bb, k * 8 + 5, none⟩ (.int .u8 x5)).setCell ⟨bb, k * 8 + 6, none⟩ (.int .u8 x6)).setCell ⟨bb, k * 8 + 7, none⟩ (.int .u8 x7)) := by
  refine ⟨?_, (((((((((Same.refl _ _).set bb _ _ (by simp)).set bb _ _ (by simp)).set bb _ _ (by simp)).set bb _ _ (by simp)).set bb _ _ (by simp)).set bb _ _ (by simp)).set bb _ _ (by simp)).set bb _ _ (by simp))⟩
  have e : ∀ (l : List Value) (j : Nat) (v : Value), j < l.length → (l ++ rest).set j v = l.set j v ++ rest := fun l j v hj => List.set_append_left j v hj
  have hl := flat_length bl
  have := ((((((((h.set_same (k * 8) (.int .u8 x0)).set_same (k * 8 + 1) (.int .u8 x1)).set_same (k * 8 + 2) (.int .u8 x2)).set_same (k * 8 + 3) (.int .u8 x3)).set_same (k * 8 + 4) (.int .u8 x4)).set_same (k * 8 + 5) (.int .u8 x5)).set_same (k * 8 + 6) (.int .u8 x6)).set_same (k * 8 + 7) (.int .u8 x7))
  rw [e _ _ _ (by omega), e _ _ _ (by simp only [List.length_set]; omega), e _ _ _ (by simp only [List.length_set]; omega), e _ _ _ (by simp only [List.length_set]; omega), e _ _ _ (by simp only [List.length_set]; omega), e _ _ _ (by simp only [List.length_set]; omega), e _ _ _ (by simp only [List.length_set]; omega), e _ _ _ (by simp only [List.length_set]; omega)] at this
  rw [← flat_set bl k _ hk]
  exact this

/-- A picture taken: a row for it, and one more in the list of rows. -/
theorem PastAt.add {w : World} {pb size ng : Nat} {wr w4 w5 w6 : World} {s s' : St} {fr fr' : List Nat} {now : List Blk} {pasts : List (List Blk)} {pg pg' : Option Nat} {pcap pcap' : Nat} {rows : List PRow} (r : PRow) (h : PastAt w pb size ng wr s fr now pasts pg pcap rows) (hA : After wr s w4 s' fr') (hI : PastInv s' fr' size now (pasts ++ [now]))
    (hs5 : Same [] w4 w5) (hr : w4.heap.size ≤ r.g) (hr5 : At w5 r.g 55 (flat now ++ r.rest)) (hs6 : Same pg.toList w5 w6) (hg : pg' = pg ∨ ∃ x, pg' = some x ∧ w5.heap.size ≤ x ∧ x < w6.heap.size)
    (hown : w6.ownsRow w.heap.size 52 1 (.slice (adr pg') (pasts.length + 1) pcap') (pasts.length + 1) (rows.map (PRow.val size) ++ [r.val size])) : PastAt w pb size ng w6 s' fr' now (pasts ++ [now]) pg' pcap' (rows ++ [r]) := by
  obtain ⟨b1, b2, b3, b4, b5, b6, b7, b8, b9⟩ := h.next hA
  have hz := b5.size
  have hz5 := hs5.size
  have hz6 := hs6.size
  have hlt := hr5.lt
  have hnd := h.nd
  rw [List.nodup_cons, List.nodup_append] at hnd
  obtain ⟨d1, d2, d3, d4⟩ := hnd
  have hpgo : ∀ k ∈ pg.toList, k < w4.heap.size ∧ k ∉ s'.foot ∧ w.heap.size ≤ k := fun k hk => by
    have := b9 k (by simp only [List.mem_cons, List.mem_append]; exact Or.inr (Or.inl hk))
    exact ⟨this.2.1, this.2.2, this.1⟩
  have hft := b2.foot_lt
  have hll : (pasts ++ [now]).length = pasts.length + 1 := by simp
  refine ⟨b1, (b2.new hs5).same hs6 (fun k hk hm => (hpgo k hm).2.1 hk), b3, hI, b4, (b5.step hs5 (by simp)).step hs6 (fun k hk hl => by have := hpgo k hk; omega), hs6.at (hs5.at b6 (by simp)) (fun hm => d1 (List.mem_append_left _ hm)), ?_, fun i hi => ?_, fun k hm => ?_, ?_⟩
  · rw [hll, List.map_append]; exact hown
  · rw [hll] at hi
    have hrl := h.rl
    by_cases e : i < pasts.length
    · obtain ⟨r2, hr2, hAt⟩ := b8 i e
      refine ⟨r2, by rw [List.getElem?_append_left (by omega)]; exact hr2, ?_⟩
      rw [show (pasts ++ [now])[i]! = pasts[i]! by rw [getElem!_pos _ i (by simp; omega), getElem!_pos pasts i e, List.getElem_append_left e]]
      have hmr : r2.g ∈ rows.map (·.g) := List.mem_map_of_mem (List.mem_of_getElem? hr2)
      exact hs6.at (hs5.at hAt (by simp)) (fun hm => d4 _ hm _ hmr rfl)
    · have e2 : i = pasts.length := by omega
      subst e2
      refine ⟨r, by rw [← hrl]; simp, ?_⟩
      rw [show (pasts ++ [now])[pasts.length]! = now by rw [getElem!_pos _ _ (by simp)]; simp]
      exact hs6.at hr5 (fun hm => by have := hpgo _ hm; omega)
  · rw [List.map_append] at hm
    simp only [List.mem_cons, List.mem_append, List.map_cons, List.map_nil, List.mem_singleton, List.not_mem_nil, or_false] at hm
    rcases hm with e | e | e | e
    · have := b9 k (by rw [e]; simp)
      exact ⟨this.1, by omega, this.2.2⟩
    · rcases hg with q | ⟨x, q, q1, q2⟩
      · rw [q] at e
        have := hpgo k e
        exact ⟨this.2.2, by omega, this.2.1⟩
      · rw [q] at e
        simp at e
        subst e
        exact ⟨by omega, q2, fun hm => by have := hft _ hm; omega⟩
    · have := b9 k (by simp only [List.mem_cons, List.mem_append]; exact Or.inr (Or.inr e))
      exact ⟨this.1, by omega, this.2.2⟩
    · subst e
      exact ⟨by omega, by omega, fun hm => by have := hft _ hm; omega⟩
  · have hlo : ∀ k ∈ ng :: (pg.toList ++ rows.map (·.g)), k < w4.heap.size := fun k hk => (b9 k hk).2.1
    have hrn : ∀ k ∈ rows.map (·.g), k < w4.heap.size := fun k hk => hlo k (by simp only [List.mem_cons, List.mem_append]; exact Or.inr (Or.inr hk))
    have hnl := hlo ng (by simp)
    have d1' : ng ∉ rows.map (·.g) := fun hm => d1 (List.mem_append_right _ hm)
    have key : (rows.map (·.g) ++ [r.g]).Nodup := List.nodup_append.2 ⟨d3, by simp, fun a ha b hb e => by simp at hb; subst hb; subst e; have := hrn _ ha; omega⟩
    rw [List.map_append]
    show (ng :: (pg'.toList ++ (rows.map (·.g) ++ [r.g]))).Nodup
    rcases hg with q | ⟨x, q, q1, q2⟩
    · rw [q]
      refine List.nodup_cons.2 ⟨fun hm => ?_, List.nodup_append.2 ⟨d2, key, fun a ha b hb e => ?_⟩⟩
      · rcases List.mem_append.1 hm with e | e
        · exact d1 (List.mem_append_left _ e)
        · rcases List.mem_append.1 e with e | e
          · exact d1' e
          · simp at e; omega
      · rcases List.mem_append.1 hb with e2 | e2
        · exact d4 a ha b e2 e
        · simp at e2; have := hpgo a ha; omega
    · rw [q]
      refine List.nodup_cons.2 ⟨fun hm => ?_, List.nodup_append.2 ⟨by simp, key, fun a ha b hb e => ?_⟩⟩
      · rcases List.mem_append.1 hm with e | e
        · simp at e; omega
        · rcases List.mem_append.1 e with e | e
          · exact d1' e
          · simp at e; omega
      · simp at ha
        rcases List.mem_append.1 hb with e2 | e2
        · have := hrn b e2; omega
        · simp at e2; omega
end Go.Proofs.Ytpddgdjocffgdaa
