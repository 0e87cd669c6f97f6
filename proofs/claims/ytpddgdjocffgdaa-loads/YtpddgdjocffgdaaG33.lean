/- Both sides of a call, side by side: what Create, Picture, Remove, Revert answer and leave. A Pool: Resize, by contracts: the same size, and a greater one. Both sides of a call, side by side: what Resize and Write answer and leave. A Pool of the program beside the document's: what both are in memory, and what a pair of calls leaves. -/
import Derived.Test.YtpddgdjocffgdaaG32
import Derived.Test.YtpddgdjocffgdaaG13
import Derived.Test.YtpddgdjocffgdaaG11
import Derived.Test.YtpddgdjocffgdaaG21
import Derived.Test.YtpddgdjocffgdaaG18
import Derived.Test.YtpddgdjocffgdaaG08
namespace Go.Proofs.Ytpddgdjocffgdaa
set_option linter.unusedVariables false
set_option linter.unusedSimpArgs false
set_option linter.unusedSectionVars false
section
open Go.RowKit Go.Sort
variable [DecidableEq Blk] [Inhabited Blk] [Inhabited Vol] [Inhabited RVol]
/-- The relation speaks of what a state holds, not of where it lies. -/
theorem Rel.eq {s s' : St} {r : RSt} (h : Rel s r) (hv : s'.vols = s.vols) (hb : s'.bl = s.bl) (hn : s'.n = s.n) : Rel s' r := by
  have ho : ∀ v, s'.orgOf v = s.orgOf v := fun v => by unfold St.orgOf St.volAt; rw [hv]
  refine ⟨h.n.trans hn.symm, by rw [hv]; exact h.len, fun i hi => ?_⟩
  rw [hv] at hi ⊢
  refine (h.each i hi).congr rfl Iff.rfl (by rw [ho]) (by unfold St.size; rw [ho]) rfl rfl rfl fun _ q _ => ?_
  unfold St.look St.holder; rw [ho, hb]
/-- Both answer the same number, and leave what is in relation. -/
structure Pair (w : World) (s : St) (fr : List Nat) (r : RSt) (fp : Nat) (ap : Array Value) (fq : Nat) (aq : Array Value) : Prop where
  ex : ∃ (c : Int) (P : St → List Nat → Prop), 0 ≤ c ∧ c ≤ 13 ∧
    Calls Try.prog fp ap w (fun e w1 => e = .returned (.int .i64 c) ∧ ∃ s' fr', After w s w1 s' fr' ∧ Spare s' ∧ P s' fr') ∧
    ∀ w1, RefAt w1 r → Calls Try.prog fq aq w1 (fun e w2 => e = .returned (.int .i64 c) ∧ ∃ r', RAfter w1 r w2 r' ∧ ∀ W s' fr', PoolAt W s' → Good s' fr' → P s' fr' → Rel s' r')
/-- Both refuse, or there is nothing to change. -/
theorem Pair.noD {w : World} {s : St} {fr : List Nat} {r : RSt} {fp : Nat} {ap : Array Value} {fq : Nat} {aq : Array Value} (c : Int) (hc : 0 ≤ c ∧ c ≤ 13) (hsp : Spare s) (hrel : Rel s r) (hnd : r.foot.Nodup)
    (h1 : Calls Try.prog fp ap w fun e w1 => e = .returned (.int .i64 c) ∧ ∃ d', After w s w1 { s with d := d' } fr) (h2 : ∀ w1, RefAt w1 r → Calls Try.prog fq aq w1 fun e w2 => e = .returned (.int .i64 c) ∧ Same [] w1 w2) : Pair w s fr r fp ap fq aq := by
  refine ⟨c, fun s' _ => s'.vols = s.vols ∧ s'.bl = s.bl ∧ s'.n = s.n, hc.1, hc.2, h1.mono ?_, fun w1 hR => (h2 w1 hR).mono ?_⟩
  · rintro e w1 ⟨rfl, d', hA⟩
    exact ⟨rfl, _, _, hA, hsp, rfl, rfl, rfl⟩
  · rintro e w2 ⟨rfl, hS⟩
    exact ⟨rfl, r, RAfter.still hR hnd hS, fun W s' fr' _ _ ⟨a, b, c⟩ => hrel.eq a b c⟩
theorem Pair.no {w : World} {s : St} {fr : List Nat} {r : RSt} {fp : Nat} {ap : Array Value} {fq : Nat} {aq : Array Value} (c : Int) (hc : 0 ≤ c ∧ c ≤ 13) (hP : PoolAt w s) (hG : Good s fr) (hsp : Spare s) (hrel : Rel s r) (hnd : r.foot.Nodup)
    (h1 : Calls Try.prog fp ap w fun e w1 => e = .returned (.int .i64 c) ∧ Same [] w w1) (h2 : ∀ w1, RefAt w1 r → Calls Try.prog fq aq w1 fun e w2 => e = .returned (.int .i64 c) ∧ Same [] w1 w2) : Pair w s fr r fp ap fq aq :=
  Pair.noD c hc hsp hrel hnd (h1.mono fun e w1 ⟨a, b⟩ => ⟨a, s.d, After.still hP hG b⟩) h2
theorem atC_none {w : World} {s : St} {r : RSt} (h : Rel s r) (hP : PoolAt w s) {t : ByteArray} (ht : s.has t = false) (k : Int) : r.atC t k = 4 := by
  unfold RSt.atC; rw [h.at_not hP ht]
theorem atC_has {w : World} {s : St} {r : RSt} (h : Rel s r) (hP : PoolAt w s) {t : ByteArray} (ht : s.has t = true) (k : Int) : r.atC t k = if (s.vol t).lost then 9 else if k < 0 ∨ (s.size (s.vol t) : Int) ≤ k then 1 else 0 := by
  unfold RSt.atC; rw [h.at_has hP ht]
  simp only
  have hrv := h.vol ht
  rw [hrv.lost, hrv.size]
/-- Both Pools in memory, in relation. -/
structure TwoAt (w : World) (s : St) (fr : List Nat) (r : RSt) : Prop where
  pool : PoolAt w s
  good : Good s fr
  spare : Spare s
  ref : RefAt w r
  nodup : r.foot.Nodup
  rel : Rel s r
  apart : ∀ k ∈ s.foot, k ∉ r.foot
structure BothAt (w : World) (bb : Nat) (s : St) (fr : List Nat) (r : RSt) : Prop where
  both : At w bb 30 [.pointer (some ⟨s.pb, 0, none⟩), .pointer (some ⟨r.rb, 0, none⟩)]
  two : TwoAt w s fr r
  out : bb ∉ s.foot ++ r.foot
theorem TwoAt.same {w w' : World} {s : St} {fr : List Nat} {r : RSt} (h : TwoAt w s fr r) {S : List Nat} (hs : Same S w w') (hd : ∀ k ∈ s.foot ++ r.foot, k ∉ S) : TwoAt w' s fr r :=
  ⟨h.pool.same hs (fun k hk => hd k (List.mem_append_left _ hk)), h.good, h.spare, h.ref.sameF hs (fun k hk => hd k (List.mem_append_right _ hk)), h.nodup, h.rel, h.apart⟩
theorem TwoAt.new {w w' : World} {s : St} {fr : List Nat} {r : RSt} (h : TwoAt w s fr r) (hs : Same [] w w') : TwoAt w' s fr r := h.same hs (by simp)
theorem BothAt.same {w w' : World} {bb : Nat} {s : St} {fr : List Nat} {r : RSt} (h : BothAt w bb s fr r) {S : List Nat} (hs : Same S w w') (hd : ∀ k ∈ bb :: (s.foot ++ r.foot), k ∉ S) : BothAt w' bb s fr r :=
  ⟨hs.at h.both (hd bb (by simp)), h.two.same hs (fun k hk => hd k (List.mem_cons_of_mem _ hk)), h.out⟩
theorem BothAt.new {w w' : World} {bb : Nat} {s : St} {fr : List Nat} {r : RSt} (h : BothAt w bb s fr r) (hs : Same [] w w') : BothAt w' bb s fr r := h.same hs (by simp)
theorem TwoAt.foot_lt {w : World} {s : St} {fr : List Nat} {r : RSt} (h : TwoAt w s fr r) : ∀ k ∈ s.foot ++ r.foot, k < w.heap.size := fun k hk => by
  rcases List.mem_append.1 hk with hk | hk
  · exact h.pool.foot_lt k hk
  · exact h.ref.foot_lt k hk
/-- What a call leaves of both. -/
structure BothNext (w : World) (bb : Nat) (s : St) (r : RSt) (w' : World) : Prop where
  ex : ∃ s' fr' r', BothAt w' bb s' fr' r' ∧ ∀ k ∈ s'.foot ++ r'.foot, k ∈ s.foot ++ r.foot ∨ w.heap.size ≤ k
  same : Same (s.foot ++ r.foot) w w'
theorem BothNext.still {w w' : World} {bb : Nat} {s : St} {fr : List Nat} {r : RSt} (h : BothAt w bb s fr r) (hs : Same [] w w') : BothNext w bb s r w' :=
  ⟨⟨s, fr, r, h.new hs, fun k hk => Or.inl hk⟩, hs.mono (by simp)⟩
theorem BothNext.old {w0 w w' : World} {bb : Nat} {s : St} {r : RSt} (h : BothNext w bb s r w') (h0 : Same [] w0 w) : BothNext w0 bb s r w' := by
  obtain ⟨⟨s', fr', r', a, b⟩, c⟩ := h
  have := h0.size
  exact ⟨⟨s', fr', r', a, fun k hk => (b k hk).imp id fun e => by omega⟩, (h0.mono (T := s.foot ++ r.foot) (by simp)).step c (fun k hk _ => hk)⟩
theorem BothAt.next {w w1 w2 : World} {bb : Nat} {s s' : St} {fr fr' : List Nat} {r r' : RSt} (h : BothAt w bb s fr r) (hA : After w s w1 s' fr') (hsp : Spare s') (hR : RAfter w1 r w2 r') (hrel : Rel s' r') : BothNext w bb s r w2 := by
  have hz1 := hA.same.size
  have hrl := h.two.ref.foot_lt
  have hsl' := hA.pool.foot_lt
  have hap : ∀ k ∈ s'.foot, k ∉ r.foot := fun k hk hr => by
    rcases hA.foot k hk with e | e
    · exact h.two.apart k e hr
    · have := hrl k hr; omega
  have P2 : PoolAt w2 s' := hA.pool.same hR.same hap
  have ap2 : ∀ k ∈ s'.foot, k ∉ r'.foot := fun k hk hr => by
    rcases hR.foot k hr with e | e
    · exact hap k hk e
    · have := hsl' k hk; omega
  have hbl := h.both.lt
  have hbs : bb ∉ s.foot := fun hm => h.out (List.mem_append_left _ hm)
  have hbr : bb ∉ r.foot := fun hm => h.out (List.mem_append_right _ hm)
  have hb2 := hR.same.at (hA.same.at h.both hbs) hbr
  rw [← hA.pb, ← hR.rb] at hb2
  refine ⟨⟨s', fr', r', ⟨hb2, ⟨P2, hA.good, hsp, hR.ref, hR.nodup, hrel, ap2⟩, fun hm => ?_⟩, fun k hk => ?_⟩, ?_⟩
  · rcases List.mem_append.1 hm with hm | hm
    · rcases hA.foot _ hm with e | e
      · exact hbs e
      · omega
    · rcases hR.foot _ hm with e | e
      · exact hbr e
      · omega
  · rcases List.mem_append.1 hk with hk | hk
    · exact (hA.foot k hk).imp (List.mem_append_left _) id
    · rcases hR.foot k hk with e | e
      · exact Or.inl (List.mem_append_right _ e)
      · exact Or.inr (by omega)
  · exact (hA.same.mono (T := s.foot ++ r.foot) (fun k hk _ => List.mem_append_left _ hk)).step hR.same (fun k hk _ => List.mem_append_right _ hk)
/-- What the reference finds while the program's call has been made. -/
theorem BothAt.mid {w w1 : World} {bb : Nat} {s s' : St} {fr fr' : List Nat} {r : RSt} (h : BothAt w bb s fr r) (hA : After w s w1 s' fr') : RefAt w1 r ∧ At w1 bb 30 [.pointer (some ⟨s.pb, 0, none⟩), .pointer (some ⟨r.rb, 0, none⟩)] :=
  ⟨h.two.ref.sameF hA.same (fun k hk hs => h.two.apart k hs hk), hA.same.at h.both (fun hm => h.out (List.mem_append_left _ hm))⟩
theorem num_int (c : Int) (w : World) (h0 : 0 ≤ c) (h : c ≤ 13) : Calls Try.prog 35 #[.int .i64 c] w fun e w' => e = .returned (.int .i64 c) ∧ w' = w := by
  obtain ⟨n, rfl⟩ : ∃ n : Nat, c = n := ⟨c.toNat, by omega⟩
  exact num_calls n w (by omega)
end
end Go.Proofs.Ytpddgdjocffgdaa
