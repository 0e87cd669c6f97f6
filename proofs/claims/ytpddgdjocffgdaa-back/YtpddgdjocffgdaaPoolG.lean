/- A Pool: findNew, add, by contracts. -/
import Derived.Test.YtpddgdjocffgdaaPoolF
namespace Go.Proofs.Ytpddgdjocffgdaa
open Go.RowKit Go.Sort
set_option linter.unusedVariables false
set_option linter.unusedSimpArgs false
set_option linter.unusedSectionVars false
variable [DecidableEq Blk] [Inhabited Blk]
variable [Inhabited Vol]

theorem made_plain (s : St) (w : World) (h : PoolAt w s) :
    Calls Try.prog 36 #[.pointer (some ⟨s.pb, 0, none⟩)] w fun e w' => e = .returned (.bool true) ∧ w' = w := made_calls s w h
theorem index_plain (s : St) (t : ByteArray) (w : World) (h : PoolAt w s) :
    Calls Try.prog 82 #[.pointer (some ⟨s.pb, 0, none⟩), .string t] w fun e w' => e = .returned (.tuple #[.int .i64 (posOf s.names t : Nat), .bool (isIn s.names t)]) ∧ w' = w := index_calls s t w h

theorem runNot (x : Bool) (w : World) : (Op.unary .not (.bool x)).run Try.prog w = .ok (.bool (!x)) w := rfl


set_option maxHeartbeats 400000 in
theorem findNew_name (s : St) (t : ByteArray) (w : World) (h : PoolAt w s) (ht : t.size ≤ maxLen) (hn : nameB t = false) :
    Calls Try.prog 50 #[.pointer (some ⟨s.pb, 0, none⟩), .string t] w fun e w' => e = .returned (.tuple #[.int .i64 0, .int .i64 2]) ∧ w' = w := by
  have hm := made_plain s w h
  have hI := isName_calls t w ht
  rw [hn] at hI
  have hnot := runNot
  clear h ht
  generalize posOf s.names t = po at *
  go_enter Try.func50, Try.ntmps50
  go_wp2_with (first | (go_at_call 36; refine hm.mono ?_; rintro e w' ⟨rfl, rfl⟩) | (go_at_call 91; refine hI.mono ?_; rintro e w' ⟨rfl, rfl⟩))
  go_ret2
  exact ⟨rfl, rfl⟩

set_option maxHeartbeats 400000 in
theorem findNew_exists (s : St) (t : ByteArray) (w : World) (h : PoolAt w s) (ht : t.size ≤ maxLen) (hn : nameB t = true) (hx : s.has t = true) :
    Calls Try.prog 50 #[.pointer (some ⟨s.pb, 0, none⟩), .string t] w fun e w' => e = .returned (.tuple #[.int .i64 0, .int .i64 3]) ∧ w' = w := by
  have hm := made_plain s w h
  have hI := isName_calls t w ht
  rw [hn] at hI
  have hX := index_plain s t w h
  unfold St.has at hx
  rw [hx] at hX
  have hnot := runNot
  clear h ht
  generalize posOf s.names t = po at *
  go_enter Try.func50, Try.ntmps50
  go_wp2_with (first | (go_at_call 36; refine hm.mono ?_; rintro e w' ⟨rfl, rfl⟩) | (go_at_call 91; refine hI.mono ?_; rintro e w' ⟨rfl, rfl⟩) | (go_at_call 82; refine hX.mono ?_; rintro e w' ⟨rfl, rfl⟩))
  go_ret2
  exact ⟨rfl, rfl⟩

set_option maxHeartbeats 400000 in
theorem findNew_ok (s : St) (t : ByteArray) (w : World) (h : PoolAt w s) (ht : t.size ≤ maxLen) (hn : nameB t = true) (hx : s.has t = false) :
    Calls Try.prog 50 #[.pointer (some ⟨s.pb, 0, none⟩), .string t] w fun e w' => e = .returned (.tuple #[.int .i64 (posOf s.names t : Nat), .int .i64 0]) ∧ w' = w := by
  have hm := made_plain s w h
  have hI := isName_calls t w ht
  rw [hn] at hI
  have hX := index_plain s t w h
  unfold St.has at hx
  rw [hx] at hX
  have hnot := runNot
  clear h ht
  generalize posOf s.names t = po at *
  go_enter Try.func50, Try.ntmps50
  go_wp2_with (first | (go_at_call 36; refine hm.mono ?_; rintro e w' ⟨rfl, rfl⟩) | (go_at_call 91; refine hI.mono ?_; rintro e w' ⟨rfl, rfl⟩) | (go_at_call 82; refine hX.mono ?_; rintro e w' ⟨rfl, rfl⟩))
  go_ret2
  exact ⟨rfl, rfl⟩

theorem Good.all {s : St} {fr : List Nat} (h : Good s fr) : popsL s.m s.m s.d = fr.map (fun x : Nat => (x : Int)) := by
  have := (h.heap.pops s.m (Nat.le_refl _)).1
  rw [this, List.take_of_length_le (by rw [h.heap.len]; exact Nat.le_refl _)]

/-- Taken and given back: the same free blocks. -/
theorem Good.back {s : St} {fr : List Nat} (h : Good s fr) : HeapIs s.m (giveD 0 fr (popsD s.m s.m s.d)) fr := by
  have h1 := (h.heap.pops s.m (Nat.le_refl _)).2
  rw [Nat.sub_self, List.drop_of_length_le (by rw [h.heap.len]; exact Nat.le_refl _)] at h1
  have hnd : fr.Nodup := (List.nodup_append.1 h.nodup).1
  have h2 := HeapIs.gives fr h1 hnd (by simp) (by rw [popsD_size, Nat.zero_add, h.heap.len]; exact h.heap.size)
  rw [Nat.zero_add, h.heap.len] at h2
  have e : insAll fr [] = fr := sorted_ext _ _ h2.sorted h.heap.sorted (fun z => by rw [insAll_mem]; simp)
  rw [e] at h2
  exact h2

theorem PoolAt.withDisk {w w' : World} {s : St} (h : PoolAt w s) {S : List Nat} (hs : Same S w w') (hS : ∀ k ∈ S, k = s.db ∨ k = s.bb ∨ k = s.fb ∨ k ∉ s.foot) {m' : Nat} {bl' : List Blk} {d' : Array Int} (hd : DiskAt w' s.db s.bb s.fb s.n m' bl' d') : PoolAt w' { s with m := m', bl := bl', d := d' } := by
  have hap := apart_of h.nodup
  obtain ⟨cap, hp, h1, h2⟩ := h.pool
  have hne : ∀ k, k ∈ s.foot → k ∉ [s.db, s.bb, s.fb] → k ∉ S := fun k hk hd hm => by
    simp only [List.mem_cons, List.not_mem_nil, or_false, not_or] at hd
    rcases hS k hm with e | e | e | e
    · exact hd.1 e
    · exact hd.2.1 e
    · exact hd.2.2 e
    · exact e hk
  refine ⟨⟨cap, hs.at hp (hne _ s.foot_pb ?_), h1, h2⟩, fun b hb => ?_, hd, fun v hv => ?_, h.nodup, h.few, h.sorted, h.orgs⟩
  · have := hap.pb
    simp only [List.mem_cons, not_or, List.not_mem_nil, not_false_eq_true, and_true] at this ⊢
    exact ⟨this.1, this.2.1, this.2.2.1⟩
  · obtain ⟨cs, hc, h3⟩ := h.arr b hb
    have hb' : s.ab = some b := hb
    have q1 := hap.db
    have q2 := hap.bb
    have q3 := hap.fb
    simp only [hb', Option.toList_some, List.singleton_append, List.mem_cons, not_or] at q1 q2 q3
    refine ⟨cs, hs.at hc (hne b (s.foot_ab hb') ?_), h3⟩
    simp only [List.mem_cons, not_or, List.not_mem_nil, not_false_eq_true, and_true]
    exact ⟨fun e => q1.2.2.1 e.symm, fun e => q2.2.1 e.symm, fun e => q3.1 e.symm⟩
  · refine (h.vols v hv).same hs (fun k hk => hne k (s.foot_vol hv hk) ?_)
    have := hap.disk v hv k hk
    simp only [List.mem_cons, not_or, List.not_mem_nil, not_false_eq_true, and_true] at this ⊢
    exact ⟨this.2.1, this.2.2.1, this.2.2.2⟩

set_option maxHeartbeats 400000 in
theorem add_many (s : St) (i k : Int) (vb : Nat) (w : World) (h : PoolAt w s) (hv : 20 ≤ s.vols.length) :
    Calls Try.prog 52 #[.pointer (some ⟨s.pb, 0, none⟩), .int .i64 i, .pointer (some ⟨vb, 0, none⟩), .int .i64 k] w fun e w' => e = .returned (.int .i64 5) ∧ w' = w := by
  obtain ⟨cap, hp, _, _⟩ := h.pool
  have c2 : w.cell? ⟨s.pb, 2, none⟩ = some (.slice (s.ab.map fun b => ⟨b, 0, none⟩) s.vols.length cap) := hp.cell? 2
  have hf := h.few
  clear h hp
  go_enter Try.func52, Try.ntmps52
  go_wp2
  go_ret
  exact ⟨rfl, rfl⟩

set_option maxHeartbeats 1000000 in
theorem add_full (s : St) (fr : List Nat) (i : Int) (k vb : Nat) (w : World) (h : PoolAt w s) (hG : Good s fr) (hk : 1 ≤ k ∧ k ≤ 200) (hv : s.vols.length < 20) (hf : fr.length < k) :
    Calls Try.prog 52 #[.pointer (some ⟨s.pb, 0, none⟩), .int .i64 i, .pointer (some ⟨vb, 0, none⟩), .int .i64 k] w fun e w' => e = .returned (.int .i64 6) ∧ ∃ d', After w s w' { s with d := d' } fr := by
  have hT := take_calls s.db s.bb s.fb s.n s.m k s.bl s.d fr w _ _ rfl rfl (by omega) h.disk hG.all hG.lt.1
  obtain ⟨cap, hp, _, _⟩ := h.pool
  have c1 : w.cell? ⟨s.pb, 1, none⟩ = some (.pointer (some ⟨s.db, 0, none⟩)) := hp.cell? 1
  have c2 : w.cell? ⟨s.pb, 2, none⟩ = some (.slice (s.ab.map fun b => ⟨b, 0, none⟩) s.vols.length cap) := hp.cell? 2
  have H : Hid (PoolAt w s ∧ Good s fr) := ⟨h, hG⟩
  have hml := hG.heap.len
  clear h hG hp
  have l0 : (s.vols.length : Int) < 20 := by omega
  go_enter Try.func52, Try.ntmps52
  go_wp2_with fail
  refine hT.mono ?_
  rintro e w1 (⟨h1, _⟩ | ⟨_, rfl, hD, hS⟩)
  · omega
  go_wp2
  go_ret
  obtain ⟨h, hG⟩ := H.out
  have e0 : giveB fr s.bl = s.bl := giveB_zero fr s.bl fun x hx => ⟨by rw [h.disk.len]; exact hG.lt.1 x hx, hG.zero x hx⟩
  rw [e0] at hD
  refine ⟨rfl, _, ⟨h.withDisk hS (by intro k hk; simp at hk; rcases hk with e | e | e <;> simp [e]) hD, ⟨hG.back, hG.parts, hG.zero, hG.names, hG.pics⟩, hS.mono (by simp [St.foot]), fun k hk => Or.inl hk, rfl, rfl⟩⟩
end Go.Proofs.Ytpddgdjocffgdaa
