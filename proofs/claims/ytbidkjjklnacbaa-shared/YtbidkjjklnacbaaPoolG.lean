/- A Pool: Create, by contracts. -/
import Derived.Test.YtbidkjjklnacbaaPoolF
namespace Go.Proofs.Ytbidkjjklnacbaa
open Go.RowKit Go.Sort
set_option linter.unusedVariables false
set_option linter.unusedSimpArgs false
set_option linter.unusedSectionVars false
variable [DecidableEq Blk] [Inhabited Blk]
variable [Inhabited Vol]

theorem made_plain (s : St) (w : World) (h : PoolAt w s) :
    Calls Try.prog 25 #[.pointer (some ⟨s.pb, 0, none⟩)] w fun e w' => e = .returned (.bool true) ∧ w' = w := made_calls s w h
theorem index_plain (s : St) (t : ByteArray) (w : World) (h : PoolAt w s) :
    Calls Try.prog 27 #[.pointer (some ⟨s.pb, 0, none⟩), .string t] w fun e w' => e = .returned (.tuple #[.int .i64 (posOf s.names t : Nat), .bool (isIn s.names t)]) ∧ w' = w := index_calls s t w h

theorem runNot (x : Bool) (w : World) : (Op.unary .not (.bool x)).run Try.prog w = .ok (.bool (!x)) w := rfl

set_option maxHeartbeats 400000 in
theorem create_name (s : St) (t : ByteArray) (k : Int) (w : World) (h : PoolAt w s) (ht : t.size ≤ maxLen) (hn : nameB t = false) :
    Calls Try.prog 10 #[.pointer (some ⟨s.pb, 0, none⟩), .string t, .int .i64 k] w fun e w' => e = .returned (.int .i64 2) ∧ w' = w := by
  have hm := made_plain s w h
  have hI := isName_calls t w ht
  rw [hn] at hI
  have hnot := runNot
  clear h ht
  go_enter Try.func10, Try.ntmps10
  go_wp2_with (first | (go_at_call 25; refine hm.mono ?_; rintro e w' ⟨rfl, rfl⟩) | (go_at_call 26; refine hI.mono ?_; rintro e w' ⟨rfl, rfl⟩))
  go_ret
  exact ⟨rfl, rfl⟩

set_option maxHeartbeats 400000 in
theorem create_exists (s : St) (t : ByteArray) (k : Int) (w : World) (h : PoolAt w s) (ht : t.size ≤ maxLen) (hn : nameB t = true) (hx : s.has t = true) :
    Calls Try.prog 10 #[.pointer (some ⟨s.pb, 0, none⟩), .string t, .int .i64 k] w fun e w' => e = .returned (.int .i64 3) ∧ w' = w := by
  have hm := made_plain s w h
  have hI := isName_calls t w ht
  rw [hn] at hI
  have hX := index_plain s t w h
  unfold St.has at hx
  rw [hx] at hX
  have hnot := runNot
  clear h ht
  generalize posOf s.names t = po at *
  go_enter Try.func10, Try.ntmps10
  go_wp2_with (first | (go_at_call 25; refine hm.mono ?_; rintro e w' ⟨rfl, rfl⟩) | (go_at_call 26; refine hI.mono ?_; rintro e w' ⟨rfl, rfl⟩) | (go_at_call 27; refine hX.mono ?_; rintro e w' ⟨rfl, rfl⟩))
  go_ret
  exact ⟨rfl, rfl⟩

set_option maxHeartbeats 400000 in
theorem create_arg (s : St) (t : ByteArray) (k : Int) (w : World) (h : PoolAt w s) (ht : t.size ≤ maxLen) (hn : nameB t = true) (hx : s.has t = false) (hk : ¬ (1 ≤ k ∧ k ≤ 200)) :
    Calls Try.prog 10 #[.pointer (some ⟨s.pb, 0, none⟩), .string t, .int .i64 k] w fun e w' => e = .returned (.int .i64 1) ∧ w' = w := by
  have hm := made_plain s w h
  have hI := isName_calls t w ht
  rw [hn] at hI
  have hX := index_plain s t w h
  unfold St.has at hx
  rw [hx] at hX
  have hC := isCount_calls k w
  rw [decide_eq_false hk] at hC
  have hnot := runNot
  clear h ht hk
  generalize posOf s.names t = po at *
  go_enter Try.func10, Try.ntmps10
  go_wp2_with (first | (go_at_call 25; refine hm.mono ?_; rintro e w' ⟨rfl, rfl⟩) | (go_at_call 26; refine hI.mono ?_; rintro e w' ⟨rfl, rfl⟩) | (go_at_call 27; refine hX.mono ?_; rintro e w' ⟨rfl, rfl⟩) | (go_at_call 28; refine hC.mono ?_; rintro e w' ⟨rfl, rfl⟩))
  go_ret
  exact ⟨rfl, rfl⟩

set_option maxHeartbeats 400000 in
theorem create_many (s : St) (t : ByteArray) (k : Int) (w : World) (h : PoolAt w s) (ht : t.size ≤ maxLen) (hn : nameB t = true) (hx : s.has t = false) (hk : 1 ≤ k ∧ k ≤ 200) (hv : 20 ≤ s.vols.length) :
    Calls Try.prog 10 #[.pointer (some ⟨s.pb, 0, none⟩), .string t, .int .i64 k] w fun e w' => e = .returned (.int .i64 5) ∧ w' = w := by
  have hm := made_plain s w h
  have hI := isName_calls t w ht
  rw [hn] at hI
  have hX := index_plain s t w h
  unfold St.has at hx
  rw [hx] at hX
  have hC := isCount_calls k w
  rw [decide_eq_true hk] at hC
  have hnot := runNot
  obtain ⟨cap, hp, _, _⟩ := h.pool
  have c2 : w.cell? ⟨s.pb, 2, none⟩ = some (.slice (s.ab.map fun b => ⟨b, 0, none⟩) s.vols.length cap) := hp.cell? 2
  have hf := h.few
  clear h ht hk hp
  generalize posOf s.names t = po at *
  go_enter Try.func10, Try.ntmps10
  go_wp2_with (first | (go_at_call 25; refine hm.mono ?_; rintro e w' ⟨rfl, rfl⟩) | (go_at_call 26; refine hI.mono ?_; rintro e w' ⟨rfl, rfl⟩) | (go_at_call 27; refine hX.mono ?_; rintro e w' ⟨rfl, rfl⟩) | (go_at_call 28; refine hC.mono ?_; rintro e w' ⟨rfl, rfl⟩))
  go_ret
  exact ⟨rfl, rfl⟩

theorem Good.all {s : St} {fr : List Nat} (h : Good s fr) : popsL s.m s.m s.d = fr.map (fun x : Nat => (x : Int)) := by
  have := (h.heap.pops s.m (Nat.le_refl _)).1
  rw [this, List.take_of_length_le (by rw [h.heap.len]; exact Nat.le_refl _)]

/-- Taken and given back: the same free blocks. -/
theorem Good.back {s : St} {fr : List Nat} (h : Good s fr) : HeapIs s.m (giveD 0 fr (popsD s.m s.m s.d)) fr := by
  have h1 := (h.heap.pops s.m (Nat.le_refl _)).2
  rw [Nat.sub_self, List.drop_of_length_le (by rw [h.heap.len]; exact Nat.le_refl _)] at h1
  have hnd : fr.Nodup := (List.nodup_append.1 h.nodup).1
  have h2 := HeapIs.gives fr h1 hnd (by simp) (by rw [popsD_size, Nat.zero_add, h.heap.len]; exact h.heap.size)
  rw [Nat.zero_add, h.heap.len] at h2
  have e : insAll fr [] = fr := sorted_ext _ _ h2.sorted h.heap.sorted (fun z => by rw [insAll_mem]; simp)
  rw [e] at h2
  exact h2

theorem PoolAt.withDisk {w w' : World} {s : St} (h : PoolAt w s) {S : List Nat} (hs : Same S w w') (hS : ∀ k ∈ S, k = s.db ∨ k = s.bb ∨ k = s.fb ∨ w.heap.size ≤ k) {m' : Nat} {bl' : List Blk} {d' : Array Int} (hd : DiskAt w' s.db s.bb s.fb s.n m' bl' d') : PoolAt w' { s with m := m', bl := bl', d := d' } := by
  have hnd := h.nodup
  have hlt := h.foot_lt
  simp only [St.foot, List.nodup_cons, List.mem_cons, List.mem_append, not_or] at hnd
  obtain ⟨⟨p1, p2, p3, p4⟩, ⟨q2, q3, q4⟩, ⟨r3, r4⟩, ⟨t4, hnd⟩⟩ := hnd
  have hne : ∀ k, k ∈ s.foot → k ≠ s.db → k ≠ s.bb → k ≠ s.fb → k ∉ S := fun k hk a b c hm => by
    rcases hS k hm with e | e | e | e
    · exact a e
    · exact b e
    · exact c e
    · have := hlt k hk; omega
  obtain ⟨cap, hp, h1, h2⟩ := h.pool
  refine ⟨⟨cap, hs.at hp (hne _ (by simp [St.foot]) p1 p2 p3), h1, h2⟩, fun b hb => ?_, hd, fun v hv => ?_, h.nodup, h.few, h.sorted⟩
  · obtain ⟨cs, hc, h3⟩ := h.arr b hb
    have hbf : b ∈ s.ab.toList := by simp [show s.ab = some b from hb]
    refine ⟨cs, hs.at hc (hne b (by simp [St.foot, show s.ab = some b from hb]) (fun e => q4.1 (e ▸ hbf)) (fun e => r4.1 (e ▸ hbf)) (fun e => t4.1 (e ▸ hbf))), h3⟩
  · have m1 : v.vb ∈ s.vols.map (·.vb) := List.mem_map_of_mem hv
    have m2 : v.gb ∈ s.vols.map (·.gb) := List.mem_map_of_mem hv
    refine (h.vols v hv).same hs (hne _ ?_ (fun e => q4.2.1 (e ▸ m1)) (fun e => r4.2.1 (e ▸ m1)) (fun e => t4.2.1 (e ▸ m1))) (hne _ ?_ (fun e => q4.2.2 (e ▸ m2)) (fun e => r4.2.2 (e ▸ m2)) (fun e => t4.2.2 (e ▸ m2)))
    · simp only [St.foot, List.mem_cons, List.mem_append]; exact Or.inr (Or.inr (Or.inr (Or.inr (Or.inr (Or.inl m1)))))
    · simp only [St.foot, List.mem_cons, List.mem_append]; exact Or.inr (Or.inr (Or.inr (Or.inr (Or.inr (Or.inr m2)))))

set_option maxHeartbeats 1000000 in
theorem create_full (s : St) (fr : List Nat) (t : ByteArray) (k : Nat) (w : World) (h : PoolAt w s) (hG : Good s fr) (ht : t.size ≤ maxLen) (hn : nameB t = true) (hx : s.has t = false) (hk : 1 ≤ k ∧ k ≤ 200) (hv : s.vols.length < 20) (hf : fr.length < k) :
    Calls Try.prog 10 #[.pointer (some ⟨s.pb, 0, none⟩), .string t, .int .i64 k] w fun e w' => e = .returned (.int .i64 6) ∧ ∃ d', After w s w' { s with d := d' } fr := by
  have hm := made_plain s w h
  have hI := isName_calls t w ht
  rw [hn] at hI
  have hX := index_plain s t w h
  unfold St.has at hx
  rw [hx] at hX
  have hC := isCount_calls k w
  rw [decide_eq_true (by omega : (1 : Int) ≤ k ∧ (k : Int) ≤ 200)] at hC
  have hT := take_calls s.db s.bb s.fb s.n s.m k s.bl s.d fr w _ _ rfl rfl (by omega) h.disk hG.all hG.lt.1
  have hnot := runNot
  obtain ⟨cap, hp, _, _⟩ := h.pool
  have c1 : w.cell? ⟨s.pb, 1, none⟩ = some (.pointer (some ⟨s.db, 0, none⟩)) := hp.cell? 1
  have c2 : w.cell? ⟨s.pb, 2, none⟩ = some (.slice (s.ab.map fun b => ⟨b, 0, none⟩) s.vols.length cap) := hp.cell? 2
  have H : Hid (PoolAt w s ∧ Good s fr) := ⟨h, hG⟩
  have hml := hG.heap.len
  clear h hG ht hp
  generalize posOf s.names t = po at *
  have l0 : (s.vols.length : Int) < 20 := by omega
  go_enter Try.func10, Try.ntmps10
  go_wp2_with (first | (go_at_call 25; refine hm.mono ?_; rintro e w' ⟨rfl, rfl⟩) | (go_at_call 26; refine hI.mono ?_; rintro e w' ⟨rfl, rfl⟩) | (go_at_call 27; refine hX.mono ?_; rintro e w' ⟨rfl, rfl⟩) | (go_at_call 28; refine hC.mono ?_; rintro e w' ⟨rfl, rfl⟩))
  refine hT.mono ?_
  rintro e w1 (⟨h1, _⟩ | ⟨_, rfl, hD, hS⟩)
  · omega
  go_wp2
  go_ret
  obtain ⟨h, hG⟩ := H.out
  have e0 : giveB fr s.bl = s.bl := giveB_zero fr s.bl fun x hx => ⟨by rw [h.disk.len]; exact hG.lt.1 x hx, hG.zero x hx⟩
  rw [e0] at hD
  refine ⟨rfl, _, ⟨h.withDisk hS (by simp) hD, ⟨hG.back, hG.parts, hG.zero, hG.names⟩, hS.mono (by simp [St.foot]), fun k hk => Or.inl hk, rfl, rfl⟩⟩
end Go.Proofs.Ytbidkjjklnacbaa
