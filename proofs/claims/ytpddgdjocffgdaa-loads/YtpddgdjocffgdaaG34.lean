/- The calls that answer an error alone, of both: by contracts. Read, List, Map of both, by contracts. Write of both, and one step, by contracts. Both begun; one step; everything asked: by contracts. -/
import Derived.Test.YtpddgdjocffgdaaG33
import Derived.Deep.RegionHeld3
namespace Go.Proofs.Ytpddgdjocffgdaa
set_option linter.unusedVariables false
set_option linter.unusedSimpArgs false
set_option linter.unusedSectionVars false
section
open Go.RowKit Go.Sort
variable [DecidableEq Blk] [Inhabited Blk] [Inhabited Vol] [Inhabited RVol]
theorem read_pair {w : World} {s : St} {fr : List Nat} {r : RSt} (h : TwoAt w s fr r) (t : ByteArray) (k : Int) : ∃ (c : Int) (x : Blk), 0 ≤ c ∧ c ≤ 13 ∧
    (Calls Try.prog 30 #[.pointer (some ⟨s.pb, 0, none⟩), .string t, .int .i64 k] w fun e w' => e = .returned (.tuple #[x.val, .int .i64 c]) ∧ Same [] w w') ∧
    (∀ W, RefAt W r → Calls Try.prog 86 #[.pointer (some ⟨r.rb, 0, none⟩), .string t, .int .i64 k] W fun e w' => e = .returned (.tuple #[.string x.text, .int .i64 c]) ∧ w' = W) := by
  have hP := h.pool
  have hG := h.good
  have hrel := h.rel
  by_cases h1 : s.has t = true
  case neg =>
    have h1' : s.has t = false := by simpa using h1
    have hc := atC_none hrel hP h1' k
    refine ⟨4, Blk.zero, by omega, by omega, read_err s t k 4 w (by decide) fun w' hS => findPlace_none s t k w' (hP.new hS) h1', fun W hR => ?_⟩
    have := refRead_none r t k W hR (by omega)
    rw [hc] at this
    exact this
  obtain ⟨hm, hnm, hp⟩ := St.has_mem h1
  have hra := hrel.at_has hP h1
  have hrv : RelV s (s.vol t) (r.vols[posOf s.names t]!) := hrel.vol h1
  have hac := atC_has hrel hP h1 k
  by_cases hl : (s.vol t).lost = true
  · rw [if_pos hl] at hac
    refine ⟨9, Blk.zero, by omega, by omega, read_err s t k 9 w (by decide) fun w' hS => findPlace_lost s t k w' (hP.new hS) h1 hl, fun W hR => ?_⟩
    have := refRead_none r t k W hR (by omega)
    rw [hac] at this
    exact this
  have hl' : (s.vol t).lost = false := by simpa using hl
  rw [if_neg hl] at hac
  by_cases hk : 0 ≤ k ∧ k < s.size (s.vol t)
  case neg =>
    rw [if_pos (by omega)] at hac
    refine ⟨1, Blk.zero, by omega, by omega, read_err s t k 1 w (by decide) fun w' hS => findPlace_out s t k w' (hP.new hS) h1 hl' hk, fun W hR => ?_⟩
    have := refRead_none r t k W hR (by omega)
    rw [hac] at this
    exact this
  obtain ⟨n, rfl⟩ : ∃ n : Nat, k = n := ⟨k.toNat, by omega⟩
  have hn : n < s.size (s.vol t) := by omega
  refine ⟨0, s.look (s.vol t) n, by omega, by omega, read_some s t n w hP h1 hl' hn (holder_lt hP hG hm hn), fun W hR => ?_⟩
  have := refRead_some r t n _ W hR hra (by rw [hrv.lost]; exact hl') (by rw [hrv.size]; exact hn)
  rw [hrv.data hl' n hn] at this
  exact this
set_option maxHeartbeats 1000000 in
set_option maxRecDepth 100000 in
theorem bread_calls (bb : Nat) (s : St) (fr : List Nat) (r : RSt) (w : World) (h : BothAt w bb s fr r) (t : ByteArray) (k : Int) :
    Calls Try.prog 45 #[.pointer (some ⟨bb, 0, none⟩), .string t, .int .i64 k] w fun e w' => e = .returned (.bool true) ∧ Same [] w w' := by
  obtain ⟨c, x, c0, c13, h1, h2⟩ := read_pair h.two t k
  have hnum := fun W => num_int c W c0 c13
  have htx := fun W => text_calls x W
  have d0 : w.cell? ⟨bb, 0, none⟩ = some (.pointer (some ⟨s.pb, 0, none⟩)) := h.both.cell? 0
  have HB : Hid (BothAt w bb s fr r) := h
  have H2 : Hid _ := h2
  generalize x.text = tx at *
  obtain ⟨x0, x1, x2, x3, x4, x5, x6, x7⟩ := x
  unfold Blk.val at h1 htx
  have hbeq : (tx.toList == tx.toList) = true := by simp
  clear h h2
  go_enter Try.func45, Try.ntmps45
  go_wp2_with (go_at_call 30; refine h1.mono ?_; rintro e w1 ⟨rfl, S1⟩; have S2 := S1.alloc (.cells #[.int .u8 x0, .int .u8 x1, .int .u8 x2, .int .u8 x3, .int .u8 x4, .int .u8 x5, .int .u8 x6, .int .u8 x7] 55); have e1 := (HB.out.new S2).both.cell? 1; simp only [List.getElem?_cons_succ, List.getElem?_cons_zero] at e1; have hr2 := H2.out _ (HB.out.new S2).two.ref)
  go_wp2_with (first | (go_at_call 86; refine hr2.mono ?_; rintro e w2 ⟨rfl, hw2⟩; obtain rfl := hw2.symm) | (go_at_call 35; refine (hnum _).mono ?_; rintro e w3 ⟨rfl, hw3⟩; obtain rfl := hw3.symm) | (go_at_call 87; refine (htx _).mono ?_; rintro e w4 ⟨rfl, S4⟩))
  go_ret
  exact ⟨by simp, S2.step S4 (by simp)⟩
theorem told_rel {s : St} {v : Vol} {x : RVol} (h : RelV s v x) (hn : v.org ≠ none → (s.orgOf v).name ≠ ⟨#[]⟩) (ho : v.org = none → s.orgOf v = v) : x.told = s.told v := by
  have e := h.of_
  by_cases hv : v.org = none
  · rw [if_pos hv] at e
    unfold RVol.told St.told
    rw [if_pos e, hv]
    simp only
    rw [h.name, h.size]
    unfold St.size
    rw [ho hv]
  · rw [if_neg hv] at e
    obtain ⟨b, hb⟩ := Option.ne_none_iff_exists'.1 hv
    unfold RVol.told St.told
    rw [if_neg (by rw [e]; exact hn hv), hb]
    simp only
    rw [h.name, h.size, e, h.blocks, h.kept, h.lost]
theorem toldAll_rel (s : St) : ∀ (a : List Vol) (b : List RVol), a.length = b.length → (∀ i, i < a.length → (b[i]!).told = s.told (a[i]!)) → rtoldAll b = s.toldAll a
  | [], [], _, _ => rfl
  | [], _ :: _, h, _ => by simp at h
  | _ :: _, [], h, _ => by simp at h
  | x :: a, y :: b, h, e => by
    have e0 := e 0 (by simp)
    have ih := toldAll_rel s a b (by simpa using h) (fun i hi => by simpa using e (i + 1) (by simpa using hi))
    simp only [List.getElem!_cons_zero] at e0
    rw [rtoldAll, St.toldAll, e0, ih]
theorem Rel.told {w : World} {s : St} {r : RSt} {fr : List Nat} (h : Rel s r) (hP : PoolAt w s) (hG : Good s fr) : rtoldAll r.vols = s.toldAll s.vols :=
  toldAll_rel s s.vols r.vols h.len.symm fun i hi => told_rel (h.each i hi) (fun _ => name_ne_nil hG (hP.orgOf (get_mem hi)).1) (hP.orgOf (get_mem hi)).2.2.1
/-- What is told of one, cell by cell. -/
theorem told_six (s : St) (v : Vol) : ∃ (nm of_ : ByteArray) (sz rm kp : Nat) (lo : Bool), s.told v = [.string nm, .int .i64 sz, .string of_, .int .i64 rm, .int .i64 kp, .bool lo] ∧ nm = v.name := by
  unfold St.told
  split
  · exact ⟨_, _, _, 0, 0, _, rfl, rfl⟩
  · exact ⟨_, _, _, _, _, _, rfl, rfl⟩
set_option maxHeartbeats 2000000 in
set_option maxRecDepth 100000 in
theorem listed_calls (bb : Nat) (s : St) (fr : List Nat) (r : RSt) (w : World) (h : BothAt w bb s fr r) :
    Calls Try.prog 42 #[.pointer (some ⟨bb, 0, none⟩)] w fun e w' => ∃ a, e = .returned (.tuple #[.slice a s.vols.length s.vols.length, .bool true]) ∧ Same [] w w' ∧
      (s.vols ≠ [] → ∃ g cs, a = some ⟨g, 0, none⟩ ∧ w.heap.size ≤ g ∧ At w' g 70 cs ∧ cs.take (s.vols.length * 6) = s.toldAll s.vols) := by
  have h1 := list_calls s w h.two.pool
  have h2 := fun W (hW : Same [] w W) => refList_calls r W (h.two.ref.same0 hW)
  have htd := h.two.rel.told h.two.pool h.two.good
  have hlen := h.two.rel.len
  have hfew := h.two.pool.few
  rw [htd, hlen] at h2
  have hnil : r.vols ≠ [] ↔ s.vols ≠ [] := by
    constructor <;> intro hn e <;> apply hn <;> apply List.eq_nil_of_length_eq_zero
    · rw [hlen, e]; rfl
    · rw [← hlen, e]; rfl
  have d0 : w.cell? ⟨bb, 0, none⟩ = some (.pointer (some ⟨s.pb, 0, none⟩)) := h.both.cell? 0
  have HB : Hid (BothAt w bb s fr r) := h
  have HTL : Hid (∀ i, i < s.vols.length → ∀ j, j < 6 → (s.toldAll s.vols)[i * 6 + j]? = (s.told (s.vols[i]!))[j]?) := fun i hi j hj => toldAll_get s s.vols i j hi hj
  have HSIX : Hid (∀ v, ∃ (nm of_ : ByteArray) (sz rm kp : Nat) (lo : Bool), s.told v = [.string nm, .int .i64 sz, .string of_, .int .i64 rm, .int .i64 kp, .bool lo] ∧ nm = v.name) := told_six s
  generalize s.toldAll s.vols = TL at *
  generalize hN : s.vols.length = N at *
  have HN0 : Hid (N ≠ 0 → s.vols ≠ []) := fun hn e => hn (by rw [← hN, e]; rfl)
  clear h htd hlen hN
  go_enter Try.func42, Try.ntmps42
  go_wp2_with (go_at_call 31; refine h1.mono ?_; rintro e w1 ⟨a1, rfl, S1, hl1⟩; have e1 := (HB.out.new S1).both.cell? 1; simp only [List.getElem?_cons_succ, List.getElem?_cons_zero] at e1)
  go_wp2_with (go_at_call 83; refine (h2 _ S1).mono ?_; rintro e w2 ⟨a2, c2, rfl, S2, hl2⟩)
  have S3 := S1.step S2 (by simp)
  have HL1 : Hid (s.vols ≠ [] → ∃ g cs, a1 = some ⟨g, 0, none⟩ ∧ w.heap.size ≤ g ∧ At w2 g 70 cs ∧ cs.take (N * 6) = TL) := fun hn => by
    obtain ⟨g, cs, q1, q2, q3, q4⟩ := hl1 hn
    exact ⟨g, cs, q1, q2, S2.at q3 (by simp), q4⟩
  have HL2 : Hid (s.vols ≠ [] → ∃ g cs, a2 = some ⟨g, 0, none⟩ ∧ w1.heap.size ≤ g ∧ At w2 g 70 cs ∧ cs.take (N * 6) = TL) := fun hn => hl2 (hnil.2 hn)
  clear h1 h2 hl1 hl2 hnil e1 d0
  go_loopw [6] (fun i wr => ∃ k : Nat, k ≤ N ∧ i = .int .i64 k ∧ Same [] w2 wr) (fun i _ => N - (intOf i).toNat)
  case atStart => exact ⟨0, Nat.zero_le _, rfl, Same.refl _ _⟩
  case round =>
    obtain ⟨k, hk, rfl, hS⟩ := hrel
    by_cases hkl : k < N
    · have hne := HN0.out (by omega)
      obtain ⟨g1, cs1, rfl, hg1, hA1, ht1⟩ := HL1.out hne
      obtain ⟨g2, cs2, rfl, hg2, hA2, ht2⟩ := HL2.out hne
      obtain ⟨nm, of_, sz, rm, kp, lo, h6, _⟩ := HSIX.out (s.vols[k]!)
      have B1 := hS.at hA1 (by simp)
      have B2 := hS.at hA2 (by simp)
      have key1 : ∀ j, j < 6 → wr.cell? ⟨g1, k * 6 + j, none⟩ = ([.string nm, .int .i64 sz, .string of_, .int .i64 rm, .int .i64 kp, .bool lo] : List Value)[j]? := fun j hj => by
        rw [B1.cell?, ← h6, ← HTL.out k hkl j hj, ← ht1, List.getElem?_take, if_pos (by omega)]
      have key2 : ∀ j, j < 6 → wr.cell? ⟨g2, k * 6 + j, none⟩ = ([.string nm, .int .i64 sz, .string of_, .int .i64 rm, .int .i64 kp, .bool lo] : List Value)[j]? := fun j hj => by
        rw [B2.cell?, ← h6, ← HTL.out k hkl j hj, ← ht2, List.getElem?_take, if_pos (by omega)]
      have a0 : wr.cell? ⟨g1, k * 6, none⟩ = some (.string nm) := key1 0 (by omega)
      have a1 : wr.cell? ⟨g1, k * 6 + 1, none⟩ = some (.int .i64 sz) := key1 1 (by omega)
      have a2 : wr.cell? ⟨g1, k * 6 + 2, none⟩ = some (.string of_) := key1 2 (by omega)
      have a3 : wr.cell? ⟨g1, k * 6 + 3, none⟩ = some (.int .i64 rm) := key1 3 (by omega)
      have a4 : wr.cell? ⟨g1, k * 6 + 4, none⟩ = some (.int .i64 kp) := key1 4 (by omega)
      have a5 : wr.cell? ⟨g1, k * 6 + 5, none⟩ = some (.bool lo) := key1 5 (by omega)
      have b0 : wr.cell? ⟨g2, k * 6, none⟩ = some (.string nm) := key2 0 (by omega)
      have b1 : wr.cell? ⟨g2, k * 6 + 1, none⟩ = some (.int .i64 sz) := key2 1 (by omega)
      have b2 : wr.cell? ⟨g2, k * 6 + 2, none⟩ = some (.string of_) := key2 2 (by omega)
      have b3 : wr.cell? ⟨g2, k * 6 + 3, none⟩ = some (.int .i64 rm) := key2 3 (by omega)
      have b4 : wr.cell? ⟨g2, k * 6 + 4, none⟩ = some (.int .i64 kp) := key2 4 (by omega)
      have b5 : wr.cell? ⟨g2, k * 6 + 5, none⟩ = some (.bool lo) := key2 5 (by omega)
      have lt2 : g2 < wr.heap.size := B2.lt
      have l1 : (k : Int) < (N : Int) := by omega
      have hb1 : (nm.toList == nm.toList) = true := by simp
      have hb2 : (of_.toList == of_.toList) = true := by simp
      clear key1 key2 B1 B2 hA1 hA2 ht1 ht2 h6
      go_wp2
      go_roundw
      case rel => exact ⟨k + 1, by omega, by go_num, (hS.alloc _).alloc _⟩
      case measure => simp [intOf]; omega
    · have ek : k = N := by omega
      subst ek
      have HE : Hid _ := S3.step hS (by simp)
      have HL : Hid (s.vols ≠ [] → ∃ g cs, a1 = some ⟨g, 0, none⟩ ∧ w.heap.size ≤ g ∧ At wr g 70 cs ∧ cs.take (k * 6) = TL) := fun hn => by
        obtain ⟨g, cs, q1, q2, q3, q4⟩ := HL1.out hn
        exact ⟨g, cs, q1, q2, hS.at q3 (by simp), q4⟩
      clear HL1 HL2 HTL HSIX hS S1 S2 S3
      go_wp2
      go_ret2
      exact ⟨_, rfl, HE.out, HL.out⟩
theorem RowAt.cell? {w : World} {g : Nat} {xs : List Nat} {cs : List Value} (h : RowAt w g xs cs) (i : Nat) (hi : i < xs.length) : w.cell? ⟨g, i, none⟩ = some (.int .i64 (xs[i]! : Nat)) := by
  rw [h.at_.cell?]; exact h.cell i hi
set_option maxHeartbeats 1000000 in
set_option maxRecDepth 100000 in
theorem mapped_some (bb : Nat) (s : St) (fr : List Nat) (r : RSt) (w : World) (h : BothAt w bb s fr r) (t : ByteArray) (ht : s.has t = true) :
    Calls Try.prog 44 #[.pointer (some ⟨bb, 0, none⟩), .string t] w fun e w' => ∃ g cs, e = .returned (.tuple #[.slice (some ⟨g, 0, none⟩) (s.vol t).xs.length (s.vol t).xs.length, .bool true]) ∧ w.heap.size ≤ g ∧ RowAt w' g (s.vol t).xs cs ∧ Same [] w w' := by
  have h1 := map_some s t w h.two.pool ht
  have hrv : RelV s (s.vol t) (r.vols[posOf s.names t]!) := h.two.rel.vol ht
  have hra := h.two.rel.at_has h.two.pool ht
  have h2 := fun W (hW : Same [] w W) => refMap_some r t _ W (h.two.ref.same0 hW) hra
  have hblk := hrv.blocks
  have hm := (St.has_mem ht).1
  have hxl : (s.vol t).xs.length ≤ 200 := by
    rw [← hblk]
    refine (h.two.ref.vols _ ?_).blocks
    exact getRv (by rw [h.two.rel.len]; exact (St.has_mem ht).2.2)
  rw [hblk] at h2
  generalize (r.vols[posOf s.names t]!).bg = bg at *
  have hnum := fun W => num_int 0 W (by omega) (by omega)
  have d0 : w.cell? ⟨bb, 0, none⟩ = some (.pointer (some ⟨s.pb, 0, none⟩)) := h.both.cell? 0
  have HB : Hid (BothAt w bb s fr r) := h
  generalize (s.vol t).xs = xs at *
  clear h hra hrv
  go_enter Try.func44, Try.ntmps44
  go_wp2_with (go_at_call 18; refine h1.mono ?_; rintro e w1 ⟨g, cs, rfl, hg, hR, S1⟩; have e1 := (HB.out.new S1).both.cell? 1; simp only [List.getElem?_cons_succ, List.getElem?_cons_zero] at e1)
  go_wp2_with (first | (go_at_call 85; refine (h2 _ S1).mono ?_; rintro e w2 ⟨bc, rfl, hN, hw1⟩; obtain rfl := hw1.symm) | (go_at_call 35; refine (hnum _).mono ?_; rintro e w3 ⟨rfl, hw1⟩; obtain rfl := hw1.symm))
  have HR : Hid (RowAt w1 g xs cs ∧ NumsAt w1 bg bc xs) := ⟨hR, hN⟩
  clear hR hN h1 h2 d0 e1
  go_loopw [10] (fun i wr => ∃ k : Nat, k ≤ xs.length ∧ i = .int .i64 k ∧ Same [] w1 wr) (fun i _ => xs.length - (intOf i).toNat)
  case atStart => exact ⟨0, Nat.zero_le _, rfl, Same.refl _ _⟩
  case round =>
    obtain ⟨k, hk, rfl, hS⟩ := hrel
    by_cases hkl : k < xs.length
    · have c1 := (HR.out.1.same hS (by simp)).cell? k hkl
      have c2 := (HR.out.2.same hS (by simp)).cell k hkl
      generalize xs[k]! = y at *
      have l1 : (k : Int) < (xs.length : Int) := by omega
      go_wp2
      go_region
      go_wp2
      go_roundw
      case rel => exact ⟨k + 1, by omega, by go_num, hS.drew⟩
      case measure => simp [intOf]; omega
    · have ek : k = xs.length := by omega
      subst ek
      have HE : Hid (∃ cs, RowAt wr g xs cs ∧ Same [] w wr) := ⟨cs, HR.out.1.same hS (by simp), S1.step hS (by simp)⟩
      clear HR hS
      go_wp2
      go_ret2
      obtain ⟨cs', q1, q2⟩ := HE.out
      exact ⟨g, cs', rfl, hg, q1, q2⟩
theorem free_same {w : World} {s : St} {fr : List Nat} {r : RSt} (h : TwoAt w s fr r) : (r.freeL r.n).length = s.m := by
  rw [h.rel.free h.good]; exact h.good.heap.len
theorem told_six2 {w : World} {s : St} {fr : List Nat} {r : RSt} (h : TwoAt w s fr r) (i : Nat) (hi : i < s.vols.length) : ∃ (nm of_ : ByteArray) (sz rm kp : Nat) (lo : Bool), s.told (s.vols[i]!) = [.string nm, .int .i64 sz, .string of_, .int .i64 rm, .int .i64 kp, .bool lo] ∧ nm = (s.vols[i]!).name ∧ sz ≤ 200 := by
  have e := told_rel (h.rel.each i hi) (fun _ => name_ne_nil h.good (h.pool.orgOf (get_mem hi)).1) (h.pool.orgOf (get_mem hi)).2.2.1
  have hd := (h.ref.vols _ (getRv (l := r.vols) (i := i) (by rw [h.rel.len]; exact hi))).data
  have hn := (h.rel.each i hi).name
  rw [← e, ← hn]
  unfold RVol.told
  split
  · exact ⟨_, _, _, 0, 0, _, rfl, rfl, hd⟩
  · exact ⟨_, _, _, _, _, _, rfl, rfl, hd⟩
set_option maxHeartbeats 2000000 in
set_option maxRecDepth 100000 in
theorem whole_calls (bb : Nat) (s : St) (fr : List Nat) (r : RSt) (w : World) (h : BothAt w bb s fr r) :
    Calls Try.prog 13 #[.pointer (some ⟨bb, 0, none⟩)] w fun e w' => e = .returned (.bool true) ∧ Same [] w w' := by
  have h1 := listed_calls bb s fr r w h
  have hnot := runNotR
  have hfew := h.two.pool.few
  have hF1 := fun W (hW : Same [] w W) => free_calls s W (h.two.pool.new hW)
  have hF2 := fun W (hW : Same [] w W) => refFreeN_calls r W (h.two.ref.same0 hW)
  rw [free_same h.two] at hF2
  have HB : Hid (BothAt w bb s fr r) := h
  have HHAS : Hid (∀ i, i < s.vols.length → s.has (s.vols[i]!).name = true) := fun i hi => by
    unfold St.has
    exact (isIn_iff h.two.pool.names_sorted _).2 (List.mem_map_of_mem (get_mem hi))
  have HTL : Hid (∀ i, i < s.vols.length → ∀ j, j < 6 → (s.toldAll s.vols)[i * 6 + j]? = (s.told (s.vols[i]!))[j]?) := fun i hi j hj => toldAll_get s s.vols i j hi hj
  have HSIX : Hid (∀ i, i < s.vols.length → ∃ (nm of_ : ByteArray) (sz rm kp : Nat) (lo : Bool), s.told (s.vols[i]!) = [.string nm, .int .i64 sz, .string of_, .int .i64 rm, .int .i64 kp, .bool lo] ∧ nm = (s.vols[i]!).name ∧ sz ≤ 200) := fun i hi => told_six2 h.two i hi
  generalize s.toldAll s.vols = TL at *
  generalize hN : s.vols.length = N at *
  have HN0 : Hid (N ≠ 0 → s.vols ≠ []) := fun hn e => hn (by rw [← hN, e]; rfl)
  clear h hN
  go_enter Try.func13, Try.ntmps13
  go_wp2_with (go_at_call 42; refine h1.mono ?_; rintro e w1 ⟨a1, rfl, S1, hl1⟩)
  have HK : Hid (∀ w', Same [] w1 w' → w'.cell? ⟨bb, 0, none⟩ = some (.pointer (some ⟨s.pb, 0, none⟩)) ∧ w'.cell? ⟨bb, 1, none⟩ = some (.pointer (some ⟨r.rb, 0, none⟩))) := fun w' hw => ⟨(HB.out.new (S1.step hw (by simp))).both.cell? 0, (HB.out.new (S1.step hw (by simp))).both.cell? 1⟩
  have hK1 := HK.out w1 (Same.refl _ _)
  go_region_held3 (fun w' => w'.cell? ⟨bb, 0, none⟩ = some (.pointer (some ⟨s.pb, 0, none⟩)) ∧ w'.cell? ⟨bb, 1, none⟩ = some (.pointer (some ⟨r.rb, 0, none⟩))) (first | assumption | exact hK1) (first | (go_at_call 23; refine (hF1 _ (S1.drew)).mono ?_; rintro e w2 ⟨rfl, hw⟩; obtain rfl := hw.symm) | (go_at_call 43; refine (hF2 _ (S1.drew)).mono ?_; rintro e w3 ⟨rfl, S3⟩; have hk3 := HK.out w3 (((Same.refl [] w1).drew).step S3 (by simp))))
  have S4 : Same [] w1 w3 := ((Same.refl [] w1).drew).step S3 (by simp)
  have HL1 : Hid (s.vols ≠ [] → ∃ g cs, a1 = some ⟨g, 0, none⟩ ∧ At w3 g 70 cs ∧ cs.take (N * 6) = TL) := fun hn => by
    obtain ⟨g, cs, q1, q2, q3, q4⟩ := hl1 hn
    exact ⟨g, cs, q1, S4.at q3 (by simp), q4⟩
  have S5 : Same [] w w3 := S1.step S4 (by simp)
  clear h1 hl1 hF1 hF2 hK1 hk3 S3
  go_wp2
  go_loopw [4, 5] (fun ok i wr => ∃ k : Nat, k ≤ N ∧ ok = .bool true ∧ i = .int .i64 k ∧ Same [] w3 wr) (fun _ i _ => N - (intOf i).toNat)
  case atStart => exact ⟨0, Nat.zero_le _, rfl, rfl, Same.refl _ _⟩
  case round =>
    obtain ⟨k, hk, rfl, rfl, hS⟩ := hrel
    by_cases hkl : k < N
    · have hne := HN0.out (by omega)
      obtain ⟨g1, cs1, rfl, hA1, ht1⟩ := HL1.out hne
      obtain ⟨nm, of_, sz, rm, kp, lo, h6, hnm, hsz⟩ := HSIX.out k hkl
      have key1 : ∀ W, Same [] w3 W → ∀ j, j < 6 → W.cell? ⟨g1, k * 6 + j, none⟩ = ([.string nm, .int .i64 sz, .string of_, .int .i64 rm, .int .i64 kp, .bool lo] : List Value)[j]? := fun W hW j hj => by
        rw [(hW.at hA1 (by simp)).cell?, ← h6, ← HTL.out k hkl j hj, ← ht1, List.getElem?_take, if_pos (by omega)]
      have HKY : Hid (∀ W, Same [] w3 W → W.cell? ⟨g1, k * 6, none⟩ = some (.string nm) ∧ W.cell? ⟨g1, k * 6 + 1, none⟩ = some (.int .i64 sz)) := fun W hW => ⟨key1 W hW 0 (by omega), key1 W hW 1 (by omega)⟩
      have hhas := HHAS.out k hkl
      rw [← hnm] at hhas
      have hM := mapped_some bb s fr r wr (HB.out.new (S5.step hS (by simp))) nm hhas
      obtain ⟨a0, a1⟩ := HKY.out wr hS
      have l1 : (k : Int) < (N : Int) := by omega
      clear key1 h6 hA1 ht1 hnm
      go_wp2_with (go_at_call 44; refine hM.mono ?_; rintro e w4 ⟨gm, csm, rfl, _, _, S6⟩)
      have S7 : Same [] w3 w4 := hS.step S6 (by simp)
      clear hM a0 a1
      go_loopw [4, 6] (fun ok i wi => ∃ q : Nat, q ≤ sz ∧ ok = .bool true ∧ i = .int .i64 q ∧ Same [] w3 wi) (fun _ i _ => sz - (intOf i).toNat)
      case atStart => exact ⟨0, Nat.zero_le _, rfl, rfl, S7⟩
      case round =>
        obtain ⟨q, hq, rfl, rfl, hSi⟩ := hrel
        obtain ⟨a0, a1⟩ := HKY.out wr hSi
        by_cases hql : q < sz
        · have hR := bread_calls bb s fr r wr (HB.out.new (S5.step hSi (by simp))) nm q
          have l2 : (q : Int) < (sz : Int) := by omega
          go_wp2_with (go_at_call 45; refine hR.mono ?_; rintro e w5 ⟨rfl, S8⟩)
          go_roundw
          case rel => exact ⟨q + 1, by omega, rfl, by go_num, hSi.step S8 (by simp)⟩
          case measure => simp [intOf]; omega
        · have eq : q = sz := by omega
          subst eq
          go_wp2_with fail
          go_roundw
          case rel => exact ⟨k + 1, by omega, rfl, by go_num, hSi⟩
          case measure => simp [intOf]; omega
    · have ek : k = N := by omega
      subst ek
      have HE : Hid _ := S5.step hS (by simp)
      clear HL1 HTL HSIX hS S1 S4 S5 HK
      go_wp2
      go_ret
      exact ⟨rfl, HE.out⟩
end
end Go.Proofs.Ytpddgdjocffgdaa
