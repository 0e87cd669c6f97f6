/- The disk: Take, by a contract. -/
import Derived.Test.YtpddgdjocffgdaaDiskB
namespace Go.Proofs.Ytpddgdjocffgdaa
open Go.RowKit Go.Sort
set_option linter.unusedVariables false
set_option linter.unusedSimpArgs false
set_option linter.unusedSectionVars false
variable [DecidableEq Blk] [Inhabited Blk]

/-- What k pops off a heap of m leave, and hand out. -/
def popsD (m : Nat) : Nat → Array Int → Array Int
  | 0, d => d
  | k + 1, d => popD (m - k - 1) (popsD m k d)
def popsL (m : Nat) : Nat → Array Int → List Int
  | 0, _ => []
  | k + 1, d => popsL m k d ++ [(popsD m k d)[0]!]
theorem popsD_size (m k : Nat) (d : Array Int) : (popsD m k d).size = d.size := by
  induction k with
  | zero => rfl
  | succ k ih => simp [popsD, popD_size, ih]
theorem popsL_length (m k : Nat) (d : Array Int) : (popsL m k d).length = k := by
  induction k with
  | zero => rfl
  | succ k ih => simp [popsL, ih]

set_option maxHeartbeats 400000 in
theorem take1_idle (wb xb tb : Nat) (t : TypeId) (u : FrameMode) (w : World) (h : At w wb t [.bool true]) :
    CallsD Try.prog 96 #[.pointer (some ⟨wb, 0, none⟩), .pointer (some ⟨xb, 0, none⟩), .pointer (some ⟨tb, 0, none⟩)] u w fun e u' w' => u' = u ∧ (e = .returned (.tuple #[]) ∧ w' = w) := by
  have c : w.cell? ⟨wb, 0, none⟩ = some (.bool true) := h.cell? 0
  clear h
  go_enter_d Try.func96, Try.ntmps96
  go_wp2
  go_end0
  exact ⟨rfl, rfl⟩

set_option maxHeartbeats 400000 in
theorem take1_back (wb xb tb db bb fb n m sb so cap : Nat) (t1 t2 t3 t4 : TypeId) (bl : List Blk) (d : Array Int) (xs : List Nat) (a : Option Addr) (cs : List Value) (u : FrameMode) (w : World)
    (h1 : At w wb t1 [.bool false]) (h2 : At w xb t2 [.pointer (some ⟨db, 0, none⟩)]) (h3 : At w tb t3 [.slice a xs.length cap]) (hn : tb ∉ [db, bb, fb])
    (hD : DiskAt w db bb fb n m bl d) (hx : xs ≠ [] → a = some ⟨sb, so, none⟩ ∧ At w sb t4 cs ∧ sb ∉ [db, bb, fb]) (hc : ∀ j, j < xs.length → cs[so + j]? = some (.int .i64 (xs[j]! : Nat))) (hlt : ∀ x ∈ xs, x < n) (hm : m + xs.length ≤ n) :
    CallsD Try.prog 96 #[.pointer (some ⟨wb, 0, none⟩), .pointer (some ⟨xb, 0, none⟩), .pointer (some ⟨tb, 0, none⟩)] u w fun e u' w' => u' = u ∧ (e = .returned (.tuple #[]) ∧
      DiskAt w' db bb fb n (m + xs.length) (giveB xs bl) (giveD m xs d) ∧ At w' tb t3 [.slice none 0 0] ∧ Same [db, bb, fb, tb] w w') := by
  have c1 : w.cell? ⟨wb, 0, none⟩ = some (.bool false) := h1.cell? 0
  have c2 : w.cell? ⟨xb, 0, none⟩ = some (.pointer (some ⟨db, 0, none⟩)) := h2.cell? 0
  have c3 : w.cell? ⟨tb, 0, none⟩ = some (.slice a xs.length cap) := h3.cell? 0
  go_enter_d Try.func96, Try.ntmps96
  go_wp2_with fail
  refine (give_calls db bb fb n m sb so cap bl d xs a t4 cs w _ _ rfl rfl hD hx hc hlt hm).mono ?_
  rintro e w1 ⟨rfl, D1, S1⟩
  have A1 := S1.at h3 hn
  have d1 : w1.cell? ⟨tb, 0, none⟩ = some (.slice a xs.length cap) := A1.cell? 0
  have f1 : w1.frozen? ⟨tb, 0, none⟩ = false := A1.frozen 0
  have hn' := hn
  simp only [List.mem_cons, List.not_mem_nil, or_false, not_or] at hn'
  obtain ⟨n1, n2, n3⟩ := hn'
  have D2 : DiskAt (w1.setCell ⟨tb, 0, none⟩ (.slice none 0 0)) db bb fb n (m + xs.length) (giveB xs bl) (giveD m xs d) :=
    D1.same ((Same.refl [tb] _).set tb 0 _ (by simp)) (by simp; omega) (by simp; omega) (by simp; omega)
  have A2 : At _ _ _ [.slice none 0 0] := A1.set_same 0 (.slice none 0 0)
  have S2 : Same [db, bb, fb, tb] w _ := (S1.mono (T := [db, bb, fb, tb]) (by simp)).set tb 0 (.slice none 0 0) (by simp)
  clear c1 c2 c3 h1 h2 h3 hD hx hc hlt D1 S1 A1
  go_wp2
  go_end0
  exact ⟨rfl, D2, A2, S2⟩

theorem owns_form {w : World} {base : Nat} {e : TypeId} {size : Nat} {v : Value} {n : Nat} {xs : List Value} (h : w.ownsRow base e size v n xs) : ∃ a cap, v = .slice a n cap := by
  rcases h.2 with ⟨rfl, rfl⟩ | ⟨g, cap, cur, rfl, _⟩
  · exact ⟨_, _, rfl⟩
  · exact ⟨_, _, rfl⟩
theorem owns_base {w : World} {base base' : Nat} {e : TypeId} {size : Nat} {v : Value} {n : Nat} {xs : List Value} (h : w.ownsRow base e size v n xs) (hb : base' ≤ base) : w.ownsRow base' e size v n xs := by
  refine ⟨h.1, ?_⟩
  rcases h.2 with h | ⟨g, cap, cur, h1, h2, h3⟩
  · exact Or.inl h
  · exact Or.inr ⟨g, cap, cur, h1, by omega, h3⟩
theorem owns_same {w w' : World} {base : Nat} {e : TypeId} {size : Nat} {v : Value} {n : Nat} {xs : List Value} (h : w.ownsRow base e size v n xs) {S : List Nat} (hs : Same S w w') (hS : ∀ k ∈ S, k < base) : w'.ownsRow base e size v n xs := by
  refine ⟨h.1, ?_⟩
  rcases h.2 with h | ⟨g, cap, cur, h1, h2, h3, h4⟩
  · exact Or.inl h
  · refine Or.inr ⟨g, cap, cur, h1, h2, ?_, h4⟩
    have hl : g < w.heap.size := by
      rcases Nat.lt_or_ge g w.heap.size with h' | h'
      · exact h'
      · rw [Array.getElem?_eq_none h'] at h3; cases h3
    rw [hs.block g hl (fun hm => by have := hS g hm; omega)]
    exact h3

theorem grown_at {w1 w2 : World} {o : Obj} {row : Option Nat} {base b : Nat} {t : TypeId} {cs : List Value} (hg : (w1.alloc o).grownBy w2 row) (hr : ∀ k, row = some k → base ≤ k) (h : At w1 b t cs) (hb : b < base) : At w2 b t cs :=
  (h.alloc o).of_heap (hg.block b (h.alloc o).lt (fun e => by have := hr b e.symm; omega))
theorem owns_row {w : World} {base : Nat} {e : TypeId} {size : Nat} {v : Value} {n : Nat} {xs : List Value} (h : w.ownsRow base e size v n xs) : ∀ k, v.ownBlock = some k → base ≤ k := fun k hk => (h.lt k hk).1

/-- The block behind a row that is owned. -/
theorem owns_at {w : World} {base : Nat} {e : TypeId} {a : Option Addr} {cap n : Nat} {xs : List Value} (h : w.ownsRow base e 1 (.slice a n cap) n xs) (hn : n ≠ 0) :
    ∃ g cs, a = some ⟨g, 0, none⟩ ∧ base ≤ g ∧ At w g e cs ∧ n ≤ cap ∧ cs.length = cap ∧ cs.take n = xs := by
  rcases h.2 with ⟨h1, rfl⟩ | ⟨g, cap', cur, h1, h2, h3, h4, h5, h6, h7⟩
  · exact absurd rfl hn
  · simp only [Value.slice.injEq] at h1
    obtain ⟨rfl, _, rfl⟩ := h1
    refine ⟨g, cur.toList, rfl, h2, ?_, h4, by simpa using h6, by simpa using h7⟩
    unfold At
    simpa using h3

/-- What Take holds in its hands after k rounds. -/
structure TakeAt (w : World) (db bb fb n m : Nat) (bl : List Blk) (d : Array Int) (k : Nat) (wr : World) : Prop where
  disk : DiskAt wr db bb fb n (m - k) bl (popsD m k d)
  box : At wr w.heap.size 35 [.pointer (some ⟨db, 0, none⟩)]
  whole : At wr (w.heap.size + 1 + 1) 4 [.bool false]
  same : Same [db, fb] w wr
  taken : ∃ a cap, At wr (w.heap.size + 1) 39 [.slice a k cap] ∧ wr.ownsRow (w.heap.size + 1 + 1 + 1) 3 1 (.slice a k cap) k ((popsL m k d).map (Value.int .i64))

set_option maxHeartbeats 1000000 in
set_option maxRecDepth 100000 in
theorem take_calls (db bb fb n m c : Nat) (bl : List Blk) (d : Array Int) (xs : List Nat) (w : World) (s : Value) (v : Int) (hs : s = .pointer (some ⟨db, 0, none⟩)) (hv : v = (c : Int)) (hc : c ≤ 1000)
    (hD : DiskAt w db bb fb n m bl d) (hxs : popsL m m d = xs.map (fun x : Nat => (x : Int))) (hlt : ∀ x ∈ xs, x < n) :
    Calls Try.prog 60 #[s, .int .i64 v] w fun e w' =>
      (c ≤ m ∧ ∃ v', e = .returned (.tuple #[v', .int .i64 0]) ∧ DiskAt w' db bb fb n (m - c) bl (popsD m c d) ∧ w'.ownsRow w.heap.size 3 1 v' c ((popsL m c d).map (Value.int .i64)) ∧ Same [db, fb] w w') ∨
      (m < c ∧ e = .returned (.tuple #[.slice none 0 0, .int .i64 6]) ∧ DiskAt w' db bb fb n m (giveB xs bl) (giveD 0 xs (popsD m m d)) ∧ Same [db, bb, fb] w w') := by
  subst hs hv
  have hn := hD.small
  have hle := hD.le
  have lb := hD.disk.lt
  have lbb := hD.data.lt
  have lf := hD.free.lt
  have hmf : ∀ (fn : Fn) (first cap : Array Value) (w : World), (Instr.makeFunc fn first cap).run Try.prog w = .ok (.func fn first cap) w := fun _ _ _ _ => rfl
  have hnot : ∀ (x : Bool) (w : World), (Op.unary .not (.bool x)).run Try.prog w = .ok (.bool (!x)) w := fun _ _ => rfl
  go_enter_defers Try.func60, Try.ntmps60
  go_wp2
  go_loopw [11] (fun i wr => ∃ k : Nat, k ≤ c ∧ k ≤ m ∧ i = .int .i64 k ∧ TakeAt w db bb fb n m bl d k wr)
    (fun i _ => c - (intOf i).toNat)
  case atStart =>
    refine ⟨0, Nat.zero_le _, Nat.zero_le _, rfl, ?_⟩
    have hb : ∀ {b : Nat} {t : TypeId} {cs : List Value}, At w b t cs → At (((w.alloc (Obj.cells #[.pointer (some ⟨db, 0, none⟩)] 35)).alloc (Obj.cells #[.slice none 0 0] 39)).alloc (Obj.cells #[.bool false] 4)) b t cs := fun h => ((h.alloc _).alloc _).alloc _
    exact ⟨⟨hb hD.disk, hb hD.data, hb hD.free, hD.ne1, hD.ne2, hD.ne3, hD.len, hD.size, hD.le, hD.small⟩, ((At.new w _ _).alloc _).alloc _, by have := At.new ((w.alloc (Obj.cells #[.pointer (some ⟨db, 0, none⟩)] 35)).alloc (Obj.cells #[.slice none 0 0] 39)) #[.bool false] 4; simpa using this,
      (((Same.refl _ _).alloc _).alloc _).alloc _, none, 0, by have := (At.new (w.alloc (Obj.cells #[.pointer (some ⟨db, 0, none⟩)] 35)) #[.slice none 0 0] 39).alloc (Obj.cells #[.bool false] 4); simpa using this, World.ownsRow_nil _ _ _ _⟩
  case round =>
    obtain ⟨k, hkc, hkm, rfl, hT⟩ := hrel
    obtain ⟨a, cap, hv1, hv2⟩ := hT.taken
    have hsz := hT.whole.lt
    have b0 : wr.cell? ⟨w.heap.size, 0, none⟩ = some (.pointer (some ⟨db, 0, none⟩)) := hT.box.cell? 0
    have b1 : wr.cell? ⟨w.heap.size + 1, 0, none⟩ = some (.slice a k cap) := hv1.cell? 0
    have g1 : wr.frozen? ⟨w.heap.size + 1, 0, none⟩ = false := hv1.frozen 0
    have b2 : wr.cell? ⟨w.heap.size + 1 + 1, 0, none⟩ = some (.bool false) := hT.whole.cell? 0
    have g2 : wr.frozen? ⟨w.heap.size + 1 + 1, 0, none⟩ = false := hT.whole.frozen 0
    by_cases h1 : k < c
    · by_cases h2 : k < m
      · have hP : DiskAt wr db bb fb n ((m - k - 1) + 1) bl (popsD m k d) := by rw [show m - k - 1 + 1 = m - k by omega]; exact hT.disk
        go_wp2_with fail
        refine (pop_some db fb (m - k - 1) n _ _ _ (popsD m k d) wr hP.disk hP.ne2 hP.free hP.size (by omega) (by omega)).mono ?_
        rintro e w1 ⟨rfl, P0, P1, P2⟩
        have hN : ∀ j, w.heap.size ≤ j → j ∉ [db, fb] := by intro j hj; simp; omega
        have Q0 := P2.at hT.box (hN _ (Nat.le_refl _))
        have Q1 := P2.at hv1 (hN _ (by omega))
        have Q2 := P2.at hT.whole (hN _ (by omega))
        have Q3 := P2.at hT.disk.data (by simp; exact ⟨hP.ne1.symm, hP.ne3⟩)
        have hown := owns_same hv2 P2 (by simp; omega)
        have S1 := hT.same.step P2 (by simp)
        obtain ⟨x, hx⟩ : ∃ x, (popsD m k d)[0]! = x := ⟨_, rfl⟩
        rw [hx]
        have c1 : w1.cell? ⟨w.heap.size + 1, 0, none⟩ = some (.slice a k cap) := Q1.cell? 0
        have l1 := Q1.lt
        have l2 := Q2.lt
        have HX : Hid ((popsD m k d)[0]! = x) := hx
        clear hx b0 b1 b2 g1 g2 hT hv1 hv2 hD
        obtain ⟨i0, hi, hz0, hz1, hz2⟩ := info_parts Try.info3
        go_wp2_with (at_builtin; refine wpList_append_own _ rfl _ _ 39 rfl (w.heap.size + 1 + 1 + 1) 3 i0 (.int .i64 0) 1 8 Try.underlying39 hi hz0 hz1 hz2 rfl (by decide) _ _ _ rfl (hown.alloc _) ⟨w1.heap.size, 0, none⟩ 1 1 [.int .i64 x] rfl rfl ?c1 ?c2 ?c3 ?c4 ?c5 ?_)
        case c1 =>
          intro j u hj
          match j, hj with
          | 0, hj => simp at hj; subst hj; simp [Addr.add]
        case c2 => intro u hu; simp at hu; subst hu; rfl
        case c3 => unfold maxLen; omega
        case c4 => omega
        case c5 => simp; omega
        intro v' w2 hown' hgrow _
        have hr := owns_row hown
        have R0 := grown_at hgrow hr Q0 (by omega)
        have R1 := grown_at hgrow hr Q1 (by omega)
        have R2 := grown_at hgrow hr Q2 (by omega)
        have R3 := grown_at hgrow hr Q3 (by omega)
        have R4 := grown_at hgrow hr P0 (by omega)
        have R5 := grown_at hgrow hr P1 (by omega)
        have S2 : Same [db, fb] w w2 := (S1.alloc _).grown hgrow (fun j hj hl => by have := hr j hj; omega)
        obtain ⟨a', cap', rfl⟩ := owns_form hown'
        have b1 : w2.cell? ⟨w.heap.size + 1, 0, none⟩ = some (.slice a k cap) := R1.cell? 0
        have g1 : w2.frozen? ⟨w.heap.size + 1, 0, none⟩ = false := R1.frozen 0
        have E : Same [w.heap.size + 1] w2 (w2.setCell ⟨w.heap.size + 1, 0, none⟩ (.slice a' (k + 1) cap')) := (Same.refl _ _).set _ 0 _ (by simp)
        have T1 : TakeAt w db bb fb n m bl d (k + 1) (w2.setCell ⟨w.heap.size + 1, 0, none⟩ (.slice a' (k + 1) cap')) := by
          refine ⟨⟨E.at R4 (by simp; omega), E.at R3 (by simp; omega), E.at R5 (by simp; omega), hP.ne1, hP.ne2, hP.ne3, hP.len, ?_, by omega, hn⟩, E.at R0 (by simp), E.at R2 (by simp), S2.step E (by simp; omega), a', cap', R1.set_same 0 _, ?_⟩
          · rw [popsD, popD_size]; exact hP.size
          · have e1 : popsL m (k + 1) d = popsL m k d ++ [x] := by rw [popsL, HX.out]
            rw [e1, List.map_append]
            exact owns_same hown' E (by simp)
        clear R0 R1 R2 R3 R4 R5 S2 E hown' hgrow hown Q0 Q1 Q2 Q3 S1 P0 P1 P2 hP c1 hr
        go_wp2
        go_roundw
        case rel => exact ⟨k + 1, by omega, by omega, by go_num, T1⟩
        case measure => simp [intOf]; omega
      · have ek : m - k = 0 := by omega
        have hP := hT.disk.disk
        rw [ek] at hP
        go_wp2_with fail
        refine (pop_none db fb n _ _ _ wr hP).mono ?_
        rintro e w1 ⟨rfl, rfl⟩
        go_wp2
        have ekm : k = m := by omega
        have hxl : xs.length = k := by have := congrArg List.length hxs; rw [popsL_length, List.length_map] at this; omega
        have A1 : At (w1.setCell ⟨w.heap.size + 1, 0, none⟩ (.slice a k cap)) _ _ [.slice a k cap] := hv1.set_same 0 (.slice a k cap)
        have E : Same [w.heap.size + 1] w1 (w1.setCell ⟨w.heap.size + 1, 0, none⟩ (.slice a k cap)) := (Same.refl _ _).set _ 0 _ (by simp)
        have D1 := hT.disk.same E (by simp; omega) (by simp; omega) (by simp; omega)
        have S0 := hT.same
        have W1 := E.at hT.whole (by simp)
        have B1 := E.at hT.box (by simp)
        have O1 := owns_same hv2 E (by simp)
        generalize w1.setCell ⟨w.heap.size + 1, 0, none⟩ (.slice a k cap) = W2 at *
        rw [← hxl] at A1 O1
        refine leaves_cons (f := 96) (args := #[.pointer (some ⟨w.heap.size + 1 + 1, 0, none⟩), .pointer (some ⟨w.heap.size, 0, none⟩), .pointer (some ⟨w.heap.size + 1, 0, none⟩)]) (by simp) (by simp [go_sem]) ?_
        have hgive : ∃ g cs, (xs ≠ [] → a = some ⟨g, 0, none⟩ ∧ At W2 g 3 cs ∧ g ∉ [db, bb, fb]) ∧ (∀ j, j < xs.length → cs[0 + j]? = some (.int .i64 (xs[j]! : Nat))) := by
          by_cases hne : xs.length = 0
          · exact ⟨0, [], fun h => absurd (List.eq_nil_of_length_eq_zero hne) h, fun j hj => by omega⟩
          · obtain ⟨g, cs, rfl, hg, hA, _, _, ht⟩ := owns_at O1 hne
            refine ⟨g, cs, fun _ => ⟨rfl, hA, by simp; omega⟩, fun j hj => ?_⟩
            have : (cs.take xs.length)[j]? = cs[j]? := by rw [List.getElem?_take, if_pos hj]
            rw [Nat.zero_add, ← this, ht, hxl, ekm, hxs]
            simp [List.getElem?_map, List.getElem?_eq_getElem hj, getElem!_pos xs j hj]
        obtain ⟨g, cs, hg1, hg2⟩ := hgive
        refine (take1_back (w.heap.size + 1 + 1) w.heap.size (w.heap.size + 1) db bb fb n (m - k) g 0 cap _ _ _ 3 bl (popsD m k d) xs a cs .returning W2 W1 B1 A1 (by simp; omega) D1 hg1 hg2 hlt (by omega)).mono ?_
        rintro e u' w3 ⟨rfl, rfl, F1, F2, F3⟩
        have d2 : w3.cell? ⟨w.heap.size + 1, 0, none⟩ = some (.slice none 0 0) := F2.cell? 0
        rw [ek, hxl, Nat.zero_add, ekm] at F1
        refine ⟨.tuple #[.slice none 0 0, .int .i64 6], by simp [results, Try.results60, go_sem, d2], Or.inr ⟨by omega, rfl, F1, ?_⟩⟩
        refine ((S0.step E (by simp; omega)).mono (T := [db, bb, fb]) ?_).step F3 ?_
        · intro j hj _; simp at hj ⊢; omega
        · intro j hj hl; simp at hj ⊢; omega
    · have ekc : k = c := by omega
      subst ekc
      go_wp2_with fail
      have A1 : At ((wr.setCell ⟨w.heap.size + 1 + 1, 0, none⟩ (.bool true)).setCell ⟨w.heap.size + 1, 0, none⟩ (.slice a k cap)) _ _ [.slice a k cap] := (hv1.set_other (w.heap.size + 1 + 1) 0 (.bool true) (by omega)).set_same 0 (.slice a k cap)
      have W1 : At ((wr.setCell ⟨w.heap.size + 1 + 1, 0, none⟩ (.bool true)).setCell ⟨w.heap.size + 1, 0, none⟩ (.slice a k cap)) _ _ [.bool true] := (hT.whole.set_same 0 (.bool true)).set_other (w.heap.size + 1) 0 (.slice a k cap) (by omega)
      have E : Same [w.heap.size + 1, w.heap.size + 1 + 1] wr ((wr.setCell ⟨w.heap.size + 1 + 1, 0, none⟩ (.bool true)).setCell ⟨w.heap.size + 1, 0, none⟩ (.slice a k cap)) := ((Same.refl _ _).set _ 0 _ (by simp)).set _ 0 _ (by simp)
      have D1 := hT.disk.same E (by simp; omega) (by simp; omega) (by simp; omega)
      have S1 := hT.same.step E (by simp; omega)
      have O1 := owns_same hv2 E (by simp)
      generalize (wr.setCell ⟨w.heap.size + 1 + 1, 0, none⟩ (.bool true)).setCell ⟨w.heap.size + 1, 0, none⟩ (.slice a k cap) = W2 at *
      refine leaves_cons (f := 96) (args := #[.pointer (some ⟨w.heap.size + 1 + 1, 0, none⟩), .pointer (some ⟨w.heap.size, 0, none⟩), .pointer (some ⟨w.heap.size + 1, 0, none⟩)]) (by simp) (by simp [go_sem]) ?_
      refine (take1_idle (w.heap.size + 1 + 1) w.heap.size (w.heap.size + 1) _ .returning W2 W1).mono ?_
      rintro e u' w3 ⟨rfl, rfl, rfl⟩
      have d2 : w3.cell? ⟨w.heap.size + 1, 0, none⟩ = some (.slice a k cap) := A1.cell? 0
      exact ⟨.tuple #[.slice a k cap, .int .i64 0], by simp [results, Try.results60, go_sem, d2], Or.inl ⟨by omega, _, rfl, D1, owns_base O1 (by omega), S1⟩⟩
end Go.Proofs.Ytpddgdjocffgdaa
