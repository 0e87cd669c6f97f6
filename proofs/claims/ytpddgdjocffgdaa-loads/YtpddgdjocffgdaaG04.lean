/- A Pool: insert, by a contract. A Pool: its state in order, and how it changes when a volume comes. Of a Pool's names and what is told of it; a row appended to a row. Bytes put behind bytes: numbers, lists of numbers, by contracts. A Pool: findNew, add, by contracts. -/
import Derived.Test.YtpddgdjocffgdaaG03
import Derived.Test.YtpddgdjocffgdaaG02
import Derived.Lib.AppendStr
namespace Go.Proofs.Ytpddgdjocffgdaa
set_option linter.unusedVariables false
set_option linter.unusedSimpArgs false
set_option linter.unusedSectionVars false
section
open Go.RowKit Go.Sort
variable [DecidableEq Blk] [Inhabited Blk] [Inhabited Vol]
theorem countP_split {α : Type} (p : α → Bool) : ∀ (l : List α), l.Pairwise (fun a b => p b = true → p a = true) → (∀ x ∈ l.take (l.countP p), p x = true) ∧ (∀ x ∈ l.drop (l.countP p), p x = false)
  | [], _ => by simp
  | a :: r, h => by
    obtain ⟨h1, h2⟩ := List.pairwise_cons.1 h
    obtain ⟨i1, i2⟩ := countP_split p r h2
    cases ha : p a with
    | true =>
      rw [List.countP_cons_of_pos ha]
      simp only [List.take_succ_cons, List.drop_succ_cons, List.mem_cons]
      exact ⟨fun x hx => by
        rcases hx with rfl | hx
        · exact ha
        · exact i1 x hx, i2⟩
    | false =>
      have hr : ∀ x ∈ r, p x = false := fun x hx => by
        cases hx' : p x with
        | false => rfl
        | true => have := h1 x hx hx'; rw [ha] at this; cases this
      have e : (a :: r).countP p = 0 := by
        rw [List.countP_eq_zero]
        intro x hx
        rcases List.mem_cons.1 hx with rfl | hx
        · simp [ha]
        · simp [hr x hx]
      rw [e]
      simp only [List.take_zero, List.drop_zero, List.mem_cons]
      exact ⟨fun x hx => by simp at hx, fun x hx => by
        rcases hx with rfl | hx
        · exact ha
        · exact hr x hx⟩
theorem cmpL_neg : ∀ (a b : List UInt8), Lib.compareBytes b a = - Lib.compareBytes a b
  | [], [] => rfl
  | [], _ :: _ => rfl
  | _ :: _, [] => rfl
  | x :: a, y :: b => by
    have ih := cmpL_neg a b
    unfold Lib.compareBytes
    by_cases hxy : x < y
    · have : ¬ y < x := fun h => UInt8.lt_irrefl _ (UInt8.lt_trans hxy h)
      rw [if_pos hxy, if_neg this, if_pos hxy]; rfl
    · by_cases hyx : y < x
      · rw [if_pos hyx, if_neg hxy, if_pos hyx]
      · rw [if_neg hyx, if_neg hxy, if_neg hxy, if_neg hyx, ih]
theorem cmpB_neg (a b : ByteArray) : cmpB b a = - cmpB a b := cmpL_neg _ _
theorem cmpB_self (a : ByteArray) : cmpB a a = 0 := (cmpB_zero a a).2 rfl
theorem names_mono {ns : List ByteArray} (t : ByteArray) (h : ns.Pairwise fun a b => cmpB a b < 0) : ns.Pairwise fun a b => decide (cmpB b t < 0) = true → decide (cmpB a t < 0) = true :=
  h.imp fun {a b} hab hb => by simp at hb ⊢; exact cmpB_trans a b t hab hb
theorem isIn_iff {ns : List ByteArray} (h : ns.Pairwise fun a b => cmpB a b < 0) (t : ByteArray) : isIn ns t = true ↔ t ∈ ns := by
  obtain ⟨s1, s2⟩ := countP_split (fun n => decide (cmpB n t < 0)) ns (names_mono t h)
  have hp : ns.countP (fun n => decide (cmpB n t < 0)) = posOf ns t := rfl
  rw [hp] at s1 s2
  unfold isIn
  simp only [Bool.and_eq_true, decide_eq_true_eq]
  constructor
  · rintro ⟨hl, he⟩
    rw [getElem!_pos ns _ hl] at he
    rw [← (cmpB_zero _ _).1 he]; exact List.getElem_mem hl
  · intro ht
    have hd : t ∈ ns.drop (posOf ns t) := by
      have := List.take_append_drop (posOf ns t) ns
      rw [← this] at ht
      rcases List.mem_append.1 ht with ht | ht
      · have := s1 t ht; rw [cmpB_self] at this; simp at this
      · exact ht
    have hl : posOf ns t < ns.length := by
      have := List.length_pos_of_mem hd
      simp at this; omega
    refine ⟨hl, ?_⟩
    rw [getElem!_pos ns _ hl]
    rw [List.drop_eq_getElem_cons hl] at hd
    rcases List.mem_cons.1 hd with e | hd
    · rw [← e]; exact cmpB_self t
    · have hpw : (ns.drop (posOf ns t)).Pairwise fun a b => cmpB a b < 0 := h.sublist (List.drop_sublist _ _)
      rw [List.drop_eq_getElem_cons hl] at hpw
      have h1 := (List.pairwise_cons.1 hpw).1 t hd
      have h2 := s2 (ns[posOf ns t]) (by rw [List.drop_eq_getElem_cons hl]; exact List.mem_cons_self)
      simp at h2
      omega
/-- The pictures are in order: each keeps a place once, and places of its origin alone; a lost one none; its room is not greater than its origin. -/
def Pics (l : List Vol) : Prop := ∀ v ∈ l, v.kept.Nodup ∧ (v.lost = true → v.kept = []) ∧ ∀ u ∈ l, v.org = some u.vb → (∀ k ∈ v.kept, k < u.xs.length) ∧ v.xs.length ≤ u.xs.length
structure Good (s : St) (fr : List Nat) : Prop where
  heap : HeapIs s.m s.d fr
  parts : (fr ++ s.vols.flatMap (·.xs)).Perm (List.range s.n)
  zero : ∀ x ∈ fr, s.bl[x]! = Blk.zero
  names : ∀ v ∈ s.vols, nameB v.name = true
  pics : Pics s.vols
/-- What a call leaves of a Pool. -/
structure After (w : World) (s : St) (w' : World) (s' : St) (fr' : List Nat) : Prop where
  pool : PoolAt w' s'
  good : Good s' fr'
  same : Same s.foot w w'
  foot : ∀ k ∈ s'.foot, k ∈ s.foot ∨ w.heap.size ≤ k
  pb : s'.pb = s.pb
  n : s'.n = s.n
theorem Good.lt {s : St} {fr : List Nat} (h : Good s fr) : (∀ x ∈ fr, x < s.n) ∧ (∀ v ∈ s.vols, ∀ x ∈ v.xs, x < s.n) := by
  refine ⟨fun x hx => ?_, fun v hv x hx => ?_⟩
  · exact List.mem_range.1 (h.parts.mem_iff.1 (List.mem_append_left _ hx))
  · exact List.mem_range.1 (h.parts.mem_iff.1 (List.mem_append_right _ (List.mem_flatMap.2 ⟨v, hv, hx⟩)))
theorem Good.nodup {s : St} {fr : List Nat} (h : Good s fr) : (fr ++ s.vols.flatMap (·.xs)).Nodup := h.parts.nodup_iff.2 List.nodup_range
theorem mem_getElem! {xs : List Nat} {k : Nat} (h : k < xs.length) : xs[k]! ∈ xs := by rw [getElem!_pos xs k h]; exact List.getElem_mem h
/-- The block that holds what stands at a place is one of its own, or one of its origin's. -/
theorem holder_mem {w : World} {s : St} (h : PoolAt w s) {v : Vol} (hv : v ∈ s.vols) {k : Nat} (hk : k < s.size v) : ∃ u ∈ s.vols, s.holder v k ∈ u.xs := by
  unfold St.holder
  split
  · rename_i hm
    exact ⟨v, hv, mem_getElem! (Nat.lt_of_lt_of_le (idxOf_lt hm) (h.vols v hv).room)⟩
  · exact ⟨s.orgOf v, (h.orgOf hv).1, mem_getElem! hk⟩
theorem holder_lt {w : World} {s : St} (h : PoolAt w s) {fr : List Nat} (hG : Good s fr) {v : Vol} (hv : v ∈ s.vols) {k : Nat} (hk : k < s.size v) : s.holder v k < s.n := by
  obtain ⟨u, hu, hm⟩ := holder_mem h hv hk
  exact hG.lt.2 u hu _ hm
theorem giveB_zero (xs : List Nat) : ∀ (bl : List Blk), (∀ x ∈ xs, x < bl.length ∧ bl[x]! = Blk.zero) → giveB xs bl = bl := by
  induction xs with
  | nil => intro bl _; rfl
  | cons x r ih =>
    intro bl h
    obtain ⟨hl, hx⟩ := h x (by simp)
    have e : bl.set x Blk.zero = bl := by
      rw [← hx, getElem!_pos bl x hl]; simp
    have e2 : giveB (x :: r) bl = giveB r (bl.set x Blk.zero) := rfl
    rw [e2, e]
    exact ih bl fun y hy => h y (by simp [hy])
/-- A list of numbers as the statement holds it: a slice, nil where there are none. -/
structure SlAt (w : World) (v : Value) (g : Nat) (xs : List Nat) : Prop where
  ex : ∃ a cap, v = .slice a xs.length cap ∧ (xs ≠ [] → a = some ⟨g, 0, none⟩ ∧ ∃ cs, RowAt w g xs cs)
theorem SlAt.same {w w' : World} {v : Value} {g : Nat} {xs : List Nat} (h : SlAt w v g xs) {S : List Nat} (hs : Same S w w') (hn : g ∉ S) : SlAt w' v g xs := by
  obtain ⟨a, cap, e, h⟩ := h.ex
  refine ⟨a, cap, e, fun hne => ?_⟩
  obtain ⟨h1, cs, h2⟩ := h hne
  exact ⟨h1, cs, h2.same hs hn⟩
theorem posOf_get {ns : List ByteArray} (h : ns.Pairwise fun a b => cmpB a b < 0) (i : Nat) (hi : i < ns.length) : posOf ns ns[i]! = i := by
  rw [getElem!_pos ns i hi]
  refine countP_bound _ ns i (Nat.le_of_lt hi) (fun t ht => ?_) (fun t h1 h2 => ?_)
  · rw [getElem!_pos ns t (by omega)]
    exact decide_eq_true (List.pairwise_iff_getElem.1 h t i (by omega) hi ht)
  · rw [getElem!_pos ns t h2]
    rcases Nat.lt_or_ge i t with h' | h'
    · have := List.pairwise_iff_getElem.1 h i t hi h2 h'
      exact decide_eq_false (by rw [cmpB_neg ns[i] ns[t]]; omega)
    · have e : t = i := by omega
      subst e
      exact decide_eq_false (by rw [cmpB_self]; omega)
theorem toldAll_get (s : St) (l : List Vol) : ∀ (i j : Nat), i < l.length → j < 6 → (s.toldAll l)[i * 6 + j]? = (s.told (l[i]!))[j]? := by
  induction l with
  | nil => intro i j h; simp at h
  | cons b r ih =>
    intro i j hi hj
    cases i with
    | zero =>
      have : (b :: r)[0]! = b := rfl
      rw [this, St.toldAll, Nat.zero_mul, Nat.zero_add, List.getElem?_append_left (by rw [St.told_length]; exact hj)]
    | succ i =>
      have e : (b :: r)[i + 1]! = r[i]! := by simp
      rw [e, ← ih i j (by simpa using hi) hj, St.toldAll, List.getElem?_append_right (by rw [St.told_length]; omega)]
      congr 1
      rw [St.told_length]; omega
/-- A byte as a cell. -/
def byteV (b : UInt8) : Value := .int .u8 (b.toNat : Int)
/-- A list of bytes in new memory, that is its holder's own. -/
structure Buf (w0 w : World) (v : Value) (bs : List UInt8) : Prop where
  own : w.ownsRow w0.heap.size 5 1 v bs.length (bs.map byteV)
  same : Same [] w0 w
theorem Buf.new {w0 w w' : World} {v : Value} {bs : List UInt8} (h : Buf w0 w v bs) (hs : Same [] w w') : Buf w0 w' v bs := ⟨owns_same h.own hs (by simp), h.same.step hs (by simp)⟩
theorem Buf.form {w0 w : World} {v : Value} {bs : List UInt8} (h : Buf w0 w v bs) : ∃ a cap, v = .slice a bs.length cap := owns_form h.own
theorem Buf.app {w0 w w1 w2 : World} {v v' : Value} {bs ns : List UInt8} {n : Nat} (h : Buf w0 w v bs) (hs : Same [] w w1) (hn : n = bs.length + ns.length) (ho : w2.ownsRow w0.heap.size 5 1 v' n (bs.map byteV ++ ns.map byteV)) (hg : w1.grownBy w2 v.ownBlock) : Buf w0 w2 v' (bs ++ ns) := by
  refine ⟨by rw [List.length_append, List.map_append, ← hn]; exact ho, (h.same.step hs (by simp)).grown hg fun k hk hl => ?_⟩
  have := (h.own.lt k hk).1
  omega
/-- A number of two bytes. -/
def two (n : Nat) : List UInt8 := [UInt8.ofNat (n / 256), UInt8.ofNat n]
def nums (l : List Nat) : List UInt8 := two l.length ++ l.flatMap two
theorem two_length (n : Nat) : (two n).length = 2 := rfl
theorem twos_length (l : List Nat) : (l.flatMap two).length = 2 * l.length := by
  induction l with
  | nil => rfl
  | cons a r ih => rw [List.flatMap_cons, List.length_append, ih, two_length, List.length_cons]; omega
theorem nums_length (l : List Nat) : (nums l).length = 2 + 2 * l.length := by rw [nums, List.length_append, two_length, twos_length]
theorem two_cells (n : Nat) (hn : n ≤ 65535) : (two n).map byteV = [.int .u8 ((n : Int) / 256), .int .u8 ((n : Int) % 256)] := by
  simp [two, byteV, UInt8.toNat_ofNat']
  omega
theorem bytes_one : ∀ (l : List UInt8), ∀ u ∈ l.map byteV, u.oneCell' = true := fun l u hu => by
  obtain ⟨x, _, rfl⟩ := List.mem_map.1 hu; rfl
theorem cells_new {w : World} {l : List Value} {t : TypeId} : ∀ j u, l[j]? = some u → (w.alloc (.cells l.toArray t)).cell? ((⟨w.heap.size, 0, none⟩ : Addr).add j) = some u := by
  intro j u hj
  rw [Addr.add_lit, Nat.zero_add, (At.new w l.toArray t).cell?]
  simpa using hj
set_option maxHeartbeats 400000 in
set_option maxRecDepth 100000 in
theorem putNumber_calls (w0 w : World) (v : Value) (bs : List UInt8) (n : Nat) (h : Buf w0 w v bs) (hl : bs.length ≤ 100000) (hn : n ≤ 65535) :
    Calls Try.prog 37 #[v, .int .i64 n] w fun e w' => ∃ v', e = .returned v' ∧ Buf w0 w' v' (bs ++ two n) := by
  obtain ⟨a, cap, rfl⟩ := h.form
  obtain ⟨i0, hi, hz0, hz1, hz2⟩ := info_parts Try.info5
  have HT : Hid ((two n).map byteV = [.int .u8 ((n : Int) / 256), .int .u8 ((n : Int) % 256)]) := two_cells n hn
  have hz := h.same.size
  have HH : Hid (Buf w0 w (.slice a bs.length cap) bs) := h
  have hown := h.own
  clear h
  go_enter Try.func37, Try.ntmps37
  go_wp2_with (at_builtin; refine wpList_append_own _ rfl _ _ 25 rfl w0.heap.size 5 i0 (.int .u8 0) 1 1 Try.underlying25 hi hz0 hz1 hz2 rfl (by decide) _ _ _ rfl (hown.alloc _) ⟨w.heap.size, 0, none⟩ 2 2 [.int .u8 ((n : Int) / 256), .int .u8 ((n : Int) % 256)] rfl rfl ?c1 ?c2 ?c3 ?c4 ?c5 ?_)
  case c1 => exact cells_new
  case c2 => intro u hu; simp at hu; rcases hu with rfl | rfl <;> rfl
  case c3 => unfold maxLen; omega
  case c4 => omega
  case c5 => simp; omega
  intro v' w4 hown' hgrow _
  have HB : Hid (Buf w0 w4 v' (bs ++ two n)) := HH.out.app ((Same.refl _ _).alloc _) rfl (by rw [HT.out]; exact hown') hgrow
  clear hown' hgrow hown
  go_wp2
  go_ret
  exact ⟨_, rfl, HB.out⟩
/-- A list of numbers in memory, in a block of its own, or none. -/
structure NumsIn (w : World) (a : Option Addr) (l : List Nat) : Prop where
  nil : a = none → l = []
  at_ : ∀ x, a = some x → ∃ g cs, x = ⟨g, 0, none⟩ ∧ RowAt w g l cs
theorem NumsIn.new {w w' : World} {a : Option Addr} {l : List Nat} (h : NumsIn w a l) (hs : Same [] w w') : NumsIn w' a l := ⟨h.nil, fun x hx => by
  obtain ⟨g, cs, e, hn⟩ := h.at_ x hx
  exact ⟨g, cs, e, hn.same hs (by simp)⟩⟩
theorem NumsIn.of {w : World} {og : Option Nat} {cap : Nat} {l : List Nat} (h1 : og = none → l = [] ∧ cap = 0) (h2 : ∀ g, og = some g → NumsAt w g cap l) : NumsIn w (adr og) l := by
  refine ⟨fun e => ?_, fun x hx => ?_⟩
  · cases og with
    | none => exact (h1 rfl).1
    | some g => simp [adr] at e
  · cases og with
    | none => simp [adr] at hx
    | some g =>
      simp [adr] at hx
      obtain ⟨cs, q1, q2, q3, q4, q5⟩ := (h2 g rfl).ex
      exact ⟨g, cs, hx.symm, q1, q3, by omega⟩
theorem RowAt.cellAt {w : World} {g : Nat} {xs : List Nat} {cs : List Value} (h : RowAt w g xs cs) (i : Nat) (hi : i < xs.length) : w.cell? ⟨g, i, none⟩ = some (.int .i64 (xs[i]! : Nat)) := by
  rw [h.at_.cell?]; exact h.cell i hi
theorem take_twos (l : List Nat) (k : Nat) (hk : k < l.length) : (l.take (k + 1)).flatMap two = (l.take k).flatMap two ++ two l[k]! := by
  rw [List.take_succ_eq_append_getElem hk, List.flatMap_append, getElem!_pos l k hk]
  simp
set_option maxHeartbeats 800000 in
set_option maxRecDepth 100000 in
theorem putNumbers_calls (w0 w : World) (v : Value) (bs : List UInt8) (an : Option Addr) (cap : Nat) (l : List Nat) (h : Buf w0 w v bs) (hl : bs.length ≤ 50000) (hN : NumsIn w0 an l) (hll : l.length ≤ 200) (hx : ∀ x ∈ l, x ≤ 65535) :
    Calls Try.prog 81 #[v, .slice an l.length cap] w fun e w' => ∃ v', e = .returned v' ∧ Buf w0 w' v' (bs ++ nums l) := by
  have hP := putNumber_calls w0 w v bs l.length h (by omega) (by omega)
  have HN : Hid (NumsIn w0 an l) := hN
  have HX : Hid (∀ x ∈ l, x ≤ 65535) := hx
  have HPN : Hid (∀ (W : World) (v : Value) (bs : List UInt8) (n : Nat), Buf w0 W v bs → bs.length ≤ 100000 → n ≤ 65535 → Calls Try.prog 37 #[v, .int .i64 n] W fun e w' => ∃ v', e = .returned v' ∧ Buf w0 w' v' (bs ++ two n)) := fun W v bs n h1 h2 h3 => putNumber_calls w0 W v bs n h1 h2 h3
  clear h hN hx
  go_enter Try.func81, Try.ntmps81
  go_wp2_with (go_at_call 37; refine hP.mono ?_; rintro e w1 ⟨v1, rfl, hB1⟩)
  clear hP
  go_loopw [0, 13] (fun u i wr => ∃ k : Nat, k ≤ l.length ∧ i = .int .i64 k ∧ Buf w0 wr u (bs ++ two l.length ++ (l.take k).flatMap two)) (fun _ i _ => l.length - (intOf i).toNat)
  case atStart => exact ⟨0, Nat.zero_le _, rfl, by simpa using hB1⟩
  case round =>
    clear hB1
    obtain ⟨k, hk, rfl, hB⟩ := hrel
    by_cases hkl : k < l.length
    · obtain ⟨xa, hxa⟩ : ∃ xa, an = some xa := by
        cases an with
        | none => rw [HN.out.nil rfl] at hkl; simp at hkl
        | some g => exact ⟨g, rfl⟩
      obtain ⟨g, cs, rfl, hNg⟩ := HN.out.at_ xa hxa
      subst hxa
      have c1 := (hNg.same hB.same (by simp)).cellAt k hkl
      have hxk := HX.out (l[k]!) (by rw [getElem!_pos l k hkl]; exact List.getElem_mem hkl)
      have HT : Hid ((l.take (k + 1)).flatMap two = (l.take k).flatMap two ++ two l[k]!) := take_twos l k hkl
      have hlen : (bs ++ two l.length ++ (l.take k).flatMap two).length ≤ 100000 := by
        rw [List.length_append, List.length_append, twos_length, two_length, List.length_take]; omega
      have hP := HPN.out wr _ _ (l[k]!) hB hlen hxk
      generalize l[k]! = x at *
      have l1 : (k : Int) < (l.length : Int) := by omega
      clear hB hNg
      go_wp2_with (go_at_call 37; refine hP.mono ?_; rintro e w2 ⟨v2, rfl, hB2⟩)
      go_roundw
      case rel => exact ⟨k + 1, by omega, by go_num, by rw [HT.out, ← List.append_assoc]; exact hB2⟩
      case measure => simp [intOf]; omega
    · have ek : k = l.length := by omega
      subst ek
      have hE : bs ++ two l.length ++ (l.take l.length).flatMap two = bs ++ nums l := by rw [List.take_length, nums, List.append_assoc]
      rw [hE] at hB
      have HB : Hid _ := hB
      clear hB
      go_wp2
      go_ret
      exact ⟨_, rfl, HB.out⟩
/-- What an image tells of the kind. -/
def Vol.kindN (v : Vol) : Nat := if v.lost then 2 else if v.org.isSome then 1 else 0
set_option maxHeartbeats 400000 in
set_option maxRecDepth 100000 in
theorem kind_calls (v : Vol) (w : World) (h : VolAt w v) : Calls Try.prog 80 #[.pointer (some ⟨v.vb, 0, none⟩)] w fun e w' => e = .returned (.int .i64 v.kindN) ∧ w' = w := by
  have hI := isPicture_calls v w h
  obtain ⟨cap, kcap, _, hv, _⟩ := h.vol
  have c4 : w.cell? ⟨v.vb, 4, none⟩ = some (.bool v.lost) := hv.cell? 4
  unfold Vol.kindN
  cases hl : v.lost with
  | true =>
    rw [hl] at c4
    clear hI hv h
    go_enter Try.func80, Try.ntmps80
    go_wp2
    go_ret
    exact ⟨rfl, rfl⟩
  | false =>
    rw [hl] at c4
    cases ho : v.org.isSome with
    | true =>
      rw [ho] at hI
      clear hv h
      go_enter Try.func80, Try.ntmps80
      go_wp2_with (go_at_call 56; refine hI.mono ?_; rintro e w1 ⟨rfl, hw⟩; obtain rfl := hw.symm)
      go_ret
      exact ⟨rfl, rfl⟩
    | false =>
      rw [ho] at hI
      clear hv h
      go_enter Try.func80, Try.ntmps80
      go_wp2_with (go_at_call 56; refine hI.mono ?_; rintro e w1 ⟨rfl, hw⟩; obtain rfl := hw.symm)
      go_ret
      exact ⟨rfl, rfl⟩
/-- The sum of bytes. -/
def sumB (l : List UInt8) : Nat := l.foldl (fun n b => (n * 31 + b.toNat) % 65521) 1
theorem sumB_lt (l : List UInt8) : sumB l < 65521 := by
  unfold sumB
  have : ∀ (l : List UInt8) (n : Nat), n < 65521 → l.foldl (fun n b => (n * 31 + b.toNat) % 65521) n < 65521 := by
    intro l
    induction l with
    | nil => intro n h; exact h
    | cons a r ih => intro n _; exact ih _ (Nat.mod_lt _ (by omega))
  exact this l 1 (by omega)
theorem sumB_snoc (l : List UInt8) (b : UInt8) : sumB (l ++ [b]) = (sumB l * 31 + b.toNat) % 65521 := by
  unfold sumB; rw [List.foldl_append]; rfl
/-- Bytes in memory, in a row. -/
structure BytesAt (w : World) (a : Option Addr) (bs : List UInt8) : Prop where
  ex : bs ≠ [] → ∃ b off, a = some ⟨b, off, none⟩ ∧ ∀ i, i < bs.length → w.cell? ⟨b, off + i, none⟩ = some (byteV bs[i]!)
set_option maxHeartbeats 800000 in
set_option maxRecDepth 100000 in
theorem sum_calls (w : World) (a : Option Addr) (cap : Nat) (bs : List UInt8) (h : BytesAt w a bs) (hl : bs.length ≤ maxLen) :
    Calls Try.prog 41 #[.slice a bs.length cap] w fun e w' => e = .returned (.int .i64 (sumB bs)) ∧ w' = w := by
  unfold maxLen at hl
  have HH : Hid (BytesAt w a bs) := h
  have HTK : Hid (∀ k, k < bs.length → bs.take (k + 1) = bs.take k ++ [bs[k]!]) := fun k hk => by rw [List.take_succ_eq_append_getElem hk, getElem!_pos bs k hk]
  clear h
  go_enter Try.func41, Try.ntmps41
  go_wp2
  go_loopw [3, 8] (fun n i wr => ∃ k : Nat, k ≤ bs.length ∧ i = .int .i64 k ∧ n = .int .i64 (sumB (bs.take k)) ∧ wr = w) (fun _ i _ => bs.length - (intOf i).toNat)
  case atStart => exact ⟨0, Nat.zero_le _, rfl, rfl, rfl⟩
  case round =>
    obtain ⟨k, hk, rfl, rfl, rfl⟩ := hrel
    by_cases hkl : k < bs.length
    · obtain ⟨b, off, rfl, hc⟩ := HH.out.ex (by intro e; rw [e] at hkl; simp at hkl)
      have c1 := hc k hkl
      unfold byteV at c1
      have HS : Hid (sumB (bs.take (k + 1)) = (sumB (bs.take k) * 31 + (bs[k]!).toNat) % 65521) := by show _ = _; rw [HTK.out k hkl, sumB_snoc]
      have hlt := sumB_lt (bs.take k)
      have hbt := (bs[k]!).toNat_lt
      generalize sumB (bs.take k) = m at *
      generalize (bs[k]!).toNat = x at *
      have l1 : (k : Int) < (bs.length : Int) := by omega
      have hx1 : ((m : Int) * 31 + (x : Int)).tmod 65521 = (((m * 31 + x) % 65521 : Nat) : Int) := by
        rw [Int.tmod_eq_emod_of_nonneg (by omega)]; omega
      clear HH hc
      go_wp2
      go_roundw
      case rel => exact ⟨k + 1, by omega, by go_num, by rw [HS.out]; first | rfl | (simp; done) | (congr 1; omega), by first | rfl | trivial⟩
      case measure => simp [intOf]; omega
    · have ek : k = bs.length := by omega
      subst ek
      have HE : Hid (sumB (bs.take bs.length) = sumB bs) := by show _ = _; rw [List.take_length]
      clear HH
      go_wp2
      go_ret
      rw [HE.out]
      exact ⟨rfl, rfl⟩
theorem made_plain (s : St) (w : World) (h : PoolAt w s) :
    Calls Try.prog 36 #[.pointer (some ⟨s.pb, 0, none⟩)] w fun e w' => e = .returned (.bool true) ∧ w' = w := made_calls s w h
theorem index_plain (s : St) (t : ByteArray) (w : World) (h : PoolAt w s) :
    Calls Try.prog 82 #[.pointer (some ⟨s.pb, 0, none⟩), .string t] w fun e w' => e = .returned (.tuple #[.int .i64 (posOf s.names t : Nat), .bool (isIn s.names t)]) ∧ w' = w := index_calls s t w h
theorem runNot (x : Bool) (w : World) : (Op.unary .not (.bool x)).run Try.prog w = .ok (.bool (!x)) w := rfl
theorem Good.all {s : St} {fr : List Nat} (h : Good s fr) : popsL s.m s.m s.d = fr.map (fun x : Nat => (x : Int)) := by
  have := (h.heap.pops s.m (Nat.le_refl _)).1
  rw [this, List.take_of_length_le (by rw [h.heap.len]; exact Nat.le_refl _)]
end
end Go.Proofs.Ytpddgdjocffgdaa
