/- What an image tells of a volume or a picture, by contracts. The image of a Pool, by contract. A reader of an image: must, next, by contracts: what they answer, and where they give up. What a reader reads, in plain words: a number, a name, numbers, an entry, the list. -/
import Derived.Test.YtpddgdjocffgdaaG04
import Derived.ArgAppend
import Derived.Lib.SmallJoins
import Derived.Test.YtpddgdjocffgdaaG02
import Derived.WalkLawsBesides
import Derived.Laws.IdiomStrings
namespace Go.Proofs.Ytpddgdjocffgdaa
set_option linter.unusedVariables false
set_option linter.unusedSimpArgs false
set_option linter.unusedSectionVars false
section
open Go.RowKit Go.Sort
variable [DecidableEq Blk] [Inhabited Blk] [Inhabited Vol]
/-- What stands in an image ahead of a list's numbers. -/
def headB (s : St) (v : Vol) : List UInt8 := [UInt8.ofNat v.name.size] ++ v.name.data.toList ++ [UInt8.ofNat v.kindN] ++ two (s.size v)
def entryB (s : St) (v : Vol) : List UInt8 :=
  headB s v ++ (match v.org with
  | none => nums v.xs
  | some _ => [UInt8.ofNat (posOf s.names (s.orgOf v).name)] ++ nums v.xs ++ nums v.kept)
theorem headB_length (s : St) (v : Vol) : (headB s v).length = v.name.size + 4 := by
  simp only [headB, List.length_append, two_length, List.length_cons, List.length_nil]
  have : v.name.data.toList.length = v.name.size := Array.length_toList
  omega
theorem entryB_length (s : St) (v : Vol) : (entryB s v).length ≤ v.name.size + 9 + 2 * v.xs.length + 2 * v.kept.length := by
  unfold entryB
  rw [List.length_append, headB_length]
  split
  · rw [nums_length]; omega
  · rw [List.length_append, List.length_append, nums_length, nums_length]; simp only [List.length_cons, List.length_nil]; omega
/-- One byte put behind bytes. -/
theorem wpList_buf_byte {ops : Array Oper} {rest : List Oper} {o : Oper} {a : Act} {Q : Exit → Act → World → Prop} (hgd : o.guard = none) (s x : Operand)
    (ho : o.op = .call { callee := .builtin .append, args := #[s, x], argTypes := #[25, 25] }) (w0 w : World) (u : Value) (bs : List UInt8) (hB : Buf w0 w u bs) (hs : a.eval s = u) (n : Nat) (c : Int) (hx : a.eval x = .slice (some ⟨w.heap.size, 0, none⟩) 1 1)
    (hc : c = ((UInt8.ofNat n).toNat : Int)) (hl : bs.length ≤ 1000000)
    (h : ∀ u' w', Buf w0 w' u' (bs ++ [UInt8.ofNat n]) → wpList Try.prog ops Q rest (a.put o.dst u') w') : wpList Try.prog ops Q (o :: rest) a (w.alloc (.cells #[.int .u8 c] 5)) := by
  obtain ⟨i0, hi, hz0, hz1, hz2⟩ := info_parts Try.info5
  have hz := hB.same.size
  refine wpList_append_own _ hgd s x 25 ho w0.heap.size 5 i0 (.int .u8 0) 1 1 Try.underlying25 hi hz0 hz1 hz2 rfl (by decide) u bs.length (bs.map byteV) hs (hB.own.alloc _) ⟨w.heap.size, 0, none⟩ 1 1 [.int .u8 c] hx rfl cells_new (by intro u hu; simp at hu; subst hu; rfl) (by unfold maxLen; omega) (by omega) (by simp; omega) ?_
  intro v' w4 hown' hgrow _
  refine h v' w4 (hB.app ((Same.refl _ _).alloc _) rfl ?_ hgrow)
  rw [show [UInt8.ofNat n].map byteV = [.int .u8 c] by rw [hc]; rfl]
  exact hown'
/-- A text's bytes put behind bytes. -/
theorem wpList_buf_text {ops : Array Oper} {rest : List Oper} {o : Oper} {a : Act} {Q : Exit → Act → World → Prop} (hgd : o.guard = none) (s x : Operand)
    (ho : o.op = .call { callee := .builtin .append, args := #[s, x], argTypes := #[25, 9] }) (w0 w : World) (u : Value) (bs : List UInt8) (hB : Buf w0 w u bs) (hs : a.eval s = u) (t : ByteArray) (hx : a.eval x = .string t)
    (hl : bs.length + t.size ≤ 1000000)
    (h : ∀ u' w', Buf w0 w' u' (bs ++ t.data.toList) → wpList Try.prog ops Q rest (a.put o.dst u') w') : wpList Try.prog ops Q (o :: rest) a w := by
  obtain ⟨i0, hi, hz0, hz1, hz2⟩ := info_parts Try.info5
  have hz := hB.same.size
  refine Lib.wpList_append_own_string _ hgd s x 25 9 ho w0.heap.size 5 i0 Try.underlying25 Try.underlying9 hi hz0 hz1 hz2 u bs.length (bs.map byteV) hs hB.own t hx (by unfold maxLen; omega) (by omega) hz ?_
  intro v' w4 hown' hgrow _
  exact h v' w4 (hB.app (n := bs.length + t.size) (Same.refl _ _) (by rw [show t.data.toList.length = t.size from Array.length_toList]) hown' hgrow)
/-- Bytes that lie in memory put behind bytes. -/
theorem wpList_buf_row {ops : Array Oper} {rest : List Oper} {o : Oper} {a : Act} {Q : Exit → Act → World → Prop} (hgd : o.guard = none) (s x : Operand)
    (ho : o.op = .call { callee := .builtin .append, args := #[s, x], argTypes := #[25, 25] }) (w0 w : World) (u : Value) (bs ns : List UInt8) (hB : Buf w0 w u bs) (hs : a.eval s = u) (g off cap : Nat) (hx : a.eval x = .slice (some ⟨g, off, none⟩) ns.length cap)
    (hc : ∀ j, j < ns.length → w.cell? ⟨g, off + j, none⟩ = some (byteV ns[j]!)) (hl : bs.length + ns.length ≤ 1000000)
    (h : ∀ u' w', Buf w0 w' u' (bs ++ ns) → wpList Try.prog ops Q rest (a.put o.dst u') w') : wpList Try.prog ops Q (o :: rest) a w := by
  obtain ⟨i0, hi, hz0, hz1, hz2⟩ := info_parts Try.info5
  have hz := hB.same.size
  refine wpList_append_own _ hgd s x 25 ho w0.heap.size 5 i0 (.int .u8 0) 1 1 Try.underlying25 hi hz0 hz1 hz2 rfl (by decide) u bs.length (bs.map byteV) hs hB.own ⟨g, off, none⟩ ns.length cap (ns.map byteV) hx (by simp) ?_ (bytes_one ns) (by unfold maxLen; omega) (by omega) (by omega) ?_
  · intro j u hj
    have hj' : j < ns.length := by
      rcases Nat.lt_or_ge j ns.length with h' | h'
      · exact h'
      · rw [List.getElem?_eq_none (by simpa using h')] at hj; cases hj
    rw [Addr.add_lit, hc j hj', ← hj, List.getElem?_map, List.getElem?_eq_getElem hj', getElem!_pos ns j hj']
    rfl
  · intro v' w4 hown' hgrow _
    exact h v' w4 (hB.app (Same.refl _ _) rfl hown' hgrow)
theorem u8_small (n : Nat) (h : n ≤ 255) : ((UInt8.ofNat n).toNat : Int) = (n : Int) := by
  rw [UInt8.toNat_ofNat']; omega
/-- What a volume's struct tells: its name, its blocks' numbers, the places that it keeps. -/
structure VolIn (w0 : World) (v : Vol) (cap kcap : Nat) : Prop where
  xs : NumsIn w0 (some ⟨v.gb, 0, none⟩) v.xs
  kept : NumsIn w0 (adr v.kg) v.kept
  name : ∀ W, Same [] w0 W → W.cell? ⟨v.vb, 0, none⟩ = some (.string v.name)
  blocks : ∀ W, Same [] w0 W → W.cell? ⟨v.vb, 1, none⟩ = some (.slice (some ⟨v.gb, 0, none⟩) v.xs.length cap)
  org : ∀ W, Same [] w0 W → W.cell? ⟨v.vb, 2, none⟩ = some (.pointer (adr v.org))
  places : ∀ W, Same [] w0 W → W.cell? ⟨v.vb, 3, none⟩ = some (.slice (adr v.kg) v.kept.length kcap)
theorem VolAt.in_ {w0 : World} {v : Vol} (h : VolAt w0 v) : ∃ cap kcap, VolIn w0 v cap kcap := by
  obtain ⟨cap, kcap, _, hv, h1, h2⟩ := h.vol
  obtain ⟨cs, hr⟩ := h.row
  refine ⟨cap, kcap, ⟨(fun e => by cases e), fun x hx => ?_⟩, NumsIn.of h1 h2, fun W hW => (hW.at hv (by simp)).cell? 0, fun W hW => (hW.at hv (by simp)).cell? 1, fun W hW => (hW.at hv (by simp)).cell? 2, fun W hW => (hW.at hv (by simp)).cell? 3⟩
  cases hx
  exact ⟨v.gb, cs, rfl, hr⟩
/-- The name, the kind, the size. -/
structure Heads (s : St) (v : Vol) (w0 : World) : Prop where
  pool : PoolAt w0 s
  mem : v ∈ s.vols
  name : v.name.size ≤ 10
  size : s.size v ≤ 200
  xs : ∀ x ∈ v.xs, x ≤ 65535
  kept : ∀ x ∈ v.kept, x ≤ 65535
set_option maxHeartbeats 2000000 in
set_option maxRecDepth 100000 in
theorem putVolume_vol (s : St) (v : Vol) (w0 w : World) (u : Value) (bs : List UInt8) (hH : Heads s v w0) (ho : v.org = none) (h : Buf w0 w u bs) (hl : bs.length ≤ 40000) :
    Calls Try.prog 39 #[.pointer (some ⟨s.pb, 0, none⟩), u, .pointer (some ⟨v.vb, 0, none⟩)] w fun e w' => ∃ u', e = .returned u' ∧ Buf w0 w' u' (bs ++ entryB s v) := by
  have hnot := runNot
  obtain ⟨h0, hv, hn, hsz, hx, hkx⟩ := hH
  have hV := fun W (hW : Same [] w0 W) => (h0.new hW).vols v hv
  have hK := fun W (hW : Same [] w0 W) => kind_calls v W (hV W hW)
  have hZ := fun W (hW : Same [] w0 W) => size_at (h0.new hW) hv
  have hI := fun W (hW : Same [] w0 W) => isPicture_calls v W (hV W hW)
  have HPN : Hid (∀ (W : World) (v : Value) (bs : List UInt8) (n : Nat), Buf w0 W v bs → bs.length ≤ 100000 → n ≤ 65535 → Calls Try.prog 37 #[v, .int .i64 n] W fun e w' => ∃ v', e = .returned v' ∧ Buf w0 w' v' (bs ++ two n)) := fun W v bs n h1 h2 h3 => putNumber_calls w0 W v bs n h1 h2 h3
  rw [ho] at hI
  have hkn : v.kindN ≤ 2 := by unfold Vol.kindN; split <;> (try split) <;> omega
  have HE : Hid (bs ++ [UInt8.ofNat v.name.size] ++ v.name.data.toList ++ [UInt8.ofNat v.kindN] ++ two (s.size v) ++ nums v.xs = bs ++ entryB s v) := by
    show _ = _
    unfold entryB headB; rw [ho]; simp [List.append_assoc]
  have hsm := (h0.vols v hv).small
  obtain ⟨cap, kcap, hvi⟩ := (h0.vols v hv).in_
  have HPS : Hid (∀ (W : World) (u : Value) (bs : List UInt8), Buf w0 W u bs → bs.length ≤ 50000 → Calls Try.prog 81 #[u, .slice (some ⟨v.gb, 0, none⟩) v.xs.length cap] W fun e w' => ∃ v', e = .returned v' ∧ Buf w0 w' v' (bs ++ nums v.xs)) := fun W u bs h1 h2 => putNumbers_calls w0 W u bs _ cap v.xs h1 h2 hvi.xs hsm hx
  have HVI : Hid (VolIn w0 v cap kcap) := hvi
  have HB : Hid (Buf w0 w u bs) := h
  have c0 := hvi.name w h.same
  have hts : v.name.data.toList.length = v.name.size := Array.length_toList
  have ht2 := two_length (s.size v)
  clear hV hvi h hx hkx
  go_enter Try.func39, Try.ntmps39
  go_wp2_with (at_builtin; refine wpList_buf_byte rfl _ _ rfl w0 w u bs HB.out rfl v.name.size _ rfl (by rw [u8_small _ (by omega)]) (by omega) ?_)
  intro u1 w1 hB1
  have d0 := HVI.out.name w1 hB1.same
  obtain ⟨b1, q1⟩ : ∃ b1, bs ++ [UInt8.ofNat v.name.size] = b1 := ⟨_, rfl⟩
  rw [q1] at hB1
  have hl1 : b1.length ≤ 40001 := by rw [← q1, List.length_append, List.length_singleton]; omega
  have H1 : Hid (bs ++ [UInt8.ofNat v.name.size] = b1) := q1
  have HB1 : Hid (Buf w0 w1 u1 b1) := hB1
  clear hB1 c0 q1
  go_wp2_with (at_builtin; refine wpList_buf_text rfl _ _ rfl w0 w1 u1 _ HB1.out rfl v.name rfl (by omega) ?_)
  intro u2 w2 hB2
  obtain ⟨b2, q2⟩ : ∃ b2, b1 ++ v.name.data.toList = b2 := ⟨_, rfl⟩
  rw [q2] at hB2
  have hl2 : b2.length ≤ 40011 := by rw [← q2, List.length_append]; omega
  have H2 : Hid (b1 ++ v.name.data.toList = b2) := q2
  have HB2 : Hid (Buf w0 w2 u2 b2) := hB2
  have hK2 := hK w2 hB2.same
  clear hB2 d0 q2
  go_wp2_with (first | (go_at_call 80; refine hK2.mono ?_; rintro e w' ⟨rfl, hw⟩; obtain rfl := hw.symm) | (at_builtin; refine wpList_buf_byte rfl _ _ rfl w0 w2 u2 _ HB2.out rfl v.kindN _ rfl (by rw [u8_small _ (by omega)]) (by omega) ?_))
  intro u3 w3 hB3
  obtain ⟨b3, q3⟩ : ∃ b3, b2 ++ [UInt8.ofNat v.kindN] = b3 := ⟨_, rfl⟩
  rw [q3] at hB3
  have hl3 : b3.length ≤ 40012 := by rw [← q3, List.length_append, List.length_singleton]; omega
  have H3 : Hid (b2 ++ [UInt8.ofNat v.kindN] = b3) := q3
  clear q3
  have hZ3 := hZ w3 hB3.same
  have hP3 := HPN.out w3 u3 _ (s.size v) hB3 (by omega) (by omega)
  clear hB3
  go_wp2_with (first | (go_at_call 57; refine hZ3.mono ?_; rintro e w' ⟨rfl, hw⟩; obtain rfl := hw.symm) | (go_at_call 37; refine hP3.mono ?_; rintro e w4 ⟨u4, rfl, hB4⟩))
  have hI4 := hI w4 hB4.same
  have e1 := HVI.out.blocks w4 hB4.same
  obtain ⟨b4, q4⟩ : ∃ b4, b3 ++ two (s.size v) = b4 := ⟨_, rfl⟩
  rw [q4] at hB4
  have hl4 : b4.length ≤ 40014 := by rw [← q4, List.length_append, ht2]; omega
  have H4 : Hid (b3 ++ two (s.size v) = b4) := q4
  have hS4 := HPS.out w4 u4 _ hB4 (by omega)
  clear hB4 hP3 q4
  go_wp2_with (first | (go_at_call 56; refine hI4.mono ?_; rintro e w' ⟨rfl, hw⟩; obtain rfl := hw.symm) | (go_at_call 81; refine hS4.mono ?_; rintro e w5 ⟨u5, rfl, hB5⟩))
  go_ret
  exact ⟨_, rfl, by rw [← HE.out, H1.out, H2.out, H3.out, H4.out]; exact hB5⟩
set_option maxHeartbeats 2000000 in
set_option maxRecDepth 100000 in
theorem putVolume_pic (s : St) (v o : Vol) (w0 w : World) (u : Value) (bs : List UInt8) (hH : Heads s v w0) (hom : o ∈ s.vols) (ho : v.org = some o.vb) (hoo : s.orgOf v = o) (h : Buf w0 w u bs) (hl : bs.length ≤ 40000) :
    Calls Try.prog 39 #[.pointer (some ⟨s.pb, 0, none⟩), u, .pointer (some ⟨v.vb, 0, none⟩)] w fun e w' => ∃ u', e = .returned u' ∧ Buf w0 w' u' (bs ++ entryB s v) := by
  have hnot := runNot
  obtain ⟨h0, hv, hn, hsz, hx, hkx⟩ := hH
  have hV := fun W (hW : Same [] w0 W) => (h0.new hW).vols v hv
  have hK := fun W (hW : Same [] w0 W) => kind_calls v W (hV W hW)
  have hZ := fun W (hW : Same [] w0 W) => size_at (h0.new hW) hv
  have hI := fun W (hW : Same [] w0 W) => isPicture_calls v W (hV W hW)
  have hIX := fun W (hW : Same [] w0 W) => index_plain s o.name W (h0.new hW)
  have hpos : posOf s.names o.name ≤ 20 := by
    have := List.countP_le_length (p := fun n => decide (cmpB n o.name < 0)) (l := s.names)
    have h2 : s.names.length = s.vols.length := by simp [St.names]
    have h3 := h0.few
    have h4 : s.names.countP (fun n => decide (cmpB n o.name < 0)) = posOf s.names o.name := rfl
    omega
  have HPN : Hid (∀ (W : World) (v : Value) (bs : List UInt8) (n : Nat), Buf w0 W v bs → bs.length ≤ 100000 → n ≤ 65535 → Calls Try.prog 37 #[v, .int .i64 n] W fun e w' => ∃ v', e = .returned v' ∧ Buf w0 w' v' (bs ++ two n)) := fun W v bs n h1 h2 h3 => putNumber_calls w0 W v bs n h1 h2 h3
  rw [ho] at hI
  have hkn : v.kindN ≤ 2 := by unfold Vol.kindN; split <;> (try split) <;> omega
  have HE : Hid (bs ++ [UInt8.ofNat v.name.size] ++ v.name.data.toList ++ [UInt8.ofNat v.kindN] ++ two (s.size v) ++ [UInt8.ofNat (posOf s.names o.name)] ++ nums v.xs ++ nums v.kept = bs ++ entryB s v) := by
    show _ = _
    unfold entryB headB; rw [ho, hoo]; simp [List.append_assoc]
  have hsm := (h0.vols v hv).small
  have hrm := (h0.vols v hv).room
  obtain ⟨cap, kcap, hvi⟩ := (h0.vols v hv).in_
  obtain ⟨ocap, okcap, hoi⟩ := (h0.vols o hom).in_
  have HPS : Hid (∀ (W : World) (u : Value) (bs : List UInt8), Buf w0 W u bs → bs.length ≤ 50000 → Calls Try.prog 81 #[u, .slice (some ⟨v.gb, 0, none⟩) v.xs.length cap] W fun e w' => ∃ v', e = .returned v' ∧ Buf w0 w' v' (bs ++ nums v.xs)) := fun W u bs h1 h2 => putNumbers_calls w0 W u bs _ cap v.xs h1 h2 hvi.xs hsm hx
  have HPK : Hid (∀ (W : World) (u : Value) (bs : List UInt8), Buf w0 W u bs → bs.length ≤ 50000 → Calls Try.prog 81 #[u, .slice (adr v.kg) v.kept.length kcap] W fun e w' => ∃ v', e = .returned v' ∧ Buf w0 w' v' (bs ++ nums v.kept)) := fun W u bs h1 h2 => putNumbers_calls w0 W u bs _ kcap v.kept h1 h2 hvi.kept (by omega) hkx
  have horg := hvi.org
  rw [ho] at horg
  have HORG : Hid (∀ W, Same [] w0 W → W.cell? ⟨v.vb, 2, none⟩ = some (.pointer (some ⟨o.vb, 0, none⟩))) := horg
  have HVI : Hid (VolIn w0 v cap kcap) := hvi
  have HOI : Hid (VolIn w0 o ocap okcap) := hoi
  have HB : Hid (Buf w0 w u bs) := h
  have c0 := hvi.name w h.same
  have hts : v.name.data.toList.length = v.name.size := Array.length_toList
  have ht2 := two_length (s.size v)
  have hnx := nums_length v.xs
  have hsome : (some o.vb).isSome = true := rfl
  rw [hsome] at hI
  clear hV hvi hoi h hx hkx horg hsome
  go_enter Try.func39, Try.ntmps39
  go_wp2_with (at_builtin; refine wpList_buf_byte rfl _ _ rfl w0 w u bs HB.out rfl v.name.size _ rfl (by rw [u8_small _ (by omega)]) (by omega) ?_)
  intro u1 w1 hB1
  have d0 := HVI.out.name w1 hB1.same
  obtain ⟨b1, q1⟩ : ∃ b1, bs ++ [UInt8.ofNat v.name.size] = b1 := ⟨_, rfl⟩
  rw [q1] at hB1
  have hl1 : b1.length ≤ 40001 := by rw [← q1, List.length_append, List.length_singleton]; omega
  have H1 : Hid (bs ++ [UInt8.ofNat v.name.size] = b1) := q1
  have HB1 : Hid (Buf w0 w1 u1 b1) := hB1
  clear hB1 c0 q1
  go_wp2_with (at_builtin; refine wpList_buf_text rfl _ _ rfl w0 w1 u1 _ HB1.out rfl v.name rfl (by omega) ?_)
  intro u2 w2 hB2
  obtain ⟨b2, q2⟩ : ∃ b2, b1 ++ v.name.data.toList = b2 := ⟨_, rfl⟩
  rw [q2] at hB2
  have hl2 : b2.length ≤ 40011 := by rw [← q2, List.length_append]; omega
  have H2 : Hid (b1 ++ v.name.data.toList = b2) := q2
  have HB2 : Hid (Buf w0 w2 u2 b2) := hB2
  have hK2 := hK w2 hB2.same
  clear hB2 d0 q2
  go_wp2_with (first | (go_at_call 80; refine hK2.mono ?_; rintro e w' ⟨rfl, hw⟩; obtain rfl := hw.symm) | (at_builtin; refine wpList_buf_byte rfl _ _ rfl w0 w2 u2 _ HB2.out rfl v.kindN _ rfl (by rw [u8_small _ (by omega)]) (by omega) ?_))
  intro u3 w3 hB3
  obtain ⟨b3, q3⟩ : ∃ b3, b2 ++ [UInt8.ofNat v.kindN] = b3 := ⟨_, rfl⟩
  rw [q3] at hB3
  have hl3 : b3.length ≤ 40012 := by rw [← q3, List.length_append, List.length_singleton]; omega
  have H3 : Hid (b2 ++ [UInt8.ofNat v.kindN] = b3) := q3
  clear q3
  have hZ3 := hZ w3 hB3.same
  have hP3 := HPN.out w3 u3 _ (s.size v) hB3 (by omega) (by omega)
  clear hB3
  go_wp2_with (first | (go_at_call 57; refine hZ3.mono ?_; rintro e w' ⟨rfl, hw⟩; obtain rfl := hw.symm) | (go_at_call 37; refine hP3.mono ?_; rintro e w4 ⟨u4, rfl, hB4⟩))
  have hI4 := hI w4 hB4.same
  have e2 := HORG.out w4 hB4.same
  have f0 := HOI.out.name w4 hB4.same
  have hX4 := hIX w4 hB4.same
  obtain ⟨b4, q4⟩ : ∃ b4, b3 ++ two (s.size v) = b4 := ⟨_, rfl⟩
  rw [q4] at hB4
  have hl4 : b4.length ≤ 40014 := by rw [← q4, List.length_append, ht2]; omega
  have H4 : Hid (b3 ++ two (s.size v) = b4) := q4
  have HB4 : Hid (Buf w0 w4 u4 b4) := hB4
  clear hB4 hP3 q4
  generalize posOf s.names o.name = po at *
  go_wp2_with (first | (go_at_call 56; refine hI4.mono ?_; rintro e w' ⟨rfl, hw⟩; obtain rfl := hw.symm) | (go_at_call 82; refine hX4.mono ?_; rintro e w' ⟨rfl, hw⟩; obtain rfl := hw.symm) | (at_builtin; refine wpList_buf_byte rfl _ _ rfl w0 w4 u4 _ HB4.out rfl po _ rfl (by rw [u8_small _ (by omega)]) (by omega) ?_))
  intro u5 w5 hB5
  have e1 := HVI.out.blocks w5 hB5.same
  obtain ⟨b5, q5⟩ : ∃ b5, b4 ++ [UInt8.ofNat po] = b5 := ⟨_, rfl⟩
  rw [q5] at hB5
  have hl5 : b5.length ≤ 40015 := by rw [← q5, List.length_append, List.length_singleton]; omega
  have H5 : Hid (b4 ++ [UInt8.ofNat po] = b5) := q5
  have hS5 := HPS.out w5 u5 _ hB5 (by omega)
  clear hB5 q5
  go_wp2_with fail
  refine hS5.mono ?_
  rintro e w6 ⟨u6, rfl, hB6⟩
  have e3 := HVI.out.places w6 hB6.same
  obtain ⟨b6, q6⟩ : ∃ b6, b5 ++ nums v.xs = b6 := ⟨_, rfl⟩
  rw [q6] at hB6
  have hl6 : b6.length ≤ 40500 := by rw [← q6, List.length_append, hnx]; omega
  have H6 : Hid (b5 ++ nums v.xs = b6) := q6
  have hS6 := HPK.out w6 u6 _ hB6 (by omega)
  clear hB6 hS5 q6
  go_wp2_with fail
  refine hS6.mono ?_
  rintro e w7 ⟨u7, rfl, hB7⟩
  go_wp2_with fail
  go_ret
  exact ⟨_, rfl, by rw [← HE.out, H1.out, H2.out, H3.out, H4.out, H5.out, H6.out]; exact hB7⟩
def Blk.intsI (b : Blk) : List Int := [b.b0, b.b1, b.b2, b.b3, b.b4, b.b5, b.b6, b.b7]
/-- A block's bytes. -/
def Blk.bytes (b : Blk) : List UInt8 := b.intsI.map fun n => UInt8.ofNat n.toNat
def Blk.fits (b : Blk) : Prop := ∀ n ∈ b.intsI, 0 ≤ n ∧ n ≤ 255
theorem Blk.bytes_length (b : Blk) : b.bytes.length = 8 := rfl
theorem Blk.bytes_cells (b : Blk) (h : b.fits) : b.bytes.map byteV = b.cells := by
  have key : ∀ n ∈ b.intsI, byteV (UInt8.ofNat n.toNat) = Value.int .u8 n := fun n hn => by
    have := h n hn
    unfold byteV
    rw [UInt8.toNat_ofNat']
    congr 1
    omega
  unfold Blk.bytes
  rw [List.map_map]
  show b.intsI.map _ = b.intsI.map (Value.int .u8)
  exact List.map_congr_left fun n hn => key n hn
def markB : List UInt8 := [83, 84, 82, 49]
/-- An image ahead of its sum. -/
def listB (s : St) (l : List Vol) : List UInt8 := l.flatMap (entryB s)
def bodyB (s : St) : List UInt8 := markB ++ two s.n ++ [UInt8.ofNat s.vols.length] ++ listB s s.vols ++ s.bl.flatMap Blk.bytes
def imgB (s : St) : List UInt8 := bodyB s ++ two (sumB (bodyB s))
theorem blks_length (l : List Blk) : (l.flatMap Blk.bytes).length = 8 * l.length := by
  induction l with
  | nil => rfl
  | cons a r ih => rw [List.flatMap_cons, List.length_append, ih, Blk.bytes_length, List.length_cons]; omega
theorem take_blks (l : List Blk) (k : Nat) (hk : k < l.length) : (l.take (k + 1)).flatMap Blk.bytes = (l.take k).flatMap Blk.bytes ++ (l[k]!).bytes := by
  rw [List.take_succ_eq_append_getElem hk, List.flatMap_append, getElem!_pos l k hk]
  simp
theorem take_list (s : St) (l : List Vol) (k : Nat) (hk : k < l.length) : listB s (l.take (k + 1)) = listB s (l.take k) ++ entryB s l[k]! := by
  unfold listB
  rw [List.take_succ_eq_append_getElem hk, List.flatMap_append, getElem!_pos l k hk]
  simp
theorem listB_length (s : St) (l : List Vol) (h : ∀ v ∈ l, (entryB s v).length ≤ 1000) : (listB s l).length ≤ 1000 * l.length := by
  induction l with
  | nil => simp [listB]
  | cons a r ih =>
    have h1 := h a (by simp)
    have h2 := ih (fun v hv => h v (List.mem_cons_of_mem _ hv))
    unfold listB at *
    rw [List.flatMap_cons, List.length_append, List.length_cons]
    omega
/-- Bytes in a block of new memory, cut with its capacity. -/
structure BytesNew (w w' : World) (g : Nat) (bs : List UInt8) : Prop where
  new : w.heap.size ≤ g
  ex : ∃ cs, At w' g 5 cs ∧ cs.take bs.length = bs.map byteV
  same : Same [] w w'
theorem buf_bytes {w0 w : World} {u : Value} {bs : List UInt8} (h : Buf w0 w u bs) : ∃ a cap, u = .slice a bs.length cap ∧ BytesAt w a bs := by
  obtain ⟨a, cap, rfl⟩ := h.form
  refine ⟨a, cap, rfl, ⟨fun hne => ?_⟩⟩
  have hn : bs.length ≠ 0 := fun e => hne (List.eq_nil_of_length_eq_zero e)
  obtain ⟨g, cs, rfl, _, hA, _, ht⟩ := owns_atN h.own hn
  refine ⟨g, 0, rfl, fun i hi => ?_⟩
  rw [Nat.zero_add, hA.cell?]
  have e : (cs.take (bs.length * 1))[i]? = cs[i]? := by rw [List.getElem?_take, if_pos (by omega)]
  rw [← e, ht, List.getElem?_map, List.getElem?_eq_getElem hi, getElem!_pos bs i hi]
  rfl
set_option maxHeartbeats 400000 in
set_option maxRecDepth 100000 in
theorem diskSize_calls (db : Nat) (n : Nat) (t : TypeId) (a : Option Addr) (c : Nat) (v1 : Value) (w : World) (h0 : At w db t [.slice a n c, v1]) (hn : n ≤ 1000) :
    Calls Try.prog 38 #[.pointer (some ⟨db, 0, none⟩)] w fun e w' => e = .returned (.int .i64 n) ∧ w' = w := by
  have h0' : w.cell? ⟨db, 0, none⟩ = some (.slice a n c) := h0.cell? 0
  clear h0
  go_enter Try.func38, Try.ntmps38
  go_wp2
  go_ret
  exact ⟨rfl, rfl⟩
/-- What is asked of a state for its image. -/
structure Imaged (s : St) (w : World) : Prop where
  pool : PoolAt w s
  name : ∀ v ∈ s.vols, v.name.size ≤ 10
  xs : ∀ v ∈ s.vols, ∀ x ∈ v.xs, x < 200
  kept : ∀ v ∈ s.vols, ∀ x ∈ v.kept, x < 200
  fits : ∀ x, x < s.n → (s.bl[x]!).fits
theorem Imaged.size {s : St} {w : World} (h : Imaged s w) {v : Vol} (hv : v ∈ s.vols) : s.size v ≤ 200 := by
  unfold St.size
  exact (h.pool.vols _ (h.pool.orgOf hv).1).small
theorem Imaged.entry {s : St} {w : World} (h : Imaged s w) {v : Vol} (hv : v ∈ s.vols) : (entryB s v).length ≤ 1000 := by
  have h1 := entryB_length s v
  have h2 := h.name v hv
  have h3 := (h.pool.vols v hv).small
  have h4 := (h.pool.vols v hv).room
  omega
theorem Imaged.put {s : St} {w : World} (h : Imaged s w) {v : Vol} (hv : v ∈ s.vols) (w1 : World) (u : Value) (bs : List UInt8) (hB : Buf w w1 u bs) (hl : bs.length ≤ 40000) :
    Calls Try.prog 39 #[.pointer (some ⟨s.pb, 0, none⟩), u, .pointer (some ⟨v.vb, 0, none⟩)] w1 fun e w' => ∃ u', e = .returned u' ∧ Buf w w' u' (bs ++ entryB s v) := by
  have hH : Heads s v w := ⟨h.pool, hv, h.name v hv, h.size hv, fun x hx => by have := h.xs v hv x hx; omega, fun x hx => by have := h.kept v hv x hx; omega⟩
  by_cases ho : v.org = none
  · exact putVolume_vol s v w w1 u bs hH ho hB hl
  · exact putVolume_pic s v (s.orgOf v) w w1 u bs hH (h.pool.orgOf hv).1 ((h.pool.orgOf hv).2.2.2 ho) rfl hB hl
set_option maxHeartbeats 400000 in
set_option maxRecDepth 100000 in
theorem putNumber_full (w0 w : World) (g : Nat) (bs : List UInt8) (n : Nat) (hS : Same [] w0 w) (hc : ∀ j, j < bs.length → w.cell? ⟨g, j, none⟩ = some (byteV bs[j]!)) (hg : g < w.heap.size) (hl : bs.length ≤ 100000) (hn : n ≤ 65535) :
    Calls Try.prog 37 #[.slice (some ⟨g, 0, none⟩) bs.length bs.length, .int .i64 n] w fun e w' => ∃ v', e = .returned v' ∧ Buf w0 w' v' (bs ++ two n) := by
  obtain ⟨i0, hi, hz0, hz1, hz2⟩ := info_parts Try.info5
  have HT : Hid ((two n).map byteV = [.int .u8 ((n : Int) / 256), .int .u8 ((n : Int) % 256)]) := two_cells n hn
  have hz := hS.size
  have HC : Hid (∀ j u, (bs.map byteV)[j]? = some u → (w.alloc (.cells #[.int .u8 ((n : Int) / 256), .int .u8 ((n : Int) % 256)] 5)).cell? ⟨g, j, none⟩ = some u) := fun j u hj => by
    have hj' : j < bs.length := by
      rcases Nat.lt_or_ge j bs.length with h' | h'
      · exact h'
      · rw [List.getElem?_eq_none (by simpa using h')] at hj; cases hj
    have e : (w.alloc (.cells #[.int .u8 ((n : Int) / 256), .int .u8 ((n : Int) % 256)] 5)).cell? ⟨g, j, none⟩ = w.cell? ⟨g, j, none⟩ := by
      simp [World.cell?, Below.heap_alloc w _ g hg]
    rw [e, hc j hj', ← hj, List.getElem?_map, List.getElem?_eq_getElem hj', getElem!_pos bs j hj']
    rfl
  clear hc
  go_enter Try.func37, Try.ntmps37
  go_wp2_with (at_builtin; refine wpList_append_grows _ rfl _ _ 25 rfl 5 i0 (.int .u8 0) 1 1 Try.underlying25 hi hz0 hz1 hz2 rfl (by decide) (some ⟨g, 0, none⟩) bs.length bs.length (bs.map byteV) rfl (fun e => by cases e) (by simp) ?c0 ⟨w.heap.size, 0, none⟩ 2 2 [.int .u8 ((n : Int) / 256), .int .u8 ((n : Int) % 256)] rfl rfl ?c1 ?c2 (by omega) ?c3 ?c4 ?_)
  case c0 => intro b hb j u hj; cases hb; rw [Addr.add_lit, Nat.zero_add]; exact HC.out j u hj
  case c1 => exact cells_new
  case c2 => intro u hu; simp at hu; rcases hu with rfl | rfl <;> rfl
  case c3 => unfold maxLen; omega
  case c4 => omega
  intro v' w4 hown' hgrow
  have HB : Hid (Buf w0 w4 v' (bs ++ two n)) := by
    refine ⟨?_, (hS.alloc _).grown hgrow (by simp)⟩
    rw [List.length_append, List.map_append, HT.out, two_length]
    exact owns_base hown' (by first | omega | (simp; omega))
  clear hown' hgrow
  go_wp2
  go_ret
  exact ⟨_, rfl, HB.out⟩
set_option maxHeartbeats 4000000 in
set_option maxRecDepth 100000 in
theorem image_calls (s : St) (w : World) (h : Imaged s w) :
    Calls Try.prog 12 #[.pointer (some ⟨s.pb, 0, none⟩)] w fun e w' => ∃ g, e = .returned (.slice (some ⟨g, 0, none⟩) (imgB s).length (imgB s).length) ∧ BytesNew w w' g (imgB s) := by
  have hnot := runNot
  have hcv := Joins.run_convert_bytes_const_at (P := Try.prog) w 25 5 #[.int .u8 83, .int .u8 84, .int .u8 82, .int .u8 49] 4 4 w.heap.size rfl Try.underlying25 Try.underlying5
  have hm := made_plain s w h.pool
  obtain ⟨cap, hp, hp1, hp2⟩ := h.pool.pool
  have hns := h.pool.disk.small
  have hbl := h.pool.disk.len
  have hfew := h.pool.few
  have HCP : Hid (∀ W, Same [] w W → W.cell? ⟨s.pb, 1, none⟩ = some (.pointer (some ⟨s.db, 0, none⟩)) ∧ W.cell? ⟨s.pb, 2, none⟩ = some (.slice (s.ab.map fun b => ⟨b, 0, none⟩) s.vols.length cap)) := fun W hW => ⟨(hW.at hp (by simp)).cell? 1, (hW.at hp (by simp)).cell? 2⟩
  have hSZ := fun W (hW : Same [] w W) => diskSize_calls s.db s.n _ _ _ _ W (hW.at h.pool.disk.disk (by simp)) (by omega)
  have hRD := fun W (hW : Same [] w W) (k : Nat) (hk : k < s.n) => diskRead_calls s.db s.bb s.n k _ _ _ s.bl W (.pointer (some ⟨s.db, 0, none⟩)) k rfl rfl (hW.at h.pool.disk.disk (by simp)) (hW.at h.pool.disk.data (by simp)) hbl hk (by omega)
  have HRD : Hid _ := hRD
  have HIM : Hid (Imaged s w) := h
  have HPN : Hid (∀ (W : World) (v : Value) (bs : List UInt8) (n : Nat), Buf w W v bs → bs.length ≤ 100000 → n ≤ 65535 → Calls Try.prog 37 #[v, .int .i64 n] W fun e w' => ∃ v', e = .returned v' ∧ Buf w w' v' (bs ++ two n)) := fun W v bs n h1 h2 h3 => putNumber_calls w W v bs n h1 h2 h3
  have SM : Same [] w (w.alloc (.cells #[.int .u8 83, .int .u8 84, .int .u8 82, .int .u8 49] 5 (4, 5))) := (Same.refl _ _).alloc _
  have hsz4 : (#[.int .u8 83, .int .u8 84, .int .u8 82, .int .u8 49] : Array Value).size = 4 := rfl
  rw [hsz4] at hcv
  obtain ⟨c1, c2⟩ := HCP.out _ SM
  have hz0 := hSZ _ SM
  have hP0 := putNumber_full w _ w.heap.size markB s.n SM (by
    intro j hj
    have hj4 : j < 4 := hj
    simp only [World.cell?, World.alloc]
    match j, hj4 with
    | 0, _ => simp [markB, byteV]
    | 1, _ => simp [markB, byteV]
    | 2, _ => simp [markB, byteV]
    | 3, _ => simp [markB, byteV]) (by simp) (by decide) (by omega)
  have hmk : markB.length = 4 := rfl
  rw [hmk] at hP0
  have lt1 := hp.lt
  have HAB : Hid (∀ W, Same [] w W → ∀ k, k < s.vols.length → ∃ b, (s.ab.map fun b => (⟨b, 0, none⟩ : Addr)) = some ⟨b, 0, none⟩ ∧ W.cell? ⟨b, k, none⟩ = some (.pointer (some ⟨(s.vols[k]!).vb, 0, none⟩))) := fun W hW k hk => by
    obtain ⟨b, q1, q2, _⟩ := (h.pool.new hW).cell k hk
    exact ⟨b, by rw [q1]; rfl, q2⟩
  generalize (s.ab.map fun b => (⟨b, 0, none⟩ : Addr)) = aa at *
  clear SM hRD h hp hsz4 hmk hp2
  go_enter Try.func12, Try.ntmps12
  go_wp2_with (first | (go_at_call 36; refine hm.mono ?_; rintro e w' ⟨rfl, hw⟩; obtain rfl := hw.symm) | (go_at_call 38; refine hz0.mono ?_; rintro e w' ⟨rfl, hw⟩; obtain rfl := hw.symm) | (go_at_call 37; refine hP0.mono ?_; rintro e w1 ⟨u1, rfl, hB1⟩; obtain ⟨b1, q1⟩ : ∃ b1, markB ++ two s.n = b1 := ⟨_, rfl⟩; rw [q1] at hB1; have H1 : Hid (markB ++ two s.n = b1) := q1; have hl1 : b1.length = 6 := (by rw [← q1]; rfl); clear q1; obtain ⟨d1, d2⟩ := HCP.out w1 hB1.same; have HB1 : Hid (Buf w w1 u1 b1) := hB1; clear hB1) | (at_builtin; refine wpList_buf_byte rfl _ _ rfl w w1 u1 _ HB1.out rfl s.vols.length _ rfl (by rw [u8_small _ (by omega)]) (by omega) ?_))
  intro u2 w2 hB2
  obtain ⟨b2, q2⟩ : ∃ b2, b1 ++ [UInt8.ofNat s.vols.length] = b2 := ⟨_, rfl⟩
  rw [q2] at hB2
  have H2 : Hid (b1 ++ [UInt8.ofNat s.vols.length] = b2) := q2
  have hl2 : b2.length = 7 := by rw [← q2, List.length_append, hl1]; rfl
  obtain ⟨e1, e2⟩ := HCP.out w2 hB2.same
  have HB2 : Hid (Buf w w2 u2 b2) := hB2
  clear hB2 q2 hP0 hz0 c1 c2 d1 d2
  go_wp2_with fail
  go_loopw [3, 33] (fun u i wr => ∃ (k : Nat) (bs : List UInt8), k ≤ s.vols.length ∧ i = .int .i64 k ∧ Buf w wr u bs ∧ Hid (bs = b2 ++ listB s (s.vols.take k))) (fun _ i _ => s.vols.length - (intOf i).toNat)
  case atStart => exact ⟨0, b2, Nat.zero_le _, rfl, HB2.out, by show _ = _; simp [listB]⟩
  case round =>
    obtain ⟨k, bs, hk, rfl, hB, HQ⟩ := hrel
    by_cases hkl : k < s.vols.length
    · obtain ⟨b, rfl, hcell⟩ := HAB.out wr hB.same k hkl
      have hmem : s.vols[k]! ∈ s.vols := by rw [getElem!_pos s.vols k hkl]; exact List.getElem_mem hkl
      have hlen : bs.length ≤ 40000 := by
        rw [HQ.out, List.length_append, hl2]
        have := listB_length s (s.vols.take k) (fun v hv => HIM.out.entry (List.mem_of_mem_take hv))
        rw [List.length_take] at this
        omega
      have hPV := HIM.out.put hmem wr _ bs hB hlen
      have HL : Hid (b2 ++ listB s (s.vols.take (k + 1)) = bs ++ entryB s (s.vols[k]!)) := by show _ = _; rw [take_list s s.vols k hkl, HQ.out, List.append_assoc]
      generalize s.vols[k]! = v at *
      have l1 : (k : Int) < (s.vols.length : Int) := by omega
      clear hB HQ hmem hlen
      go_wp2_with (go_at_call 39; refine hPV.mono ?_; rintro e w3 ⟨u3', rfl, hB3⟩)
      go_roundw
      case rel => exact ⟨k + 1, _, by omega, by go_num, hB3, HL.out.symm⟩
      case measure => simp [intOf]; omega
    · have ek : k = s.vols.length := by omega
      subst ek
      obtain ⟨f1, _⟩ := HCP.out wr hB.same
      have hz3 := hSZ wr hB.same
      have hlen : bs.length ≤ 21000 := by
        rw [HQ.out, List.length_append, hl2]
        have := listB_length s (s.vols.take s.vols.length) (fun v hv => HIM.out.entry (List.mem_of_mem_take hv))
        rw [List.length_take] at this
        omega
      have HL : Hid (bs = markB ++ two s.n ++ [UInt8.ofNat s.vols.length] ++ listB s s.vols) := by
        show _ = _
        rw [HQ.out, List.take_length, ← H2.out, ← H1.out]
      have HB3 : Hid (Buf w wr _ bs) := hB
      clear hB HQ e1 e2
      go_wp2_with (go_at_call 38; refine hz3.mono ?_; rintro e w' ⟨rfl, hw⟩; obtain rfl := hw.symm)
      go_loopw [3, 47] (fun u i wi => ∃ (j : Nat) (cs : List UInt8), j ≤ s.n ∧ i = .int .i64 j ∧ Buf w wi u cs ∧ Hid (cs = bs ++ (s.bl.take j).flatMap Blk.bytes)) (fun _ i _ => s.n - (intOf i).toNat)
      case atStart => exact ⟨0, bs, Nat.zero_le _, rfl, HB3.out, by show _ = _; simp⟩
      case round =>
        obtain ⟨j, cs, hj, rfl, hC, HQ⟩ := hrel
        have hcl : cs.length ≤ 30000 := by
          rw [HQ.out, List.length_append, blks_length, List.length_take]; omega
        by_cases hjl : j < s.n
        · have hR := HRD.out wr hC.same j hjl
          obtain ⟨g1, _⟩ := HCP.out wr hC.same
          have hft := Blk.bytes_cells _ (HIM.out.fits j hjl)
          have HT : Hid (bs ++ (s.bl.take (j + 1)).flatMap Blk.bytes = cs ++ (s.bl[j]!).bytes) := by show _ = _; rw [take_blks s.bl j (by omega), HQ.out, List.append_assoc]
          generalize s.bl[j]! = y at *
          have hyb := y.bytes_length
          have HFT : Hid (y.bytes.map byteV = y.cells) := hft
          generalize y.bytes = yb at *
          have hyl : y.cells.length = 8 := rfl
          obtain ⟨y0, y1, y2, y3, y4, y5, y6, y7⟩ := y
          unfold Blk.val at hR
          have l2 : (j : Int) < (s.n : Int) := by omega
          have HC : Hid (Buf w wr _ cs) := hC
          clear hC HQ hft
          go_wp2_with (first | (go_at_call 40; refine hR.mono ?_; rintro e w4 ⟨rfl, S4⟩; have N4 := At.new w4 #[.int .u8 y0, .int .u8 y1, .int .u8 y2, .int .u8 y3, .int .u8 y4, .int .u8 y5, .int .u8 y6, .int .u8 y7] 55; have HN4 : Hid (∀ j, j < yb.length → (w4.alloc (.cells #[.int .u8 y0, .int .u8 y1, .int .u8 y2, .int .u8 y3, .int .u8 y4, .int .u8 y5, .int .u8 y6, .int .u8 y7] 55)).cell? ⟨w4.heap.size, 0 + j, none⟩ = some (byteV yb[j]!)) := (fun j hj => (by rw [N4.cell?, Nat.zero_add]; show (Blk.cells ⟨y0, y1, y2, y3, y4, y5, y6, y7⟩)[j]? = _; rw [← HFT.out, List.getElem?_map, List.getElem?_eq_getElem hj, getElem!_pos yb j hj]; rfl)); have HC4 := (HC.out.new S4).new ((Same.refl [] _).alloc (.cells #[.int .u8 y0, .int .u8 y1, .int .u8 y2, .int .u8 y3, .int .u8 y4, .int .u8 y5, .int .u8 y6, .int .u8 y7] 55)); have HCC : Hid (Buf w (w4.alloc (.cells #[.int .u8 y0, .int .u8 y1, .int .u8 y2, .int .u8 y3, .int .u8 y4, .int .u8 y5, .int .u8 y6, .int .u8 y7] 55)) _ cs) := HC4; clear HC4 N4) | (at_builtin; refine wpList_buf_row rfl _ _ rfl w _ _ cs yb HCC.out rfl w4.heap.size 0 8 (by rw [hyb]; rfl) HN4.out (by omega) ?_))
          intro u5 w5 hB5
          go_wp2
          go_roundw
          case rel => exact ⟨j + 1, _, by omega, by go_num, hB5, HT.out.symm⟩
          case measure => simp [intOf]; omega
        · have ej : j = s.n := by omega
          subst ej
          have hbody : cs = bodyB s := by
            rw [HQ.out, HL.out, bodyB, ← hbl, List.take_length]
          subst hbody
          have HIMG : Hid (imgB s = bodyB s ++ two (sumB (bodyB s))) := rfl
          generalize bodyB s = bo at *
          have hsl := sumB_lt bo
          have hPx := HPN.out wr _ bo (sumB bo) hC (by omega) (by omega)
          obtain ⟨a, c0, rfl, hBA⟩ := buf_bytes hC
          have hSm := sum_calls wr a c0 bo hBA (by unfold maxLen; omega)
          clear hC HQ hBA HL
          go_wp2_with (first | (go_at_call 41; refine hSm.mono ?_; rintro e w' ⟨rfl, hw⟩; obtain rfl := hw.symm) | (go_at_call 37; refine hPx.mono ?_; rintro e w5 ⟨u5, rfl, hB5⟩; obtain ⟨bt, q5⟩ : ∃ bt, bo ++ two (sumB bo) = bt := ⟨_, rfl⟩; rw [q5] at hB5; have hbt : bt.length = bo.length + 2 := (by rw [← q5, List.length_append, two_length]); have HBT : Hid (imgB s = bt) := (HIMG.out.trans q5); have hsame := hB5.same; obtain ⟨a5, c5, rfl⟩ := hB5.form; obtain ⟨g5, cs5, rfl, hg5, hA5, hcl5, ht5⟩ := owns_atN hB5.own (by omega); have hc5 : bt.length ≤ c5 := (by have := congrArg List.length ht5; rw [List.length_take, List.length_map] at this; omega); have m1 : (bt.length : Int) ≤ (c5 : Int) := (by omega); have m2 : (0 : Int) ≤ (bt.length : Int) := (by omega); have m3 : ((bt.length : Int)).toNat = bt.length := (by omega); have HFN : Hid (BytesNew w w5 g5 bt) := ⟨hg5, ⟨cs5, hA5, (by rw [← Nat.mul_one bt.length]; exact ht5)⟩, hsame⟩; clear hB5 q5 hA5 ht5 hcl5 hsame))
          go_ret
          rw [HBT.out]
          refine ⟨g5, ?_, HFN.out⟩
          rw [hbt]
          rfl
/-- A reader gives up at a place. -/
def bad (q : Nat) : Ending := .panicked [{ v := .iface 153 (.int .i64 q), recovered := false }]
set_option maxHeartbeats 400000 in
set_option maxRecDepth 100000 in
theorem must_ok (q : Int) (w : World) : Calls Try.prog 106 #[.bool true, .int .i64 q] w fun e w' => e = .returned (.tuple #[]) ∧ w' = w := by
  have hnot := runNot
  go_enter Try.func106, Try.ntmps106
  go_wp2
  go_end0
  exact ⟨rfl, rfl⟩
set_option maxHeartbeats 400000 in
set_option maxRecDepth 100000 in
theorem must_bad (q : Nat) (w : World) : Calls Try.prog 106 #[.bool false, .int .i64 q] w fun e w' => e = bad q ∧ w' = w := by
  have hnot := runNot
  unfold bad
  go_enter Try.func106, Try.ntmps106
  go_wp2
  exact ⟨rfl, rfl, rfl⟩
/-- Bytes that lay in memory when the reading began. -/
structure BytesOld (w0 : World) (a : Option Addr) (B : List UInt8) : Prop where
  ex : B ≠ [] → ∃ b off, a = some ⟨b, off, none⟩ ∧ b < w0.heap.size ∧ ∀ i, i < B.length → w0.cell? ⟨b, off + i, none⟩ = some (byteV B[i]!)
  len : B.length ≤ 140737488355328
theorem BytesOld.at {w0 w : World} {a : Option Addr} {B : List UInt8} (h : BytesOld w0 a B) (hS : Same [] w0 w) (hne : B ≠ []) : ∃ b off, a = some ⟨b, off, none⟩ ∧ b < w0.heap.size ∧ ∀ i, i < B.length → w.cell? ⟨b, off + i, none⟩ = some (byteV B[i]!) := by
  obtain ⟨b, off, h1, h2, h3⟩ := h.ex hne
  refine ⟨b, off, h1, h2, fun i hi => ?_⟩
  rw [(hS.below (Nat.le_refl _) (by simp)).cell h2]
  exact h3 i hi
/-- A reader in new memory, at a place. -/
structure RdAt (w0 w : World) (a : Option Addr) (B : List UInt8) (rd at_ : Nat) : Prop where
  cell : At w rd 117 [.slice a B.length B.length, .int .i64 at_]
  new : w0.heap.size ≤ rd
  same : Same [] w0 w
  le : at_ ≤ B.length
theorem RdAt.next {w0 w w' : World} {a : Option Addr} {B : List UInt8} {rd at_ : Nat} (h : RdAt w0 w a B rd at_) {S : List Nat} (hs : Same S w w') (hn : rd ∉ S) (hS : ∀ k ∈ S, w0.heap.size ≤ k) : RdAt w0 w' a B rd at_ :=
  ⟨hs.at h.cell hn, h.new, h.same.step hs (fun k hk hl => by have := hS k hk; omega), h.le⟩
set_option maxHeartbeats 400000 in
set_option maxRecDepth 100000 in
theorem next_ok (w0 w : World) (a : Option Addr) (B : List UInt8) (rd at_ n b off : Nat) (hB : BytesOld w0 a B) (h : RdAt w0 w a B rd at_) (ha : a = some ⟨b, off, none⟩) (hn : 1 ≤ n) (hle : at_ + n ≤ B.length) :
    Calls Try.prog 120 #[.pointer (some ⟨rd, 0, none⟩), .int .i64 n] w fun e w' => e = .returned (.slice (some ⟨b, off + at_, none⟩) n n) ∧ RdAt w0 w' a B rd (at_ + n) ∧ Same [rd] w w' := by
  have hlen := hB.len
  subst ha
  have c0 : w.cell? ⟨rd, 0, none⟩ = some (.slice (some ⟨b, off, none⟩) B.length B.length) := h.cell.cell? 0
  have c1 : w.cell? ⟨rd, 1, none⟩ = some (.int .i64 at_) := h.cell.cell? 1
  have f1 : w.frozen? ⟨rd, 1, none⟩ = false := h.cell.frozen 1
  have hM := fun W q => must_ok q W
  have hadd : IntKind.i64.wrap ((at_ : Int) + (n : Int)) = ((at_ + n : Nat) : Int) := by rw [IntWalk.i64_in _ (by omega)]; omega
  have HR : Hid (RdAt w0 w (some ⟨b, off, none⟩) B rd at_) := h
  clear h
  go_enter Try.func120, Try.ntmps120
  go_wp2_with fail
  go_region
  go_wp2_with fail
  refine region_tail 12 (by kernel_rfl) (by kernel_rfl) ?_
  simp only [List.take_succ_cons, List.take_zero, List.drop_succ_cons, List.drop_zero]
  repeat still_step
  refine wpStill_nil ?_
  have hle' : (at_ : Int) + (n : Int) ≤ (B.length : Int) := by omega
  have HF : Hid (RdAt w0 ((w.drew.drew).setCell ⟨rd, 1, none⟩ (.int .i64 ((at_ : Int) + (n : Int)))) (some ⟨b, off, none⟩) B rd (at_ + n) ∧ Same [rd] w ((w.drew.drew).setCell ⟨rd, 1, none⟩ (.int .i64 ((at_ : Int) + (n : Int))))) := by
    have S2 : Same [rd] w ((w.drew.drew).setCell ⟨rd, 1, none⟩ (.int .i64 ((at_ : Int) + (n : Int)))) := ((Same.refl _ _).drew.drew).set _ _ _ (by simp)
    refine ⟨⟨?_, HR.out.new, HR.out.same.step S2 (fun k hk hl => by simp at hk; have := HR.out.new; omega), hle⟩, S2⟩
    have := (HR.out.cell.drew.drew).set_same 1 (.int .i64 ((at_ : Int) + (n : Int)))
    simpa using this
  have t1 : ((at_ : Int)).toNat = at_ := by omega
  have t2 : ((at_ : Int) + (n : Int)).toNat = at_ + n := by omega
  have t3 : at_ + n - at_ = n := by omega
  have t4 : at_ ≤ at_ + n := by omega
  have t5 : (at_ : Int) ≤ (at_ : Int) + (n : Int) := by omega
  have t6 : (0 : Int) ≤ (at_ : Int) := by omega
  go_wp2_with (go_at_call 106; refine (hM _ _).mono ?_; rintro e w' ⟨rfl, hw⟩; obtain rfl := hw.symm)
  go_ret
  exact ⟨rfl, HF.out.1, HF.out.2⟩
set_option maxHeartbeats 400000 in
set_option maxRecDepth 100000 in
theorem next_bad (w0 w : World) (a : Option Addr) (B : List UInt8) (rd at_ n : Nat) (hB : BytesOld w0 a B) (h : RdAt w0 w a B rd at_) (hn : n ≤ 10000) (hle : B.length < at_ + n) :
    Calls Try.prog 120 #[.pointer (some ⟨rd, 0, none⟩), .int .i64 n] w fun e w' => e = bad B.length ∧ Same [] w w' := by
  have hlen := hB.len
  have hal := h.le
  have c0 : w.cell? ⟨rd, 0, none⟩ = some (.slice a B.length B.length) := h.cell.cell? 0
  have c1 : w.cell? ⟨rd, 1, none⟩ = some (.int .i64 at_) := h.cell.cell? 1
  have hM := fun W => must_bad B.length W
  have hadd : IntKind.i64.wrap ((at_ : Int) + (n : Int)) = ((at_ + n : Nat) : Int) := by rw [IntWalk.i64_in _ (by omega)]; omega
  have S2 : Same [] w w.drew.drew := (Same.refl _ _).drew.drew
  unfold bad at *
  clear h
  go_enter Try.func120, Try.ntmps120
  go_wp2_with fail
  go_region
  go_wp2_with fail
  refine region_tail 12 (by kernel_rfl) (by kernel_rfl) ?_
  simp only [List.take_succ_cons, List.take_zero, List.drop_succ_cons, List.drop_zero]
  repeat still_step
  refine wpStill_nil ?_
  have hle' : ¬ ((at_ : Int) + (n : Int) ≤ (B.length : Int)) := by omega
  go_wp2_with (go_at_call 106; refine (hM _).mono ?_; rintro e w' ⟨rfl, hw⟩; obtain rfl := hw.symm)
  exact ⟨rfl, rfl, S2⟩
/-- The number that bytes tell, the higher first. -/
def valB (l : List UInt8) : Nat := l.foldl (fun n b => n * 256 + b.toNat) 0
theorem valB_snoc (l : List UInt8) (b : UInt8) : valB (l ++ [b]) = valB l * 256 + b.toNat := by unfold valB; rw [List.foldl_append]; rfl
theorem or_add (n x : Nat) (hx : x < 256) : (n * 256) ||| x = n * 256 + x := by
  have := Nat.two_pow_add_eq_or_of_lt (i := 8) (b := x) (by simpa using hx) n
  rw [Nat.mul_comm n 256]
  simpa using this.symm
theorem bits_or_i64 (a b : Nat) (ha : a < 65536) (hb : b < 256) : bits .or .i64 ((a : Int) * 256) (b : Int) = ((a * 256 + b : Nat) : Int) := by
  have e1 : (BitVec.ofInt IntKind.i64.bits ((a : Int) * 256)) = BitVec.ofNat 64 (a * 256) := by
    rw [show ((a : Int) * 256) = ((a * 256 : Nat) : Int) by omega]
    exact BitVec.ofInt_natCast 64 (a * 256)
  have e2 : (BitVec.ofInt IntKind.i64.bits (b : Int)) = BitVec.ofNat 64 b := BitVec.ofInt_natCast 64 b
  have h1 : bits .or .i64 ((a : Int) * 256) (b : Int) = IntKind.i64.wrap ((BitVec.ofNat 64 (a * 256) ||| BitVec.ofNat 64 b).toNat : Int) := by
    unfold bits
    simp only [e1, e2]
    rfl
  rw [h1, BitVec.toNat_or, BitVec.toNat_ofNat, BitVec.toNat_ofNat, Nat.mod_eq_of_lt (by omega), Nat.mod_eq_of_lt (by omega), or_add a b hb]
  exact IntWalk.i64_in _ (by omega)
theorem valB_two (l : List UInt8) (h : l.length ≤ 2) : valB l < 65536 := by
  match l, h with
  | [], _ => simp [valB]
  | [a], _ => have := a.toNat_lt; simp [valB]; omega
  | [a, b], _ => have := a.toNat_lt; have := b.toNat_lt; simp [valB]; omega
theorem valB_one (l : List UInt8) (h : l.length ≤ 1) : valB l < 256 := by
  match l, h with
  | [], _ => simp [valB]
  | [a], _ => have := a.toNat_lt; simp [valB]; omega
/-- The number of so many bytes at a place. -/
def numAt (B : List UInt8) (at_ n : Nat) : Nat := valB ((B.drop at_).take n)
theorem numAt_lt (B : List UInt8) (at_ n : Nat) (h : n ≤ 2) : numAt B at_ n < 65536 := valB_two _ (by rw [List.length_take]; omega)
set_option maxHeartbeats 800000 in
set_option maxRecDepth 100000 in
theorem number_in (w0 w : World) (a : Option Addr) (B : List UInt8) (rd at_ n : Nat) (low high : Int) (hB : BytesOld w0 a B) (h : RdAt w0 w a B rd at_) (hn : n = 1 ∨ n = 2) (hle : at_ + n ≤ B.length) (Q : Ending → World → Prop)
    (hok : low ≤ (numAt B at_ n : Int) ∧ (numAt B at_ n : Int) ≤ high → ∀ w', RdAt w0 w' a B rd (at_ + n) → Same [rd] w w' → Q (.returned (.int .i64 (numAt B at_ n))) w')
    (hno : ¬ (low ≤ (numAt B at_ n : Int) ∧ (numAt B at_ n : Int) ≤ high) → ∀ w', Same [rd] w w' → Q (bad at_) w') :
    Calls Try.prog 102 #[.pointer (some ⟨rd, 0, none⟩), .int .i64 n, .int .i64 low, .int .i64 high] w Q := by
  have hne : B ≠ [] := fun e => by rw [e] at hle; simp at hle; omega
  obtain ⟨b, off, ha, _, _⟩ := hB.ex hne
  have hN := next_ok w0 w a B rd at_ n b off hB h ha (by omega) hle
  have hM := fun W q => must_ok q W
  have hMb := fun W => must_bad at_ W
  have c1 : w.cell? ⟨rd, 1, none⟩ = some (.int .i64 at_) := h.cell.cell? 1
  have hlt : ∀ k, k ≤ 2 → valB ((B.drop at_).take k) < 65536 := fun k hk => valB_two _ (by rw [List.length_take]; omega)
  have hlt1 : ∀ k, k ≤ 1 → valB ((B.drop at_).take k) < 256 := fun k hk => valB_one _ (by rw [List.length_take]; omega)
  have HTK : Hid (∀ k, k < n → (B.drop at_).take (k + 1) = (B.drop at_).take k ++ [B[at_ + k]!]) := fun k hk => by
    rw [List.take_succ_eq_append_getElem (by rw [List.length_drop]; omega), List.getElem_drop, getElem!_pos B _ (by omega)]
  have HC : Hid (∀ i, i < B.length → ∀ W, Same [] w0 W → W.cell? ⟨b, off + i, none⟩ = some (byteV B[i]!)) := fun i hi W hW => by
    obtain ⟨b', off', ha', _, hcc⟩ := hB.at hW hne
    rw [ha] at ha'
    obtain ⟨rfl, rfl⟩ : b = b' ∧ off = off' := by simpa using ha'
    exact hcc i hi
  have HOK : Hid _ := hok
  have HNO : Hid _ := hno
  have HVD : Hid (numAt B at_ n = valB ((B.drop at_).take n)) := rfl
  have hnv := numAt_lt B at_ n (by omega)
  generalize numAt B at_ n = nv at *
  generalize (B.drop at_) = D at *
  unfold bad at hMb
  clear hok hno h hne
  go_enter Try.func102, Try.ntmps102
  go_wp2_with (go_at_call 120; refine hN.mono ?_; rintro e w1 ⟨rfl, hR1, S1⟩)
  go_loopw [10, 21] (fun x i wr => ∃ k : Nat, k ≤ n ∧ i = .int .i64 k ∧ x = .int .i64 (valB (D.take k)) ∧ wr = w1) (fun _ i _ => n - (intOf i).toNat)
  case atStart => exact ⟨0, Nat.zero_le _, rfl, rfl, rfl⟩
  case round =>
    obtain ⟨k, hk, rfl, rfl, rfl⟩ := hrel
    by_cases hkl : k < n
    · have hcc := HC.out (at_ + k) (by omega) wr hR1.same
      unfold byteV at hcc
      have hs := hlt1 k (by omega)
      have HS : Hid (valB (D.take (k + 1)) = valB (D.take k) * 256 + (B[at_ + k]!).toNat) := by show _ = _; rw [HTK.out k hkl, valB_snoc]
      have hbt := (B[at_ + k]!).toNat_lt
      rw [← Nat.add_assoc] at hcc
      generalize valB (D.take k) = m at *
      generalize (B[at_ + k]!).toNat = x at *
      have hor : bits .or .i64 ((m : Int) * 256) (x : Int) = ((m * 256 + x : Nat) : Int) := bits_or_i64 m x (by omega) (by omega)
      have l1 : (k : Int) < (n : Int) := by omega
      go_wp2
      go_roundw
      case rel => exact ⟨k + 1, by omega, by go_num, by rw [HS.out]; first | rfl | (push_cast; rfl) | simp, by first | rfl | trivial⟩
      case measure => simp [intOf]; omega
    · have ek : k = n := by omega
      subst ek
      have hE : valB (D.take k) = nv := HVD.out.symm
      rw [hE] at *
      by_cases hr : low ≤ (nv : Int) ∧ (nv : Int) ≤ high
      · obtain ⟨r1, r2⟩ := hr
        have HQ := HOK.out ⟨r1, r2⟩ wr hR1 S1
        clear hlt hlt1 hN hR1
        go_wp2_with (go_at_call 106; refine (hM _ _).mono ?_; rintro e w' ⟨rfl, hw⟩; obtain rfl := hw.symm)
        first
          | exact HQ
          | (go_ret; exact HQ)
      · have HQ := HNO.out hr wr S1
        unfold bad at HQ
        clear hlt hlt1 hN hR1
        by_cases r1 : low ≤ (nv : Int)
        · have r2 : ¬ (nv : Int) ≤ high := fun q => hr ⟨r1, q⟩
          clear hr
          go_wp2_with (go_at_call 106; refine (hMb _).mono ?_; rintro e w' ⟨rfl, hw⟩; obtain rfl := hw.symm)
          exact ⟨rfl, HQ⟩
        · clear hr
          go_wp2_with (go_at_call 106; refine (hMb _).mono ?_; rintro e w' ⟨rfl, hw⟩; obtain rfl := hw.symm)
          exact ⟨rfl, HQ⟩
set_option maxHeartbeats 400000 in
set_option maxRecDepth 100000 in
theorem number_end (w0 w : World) (a : Option Addr) (B : List UInt8) (rd at_ n : Nat) (low high : Int) (hB : BytesOld w0 a B) (h : RdAt w0 w a B rd at_) (hn : n = 1 ∨ n = 2) (hle : B.length < at_ + n) :
    Calls Try.prog 102 #[.pointer (some ⟨rd, 0, none⟩), .int .i64 n, .int .i64 low, .int .i64 high] w fun e w' => e = bad B.length ∧ Same [] w w' := by
  have hN := next_bad w0 w a B rd at_ n hB h (by omega) hle
  have c1 : w.cell? ⟨rd, 1, none⟩ = some (.int .i64 at_) := h.cell.cell? 1
  unfold bad at *
  clear h
  go_enter Try.func102, Try.ntmps102
  go_wp2_with (go_at_call 120; refine hN.mono ?_; rintro e w1 ⟨rfl, S1⟩)
  exact ⟨rfl, rfl, S1⟩
/-- A number of n bytes from low to high; where it gives up, and what is read next. -/
def rnum (B : List UInt8) (n low high at_ : Nat) : Except Nat (Nat × Nat) :=
  if at_ + n ≤ B.length then (if low ≤ numAt B at_ n ∧ numAt B at_ n ≤ high then .ok (numAt B at_ n, at_ + n) else .error at_) else .error B.length
def textAt (B : List UInt8) (at_ n : Nat) : ByteArray := ⟨((B.drop at_).take n).toArray⟩
def rname (B : List UInt8) (ahead : ByteArray) (at_ : Nat) : Except Nat (ByteArray × Nat) :=
  match rnum B 1 1 10 at_ with
  | .error q => .error q
  | .ok (n, at1) =>
    if at1 + n ≤ B.length then (if nameB (textAt B at1 n) = true ∧ cmpB ahead (textAt B at1 n) < 0 then .ok (textAt B at1 n, at1 + n) else .error at1) else .error B.length
/-- So many numbers, each below a bound, and none that was seen. -/
def rnums (B : List UInt8) (bound : Nat) : Nat → List Nat → List Nat → Nat → Except Nat (List Nat × Nat)
  | 0, _, acc, at_ => .ok (acc, at_)
  | c + 1, seen, acc, at_ =>
    match rnum B 2 0 (bound - 1) at_ with
    | .error q => .error q
    | .ok (k, at1) => if k ∈ seen ++ acc then .error at_ else rnums B bound c seen (acc ++ [k]) at1
/-- One entry of the list. -/
structure PEnt where
  name : ByteArray
  kind : Nat
  size : Nat
  origin : Nat
  originAt : Nat
  xs : List Nat
  kept : List Nat
def rpic (B : List UInt8) (count bound : Nat) (used : List Nat) (name : ByteArray) (kind size at_ : Nat) : Except Nat (PEnt × Nat) :=
  match rnum B 1 0 (count - 1) at_ with
  | .error q => .error q
  | .ok (origin, at1) =>
    match rnum B 2 1 size at1 with
    | .error q => .error q
    | .ok (c, at2) =>
      match rnums B bound c used [] at2 with
      | .error q => .error q
      | .ok (xs, at3) =>
        match rnum B 2 0 (if kind = 2 then 0 else xs.length) at3 with
        | .error q => .error q
        | .ok (k, at4) =>
          match rnums B size k [] [] at4 with
          | .error q => .error q
          | .ok (kept, at5) => .ok (⟨name, kind, size, origin, at_, xs, kept⟩, at5)
def rvol (B : List UInt8) (bound : Nat) (used : List Nat) (name : ByteArray) (size at_ : Nat) : Except Nat (PEnt × Nat) :=
  match rnum B 2 size size at_ with
  | .error q => .error q
  | .ok (c, at1) =>
    match rnums B bound c used [] at1 with
    | .error q => .error q
    | .ok (xs, at2) => .ok (⟨name, 0, size, 0, 0, xs, []⟩, at2)
def rentry (B : List UInt8) (count bound : Nat) (used : List Nat) (ahead : ByteArray) (at_ : Nat) : Except Nat (PEnt × Nat) :=
  match rname B ahead at_ with
  | .error q => .error q
  | .ok (name, at1) =>
    match rnum B 1 0 2 at1 with
    | .error q => .error q
    | .ok (kind, at2) =>
      match rnum B 2 1 200 at2 with
      | .error q => .error q
      | .ok (size, at3) => if kind = 0 then rvol B bound used name size at3 else rpic B count bound used name kind size at3
/-- The entries behind those that were read. -/
def rents (B : List UInt8) (count bound : Nat) : Nat → List PEnt → Nat → Except Nat (List PEnt × Nat)
  | 0, acc, at_ => .ok (acc, at_)
  | c + 1, acc, at_ =>
    match rentry B count bound (acc.flatMap (·.xs)) ((acc.getLast?.map (·.name)).getD ⟨#[]⟩) at_ with
    | .error q => .error q
    | .ok (p, at1) => rents B count bound c (acc ++ [p]) at1
/-- Reading: what comes out, and what is left. -/
def Reads {α : Type} (w0 : World) (a : Option Addr) (B : List UInt8) (rd : Nat) (spec : Except Nat (α × Nat)) (P : α → Value → World → Prop) : Ending → World → Prop := fun e w' =>
  match spec with
  | .ok (x, at1) => ∃ v, e = .returned v ∧ RdAt w0 w' a B rd at1 ∧ P x v w'
  | .error q => e = bad q ∧ Same [] w0 w'
theorem rnum_ok {B : List UInt8} {n low high at_ x at1 : Nat} (h : rnum B n low high at_ = .ok (x, at1)) : at_ + n ≤ B.length ∧ low ≤ x ∧ x ≤ high ∧ x = numAt B at_ n ∧ at1 = at_ + n := by
  unfold rnum at h
  by_cases h1 : at_ + n ≤ B.length
  · rw [if_pos h1] at h
    by_cases h2 : low ≤ numAt B at_ n ∧ numAt B at_ n ≤ high
    · rw [if_pos h2] at h
      simp only [Except.ok.injEq, Prod.mk.injEq] at h
      obtain ⟨rfl, rfl⟩ := h
      exact ⟨h1, h2.1, h2.2, rfl, rfl⟩
    · rw [if_neg h2] at h; cases h
  · rw [if_neg h1] at h; cases h
theorem number_calls (w0 w : World) (a : Option Addr) (B : List UInt8) (rd at_ n low high : Nat) (hB : BytesOld w0 a B) (h : RdAt w0 w a B rd at_) (hn : n = 1 ∨ n = 2) :
    Calls Try.prog 102 #[.pointer (some ⟨rd, 0, none⟩), .int .i64 n, .int .i64 low, .int .i64 high] w (Reads w0 a B rd (rnum B n low high at_) fun x v w' => v = .int .i64 x ∧ Same [rd] w w') := by
  have hnew := h.new
  have old : ∀ w', Same [rd] w w' → Same [] w0 w' := fun w' hs => h.same.step hs (fun k hk hl => by simp at hk; omega)
  by_cases hle : at_ + n ≤ B.length
  · refine number_in w0 w a B rd at_ n low high hB h hn hle _ (fun hr w' hR hS => ?_) (fun hr w' hS => ?_)
    · have e : rnum B n low high at_ = .ok (numAt B at_ n, at_ + n) := by unfold rnum; rw [if_pos hle, if_pos (by omega)]
      unfold Reads; rw [e]
      exact ⟨_, rfl, hR, rfl, hS⟩
    · have e : rnum B n low high at_ = .error at_ := by unfold rnum; rw [if_pos hle, if_neg (by omega)]
      unfold Reads; rw [e]
      exact ⟨rfl, old w' hS⟩
  · refine (number_end w0 w a B rd at_ n low high hB h hn (by omega)).mono fun e w' ⟨h1, h2⟩ => ?_
    have e2 : rnum B n low high at_ = .error B.length := by unfold rnum; rw [if_neg hle]
    unfold Reads; rw [e2]
    exact ⟨h1, h.same.step h2 (by simp)⟩
theorem number_got (w0 w : World) (a : Option Addr) (B : List UInt8) (rd at_ n low high x at1 : Nat) (nI lowI highI : Int) (hB : BytesOld w0 a B) (h : RdAt w0 w a B rd at_) (hn : n = 1 ∨ n = 2) (hs : rnum B n low high at_ = .ok (x, at1)) (e1 : nI = n) (e2 : lowI = low) (e3 : highI = high) :
    Calls Try.prog 102 #[.pointer (some ⟨rd, 0, none⟩), .int .i64 nI, .int .i64 lowI, .int .i64 highI] w fun e w' => e = .returned (.int .i64 x) ∧ RdAt w0 w' a B rd at1 ∧ Same [rd] w w' := by
  subst e1 e2 e3
  have := number_calls w0 w a B rd at_ n low high hB h hn
  rw [hs] at this
  exact this.mono fun e w' ⟨v, h1, h2, h3, h4⟩ => ⟨by rw [h1, h3], h2, h4⟩
theorem number_gave (w0 w : World) (a : Option Addr) (B : List UInt8) (rd at_ n low high q : Nat) (nI lowI highI : Int) (hB : BytesOld w0 a B) (h : RdAt w0 w a B rd at_) (hn : n = 1 ∨ n = 2) (hs : rnum B n low high at_ = .error q) (e1 : nI = n) (e2 : lowI = low) (e3 : highI = high) :
    Calls Try.prog 102 #[.pointer (some ⟨rd, 0, none⟩), .int .i64 nI, .int .i64 lowI, .int .i64 highI] w fun e w' => e = bad q ∧ Same [] w0 w' := by
  subst e1 e2 e3
  have := number_calls w0 w a B rd at_ n low high hB h hn
  rw [hs] at this
  exact this.mono fun e w' ⟨h1, h2⟩ => ⟨h1, h2⟩
theorem lessL : ∀ (a b : List UInt8), Op.bytesLess a b = decide (Lib.compareBytes a b < 0)
  | [], [] => by simp [Op.bytesLess, Lib.compareBytes]
  | [], _ :: _ => by simp [Op.bytesLess, Lib.compareBytes]
  | _ :: _, [] => by simp [Op.bytesLess, Lib.compareBytes]
  | x :: a, y :: b => by
    have ih := lessL a b
    unfold Op.bytesLess Lib.compareBytes
    by_cases hxy : x < y
    · simp [hxy]
    · by_cases hyx : y < x
      · have hne : ¬ x = y := fun e => by subst e; exact UInt8.lt_irrefl _ hyx
        simp [hxy, hyx, hne]
      · have e : x = y := UInt8.le_antisymm (UInt8.not_lt.1 hyx) (UInt8.not_lt.1 hxy)
        subst e
        simp [UInt8.lt_irrefl, ih]
theorem greater (t u : ByteArray) : (!Op.bytesLess t.toList u.toList && !t.toList == u.toList) = decide (cmpB u t < 0) := by
  have h1 : Op.bytesLess t.toList u.toList = decide (cmpB t u < 0) := by
    rw [ByteArray.toList_eq, ByteArray.toList_eq]; exact lessL _ _
  have h2 : (t.toList == u.toList) = decide (cmpB t u = 0) := by
    rw [Bool.eq_iff_iff, beq_iff_eq, decide_eq_true_iff, cmpB_zero, ByteArray.toList_eq, ByteArray.toList_eq]
    constructor
    · intro e
      have e2 : t.data = u.data := by
        have := congrArg List.toArray e
        simpa using this
      exact ByteArray.ext e2
    · intro e; rw [e]
  have h3 := cmpB_neg t u
  rw [h1, h2, Bool.eq_iff_iff]
  simp only [Bool.and_eq_true, Bool.not_eq_true', decide_eq_false_iff_not, decide_eq_true_eq]
  omega
theorem text_conv (w : World) (b off n : Nat) (l : List UInt8) (hl : l.length = n) (hc : ∀ i, i < n → w.cell? ⟨b, off + i, none⟩ = some (byteV l[i]!)) (c : Nat) :
    Sem.run Try.prog (convert 25 9 (.slice (some ⟨b, off, none⟩) n c)) w = .ok (.string ⟨l.toArray⟩) w := by
  subst hl
  refine run_convert_bytes_back w 25 9 5 ⟨b, off, none⟩ c l Try.underlying25 Try.underlying5 Try.underlying9 fun j hj => ?_
  rw [Addr.add_lit, hc j hj, getElem!_pos l j hj]
  rfl
set_option maxHeartbeats 800000 in
set_option maxRecDepth 100000 in
theorem name_calls (w0 w : World) (a : Option Addr) (B : List UInt8) (rd at_ : Nat) (ahead : ByteArray) (hB : BytesOld w0 a B) (h : RdAt w0 w a B rd at_) :
    Calls Try.prog 125 #[.pointer (some ⟨rd, 0, none⟩), .string ahead] w (Reads w0 a B rd (rname B ahead at_) fun x v w' => v = .string x ∧ Same [rd] w w') := by
  have hnew := h.new
  have HOLD : Hid (∀ w', Same [rd] w w' → Same [] w0 w') := fun w' hs => h.same.step hs (fun k hk hl => by simp at hk; omega)
  unfold rname
  cases hs : rnum B 1 1 10 at_ with
  | error q =>
    have hN := number_gave w0 w a B rd at_ 1 1 10 q 1 1 10 hB h (by omega) hs rfl rfl rfl
    clear h
    go_enter Try.func125, Try.ntmps125
    go_wp2_with (go_at_call 102; refine hN.mono ?_; rintro e w1 ⟨rfl, S1⟩; unfold bad)
    exact ⟨rfl, rfl, S1⟩
  | ok p =>
    obtain ⟨n, at1⟩ := p
    have hN := number_got w0 w a B rd at_ 1 1 10 n at1 1 1 10 hB h (by omega) hs rfl rfl rfl
    have q2 := (rnum_ok hs).2.1
    have q3 := (rnum_ok hs).2.2.1
    simp only
    clear h hs
    by_cases hle : at1 + n ≤ B.length
    · rw [if_pos hle]
      have hne : B ≠ [] := fun e => by rw [e] at hle; simp at hle; omega
      obtain ⟨b, off, ha, _, _⟩ := hB.ex hne
      have HNX : Hid (∀ W, RdAt w0 W a B rd at1 → Calls Try.prog 120 #[.pointer (some ⟨rd, 0, none⟩), .int .i64 n] W fun e w' => e = .returned (.slice (some ⟨b, off + at1, none⟩) n n) ∧ RdAt w0 w' a B rd (at1 + n) ∧ Same [rd] W w') := fun W hW => next_ok w0 W a B rd at1 n b off hB hW ha q2 hle
      have HTX : Hid (∀ W, Same [] w0 W → Sem.run Try.prog (convert 25 9 (.slice (some ⟨b, off + at1, none⟩) n n)) W = .ok (.string (textAt B at1 n)) W) := fun W hW => by
        obtain ⟨b', off', ha', _, hcc⟩ := hB.at hW hne
        rw [ha] at ha'
        obtain ⟨rfl, rfl⟩ : b = b' ∧ off = off' := by simpa using ha'
        refine text_conv W b (off + at1) n ((B.drop at1).take n) (by rw [List.length_take, List.length_drop]; omega) (fun i hi => ?_) n
        rw [Nat.add_assoc, hcc (at1 + i) (by omega), getElem!_pos B _ (by omega), getElem!_pos _ i (by rw [List.length_take, List.length_drop]; omega)]
        simp
      have hts : (textAt B at1 n).size ≤ maxLen := by
        have : (textAt B at1 n).size = ((B.drop at1).take n).length := by simp [textAt, ByteArray.size]
        rw [this, List.length_take]; unfold maxLen; omega
      generalize textAt B at1 n = t at *
      have hIN := fun W => isName_calls t W hts
      have hM := fun W q => must_ok q W
      have hMb := fun W => must_bad at1 W
      have hlt : (!Op.bytesLess t.toList ahead.toList && !t.toList == ahead.toList) = decide (cmpB ahead t < 0) := greater t ahead
      by_cases hnm : nameB t = true ∧ cmpB ahead t < 0
      · rw [if_pos hnm]
        obtain ⟨n1, n2⟩ := hnm
        rw [n1] at hIN
        rw [decide_eq_true n2] at hlt
        go_enter Try.func125, Try.ntmps125
        go_wp2_with (first | (go_at_call 102; refine hN.mono ?_; rintro e w1 ⟨rfl, hR1, S1⟩; have c1 : w1.cell? ⟨rd, 1, none⟩ = some (.int .i64 at1) := hR1.cell.cell? 1; have hX1 := HNX.out w1 hR1) | (go_at_call 120; refine hX1.mono ?_; rintro e w2 ⟨rfl, hR2, S2⟩; have hcv := HTX.out w2 hR2.same) | (go_at_call 91; refine (hIN _).mono ?_; rintro e w' ⟨rfl, hw⟩; obtain rfl := hw.symm) | (go_at_call 106; refine (hM _ _).mono ?_; rintro e w' ⟨rfl, hw⟩; obtain rfl := hw.symm))
        go_ret
        exact ⟨_, rfl, hR2, rfl, S1.step S2 (by simp)⟩
      · rw [if_neg hnm]
        unfold bad at hMb
        by_cases n1 : nameB t = true
        · have n2 : ¬ cmpB ahead t < 0 := fun q => hnm ⟨n1, q⟩
          rw [n1] at hIN
          rw [decide_eq_false n2] at hlt
          clear hnm
          go_enter Try.func125, Try.ntmps125
          go_wp2_with (first | (go_at_call 102; refine hN.mono ?_; rintro e w1 ⟨rfl, hR1, S1⟩; have c1 : w1.cell? ⟨rd, 1, none⟩ = some (.int .i64 at1) := hR1.cell.cell? 1; have hX1 := HNX.out w1 hR1) | (go_at_call 120; refine hX1.mono ?_; rintro e w2 ⟨rfl, hR2, S2⟩; have hcv := HTX.out w2 hR2.same) | (go_at_call 91; refine (hIN _).mono ?_; rintro e w' ⟨rfl, hw⟩; obtain rfl := hw.symm) | (go_at_call 106; refine (hMb _).mono ?_; rintro e w' ⟨rfl, hw⟩; obtain rfl := hw.symm))
          exact ⟨rfl, rfl, hR2.same⟩
        · have n1' : nameB t = false := by simpa using n1
          rw [n1'] at hIN
          clear hnm
          go_enter Try.func125, Try.ntmps125
          go_wp2_with (first | (go_at_call 102; refine hN.mono ?_; rintro e w1 ⟨rfl, hR1, S1⟩; have c1 : w1.cell? ⟨rd, 1, none⟩ = some (.int .i64 at1) := hR1.cell.cell? 1; have hX1 := HNX.out w1 hR1) | (go_at_call 120; refine hX1.mono ?_; rintro e w2 ⟨rfl, hR2, S2⟩; have hcv := HTX.out w2 hR2.same) | (go_at_call 91; refine (hIN _).mono ?_; rintro e w' ⟨rfl, hw⟩; obtain rfl := hw.symm) | (go_at_call 106; refine (hMb _).mono ?_; rintro e w' ⟨rfl, hw⟩; obtain rfl := hw.symm))
          exact ⟨rfl, rfl, hR2.same⟩
    · rw [if_neg hle]
      have HNX : Hid (∀ W, RdAt w0 W a B rd at1 → Calls Try.prog 120 #[.pointer (some ⟨rd, 0, none⟩), .int .i64 n] W fun e w' => e = bad B.length ∧ Same [] W w') := fun W hW => next_bad w0 W a B rd at1 n hB hW (by omega) (by omega)
      go_enter Try.func125, Try.ntmps125
      go_wp2_with (first | (go_at_call 102; refine hN.mono ?_; rintro e w1 ⟨rfl, hR1, S1⟩; have c1 : w1.cell? ⟨rd, 1, none⟩ = some (.int .i64 at1) := hR1.cell.cell? 1; have hX1 := HNX.out w1 hR1) | (go_at_call 120; refine hX1.mono ?_; rintro e w2 ⟨rfl, S2⟩; unfold bad))
      exact ⟨rfl, rfl, hR1.same.step S2 (by simp)⟩
end
end Go.Proofs.Ytpddgdjocffgdaa
