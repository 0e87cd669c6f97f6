/- What the statement Shared carries from round to round. -/
import Derived.Test.YtpddgdjocffgdaaLawC
import Derived.Test.YtpddgdjocffgdaaPoolL
import Derived.Test.YtpddgdjocffgdaaPoolM
namespace Go.Proofs.Ytpddgdjocffgdaa
open Go.RowKit Go.Sort
set_option linter.unusedVariables false
set_option linter.unusedSimpArgs false
set_option linter.unusedSectionVars false
variable [DecidableEq Blk] [Inhabited Blk]
variable [Inhabited Vol]

theorem low_of (us : List Nat) (n : Nat) : ∀ (ys rest : List Nat) (low : Nat), (ys ++ rest).Pairwise (· < ·) → (∀ x ∈ ys ++ rest, low ≤ x ∧ x < n ∧ x ∉ us) → (∀ x, low ≤ x → x < n → x ∉ us → x ∈ ys ++ rest) → Low us low ys
  | [], _, _, _, _, _ => trivial
  | y :: r, rest, low, hs, h1, h2 => by
    obtain ⟨p1, p2⟩ := List.pairwise_cons.1 hs
    obtain ⟨a1, a2, a3⟩ := h1 y (by simp)
    refine ⟨a1, a3, fun x hx hxy => ?_, ?_⟩
    · by_cases hu : x ∈ us
      · exact hu
      · rcases List.mem_cons.1 (h2 x hx (by omega) hu) with e | hm
        · omega
        · have := p1 x hm; omega
    · refine low_of us n r rest (y + 1) p2 (fun x hx => ?_) (fun x hx hn hu => ?_)
      · obtain ⟨_, b2, b3⟩ := h1 x (by simp only [List.cons_append, List.mem_cons]; exact Or.inr hx)
        exact ⟨by have := p1 x hx; omega, b2, b3⟩
      · rcases List.mem_cons.1 (h2 x (by omega) hn hu) with e | hm
        · omega
        · exact hm
theorem Good.low {s : St} {fr : List Nat} (h : Good s fr) (k : Nat) : Low (flatX s.vols) 0 (fr.take k) := by
  have hnd := List.nodup_append.1 h.nodup
  refine low_of (flatX s.vols) s.n (fr.take k) (fr.drop k) 0 (by rw [List.take_append_drop]; exact h.heap.sorted) (fun x hx => ?_) (fun x _ hn hu => ?_)
  · rw [List.take_append_drop] at hx
    exact ⟨Nat.zero_le _, h.lt.1 x hx, fun hm => hnd.2.2 x hx x hm rfl⟩
  · rw [List.take_append_drop]
    rcases List.mem_append.1 (h.parts.mem_iff.2 (List.mem_range.2 hn)) with hm | hm
    · exact hm
    · exact absurd hm hu
theorem Good.count {s : St} {fr : List Nat} (h : Good s fr) : fr.length + (flatX s.vols).length = s.n := by
  have := h.parts.length_eq
  simpa [flatX] using this

def nm (r : Nat) : ByteArray := ⟨#[UInt8.ofNat (97 + r)]⟩
def six : List ByteArray := [nm 0, nm 1, nm 2, nm 3, nm 4, nm 5]
theorem nm_name (r : Nat) (h : r < 6) : nameB (nm r) = true := by
  have : r = 0 ∨ r = 1 ∨ r = 2 ∨ r = 3 ∨ r = 4 ∨ r = 5 := by omega
  rcases this with rfl | rfl | rfl | rfl | rfl | rfl <;> decide +kernel
theorem nm_six (r : Nat) (h : r < 6) : nm r ∈ six := by
  have : r = 0 ∨ r = 1 ∨ r = 2 ∨ r = 3 ∨ r = 4 ∨ r = 5 := by omega
  rcases this with rfl | rfl | rfl | rfl | rfl | rfl <;> simp [six]

theorem sub_len {α : Type} [DecidableEq α] : ∀ (l m : List α), l.Nodup → (∀ x ∈ l, x ∈ m) → l.length ≤ m.length
  | [], _, _, _ => Nat.zero_le _
  | x :: r, m, hn, hs => by
    obtain ⟨n1, n2⟩ := List.nodup_cons.1 hn
    have hx := hs x (by simp)
    have := sub_len r (m.erase x) n2 (fun y hy => (List.mem_erase_of_ne (fun e => n1 (by rw [← e]; exact hy))).2 (hs y (by simp [hy])))
    rw [List.length_erase_of_mem hx] at this
    have := List.length_pos_of_mem hx
    simp only [List.length_cons]
    omega

/-- What stands at the head of each round. -/
structure Inv (w : World) (pb : Nat) (wr : World) (s : St) (fr : List Nat) : Prop where
  pb : s.pb = pb
  pool : PoolAt wr s
  good : Good s fr
  n : s.n = 200
  names : ∀ v ∈ s.vols, v.name ∈ six
  foot : ∀ k ∈ s.foot, w.heap.size ≤ k
  same : Same [] w wr
  plain : ∀ v ∈ s.vols, v.org = none
def Round (w : World) (pb : Nat) (wr : World) : Prop := ∃ s fr, Inv w pb wr s fr

theorem Inv.few {w : World} {pb : Nat} {wr : World} {s : St} {fr : List Nat} (h : Inv w pb wr s fr) : s.vols.length < 20 := by
  have h1 : s.names.Nodup := h.pool.names_sorted.imp fun {a b} hab e => by rw [e, cmpB_self] at hab; omega
  have h2 := sub_len s.names six h1 (fun x hx => by obtain ⟨v, hv, rfl⟩ := List.mem_map.1 hx; exact h.names v hv)
  simp [St.names, six] at h2
  omega
theorem Inv.next {w : World} {pb : Nat} {wr w' : World} {s s' : St} {fr fr' : List Nat} (h : Inv w pb wr s fr) (hA : After wr s w' s' fr') (hn : ∀ v ∈ s'.vols, v.name ∈ six) (hpl : ∀ v ∈ s'.vols, v.org = none) : Inv w pb w' s' fr' := by
  refine ⟨hA.pb.trans h.pb, hA.pool, hA.good, hA.n.trans h.n, hn, fun k hk => ?_, h.same.step hA.same (fun k hk hl => by have := h.foot k hk; omega), hpl⟩
  have := h.same.size
  rcases hA.foot k hk with e | e
  · exact h.foot k e
  · omega

theorem plain_pics {s : St} (hpl : ∀ v ∈ s.vols, v.org = none) (b : Nat) : s.picsOf b = [] := by
  unfold St.picsOf
  rw [List.filter_eq_nil_iff]
  intro v hv
  simp [hpl v hv]

theorem grown_fits (s : St) (fr : List Nat) (t : ByteArray) (w : World) (p ov uv : Value) (sz : Int) (og ug : Nat) (xs0 us : List Nat) (hp : p = .pointer (some ⟨s.pb, 0, none⟩)) (hsz : sz = (s.vol t).xs.length) (h : PoolAt w s) (hG : Good s fr) (hi : s.has t = true) (hpl : ∀ v ∈ s.vols, v.org = none) (hn : s.n ≤ 200)
    (hov : SlAt w ov og xs0) (huv : SlAt w uv ug us) (hl0 : xs0.length ≤ 200) (hlu : us.length ≤ 200)
    (hpre : ∀ i, i < xs0.length → i < (s.vol t).xs.length → (s.vol t).xs[i]! = xs0[i]!) (hlow : Low us 0 ((s.vol t).xs.drop xs0.length)) (hzero : ∀ x ∈ (s.vol t).xs.drop xs0.length, s.bl[x]! = Blk.zero) :
    Calls Try.prog 22 #[p, .string t, .int .i64 sz, ov, uv] w fun e w' => e = .returned (.bool true) ∧ ∃ bl', After w s w' { s with bl := bl' } fr := by
  subst hp hsz
  exact grown_calls s fr t w ov uv og ug xs0 us h hG hi (hpl _ (St.has_mem hi).1) (plain_pics hpl _) hn hov huv hl0 hlu hpre hlow hzero

theorem name_run (r : Nat) (w : World) : (convert 25 9 (.slice (some ⟨w.heap.size, 0, none⟩) 1 1)).run Try.prog (w.alloc (Obj.cells #[.int .u8 (97 + (r : Int))] 5)) = .ok (.string (nm r)) (w.alloc (Obj.cells #[.int .u8 (97 + (r : Int))] 5)) := by
  rw [run_convert_bytes_string _ _ _ 5 _ _ _ Try.underlying25 Try.underlying5 Try.underlying9]
  rw [run_bytesToString _ _ _ _ [97 + (r : Int)] (by simp [loadCells, go_sem])]
  have e : (97 + (r : Int)).toNat = 97 + r := by omega
  simp only [List.foldl_cons, List.foldl_nil, e]
  rfl

theorem vol_of_mem {w : World} {s : St} (h : PoolAt w s) {v : Vol} (hv : v ∈ s.vols) : s.has v.name = true ∧ s.vol v.name = v := by
  obtain ⟨i, hi, e⟩ := List.getElem_of_mem hv
  have := vol_get h i hi
  rw [getElem!_pos s.vols i hi, e] at this
  exact this

/-- A volume as it is behind Create or Resize. -/
structure Grew (s : St) (t : ByteArray) (k : Nat) (xs0 us : List Nat) : Prop where
  has : s.has t = true
  len : (s.vol t).xs.length = k
  pre : ∀ i, i < xs0.length → i < (s.vol t).xs.length → (s.vol t).xs[i]! = xs0[i]!
  low : Low us 0 ((s.vol t).xs.drop xs0.length)
  zero : ∀ x ∈ (s.vol t).xs.drop xs0.length, s.bl[x]! = Blk.zero

def Names (s s' : St) (t : ByteArray) : Prop := (∀ v ∈ s'.vols, v.name = t ∨ ∃ u ∈ s.vols, u.name = v.name) ∧ ∀ v ∈ s'.vols, v.org = none

theorem create_grew (s : St) (fr : List Nat) (t : ByteArray) (k : Int) (w : World) (h : PoolAt w s) (hG : Good s fr) (hn : nameB t = true) (hx : s.has t = false) (hk : 1 ≤ k ∧ k ≤ 200) (hv : s.vols.length < 20) (hf : k.toNat ≤ fr.length) (hpl : ∀ v ∈ s.vols, v.org = none) :
    Calls Try.prog 19 #[.pointer (some ⟨s.pb, 0, none⟩), .string t, .int .i64 k] w fun e w' => e = .returned (.int .i64 0) ∧ ∃ s' fr', After w s w' s' fr' ∧ Grew s' t k.toNat [] (flatX s.vols) ∧ Names s s' t := by
  have hts : t.size ≤ 10 := by simp [nameB] at hn; exact hn.1.2
  have hc := create_ok s fr t k.toNat w h hG (by unfold maxLen; omega) hn hx (by omega) hv hf
  rw [show ((k.toNat : Nat) : Int) = k by omega] at hc
  refine hc.mono ?_
  rintro e w' ⟨he, g, vb, gb, hA, _⟩
  refine ⟨he, _, _, hA, ?_, ?_, ?_⟩
  · have hm : (⟨vb, gb, t, fr.take k.toNat, none, none, [], false⟩ : Vol) ∈ insVol (posOf s.names t) ⟨vb, gb, t, fr.take k.toNat, none, none, [], false⟩ s.vols := (insVol_perm _ _ _).mem_iff.2 List.mem_cons_self
    obtain ⟨a1, a2⟩ := vol_of_mem hA.pool hm
    refine ⟨a1, ?_, fun i hi => by simp at hi, ?_, fun x hx => ?_⟩
    · rw [a2]; simp; omega
    · rw [a2]; exact hG.low k.toNat
    · rw [a2] at hx; exact hG.zero x (List.mem_of_mem_take hx)
  · intro v hv
    rcases List.mem_cons.1 ((insVol_perm _ _ _).mem_iff.1 hv) with rfl | hv
    · exact Or.inl rfl
    · exact Or.inr ⟨v, hv, rfl⟩
  · intro v hv
    rcases List.mem_cons.1 ((insVol_perm _ _ _).mem_iff.1 hv) with rfl | hv
    · rfl
    · exact hpl v hv

theorem create_fits (s : St) (fr : List Nat) (t : ByteArray) (k : Int) (w : World) (h : PoolAt w s) (hG : Good s fr) (hn : nameB t = true) (hx : s.has t = false) (hk : 1 ≤ k ∧ k ≤ 200) (hv : s.vols.length < 20) (hf : fr.length < k.toNat) (hpl : ∀ v ∈ s.vols, v.org = none) :
    Calls Try.prog 19 #[.pointer (some ⟨s.pb, 0, none⟩), .string t, .int .i64 k] w fun e w' => e = .returned (.int .i64 6) ∧ ∃ s' fr', After w s w' s' fr' ∧ Names s s' t := by
  have hts : t.size ≤ 10 := by simp [nameB] at hn; exact hn.1.2
  have hc := create_full s fr t k.toNat w h hG (by unfold maxLen; omega) hn hx (by omega) hv hf
  rw [show ((k.toNat : Nat) : Int) = k by omega] at hc
  refine hc.mono ?_
  rintro e w' ⟨he, d', hA⟩
  exact ⟨he, _, _, hA, fun v hv => Or.inr ⟨v, hv, rfl⟩, hpl⟩

theorem remove_fits (s : St) (fr : List Nat) (t : ByteArray) (w : World) (h : PoolAt w s) (hG : Good s fr) (hi : s.has t = true) (hpl : ∀ v ∈ s.vols, v.org = none) :
    Calls Try.prog 20 #[.pointer (some ⟨s.pb, 0, none⟩), .string t] w fun e w' => e = .returned (.int .i64 0) ∧ ∃ s' fr', After w s w' s' fr' ∧ Names s s' t := by
  refine (remove_ok s fr t w h hG hi (plain_pics hpl _)).mono ?_
  rintro e w' ⟨he, g, hA⟩
  exact ⟨he, _, _, hA, fun v hv => Or.inr ⟨v, (delVol_sub _ _).mem hv, rfl⟩, fun v hv => hpl v ((delVol_sub _ _).mem hv)⟩

theorem resize_fits (s : St) (fr : List Nat) (t : ByteArray) (k : Int) (w : World) (h : PoolAt w s) (hG : Good s fr) (hi : s.has t = true) (hk : 1 ≤ k ∧ k ≤ 200) (hf : (s.vol t).xs.length < k.toNat ∧ fr.length < k.toNat - (s.vol t).xs.length) (hpl : ∀ v ∈ s.vols, v.org = none) :
    Calls Try.prog 21 #[.pointer (some ⟨s.pb, 0, none⟩), .string t, .int .i64 k] w fun e w' => e = .returned (.int .i64 6) ∧ ∃ s' fr', After w s w' s' fr' ∧ Names s s' t := by
  have hc := resize_full s fr t k.toNat w h hG ⟨hi, hpl _ (St.has_mem hi).1, plain_pics hpl _⟩ (by omega) hf.2
  rw [show ((k.toNat : Nat) : Int) = k by omega] at hc
  refine hc.mono ?_
  rintro e w' ⟨he, d', hA⟩
  exact ⟨he, _, _, hA, fun v hv => Or.inr ⟨v, hv, rfl⟩, hpl⟩

theorem names_set {s : St} {t : ByteArray} (hi : s.has t = true) (hpl : ∀ v ∈ s.vols, v.org = none) {i : Nat} {v : Vol} (hv : v.name = (s.vol t).name) (hvo : v.org = (s.vol t).org) {s' : St} (hs : s'.vols = setVol i v s.vols) : Names s s' t := by
  refine ⟨fun u hu => ?_, fun u hu => ?_⟩
  · rw [hs] at hu
    rcases List.mem_cons.1 ((setVol_perm _ _ _).mem_iff.1 hu) with rfl | hu
    · exact Or.inl (hv.trans (St.has_mem hi).2.1)
    · exact Or.inr ⟨u, (delVol_sub _ _).mem hu, rfl⟩
  · rw [hs] at hu
    rcases List.mem_cons.1 ((setVol_perm _ _ _).mem_iff.1 hu) with rfl | hu
    · rw [hvo]; exact hpl _ (St.has_mem hi).1
    · exact hpl u ((delVol_sub _ _).mem hu)

theorem resize_grew (s : St) (fr : List Nat) (t : ByteArray) (k : Int) (w : World) (h : PoolAt w s) (hG : Good s fr) (hi : s.has t = true) (hk : 1 ≤ k ∧ k ≤ 200) (hf : k.toNat ≤ (s.vol t).xs.length ∨ k.toNat - (s.vol t).xs.length ≤ fr.length) (hpl : ∀ v ∈ s.vols, v.org = none) :
    Calls Try.prog 21 #[.pointer (some ⟨s.pb, 0, none⟩), .string t, .int .i64 k] w fun e w' => e = .returned (.int .i64 0) ∧ ∃ s' fr', After w s w' s' fr' ∧ Grew s' t k.toNat (s.vol t).xs (flatX s.vols) ∧ Names s s' t := by
  have hkk : ((k.toNat : Nat) : Int) = k := by omega
  have hnm := (St.has_mem hi).2.1
  have hmem := (St.has_mem hi).1
  rcases Nat.lt_trichotomy k.toNat (s.vol t).xs.length with h1 | h1 | h1
  · have hc := resize_cut s fr t k.toNat w h hG ⟨hi, hpl _ hmem, plain_pics hpl _⟩ ⟨by omega, h1⟩
    rw [hkk] at hc
    refine hc.mono ?_
    rintro e w' ⟨he, hA⟩
    refine ⟨he, _, _, hA, ?_, names_set hi hpl (v := { (s.vol t) with xs := (s.vol t).xs.take k.toNat }) rfl rfl rfl⟩
    have hm : ({ (s.vol t) with xs := (s.vol t).xs.take k.toNat } : Vol) ∈ setVol (posOf s.names t) { (s.vol t) with xs := (s.vol t).xs.take k.toNat } s.vols := (setVol_perm _ _ _).mem_iff.2 List.mem_cons_self
    obtain ⟨a1, a2⟩ := vol_of_mem hA.pool hm
    rw [show ({ (s.vol t) with xs := (s.vol t).xs.take k.toNat } : Vol).name = t from hnm] at a1 a2
    refine ⟨a1, ?_, fun i hi' hj => ?_, ?_, fun x hx => ?_⟩
    · rw [a2]; simp; omega
    · rw [a2] at hj ⊢
      simp only [List.length_take] at hj
      rw [getElem!_pos _ i (by simp; omega), getElem!_pos _ i (by omega)]
      simp
    · rw [a2, List.drop_of_length_le (by simp; omega)]; trivial
    · rw [a2, List.drop_of_length_le (by simp; omega)] at hx; simp at hx
  · have hc := resize_same s fr t k.toNat w h hG ⟨hi, hpl _ hmem, plain_pics hpl _⟩ h1
    rw [hkk] at hc
    refine hc.mono ?_
    rintro e w' ⟨he, hA⟩
    refine ⟨he, _, _, hA, ⟨hi, h1.symm, fun i _ _ => rfl, ?_, fun x hx => ?_⟩, fun v hv => Or.inr ⟨v, hv, rfl⟩, hpl⟩
    · rw [List.drop_of_length_le (Nat.le_refl _)]; trivial
    · rw [List.drop_of_length_le (Nat.le_refl _)] at hx; simp at hx
  · have hc := resize_grow s fr t k.toNat w h hG ⟨hi, hpl _ hmem, plain_pics hpl _⟩ ⟨h1, by omega⟩ (by omega)
    rw [hkk] at hc
    refine hc.mono ?_
    rintro e w' ⟨he, g, hA⟩
    refine ⟨he, _, _, hA, ?_, names_set hi hpl (v := { (s.vol t) with gb := g, xs := (s.vol t).xs ++ fr.take (k.toNat - (s.vol t).xs.length) }) rfl rfl rfl⟩
    have hm : ({ (s.vol t) with gb := g, xs := (s.vol t).xs ++ fr.take (k.toNat - (s.vol t).xs.length) } : Vol) ∈ setVol (posOf s.names t) { (s.vol t) with gb := g, xs := (s.vol t).xs ++ fr.take (k.toNat - (s.vol t).xs.length) } s.vols := (setVol_perm _ _ _).mem_iff.2 List.mem_cons_self
    obtain ⟨a1, a2⟩ := vol_of_mem hA.pool hm
    rw [show ({ (s.vol t) with gb := g, xs := (s.vol t).xs ++ fr.take (k.toNat - (s.vol t).xs.length) } : Vol).name = t from hnm] at a1 a2
    refine ⟨a1, ?_, fun i hi' hj => ?_, ?_, fun x hx => ?_⟩
    · rw [a2]; simp; omega
    · rw [a2] at hj ⊢
      rw [getElem!_pos _ i hj, getElem!_pos _ i hi']
      exact List.getElem_append_left hi'
    · rw [a2, List.drop_left]; exact hG.low _
    · rw [a2, List.drop_left] at hx; exact hG.zero x (List.mem_of_mem_take hx)

theorem tdiv_bd (z : Int) (n : Int) (hn : 1 ≤ n) (h1 : -9223372036854775808 ≤ z) (h2 : z ≤ 9223372036854775807) : -9223372036854775808 ≤ z.tdiv n ∧ z.tdiv n ≤ 9223372036854775807 := by
  by_cases hz : 0 ≤ z
  · rw [Int.tdiv_eq_ediv_of_nonneg hz]
    have := Int.ediv_nonneg hz (by omega : 0 ≤ n)
    have := Int.ediv_le_self n hz
    omega
  · obtain ⟨y, rfl⟩ : ∃ y, z = -y := ⟨-z, by omega⟩
    rw [Int.neg_tdiv, Int.tdiv_eq_ediv_of_nonneg (by omega)]
    have := Int.ediv_nonneg (by omega : 0 ≤ y) (by omega : 0 ≤ n)
    have := Int.ediv_le_self n (by omega : 0 ≤ y)
    omega
end Go.Proofs.Ytpddgdjocffgdaa
