/- A Pool: its state in order, and how it changes when a volume comes. -/
import Derived.Test.YtpddgdjocffgdaaPoolE
namespace Go.Proofs.Ytpddgdjocffgdaa
open Go.RowKit Go.Sort
set_option linter.unusedVariables false
set_option linter.unusedSimpArgs false
set_option linter.unusedSectionVars false
variable [DecidableEq Blk] [Inhabited Blk]
variable [Inhabited Vol]

theorem countP_split {α : Type} (p : α → Bool) : ∀ (l : List α), l.Pairwise (fun a b => p b = true → p a = true) → (∀ x ∈ l.take (l.countP p), p x = true) ∧ (∀ x ∈ l.drop (l.countP p), p x = false)
  | [], _ => by simp
  | a :: r, h => by
    obtain ⟨h1, h2⟩ := List.pairwise_cons.1 h
    obtain ⟨i1, i2⟩ := countP_split p r h2
    cases ha : p a with
    | true =>
      rw [List.countP_cons_of_pos ha]
      simp only [List.take_succ_cons, List.drop_succ_cons, List.mem_cons]
      exact ⟨fun x hx => by
        rcases hx with rfl | hx
        · exact ha
        · exact i1 x hx, i2⟩
    | false =>
      have hr : ∀ x ∈ r, p x = false := fun x hx => by
        cases hx' : p x with
        | false => rfl
        | true => have := h1 x hx hx'; rw [ha] at this; cases this
      have e : (a :: r).countP p = 0 := by
        rw [List.countP_eq_zero]
        intro x hx
        rcases List.mem_cons.1 hx with rfl | hx
        · simp [ha]
        · simp [hr x hx]
      rw [e]
      simp only [List.take_zero, List.drop_zero, List.mem_cons]
      exact ⟨fun x hx => by simp at hx, fun x hx => by
        rcases hx with rfl | hx
        · exact ha
        · exact hr x hx⟩

theorem cmpL_neg : ∀ (a b : List UInt8), Lib.compareBytes b a = - Lib.compareBytes a b
  | [], [] => rfl
  | [], _ :: _ => rfl
  | _ :: _, [] => rfl
  | x :: a, y :: b => by
    have ih := cmpL_neg a b
    unfold Lib.compareBytes
    by_cases hxy : x < y
    · have : ¬ y < x := fun h => UInt8.lt_irrefl _ (UInt8.lt_trans hxy h)
      rw [if_pos hxy, if_neg this, if_pos hxy]; rfl
    · by_cases hyx : y < x
      · rw [if_pos hyx, if_neg hxy, if_pos hyx]
      · rw [if_neg hyx, if_neg hxy, if_neg hxy, if_neg hyx, ih]
theorem cmpB_neg (a b : ByteArray) : cmpB b a = - cmpB a b := cmpL_neg _ _
theorem cmpB_self (a : ByteArray) : cmpB a a = 0 := (cmpB_zero a a).2 rfl

theorem names_mono {ns : List ByteArray} (t : ByteArray) (h : ns.Pairwise fun a b => cmpB a b < 0) : ns.Pairwise fun a b => decide (cmpB b t < 0) = true → decide (cmpB a t < 0) = true :=
  h.imp fun {a b} hab hb => by simp at hb ⊢; exact cmpB_trans a b t hab hb

theorem isIn_iff {ns : List ByteArray} (h : ns.Pairwise fun a b => cmpB a b < 0) (t : ByteArray) : isIn ns t = true ↔ t ∈ ns := by
  obtain ⟨s1, s2⟩ := countP_split (fun n => decide (cmpB n t < 0)) ns (names_mono t h)
  have hp : ns.countP (fun n => decide (cmpB n t < 0)) = posOf ns t := rfl
  rw [hp] at s1 s2
  unfold isIn
  simp only [Bool.and_eq_true, decide_eq_true_eq]
  constructor
  · rintro ⟨hl, he⟩
    rw [getElem!_pos ns _ hl] at he
    rw [← (cmpB_zero _ _).1 he]; exact List.getElem_mem hl
  · intro ht
    have hd : t ∈ ns.drop (posOf ns t) := by
      have := List.take_append_drop (posOf ns t) ns
      rw [← this] at ht
      rcases List.mem_append.1 ht with ht | ht
      · have := s1 t ht; rw [cmpB_self] at this; simp at this
      · exact ht
    have hl : posOf ns t < ns.length := by
      have := List.length_pos_of_mem hd
      simp at this; omega
    refine ⟨hl, ?_⟩
    rw [getElem!_pos ns _ hl]
    rw [List.drop_eq_getElem_cons hl] at hd
    rcases List.mem_cons.1 hd with e | hd
    · rw [← e]; exact cmpB_self t
    · have hpw : (ns.drop (posOf ns t)).Pairwise fun a b => cmpB a b < 0 := h.sublist (List.drop_sublist _ _)
      rw [List.drop_eq_getElem_cons hl] at hpw
      have h1 := (List.pairwise_cons.1 hpw).1 t hd
      have h2 := s2 (ns[posOf ns t]) (by rw [List.drop_eq_getElem_cons hl]; exact List.mem_cons_self)
      simp at h2
      omega

/-- A volume put in its place. -/
def insVol (i : Nat) (v : Vol) (l : List Vol) : List Vol := l.take i ++ v :: l.drop i

theorem insVol_sorted (s : List Vol) (v : Vol) (h : s.Pairwise fun a b => cmpB a.name b.name < 0) (hn : isIn (s.map (·.name)) v.name = false) : (insVol (posOf (s.map (·.name)) v.name) v s).Pairwise fun a b => cmpB a.name b.name < 0 := by
  have hpn : (s.map (·.name)).Pairwise fun a b => cmpB a b < 0 := by rw [List.pairwise_map]; exact h
  obtain ⟨s1, s2⟩ := countP_split (fun n => decide (cmpB n v.name < 0)) (s.map (·.name)) (names_mono v.name hpn)
  have hp : (s.map (·.name)).countP (fun n => decide (cmpB n v.name < 0)) = posOf (s.map (·.name)) v.name := rfl
  rw [hp] at s1 s2
  have hni : v.name ∉ s.map (·.name) := fun hm => by rw [(isIn_iff hpn v.name).2 hm] at hn; cases hn
  generalize posOf (s.map (·.name)) v.name = i at *
  have t1 : ∀ x ∈ s.take i, cmpB x.name v.name < 0 := fun x hx => by
    have := s1 x.name (by rw [← List.map_take]; exact List.mem_map_of_mem hx)
    simpa using this
  have t2 : ∀ x ∈ s.drop i, cmpB v.name x.name < 0 := fun x hx => by
    have h1 := s2 x.name (by rw [← List.map_drop]; exact List.mem_map_of_mem hx)
    have h2 : cmpB x.name v.name ≠ 0 := fun e => hni (by
      rw [← (cmpB_zero _ _).1 e]
      exact List.mem_map_of_mem (List.mem_of_mem_drop hx))
    simp at h1
    rw [cmpB_neg x.name v.name]
    omega
  unfold insVol
  have hw := h
  rw [← List.take_append_drop i s, List.pairwise_append] at hw
  obtain ⟨a1, a2, a3⟩ := hw
  rw [List.pairwise_append]
  refine ⟨a1, List.pairwise_cons.2 ⟨t2, a2⟩, fun a ha b hb => ?_⟩
  rcases List.mem_cons.1 hb with rfl | hb
  · exact t1 a ha
  · exact a3 a ha b hb

/-- The pictures are in order: each keeps a place once, and places of its origin alone; a lost one none; its room is not greater than its origin. -/
def Pics (l : List Vol) : Prop := ∀ v ∈ l, v.kept.Nodup ∧ (v.lost = true → v.kept = []) ∧ ∀ u ∈ l, v.org = some u.vb → (∀ k ∈ v.kept, k < u.xs.length) ∧ v.xs.length ≤ u.xs.length

structure Good (s : St) (fr : List Nat) : Prop where
  heap : HeapIs s.m s.d fr
  parts : (fr ++ s.vols.flatMap (·.xs)).Perm (List.range s.n)
  zero : ∀ x ∈ fr, s.bl[x]! = Blk.zero
  names : ∀ v ∈ s.vols, nameB v.name = true
  pics : Pics s.vols

/-- What a call leaves of a Pool. -/
structure After (w : World) (s : St) (w' : World) (s' : St) (fr' : List Nat) : Prop where
  pool : PoolAt w' s'
  good : Good s' fr'
  same : Same s.foot w w'
  foot : ∀ k ∈ s'.foot, k ∈ s.foot ∨ w.heap.size ≤ k
  pb : s'.pb = s.pb
  n : s'.n = s.n

theorem Good.lt {s : St} {fr : List Nat} (h : Good s fr) : (∀ x ∈ fr, x < s.n) ∧ (∀ v ∈ s.vols, ∀ x ∈ v.xs, x < s.n) := by
  refine ⟨fun x hx => ?_, fun v hv x hx => ?_⟩
  · exact List.mem_range.1 (h.parts.mem_iff.1 (List.mem_append_left _ hx))
  · exact List.mem_range.1 (h.parts.mem_iff.1 (List.mem_append_right _ (List.mem_flatMap.2 ⟨v, hv, hx⟩)))
theorem Good.nodup {s : St} {fr : List Nat} (h : Good s fr) : (fr ++ s.vols.flatMap (·.xs)).Nodup := h.parts.nodup_iff.2 List.nodup_range
theorem mem_getElem! {xs : List Nat} {k : Nat} (h : k < xs.length) : xs[k]! ∈ xs := by rw [getElem!_pos xs k h]; exact List.getElem_mem h
/-- The block that holds what stands at a place is one of its own, or one of its origin's. -/
theorem holder_mem {w : World} {s : St} (h : PoolAt w s) {v : Vol} (hv : v ∈ s.vols) {k : Nat} (hk : k < s.size v) : ∃ u ∈ s.vols, s.holder v k ∈ u.xs := by
  unfold St.holder
  split
  · rename_i hm
    exact ⟨v, hv, mem_getElem! (Nat.lt_of_lt_of_le (idxOf_lt hm) (h.vols v hv).room)⟩
  · exact ⟨s.orgOf v, (h.orgOf hv).1, mem_getElem! hk⟩
theorem holder_lt {w : World} {s : St} (h : PoolAt w s) {fr : List Nat} (hG : Good s fr) {v : Vol} (hv : v ∈ s.vols) {k : Nat} (hk : k < s.size v) : s.holder v k < s.n := by
  obtain ⟨u, hu, hm⟩ := holder_mem h hv hk
  exact hG.lt.2 u hu _ hm

theorem giveB_zero (xs : List Nat) : ∀ (bl : List Blk), (∀ x ∈ xs, x < bl.length ∧ bl[x]! = Blk.zero) → giveB xs bl = bl := by
  induction xs with
  | nil => intro bl _; rfl
  | cons x r ih =>
    intro bl h
    obtain ⟨hl, hx⟩ := h x (by simp)
    have e : bl.set x Blk.zero = bl := by
      rw [← hx, getElem!_pos bl x hl]; simp
    have e2 : giveB (x :: r) bl = giveB r (bl.set x Blk.zero) := rfl
    rw [e2, e]
    exact ih bl fun y hy => h y (by simp [hy])

theorem insVol_perm (i : Nat) (v : Vol) (l : List Vol) : (insVol i v l).Perm (v :: l) := by
  unfold insVol
  have := List.perm_middle (a := v) (l₁ := l.take i) (l₂ := l.drop i)
  rw [List.take_append_drop] at this; exact this
theorem insVol_mem {i : Nat} {v : Vol} {l : List Vol} {u : Vol} : u ∈ insVol i v l ↔ u = v ∨ u ∈ l := by
  rw [(insVol_perm i v l).mem_iff, List.mem_cons]
theorem footV_ins (i : Nat) (v : Vol) (l : List Vol) : ((insVol i v l).flatMap Vol.foot).Perm (v.foot ++ l.flatMap Vol.foot) := by
  have := (insVol_perm i v l).flatMap_right Vol.foot
  rwa [List.flatMap_cons] at this

/-- The head of the footprint, put aside. -/
theorem foot_perm (a b c d : Nat) (o : Option Nat) (x y : List Nat) : (a :: b :: c :: d :: (o.toList ++ (x ++ y))).Perm (x ++ (a :: b :: c :: d :: (o.toList ++ y))) := by
  have h1 : (o.toList ++ (x ++ y)).Perm (x ++ (o.toList ++ y)) := by
    rw [← List.append_assoc, ← List.append_assoc]
    exact (List.perm_append_comm).append_right y
  have h2 : (a :: b :: c :: d :: (x ++ (o.toList ++ y))).Perm (x ++ (a :: b :: c :: d :: (o.toList ++ y))) := by
    have := List.perm_append_comm (l₁ := [a, b, c, d]) (l₂ := x)
    have := this.append_right (o.toList ++ y)
    simpa using this
  exact (((((h1.cons d).cons c).cons b).cons a)).trans h2

/-- Where a volume has come, the Pool is one again. -/
theorem insert_state {w w' : World} {s : St} (h : PoolAt w s) (v : Vol) (hv : VolAt w v) (h1 : ∀ k ∈ v.foot, k ∉ s.foot) (hfew : s.vols.length < 20) (hn : isIn s.names v.name = false)
    (hvo : ∀ o, v.org = some o → ∃ u ∈ s.vols, u.vb = o ∧ u.org = none)
    (hA : ArrAt w w' s ((s.vols.take (posOf s.names v.name)).map (fun v => ptr v.vb) ++ [ptr v.vb] ++ (s.vols.drop (posOf s.names v.name)).map (fun v => ptr v.vb))) :
    ∃ g, w.heap.size ≤ g ∧ PoolAt w' { s with ab := some g, vols := insVol (posOf s.names v.name) v s.vols } := by
  obtain ⟨g, cap, cs, hg, hP, hle, hB, hcs, hcl⟩ := hA.ex
  refine ⟨g, hg, ?_⟩
  have hps : ((s.vols.take (posOf s.names v.name)).map (fun v => ptr v.vb) ++ [ptr v.vb] ++ (s.vols.drop (posOf s.names v.name)).map (fun v => ptr v.vb)) = (insVol (posOf s.names v.name) v s.vols).map (fun v => ptr v.vb) := by
    simp [insVol]
  have hlen : (insVol (posOf s.names v.name) v s.vols).length = s.vols.length + 1 := by
    simpa using (insVol_perm (posOf s.names v.name) v s.vols).length_eq
  rw [hps] at hP hle hcs hcl
  rw [List.length_map] at hP hle hcs hcl
  have hnd := h.nodup
  have hap := apart_of hnd
  have hpb : ∀ k ∈ s.foot, k ≠ s.pb → k ∉ [s.pb] := fun k _ hne => by simpa using hne
  have hpbn := hap.pb
  refine ⟨⟨cap, hP, hle, by simp⟩, fun b hb => ?_, ?_, fun u hu => ?_, ?_, by rw [hlen]; omega, insVol_sorted s.vols v h.sorted hn, fun u hu o ho => ?_⟩
  · simp only [Option.some.injEq] at hb
    subst hb
    exact ⟨cs, hB, hcs, hcl⟩
  · refine h.disk.same hA.same ?_ ?_ ?_
    · intro hm; simp at hm; exact hpbn (by rw [← hm]; simp)
    · intro hm; simp at hm; exact hpbn (by rw [← hm]; simp)
    · intro hm; simp at hm; exact hpbn (by rw [← hm]; simp)
  · rcases insVol_mem.1 hu with rfl | hm
    · exact hv.same hA.same (fun k hk hx => h1 k hk (by simp at hx; rw [hx]; exact s.foot_pb))
    · exact (h.vols u hm).same hA.same (fun k hk hx => by
        simp at hx
        have := hap.disk u hm k hk
        simp only [List.mem_cons, not_or] at this
        exact this.1 hx)
  · have hlt := h.foot_lt
    have hvlt := hv.foot_lt
    have hsub : List.Sublist (s.pb :: s.db :: s.bb :: s.fb :: s.vols.flatMap Vol.foot) s.foot := by
      unfold St.foot
      exact List.Sublist.cons_cons _ (List.Sublist.cons_cons _ (List.Sublist.cons_cons _ (List.Sublist.cons_cons _ (List.sublist_append_right _ _))))
    have hp : (St.foot { s with ab := some g, vols := insVol (posOf s.names v.name) v s.vols }).Perm (g :: (v.foot ++ (s.pb :: s.db :: s.bb :: s.fb :: s.vols.flatMap Vol.foot))) := by
      unfold St.foot
      have e1 := footV_ins (posOf s.names v.name) v s.vols
      simp only [Option.toList_some, List.singleton_append]
      have e2 : ∀ (a b c d : Nat) (l : List Nat), (a :: b :: c :: d :: g :: l).Perm (g :: a :: b :: c :: d :: l) := fun a b c d l =>
        (List.perm_middle (a := g) (l₁ := [a, b, c, d]) (l₂ := l))
      refine (e2 _ _ _ _ _).trans (List.Perm.cons _ ?_)
      refine (List.Perm.append_left [s.pb, s.db, s.bb, s.fb] e1).trans ?_
      have := (List.perm_append_comm (l₁ := [s.pb, s.db, s.bb, s.fb]) (l₂ := v.foot)).append_right (s.vols.flatMap Vol.foot)
      simpa using this
    rw [hp.nodup_iff]
    refine List.nodup_cons.2 ⟨fun hm => ?_, List.nodup_append.2 ⟨hv.nodup, hnd.sublist hsub, fun a ha b hb e => ?_⟩⟩
    · rcases List.mem_append.1 hm with hm | hm
      · have := hvlt g hm; omega
      · have := hlt g (hsub.mem hm); omega
    · subst e
      exact h1 a ha (hsub.mem hb)
  · rcases insVol_mem.1 hu with rfl | hm
    · obtain ⟨x, hx, hx2⟩ := hvo o ho
      exact ⟨x, insVol_mem.2 (Or.inr hx), hx2⟩
    · obtain ⟨x, hx, hx2⟩ := h.orgs u hm o ho
      exact ⟨x, insVol_mem.2 (Or.inr hx), hx2⟩
end Go.Proofs.Ytpddgdjocffgdaa
