/- A Pool: drop, by a contract. -/
import Derived.Test.YtpddgdjocffgdaaPoolG
import Derived.Deep.RegionLawGrows
namespace Go.Proofs.Ytpddgdjocffgdaa
open Go.RowKit Go.Sort
set_option linter.unusedVariables false
set_option linter.unusedSimpArgs false
set_option linter.unusedSectionVars false
variable [DecidableEq Blk] [Inhabited Blk]
variable [Inhabited Vol]

def delVol (i : Nat) (l : List Vol) : List Vol := l.take i ++ l.drop (i + 1)

theorem delVol_sub (i : Nat) (l : List Vol) : (delVol i l).Sublist l := by
  have h : (l.drop (i + 1)).Sublist (l.drop i) := by
    rw [← List.drop_drop]; exact List.drop_sublist _ _
  have := List.Sublist.append (List.Sublist.refl (l.take i)) h
  rw [List.take_append_drop] at this
  exact this
theorem delVol_perm (i : Nat) (l : List Vol) (h : i < l.length) : (l[i]! :: delVol i l).Perm l := by
  have e : l = l.take i ++ l[i]! :: l.drop (i + 1) := by
    rw [getElem!_pos l i h, ← List.drop_eq_getElem_cons h, List.take_append_drop]
  unfold delVol
  have := List.perm_middle (a := l[i]!) (l₁ := l.take i) (l₂ := l.drop (i + 1))
  rw [← e] at this
  exact this.symm
theorem delVol_length (i : Nat) (l : List Vol) (h : i < l.length) : (delVol i l).length = l.length - 1 := by
  simp [delVol]; omega

theorem sub_flatMap (f : Vol → List Nat) {a b : List Vol} (h : a.Sublist b) : (a.flatMap f).Sublist (b.flatMap f) := by
  induction h with
  | slnil => exact List.Sublist.refl _
  | cons x _ ih => rw [List.flatMap_cons]; exact ih.trans (List.sublist_append_right _ _)
  | cons_cons x _ ih => rw [List.flatMap_cons, List.flatMap_cons]; exact (List.Sublist.refl _).append ih
theorem delVol_mem {i : Nat} {l : List Vol} (h : i < l.length) {x : Vol} (hx : x ∈ l) : x = l[i]! ∨ x ∈ delVol i l := by
  rcases List.mem_cons.1 ((delVol_perm i l h).mem_iff.2 hx) with e | e
  · exact Or.inl e
  · exact Or.inr e

theorem del_state {w w' : World} {s : St} (h : PoolAt w s) (i : Nat) (hi : i < s.vols.length) (hno : ∀ u ∈ s.vols, u.org ≠ some (s.vols[i]!).vb) (g cap : Nat) (cs : List Value) (hg : w.heap.size ≤ g ∨ s.ab = some g)
    (hP : At w' s.pb 38 [ptr s.pb, ptr s.db, .slice (some ⟨g, 0, none⟩) (delVol i s.vols).length cap]) (hle : (delVol i s.vols).length ≤ cap) (hB : At w' g 80 cs)
    (hcs : cs.take (delVol i s.vols).length = (delVol i s.vols).map (fun v => ptr v.vb)) (hcl : (delVol i s.vols).length ≤ cs.length) (hS : Same [s.pb] w w') :
    PoolAt w' { s with ab := some g, vols := delVol i s.vols } := by
  have hnd := h.nodup
  have hsub := delVol_sub i s.vols
  have hap := apart_of hnd
  have hpbn := hap.pb
  refine ⟨⟨cap, hP, hle, by simp⟩, fun b hb => ?_, ?_, fun u hu => ?_, ?_, Nat.le_trans hsub.length_le h.few, h.sorted.sublist hsub, fun u hu o ho => ?_⟩
  · simp only [Option.some.injEq] at hb
    subst hb
    exact ⟨cs, hB, hcs, hcl⟩
  · refine h.disk.same hS ?_ ?_ ?_
    · intro hm; simp at hm; exact hpbn (by rw [← hm]; simp)
    · intro hm; simp at hm; exact hpbn (by rw [← hm]; simp)
    · intro hm; simp at hm; exact hpbn (by rw [← hm]; simp)
  · have hm := hsub.mem hu
    exact (h.vols u hm).same hS (fun k hk hx => by
      simp at hx
      have := hap.disk u hm k hk
      simp only [List.mem_cons, not_or] at this
      exact this.1 hx)
  · have hvs : ((delVol i s.vols).flatMap Vol.foot).Sublist (s.vols.flatMap Vol.foot) := sub_flatMap Vol.foot hsub
    unfold St.foot
    simp only [Option.toList_some, List.singleton_append]
    rcases hg with hg | hg
    · have hs2 : List.Sublist (s.pb :: s.db :: s.bb :: s.fb :: (delVol i s.vols).flatMap Vol.foot) s.foot := by
        unfold St.foot
        refine List.Sublist.cons_cons _ (List.Sublist.cons_cons _ (List.Sublist.cons_cons _ (List.Sublist.cons_cons _ ?_)))
        exact hvs.trans (List.sublist_append_right _ _)
      have e2 : (s.pb :: s.db :: s.bb :: s.fb :: g :: (delVol i s.vols).flatMap Vol.foot).Perm (g :: (s.pb :: s.db :: s.bb :: s.fb :: (delVol i s.vols).flatMap Vol.foot)) :=
        (List.perm_middle (a := g) (l₁ := [s.pb, s.db, s.bb, s.fb]))
      rw [e2.nodup_iff]
      refine List.nodup_cons.2 ⟨fun hm => ?_, hnd.sublist hs2⟩
      have := h.foot_lt g (hs2.mem hm); omega
    · have hs2 : List.Sublist (s.pb :: s.db :: s.bb :: s.fb :: g :: (delVol i s.vols).flatMap Vol.foot) s.foot := by
        unfold St.foot
        rw [hg]
        simp only [Option.toList_some, List.singleton_append]
        exact List.Sublist.cons_cons _ (List.Sublist.cons_cons _ (List.Sublist.cons_cons _ (List.Sublist.cons_cons _ (List.Sublist.cons_cons _ hvs))))
      exact hnd.sublist hs2
  · have hm := hsub.mem hu
    obtain ⟨x, hx, e1, e2⟩ := h.orgs u hm o ho
    rcases delVol_mem hi hx with e | e
    · exact absurd (by rw [ho, ← e1, e]) (hno u hm)
    · exact ⟨x, e, e1, e2⟩

theorem ins_perm (x : Nat) (l : List Nat) : (ins x l).Perm (x :: l) := by
  induction l with
  | nil => exact List.Perm.refl _
  | cons y r ih =>
    simp only [ins]
    split
    · exact List.Perm.refl _
    · exact (List.Perm.cons y ih).trans (List.Perm.swap x y r)
theorem insAll_perm (xs : List Nat) : ∀ (l : List Nat), (insAll xs l).Perm (xs ++ l) := by
  induction xs with
  | nil => intro l; exact List.Perm.refl _
  | cons x r ih =>
    intro l
    refine (ih (ins x l)).trans ?_
    refine (List.Perm.append_left r (ins_perm x l)).trans ?_
    exact List.perm_middle

theorem giveB_get (xs : List Nat) : ∀ (bl : List Blk) (x : Nat), x < bl.length → (giveB xs bl)[x]! = if x ∈ xs then Blk.zero else bl[x]! := by
  induction xs with
  | nil => intro bl x _; rfl
  | cons y r ih =>
    intro bl x hx
    have e : giveB (y :: r) bl = giveB r (bl.set y Blk.zero) := rfl
    rw [e, ih _ x (by simpa using hx)]
    by_cases h1 : x ∈ r
    · simp [h1]
    · rw [if_neg h1]
      by_cases h2 : x = y
      · subst h2
        rw [if_pos (by simp), getElem!_pos _ x (by simpa using hx)]
        simp
      · rw [if_neg (by simp [h1, h2]), getElem!_pos _ x (by simpa using hx), getElem!_pos bl x hx]
        rw [List.getElem_set_ne (by omega)]

/-- Blocks given back. -/
theorem Good.remove {s : St} {fr : List Nat} (h : Good s fr) (hl : s.bl.length = s.n) (hd : s.d.size = s.n) (i : Nat) (hi : i < s.vols.length) (ab : Option Nat) :
    Good { s with m := s.m + (s.vols[i]!).xs.length, bl := giveB (s.vols[i]!).xs s.bl, d := giveD s.m (s.vols[i]!).xs s.d, ab := ab, vols := delVol i s.vols } (insAll (s.vols[i]!).xs fr) := by
  have hp := delVol_perm i s.vols hi
  have hfl : ((s.vols[i]!).xs ++ (delVol i s.vols).flatMap (·.xs)).Perm (s.vols.flatMap (·.xs)) := by
    have := hp.flatMap_right (·.xs)
    simpa using this
  have hnd := h.nodup
  have hpar : (insAll (s.vols[i]!).xs fr ++ (delVol i s.vols).flatMap (·.xs)).Perm (List.range s.n) := by
    refine ((List.Perm.append_right _ (insAll_perm _ fr)).trans ?_).trans h.parts
    refine (List.Perm.append_right _ List.perm_append_comm).trans ?_
    rw [List.append_assoc]
    exact List.Perm.append_left fr hfl
  have hnd2 := (hpar.nodup_iff.2 List.nodup_range)
  have hnd3 : ((s.vols[i]!).xs ++ fr).Nodup := ((insAll_perm _ fr).nodup_iff.1 (List.nodup_append.1 hnd2).1)
  have hlen := hpar.length_eq
  simp only [List.length_append, List.length_range, insAll_length] at hlen
  refine ⟨?_, hpar, fun x hx => ?_, fun u hu => h.names u ((delVol_sub i s.vols).mem hu), fun v hv => ⟨(h.pics v ((delVol_sub i s.vols).mem hv)).1, (h.pics v ((delVol_sub i s.vols).mem hv)).2.1, fun u hu => (h.pics v ((delVol_sub i s.vols).mem hv)).2.2 u ((delVol_sub i s.vols).mem hu)⟩⟩
  · refine HeapIs.gives (s.vols[i]!).xs h.heap (List.nodup_append.1 hnd3).1 (fun x hx hm => ?_) ?_
    · exact (List.nodup_append.1 hnd3).2.2 x hx x hm rfl
    · have := h.heap.len; omega
  · have hxn : x < s.n := List.mem_range.1 (hpar.mem_iff.1 (List.mem_append_left _ hx))
    show (giveB (s.vols[i]!).xs s.bl)[x]! = Blk.zero
    rw [giveB_get _ _ _ (by omega)]
    split
    · rfl
    · rename_i hni
      rcases (insAll_mem _ _ _).1 hx with hx | hx
      · exact absurd hx hni
      · exact h.zero x hx

set_option maxHeartbeats 1000000 in
set_option maxRecDepth 100000 in
theorem drop_ok (s : St) (fr : List Nat) (t : ByteArray) (w : World) (h : PoolAt w s) (hG : Good s fr) (hi : s.has t = true) (hno : ∀ u ∈ s.vols, u.org ≠ some (s.vol t).vb) :
    Calls Try.prog 55 #[.pointer (some ⟨s.pb, 0, none⟩), .pointer (some ⟨(s.vol t).vb, 0, none⟩)] w fun e w' => e = .returned (.tuple #[]) ∧
      ∃ g, After w s w' { s with m := s.m + (s.vol t).xs.length, bl := giveB (s.vol t).xs s.bl, d := giveD s.m (s.vol t).xs s.d, ab := some g, vols := delVol (posOf s.names t) s.vols } (insAll (s.vol t).xs fr) := by
  obtain ⟨hmem, hname, hpos⟩ := St.has_mem hi
  obtain ⟨cap, hp, hlc, _⟩ := h.pool
  have hv := h.vols _ hmem
  obtain ⟨vcap, vkcap, hvc, hvo, _, _⟩ := hv.vol
  obtain ⟨cs0, hr⟩ := hv.row
  obtain ⟨b, hb⟩ : ∃ b, s.ab = some b := by
    cases hab : s.ab with
    | none => rw [h.none_nil hab] at hpos; simp at hpos
    | some b => exact ⟨b, rfl⟩
  obtain ⟨cs, hB, hcs, hcl⟩ := h.arr b hb
  rw [hb] at hp
  have c1 : w.cell? ⟨s.pb, 1, none⟩ = some (.pointer (some ⟨s.db, 0, none⟩)) := hp.cell? 1
  have d1 : w.cell? ⟨(s.vol t).vb, 1, none⟩ = some (.slice (some ⟨(s.vol t).gb, 0, none⟩) (s.vol t).xs.length vcap) := hvo.cell? 1
  have hvfS : ∀ k ∈ (s.vol t).foot, k ∉ [s.db, s.bb, s.fb] := fun k hk => by
    have := (apart_of h.nodup).disk _ hmem k hk
    simp only [List.mem_cons, not_or, List.not_mem_nil, not_false_eq_true, and_true] at this ⊢
    exact ⟨this.2.1, this.2.2.1, this.2.2.2⟩
  have hgbS : (s.vol t).gb ∉ [s.db, s.bb, s.fb] := hvfS _ (by simp [Vol.foot])
  have hml : s.m + (s.vol t).xs.length ≤ s.n := by
    have h1 := hG.parts.length_eq
    have h2 := hG.heap.len
    have h3 : (s.vol t).xs.length ≤ (s.vols.flatMap (·.xs)).length := by
      have := (delVol_perm (posOf s.names t) s.vols hpos).flatMap_right (·.xs)
      have := this.length_eq
      simp only [List.flatMap_cons, List.length_append] at this
      have e : s.vols[posOf s.names t]! = s.vol t := rfl
      rw [e] at this
      omega
    simp only [List.length_append, List.length_range] at h1
    omega
  have hGive := fun W (hW : Same [] w W) => give_calls s.db s.bb s.fb s.n s.m (s.vol t).gb 0 vcap s.bl s.d (s.vol t).xs (some ⟨(s.vol t).gb, 0, none⟩) _ cs0 W _ _ rfl rfl (h.disk.same hW (by simp) (by simp) (by simp)) (fun _ => ⟨rfl, hW.at hr.at_ (by simp), hgbS⟩) (fun j hj => by rw [Nat.zero_add]; exact hr.cell j hj) (fun x hx => hG.lt.2 _ hmem x hx) hml
  have H : Hid (PoolAt w s ∧ Good s fr) := ⟨h, hG⟩
  have HVN : Hid (At w (s.vol t).vb 100 ((s.vol t).cells vcap vkcap) ∧ (s.vol t).vb ∉ [s.db, s.bb, s.fb]) := ⟨hvo, hvfS _ (by simp [Vol.foot])⟩
  have HNO : Hid (∀ u ∈ s.vols, u.org ≠ some (s.vol t).vb) := hno
  have HB : Hid (At w b 80 cs ∧ cs.take s.vols.length = s.vols.map (fun v => ptr v.vb) ∧ s.vols.length ≤ cs.length ∧ s.ab = some b) := ⟨hB, hcs, hcl, hb⟩
  have HP : Hid (At w s.pb 38 [ptr s.pb, ptr s.db, .slice (some ⟨b, 0, none⟩) s.vols.length cap]) := hp
  clear h hG hp hv hvo hr hB hcs hcl hb hno hvfS
  go_enter Try.func55, Try.ntmps55
  go_wp2_with fail
  go_region_with (go_at_call 58; refine (hGive _ ((Same.refl [] _).drew)).mono ?_; rintro e w1 ⟨rfl, hD, hS⟩)
  all_goals
    obtain ⟨h, hG⟩ := H.out
    obtain ⟨hB, hcs, hcl, hb⟩ := HB.out
    have hS' : Same [s.db, s.bb, s.fb] w w1 := (Same.refl _ _).drew.step hS (by simp)
    have hP1 := h.withDisk hS' (by intro k hk; simp at hk; rcases hk with e | e | e <;> simp [e]) hD
    have n1 : w1.cell? ⟨(s.vol t).vb, 0, none⟩ = some (.string t) := ((hS'.at HVN.out.1 HVN.out.2).cell? 0).trans (by show some (Value.string (s.vol t).name) = _; rw [hname])
    have hX := index_plain _ t w1 hP1
    have hnd := h.nodup
    have hap := apart_of hnd
    have hbS : b ∉ [s.db, s.bb, s.fb] ∧ s.pb ∉ [s.db, s.bb, s.fb] ∧ b ≠ s.pb := by
      have q0 := hap.pb
      have q1 := hap.db
      have q2 := hap.bb
      have q3 := hap.fb
      simp only [hb, Option.toList_some, List.singleton_append, List.mem_cons, not_or] at q0 q1 q2 q3
      simp only [List.mem_cons, List.not_mem_nil, or_false, not_or]
      exact ⟨⟨fun e => q1.2.2.1 e.symm, fun e => q2.2.1 e.symm, fun e => q3.1 e.symm⟩, ⟨q0.1, q0.2.1, q0.2.2.1⟩, fun e => q0.2.2.2.1 e.symm⟩
    have hB1 := hS'.at hB hbS.1
    have hp1 := hS'.at HP.out hbS.2.1
    have c2 : w1.cell? ⟨s.pb, 2, none⟩ = some (.slice (some ⟨b, 0, none⟩) s.vols.length cap) := hp1.cell? 2
    have f2 : w1.frozen? ⟨s.pb, 2, none⟩ = false := hp1.frozen 2
    have e0 : St.names { s with m := s.m + (s.vol t).xs.length, bl := giveB (s.vol t).xs s.bl, d := giveD s.m (s.vol t).xs s.d } = s.names := rfl
    rw [e0] at hX
    have hi' : isIn s.names t = true := hi
    rw [hi'] at hX
    have hGR := hG.remove h.disk.len h.disk.size (posOf s.names t) hpos
    have hfew := h.few
    have HF : Hid (∀ (w2 : World) (g cap2 : Nat) (cs2 : List Value), (w1.heap.size ≤ g ∨ s.ab = some g) → At w2 s.pb 38 [ptr s.pb, ptr s.db, .slice (some ⟨g, 0, none⟩) (delVol (posOf s.names t) s.vols).length cap2] → (delVol (posOf s.names t) s.vols).length ≤ cap2 → At w2 g 80 cs2 → cs2.take (delVol (posOf s.names t) s.vols).length = (delVol (posOf s.names t) s.vols).map (fun v => ptr v.vb) → (delVol (posOf s.names t) s.vols).length ≤ cs2.length → Same [s.pb] w1 w2 → After w s w2 { s with m := s.m + (s.vol t).xs.length, bl := giveB (s.vol t).xs s.bl, d := giveD s.m (s.vol t).xs s.d, ab := some g, vols := delVol (posOf s.names t) s.vols } (insAll (s.vol t).xs fr)) := by
      intro w2 g cap2 cs2 hg ha1 ha2 ha3 ha4 ha5 hs2
      have hp2 := del_state hP1 (posOf s.names t) hpos HNO.out g cap2 cs2 hg ha1 ha2 ha3 ha4 ha5 hs2
      refine ⟨hp2, hGR (some g), (hS'.mono (T := s.foot) (by simp [St.foot])).step hs2 (by simp [St.foot]), fun j hj => ?_, rfl, rfl⟩
      have hsub := delVol_sub (posOf s.names t) s.vols
      rcases St.foot_cases hj with e | e | e | e | e | ⟨u, hu, hk⟩
      · left; rw [e]; exact s.foot_pb
      · left; rw [e]; exact s.foot_db
      · left; rw [e]; exact s.foot_bb
      · left; rw [e]; exact s.foot_fb
      · have e' : g = j := by simpa using e
        rcases hg with hg | hg
        · right; have := hS'.size; omega
        · left; exact s.foot_ab (by rw [hg, e'])
      · left; exact s.foot_vol (hsub.mem hu) hk
    clear hGR hG hi' e0 hD hS h hGive HP hP1 hS' hnd hap
    generalize hpo : posOf s.names t = po at *
    have HPO : Hid (posOf s.names t = po) := hpo
    clear hpo
    obtain ⟨i0, hi0, hz0, hz1, hz2⟩ := info_parts Try.info59
    have l1 : (po : Int) < (s.vols.length : Int) := by omega
    have l2 : (po : Int) + 1 ≤ (s.vols.length : Int) := by omega
    go_wp2_with (go_at_call 82; refine hX.mono ?_; rintro e w'' ⟨rfl, rfl⟩)
    have hwr : IntKind.i64.wrap ((po : Int) + 1) = (po : Int) + 1 := IntWalk.i64_in _ (by omega)
    have hdl := delVol_length po s.vols hpos
    by_cases hlast : po + 1 < s.vols.length
    · have olds : ∀ (W : World), W.heap = w''.heap → ∀ j u, ((s.vols.take po).map (fun v => ptr v.vb))[j]? = some u → W.cell? ⟨b, j, none⟩ = some u := by
        intro W hW j u hj
        have hj2 : j < po := by
          rcases Nat.lt_or_ge j po with h' | h'
          · exact h'
          · rw [List.getElem?_eq_none (by simp; omega)] at hj; cases hj
        have hBW : At W b _ cs := hB1.of_heap (by rw [hW])
        rw [hBW.cell?]
        have e1 : (cs.take s.vols.length)[j]? = cs[j]? := by rw [List.getElem?_take, if_pos (by omega)]
        rw [← e1, hcs, ← hj, List.map_take, List.getElem?_take, if_pos hj2]
      have news : ∀ (W : World), W.heap = w''.heap → ∀ j u, ((s.vols.drop (po + 1)).map (fun v => ptr v.vb))[j]? = some u → W.cell? ⟨b, po + 1 + j, none⟩ = some u := by
        intro W hW j u hj
        have hj2 : po + 1 + j < s.vols.length := by
          rcases Nat.lt_or_ge (po + 1 + j) s.vols.length with h' | h'
          · exact h'
          · rw [List.getElem?_eq_none (by simp; omega)] at hj; cases hj
        have hBW : At W b _ cs := hB1.of_heap (by rw [hW])
        rw [hBW.cell?]
        have e1 : (cs.take s.vols.length)[po + 1 + j]? = cs[po + 1 + j]? := by rw [List.getElem?_take, if_pos (by omega)]
        rw [← e1, hcs, ← hj, List.map_drop, List.getElem?_drop]
      have hcapp : po + 1 < cap := by omega
      have k1 : po ≤ cap := by omega
      have k2 : po + 1 ≤ s.vols.length := by omega
      have k3 : ¬ cap = po + 1 := by omega
      have k4 : ((po : Int) + 1).toNat = po + 1 := by omega
      have k5 : (0 : Int) ≤ (po : Int) + 1 := by omega
      have k6 : s.vols.length ≤ cap := by omega
      go_region_law (refine step_append_grows rfl (.tmp 31) (.tmp 38) 36 rfl 80 i0 (.pointer none) 1 8 Try.underlying36 hi0 hz0 hz1 hz2 rfl (by decide) (some ⟨b, 0, none⟩) po po ((s.vols.take po).map (fun v => ptr v.vb)) (by simp [Act.eval, Act.put]) (by intro h; cases h) (by simp; omega) (by intro b1 hb1 j u hj; simp only [Option.some.injEq] at hb1; subst hb1; rw [Addr.add_lit, Nat.zero_add]; exact olds _ rfl j u hj) ⟨b, po + 1, none⟩ (s.vols.length - (po + 1)) (cap - (po + 1)) ((s.vols.drop (po + 1)).map (fun v => ptr v.vb)) (by simp [Act.eval, Act.put]) (by simp) (by intro j u hj; rw [Addr.add_lit]; exact news _ rfl j u hj) (ptrs_one _) (by omega) (by unfold maxLen; omega) (by omega) ?_; intro v' w2 hown hgrow; obtain ⟨a2, cap2, rfl⟩ := owns_form hown; have p2 := hp1.drew.of_heap (hgrow.block s.pb hp1.drew.lt (by simp)); have g2 : w2.cell? ⟨s.pb, 2, none⟩ = some (.slice (some ⟨b, 0, none⟩) s.vols.length cap) := p2.cell? 2; have z2 : w2.frozen? ⟨s.pb, 2, none⟩ = false := p2.frozen 2)
      all_goals
        obtain ⟨g, cs2, rfl, hg, hA2, hl2, ht2⟩ := owns_atN hown (by omega)
        have hle2 := owns_le hown
        have hdl2 : po + (s.vols.length - (po + 1)) = (delVol po s.vols).length := by omega
        have hgp : g ≠ s.pb := by have := hp1.lt; simp at hg; omega
        have hhs := hgrow.size
        have A2 := p2.set_same 2 (.slice (some ⟨g, 0, none⟩) (po + (s.vols.length - (po + 1))) cap2)
        have S2 : Same [s.pb] w'' (w2.setCell ⟨s.pb, 2, none⟩ (.slice (some ⟨g, 0, none⟩) (po + (s.vols.length - (po + 1))) cap2)) := (((Same.refl _ _).drew).grown hgrow (by simp)).set s.pb 2 _ (by simp)
        have hFin := HF.out _ g cap2 cs2 (Or.inl hg) (by rw [← hdl2]; exact A2) (by rw [← hdl2]; exact hle2) (hA2.set_other s.pb 2 _ hgp) (by rw [← hdl2]; simp at ht2; rw [ht2]; simp [delVol, List.map_take, List.map_drop]) (by rw [← hdl2]; omega) S2
        clear HF A2 S2 hown hgrow p2 g2 z2 hA2 hl2 ht2
        go_wp2
        refine bodyPost_end (results_none rfl _ _ _) rfl ⟨rfl, g, ?_⟩
        rw [HPO.out]
        exact hFin
    · have elast : po + 1 = s.vols.length := by omega
      have k1 : po ≤ cap := by omega
      have k4 : ((po : Int) + 1).toNat = po + 1 := by omega
      have k5 : (0 : Int) ≤ (po : Int) + 1 := by omega
      have k6 : s.vols.length ≤ cap := by omega
      have k7 : (po : Int) ≤ (po : Int) + 1 := by omega
      have HL : Hid (po + 1 = s.vols.length) := elast
      generalize hLL : s.vols.length = LL at *
      subst elast
      by_cases hc0 : cap = po + 1
      · subst hc0
        go_region_law (refine step_append_room rfl (.tmp 31) (.tmp 38) 36 rfl 80 i0 1 Try.underlying36 hi0 hz1 b 0 po po (by simp [Act.eval, Act.put]) ⟨b, 0, none⟩ 0 0 [] (by simp [Act.eval, Act.put]) rfl (by intro j u hj; simp at hj) (by intro u hu; simp at hu) (by omega) (by intro j hj; simp at hj) ?_; rw [World.setCells])
        all_goals
          have A2 := hp1.drew.set_same 2 (.slice (some ⟨b, 0, none⟩) po po)
          have S2 : Same [s.pb] w'' (w''.drew.setCell ⟨s.pb, 2, none⟩ (.slice (some ⟨b, 0, none⟩) po po)) := ((Same.refl _ _).drew).set s.pb 2 _ (by simp)
          have hdl2 : (delVol po s.vols).length = po := by omega
          have hFin := HF.out _ b po cs (Or.inr hb) (by rw [hdl2]; exact A2) (by omega) (hB1.drew.set_other s.pb 2 _ hbS.2.2) (by
            rw [hdl2]
            have e3 : delVol po s.vols = s.vols.take po := by unfold delVol; rw [List.drop_of_length_le (by omega), List.append_nil]
            have e4 : cs.take po = (cs.take (po + 1)).take po := by rw [List.take_take, Nat.min_eq_left (by omega)]
            rw [e3, e4, hcs, List.map_take]) (by omega) S2
          clear HF A2 S2
          go_wp2
          refine bodyPost_end (results_none rfl _ _ _) rfl ⟨rfl, b, ?_⟩
          rw [HPO.out]
          exact hFin

      · have hc1 : po + 1 < cap := by omega
        go_region_law (refine step_append_room rfl (.tmp 31) (.tmp 38) 36 rfl 80 i0 1 Try.underlying36 hi0 hz1 b 0 po po (by simp [Act.eval, Act.put]) ⟨b, po + 1, none⟩ 0 (cap - (po + 1)) [] (by simp [Act.eval, Act.put]) rfl (by intro j u hj; simp at hj) (by intro u hu; simp at hu) (by omega) (by intro j hj; simp at hj) ?_; rw [World.setCells])
        all_goals
          have A2 := hp1.drew.set_same 2 (.slice (some ⟨b, 0, none⟩) po po)
          have S2 : Same [s.pb] w'' (w''.drew.setCell ⟨s.pb, 2, none⟩ (.slice (some ⟨b, 0, none⟩) po po)) := ((Same.refl _ _).drew).set s.pb 2 _ (by simp)
          have hdl2 : (delVol po s.vols).length = po := by omega
          have hFin := HF.out _ b po cs (Or.inr hb) (by rw [hdl2]; exact A2) (by omega) (hB1.drew.set_other s.pb 2 _ hbS.2.2) (by
            rw [hdl2]
            have e3 : delVol po s.vols = s.vols.take po := by unfold delVol; rw [List.drop_of_length_le (by omega), List.append_nil]
            have e4 : cs.take po = (cs.take (po + 1)).take po := by rw [List.take_take, Nat.min_eq_left (by omega)]
            rw [e3, e4, hcs, List.map_take]) (by omega) S2
          clear HF A2 S2
          go_wp2
          refine bodyPost_end (results_none rfl _ _ _) rfl ⟨rfl, b, ?_⟩
          rw [HPO.out]
          exact hFin

end Go.Proofs.Ytpddgdjocffgdaa
