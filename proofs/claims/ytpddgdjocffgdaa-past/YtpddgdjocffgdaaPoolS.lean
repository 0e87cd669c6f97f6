/- A Pool: keep, by contracts. -/
import Derived.Test.YtpddgdjocffgdaaPoolR
import Derived.Test.YtpddgdjocffgdaaPoolP
import Derived.Maps.AppendAt
namespace Go.Proofs.Ytpddgdjocffgdaa
open Go.RowKit Go.Sort
set_option linter.unusedVariables false
set_option linter.unusedSimpArgs false
set_option linter.unusedSectionVars false
variable [DecidableEq Blk] [Inhabited Blk]
variable [Inhabited Vol]

set_option maxHeartbeats 1000000 in
set_option maxRecDepth 100000 in
theorem keep_lost (s : St) (fr : List Nat) (i : Nat) (v : Vol) (k : Nat) (b : Blk) (w : World) (u : Value) (hu : u = b.val) (h : PoolAt w s) (hG : Good s fr) (hi : i < s.vols.length) (hv : s.vols[i]! = v) (ho : v.org ≠ none) (hf : v.kept.length = v.xs.length) :
    Calls Try.prog 100 #[.pointer (some ⟨s.pb, 0, none⟩), .pointer (some ⟨v.vb, 0, none⟩), .int .i64 k, u] w fun e w' => e = .returned (.int .i64 10) ∧
      After w s w' { s with bl := giveB v.xs s.bl, vols := setVol i v.losing s.vols } fr := by
  subst hu
  obtain ⟨x0, x1, x2, x3, x4, x5, x6, x7⟩ := b
  have hmem : v ∈ s.vols := by rw [← hv]; exact get_mem hi
  have hV := h.vols v hmem
  obtain ⟨cap, kcap, hcap, hvo, hk1, hk2⟩ := hV.vol
  have hsm := hV.small
  have lv := hvo.lt
  have c1 : w.cell? ⟨v.vb, 1, none⟩ = some (.slice (some ⟨v.gb, 0, none⟩) v.xs.length cap) := hvo.cell? 1
  have c3 : w.cell? ⟨v.vb, 3, none⟩ = some (.slice (adr v.kg) v.kept.length kcap) := hvo.cell? 3
  have hL := fun W (hW : Same [] w W) => lose_calls s fr i v W (h.new hW) hG hi hv ho
  clear h hG hvo hV hk1 hk2
  unfold Blk.val
  go_enter Try.func100, Try.ntmps100
  go_wp2_with (go_at_call 119; refine (hL _ ((Same.refl _ _).alloc _)).mono ?_; rintro e w2 ⟨rfl, hA⟩)
  have hFin := hA.old ((Same.refl [] w).alloc (Obj.cells #[.int .u8 x0, .int .u8 x1, .int .u8 x2, .int .u8 x3, .int .u8 x4, .int .u8 x5, .int .u8 x6, .int .u8 x7] 55))
  clear hA hL
  go_ret
  exact ⟨rfl, hFin⟩

/-- A picture that keeps one place more. -/
def Vol.keeping (v : Vol) (g k : Nat) : Vol := { v with kg := some g, kept := v.kept ++ [k] }

set_option maxHeartbeats 1000000 in
set_option maxRecDepth 100000 in
theorem keep_more (s : St) (fr : List Nat) (i : Nat) (v : Vol) (k : Nat) (b : Blk) (w : World) (u : Value) (hu : u = b.val) (h : PoolAt w s) (hG : Good s fr) (hi : i < s.vols.length) (hv : s.vols[i]! = v) (ho : v.org ≠ none) (hl : v.lost = false) (hf : v.kept.length < v.xs.length) (hk : k ∉ v.kept) (hks : k < s.size v) :
    Calls Try.prog 100 #[.pointer (some ⟨s.pb, 0, none⟩), .pointer (some ⟨v.vb, 0, none⟩), .int .i64 k, u] w fun e w' => e = .returned (.int .i64 0) ∧
      ∃ g, After w s w' { s with bl := s.bl.set v.xs[v.kept.length]! b, vols := setVol i (v.keeping g k) s.vols } fr := by
  subst hu
  obtain ⟨x0, x1, x2, x3, x4, x5, x6, x7⟩ := b
  have hmem : v ∈ s.vols := by rw [← hv]; exact get_mem hi
  have hV := h.vols v hmem
  obtain ⟨cap, kcap, hcap, hvo, hk1, hk2⟩ := hV.vol
  obtain ⟨cs, hr⟩ := hV.row
  have hsm := hV.small
  have lv := hvo.lt
  have hown : w.ownsRow 0 3 1 (.slice (adr v.kg) v.kept.length kcap) v.kept.length (v.kept.map (fun x : Nat => Value.int .i64 x)) := by
    cases hg : v.kg with
    | none =>
      obtain ⟨q1, q2⟩ := hk1 hg
      rw [q1, q2]; exact World.ownsRow_nil _ _ _ _
    | some g => exact nums_owns (hk2 g hg) rfl
  have hob : (Value.slice (adr v.kg) v.kept.length kcap).ownBlock = v.kg := by
    cases hg : v.kg <;> rfl
  have lb : ∀ q, v.kg = some q → q < w.heap.size := fun q hq => (hk2 q hq).lt
  obtain ⟨i0, hi0, hz0, hz1, hz2⟩ := info_parts Try.info3
  have c1 : w.cell? ⟨v.vb, 1, none⟩ = some (.slice (some ⟨v.gb, 0, none⟩) v.xs.length cap) := hvo.cell? 1
  have c3 : w.cell? ⟨v.vb, 3, none⟩ = some (.slice (adr v.kg) v.kept.length kcap) := hvo.cell? 3
  have hne : ((v.kept.length : Int) == (v.xs.length : Int)) = false := beq_eq_false_iff_ne.2 (by omega)
  have H : Hid (PoolAt w s ∧ Good s fr ∧ VolAt w v) := ⟨h, hG, hV⟩
  have HV : Hid (At w v.vb 100 (v.cells cap kcap) ∧ RowAt w v.gb v.xs cs) := ⟨hvo, hr⟩
  clear h hG hvo hV hk1 hk2 hr
  unfold Blk.val
  go_enter Try.func100, Try.ntmps100
  go_wp2_with (first | (at_builtin; refine wpList_append_own_at _ rfl _ _ 39 rfl 0 3 i0 (.int .i64 0) 1 8 Try.underlying39 hi0 hz0 hz1 hz2 rfl (by decide) _ _ _ rfl ((hown.alloc _).alloc _) ⟨w.heap.size + 1, 0, none⟩ 1 1 [.int .i64 (k : Nat)] rfl rfl ?c1 ?c2 ?c3 ?c4 ?c5 ?_))
  case c1 =>
    intro j u hj
    match j, hj with
    | 0, hj => simp at hj; subst hj; simp [Addr.add]
  case c2 => intro u hu; simp at hu; subst hu; rfl
  case c3 => unfold maxLen; omega
  case c4 => omega
  case c5 => first | omega | (simp; done) | (simp; omega)
  intro v' w4 hown' hgrow _ hblk
  try rw [hob] at hgrow
  try rw [hob] at hblk
  obtain ⟨hvo, hr⟩ := HV.out
  obtain ⟨h, hG, hV⟩ := H.out
  have S4 : Same v.kg.toList w w4 := (((Same.refl _ _).alloc _).alloc _).grown hgrow (fun i hi hl => by rw [hi]; simp)
  have hown2 : w4.ownsRow 0 3 1 v' (v.kept.length + 1) ((v.kept ++ [k]).map (fun x : Nat => Value.int .i64 x)) := by
    rw [List.map_append]; exact hown'
  obtain ⟨g, kc2, rfl, _, hN⟩ := owns_nums hown2 (by simp)
  have hgo : v.kg = some g ∨ w.heap.size + 2 ≤ g := by
    rcases hblk with hq | hq
    · exact .inl hq.symm
    · right
      have := hq
      simp [Value.ownBlock] at this
      omega
  have hndv := hV.nodup
  simp only [Vol.foot, List.nodup_cons, List.mem_cons, not_or, Option.mem_toList, Option.mem_def] at hndv
  obtain ⟨⟨nv1, nv2⟩, nv3, _⟩ := hndv
  have b1 := S4.at hvo (by simpa using nv2)
  have f3 : w4.frozen? ⟨v.vb, 3, none⟩ = false := b1.frozen 3
  have g3 : w4.cell? ⟨v.vb, 3, none⟩ = some (.slice (adr v.kg) v.kept.length kcap) := b1.cell? 3
  have ng : g ≠ v.vb := by
    rcases hgo with hq | hq
    · intro e; exact nv2 (by rw [hq, e])
    · omega
  have ng2 : g ≠ v.gb := by
    rcases hgo with hq | hq
    · intro e; exact nv3 (by rw [hq, e])
    · have := hr.at_.lt; omega
  have S5 : Same (v.vb :: v.kg.toList) w (w4.setCell ⟨v.vb, 3, none⟩ (.slice (some ⟨g, 0, none⟩) (v.kept ++ [k]).length kc2)) :=
    (S4.mono (by intro b hb _; exact List.mem_cons_of_mem _ hb)).set _ _ _ (by simp)
  have A5 := b1.set_same 3 (.slice (some ⟨g, 0, none⟩) (v.kept ++ [k]).length kc2)
  have V5 : VolAt (w4.setCell ⟨v.vb, 3, none⟩ (.slice (some ⟨g, 0, none⟩) (v.kept ++ [k]).length kc2)) (v.keeping g k) := by
    refine ⟨⟨cap, kc2, hcap, A5, (fun e => by cases e), fun g' hg' => ?_⟩, ⟨cs, hr.same S5 ?_⟩, ?_, hV.pos, hV.small, by simp [Vol.keeping]; omega, fun e => absurd e ho⟩
    · cases hg'
      obtain ⟨cs', h1, h2⟩ := hN.ex
      exact ⟨cs', h1.set_other _ _ _ ng, h2⟩
    · simp only [List.mem_cons, not_or, Option.mem_toList, Option.mem_def]
      exact ⟨fun e => nv1 e.symm, nv3⟩
    · simp only [Vol.keeping, Vol.foot, Option.toList_some]
      simp only [List.nodup_cons, List.mem_cons, List.not_mem_nil, or_false, not_or, not_false_eq_true, and_true, List.nodup_nil]
      exact ⟨⟨nv1, fun e => ng e.symm⟩, fun e => ng2 e.symm⟩
  have hft : ∀ q ∈ (v.keeping g k).foot, q ∈ (s.vols[i]!).foot ∨ w.heap.size ≤ q := by
    intro q hq
    rw [hv]
    simp only [Vol.keeping, Vol.foot, Option.toList_some, List.mem_cons, List.not_mem_nil, or_false, Option.mem_toList, Option.mem_def] at hq ⊢
    rcases hq with e | e | e
    · left; left; exact e
    · left; right; left; exact e
    · rcases hgo with hq | hq
      · left; right; right; rw [e]; exact hq
      · right; omega
  have hP5 := set_state h i hi (v.keeping g k) (by rw [hv]; rfl) (by rw [hv]; rfl) (by rw [hv]; rfl) hft V5 (S5.mono (by
    intro q hq _; rw [hv]
    simp only [List.mem_cons, Option.mem_toList, Option.mem_def, Vol.foot] at hq ⊢
    rcases hq with e | e
    · exact Or.inl e
    · exact Or.inr (Or.inr e)))
  have hpc : Pics (setVol i (v.keeping g k) s.vols) := by
    refine pics_set h hG.pics i hi (v.keeping g k) (by rw [hv]; rfl) (by rw [hv]; rfl) ?_ ?_ ?_ (fun u hu e => (hG.pics u hu).2.2 v hmem e)
    · show (v.kept ++ [k]).Nodup
      exact List.nodup_append.2 ⟨(hG.pics v hmem).1, by simp, by intro a ha b hb e; simp at hb; subst hb; subst e; exact hk ha⟩
    · intro e; have e' : v.lost = true := e; rw [hl] at e'; cases e'
    · intro u hu e
      have hp := (hG.pics v hmem).2.2 u hu e
      refine ⟨fun q hq => ?_, hp.2⟩
      have hq' : q ∈ v.kept ++ [k] := hq
      rcases List.mem_append.1 hq' with hq' | hq'
      · exact hp.1 q hq'
      · simp at hq'; subst hq'
        have e1 := (h.orgOf hmem).2.2.2 ho
        have e2 : s.orgOf v = u := h.vb_inj (h.orgOf hmem).1 hu (by
          have e' : v.org = some u.vb := e
          rw [e'] at e1; simpa using e1.symm)
        have : s.size v = u.xs.length := by unfold St.size; rw [e2]
        omega
  have hyx : v.xs[v.kept.length]! ∈ v.xs := mem_getElem! hf
  have hyn := hG.lt.2 v hmem _ hyx
  have hG2 := hG.set i hi (v.keeping g k) (by rw [hv]; rfl) (by rw [hv]; rfl) (s.bl.set v.xs[v.kept.length]! ⟨x0, x1, x2, x3, x4, x5, x6, x7⟩) (zero_set hG h.disk.len _ (hG.apart_fr hmem hyx) _) hpc
  have cx : w4.cell? ⟨v.gb, v.kept.length, none⟩ = some (.int .i64 (v.xs[v.kept.length]! : Nat)) := by
    rw [(S4.at hr.at_ (by simpa using nv3)).cell?]; exact hr.cell _ hf
  obtain ⟨pcap, hp, _, _⟩ := h.pool
  have hapv := (apart_of h.nodup).disk v hmem
  have npb : s.pb ≠ v.vb := by have := hapv v.vb (by simp [Vol.foot]); simp only [List.mem_cons, not_or] at this; exact fun e => this.1 e.symm
  have npk : v.kg ≠ some s.pb := fun e => by have := hapv s.pb (by simp [Vol.foot, e]); simp at this
  have p1 : w4.cell? ⟨s.pb, 1, none⟩ = some (.pointer (some ⟨s.db, 0, none⟩)) := (S4.at hp (by simpa using npk)).cell? 1
  have d1 : w4.cell? ⟨v.vb, 1, none⟩ = some (.slice (some ⟨v.gb, 0, none⟩) v.xs.length cap) := b1.cell? 1
  have B0 : At ((w.alloc (Obj.cells #[.int .u8 x0, .int .u8 x1, .int .u8 x2, .int .u8 x3, .int .u8 x4, .int .u8 x5, .int .u8 x6, .int .u8 x7] 55)).alloc (Obj.cells #[.int .i64 (k : Nat)] 3)) w.heap.size 55 [.int .u8 x0, .int .u8 x1, .int .u8 x2, .int .u8 x3, .int .u8 x4, .int .u8 x5, .int .u8 x6, .int .u8 x7] := (At.new w _ _).alloc _
  have B4 := B0.of_heap (hgrow.block w.heap.size B0.lt (fun e => by have := lb _ e.symm; omega))
  have B5 := B4.set_other v.vb 3 (.slice (some ⟨g, 0, none⟩) (v.kept ++ [k]).length kc2) (by omega)
  have z0 : (w4.setCell ⟨v.vb, 3, none⟩ (.slice (some ⟨g, 0, none⟩) (v.kept ++ [k]).length kc2)).cell? ⟨w.heap.size, 0, none⟩ = some (.int .u8 x0) := B5.cell? 0
  have z1 : (w4.setCell ⟨v.vb, 3, none⟩ (.slice (some ⟨g, 0, none⟩) (v.kept ++ [k]).length kc2)).cell? ⟨w.heap.size, 1, none⟩ = some (.int .u8 x1) := B5.cell? 1
  have z2 : (w4.setCell ⟨v.vb, 3, none⟩ (.slice (some ⟨g, 0, none⟩) (v.kept ++ [k]).length kc2)).cell? ⟨w.heap.size, 2, none⟩ = some (.int .u8 x2) := B5.cell? 2
  have z3 : (w4.setCell ⟨v.vb, 3, none⟩ (.slice (some ⟨g, 0, none⟩) (v.kept ++ [k]).length kc2)).cell? ⟨w.heap.size, 3, none⟩ = some (.int .u8 x3) := B5.cell? 3
  have z4 : (w4.setCell ⟨v.vb, 3, none⟩ (.slice (some ⟨g, 0, none⟩) (v.kept ++ [k]).length kc2)).cell? ⟨w.heap.size, 4, none⟩ = some (.int .u8 x4) := B5.cell? 4
  have z5 : (w4.setCell ⟨v.vb, 3, none⟩ (.slice (some ⟨g, 0, none⟩) (v.kept ++ [k]).length kc2)).cell? ⟨w.heap.size, 5, none⟩ = some (.int .u8 x5) := B5.cell? 5
  have z6 : (w4.setCell ⟨v.vb, 3, none⟩ (.slice (some ⟨g, 0, none⟩) (v.kept ++ [k]).length kc2)).cell? ⟨w.heap.size, 6, none⟩ = some (.int .u8 x6) := B5.cell? 6
  have z7 : (w4.setCell ⟨v.vb, 3, none⟩ (.slice (some ⟨g, 0, none⟩) (v.kept ++ [k]).length kc2)).cell? ⟨w.heap.size, 7, none⟩ = some (.int .u8 x7) := B5.cell? 7
  have e1 : (w4.setCell ⟨v.vb, 3, none⟩ (.slice (some ⟨g, 0, none⟩) (v.kept ++ [k]).length kc2)).cell? ⟨s.pb, 1, none⟩ = some (.pointer (some ⟨s.db, 0, none⟩)) := ((S4.at hp (by simpa using npk)).set_other v.vb 3 _ npb).cell? 1
  have e2 : (w4.setCell ⟨v.vb, 3, none⟩ (.slice (some ⟨g, 0, none⟩) (v.kept ++ [k]).length kc2)).cell? ⟨v.vb, 1, none⟩ = some (.slice (some ⟨v.gb, 0, none⟩) v.xs.length cap) := A5.cell? 1
  have e3 : (w4.setCell ⟨v.vb, 3, none⟩ (.slice (some ⟨g, 0, none⟩) (v.kept ++ [k]).length kc2)).cell? ⟨v.gb, v.kept.length, none⟩ = some (.int .i64 (v.xs[v.kept.length]! : Nat)) := by
    rw [((S4.at hr.at_ (by simpa using nv3)).set_other v.vb 3 _ (fun e => nv1 e.symm)).cell?]; exact hr.cell _ hf
  have hW := fun W (hW : Same [] (w4.setCell ⟨v.vb, 3, none⟩ (.slice (some ⟨g, 0, none⟩) (v.kept ++ [k]).length kc2)) W) u (hu : u = Blk.val ⟨x0, x1, x2, x3, x4, x5, x6, x7⟩) => diskWrite_calls s.db s.bb s.n v.xs[v.kept.length]! _ _ _ s.bl ⟨x0, x1, x2, x3, x4, x5, x6, x7⟩ W _ u _ rfl rfl hu (hW.at hP5.disk.disk (by simp)) (hW.at hP5.disk.data (by simp)) h.disk.len hyn (by have := h.disk.small; omega)
  have HF : Hid (∀ w6, At w6 s.bb 55 (flat (s.bl.set v.xs[v.kept.length]! ⟨x0, x1, x2, x3, x4, x5, x6, x7⟩)) → Same [s.bb] (w4.setCell ⟨v.vb, 3, none⟩ (.slice (some ⟨g, 0, none⟩) (v.kept ++ [k]).length kc2)) w6 → After w s w6 { s with bl := s.bl.set v.xs[v.kept.length]! ⟨x0, x1, x2, x3, x4, x5, x6, x7⟩, vols := setVol i (v.keeping g k) s.vols } fr) := by
    intro w6 A6 S6
    have hD := hP5.disk
    have D6 : DiskAt w6 s.db s.bb s.fb s.n s.m (s.bl.set v.xs[v.kept.length]! ⟨x0, x1, x2, x3, x4, x5, x6, x7⟩) s.d :=
      ⟨S6.at hD.disk (by simp; exact hD.ne1), A6, S6.at hD.free (by simp; exact hD.ne3.symm), hD.ne1, hD.ne2, hD.ne3, by simp [hD.len], hD.size, hD.le, hD.small⟩
    refine ⟨hP5.withDisk S6 (by intro q hq; simp at hq; simp [hq]) D6, hG2, (S5.mono (T := s.foot) ?_).step S6 (by simp [St.foot]), set_foot (s := s) (v := v.keeping g k) hi hft, rfl, rfl⟩
    intro q hq _
    refine s.foot_vol hmem ?_
    simp only [List.mem_cons, Option.mem_toList, Option.mem_def, Vol.foot] at hq ⊢
    rcases hq with e | e
    · exact Or.inl e
    · exact Or.inr (Or.inr e)
  have HL : Hid (v.kept.length + 1 = (v.kept ++ [k]).length) := by show _ = _; simp
  rw [show (v.kept ++ [k]).length = v.kept.length + 1 by simp] at e1 e2 e3 hW HF z0 z1 z2 z3 z4 z5 z6 z7
  clear hown hown' hown2 hgrow h hG hV hvo hr hP5 V5 S5 A5 b1 S4 hpc hG2 hft B0 B4 B5 hN hp cx p1 d1 H HV c1 c3 hob lb
  generalize hyy : v.xs[v.kept.length]! = yy at *
  have HYY : Hid (v.xs[v.kept.length]! = yy) := hyy
  clear hyy
  have l1 : (v.kept.length : Int) < (v.xs.length : Int) := by omega
  go_wp2_with fail
  rw [show (v.kept ++ [k]).length = v.kept.length + 1 by simp]
  generalize (w4.setCell ⟨v.vb, 3, none⟩ (.slice (some ⟨g, 0, none⟩) (v.kept.length + 1) kc2)) = W5 at *
  refine region_tail 12 (by kernel_rfl) (by kernel_rfl) ?_
  simp only [List.take_succ_cons, List.take_zero, List.drop_succ_cons, List.drop_zero]
  repeat still_step
  refine wpStill_nil ?_
  go_wp2_with (go_at_call 68; refine (hW _ ((Same.refl _ _).drew) _ rfl).mono ?_; rintro e w6 ⟨rfl, A6, S6⟩)
  have hFin := HF.out w6 A6 ((Same.refl _ _).drew.step S6 (by simp))
  clear HF A6 S6 hW
  go_ret
  exact ⟨rfl, g, by rw [HYY.out]; exact hFin⟩
end Go.Proofs.Ytpddgdjocffgdaa
