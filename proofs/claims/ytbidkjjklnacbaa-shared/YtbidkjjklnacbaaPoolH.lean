/- A Pool: Create makes a volume. -/
import Derived.Test.YtbidkjjklnacbaaPoolG
namespace Go.Proofs.Ytbidkjjklnacbaa
open Go.RowKit Go.Sort
set_option linter.unusedVariables false
set_option linter.unusedSimpArgs false
set_option linter.unusedSectionVars false
variable [DecidableEq Blk] [Inhabited Blk]
variable [Inhabited Vol]

theorem insVol_perm (i : Nat) (v : Vol) (l : List Vol) : (insVol i v l).Perm (v :: l) := by
  unfold insVol
  have := List.perm_middle (a := v) (l₁ := l.take i) (l₂ := l.drop i)
  rw [List.take_append_drop] at this; exact this

theorem Good.create {s : St} {fr : List Nat} (h : Good s fr) (k i : Nat) (hk : k ≤ fr.length) (v : Vol) (hv : v.xs = fr.take k) (hn : nameB v.name = true) (ab : Option Nat) :
    Good { s with m := s.m - k, d := popsD s.m k s.d, ab := ab, vols := insVol i v s.vols } (fr.drop k) := by
  obtain ⟨_, h2⟩ := h.heap.pops k (by rw [← h.heap.len]; exact hk)
  refine ⟨h2, ?_, fun x hx => h.zero x (List.mem_of_mem_drop hx), fun u hu => ?_⟩
  · have e1 : ((insVol i v s.vols).flatMap (·.xs)).Perm (v.xs ++ s.vols.flatMap (·.xs)) := by
      have := (insVol_perm i v s.vols).flatMap_right (·.xs)
      simpa using this
    refine ((List.Perm.append_left (fr.drop k) e1).trans ?_).trans h.parts
    rw [hv, ← List.append_assoc]
    refine List.Perm.append_right _ ?_
    have := List.perm_append_comm (l₁ := fr.drop k) (l₂ := fr.take k)
    rw [List.take_append_drop] at this; exact this
  · rcases List.mem_cons.1 ((insVol_perm i v s.vols).mem_iff.1 hu) with rfl | hu
    · exact hn
    · exact h.names u hu

set_option maxHeartbeats 1000000 in
set_option maxRecDepth 100000 in
theorem create_ok (s : St) (fr : List Nat) (t : ByteArray) (k : Nat) (w : World) (h : PoolAt w s) (hG : Good s fr) (ht : t.size ≤ maxLen) (hn : nameB t = true) (hx : s.has t = false) (hk : 1 ≤ k ∧ k ≤ 200) (hv : s.vols.length < 20) (hf : k ≤ fr.length) :
    Calls Try.prog 10 #[.pointer (some ⟨s.pb, 0, none⟩), .string t, .int .i64 k] w fun e w' => e = .returned (.int .i64 0) ∧
      ∃ g vb gb, After w s w' { s with m := s.m - k, d := popsD s.m k s.d, ab := some g, vols := insVol (posOf s.names t) ⟨vb, gb, t, fr.take k⟩ s.vols } (fr.drop k) := by
  have hm := made_plain s w h
  have hI := isName_calls t w ht
  rw [hn] at hI
  have hX := index_plain s t w h
  have hx' := hx
  unfold St.has at hx
  rw [hx] at hX
  have hC := isCount_calls k w
  rw [decide_eq_true (by omega : (1 : Int) ≤ k ∧ (k : Int) ≤ 200)] at hC
  have hT := take_calls s.db s.bb s.fb s.n s.m k s.bl s.d fr w _ _ rfl rfl (by omega) h.disk hG.all hG.lt.1
  have hnot := runNot
  obtain ⟨cap, hp, _, _⟩ := h.pool
  have c1 : w.cell? ⟨s.pb, 1, none⟩ = some (.pointer (some ⟨s.db, 0, none⟩)) := hp.cell? 1
  have c2 : w.cell? ⟨s.pb, 2, none⟩ = some (.slice (s.ab.map fun b => ⟨b, 0, none⟩) s.vols.length cap) := hp.cell? 2
  have H : Hid (PoolAt w s ∧ Good s fr) := ⟨h, hG⟩
  have hml := hG.heap.len
  have hts : t.size ≤ 10 := by simp [nameB] at hn; exact hn.1.2
  have hpos : posOf s.names t ≤ s.vols.length := by
    have := List.countP_le_length (p := fun n => decide (cmpB n t < 0)) (l := s.names)
    simpa [St.names, posOf] using this
  have hIns : ∀ (W : World) (s1 : St), PoolAt W s1 → s1.pb = s.pb → s1.ab = s.ab → s1.vols = s.vols → ∀ vb, Calls Try.prog 30 #[.pointer (some ⟨s.pb, 0, none⟩), .int .i64 (posOf s.names t : Nat), .pointer (some ⟨vb, 0, none⟩)] W fun e w' => e = .returned (.tuple #[]) ∧ ArrAt W w' s1 ((s1.vols.take (posOf s.names t)).map (fun v => ptr v.vb) ++ [ptr vb] ++ (s1.vols.drop (posOf s.names t)).map (fun v => ptr v.vb)) := by
    intro W s1 hP e1 e2 e3 vb
    cases hab : s.ab with
    | none =>
      have hv0 := hP.none_nil (e2.trans hab)
      have hp0 : posOf s.names t = 0 := by
        have : s.vols = [] := by rw [← e3]; exact hv0
        have hl : s.vols.length = 0 := by rw [this]; rfl
        omega
      have := insert_nil s1 vb W hP (e2.trans hab)
      rw [e1] at this
      rw [hp0, hv0]
      exact this
    | some b =>
      have := insert_some s1 vb b (posOf s.names t) W hP (e2.trans hab) (by rw [e3]; exact hpos)
      rw [e1] at this
      exact this
  clear h hG ht hp
  generalize hpo : posOf s.names t = po at *
  have HPO : Hid (posOf s.names t = po) := hpo
  clear hpo
  have l0 : (s.vols.length : Int) < 20 := by omega
  go_enter Try.func10, Try.ntmps10
  go_wp2_with (first | (go_at_call 25; refine hm.mono ?_; rintro e w' ⟨rfl, rfl⟩) | (go_at_call 26; refine hI.mono ?_; rintro e w' ⟨rfl, rfl⟩) | (go_at_call 27; refine hX.mono ?_; rintro e w' ⟨rfl, rfl⟩) | (go_at_call 28; refine hC.mono ?_; rintro e w' ⟨rfl, rfl⟩))
  refine hT.mono ?_
  rintro e w1 (⟨_, v', rfl, hD, hown, hS⟩ | ⟨h1, _⟩)
  case inr => omega
  rename_i w0
  obtain ⟨h, hG⟩ := H.out
  obtain ⟨a', cap', rfl⟩ := owns_form hown
  have hpops := (hG.heap.pops k (by omega)).1
  rw [hpops, List.map_map] at hown
  have hxsl : (fr.take k).length = k := by simp; omega
  obtain ⟨gb, cs, rfl, hgb, hR, hle⟩ := owns_row_at (xs := fr.take k) hown hxsl.symm (by intro e; rw [e] at hxsl; simp at hxsl; omega)
  have hP1 := h.withDisk hS (by simp) hD
  clear hT hm hI hX hC hown hD c1 c2
  go_wp2_with (go_at_call 31; refine (clone_calls t _ (by omega)).mono ?_; rintro e w2 ⟨rfl, S2⟩)
  have A0 := At.new w2 #[Value.string t, Value.slice (some ⟨gb, 0, none⟩) k cap'] 75
  have S3 : Same [] w2 (w2.alloc (Obj.cells #[Value.string t, Value.slice (some ⟨gb, 0, none⟩) k cap'] 75)) := (Same.refl _ _).alloc _
  have hP3 := (hP1.new S2).new S3
  have hR3 := (hR.same S2 (by simp)).same S3 (by simp)
  have hg2 := hR.at_.lt
  have hg3 := S2.size
  have hg4 := hS.size
  have hgne : w2.heap.size ≠ gb := by omega
  have V3 : VolAt (w2.alloc (Obj.cells #[Value.string t, Value.slice (some ⟨gb, 0, none⟩) k cap'] 75)) w2.heap.size gb t (fr.take k) :=
    ⟨⟨cap', hle, by rw [hxsl]; exact A0⟩, ⟨cs, hR3⟩, hgne, by intro e; rw [e] at hxsl; simp at hxsl; omega, by rw [hxsl]; omega⟩
  have hlt := h.foot_lt
  generalize w2.alloc (Obj.cells #[Value.string t, Value.slice (some ⟨gb, 0, none⟩) k cap'] 75) = W3 at *
  refine (hIns W3 _ hP3 rfl rfl rfl w2.heap.size).mono ?_
  rintro e w4 ⟨rfl, hA⟩
  have hfo : ∀ j, w1.heap.size ≤ j ∨ j = gb → j ∉ St.foot { s with m := s.m - k, bl := s.bl, d := popsD s.m k s.d } := by
    intro j hj hm
    have := hlt j hm
    omega
  rw [← HPO.out] at hA
  obtain ⟨g, hg, hP4⟩ := insert_state hP3 ⟨w2.heap.size, gb, t, fr.take k⟩ V3 (hfo _ (Or.inl hg3)) (hfo _ (Or.inr rfl)) hv hx hA
  have hGn := hG.create k (posOf s.names t) hf ⟨w2.heap.size, gb, t, fr.take k⟩ rfl hn (some g)
  have hsame : Same s.foot _ w4 := (((hS.mono (T := s.foot) (by simp [St.foot])).step S2 (by simp)).step S3 (by simp)).step hA.same (by simp [St.foot])
  have hg5 := S3.size
  have hfoot : ∀ j ∈ St.foot { s with m := s.m - k, d := popsD s.m k s.d, ab := some g, vols := insVol (posOf s.names t) ⟨w2.heap.size, gb, t, fr.take k⟩ s.vols }, j ∈ s.foot ∨ w'.heap.size ≤ j := by
    intro j hj
    simp only [St.foot, List.mem_cons, List.mem_append, Option.toList_some, List.not_mem_nil, or_false] at hj
    have hp := footV_ins (posOf s.names t) ⟨w2.heap.size, gb, t, fr.take k⟩ s.vols
    have hj2 : j ∈ (insVol (posOf s.names t) ⟨w2.heap.size, gb, t, fr.take k⟩ s.vols).map (·.vb) ++ (insVol (posOf s.names t) ⟨w2.heap.size, gb, t, fr.take k⟩ s.vols).map (·.gb) → j ∈ s.foot ∨ w'.heap.size ≤ j := by
      intro hm
      rcases List.mem_cons.1 (hp.mem_iff.1 hm) with e | hm
      · right; simp at e; omega
      · rcases List.mem_cons.1 hm with e | hm
        · right; simp at e; omega
        · left; simp only [St.foot, List.mem_cons, List.mem_append] at hm ⊢; exact Or.inr (Or.inr (Or.inr (Or.inr (Or.inr hm))))
    rcases hj with e | e | e | e | e | hj
    · left; simp [St.foot, e]
    · left; simp [St.foot, e]
    · left; simp [St.foot, e]
    · left; simp [St.foot, e]
    · right; omega
    · exact hj2 (List.mem_append.2 hj)
  have hFin : After w' s w4 { s with m := s.m - k, d := popsD s.m k s.d, ab := some g, vols := insVol (posOf s.names t) ⟨w2.heap.size, gb, t, fr.take k⟩ s.vols } (fr.drop k) := ⟨hP4, hGn, hsame, hfoot, rfl, rfl⟩
  clear hP4 hGn hsame hfoot hA hP3 hR3 V3 S3 hIns hR hS S2 hP1 h hG A0
  rw [HPO.out] at hFin
  go_wp2
  go_ret
  exact ⟨rfl, g, _, gb, hFin⟩
end Go.Proofs.Ytbidkjjklnacbaa
