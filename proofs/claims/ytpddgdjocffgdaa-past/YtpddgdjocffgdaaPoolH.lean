/- A Pool: add makes a volume or a picture. -/
import Derived.Test.YtpddgdjocffgdaaPoolG
namespace Go.Proofs.Ytpddgdjocffgdaa
open Go.RowKit Go.Sort
set_option linter.unusedVariables false
set_option linter.unusedSimpArgs false
set_option linter.unusedSectionVars false
variable [DecidableEq Blk] [Inhabited Blk]
variable [Inhabited Vol]

theorem pics_ins {w : World} {s : St} (h : PoolAt w s) (hp : Pics s.vols) (i : Nat) (v : Vol) (hvb : v.vb ∉ s.foot) (hk : v.kept = []) (hl : v.lost = false)
    (hvo : ∀ o, v.org = some o → ∃ u ∈ s.vols, u.vb = o ∧ v.xs.length ≤ u.xs.length) : Pics (insVol i v s.vols) := by
  have hin : ∀ u ∈ s.vols, u.vb ∈ s.foot := fun u hu => s.foot_vol hu (by simp [Vol.foot])
  intro x hx
  rcases insVol_mem.1 hx with rfl | hxo
  · refine ⟨by rw [hk]; exact List.nodup_nil, fun _ => hk, fun u hu ho => ⟨by rw [hk]; simp, ?_⟩⟩
    obtain ⟨y, hy, e1, e2⟩ := hvo _ ho
    rcases insVol_mem.1 hu with rfl | hu
    · exact absurd (by rw [← e1]; exact hin y hy) hvb
    · have := h.vb_inj hy hu e1
      rw [← this]; exact e2
  · obtain ⟨p1, p2, p3⟩ := hp x hxo
    refine ⟨p1, p2, fun u hu ho => ?_⟩
    rcases insVol_mem.1 hu with rfl | hu
    · obtain ⟨y, hy, e1, _⟩ := h.orgs x hxo _ ho
      exact absurd (by rw [← e1]; exact hin y hy) hvb
    · exact p3 u hu ho

theorem Good.create {w : World} {s : St} {fr : List Nat} (hP : PoolAt w s) (h : Good s fr) (k i : Nat) (hk : k ≤ fr.length) (v : Vol) (hv : v.xs = fr.take k) (hn : nameB v.name = true) (hvb : v.vb ∉ s.foot) (hkp : v.kept = []) (hl : v.lost = false)
    (hvo : ∀ o, v.org = some o → ∃ u ∈ s.vols, u.vb = o ∧ v.xs.length ≤ u.xs.length) (ab : Option Nat) :
    Good { s with m := s.m - k, d := popsD s.m k s.d, ab := ab, vols := insVol i v s.vols } (fr.drop k) := by
  obtain ⟨_, h2⟩ := h.heap.pops k (by rw [← h.heap.len]; exact hk)
  refine ⟨h2, ?_, fun x hx => h.zero x (List.mem_of_mem_drop hx), fun u hu => ?_, pics_ins hP h.pics i v hvb hkp hl hvo⟩
  · have e1 : ((insVol i v s.vols).flatMap (·.xs)).Perm (v.xs ++ s.vols.flatMap (·.xs)) := by
      have := (insVol_perm i v s.vols).flatMap_right (·.xs)
      simpa using this
    refine ((List.Perm.append_left (fr.drop k) e1).trans ?_).trans h.parts
    rw [hv, ← List.append_assoc]
    refine List.Perm.append_right _ ?_
    have := List.perm_append_comm (l₁ := fr.drop k) (l₂ := fr.take k)
    rw [List.take_append_drop] at this; exact this
  · rcases List.mem_cons.1 ((insVol_perm i v s.vols).mem_iff.1 hu) with rfl | hu
    · exact hn
    · exact h.names u hu

/-- What a call leaves that also takes the block vb, which was new ahead of it. -/
structure AfterB (w : World) (s : St) (vb : Nat) (w' : World) (s' : St) (fr' : List Nat) : Prop where
  pool : PoolAt w' s'
  good : Good s' fr'
  same : Same (vb :: s.foot) w w'
  foot : ∀ k ∈ s'.foot, k ∈ s.foot ∨ k = vb ∨ w.heap.size ≤ k
  pb : s'.pb = s.pb
  n : s'.n = s.n

theorem AfterB.after {w0 w : World} {s : St} {vb : Nat} {w' : World} {s' : St} {fr' : List Nat} (h : AfterB w s vb w' s' fr') (h0 : Same [] w0 w) (hvb : w0.heap.size ≤ vb) : After w0 s w' s' fr' := by
  have hz := h0.size
  refine ⟨h.pool, h.good, (h0.mono (T := s.foot) (by simp)).step h.same ?_, fun k hk => ?_, h.pb, h.n⟩
  · intro k hk hl
    rcases List.mem_cons.1 hk with e | e
    · omega
    · exact e
  · rcases h.foot k hk with e | e | e
    · exact Or.inl e
    · right; omega
    · right; omega

set_option maxHeartbeats 1000000 in
set_option maxRecDepth 100000 in
theorem add_ok (s : St) (fr : List Nat) (t : ByteArray) (k vb : Nat) (org : Option Nat) (w : World) (h : PoolAt w s) (hG : Good s fr) (hV : At w vb 100 [.string t, .slice none 0 0, .pointer (adr org), .slice none 0 0, .bool false]) (hvb : vb ∉ s.foot)
    (hn : nameB t = true) (hx : s.has t = false) (hk : 1 ≤ k ∧ k ≤ 200) (hv : s.vols.length < 20) (hf : k ≤ fr.length) (hvo : ∀ o, org = some o → ∃ u ∈ s.vols, u.vb = o ∧ u.org = none ∧ k ≤ u.xs.length) :
    Calls Try.prog 52 #[.pointer (some ⟨s.pb, 0, none⟩), .int .i64 (posOf s.names t : Nat), .pointer (some ⟨vb, 0, none⟩), .int .i64 k] w fun e w' => e = .returned (.int .i64 0) ∧
      ∃ g gb, AfterB w s vb w' { s with m := s.m - k, d := popsD s.m k s.d, ab := some g, vols := insVol (posOf s.names t) ⟨vb, gb, t, fr.take k, org, none, [], false⟩ s.vols } (fr.drop k) := by
  have hT := take_calls s.db s.bb s.fb s.n s.m k s.bl s.d fr w _ _ rfl rfl (by omega) h.disk hG.all hG.lt.1
  obtain ⟨cap, hp, _, _⟩ := h.pool
  have c1 : w.cell? ⟨s.pb, 1, none⟩ = some (.pointer (some ⟨s.db, 0, none⟩)) := hp.cell? 1
  have c2 : w.cell? ⟨s.pb, 2, none⟩ = some (.slice (s.ab.map fun b => ⟨b, 0, none⟩) s.vols.length cap) := hp.cell? 2
  have H : Hid (PoolAt w s ∧ Good s fr) := ⟨h, hG⟩
  have hml := hG.heap.len
  have hpos : posOf s.names t ≤ s.vols.length := by
    have := List.countP_le_length (p := fun n => decide (cmpB n t < 0)) (l := s.names)
    simpa [St.names, posOf] using this
  have hIns : ∀ (W : World) (s1 : St), PoolAt W s1 → s1.pb = s.pb → s1.ab = s.ab → s1.vols = s.vols → ∀ vb, Calls Try.prog 92 #[.pointer (some ⟨s.pb, 0, none⟩), .int .i64 (posOf s.names t : Nat), .pointer (some ⟨vb, 0, none⟩)] W fun e w' => e = .returned (.tuple #[]) ∧ ArrAt W w' s1 ((s1.vols.take (posOf s.names t)).map (fun v => ptr v.vb) ++ [ptr vb] ++ (s1.vols.drop (posOf s.names t)).map (fun v => ptr v.vb)) := by
    intro W s1 hP e1 e2 e3 vb
    cases hab : s.ab with
    | none =>
      have hv0 := hP.none_nil (e2.trans hab)
      have hp0 : posOf s.names t = 0 := by
        have : s.vols = [] := by rw [← e3]; exact hv0
        have hl : s.vols.length = 0 := by rw [this]; rfl
        omega
      have := insert_nil s1 vb W hP (e2.trans hab)
      rw [e1] at this
      rw [hp0, hv0]
      exact this
    | some b =>
      have := insert_some s1 vb b (posOf s.names t) W hP (e2.trans hab) (by rw [e3]; exact hpos)
      rw [e1] at this
      exact this
  have HVO : Hid (∀ o, org = some o → ∃ u ∈ s.vols, u.vb = o ∧ u.org = none ∧ k ≤ u.xs.length) := hvo
  clear h hG hp hvo
  generalize hpo : posOf s.names t = po at *
  have HPO : Hid (posOf s.names t = po) := hpo
  clear hpo
  have l0 : (s.vols.length : Int) < 20 := by omega
  go_enter Try.func52, Try.ntmps52
  go_wp2_with fail
  refine hT.mono ?_
  rintro e w1 (⟨_, v', rfl, hD, hown, hS⟩ | ⟨h1, _⟩)
  case inr => omega
  obtain ⟨h, hG⟩ := H.out
  obtain ⟨a', cap', rfl⟩ := owns_form hown
  have hpops := (hG.heap.pops k (by omega)).1
  rw [hpops, List.map_map] at hown
  have hxsl : (fr.take k).length = k := by simp; omega
  obtain ⟨gb, cs, rfl, hgb, hR, hle⟩ := owns_row_at (xs := fr.take k) hown hxsl.symm (by intro e; rw [e] at hxsl; simp at hxsl; omega)
  have hP1 := h.withDisk hS (by intro k hk; simp at hk; rcases hk with e | e <;> simp [e]) hD
  have hvS : vb ∉ [s.db, s.fb] := by
    simp only [List.mem_cons, List.not_mem_nil, or_false, not_or]
    exact ⟨fun e => hvb (by rw [e]; exact s.foot_db), fun e => hvb (by rw [e]; exact s.foot_fb)⟩
  have hV1 := hS.at hV hvS
  have lvb := hV.lt
  have d1 : w1.cell? ⟨vb, 1, none⟩ = some (.slice none 0 0) := hV1.cell? 1
  have f1 : w1.frozen? ⟨vb, 1, none⟩ = false := hV1.frozen 1
  have A3 := hV1.set_same 1 (.slice (some ⟨gb, 0, none⟩) k cap')
  simp only [List.set_cons_succ, List.set_cons_zero] at A3
  have S3 : Same [vb] w1 (w1.setCell ⟨vb, 1, none⟩ (.slice (some ⟨gb, 0, none⟩) k cap')) := (Same.refl _ _).set vb 1 _ (by simp)
  have hP3 := hP1.same S3 (by intro j hj hm; simp at hm; rw [hm] at hj; exact hvb hj)
  have hgne : vb ≠ gb := by omega
  have hR3 := hR.same S3 (by simpa using fun e => hgne e.symm)
  have V3 : VolAt (w1.setCell ⟨vb, 1, none⟩ (.slice (some ⟨gb, 0, none⟩) k cap')) ⟨vb, gb, t, fr.take k, org, none, [], false⟩ :=
    ⟨⟨cap', 0, hle, by simp only [Vol.cells, hxsl]; exact A3, fun _ => ⟨rfl, rfl⟩, fun g hg => by cases hg⟩, ⟨cs, hR3⟩, by simp [Vol.foot, hgne], by intro e; have e2 : (fr.take k).length = 0 := by { rw [show fr.take k = [] from e]; rfl }; omega, by show (fr.take k).length ≤ 200; omega, by simp, fun _ => ⟨rfl, rfl⟩⟩
  have hlt := h.foot_lt
  have hgl := hR.at_.lt
  have hz1 := hS.size
  clear hT hown hD c1 c2 hV1 A3
  go_wp2_with fail
  generalize w1.setCell ⟨vb, 1, none⟩ (.slice (some ⟨gb, 0, none⟩) k cap') = W3 at *
  refine (hIns W3 _ hP3 rfl rfl rfl vb).mono ?_
  rintro e w4 ⟨rfl, hA⟩
  have hfo : ∀ j ∈ Vol.foot ⟨vb, gb, t, fr.take k, org, none, [], false⟩, j ∉ St.foot { s with m := s.m - k, bl := s.bl, d := popsD s.m k s.d } := by
    intro j hj hm
    simp only [Vol.foot, Option.toList_none, List.mem_cons, List.not_mem_nil, or_false] at hj
    rcases hj with e | e
    · exact hvb (e ▸ hm)
    · have := hlt j hm; omega
  rw [← HPO.out] at hA
  obtain ⟨g, hg, hP4⟩ := insert_state hP3 ⟨vb, gb, t, fr.take k, org, none, [], false⟩ V3 hfo hv hx (fun o ho => by obtain ⟨u, h1, h2, h3, _⟩ := HVO.out o ho; exact ⟨u, h1, h2, h3⟩) hA
  have hGn := Good.create h hG k (posOf s.names t) hf ⟨vb, gb, t, fr.take k, org, none, [], false⟩ rfl hn hvb rfl rfl (fun o ho => by obtain ⟨u, h1, h2, h3, h4⟩ := HVO.out o ho; exact ⟨u, h1, h2, by rw [hxsl]; exact h4⟩) (some g)
  have hsame : Same (vb :: s.foot) w w4 := ((hS.mono (T := vb :: s.foot) (by simp [St.foot])).step S3 (by simp)).step hA.same (by simp [St.foot])
  have hg5 := S3.size
  have hfoot : ∀ j ∈ St.foot { s with m := s.m - k, d := popsD s.m k s.d, ab := some g, vols := insVol (posOf s.names t) ⟨vb, gb, t, fr.take k, org, none, [], false⟩ s.vols }, j ∈ s.foot ∨ j = vb ∨ w.heap.size ≤ j := by
    intro j hj
    rcases St.foot_cases hj with e | e | e | e | e | ⟨u, hu, hk⟩
    · left; rw [e]; exact s.foot_pb
    · left; rw [e]; exact s.foot_db
    · left; rw [e]; exact s.foot_bb
    · left; rw [e]; exact s.foot_fb
    · right; right; simp at e; omega
    · rcases insVol_mem.1 hu with rfl | hu
      · simp only [Vol.foot, Option.toList_none, List.mem_cons, List.not_mem_nil, or_false] at hk
        rcases hk with e | e
        · right; left; exact e
        · right; right; omega
      · left; exact s.foot_vol hu hk
  have hFin : AfterB w s vb w4 { s with m := s.m - k, d := popsD s.m k s.d, ab := some g, vols := insVol (posOf s.names t) ⟨vb, gb, t, fr.take k, org, none, [], false⟩ s.vols } (fr.drop k) := ⟨hP4, hGn, hsame, hfoot, rfl, rfl⟩
  clear hP4 hGn hsame hfoot hA hP3 hR3 V3 S3 hIns hR hS hP1 h hG
  rw [HPO.out] at hFin
  go_wp2
  go_ret
  exact ⟨rfl, g, gb, hFin⟩
end Go.Proofs.Ytpddgdjocffgdaa
