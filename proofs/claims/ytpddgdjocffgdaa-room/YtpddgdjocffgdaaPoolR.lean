/- A Pool: lose, by a contract. -/
import Derived.Test.YtpddgdjocffgdaaPoolJ
namespace Go.Proofs.Ytpddgdjocffgdaa
open Go.RowKit Go.Sort
set_option linter.unusedVariables false
set_option linter.unusedSimpArgs false
set_option linter.unusedSectionVars false
variable [DecidableEq Blk] [Inhabited Blk]
variable [Inhabited Vol]

theorem setVol_xs (i : Nat) (v : Vol) (l : List Vol) (hi : i < l.length) (hx : v.xs = (l[i]!).xs) : (setVol i v l).flatMap (·.xs) = l.flatMap (·.xs) := by
  have := setVol_map (·.xs) i v l hi hx
  rw [List.flatMap_def, List.flatMap_def, this]

/-- One volume told otherwise, its blocks the same, and blocks written that are not free. -/
theorem Good.set {s : St} {fr : List Nat} (h : Good s fr) (i : Nat) (hi : i < s.vols.length) (v : Vol) (hx : v.xs = (s.vols[i]!).xs) (hn : v.name = (s.vols[i]!).name) (bl : List Blk) (hz : ∀ x ∈ fr, bl[x]! = Blk.zero) (hpc : Pics (setVol i v s.vols)) :
    Good { s with bl := bl, vols := setVol i v s.vols } fr := by
  refine ⟨h.heap, ?_, hz, fun u hu => ?_, hpc⟩
  · show (fr ++ (setVol i v s.vols).flatMap (·.xs)).Perm _
    rw [setVol_xs i v s.vols hi hx]; exact h.parts
  · rcases setVol_mem.1 hu with rfl | hu
    · rw [hn]; exact h.names _ (get_mem hi)
    · exact h.names u ((delVol_sub i s.vols).mem hu)

theorem Good.apart_fr {s : St} {fr : List Nat} (h : Good s fr) {v : Vol} (hv : v ∈ s.vols) {x : Nat} (hx : x ∈ v.xs) : x ∉ fr := fun hm =>
  (List.nodup_append.1 h.nodup).2.2 x hm x (List.mem_flatMap.2 ⟨v, hv, hx⟩) rfl

theorem zero_give {s : St} {fr : List Nat} (h : Good s fr) (hl : s.bl.length = s.n) (xs : List Nat) : ∀ x ∈ fr, (giveB xs s.bl)[x]! = Blk.zero := fun x hx => by
  rw [giveB_get xs s.bl x (by rw [hl]; exact h.lt.1 x hx)]
  split
  · rfl
  · exact h.zero x hx
theorem zero_set {s : St} {fr : List Nat} (h : Good s fr) (hl : s.bl.length = s.n) (y : Nat) (hy : y ∉ fr) (b : Blk) : ∀ x ∈ fr, (s.bl.set y b)[x]! = Blk.zero := fun x hx => by
  have hxl : x < s.bl.length := by rw [hl]; exact h.lt.1 x hx
  have hne : y ≠ x := fun e => hy (by rw [e]; exact hx)
  rw [getElem!_pos _ x (by simpa using hxl), List.getElem_set_ne hne, ← getElem!_pos s.bl x hxl]
  exact h.zero x hx

/-- A picture that is lost. -/
def Vol.losing (v : Vol) : Vol := { v with kg := none, kept := [], lost := true }

set_option maxHeartbeats 1000000 in
set_option maxRecDepth 100000 in
theorem lose_calls (s : St) (fr : List Nat) (i : Nat) (v : Vol) (w : World) (h : PoolAt w s) (hG : Good s fr) (hi : i < s.vols.length) (hv : s.vols[i]! = v) (ho : v.org ≠ none) :
    Calls Try.prog 119 #[.pointer (some ⟨s.pb, 0, none⟩), .pointer (some ⟨v.vb, 0, none⟩)] w fun e w' => e = .returned (.tuple #[]) ∧
      After w s w' { s with bl := giveB v.xs s.bl, vols := setVol i v.losing s.vols } fr := by
  have hmem : v ∈ s.vols := by rw [← hv]; exact get_mem hi
  have hV := h.vols v hmem
  obtain ⟨cap, kcap, hcap, hvo, hk1, hk2⟩ := hV.vol
  obtain ⟨cs, hr⟩ := hV.row
  obtain ⟨pcap, hp, _, _⟩ := h.pool
  have c1 : w.cell? ⟨v.vb, 1, none⟩ = some (.slice (some ⟨v.gb, 0, none⟩) v.xs.length cap) := hvo.cell? 1
  have c3 : w.cell? ⟨v.vb, 3, none⟩ = some (.slice (adr v.kg) v.kept.length kcap) := hvo.cell? 3
  have c4 : w.cell? ⟨v.vb, 4, none⟩ = some (.bool v.lost) := hvo.cell? 4
  have f3 : w.frozen? ⟨v.vb, 3, none⟩ = false := hvo.frozen 3
  have f4 : w.frozen? ⟨v.vb, 4, none⟩ = false := hvo.frozen 4
  have p1 : w.cell? ⟨s.pb, 1, none⟩ = some (.pointer (some ⟨s.db, 0, none⟩)) := hp.cell? 1
  have hap := (apart_of h.nodup).disk v hmem
  have npb : v.vb ≠ s.pb := by have := hap v.vb (by simp [Vol.foot]); simp only [List.mem_cons, not_or] at this; exact this.1
  have npb' : s.pb ≠ v.vb := fun e => npb e.symm
  have A1 := (hvo.set_same 3 (.slice none 0 0)).set_same 4 (.bool true)
  have S1 : Same [v.vb] w ((w.setCell ⟨v.vb, 3, none⟩ (.slice none 0 0)).setCell ⟨v.vb, 4, none⟩ (.bool true)) := ((Same.refl _ _).set _ _ _ (by simp)).set _ _ _ (by simp)
  have hnd := hV.nodup
  have hgv : v.gb ∉ [v.vb] := by
    simp only [Vol.foot, List.nodup_cons, List.mem_cons, not_or] at hnd
    simp; exact fun e => hnd.1.1 e.symm
  have V1 : VolAt ((w.setCell ⟨v.vb, 3, none⟩ (.slice none 0 0)).setCell ⟨v.vb, 4, none⟩ (.bool true)) v.losing := by
    refine ⟨⟨cap, 0, hcap, A1, fun _ => ⟨rfl, rfl⟩, fun g hg => by cases hg⟩, ⟨cs, hr.same S1 hgv⟩, ?_, hV.pos, hV.small, by simp [Vol.losing], fun e => absurd e ho⟩
    simp only [Vol.losing, Vol.foot, Option.toList_none]
    simp only [Vol.foot, List.nodup_cons, List.mem_cons, not_or] at hnd
    simp [hnd.1.1]
  have hP1 := set_state h i hi v.losing (by rw [hv]; rfl) (by rw [hv]; rfl) (by rw [hv]; rfl) (by intro k hk; rw [hv]; left; simp [Vol.losing, Vol.foot] at hk ⊢; rcases hk with e | e <;> simp [e]) V1 (S1.mono (by intro k hk _; rw [hv]; simp at hk; simp [Vol.foot, hk]))
  have hpc : Pics (setVol i v.losing s.vols) := pics_set h hG.pics i hi v.losing (by rw [hv]; rfl) (by rw [hv]; rfl) (by simp [Vol.losing]) (fun _ => rfl) (fun u hu e => ⟨by simp [Vol.losing], ((hG.pics v hmem).2.2 u hu e).2⟩) (fun u hu e => (hG.pics u hu).2.2 v hmem e)
  have hG2 := hG.set i hi v.losing (by rw [hv]; rfl) (by rw [hv]; rfl) (giveB v.xs s.bl) (zero_give hG h.disk.len v.xs) hpc
  have hgS : v.gb ≠ s.bb := by have := hap v.gb (by simp [Vol.foot]); simp only [List.mem_cons, not_or] at this; exact this.2.2.1
  have hlt := hG.lt.2 v hmem
  have hsm := hV.small
  have hW := fun W (hW : Same [] ((w.setCell ⟨v.vb, 3, none⟩ (.slice none 0 0)).setCell ⟨v.vb, 4, none⟩ (.bool true)) W) => wipe_calls s.db s.bb s.fb s.n s.m v.gb 0 cap s.bl s.d v.xs (some ⟨v.gb, 0, none⟩) _ cs W _ _ rfl rfl (hP1.disk.same hW (by simp) (by simp) (by simp)) (fun _ => ⟨rfl, (hr.same (S1.trans hW) (by simpa using hgv)).at_, hgS⟩) (fun j hj => by rw [Nat.zero_add]; exact hr.cell j hj) hlt (by omega)
  have q1 : ((w.setCell ⟨v.vb, 3, none⟩ (.slice none 0 0)).setCell ⟨v.vb, 4, none⟩ (.bool true)).cell? ⟨s.pb, 1, none⟩ = some (.pointer (some ⟨s.db, 0, none⟩)) := (S1.at hp (by simp [npb'])).cell? 1
  have q2 : ((w.setCell ⟨v.vb, 3, none⟩ (.slice none 0 0)).setCell ⟨v.vb, 4, none⟩ (.bool true)).cell? ⟨v.vb, 1, none⟩ = some (.slice (some ⟨v.gb, 0, none⟩) v.xs.length cap) := A1.cell? 1
  have hvf : v.vb ∈ s.foot := s.foot_vol hmem (by simp [Vol.foot])
  have HF : Hid (∀ w3, DiskAt w3 s.db s.bb s.fb s.n s.m (giveB v.xs s.bl) s.d → Same [s.bb] ((w.setCell ⟨v.vb, 3, none⟩ (.slice none 0 0)).setCell ⟨v.vb, 4, none⟩ (.bool true)) w3 → After w s w3 { s with bl := giveB v.xs s.bl, vols := setVol i v.losing s.vols } fr) := by
    intro w3 D3 S3
    refine ⟨hP1.withDisk S3 (by intro k hk; simp at hk; simp [hk]) D3, hG2, (S1.mono (T := s.foot) (by simp; exact fun _ => hvf)).step S3 (by simp [St.foot]), ?_, rfl, rfl⟩
    exact set_foot (s := s) (v := v.losing) hi (by intro k hk; rw [hv]; left; simp [Vol.losing, Vol.foot] at hk ⊢; rcases hk with e | e <;> simp [e])
  clear h hG hp hvo hV hr hk1 hk2 hap A1 V1 hP1 hG2 hpc S1
  go_enter Try.func119, Try.ntmps119
  go_wp2_with fail
  generalize ((w.setCell ⟨v.vb, 3, none⟩ (.slice none 0 0)).setCell ⟨v.vb, 4, none⟩ (.bool true)) = W1 at *
  refine region_tail 8 (by kernel_rfl) (by kernel_rfl) ?_
  simp only [List.take_succ_cons, List.take_zero, List.drop_succ_cons, List.drop_zero]
  repeat still_step
  refine wpStill_nil ?_
  go_wp2_with (go_at_call 94; refine (hW _ ((Same.refl _ _).drew)).mono ?_; rintro e w3 ⟨rfl, D3, S3⟩)
  have hFin := HF.out w3 D3 ((Same.refl _ _).drew.step S3 (by simp))
  clear HF D3 S3 hW
  refine bodyPost_end (results_none rfl _ _ _) rfl ⟨rfl, hFin⟩
end Go.Proofs.Ytpddgdjocffgdaa
