/- A Pool: Revert, by a contract. -/
import Derived.Test.YtpddgdjocffgdaaPoolY
import Derived.Deep.RegionHeld3
import Derived.Test.YtpddgdjocffgdaaPoolU
namespace Go.Proofs.Ytpddgdjocffgdaa
open Go.RowKit Go.Sort
set_option linter.unusedVariables false
set_option linter.unusedSimpArgs false
set_option linter.unusedSectionVars false
variable [DecidableEq Blk] [Inhabited Blk]
variable [Inhabited Vol]

/-- The disk when the first places that a picture keeps stand in its origin. -/
def revB (u v : Vol) (bl : List Blk) : Nat → List Blk
  | 0 => bl
  | j + 1 => (revB u v bl j).set u.xs[v.kept[j]!]! ((revB u v bl j)[v.xs[j]!]!)
theorem revB_length (u v : Vol) (bl : List Blk) (j : Nat) : (revB u v bl j).length = bl.length := by
  induction j with
  | zero => rfl
  | succ j ih => simp [revB, ih]

set_option maxHeartbeats 4000000 in
set_option maxRecDepth 100000 in
theorem revert_ok (s : St) (fr : List Nat) (t : ByteArray) (u v : Vol) (w : World) (h : PoolAt w s) (hG : Good s fr) (hi : s.has t = true) (hv : s.vol t = v) (ho : v.org = some u.vb) (hu : u ∈ s.vols) (hl : v.lost = false) (hb : (s.picsOf u.vb).length ≤ 1) :
    Calls Try.prog 32 #[.pointer (some ⟨s.pb, 0, none⟩), .string t] w fun e w' => e = .returned (.int .i64 0) ∧
      ∃ g, After w s w' { s with m := s.m + v.xs.length, bl := giveB v.xs (revB u v s.bl v.kept.length), d := giveD s.m v.xs s.d, ab := some g, vols := delVol (posOf s.names t) s.vols } (insAll v.xs fr) := by
  have hf := find_has s t w h hi
  have hmem : v ∈ s.vols := by rw [← hv]; exact (St.has_mem hi).1
  have hI := isPicture_calls v w (h.vols _ hmem)
  rw [ho] at hI
  have c4 := lost_cell h hmem
  rw [hl] at c4
  obtain ⟨cap, kcap, hcap, hvo, hk1, hk2⟩ := (h.vols _ hmem).vol
  have c2 : w.cell? ⟨v.vb, 2, none⟩ = some (.pointer (adr v.org)) := hvo.cell? 2
  rw [ho] at c2
  simp only [adr, Option.map_some] at c2
  have c3 : w.cell? ⟨v.vb, 3, none⟩ = some (.slice (adr v.kg) v.kept.length kcap) := hvo.cell? 3
  have hP := picturesOf_calls s u w h hu
  have hnot := runNot
  rw [hv] at hf
  have hsm := (h.vols _ hmem).small
  have hrm := (h.vols _ hmem).room
  have HS : Hid (∀ W, Same [] w W → W.cell? ⟨v.vb, 3, none⟩ = some (.slice (adr v.kg) v.kept.length kcap)) := fun W hW => (hW.at hvo (by simp)).cell? 3
  clear hvo
  go_enter Try.func32, Try.ntmps32
  go_wp2_with (first | (go_at_call 48; refine hf.mono ?_; rintro e w' ⟨rfl, hw⟩; obtain rfl := hw.symm) | (go_at_call 56; refine hI.mono ?_; rintro e w' ⟨rfl, hw⟩; obtain rfl := hw.symm) | (go_at_call 54; refine hP.mono ?_; rintro e w1 ⟨sl, rfl, hown, S1⟩; obtain ⟨ag, acap, rfl⟩ := owns_form hown; have d3 := HS.out w1 S1))
  have hP1 := h.new S1
  have hA1 : After w1 s w1 { s with bl := revB u v s.bl 0 } fr := ⟨hP1, hG, Same.refl _ _, fun k hk => Or.inl hk, rfl, rfl⟩
  have hu0 : u.org = none := by
    obtain ⟨x, hx, e1, e2⟩ := h.orgs v hmem _ ho
    rw [← h.vb_inj hx hu e1]; exact e2
  have hpk := (hG.pics v hmem).2.2 u hu ho
  have hul := (h.vols u hu).small
  have HH : Hid (PoolAt w s ∧ Good s fr ∧ Same [] w w1) := ⟨h, hG, S1⟩
  have HL : Hid (∀ (x : Nat), x ∈ u.xs → x < s.n ∧ x ∉ fr) := fun x hx => ⟨hG.lt.2 u hu x hx, hG.apart_fr hu hx⟩
  have HM : Hid (∀ (x : Nat), x ∈ v.xs → x < s.n) := fun x hx => hG.lt.2 v hmem x hx
  have HKX : Hid (∀ k ∈ v.kept, k < u.xs.length) := hpk.1
  clear hown hP hI hf hk1 hk2 c2 c3 c4 d3 h hG hP1 S1 HS
  go_loopw [38] (fun i wr => ∃ j : Nat, j ≤ v.kept.length ∧ i = .int .i64 j ∧ After w1 s wr { s with bl := revB u v s.bl j } fr) (fun i _ => v.kept.length - (intOf i).toNat)
  case atStart => exact ⟨0, Nat.zero_le _, rfl, hA1⟩
  case round =>
    obtain ⟨j, hj, rfl, hA⟩ := hrel
    have hPj := hA.pool
    have hVv := hPj.vols v hmem
    have hVu := hPj.vols u hu
    by_cases hjl : j < v.kept.length
    · obtain ⟨cap', kcap', _, hvo, hk1, hk2⟩ := hVv.vol
      obtain ⟨cs, hr⟩ := hVv.row
      obtain ⟨g, hg⟩ : ∃ g, v.kg = some g := by
        cases hgk : v.kg with
        | none => rw [(hk1 hgk).1] at hjl; simp at hjl
        | some g => exact ⟨g, rfl⟩
      have cj := (hk2 g hg).cell j hjl
      have hkm : v.kept[j]! ∈ v.kept := by rw [getElem!_pos v.kept j hjl]; exact List.getElem_mem hjl
      have hku := HKX.out _ hkm
      have hH := fun W (hW : Same [] wr W) => holder_vol u v.kept[j]! W ((hPj.new hW).vols u hu) hu0 hku
      have hyu : u.xs[v.kept[j]!]! ∈ u.xs := mem_getElem! hku
      have hxj : j < v.xs.length := by omega
      have hxm : v.xs[j]! ∈ v.xs := mem_getElem! hxj
      have e2 : wr.cell? ⟨v.vb, 2, none⟩ = some (.pointer (some ⟨u.vb, 0, none⟩)) := by have := hvo.cell? 2; simp only [Vol.cells, ho, adr] at this; exact this
      have e1 : wr.cell? ⟨v.vb, 1, none⟩ = some (.slice (some ⟨v.gb, 0, none⟩) v.xs.length cap') := hvo.cell? 1
      have ex : wr.cell? ⟨v.gb, j, none⟩ = some (.int .i64 (v.xs[j]! : Nat)) := by rw [hr.at_.cell?]; exact hr.cell j hxj
      obtain ⟨pc, hpp, _, _⟩ := hPj.pool
      have p1 : wr.cell? ⟨s.pb, 1, none⟩ = some (.pointer (some ⟨s.db, 0, none⟩)) := hpp.cell? 1
      have hbl := hPj.disk.len
      have hR := fun W (hW : Same [] wr W) => diskRead_calls s.db s.bb s.n v.xs[j]! _ _ _ (revB u v s.bl j) W _ _ rfl rfl (hPj.new hW).disk.disk (hPj.new hW).disk.data hbl (HM.out _ hxm) (by have := hPj.disk.small; simp at this; omega)
      have hW := fun W (hW : Same [] wr W) bv (hbv : bv = ((revB u v s.bl j)[v.xs[j]!]!).val) => diskWrite_calls s.db s.bb s.n u.xs[v.kept[j]!]! _ _ _ (revB u v s.bl j) ((revB u v s.bl j)[v.xs[j]!]!) W _ bv _ rfl rfl hbv (hPj.new hW).disk.disk (hPj.new hW).disk.data hbl (HL.out _ hyu).1 (by have := hPj.disk.small; simp at this; omega)
      have HF : Hid (∀ w6, At w6 s.bb 55 (flat (revB u v s.bl (j + 1))) → Same [s.bb] wr w6 → After w1 s w6 { s with bl := revB u v s.bl (j + 1) } fr) := fun w6 A6 S6 =>
        hA.step (write_after hPj hA.good u.xs[v.kept[j]!]! ((revB u v s.bl j)[v.xs[j]!]!) (HL.out _ hyu).2 A6 S6)
      have HRB : Hid (revB u v s.bl (j + 1) = (revB u v s.bl j).set u.xs[v.kept[j]!]! ((revB u v s.bl j)[v.xs[j]!]!)) := rfl
      have l2 : (j : Int) < (v.kept.length : Int) := by omega
      have l3 : (j : Int) < (v.xs.length : Int) := by omega
      have HPB : Hid (∀ W, Same [] wr W → W.cell? ⟨s.pb, 1, none⟩ = some (.pointer (some ⟨s.db, 0, none⟩))) := fun W hW => (hW.at hpp (by simp)).cell? 1
      have hapv := (apart_of hPj.nodup).disk v hmem
      have nb1 : v.vb ≠ s.bb := by have := hapv v.vb (by simp [Vol.foot]); simp only [List.mem_cons, not_or] at this; exact this.2.2.1
      have nb2 : v.gb ≠ s.bb := by have := hapv v.gb (by simp [Vol.foot]); simp only [List.mem_cons, not_or] at this; exact this.2.2.1
      have nb3 : s.pb ≠ s.bb := by have := (apart_of hPj.nodup).pb; simp only [List.mem_cons, not_or] at this; exact this.2.1
      have HSS : Hid (∀ W, Same [s.bb] wr W → W.cell? ⟨s.pb, 1, none⟩ = some (.pointer (some ⟨s.db, 0, none⟩)) ∧ W.cell? ⟨v.vb, 2, none⟩ = some (.pointer (some ⟨u.vb, 0, none⟩)) ∧ W.cell? ⟨v.vb, 1, none⟩ = some (.slice (some ⟨v.gb, 0, none⟩) v.xs.length cap') ∧ W.cell? ⟨v.gb, j, none⟩ = some (.int .i64 (v.xs[j]! : Nat))) := fun W hW => by
        refine ⟨(hW.at hpp (by simpa using nb3)).cell? 1, ?_, (hW.at hvo (by simpa using nb1)).cell? 1, ?_⟩
        · have := (hW.at hvo (by simpa using nb1)).cell? 2; simp only [Vol.cells, ho, adr] at this; exact this
        · rw [(hW.at hr.at_ (by simpa using nb2)).cell?]; exact hr.cell j hxj
      rw [hg]
      simp only [adr, Option.map_some]
      clear hapv hA hPj hVv hVu hvo hr hk1 hk2 hpp hkm hku hyu hxm hbl
      generalize u.xs[v.kept[j]!]! = yy at *
      generalize v.kept[j]! = kk at *
      generalize v.xs[j]! = xx at *
      generalize (revB u v s.bl j)[xx]! = old at *
      go_wp2_with fail
      go_region_held3 (fun w' => w'.cell? ⟨s.pb, 1, none⟩ = some (.pointer (some ⟨s.db, 0, none⟩)) ∧ w'.cell? ⟨v.vb, 2, none⟩ = some (.pointer (some ⟨u.vb, 0, none⟩)) ∧ w'.cell? ⟨v.vb, 1, none⟩ = some (.slice (some ⟨v.gb, 0, none⟩) v.xs.length cap') ∧ w'.cell? ⟨v.gb, j, none⟩ = some (.int .i64 (xx : Nat))) (first | assumption | exact ⟨p1, e2, e1, ex⟩ | exact HSS.out _ (by assumption)) (first | (go_at_call 64; refine (hH _ ((Same.refl _ _).drew)).mono ?_; rintro e w' ⟨rfl, rfl⟩) | (go_at_call 40; refine (hR _ ((Same.refl _ _).drew)).mono ?_; rintro e w3 ⟨rfl, S3⟩; have S4 := ((Same.refl [] wr).drew).step S3 (by simp); have hk3 := HSS.out w3 (S4.mono (T := [s.bb]) (by simp))) | (go_at_call 68; refine (hW w3 S4 _ rfl).mono ?_; rintro e w5 ⟨rfl, A5, S5⟩; have hk5 := HSS.out w5 ((S4.mono (T := [s.bb]) (by simp)).step S5 (by simp))))
      all_goals
        have hFin := HF.out w5 (by rw [HRB.out]; exact A5) ((S4.mono (T := [s.bb]) (by simp)).step S5 (by simp))
        clear HF A5 S5 hW hR hH HPB S3 S4
        go_wp2
        go_roundw
        case rel => exact ⟨j + 1, by omega, by go_num, hFin⟩
        case measure => simp [intOf]; omega
    · have ej : j = v.kept.length := by omega
      subst ej
      obtain ⟨h, hG, S1⟩ := HH.out
      have hno : ∀ x ∈ s.vols, x.org ≠ some v.vb := fun x hx e => by
        obtain ⟨y, hy, e1, e2⟩ := h.orgs x hx _ e
        rw [h.vb_inj hy hmem e1] at e2
        rw [e2] at ho; cases ho
      have hD := drop_ok { s with bl := revB u v s.bl v.kept.length } fr t wr hPj hA.good hi (by rw [show St.vol { s with bl := revB u v s.bl v.kept.length } t = s.vol t from rfl, hv]; exact hno)
      rw [show St.vol { s with bl := revB u v s.bl v.kept.length } t = s.vol t from rfl, hv] at hD
      have HF : Hid (∀ w5 s5 f5, After wr { s with bl := revB u v s.bl v.kept.length } w5 s5 f5 → After w s w5 s5 f5) := fun w5 s5 f5 h5 => (hA.step h5).old S1
      clear hA hPj hVv hVu h hG
      go_wp2_with (go_at_call 55; refine hD.mono ?_; rintro e w5 ⟨rfl, g, hA5⟩)
      have hFin := HF.out _ _ _ hA5
      clear hA5 HF hD
      go_ret
      exact ⟨rfl, g, hFin⟩
theorem revB_out (u v : Vol) (bl : List Blk) (hk : ∀ k ∈ v.kept, k < u.xs.length) (x : Nat) (hx : x ∉ u.xs) (hl : x < bl.length) : ∀ j, j ≤ v.kept.length → (revB u v bl j)[x]! = bl[x]!
  | 0, _ => rfl
  | j + 1, hj => by
    have ih := revB_out u v bl hk x hx hl j (by omega)
    have hm : v.kept[j]! ∈ v.kept := by rw [getElem!_pos v.kept j (by omega)]; exact List.getElem_mem _
    have hne : x ≠ u.xs[v.kept[j]!]! := fun e => hx (by rw [e]; exact mem_getElem! (hk _ hm))
    show ((revB u v bl j).set u.xs[v.kept[j]!]! ((revB u v bl j)[v.xs[j]!]!))[x]! = _
    rw [get_set_ne _ hne (by rw [revB_length]; exact hl)]
    exact ih

theorem revB_in (u v : Vol) (bl : List Blk) (hk : ∀ k ∈ v.kept, k < u.xs.length) (hkn : v.kept.Nodup) (hun : u.xs.Nodup) (hr : v.kept.length ≤ v.xs.length) (hd : ∀ x ∈ v.xs, x ∉ u.xs) (hub : ∀ x ∈ u.xs, x < bl.length) (hvb : ∀ x ∈ v.xs, x < bl.length) (q : Nat) (hq : q < u.xs.length) :
    ∀ j, j ≤ v.kept.length → (revB u v bl j)[u.xs[q]!]! = if q ∈ v.kept.take j then bl[v.xs[v.kept.idxOf q]!]! else bl[u.xs[q]!]!
  | 0, _ => by simp [revB]
  | j + 1, hj => by
    have ih := revB_in u v bl hk hkn hun hr hd hub hvb q hq j (by omega)
    have hjl : j < v.kept.length := by omega
    have hm : v.kept[j]! ∈ v.kept := by rw [getElem!_pos v.kept j hjl]; exact List.getElem_mem _
    have hxm : v.xs[j]! ∈ v.xs := mem_getElem! (by omega)
    have hval : (revB u v bl j)[v.xs[j]!]! = bl[v.xs[j]!]! := revB_out u v bl hk _ (hd _ hxm) (hvb _ hxm) j (by omega)
    have htk : v.kept.take (j + 1) = v.kept.take j ++ [v.kept[j]!] := by rw [List.take_succ_eq_append_getElem hjl, getElem!_pos v.kept j hjl]
    show ((revB u v bl j).set u.xs[v.kept[j]!]! ((revB u v bl j)[v.xs[j]!]!))[u.xs[q]!]! = _
    rw [hval]
    by_cases hqk : q = v.kept[j]!
    · have hnin : q ∉ v.kept.take j := by
        intro hmq
        obtain ⟨i, hi, e⟩ := List.getElem_of_mem hmq
        have hi' : i < j := by simp at hi; omega
        rw [List.getElem_take] at e
        have e2 : v.kept[i]'(by omega) = v.kept[j]'hjl := by rw [e, hqk, getElem!_pos v.kept j hjl]
        have := (List.getElem_inj (h₀ := by omega) (h₁ := hjl) hkn).1 e2
        omega
      have hidx : v.kept.idxOf q = j := idxOf_at v.kept j q hjl hqk.symm hnin
      rw [← hqk, get_set_eq _ (by rw [revB_length]; exact hub _ (mem_getElem! hq)), htk, if_pos (by rw [← hqk]; simp), hidx]
    · have hne : u.xs[q]! ≠ u.xs[v.kept[j]!]! := fun e => by
        rw [getElem!_pos u.xs q hq, getElem!_pos u.xs _ (hk _ hm)] at e
        exact hqk ((List.getElem_inj (h₀ := hq) (h₁ := hk _ hm) hun).1 e)
      rw [get_set_ne _ hne (by rw [revB_length]; exact hub _ (mem_getElem! hq)), ih, htk]
      by_cases hin : q ∈ v.kept.take j
      · rw [if_pos hin, if_pos (List.mem_append_left _ hin)]
      · rw [if_neg hin, if_neg (fun hm2 => (List.mem_append.1 hm2).elim hin (fun e => hqk (by simpa only [List.mem_singleton] using e)))]
end Go.Proofs.Ytpddgdjocffgdaa
