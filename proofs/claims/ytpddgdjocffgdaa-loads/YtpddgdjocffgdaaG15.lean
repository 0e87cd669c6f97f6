/- A Pool: Revert, by a contract. The statement Back: its Pool and its calls. The statement Back: what Revert leaves. The statement Back, by a contract. An image that is loaded, whole or with one byte changed. Again: what is wanted behind the first Load. -/
import Derived.Test.YtpddgdjocffgdaaG14
import Derived.Deep.RegionHeld3
import Derived.Test.YtpddgdjocffgdaaG11
import Derived.Test.YtpddgdjocffgdaaG13
namespace Go.Proofs.Ytpddgdjocffgdaa
section PartPoolAA
open Go.RowKit Go.Sort
set_option linter.unusedVariables false
set_option linter.unusedSimpArgs false
set_option linter.unusedSectionVars false
variable [DecidableEq Blk] [Inhabited Blk]
variable [Inhabited Vol]

/-- The disk when the first places that a picture keeps stand in its origin. -/
def revB (u v : Vol) (bl : List Blk) : Nat → List Blk
  | 0 => bl
  | j + 1 => (revB u v bl j).set u.xs[v.kept[j]!]! ((revB u v bl j)[v.xs[j]!]!)
theorem revB_length (u v : Vol) (bl : List Blk) (j : Nat) : (revB u v bl j).length = bl.length := by
  induction j with
  | zero => rfl
  | succ j ih => simp [revB, ih]

set_option maxHeartbeats 4000000 in
set_option maxRecDepth 100000 in
theorem revert_ok (s : St) (fr : List Nat) (t : ByteArray) (u v : Vol) (w : World) (h : PoolAt w s) (hG : Good s fr) (hi : s.has t = true) (hv : s.vol t = v) (ho : v.org = some u.vb) (hu : u ∈ s.vols) (hl : v.lost = false) (hb : (s.picsOf u.vb).length ≤ 1) :
    Calls Try.prog 32 #[.pointer (some ⟨s.pb, 0, none⟩), .string t] w fun e w' => e = .returned (.int .i64 0) ∧
      ∃ g, After w s w' { s with m := s.m + v.xs.length, bl := giveB v.xs (revB u v s.bl v.kept.length), d := giveD s.m v.xs s.d, ab := some g, vols := delVol (posOf s.names t) s.vols } (insAll v.xs fr) := by
  have hf := find_has s t w h hi
  have hmem : v ∈ s.vols := by rw [← hv]; exact (St.has_mem hi).1
  have hI := isPicture_calls v w (h.vols _ hmem)
  rw [ho] at hI
  have c4 := lost_cell h hmem
  rw [hl] at c4
  obtain ⟨cap, kcap, hcap, hvo, hk1, hk2⟩ := (h.vols _ hmem).vol
  have c2 : w.cell? ⟨v.vb, 2, none⟩ = some (.pointer (adr v.org)) := hvo.cell? 2
  rw [ho] at c2
  simp only [adr, Option.map_some] at c2
  have c3 : w.cell? ⟨v.vb, 3, none⟩ = some (.slice (adr v.kg) v.kept.length kcap) := hvo.cell? 3
  have hP := picturesOf_calls s u w h hu
  have hnot := runNot
  rw [hv] at hf
  have hsm := (h.vols _ hmem).small
  have hrm := (h.vols _ hmem).room
  have HS : Hid (∀ W, Same [] w W → W.cell? ⟨v.vb, 3, none⟩ = some (.slice (adr v.kg) v.kept.length kcap)) := fun W hW => (hW.at hvo (by simp)).cell? 3
  clear hvo
  go_enter Try.func32, Try.ntmps32
  go_wp2_with (first | (go_at_call 48; refine hf.mono ?_; rintro e w' ⟨rfl, hw⟩; obtain rfl := hw.symm) | (go_at_call 56; refine hI.mono ?_; rintro e w' ⟨rfl, hw⟩; obtain rfl := hw.symm) | (go_at_call 54; refine hP.mono ?_; rintro e w1 ⟨sl, rfl, hown, S1⟩; obtain ⟨ag, acap, rfl⟩ := owns_form hown; have d3 := HS.out w1 S1))
  have hP1 := h.new S1
  have hA1 : After w1 s w1 { s with bl := revB u v s.bl 0 } fr := ⟨hP1, hG, Same.refl _ _, fun k hk => Or.inl hk, rfl, rfl⟩
  have hu0 : u.org = none := by
    obtain ⟨x, hx, e1, e2⟩ := h.orgs v hmem _ ho
    rw [← h.vb_inj hx hu e1]; exact e2
  have hpk := (hG.pics v hmem).2.2 u hu ho
  have hul := (h.vols u hu).small
  have HH : Hid (PoolAt w s ∧ Good s fr ∧ Same [] w w1) := ⟨h, hG, S1⟩
  have HL : Hid (∀ (x : Nat), x ∈ u.xs → x < s.n ∧ x ∉ fr) := fun x hx => ⟨hG.lt.2 u hu x hx, hG.apart_fr hu hx⟩
  have HM : Hid (∀ (x : Nat), x ∈ v.xs → x < s.n) := fun x hx => hG.lt.2 v hmem x hx
  have HKX : Hid (∀ k ∈ v.kept, k < u.xs.length) := hpk.1
  clear hown hP hI hf hk1 hk2 c2 c3 c4 d3 h hG hP1 S1 HS
  go_loopw [38] (fun i wr => ∃ j : Nat, j ≤ v.kept.length ∧ i = .int .i64 j ∧ After w1 s wr { s with bl := revB u v s.bl j } fr) (fun i _ => v.kept.length - (intOf i).toNat)
  case atStart => exact ⟨0, Nat.zero_le _, rfl, hA1⟩
  case round =>
    obtain ⟨j, hj, rfl, hA⟩ := hrel
    have hPj := hA.pool
    have hVv := hPj.vols v hmem
    have hVu := hPj.vols u hu
    by_cases hjl : j < v.kept.length
    · obtain ⟨cap', kcap', _, hvo, hk1, hk2⟩ := hVv.vol
      obtain ⟨cs, hr⟩ := hVv.row
      obtain ⟨g, hg⟩ : ∃ g, v.kg = some g := by
        cases hgk : v.kg with
        | none => rw [(hk1 hgk).1] at hjl; simp at hjl
        | some g => exact ⟨g, rfl⟩
      have cj := (hk2 g hg).cell j hjl
      have hkm : v.kept[j]! ∈ v.kept := by rw [getElem!_pos v.kept j hjl]; exact List.getElem_mem hjl
      have hku := HKX.out _ hkm
      have hH := fun W (hW : Same [] wr W) => holder_vol u v.kept[j]! W ((hPj.new hW).vols u hu) hu0 hku
      have hyu : u.xs[v.kept[j]!]! ∈ u.xs := mem_getElem! hku
      have hxj : j < v.xs.length := by omega
      have hxm : v.xs[j]! ∈ v.xs := mem_getElem! hxj
      have e2 : wr.cell? ⟨v.vb, 2, none⟩ = some (.pointer (some ⟨u.vb, 0, none⟩)) := by have := hvo.cell? 2; simp only [Vol.cells, ho, adr] at this; exact this
      have e1 : wr.cell? ⟨v.vb, 1, none⟩ = some (.slice (some ⟨v.gb, 0, none⟩) v.xs.length cap') := hvo.cell? 1
      have ex : wr.cell? ⟨v.gb, j, none⟩ = some (.int .i64 (v.xs[j]! : Nat)) := by rw [hr.at_.cell?]; exact hr.cell j hxj
      obtain ⟨pc, hpp, _, _⟩ := hPj.pool
      have p1 : wr.cell? ⟨s.pb, 1, none⟩ = some (.pointer (some ⟨s.db, 0, none⟩)) := hpp.cell? 1
      have hbl := hPj.disk.len
      have hR := fun W (hW : Same [] wr W) => diskRead_calls s.db s.bb s.n v.xs[j]! _ _ _ (revB u v s.bl j) W _ _ rfl rfl (hPj.new hW).disk.disk (hPj.new hW).disk.data hbl (HM.out _ hxm) (by have := hPj.disk.small; simp at this; omega)
      have hW := fun W (hW : Same [] wr W) bv (hbv : bv = ((revB u v s.bl j)[v.xs[j]!]!).val) => diskWrite_calls s.db s.bb s.n u.xs[v.kept[j]!]! _ _ _ (revB u v s.bl j) ((revB u v s.bl j)[v.xs[j]!]!) W _ bv _ rfl rfl hbv (hPj.new hW).disk.disk (hPj.new hW).disk.data hbl (HL.out _ hyu).1 (by have := hPj.disk.small; simp at this; omega)
      have HF : Hid (∀ w6, At w6 s.bb 55 (flat (revB u v s.bl (j + 1))) → Same [s.bb] wr w6 → After w1 s w6 { s with bl := revB u v s.bl (j + 1) } fr) := fun w6 A6 S6 =>
        hA.step (write_after hPj hA.good u.xs[v.kept[j]!]! ((revB u v s.bl j)[v.xs[j]!]!) (HL.out _ hyu).2 A6 S6)
      have HRB : Hid (revB u v s.bl (j + 1) = (revB u v s.bl j).set u.xs[v.kept[j]!]! ((revB u v s.bl j)[v.xs[j]!]!)) := rfl
      have l2 : (j : Int) < (v.kept.length : Int) := by omega
      have l3 : (j : Int) < (v.xs.length : Int) := by omega
      have HPB : Hid (∀ W, Same [] wr W → W.cell? ⟨s.pb, 1, none⟩ = some (.pointer (some ⟨s.db, 0, none⟩))) := fun W hW => (hW.at hpp (by simp)).cell? 1
      have hapv := (apart_of hPj.nodup).disk v hmem
      have nb1 : v.vb ≠ s.bb := by have := hapv v.vb (by simp [Vol.foot]); simp only [List.mem_cons, not_or] at this; exact this.2.2.1
      have nb2 : v.gb ≠ s.bb := by have := hapv v.gb (by simp [Vol.foot]); simp only [List.mem_cons, not_or] at this; exact this.2.2.1
      have nb3 : s.pb ≠ s.bb := by have := (apart_of hPj.nodup).pb; simp only [List.mem_cons, not_or] at this; exact this.2.1
      have HSS : Hid (∀ W, Same [s.bb] wr W → W.cell? ⟨s.pb, 1, none⟩ = some (.pointer (some ⟨s.db, 0, none⟩)) ∧ W.cell? ⟨v.vb, 2, none⟩ = some (.pointer (some ⟨u.vb, 0, none⟩)) ∧ W.cell? ⟨v.vb, 1, none⟩ = some (.slice (some ⟨v.gb, 0, none⟩) v.xs.length cap') ∧ W.cell? ⟨v.gb, j, none⟩ = some (.int .i64 (v.xs[j]! : Nat))) := fun W hW => by
        refine ⟨(hW.at hpp (by simpa using nb3)).cell? 1, ?_, (hW.at hvo (by simpa using nb1)).cell? 1, ?_⟩
        · have := (hW.at hvo (by simpa using nb1)).cell? 2; simp only [Vol.cells, ho, adr] at this; exact this
        · rw [(hW.at hr.at_ (by simpa using nb2)).cell?]; exact hr.cell j hxj
      rw [hg]
      simp only [adr, Option.map_some]
      clear hapv hA hPj hVv hVu hvo hr hk1 hk2 hpp hkm hku hyu hxm hbl
      generalize u.xs[v.kept[j]!]! = yy at *
      generalize v.kept[j]! = kk at *
      generalize v.xs[j]! = xx at *
      generalize (revB u v s.bl j)[xx]! = old at *
      go_wp2_with fail
      go_region_held3 (fun w' => w'.cell? ⟨s.pb, 1, none⟩ = some (.pointer (some ⟨s.db, 0, none⟩)) ∧ w'.cell? ⟨v.vb, 2, none⟩ = some (.pointer (some ⟨u.vb, 0, none⟩)) ∧ w'.cell? ⟨v.vb, 1, none⟩ = some (.slice (some ⟨v.gb, 0, none⟩) v.xs.length cap') ∧ w'.cell? ⟨v.gb, j, none⟩ = some (.int .i64 (xx : Nat))) (first | assumption | exact ⟨p1, e2, e1, ex⟩ | exact HSS.out _ (by assumption)) (first | (go_at_call 64; refine (hH _ ((Same.refl _ _).drew)).mono ?_; rintro e w' ⟨rfl, rfl⟩) | (go_at_call 40; refine (hR _ ((Same.refl _ _).drew)).mono ?_; rintro e w3 ⟨rfl, S3⟩; have S4 := ((Same.refl [] wr).drew).step S3 (by simp); have hk3 := HSS.out w3 (S4.mono (T := [s.bb]) (by simp))) | (go_at_call 68; refine (hW w3 S4 _ rfl).mono ?_; rintro e w5 ⟨rfl, A5, S5⟩; have hk5 := HSS.out w5 ((S4.mono (T := [s.bb]) (by simp)).step S5 (by simp))))
      all_goals
        have hFin := HF.out w5 (by rw [HRB.out]; exact A5) ((S4.mono (T := [s.bb]) (by simp)).step S5 (by simp))
        clear HF A5 S5 hW hR hH HPB S3 S4
        go_wp2
        go_roundw
        case rel => exact ⟨j + 1, by omega, by go_num, hFin⟩
        case measure => simp [intOf]; omega
    · have ej : j = v.kept.length := by omega
      subst ej
      obtain ⟨h, hG, S1⟩ := HH.out
      have hno : ∀ x ∈ s.vols, x.org ≠ some v.vb := fun x hx e => by
        obtain ⟨y, hy, e1, e2⟩ := h.orgs x hx _ e
        rw [h.vb_inj hy hmem e1] at e2
        rw [e2] at ho; cases ho
      have hD := drop_ok { s with bl := revB u v s.bl v.kept.length } fr t wr hPj hA.good hi (by rw [show St.vol { s with bl := revB u v s.bl v.kept.length } t = s.vol t from rfl, hv]; exact hno)
      rw [show St.vol { s with bl := revB u v s.bl v.kept.length } t = s.vol t from rfl, hv] at hD
      have HF : Hid (∀ w5 s5 f5, After wr { s with bl := revB u v s.bl v.kept.length } w5 s5 f5 → After w s w5 s5 f5) := fun w5 s5 f5 h5 => (hA.step h5).old S1
      clear hA hPj hVv hVu h hG
      go_wp2_with (go_at_call 55; refine hD.mono ?_; rintro e w5 ⟨rfl, g, hA5⟩)
      have hFin := HF.out _ _ _ hA5
      clear hA5 HF hD
      go_ret
      exact ⟨rfl, g, hFin⟩
theorem revB_out (u v : Vol) (bl : List Blk) (hk : ∀ k ∈ v.kept, k < u.xs.length) (x : Nat) (hx : x ∉ u.xs) (hl : x < bl.length) : ∀ j, j ≤ v.kept.length → (revB u v bl j)[x]! = bl[x]!
  | 0, _ => rfl
  | j + 1, hj => by
    have ih := revB_out u v bl hk x hx hl j (by omega)
    have hm : v.kept[j]! ∈ v.kept := by rw [getElem!_pos v.kept j (by omega)]; exact List.getElem_mem _
    have hne : x ≠ u.xs[v.kept[j]!]! := fun e => hx (by rw [e]; exact mem_getElem! (hk _ hm))
    show ((revB u v bl j).set u.xs[v.kept[j]!]! ((revB u v bl j)[v.xs[j]!]!))[x]! = _
    rw [get_set_ne _ hne (by rw [revB_length]; exact hl)]
    exact ih

theorem revB_in (u v : Vol) (bl : List Blk) (hk : ∀ k ∈ v.kept, k < u.xs.length) (hkn : v.kept.Nodup) (hun : u.xs.Nodup) (hr : v.kept.length ≤ v.xs.length) (hd : ∀ x ∈ v.xs, x ∉ u.xs) (hub : ∀ x ∈ u.xs, x < bl.length) (hvb : ∀ x ∈ v.xs, x < bl.length) (q : Nat) (hq : q < u.xs.length) :
    ∀ j, j ≤ v.kept.length → (revB u v bl j)[u.xs[q]!]! = if q ∈ v.kept.take j then bl[v.xs[v.kept.idxOf q]!]! else bl[u.xs[q]!]!
  | 0, _ => by simp [revB]
  | j + 1, hj => by
    have ih := revB_in u v bl hk hkn hun hr hd hub hvb q hq j (by omega)
    have hjl : j < v.kept.length := by omega
    have hm : v.kept[j]! ∈ v.kept := by rw [getElem!_pos v.kept j hjl]; exact List.getElem_mem _
    have hxm : v.xs[j]! ∈ v.xs := mem_getElem! (by omega)
    have hval : (revB u v bl j)[v.xs[j]!]! = bl[v.xs[j]!]! := revB_out u v bl hk _ (hd _ hxm) (hvb _ hxm) j (by omega)
    have htk : v.kept.take (j + 1) = v.kept.take j ++ [v.kept[j]!] := by rw [List.take_succ_eq_append_getElem hjl, getElem!_pos v.kept j hjl]
    show ((revB u v bl j).set u.xs[v.kept[j]!]! ((revB u v bl j)[v.xs[j]!]!))[u.xs[q]!]! = _
    rw [hval]
    by_cases hqk : q = v.kept[j]!
    · have hnin : q ∉ v.kept.take j := by
        intro hmq
        obtain ⟨i, hi, e⟩ := List.getElem_of_mem hmq
        have hi' : i < j := by simp at hi; omega
        rw [List.getElem_take] at e
        have e2 : v.kept[i]'(by omega) = v.kept[j]'hjl := by rw [e, hqk, getElem!_pos v.kept j hjl]
        have := (List.getElem_inj (h₀ := by omega) (h₁ := hjl) hkn).1 e2
        omega
      have hidx : v.kept.idxOf q = j := idxOf_at v.kept j q hjl hqk.symm hnin
      rw [← hqk, get_set_eq _ (by rw [revB_length]; exact hub _ (mem_getElem! hq)), htk, if_pos (by rw [← hqk]; simp), hidx]
    · have hne : u.xs[q]! ≠ u.xs[v.kept[j]!]! := fun e => by
        rw [getElem!_pos u.xs q hq, getElem!_pos u.xs _ (hk _ hm)] at e
        exact hqk ((List.getElem_inj (h₀ := hq) (h₁ := hk _ hm) hun).1 e)
      rw [get_set_ne _ hne (by rw [revB_length]; exact hub _ (mem_getElem! hq)), ih, htk]
      by_cases hin : q ∈ v.kept.take j
      · rw [if_pos hin, if_pos (List.mem_append_left _ hin)]
      · rw [if_neg hin, if_neg (fun hm2 => (List.mem_append.1 hm2).elim hin (fun e => hqk (by simpa only [List.mem_singleton] using e)))]
end PartPoolAA

section PartLawK
open Go.RowKit Go.Sort
set_option linter.unusedVariables false
set_option linter.unusedSimpArgs false
set_option linter.unusedSectionVars false
variable [DecidableEq Blk] [Inhabited Blk]
variable [Inhabited Vol]

/-- A Pool with one volume, and the rest free. -/
structure OneW (s : St) (fr : List Nat) (size : Nat) : Prop where
  ex : ∃ v, s.vols = [v] ∧ v.name = vN ∧ v.org = none ∧ v.xs.length = size
  free : fr.length = 200 - size

theorem OneV.weak {s : St} {fr : List Nat} {size : Nat} (h : OneV s fr size) : OneW s fr size := by
  obtain ⟨v, h1, h2, h3, h4, _⟩ := h.ex
  exact ⟨⟨v, h1, h2, h3, h4⟩, h.free⟩

theorem OneW.facts {s : St} {fr : List Nat} {size : Nat} (h : OneW s fr size) : s.has vN = true ∧ (s.vol vN).org = none ∧ (s.vol vN).xs.length = size ∧ s.picsOf (s.vol vN).vb = [] ∧ s.names = [vN] ∧ s.vols = [s.vol vN] := by
  obtain ⟨v, hv, hvn, hvo, hvl⟩ := h.ex
  have hns : s.names = [vN] := by unfold St.names; rw [hv]; simp [hvn]
  have hu : s.has vN = true := by unfold St.has; rw [hns]; exact isIn_one vN
  have hvv : s.vol vN = v := by unfold St.vol; rw [hns, posOf_one, hv]; rfl
  refine ⟨hu, by rw [hvv]; exact hvo, by rw [hvv]; exact hvl, ?_, hns, by rw [hvv]; exact hv⟩
  unfold St.picsOf
  rw [hv]
  simp [hvo]

theorem oneWrite (s : St) (fr : List Nat) (size k : Nat) (x : Blk) (w : World) (h : PoolAt w s) (hG : Good s fr) (hI : OneW s fr size) (hk : k < size) :
    Calls Try.prog 27 #[.pointer (some ⟨s.pb, 0, none⟩), .string ⟨#[118]⟩, .int .i64 k, x.val] w fun e w' => e = .returned (.int .i64 0) ∧ ∃ s', After w s w' s' fr ∧ OneW s' fr size := by
  obtain ⟨f1, f2, f3, f4, _, _⟩ := hI.facts
  refine (write_plain s fr vN k x w h hG f1 f2 f4 (by rw [f3]; exact hk)).mono ?_
  rintro e w' ⟨he, hA⟩
  obtain ⟨v, h1, h2⟩ := hI.ex
  exact ⟨he, _, hA, ⟨v, h1, h2⟩, hI.free⟩

/-- What Back knows of its Pool, with its picture. -/
structure BackInv (s : St) (fr : List Nat) (size : Nat) : Prop where
  two : Two s size size
  lost : (s.vols[0]!).lost = false
  free : fr.length = 200 - size - size

theorem picture_two (s : St) (fr : List Nat) (size : Nat) (w : World) (h : PoolAt w s) (hG : Good s fr) (h1 : OneW s fr size) (hs : 1 ≤ size ∧ size ≤ 20) :
    Calls Try.prog 25 #[.pointer (some ⟨s.pb, 0, none⟩), .string ⟨#[112, 105, 99]⟩, .string ⟨#[118]⟩, .int .i64 size] w fun e w' => e = .returned (.int .i64 0) ∧ ∃ s' fr', After w s w' s' fr' ∧ BackInv s' fr' size := by
  obtain ⟨f1, f2, f3, f4, hns, hv⟩ := h1.facts
  have hfl := h1.free
  have hx : s.has picN = false := by
    unfold St.has; rw [hns]
    have a := v_pic
    have b : cmpB vN picN ≠ 0 := fun e => by have := (cmpB_zero _ _).1 e; exact absurd this (by decide +kernel)
    simp [isIn, posOf, a, b]
  have hpo : posOf s.names picN = 0 := by
    rw [hns]
    have a := v_pic
    simp [posOf, a]
  have hvn := (St.has_mem f1).2.1
  refine (picture_ok s fr picN vN size w h hG (by unfold maxLen; decide) picN_name hx f1 f2 (by rw [f3]; omega) (by rw [hv]; simp) (by omega)).mono ?_
  rintro e w' ⟨he, g, vb, gb, hA, hvb⟩
  have hvols : insVol (posOf s.names picN) ⟨vb, gb, picN, fr.take size, some (s.vol vN).vb, none, [], false⟩ s.vols = [⟨vb, gb, picN, fr.take size, some (s.vol vN).vb, none, [], false⟩, s.vol vN] := by
    rw [hpo]
    conv => lhs; rw [hv]
    rfl
  refine ⟨he, _, _, hA, ?_, ?_, by rw [List.length_drop]; omega⟩
  · refine ⟨?_, ?_, ?_, ?_, ?_, ?_, ?_⟩
    · show (insVol _ _ s.vols).length = 2
      rw [hvols]; rfl
    · show ((insVol _ _ s.vols)[0]!).name = _
      rw [hvols]; rfl
    · show ((insVol _ _ s.vols)[1]!).name = _
      rw [hvols]; exact hvn
    · show ((insVol _ _ s.vols)[0]!).org = some ((insVol _ _ s.vols)[1]!).vb
      rw [hvols]; rfl
    · show ((insVol _ _ s.vols)[1]!).org = _
      rw [hvols]; exact f2
    · show ((insVol _ _ s.vols)[0]!).xs.length = _
      rw [hvols]; show (fr.take size).length = size; rw [List.length_take]; omega
    · show ((insVol _ _ s.vols)[1]!).xs.length = _
      rw [hvols]; exact f3
  · show ((insVol _ _ s.vols)[0]!).lost = false
    rw [hvols]; rfl

theorem sub_len2 {α : Type} [DecidableEq α] : ∀ (l m : List α), l.Nodup → (∀ x ∈ l, x ∈ m) → l.length ≤ m.length
  | [], _, _, _ => Nat.zero_le _
  | x :: r, m, hn, hs => by
    obtain ⟨n1, n2⟩ := List.nodup_cons.1 hn
    have hx := hs x (by simp)
    have := sub_len2 r (m.erase x) n2 (fun y hy => (List.mem_erase_of_ne (fun e => n1 (by rw [← e]; exact hy))).2 (hs y (by simp [hy])))
    rw [List.length_erase_of_mem hx] at this
    have := List.length_pos_of_mem hx
    simp only [List.length_cons]
    omega

/-- Numbers below a bound, none twice, and one that is not among them: fewer than the bound. -/
theorem few_of {l : List Nat} {n k : Nat} (h : l.Nodup) (hl : ∀ x ∈ l, x < n) (hk : k < n) (hn : k ∉ l) : l.length < n := by
  have h1 : (k :: l).Nodup := List.nodup_cons.2 ⟨hn, h⟩
  have h2 := sub_len2 (k :: l) (List.range n) h1 (fun x hx => by
    rcases List.mem_cons.1 hx with e | e
    · rw [e]; exact List.mem_range.2 hk
    · exact List.mem_range.2 (hl x e))
  simp at h2
  omega

theorem BackInv.keeps {w : World} {s : St} {fr : List Nat} {size : Nat} (hI : BackInv s fr size) (h : PoolAt w s) (hG : Good s fr) {k : Nat} (hk : k < size) (hn : k ∉ (s.vols[0]!).kept) : (s.vols[0]!).kept.length < (s.vols[0]!).xs.length := by
  have h2 := hI.two
  have m0 : s.vols[0]! ∈ s.vols := get_mem (by rw [h2.len]; omega)
  have m1 : s.vols[1]! ∈ s.vols := get_mem (by rw [h2.len]; omega)
  obtain ⟨p1, p2, p3⟩ := hG.pics _ m0
  obtain ⟨q1, q2⟩ := p3 _ m1 h2.o0
  rw [h2.x0]
  rw [h2.x1] at q1
  exact few_of p1 q1 hk hn

theorem backWriteV (s : St) (fr : List Nat) (size k : Nat) (x : Blk) (w : World) (h : PoolAt w s) (hG : Good s fr) (hI : BackInv s fr size) (hk : k < size) :
    Calls Try.prog 27 #[.pointer (some ⟨s.pb, 0, none⟩), .string ⟨#[118]⟩, .int .i64 k, x.val] w fun e w' => e = .returned (.int .i64 0) ∧ ∃ s', After w s w' s' fr ∧ BackInv s' fr size := by
  have h2 := hI.two
  obtain ⟨v1, v2, v3, v4⟩ := h2.vol
  have ho : (s.vol vN).org = none := by rw [v4]; exact h2.o1
  have hkx : k < (s.vol vN).xs.length := by rw [v4, h2.x1]; exact hk
  have hmem := (St.has_mem v2).1
  have hks : k < s.size (s.vol vN) := by rw [v4, (two_size h h2).1]; exact hk
  by_cases hx : s.look (s.vol vN) k = x
  · refine (write_same s vN k x w h v2 ((h.vols _ hmem).plain ho).2 hks (holder_lt h hG hmem hks) hx).mono ?_
    rintro e w' ⟨he, hS⟩
    exact ⟨he, s, After.still h hG hS, hI⟩
  · refine (write_volume s fr vN k x w h hG v2 ho hkx hx).mono ?_
    rintro e w' ⟨he, s1, hK, hA⟩
    refine ⟨he, _, hA, h2.base (hK.base.bl _), ?_, hI.free⟩
    have hd := hK.did 0 (by rw [h2.len]; omega) (by rw [v4]; exact h2.o0)
    have hd2 : (s1.vols[0]!).lost = (keepRes k (s.vols[0]!)).2 := congrArg Prod.snd hd
    show (s1.vols[0]!).lost = false
    rw [hd2, keepRes]
    split
    · exact hI.lost
    · rename_i hc
      rw [if_pos (hI.keeps h hG hk (fun hm => hc (Or.inl hm)))]
      exact hI.lost

theorem backWriteP (s : St) (fr : List Nat) (size k : Nat) (x : Blk) (w : World) (h : PoolAt w s) (hG : Good s fr) (hI : BackInv s fr size) (hk : k < size) :
    Calls Try.prog 27 #[.pointer (some ⟨s.pb, 0, none⟩), .string ⟨#[112, 105, 99]⟩, .int .i64 k, x.val] w fun e w' => e = .returned (.int .i64 0) ∧ ∃ s', After w s w' s' fr ∧ BackInv s' fr size := by
  have h2 := hI.two
  obtain ⟨v1, v2, v3, v4⟩ := h2.vol
  have ho : (s.vol picN).org ≠ none := by rw [v3, h2.o0]; simp
  have hl : (s.vol picN).lost = false := by rw [v3]; exact hI.lost
  have hmem := (St.has_mem v1).1
  have hks : k < s.size (s.vol picN) := by rw [v3, (two_size h h2).2]; exact hk
  by_cases hx : s.look (s.vol picN) k = x
  · refine (write_same s picN k x w h v1 hl hks (holder_lt h hG hmem hks) hx).mono ?_
    rintro e w' ⟨he, hS⟩
    exact ⟨he, s, After.still h hG hS, hI⟩
  · by_cases hkk : k ∈ (s.vol picN).kept
    · refine (write_picture_kept s fr picN k x w h hG v1 ho hl hks hx hkk).mono ?_
      rintro e w' ⟨he, hA⟩
      exact ⟨he, _, hA, ⟨h2.len, h2.n0, h2.n1, h2.o0, h2.o1, h2.x0, h2.x1⟩, hI.lost, hI.free⟩
    · refine (write_picture_more s fr picN k x w h hG v1 ho hl hks hx hkk (by rw [v3] at hkk ⊢; exact hI.keeps h hG hk hkk)).mono ?_
      rintro e w' ⟨he, i, g, hi, hiv, hA⟩
      have hi0 : i = 0 := index_inj h hi (by rw [h2.len]; omega) (by rw [hiv, v3])
      subst hi0
      have hb : Base s { s with bl := s.bl.set (s.vol picN).xs[(s.vol picN).kept.length]! x, vols := setVol 0 ((s.vol picN).keeping g k) s.vols } := base_set _ 0 hi _ (by rw [hiv]; rfl) (by rw [hiv]; rfl) (by rw [hiv]; rfl) (by rw [hiv]; rfl) (by rw [hiv]; exact id)
      refine ⟨he, _, hA, h2.base hb, ?_, hI.free⟩
      show ((setVol 0 ((s.vol picN).keeping g k) s.vols)[0]!).lost = false
      rw [setVol_get 0 0 _ s.vols hi hi, if_pos rfl]
      exact hl
end PartLawK

section PartLawL
open Go.RowKit Go.Sort
set_option linter.unusedVariables false
set_option linter.unusedSimpArgs false
set_option linter.unusedSectionVars false
variable [DecidableEq Blk] [Inhabited Blk]
variable [Inhabited Vol]

theorem backRevert (s : St) (fr : List Nat) (size : Nat) (w : World) (h : PoolAt w s) (hG : Good s fr) (hI : BackInv s fr size) (hs : size ≤ 20) :
    Calls Try.prog 32 #[.pointer (some ⟨s.pb, 0, none⟩), .string ⟨#[112, 105, 99]⟩] w fun e w' => e = .returned (.int .i64 0) ∧ ∃ s' fr', After w s w' s' fr' ∧ OneW s' fr' size ∧ ∀ q, q < size → s'.look (s'.vol vN) q = s.look (s.vols[0]!) q := by
  have h2 := hI.two
  obtain ⟨v1, v2, v3, v4⟩ := h2.vol
  have l0 : 0 < s.vols.length := by rw [h2.len]; omega
  have l1 : 1 < s.vols.length := by rw [h2.len]; omega
  have m0 := get_mem l0
  have m1 := get_mem l1
  have hp : (s.picsOf (s.vols[1]!).vb).length ≤ 1 := by
    have key : ∀ (a b : Vol) (x : Nat), b.org = none → ([a, b].filter fun v => decide (v.org = some x)).length ≤ 1 := fun a b x hb => by
      simp only [List.filter_cons, List.filter_nil, hb]
      split <;> simp
    have e := key (s.vols[0]!) (s.vols[1]!) (s.vols[1]!).vb h2.o1
    rw [← two_list h2.len] at e
    exact e
  have hr := revert_ok s fr picN (s.vols[1]!) (s.vols[0]!) w h hG v1 v3 h2.o0 m1 hI.lost hp
  refine hr.mono ?_
  rintro e w' ⟨he, g, hA⟩
  have hpo : posOf s.names picN = 0 := by
    rw [h2.names]
    have a := cmpB_self picN
    have b := v_pic
    simp [posOf, a, b]
  have hdel : delVol (posOf s.names picN) s.vols = [s.vols[1]!] := by
    rw [hpo]
    conv => lhs; rw [two_list h2.len]
    rfl
  have hone : OneW { s with m := s.m + (s.vols[0]!).xs.length, bl := giveB (s.vols[0]!).xs (revB (s.vols[1]!) (s.vols[0]!) s.bl (s.vols[0]!).kept.length), d := giveD s.m (s.vols[0]!).xs s.d, ab := some g, vols := delVol (posOf s.names picN) s.vols } (insAll (s.vols[0]!).xs fr) size := by
    refine ⟨⟨s.vols[1]!, hdel, h2.n1, h2.o1, h2.x1⟩, ?_⟩
    rw [insAll_length, h2.x0, hI.free]
    omega
  refine ⟨he, _, _, hA, hone, fun q hq => ?_⟩
  obtain ⟨f1, f2, f3, f4, f5, f6⟩ := hone.facts
  have hvv : St.vol { s with m := s.m + (s.vols[0]!).xs.length, bl := giveB (s.vols[0]!).xs (revB (s.vols[1]!) (s.vols[0]!) s.bl (s.vols[0]!).kept.length), d := giveD s.m (s.vols[0]!).xs s.d, ab := some g, vols := delVol (posOf s.names picN) s.vols } vN = s.vols[1]! := by
    have e : delVol (posOf s.names picN) s.vols = [_] := f6
    exact (List.cons.inj (hdel.symm.trans e)).1.symm
  have hmem' := (St.has_mem f1).1
  have eo := (hA.pool.orgOf hmem').2.2.1 f2
  have ek := (hA.pool.vols _ hmem').kept_nil f2
  unfold St.look St.holder
  rw [ek, if_neg (by simp), eo, hvv]
  show (giveB (s.vols[0]!).xs (revB (s.vols[1]!) (s.vols[0]!) s.bl (s.vols[0]!).kept.length))[(s.vols[1]!).xs[q]!]! = _
  have hqx : q < (s.vols[1]!).xs.length := by rw [h2.x1]; exact hq
  have hmq : (s.vols[1]!).xs[q]! ∈ (s.vols[1]!).xs := mem_getElem! hqx
  have hap : ∀ x ∈ (s.vols[0]!).xs, x ∉ (s.vols[1]!).xs := fun x hx => hG.xs_apart l0 l1 (by omega) hx
  rw [giveB_get _ _ _ (by rw [revB_length, h.disk.len]; exact hG.lt.2 _ m1 _ hmq), if_neg (fun hm => hap _ hm hmq)]
  rw [revB_in (s.vols[1]!) (s.vols[0]!) s.bl ((hG.pics _ m0).2.2 _ m1 h2.o0).1 (hG.pics _ m0).1 (hG.xs_nodup m1) (h.vols _ m0).room hap (fun x hx => by rw [h.disk.len]; exact hG.lt.2 _ m1 _ hx) (fun x hx => by rw [h.disk.len]; exact hG.lt.2 _ m0 _ hx) q hqx _ (Nat.le_refl _), List.take_length]
  have eo0 : s.orgOf (s.vols[0]!) = s.vols[1]! := by
    have := (h.orgOf m0).2.2.2 (by rw [h2.o0]; simp)
    rw [h2.o0] at this
    exact h.vb_inj (h.orgOf m0).1 m1 (by simpa using this.symm)
  rw [eo0]
  split <;> rfl
end PartLawL

section PartLawM
open Go.RowKit Go.Sort
set_option linter.unusedVariables false
set_option linter.unusedSimpArgs false
set_option linter.unusedSectionVars false
variable [DecidableEq Blk] [Inhabited Blk]
variable [Inhabited Vol]

theorem tdiv_bdn (c n : Int) (hn : 1 ≤ n) (h1 : -9223372036854775808 ≤ c) (h2 : c ≤ 9223372036854775807) : -9223372036854775808 ≤ c.tdiv n ∧ c.tdiv n ≤ 9223372036854775807 := by
  rcases Int.le_total 0 c with h | h
  · have a := Int.tdiv_nonneg h (by omega : (0 : Int) ≤ n)
    have b := Int.tdiv_le_self n h
    omega
  · have a := Int.tdiv_nonneg (show (0 : Int) ≤ -c by omega) (by omega : (0 : Int) ≤ n)
    have b := Int.tdiv_le_self n (show (0 : Int) ≤ -c by omega)
    rw [Int.neg_tdiv] at a b
    omega

/-- A Pool that the law made, at some point of its run. -/
structure Held (w : World) (pb : Nat) (wr : World) (s : St) (fr : List Nat) : Prop where
  pb : s.pb = pb
  pool : PoolAt wr s
  good : Good s fr
  foot : ∀ k ∈ s.foot, w.heap.size ≤ k
  same : Same [] w wr

theorem Held.next {w : World} {pb : Nat} {wr w' : World} {s s' : St} {fr fr' : List Nat} (h : Held w pb wr s fr) (hA : After wr s w' s' fr') : Held w pb w' s' fr' := by
  have hz := h.same.size
  refine ⟨hA.pb.trans h.pb, hA.pool, hA.good, fun k hk => ?_, h.same.step hA.same fun k hk hl => by have := h.foot k hk; omega⟩
  rcases hA.foot k hk with e | e
  · exact h.foot k e
  · omega
theorem Held.new {w : World} {pb : Nat} {wr w' : World} {s : St} {fr : List Nat} (h : Held w pb wr s fr) (hs : Same [] wr w') : Held w pb w' s fr :=
  h.next ((After.start h.pool h.good).new hs)

set_option maxHeartbeats 2000000 in
set_option maxRecDepth 100000 in
theorem back_calls (sz : Int) (a : Option Addr) (b off len cap : Nat) (zs : List Int) (a2 : Option Addr) (b2 off2 len2 cap2 : Nat) (zs2 : List Int) (w : World) (s1 : -9223372036854775808 ≤ sz) (s2 : sz ≤ 9223372036854775807)
    (ha : 0 < len → a = some ⟨b, off, none⟩) (hb : 0 < len → b < w.heap.size) (hm : len ≤ 9223372036854775807)
    (hc : ∀ t, t < len → w.cell? ⟨b, off + t, none⟩ = some (.int .i64 (zs.getD t 0))) (hz : ∀ t, -9223372036854775808 ≤ zs.getD t 0 ∧ zs.getD t 0 ≤ 9223372036854775807)
    (ha2 : 0 < len2 → a2 = some ⟨b2, off2, none⟩) (hb2 : 0 < len2 → b2 < w.heap.size) (hm2 : len2 ≤ 9223372036854775807)
    (hc2 : ∀ t, t < len2 → w.cell? ⟨b2, off2 + t, none⟩ = some (.int .i64 (zs2.getD t 0))) (hz2 : ∀ t, -9223372036854775808 ≤ zs2.getD t 0 ∧ zs2.getD t 0 ≤ 9223372036854775807) :
    Calls Try.prog 8 #[.int .i64 sz, .slice a len cap, .slice a2 len2 cap2] w fun e w' => e = .returned (.bool true) ∧ Below w.heap.size w w' := by
  have hnot := runNot
  have hps := fun W => pick_calls sz 20 W s1 s2 (by omega) (by omega)
  have hbs := pickF_bd sz 20 (by omega)
  obtain ⟨q1, hq1⟩ : ∃ q : Nat, pickF sz 20 = (q : Int) := ⟨(pickF sz 20).toNat, by omega⟩
  rw [hq1] at hps hbs
  have hw1 : IntKind.i64.wrap (1 + (q1 : Int)) = ((q1 + 1 : Nat) : Int) := by rw [IntWalk.i64_in _ (by omega)]; omega
  clear hq1
  go_enter Try.func8, Try.ntmps8
  go_wp2_with fail
  refine (opened_calls w).mono ?_
  rintro e w1 ⟨pb, rfl, hO⟩
  obtain ⟨⟨s, fr, e1, h1, h2, h3, h4, h5⟩, S⟩ := hO
  have hH1 : Held w pb w1 s fr := ⟨e1, h1, h2, h5, S⟩
  go_wp2_with fail
  refine (hps _).mono ?_
  rintro e wz ⟨rfl, rfl⟩
  clear hps
  go_wp2_with fail
  obtain ⟨size, hsize⟩ : ∃ size : Nat, (q1 : Int) + 1 = (size : Nat) := ⟨q1 + 1, by omega⟩
  rw [hsize]
  have hs20 : 1 ≤ size ∧ size ≤ 20 := by omega
  clear hsize hbs hw1
  have hCr := create_v s fr size wz h1 h2 h3 h4 hs20
  rw [e1] at hCr
  refine hCr.mono ?_
  rintro e w2 ⟨rfl, s', fr', hA2, hO2⟩
  have hH2 := hH1.next hA2
  have hO2 := hO2.weak
  clear hCr hA2 hH1 h1 h2 h3 h4 h5 S e1
  go_wp2_with fail
  go_loopw [8, 9] (fun ev i wr => ∃ (k : Nat) (s : St) (fr : List Nat), k ≤ len ∧ k ≤ 60 ∧ ev = .int .i64 0 ∧ i = .int .i64 k ∧ Held w pb wr s fr ∧ OneW s fr size)
    (fun _ i _ => 60 - (intOf i).toNat)
  case atStart => exact ⟨0, s', fr', Nat.zero_le _, by omega, rfl, rfl, hH2, hO2⟩
  case round =>
    clear hH2 hO2
    obtain ⟨k, s, fr, hk, hk6, rfl, rfl, hI, hO⟩ := hrel
    by_cases hkl : k < len ∧ k < 60
    · obtain ⟨hkl, hk60⟩ := hkl
      obtain rfl := ha (by omega)
      have hbw := hb (by omega)
      have HSS : Hid (∀ W, Same [] w W → W.cell? ⟨b, off + k, none⟩ = some (.int .i64 (zs.getD k 0))) := fun W hW => by
        rw [(hW.below (Nat.le_refl _) (by simp)).cell hbw]; exact hc k hkl
      have cz := HSS.out wr hI.same
      obtain ⟨z1, z2⟩ := hz k
      generalize zs.getD k 0 = z at *
      have l1 : (k : Int) < (len : Int) := by omega
      have hPk := fun W => pick_calls z size W z1 z2 (by omega) (by omega)
      have hbk := pickF_bd z size (by omega)
      obtain ⟨kk, hkk⟩ : ∃ kk : Nat, pickF z size = (kk : Int) := ⟨(pickF z size).toNat, by omega⟩
      rw [hkk] at hPk hbk
      have hkks : kk < size := by omega
      obtain ⟨t1, t2⟩ := tdiv_bdn z 20 (by omega) z1 z2
      have hw20 : IntKind.i64.wrap (z.tdiv 20) = z.tdiv 20 := IntWalk.i64_in _ (by omega)
      have hBk := fun W => kblock_calls (z.tdiv 20) W t1 t2
      have hWr := fun W (hW : Held w pb W s fr) => oneWrite s fr size kk (blkOf (z.tdiv 20)) W hW.pool hW.good hO hkks
      rw [hI.pb] at hWr
      generalize blkOf (z.tdiv 20) = x at *
      obtain ⟨x0, x1, x2, x3, x4, x5, x6, x7⟩ := x
      unfold Blk.val at hBk hWr
      clear hkk
      have HI : Hid (Held w pb wr s fr) := hI
      clear hI hO
      go_wp2_with fail
      go_region_held3 (fun w' => w'.cell? ⟨b, off + k, none⟩ = some (.int .i64 z)) (first | assumption | exact cz) (first | (go_at_call 16; refine (hPk _).mono ?_; rintro e w' ⟨rfl, rfl⟩) | (go_at_call 24; refine (hBk _).mono ?_; rintro e w3 ⟨rfl, S3⟩; have hH3 := HI.out.new (((Same.refl [] wr).drew).step S3 (by simp)); have hk3 := HSS.out w3 hH3.same) | (go_at_call 27; refine (hWr w3 hH3).mono ?_; rintro e w5 ⟨rfl, s5, hA5, hO5⟩; have hH5 := hH3.next hA5; have hk5 := HSS.out w5 hH5.same))
      all_goals
        have HH5 : Hid (Held w pb w5 s5 fr ∧ OneW s5 fr size) := ⟨hH5, hO5⟩
        clear hH5 hO5 hA5 hH3 HI hWr hBk hPk S3 HSS
        go_wp2
        go_roundw
        case rel => exact ⟨k + 1, s5, fr, by omega, by omega, rfl, by go_num, HH5.out.1, HH5.out.2⟩
        case measure => simp [intOf]; omega
    · have hstop : (len : Int) ≤ (k : Int) ∨ ((k : Int) < (len : Int) ∧ (60 : Int) ≤ (k : Int)) := by omega
      have hPc := picture_two s fr size wr hI.pool hI.good hO hs20
      rw [hI.pb] at hPc
      have HI : Hid (Held w pb wr s fr) := hI
      clear hkl hk hk6 hI hO ha hb hm hc hz
      rcases hstop with hst | ⟨hst, hst2⟩
      all_goals
        go_wp2_with fail
        refine hPc.mono ?_
        rintro e w3 ⟨rfl, s3, fr3, hA3, hB3⟩
        have hH3 := HI.out.next hA3
        clear hPc hA3 HI
        go_wp2_with fail
        go_loopw [8, 11] (fun ev i wr => ∃ (j : Nat) (s : St) (fr : List Nat), j ≤ len2 ∧ j ≤ 60 ∧ ev = .int .i64 0 ∧ i = .int .i64 j ∧ Held w pb wr s fr ∧ BackInv s fr size)
          (fun _ i _ => 60 - (intOf i).toNat)
        case atStart => exact ⟨0, s3, fr3, Nat.zero_le _, by omega, rfl, rfl, hH3, hB3⟩
        case round =>
          clear hH3 hB3
          obtain ⟨j, s, fr, hj, hj6, rfl, rfl, hI, hB⟩ := hrel
          by_cases hjl : j < len2 ∧ j < 60
          · obtain ⟨hjl, hj60⟩ := hjl
            obtain rfl := ha2 (by omega)
            have hbw := hb2 (by omega)
            have HSS : Hid (∀ W, Same [] w W → W.cell? ⟨b2, off2 + j, none⟩ = some (.int .i64 (zs2.getD j 0))) := fun W hW => by
              rw [(hW.below (Nat.le_refl _) (by simp)).cell hbw]; exact hc2 j hjl
            have cz := HSS.out wr hI.same
            obtain ⟨z1, z2⟩ := hz2 j
            generalize zs2.getD j 0 = z at *
            have l1 : (j : Int) < (len2 : Int) := by omega
            have hPk := fun W => pick_calls z size W z1 z2 (by omega) (by omega)
            have hbk := pickF_bd z size (by omega)
            obtain ⟨kk, hkk⟩ : ∃ kk : Nat, pickF z size = (kk : Int) := ⟨(pickF z size).toNat, by omega⟩
            rw [hkk] at hPk hbk
            have hkks : kk < size := by omega
            obtain ⟨t1, t2⟩ := tdiv_bdn z 20 (by omega) z1 z2
            have hw20 : IntKind.i64.wrap (z.tdiv 20) = z.tdiv 20 := IntWalk.i64_in _ (by omega)
            obtain ⟨t3, t4⟩ := tdiv_bdn z 180 (by omega) z1 z2
            have hw180 : IntKind.i64.wrap (z.tdiv 180) = z.tdiv 180 := IntWalk.i64_in _ (by omega)
            have hP3 := fun W => pick_calls (z.tdiv 180) 3 W t3 t4 (by omega) (by omega)
            have hBk := fun W => kblock_calls (z.tdiv 20) W t1 t2
            have hWv := fun W (hW : Held w pb W s fr) => backWriteV s fr size kk (blkOf (z.tdiv 20)) W hW.pool hW.good hB hkks
            have hWp := fun W (hW : Held w pb W s fr) => backWriteP s fr size kk (blkOf (z.tdiv 20)) W hW.pool hW.good hB hkks
            rw [hI.pb] at hWv hWp
            generalize blkOf (z.tdiv 20) = x at *
            generalize pickF (z.tdiv 180) 3 = q3 at *
            obtain ⟨x0, x1, x2, x3, x4, x5, x6, x7⟩ := x
            unfold Blk.val at hBk hWv hWp
            clear hkk
            have HI : Hid (Held w pb wr s fr) := hI
            clear hI hB
            by_cases hq3 : q3 = 0
            · subst hq3
              go_wp2_with (go_at_call 16; refine (hP3 _).mono ?_; rintro e w' ⟨rfl, hw⟩; obtain rfl := hw.symm)
              go_region_held3 (fun w' => w'.cell? ⟨b2, off2 + j, none⟩ = some (.int .i64 z)) (first | assumption | exact cz) (first | (go_at_call 16; refine (hPk _).mono ?_; rintro e w' ⟨rfl, rfl⟩) | (go_at_call 24; refine (hBk _).mono ?_; rintro e w4 ⟨rfl, S4⟩; have hH4 := HI.out.new (((Same.refl [] wr).drew).step S4 (by simp)); have hk4 := HSS.out w4 hH4.same) | (go_at_call 27; refine (hWp w4 hH4).mono ?_; rintro e w5 ⟨rfl, s5, hA5, hB5⟩; have hH5 := hH4.next hA5; have hk5 := HSS.out w5 hH5.same))
              all_goals
                have HH5 : Hid (Held w pb w5 s5 fr ∧ BackInv s5 fr size) := ⟨hH5, hB5⟩
                clear hH5 hB5 hA5 hH4 HI hWv hWp hBk hPk S4 HSS hP3
                go_wp2
                go_roundw
                case rel => exact ⟨j + 1, s5, fr, by omega, by omega, rfl, by go_num, HH5.out.1, HH5.out.2⟩
                case measure => simp [intOf]; omega
            · have hq3' : (q3 == 0) = false := by simpa using hq3
              go_wp2_with (go_at_call 16; refine (hP3 _).mono ?_; rintro e w' ⟨rfl, hw⟩; obtain rfl := hw.symm)
              go_region_held3 (fun w' => w'.cell? ⟨b2, off2 + j, none⟩ = some (.int .i64 z)) (first | assumption | exact cz) (first | (go_at_call 16; refine (hPk _).mono ?_; rintro e w' ⟨rfl, rfl⟩) | (go_at_call 24; refine (hBk _).mono ?_; rintro e w4 ⟨rfl, S4⟩; have hH4 := HI.out.new (((Same.refl [] wr).drew).step S4 (by simp)); have hk4 := HSS.out w4 hH4.same) | (go_at_call 27; refine (hWv w4 hH4).mono ?_; rintro e w5 ⟨rfl, s5, hA5, hB5⟩; have hH5 := hH4.next hA5; have hk5 := HSS.out w5 hH5.same))
              all_goals
                have HH5 : Hid (Held w pb w5 s5 fr ∧ BackInv s5 fr size) := ⟨hH5, hB5⟩
                clear hH5 hB5 hA5 hH4 HI hWv hWp hBk hPk S4 HSS hP3
                go_wp2
                go_roundw
                case rel => exact ⟨j + 1, s5, fr, by omega, by omega, rfl, by go_num, HH5.out.1, HH5.out.2⟩
                case measure => simp [intOf]; omega
          · have hstop2 : (len2 : Int) ≤ (j : Int) ∨ ((j : Int) < (len2 : Int) ∧ (60 : Int) ≤ (j : Int)) := by omega
            have h2 := hB.two
            obtain ⟨v1, v2, v3, v4⟩ := h2.vol
            have hT1 := ktold_ok (.pointer (some ⟨pb, 0, none⟩)) ⟨#[112, 105, 99]⟩ size (fun q => s.look (s.vols[0]!) q) wr (by omega) (fun W hW i hi => by
              have hP := hI.pool.new hW
              have hmem := (St.has_mem v1).1
              have hks : i < s.size (s.vol picN) := by rw [v3, (two_size hI.pool h2).2]; exact hi
              have hR := read_some s picN i W hP v1 (by rw [v3]; exact hB.lost) hks (holder_lt hP hI.good hmem hks)
              rw [v3, hI.pb] at hR
              exact hR)
            have HW : Hid (∀ s5 fr5, OneW s5 fr5 size → (∀ q, q < size → s5.look (s5.vol vN) q = s.look (s.vols[0]!) q) → (List.range size).map (fun q => s5.look (s5.vol vN) q) = (List.range size).map (fun q => s.look (s.vols[0]!) q)) := fun s5 fr5 _ h => List.map_congr_left (fun q hq => h q (List.mem_range.1 hq))
            have hWl : ((List.range size).map (fun q => s.look (s.vols[0]!) q)).length = size := by simp
            have HI : Hid (Held w pb wr s fr ∧ BackInv s fr size) := ⟨hI, hB⟩
            have hflt := hI.pool.foot_lt
            clear hjl hj hj6 hI hB h2 v1 v2 v3 v4 ha2 hb2 hm2 hc2 hz2
            generalize hWL : (List.range size).map (fun q => s.look (s.vols[0]!) q) = WL at *
            clear hWL
            rcases hstop2 with hst3 | ⟨hst3, hst4⟩
            all_goals
              go_wp2_with fail
              refine hT1.mono ?_
              rintro e w4 ⟨wv, rfl, hown1, S4⟩
              obtain ⟨wa, wc, rfl⟩ := owns_form hown1
              have hH4 := HI.out.1.new S4
              have hRv := backRevert s fr size w4 hH4.pool hH4.good HI.out.2 hs20.2
              rw [hH4.pb] at hRv
              clear hT1
              go_wp2_with fail
              refine hRv.mono ?_
              rintro e w5 ⟨rfl, s5, fr5, hA5, hO5, hlk5⟩
              have hH5 := hH4.next hA5
              obtain ⟨f1, f2, f3, f4, f5, f6⟩ := hO5.facts
              have hT2 := ktold_ok (.pointer (some ⟨pb, 0, none⟩)) ⟨#[118]⟩ size (fun q => s5.look (s5.vol vN) q) w5 (by omega) (fun W hW i hi => by
                have hP := hH5.pool.new hW
                have hmem := (St.has_mem f1).1
                have eo := (hP.orgOf hmem).2.2.1 f2
                have hks : i < s5.size (s5.vol vN) := by unfold St.size; rw [eo, f3]; exact hi
                have hR := read_some s5 vN i W hP f1 ((hP.vols _ hmem).plain f2).2 hks (holder_lt hP hH5.good hmem hks)
                rw [hH5.pb] at hR
                exact hR)
              rw [HW.out s5 fr5 hO5 hlk5] at hT2
              obtain ⟨ga, ca, rfl, hga, hA1, hcl1, hct1⟩ := owns_atN hown1 (by omega)
              have hA1' := hA5.same.at hA1 (fun hm => by have := hflt _ hm; omega)
              have hm5 : (s5.m : Int) = 200 - (size : Int) := by
                have e1 := hH5.good.heap.len
                have e2 := hO5.free
                omega
              have hno : s5.has picN = false := by
                unfold St.has; rw [f5]
                have a := v_pic
                have b : cmpB vN picN ≠ 0 := fun e => by have := (cmpB_zero _ _).1 e; exact absurd this (by decide +kernel)
                simp [isIn, posOf, a, b]
              clear hRv hlk5 hown1 hA1 HW
              go_wp2_with fail
              refine hT2.mono ?_
              rintro e w6 ⟨lv, rfl, hown2, S6⟩
              obtain ⟨la, lc, rfl⟩ := owns_form hown2
              obtain ⟨gb, cb, rfl, hgb, hA2, hcl2, hct2⟩ := owns_atN hown2 (by omega)
              have hSM := ksame_calls WL WL (some ⟨gb, 0, none⟩) (some ⟨ga, 0, none⟩) lc wc w6 gb ga cb ca (fun _ => ⟨rfl, hA2⟩) (by rw [hWl]; exact hct2) (fun _ => ⟨rfl, S6.at hA1' (by simp)⟩) (by rw [hWl]; exact hct1) (by omega) rfl
              rw [hWl, decide_eq_true rfl] at hSM
              have hH6 := hH5.new S6
              have hRm := fun q => remove_none s5 picN (w6.drewN q) (hH6.pool.new ((Same.refl [] w6).drewN q)) hno
              have hFr := fun q => free_calls s5 (w6.drewN q) (hH6.pool.new ((Same.refl [] w6).drewN q))
              rw [hH6.pb] at hRm hFr
              have hB6 := hH6.same
              have hsub : IntKind.i64.wrap (200 - (size : Int)) = 200 - (size : Int) := IntWalk.i64_in _ (by omega)
              rw [hm5] at hFr
              clear hT2 hown2 hA2 hA1' hH6 hH5 hA5 hO5 hH4 HI f1 f2 f3 f4 f5 f6
              go_wp2_with (first | (go_at_call 29; refine hSM.mono ?_; rintro e w7 ⟨q, rfl, hw7⟩; subst hw7) | (go_at_call 20; refine (hRm q).mono ?_; rintro e w8 ⟨rfl, hw8⟩; subst hw8) | (go_at_call 23; refine (hFr q).mono ?_; rintro e w9 ⟨rfl, hw9⟩; subst hw9))
              go_ret
              exact ⟨by simp, (hB6.drewN q).below (Nat.le_refl _) (by simp)⟩
end PartLawM

section PartBackA
open Go.RowKit Go.Sort
set_option linter.unusedVariables false
set_option linter.unusedSimpArgs false
set_option linter.unusedSectionVars false
variable [DecidableEq Blk] [Inhabited Blk]
variable [Inhabited Vol]
variable [Inhabited PEnt]

theorem imaged_of {w : World} {s : St} {fr : List Nat} (h : PoolAt w s) (hG : Good s fr) (hn : 1 ≤ s.n) (hf : ∀ x, x < s.n → (s.bl[x]!).fits) : Imaged s w := by
  have hn2 := h.disk.small
  refine ⟨h, fun v hv => ?_, fun v hv x hx => ?_, fun v hv x hx => ?_, hf⟩
  · have := hG.names v hv
    simp only [nameB, Bool.and_eq_true, decide_eq_true_eq] at this
    exact this.1.2
  · have := hG.lt.2 v hv x hx; omega
  · have ht := told_of h hG hn hv
    have := ht.kept.2 x hx
    have := ht.size.2
    omega

theorem load_back {w : World} {s : St} {fr : List Nat} (hP : PoolAt w s) (hG : Good s fr) (hS : Spare s) (hn : 1 ≤ s.n) (hf : ∀ x, x < s.n → (s.bl[x]!).fits) (a : Option Addr) (cap : Nat) (hb : BytesOld w a (imgB s)) (hcap : (imgB s).length ≤ cap) :
    Calls Try.prog 33 #[.slice a (imgB s).length cap] w fun e w' => ∃ (s2 : St) (fr2 : List Nat), e = .returned (.tuple #[.pointer (some ⟨s2.pb, 0, none⟩), .int .i64 0, .int .i64 0]) ∧ PoolAt w' s2 ∧ Good s2 fr2 ∧ Spare s2 ∧ Alike s s2 ∧ imgB s2 = imgB s ∧ (∀ k ∈ s2.foot, w.heap.size ≤ k) ∧ Same [] w w' := by
  obtain ⟨i1, i2, i3⟩ := end_img s
  obtain ⟨p1, p2⟩ := rpool_body hP hG hS hn hf
  refine (load_calls w a (imgB s) cap hb hcap).mono ?_
  intro e w' hL
  unfold LoadPost at hL
  rw [if_pos ⟨i1, i3⟩, i2, p1] at hL
  obtain ⟨pv, pb, db, bb, fb, jg, d, he, hps, hraw⟩ := hL
  have hp' : rpool (bodyB s) = .ok (s.n, pv.map (·.1), 7 + (listB s s.vols).length) := by rw [hps]; exact p1
  have hr := rpool_ok hp'
  have hbody := loaded_body hraw hp'
  refine ⟨ldSt pv pb db bb fb jg s.n (bodyB s) (7 + (listB s s.vols).length) d, _, he, loaded_pool hraw hr, loaded_good hraw hr, loaded_spare hraw hr, loaded_alike hP hG hraw p1 hps p2, ?_, ?_, hraw.same⟩
  · unfold imgB; rw [hbody]
  · intro k hk
    have hk' : k ∈ pb :: db :: bb :: fb :: ((some jg).toList ++ (pv.map (joinV pv)).flatMap Vol.foot) := hk
    rw [joinV_feet] at hk'
    obtain ⟨o1, o2, o3, o4, o5, o6, o7⟩ := hraw.ord
    simp only [List.mem_cons, List.mem_append, Option.toList_some, List.not_mem_nil, or_false] at hk'
    rcases hk' with rfl | rfl | rfl | rfl | rfl | hk'
    · omega
    · omega
    · omega
    · omega
    · omega
    · obtain ⟨x, hx, hk⟩ := List.mem_flatMap.1 hk'
      exact (hraw.new x hx k hk).1

theorem load_flip {w : World} (s : St) (a : Option Addr) (cap k : Nat) (y : UInt8) (hk : k < (imgB s).length) (hy : (imgB s)[k]! ≠ y) (hb : BytesOld w a ((imgB s).set k y)) (hcap : (imgB s).length ≤ cap) :
    Calls Try.prog 33 #[.slice a (imgB s).length cap] w fun e w' => e = .returned (.tuple #[.pointer none, .int .i64 11, .int .i64 0]) ∧ Same [] w w' := by
  obtain ⟨i1, i2, i3⟩ := end_img s
  have hl : ((imgB s).set k y).length = (imgB s).length := List.length_set
  have hne := flip_sum (imgB s) k y hk i1 i3 hy
  have := load_calls w a ((imgB s).set k y) cap hb (by rw [hl]; exact hcap)
  rw [hl] at this
  refine this.mono ?_
  intro e w' hL
  unfold LoadPost at hL
  rw [if_neg (fun h => hne h.2)] at hL
  exact hL
/-- A new list of bytes, for a reader of it. -/
theorem BytesNew.old {w w' : World} {g : Nat} {bs : List UInt8} (h : BytesNew w w' g bs) (hl : bs.length ≤ 140737488355328) : BytesOld w' (some ⟨g, 0, none⟩) bs := by
  obtain ⟨cs, hA, hc⟩ := h.ex
  refine ⟨fun _ => ⟨g, 0, rfl, hA.lt, fun i hi => ?_⟩, hl⟩
  rw [Nat.zero_add, hA.cell?]
  have : (cs.take bs.length)[i]? = cs[i]? := by rw [List.getElem?_take, if_pos hi]
  rw [← this, hc, List.getElem?_map, List.getElem?_eq_getElem hi, getElem!_pos bs i hi]
  rfl
end PartBackA

section PartAgainD
open Go.RowKit Go.Sort
set_option linter.unusedVariables false
set_option linter.unusedSimpArgs false
set_option linter.unusedSectionVars false
variable [DecidableEq Blk] [Inhabited Blk]
variable [Inhabited Vol]
variable [Inhabited PEnt]

theorem pick_big (c n : Int) (w : World) (h1 : -9223372036854775808 ≤ c) (h2 : c ≤ 9223372036854775807) (hn : 0 < n) (hn2 : n ≤ 100000) :
    Calls Try.prog 16 #[.int .i64 c, .int .i64 n] w fun e w' => e = .returned (.int .i64 (pickF c n)) ∧ w' = w := by
  have hne : ¬ n = 0 := by omega
  have hb := pickF_bd c n hn
  by_cases hc : c < 0
  · have HP : Hid (pickF c n = -((c + 1).tmod n)) := by show _ = _; unfold pickF; rw [if_pos hc, Int.neg_tmod]
    go_enter Try.func16, Try.ntmps16
    go_wp2
    go_ret
    rw [HP.out]
    exact ⟨rfl, rfl⟩
  · have HP : Hid (pickF c n = c % n) := by show _ = _; unfold pickF; rw [if_neg hc, Int.tmod_eq_emod_of_nonneg (by omega)]
    go_enter Try.func16, Try.ntmps16
    go_wp2
    go_ret
    rw [HP.out]
    exact ⟨rfl, rfl⟩

/-- What told tells of a name, at every world that has this one's memory. -/
def Tells (w6 : World) (pb : Nat) (t : ByteArray) (size : Nat) (L : List Blk) (ok : Bool) : Prop :=
  ∀ W, Same [] w6 W → Calls Try.prog 28 #[.pointer (some ⟨pb, 0, none⟩), .string t, .int .i64 size] W fun e w' => ∃ v, e = .returned (.tuple #[v, .bool ok]) ∧ w'.ownsRow W.heap.size 55 8 v L.length (flat L) ∧ Same [] W w'

theorem toldL_length (s : St) (v : Vol) (n : Nat) : (toldL s v n).length ≤ n := by
  unfold toldL
  split
  · simp
  · simp

theorem again_tells {w6 : World} {s s2 : St} {fr fr2 : List Nat} {size room : Nat} (hP : PoolAt w6 s) (hG : Good s fr) (hI : AgInv s size room) (hs : 1 ≤ size ∧ size ≤ 20) (hP2 : PoolAt w6 s2) (hG2 : Good s2 fr2) (hA : Alike s s2) :
    ∃ (L1 L2 : List Blk) (lo : Bool), L1.length ≤ 20 ∧ L2.length ≤ 20 ∧ Tells w6 s.pb ⟨#[118]⟩ size L1 true ∧ Tells w6 s2.pb ⟨#[118]⟩ size L1 true ∧ Tells w6 s.pb ⟨#[112, 105, 99]⟩ size L2 lo ∧ Tells w6 s2.pb ⟨#[112, 105, 99]⟩ size L2 lo := by
  obtain ⟨v1, v2, v3, v4⟩ := hI.two.vol
  obtain ⟨z1, z0⟩ := two_size hP hI.two
  have m1 : s.vols[1]! ∈ s.vols := get_mem (by rw [hI.two.len]; omega)
  have hlo : (s.vol vN).lost = false := by rw [v4]; exact ((hP.vols _ m1).plain hI.two.o1).2
  obtain ⟨a1, a2, a3, a4⟩ := hA.told vN v2 size
  obtain ⟨b1, b2, b3, b4⟩ := hA.told picN v1 size
  refine ⟨toldL s (s.vol vN) size, toldL s (s.vol picN) size, !(s.vol picN).lost, ?_, ?_, ?_, ?_, ?_, ?_⟩
  · have := toldL_length s (s.vol vN) size; omega
  · have := toldL_length s (s.vol picN) size; omega
  · intro W hW
    have := told_any s fr vN size W (hP.new hW) hG v2 (by rw [v4]; exact z1) (by omega)
    rw [hlo] at this
    exact this
  · intro W hW
    have := told_any s2 fr2 vN size W (hP2.new hW) hG2 a1 (by rw [a2, v4]; exact z1) (by omega)
    rw [a3, hlo, a4] at this
    exact this
  · intro W hW
    exact told_any s fr picN size W (hP.new hW) hG v1 (by rw [v3]; exact z0) (by omega)
  · intro W hW
    have := told_any s2 fr2 picN size W (hP2.new hW) hG2 b1 (by rw [b2, v3]; exact z0) (by omega)
    rw [b3, b4] at this
    exact this

/-- The text of a new list of bytes. -/
theorem BytesNew.text {w w' W : World} {g n : Nat} {bs : List UInt8} (h : BytesNew w w' g bs) (hS : Same [] w' W) (hn : bs.length = n) :
    Sem.run Try.prog (convert 25 9 (.slice (some ⟨g, 0, none⟩) n n)) W = .ok (.string ⟨bs.toArray⟩) W := by
  subst hn
  obtain ⟨cs, hA, hc⟩ := h.ex
  have hA' := hS.at hA (by simp)
  refine text_conv W g 0 bs.length bs rfl (fun i hi => ?_) bs.length
  rw [Nat.zero_add, hA'.cell?]
  have : (cs.take bs.length)[i]? = cs[i]? := by rw [List.getElem?_take, if_pos hi]
  rw [← this, hc, List.getElem?_map, List.getElem?_eq_getElem hi, getElem!_pos bs i hi]
  rfl

/-- One byte of a new list of bytes, changed. -/
theorem BytesNew.flip {w w' W : World} {g k : Nat} {bs : List UInt8} (h : BytesNew w w' g bs) (hS : Same [] w' W) (hk : k < bs.length) (hl : bs.length ≤ 140737488355328) (y : UInt8) :
    W.cell? ⟨g, k, none⟩ = some (byteV bs[k]!) ∧ W.frozen? ⟨g, k, none⟩ = false ∧ g < W.heap.size ∧ BytesOld (W.setCell ⟨g, k, none⟩ (byteV y)) (some ⟨g, 0, none⟩) (bs.set k y) := by
  obtain ⟨cs, hA, hc⟩ := h.ex
  have hA' := hS.at hA (by simp)
  have key : ∀ i, i < bs.length → cs[i]? = some (byteV bs[i]!) := fun i hi => by
    have : (cs.take bs.length)[i]? = cs[i]? := by rw [List.getElem?_take, if_pos hi]
    rw [← this, hc, List.getElem?_map, List.getElem?_eq_getElem hi, getElem!_pos bs i hi]
    rfl
  refine ⟨by rw [hA'.cell?]; exact key k hk, hA'.frozen k, hA'.lt, ⟨fun _ => ⟨g, 0, rfl, ?_, fun i hi => ?_⟩, by rw [List.length_set]; exact hl⟩⟩
  · exact (hA'.set_same k (byteV y)).lt
  · rw [List.length_set] at hi
    rw [Nat.zero_add, (hA'.set_same k (byteV y)).cell?]
    by_cases e : k = i
    · subst e
      have : k < cs.length := by
        rcases Nat.lt_or_ge k cs.length with h' | h'
        · exact h'
        · have := key k hk; rw [List.getElem?_eq_none h'] at this; cases this
      rw [List.getElem?_set_self this, getElem!_pos _ k (by rw [List.length_set]; exact hk), List.getElem_set_self]
    · rw [List.getElem?_set_ne e, key i hi, getElem!_pos bs i hi, getElem!_pos (bs.set k y) i (by rw [List.length_set]; exact hi), List.getElem_set_ne e]

/-- The byte that stands there then. -/
theorem flip_byte (x : UInt8) (p : Nat) (hp : p < 255) : ∃ y : UInt8, IntKind.u8.wrap ((x.toNat : Int) + 1 + (p : Int)) = (y.toNat : Int) ∧ x ≠ y := by
  have hx := x.toNat_lt
  refine ⟨UInt8.ofNat ((x.toNat + 1 + p) % 256), ?_, fun e => ?_⟩
  · have h1 : (UInt8.ofNat ((x.toNat + 1 + p) % 256)).toNat = (x.toNat + 1 + p) % 256 := by
      rw [UInt8.toNat_ofNat']; omega
    rw [h1, IntKind.wrap_u8]; omega
  · have := congrArg UInt8.toNat e
    rw [UInt8.toNat_ofNat'] at this
    omega
end PartAgainD
end Go.Proofs.Ytpddgdjocffgdaa
