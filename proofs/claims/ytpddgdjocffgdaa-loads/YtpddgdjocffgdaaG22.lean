/- The reference's image: its sum, its numbers, what a block holds: Sum, Two, block, by contracts. The reference's reader of an image: the entries in memory, while they are tied. The reference's reader of an image: tied, from behind: the last bytes. A drawn region whose last operation waits for all the others: it is the others in any order, then that one. -/
import Derived.Test.YtpddgdjocffgdaaG21
import Derived.Test.YtpddgdjocffgdaaG04
import Derived.Test.YtpddgdjocffgdaaG05
import Derived.BigQuiet
import Derived.StillTail
import Derived.Deep.RegionHeld3
namespace Go.Proofs.Ytpddgdjocffgdaa
set_option linter.unusedVariables false
set_option linter.unusedSimpArgs false
set_option linter.unusedSectionVars false
section
open Go.RowKit Go.Sort
variable [DecidableEq Blk] [Inhabited Blk] [Inhabited Vol] [Inhabited RVol]
set_option maxHeartbeats 800000 in
set_option maxRecDepth 100000 in
theorem refSum_calls (w : World) (t : ByteArray) (hl : t.size ≤ 140737488355328) :
    Calls Try.prog 74 #[.string t] w fun e w' => e = .returned (.int .i64 (sumB t.data.toList : Nat)) ∧ w' = w := by
  have HSZ : Hid (t.size = t.data.toList.length) := by show _ = _; rw [Array.length_toList]; rfl
  go_enter Try.func74, Try.ntmps74
  go_wp2
  go_loopw [3, 4] (fun n i wr => ∃ k : Nat, k ≤ t.size ∧ i = .int .i64 k ∧ n = .int .i64 (sumB (t.data.toList.take k) : Nat) ∧ wr = w) (fun _ i _ => t.size - (intOf i).toNat)
  case atStart => exact ⟨0, Nat.zero_le _, rfl, rfl, rfl⟩
  case round =>
    obtain ⟨k, hk, rfl, rfl, rfl⟩ := hrel
    by_cases hkl : k < t.size
    · have HS : Hid (sumB (t.data.toList.take (k + 1)) = (sumB (t.data.toList.take k) * 31 + t[k].toNat) % 65521) := by show _ = _; rw [take_snoc t k hkl, sumB_snoc]
      have hlt := sumB_lt (t.data.toList.take k)
      have hbt : t[k].toNat < 256 := t[k].toNat_lt
      generalize sumB (t.data.toList.take k) = m at *
      have l1 : (k : Int) < (t.size : Int) := by omega
      have hw1 : IntKind.i64.wrap (31 * (m : Int)) = 31 * (m : Int) := IntWalk.i64_in _ (by omega)
      have hw2 : IntKind.i64.wrap (31 * (m : Int) + (t[k].toNat : Int)) = 31 * (m : Int) + (t[k].toNat : Int) := IntWalk.i64_in _ (by omega)
      have hx1 : (31 * (m : Int) + (t[k].toNat : Int)).tmod 65521 = (((m * 31 + t[k].toNat) % 65521 : Nat) : Int) := by
        rw [Int.tmod_eq_emod_of_nonneg (by omega)]; omega
      go_wp2
      go_roundw
      case rel => exact ⟨k + 1, by omega, by go_num, by rw [HS.out]; first | rfl | (simp; done) | (congr 1; omega), by first | rfl | trivial⟩
      case measure => simp [intOf]; omega
    · have ek : k = t.size := by omega
      have HE : Hid (sumB (t.data.toList.take k) = sumB t.data.toList) := by show _ = _; rw [ek, HSZ.out, List.take_length]
      have l1 : (t.size : Int) ≤ (k : Int) := by omega
      clear ek
      go_wp2
      go_ret
      rw [HE.out]
      exact ⟨rfl, rfl⟩
set_option maxHeartbeats 800000 in
set_option maxRecDepth 100000 in
theorem refTwo_calls (w : World) (n : Nat) (hn : n < 65536) :
    Calls Try.prog 73 #[.int .i64 n] w fun e w' => e = .returned (.string ⟨(two n).toArray⟩) ∧ Same [] w w' := by
  have hT := text_conv (w.alloc (.cells #[.int .u8 ((n : Int) / 256 % 256), .int .u8 ((n : Int) % 256)] 5)) w.heap.size 0 2 (two n) (two_length n) (fun i hi => by
    have hA := At.new w #[.int .u8 ((n : Int) / 256 % 256), .int .u8 ((n : Int) % 256)] 5
    rw [Nat.zero_add, hA.cell?]
    unfold two byteV
    match i, hi with
    | 0, _ => simp
    | 1, _ => simp) 2
  go_enter Try.func73, Try.ntmps73
  go_wp2
  go_ret
  exact ⟨rfl, (Same.refl _ _).alloc _⟩
/-- What a volume holds in a block, if it is its k-th. -/
def RVol.pick (v : RVol) (n k : Nat) : Option ByteArray := if v.blocks[k]! = n then (if v.of_ = ⟨#[]⟩ then some v.data[k]! else if k < v.kept.length then some v.data[v.kept[k]!]! else none) else none
def RVol.blk (v : RVol) (n : Nat) : Option ByteArray := (List.range v.blocks.length).findSome? (v.pick n)
def RSt.blk (s : RSt) (n : Nat) : ByteArray := (s.vols.findSome? (·.blk n)).getD zero8
theorem findSome_first {α β : Type} [Inhabited α] {l : List α} {f : α → Option β} {t : β} (i : Nat) (hi : i < l.length) (h0 : ∀ x ∈ l.take i, f x = none) (h1 : f l[i]! = some t) : l.findSome? f = some t := by
  rw [getElem!_pos l i hi] at h1
  have e : l.findSome? f = (l.take i ++ l.drop i).findSome? f := by rw [List.take_append_drop]
  rw [e, List.findSome?_append, List.findSome?_eq_none_iff.2 h0, Option.none_or, List.drop_eq_getElem_cons hi, List.findSome?_cons, h1]
theorem blk_first {v : RVol} {n : Nat} {t : ByteArray} (j : Nat) (hj : j < v.blocks.length) (h0 : ∀ k, k < j → v.pick n k = none) (h1 : v.pick n j = some t) : v.blk n = some t := by
  unfold RVol.blk
  refine findSome_first j (by simpa using hj) (fun x hx => h0 x ?_) ?_
  · rw [List.take_range] at hx
    have := List.mem_range.1 hx
    omega
  · rw [getElem!_pos _ j (by simpa using hj), List.getElem_range]; exact h1
theorem blk_none {v : RVol} {n : Nat} (h0 : ∀ k, k < v.blocks.length → v.pick n k = none) : v.blk n = none := by
  unfold RVol.blk
  exact List.findSome?_eq_none_iff.2 (fun x hx => h0 x (List.mem_range.1 hx))
set_option maxHeartbeats 1600000 in
set_option maxRecDepth 100000 in
theorem refBlock_calls (s : RSt) (n : Nat) (w : World) (h : RefAt w s) (hd : ∀ v ∈ s.vols, (v.of_ = ⟨#[]⟩ → v.blocks.length ≤ v.data.length) ∧ (v.of_ ≠ ⟨#[]⟩ → ∀ x ∈ v.kept, x < v.data.length)) :
    Calls Try.prog 109 #[.pointer (some ⟨s.rb, 0, none⟩), .int .i64 n] w fun e w' => e = .returned (.string (s.blk n)) ∧ Same [] w w' := by
  obtain ⟨cap, hp, h1, h2⟩ := h.pool
  have c1 : w.cell? ⟨s.rb, 1, none⟩ = some (.slice (s.lg.map fun b => ⟨b, 0, none⟩) s.vols.length cap) := hp.cell? 1
  have hfew := h.few
  have HRES : Hid (∀ k t, k < s.vols.length → (∀ v ∈ s.vols.take k, v.blk n = none) → (s.vols[k]!).blk n = some t → s.blk n = t) := fun k t hk h0 h1 => by
    unfold RSt.blk; rw [findSome_first k hk h0 h1]; rfl
  have HNO : Hid ((∀ v ∈ s.vols, v.blk n = none) → s.blk n = zero8) := fun h0 => by
    unfold RSt.blk; rw [List.findSome?_eq_none_iff.2 h0]; rfl
  generalize s.blk n = res at *
  go_enter Try.func109, Try.ntmps109
  go_wp2
  go_loopw [5] (fun i wr => ∃ k : Nat, k ≤ s.vols.length ∧ i = .int .i64 k ∧ wr = w ∧ Hid (∀ v ∈ s.vols.take k, v.blk n = none)) (fun i _ => s.vols.length - (intOf i).toNat)
  case atStart => exact ⟨0, Nat.zero_le _, rfl, rfl, by show ∀ v ∈ _, _; simp⟩
  case round =>
    obtain ⟨k, hk, rfl, rfl, HN⟩ := hrel
    by_cases hkl : k < s.vols.length
    · obtain ⟨b, hb, e1, hm⟩ := h.cell k hkl
      have hvv := h.vols _ hm
      obtain ⟨hd1, hd2⟩ := hd _ hm
      obtain ⟨dc, bc, kc, hv, hdt, hbl, hk1, hk2⟩ := hvv.ex
      have hbs := hvv.blocks
      have hks := hvv.kept
      have HV : Hid (∀ t, (s.vols[k]!).blk n = some t → res = t) := fun t ht => HRES.out k t hkl HN.out ht
      have e0 : wr.cell? ⟨(s.vols[k]!).vb, 1, none⟩ = some (.string (s.vols[k]!).of_) := hv.cell? 1
      have e2 : wr.cell? ⟨(s.vols[k]!).vb, 2, none⟩ = some (.slice (some ⟨(s.vols[k]!).dg, 0, none⟩) (s.vols[k]!).data.length dc) := hv.cell? 2
      have e3 : wr.cell? ⟨(s.vols[k]!).vb, 3, none⟩ = some (.slice (some ⟨(s.vols[k]!).bg, 0, none⟩) (s.vols[k]!).blocks.length bc) := hv.cell? 3
      have e4 : wr.cell? ⟨(s.vols[k]!).vb, 4, none⟩ = some (.slice ((s.vols[k]!).kg.map fun g => ⟨g, 0, none⟩) (s.vols[k]!).kept.length kc) := hv.cell? 4
      have hb' : (s.lg.map fun b => (⟨b, 0, none⟩ : Addr)) = some ⟨b, 0, none⟩ := by rw [hb]; rfl
      rw [hb'] at c1
      have HT : Hid (s.vols.take (k + 1) = s.vols.take k ++ [s.vols[k]!]) := by show _ = _; rw [List.take_succ_eq_append_getElem hkl, getElem!_pos s.vols k hkl]
      have HDC : Hid (∀ i, i < (s.vols[k]!).data.length → wr.cell? ⟨(s.vols[k]!).dg, i, none⟩ = some (.string (s.vols[k]!).data[i]!)) := fun i hi => hdt.cell i hi
      have HBC : Hid (∀ i, i < (s.vols[k]!).blocks.length → wr.cell? ⟨(s.vols[k]!).bg, i, none⟩ = some (.int .i64 ((s.vols[k]!).blocks[i]! : Nat))) := fun i hi => hbl.cell i hi
      have HKC : Hid (∀ i, i < (s.vols[k]!).kept.length → ∃ g, (s.vols[k]!).kg = some g ∧ wr.cell? ⟨g, i, none⟩ = some (.int .i64 ((s.vols[k]!).kept[i]! : Nat))) := fun i hi => by
        cases hg : (s.vols[k]!).kg with
        | none => have := (hk1 hg).1; rw [this] at hi; simp at hi
        | some g => exact ⟨g, rfl, (hk2 g hg).cell i hi⟩
      have HD1 : Hid ((s.vols[k]!).of_ = ⟨#[]⟩ → (s.vols[k]!).blocks.length ≤ (s.vols[k]!).data.length) := hd1
      have HD2 : Hid ((s.vols[k]!).of_ ≠ ⟨#[]⟩ → ∀ x ∈ (s.vols[k]!).kept, x < (s.vols[k]!).data.length) := hd2
      have hds := hvv.data
      generalize s.vols[k]! = vv at *
      have l1 : (k : Int) < (s.vols.length : Int) := by omega
      clear h hv hp hm hb' hb hvv hdt hbl hk1 hk2 hd1 hd2 HRES
      go_wp2_with fail
      go_loop [7] (fun i => ∃ j : Nat, j ≤ vv.blocks.length ∧ i = .int .i64 j ∧ Hid (∀ k', k' < j → vv.pick n k' = none)) (fun i => vv.blocks.length - (intOf i).toNat)
      case atStart => exact ⟨0, Nat.zero_le _, rfl, by show ∀ k', _; intro k' hk'; omega⟩
      case round =>
        obtain ⟨j, hj, rfl, HJ⟩ := hrel
        by_cases hjl : j < vv.blocks.length
        · have cj := HBC.out j hjl
          have HPJ : Hid (∀ t, vv.pick n j = some t → res = t) := fun t ht => HV.out t (blk_first j hjl HJ.out ht)
          have HPE : Hid (vv.pick n j = if vv.blocks[j]! = n then (if vv.of_ = ⟨#[]⟩ then some vv.data[j]! else if j < vv.kept.length then some vv.data[vv.kept[j]!]! else none) else none) := rfl
          generalize vv.blocks[j]! = y at *
          have l2 : (j : Int) < (vv.blocks.length : Int) := by omega
          by_cases hy : y = n
          · subst hy
            by_cases hof : vv.of_ = ⟨#[]⟩
            · have cd := HDC.out j (by have := HD1.out hof; omega)
              have l3 : (j : Int) < (vv.data.length : Int) := by have := HD1.out hof; omega
              have HF : Hid (res = vv.data[j]!) := HPJ.out _ (by rw [HPE.out, if_pos rfl, if_pos hof])
              generalize vv.data[j]! = dt at *
              rw [hof] at e0
              go_wp2
              go_ret
              rw [HF.out]
              exact ⟨rfl, Same.refl _ _⟩
            · have hofb : vv.of_.toList.isEmpty = false := by
                have : vv.of_.toList ≠ [] := fun e => hof (by
                  rw [ByteArray.toList_eq] at e
                  apply ByteArray.ext
                  exact Array.toList_eq_nil_iff.1 e)
                cases hq : vv.of_.toList with
                | nil => exact absurd hq this
                | cons a r => rfl
              by_cases hkl2 : j < vv.kept.length
              · obtain ⟨g, hg, ck⟩ := HKC.out j hkl2
                rw [hg] at e4
                simp only [Option.map_some] at e4
                have hlt : vv.kept[j]! < vv.data.length := HD2.out hof _ (by rw [getElem!_pos vv.kept j hkl2]; exact List.getElem_mem hkl2)
                have cd := HDC.out _ hlt
                have l3 : (j : Int) < (vv.kept.length : Int) := by omega
                have HF : Hid (res = vv.data[vv.kept[j]!]!) := HPJ.out _ (by rw [HPE.out, if_pos rfl, if_neg hof, if_pos hkl2])
                generalize vv.kept[j]! = kj at *
                generalize vv.data[kj]! = dt at *
                have l4 : (kj : Int) < (vv.data.length : Int) := by omega
                go_wp2_with fail
                go_quiet (fail)
                go_wp2
                go_ret
                rw [HF.out]
                exact ⟨rfl, (Same.refl _ _).drewN _⟩
              · have l3 : (vv.kept.length : Int) ≤ (j : Int) := by omega
                have HF : Hid (vv.pick y j = none) := by show _ = _; rw [HPE.out, if_pos rfl, if_neg hof, if_neg hkl2]
                go_wp2
                go_round
                case rel => exact ⟨j + 1, by omega, by go_num, by
                  show ∀ k', _
                  intro k' hk'
                  rcases Nat.lt_or_ge k' j with h' | h'
                  · exact HJ.out k' h'
                  · have : k' = j := by omega
                    subst this; exact HF.out⟩
                case measure => simp [intOf]; omega
          · have hy' : ((y : Int) != (n : Int)) = true := by simp; omega
            have hy2 : ((y : Int) == (n : Int)) = false := beq_eq_false_iff_ne.2 (by omega)
            have HF : Hid (vv.pick n j = none) := by show _ = _; rw [HPE.out, if_neg hy]
            go_wp2
            go_round
            case rel => exact ⟨j + 1, by omega, by go_num, by
              show ∀ k', _
              intro k' hk'
              rcases Nat.lt_or_ge k' j with h' | h'
              · exact HJ.out k' h'
              · have : k' = j := by omega
                subst this; exact HF.out⟩
            case measure => simp [intOf]; omega
        · have ej : j = vv.blocks.length := by omega
          have HB : Hid (vv.blk n = none) := blk_none (fun k' hk' => HJ.out k' (by omega))
          clear HJ
          go_wp2_with fail
          go_roundw
          case rel => exact ⟨k + 1, by omega, by go_num, by first | rfl | trivial, by
            show ∀ v ∈ _, _
            rw [HT.out]
            intro v hv
            rcases List.mem_append.1 hv with hv | hv
            · exact HN.out v hv
            · simp at hv; subst hv; exact HB.out⟩
          case measure => simp [intOf]; omega
    · have ek : k = s.vols.length := by omega
      subst ek
      have HF : Hid (res = zero8) := HNO.out (fun v hv => HN.out v (by rw [List.take_length]; exact hv))
      clear HN h hp
      go_wp2
      go_ret
      rw [HF.out]
      exact ⟨rfl, Same.refl _ _⟩
theorem hid {p : Prop} (h : p) : Hid p := h
/-- An entry and its volume, in memory. -/
structure RRow where
  e : REnt
  eb : Nat
  vb : Nat
  bg : Nat
  bc : Nat
  kg : Option Nat
  kc : Nat
def RRow.cells (x : RRow) (of_ : ByteArray) (dv : Value) : List Value := [.string x.e.name, .string of_, dv, .slice (some ⟨x.bg, 0, none⟩) x.e.xs.length x.bc, .slice (x.kg.map fun g => ⟨g, 0, none⟩) x.e.kept.length x.kc, .bool x.e.lost]
def RRow.foot (x : RRow) : List Nat := x.eb :: x.vb :: x.bg :: x.kg.toList
end
section
open Go.RowKit Go.Sort
variable [DecidableEq Blk] [Inhabited Blk] [Inhabited Vol] [Inhabited RVol] [Inhabited RRow]
/-- What does not change. -/
structure RowFix (w : World) (x : RRow) : Prop where
  ent : At w x.eb 132 [.pointer (some ⟨x.vb, 0, none⟩), .int .i64 (x.e.size : Int), .int .i64 (orgI x.e.origin), .int .i64 (x.e.oat : Int)]
  bl : NumsAt w x.bg x.bc x.e.xs
  ke : (x.kg = none → x.e.kept = [] ∧ x.kc = 0) ∧ ∀ g, x.kg = some g → NumsAt w g x.kc x.e.kept
theorem RowFix.same {w w' : World} {x : RRow} (h : RowFix w x) {S : List Nat} (hs : Same S w w') (hn : ∀ q ∈ x.eb :: x.bg :: x.kg.toList, q ∉ S) : RowFix w' x :=
  ⟨hs.at h.ent (hn _ (by simp)), h.bl.same hs (hn _ (by simp)), h.ke.1, fun g hg => (h.ke.2 g hg).same hs (hn _ (by simp [hg]))⟩
/-- The entries, with their origins' names and what they hold so far. -/
structure Rows (w : World) (base : Nat) (xs : List RRow) (ofs : List ByteArray) (ds : List (Value × List ByteArray)) : Prop where
  fix : ∀ j, j < xs.length → RowFix w xs[j]!
  vol : ∀ j, j < xs.length → At w (xs[j]!).vb 162 ((xs[j]!).cells ofs[j]! (ds[j]!).1)
  dat : ∀ j, j < xs.length → w.ownsRow base 9 1 (ds[j]!).1 (ds[j]!).2.length ((ds[j]!).2.map Value.string)
  apart : ∀ j k, j < xs.length → k < xs.length → j ≠ k → ∀ g, (ds[j]!).1.ownBlock = some g → (ds[k]!).1.ownBlock ≠ some g
  nodup : (xs.flatMap RRow.foot).Nodup
  low : ∀ x ∈ xs, ∀ q ∈ x.foot, q < base
  lo : ofs.length = xs.length
  ld : ds.length = xs.length
theorem foot_apart {xs : List RRow} (h : (xs.flatMap RRow.foot).Nodup) {j k : Nat} (hj : j < xs.length) (hk : k < xs.length) (hne : j ≠ k) {q : Nat} (hq : q ∈ (xs[j]!).foot) : q ∉ (xs[k]!).foot := by
  intro hq2
  rw [getElem!_pos xs j hj] at hq
  rw [getElem!_pos xs k hk] at hq2
  have hp := (List.pairwise_flatMap.1 h).2
  have := List.pairwise_iff_getElem.1 hp
  rcases Nat.lt_or_gt_of_ne hne with h' | h'
  · exact (this j k hj hk h') q hq q hq2 rfl
  · exact (this k j hk hj h') q hq2 q hq rfl
theorem foot_nodup {xs : List RRow} (h : (xs.flatMap RRow.foot).Nodup) {j : Nat} (hj : j < xs.length) : (xs[j]!).foot.Nodup := by
  rw [getElem!_pos xs j hj]
  exact (List.pairwise_flatMap.1 h).1 _ (List.getElem_mem hj)
/-- One of them holds more. -/
theorem Rows.put {w w' : World} {base : Nat} {xs : List RRow} {ofs : List ByteArray} {ds : List (Value × List ByteArray)} (h : Rows w base xs ofs ds) (i : Nat) (hi : i < xs.length) (dv : Value) (dl : List ByteArray) {S : List Nat} (hS : Same S w w')
    (hs : ∀ q ∈ S, q = (xs[i]!).vb ∨ (ds[i]!).1.ownBlock = some q) (hv : At w' (xs[i]!).vb 162 ((xs[i]!).cells ofs[i]! dv)) (hd : w'.ownsRow base 9 1 dv dl.length (dl.map Value.string))
    (hl : dv.ownBlock = (ds[i]!).1.ownBlock ∨ ∃ g, dv.ownBlock = some g ∧ w.heap.size ≤ g) : Rows w' base xs ofs (ds.set i (dv, dl)) := by
  have hb : ∀ g, (ds[i]!).1.ownBlock = some g → base ≤ g := fun g hg => owns_row (h.dat i hi) g hg
  have low : ∀ j, j < xs.length → ∀ q ∈ (xs[j]!).foot, q < base := fun j hj q hq => h.low _ (by rw [getElem!_pos xs j hj]; exact List.getElem_mem hj) q hq
  have gs : (ds.set i (dv, dl))[i]! = (dv, dl) := by rw [getElem!_pos _ i (by rw [List.length_set, h.ld]; exact hi), List.getElem_set_self]
  have gn : ∀ j, j < xs.length → j ≠ i → (ds.set i (dv, dl))[j]! = ds[j]! := fun j hj hne => by
    rw [getElem!_pos _ j (by rw [List.length_set, h.ld]; exact hj), List.getElem_set_ne (fun e => hne e.symm), getElem!_pos ds j (by rw [h.ld]; exact hj)]
  refine ⟨fun j hj => (h.fix j hj).same hS fun q hq hqs => ?_, fun j hj => ?_, fun j hj => ?_, fun j k hj hk hne g hg => ?_, h.nodup, h.low, h.lo, by rw [List.length_set]; exact h.ld⟩
  · have hqf : q ∈ (xs[j]!).foot := by
      simp only [RRow.foot, List.mem_cons] at hq ⊢
      rcases hq with e | e | e
      · exact Or.inl e
      · exact Or.inr (Or.inr (Or.inl e))
      · exact Or.inr (Or.inr (Or.inr e))
    rcases hs q hqs with e | e
    · subst e
      by_cases hji : j = i
      · subst hji
        have := foot_nodup h.nodup hj
        simp only [RRow.foot, List.nodup_cons, List.mem_cons, not_or] at this
        simp only [List.mem_cons] at hq
        rcases hq with e | e | e
        · exact this.1.1 e.symm
        · exact this.2.1.1 e
        · exact this.2.1.2 e
      · exact foot_apart h.nodup hj hi hji hqf (by simp [RRow.foot])
    · have := hb q e
      have := low j hj q hqf
      omega
  · by_cases hji : j = i
    · subst hji; rw [gs]; exact hv
    · rw [gn j hj hji]
      refine hS.at (h.vol j hj) fun hq => ?_
      rcases hs _ hq with e | e
      · exact foot_apart h.nodup hj hi hji (q := (xs[j]!).vb) (by simp [RRow.foot]) (by rw [e]; simp [RRow.foot])
      · have := hb _ e
        have := low j hj (xs[j]!).vb (by simp [RRow.foot])
        omega
  · by_cases hji : j = i
    · subst hji; rw [gs]; exact hd
    · rw [gn j hj hji]
      refine owns_but (h.dat j hj) hS fun g hg hq => ?_
      rcases hs _ hq with e | e
      · have := owns_row (h.dat j hj) g hg
        have := low i hi (xs[i]!).vb (by simp [RRow.foot])
        omega
      · exact h.apart j i hj hi hji g hg e
  · by_cases hji : j = i
    · subst hji
      have hki : k ≠ j := fun e => hne e.symm
      rw [gs] at hg
      rw [gn k hk hki]
      rcases hl with e | ⟨g', e, hg'⟩
      · rw [e] at hg
        exact h.apart j k hj hk hne g hg
      · have hg : dv.ownBlock = some g := hg
        rw [e] at hg
        obtain rfl : g' = g := by simpa using hg
        intro e2
        have := ((h.dat k hk).lt g' e2).2
        omega
    · rw [gn j hj hji] at hg
      by_cases hki : k = i
      · subst hki
        rw [gs]
        rcases hl with e | ⟨g', e, hg'⟩
        · show dv.ownBlock ≠ some g
          rw [e]
          exact h.apart j k hj hk hne g hg
        · show dv.ownBlock ≠ some g
          rw [e]
          intro e2
          obtain rfl : g' = g := by simpa using e2
          have := ((h.dat j hj).lt g' hg).2
          omega
      · rw [gn k hk hki]
        exact h.apart j k hj hk hne g hg
theorem Rows.same {w w' : World} {base : Nat} {xs : List RRow} {ofs : List ByteArray} {ds : List (Value × List ByteArray)} (h : Rows w base xs ofs ds) {S : List Nat} (hS : Same S w w') (hn : ∀ q ∈ S, (∀ x ∈ xs, q ∉ x.foot) ∧ ∀ j, j < xs.length → (ds[j]!).1.ownBlock ≠ some q) : Rows w' base xs ofs ds := by
  have hm : ∀ j, j < xs.length → xs[j]! ∈ xs := fun j hj => by rw [getElem!_pos xs j hj]; exact List.getElem_mem hj
  refine ⟨fun j hj => (h.fix j hj).same hS fun q hq hqs => (hn q hqs).1 _ (hm j hj) ?_, fun j hj => hS.at (h.vol j hj) fun hq => (hn _ hq).1 _ (hm j hj) (by simp [RRow.foot]), fun j hj => owns_but (h.dat j hj) hS fun g hg hq => (hn g hq).2 j hj hg, h.apart, h.nodup, h.low, h.lo, h.ld⟩
  simp only [RRow.foot, List.mem_cons] at hq ⊢
  rcases hq with e | e | e
  · exact Or.inl e
  · exact Or.inr (Or.inr (Or.inl e))
  · exact Or.inr (Or.inr (Or.inr e))
/-- The list of the entries. -/
structure EntsAt (w : World) (a : Option Addr) (xs : List RRow) : Prop where
  ex : xs ≠ [] → ∃ lg cs, a = some ⟨lg, 0, none⟩ ∧ At w lg 127 cs ∧ cs.take xs.length = xs.map fun x => Value.pointer (some ⟨x.eb, 0, none⟩)
theorem EntsAt.cell {w : World} {a : Option Addr} {xs : List RRow} (h : EntsAt w a xs) (j : Nat) (hj : j < xs.length) : ∃ lg cs, a = some ⟨lg, 0, none⟩ ∧ At w lg 127 cs ∧ w.cell? ⟨lg, j, none⟩ = some (.pointer (some ⟨(xs[j]!).eb, 0, none⟩)) := by
  obtain ⟨lg, cs, h1, h2, h3⟩ := h.ex (fun e => by rw [e] at hj; simp at hj)
  refine ⟨lg, cs, h1, h2, ?_⟩
  have e : (cs.take xs.length)[j]? = cs[j]? := by rw [List.getElem?_take, if_pos hj]
  rw [h2.cell?, ← e, h3, List.getElem?_map, List.getElem?_eq_getElem hj, getElem!_pos xs j hj]
  rfl
end
section
open Go.RowKit Go.Sort
variable [DecidableEq Blk] [Inhabited Blk] [Inhabited Vol] [Inhabited RVol]
theorem text_beq (a b : ByteArray) : (a.toList == b.toList) = decide (a = b) := by
  rw [Bool.eq_iff_iff, beq_iff_eq, decide_eq_true_iff, ByteArray.toList_eq, ByteArray.toList_eq]
  constructor
  · intro e
    apply ByteArray.ext
    exact Array.toList_inj.1 e
  · intro e; rw [e]
/-- What nobody uses is 0: the blocks, held against what the Pool says of them. -/
def blocksX (B : List UInt8) (r : RSt) (at_ : Nat) (n : Nat) (bd : Option Nat) : Option Nat := (List.range n).foldl (fun b k => mustB b (decide (textAt B (at_ + 8 * k) 8 = r.blk k)) (at_ + 8 * k)) bd
theorem blocksX_succ (B : List UInt8) (r : RSt) (at_ : Nat) (n : Nat) (bd : Option Nat) : blocksX B r at_ (n + 1) bd = mustB (blocksX B r at_ n bd) (decide (textAt B (at_ + 8 * n) 8 = r.blk n)) (at_ + 8 * n) := by
  unfold blocksX; rw [List.range_succ, List.foldl_append]; rfl
set_option maxHeartbeats 1600000 in
set_option maxRecDepth 100000 in
theorem tied_blocks (u3 u4 u5 u6 u7 u8 u9 u10 u11 u12 u13 u14 u15 u16 u17 u18 u19 u20 u21 u22 u23 u24 u25 u26 u27 u28 u29 u30 u31 u32 u33 u34 u35 u36 u37 u38 u39 u40 u41 u42 u43 u44 u45 u46 u47 u48 u49 u50 u51 u52 u53 u54 u55 u56 u57 u58 u59 u60 u61 u62 u63 u64 u65 u66 u67 u68 u69 u70 u71 u72 u73 u74 u75 u76 u77 u78 u79 u80 u81 u82 u83 u84 u85 u86 u87 u88 u89 u90 u91 u92 u93 u94 u95 u96 u97 u98 u99 u100 u101 u102 u103 u104 u105 u106 u107 u108 u109 u110 u111 u112 u113 u114 u115 u116 u117 u118 u119 u120 u121 u122 u123 u124 u125 u126 u127 u128 u129 u130 u131 u132 u133 u134 u135 u136 u137 u138 u139 u140 u141 u142 u143 u144 u145 u146 u147 u148 u149 u150 u151 u152 u153 u154 u155 u156 u157 u158 u159 u160 u161 u162 u163 u164 u165 u166 u167 u168 u169 u170 u171 u172 u173 u174 u175 u176 u177 u178 u179 u180 u181 u182 u183 u184 u185 u186 u187 u188 u189 u190 u191 u192 u193 u194 u195 u196 u197 u198 u199 u200 u201 u202 u203 u204 u205 u206 u207 u208 u209 u210 u211 u212 u213 u214 u215 u216 u217 u218 u219 u220 u221 u222 u223 u224 u225 u226 u227 u228 u229 u230 u231 u232 u233 u234 u235 u236 u237 u238 u239 u240 u241 u242 u243 u244 u245 u246 u247 u248 u249 u250 u251 u252 u253 u254 u255 u256 u257 u258 u259 u260 u261 u262 u263 u264 u265 u266 u267 u268 u269 u270 u271 u272 u273 u274 u275 u276 u277 u278 u279 u280 u281 u282 u283 u284 u285 u286 u287 u288 u289 u290 u291 u292 u293 u294 u295 u296 u297 u298 u299 u300 u301 u302 u303 u304 u305 u306 u307 u308 u309 u310 u311 u312 u313 u314 u315 u316 u317 u318 u319 u320 u321 u322 u323 u324 u325 u326 u327 u328 u329 : Value) (w0 w W : World) (sb : Nat) (lv : Value) (B : List UInt8) (r : RSt) (a2 : Nat) (bd : Option Nat) (S : List Nat) (hl : B.length ≤ 140737488355328) (h : ScAt w0 W sb B (a2 + 8 * r.n) bd) (hle : a2 + 8 * r.n ≤ B.length) (hS : Same (sb :: S) w W) (hR : RefAt W r) (hsb : sb ∉ r.foot) (hd : ∀ v ∈ r.vols, (v.of_ = ⟨#[]⟩ → v.blocks.length ≤ v.data.length) ∧ (v.of_ ≠ ⟨#[]⟩ → ∀ x ∈ v.kept, x < v.data.length)) :
    Code.wp Try.prog (dropSeq 6 (Try.f79.body.getD .skip)) (bodyPost Try.prog Try.f79 fun e w' => e = .returned (.tuple #[]) ∧ ScAt w0 w' sb B (a2 + 8 * r.n) (mustB (blocksX B r a2 r.n bd) (decide (a2 + 8 * r.n = B.length)) (a2 + 8 * r.n)) ∧ Same (sb :: S) w w' ∧ RefAt w' r) { tmps := #[.pointer (some ⟨sb, 0, none⟩), lv, .pointer (some ⟨r.rb, 0, none⟩), u3, u4, u5, u6, u7, .int .i64 a2, .string (textAt B a2 (8 * r.n)), u10, u11, u12, u13, u14, u15, u16, u17, u18, u19, u20, u21, u22, u23, u24, u25, u26, u27, u28, u29, u30, u31, u32, u33, u34, u35, u36, u37, u38, u39, u40, u41, u42, u43, u44, u45, u46, u47, u48, u49, u50, u51, u52, u53, u54, u55, u56, u57, u58, u59, u60, u61, u62, u63, u64, u65, u66, u67, u68, u69, u70, u71, u72, u73, u74, u75, u76, u77, u78, u79, u80, u81, u82, u83, u84, u85, u86, u87, u88, u89, u90, u91, u92, u93, u94, u95, u96, u97, u98, u99, u100, u101, u102, u103, u104, u105, u106, u107, u108, u109, u110, u111, u112, u113, u114, u115, u116, u117, u118, u119, u120, u121, u122, u123, u124, u125, u126, u127, u128, u129, u130, u131, u132, u133, u134, u135, u136, u137, u138, u139, u140, u141, u142, u143, u144, u145, u146, u147, u148, u149, u150, u151, u152, u153, u154, u155, u156, u157, u158, u159, u160, u161, u162, u163, u164, u165, u166, u167, u168, u169, u170, u171, u172, u173, u174, u175, u176, u177, u178, u179, u180, u181, u182, u183, u184, u185, u186, u187, u188, u189, u190, u191, u192, u193, u194, u195, u196, u197, u198, u199, u200, u201, u202, u203, u204, u205, u206, u207, u208, u209, u210, u211, u212, u213, u214, u215, u216, u217, u218, u219, u220, u221, u222, u223, u224, u225, u226, u227, u228, u229, u230, u231, u232, u233, u234, u235, u236, u237, u238, u239, u240, u241, u242, u243, u244, u245, u246, u247, u248, u249, u250, u251, u252, u253, u254, u255, u256, u257, u258, u259, u260, u261, u262, u263, u264, u265, u266, u267, u268, u269, u270, u271, u272, u273, u274, u275, u276, u277, u278, u279, u280, u281, u282, u283, u284, u285, u286, u287, u288, u289, u290, u291, u292, u293, u294, u295, u296, u297, u298, u299, u300, u301, u302, u303, u304, u305, u306, u307, u308, u309, u310, u311, u312, u313, u314, u315, u316, u317, u318, u319, u320, u321, u322, u323, u324, u325, u326, u327, u328, u329], defers := [] } W := by
  generalize hC : dropSeq 6 (Try.f79.body.getD .skip) = C
  delta Try.f79 at hC
  dsimp only [dropSeq, Option.getD] at hC
  subst hC
  have hrn := hR.n
  have HI0 : Hid (ScAt w0 W sb B (a2 + 8 * r.n) bd ∧ RefAt W r ∧ Same (sb :: S) w W) := ⟨h, hR, hS⟩
  have htz : (textAt B a2 (8 * r.n)).size = 8 * r.n := by
    show ((B.drop a2).take (8 * r.n)).toArray.size = _
    rw [List.size_toArray, List.length_take, List.length_drop]; omega
  have HCUT : Hid (∀ k, k < r.n → (textAt B a2 (8 * r.n)).extract (8 * k) (8 * k + 8) = textAt B (a2 + 8 * k) 8) := fun k hk => by
    apply ByteArray.ext
    simp only [textAt, ByteArray.data_extract, List.extract_toArray, List.extract_eq_take_drop]
    rw [List.drop_take, List.take_take, List.drop_drop]
    congr 2
    omega
  generalize textAt B a2 (8 * r.n) = tx at *
  have HTZ : Hid (tx.size = 8 * r.n) := htz
  clear h hR hS htz
  go_wp2_with fail
  go_loopw [16] (fun i wr => ∃ k : Nat, k ≤ r.n ∧ i = .int .i64 k ∧ Hid (ScAt w0 wr sb B (a2 + 8 * r.n) (blocksX B r a2 k bd) ∧ RefAt wr r ∧ Same (sb :: S) w wr)) (fun i _ => r.n - (intOf i).toNat)
  case atStart => exact ⟨0, Nat.zero_le _, rfl, HI0.out⟩
  case round =>
    obtain ⟨k, hk, rfl, HK⟩ := hrel
    obtain ⟨cap, hp, _, _⟩ := HK.out.2.1.pool
    have c0 : wr.cell? ⟨r.rb, 0, none⟩ = some (.int .i64 (r.n : Int)) := hp.cell? 0
    clear hp
    by_cases hkl : k < r.n
    · have l1 : (k : Int) < (r.n : Int) := by omega
      have hB := refBlock_calls r k wr HK.out.2.1 hd
      have HSU : Hid (blocksX B r a2 (k + 1) bd = mustB (blocksX B r a2 k bd) (decide (textAt B (a2 + 8 * k) 8 = r.blk k)) (a2 + 8 * k)) := blocksX_succ B r a2 k bd
      have hcut := HCUT.out k hkl
      have m1 : IntKind.i64.wrap (8 * (k : Int)) = ((8 * k : Nat) : Int) := by rw [IntWalk.i64_in _ (by omega)]; omega
      have m2 : IntKind.i64.wrap (((8 * k : Nat) : Int) + 8) = ((8 * k + 8 : Nat) : Int) := by rw [IntWalk.i64_in _ (by omega)]; omega
      have m3 : IntKind.i64.wrap ((a2 : Int) + ((8 * k : Nat) : Int)) = ((a2 + 8 * k : Nat) : Int) := by rw [IntWalk.i64_in _ (by omega)]; omega
      have n1 : (0 : Int) ≤ 8 * (k : Int) := by omega
      have n2 : 8 * (k : Int) ≤ 8 * (k : Int) + 8 := by omega
      have n3 : (8 * (k : Int)).toNat = 8 * k := by omega
      have n4 : (8 * (k : Int) + 8).toNat = 8 * k + 8 := by omega
      have n5 : 8 * (k : Int) + 8 ≤ (tx.size : Int) := by have := HTZ.out; omega
      go_wp2_with fail
      refine hB.mono ?_
      rintro e w1 ⟨rfl, S1⟩
      generalize r.blk k = bk at *
      have HK1 : Hid (ScAt w0 w1 sb B (a2 + 8 * r.n) (blocksX B r a2 k bd) ∧ RefAt w1 r ∧ Same (sb :: S) w w1) := ⟨HK.out.1.next S1 (by simp) (by simp), HK.out.2.1.sameF S1 (by simp), HK.out.2.2.step S1 (by simp)⟩
      have hM := fun ok => rmust_calls w0 w1 sb B (a2 + 8 * r.n) (blocksX B r a2 k bd) ok (a2 + 8 * k) ((a2 + 8 * k : Nat) : Int) rfl HK1.out.1
      clear hB S1 HK c0
      go_wp2_with fail
      refine (hM _).mono ?_
      rintro e w2 ⟨rfl, A2, S2⟩
      have HF : Hid (ScAt w0 w2 sb B (a2 + 8 * r.n) (blocksX B r a2 (k + 1) bd) ∧ RefAt w2 r ∧ Same (sb :: S) w w2) := by
        refine ⟨?_, HK1.out.2.1.sameF S2 (fun q hq => by simp; intro e; subst e; exact hsb hq), HK1.out.2.2.step S2 (fun q hq _ => by simp at hq; simp [hq])⟩
        rw [HSU.out]
        exact A2.must_eq (text_beq _ _)
      clear A2 S2 hM HK1
      go_wp2
      go_roundw
      case rel => exact ⟨k + 1, by omega, by go_num, HF.out⟩
      case measure => simp [intOf]; omega
    · have l1 : (r.n : Int) ≤ (k : Int) := by omega
      have ek : k = r.n := by omega
      rw [ek] at HK
      have hsz : (⟨B.toArray⟩ : ByteArray).size = B.length := by simp [ByteArray.size]
      have d0 : wr.cell? ⟨sb, 0, none⟩ = some (.string ⟨B.toArray⟩) := HK.out.1.cell.cell? 0
      have d1 : wr.cell? ⟨sb, 1, none⟩ = some (.int .i64 ((a2 + 8 * r.n : Nat) : Int)) := HK.out.1.cell.cell? 1
      generalize hat : a2 + 8 * r.n = at_ at *
      have hM := fun ok => rmust_calls w0 wr.drew sb B at_ (blocksX B r a2 r.n bd) ok at_ (at_ : Int) rfl (HK.out.1.next ((Same.refl [] wr).drew) (by simp) (by simp))
      have HRD : Hid (∀ w', Same [sb] wr.drew w' → Same (sb :: S) w w' ∧ RefAt w' r) := fun w' hw => ⟨(HK.out.2.2.drew).step hw (fun k hk _ => by simp at hk; simp [hk]), (HK.out.2.1.sameF ((Same.refl [] wr).drew) (by simp)).sameF hw (fun q hq => by simp; intro e; subst e; exact hsb hq)⟩
      have HAT : Hid (a2 + 8 * r.n = at_) := hat
      clear ek hat
      go_wp2_with fail
      refine region_tail 15 (by kernel_rfl) (by kernel_rfl) ?_
      simp only [List.take_succ_cons, List.take_zero, List.drop_succ_cons, List.drop_zero]
      repeat still_step
      refine wpStill_nil ?_
      go_wp2_with fail
      refine (hM _).mono ?_
      rintro e w1 ⟨rfl, A1, S1⟩
      have HF : Hid (ScAt w0 w1 sb B at_ (mustB (blocksX B r a2 r.n bd) (decide (at_ = B.length)) at_) ∧ Same (sb :: S) w w1 ∧ RefAt w1 r) := ⟨A1.must_eq (by first | rfl | (rw [Bool.eq_iff_iff]; simp <;> omega)), HRD.out _ S1⟩
      clear A1 S1 hM HRD HK
      go_wp2
      go_end0
      exact ⟨rfl, by rw [HAT.out]; exact HF.out⟩
end
section
/-- What is asked behind the others: the last one. -/
def sinkPost (P : Program) (o : Oper) (Q : Exit → Act → World → Prop) : Exit → Act → World → Prop
  | .normal, a, w => o.wp P a w (fun a' w' => Q .normal a' w') Q
  | .exit i, a, w => Q (.exit i) a w
  | .goto l, a, w => Q (.goto l) a w
  | .ret, a, w => Q .ret a w
  | .panic c, a, w => Q (.panic c) a w
  | .outgrown, a, w => Q .outgrown a w
theorem wp_sink {P : Program} {o o' : Oper} {Q : Exit → Act → World → Prop} {a : Act} {w : World} {K : Act → World → Prop} (h : o.wp P a w K (sinkPost P o' Q)) : o.wp P a w K Q := by
  unfold Oper.wp at *
  generalize (execOp a.eval o).run P w = r at *
  cases r with
  | ok n w' =>
    cases n <;> simp only [Oper.upon] at h ⊢
    case enter f args => exact h.mono fun e w'' he => by cases e <;> exact he
    all_goals exact h
  | halt x w' => cases x <;> simp only [Oper.upon] at h ⊢ <;> exact h
/-- The last one waits for all, edges and guards look back. -/
def sinkOK (l : List Oper) (n : Nat) : Bool :=
  decide (l.length = n + 1) && Region.sinkB .any l.toArray n && (List.range (n + 1)).all fun i =>
    match l[i]? with
    | none => true
    | some o => o.after.all (fun e => decide (e.on < i)) && (match o.guard with | none => true | some (j, _) => decide (j < n) && decide (i < n))
end
section
variable {P : Program} {l : List Oper} {n : Nat} {o : Oper} {Q : Exit → Act → World → Prop}
theorem sink_getD (listed : Array Bool) (i : Nat) (d b : Bool) (h : i < listed.size) : (listed.push b).getD i d = listed.getD i d := by
  simp [Array.getElem?_push, Nat.ne_of_lt h]
theorem sink_last (listed : Array Bool) (d b : Bool) : (listed.push b).getD listed.size d = b := by
  simp [Array.getElem?_push]
theorem sink_set (listed : Array Bool) (i : Nat) (b c : Bool) (h : i < listed.size) : (listed.push b).setIfInBounds i c = (listed.setIfInBounds i c).push b := by
  apply Array.ext_getElem?
  intro j
  rw [Array.getElem?_setIfInBounds, Array.getElem?_push, Array.getElem?_push, Array.getElem?_setIfInBounds, Array.size_setIfInBounds, Array.size_push]
  by_cases hij : i = j
  · subst hij
    rw [if_pos rfl, if_pos rfl, if_pos (by omega), if_pos h, if_neg (by omega)]
  · rw [if_neg hij, if_neg hij]
theorem sink_take (hl : l.length = n + 1) (i : Nat) (hi : i < n) : (l.take n).toArray[i]? = l.toArray[i]? := by
  simp [List.getElem?_take, hi]
theorem sink_wanted (hl : l.length = n + 1) {o' : Oper} (hg : ∀ j b, o'.guard = some (j, b) → j < n) (t : Array Value) : Region.wanted o' (yielded (l.take n).toArray t) = Region.wanted o' (yielded l.toArray t) := by
  unfold Region.wanted
  cases h : o'.guard with
  | none => rfl
  | some p =>
    obtain ⟨j, b⟩ := p
    simp only
    unfold yielded
    rw [sink_take hl j (hg j b h)]
theorem wpAny_sink (hl : l.length = n + 1) (hs : Region.sinkB .any l.toArray n = true) (hd : ∀ i o', i ≤ n → l.toArray[i]? = some o' → ∀ e ∈ o'.after, e.on < i) (hg : ∀ i o' j b, i ≤ n → l.toArray[i]? = some o' → o'.guard = some (j, b) → j < n ∧ i < n) (ho : l.toArray[n]? = some o) :
    ∀ (f : Nat) (listed : Array Bool) (a : Act) (w : World), listed.size = n → HeadInv .any l.toArray n (listed.push false) → wpAny P .any (l.take n).toArray (sinkPost P o Q) f listed a w → wpAny P .any l.toArray Q (f + 1) (listed.push false) a w := by
  have hrd : ∀ (listed : Array Bool) i, listed.size = n → i < n → (i ∈ Region.ready .any l.toArray (listed.push false) ↔ i ∈ Region.ready .any (l.take n).toArray listed) := fun listed i hz hi => by
    rw [mem_ready, mem_ready, sink_getD _ _ _ _ (by omega), sink_take hl i hi]
    constructor
    · rintro ⟨h1, o', h2, h3⟩
      refine ⟨h1, o', h2, fun e he hb => ?_⟩
      have := h3 e he hb
      rwa [sink_getD _ _ _ _ (by have := hd i o' (by omega) h2 e he; omega)] at this
    · rintro ⟨h1, o', h2, h3⟩
      refine ⟨h1, o', h2, fun e he hb => ?_⟩
      rw [sink_getD _ _ _ _ (by have := hd i o' (by omega) h2 e he; omega)]
      exact h3 e he hb
  have hall : ∀ (listed : Array Bool), listed.size = n → Region.ready .any (l.take n).toArray listed = [] → ∀ i, i < n → listed.getD i false = true := fun listed hz hr i => by
    induction i using Nat.strongRecOn with
    | _ i ih =>
      intro hi
      cases hq : listed.getD i false with
      | true => rfl
      | false =>
        have hm : i ∈ Region.ready .any (l.take n).toArray listed := by
          rw [mem_ready, sink_take hl i hi]
          refine ⟨getD_in (by omega) hq, l[i]'(by omega), by simp, fun e he hb => ?_⟩
          have := hd i _ (by omega) (show l.toArray[i]? = some (l[i]'(by omega)) by simp) e he
          exact ih e.on this (by omega)
        rw [hr] at hm
        cases hm
  have hnr : ∀ (listed : Array Bool), listed.size = n → (∀ i, i < n → listed.getD i false = true) → n ∈ Region.ready .any l.toArray (listed.push false) := fun listed hz h => by
    rw [mem_ready]
    have e1 : (listed.push false).getD n true = false := by
      have := sink_last listed true false
      rwa [hz] at this
    refine ⟨e1, o, ho, fun e he _ => ?_⟩
    have := hd n o (Nat.le_refl _) ho e he
    rw [sink_getD _ _ _ _ (by omega)]
    exact h e.on this
  have hend : ∀ (listed : Array Bool), listed.size = n → (∀ i, i < n → listed.getD i false = true) → Region.ready .any l.toArray ((listed.push false).setIfInBounds n true) = [] := fun listed hz h => by
    rw [List.eq_nil_iff_forall_not_mem]
    intro j hj
    obtain ⟨h1, o', h2, _⟩ := mem_ready.1 hj
    have hjl : j < l.length := by
      have := (Array.getElem?_eq_some_iff.1 h2).1
      simpa using this
    by_cases e : j = n
    · subst e
      have hjs : j < (listed.push false).size := by rw [Array.size_push]; omega
      have h3 : ((listed.push false).setIfInBounds j true).getD j true = true := by
        rw [Array.getD_eq_getD_getElem?, Array.getElem?_setIfInBounds, if_pos rfl, if_pos hjs]; rfl
      rw [h3] at h1
      cases h1
    · rw [getD_set_ne true (fun e' => e e'.symm), sink_getD _ _ _ _ (by omega)] at h1
      have := h j (by omega)
      rw [getD_both h1] at this
      cases this
  have hlast : ∀ (f : Nat) (listed : Array Bool) (a : Act) (w : World), listed.size = n → (∀ i, i < n → listed.getD i false = true) → o.wp P a w (fun a' w' => Q .normal a' w') Q → wpOp P l.toArray Q n (wpAny P .any l.toArray Q f ((listed.push false).setIfInBounds n true)) a w := fun f listed a w hz h h' => by
    unfold wpOp
    simp only [ho]
    have hw' : Region.wanted o (yielded l.toArray a.tmps) = true := by
      unfold Region.wanted
      cases h : o.guard with
      | none => rfl
      | some p => have := (hg n o p.1 p.2 (Nat.le_refl _) ho h).2; omega
    rw [if_pos hw']
    refine Or.inl (Oper.wp_mono (fun a' w' hq => ?_) h')
    have he := hend listed hz h
    cases f with
    | zero => exact ⟨he, hq⟩
    | succ f => exact ⟨fun _ => hq, fun i hi => by rw [he] at hi; cases hi⟩
  intro f
  induction f with
  | zero =>
    intro listed a w hz inv h
    have ha := hall listed hz h.1
    have hn := hnr listed hz ha
    refine ⟨fun h0 => (by rw [h0] at hn; cases hn), fun i hi => ?_⟩
    by_cases e : i < n
    · have := (hrd listed i hz e).1 hi
      rw [h.1] at this; cases this
    · have hin : i = n := by
        obtain ⟨_, o', h2, _⟩ := mem_ready.1 hi
        have := (Array.getElem?_eq_some_iff.1 h2).1
        simp at this; omega
      subst hin
      exact hlast 0 listed a w hz ha h.2
  | succ f ih =>
    intro listed a w hz inv h
    refine ⟨fun h0 => ?_, fun i hi => ?_⟩
    · exfalso
      by_cases hr : Region.ready .any (l.take n).toArray listed = []
      · have hn := hnr listed hz (hall listed hz hr)
        rw [h0] at hn; cases hn
      · obtain ⟨j, hj⟩ := List.exists_mem_of_ne_nil _ hr
        have hjn : j < n := by
          obtain ⟨_, o', h2, _⟩ := mem_ready.1 hj
          have := (Array.getElem?_eq_some_iff.1 h2).1
          simp at this; omega
        have := (hrd listed j hz hjn).2 hj
        rw [h0] at this; cases this
    · by_cases e : i < n
      · have hi' := (hrd listed i hz e).1 hi
        have h1 := h.2 i hi'
        have hinv := inv.set hi e
        rw [sink_set _ _ _ _ (by omega)] at hinv ⊢
        have hz' : (listed.setIfInBounds i true).size = n := by simpa using hz
        have hoi : l.toArray[i]? = some (l[i]'(by omega)) := by simp
        unfold wpOp at h1 ⊢
        rw [sink_take hl i e] at h1
        simp only [hoi] at h1 ⊢
        rw [sink_wanted hl (fun j b hgj => (hg i _ j b (by omega) hoi hgj).1)] at h1
        by_cases hwt : Region.wanted (l[i]'(by omega)) (yielded l.toArray a.tmps) = true
        · rw [if_pos hwt] at h1 ⊢
          rcases h1 with h1 | ⟨h1, h2⟩
          · exact Or.inl (Oper.wp_mono (fun a' w' hq => ih _ a' w' hz' hinv hq) (wp_sink h1))
          · exact Or.inr ⟨h1, h2⟩
        · rw [if_neg hwt] at h1 ⊢
          exact ih _ _ _ hz' hinv h1
      · have hin : i = n := by
          obtain ⟨_, o', h2, _⟩ := mem_ready.1 hi
          have := (Array.getElem?_eq_some_iff.1 h2).1
          simp at this; omega
        subst hin
        have hc : Region.chainB .any l.toArray i = true := by
          unfold Region.chainB
          rw [List.all_eq_true]
          intro t ht
          have := List.mem_range.1 ht
          simp at this
          simp; left; omega
        have ha : ∀ j, j < i → listed.getD j false = true := fun j hj => by
          cases hq : listed.getD j false with
          | true => rfl
          | false =>
            exact absurd hi (tail_waits hs hc (by simp; omega) inv _ j rfl hj (by rw [sink_getD _ _ _ _ (by omega)]; exact getD_in (by omega) hq) i (Nat.le_refl _))
        have hr : Region.ready .any (l.take i).toArray listed = [] := by
          rw [List.eq_nil_iff_forall_not_mem]
          intro j hj
          obtain ⟨h1, o', h2, _⟩ := mem_ready.1 hj
          have hjl := (Array.getElem?_eq_some_iff.1 h2).1
          have := ha j (by simp at hjl; omega)
          rw [getD_both h1] at this
          cases this
        exact hlast (f + 1) listed a w hz ha (h.1 hr)
theorem take_op {l : List Oper} {i : Nat} {oi : Oper} {r : List Oper} (h : l.drop i = oi :: r) : l.toArray[i]? = some oi := by
  have e : (l.drop i)[0]? = l[i + 0]? := List.getElem?_drop
  rw [h] at e
  simpa using e.symm
theorem sinkPost_normal {P : Program} {o : Oper} {Q : Exit → Act → World → Prop} {a : Act} {w : World} (h : ∀ K : Act → World → Prop, Shut (∀ a w, Q .normal a w → K a w) → o.wp P a w K Q) : sinkPost P o Q .normal a w :=
  h _ (fun _ _ h => h)
/-- A read that yields under the condition is taken first. -/
theorem wpAnyH_takeL {md : Region.Mode} {S : World → Prop} {i : Nat} {oi : Oper} {r : List Oper} {v : Value} {fuel : Nat} {listed : Array Bool} {a : Act} {w : World} (hd : l.drop i = oi :: r)
    (hs : Region.noSelect l.toArray = true) (hf : Region.free md l.toArray listed i = true) (hr : (Region.ready md l.toArray listed).contains i = true)
    (hQ : ∀ c a w, Q (.panic c) (a.put oi.dst v) w → Q (.panic c) a w) (hw : Region.wanted oi (yielded l.toArray a.tmps) = true) (hy : ∀ w, S w → (execOp a.eval oi).run P w = .ok (.value v) w) (hS : S w)
    (h : wpAnyH P md l.toArray Q S fuel (listed.setIfInBounds i true) (a.put oi.dst v) w) : wpAnyH P md l.toArray Q S (fuel + 1) listed a w :=
  wpAnyH_take (take_op hd) hs hf hr hQ (Or.inl ⟨hw, hy⟩) hS h
/-- The one that comes up next. -/
theorem wpAnyH_oneL {md : Region.Mode} {S : World → Prop} {i : Nat} {oi : Oper} {r : List Oper} {fuel : Nat} {listed : Array Bool} {a : Act} {w : World} (hd : l.drop i = oi :: r) (hr : Region.ready md l.toArray listed = [i])
    (h : ∀ K' : Act → World → Prop, Shut (∀ a w, S w → (S w → wpAnyH P md l.toArray Q S fuel (listed.setIfInBounds i true) a w) → K' a w) → if Region.wanted oi (yielded l.toArray a.tmps) = true then Oper.wp P oi a w K' Q else K' (a.put oi.dst undef) w) : wpAnyH P md l.toArray Q S (fuel + 1) listed a w :=
  wpAnyH_ready hr (by simp) (AllReadyH.cons (take_op hd) h AllReadyH.nil)
/-- The region: the others under a condition that they keep; then the last, which need not keep it. -/
theorem wp_region_held_sink {S : World → Prop} {id : Nat} {a : Act} {w : World} (n : Nat) (hm : P.follows .mixedOrders = true) (hB : sinkOK l n = true) (ho : l.drop n = [o]) (hS : S w.drew)
    (h' : S w.drew → wpAnyH P .any (l.take n).toArray (sinkPost P o Q) S n (Array.replicate n false) a w.drew) : (Code.region id l.toArray true).wp P Q a w := by
  unfold sinkOK at hB
  simp only [Bool.and_eq_true, decide_eq_true_eq] at hB
  obtain ⟨⟨hl, hs⟩, hr⟩ := hB
  rw [List.all_eq_true] at hr
  have hd : ∀ i o', i ≤ n → l.toArray[i]? = some o' → (∀ e ∈ o'.after, e.on < i) ∧ ∀ j b, o'.guard = some (j, b) → j < n ∧ i < n := fun i o' hi hio => by
    have h1 := hr i (List.mem_range.2 (by omega))
    have h2 : l[i]? = some o' := by simpa using hio
    rw [h2] at h1
    simp only [Bool.and_eq_true] at h1
    refine ⟨fun e he => by have := Array.all_eq_true'.1 h1.1 e he; simpa using this, fun j b hg => ?_⟩
    have h3 := h1.2
    rw [hg] at h3
    simpa using h3
  refine wp_region_any hm ?_
  have hsz : (l.take n).toArray.size = n := by simp; omega
  have hsl : l.toArray.size = n + 1 := by simp; omega
  have hrep : Array.replicate l.toArray.size false = (Array.replicate n false).push false := by
    rw [hsl, Array.replicate_succ]
  rw [hrep, hsl]
  refine wpAny_sink (P := P) (Q := Q) hl hs (fun i o' hi h => (hd i o' hi h).1) (fun i o' j b hi h hg => (hd i o' hi h).2 j b hg) (by have := take_op ho; simpa using this) _ _ a _ (by simp) ?_ (wpAny_of_held _ _ _ _ (h' hS))
  rw [← hrep]
  exact ⟨by simp, fun j oj _ hl => (by rw [getD_replicate_false] at hl; cases hl), fun t _ ht => getD_in (by simpa using ht) (getD_replicate_false _ _)⟩
/-- What is not looked into. -/
structure Box (p : Prop) : Prop where
  out : p
theorem box_enter {P : Program} {ops : Array Oper} {w : World} {Q : Act → Prop} {a : Act} {o : Oper} {rest : List Oper}
    (h : ∀ K : Act → Prop, (∀ a, Box (wpStill P ops w Q rest a) → K a) → if Region.wanted o (yielded ops a.tmps) then o.still P a w K else K (a.put o.dst undef)) : wpStill P ops w Q (o :: rest) a :=
  wpStill_step fun K hK => h K fun a hb => hK a hb.out
theorem box_skip {P : Program} {ops : Array Oper} {w : World} {Q : Act → Prop} {a : Act} {o : Oper} {rest : List Oper} (h : Region.wanted o (yielded ops a.tmps) = false) (hr : Box (wpStill P ops w Q rest (a.put o.dst undef))) : Box (wpStill P ops w Q (o :: rest) a) := by
  refine ⟨?_⟩
  unfold wpStill
  rw [if_neg (by rw [h]; exact Bool.false_ne_true)]
  exact hr.out
theorem box_leave {P : Program} {ops : Array Oper} {w : World} {Q : Act → Prop} {a : Act} {o : Oper} {rest : List Oper}
    (h : ∀ K : Act → Prop, (∀ a, wpStill P ops w Q rest a → K a) → if Region.wanted o (yielded ops a.tmps) then o.still P a w K else K (a.put o.dst undef)) : Box (wpStill P ops w Q (o :: rest) a) := ⟨wpStill_step h⟩
end
end Go.Proofs.Ytpddgdjocffgdaa
