/- A Pool: Write, by contracts: what it leaves. -/
import Derived.Test.YtpddgdjocffgdaaPoolC
import Derived.Test.YtpddgdjocffgdaaPoolV
import Derived.Test.YtpddgdjocffgdaaPoolW
import Derived.Test.YtpddgdjocffgdaaPoolX
namespace Go.Proofs.Ytpddgdjocffgdaa
open Go.RowKit Go.Sort
set_option linter.unusedVariables false
set_option linter.unusedSimpArgs false
set_option linter.unusedSectionVars false
variable [DecidableEq Blk] [Inhabited Blk]
variable [Inhabited Vol]

/-- What a call leaves that changes nothing. -/
theorem After.still {w w' : World} {s : St} {fr : List Nat} (h : PoolAt w s) (hG : Good s fr) (hs : Same [] w w') : After w s w' s fr :=
  ⟨h.new hs, hG, hs.mono (by simp), fun k hk => Or.inl hk, rfl, rfl⟩

/-- A volume without pictures written. -/
theorem write_plain (s : St) (fr : List Nat) (t : ByteArray) (k : Nat) (b : Blk) (w : World) (h : PoolAt w s) (hG : Good s fr) (hi : s.has t = true) (ho : (s.vol t).org = none) (hp : s.picsOf (s.vol t).vb = []) (hk : k < (s.vol t).xs.length) :
    Calls Try.prog 27 #[.pointer (some ⟨s.pb, 0, none⟩), .string t, .int .i64 k, b.val] w fun e w' => e = .returned (.int .i64 0) ∧ After w s w' { s with bl := s.bl.set (s.vol t).xs[k]! b } fr := by
  have hmem := (St.has_mem hi).1
  have hl := ((h.vols _ hmem).plain ho).2
  have eo : s.orgOf (s.vol t) = s.vol t := (h.orgOf hmem).2.2.1 ho
  have hk' : k < s.size (s.vol t) := by unfold St.size; rw [eo]; exact hk
  have hn := holder_lt h hG hmem hk'
  have eh : s.holder (s.vol t) k = (s.vol t).xs[k]! := by unfold St.holder; rw [(h.vols _ hmem).kept_nil ho, eo]; simp
  by_cases hb : s.look (s.vol t) k = b
  · refine (write_same s t k b w h hi hl hk' hn hb).mono ?_
    rintro e w' ⟨he, hS⟩
    refine ⟨he, ?_⟩
    have e1 : s.bl.set (s.vol t).xs[k]! b = s.bl := by
      unfold St.look at hb
      rw [eh] at hb hn
      rw [← hb, getElem!_pos s.bl _ (by rw [h.disk.len]; exact hn)]
      simp
    rw [e1]
    exact After.still h hG hS
  · obtain ⟨iu, hiu, hu⟩ := mem_index hmem
    refine write_vol s t k b w _ h hi hl hk' hn hb ho fun W hW => ?_
    refine (writeVolume_calls s fr iu (s.vol t) k b W _ rfl (h.new hW) hG hiu hu ho hk).mono ?_
    rintro e w' ⟨he, s1, hK, hA, hs⟩
    have := hs hp
    subst this
    exact ⟨he, hA.old hW⟩

/-- A volume written. -/
theorem write_volume (s : St) (fr : List Nat) (t : ByteArray) (k : Nat) (b : Blk) (w : World) (h : PoolAt w s) (hG : Good s fr) (hi : s.has t = true) (ho : (s.vol t).org = none) (hk : k < (s.vol t).xs.length) (hb : s.look (s.vol t) k ≠ b) :
    Calls Try.prog 27 #[.pointer (some ⟨s.pb, 0, none⟩), .string t, .int .i64 k, b.val] w fun e w' => e = .returned (.int .i64 0) ∧ ∃ s1, Kept s s1 k (fun v => v.org = some (s.vol t).vb) ∧ After w s w' { s1 with bl := s1.bl.set (s.vol t).xs[k]! b } fr := by
  have hmem := (St.has_mem hi).1
  have hl := ((h.vols _ hmem).plain ho).2
  have eo : s.orgOf (s.vol t) = s.vol t := (h.orgOf hmem).2.2.1 ho
  have hk' : k < s.size (s.vol t) := by unfold St.size; rw [eo]; exact hk
  have hn := holder_lt h hG hmem hk'
  obtain ⟨iu, hiu, hu⟩ := mem_index hmem
  refine write_vol s t k b w _ h hi hl hk' hn hb ho fun W hW => ?_
  refine (writeVolume_calls s fr iu (s.vol t) k b W _ rfl (h.new hW) hG hiu hu ho hk).mono ?_
  rintro e w' ⟨he, s1, hK, hA, hs⟩
  exact ⟨he, s1, hK, hA.old hW⟩

/-- A picture written, at a place that it keeps. -/
theorem write_picture_kept (s : St) (fr : List Nat) (t : ByteArray) (k : Nat) (b : Blk) (w : World) (h : PoolAt w s) (hG : Good s fr) (hi : s.has t = true) (ho : (s.vol t).org ≠ none) (hl : (s.vol t).lost = false) (hk : k < s.size (s.vol t)) (hb : s.look (s.vol t) k ≠ b) (hkk : k ∈ (s.vol t).kept) :
    Calls Try.prog 27 #[.pointer (some ⟨s.pb, 0, none⟩), .string t, .int .i64 k, b.val] w fun e w' => e = .returned (.int .i64 0) ∧ After w s w' { s with bl := s.bl.set (s.vol t).xs[(s.vol t).kept.idxOf k]! b } fr := by
  have hmem := (St.has_mem hi).1
  refine write_pic s t k b w _ h hi hl hk (holder_lt h hG hmem hk) hb ho fun W hW => ?_
  refine (writePicture_kept s fr (s.vol t) k b W (h.new hW) hG hmem hkk).mono ?_
  rintro e w' ⟨he, hA⟩
  exact ⟨0, he, rfl, hA.old hW⟩
/-- A picture written, at a place that it does not keep yet. -/
theorem write_picture_more (s : St) (fr : List Nat) (t : ByteArray) (k : Nat) (b : Blk) (w : World) (h : PoolAt w s) (hG : Good s fr) (hi : s.has t = true) (ho : (s.vol t).org ≠ none) (hl : (s.vol t).lost = false) (hk : k < s.size (s.vol t)) (hb : s.look (s.vol t) k ≠ b) (hkk : k ∉ (s.vol t).kept) (hf : (s.vol t).kept.length < (s.vol t).xs.length) :
    Calls Try.prog 27 #[.pointer (some ⟨s.pb, 0, none⟩), .string t, .int .i64 k, b.val] w fun e w' => e = .returned (.int .i64 0) ∧ ∃ i g, i < s.vols.length ∧ s.vols[i]! = s.vol t ∧ After w s w' { s with bl := s.bl.set (s.vol t).xs[(s.vol t).kept.length]! b, vols := setVol i ((s.vol t).keeping g k) s.vols } fr := by
  have hmem := (St.has_mem hi).1
  obtain ⟨i, hii, hv⟩ := mem_index hmem
  refine write_pic s t k b w _ h hi hl hk (holder_lt h hG hmem hk) hb ho fun W hW => ?_
  refine writePicture_keep s (s.vol t) k b W _ (h.new hW) hmem hkk fun W2 hW2 => ?_
  refine (keep_more s fr i (s.vol t) k b W2 _ rfl ((h.new hW).new hW2) hG hii hv ho hl hf hkk hk).mono ?_
  rintro e w' ⟨he, g, hA⟩
  refine ⟨0, he, 0, rfl, rfl, i, g, hii, hv, (hA.old hW2).old hW⟩
/-- A picture written that has no room. -/
theorem write_picture_lost (s : St) (fr : List Nat) (t : ByteArray) (k : Nat) (b : Blk) (w : World) (h : PoolAt w s) (hG : Good s fr) (hi : s.has t = true) (ho : (s.vol t).org ≠ none) (hl : (s.vol t).lost = false) (hk : k < s.size (s.vol t)) (hb : s.look (s.vol t) k ≠ b) (hkk : k ∉ (s.vol t).kept) (hf : (s.vol t).kept.length = (s.vol t).xs.length) :
    Calls Try.prog 27 #[.pointer (some ⟨s.pb, 0, none⟩), .string t, .int .i64 k, b.val] w fun e w' => e = .returned (.int .i64 10) ∧ ∃ i, i < s.vols.length ∧ s.vols[i]! = s.vol t ∧ After w s w' { s with bl := giveB (s.vol t).xs s.bl, vols := setVol i (s.vol t).losing s.vols } fr := by
  have hmem := (St.has_mem hi).1
  obtain ⟨i, hii, hv⟩ := mem_index hmem
  refine write_pic s t k b w _ h hi hl hk (holder_lt h hG hmem hk) hb ho fun W hW => ?_
  refine writePicture_keep s (s.vol t) k b W _ (h.new hW) hmem hkk fun W2 hW2 => ?_
  refine (keep_lost s fr i (s.vol t) k b W2 _ rfl ((h.new hW).new hW2) hG hii hv ho hf).mono ?_
  rintro e w' ⟨he, hA⟩
  refine ⟨10, he, 10, rfl, rfl, i, hii, hv, (hA.old hW2).old hW⟩
end Go.Proofs.Ytpddgdjocffgdaa
