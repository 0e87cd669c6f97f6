/- The law's 'loaded': both read the same bytes: the same error and place, or two Pools that hold the same. The law's own: bytes, and their sum. The law Loads, by a contract. -/
import Derived.Test.YtpddgdjocffgdaaG31
import Derived.Test.YtpddgdjocffgdaaG34
import Derived.Test.YtpddgdjocffgdaaG15
import Derived.Test.YtpddgdjocffgdaaG22
import Derived.Test.YtpddgdjocffgdaaG05
import Derived.ArgAppend
import Derived.Laws.IdiomStrings
namespace Go.Proofs.Ytpddgdjocffgdaa
set_option linter.unusedVariables false
set_option linter.unusedSimpArgs false
set_option linter.unusedSectionVars false
section
open Go.RowKit Go.Sort
variable [DecidableEq Blk] [Inhabited Blk] [Inhabited Vol] [Inhabited PEnt] [Inhabited RVol] [Inhabited RRow]
/-- Both have a Pool: what they hold, where they lie, and what its image is. -/
structure BothLoaded (w w' : World) (I : List UInt8) (bb : Nat) : Prop where
  ex : ∃ s fr r, BothAt w' bb s fr r ∧ imgB s = I ∧ Imaged s w' ∧ ∀ k ∈ bb :: (s.foot ++ r.foot), w.heap.size ≤ k
  same : Same [] w w'
inductive LoadedPost (w : World) (I : List UInt8) (e : Ending) (w' : World) : Prop where
  | no (h : e = .returned (.tuple #[.pointer none, .bool true])) (same : Same [] w w') : LoadedPost w I e w'
  | ok (bb : Nat) (h : e = .returned (.tuple #[.pointer (some ⟨bb, 0, none⟩), .bool true])) (ok : BothLoaded w w' I bb) : LoadedPost w I e w'
set_option maxHeartbeats 1000000 in
set_option maxRecDepth 100000 in
theorem loaded_no (w : World) (b off : Nat) (I : List UInt8) (cap : Nat) (c z : Int) (hc0 : 0 ≤ c) (hc : c ≤ 13) (hcell : ∀ i, i < I.length → w.cell? ⟨b, off + i, none⟩ = some (byteV I[i]!))
    (h1 : Calls Try.prog 33 #[.slice (some ⟨b, off, none⟩) I.length cap] w fun e w' => e = .returned (.tuple #[.pointer none, .int .i64 c, .int .i64 z]) ∧ Same [] w w')
    (h2 : ∀ W, Calls Try.prog 34 #[.string ⟨I.toArray⟩] W fun e w' => e = .returned (.tuple #[.pointer none, .int .i64 c, .int .i64 z]) ∧ Same [] W w') :
    Calls Try.prog 10 #[.slice (some ⟨b, off, none⟩) I.length cap] w fun e w' => e = .returned (.tuple #[.pointer none, .bool true]) ∧ Same [] w w' := by
  have hcv := text_conv w b off I.length I rfl hcell cap
  have hnum := fun W => num_int c W hc0 hc
  generalize (⟨I.toArray⟩ : ByteArray) = t at *
  clear hcell
  go_enter Try.func10, Try.ntmps10
  go_wp2_with (first | (go_at_call 33; refine h1.mono ?_; rintro e w1 ⟨rfl, S1⟩; dsimp only) | (go_at_call 34; refine (h2 _).mono ?_; rintro e w2 ⟨rfl, S2⟩; dsimp only) | (go_at_call 35; refine (hnum _).mono ?_; rintro e w3 ⟨rfl, hw⟩; obtain rfl := hw.symm; dsimp only))
  go_ret2
  exact ⟨rfl, S1.step S2 (by simp)⟩
set_option maxHeartbeats 1000000 in
set_option maxRecDepth 100000 in
theorem loaded_yes (w : World) (b off : Nat) (I : List UInt8) (cap : Nat) (P1 : Nat → World → Prop) (P2 : World → Nat → World → Prop) (hcell : ∀ i, i < I.length → w.cell? ⟨b, off + i, none⟩ = some (byteV I[i]!))
    (h1 : Calls Try.prog 33 #[.slice (some ⟨b, off, none⟩) I.length cap] w fun e w' => ∃ pb, e = .returned (.tuple #[.pointer (some ⟨pb, 0, none⟩), .int .i64 0, .int .i64 0]) ∧ P1 pb w')
    (h2 : ∀ W, Calls Try.prog 34 #[.string ⟨I.toArray⟩] W fun e w' => ∃ rb, e = .returned (.tuple #[.pointer (some ⟨rb, 0, none⟩), .int .i64 0, .int .i64 0]) ∧ P2 W rb w') :
    Calls Try.prog 10 #[.slice (some ⟨b, off, none⟩) I.length cap] w fun e w' => ∃ pb rb w1 w2, e = .returned (.tuple #[.pointer (some ⟨w2.heap.size, 0, none⟩), .bool true]) ∧ Hid (P1 pb w1) ∧ Hid (P2 w1 rb w2) ∧ w' = w2.alloc (.cells #[.pointer (some ⟨pb, 0, none⟩), .pointer (some ⟨rb, 0, none⟩)] 30) := by
  have hcv := text_conv w b off I.length I rfl hcell cap
  have hnum := fun W => num_int 0 W (by omega) (by omega)
  generalize (⟨I.toArray⟩ : ByteArray) = t at *
  clear hcell
  go_enter Try.func10, Try.ntmps10
  go_wp2_with (go_at_call 33; refine h1.mono ?_; rintro e w1 ⟨pb, rfl, hP1⟩; dsimp only)
  have HP1 := hid hP1
  clear hP1 h1
  go_wp2_with (go_at_call 34; refine (h2 _).mono ?_; rintro e w2 ⟨rb, rfl, hP2⟩; dsimp only)
  have HP2 := hid hP2
  clear hP2 h2
  go_wp2_with (go_at_call 35; refine (hnum _).mono ?_; rintro e w3 ⟨rfl, hw⟩; obtain rfl := hw.symm; dsimp only)
  go_ret2
  exact ⟨pb, rb, w1, w2, rfl, HP1, HP2, rfl⟩
theorem end_bytes (I : List UInt8) (h2 : 2 ≤ I.length) (hs : endN I = sumB (aheadB I)) : I = aheadB I ++ two (sumB (aheadB I)) := by
  obtain ⟨m, hm⟩ : ∃ m, I.length = m + 2 := ⟨I.length - 2, by omega⟩
  have hab : aheadB I = I.take m := by unfold aheadB; rw [hm, Nat.add_sub_cancel]
  have hlen2 : (I.drop m).length = 2 := by rw [List.length_drop]; omega
  obtain ⟨x, y, hxy⟩ : ∃ x y, I.drop m = [x, y] := by
    match hq : I.drop m, hlen2 with
    | [x, y], _ => exact ⟨x, y, rfl⟩
  have hend : endN I = valB [x, y] := by
    unfold endN numAt
    rw [hm, Nat.add_sub_cancel, hxy]
    rfl
  have hlt : sumB (aheadB I) < 65536 := by have := sumB_lt (aheadB I); omega
  have := (end_two x y _ hlt).2 (by rw [← hend]; exact hs)
  rw [← this, hab, ← hxy, List.take_append_drop]
theorem loaded_new {w w' : World} {B : List UInt8} {n at_ : Nat} {pv : List (PEnt × Vol)} {pb db bb fb jg : Nat} {d : Array Int} (hraw : PoolRaw w w' B n at_ pv pb db bb fb jg d) : ∀ k ∈ (ldSt pv pb db bb fb jg n B at_ d).foot, w.heap.size ≤ k := by
  intro k hk
  have hk' : k ∈ pb :: db :: bb :: fb :: ((some jg).toList ++ (pv.map (joinV pv)).flatMap Vol.foot) := hk
  rw [joinV_feet] at hk'
  obtain ⟨o1, o2, o3, o4, o5, o6, o7⟩ := hraw.ord
  simp only [List.mem_cons, List.mem_append, Option.toList_some, List.not_mem_nil, or_false] at hk'
  rcases hk' with rfl | rfl | rfl | rfl | rfl | hk'
  · omega
  · omega
  · omega
  · omega
  · omega
  · obtain ⟨x, hx, hk⟩ := List.mem_flatMap.1 hk'
    exact (hraw.new x hx k hk).1
theorem blks8_get' {w w' : World} {B : List UInt8} {n at_ : Nat} {pv : List (PEnt × Vol)} {pb db bb fb jg : Nat} {d : Array Int} (hraw : PoolRaw w w' B n at_ pv pb db bb fb jg d) (x : Nat) (hx : x < n) : (ldSt pv pb db bb fb jg n B at_ d).bl[x]! = blk8 B (at_ + x * 8) := blks8_get B at_ n x hx
theorem blk8_fits (B : List UInt8) (i : Nat) : (blk8 B i).fits := fun n hn => blk8_ok B i n hn
theorem loaded_calls (w : World) (b off : Nat) (I : List UInt8) (cap : Nat) (h : BytesOld w (some ⟨b, off, none⟩) I) (hcell : ∀ i, i < I.length → w.cell? ⟨b, off + i, none⟩ = some (byteV I[i]!)) (hcap : I.length ≤ cap) :
    Calls Try.prog 10 #[.slice (some ⟨b, off, none⟩) I.length cap] w (LoadedPost w I) := by
  have hL := load_calls w (some ⟨b, off, none⟩) I cap h hcap
  have hR := fun W => refLoad_calls W ⟨I.toArray⟩ (by have := h.len; simpa [ByteArray.size] using this)
  have hI : (⟨I.toArray⟩ : ByteArray).data.toList = I := rfl
  rw [hI] at hR
  by_cases hs : 2 ≤ I.length ∧ endN I = sumB (aheadB I)
  · cases hp : rpool (aheadB I) with
    | error q =>
      refine (loaded_no w b off I cap 12 q (by omega) (by omega) hcell (hL.mono fun e w' hh => ?_) (fun W => (hR W).mono fun e w' hh => ?_)).mono fun e w' hh => .no hh.1 hh.2
      · unfold LoadPost at hh
        rw [if_pos hs, hp] at hh
        exact hh
      · unfold RLoadPost ROk at hh
        rw [if_pos hs, hp] at hh
        exact hh
    | ok pr =>
      obtain ⟨n, ps, at2⟩ := pr
      refine (loaded_yes w b off I cap (fun pb w' => ∃ pv db bb fb jg d, pv.map (·.1) = ps ∧ PoolRaw w w' (aheadB I) n at2 pv pb db bb fb jg d) (fun W rb w' => ∃ r xs, r.rb = rb ∧ AllOk (aheadB I) n at2 xs ps ∧ TiedOk W w' (aheadB I) at2 n xs r.rb r ∧ Same [] W w') hcell (hL.mono fun e w' hh => ?_) (fun W => (hR W).mono fun e w' hh => ?_)).mono fun e w' hh => ?_
      · unfold LoadPost at hh
        rw [if_pos hs, hp] at hh
        obtain ⟨pv, pb, db, bb, fb, jg, d, h1, h2, h3⟩ := hh
        exact ⟨pb, h1, pv, db, bb, fb, jg, d, h2, h3⟩
      · unfold RLoadPost ROk at hh
        rw [if_pos hs, hp] at hh
        obtain ⟨r, xs, h1, h2, h3, h4⟩ := hh
        exact ⟨r.rb, h1, r, xs, rfl, h2, h3, h4⟩
      · obtain ⟨pb, rb, w1, w2, rfl, hP1, hP2, rfl⟩ := hh
        obtain ⟨pv, db, b2, fb, jg, d, hps, hraw⟩ := hP1.out
        obtain ⟨r, xs, rfl, hA, hT, hS2⟩ := hP2.out
        have hr : RpoolOk (aheadB I) n (pv.map (·.1)) at2 := rpool_ok (by rw [hps]; exact hp)
        have hpool := loaded_pool hraw hr
        have hgood := loaded_good hraw hr
        have hspare := loaded_spare hraw hr
        have hrel := loaded_rel hraw hps hp hA hT
        have hbody := loaded_body hraw (by rw [hps]; exact hp)
        have S3 : Same [] w2 (w2.alloc (.cells #[.pointer (some ⟨pb, 0, none⟩), .pointer (some ⟨r.rb, 0, none⟩)] 30)) := (Same.refl _ _).alloc _
        have hsame : Same [] w (w2.alloc (.cells #[.pointer (some ⟨pb, 0, none⟩), .pointer (some ⟨r.rb, 0, none⟩)] 30)) := (hraw.same.step hS2 (by simp)).step S3 (by simp)
        have hpl := hpool.foot_lt
        have z1 := hraw.same.size
        have z2 := hS2.size
        have hrl := hT.ref.foot_lt
        have hnew : ∀ k ∈ (ldSt pv pb db b2 fb jg n (aheadB I) at2 d).foot, w.heap.size ≤ k := loaded_new hraw
        refine .ok _ rfl ⟨⟨ldSt pv pb db b2 fb jg n (aheadB I) at2 d, _, r, ⟨At.new w2 _ _, ⟨(hpool.new hS2).new S3, hgood, hspare, hT.ref.same0 S3, hT.nodup, hrel, fun k hk hm => ?_⟩, fun hm => ?_⟩, ?_, imaged_of ((hpool.new hS2).new S3) hgood hr.cnt.1 (fun x hx => by rw [blks8_get' hraw x hx]; exact blk8_fits _ _), fun k hk => ?_⟩, hsame⟩
        · have h1 := hpl k hk
          have h2 := hT.new k hm
          omega
        · rcases List.mem_append.1 hm with hm | hm
          · have := hpl _ hm; omega
          · have := hrl _ hm; omega
        · unfold imgB
          rw [hbody]
          exact (end_bytes I hs.1 hs.2).symm
        · rcases List.mem_cons.1 hk with rfl | hk
          · omega
          · rcases List.mem_append.1 hk with hk | hk
            · exact hnew k hk
            · have := hT.new k hk; omega
  · refine (loaded_no w b off I cap 11 0 (by omega) (by omega) hcell (hL.mono fun e w' hh => ?_) (fun W => (hR W).mono fun e w' hh => ?_)).mono fun e w' hh => .no hh.1 hh.2
    · unfold LoadPost at hh
      rw [if_neg hs] at hh
      exact hh
    · unfold RLoadPost at hh
      rw [if_neg hs] at hh
      exact hh
end
section
open Go.RowKit Go.Sort
variable [DecidableEq Blk] [Inhabited Blk] [Inhabited Vol] [Inhabited RVol]
/-- A block with a mark behind its end. -/
def AtR (w : World) (b : Nat) (t : TypeId) (cs : List Value) (r : Nat × Nat) : Prop := w.heap[b]? = some (.cells cs.toArray t r)
theorem AtR.lt {w : World} {b : Nat} {t : TypeId} {cs : List Value} {r : Nat × Nat} (h : AtR w b t cs r) : b < w.heap.size := by
  unfold AtR at h
  rcases Nat.lt_or_ge b w.heap.size with h' | h'
  · exact h'
  · rw [Array.getElem?_eq_none h'] at h; cases h
theorem AtR.cell? {w : World} {b : Nat} {t : TypeId} {cs : List Value} {r : Nat × Nat} (h : AtR w b t cs r) (i : Nat) : w.cell? ⟨b, i, none⟩ = cs[i]? := by
  unfold AtR at h
  simp [World.cell?, h]
theorem AtR.frozen {w : World} {b : Nat} {t : TypeId} {cs : List Value} {r : Nat × Nat} (h : AtR w b t cs r) (i : Nat) (hi : i < r.1) : w.frozen? ⟨b, i, none⟩ = false := by
  unfold AtR at h
  simp [World.frozen?, h]
  omega
theorem AtR.alloc {w : World} {b : Nat} {t : TypeId} {cs : List Value} {r : Nat × Nat} (h : AtR w b t cs r) (o : Obj) : AtR (w.alloc o) b t cs r := by
  have := Below.heap_alloc w o b h.lt
  unfold AtR at *; rw [this]; exact h
theorem AtR.set_same {w : World} {b : Nat} {t : TypeId} {cs : List Value} {r : Nat × Nat} (h : AtR w b t cs r) (i : Nat) (v : Value) : AtR (w.setCell ⟨b, i, none⟩ v) b t (cs.set i v) r := by
  unfold AtR at *
  simp [World.setCell, Array.getElem?_modify, h]
/-- []byte(t): a new row. -/
theorem bytes_of (w : World) (t : ByteArray) : ∃ C W1 cs, Sem.run Try.prog (convert 9 25 (.string t)) w = .ok (.slice (some ⟨w.heap.size, 0, none⟩) t.size C) W1 ∧ t.size ≤ C ∧ AtR W1 w.heap.size 5 cs (C, C + 1) ∧ cs.length = C ∧ cs.take t.size = t.data.toList.map byteV ∧ Same [] w W1 ∧ W1.heap.size = w.heap.size + 1 := by
  have hsz : (bytesRow t (grownCap w t.size 0 5)).size = grownCap w t.size 0 5 := by
    have := grownCap_ge w t.size 0 5
    have e : t.data.size = t.size := rfl
    simp [bytesRow]
    omega
  refine ⟨_, _, (bytesRow t (grownCap w t.size 0 5)).toList, run_bytes_of_string w 9 25 5 t Try.underlying9 Try.underlying25 Try.underlying5, grownCap_ge _ _ _ _, ?_, ?_, ?_, ((Same.refl _ _).drew).alloc _, ?_⟩
  · unfold AtR
    rw [hsz]
    show (w.heap.push _)[w.heap.size]? = _
    simp
  · rw [Array.length_toList]; exact hsz
  · have e : t.size = (t.data.toList.map byteV).length := by rw [List.length_map, Array.length_toList]; rfl
    unfold bytesRow
    rw [Array.toList_append, Array.toList_map, e, List.take_append_of_le_length (by rw [List.length_map]; simp)]
    rw [← e]
    have e2 : t.size = (t.data.toList.map (fun b : UInt8 => Value.int .u8 (b.toNat : Int))).length := by rw [List.length_map, Array.length_toList]; rfl
    rw [e2, List.take_length]
    rfl
  · show (w.heap.push _).size = _
    simp
theorem sealed_cell {t : ByteArray} {cs : List Value} {C m i : Nat} (hs : t.size = t.data.toList.length) (hcl : cs.length = C) (hct : cs.take t.size = t.data.toList.map byteV) (hC : t.size + 2 ≤ C) (hm : m < 65536) (hi : i < (t.data.toList ++ two m).length) :
    ((cs.set t.size (.int .u8 ((m : Int) / 256))).set (t.size + 1) (.int .u8 ((m : Int) % 256)))[i]? = some (byteV (t.data.toList ++ two m)[i]!) := by
  rw [List.length_append, two_length, ← hs] at hi
  by_cases h1 : i < t.size
  · rw [List.getElem?_set_ne (by omega), List.getElem?_set_ne (by omega)]
    have : (cs.take t.size)[i]? = cs[i]? := by rw [List.getElem?_take, if_pos h1]
    rw [← this, hct, List.getElem?_map, List.getElem?_eq_getElem (by omega), getElem!_pos _ i (by rw [List.length_append, two_length]; omega), List.getElem_append_left (by omega)]
    rfl
  · by_cases h2 : i = t.size
    · subst h2
      rw [List.getElem?_set_ne (by omega), List.getElem?_set_self (by omega), getElem!_pos _ _ (by rw [List.length_append, two_length]; omega), List.getElem_append_right (by omega)]
      simp only [hs, Nat.sub_self]
      unfold two byteV
      simp
      omega
    · have h3 : i = t.size + 1 := by omega
      subst h3
      rw [List.getElem?_set_self (by rw [List.length_set]; omega), getElem!_pos _ _ (by rw [List.length_append, two_length]; omega), List.getElem_append_right (by omega)]
      simp only [hs, Nat.add_sub_cancel_left]
      unfold two byteV
      simp
set_option maxHeartbeats 800000 in
set_option maxRecDepth 100000 in
theorem sealed_calls (w : World) (t : ByteArray) (hl : t.size ≤ 140737488355000) :
    Calls Try.prog 11 #[.string t] w fun e w' => ∃ a cap, e = .returned (.slice a (t.size + 2) cap) ∧ t.size + 2 ≤ cap ∧ BytesOld w' a (t.data.toList ++ two (sumB t.data.toList)) ∧ Same [] w w' := by
  have HSZ : Hid (t.size = t.data.toList.length) := by show _ = _; rw [Array.length_toList]; rfl
  go_enter Try.func11, Try.ntmps11
  go_wp2
  go_loopw [3, 4] (fun n i wr => ∃ k : Nat, k ≤ t.size ∧ i = .int .i64 k ∧ n = .int .i64 (sumB (t.data.toList.take k) : Nat) ∧ wr = w) (fun _ i _ => t.size - (intOf i).toNat)
  case atStart => exact ⟨0, Nat.zero_le _, rfl, rfl, rfl⟩
  case round =>
    obtain ⟨k, hk, rfl, rfl, rfl⟩ := hrel
    by_cases hkl : k < t.size
    · have HS : Hid (sumB (t.data.toList.take (k + 1)) = (sumB (t.data.toList.take k) * 31 + t[k].toNat) % 65521) := by show _ = _; rw [take_snoc t k hkl, sumB_snoc]
      have hlt := sumB_lt (t.data.toList.take k)
      have hbt : t[k].toNat < 256 := t[k].toNat_lt
      generalize sumB (t.data.toList.take k) = m at *
      have l1 : (k : Int) < (t.size : Int) := by omega
      have hw1 : IntKind.i64.wrap (31 * (m : Int)) = 31 * (m : Int) := IntWalk.i64_in _ (by omega)
      have hw2 : IntKind.i64.wrap (31 * (m : Int) + (t[k].toNat : Int)) = 31 * (m : Int) + (t[k].toNat : Int) := IntWalk.i64_in _ (by omega)
      have hx1 : (31 * (m : Int) + (t[k].toNat : Int)).tmod 65521 = (((m * 31 + t[k].toNat) % 65521 : Nat) : Int) := by
        rw [Int.tmod_eq_emod_of_nonneg (by omega)]; omega
      go_wp2
      go_roundw
      case rel => exact ⟨k + 1, by omega, by go_num, by rw [HS.out]; first | rfl | (simp; done) | (congr 1; omega), by first | rfl | trivial⟩
      case measure => simp [intOf]; omega
    · have ek : k = t.size := by omega
      have HE : Hid (sumB (t.data.toList.take k) = sumB t.data.toList) := by show _ = _; rw [ek, HSZ.out, List.take_length]
      have l1 : (t.size : Int) ≤ (k : Int) := by omega
      rw [HE.out]
      have hlt := sumB_lt t.data.toList
      generalize hms : sumB t.data.toList = m at *
      have HMS : Hid (sumB t.data.toList = m) := hms
      clear ek HE hms
      obtain ⟨C, W1, cs, hcv, hC, hA, hcl, hct, S1, hz1⟩ := bytes_of wr t
      obtain ⟨i0, hi, hz0, hz1', hz2⟩ := info_parts Try.info5
      have HA : Hid (AtR W1 wr.heap.size 5 cs (C, C + 1) ∧ cs.length = C ∧ cs.take t.size = t.data.toList.map byteV ∧ Same [] wr W1) := ⟨hA, hcl, hct, S1⟩
      clear hA hcl hct S1
      have HN : Hid (∀ j u, [Value.int .u8 ((m : Int) / 256), .int .u8 ((m : Int) % 256)][j]? = some u → (W1.alloc (Obj.cells #[.int .u8 ((m : Int) / 256), .int .u8 ((m : Int) % 256)] 5)).cell? ((⟨wr.heap.size + 1, 0, none⟩ : Addr).add j) = some u) := by
        intro j u hj
        have h1 := At.new W1 #[.int .u8 ((m : Int) / 256), .int .u8 ((m : Int) % 256)] 5
        rw [hz1] at h1
        rw [Addr.add_lit, Nat.zero_add, h1.cell?]
        exact hj
      go_wp2_with (at_builtin; refine wpList_append_arg _ rfl _ _ 25 rfl 5 i0 (.int .u8 0) 1 1 Try.underlying25 hi hz0 hz1' hz2 rfl (by decide) wr.heap.size 0 t.size C (t.data.toList.map byteV) rfl ?n0 ?n1 ⟨wr.heap.size + 1, 0, none⟩ 2 2 [.int .u8 ((m : Int) / 256), .int .u8 ((m : Int) % 256)] rfl rfl HN.out ?c2 ?c3 ?c4 ?c5 ?r1 ?r2)
      case n0 => rw [List.length_map, ← HSZ.out, Nat.mul_one]
      case n1 =>
        intro j u hj
        rw [Nat.zero_add, (HA.out.1.alloc _).cell?]
        have hj2 : j < t.size := by
          rcases Nat.lt_or_ge j t.size with h' | h'
          · exact h'
          · rw [List.getElem?_eq_none (by rw [List.length_map, ← HSZ.out]; exact h')] at hj; cases hj
        have : (cs.take t.size)[j]? = cs[j]? := by rw [List.getElem?_take, if_pos hj2]
        rw [← this, HA.out.2.2.1]
        exact hj
      case c2 => intro u hu; simp at hu; rcases hu with rfl | rfl <;> rfl
      case c3 =>
        intro hr j hj
        have hj2 : j < 2 := hj
        rw [(HA.out.1.alloc _).cell?]
        refine ⟨?_, (HA.out.1.alloc _).frozen _ (by show 0 + t.size * 1 + j < C; omega)⟩
        rw [List.getElem?_eq_getElem (by rw [HA.out.2.1]; omega)]
        rfl
      case c4 => unfold maxLen; omega
      case c5 => omega
      case r1 =>
        intro hr
        have HF : Hid (BytesOld ((W1.alloc (Obj.cells #[.int .u8 ((m : Int) / 256), .int .u8 ((m : Int) % 256)] 5)).setCells wr.heap.size t.size [.int .u8 ((m : Int) / 256), .int .u8 ((m : Int) % 256)]) (some ⟨wr.heap.size, 0, none⟩) (t.data.toList ++ two m) ∧ Same [] wr ((W1.alloc (Obj.cells #[.int .u8 ((m : Int) / 256), .int .u8 ((m : Int) % 256)] 5)).setCells wr.heap.size t.size [.int .u8 ((m : Int) / 256), .int .u8 ((m : Int) % 256)])) := by
          have hC2 : t.size + 2 ≤ C := hr
          have h1 := ((HA.out.1.alloc (Obj.cells #[.int .u8 ((m : Int) / 256), .int .u8 ((m : Int) % 256)] 5)).set_same t.size (.int .u8 ((m : Int) / 256))).set_same (t.size + 1) (.int .u8 ((m : Int) % 256))
          refine ⟨⟨fun _ => ⟨wr.heap.size, 0, rfl, h1.lt, fun i hi => ?_⟩, ?_⟩, ?_⟩
          · rw [Nat.zero_add i]
            refine (h1.cell? i).trans ?_
            exact sealed_cell HSZ.out HA.out.2.1 HA.out.2.2.1 hC2 (by omega) hi
          · rw [List.length_append, ← HSZ.out, two_length]; omega
          · exact ((HA.out.2.2.2.alloc _).set _ _ _ (fun h => by omega)).set _ _ _ (fun h => by omega)
        have HC2 : Hid (t.size + 2 ≤ C) := hr
        clear HN HA
        go_wp2
        go_ret
        exact ⟨_, _, rfl, HC2.out, by rw [HMS.out]; exact HF.out⟩
      case r2 =>
        intro hr v' w' hown hgr
        obtain ⟨a6, c6, rfl⟩ := owns_form hown
        have hle := owns_le hown
        have HF : Hid (BytesOld w' a6 (t.data.toList ++ two m) ∧ Same [] wr w') := by
          obtain ⟨g, cs', rfl, hg, hA6, hcl6, hct6⟩ := owns_atN hown (by omega)
          have e : t.data.toList.map byteV ++ [.int .u8 ((m : Int) / 256), .int .u8 ((m : Int) % 256)] = (t.data.toList ++ two m).map byteV := by
            rw [List.map_append]
            congr 1
            unfold two byteV
            simp
            omega
          rw [e] at hct6
          refine ⟨⟨fun _ => ⟨g, 0, rfl, hA6.lt, fun i hi => ?_⟩, ?_⟩, ((HA.out.2.2.2).alloc _).grown hgr (fun q hq _ => by cases hq)⟩
          · have hlen : (t.data.toList ++ two m).length = t.size + 2 := by rw [List.length_append, ← HSZ.out, two_length]
            rw [Nat.zero_add, hA6.cell?]
            have : (cs'.take ((t.size + 2) * 1))[i]? = cs'[i]? := by rw [List.getElem?_take, if_pos (by omega)]
            rw [← this, hct6, List.getElem?_map, List.getElem?_eq_getElem hi, getElem!_pos _ i hi]
            rfl
          · rw [List.length_append, ← HSZ.out, two_length]; omega
        have HLE : Hid (t.size + 2 ≤ c6) := hle
        clear HN HA hown hgr hle
        go_wp2
        go_ret
        exact ⟨_, _, rfl, HLE.out, by rw [HMS.out]; exact HF.out⟩
end
section
open Go.RowKit Go.Sort
variable [DecidableEq Blk] [Inhabited Blk] [Inhabited Vol] [Inhabited PEnt] [Inhabited RVol] [Inhabited RRow]
set_option maxHeartbeats 1600000 in
set_option maxRecDepth 100000 in
theorem loads_calls (w : World) (t : ByteArray) (hl : t.size ≤ 140737488351232) :
    Calls Try.prog 3 #[.string t] w fun e w' => e = .returned (.bool true) ∧ Same [] w w' := by
  have hnot := runNot
  have hlen : t.data.toList.length = t.size := by rw [Array.length_toList]; rfl
  obtain ⟨C, W1, cs, hcv, hC, hat, hcl, hct, hS1, hz1⟩ := bytes_of w t
  have hcell : ∀ i, i < t.data.toList.length → W1.cell? ⟨w.heap.size, 0 + i, none⟩ = some (byteV (t.data.toList)[i]!) := fun i hi => by
    have e : (cs.take t.size)[i]? = cs[i]? := by rw [List.getElem?_take, if_pos (by omega)]
    rw [Nat.zero_add, hat.cell?, ← e, hct, List.getElem?_map, List.getElem?_eq_getElem hi, getElem!_pos _ i hi]
    rfl
  have hold : BytesOld W1 (some ⟨w.heap.size, 0, none⟩) t.data.toList := ⟨fun _ => ⟨w.heap.size, 0, rfl, hat.lt, hcell⟩, by omega⟩
  have hL1 := loaded_calls W1 w.heap.size 0 t.data.toList C hold hcell (by omega)
  rw [hlen] at hL1
  have HS1 : Hid (Same [] w W1) := hS1
  have hSe := fun W => sealed_calls W t (by omega)
  have HL2 : Hid (∀ W b off cap, BytesOld W (some ⟨b, off, none⟩) (t.data.toList ++ two (sumB t.data.toList)) → (∀ i, i < (t.data.toList ++ two (sumB t.data.toList)).length → W.cell? ⟨b, off + i, none⟩ = some (byteV (t.data.toList ++ two (sumB t.data.toList))[i]!)) → t.size + 2 ≤ cap → Calls Try.prog 10 #[.slice (some ⟨b, off, none⟩) (t.size + 2) cap] W (LoadedPost W (t.data.toList ++ two (sumB t.data.toList)))) := fun W b off cap h1 h2 h3 => by
    have e : (t.data.toList ++ two (sumB t.data.toList)).length = t.size + 2 := by rw [List.length_append, hlen, two_length]
    have := loaded_calls W b off _ cap h1 h2 (by omega)
    rw [e] at this
    exact this
  have HJ : Hid ((t.data.toList ++ two (sumB t.data.toList)).length = t.size + 2) := by show _ = _; rw [List.length_append, hlen, two_length]
  clear hcell hold hat hcl hct hS1 hz1 hlen
  generalize t.data.toList ++ two (sumB t.data.toList) = J at *
  go_enter Try.func3, Try.ntmps3
  go_wp2_with fail
  refine hL1.mono ?_
  intro e w2 hp
  obtain ⟨pv, rfl, S2⟩ : ∃ pv, e = .returned (.tuple #[.pointer pv, .bool true]) ∧ Same [] w w2 := by
    cases hp with
    | no h hs => exact ⟨_, h, HS1.out.step hs (by simp)⟩
    | ok bb h hk => exact ⟨_, h, HS1.out.step hk.same (by simp)⟩
  have HS2 : Hid (Same [] w w2) := S2
  clear hp S2 hL1 hcv
  dsimp only
  go_wp2_with fail
  refine (hSe _).mono ?_
  rintro e w3 ⟨a, cap, rfl, hcap, hby, S3⟩
  obtain ⟨b, off, rfl, hblt, hcells⟩ := hby.ex (fun e => by have := HJ.out; rw [e] at this; simp at this)
  have hL2 := HL2.out w3 b off cap hby hcells hcap
  have HS3 : Hid (Same [] w w3 ∧ BytesOld w3 (some ⟨b, off, none⟩) J) := ⟨HS2.out.step S3 (by simp), hby⟩
  clear hSe S3 hby hblt hcells HS2 HL2
  dsimp only
  go_wp2_with fail
  refine hL2.mono ?_
  intro e w4 hp
  cases hp with
  | no h hs =>
    subst h
    have HS4 : Hid (Same [] w w4) := HS3.out.1.step hs (by simp)
    clear hs hL2 HS3
    dsimp only
    go_wp2
    go_ret
    exact ⟨rfl, HS4.out⟩
  | ok bb h hk =>
    subst h
    obtain ⟨s, fr, r, hB, himg, hIm, hnew⟩ := hk.ex
    have hI := image_calls s w4 hIm
    rw [himg] at hI
    have c0 : w4.cell? ⟨bb, 0, none⟩ = some (.pointer (some ⟨s.pb, 0, none⟩)) := hB.both.cell? 0
    have HB : Hid (BothAt w4 bb s fr r) := hB
    have HS4 : Hid (Same [] w w4 ∧ Same [] w3 w4) := ⟨HS3.out.1.step hk.same (by simp), hk.same⟩
    have hJ := HJ.out
    rw [hJ] at hI
    clear hB himg hIm hnew hk hL2 hJ
    dsimp only
    go_wp2_with fail
    refine hI.mono ?_
    rintro e w5 ⟨g, rfl, hN⟩
    have hW := whole_calls bb s fr r w5 (HB.out.new hN.same)
    have HN : Hid (BytesNew w4 w5 g J) := hN
    clear hN hI HB c0
    dsimp only
    go_wp2_with fail
    refine hW.mono ?_
    rintro e w6 ⟨rfl, S6⟩
    have hx := text_conv w6 g 0 (t.size + 2) J HJ.out (fun i hi => by
      have hi' : i < J.length := by have := HJ.out; omega
      obtain ⟨cs, hA, hc⟩ := HN.out.ex
      have e : (cs.take J.length)[i]? = cs[i]? := by rw [List.getElem?_take, if_pos hi']
      rw [Nat.zero_add, (S6.at hA (by simp)).cell?, ← e, hc, List.getElem?_map, List.getElem?_eq_getElem hi', getElem!_pos J i hi']
      rfl) (t.size + 2)
    have hy := text_conv w6 b off (t.size + 2) J HJ.out (fun i hi => by
      have hi' : i < J.length := by have := HJ.out; omega
      obtain ⟨b', off', e1, _, e2⟩ := HS3.out.2.at (((HS4.out.2).step HN.out.same (by simp)).step S6 (by simp)) (fun e => by rw [e] at hi'; simp at hi')
      cases e1
      exact e2 i hi') cap
    have HS6 : Hid (Same [] w w6) := (HS4.out.1.step HN.out.same (by simp)).step S6 (by simp)
    clear S6 HN HS4 HS3 hW
    generalize (⟨J.toArray⟩ : ByteArray) = tj at *
    dsimp only
    go_wp2
    go_ret
    exact ⟨by simp, HS6.out⟩
end
end Go.Proofs.Ytpddgdjocffgdaa
