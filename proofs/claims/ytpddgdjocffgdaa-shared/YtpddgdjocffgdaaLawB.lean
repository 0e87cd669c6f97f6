/- The statement's function all, by a contract. -/
import Derived.Test.YtpddgdjocffgdaaLawA
import Derived.Test.YtpddgdjocffgdaaPoolAB
namespace Go.Proofs.Ytpddgdjocffgdaa
open Go.RowKit Go.Sort
set_option linter.unusedVariables false
set_option linter.unusedSimpArgs false
set_option linter.unusedSectionVars false
variable [DecidableEq Blk] [Inhabited Blk]
variable [Inhabited Vol]

set_option maxHeartbeats 800000 in
set_option maxRecDepth 100000 in
theorem all_calls (s : St) (fr : List Nat) (w : World) (h : PoolAt w s) (hG : Good s fr) (hn : s.n ≤ 200) (hpl : ∀ v ∈ s.vols, v.org = none) :
    Calls Try.prog 17 #[.pointer (some ⟨s.pb, 0, none⟩)] w fun e w' => ∃ v, e = .returned (.tuple #[v, .int .i64 (flatX s.vols).length, .bool true]) ∧ w'.ownsRow w.heap.size 3 1 v (flatX s.vols).length ((flatX s.vols).map (fun x : Nat => Value.int .i64 x)) ∧ Same [] w w' := by
  have hL := list_calls s w h
  have hnd := (List.nodup_append.1 hG.nodup).2.1
  have hlt := hG.lt.2
  have hlenx : (flatX s.vols).length ≤ 200 := by
    have h1 := hG.parts.length_eq
    simp only [List.length_append, List.length_range] at h1
    unfold flatX; omega
  have hfew := h.few
  obtain ⟨i0, hi, hz0, hz1, hz2⟩ := info_parts Try.info3
  go_enter Try.func17, Try.ntmps17
  go_wp2_with fail
  refine hL.mono ?_
  rintro e w1 ⟨a, rfl, S1, hT⟩
  go_wp2
  go_loopw [6, 7, 8] (fun u n i wr => ∃ k : Nat, k ≤ s.vols.length ∧ i = .int .i64 k ∧ n = .int .i64 (flatX (s.vols.take k)).length ∧ Same [] w1 wr ∧ wr.ownsRow w1.heap.size 3 1 u (flatX (s.vols.take k)).length ((flatX (s.vols.take k)).map (fun x : Nat => Value.int .i64 x)))
    (fun _ _ i _ => s.vols.length - (intOf i).toNat)
  case atStart => exact ⟨0, Nat.zero_le _, rfl, by simp [flatX], Same.refl _ _, by simpa [flatX] using World.ownsRow_nil w1 w1.heap.size 3 1⟩
  case round =>
    obtain ⟨k, hk, rfl, rfl, hS, hown⟩ := hrel
    by_cases hkl : k < s.vols.length
    · obtain ⟨lg, cs, rfl, hlg, hA, hcs⟩ := hT (fun e => by rw [e] at hkl; simp at hkl)
      have hP := h.new (S1.step hS (by simp))
      obtain ⟨hv1, hv2⟩ := vol_get hP k hkl
      have hmem : s.vols[k]! ∈ s.vols := by rw [getElem!_pos s.vols k hkl]; exact List.getElem_mem hkl
      have hM := map_some s (s.vols[k]!).name wr hP hv1
      rw [hv2] at hM
      have hvs := (hP.vols _ hmem).small
      have hcl : ∀ j, j < 6 → cs[k * 6 + j]? = (s.told (s.vols[k]!))[j]? := fun j hj => by
        have e1 : (cs.take (s.vols.length * 6))[k * 6 + j]? = cs[k * 6 + j]? := by rw [List.getElem?_take, if_pos (by omega)]
        rw [← e1, hcs, toldAll_get s s.vols k j hkl hj]
      have etold : s.told (s.vols[k]!) = [.string (s.vols[k]!).name, .int .i64 (s.vols[k]!).xs.length, .string ⟨#[]⟩, .int .i64 0, .int .i64 0, .bool false] := by unfold St.told; rw [hpl _ hmem]
      rw [etold] at hcl
      have n0 : ∀ W, Same [] w1 W → W.cell? ⟨lg, k * 6, none⟩ = some (.string (s.vols[k]!).name) := fun W hW => by
        rw [(hW.at hA (by simp)).cell?]; exact hcl 0 (by omega)
      have n1 : ∀ W, Same [] w1 W → W.cell? ⟨lg, k * 6 + 1, none⟩ = some (.int .i64 (s.vols[k]!).xs.length) := fun W hW => by
        rw [(hW.at hA (by simp)).cell?]; exact hcl 1 (by omega)
      have HX := flatX_snoc s.vols k hkl
      have HX' : Hid (flatX (s.vols.take (k + 1)) = flatX (s.vols.take k) ++ (s.vols[k]!).xs) := HX
      have hsub : (flatX (s.vols.take (k + 1))).Nodup ∧ (flatX (s.vols.take (k + 1))).length ≤ 200 := by
        have hsl : (flatX (s.vols.take (k + 1))).Sublist (flatX s.vols) := by
          unfold flatX
          conv => rhs; rw [← List.take_append_drop (k + 1) s.vols]
          rw [List.flatMap_append]
          exact List.sublist_append_left _ _
        exact ⟨hnd.sublist hsl, Nat.le_trans hsl.length_le hlenx⟩
      rw [HX] at hsub
      have hlt' := hlt _ hmem
      clear HX hT hA hcs hcl hP hv1 hv2 hnd hlt hL etold hpl
      generalize s.vols[k]! = vv at *
      generalize flatX (s.vols.take k) = pre at *
      have m0 := n0 wr hS
      have m1 := n1 wr hS
      have l1 : (k : Int) < (s.vols.length : Int) := by omega
      obtain ⟨ua, ucap, rfl⟩ := owns_form hown
      go_wp2_with fail
      refine hM.mono ?_
      rintro e w2 ⟨mg, ms, rfl, hmg, hR, S2⟩
      have q1 := n1 w2 (hS.step S2 (by simp))
      have hS2 := hS.step S2 (by simp)
      have hown2 := owns_same hown S2 (by simp)
      have HUM : Hid ((Value.slice ua pre.length ucap).ownBlock ≠ some mg) := fun e => by have := (hown.lt mg e).2; omega
      clear hM hown m0 m1
      go_wp2_with fail
      go_loopw [6, 11] (fun u i wr2 => ∃ j : Nat, j ≤ vv.xs.length ∧ i = .int .i64 j ∧ Same [] w1 wr2 ∧ RowAt wr2 mg vv.xs ms ∧ Hid (u.ownBlock ≠ some mg) ∧ wr2.ownsRow w1.heap.size 3 1 u (pre ++ vv.xs.take j).length ((pre ++ vv.xs.take j).map (fun x : Nat => Value.int .i64 x)))
        (fun _ i _ => vv.xs.length - (intOf i).toNat)
      case atStart => exact ⟨0, Nat.zero_le _, rfl, hS2, hR, HUM, by simpa using hown2⟩
      case round =>
        obtain ⟨j, hj, rfl, hS3, hR3, HUM3, hown3⟩ := hrel
        obtain ⟨ua, ucap, rfl⟩ := owns_form hown3
        by_cases hjl : j < vv.xs.length
        · have hjm : vv.xs[j]! ∈ vv.xs := by rw [getElem!_pos vv.xs j hjl]; exact List.getElem_mem hjl
          have HT : Hid (pre ++ vv.xs.take (j + 1) = (pre ++ vv.xs.take j) ++ [vv.xs[j]!]) := by show _ = _; rw [List.take_succ_eq_append_getElem hjl, getElem!_pos vv.xs j hjl, List.append_assoc]
          have hnin : vv.xs[j]! ∉ pre ++ vv.xs.take j := by
            obtain ⟨a1, a2, a3⟩ := List.nodup_append.1 hsub.1
            intro hm
            rcases List.mem_append.1 hm with hm | hm
            · exact a3 _ hm _ hjm rfl
            · have e1 : vv.xs = vv.xs.take j ++ vv.xs[j]! :: vv.xs.drop (j + 1) := by
                rw [getElem!_pos vv.xs j hjl, ← List.drop_eq_getElem_cons hjl, List.take_append_drop]
              rw [e1] at a2
              exact (List.nodup_append.1 a2).2.2 _ hm _ List.mem_cons_self rfl
          have hyn := hlt' _ hjm
          have cj := hR3.cell j hjl
          rw [← hR3.at_.cell?] at cj
          obtain ⟨ug, hug, hsl⟩ := owns_sl hown3 rfl
          have hlen2 : (pre ++ vv.xs.take j).length ≤ 200 := by
            have := hsub.2
            simp at this ⊢; omega
          have hH := has_calls ug (pre ++ vv.xs.take j) vv.xs[j]! wr _ hsl (by omega)
          rw [decide_eq_false hnin] at hH
          have hszr := hS3.size
          have lmg := hR3.at_.lt
          generalize pre ++ vv.xs.take j = pp at *
          generalize vv.xs[j]! = y at *
          have y1 : ¬ ((y : Int) < 0) := by omega
          have y2 : ¬ (200 ≤ (y : Int)) := by omega
          have l2 : (j : Int) < (vv.xs.length : Int) := by omega
          clear hjm hnin hsl q1
          go_wp2_with (first | (go_at_call 47; refine hH.mono ?_; rintro e wz ⟨rfl, rfl⟩) | (at_builtin; refine wpList_append_own2 _ rfl (.tmp 70) (.tmp 75) 39 rfl w1.heap.size 3 i0 (.int .i64 0) 1 8 Try.underlying39 hi hz0 hz1 hz2 rfl (by decide) _ _ _ rfl (hown3.alloc _) ⟨wz.heap.size, 0, none⟩ 1 1 [.int .i64 (y : Nat)] rfl rfl ?c1 ?c2 ?c3 ?c4 ?c5 ?_))
          case c1 =>
            intro j u hj
            match j, hj with
            | 0, hj => simp at hj; subst hj; simp [Addr.add]
          case c2 => intro u hu; simp at hu; subst hu; rfl
          case c3 => unfold maxLen; omega
          case c4 => omega
          case c5 => simp; omega
          intro v' w4 hown' hgrow hblk
          have S4 : Same [] w1 w4 := (hS3.alloc _).grown hgrow (fun i hi hl => by have := (hown3.lt i hi).1; omega)
          have R4 : RowAt w4 mg vv.xs ms := ⟨(hR3.at_.alloc _).of_heap (hgrow.block mg (hR3.at_.alloc _).lt (fun e => HUM3.out e.symm)), hR3.eq, hR3.le⟩
          have U4 : Hid (v'.ownBlock ≠ some mg) := by
            rcases hblk with e | e
            · show _ ≠ _; rw [e]; exact HUM3.out
            · intro e2; have := e mg e2; omega
          have O4 : w4.ownsRow w1.heap.size 3 1 v' (pre ++ vv.xs.take (j + 1)).length ((pre ++ vv.xs.take (j + 1)).map (fun x : Nat => Value.int .i64 x)) := by
            rw [HT.out, List.map_append, List.length_append]; exact hown'
          clear hown' hgrow hown3 hS3 hH cj hR3 hblk HUM3
          go_wp2
          go_roundw
          case rel => exact ⟨j + 1, by omega, by go_num, S4, R4, U4, O4⟩
          case measure => simp [intOf]; omega
        · have ej : j = vv.xs.length := by omega
          subst ej
          rw [List.take_length] at *
          have p1 := n1 wr hS3
          have hle3 := hsub.2
          have HL3 : Hid ((pre ++ vv.xs).length = pre.length + vv.xs.length) := List.length_append
          have hle4 : pre.length + vv.xs.length ≤ 200 := by have := HL3.out; omega
          generalize pre ++ vv.xs = pp at *
          clear hR3 HUM3
          go_wp2_with fail
          go_roundw
          case rel => exact ⟨k + 1, by omega, by go_num, by rw [HX'.out, HL3.out]; go_num, hS3, by rw [HX'.out]; exact hown3⟩
          case measure => simp [intOf]; omega
    · go_wp2
      go_ret3
      have ek : k = s.vols.length := by omega
      subst ek
      rw [List.take_length] at hown ⊢
      exact ⟨_, rfl, owns_base hown (S1.size), S1.step hS (by simp)⟩
end Go.Proofs.Ytpddgdjocffgdaa
