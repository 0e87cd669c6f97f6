/- A Pool: picturesOf, by a contract. -/
import Derived.Test.YtpddgdjocffgdaaPoolF
namespace Go.Proofs.Ytpddgdjocffgdaa
open Go.RowKit Go.Sort
set_option linter.unusedVariables false
set_option linter.unusedSimpArgs false
set_option linter.unusedSectionVars false
variable [DecidableEq Blk] [Inhabited Blk]
variable [Inhabited Vol]

/-- The pictures of what lies at a place. -/
def St.picsOf (s : St) (ub : Nat) : List Vol := s.vols.filter fun v => decide (v.org = some ub)

theorem filter_take_snoc (l : List Vol) (p : Vol → Bool) (k : Nat) (hk : k < l.length) : (l.take (k + 1)).filter p = (l.take k).filter p ++ (if p l[k]! then [l[k]!] else []) := by
  rw [List.take_succ_eq_append_getElem hk, List.filter_append, getElem!_pos l k hk]
  congr 1
  simp [List.filter_cons]

theorem vol_info : ∃ i, Try.prog.info? 100 = some i ∧ i.size ≠ 0 := by
  have h : (Try.prog.info? 100).map (fun i => i.size) = some 5 := by kernel_rfl
  obtain ⟨i, hi, e⟩ := Option.map_eq_some_iff.1 h
  exact ⟨i, hi, by omega⟩

set_option maxHeartbeats 1000000 in
set_option maxRecDepth 100000 in
theorem picturesOf_calls (s : St) (u : Vol) (w : World) (h : PoolAt w s) (hu : u ∈ s.vols) :
    Calls Try.prog 54 #[.pointer (some ⟨s.pb, 0, none⟩), .pointer (some ⟨u.vb, 0, none⟩)] w fun e w' => ∃ v, e = .returned v ∧ w'.ownsRow w.heap.size 80 1 v (s.picsOf u.vb).length ((s.picsOf u.vb).map fun v => ptr v.vb) ∧ Same [] w w' := by
  obtain ⟨cap, hp, _, _⟩ := h.pool
  have c2 : w.cell? ⟨s.pb, 2, none⟩ = some (.slice (s.ab.map fun b => ⟨b, 0, none⟩) s.vols.length cap) := hp.cell? 2
  have hfew := h.few
  clear hp
  obtain ⟨i0, hi, hz0, hz1, hz2⟩ := info_parts Try.info59
  obtain ⟨iv, hiv, hivz⟩ := vol_info
  go_enter Try.func54, Try.ntmps54
  go_wp2
  go_loopw [5, 13] (fun v i wr => ∃ k : Nat, k ≤ s.vols.length ∧ i = .int .i64 k ∧ Same [] w wr ∧ wr.ownsRow w.heap.size 80 1 v ((s.vols.take k).filter fun v => decide (v.org = some u.vb)).length (((s.vols.take k).filter fun v => decide (v.org = some u.vb)).map fun v => ptr v.vb))
    (fun _ i _ => s.vols.length - (intOf i).toNat)
  case atStart => exact ⟨0, Nat.zero_le _, rfl, Same.refl _ _, World.ownsRow_nil _ _ _ _⟩
  case round =>
    obtain ⟨k, hk, rfl, hS, hown⟩ := hrel
    by_cases hkl : k < s.vols.length
    · have hP := h.new hS
      obtain ⟨b, hb, e1, e2⟩ := hP.cell k hkl
      have hvm : s.vols[k]! ∈ s.vols := by rw [getElem!_pos s.vols k hkl]; exact List.getElem_mem hkl
      have hb' : (s.ab.map fun b => (⟨b, 0, none⟩ : Addr)) = some ⟨b, 0, none⟩ := by rw [hb]; rfl
      have HV : Hid ((s.vols.take (k + 1)).filter (fun v => decide (v.org = some u.vb)) = (s.vols.take k).filter (fun v => decide (v.org = some u.vb)) ++ (if decide ((s.vols[k]!).org = some u.vb) then [s.vols[k]!] else [])) := filter_take_snoc s.vols _ k hkl
      obtain ⟨vc, vk, _, hvo, _, _⟩ := (hP.vols _ hvm).vol
      have c3 : wr.cell? ⟨(s.vols[k]!).vb, 2, none⟩ = some (.pointer (adr (s.vols[k]!).org)) := hvo.cell? 2
      have HO : Hid (∀ o, (s.vols[k]!).org = some o → ∃ x ∈ s.vols, x.vb = o ∧ x.org = none) := hP.orgs _ hvm
      generalize s.vols[k]! = vv at *
      rw [hb']
      have l2 : (k : Int) < (s.vols.length : Int) := by omega
      have HH : Hid (PoolAt wr s) := hP
      clear h c2 hb' hvo hP
      have hsz := hS.size
      by_cases hq : vv.org = some u.vb
      · have HV2 : Hid ((s.vols.take (k + 1)).filter (fun v => decide (v.org = some u.vb)) = (s.vols.take k).filter (fun v => decide (v.org = some u.vb)) ++ [vv]) := by
          show _ = _
          rw [HV.out, if_pos (decide_eq_true hq)]
        rw [hq] at c3
        simp only [adr, Option.map_some] at c3
        have heq := run_eql_ptr_same (P := Try.prog) (w := wr) ⟨u.vb, 0, none⟩ Try.underlying80 hiv
        generalize ((s.vols.take k).filter (fun v => decide (v.org = some u.vb))) = fl at *
        obtain ⟨a, cp, rfl⟩ := owns_form hown
        have hfl : fl.length ≤ 20 := by
          have h1 := congrArg List.length HV2.out
          have h2 := List.length_filter_le (fun v => decide (v.org = some u.vb)) (s.vols.take (k + 1))
          have h3 := List.length_take_le (k + 1) s.vols
          simp at h1; omega
        clear HV
        go_wp2_with (at_builtin; refine wpList_append_own _ rfl _ _ 36 rfl w.heap.size 80 i0 (.pointer none) 1 8 Try.underlying36 hi hz0 hz1 hz2 rfl (by decide) _ _ _ rfl (hown.alloc _) ⟨wr.heap.size, 0, none⟩ 1 1 [ptr vv.vb] rfl rfl ?c1 ?c2 ?c3 ?c4 ?c5 ?_)
        case c1 =>
          intro j u hj
          match j, hj with
          | 0, hj => simp at hj; subst hj; simp [Addr.add, ptr]
        case c2 => intro u hu; simp at hu; subst hu; rfl
        case c3 => unfold maxLen; omega
        case c4 => omega
        case c5 => simp; omega
        intro v' w2 hown' hgrow _
        have S2 : Same [] w w2 := (hS.alloc _).grown hgrow (fun j hj hl => by have := (hown.lt j hj).1; omega)
        have O2 : w2.ownsRow w.heap.size 80 1 v' (((s.vols.take (k + 1)).filter (fun v => decide (v.org = some u.vb))).length) (((s.vols.take (k + 1)).filter (fun v => decide (v.org = some u.vb))).map fun v => ptr v.vb) := by
          rw [HV2.out, List.length_append, List.map_append]; exact hown'
        clear hown' hgrow hown hS
        go_wp2
        go_roundw
        case rel => exact ⟨k + 1, by omega, by go_num, S2, O2⟩
        case measure => simp [intOf]; omega
      · have heq : (binOp .eql 80 (.pointer (adr vv.org)) (.pointer (some ⟨u.vb, 0, none⟩))).run Try.prog wr = .ok (.bool false) wr := by
          cases ho : vv.org with
          | none => exact eql_nil_some _ _ Try.underlying80
          | some o =>
            obtain ⟨x, hx, rfl, _⟩ := HO.out o ho
            obtain ⟨_, _, _, hxo, _, _⟩ := (HH.out.vols x hx).vol
            obtain ⟨_, _, _, huo, _, _⟩ := (HH.out.vols u hu).vol
            refine run_eql_ptr_other (P := Try.prog) (w := wr) Try.underlying80 hiv hivz ?_ hxo huo
            intro e
            exact hq (by rw [ho]; simpa using e)
        have HV2 : Hid ((s.vols.take (k + 1)).filter (fun v => decide (v.org = some u.vb)) = (s.vols.take k).filter (fun v => decide (v.org = some u.vb))) := by
          show _ = _
          rw [HV.out, if_neg (by simpa using hq), List.append_nil]
        clear HV
        go_wp2
        go_roundw
        case rel => exact ⟨k + 1, by omega, by go_num, hS, by rw [HV2.out]; exact hown⟩
        case measure => simp [intOf]; omega
    · have ek : k = s.vols.length := by omega
      subst ek
      rw [List.take_length] at hown
      have HW : Hid (wr.ownsRow w.heap.size 80 1 u5 (s.picsOf u.vb).length ((s.picsOf u.vb).map fun v => ptr v.vb)) := hown
      clear hown
      go_wp2
      go_ret
      exact ⟨_, rfl, HW.out, hS⟩
end Go.Proofs.Ytpddgdjocffgdaa
