/- Load, by contract. A Pool: drop, by a contract. A Pool: Resize, by contracts; what a Write leaves. A Pool: lose, by a contract. A Pool: add makes a volume or a picture. -/
import Derived.Test.YtpddgdjocffgdaaG09
import Derived.Test.YtpddgdjocffgdaaG04
import Derived.Deep.RegionLawGrows
namespace Go.Proofs.Ytpddgdjocffgdaa
set_option linter.unusedVariables false
set_option linter.unusedSimpArgs false
set_option linter.unusedSectionVars false
section
open Go.RowKit Go.Sort
variable [DecidableEq Blk] [Inhabited Blk] [Inhabited Vol] [Inhabited PEnt]
/-- What stands ahead of the sum. -/
def aheadB (I : List UInt8) : List UInt8 := I.take (I.length - 2)
def LoadPost (w : World) (I : List UInt8) (e : Ending) (w' : World) : Prop :=
  if 2 ≤ I.length ∧ endN I = sumB (aheadB I) then
    match rpool (aheadB I) with
    | .ok (count, ps, at2) => ∃ pv pb db bb fb jg d, e = .returned (.tuple #[.pointer (some ⟨pb, 0, none⟩), .int .i64 0, .int .i64 0]) ∧ pv.map (·.1) = ps ∧ PoolRaw w w' (aheadB I) count at2 pv pb db bb fb jg d
    | .error q => e = .returned (.tuple #[.pointer none, .int .i64 12, .int .i64 q]) ∧ Same [] w w'
  else e = .returned (.tuple #[.pointer none, .int .i64 11, .int .i64 0]) ∧ Same [] w w'
theorem BytesOld.prefix {w : World} {a : Option Addr} {I : List UInt8} (h : BytesOld w a I) (n : Nat) : BytesOld w a (I.take n) := by
  refine ⟨fun hne => ?_, by have := h.len; simp; omega⟩
  obtain ⟨b, off, h1, h2, h3⟩ := h.ex (by intro e; apply hne; rw [e]; simp)
  refine ⟨b, off, h1, h2, fun i hi => ?_⟩
  have hi' : i < I.length := by simp at hi; omega
  rw [h3 i hi', getElem!_pos _ i hi', getElem!_pos _ i hi, List.getElem_take]
theorem BytesOld.bytes {w W : World} {a : Option Addr} {I : List UInt8} (h : BytesOld w a I) (hS : Same [] w W) : BytesAt W a I := by
  refine ⟨fun hne => ?_⟩
  obtain ⟨b, off, h1, h2, h3⟩ := h.at hS hne
  exact ⟨b, off, h1, h3⟩
set_option maxHeartbeats 4000000 in
set_option maxRecDepth 100000 in
theorem load_short (w : World) (a : Option Addr) (I : List UInt8) (cap : Nat) (h2 : I.length < 2) :
    Calls Try.prog 33 #[.slice a I.length cap] w (LoadPost w I) := by
  have hmf : ∀ (fn : Fn) (first cap : Array Value) (w : World), (Instr.makeFunc fn first cap).run Try.prog w = .ok (.func fn first cap) w := fun _ _ _ _ => rfl
  have hnot := runNot
  have hSS := fun W => splitSum_none W a cap I.length h2
  have HP : Hid (∀ W, Same [] w W → LoadPost w I (.returned (.tuple #[.pointer none, .int .i64 11, .int .i64 0])) W) := fun W hW => by
    unfold LoadPost; rw [if_neg (by omega)]; exact ⟨rfl, hW⟩
  generalize LoadPost w I = R at *
  generalize I.length = n at *
  go_enter_defers Try.func33, Try.ntmps33
  go_wp2_with (go_at_call 71; refine (hSS _).mono ?_; rintro e w3 ⟨rfl, hw⟩; obtain rfl := hw.symm)
  refine leaves_cons (f := 69) (args := #[.pointer (some ⟨w.heap.size, 0, none⟩), .pointer (some ⟨w.heap.size + 1, 0, none⟩), .pointer (some ⟨w.heap.size + 1 + 1, 0, none⟩)]) (by simp) (by simp [go_sem]) ?_
  refine (catch_none w.heap.size (w.heap.size + 1) (w.heap.size + 1 + 1) _).mono ?_
  rintro e u' w'' ⟨rfl, rfl, rfl⟩
  simp [Leaves, settle, results, Try.results33, go_sem]
  exact HP.out _ ((((Same.refl _ _).alloc _).alloc _).alloc _)
theorem PoolRaw.out {w w3 w6 W : World} {B : List UInt8} {count at_ : Nat} {pv : List (PEnt × Vol)} {pb db bb fb jg : Nat} {d : Array Int} (h : PoolRaw w3 w6 B count at_ pv pb db bb fb jg d) {S : List Nat} (hS : Same S w6 W) (hlt : ∀ k ∈ S, k < w3.heap.size) (hw : Same [] w W) (hz : w.heap.size ≤ w3.heap.size) : PoolRaw w W B count at_ pv pb db bb fb jg d := by
  obtain ⟨o1, o2, o3, o4, o5, o6, o7⟩ := h.ord
  have far : ∀ k, w3.heap.size ≤ k → k ∉ S := fun k hk hm => by have := hlt k hm; omega
  refine ⟨hS.at h.pool (far _ (by omega)), hS.at h.arr (far _ o1), h.disk.same hS (far _ (by omega)) (far _ (by omega)) (far _ (by omega)), h.heap, fun x hx => (h.vols x hx).same hS (fun k hk => ?_), h.ent, h.nodup, fun x hx k hk => ?_, ⟨by omega, o2, o3, o4, o5, o6, o7⟩, hw⟩
  · rw [(joinV_len pv x).2.2.2.2.2] at hk
    exact far k (h.new x hx k hk).1
  · have := h.new x hx k hk
    omega
set_option maxHeartbeats 4000000 in
set_option maxRecDepth 100000 in
theorem load_long (w : World) (a : Option Addr) (I : List UInt8) (cap : Nat) (h : BytesOld w a I) (hcap : I.length ≤ cap) (h2 : ¬ I.length < 2) :
    Calls Try.prog 33 #[.slice a I.length cap] w (LoadPost w I) := by
  have hmf : ∀ (fn : Fn) (first cap : Array Value) (w : World), (Instr.makeFunc fn first cap).run Try.prog w = .ok (.func fn first cap) w := fun _ _ _ _ => rfl
  have hnot := runNot
  have hlen := h.len
  obtain ⟨n, hn⟩ : ∃ n, I.length = n + 2 := ⟨I.length - 2, by omega⟩
  have hBl : (aheadB I).length = n := by unfold aheadB; rw [List.length_take]; omega
  have HSS : Hid (∀ W, Same [] w W → Calls Try.prog 71 #[.slice a (n + 2) cap] W fun e w' => e = .returned (.tuple #[.slice a n n, .int .i64 (endN I), .bool true]) ∧ Same [] W w') := fun W hW => by
    have := splitSum_some W a cap I (h.bytes hW) hlen hcap h2
    rw [hn, Nat.add_sub_cancel] at this
    exact this
  have HSU : Hid (∀ W, Same [] w W → Calls Try.prog 41 #[.slice a n n] W fun e w' => e = .returned (.int .i64 (sumB (aheadB I))) ∧ w' = W) := fun W hW => by
    have := sum_calls W a n (aheadB I) ((h.prefix _).bytes hW) (by unfold maxLen; omega)
    rw [hBl] at this
    exact this
  have HBO : Hid (∀ W, Same [] w W → BytesOld W a (aheadB I)) := fun W hW => by
    have hb := h.prefix (I.length - 2)
    refine ⟨fun hne => ?_, hb.len⟩
    obtain ⟨b, off, h1, h3, h4⟩ := hb.ex hne
    refine ⟨b, off, h1, Nat.lt_of_lt_of_le h3 hW.size, fun i hi => ?_⟩
    rw [(hW.below (Nat.le_refl _) (by simp)).cell h3]
    exact h4 i hi
  have HLP : Hid (∀ e W, LoadPost w I e W = (if endN I = sumB (aheadB I) then
    match rpool (aheadB I) with
    | .ok (count, ps, at2) => ∃ pv pb db bb fb jg d, e = .returned (.tuple #[.pointer (some ⟨pb, 0, none⟩), .int .i64 0, .int .i64 0]) ∧ pv.map (·.1) = ps ∧ PoolRaw w W (aheadB I) count at2 pv pb db bb fb jg d
    | .error q => e = .returned (.tuple #[.pointer none, .int .i64 12, .int .i64 q]) ∧ Same [] w W
    else e = .returned (.tuple #[.pointer none, .int .i64 11, .int .i64 0]) ∧ Same [] w W)) := fun e W => by
    unfold LoadPost
    by_cases he : endN I = sumB (aheadB I)
    · rw [if_pos ⟨by omega, he⟩, if_pos he]
    · rw [if_neg (fun h => he h.2), if_neg he]
  generalize LoadPost w I = R at *
  rw [hn]
  generalize aheadB I = B at *
  obtain ⟨s, hs⟩ : ∃ s, endN I = s := ⟨_, rfl⟩
  obtain ⟨t, ht⟩ : ∃ t, sumB B = t := ⟨_, rfl⟩
  rw [hs] at HSS HLP
  rw [ht] at HSU HLP
  have N0 := ((At.new w #[.pointer none] 27).alloc (.cells #[.int .i64 0] 44)).alloc (.cells #[.int .i64 0] 3)
  have N1 := (At.new (w.alloc (.cells #[.pointer none] 27)) #[.int .i64 0] 44).alloc (.cells #[.int .i64 0] 3)
  have N2 := At.new ((w.alloc (.cells #[.pointer none] 27)).alloc (.cells #[.int .i64 0] 44)) #[.int .i64 0] 3
  have S0 : Same [] w (((w.alloc (.cells #[.pointer none] 27)).alloc (.cells #[.int .i64 0] 44)).alloc (.cells #[.int .i64 0] 3)) := (((Same.refl _ _).alloc _).alloc _).alloc _
  have HN : Hid (At (((w.alloc (.cells #[.pointer none] 27)).alloc (.cells #[.int .i64 0] 44)).alloc (.cells #[.int .i64 0] 3)) w.heap.size 27 [.pointer none] ∧ At (((w.alloc (.cells #[.pointer none] 27)).alloc (.cells #[.int .i64 0] 44)).alloc (.cells #[.int .i64 0] 3)) (w.heap.size + 1) 44 [.int .i64 0] ∧ At (((w.alloc (.cells #[.pointer none] 27)).alloc (.cells #[.int .i64 0] 44)).alloc (.cells #[.int .i64 0] 3)) (w.heap.size + 1 + 1) 3 [.int .i64 0] ∧ Same [] w (((w.alloc (.cells #[.pointer none] 27)).alloc (.cells #[.int .i64 0] 44)).alloc (.cells #[.int .i64 0] 3))) := by
    simp only [World.size_alloc] at N1 N2
    exact ⟨N0, N1, N2, S0⟩
  clear N0 N1 N2 S0 h hs ht h2
  go_enter_defers Try.func33, Try.ntmps33
  go_wp2_with fail
  refine (HSS.out _ HN.out.2.2.2).mono ?_
  rintro e w3 ⟨rfl, S3⟩
  obtain ⟨M0, M1, M2, M3⟩ : At w3 w.heap.size 27 [.pointer none] ∧ At w3 (w.heap.size + 1) 44 [.int .i64 0] ∧ At w3 (w.heap.size + 1 + 1) 3 [.int .i64 0] ∧ Same [] w w3 := ⟨S3.at HN.out.1 (by simp), S3.at HN.out.2.1 (by simp), S3.at HN.out.2.2.1 (by simp), HN.out.2.2.2.step S3 (by simp)⟩
  have c0 : w3.cell? ⟨w.heap.size, 0, none⟩ = some (.pointer none) := M0.cell? 0
  have c1 : w3.cell? ⟨w.heap.size + 1, 0, none⟩ = some (.int .i64 0) := M1.cell? 0
  have c2 : w3.cell? ⟨w.heap.size + 1 + 1, 0, none⟩ = some (.int .i64 0) := M2.cell? 0
  have f0 := M0.frozen 0
  have f1 := M1.frozen 0
  have f2 := M2.frozen 0
  have hsz : w.heap.size + 1 + 1 < w3.heap.size := M2.lt
  have hSu := HSU.out w3 M3
  have HM : Hid (At w3 w.heap.size 27 [.pointer none] ∧ At w3 (w.heap.size + 1) 44 [.int .i64 0] ∧ At w3 (w.heap.size + 1 + 1) 3 [.int .i64 0] ∧ Same [] w w3) := ⟨M0, M1, M2, M3⟩
  clear M0 M1 M2 M3 S3 HN
  by_cases hst : s = t
  · subst hst
    have hne : ((s : Int) != (s : Int)) = false := by simp
    have hRd : RdAt w3 (w3.alloc (.cells #[.slice a n n, .int .i64 0] 117)) a B w3.heap.size 0 := by
      refine ⟨?_, Nat.le_refl _, (Same.refl _ _).alloc _, Nat.zero_le _⟩
      have := At.new w3 #[.slice a n n, .int .i64 0] 117
      rw [hBl]; exact this
    have hPool := rpool_calls w3 (w3.alloc (.cells #[.slice a n n, .int .i64 0] 117)) a B w3.heap.size (HBO.out w3 HM.out.2.2.2) hRd
    have HLQ : Hid (∀ e W, R e W = (match rpool B with
      | .ok (count, ps, at2) => ∃ pv pb db bb fb jg d, e = .returned (.tuple #[.pointer (some ⟨pb, 0, none⟩), .int .i64 0, .int .i64 0]) ∧ pv.map (·.1) = ps ∧ PoolRaw w W B count at2 pv pb db bb fb jg d
      | .error q => e = .returned (.tuple #[.pointer none, .int .i64 12, .int .i64 q]) ∧ Same [] w W)) := fun e W => by rw [HLP.out, if_pos rfl]
    clear hRd HLP
    cases hr : rpool B with
    | error q =>
      rw [hr] at hPool
      have HP : Hid (∀ W, Same [] w W → R (.returned (.tuple #[.pointer none, .int .i64 12, .int .i64 q])) W) := fun W hW => by rw [HLQ.out, hr]; exact ⟨rfl, hW⟩
      clear hr HLQ
      go_wp2_with (first | (go_at_call 41; refine hSu.mono ?_; rintro e w4 ⟨rfl, hw⟩; obtain rfl := hw.symm) | (go_at_call 72; refine hPool.mono ?_; rintro e w5 ⟨rfl, S5⟩; unfold bad))
      refine leaves_cons (f := 69) (args := #[.pointer (some ⟨w.heap.size, 0, none⟩), .pointer (some ⟨w.heap.size + 1, 0, none⟩), .pointer (some ⟨w.heap.size + 1 + 1, 0, none⟩)]) (by simp) (by simp [go_sem]) ?_
      refine (catch_bad w.heap.size (w.heap.size + 1) (w.heap.size + 1 + 1) q _ _ _ _ _ _ _ (S5.at HM.out.1 (by simp)) (S5.at HM.out.2.1 (by simp)) (S5.at HM.out.2.2.1 (by simp)) (by omega) (by omega) (by omega)).mono ?_
      rintro e u' w'' ⟨rfl, rfl, A0, A1, A2, S6⟩
      have d0 : w''.cell? ⟨w.heap.size, 0, none⟩ = some (.pointer none) := A0.cell? 0
      have d1 : w''.cell? ⟨w.heap.size + 1, 0, none⟩ = some (.int .i64 12) := A1.cell? 0
      have d2 : w''.cell? ⟨w.heap.size + 1 + 1, 0, none⟩ = some (.int .i64 q) := A2.cell? 0
      simp [Leaves, settle, results, Try.results33, go_sem, d0, d1, d2]
      exact HP.out _ ((HM.out.2.2.2.step S5 (by simp)).step S6 (by simp; omega))
    | ok pr =>
      obtain ⟨count, ps, at2⟩ := pr
      rw [hr] at hPool
      have HP : Hid (∀ W pv pb db bb fb jg d, pv.map (·.1) = ps → PoolRaw w W B count at2 pv pb db bb fb jg d → R (.returned (.tuple #[.pointer (some ⟨pb, 0, none⟩), .int .i64 0, .int .i64 0])) W) := fun W pv pb db bb fb jg d h1 h2 => by rw [HLQ.out, hr]; exact ⟨pv, pb, db, bb, fb, jg, d, rfl, h1, h2⟩
      clear hr HLQ
      go_wp2_with (first | (go_at_call 41; refine hSu.mono ?_; rintro e w4 ⟨rfl, hw⟩; obtain rfl := hw.symm) | (go_at_call 72; refine hPool.mono ?_; rintro e w5 ⟨pv, pb, db, bb, fb, jg, d, rfl, hps, hraw⟩; have HRW : Hid (pv.map (·.1) = ps ∧ PoolRaw w3 w5 B count at2 pv pb db bb fb jg d) := ⟨hps, hraw⟩; have k0 : w5.cell? ⟨w.heap.size, 0, none⟩ = some (.pointer none) := (hraw.same.at HM.out.1 (by simp)).cell? 0; have k1 : w5.cell? ⟨w.heap.size + 1, 0, none⟩ = some (.int .i64 0) := (hraw.same.at HM.out.2.1 (by simp)).cell? 0; have k2 : w5.cell? ⟨w.heap.size + 1 + 1, 0, none⟩ = some (.int .i64 0) := (hraw.same.at HM.out.2.2.1 (by simp)).cell? 0; have g0 := (hraw.same.at HM.out.1 (by simp)).frozen 0; have g1 := (hraw.same.at HM.out.2.1 (by simp)).frozen 0; have g2 := (hraw.same.at HM.out.2.2.1 (by simp)).frozen 0; clear hps hraw))
      refine leaves_cons (f := 69) (args := #[.pointer (some ⟨w.heap.size, 0, none⟩), .pointer (some ⟨w.heap.size + 1, 0, none⟩), .pointer (some ⟨w.heap.size + 1 + 1, 0, none⟩)]) (by simp) (by simp [go_sem]) ?_
      refine (catch_none w.heap.size (w.heap.size + 1) (w.heap.size + 1 + 1) _).mono ?_
      rintro e u' w'' ⟨rfl, rfl, rfl⟩
      simp [Leaves, settle, results, Try.results33, go_sem, k0, k1, k2]
      have SF : Same [w.heap.size, w.heap.size + 1, w.heap.size + 1 + 1] w5 (((w5.setCell ⟨w.heap.size, 0, none⟩ (.pointer (some ⟨pb, 0, none⟩))).setCell ⟨w.heap.size + 1, 0, none⟩ (.int .i64 0)).setCell ⟨w.heap.size + 1 + 1, 0, none⟩ (.int .i64 0)) := (((Same.refl _ _).set _ _ _ (by simp)).set _ _ _ (by simp)).set _ _ _ (by simp)
      exact HP.out _ _ _ _ _ _ _ _ HRW.out.1 (HRW.out.2.out SF (by intro k hk; simp at hk; omega) ((HM.out.2.2.2.step HRW.out.2.same (by simp)).step SF (by simp; omega)) (by omega))
  · have hne : ((s : Int) != (t : Int)) = true := by simp; omega
    have HP : Hid (∀ W, Same [] w W → R (.returned (.tuple #[.pointer none, .int .i64 11, .int .i64 0])) W) := fun W hW => by
      rw [HLP.out, if_neg hst]; exact ⟨rfl, hW⟩
    clear hst
    go_wp2_with (go_at_call 41; refine hSu.mono ?_; rintro e w4 ⟨rfl, hw⟩; obtain rfl := hw.symm)
    refine leaves_cons (f := 69) (args := #[.pointer (some ⟨w.heap.size, 0, none⟩), .pointer (some ⟨w.heap.size + 1, 0, none⟩), .pointer (some ⟨w.heap.size + 1 + 1, 0, none⟩)]) (by simp) (by simp [go_sem]) ?_
    refine (catch_none w.heap.size (w.heap.size + 1) (w.heap.size + 1 + 1) _).mono ?_
    rintro e u' w'' ⟨rfl, rfl, rfl⟩
    simp [Leaves, settle, results, Try.results33, go_sem, c0, c1, c2]
    exact HP.out _ (((HM.out.2.2.2.set _ _ _ (by omega)).set _ _ _ (by omega)).set _ _ _ (by omega))
theorem load_calls (w : World) (a : Option Addr) (I : List UInt8) (cap : Nat) (h : BytesOld w a I) (hcap : I.length ≤ cap) :
    Calls Try.prog 33 #[.slice a I.length cap] w (LoadPost w I) := by
  by_cases h2 : I.length < 2
  · exact load_short w a I cap h2
  · exact load_long w a I cap h hcap h2
end
section
open Go.RowKit Go.Sort
variable [DecidableEq Blk] [Inhabited Blk] [Inhabited Vol]
def delVol (i : Nat) (l : List Vol) : List Vol := l.take i ++ l.drop (i + 1)
theorem delVol_sub (i : Nat) (l : List Vol) : (delVol i l).Sublist l := by
  have h : (l.drop (i + 1)).Sublist (l.drop i) := by
    rw [← List.drop_drop]; exact List.drop_sublist _ _
  have := List.Sublist.append (List.Sublist.refl (l.take i)) h
  rw [List.take_append_drop] at this
  exact this
theorem delVol_perm (i : Nat) (l : List Vol) (h : i < l.length) : (l[i]! :: delVol i l).Perm l := by
  have e : l = l.take i ++ l[i]! :: l.drop (i + 1) := by
    rw [getElem!_pos l i h, ← List.drop_eq_getElem_cons h, List.take_append_drop]
  unfold delVol
  have := List.perm_middle (a := l[i]!) (l₁ := l.take i) (l₂ := l.drop (i + 1))
  rw [← e] at this
  exact this.symm
theorem ins_perm (x : Nat) (l : List Nat) : (ins x l).Perm (x :: l) := by
  induction l with
  | nil => exact List.Perm.refl _
  | cons y r ih =>
    simp only [ins]
    split
    · exact List.Perm.refl _
    · exact (List.Perm.cons y ih).trans (List.Perm.swap x y r)
theorem insAll_perm (xs : List Nat) : ∀ (l : List Nat), (insAll xs l).Perm (xs ++ l) := by
  induction xs with
  | nil => intro l; exact List.Perm.refl _
  | cons x r ih =>
    intro l
    refine (ih (ins x l)).trans ?_
    refine (List.Perm.append_left r (ins_perm x l)).trans ?_
    exact List.perm_middle
def setVol (i : Nat) (v : Vol) (l : List Vol) : List Vol := l.take i ++ v :: l.drop (i + 1)
theorem setVol_perm (i : Nat) (v : Vol) (l : List Vol) : (setVol i v l).Perm (v :: delVol i l) := List.perm_middle
theorem setVol_map {β : Type} (f : Vol → β) (i : Nat) (v : Vol) (l : List Vol) (h : i < l.length) (hf : f v = f l[i]!) : (setVol i v l).map f = l.map f := by
  have e : l = l.take i ++ l[i]! :: l.drop (i + 1) := by
    rw [getElem!_pos l i h, ← List.drop_eq_getElem_cons h, List.take_append_drop]
  unfold setVol
  rw [List.map_append, List.map_cons, hf]
  conv => rhs; rw [e]
  rw [List.map_append, List.map_cons]
theorem setVol_mem {i : Nat} {v : Vol} {l : List Vol} {x : Vol} : x ∈ setVol i v l ↔ x = v ∨ x ∈ delVol i l := by
  rw [(setVol_perm i v l).mem_iff, List.mem_cons]
theorem get_mem {l : List Vol} {i : Nat} (hi : i < l.length) : l[i]! ∈ l := by rw [getElem!_pos l i hi]; exact List.getElem_mem hi
theorem Good.grow {s : St} {fr : List Nat} (h : Good s fr) (i : Nat) (hi : i < s.vols.length) (k : Nat) (hk : k ≤ fr.length) (v : Vol) (hx : v.xs = (s.vols[i]!).xs ++ fr.take k) (hn : v.name = (s.vols[i]!).name) (hpc : Pics (setVol i v s.vols)) :
    Good { s with m := s.m - k, d := popsD s.m k s.d, vols := setVol i v s.vols } (fr.drop k) := by
  have hp := delVol_perm i s.vols hi
  have hmem : s.vols[i]! ∈ s.vols := by rw [getElem!_pos s.vols i hi]; exact List.getElem_mem hi
  obtain ⟨_, h2⟩ := h.heap.pops k (by rw [← h.heap.len]; exact hk)
  refine ⟨h2, ?_, fun x hx => h.zero x (List.mem_of_mem_drop hx), fun u hu => ?_, hpc⟩
  · have hfl : ((s.vols[i]!).xs ++ (delVol i s.vols).flatMap (·.xs)).Perm (s.vols.flatMap (·.xs)) := by
      have := hp.flatMap_right (·.xs)
      simpa using this
    have hfl2 : ((setVol i v s.vols).flatMap (·.xs)).Perm (((s.vols[i]!).xs ++ fr.take k) ++ (delVol i s.vols).flatMap (·.xs)) := by
      have := (setVol_perm i v s.vols).flatMap_right (·.xs)
      rw [List.flatMap_cons, hx] at this
      exact this
    refine ((List.Perm.append_left (fr.drop k) hfl2).trans ?_).trans h.parts
    have e1 : (fr.drop k ++ ((s.vols[i]!).xs ++ fr.take k ++ (delVol i s.vols).flatMap (·.xs))).Perm ((fr.take k ++ fr.drop k) ++ ((s.vols[i]!).xs ++ (delVol i s.vols).flatMap (·.xs))) := by
      have a1 : (fr.drop k ++ ((s.vols[i]!).xs ++ fr.take k ++ (delVol i s.vols).flatMap (·.xs))).Perm (fr.drop k ++ (fr.take k ++ (s.vols[i]!).xs ++ (delVol i s.vols).flatMap (·.xs))) :=
        List.Perm.append_left _ (List.Perm.append_right _ List.perm_append_comm)
      refine a1.trans ?_
      rw [List.append_assoc, ← List.append_assoc (fr.drop k)]
      exact List.Perm.append_right _ List.perm_append_comm
    rw [List.take_append_drop] at e1
    exact e1.trans (List.Perm.append_left fr hfl)
  · rcases List.mem_cons.1 ((setVol_perm i v s.vols).mem_iff.1 hu) with rfl | hu
    · rw [hn]; exact h.names _ hmem
    · exact h.names u ((delVol_sub i s.vols).mem hu)
theorem setVol_xs (i : Nat) (v : Vol) (l : List Vol) (hi : i < l.length) (hx : v.xs = (l[i]!).xs) : (setVol i v l).flatMap (·.xs) = l.flatMap (·.xs) := by
  have := setVol_map (·.xs) i v l hi hx
  rw [List.flatMap_def, List.flatMap_def, this]
/-- One volume told otherwise, its blocks the same, and blocks written that are not free. -/
theorem Good.set {s : St} {fr : List Nat} (h : Good s fr) (i : Nat) (hi : i < s.vols.length) (v : Vol) (hx : v.xs = (s.vols[i]!).xs) (hn : v.name = (s.vols[i]!).name) (bl : List Blk) (hz : ∀ x ∈ fr, bl[x]! = Blk.zero) (hpc : Pics (setVol i v s.vols)) :
    Good { s with bl := bl, vols := setVol i v s.vols } fr := by
  refine ⟨h.heap, ?_, hz, fun u hu => ?_, hpc⟩
  · show (fr ++ (setVol i v s.vols).flatMap (·.xs)).Perm _
    rw [setVol_xs i v s.vols hi hx]; exact h.parts
  · rcases setVol_mem.1 hu with rfl | hu
    · rw [hn]; exact h.names _ (get_mem hi)
    · exact h.names u ((delVol_sub i s.vols).mem hu)
/-- What a call leaves that also takes the block vb, which was new ahead of it. -/
structure AfterB (w : World) (s : St) (vb : Nat) (w' : World) (s' : St) (fr' : List Nat) : Prop where
  pool : PoolAt w' s'
  good : Good s' fr'
  same : Same (vb :: s.foot) w w'
  foot : ∀ k ∈ s'.foot, k ∈ s.foot ∨ k = vb ∨ w.heap.size ≤ k
  pb : s'.pb = s.pb
  n : s'.n = s.n
theorem AfterB.after {w0 w : World} {s : St} {vb : Nat} {w' : World} {s' : St} {fr' : List Nat} (h : AfterB w s vb w' s' fr') (h0 : Same [] w0 w) (hvb : w0.heap.size ≤ vb) : After w0 s w' s' fr' := by
  have hz := h0.size
  refine ⟨h.pool, h.good, (h0.mono (T := s.foot) (by simp)).step h.same ?_, fun k hk => ?_, h.pb, h.n⟩
  · intro k hk hl
    rcases List.mem_cons.1 hk with e | e
    · omega
    · exact e
  · rcases h.foot k hk with e | e | e
    · exact Or.inl e
    · right; omega
    · right; omega
end
end Go.Proofs.Ytpddgdjocffgdaa
