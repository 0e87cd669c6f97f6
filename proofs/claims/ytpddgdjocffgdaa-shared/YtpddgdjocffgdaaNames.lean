/- Names: comparing them, and the search among the volumes, by contracts. -/
import Derived.Test.YtpddgdjocffgdaaDiskC
import Derived.Lib.Bytealg
namespace Go.Proofs.Ytpddgdjocffgdaa
open Go.RowKit Go.Sort
set_option linter.unusedVariables false
set_option linter.unusedSimpArgs false
set_option linter.unusedSectionVars false
variable [DecidableEq Blk] [Inhabited Blk]

def cmpB (a b : ByteArray) : Int := Lib.compareBytes a.data.toList b.data.toList

theorem cmpstring_run (a b : ByteArray) (w : World) : (callFunc 129 #[.string a, .string b]).run Try.prog w = .ok (.value (.int .i64 (cmpB a b))) w := by
  rw [run_callFunc_extern Try.func129 (by kernel_rfl) (by kernel_rfl) (by kernel_rfl) (e := Extern.BytealgCompare.compare) (by kernel_rfl), Lib.run_compareString]
  rfl

set_option maxHeartbeats 400000 in
theorem compareName_calls (vb : Nat) (n t : ByteArray) (w : World) (h : w.cell? ⟨vb, 0, none⟩ = some (.string n)) :
    Calls Try.prog 111 #[.pointer (some ⟨vb, 0, none⟩), .string t] w fun e w' => e = .returned (.int .i64 (cmpB n t)) ∧ w' = w := by
  have hr := cmpstring_run
  go_enter Try.func111, Try.ntmps111
  go_wp2
  go_ret
  exact ⟨rfl, rfl⟩

/-- Where a name stands, or would stand, in a list in order; whether it stands there. -/
def posOf (ns : List ByteArray) (t : ByteArray) : Nat := ns.countP fun n => decide (cmpB n t < 0)
def isIn (ns : List ByteArray) (t : ByteArray) : Bool := decide (posOf ns t < ns.length) && decide (cmpB ns[posOf ns t]! t = 0)

/-- A list whose first i elements meet p and whose others do not: i meet it. -/
theorem countP_bound {α : Type} [Inhabited α] (p : α → Bool) : ∀ (l : List α) (i : Nat), i ≤ l.length → (∀ t, t < i → p l[t]! = true) → (∀ t, i ≤ t → t < l.length → p l[t]! = false) → l.countP p = i
  | [], i, hi, _, _ => by simp at hi; simp [hi]
  | a :: r, 0, _, _, h2 => by
    rw [List.countP_eq_zero]
    intro x hx
    obtain ⟨t, ht, rfl⟩ := List.getElem_of_mem hx
    have := h2 t (Nat.zero_le _) ht
    rw [getElem!_pos (a :: r) t ht] at this
    simp [this]
  | a :: r, i + 1, hi, h1, h2 => by
    have ha : p a = true := by simpa using h1 0 (Nat.succ_pos _)
    rw [List.countP_cons_of_pos ha, countP_bound p r i (by simpa using hi) (fun t ht => by simpa using h1 (t + 1) (by omega)) (fun t h3 h4 => by simpa using h2 (t + 1) (by omega) (by simpa using h4))]

set_option maxHeartbeats 1000000 in
set_option maxRecDepth 100000 in
theorem search_calls (ab cap : Nat) (a : Option Addr) (vs : List Nat) (ns : List ByteArray) (t : ByteArray) (w : World) (s : Value) (hs : s = .slice a ns.length cap) (hsmall : ns.length ≤ 1000)
    (hc : ∀ i, i < ns.length → a = some ⟨ab, 0, none⟩ ∧ w.cell? ⟨ab, i, none⟩ = some (.pointer (some ⟨vs[i]!, 0, none⟩)) ∧ w.cell? ⟨vs[i]!, 0, none⟩ = some (.string ns[i]!))
    (hmono : ∀ i j, i ≤ j → j < ns.length → cmpB ns[j]! t < 0 → cmpB ns[i]! t < 0) :
    Calls Try.prog 110 #[s, .string t, .func (.func 111) #[] #[]] w fun e w' => e = .returned (.tuple #[.int .i64 (posOf ns t : Nat), .bool (isIn ns t)]) ∧ w' = w := by
  subst hs
  generalize hcnt : posOf ns t = cnt
  have CN : Hid (posOf ns t = cnt) := hcnt
  generalize hfin : isIn ns t = fin
  have FIN : Hid ((decide (cnt < ns.length) && decide (cmpB ns[cnt]! t = 0)) = fin) := by rw [← hcnt]; exact hfin
  have M : Hid _ := hmono
  have HC : Hid _ := hc
  clear hcnt hfin hmono hc
  go_enter Try.func110, Try.ntmps110
  go_wp2
  go_loopg [9, 10] ns.length (fun kx s9 s10 wr => ∃ lo hi : Nat, s9 = .int .i64 lo ∧ s10 = .int .i64 hi ∧ lo ≤ hi ∧ hi ≤ ns.length ∧ hi - lo ≤ kx ∧ wr = w ∧
    Hid ((∀ t', t' < lo → cmpB ns[t']! t < 0) ∧ (∀ t', hi ≤ t' → t' < ns.length → 0 ≤ cmpB ns[t']! t)))
  case atStart => exact ⟨0, ns.length, rfl, rfl, Nat.zero_le _, Nat.le_refl _, by omega, rfl, (⟨fun t ht => absurd ht (Nat.not_lt_zero _), fun t h1 h2 => by omega⟩ : (∀ t', t' < 0 → cmpB ns[t']! t < 0) ∧ (∀ t', ns.length ≤ t' → t' < ns.length → 0 ≤ cmpB ns[t']! t))⟩
  case round =>
    obtain ⟨lo, hi, rfl, rfl, hlh, hin, hg, rfl, I⟩ := hrel
    by_cases hlt : lo < hi
    · obtain ⟨rfl, c1, c2⟩ := HC.out ((lo + hi) / 2) (by omega)
      generalize hy : ns[(lo + hi) / 2]! = y at c2
      generalize vs[(lo + hi) / 2]! = vb at c1 c2
      have Y : Hid (ns[(lo + hi) / 2]! = y) := hy
      clear hy
      have hcn := compareName_calls vb y t wr c2
      have l1 : ((lo : Int) + (hi : Int)) / 2 < (ns.length : Int) := by omega
      by_cases hyx : cmpB y t < 0
      · go_wp2_with (go_at_call 111; refine hcn.mono ?_; rintro e w' ⟨rfl, rfl⟩)
        go_roundg (hi - ((lo + hi) / 2 + 1))
        case measure => omega
        case rel =>
          have I2 : Hid ((∀ t', t' < (lo + hi) / 2 + 1 → cmpB ns[t']! t < 0) ∧ (∀ t', hi ≤ t' → t' < ns.length → 0 ≤ cmpB ns[t']! t)) := ⟨fun t' ht => M.out t' ((lo + hi) / 2) (by omega) (by omega) (by rw [Y.out]; exact hyx), I.out.2⟩
          exact ⟨(lo + hi) / 2 + 1, hi, by rw [show ((lo : Int) + (hi : Int)) / 2 + 1 = (((lo + hi) / 2 + 1 : Nat) : Int) by omega], rfl, by omega, hin, Nat.le_refl _, rfl, I2⟩
      · go_wp2_with (go_at_call 111; refine hcn.mono ?_; rintro e w' ⟨rfl, rfl⟩)
        go_roundg ((lo + hi) / 2 - lo)
        case measure => omega
        case rel =>
          have I2 : Hid ((∀ t', t' < lo → cmpB ns[t']! t < 0) ∧ (∀ t', (lo + hi) / 2 ≤ t' → t' < ns.length → 0 ≤ cmpB ns[t']! t)) := ⟨I.out.1, fun t' ht htn => Int.not_lt.1 fun h => by have := M.out ((lo + hi) / 2) t' ht htn h; rw [Y.out] at this; omega⟩
          exact ⟨lo, (lo + hi) / 2, rfl, by rw [show ((lo : Int) + (hi : Int)) / 2 = (((lo + hi) / 2 : Nat) : Int) by omega], by omega, by omega, Nat.le_refl _, rfl, I2⟩
    · obtain rfl : hi = lo := by omega
      have ecnt : cnt = hi := by
        rw [← CN.out]
        refine countP_bound _ ns hi hin (fun t' ht => ?_) (fun t' h3 h4 => ?_)
        · exact decide_eq_true (I.out.1 t' ht)
        · exact decide_eq_false (by have := I.out.2 t' h3 h4; omega)
      subst ecnt
      by_cases hn : cnt < ns.length
      · obtain ⟨rfl, c1, c2⟩ := HC.out cnt hn
        generalize hy : ns[cnt]! = y at c2
        generalize vs[cnt]! = vb at c1 c2
        have Y : Hid (ns[cnt]! = y) := hy
        clear hy
        have hcn := compareName_calls vb y t wr c2
        by_cases hyx : cmpB y t = 0
        · go_wp2_with (go_at_call 111; refine hcn.mono ?_; rintro e w' ⟨rfl, rfl⟩)
          go_ret2
          exact ⟨by rw [← FIN.out, Y.out]; simp [hn, hyx], rfl⟩
        · go_wp2_with (go_at_call 111; refine hcn.mono ?_; rintro e w' ⟨rfl, rfl⟩)
          go_ret2
          exact ⟨by rw [← FIN.out, Y.out]; simp [hn, hyx], rfl⟩
      · go_wp2
        go_ret2
        exact ⟨by rw [← FIN.out]; simp [hn], rfl⟩
end Go.Proofs.Ytpddgdjocffgdaa
