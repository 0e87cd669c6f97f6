/- The reference's reader of an image: what it reads is what the program's reads. The reference's reader of an image: the entries and the Pool, in memory, while they are read. -/
import Derived.Test.YtpddgdjocffgdaaG21
import Derived.Test.YtpddgdjocffgdaaG26
import Derived.Test.YtpddgdjocffgdaaG28
import Derived.Test.YtpddgdjocffgdaaG12
namespace Go.Proofs.Ytpddgdjocffgdaa
set_option linter.unusedVariables false
set_option linter.unusedSimpArgs false
set_option linter.unusedSectionVars false
section
open Go.RowKit Go.Sort
variable [DecidableEq Blk] [Inhabited Blk] [Inhabited Vol] [Inhabited RVol]
theorem num_ok {B : List UInt8} {n lo hi at_ v at1 : Nat} (h : rnum B n lo hi at_ = .ok (v, at1)) : numX B n at_ none = (v, at1, none) ∧ lo ≤ v ∧ v ≤ hi := by
  obtain ⟨h1, h2, h3, h4, h5⟩ := rnum_ok h
  refine ⟨?_, h2, h3⟩
  unfold numX
  simp only
  rw [if_pos h1, h4, h5]
theorem num_err {B : List UInt8} {n lo hi at_ q : Nat} (h : rnum B n lo hi at_ = .error q) (ok : Bool) (hok : (lo ≤ (numX B n at_ none).1 ∧ (numX B n at_ none).1 ≤ hi) ↔ ok = true) : mustB (numX B n at_ none).2.2 ok at_ = some q := by
  unfold rnum at h
  unfold numX at hok ⊢
  simp only at hok ⊢
  by_cases h1 : at_ + n ≤ B.length
  · rw [if_pos h1] at h hok ⊢
    by_cases h2 : lo ≤ numAt B at_ n ∧ numAt B at_ n ≤ hi
    · rw [if_pos h2] at h; cases h
    · rw [if_neg h2] at h
      obtain rfl : at_ = q := by simpa using h
      have : ok = false := by cases ok with | false => rfl | true => exact absurd (hok.2 rfl) h2
      subst this
      rfl
  · rw [if_neg h1] at h ⊢
    obtain rfl : B.length = q := by simpa using h
    rfl
theorem seenX_some (k at_ : Nat) (q : Nat) : ∀ l : List Nat, seenX k at_ l (some q) = some q
  | [] => rfl
  | y :: r => by show seenX k at_ r (mustB (some q) _ at_) = some q; exact seenX_some k at_ q r
theorem seenX_none (k at_ : Nat) : ∀ l : List Nat, seenX k at_ l none = if k ∈ l then some at_ else none
  | [] => rfl
  | y :: r => by
    show seenX k at_ r (mustB none (decide (y ≠ k)) at_) = _
    by_cases h : y = k
    · subst h
      have : mustB none (decide (y ≠ y)) at_ = some at_ := by simp [mustB]
      rw [this, seenX_some, if_pos (by simp)]
    · have : mustB none (decide (y ≠ k)) at_ = none := by simp [mustB, h]
      rw [this, seenX_none k at_ r]
      have hk : (k ∈ y :: r) ↔ (k ∈ r) := by simp; intro e; exact absurd e.symm h
      by_cases hr : k ∈ r
      · rw [if_pos hr, if_pos (hk.2 hr)]
      · rw [if_neg hr, if_neg (fun e => hr (hk.1 e))]
theorem numsX_some (B : List UInt8) (bound : Nat) (c : Nat) (l : List Nat) (a q : Nat) : numsX B bound c l a (some q) = (l, a, some q) := by
  cases c <;> rfl
theorem nums_ok {B : List UInt8} {bound : Nat} (hb : 0 < bound) : ∀ {c : Nat} {seen acc : List Nat} {at_ : Nat} {xs : List Nat} {at1 : Nat}, rnums B bound c seen acc at_ = .ok (xs, at1) → numsX B bound c (seen ++ acc) at_ none = (seen ++ xs, at1, none)
  | 0, seen, acc, at_, xs, at1, h => by
    obtain ⟨rfl, rfl⟩ : acc = xs ∧ at_ = at1 := by simpa [rnums] using h
    rfl
  | c + 1, seen, acc, at_, xs, at1, h => by
    rw [rnums] at h
    cases hr : rnum B 2 0 (bound - 1) at_ with
    | error q => rw [hr] at h; cases h
    | ok p =>
      obtain ⟨k, a1⟩ := p
      rw [hr] at h
      simp only at h
      obtain ⟨e1, e2, e3⟩ := num_ok hr
      by_cases hk : k ∈ seen ++ acc
      · rw [if_pos hk] at h; cases h
      · rw [if_neg hk] at h
        rw [numsX, e1]
        simp only
        have hm : mustB none (decide (k < bound)) at_ = none := by have : k < bound := by omega
                                                                   simp [mustB, this]
        rw [hm, seenX_none, if_neg hk, List.append_assoc]
        exact nums_ok hb h
theorem nums_err {B : List UInt8} {bound : Nat} (hb : 0 < bound) : ∀ {c : Nat} {seen acc : List Nat} {at_ : Nat} {q : Nat}, rnums B bound c seen acc at_ = .error q → (numsX B bound c (seen ++ acc) at_ none).2.2 = some q
  | 0, seen, acc, at_, q, h => by simp [rnums] at h
  | c + 1, seen, acc, at_, q, h => by
    rw [rnums] at h
    rw [numsX]
    cases hr : rnum B 2 0 (bound - 1) at_ with
    | error q' =>
      rw [hr] at h
      obtain rfl : q' = q := by simpa using h
      have := num_err hr (decide ((numX B 2 at_ none).1 < bound)) (by simp; omega)
      rw [this, seenX_some, numsX_some]
    | ok p =>
      obtain ⟨k, a1⟩ := p
      rw [hr] at h
      simp only at h
      obtain ⟨e1, e2, e3⟩ := num_ok hr
      rw [e1]
      simp only
      have hm : mustB none (decide (k < bound)) at_ = none := by have : k < bound := by omega
                                                                 simp [mustB, this]
      rw [hm, seenX_none]
      by_cases hk : k ∈ seen ++ acc
      · rw [if_pos hk] at h ⊢
        obtain rfl : at_ = q := by simpa using h
        rw [numsX_some]
      · rw [if_neg hk] at h ⊢
        rw [List.append_assoc]
        exact nums_err hb h
theorem rnums_len {B : List UInt8} {bound : Nat} : ∀ {c : Nat} {seen acc : List Nat} {at_ : Nat} {xs : List Nat} {at1 : Nat}, rnums B bound c seen acc at_ = .ok (xs, at1) → xs.length = acc.length + c
  | 0, seen, acc, at_, xs, at1, h => by
    obtain ⟨rfl, rfl⟩ : acc = xs ∧ at_ = at1 := by simpa [rnums] using h
    rfl
  | c + 1, seen, acc, at_, xs, at1, h => by
    rw [rnums] at h
    cases hr : rnum B 2 0 (bound - 1) at_ with
    | error q => rw [hr] at h; cases h
    | ok p =>
      obtain ⟨k, a1⟩ := p
      rw [hr] at h
      simp only at h
      by_cases hk : k ∈ seen ++ acc
      · rw [if_pos hk] at h; cases h
      · rw [if_neg hk] at h
        have := rnums_len h
        rw [List.length_append, List.length_singleton] at this
        omega
theorem orgX_some (B : List UInt8) (count kind a q : Nat) : (orgX B count kind a (some q)).2.2.2 = some q := by
  unfold orgX; split <;> rfl
theorem tailX_some (B : List UInt8) (bound : Nat) (used : List Nat) (kind size a q : Nat) : (tailX B bound used kind size a (some q)).2.2.2 = some q := by
  unfold tailX
  show (numsX B bound _ used _ (mustB (some q) _ a)).2.2 = some q
  rw [show ∀ ok x, mustB (some q) ok x = some q from fun _ _ => rfl, numsX_some]
theorem keptX_some (B : List UInt8) (kind n size a q : Nat) : (keptX B kind n size a (some q)).2.2 = some q := by
  unfold keptX
  show (numsX B size _ [] _ (mustB (some q) _ a)).2.2 = some q
  rw [show ∀ ok x, mustB (some q) ok x = some q from fun _ _ => rfl, numsX_some]
theorem entryX_head {B : List UInt8} {ahead : Option ByteArray} {bound count : Nat} {used : List Nat} {a0 : Nat} {b0 : Option Nat} {q : Nat} (h : (headX B ahead a0 b0).bd = some q) : (entryX B ahead bound count used a0 b0).2.2.2 = some q := by
  unfold entryX
  simp only
  rw [h]
  have h1 := orgX_some B count (headX B ahead a0 b0).kind (headX B ahead a0 b0).at_ q
  rw [h1]
  have h2 := tailX_some B bound used (headX B ahead a0 b0).kind (headX B ahead a0 b0).size (orgX B count (headX B ahead a0 b0).kind (headX B ahead a0 b0).at_ (some q)).2.2.1 q
  split
  · exact h2
  · rw [h2]; exact keptX_some _ _ _ _ _ _
theorem ahead_first {t : ByteArray} (h : nameB t = true) : cmpB ⟨#[]⟩ t < 0 := by
  have hs : 1 ≤ t.size := by
    simp only [nameB, Bool.and_eq_true, decide_eq_true_eq] at h
    exact h.1.1
  have h1 : Op.bytesLess (⟨#[]⟩ : ByteArray).toList t.toList = decide (cmpB ⟨#[]⟩ t < 0) := text_less _ _
  have h2 : Op.bytesLess (⟨#[]⟩ : ByteArray).toList t.toList = true := by
    rw [ByteArray.toList_eq, ByteArray.toList_eq]
    cases ht : t.data.toList with
    | nil => have : t.size = 0 := by show t.data.size = 0; rw [← Array.length_toList, ht]; rfl
             omega
    | cons x r => rfl
  rw [h2] at h1
  simpa using h1.symm
/-- The name that stood ahead, as both have it. -/
def AheadIs (o : Option ByteArray) (t : ByteArray) : Prop := (o = none ∧ t = ⟨#[]⟩) ∨ o = some t
theorem name_ok {B : List UInt8} {o : Option ByteArray} {ahead : ByteArray} {a0 : Nat} {name : ByteArray} {at1 : Nat} (ha : AheadIs o ahead) (h : rname B ahead a0 = .ok (name, at1)) :
    ∃ n a, numX B 1 a0 none = (n, a, none) ∧ (1 ≤ n ∧ n ≤ 10) ∧ takeX B n a none = (name, at1, none) ∧ nameB name = true ∧ aheadX o name a none = none := by
  unfold rname at h
  cases hr : rnum B 1 1 10 a0 with
  | error q => rw [hr] at h; cases h
  | ok p =>
    obtain ⟨n, a⟩ := p
    rw [hr] at h
    simp only at h
    obtain ⟨e1, e2, e3⟩ := num_ok hr
    by_cases hl : a + n ≤ B.length
    · rw [if_pos hl] at h
      by_cases hn : nameB (textAt B a n) = true ∧ cmpB ahead (textAt B a n) < 0
      · rw [if_pos hn] at h
        obtain ⟨rfl, rfl⟩ : textAt B a n = name ∧ a + n = at1 := by simpa using h
        refine ⟨n, a, e1, ⟨e2, e3⟩, by simp only [takeX]; rw [if_pos hl], hn.1, ?_⟩
        rcases ha with ⟨rfl, rfl⟩ | rfl
        · rfl
        · simp [aheadX, mustB, hn.2]
      · rw [if_neg hn] at h; cases h
    · rw [if_neg hl] at h; cases h
theorem name_err {B : List UInt8} {o : Option ByteArray} {ahead : ByteArray} {a0 q : Nat} (ha : AheadIs o ahead) (h : rname B ahead a0 = .error q) :
    aheadX o (takeX B (numX B 1 a0 none).1 (numX B 1 a0 none).2.1 (mustB (numX B 1 a0 none).2.2 (decide (1 ≤ (numX B 1 a0 none).1 ∧ (numX B 1 a0 none).1 ≤ 10)) a0)).1 (numX B 1 a0 none).2.1 (mustB (takeX B (numX B 1 a0 none).1 (numX B 1 a0 none).2.1 (mustB (numX B 1 a0 none).2.2 (decide (1 ≤ (numX B 1 a0 none).1 ∧ (numX B 1 a0 none).1 ≤ 10)) a0)).2.2 (nameB (takeX B (numX B 1 a0 none).1 (numX B 1 a0 none).2.1 (mustB (numX B 1 a0 none).2.2 (decide (1 ≤ (numX B 1 a0 none).1 ∧ (numX B 1 a0 none).1 ≤ 10)) a0)).1) (numX B 1 a0 none).2.1) = some q := by
  have key : ∀ t a q, aheadX o t a (some q) = some q := by
    intro t a q
    cases o with
    | none => rfl
    | some u => rfl
  unfold rname at h
  cases hr : rnum B 1 1 10 a0 with
  | error q' =>
    rw [hr] at h
    obtain rfl : q' = q := by simpa using h
    have := num_err hr (decide (1 ≤ (numX B 1 a0 none).1 ∧ (numX B 1 a0 none).1 ≤ 10)) (by simp)
    rw [this]
    exact key _ _ _
  | ok p =>
    obtain ⟨n, a⟩ := p
    rw [hr] at h
    simp only at h
    obtain ⟨e1, e2, e3⟩ := num_ok hr
    rw [e1]
    have hm : mustB none (decide (1 ≤ n ∧ n ≤ 10)) a0 = none := by simp [mustB, e2, e3]
    simp only [hm]
    by_cases hl : a + n ≤ B.length
    · rw [if_pos hl] at h
      have ht : takeX B n a none = (textAt B a n, a + n, none) := by simp only [takeX]; rw [if_pos hl]
      rw [ht]
      simp only
      by_cases hn : nameB (textAt B a n) = true ∧ cmpB ahead (textAt B a n) < 0
      · rw [if_pos hn] at h; cases h
      · rw [if_neg hn] at h
        obtain rfl : a = q := by simpa using h
        by_cases hnb : nameB (textAt B a n) = true
        · have hc : ¬ cmpB ahead (textAt B a n) < 0 := fun e => hn ⟨hnb, e⟩
          rcases ha with ⟨rfl, rfl⟩ | rfl
          · exact absurd (ahead_first hnb) hc
          · rw [hnb]; simp [aheadX, mustB, hc]
        · have : nameB (textAt B a n) = false := by simpa using hnb
          rw [this]
          exact key _ _ _
    · rw [if_neg hl] at h
      obtain rfl : B.length = q := by simpa using h
      have ht : takeX B n a none = (⟨#[]⟩, a, some B.length) := by simp only [takeX]; rw [if_neg hl]
      rw [ht]
      exact key _ _ _
/-- An entry, as the reference has it. -/
def PEnt.ref (p : PEnt) : REnt := ⟨p.name, p.size, if p.kind = 0 then none else some p.origin, p.originAt, p.xs, p.kept, decide (p.kind = 2)⟩
theorem must_none {ok : Bool} (h : ok = true) (q : Nat) : mustB none ok q = none := by rw [h]; rfl
theorem entry_ok {B : List UInt8} {o : Option ByteArray} {ahead : ByteArray} {count bound : Nat} {used : List Nat} {a0 : Nat} {p : PEnt} {at1 : Nat} (ha : AheadIs o ahead) (hb : 0 < bound) (hc : 0 < count) (h : rentry B count bound used ahead a0 = .ok (p, at1)) :
    entryX B o bound count used a0 none = (p.ref, used ++ p.xs, at1, none) := by
  unfold rentry at h
  cases hn : rname B ahead a0 with
  | error q => rw [hn] at h; cases h
  | ok x =>
    obtain ⟨name, a1⟩ := x
    rw [hn] at h
    simp only at h
    obtain ⟨n, a, n1, n2, n3, n4, n5⟩ := name_ok ha hn
    cases hk : rnum B 1 0 2 a1 with
    | error q => rw [hk] at h; cases h
    | ok x =>
      obtain ⟨kind, a2⟩ := x
      rw [hk] at h
      simp only at h
      obtain ⟨k1, k2, k3⟩ := num_ok hk
      cases hs : rnum B 2 1 200 a2 with
      | error q => rw [hs] at h; cases h
      | ok x =>
        obtain ⟨size, a3⟩ := x
        rw [hs] at h
        simp only at h
        obtain ⟨s1, s2, s3⟩ := num_ok hs
        have hH : headX B o a0 none = ⟨name, kind, size, a3, none⟩ := by
          unfold headX
          simp only [n1, must_none (ok := decide (1 ≤ n ∧ n ≤ 10)) (by simpa using n2), n3, must_none n4, n5, k1, must_none (ok := decide (kind ≤ 2)) (by simpa using k3), s1, must_none (ok := decide (1 ≤ size ∧ size ≤ 200)) (by simp; omega)]
        unfold entryX
        simp only [hH]
        by_cases hk0 : kind = 0
        · subst hk0
          rw [if_pos rfl] at h
          unfold rvol at h
          cases hv : rnum B 2 size size a3 with
          | error q => rw [hv] at h; cases h
          | ok x =>
            obtain ⟨c, a4⟩ := x
            rw [hv] at h
            simp only at h
            obtain ⟨c1, c2, c3⟩ := num_ok hv
            obtain rfl : c = size := by omega
            cases hx : rnums B bound c used [] a4 with
            | error q => rw [hx] at h; cases h
            | ok x =>
              obtain ⟨xs, a5⟩ := x
              rw [hx] at h
              obtain ⟨rfl, rfl⟩ : (⟨name, 0, c, 0, 0, xs, []⟩ : PEnt) = p ∧ a5 = at1 := by simpa using h
              have hnx := nums_ok hb hx
              rw [List.append_nil] at hnx
              have hT : tailX B bound used 0 c a3 none = (c, used ++ xs, a5, none) := by
                unfold tailX
                simp only [c1]
                rw [must_none, hnx]
                simp; omega
              simp [orgX, hT, PEnt.ref]
        · rw [if_neg hk0] at h
          unfold rpic at h
          cases ho : rnum B 1 0 (count - 1) a3 with
          | error q => rw [ho] at h; cases h
          | ok x =>
            obtain ⟨og, a4⟩ := x
            rw [ho] at h
            simp only at h
            obtain ⟨o1, o2, o3⟩ := num_ok ho
            cases hv : rnum B 2 1 size a4 with
            | error q => rw [hv] at h; cases h
            | ok x =>
              obtain ⟨c, a5⟩ := x
              rw [hv] at h
              simp only at h
              obtain ⟨c1, c2, c3⟩ := num_ok hv
              cases hx : rnums B bound c used [] a5 with
              | error q => rw [hx] at h; cases h
              | ok x =>
                obtain ⟨xs, a6⟩ := x
                rw [hx] at h
                simp only at h
                have hnx := nums_ok hb hx
                rw [List.append_nil] at hnx
                have hxl : xs.length = c := by have := (rnums_len hx); simpa using this
                cases hkk : rnum B 2 0 (if kind = 2 then 0 else xs.length) a6 with
                | error q => rw [hkk] at h; cases h
                | ok x =>
                  obtain ⟨k, a7⟩ := x
                  rw [hkk] at h
                  simp only at h
                  obtain ⟨q1, q2, q3⟩ := num_ok hkk
                  cases hkx : rnums B size k [] [] a7 with
                  | error q => rw [hkx] at h; cases h
                  | ok x =>
                    obtain ⟨kept, a8⟩ := x
                    rw [hkx] at h
                    obtain ⟨rfl, rfl⟩ : (⟨name, kind, size, og, a3, xs, kept⟩ : PEnt) = p ∧ a8 = at1 := by simpa using h
                    have hkq := nums_ok (by omega) hkx
                    have hO : orgX B count kind a3 none = (some og, a3, a4, none) := by
                      unfold orgX
                      rw [if_neg hk0, o1, must_none (ok := decide (og < count)) (by simp; omega)]
                    have hT : tailX B bound used kind size a4 none = (c, used ++ xs, a6, none) := by
                      have hm := must_none (ok := decide (1 ≤ c ∧ c ≤ size ∧ (0 < kind ∨ c = size))) (by simp; omega) a4
                      unfold tailX
                      simp only [c1]
                      rw [hm, hnx]
                    have hK : keptX B kind c size a6 none = (kept, a8, none) := by
                      unfold keptX
                      have hq : k ≤ c ∧ (kind = 1 ∨ k = 0) := by
                        by_cases h2 : kind = 2
                        · rw [if_pos h2] at q3; omega
                        · rw [if_neg h2] at q3; omega
                      simp only [q1, must_none (ok := decide (k ≤ c ∧ (kind = 1 ∨ k = 0))) (by simpa using hq)]
                      simpa using hkq
                    simp [hO, hT, hK, PEnt.ref, hk0]
theorem entry_err {B : List UInt8} {o : Option ByteArray} {ahead : ByteArray} {count bound : Nat} {used : List Nat} {a0 q : Nat} (ha : AheadIs o ahead) (hb : 0 < bound) (hc : 0 < count) (h : rentry B count bound used ahead a0 = .error q) :
    (entryX B o bound count used a0 none).2.2.2 = some q := by
  unfold rentry at h
  cases hn : rname B ahead a0 with
  | error q' =>
    rw [hn] at h
    obtain rfl : q' = q := by simpa using h
    refine entryX_head ?_
    unfold headX
    simp only
    rw [name_err ha hn]
    rfl
  | ok x =>
    obtain ⟨name, a1⟩ := x
    rw [hn] at h
    simp only at h
    obtain ⟨n, a, n1, n2, n3, n4, n5⟩ := name_ok ha hn
    have hm1 := must_none (ok := decide (1 ≤ n ∧ n ≤ 10)) (by simpa using n2) a0
    cases hk : rnum B 1 0 2 a1 with
    | error q' =>
      rw [hk] at h
      obtain rfl : q' = q := by simpa using h
      refine entryX_head ?_
      have := num_err hk (decide ((numX B 1 a1 none).1 ≤ 2)) (by simp)
      unfold headX
      simp only [n1, hm1, n3, must_none n4, n5, this]
      rfl
    | ok x =>
      obtain ⟨kind, a2⟩ := x
      rw [hk] at h
      simp only at h
      obtain ⟨k1, k2, k3⟩ := num_ok hk
      have hm2 := must_none (ok := decide (kind ≤ 2)) (by simpa using k3) a1
      cases hs : rnum B 2 1 200 a2 with
      | error q' =>
        rw [hs] at h
        obtain rfl : q' = q := by simpa using h
        refine entryX_head ?_
        have := num_err hs (decide (1 ≤ (numX B 2 a2 none).1 ∧ (numX B 2 a2 none).1 ≤ 200)) (by simp)
        unfold headX
        simp only [n1, hm1, n3, must_none n4, n5, k1, hm2, this]
      | ok x =>
        obtain ⟨size, a3⟩ := x
        rw [hs] at h
        simp only at h
        obtain ⟨s1, s2, s3⟩ := num_ok hs
        have hm3 := must_none (ok := decide (1 ≤ size ∧ size ≤ 200)) (by simp; omega) a2
        have hH : headX B o a0 none = ⟨name, kind, size, a3, none⟩ := by
          unfold headX
          simp only [n1, hm1, n3, must_none n4, n5, k1, hm2, s1, hm3]
        unfold entryX
        simp only [hH]
        by_cases hk0 : kind = 0
        · subst hk0
          rw [if_pos rfl] at h
          unfold rvol at h
          have hO : orgX B count 0 a3 none = (none, 0, a3, none) := rfl
          simp only [hO, if_pos]
          cases hv : rnum B 2 size size a3 with
          | error q' =>
            rw [hv] at h
            obtain rfl : q' = q := by simpa using h
            have := num_err hv (decide (1 ≤ (numX B 2 a3 none).1 ∧ (numX B 2 a3 none).1 ≤ size ∧ (0 < 0 ∨ (numX B 2 a3 none).1 = size))) (by simp; omega)
            unfold tailX
            simp only
            rw [this, numsX_some]
          | ok x =>
            obtain ⟨c, a4⟩ := x
            rw [hv] at h
            simp only at h
            obtain ⟨c1, c2, c3⟩ := num_ok hv
            obtain rfl : c = size := by omega
            cases hx : rnums B bound c used [] a4 with
            | error q' =>
              rw [hx] at h
              obtain rfl : q' = q := by simpa using h
              have hnx := nums_err hb hx
              rw [List.append_nil] at hnx
              unfold tailX
              simp only [c1]
              rw [must_none]
              · exact hnx
              · simp; omega
            | ok x => rw [hx] at h; cases h
        · rw [if_neg hk0] at h
          simp only [if_neg hk0]
          unfold rpic at h
          cases ho : rnum B 1 0 (count - 1) a3 with
          | error q' =>
            rw [ho] at h
            obtain rfl : q' = q := by simpa using h
            have := num_err ho (decide ((numX B 1 a3 none).1 < count)) (by simp; omega)
            have hO : (orgX B count kind a3 none).2.2.2 = some q' := by unfold orgX; rw [if_neg hk0]; exact this
            rw [hO, tailX_some]
            exact keptX_some _ _ _ _ _ _
          | ok x =>
            obtain ⟨og, a4⟩ := x
            rw [ho] at h
            simp only at h
            obtain ⟨o1, o2, o3⟩ := num_ok ho
            have hO : orgX B count kind a3 none = (some og, a3, a4, none) := by
              unfold orgX
              rw [if_neg hk0, o1, must_none (ok := decide (og < count)) (by simp; omega)]
            simp only [hO]
            cases hv : rnum B 2 1 size a4 with
            | error q' =>
              rw [hv] at h
              obtain rfl : q' = q := by simpa using h
              have := num_err hv (decide (1 ≤ (numX B 2 a4 none).1 ∧ (numX B 2 a4 none).1 ≤ size ∧ (0 < kind ∨ (numX B 2 a4 none).1 = size))) (by simp; omega)
              have hT : (tailX B bound used kind size a4 none).2.2.2 = some q' := by
                unfold tailX
                simp only
                rw [this, numsX_some]
              rw [hT]
              exact keptX_some _ _ _ _ _ _
            | ok x =>
              obtain ⟨c, a5⟩ := x
              rw [hv] at h
              simp only at h
              obtain ⟨c1, c2, c3⟩ := num_ok hv
              have hm := must_none (ok := decide (1 ≤ c ∧ c ≤ size ∧ (0 < kind ∨ c = size))) (by simp; omega) a4
              cases hx : rnums B bound c used [] a5 with
              | error q' =>
                rw [hx] at h
                obtain rfl : q' = q := by simpa using h
                have hnx := nums_err hb hx
                rw [List.append_nil] at hnx
                have hT : (tailX B bound used kind size a4 none).2.2.2 = some q' := by
                  unfold tailX
                  simp only [c1]
                  rw [hm]
                  exact hnx
                rw [hT]
                exact keptX_some _ _ _ _ _ _
              | ok x =>
                obtain ⟨xs, a6⟩ := x
                rw [hx] at h
                simp only at h
                have hnx := nums_ok hb hx
                rw [List.append_nil] at hnx
                have hxl : xs.length = c := by have := (rnums_len hx); simpa using this
                have hT : tailX B bound used kind size a4 none = (c, used ++ xs, a6, none) := by
                  unfold tailX
                  simp only [c1]
                  rw [hm, hnx]
                simp only [hT]
                cases hkk : rnum B 2 0 (if kind = 2 then 0 else xs.length) a6 with
                | error q' =>
                  rw [hkk] at h
                  obtain rfl : q' = q := by simpa using h
                  have := num_err hkk (decide ((numX B 2 a6 none).1 ≤ c ∧ (kind = 1 ∨ (numX B 2 a6 none).1 = 0))) (by
                    simp
                    by_cases h2 : kind = 2
                    · rw [if_pos h2]; omega
                    · rw [if_neg h2]; omega)
                  unfold keptX
                  simp only
                  rw [this, numsX_some]
                | ok x =>
                  obtain ⟨k, a7⟩ := x
                  rw [hkk] at h
                  simp only at h
                  obtain ⟨q1, q2, q3⟩ := num_ok hkk
                  have hq : k ≤ c ∧ (kind = 1 ∨ k = 0) := by
                    by_cases h2 : kind = 2
                    · rw [if_pos h2] at q3; omega
                    · rw [if_neg h2] at q3; omega
                  have hm4 := must_none (ok := decide (k ≤ c ∧ (kind = 1 ∨ k = 0))) (by simpa using hq) a6
                  cases hkx : rnums B size k [] [] a7 with
                  | error q' =>
                    rw [hkx] at h
                    obtain rfl : q' = q := by simpa using h
                    have hkq := nums_err (by omega) hkx
                    unfold keptX
                    simp only [q1]
                    rw [hm4]
                    simpa using hkq
                  | ok x => rw [hkx] at h; cases h
end
section
open Go.RowKit Go.Sort
variable [DecidableEq Blk] [Inhabited Blk] [Inhabited Vol] [Inhabited PEnt] [Inhabited RVol] [Inhabited RRow]
theorem nodup_le (n : Nat) : ∀ (l : List Nat), l.Nodup → (∀ x ∈ l, x < n) → l.length ≤ n := by
  induction n with
  | zero =>
    intro l _ h
    cases l with
    | nil => exact Nat.le_refl _
    | cons a r => have := h a (by simp); omega
  | succ n ih =>
    intro l hn h
    by_cases hm : n ∈ l
    · have h1 := ih (l.erase n) (hn.erase n) (fun x hx => by
        have h2 := (hn.mem_erase_iff).1 hx
        have := h x h2.2
        have := h2.1
        omega)
      rw [List.length_erase_of_mem hm] at h1
      omega
    · have := ih l hn (fun x hx => by
        have := h x hx
        have : x ≠ n := fun e => hm (by rw [← e]; exact hx)
        omega)
      omega
theorem owns_nums2 {w : World} {base : Nat} {v : Value} {l : List Nat} (h : w.ownsRow base 3 1 v l.length (intsV l)) : (v = .slice none 0 0 ∧ l = []) ∨ ∃ g cap, v = .slice (some ⟨g, 0, none⟩) l.length cap ∧ base ≤ g ∧ NumsAt w g cap l := by
  rcases h.2 with ⟨h1, h2⟩ | ⟨g, cap, cur, h1, h2, h3, h4, h5, h6, h7⟩
  · exact Or.inl ⟨h1, List.length_eq_zero_iff.1 h2⟩
  · exact Or.inr ⟨g, cap, h1, h2, ⟨cur.toList, by show _ = _; rw [h3], by simpa using h6, by rw [Nat.mul_one] at h7; exact h7, h4, h5⟩⟩
theorem ofsX0 (xs : List RRow) (j : Nat) (hj : j < xs.length) : (ofsX xs 0)[j]! = ⟨#[]⟩ := by
  unfold ofsX
  rw [getElem!_pos _ j (by simpa using hj)]
  simp
theorem nil_get (xs : List RRow) (j : Nat) (hj : j < xs.length) : (List.replicate xs.length ((.slice none 0 0, []) : Value × List ByteArray))[j]! = (.slice none 0 0, []) := by
  rw [getElem!_pos _ j (by simpa using hj), List.getElem_replicate]
theorem snoc_get (xs : List RRow) (x : RRow) (j : Nat) (hj : j < (xs ++ [x]).length) : (j < xs.length ∧ (xs ++ [x])[j]! = xs[j]!) ∨ (j = xs.length ∧ (xs ++ [x])[j]! = x) := by
  rcases Nat.lt_or_ge j xs.length with h | h
  · left
    refine ⟨h, ?_⟩
    rw [getElem!_pos _ j hj, List.getElem_append_left h, getElem!_pos _ j h]
  · right
    simp only [List.length_append, List.length_singleton] at hj
    obtain rfl : j = xs.length := by omega
    refine ⟨rfl, ?_⟩
    rw [getElem!_pos _ _ (by simp)]
    simp
theorem Rows.snoc {w : World} {base : Nat} {xs : List RRow} (h : Rows w base xs (ofsX xs 0) (List.replicate xs.length (.slice none 0 0, []))) (x : RRow) (hf : RowFix w x) (hv : At w x.vb 162 (x.cells ⟨#[]⟩ (.slice none 0 0))) (hn : x.foot.Nodup) (hd : ∀ q ∈ x.foot, ∀ y ∈ xs, q ∉ y.foot) (hl : ∀ q ∈ x.foot, q < base) :
    Rows w base (xs ++ [x]) (ofsX (xs ++ [x]) 0) (List.replicate (xs ++ [x]).length (.slice none 0 0, [])) := by
  refine ⟨fun j hj => ?_, fun j hj => ?_, fun j hj => ?_, fun j k hj hk hne g hg => ?_, ?_, fun y hy q hq => ?_, by simp [ofsX], by simp⟩
  · rcases snoc_get xs x j hj with ⟨h1, h2⟩ | ⟨h1, h2⟩
    · rw [h2]; exact h.fix j h1
    · rw [h2]; exact hf
  · rw [ofsX0 _ j hj, nil_get _ j hj]
    rcases snoc_get xs x j hj with ⟨h1, h2⟩ | ⟨h1, h2⟩
    · rw [h2]
      have := h.vol j h1
      rw [ofsX0 _ j h1, nil_get _ j h1] at this
      exact this
    · rw [h2]; exact hv
  · rw [nil_get _ j hj]; exact World.ownsRow_nil _ _ _ _
  · rw [nil_get _ j hj] at hg; cases hg
  · rw [List.flatMap_append, List.nodup_append]
    refine ⟨h.nodup, by simpa using hn, fun a ha b hb hab => ?_⟩
    subst hab
    obtain ⟨y, hy, hq⟩ := List.mem_flatMap.1 ha
    exact hd a (by simpa using hb) y hy hq
  · rcases List.mem_append.1 hy with hy | hy
    · exact h.low y hy q hq
    · rw [List.mem_singleton.1 hy] at hq; exact hl q hq
/-- What stands while the entries are read. -/
structure LInv (w0 wr : World) (sb rb base : Nat) (B : List UInt8) (n at_ : Nat) (U : List Nat) (xs ls pl : List RRow) (lv uv pv : Value) : Prop where
  sc : ScAt w0 wr sb B at_ none
  rows : Rows wr wr.heap.size xs (ofsX xs 0) (List.replicate xs.length (.slice none 0 0, []))
  new : ∀ x ∈ xs, ∀ q ∈ x.foot, base ≤ q
  pool : At wr rb 125 [.int .i64 (n : Int), pv]
  l : wr.ownsRow base 127 1 lv ls.length (ls.map fun x => ptr x.eb)
  u : wr.ownsRow base 3 1 uv U.length (intsV U)
  p : wr.ownsRow base 130 1 pv pl.length (pl.map fun x => ptr x.vb)
  al : ∀ g, lv.ownBlock = some g → (∀ x ∈ xs, g ∉ x.foot) ∧ uv.ownBlock ≠ some g ∧ pv.ownBlock ≠ some g
  au : ∀ g, uv.ownBlock = some g → (∀ x ∈ xs, g ∉ x.foot) ∧ pv.ownBlock ≠ some g
  ap : ∀ g, pv.ownBlock = some g → ∀ x ∈ xs, g ∉ x.foot
  sbl : sb < base
  rbl : rb < base ∧ rb ≠ sb ∧ w0.heap.size ≤ rb
  bl : base ≤ wr.heap.size ∧ w0.heap.size ≤ base
theorem LInv.fr {w0 wr : World} {sb rb base : Nat} {B : List UInt8} {n at_ : Nat} {U : List Nat} {xs ls pl : List RRow} {lv uv pv : Value} (h : LInv w0 wr sb rb base B n at_ U xs ls pl lv uv pv) {w' : World} {S : List Nat} (hS : Same S wr w') (hs : ∀ q ∈ S, q = sb ∨ (base ≤ q ∧ ∀ x ∈ xs, q ∉ x.foot) ∨ q = rb) : Rows w' w'.heap.size xs (ofsX xs 0) (List.replicate xs.length (.slice none 0 0, [])) := by
  refine Rows.raise (h.rows.same hS fun q hq => ⟨fun x hx hqx => ?_, fun j hj => ?_⟩) hS.size
  · have h1 := h.new x hx q hqx
    rcases hs q hq with e | e | e
    · have := h.sbl; omega
    · exact e.2 x hx hqx
    · have := h.rbl.1; omega
  · rw [nil_get _ j hj]; exact fun e => by cases e
/-- An entry more. -/
theorem LInv.entry {w0 wr w1 : World} {sb rb base : Nat} {B : List UInt8} {n at_ at1 : Nat} {U : List Nat} {xs ls pl : List RRow} {lv uv pv : Value} (h : LInv w0 wr sb rb base B n at_ U xs ls pl lv uv pv) (p : PEnt) (hp : 1 ≤ p.xs.length) {allv bv kv : Value} (hE : EntX w0 wr w1 sb base B uv allv bv kv (p.ref, U ++ p.xs, at1, none)) :
    ∃ x : RRow, x.e = p.ref ∧ x.eb = wr.heap.size + 1 ∧ x.vb = wr.heap.size ∧ LInv w0 w1 sb rb base B n at1 (U ++ p.xs) (xs ++ [x]) ls pl lv allv pv := by
  obtain ⟨hb, hk, r1, r2, r3, r4, r5, r6⟩ := hE.rows
  have hbl := h.bl
  have hS := hE.same
  have hsz := hS.size
  have hsub : ∀ q ∈ sb :: uv.ownBlock.toList, q = sb ∨ (base ≤ q ∧ ∀ x ∈ xs, q ∉ x.foot) ∨ q = rb := fun q hq => by
    rcases List.mem_cons.1 hq with e | e
    · exact Or.inl e
    · have e : uv.ownBlock = some q := by simpa using e
      exact Or.inr (Or.inl ⟨owns_row h.u q e, (h.au q e).1⟩)
  have hR := h.fr hS hsub
  obtain ⟨bg, bc, e1, e2, e3⟩ : ∃ g cap, bv = .slice (some ⟨g, 0, none⟩) p.xs.length cap ∧ hb ≤ g ∧ NumsAt w1 g cap p.xs := by
    rcases owns_nums2 r3 with ⟨_, e⟩ | e
    · exfalso
      have e : p.xs = [] := e
      rw [e] at hp; simp at hp
    · exact e
  obtain ⟨kg, kc, f1, f2, f3, f4⟩ : ∃ (kg : Option Nat) (kc : Nat), kv = .slice (kg.map fun g => ⟨g, 0, none⟩) p.kept.length kc ∧ (∀ g, kg = some g → hk ≤ g) ∧ (kg = none → p.kept = [] ∧ kc = 0) ∧ ∀ g, kg = some g → NumsAt w1 g kc p.kept := by
    rcases owns_nums2 r6 with ⟨k1, k2⟩ | ⟨g, cap, k1, k2, k3⟩
    · have k2 : p.kept = [] := k2
      exact ⟨none, 0, (by rw [k1, k2]; rfl), fun g hg => (by cases hg), fun _ => ⟨k2, rfl⟩, fun g hg => (by cases hg)⟩
    · exact ⟨some g, cap, k1, fun g' hg' => (by cases hg'; exact k2), fun hg' => (by cases hg'), fun g' hg' => (by cases hg'; exact k3)⟩
  have hbgl : bg < hk := r5 bg (by rw [e1]; rfl)
  have hvl := hE.vol.lt
  have hel := hE.ent.lt
  have hbl1 : bg < w1.heap.size := by obtain ⟨cs, hc, _⟩ := e3.ex; exact hc.lt
  have hkl1 : ∀ g, kg = some g → g < w1.heap.size := fun g hg => by obtain ⟨cs, hc, _⟩ := (f4 g hg).ex; exact hc.lt
  refine ⟨⟨p.ref, wr.heap.size + 1, wr.heap.size, bg, bc, kg, kc⟩, rfl, rfl, rfl, ?_⟩
  have hfoot : ∀ q ∈ (⟨p.ref, wr.heap.size + 1, wr.heap.size, bg, bc, kg, kc⟩ : RRow).foot, wr.heap.size ≤ q ∧ q < w1.heap.size ∧ (q = wr.heap.size + 1 ∨ q = wr.heap.size ∨ hb ≤ q) := fun q hq => by
    simp only [RRow.foot, List.mem_cons, Option.mem_toList, Option.mem_def] at hq
    rcases hq with e | e | e | e
    · exact ⟨by omega, by omega, by omega⟩
    · exact ⟨by omega, by omega, by omega⟩
    · exact ⟨by omega, by omega, by omega⟩
    · have a1 := f2 q e
      have a2 := hkl1 q e
      exact ⟨by omega, by omega, by omega⟩
  have hold : ∀ y ∈ xs, ∀ q ∈ y.foot, q < wr.heap.size := h.rows.low
  have hown : ∀ {e : TypeId} {v : Value} {m : Nat} {l : List Value}, wr.ownsRow base e 1 v m l → (∀ g, v.ownBlock = some g → uv.ownBlock ≠ some g) → w1.ownsRow base e 1 v m l := fun hw hne => owns_but hw hS fun g hg hq => by
    rcases List.mem_cons.1 hq with e | e
    · have := owns_row hw g hg
      have := h.sbl
      omega
    · exact hne g hg (by simpa using e)
  have hcells : ∀ {e : TypeId} {v : Value} {m : Nat} {l : List Value}, wr.ownsRow base e 1 v m l → ∀ g, v.ownBlock = some g → g < wr.heap.size := fun hw g hg => (hw.lt g hg).2
  refine ⟨hE.sc, ?_, ?_, ?_, ?_, hE.all, ?_, ?_, ?_, ?_, h.sbl, h.rbl, ⟨by omega, hbl.2⟩⟩
  · refine hR.snoc _ ⟨hE.ent, e3, f3, f4⟩ ?_ ?_ ?_ ?_
    · have := hE.vol
      rw [e1, f1] at this
      exact this
    · simp only [RRow.foot, List.nodup_cons, List.mem_cons, not_or]
      refine ⟨⟨by omega, by omega, fun hq => ?_⟩, ⟨by omega, fun hq => ?_⟩, fun hq => ?_, by cases kg <;> simp⟩
      all_goals
        have := f2 _ (by simpa using hq)
        omega
    · intro q hq y hy hqy
      have := hold y hy q hqy
      have := (hfoot q hq).1
      omega
    · intro q hq; exact (hfoot q hq).2.1
  · intro y hy q hq
    rcases List.mem_append.1 hy with hy | hy
    · exact h.new y hy q hq
    · rw [List.mem_singleton.1 hy] at hq
      have := (hfoot q hq).1
      omega
  · exact hS.at h.pool fun hq => by
      rcases List.mem_cons.1 hq with e | e
      · exact h.rbl.2.1 e
      · have := owns_row h.u rb (by simpa using e)
        have := h.rbl.1
        omega
  · exact hown h.l fun g hg => (h.al g hg).2.1
  · exact hown h.p fun g hg hu => (h.au g hu).2 hg
  · intro g hg
    have hgl := hcells h.l g hg
    refine ⟨fun y hy hq => ?_, fun hu => ?_, (h.al g hg).2.2⟩
    · rcases List.mem_append.1 hy with hy | hy
      · exact (h.al g hg).1 y hy hq
      · rw [List.mem_singleton.1 hy] at hq
        have := (hfoot g hq).1
        omega
    · rcases hE.lies with e | ⟨g', e, hg'⟩
      · rw [e] at hu; exact (h.al g hg).2.1 hu
      · rw [e] at hu; cases hu; omega
  · intro g hg
    rcases hE.lies with e | ⟨g', e, hg'⟩
    · rw [e] at hg
      have hgl := hcells h.u g hg
      refine ⟨fun y hy hq => ?_, (h.au g hg).2⟩
      rcases List.mem_append.1 hy with hy | hy
      · exact (h.au g hg).1 y hy hq
      · rw [List.mem_singleton.1 hy] at hq
        have := (hfoot g hq).1
        omega
    · have h2 := r2 g hg
      rw [e] at hg
      cases hg
      refine ⟨fun y hy hq => ?_, fun hpv => ?_⟩
      · rcases List.mem_append.1 hy with hy | hy
        · have := hold y hy _ hq; omega
        · rw [List.mem_singleton.1 hy] at hq
          have := (hfoot _ hq).2.2
          omega
      · have := hcells h.p _ hpv; omega
  · intro g hg y hy hq
    have hgl := hcells h.p g hg
    rcases List.mem_append.1 hy with hy | hy
    · exact h.ap g hg y hy hq
    · rw [List.mem_singleton.1 hy] at hq
      have := (hfoot g hq).1
      omega
/-- The list of the entries gets one more. -/
theorem LInv.pushL {w0 wr w2 : World} {sb rb base : Nat} {B : List UInt8} {n at_ : Nat} {U : List Nat} {xs ls pl ls' : List RRow} {lv uv pv lv' : Value} (h : LInv w0 wr sb rb base B n at_ U xs ls pl lv uv pv) (hS : Same lv.ownBlock.toList wr w2) (hl : w2.ownsRow base 127 1 lv' ls'.length (ls'.map fun x => ptr x.eb)) (hb : lv'.ownBlock = lv.ownBlock ∨ ∃ g, lv'.ownBlock = some g ∧ wr.heap.size ≤ g) :
    LInv w0 w2 sb rb base B n at_ U xs ls' pl lv' uv pv := by
  have hbl := h.bl
  have hsz := hS.size
  have hm : ∀ q, q ∈ lv.ownBlock.toList → lv.ownBlock = some q := fun q hq => by simpa using hq
  have hold : ∀ y ∈ xs, ∀ q ∈ y.foot, q < wr.heap.size := h.rows.low
  refine ⟨h.sc.next hS (fun hq => ?_) (fun q hq => ?_), h.fr hS (fun q hq => Or.inr (Or.inl ⟨owns_row h.l q (hm q hq), (h.al q (hm q hq)).1⟩)), h.new, hS.at h.pool (fun hq => ?_), hl, owns_but h.u hS (fun g hg hq => (h.al g (hm g hq)).2.1 hg), owns_but h.p hS (fun g hg hq => (h.al g (hm g hq)).2.2 hg), fun g hg => ?_, h.au, h.ap, h.sbl, h.rbl, ⟨by omega, hbl.2⟩⟩
  · have := owns_row h.l sb (hm _ hq); have := h.sbl; omega
  · have := owns_row h.l q (hm _ hq); omega
  · have := owns_row h.l rb (hm _ hq); have := h.rbl.1; omega
  · rcases hb with e | ⟨g', e, hg'⟩
    · rw [e] at hg; exact h.al g hg
    · rw [e] at hg
      cases hg
      refine ⟨fun y hy hq => ?_, fun hu => ?_, fun hu => ?_⟩
      · have := hold y hy _ hq; omega
      · have := (h.u.lt _ hu).2; omega
      · have := (h.p.lt _ hu).2; omega
/-- And the Pool's. -/
theorem LInv.pushP {w0 wr w2 : World} {sb rb base : Nat} {B : List UInt8} {n at_ : Nat} {U : List Nat} {xs ls pl pl' : List RRow} {lv uv pv pv' : Value} (h : LInv w0 wr sb rb base B n at_ U xs ls pl lv uv pv) (hS : Same (rb :: pv.ownBlock.toList) wr w2) (hP : At w2 rb 125 [.int .i64 (n : Int), pv']) (hl : w2.ownsRow base 130 1 pv' pl'.length (pl'.map fun x => ptr x.vb)) (hb : pv'.ownBlock = pv.ownBlock ∨ ∃ g, pv'.ownBlock = some g ∧ wr.heap.size ≤ g) :
    LInv w0 w2 sb rb base B n at_ U xs ls pl' lv uv pv' := by
  have hbl := h.bl
  have hsz := hS.size
  have hm : ∀ q, q ∈ rb :: pv.ownBlock.toList → q = rb ∨ pv.ownBlock = some q := fun q hq => by
    rcases List.mem_cons.1 hq with e | e
    · exact Or.inl e
    · exact Or.inr (by simpa using e)
  have hold : ∀ y ∈ xs, ∀ q ∈ y.foot, q < wr.heap.size := h.rows.low
  have hrb := h.rbl
  refine ⟨h.sc.next hS (fun hq => ?_) (fun q hq => ?_), h.fr hS (fun q hq => ?_), h.new, hP, owns_but h.l hS (fun g hg hq => ?_), owns_but h.u hS (fun g hg hq => ?_), hl, fun g hg => ?_, fun g hg => ?_, fun g hg => ?_, h.sbl, h.rbl, ⟨by omega, hbl.2⟩⟩
  · rcases hm _ hq with e | e
    · exact hrb.2.1 e.symm
    · have := owns_row h.p sb e; have := h.sbl; omega
  · rcases hm _ hq with e | e
    · rw [e]; exact hrb.2.2
    · have := owns_row h.p q e; omega
  · rcases hm _ hq with e | e
    · exact Or.inr (Or.inr e)
    · exact Or.inr (Or.inl ⟨owns_row h.p q e, h.ap q e⟩)
  · rcases hm _ hq with e | e
    · have := owns_row h.l g hg; omega
    · exact (h.al g hg).2.2 e
  · rcases hm _ hq with e | e
    · have := owns_row h.u g hg; omega
    · exact (h.au g hg).2 e
  · refine ⟨(h.al g hg).1, (h.al g hg).2.1, fun hp => ?_⟩
    rcases hb with e | ⟨g', e, hg'⟩
    · rw [e] at hp; exact (h.al g hg).2.2 hp
    · rw [e] at hp; cases hp
      have := (h.l.lt _ hg).2; omega
  · refine ⟨(h.au g hg).1, fun hp => ?_⟩
    rcases hb with e | ⟨g', e, hg'⟩
    · rw [e] at hp; exact (h.au g hg).2 hp
    · rw [e] at hp; cases hp
      have := (h.u.lt _ hg).2; omega
  · rcases hb with e | ⟨g', e, hg'⟩
    · rw [e] at hg; exact h.ap g hg
    · rw [e] at hg; cases hg
      intro y hy hq
      have := hold y hy _ hq; omega
/-- The last entry, as 'entry' asks for it. -/
theorem LInv.ahead {w0 wr : World} {sb rb base : Nat} {B : List UInt8} {n at_ : Nat} {U : List Nat} {xs pl : List RRow} {aa : Option Addr} {lc : Nat} {uv pv : Value} (h : LInv w0 wr sb rb base B n at_ U xs xs pl (.slice aa xs.length lc) uv pv) : AheadAt wr aa xs.length (xs.getLast?.map (·.e.name)) sb [] := by
  refine ⟨fun h0 => by rw [List.length_eq_zero_iff.1 h0]; rfl, fun h0 => ?_⟩
  obtain ⟨g, cs, e1, e2, e3, e4, e5, e6⟩ := owns_at h.l h0
  have hl : xs.length - 1 < xs.length := by omega
  have hlast : xs.getLast? = some xs[xs.length - 1]! := by
    rw [List.getLast?_eq_getElem?, List.getElem?_eq_getElem hl, getElem!_pos xs _ hl]
  have hm : xs[xs.length - 1]! ∈ xs := by rw [getElem!_pos xs _ hl]; exact List.getElem_mem hl
  have hf := h.rows.fix _ hl
  have hv := h.rows.vol _ hl
  have hnw := h.new _ hm
  have hsb := h.sbl
  refine ⟨_, g, _, _, cs, _, _, by rw [hlast]; rfl, e1, e3, ?_, hf.ent, rfl, hv, rfl, ?_, ?_, ?_⟩
  · have e : (cs.take xs.length)[xs.length - 1]? = cs[xs.length - 1]? := by rw [List.getElem?_take, if_pos hl]
    rw [← e, e6, List.getElem?_map, List.getElem?_eq_getElem hl, getElem!_pos xs _ hl]
    rfl
  · simp only [List.mem_singleton]; omega
  · simp only [List.mem_singleton]
    have := hnw (xs[xs.length - 1]!).eb (by simp [RRow.foot])
    omega
  · simp only [List.mem_singleton]
    have := hnw (xs[xs.length - 1]!).vb (by simp [RRow.foot])
    omega
end
end Go.Proofs.Ytpddgdjocffgdaa
