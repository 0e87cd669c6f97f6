/- The heap of free blocks: what pops and pushes come to, in plain numbers. -/
import Derived.Test.YtpddgdjocffgdaaDiskC
namespace Go.Proofs.Ytpddgdjocffgdaa
open Go.RowKit Go.Sort
set_option linter.unusedVariables false
set_option linter.unusedSimpArgs false
set_option linter.unusedSectionVars false

theorem swp_get (d : Array Int) (a b : Nat) (ha : a < d.size) (hb : b < d.size) (j : Nat) : (swp d a b)[j]! = if j = b then d[a]! else if j = a then d[b]! else d[j]! := by
  unfold swp
  by_cases h1 : j = b
  · subst h1; rw [if_pos rfl, getElem!_set_same _ _ _ (by simpa using hb)]
  · rw [if_neg h1, getElem!_set_other _ _ _ _ h1]
    by_cases h2 : j = a
    · subst h2; rw [if_pos rfl, getElem!_set_same _ _ _ ha]
    · rw [if_neg h2, getElem!_set_other _ _ _ _ h2]

/-- The first m of d', in another order, are those of d. -/
def Re (m : Nat) (d d' : Array Int) : Prop := ∃ σ τ : Nat → Nat, ∀ i, i < m → σ i < m ∧ τ i < m ∧ σ (τ i) = i ∧ τ (σ i) = i ∧ d'[i]! = d[σ i]!
theorem Re.refl (m : Nat) (d : Array Int) : Re m d d := ⟨id, id, fun i hi => ⟨hi, hi, rfl, rfl, rfl⟩⟩
theorem Re.trans {m : Nat} {a b c : Array Int} (h : Re m a b) (k : Re m b c) : Re m a c := by
  obtain ⟨σ, τ, h⟩ := h
  obtain ⟨σ', τ', k⟩ := k
  refine ⟨fun i => σ (σ' i), fun i => τ' (τ i), fun i hi => ?_⟩
  obtain ⟨k1, k2, k3, k4, k5⟩ := k i hi
  obtain ⟨h1, h2, h3, h4, h5⟩ := h i hi
  obtain ⟨a1, a2, a3, a4, a5⟩ := h (σ' i) k1
  obtain ⟨b1, b2, b3, b4, b5⟩ := k (τ i) h2
  exact ⟨a1, b2, by show σ (σ' (τ' (τ i))) = i; rw [b3, h3], by show τ' (τ (σ (σ' i))) = i; rw [a4, k4], by rw [k5, a5]⟩
theorem Re.swp (m : Nat) (d : Array Int) (a b : Nat) (ha : a < m) (hb : b < m) (hm : m ≤ d.size) : Re m d (swp d a b) := by
  refine ⟨fun i => if i = b then a else if i = a then b else i, fun i => if i = b then a else if i = a then b else i, fun i hi => ?_⟩
  refine ⟨by dsimp only; split <;> (try split) <;> omega, by dsimp only; split <;> (try split) <;> omega, ?_, ?_, ?_⟩
  · dsimp only; split <;> (try split) <;> (try split) <;> (try split) <;> omega
  · dsimp only; split <;> (try split) <;> (try split) <;> (try split) <;> omega
  · rw [swp_get d a b (by omega) (by omega)]
    dsimp only
    split
    · rfl
    · split <;> rfl

def HeapOk (m : Nat) (d : Array Int) : Prop := ∀ j, 0 < j → j < m → d[(j - 1) / 2]! ≤ d[j]!
/-- A heap but for what hangs below i. -/
def HeapBut (m i : Nat) (d : Array Int) : Prop := (∀ j, 0 < j → j < m → (j - 1) / 2 ≠ i → d[(j - 1) / 2]! ≤ d[j]!) ∧ (∀ j, 0 < j → j < m → (j - 1) / 2 = i → 0 < i → d[(i - 1) / 2]! ≤ d[j]!)

theorem low_spec (m i : Nat) (d : Array Int) : d[low m i d]! ≤ d[i]! ∧ (2 * i + 1 < m → d[low m i d]! ≤ d[2 * i + 1]!) ∧ (2 * i + 2 < m → d[low m i d]! ≤ d[2 * i + 2]!) ∧
    (low m i d = i ∨ ((low m i d = 2 * i + 1 ∨ low m i d = 2 * i + 2) ∧ low m i d < m)) := by
  unfold low
  by_cases h1 : 2 * i + 1 < m ∧ d[2 * i + 1]! < d[i]!
  · have e : low1 m i d = 2 * i + 1 := by unfold low1; rw [if_pos h1]
    rw [e]
    by_cases h2 : 2 * i + 2 < m ∧ d[2 * i + 2]! < d[2 * i + 1]!
    · rw [if_pos h2]; omega
    · rw [if_neg h2]; omega
  · have e : low1 m i d = i := by unfold low1; rw [if_neg h1]
    rw [e]
    by_cases h2 : 2 * i + 2 < m ∧ d[2 * i + 2]! < d[i]!
    · rw [if_pos h2]; omega
    · rw [if_neg h2]; omega

theorem sift_ok (m : Nat) : ∀ (f i : Nat) (d : Array Int), m ≤ d.size → m - i ≤ f → HeapBut m i d → HeapOk m (sift m f i d) ∧ Re m d (sift m f i d) := by
  intro f
  induction f with
  | zero =>
    intro i d hm hf hb
    refine ⟨fun j h1 h2 => ?_, Re.refl _ _⟩
    show d[(j - 1) / 2]! ≤ d[j]!
    exact hb.1 j h1 h2 (by omega)
  | succ f ih =>
    intro i d hm hf hb
    obtain ⟨l1, l2, l3, l4⟩ := low_spec m i d
    simp only [sift]
    by_cases hl : low m i d = i
    · rw [if_pos hl]
      refine ⟨fun j h1 h2 => ?_, Re.refl _ _⟩
      by_cases hp : (j - 1) / 2 = i
      · rw [hl] at l2 l3
        have : j = 2 * i + 1 ∨ j = 2 * i + 2 := by omega
        rcases this with rfl | rfl
        · rw [hp]; exact l2 h2
        · rw [hp]; exact l3 h2
      · exact hb.1 j h1 h2 hp
    · rw [if_neg hl]
      obtain ⟨l5, l6⟩ : (low m i d = 2 * i + 1 ∨ low m i d = 2 * i + 2) ∧ low m i d < m := by
        rcases l4 with h | h
        · exact absurd h hl
        · exact h
      generalize low m i d = l at *
      have hG := swp_get d l i (by omega) (by omega)
      have B : HeapBut m l (swp d l i) := by
        refine ⟨fun j h1 h2 h3 => ?_, fun j h1 h2 h3 h4 => ?_⟩
        · rw [hG, hG]
          by_cases hjl : j = l
          · subst hjl
            have e1 : (j - 1) / 2 = i := by omega
            rw [if_pos e1, if_neg (by omega), if_pos rfl]; exact l1
          · by_cases hji : j = i
            · subst hji
              rw [if_neg (by omega), if_neg h3, if_pos rfl]
              exact hb.2 l (by omega) l6 (by omega) h1
            · rw [if_neg hji, if_neg hjl]
              by_cases hp : (j - 1) / 2 = i
              · rw [if_pos hp]
                have : j = 2 * i + 1 ∨ j = 2 * i + 2 := by omega
                rcases this with rfl | rfl
                · exact l2 h2
                · exact l3 h2
              · rw [if_neg hp, if_neg h3]; exact hb.1 j h1 h2 hp
        · have e1 : (l - 1) / 2 = i := by omega
          rw [hG, hG, e1, if_pos rfl, if_neg (by omega), if_neg (by omega)]
          have := hb.1 j h1 h2 (by omega)
          rw [h3] at this; exact this
      obtain ⟨r1, r2⟩ := ih l (swp d l i) (by rw [swp_size]; exact hm) (by omega) B
      exact ⟨r1, (Re.swp m d l i l6 (by omega) hm).trans r2⟩

/-- A heap but for i against what is above it. -/
def HeapUp (m i : Nat) (d : Array Int) : Prop := (∀ j, 0 < j → j < m → j ≠ i → d[(j - 1) / 2]! ≤ d[j]!) ∧ (∀ j, 0 < j → j < m → (j - 1) / 2 = i → 0 < i → d[(i - 1) / 2]! ≤ d[j]!)

theorem lift_ok (m : Nat) : ∀ (f i : Nat) (d : Array Int), m ≤ d.size → i < m → i ≤ f → HeapUp m i d → HeapOk m (lift f i d) ∧ Re m d (lift f i d) := by
  intro f
  induction f with
  | zero =>
    intro i d hm hi hf hb
    refine ⟨fun j h1 h2 => ?_, Re.refl _ _⟩
    show d[(j - 1) / 2]! ≤ d[j]!
    exact hb.1 j h1 h2 (by omega)
  | succ f ih =>
    intro i d hm hi hf hb
    simp only [lift]
    by_cases hl : i = 0 ∨ d[(i - 1) / 2]! ≤ d[i]!
    · rw [if_pos hl]
      refine ⟨fun j h1 h2 => ?_, Re.refl _ _⟩
      by_cases hp : j = i
      · subst hp
        rcases hl with h | h
        · omega
        · exact h
      · exact hb.1 j h1 h2 hp
    · rw [if_neg hl]
      have hlt : d[i]! < d[(i - 1) / 2]! := by omega
      have hi0 : 0 < i := by omega
      obtain ⟨u, hu⟩ : ∃ u, (i - 1) / 2 = u := ⟨_, rfl⟩
      rw [hu] at hlt ⊢
      have hG := swp_get d u i (by omega) (by omega)
      have B : HeapUp m u (swp d u i) := by
        refine ⟨fun j h1 h2 h3 => ?_, fun j h1 h2 h3 h4 => ?_⟩
        · rw [hG, hG]
          by_cases hji : j = i
          · subst hji
            rw [hu, if_neg (by omega), if_pos rfl, if_pos rfl]; omega
          · rw [if_neg hji, if_neg h3]
            by_cases hp : (j - 1) / 2 = i
            · rw [if_pos hp]
              have := hb.2 j h1 h2 hp hi0
              rw [hu] at this; exact this
            · rw [if_neg hp]
              by_cases hp2 : (j - 1) / 2 = u
              · rw [if_pos hp2]
                have := hb.1 j h1 h2 hji
                rw [hp2] at this; omega
              · rw [if_neg hp2]; exact hb.1 j h1 h2 hji
        · have hq := hb.1 u h4 (by omega) (by omega)
          rw [hG, hG, if_neg (by omega), if_neg (by omega)]
          by_cases hji : j = i
          · rw [if_pos hji]; exact hq
          · rw [if_neg hji, if_neg (by omega)]
            have := hb.1 j h1 h2 hji
            rw [h3] at this; omega
      obtain ⟨r1, r2⟩ := ih u (swp d u i) (by rw [swp_size]; exact hm) (by omega) (by omega) B
      exact ⟨r1, (Re.swp m d u i (by omega) hi hm).trans r2⟩

/-- The first m of d are a heap of just these numbers. -/
structure HeapIs (m : Nat) (d : Array Int) (fr : List Nat) : Prop where
  size : m ≤ d.size
  ok : HeapOk m d
  inj : ∀ i j, i < m → j < m → d[i]! = d[j]! → i = j
  mem : ∀ i, i < m → ∃ x ∈ fr, d[i]! = (x : Int)
  hit : ∀ x ∈ fr, ∃ i, i < m ∧ d[i]! = (x : Int)
  sorted : fr.Pairwise (· < ·)
  len : fr.length = m

theorem heap_min {m : Nat} {d : Array Int} (h : HeapOk m d) : ∀ i, i < m → d[0]! ≤ d[i]! := by
  intro i
  induction i using Nat.strongRecOn with
  | _ i ih =>
    intro hi
    by_cases h0 : i = 0
    · subst h0; exact Int.le_refl _
    · have := h i (by omega) hi
      have := ih ((i - 1) / 2) (by omega) (by omega)
      omega

theorem HeapIs.re {m : Nat} {d d' : Array Int} {fr : List Nat} (hs : m ≤ d'.size) (ho : HeapOk m d') (hr : Re m d d')
    (inj : ∀ i j, i < m → j < m → d[i]! = d[j]! → i = j) (mem : ∀ i, i < m → ∃ x ∈ fr, d[i]! = (x : Int)) (hit : ∀ x ∈ fr, ∃ i, i < m ∧ d[i]! = (x : Int)) (sorted : fr.Pairwise (· < ·)) (len : fr.length = m) : HeapIs m d' fr := by
  obtain ⟨σ, τ, h⟩ := hr
  refine ⟨hs, ho, fun i j hi hj e => ?_, fun i hi => ?_, fun x hx => ?_, sorted, len⟩
  · obtain ⟨a1, a2, a3, a4, a5⟩ := h i hi
    obtain ⟨b1, b2, b3, b4, b5⟩ := h j hj
    rw [a5, b5] at e
    have := inj _ _ a1 b1 e
    rw [← a4, ← b4, this]
  · obtain ⟨a1, a2, a3, a4, a5⟩ := h i hi
    rw [a5]; exact mem _ a1
  · obtain ⟨i, hi, e⟩ := hit x hx
    obtain ⟨a1, a2, a3, a4, a5⟩ := h i hi
    obtain ⟨b1, b2, b3, b4, b5⟩ := h (τ i) a2
    exact ⟨τ i, a2, by rw [b5, a3, e]⟩

/-- A pop: the lowest comes out, and the others stay. -/
theorem HeapIs.pop {m : Nat} {d : Array Int} {x : Nat} {fr : List Nat} (h : HeapIs (m + 1) d (x :: fr)) : d[0]! = (x : Int) ∧ HeapIs m (popD m d) fr := by
  have hsz := h.size
  have hmin := heap_min h.ok
  have hx : d[0]! = (x : Int) := by
    obtain ⟨y, hy, e⟩ := h.mem 0 (by omega)
    obtain ⟨i, hi, e'⟩ := h.hit x (by simp)
    have := hmin i hi
    rcases List.mem_cons.1 hy with rfl | hy
    · exact e
    · have := (List.pairwise_cons.1 h.sorted).1 y hy
      omega
  refine ⟨hx, ?_⟩
  have hg : ∀ j, (d.setIfInBounds 0 d[m]!)[j]! = if j = 0 then d[m]! else d[j]! := by
    intro j
    by_cases hj : j = 0
    · subst hj; rw [if_pos rfl, getElem!_set_same _ _ _ (by omega)]
    · rw [if_neg hj, getElem!_set_other _ _ _ _ hj]
  have B : HeapBut m 0 (d.setIfInBounds 0 d[m]!) := by
    refine ⟨fun j h1 h2 h3 => ?_, fun j h1 h2 h3 h4 => by omega⟩
    rw [hg, hg, if_neg h3, if_neg (by omega)]
    exact h.ok j h1 (by omega)
  obtain ⟨r1, r2⟩ := sift_ok m m 0 (d.setIfInBounds 0 d[m]!) (by simp; omega) (by omega) B
  have hl := h.len
  simp only [List.length_cons, Nat.add_right_cancel_iff] at hl
  refine HeapIs.re (by rw [popD_size]; omega) r1 r2 (fun i j hi hj e => ?_) (fun i hi => ?_) (fun y hy => ?_) (List.pairwise_cons.1 h.sorted).2 hl
  · rw [hg, hg] at e
    split at e <;> split at e
    · omega
    · have := h.inj m j (by omega) (by omega) e; omega
    · have := h.inj i m (by omega) (by omega) e; omega
    · exact h.inj i j (by omega) (by omega) e
  · rw [hg]
    have key : ∀ k, 0 < k → k < m + 1 → ∃ x ∈ fr, d[k]! = (x : Int) := by
      intro k hk0 hk
      obtain ⟨y, hy, e⟩ := h.mem k hk
      rcases List.mem_cons.1 hy with rfl | hy
      · have := h.inj 0 k (by omega) hk (by rw [hx, e]); omega
      · exact ⟨y, hy, e⟩
    split
    · exact key m (by omega) (by omega)
    · exact key i (by omega) (by omega)
  · obtain ⟨i, hi, e⟩ := h.hit y (by simp [hy])
    have hne : i ≠ 0 := by
      intro h0; subst h0
      have := (List.pairwise_cons.1 h.sorted).1 y hy
      omega
    by_cases him : i = m
    · subst him
      exact ⟨0, by omega, by rw [hg, if_pos rfl, e]⟩
    · exact ⟨i, by omega, by rw [hg, if_neg hne, e]⟩

/-- A number put into a list in order. -/
def ins (x : Nat) : List Nat → List Nat
  | [] => [x]
  | y :: r => if x < y then x :: y :: r else y :: ins x r
theorem ins_mem (x : Nat) (l : List Nat) (z : Nat) : z ∈ ins x l ↔ z = x ∨ z ∈ l := by
  induction l with
  | nil => simp [ins]
  | cons y r ih =>
    simp only [ins]
    split
    · simp
    · simp only [List.mem_cons, ih]
      constructor
      · rintro (h | h | h)
        · exact Or.inr (Or.inl h)
        · exact Or.inl h
        · exact Or.inr (Or.inr h)
      · rintro (h | h | h)
        · exact Or.inr (Or.inl h)
        · exact Or.inl h
        · exact Or.inr (Or.inr h)
theorem ins_length (x : Nat) (l : List Nat) : (ins x l).length = l.length + 1 := by
  induction l with
  | nil => rfl
  | cons y r ih => simp only [ins]; split <;> simp [ih]
theorem ins_sorted (x : Nat) (l : List Nat) (h : l.Pairwise (· < ·)) (hx : x ∉ l) : (ins x l).Pairwise (· < ·) := by
  induction l with
  | nil => simp [ins]
  | cons y r ih =>
    obtain ⟨h1, h2⟩ := List.pairwise_cons.1 h
    simp only [List.mem_cons, not_or] at hx
    simp only [ins]
    split
    · refine List.pairwise_cons.2 ⟨fun z hz => ?_, h⟩
      rcases List.mem_cons.1 hz with rfl | hz
      · assumption
      · have := h1 z hz; omega
    · refine List.pairwise_cons.2 ⟨fun z hz => ?_, ih h2 hx.2⟩
      rcases (ins_mem x r z).1 hz with rfl | hz
      · omega
      · exact h1 z hz

/-- A push. -/
theorem HeapIs.push {m : Nat} {d : Array Int} {fr : List Nat} (h : HeapIs m d fr) (x : Nat) (hx : x ∉ fr) (hm : m < d.size) : HeapIs (m + 1) (pushD m x d) (ins x fr) := by
  have hg : ∀ j, (d.setIfInBounds m (x : Int))[j]! = if j = m then (x : Int) else d[j]! := by
    intro j
    by_cases hj : j = m
    · subst hj; rw [if_pos rfl, getElem!_set_same _ _ _ hm]
    · rw [if_neg hj, getElem!_set_other _ _ _ _ hj]
  have B : HeapUp (m + 1) m (d.setIfInBounds m (x : Int)) := by
    refine ⟨fun j h1 h2 h3 => ?_, fun j h1 h2 h3 h4 => by omega⟩
    rw [hg, hg, if_neg (by omega), if_neg h3]
    exact h.ok j h1 (by omega)
  obtain ⟨r1, r2⟩ := lift_ok (m + 1) m m (d.setIfInBounds m (x : Int)) (by simp; omega) (by omega) (by omega) B
  refine HeapIs.re (by simp [lift_size, pushD]; omega) r1 r2 (fun i j hi hj e => ?_) (fun i hi => ?_) (fun y hy => ?_) (ins_sorted x fr h.sorted hx) (by rw [ins_length, h.len])
  · rw [hg, hg] at e
    split at e <;> split at e
    · omega
    · obtain ⟨y, hy, e'⟩ := h.mem j (by omega)
      rw [e'] at e
      exact absurd (by have : x = y := by omega
                       rw [this]; exact hy) hx
    · obtain ⟨y, hy, e'⟩ := h.mem i (by omega)
      rw [e'] at e
      exact absurd (by have : x = y := by omega
                       rw [this]; exact hy) hx
    · exact h.inj i j (by omega) (by omega) e
  · rw [hg]
    split
    · exact ⟨x, (ins_mem x fr x).2 (Or.inl rfl), rfl⟩
    · obtain ⟨y, hy, e⟩ := h.mem i (by omega)
      exact ⟨y, (ins_mem x fr y).2 (Or.inr hy), e⟩
  · rcases (ins_mem x fr y).1 hy with rfl | hy
    · exact ⟨m, by omega, by rw [hg, if_pos rfl]⟩
    · obtain ⟨i, hi, e⟩ := h.hit y hy
      exact ⟨i, by omega, by rw [hg, if_neg (by omega), e]⟩

/-- k pops. -/
theorem HeapIs.pops {m : Nat} {d : Array Int} {fr : List Nat} (h : HeapIs m d fr) : ∀ k, k ≤ m → popsL m k d = (fr.take k).map (fun x : Nat => (x : Int)) ∧ HeapIs (m - k) (popsD m k d) (fr.drop k) := by
  intro k
  induction k with
  | zero => intro _; exact ⟨rfl, h⟩
  | succ k ih =>
    intro hk
    obtain ⟨e1, h1⟩ := ih (by omega)
    have hl := h.len
    obtain ⟨x, r, hd⟩ : ∃ x r, fr.drop k = x :: r := by
      cases hdr : fr.drop k with
      | nil => have := congrArg List.length hdr; simp at this; omega
      | cons x r => exact ⟨x, r, rfl⟩
    rw [hd] at h1
    have hm1 : m - k = (m - k - 1) + 1 := by omega
    rw [hm1] at h1
    obtain ⟨p1, p2⟩ := h1.pop
    have et : fr.take (k + 1) = fr.take k ++ [x] := by
      have hkl : k < fr.length := by omega
      have hx : fr[k] = x := by
        have := List.drop_eq_getElem_cons hkl
        rw [hd] at this
        exact (List.cons.inj this).1.symm
      rw [List.take_succ_eq_append_getElem hkl, hx]
    refine ⟨by rw [popsL, e1, et, p1]; simp, ?_⟩
    have er : fr.drop (k + 1) = r := by
      rw [← List.drop_drop, hd]; rfl
    rw [er, show m - (k + 1) = m - k - 1 by omega]
    exact p2

def insAll : List Nat → List Nat → List Nat
  | [], l => l
  | x :: r, l => insAll r (ins x l)
theorem insAll_mem (xs : List Nat) : ∀ (l : List Nat) (z : Nat), z ∈ insAll xs l ↔ z ∈ xs ∨ z ∈ l := by
  induction xs with
  | nil => intro l z; simp [insAll]
  | cons x r ih =>
    intro l z
    simp only [insAll, ih, ins_mem, List.mem_cons]
    constructor
    · rintro (h | h | h)
      · exact Or.inl (Or.inr h)
      · exact Or.inl (Or.inl h)
      · exact Or.inr h
    · rintro ((h | h) | h)
      · exact Or.inr (Or.inl h)
      · exact Or.inl h
      · exact Or.inr (Or.inr h)
theorem insAll_length (xs : List Nat) : ∀ (l : List Nat), (insAll xs l).length = xs.length + l.length := by
  induction xs with
  | nil => intro l; simp [insAll]
  | cons x r ih => intro l; simp only [insAll, ih, ins_length, List.length_cons]; omega

theorem HeapIs.gives (xs : List Nat) : ∀ {m : Nat} {d : Array Int} {fr : List Nat}, HeapIs m d fr → xs.Nodup → (∀ x ∈ xs, x ∉ fr) → m + xs.length ≤ d.size → HeapIs (m + xs.length) (giveD m xs d) (insAll xs fr) := by
  induction xs with
  | nil => intro m d fr h _ _ _; exact h
  | cons x r ih =>
    intro m d fr h hn hx hs
    obtain ⟨hn1, hn2⟩ := List.nodup_cons.1 hn
    have h1 := h.push x (hx x (by simp)) (by simp at hs; omega)
    have := ih h1 hn2 (fun z hz => by
      rw [ins_mem]
      rintro (e | e)
      · exact hn1 (e ▸ hz)
      · exact hx z (by simp [hz]) e) (by rw [pushD_size]; simp at hs; omega)
    simp only [giveD, insAll, List.length_cons]
    rw [show m + (r.length + 1) = m + 1 + r.length by omega]
    exact this

/-- Lists in order with the same members are the same. -/
theorem sorted_ext : ∀ (a b : List Nat), a.Pairwise (· < ·) → b.Pairwise (· < ·) → (∀ z, z ∈ a ↔ z ∈ b) → a = b
  | [], [], _, _, _ => rfl
  | [], y :: b, _, _, h => by have := (h y).2 (by simp); simp at this
  | x :: a, [], _, _, h => by have := (h x).1 (by simp); simp at this
  | x :: a, y :: b, ha, hb, h => by
    obtain ⟨a1, a2⟩ := List.pairwise_cons.1 ha
    obtain ⟨b1, b2⟩ := List.pairwise_cons.1 hb
    have e : x = y := by
      rcases List.mem_cons.1 ((h x).1 (by simp)) with e | e
      · exact e
      · rcases List.mem_cons.1 ((h y).2 (by simp)) with e' | e'
        · exact e'.symm
        · have := a1 y e'; have := b1 x e; omega
    subst e
    congr 1
    refine sorted_ext a b a2 b2 fun z => ⟨fun hz => ?_, fun hz => ?_⟩
    · rcases List.mem_cons.1 ((h z).1 (by simp [hz])) with e | e
      · have := a1 z hz; omega
      · exact e
    · rcases List.mem_cons.1 ((h z).2 (by simp [hz])) with e | e
      · have := b1 z hz; omega
      · exact e
end Go.Proofs.Ytpddgdjocffgdaa
