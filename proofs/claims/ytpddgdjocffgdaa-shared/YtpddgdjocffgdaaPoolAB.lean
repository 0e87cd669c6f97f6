/- Of a Pool's names and what is told of it; a row appended to a row. -/
import Derived.Test.YtpddgdjocffgdaaPoolD
import Derived.Test.YtpddgdjocffgdaaPoolF
namespace Go.Proofs.Ytpddgdjocffgdaa
open Go.RowKit Go.Sort
set_option linter.unusedVariables false
set_option linter.unusedSimpArgs false
set_option linter.unusedSectionVars false
variable [DecidableEq Blk] [Inhabited Blk]
variable [Inhabited Vol]

/-- A list of numbers as the statement holds it: a slice, nil where there are none. -/
structure SlAt (w : World) (v : Value) (g : Nat) (xs : List Nat) : Prop where
  ex : ∃ a cap, v = .slice a xs.length cap ∧ (xs ≠ [] → a = some ⟨g, 0, none⟩ ∧ ∃ cs, RowAt w g xs cs)
theorem SlAt.same {w w' : World} {v : Value} {g : Nat} {xs : List Nat} (h : SlAt w v g xs) {S : List Nat} (hs : Same S w w') (hn : g ∉ S) : SlAt w' v g xs := by
  obtain ⟨a, cap, e, h⟩ := h.ex
  refine ⟨a, cap, e, fun hne => ?_⟩
  obtain ⟨h1, cs, h2⟩ := h hne
  exact ⟨h1, cs, h2.same hs hn⟩

theorem posOf_get {ns : List ByteArray} (h : ns.Pairwise fun a b => cmpB a b < 0) (i : Nat) (hi : i < ns.length) : posOf ns ns[i]! = i := by
  rw [getElem!_pos ns i hi]
  refine countP_bound _ ns i (Nat.le_of_lt hi) (fun t ht => ?_) (fun t h1 h2 => ?_)
  · rw [getElem!_pos ns t (by omega)]
    exact decide_eq_true (List.pairwise_iff_getElem.1 h t i (by omega) hi ht)
  · rw [getElem!_pos ns t h2]
    rcases Nat.lt_or_ge i t with h' | h'
    · have := List.pairwise_iff_getElem.1 h i t hi h2 h'
      exact decide_eq_false (by rw [cmpB_neg ns[i] ns[t]]; omega)
    · have e : t = i := by omega
      subst e
      exact decide_eq_false (by rw [cmpB_self]; omega)

theorem vol_get {w : World} {s : St} (h : PoolAt w s) (i : Nat) (hi : i < s.vols.length) : s.has (s.vols[i]!).name = true ∧ s.vol (s.vols[i]!).name = s.vols[i]! := by
  have hn : s.names[i]! = (s.vols[i]!).name := by rw [getElem!_pos _ i (by simpa [St.names] using hi), getElem!_pos s.vols i hi]; simp [St.names]
  have hp := posOf_get h.names_sorted i (by simpa [St.names] using hi)
  rw [hn] at hp
  refine ⟨?_, ?_⟩
  · unfold St.has
    rw [isIn_iff h.names_sorted]
    rw [getElem!_pos s.vols i hi]
    exact List.mem_map_of_mem (List.getElem_mem hi)
  · unfold St.vol; rw [hp]

theorem toldAll_get (s : St) (l : List Vol) : ∀ (i j : Nat), i < l.length → j < 6 → (s.toldAll l)[i * 6 + j]? = (s.told (l[i]!))[j]? := by
  induction l with
  | nil => intro i j h; simp at h
  | cons b r ih =>
    intro i j hi hj
    cases i with
    | zero =>
      have : (b :: r)[0]! = b := rfl
      rw [this, St.toldAll, Nat.zero_mul, Nat.zero_add, List.getElem?_append_left (by rw [St.told_length]; exact hj)]
    | succ i =>
      have e : (b :: r)[i + 1]! = r[i]! := by simp
      rw [e, ← ih i j (by simpa using hi) hj, St.toldAll, List.getElem?_append_right (by rw [St.told_length]; omega)]
      congr 1
      rw [St.told_length]; omega

def flatX (l : List Vol) : List Nat := l.flatMap (·.xs)
theorem flatX_snoc (l : List Vol) (i : Nat) (h : i < l.length) : flatX (l.take (i + 1)) = flatX (l.take i) ++ (l[i]!).xs := by
  unfold flatX
  rw [List.take_succ_eq_append_getElem h, List.flatMap_append, getElem!_pos l i h]
  simp

theorem owns_sl {w : World} {base : Nat} {v : Value} {n : Nat} {xs : List Nat} (h : w.ownsRow base 3 1 v n (xs.map (fun x : Nat => Value.int .i64 x))) (hn : n = xs.length) : ∃ g, base ≤ g ∧ SlAt w v g xs := by
  subst hn
  obtain ⟨a, cap, rfl⟩ := owns_form h
  by_cases hx : xs = []
  · exact ⟨base, Nat.le_refl _, a, cap, rfl, fun hne => absurd hx hne⟩
  · obtain ⟨g, cs, h1, h2, h3, h4⟩ := owns_row_at h rfl hx
    exact ⟨g, h2, a, cap, rfl, fun _ => ⟨h1, cs, h3⟩⟩

/-- append onto a row that is owned; the new row is the old one, or new. -/
theorem wpList_append_own2 {P : Program} (w : World) {ops : Array Oper} {rest : List Oper} {o : Oper} {a : Act} {Q : Exit → Act → World → Prop} (hgd : o.guard = none) (s x : Operand) (t : TypeId)
    (ho : o.op = .call { callee := .builtin .append, args := #[s, x], argTypes := #[t, t] })
    (base : Nat) (e : TypeId) (i : TypeInfo) (z : Value) (size bytes : Nat) (ht : P.underlying t = some (.slice e)) (hi : P.info? e = some i) (hz : i.zero = some z)
    (hsize : i.size = size) (hby : i.bytes = bytes) (hzs : z.cells.size = size) (hsz : 0 < size)
    (v : Value) (n : Nat) (xs : List Value) (hs : a.eval s = v) (hown : w.ownsRow base e size v n xs)
    (ad : Addr) (m c : Nat) (news : List Value) (hx : a.eval x = .slice (some ad) m c) (hl : news.length = m * size) (hnews : ∀ j u, news[j]? = some u → w.cell? (ad.add j) = some u) (h1 : ∀ u ∈ news, u.oneCell' = true)
    (h63 : n + m ≤ maxLen) (hbytes : (n + m) * bytes ≤ 140737488355328) (hbase : base ≤ w.heap.size)
    (h : ∀ v' w', w'.ownsRow base e size v' (n + m) (xs ++ news) → w.grownBy w' v.ownBlock → (v'.ownBlock = v.ownBlock ∨ ∀ k, v'.ownBlock = some k → w.heap.size ≤ k) → wpList P ops Q rest (a.put o.dst v') w') : wpList P ops Q (o :: rest) a w := by
  have hown0 := hown
  rcases hown.2 with ⟨rfl, rfl⟩ | ⟨g, cap, cur, rfl, hg, hh, hnc, hcm, hcs, hct⟩
  · have hxs : xs = [] := List.eq_nil_of_length_eq_zero (by have := hown.1; omega)
    subst hxs
    refine wpList_append_own w hgd s x t ho w.heap.size e i z size bytes ht hi hz hsize hby hzs hsz _ _ _ hs (World.ownsRow_nil _ _ _ _) ad m c news hx hl hnews h1 h63 hbytes (Nat.le_refl _) ?_
    intro v' w' h2 h3 _
    exact h v' w' (owns_base h2 hbase) h3 (Or.inr (owns_row h2))
  · by_cases hr : n + m ≤ cap
    · refine wpList_append_fits w hgd s x t ho base e i size ht hi hsize g n cap xs hs hown0 ad m c news hx hl hnews h1 hr ?_
      intro w' h2 h3
      exact h _ w' h2 h3 (Or.inl rfl)
    · refine wpList_append_grows w hgd s x t ho e i z size bytes ht hi hz hsize hby hzs hsz (some ⟨g, 0, none⟩) n cap xs hs (by intro hc; cases hc) hown.1 (fun b hb j u hj => by
        simp only [Option.some.injEq] at hb
        subst hb
        exact hown0.cells rfl j u hj) ad m c news hx hl hnews h1 (by omega) h63 hbytes ?_
      intro v' w' h2 h3
      exact h v' w' (owns_base h2 hbase) ⟨h3.os, h3.tape, h3.output, h3.size, fun k hk hne => h3.block k hk (by simp)⟩ (Or.inr (owns_row h2))

end Go.Proofs.Ytpddgdjocffgdaa
