/- A Pool in memory; what finds a volume, by contracts. -/
import Derived.Test.YtpddgdjocffgdaaVolE
import Derived.LaidEqlPtr
namespace Go.Proofs.Ytpddgdjocffgdaa
open Go.RowKit Go.Sort
set_option linter.unusedVariables false
set_option linter.unusedSimpArgs false
set_option linter.unusedSectionVars false
variable [DecidableEq Blk] [Inhabited Blk]

variable [Inhabited Vol]

/-- A Pool: where its parts lie, and what they hold. -/
structure St where
  pb : Nat
  db : Nat
  bb : Nat
  fb : Nat
  ab : Option Nat
  n : Nat
  m : Nat
  bl : List Blk
  d : Array Int
  vols : List Vol

def St.foot (s : St) : List Nat := s.pb :: s.db :: s.bb :: s.fb :: (s.ab.toList ++ s.vols.flatMap Vol.foot)
def ptr (b : Nat) : Value := .pointer (some ⟨b, 0, none⟩)
def St.names (s : St) : List ByteArray := s.vols.map (·.name)

structure PoolAt (w : World) (s : St) : Prop where
  pool : ∃ cap, At w s.pb 38 [ptr s.pb, ptr s.db, .slice (s.ab.map fun b => ⟨b, 0, none⟩) s.vols.length cap] ∧ s.vols.length ≤ cap ∧ (s.ab = none → cap = 0)
  arr : ∀ b, s.ab = some b → ∃ cs, At w b 80 cs ∧ cs.take s.vols.length = s.vols.map (fun v => ptr v.vb) ∧ s.vols.length ≤ cs.length
  disk : DiskAt w s.db s.bb s.fb s.n s.m s.bl s.d
  vols : ∀ v ∈ s.vols, VolAt w v
  nodup : s.foot.Nodup
  few : s.vols.length ≤ 20
  sorted : s.vols.Pairwise fun a b => cmpB a.name b.name < 0
  orgs : ∀ v ∈ s.vols, ∀ o, v.org = some o → ∃ u ∈ s.vols, u.vb = o ∧ u.org = none

theorem St.foot_pb (s : St) : s.pb ∈ s.foot := by simp [St.foot]
theorem St.foot_db (s : St) : s.db ∈ s.foot := by simp [St.foot]
theorem St.foot_bb (s : St) : s.bb ∈ s.foot := by simp [St.foot]
theorem St.foot_fb (s : St) : s.fb ∈ s.foot := by simp [St.foot]
theorem St.foot_ab (s : St) {b : Nat} (h : s.ab = some b) : b ∈ s.foot := by simp [St.foot, h]
theorem St.foot_vol (s : St) {v : Vol} (h : v ∈ s.vols) {k : Nat} (hk : k ∈ v.foot) : k ∈ s.foot := by
  simp only [St.foot, List.mem_cons, List.mem_append, List.mem_flatMap]
  exact Or.inr (Or.inr (Or.inr (Or.inr (Or.inr ⟨v, h, hk⟩))))
theorem St.foot_cases {s : St} {k : Nat} (h : k ∈ s.foot) : k = s.pb ∨ k = s.db ∨ k = s.bb ∨ k = s.fb ∨ s.ab = some k ∨ ∃ v ∈ s.vols, k ∈ v.foot := by
  simpa only [St.foot, List.mem_cons, List.mem_append, List.mem_flatMap, Option.mem_toList, Option.mem_def] using h

/-- What lies apart from what, in one place. -/
structure Apart (s : St) : Prop where
  pb : s.pb ∉ s.db :: s.bb :: s.fb :: (s.ab.toList ++ s.vols.flatMap Vol.foot)
  db : s.db ∉ s.bb :: s.fb :: (s.ab.toList ++ s.vols.flatMap Vol.foot)
  bb : s.bb ∉ s.fb :: (s.ab.toList ++ s.vols.flatMap Vol.foot)
  fb : s.fb ∉ s.ab.toList ++ s.vols.flatMap Vol.foot
  ab : ∀ b, s.ab = some b → ∀ v ∈ s.vols, b ∉ v.foot
  disk : ∀ v ∈ s.vols, ∀ k ∈ v.foot, k ∉ [s.pb, s.db, s.bb, s.fb]
theorem apart_of {s : St} (h : s.foot.Nodup) : Apart s := by
  unfold St.foot at h
  obtain ⟨h1, h⟩ := List.nodup_cons.1 h
  obtain ⟨h2, h⟩ := List.nodup_cons.1 h
  obtain ⟨h3, h⟩ := List.nodup_cons.1 h
  obtain ⟨h4, h⟩ := List.nodup_cons.1 h
  refine ⟨h1, h2, h3, h4, fun b hb v hv hk => ?_, fun v hv k hk => ?_⟩
  · exact (List.nodup_append.1 h).2.2 b (by simp [hb]) b (List.mem_flatMap.2 ⟨v, hv, hk⟩) rfl
  · have hm : k ∈ s.vols.flatMap Vol.foot := List.mem_flatMap.2 ⟨v, hv, hk⟩
    simp only [List.mem_cons, List.not_mem_nil, or_false, not_or]
    refine ⟨fun e => h1 ?_, fun e => h2 ?_, fun e => h3 ?_, fun e => h4 ?_⟩
    all_goals (rw [← e]; simp only [List.mem_cons, List.mem_append]; simp only [hm, or_true])

theorem PoolAt.none_nil {w : World} {s : St} (h : PoolAt w s) (hn : s.ab = none) : s.vols = [] := by
  obtain ⟨cap, _, h1, h2⟩ := h.pool
  have := h2 hn
  exact List.eq_nil_of_length_eq_zero (by omega)
theorem PoolAt.foot_lt {w : World} {s : St} (h : PoolAt w s) : ∀ k ∈ s.foot, k < w.heap.size := by
  intro k hk
  obtain ⟨cap, hp, _, _⟩ := h.pool
  rcases St.foot_cases hk with rfl | rfl | rfl | rfl | hk | ⟨v, hv, hk⟩
  · exact hp.lt
  · exact h.disk.disk.lt
  · exact h.disk.data.lt
  · exact h.disk.free.lt
  · obtain ⟨cs, hc, _⟩ := h.arr k hk; exact hc.lt
  · exact (h.vols v hv).foot_lt k hk
/-- What leaves the footprint alone leaves the Pool. -/
theorem PoolAt.same {w w' : World} {s : St} (h : PoolAt w s) {S : List Nat} (hs : Same S w w') (hd : ∀ k ∈ s.foot, k ∉ S) : PoolAt w' s := by
  obtain ⟨cap, hp, h1, h2⟩ := h.pool
  refine ⟨⟨cap, hs.at hp (hd _ s.foot_pb), h1, h2⟩, fun b hb => ?_, h.disk.same hs (hd _ s.foot_db) (hd _ s.foot_bb) (hd _ s.foot_fb), fun v hv => (h.vols v hv).same hs (fun k hk => hd k (s.foot_vol hv hk)), h.nodup, h.few, h.sorted, h.orgs⟩
  obtain ⟨cs, hc, h3⟩ := h.arr b hb
  exact ⟨cs, hs.at hc (hd _ (s.foot_ab hb)), h3⟩
theorem PoolAt.new {w w' : World} {s : St} (h : PoolAt w s) (hs : Same [] w w') : PoolAt w' s := h.same hs (by simp)

theorem PoolAt.cell {w : World} {s : St} (h : PoolAt w s) (i : Nat) (hi : i < s.vols.length) :
    ∃ b, s.ab = some b ∧ w.cell? ⟨b, i, none⟩ = some (.pointer (some ⟨(s.vols[i]!).vb, 0, none⟩)) ∧ w.cell? ⟨(s.vols[i]!).vb, 0, none⟩ = some (.string (s.vols[i]!).name) := by
  cases hab : s.ab with
  | none => rw [h.none_nil hab] at hi; simp at hi
  | some b =>
    obtain ⟨cs, hc, h1, h2⟩ := h.arr b hab
    refine ⟨b, rfl, ?_, ?_⟩
    · have : (cs.take s.vols.length)[i]? = cs[i]? := by rw [List.getElem?_take, if_pos hi]
      rw [hc.cell?, ← this, h1]
      simp [List.getElem?_map, List.getElem?_eq_getElem hi, getElem!_pos s.vols i hi, ptr]
    · have hm : s.vols[i]! ∈ s.vols := by rw [getElem!_pos s.vols i hi]; exact List.getElem_mem hi
      obtain ⟨_, _, _, hv, _⟩ := (h.vols _ hm).vol
      exact hv.cell? 0

theorem flatMap_foot_vb : ∀ (l : List Vol), (l.flatMap Vol.foot).Nodup → l.Pairwise fun a b => a.vb ≠ b.vb
  | [], _ => List.Pairwise.nil
  | a :: r, h => by
    rw [List.flatMap_cons, List.nodup_append] at h
    refine List.pairwise_cons.2 ⟨fun b hb e => ?_, flatMap_foot_vb r h.2.1⟩
    exact h.2.2 a.vb (by simp [Vol.foot]) b.vb (List.mem_flatMap.2 ⟨b, hb, by simp [Vol.foot]⟩) e
theorem PoolAt.flat_nodup {w : World} {s : St} (h : PoolAt w s) : (s.vols.flatMap Vol.foot).Nodup := by
  have hn := h.nodup
  unfold St.foot at hn
  obtain ⟨_, hn⟩ := List.nodup_cons.1 hn
  obtain ⟨_, hn⟩ := List.nodup_cons.1 hn
  obtain ⟨_, hn⟩ := List.nodup_cons.1 hn
  obtain ⟨_, hn⟩ := List.nodup_cons.1 hn
  exact (List.nodup_append.1 hn).2.1
theorem pairwise_inj {l : List Vol} (h : l.Pairwise fun a b => a.vb ≠ b.vb) {a b : Vol} (ha : a ∈ l) (hb : b ∈ l) (e : a.vb = b.vb) : a = b := by
  induction l with
  | nil => simp at ha
  | cons x r ih =>
    obtain ⟨h1, h2⟩ := List.pairwise_cons.1 h
    rcases List.mem_cons.1 ha with rfl | ha'
    · rcases List.mem_cons.1 hb with rfl | hb'
      · rfl
      · exact absurd e (h1 b hb')
    · rcases List.mem_cons.1 hb with rfl | hb'
      · exact absurd e.symm (h1 a ha')
      · exact ih h2 ha' hb'
theorem PoolAt.vb_inj {w : World} {s : St} (h : PoolAt w s) {a b : Vol} (ha : a ∈ s.vols) (hb : b ∈ s.vols) (e : a.vb = b.vb) : a = b :=
  pairwise_inj (flatMap_foot_vb _ h.flat_nodup) ha hb e

/-- What lies at a place of memory. -/
def St.volAt (s : St) (b : Nat) : Vol := (s.vols.find? fun u => u.vb == b).getD default
/-- Its origin; of a volume itself. -/
def St.orgOf (s : St) (v : Vol) : Vol :=
  match v.org with
  | none => v
  | some b => s.volAt b
theorem PoolAt.volAt {w : World} {s : St} (h : PoolAt w s) {u : Vol} (hu : u ∈ s.vols) : s.volAt u.vb = u := by
  unfold St.volAt
  cases hf : s.vols.find? (fun x => x.vb == u.vb) with
  | none => have := List.find?_eq_none.1 hf u hu; simp at this
  | some x =>
    have h1 := List.find?_some hf
    have h2 := List.mem_of_find?_eq_some hf
    exact h.vb_inj h2 hu (by simpa using h1)
theorem PoolAt.orgOf {w : World} {s : St} (h : PoolAt w s) {v : Vol} (hv : v ∈ s.vols) : s.orgOf v ∈ s.vols ∧ (s.orgOf v).org = none ∧ (v.org = none → s.orgOf v = v) ∧ (v.org ≠ none → v.org = some (s.orgOf v).vb) := by
  cases ho : v.org with
  | none =>
    have e : s.orgOf v = v := by unfold St.orgOf; rw [ho]
    rw [e]; exact ⟨hv, ho, fun _ => rfl, fun h => absurd rfl h⟩
  | some b =>
    obtain ⟨u, hu, rfl, hu0⟩ := h.orgs v hv b ho
    have e : s.orgOf v = u := by unfold St.orgOf; rw [ho]; exact h.volAt hu
    rw [e]; exact ⟨hu, hu0, fun h => absurd h (by simp), fun _ => rfl⟩

set_option maxHeartbeats 400000 in
set_option maxRecDepth 100000 in
theorem made_calls (s : St) (w : World) (h : PoolAt w s) :
    Calls Try.prog 36 #[ptr s.pb] w fun e w' => e = .returned (.bool true) ∧ w' = w := by
  obtain ⟨cap, hp, _, _⟩ := h.pool
  have c0 : w.cell? ⟨s.pb, 0, none⟩ = some (.pointer (some ⟨s.pb, 0, none⟩)) := hp.cell? 0
  clear h hp
  unfold ptr
  obtain ⟨i0, hi⟩ : ∃ i, Try.prog.info? 38 = some i := Option.isSome_iff_exists.1 (by kernel_rfl)
  have heq := run_eql_ptr_same (P := Try.prog) (w := w) ⟨s.pb, 0, none⟩ Try.underlying27 hi
  go_enter Try.func36, Try.ntmps36
  go_wp2
  go_ret
  simp

theorem mono_of_sorted (ns : List ByteArray) (t : ByteArray) (hs : ns.Pairwise fun a b => cmpB a b < 0) (htr : ∀ a b, cmpB a b < 0 → cmpB b t < 0 → cmpB a t < 0) : ∀ i j, i ≤ j → j < ns.length → cmpB ns[j]! t < 0 → cmpB ns[i]! t < 0 := by
  intro i j hij hj h
  rcases Nat.lt_or_ge i j with h' | h'
  · rw [getElem!_pos ns j hj] at h
    rw [getElem!_pos ns i (by omega)]
    exact htr _ _ (List.pairwise_iff_getElem.1 hs i j (by omega) hj h') h
  · have : i = j := by omega
    subst this; exact h

theorem cmpL_trans : ∀ (a b c : List UInt8), Lib.compareBytes a b < 0 → Lib.compareBytes b c < 0 → Lib.compareBytes a c < 0
  | [], [], _ => by intro h; simp [Lib.compareBytes] at h
  | [], _ :: _, [] => by intro _ h; simp [Lib.compareBytes] at h
  | [], _ :: _, _ :: _ => by intro _ _; simp [Lib.compareBytes]
  | _ :: _, [], _ => by intro h; simp [Lib.compareBytes] at h
  | _ :: _, _ :: _, [] => by intro _ h; simp [Lib.compareBytes] at h
  | x :: a, y :: b, z :: c => by
    intro h1 h2
    have ih := cmpL_trans a b c
    unfold Lib.compareBytes at h1 h2 ⊢
    by_cases hxy : x < y
    · by_cases hyz : y < z
      · rw [if_pos (UInt8.lt_trans hxy hyz)]; decide
      · rw [if_neg hyz] at h2
        by_cases hzy : z < y
        · rw [if_pos hzy] at h2; simp at h2
        · have e : y = z := UInt8.le_antisymm (UInt8.not_lt.1 hzy) (UInt8.not_lt.1 hyz)
          rw [← e, if_pos hxy]; decide
    · rw [if_neg hxy] at h1
      by_cases hyx : y < x
      · rw [if_pos hyx] at h1; simp at h1
      · rw [if_neg hyx] at h1
        have e : x = y := UInt8.le_antisymm (UInt8.not_lt.1 hyx) (UInt8.not_lt.1 hxy)
        subst e
        by_cases hyz : x < z
        · rw [if_pos hyz]; decide
        · rw [if_neg hyz] at h2 ⊢
          by_cases hzy : z < x
          · rw [if_pos hzy] at h2; simp at h2
          · rw [if_neg hzy] at h2 ⊢
            exact ih h1 h2
theorem cmpB_trans (a b c : ByteArray) : cmpB a b < 0 → cmpB b c < 0 → cmpB a c < 0 := cmpL_trans _ _ _
theorem cmpL_zero : ∀ (a b : List UInt8), Lib.compareBytes a b = 0 ↔ a = b
  | [], [] => by simp [Lib.compareBytes]
  | [], _ :: _ => by simp [Lib.compareBytes]
  | _ :: _, [] => by simp [Lib.compareBytes]
  | x :: a, y :: b => by
    have ih := cmpL_zero a b
    unfold Lib.compareBytes
    by_cases hxy : x < y
    · rw [if_pos hxy]
      have : x ≠ y := fun e => by subst e; exact UInt8.lt_irrefl _ hxy
      simp [this]
    · rw [if_neg hxy]
      by_cases hyx : y < x
      · rw [if_pos hyx]
        have : x ≠ y := fun e => by subst e; exact UInt8.lt_irrefl _ hyx
        simp [this]
      · rw [if_neg hyx, ih]
        have e : x = y := UInt8.le_antisymm (UInt8.not_lt.1 hyx) (UInt8.not_lt.1 hxy)
        simp [e]
theorem cmpB_zero (a b : ByteArray) : cmpB a b = 0 ↔ a = b := by
  unfold cmpB
  rw [cmpL_zero]
  constructor
  · intro h; apply ByteArray.ext; exact Array.toList_inj.1 h
  · intro h; rw [h]

theorem PoolAt.names_sorted {w : World} {s : St} (h : PoolAt w s) : s.names.Pairwise fun a b => cmpB a b < 0 := by
  unfold St.names
  rw [List.pairwise_map]
  exact h.sorted

set_option maxHeartbeats 400000 in
set_option maxRecDepth 100000 in
theorem index_calls (s : St) (t : ByteArray) (w : World) (h : PoolAt w s) :
    Calls Try.prog 82 #[ptr s.pb, .string t] w fun e w' => e = .returned (.tuple #[.int .i64 (posOf s.names t : Nat), .bool (isIn s.names t)]) ∧ w' = w := by
  obtain ⟨cap, hp, h1, h2⟩ := h.pool
  have c2 : w.cell? ⟨s.pb, 2, none⟩ = some (.slice (s.ab.map fun b => ⟨b, 0, none⟩) s.vols.length cap) := hp.cell? 2
  have hl : s.names.length = s.vols.length := by simp [St.names]
  have hS : ∀ S, S = Value.slice (s.ab.map fun b => ⟨b, 0, none⟩) s.vols.length cap → Calls Try.prog 110 #[S, .string t, .func (.func 111) #[] #[]] w fun e w' => e = .returned (.tuple #[.int .i64 (posOf s.names t : Nat), .bool (isIn s.names t)]) ∧ w' = w := fun S hS =>
    search_calls (s.ab.getD 0) cap (s.ab.map fun b => ⟨b, 0, none⟩) (s.vols.map (·.vb)) s.names t w S (by rw [hl]; exact hS) (by have := h.few; omega) (by
      intro i hi
      obtain ⟨b, hb, e1, e2⟩ := h.cell i (by omega)
      have g1 : (s.vols.map (·.vb))[i]! = (s.vols[i]!).vb := by rw [getElem!_pos _ i (by simp; omega), getElem!_pos s.vols i (by omega)]; simp
      have g2 : s.names[i]! = (s.vols[i]!).name := by rw [getElem!_pos _ i hi, getElem!_pos s.vols i (by omega)]; simp [St.names]
      rw [g1, g2, hb]
      exact ⟨rfl, e1, e2⟩) (mono_of_sorted s.names t h.names_sorted (fun a b => cmpB_trans a b t))
  clear hp h1 h2 h
  generalize posOf s.names t = po at *
  generalize isIn s.names t = fo at *
  generalize Value.slice (s.ab.map fun b => ⟨b, 0, none⟩) s.vols.length cap = V at *
  unfold ptr
  go_enter Try.func82, Try.ntmps82
  go_wp2_with (go_at_call 110; refine (hS _ rfl).mono ?_; rintro e w' ⟨rfl, rfl⟩)
  go_ret2
  exact ⟨rfl, rfl⟩

set_option maxHeartbeats 400000 in
set_option maxRecDepth 100000 in
theorem find_calls (s : St) (t : ByteArray) (w : World) (h : PoolAt w s) :
    Calls Try.prog 48 #[ptr s.pb, .string t] w fun e w' =>
      (e = if isIn s.names t = true then .returned (.tuple #[ptr (s.vols[posOf s.names t]!).vb, .int .i64 0]) else .returned (.tuple #[.pointer none, .int .i64 4])) ∧ w' = w := by
  have hm := made_calls s w h
  have hI := index_calls s t w h
  have hnot : ∀ (x : Bool) (w : World), (Op.unary .not (.bool x)).run Try.prog w = .ok (.bool (!x)) w := fun _ _ => rfl
  obtain ⟨cap, hp, h1, h2⟩ := h.pool
  have hf := h.few
  cases hi : isIn s.names t with
  | true =>
    rw [hi] at hI
    have hpos : posOf s.names t < s.vols.length := by
      simp [isIn, St.names] at hi ⊢; exact hi.1
    obtain ⟨b, hb, e1, e2⟩ := h.cell (posOf s.names t) hpos
    have c2 : w.cell? ⟨s.pb, 2, none⟩ = some (.slice (some ⟨b, 0, none⟩) s.vols.length cap) := by have := hp.cell? 2; rw [hb] at this; exact this
    clear hp h1 h2 h
    generalize posOf s.names t = po at *
    unfold ptr at *
    have l1 : (po : Int) < (s.vols.length : Int) := by omega
    go_enter Try.func48, Try.ntmps48
    go_wp2_with (first | (go_at_call 36; refine hm.mono ?_; rintro e w' ⟨rfl, rfl⟩) | (go_at_call 82; refine hI.mono ?_; rintro e w' ⟨rfl, rfl⟩))
    go_ret2
    simp
  | false =>
    rw [hi] at hI
    clear hp h1 h2 h
    generalize posOf s.names t = po at *
    unfold ptr at *
    go_enter Try.func48, Try.ntmps48
    go_wp2_with (first | (go_at_call 36; refine hm.mono ?_; rintro e w' ⟨rfl, rfl⟩) | (go_at_call 82; refine hI.mono ?_; rintro e w' ⟨rfl, rfl⟩))
    go_ret2
    simp
end Go.Proofs.Ytpddgdjocffgdaa
