/- Any write of bytes leaves all that can be read bytes. The statement's own small functions: pick, has, by contracts. A Pool: Remove, and what Revert refuses, by contracts. The statement's function opened, by a contract. The statements' functions block, told, same, by contracts. The statement Room: its Pool, in plain words. The statement Room: its calls. Again: its Pool, in plain words, and its calls. Again: told and same, whether the picture is lost or not. -/
import Derived.Test.YtpddgdjocffgdaaG13
import Derived.Test.YtpddgdjocffgdaaG04
import Derived.Test.YtpddgdjocffgdaaG08
import Derived.Test.YtpddgdjocffgdaaG10
import Derived.Test.YtpddgdjocffgdaaG11
namespace Go.Proofs.Ytpddgdjocffgdaa
set_option linter.unusedVariables false
set_option linter.unusedSimpArgs false
set_option linter.unusedSectionVars false
section
open Go.RowKit Go.Sort
variable [DecidableEq Blk] [Inhabited Blk] [Inhabited Vol]
theorem After.trans {w w1 w2 : World} {s s1 s2 : St} {fr1 fr2 : List Nat} (a : After w s w1 s1 fr1) (b : After w1 s1 w2 s2 fr2) : After w s w2 s2 fr2 := by
  refine ⟨b.pool, b.good, a.same.step b.same fun k hk hl => ?_, fun k hk => ?_, b.pb.trans a.pb, b.n.trans a.n⟩
  · rcases a.foot k hk with h | h
    · exact h
    · omega
  · rcases b.foot k hk with h | h
    · exact a.foot k h
    · have := a.same.size; exact Or.inr (by omega)
theorem After.start {w : World} {s : St} {fr : List Nat} (h : PoolAt w s) (hG : Good s fr) : After w s w s fr := ⟨h, hG, Same.refl _ _, fun _ hk => Or.inl hk, rfl, rfl⟩
theorem After.new {w w1 w2 : World} {s s1 : St} {fr1 : List Nat} (a : After w s w1 s1 fr1) (h : Same [] w1 w2) : After w s w2 s1 fr1 :=
  a.trans ⟨a.pool.new h, a.good, h.mono (by simp), fun _ hk => Or.inl hk, rfl, rfl⟩
def first : ByteArray := ⟨#[102, 105, 114, 115, 116]⟩
def vN : ByteArray := ⟨#[118]⟩
def picN : ByteArray := ⟨#[112, 105, 99]⟩
theorem pic_v : cmpB picN vN < 0 := by decide +kernel
theorem v_pic : ¬ cmpB vN picN < 0 := by decide +kernel
/-- A volume and one picture of it. -/
structure Two (s : St) (size room : Nat) : Prop where
  len : s.vols.length = 2
  n0 : (s.vols[0]!).name = picN
  n1 : (s.vols[1]!).name = vN
  o0 : (s.vols[0]!).org = some (s.vols[1]!).vb
  o1 : (s.vols[1]!).org = none
  x0 : (s.vols[0]!).xs.length = room
  x1 : (s.vols[1]!).xs.length = size
theorem two_list {l : List Vol} (h : l.length = 2) : l = [l[0]!, l[1]!] := by
  match l, h with
  | [a, b], _ => rfl
theorem Two.names {s : St} {size room : Nat} (h : Two s size room) : s.names = [picN, vN] := by
  unfold St.names
  rw [two_list h.len]
  show [(s.vols[0]!).name, (s.vols[1]!).name] = _
  rw [h.n0, h.n1]
theorem Two.vol {s : St} {size room : Nat} (h : Two s size room) : s.has picN = true ∧ s.has vN = true ∧ s.vol picN = s.vols[0]! ∧ s.vol vN = s.vols[1]! := by
  have h1 : posOf [picN, vN] picN = 0 := by
    have a := cmpB_self picN
    have b := v_pic
    simp [posOf, a, b]
  have h2 : posOf [picN, vN] vN = 1 := by
    have a := cmpB_self vN
    have b := pic_v
    simp [posOf, a, b]
  unfold St.has St.vol isIn
  rw [h.names, h1, h2]
  refine ⟨?_, ?_, rfl, rfl⟩
  · simp [cmpB_self]
  · simp [cmpB_self]
theorem Two.base {s s' : St} {size room : Nat} (h : Two s size room) (hb : Base s s') : Two s' size room := by
  have h0 := hb.same 0 (by rw [h.len]; omega)
  have h1 := hb.same 1 (by rw [h.len]; omega)
  exact ⟨hb.len.trans h.len, h0.2.1.trans h.n0, h1.2.1.trans h.n1, by rw [h0.2.2.2, h1.1]; exact h.o0, by rw [h1.2.2.2]; exact h.o1, by rw [h0.2.2.1]; exact h.x0, by rw [h1.2.2.1]; exact h.x1⟩
/-- How many are true. -/
def trues : List Bool → Nat
  | [] => 0
  | b :: r => (if b then 1 else 0) + trues r
theorem trues_set : ∀ (l : List Bool) (k : Nat), k < l.length → l[k]! = false → trues (l.set k true) = trues l + 1
  | b :: r, 0, _, h => by simp at h; simp [trues, h]; omega
  | b :: r, k + 1, hk, h => by
    have ih := trues_set r k (by simpa using hk) (by simpa using h)
    simp only [List.set_cons_succ, trues, ih]
    omega
  | [], k, hk, _ => by simp at hk
theorem bget_set (l : List Bool) (k q : Nat) (hk : k < l.length) (hq : q < l.length) : (l.set k true)[q]! = if q = k then true else l[q]! := by
  rw [getElem!_pos _ q (by simpa using hq), getElem!_pos l q hq, List.getElem_set]
  by_cases e : k = q
  · subst e; simp
  · rw [if_neg e, if_neg (fun h => e h.symm)]
/-- What Room knows of its Pool. -/
structure RoomInv (s : St) (size room : Nat) (now : List Blk) (ch : List Bool) : Prop where
  two : Two s size room
  nl : now.length = size
  cl : ch.length = size
  look : ∀ q, q < size → s.look (s.vols[1]!) q = now[q]!
  few : trues ch ≤ room → (s.vols[0]!).lost = false ∧ (s.vols[0]!).kept.length = trues ch ∧ ∀ q, q < size → (q ∈ (s.vols[0]!).kept ↔ ch[q]! = true)
  many : room < trues ch → (s.vols[0]!).lost = true
theorem two_size {w : World} {s : St} {size room : Nat} (h : PoolAt w s) (h2 : Two s size room) : s.size (s.vols[1]!) = size ∧ s.size (s.vols[0]!) = size := by
  have m0 : s.vols[0]! ∈ s.vols := get_mem (by rw [h2.len]; omega)
  have m1 : s.vols[1]! ∈ s.vols := get_mem (by rw [h2.len]; omega)
  have e1 : s.orgOf (s.vols[1]!) = s.vols[1]! := (h.orgOf m1).2.2.1 h2.o1
  have e0 : s.orgOf (s.vols[0]!) = s.vols[1]! := by
    have := (h.orgOf m0).2.2.2 (by rw [h2.o0]; simp)
    rw [h2.o0] at this
    exact h.vb_inj (h.orgOf m0).1 m1 (by simpa using this.symm)
  unfold St.size
  rw [e1, e0]
  exact ⟨h2.x1, h2.x1⟩
/-- A Write that changed something: what Room knows then. -/
theorem RoomInv.write {w w' : World} {s s1 : St} {fr : List Nat} {size room k : Nat} {now : List Blk} {ch : List Bool} {x : Blk} (hI : RoomInv s size room now ch) (h : PoolAt w s) (hG : Good s fr) (hk : k < size)
    (hK : Kept s s1 k (fun v => v.org = some (s.vols[1]!).vb)) (h' : PoolAt w' { s1 with bl := s1.bl.set (s.vols[1]!).xs[k]! x }) (hG' : Good { s1 with bl := s1.bl.set (s.vols[1]!).xs[k]! x } fr) :
    RoomInv { s1 with bl := s1.bl.set (s.vols[1]!).xs[k]! x } size room (now.set k x) (if ch[k]! = true then ch else ch.set k true) := by
  have h2 := hI.two
  have l0 : 0 < s.vols.length := by rw [h2.len]; omega
  have l1 : 1 < s.vols.length := by rw [h2.len]; omega
  have hb := hK.base.bl (s1.bl.set (s.vols[1]!).xs[k]! x)
  have h2' := h2.base hb
  have m1' : s1.vols[1]! ∈ s1.vols := get_mem (by rw [hK.base.len]; exact l1)
  have hl1 : (s1.vols[1]!).lost = false := ((h'.vols _ m1').plain h2'.o1).2
  have hd := hK.did 0 l0 h2.o0
  have hd1 : (s1.vols[0]!).kept = (keepRes k (s.vols[0]!)).1 := congrArg Prod.fst hd
  have hd2 : (s1.vols[0]!).lost = (keepRes k (s.vols[0]!)).2 := congrArg Prod.snd hd
  have hroom := (h.vols _ (get_mem l0)).room
  rw [h2.x0] at hroom
  refine ⟨h2', by simp [hI.nl], by split <;> simp [hI.cl], fun q hq => ?_, fun hf => ?_, fun hm => ?_⟩
  · have := vol_looks h l1 rfl h2.o1 (by rw [h2.x1]; exact hk) hK h' hG' 1 l1 hl1 q (by rw [(two_size h h2).1]; exact hq)
    refine this.trans ?_
    by_cases e : q = k
    · subst e
      rw [if_pos ⟨rfl, rfl⟩, getElem!_pos _ q (by simp [hI.nl]; exact hq)]; simp
    · rw [if_neg (fun h => e h.2), hI.look q hq, get_set_ne x e (by rw [hI.nl]; exact hq)]
  · show (s1.vols[0]!).lost = false ∧ (s1.vols[0]!).kept.length = _ ∧ ∀ q, q < size → (q ∈ (s1.vols[0]!).kept ↔ _)
    by_cases hc : ch[k]! = true
    · rw [if_pos hc] at hf ⊢
      obtain ⟨f1, f2, f3⟩ := hI.few hf
      have hin : k ∈ (s.vols[0]!).kept := (f3 k hk).2 hc
      have e : keepRes k (s.vols[0]!) = ((s.vols[0]!).kept, (s.vols[0]!).lost) := by rw [keepRes, if_pos (Or.inl hin)]
      rw [e] at hd1 hd2
      rw [hd1, hd2]
      exact ⟨f1, f2, f3⟩
    · have hc' : ch[k]! = false := by simpa using hc
      have hkl : k < ch.length := by rw [hI.cl]; exact hk
      rw [if_neg hc] at hf ⊢
      rw [trues_set ch k hkl hc'] at hf ⊢
      obtain ⟨f1, f2, f3⟩ := hI.few (by omega)
      have hin : k ∉ (s.vols[0]!).kept := fun hm => hc ((f3 k hk).1 hm)
      have e : keepRes k (s.vols[0]!) = ((s.vols[0]!).kept ++ [k], (s.vols[0]!).lost) := by
        rw [keepRes, if_neg (fun hx => hx.elim hin (fun e => by rw [f1] at e; cases e)), if_pos (by rw [h2.x0, f2]; omega)]
      rw [e] at hd1 hd2
      rw [hd1, hd2]
      refine ⟨f1, by rw [List.length_append, f2]; rfl, fun q hq => ?_⟩
      rw [bget_set ch k q hkl (by rw [hI.cl]; exact hq)]
      by_cases e : q = k
      · subst e; rw [if_pos rfl]; simp
      · rw [if_neg e]
        simp only [List.mem_append, List.mem_singleton, e, or_false]
        exact f3 q hq
  · show (s1.vols[0]!).lost = true
    by_cases hc : ch[k]! = true
    · rw [if_pos hc] at hm
      have hl := hI.many hm
      have e : keepRes k (s.vols[0]!) = ((s.vols[0]!).kept, (s.vols[0]!).lost) := by rw [keepRes, if_pos (Or.inr hl)]
      rw [e] at hd2
      rw [hd2]; exact hl
    · have hc' : ch[k]! = false := by simpa using hc
      have hkl : k < ch.length := by rw [hI.cl]; exact hk
      rw [if_neg hc, trues_set ch k hkl hc'] at hm
      by_cases hlt : room < trues ch
      · have hl := hI.many hlt
        have e : keepRes k (s.vols[0]!) = ((s.vols[0]!).kept, (s.vols[0]!).lost) := by rw [keepRes, if_pos (Or.inr hl)]
        rw [e] at hd2
        rw [hd2]; exact hl
      · obtain ⟨f1, f2, f3⟩ := hI.few (by omega)
        have hin : k ∉ (s.vols[0]!).kept := fun hm => hc ((f3 k hk).1 hm)
        have e : keepRes k (s.vols[0]!) = ([], true) := by
          rw [keepRes, if_neg (fun hx => hx.elim hin (fun e => by rw [f1] at e; cases e)), if_neg (by rw [h2.x0, f2]; omega)]
        rw [e] at hd2
        exact hd2
end
section
open Go.RowKit Go.Sort
variable [DecidableEq Blk] [Inhabited Blk] [Inhabited Vol] [Inhabited PEnt]
/-- What told tells. -/
def toldL (s : St) (v : Vol) (n : Nat) : List Blk := if v.lost then [] else (List.range n).map (s.look v)
/-- What two Pools that hold the same tell of a name. -/
theorem Alike.told {s s' : St} (h : Alike s s') (t : ByteArray) (hi : s.has t = true) (n : Nat) : s'.has t = true ∧ s'.size (s'.vol t) = s.size (s.vol t) ∧ (s'.vol t).lost = (s.vol t).lost ∧ toldL s' (s'.vol t) n = toldL s (s.vol t) n := by
  have hp := (St.has_mem hi).2.2
  have e : s'.vol t = s'.vols[posOf s.names t]! := by unfold St.vol; rw [h.names]
  have e0 : s.vol t = s.vols[posOf s.names t]! := rfl
  have hl := (h.vol _ hp).lost
  refine ⟨by unfold St.has at *; rw [h.names]; exact hi, by rw [e, e0]; exact h.size _ hp, by rw [e, e0]; exact hl, ?_⟩
  unfold toldL
  rw [e, e0, hl]
  have : s'.look (s'.vols[posOf s.names t]!) = s.look (s.vols[posOf s.names t]!) := funext fun k => h.look _ hp k
  rw [this]
end
end Go.Proofs.Ytpddgdjocffgdaa
