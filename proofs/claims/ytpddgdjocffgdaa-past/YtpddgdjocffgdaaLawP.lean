/- The statement Past, by a contract. -/
import Derived.Test.YtpddgdjocffgdaaLawO
import Derived.Test.YtpddgdjocffgdaaLawM
import Derived.Test.YtpddgdjocffgdaaLawJ
import Derived.Deep.RegionHeld3
import Derived.Maps.AppendAt
namespace Go.Proofs.Ytpddgdjocffgdaa
open Go.RowKit Go.Sort
set_option linter.unusedVariables false
set_option linter.unusedSimpArgs false
set_option linter.unusedSectionVars false
variable [DecidableEq Blk] [Inhabited Blk]
variable [Inhabited Vol]

theorem past_start {w : World} {s : St} {fr : List Nat} {size : Nat} (h : PoolAt w s) (hO : OneV s fr size) (hs : size ≤ 20) : PastInv s fr size (List.replicate size Blk.zero) [] := by
  obtain ⟨v, h1, h2, h3, h4, h5⟩ := hO.ex
  have hf := hO.free
  have e0 : s.vols[0]! = v := by rw [h1]; rfl
  have hm : v ∈ s.vols := by rw [h1]; simp
  refine ⟨⟨by rw [h1]; rfl, by simp, ?_, ?_, ?_, fun i hi => by simp at hi⟩, fun i hi => by simp at hi, by simp only [List.length_nil]; omega, by simp, fun i hi => by simp at hi, fun q hq => ?_, fun i hi => by simp at hi⟩
  · show (s.vols[0]!).name = _; rw [e0]; exact h2
  · show (s.vols[0]!).org = _; rw [e0]; exact h3
  · show (s.vols[0]!).xs.length = _; rw [e0]; exact h4
  · show s.look (s.vols[0]!) q = _
    rw [e0]
    unfold St.look St.holder
    rw [(h.vols v hm).kept_nil h3, if_neg (by simp), (h.orgOf hm).2.2.1 h3, h5 _ (mem_getElem! (by omega)), getElem!_pos _ q (by simpa using hq)]
    simp

theorem PastAt.cell {w : World} {pb size ng : Nat} {wr : World} {s : St} {fr : List Nat} {now : List Blk} {pasts : List (List Blk)} {pg : Option Nat} {pcap : Nat} {rows : List PRow} (h : PastAt w pb size ng wr s fr now pasts pg pcap rows) (i : Nat) (hi : i < pasts.length) :
    ∃ g r, pg = some g ∧ rows[i]? = some r ∧ wr.cell? ⟨g, i, none⟩ = some (.slice (some ⟨r.g, 0, none⟩) size r.cap) ∧ At wr r.g 55 (flat pasts[i]! ++ r.rest) := by
  obtain ⟨r, hr, hA⟩ := h.row i hi
  rcases h.own.2 with ⟨_, e⟩ | ⟨g, cap, cur, h1, h2, h3, h4⟩
  · omega
  · have hpg : pg = some g := by
      cases pg with
      | none => simp [adr] at h1
      | some x => simp [adr] at h1; rw [h1.1]
    have hc := h.own.cells (g := g) (by rw [hpg]; rfl) i (r.val size) (by rw [List.getElem?_map, hr]; rfl)
    rw [Addr.add_lit, Nat.zero_add] at hc
    exact ⟨g, r, hpg, hr, hc, hA⟩

theorem Try.infoRow : (Try.prog.info? 52).map (fun i => (i.zero, i.size, i.bytes)) = some (some (.slice none 0 0), 1, 24) := by kernel_rfl

theorem flat_one : ∀ (l : List Blk), ∀ u ∈ flat l, u.oneCell' = true
  | [], u, h => by simp [flat] at h
  | b :: r, u, h => by
    simp only [flat, List.mem_append] at h
    rcases h with h | h
    · simp only [Blk.cells, List.mem_cons, List.not_mem_nil, or_false] at h
      rcases h with rfl | rfl | rfl | rfl | rfl | rfl | rfl | rfl <;> rfl
    · exact flat_one r u h

theorem At.eightr {w : World} {bb : Nat} {t : TypeId} {bl : List Blk} {rest : List Value} (h : At w bb t (flat bl ++ rest)) (k : Nat) (hk : k < bl.length) :
    w.cell? ⟨bb, k * 8, none⟩ = some (.int .u8 (bl[k]!).b0) ∧ w.cell? ⟨bb, k * 8 + 1, none⟩ = some (.int .u8 (bl[k]!).b1) ∧ w.cell? ⟨bb, k * 8 + 2, none⟩ = some (.int .u8 (bl[k]!).b2) ∧ w.cell? ⟨bb, k * 8 + 3, none⟩ = some (.int .u8 (bl[k]!).b3) ∧ w.cell? ⟨bb, k * 8 + 4, none⟩ = some (.int .u8 (bl[k]!).b4) ∧ w.cell? ⟨bb, k * 8 + 5, none⟩ = some (.int .u8 (bl[k]!).b5) ∧ w.cell? ⟨bb, k * 8 + 6, none⟩ = some (.int .u8 (bl[k]!).b6) ∧ w.cell? ⟨bb, k * 8 + 7, none⟩ = some (.int .u8 (bl[k]!).b7) := by
  have key : ∀ j, j < 8 → w.cell? ⟨bb, k * 8 + j, none⟩ = (bl[k]!).cells[j]? := fun j hj => by
    rw [h.cell?, List.getElem?_append_left (by rw [flat_length]; omega), flat_get bl k j hk hj]
  exact ⟨key 0 (by omega), key 1 (by omega), key 2 (by omega), key 3 (by omega), key 4 (by omega), key 5 (by omega), key 6 (by omega), key 7 (by omega)⟩

theorem At.eight0 {w : World} {g : Nat} {t : TypeId} {x0 x1 x2 x3 x4 x5 x6 x7 : Int} (h : At w g t [.int .u8 x0, .int .u8 x1, .int .u8 x2, .int .u8 x3, .int .u8 x4, .int .u8 x5, .int .u8 x6, .int .u8 x7]) :
    w.cell? ⟨g, 0, none⟩ = some (.int .u8 x0) ∧ w.cell? ⟨g, 1, none⟩ = some (.int .u8 x1) ∧ w.cell? ⟨g, 2, none⟩ = some (.int .u8 x2) ∧ w.cell? ⟨g, 3, none⟩ = some (.int .u8 x3) ∧ w.cell? ⟨g, 4, none⟩ = some (.int .u8 x4) ∧ w.cell? ⟨g, 5, none⟩ = some (.int .u8 x5) ∧ w.cell? ⟨g, 6, none⟩ = some (.int .u8 x6) ∧ w.cell? ⟨g, 7, none⟩ = some (.int .u8 x7) :=
  ⟨h.cell? 0, h.cell? 1, h.cell? 2, h.cell? 3, h.cell? 4, h.cell? 5, h.cell? 6, h.cell? 7⟩

theorem now_map {size : Nat} {now : List Blk} (h : now.length = size) : (List.range size).map (fun q => now[q]!) = now := by
  apply List.ext_getElem
  · simp [h]
  · intro i h1 h2
    simp only [List.getElem_map, List.getElem_range]
    rw [getElem!_pos now i h2]

theorem past_toldV {w : World} {pb size ng : Nat} {wr : World} {s : St} {fr : List Nat} {now : List Blk} {pasts : List (List Blk)} {pg : Option Nat} {pcap : Nat} {rows : List PRow} (hI : PastAt w pb size ng wr s fr now pasts pg pcap rows) (hs : size ≤ 20) :
    Calls Try.prog 28 #[.pointer (some ⟨pb, 0, none⟩), .string ⟨#[118]⟩, .int .i64 size] wr fun e w' => ∃ v, e = .returned (.tuple #[v, .bool true]) ∧ w'.ownsRow wr.heap.size 55 8 v size (flat now) ∧ Same [] wr w' := by
  have hM := hI.inv.many
  have hl := hM.len
  have h := ktold_ok (.pointer (some ⟨pb, 0, none⟩)) ⟨#[118]⟩ size (fun q => now[q]!) wr (by omega) (fun W hW i hi => by
    have hIW := hI.new hW
    have hv := vol_named hIW.pool (i := pasts.length) (by omega)
    rw [hM.nv] at hv
    obtain ⟨v1, v2⟩ := hv
    have hmem := (St.has_mem v1).1
    have hks : i < s.size (s.vol vN) := by rw [v2, many_size hIW.pool hM _ (Nat.le_refl _)]; exact hi
    have hR := read_some s vN i W hIW.pool v1 (by rw [v2]; exact hI.inv.lostA hI.pool _ (Nat.le_refl _)) hks (holder_lt hIW.pool hIW.good hmem hks)
    rw [v2, hI.inv.lookv i hi, hI.pb] at hR
    exact hR)
  rw [now_map hI.inv.nl] at h
  exact h
theorem past_toldP {w : World} {pb size ng : Nat} {wr : World} {s : St} {fr : List Nat} {now : List Blk} {pasts : List (List Blk)} {pg : Option Nat} {pcap : Nat} {rows : List PRow} (hI : PastAt w pb size ng wr s fr now pasts pg pcap rows) (hs : size ≤ 20) (j : Nat) (hj : j < pasts.length) :
    Calls Try.prog 28 #[.pointer (some ⟨pb, 0, none⟩), .string (pN j), .int .i64 size] wr fun e w' => ∃ v, e = .returned (.tuple #[v, .bool true]) ∧ w'.ownsRow wr.heap.size 55 8 v size (flat pasts[j]!) ∧ Same [] wr w' := by
  have hM := hI.inv.many
  have hl := hM.len
  have h := ktold_ok (.pointer (some ⟨pb, 0, none⟩)) (pN j) size (fun q => (pasts[j]!)[q]!) wr (by omega) (fun W hW i hi => by
    have hIW := hI.new hW
    have hv := vol_named hIW.pool (i := j) (by omega)
    rw [(hM.pic j hj).1] at hv
    obtain ⟨v1, v2⟩ := hv
    have hmem := (St.has_mem v1).1
    have hks : i < s.size (s.vol (pN j)) := by rw [v2, many_size hIW.pool hM _ (by omega)]; exact hi
    have hR := read_some s (pN j) i W hIW.pool v1 (by rw [v2]; exact hI.inv.lost j hj) hks (holder_lt hIW.pool hIW.good hmem hks)
    rw [v2, hI.inv.lookp j hj i hi, hI.pb] at hR
    exact hR)
  rw [now_map (hI.inv.pl j hj)] at h
  exact h
theorem past_same (l : List Blk) (size : Nat) (w5 : World) (base : Nat) (v : Value) (hs : 1 ≤ size ∧ size ≤ 20) (hl : l.length = size) (hown : w5.ownsRow base 55 8 v size (flat l)) (g c : Nat) (rest : List Value) (hA : At w5 g 55 (flat l ++ rest)) :
    Calls Try.prog 29 #[v, .slice (some ⟨g, 0, none⟩) size c] w5 fun e w' => ∃ q, e = .returned (.bool true) ∧ w' = w5.drewN q := by
  obtain ⟨av, ac, rfl⟩ := owns_form hown
  obtain ⟨ga, ca, rfl, hga, hA2, hcl, hct⟩ := owns_atN hown (by omega)
  have h := ksame_calls l l (some ⟨ga, 0, none⟩) (some ⟨g, 0, none⟩) ac c w5 ga g ca (flat l ++ rest) (fun _ => ⟨rfl, hA2⟩) (by rw [hl]; exact hct) (fun _ => ⟨rfl, hA⟩) (by rw [← flat_length]; exact List.take_left) (by omega) rfl
  rw [hl, decide_eq_true rfl] at h
  exact h
theorem past_sameV {w : World} {pb size ng : Nat} {wr : World} {s : St} {fr : List Nat} {now : List Blk} {pasts : List (List Blk)} {pg : Option Nat} {pcap : Nat} {rows : List PRow} (hI : PastAt w pb size ng wr s fr now pasts pg pcap rows) (hs : 1 ≤ size ∧ size ≤ 20) (v : Value) {base : Nat} (hown : wr.ownsRow base 55 8 v size (flat now)) :
    Calls Try.prog 29 #[v, .slice (some ⟨ng, 0, none⟩) size size] wr fun e w' => ∃ q, e = .returned (.bool true) ∧ w' = wr.drewN q :=
  past_same now size wr base v hs hI.inv.nl hown ng size [] (by rw [List.append_nil]; exact hI.now)

set_option maxHeartbeats 4000000 in
set_option maxRecDepth 100000 in
theorem past_calls (sz : Int) (a : Option Addr) (b off len cap : Nat) (zs : List Int) (w : World) (s1 : -9223372036854775808 ≤ sz) (s2 : sz ≤ 9223372036854775807)
    (ha : 0 < len → a = some ⟨b, off, none⟩) (hb : 0 < len → b < w.heap.size) (hm : len ≤ 9223372036854775807)
    (hc : ∀ t, t < len → w.cell? ⟨b, off + t, none⟩ = some (.int .i64 (zs.getD t 0))) (hz : ∀ t, -9223372036854775808 ≤ zs.getD t 0 ∧ zs.getD t 0 ≤ 9223372036854775807) :
    Calls Try.prog 6 #[.int .i64 sz, .slice a len cap] w fun e w' => e = .returned (.bool true) ∧ Below w.heap.size w w' := by
  have hnot := runNot
  have hps := fun W => pick_calls sz 20 W s1 s2 (by omega) (by omega)
  have hbs := pickF_bd sz 20 (by omega)
  obtain ⟨q1, hq1⟩ : ∃ q : Nat, pickF sz 20 = (q : Int) := ⟨(pickF sz 20).toNat, by omega⟩
  rw [hq1] at hps hbs
  have hw1 : IntKind.i64.wrap (1 + (q1 : Int)) = ((q1 + 1 : Nat) : Int) := by rw [IntWalk.i64_in _ (by omega)]; omega
  clear hq1
  go_enter Try.func6, Try.ntmps6
  go_wp2_with fail
  refine (opened_calls w).mono ?_
  rintro e w1 ⟨pb, rfl, hO⟩
  obtain ⟨⟨s, fr, e1, h1, h2, h3, h4, h5⟩, S⟩ := hO
  have hH1 : Held w pb w1 s fr := ⟨e1, h1, h2, h5, S⟩
  go_wp2_with fail
  refine (hps _).mono ?_
  rintro e wz ⟨rfl, rfl⟩
  clear hps
  go_wp2_with fail
  obtain ⟨size, hsize⟩ : ∃ size : Nat, (q1 : Int) + 1 = (size : Nat) := ⟨q1 + 1, by omega⟩
  rw [hsize]
  have hs20 : 1 ≤ size ∧ size ≤ 20 := by omega
  clear hsize hbs hw1
  have hCr := create_v s fr size wz h1 h2 h3 h4 hs20
  rw [e1] at hCr
  refine hCr.mono ?_
  rintro e w2 ⟨rfl, s', fr', hA2, hO2⟩
  have hH2 := hH1.next hA2
  obtain ⟨LB, hLB, hmB⟩ := run_make_blocks size (by omega)
  have hflt := hH2.pool.foot_lt
  have hzz := hH2.same.size
  have hR0 : PastAt w pb size w2.heap.size (w2.alloc (.cells LB 55)) s' fr' (List.replicate size Blk.zero) [] none 0 [] := by
    have N1 := At.new w2 LB 55
    rw [hLB] at N1
    have S5 : Same [] w2 (w2.alloc (.cells LB 55)) := (Same.refl _ _).alloc _
    refine ⟨hH2.pb, hH2.pool.new S5, hH2.good, past_start hH2.pool hO2 hs20.2, hH2.foot, hH2.same.step S5 (by simp), N1, World.ownsRow_nil _ _ _ _, fun i hi => by simp at hi, fun k hk => ?_, by simp⟩
    have hk' : k = w2.heap.size := by simpa using hk
    subst hk'
    exact ⟨hzz, by simp, fun hm => by have := hflt _ hm; omega⟩
  clear hCr hA2 hH1 hH2 hO2 h1 h2 h3 h4 h5 S e1 hflt hLB
  go_wp2_with fail
  go_loopw [6, 8, 9] (fun ev pv i wr => ∃ (k : Nat) (s : St) (fr : List Nat) (now : List Blk) (pasts : List (List Blk)) (pg : Option Nat) (pcap : Nat) (rows : List PRow), k ≤ len ∧ k ≤ 300 ∧ ev = .int .i64 0 ∧ pv = .slice (adr pg) pasts.length pcap ∧ i = .int .i64 k ∧ PastAt w pb size w2.heap.size wr s fr now pasts pg pcap rows)
    (fun _ _ i _ => 300 - (intOf i).toNat)
  case atStart => exact ⟨0, s', fr', _, [], none, 0, [], Nat.zero_le _, by omega, rfl, rfl, rfl, hR0⟩
  case round =>
    clear hR0
    obtain ⟨k, s, fr, now, pasts, pg, pcap, rows, hk, hk6, rfl, rfl, rfl, hI⟩ := hrel
    by_cases hkl : k < len ∧ k < 300
    · obtain ⟨hkl, hk60⟩ := hkl
      obtain rfl := ha (by omega)
      have hbw := hb (by omega)
      have cz : wr.cell? ⟨b, off + k, none⟩ = some (.int .i64 (zs.getD k 0)) := by
        rw [(hI.same.below (Nat.le_refl _) (by simp)).cell hbw]; exact hc k hkl
      obtain ⟨z1, z2⟩ := hz k
      generalize zs.getD k 0 = z at *
      have l1 : (k : Int) < (len : Int) := by omega
      obtain ⟨u1, u2⟩ := tdiv_bdn z 7 (by omega) z1 z2
      have hw7 : IntKind.i64.wrap (z.tdiv 7) = z.tdiv 7 := IntWalk.i64_in _ (by omega)
      have hPk := fun W => pick_calls (z.tdiv 7) size W u1 u2 (by omega) (by omega)
      have hbk := pickF_bd (z.tdiv 7) size (by omega)
      obtain ⟨kk, hkk⟩ : ∃ kk : Nat, pickF (z.tdiv 7) size = (kk : Int) := ⟨(pickF (z.tdiv 7) size).toNat, by omega⟩
      rw [hkk] at hPk hbk
      have hkks : kk < size := by omega
      obtain ⟨t1, t2⟩ := tdiv_bdn z 140 (by omega) z1 z2
      have hw140 : IntKind.i64.wrap (z.tdiv 140) = z.tdiv 140 := IntWalk.i64_in _ (by omega)
      obtain ⟨t3, t4⟩ := tdiv_bdn z 11 (by omega) z1 z2
      have hw11 : IntKind.i64.wrap (z.tdiv 11) = z.tdiv 11 := IntWalk.i64_in _ (by omega)
      have hBk := fun W => kblock_calls (z.tdiv 140) W t1 t2
      have hP7 := fun W => pick_calls z 7 W z1 z2 (by omega) (by omega)
      have hb7 := pickF_bd z 7 (by omega)
      generalize pickF z 7 = q7 at *
      generalize blkOf (z.tdiv 140) = x at *
      obtain ⟨x0, x1, x2, x3, x4, x5, x6, x7⟩ := x
      unfold Blk.val at hBk
      clear hkk
      have hm8 := hI.inv.many.few
      go_wp2_with fail
      refine (hPk _).mono ?_
      rintro e wz ⟨rfl, rfl⟩
      clear hPk
      go_wp2_with fail
      refine (hBk _).mono ?_
      rintro e w3 ⟨rfl, S3⟩
      clear hBk cz
      have hI2 := hI.new S3
      have Sx : Same [] w3 (w3.alloc (Obj.cells #[.int .u8 x0, .int .u8 x1, .int .u8 x2, .int .u8 x3, .int .u8 x4, .int .u8 x5, .int .u8 x6, .int .u8 x7] 55)) := (Same.refl _ _).alloc _
      have hI3 := hI2.new Sx
      have X3 := At.new w3 #[.int .u8 x0, .int .u8 x1, .int .u8 x2, .int .u8 x3, .int .u8 x4, .int .u8 x5, .int .u8 x6, .int .u8 x7] 55
      have hxf : w3.heap.size ∉ s.foot := fun hm => by have := hI2.pool.foot_lt _ hm; omega
      clear hI hI2 S3 Sx
      go_wp2_with fail
      generalize hW3 : w3.alloc (Obj.cells #[.int .u8 x0, .int .u8 x1, .int .u8 x2, .int .u8 x3, .int .u8 x4, .int .u8 x5, .int .u8 x6, .int .u8 x7] 55) = wa at *
      clear hW3
      refine (hP7 _).mono ?_
      rintro e wz ⟨rfl, rfl⟩
      by_cases hcA : q7 = 0 ∧ pasts.length < 8
      · obtain ⟨rfl, hm7⟩ := hcA
        have lm : (pasts.length : Int) < 8 := by omega
        have hN := fun W => kpicture_calls pasts.length W hm7
        have hPc := fun W (hW : PastAt w pb size w2.heap.size W s fr now pasts pg pcap rows) => pastPicture s fr size now pasts W hW.pool hW.good hW.inv hs20 hm7
        rw [hI3.pb] at hPc
        have HI3 : Hid (PastAt w pb size w2.heap.size wz s fr now pasts pg pcap rows) := hI3
        clear hI3 X3 hP7 hxf
        go_wp2_with fail
        refine (hN _).mono ?_
        rintro e w5 ⟨rfl, S5⟩
        have hI5 := HI3.out.new S5
        clear hN HI3
        go_wp2_with fail
        refine (hPc w5 hI5).mono ?_
        rintro e w6 ⟨rfl, s6, fr6, hA6, hI6⟩
        obtain ⟨b1, b2, b3, b4, b5, b6, b7, b8, b9⟩ := hI5.next hA6
        obtain ⟨i0, hi0, hz0, hz1, hz2⟩ := info_parts Try.info51
        obtain ⟨i1, hi1, hy0, hy1, hy2⟩ := info_parts Try.infoRow
        have hnl := hI5.inv.nl
        have hbz := b5.size
        have hob : (Value.slice (adr pg) pasts.length pcap).ownBlock = pg := by cases pg <;> rfl
        have hpgl : ∀ q, pg = some q → q < w6.heap.size := fun q hq => (b9 q (by rw [hq]; simp)).2.1
        have HB : Hid (At w6 w2.heap.size 55 (flat now) ∧ w6.ownsRow w.heap.size 52 1 (.slice (adr pg) pasts.length pcap) pasts.length (rows.map (PRow.val size))) := ⟨b6, b7⟩
        have HH : Hid (PastAt w pb size w2.heap.size w5 s fr now pasts pg pcap rows ∧ After w5 s w6 s6 fr6 ∧ PastInv s6 fr6 size now (pasts ++ [now])) := ⟨hI5, hA6, hI6⟩
        clear hPc hI5 hA6 hI6 b1 b2 b3 b4 b5 b6 b7 b8 b9
        go_wp2_with (at_builtin; refine wpList_append_own_at _ rfl _ _ 52 rfl w6.heap.size 55 i0 (.agg #[.int .u8 0, .int .u8 0, .int .u8 0, .int .u8 0, .int .u8 0, .int .u8 0, .int .u8 0, .int .u8 0]) 8 8 Try.underlying52 hi0 hz0 hz1 hz2 rfl (by decide) _ _ _ rfl (World.ownsRow_nil _ _ _ _) ⟨w2.heap.size, 0, none⟩ size size (flat now) rfl ?n1 ?c1 ?c2 ?c3 ?c4 ?c5 ?_)
        case n1 => rw [flat_length, hnl]
        case c1 => intro j u hj; rw [Addr.add_lit, Nat.zero_add, HB.out.1.cell?]; exact hj
        case c2 => exact flat_one now
        case c3 => unfold maxLen; omega
        case c4 => omega
        case c5 => exact Nat.le_refl _
        intro v' w7 hown' hgrow _ hblk
        have S7 : Same [] w6 w7 := (Same.refl _ _).grown hgrow (fun j hj hl => by simp [Value.ownBlock] at hj)
        try rw [Nat.zero_add, List.nil_append] at hown'
        obtain ⟨va, vc, rfl⟩ := owns_form hown'
        obtain ⟨rg, rcs, rfl, hrg, hrA, hrl, hrt⟩ := owns_atN hown' (by omega)
        have hown7 := owns_same HB.out.2 S7 (by simp)
        have hz7 := S7.size
        have HR : Hid (At w7 rg 55 (flat now ++ rcs.drop (size * 8)) ∧ w7.ownsRow w.heap.size 52 1 (.slice (adr pg) pasts.length pcap) pasts.length (rows.map (PRow.val size))) := ⟨by rw [← hrt, List.take_append_drop]; exact hrA, hown7⟩
        clear hown' hgrow hblk hrA hrt hown7 HB
        go_wp2_with (at_builtin; refine wpList_append_own_at _ rfl _ _ 53 rfl w.heap.size 52 i1 (.slice none 0 0) 1 24 Try.underlying53 hi1 hy0 hy1 hy2 rfl (by decide) _ _ _ rfl (HR.out.2.alloc _) ⟨w7.heap.size, 0, none⟩ 1 1 [.slice (some ⟨rg, 0, none⟩) size vc] rfl rfl ?d1 ?d2 ?d3 ?d4 ?d5 ?_)
        case d1 =>
          intro j u hj
          match j, hj with
          | 0, hj => simp at hj; subst hj; simp [Addr.add]
        case d2 => intro u hu; simp at hu; subst hu; rfl
        case d3 => unfold maxLen; omega
        case d4 => omega
        case d5 => first | omega | (simp; omega)
        intro v2 w8 hown2 hgrow2 _ hblk2
        try rw [hob] at hgrow2
        try rw [hob] at hblk2
        obtain ⟨va2, vc2, rfl⟩ := owns_form hown2
        obtain ⟨g8, cs8, rfl, hg8, hA8, _, _⟩ := owns_atN hown2 (by omega)
        have S8 : Same pg.toList w7 w8 := ((Same.refl _ _).alloc _).grown hgrow2 (fun j hj hl => by rw [hj]; simp)
        have hlt8 := hA8.lt
        have hI8 : PastAt w pb size w2.heap.size w8 s6 fr6 now (pasts ++ [now]) (some g8) vc2 (rows ++ [⟨rg, vc, rcs.drop (size * 8)⟩]) := by
          refine PastAt.add ⟨rg, vc, rcs.drop (size * 8)⟩ HH.out.1 HH.out.2.1 HH.out.2.2 S7 hrg HR.out.1 S8 ?_ hown2
          rcases hblk2 with e | e
          · left; exact e
          · right
            refine ⟨g8, rfl, ?_, hlt8⟩
            simp [Value.ownBlock] at e
            omega
        have HF : Hid _ := hI8
        clear hI8 hown2 hgrow2 hblk2 HH HR hA8 S8 S7
        go_wp2
        go_roundw
        case rel => exact ⟨k + 1, s6, fr6, now, pasts ++ [now], some g8, vc2, _, by omega, by omega, rfl, by simp [adr], by go_num, HF.out⟩
        case measure => simp [intOf]; omega
      · by_cases hcB : q7 < 3 ∧ 0 < pasts.length
        · obtain ⟨hq3, hmp⟩ := hcB
          have hPn := fun W => pick_calls (z.tdiv 11) pasts.length W t3 t4 (by omega) (by omega)
          have hbn := pickF_bd (z.tdiv 11) pasts.length (by omega)
          obtain ⟨n, hn⟩ : ∃ n : Nat, pickF (z.tdiv 11) pasts.length = (n : Int) := ⟨(pickF (z.tdiv 11) pasts.length).toNat, by omega⟩
          rw [hn] at hPn hbn
          have hnm : n < pasts.length := by omega
          clear hn
          have hN := fun W => kpicture_calls n W (by omega)
          have hWp := fun W (hW : PastAt w pb size w2.heap.size W s fr now pasts pg pcap rows) => pastWriteP s fr size kk n now pasts ⟨x0, x1, x2, x3, x4, x5, x6, x7⟩ W hW.pool hW.good hW.inv hkks hnm
          rw [hI3.pb] at hWp
          unfold Blk.val at hWp
          have hpl := hI3.inv.pl n hnm
          have hX : wz.cell? ⟨w3.heap.size, 0, none⟩ = some (.int .u8 x0) ∧ wz.cell? ⟨w3.heap.size, 1, none⟩ = some (.int .u8 x1) ∧ wz.cell? ⟨w3.heap.size, 2, none⟩ = some (.int .u8 x2) ∧ wz.cell? ⟨w3.heap.size, 3, none⟩ = some (.int .u8 x3) ∧ wz.cell? ⟨w3.heap.size, 4, none⟩ = some (.int .u8 x4) ∧ wz.cell? ⟨w3.heap.size, 5, none⟩ = some (.int .u8 x5) ∧ wz.cell? ⟨w3.heap.size, 6, none⟩ = some (.int .u8 x6) ∧ wz.cell? ⟨w3.heap.size, 7, none⟩ = some (.int .u8 x7) := At.eight0 X3
          have HI3 : Hid (PastAt w pb size w2.heap.size wz s fr now pasts pg pcap rows ∧ At wz w3.heap.size 55 _) := ⟨hI3, X3⟩
          have hkk8 : (kk : Int) < (size : Int) := by omega
          have hnm8 : (n : Int) < (pasts.length : Int) := by omega
          have hmp8 : (0 : Int) < (pasts.length : Int) := by omega
          clear hI3 X3
          have hC : (q7 = 0 ∧ (8 : Int) ≤ (pasts.length : Int)) ∨ (¬ (q7 = 0)) := by omega
          clear hcA
          rcases hC with ⟨rfl, c2⟩ | c1
          all_goals
            try have c1' : (q7 == 0) = false := by simpa using c1
            go_wp2_with fail
            refine (hP7 _).mono ?_
            rintro e w' ⟨rfl, hw⟩
            obtain rfl := hw.symm
            clear hw
            go_wp2_with fail
            refine (hPn _).mono ?_
            rintro e w' ⟨rfl, hw⟩
            obtain rfl := hw.symm
            clear hw hPn hP7
            go_wp2_with fail
            go_region_held3 (fun w' => w'.cell? ⟨w3.heap.size, 0, none⟩ = some (.int .u8 x0) ∧ w'.cell? ⟨w3.heap.size, 1, none⟩ = some (.int .u8 x1) ∧ w'.cell? ⟨w3.heap.size, 2, none⟩ = some (.int .u8 x2) ∧ w'.cell? ⟨w3.heap.size, 3, none⟩ = some (.int .u8 x3) ∧ w'.cell? ⟨w3.heap.size, 4, none⟩ = some (.int .u8 x4) ∧ w'.cell? ⟨w3.heap.size, 5, none⟩ = some (.int .u8 x5) ∧ w'.cell? ⟨w3.heap.size, 6, none⟩ = some (.int .u8 x6) ∧ w'.cell? ⟨w3.heap.size, 7, none⟩ = some (.int .u8 x7)) (first | assumption | exact hX) (first | (go_at_call 26; refine (hN _).mono ?_; rintro e w5 ⟨rfl, S5⟩; have hI5 := HI3.out.1.new (((Same.refl [] wz).drew).step S5 (by simp)); have X5 := (((Same.refl [] wz).drew).step S5 (by simp)).at HI3.out.2 (by simp); have hk5 := At.eight0 X5) | (go_at_call 27; refine (hWp w5 hI5).mono ?_; rintro e w6 ⟨rfl, s6, hA6, hI6⟩; have X6 := hA6.same.at X5 hxf; have hk6 := At.eight0 X6))
            all_goals
              obtain ⟨g, r, hpg, hr, hc5, hAt5⟩ := hI5.cell n hnm
              have n7 := (hI5.next hA6).2.2.2.2.2.2.1
              have hc6 := n7.cells (g := g) (by rw [hpg]; rfl) n (r.val size) (by rw [List.getElem?_map, hr]; rfl)
              rw [Addr.add_lit, Nat.zero_add] at hc6
              have hc7 : w6.cell? ⟨g, n, none⟩ = some (.slice (some ⟨r.g, 0, none⟩) size r.cap) := hc6
              have hmr : r.g ∈ rows.map (·.g) := List.mem_map_of_mem (List.mem_of_getElem? hr)
              have hAt6 := hA6.same.at hAt5 (hI5.out r.g (by simp only [List.mem_cons, List.mem_append]; exact Or.inr (Or.inr hmr))).2.2
              have fn := hAt6.frozen
              obtain ⟨d0, d1, d2, d3, d4, d5, d6, d7⟩ := hAt6.eightr kk (by omega)
              obtain ⟨E1, E2⟩ := hAt6.set8r kk (by omega) x0 x1 x2 x3 x4 x5 x6 x7
              have HF : Hid _ := (hI5.storePast hA6 n r _ hnm hr hI6 E2 E1).new ((Same.refl [] _).drew)
              have hadr : adr pg = some ⟨g, 0, none⟩ := by rw [hpg]; rfl
              rw [hadr]
              have b0 : w6.cell? ⟨w3.heap.size, 0, none⟩ = some (.int .u8 x0) := X6.cell? 0
              have b1 : w6.cell? ⟨w3.heap.size, 1, none⟩ = some (.int .u8 x1) := X6.cell? 1
              have b2 : w6.cell? ⟨w3.heap.size, 2, none⟩ = some (.int .u8 x2) := X6.cell? 2
              have b3 : w6.cell? ⟨w3.heap.size, 3, none⟩ = some (.int .u8 x3) := X6.cell? 3
              have b4 : w6.cell? ⟨w3.heap.size, 4, none⟩ = some (.int .u8 x4) := X6.cell? 4
              have b5 : w6.cell? ⟨w3.heap.size, 5, none⟩ = some (.int .u8 x5) := X6.cell? 5
              have b6 : w6.cell? ⟨w3.heap.size, 6, none⟩ = some (.int .u8 x6) := X6.cell? 6
              have b7 : w6.cell? ⟨w3.heap.size, 7, none⟩ = some (.int .u8 x7) := X6.cell? 7
              clear hX hWp hN E1 E2 X5 X6 hI6 hA6 hI5 HI3 hc5 hAt5 hc6 hAt6 hk5 hk6 n7 S5
              go_wp2_with fail
              refine region_tail 7 (by kernel_rfl) (by kernel_rfl) ?_
              simp only [List.take_succ_cons, List.take_zero, List.drop_succ_cons, List.drop_zero]
              repeat still_step
              refine wpStill_nil ?_
              go_wp2
              go_roundw
              case rel => exact ⟨k + 1, s6, fr, now, pasts.set n _, pg, pcap, rows, by omega, by omega, rfl, by rw [hadr, List.length_set], by go_num, HF.out⟩
              case measure => simp [intOf]; omega
        · have hWv := fun W (hW : PastAt w pb size w2.heap.size W s fr now pasts pg pcap rows) => pastWriteV s fr size kk now pasts ⟨x0, x1, x2, x3, x4, x5, x6, x7⟩ W hW.pool hW.good hW.inv hkks
          rw [hI3.pb] at hWv
          unfold Blk.val at hWv
          have hWw := hWv wz hI3
          have a0 : wz.cell? ⟨w3.heap.size, 0, none⟩ = some (.int .u8 x0) := X3.cell? 0
          have a1 : wz.cell? ⟨w3.heap.size, 1, none⟩ = some (.int .u8 x1) := X3.cell? 1
          have a2 : wz.cell? ⟨w3.heap.size, 2, none⟩ = some (.int .u8 x2) := X3.cell? 2
          have a3 : wz.cell? ⟨w3.heap.size, 3, none⟩ = some (.int .u8 x3) := X3.cell? 3
          have a4 : wz.cell? ⟨w3.heap.size, 4, none⟩ = some (.int .u8 x4) := X3.cell? 4
          have a5 : wz.cell? ⟨w3.heap.size, 5, none⟩ = some (.int .u8 x5) := X3.cell? 5
          have a6 : wz.cell? ⟨w3.heap.size, 6, none⟩ = some (.int .u8 x6) := X3.cell? 6
          have a7 : wz.cell? ⟨w3.heap.size, 7, none⟩ = some (.int .u8 x7) := X3.cell? 7
          have hnl := hI3.inv.nl
          have HI3 : Hid (PastAt w pb size w2.heap.size wz s fr now pasts pg pcap rows ∧ At wz w3.heap.size 55 _) := ⟨hI3, X3⟩
          have hkk8 : (kk : Int) < (size : Int) := by omega
          clear hWv hI3 X3
          have hC : (¬ (q7 = 0) ∧ (q7 < 3) ∧ pasts.length = 0) ∨ (¬ (q7 = 0) ∧ 3 ≤ q7) := by omega
          clear hcA hcB
          rcases hC with ⟨c1, c2, c3⟩ | ⟨c1, c2⟩
          all_goals
            have c1' : (q7 == 0) = false := by simpa using c1
            go_wp2_with (first | (go_at_call 16; refine (hP7 _).mono ?_; rintro e w' ⟨rfl, hw⟩; obtain rfl := hw.symm))
            refine hWw.mono ?_
            rintro e w5 ⟨rfl, s5, hA5, hI5⟩
            have X5 := hA5.same.at HI3.out.2 hxf
            obtain ⟨n1, n2, n3, n4, n5, n6, n7, n8, n9⟩ := HI3.out.1.next hA5
            have fn := n6.frozen
            obtain ⟨d0, d1, d2, d3, d4, d5, d6, d7⟩ := n6.eight kk (by omega)
            have b0 : w5.cell? ⟨w3.heap.size, 0, none⟩ = some (.int .u8 x0) := X5.cell? 0
            have b1 : w5.cell? ⟨w3.heap.size, 1, none⟩ = some (.int .u8 x1) := X5.cell? 1
            have b2 : w5.cell? ⟨w3.heap.size, 2, none⟩ = some (.int .u8 x2) := X5.cell? 2
            have b3 : w5.cell? ⟨w3.heap.size, 3, none⟩ = some (.int .u8 x3) := X5.cell? 3
            have b4 : w5.cell? ⟨w3.heap.size, 4, none⟩ = some (.int .u8 x4) := X5.cell? 4
            have b5 : w5.cell? ⟨w3.heap.size, 5, none⟩ = some (.int .u8 x5) := X5.cell? 5
            have b6 : w5.cell? ⟨w3.heap.size, 6, none⟩ = some (.int .u8 x6) := X5.cell? 6
            have b7 : w5.cell? ⟨w3.heap.size, 7, none⟩ = some (.int .u8 x7) := X5.cell? 7
            obtain ⟨E1, E2⟩ := n6.set8 kk (by omega) x0 x1 x2 x3 x4 x5 x6 x7
            have HF : Hid _ := HI3.out.1.storeNow hA5 hI5 E2 E1
            clear hWw n1 n2 n3 n4 n5 n6 n7 n8 n9 E1 E2 X5 hI5 hA5 HI3 a0 a1 a2 a3 a4 a5 a6 a7
            go_wp2
            go_roundw
            case rel => exact ⟨k + 1, s5, fr, _, pasts, pg, pcap, rows, by omega, by omega, rfl, by first | rfl | (rw [c3]), by go_num, HF.out⟩
            case measure => simp [intOf]; omega
    · have hstop : (len : Int) ≤ (k : Int) ∨ ((k : Int) < (len : Int) ∧ (300 : Int) ≤ (k : Int)) := by omega
      have hm8 := hI.inv.many.few
      have hTV := fun W (hW : PastAt w pb size w2.heap.size W s fr now pasts pg pcap rows) => past_toldV hW hs20.2
      have hTP := fun W (hW : PastAt w pb size w2.heap.size W s fr now pasts pg pcap rows) j hj => past_toldP hW hs20.2 j hj
      have HI : Hid (PastAt w pb size w2.heap.size wr s fr now pasts pg pcap rows) := hI
      have hTV1 := hTV wr hI
      have hnl := hI.inv.nl
      clear hkl hk hk6 hI hTV
      rcases hstop with hst | ⟨hst, hst2⟩
      all_goals
        go_wp2_with fail
        refine hTV1.mono ?_
        rintro e w5 ⟨v, rfl, hown, S5⟩
        have hI5 := HI.out.new S5
        have hSM := past_sameV hI5 hs20 v hown
        obtain ⟨va, vc, rfl⟩ := owns_form hown
        have HI5 : Hid (PastAt w pb size w2.heap.size w5 s fr now pasts pg pcap rows) := hI5
        clear hTV1 hown hI5 HI
        go_wp2_with (go_at_call 29; refine hSM.mono ?_; rintro e w6 ⟨q, rfl, rfl⟩)
        have hI6 := HI5.out.new ((Same.refl [] w5).drewN q)
        clear hSM HI5
        go_loopw [15, 16, 17, 18] (fun lv okv xv i wq => ∃ j : Nat, j ≤ pasts.length ∧ i = .int .i64 j ∧ PastAt w pb size w2.heap.size wq s fr now pasts pg pcap rows) (fun _ _ _ i _ => 8 - (intOf i).toNat)
        case atStart => exact ⟨0, Nat.zero_le _, rfl, hI6⟩
        case round =>
          clear hI6
          obtain ⟨j, hj, rfl, hIj⟩ := hrel
          by_cases hjm : j < pasts.length
          · have hN := fun W => kpicture_calls j W (by omega)
            have hTj := fun W hW => hTP W hW j hjm
            have ljm : (j : Int) < (pasts.length : Int) := by omega
            have hplj := hIj.inv.pl j hjm
            have HIj : Hid (PastAt w pb size w2.heap.size _ s fr now pasts pg pcap rows) := hIj
            clear hIj hTP
            go_wp2_with fail
            refine (hN _).mono ?_
            rintro e w7 ⟨rfl, S7⟩
            have hI7 := HIj.out.new S7
            clear HIj hN
            go_wp2_with fail
            refine (hTj w7 hI7).mono ?_
            rintro e w8 ⟨v8, rfl, hown8, S8⟩
            have hI8 := hI7.new S8
            obtain ⟨g, r, hpg, hr, hc8, hAt8⟩ := hI8.cell j hjm
            have hSM := past_same (pasts[j]!) size w8 _ v8 hs20 hplj hown8 r.g r.cap r.rest hAt8
            have hadr : adr pg = some ⟨g, 0, none⟩ := by rw [hpg]; rfl
            obtain ⟨va8, vc8, rfl⟩ := owns_form hown8
            have HI8 : Hid (PastAt w pb size w2.heap.size w8 s fr now pasts pg pcap rows) := hI8
            clear hTj hI7 hI8 hown8 S8 hAt8
            rw [hadr]
            go_wp2_with (go_at_call 29; refine hSM.mono ?_; rintro e w9 ⟨q9, rfl, rfl⟩)
            have HI9 : Hid (PastAt w pb size w2.heap.size (w8.drewN q9) s fr now pasts pg pcap rows) := HI8.out.new ((Same.refl [] w8).drewN q9)
            clear HI8 hSM
            try rw [← hadr]
            try go_wp2
            go_roundw
            case rel => exact ⟨j + 1, by omega, by go_num, HI9.out⟩
            case measure => simp [intOf]; omega
          · have ljm : (pasts.length : Int) ≤ (j : Int) := by omega
            have hB := hIj.same
            clear hIj hTP
            go_wp2
            go_ret
            exact ⟨rfl, hB.below (Nat.le_refl _) (by simp)⟩
end Go.Proofs.Ytpddgdjocffgdaa
