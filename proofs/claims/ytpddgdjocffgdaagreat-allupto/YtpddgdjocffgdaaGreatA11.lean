/- Packed: see the last text. -/
import Derived.Test.YtpddgdjocffgdaaGreatA10
import Derived.Deep.RegionHeld3
import Derived.Deep.Slices
import Derived.ChangeArms
import Derived.ProofKit
import Derived.ChangeSame
import Derived.Test.YtpddgdjocffgdaaGreatRows
namespace Go.Proofs.YtpddgdjocffgdaaGreat
open Go.Proofs.Tryz
set_option linter.unusedVariables false
set_option linter.unusedSimpArgs false
set_option linter.unusedSectionVars false
set_option maxHeartbeats 16000000
set_option maxRecDepth 100000
section
open Go.RowKit Go.Sort
variable [DecidableEq aN] [Inhabited aN] [Inhabited aF] [Inhabited ay]
def dw(k kk a:Int)(t u x:ByteArray):Value:=.agg #[.int .i64 k,.int .i64 kk,.int .i64 a,.string t,.string u,.string x]
theorem qQ(w:World)(k kk a:Int)(t u x:ByteArray):At (w.alloc (.cells #[.int .i64 k,.int .i64 kk,.int .i64 a,.string t,.string u,.string x] 34)) w.heap.size 34 [.int .i64 k,.int .i64 kk,.int .i64 a,.string t,.string u,.string x]:=At.new w _ _
theorem D8(bb:Nat)(s:St)(fr:List Nat)(r:aQ)(w:World)(h:dA w bb s fr r)(kk a:Int)(t u x:ByteArray)(ht:t.size<=maxLen) :
 Calls prog 28 #[.pointer (some ⟨bb,0,none⟩),dw 1 kk a t u x] w fun e w'=>e=.returned (.bool true)/\dQ w bb s r w':=by
 unfold dw;have O0:=qQ w 1 kk a t u x;have S0:Same [] w (w.alloc (.cells #[.int .i64 1,.int .i64 kk,.int .i64 a,.string t,.string u,.string x] 34)):=(Same.refl _ _).alloc _;have hB0:=(h.new S0).new ((Same.refl [] _).drew);have hlt:=h.both.lt;have hnf:w.heap.size∉s.foot++r.foot:=fun hm=>by have:=h.two.bn _ hm;omega
 have d0:(w.alloc (.cells #[.int .i64 1,.int .i64 kk,.int .i64 a,.string t,.string u,.string x] 34)).cell? ⟨bb,0,none⟩=some (.pointer (some ⟨s.pb,0,none⟩)):=(h.new S0).both.cell? 0;have HO:Hid (At (w.alloc (.cells #[.int .i64 1,.int .i64 kk,.int .i64 a,.string t,.string u,.string x] 34)) w.heap.size 34 [.int .i64 1,.int .i64 kk,.int .i64 a,.string t,.string u,.string x]):=O0;have HS0:Hid (Same [] w (w.alloc (.cells #[.int .i64 1,.int .i64 kk,.int .i64 a,.string t,.string u,.string x] 34))):=S0;have HB:Hid _:=hB0;clear S0 O0 h hB0
 go_enter func28,ntmps28
 go_wp2_with fail
 refine aU 8 (by kernel_rfl) (by kernel_rfl) ?_;simp only[List.take_succ_cons,List.take_zero,List.drop_succ_cons,List.drop_zero]
 repeat still_step
 refine wpStill_nil ?_;have h:=HB.out;obtain⟨c,P,c0,c13,hp1,hp2⟩:=(LC h.two.pool h.two.good h.two.spare h.two.rel h.two.nodup t a ht).ex;have HP2:Hid _:=hp2;clear hp2 h
 go_wp2_with (go_at_call 47;refine hp1.mono ?_;rintro e w1 ⟨rfl,s',fr',hA,hsp,hPs⟩)
 obtain⟨hR1,hB1⟩:=HB.out.mid hA;have O1:=hA.same.at HO.out.drew (fun hm=>hnf (List.mem_append_left _ hm));have x0:=O1.cell? 0;have x2:=O1.cell? 2;have x3:=O1.cell? 3;have x4:=O1.cell? 4;have x1:=hB1.cell? 1;simp only[List.getElem?_cons_succ,List.getElem?_cons_zero]at x0 x1 x2 x3 x4;refine aU 8 (by kernel_rfl) (by kernel_rfl) ?_;simp only[List.take_succ_cons,List.take_zero,List.drop_succ_cons,List.drop_zero]
 repeat still_step
 refine wpStill_nil ?_;have hp2:=HP2.out w1.drew (hR1.iW ((Same.refl [] _).drew));have hnum:=fun W=>num_int c W c0 c13
 go_wp2_with (first|(go_at_call 48;refine hp2.mono ?_;rintro e w2 ⟨rfl,r',hR,Aa⟩)|(go_at_call 26;refine(hnum _).mono ?_;rintro e w3 ⟨rfl,rfl⟩))
 go_ret
 refine⟨by simp,?_⟩;have hnx:=HB.out.next hA hsp (hR.old ((Same.refl [] _).drew)) (Aa _ _ _ hA.pool hA.good hPs);exact hnx.old (HS0.out.step ((Same.refl [] _).drew) (by simp))
theorem DC(bb:Nat)(s:St)(fr:List Nat)(r:aQ)(w:World)(h:dA w bb s fr r)(kk a:Int)(t u x:ByteArray)(ht:t.size<=maxLen) :
 Calls prog 28 #[.pointer (some ⟨bb,0,none⟩),dw 4 kk a t u x] w fun e w'=>e=.returned (.bool true)/\dQ w bb s r w':=by
 unfold dw;have O0:=qQ w 4 kk a t u x;have S0:Same [] w (w.alloc (.cells #[.int .i64 4,.int .i64 kk,.int .i64 a,.string t,.string u,.string x] 34)):=(Same.refl _ _).alloc _;have hB0:=(h.new S0).new ((Same.refl [] _).drew);have hlt:=h.both.lt;have hnf:w.heap.size∉s.foot++r.foot:=fun hm=>by have:=h.two.bn _ hm;omega
 have d0:(w.alloc (.cells #[.int .i64 4,.int .i64 kk,.int .i64 a,.string t,.string u,.string x] 34)).cell? ⟨bb,0,none⟩=some (.pointer (some ⟨s.pb,0,none⟩)):=(h.new S0).both.cell? 0;have HO:Hid (At (w.alloc (.cells #[.int .i64 4,.int .i64 kk,.int .i64 a,.string t,.string u,.string x] 34)) w.heap.size 34 [.int .i64 4,.int .i64 kk,.int .i64 a,.string t,.string u,.string x]):=O0;have HS0:Hid (Same [] w (w.alloc (.cells #[.int .i64 4,.int .i64 kk,.int .i64 a,.string t,.string u,.string x] 34))):=S0;have HB:Hid _:=hB0;clear S0 O0 h hB0
 go_enter func28,ntmps28
 go_wp2_with fail
 refine aU 8 (by kernel_rfl) (by kernel_rfl) ?_;simp only[List.take_succ_cons,List.take_zero,List.drop_succ_cons,List.drop_zero]
 repeat still_step
 refine wpStill_nil ?_;have h:=HB.out;obtain⟨c,P,c0,c13,hp1,hp2⟩:=(KD h.two.pool h.two.good h.two.spare h.two.rel h.two.nodup t a).ex;have HP2:Hid _:=hp2;clear hp2 h
 go_wp2_with (go_at_call 53;refine hp1.mono ?_;rintro e w1 ⟨rfl,s',fr',hA,hsp,hPs⟩)
 obtain⟨hR1,hB1⟩:=HB.out.mid hA;have O1:=hA.same.at HO.out.drew (fun hm=>hnf (List.mem_append_left _ hm));have x0:=O1.cell? 0;have x2:=O1.cell? 2;have x3:=O1.cell? 3;have x4:=O1.cell? 4;have x1:=hB1.cell? 1;simp only[List.getElem?_cons_succ,List.getElem?_cons_zero]at x0 x1 x2 x3 x4;refine aU 8 (by kernel_rfl) (by kernel_rfl) ?_;simp only[List.take_succ_cons,List.take_zero,List.drop_succ_cons,List.drop_zero]
 repeat still_step
 refine wpStill_nil ?_;have hp2:=HP2.out w1.drew (hR1.iW ((Same.refl [] _).drew));have hnum:=fun W=>num_int c W c0 c13
 go_wp2_with (first|(go_at_call 54;refine hp2.mono ?_;rintro e w2 ⟨rfl,r',hR,Aa⟩)|(go_at_call 26;refine(hnum _).mono ?_;rintro e w3 ⟨rfl,rfl⟩))
 go_ret
 refine⟨by simp,?_⟩;have hnx:=HB.out.next hA hsp (hR.old ((Same.refl [] _).drew)) (Aa _ _ _ hA.pool hA.good hPs);exact hnx.old (HS0.out.step ((Same.refl [] _).drew) (by simp))
theorem DZ(bb:Nat)(s:St)(fr:List Nat)(r:aQ)(w:World)(h:dA w bb s fr r)(kk a:Int)(t u x:ByteArray)(ht:t.size<=maxLen) :
 Calls prog 28 #[.pointer (some ⟨bb,0,none⟩),dw 5 kk a t u x] w fun e w'=>e=.returned (.bool true)/\dQ w bb s r w':=by
 unfold dw;have O0:=qQ w 5 kk a t u x;have S0:Same [] w (w.alloc (.cells #[.int .i64 5,.int .i64 kk,.int .i64 a,.string t,.string u,.string x] 34)):=(Same.refl _ _).alloc _;have hB0:=(h.new S0).new ((Same.refl [] _).drew);have hlt:=h.both.lt;have hnf:w.heap.size∉s.foot++r.foot:=fun hm=>by have:=h.two.bn _ hm;omega
 have d0:(w.alloc (.cells #[.int .i64 5,.int .i64 kk,.int .i64 a,.string t,.string u,.string x] 34)).cell? ⟨bb,0,none⟩=some (.pointer (some ⟨s.pb,0,none⟩)):=(h.new S0).both.cell? 0;have HO:Hid (At (w.alloc (.cells #[.int .i64 5,.int .i64 kk,.int .i64 a,.string t,.string u,.string x] 34)) w.heap.size 34 [.int .i64 5,.int .i64 kk,.int .i64 a,.string t,.string u,.string x]):=O0;have HS0:Hid (Same [] w (w.alloc (.cells #[.int .i64 5,.int .i64 kk,.int .i64 a,.string t,.string u,.string x] 34))):=S0;have HB:Hid _:=hB0;clear S0 O0 h hB0
 go_enter func28,ntmps28
 go_wp2_with fail
 refine aU 6 (by kernel_rfl) (by kernel_rfl) ?_;simp only[List.take_succ_cons,List.take_zero,List.drop_succ_cons,List.drop_zero]
 repeat still_step
 refine wpStill_nil ?_;have h:=HB.out;obtain⟨c,P,c0,c13,hp1,hp2⟩:=(I7 h.two.pool h.two.good h.two.spare h.two.rel h.two.nodup t).ex;have HP2:Hid _:=hp2;clear hp2 h
 go_wp2_with (go_at_call 55;refine hp1.mono ?_;rintro e w1 ⟨rfl,s',fr',hA,hsp,hPs⟩)
 obtain⟨hR1,hB1⟩:=HB.out.mid hA;have O1:=hA.same.at HO.out.drew (fun hm=>hnf (List.mem_append_left _ hm));have x0:=O1.cell? 0;have x2:=O1.cell? 2;have x3:=O1.cell? 3;have x4:=O1.cell? 4;have x1:=hB1.cell? 1;simp only[List.getElem?_cons_succ,List.getElem?_cons_zero]at x0 x1 x2 x3 x4;refine aU 6 (by kernel_rfl) (by kernel_rfl) ?_;simp only[List.take_succ_cons,List.take_zero,List.drop_succ_cons,List.drop_zero]
 repeat still_step
 refine wpStill_nil ?_;have hp2:=HP2.out w1.drew (hR1.iW ((Same.refl [] _).drew));have hnum:=fun W=>num_int c W c0 c13
 go_wp2_with (first|(go_at_call 56;refine hp2.mono ?_;rintro e w2 ⟨rfl,r',hR,Aa⟩)|(go_at_call 26;refine(hnum _).mono ?_;rintro e w3 ⟨rfl,rfl⟩))
 go_ret
 refine⟨by simp,?_⟩;have hnx:=HB.out.next hA hsp (hR.old ((Same.refl [] _).drew)) (Aa _ _ _ hA.pool hA.good hPs);exact hnx.old (HS0.out.step ((Same.refl [] _).drew) (by simp))
theorem AY(bb:Nat)(s:St)(fr:List Nat)(r:aQ)(w:World)(h:dA w bb s fr r)(kk a:Int)(t u x:ByteArray)(ht:t.size<=maxLen) :
 Calls prog 28 #[.pointer (some ⟨bb,0,none⟩),dw 9 kk a t u x] w fun e w'=>e=.returned (.bool true)/\dQ w bb s r w':=by
 unfold dw;have O0:=qQ w 9 kk a t u x;have S0:Same [] w (w.alloc (.cells #[.int .i64 9,.int .i64 kk,.int .i64 a,.string t,.string u,.string x] 34)):=(Same.refl _ _).alloc _;have hB0:=(h.new S0).new ((Same.refl [] _).drew);have hlt:=h.both.lt;have hnf:w.heap.size∉s.foot++r.foot:=fun hm=>by have:=h.two.bn _ hm;omega
 have d0:(w.alloc (.cells #[.int .i64 9,.int .i64 kk,.int .i64 a,.string t,.string u,.string x] 34)).cell? ⟨bb,0,none⟩=some (.pointer (some ⟨s.pb,0,none⟩)):=(h.new S0).both.cell? 0;have HO:Hid (At (w.alloc (.cells #[.int .i64 9,.int .i64 kk,.int .i64 a,.string t,.string u,.string x] 34)) w.heap.size 34 [.int .i64 9,.int .i64 kk,.int .i64 a,.string t,.string u,.string x]):=O0;have HS0:Hid (Same [] w (w.alloc (.cells #[.int .i64 9,.int .i64 kk,.int .i64 a,.string t,.string u,.string x] 34))):=S0;have HB:Hid _:=hB0;clear S0 O0 h hB0
 go_enter func28,ntmps28
 go_wp2_with fail
 refine aU 10 (by kernel_rfl) (by kernel_rfl) ?_;simp only[List.take_succ_cons,List.take_zero,List.drop_succ_cons,List.drop_zero]
 repeat still_step
 refine wpStill_nil ?_;have h:=HB.out;obtain⟨c,P,c0,c13,hp1,hp2⟩:=(Iu h.two.pool h.two.good h.two.spare h.two.rel h.two.nodup t u a ht).ex;have HP2:Hid _:=hp2;clear hp2 h
 go_wp2_with (go_at_call 57;refine hp1.mono ?_;rintro e w1 ⟨rfl,s',fr',hA,hsp,hPs⟩)
 obtain⟨hR1,hB1⟩:=HB.out.mid hA;have O1:=hA.same.at HO.out.drew (fun hm=>hnf (List.mem_append_left _ hm));have x0:=O1.cell? 0;have x2:=O1.cell? 2;have x3:=O1.cell? 3;have x4:=O1.cell? 4;have x1:=hB1.cell? 1;simp only[List.getElem?_cons_succ,List.getElem?_cons_zero]at x0 x1 x2 x3 x4;refine aU 10 (by kernel_rfl) (by kernel_rfl) ?_;simp only[List.take_succ_cons,List.take_zero,List.drop_succ_cons,List.drop_zero]
 repeat still_step
 refine wpStill_nil ?_;have hp2:=HP2.out w1.drew (hR1.iW ((Same.refl [] _).drew));have hnum:=fun W=>num_int c W c0 c13
 go_wp2_with (first|(go_at_call 58;refine hp2.mono ?_;rintro e w2 ⟨rfl,r',hR,Aa⟩)|(go_at_call 26;refine(hnum _).mono ?_;rintro e w3 ⟨rfl,rfl⟩))
 go_ret
 refine⟨by simp,?_⟩;have hnx:=HB.out.next hA hsp (hR.old ((Same.refl [] _).drew)) (Aa _ _ _ hA.pool hA.good hPs);exact hnx.old (HS0.out.step ((Same.refl [] _).drew) (by simp))
theorem Dw(bb:Nat)(s:St)(fr:List Nat)(r:aQ)(w:World)(h:dA w bb s fr r)(kk a:Int)(t u x:ByteArray)(ht:t.size<=maxLen) :
 Calls prog 28 #[.pointer (some ⟨bb,0,none⟩),dw 10 kk a t u x] w fun e w'=>e=.returned (.bool true)/\dQ w bb s r w':=by
 unfold dw;have O0:=qQ w 10 kk a t u x;have S0:Same [] w (w.alloc (.cells #[.int .i64 10,.int .i64 kk,.int .i64 a,.string t,.string u,.string x] 34)):=(Same.refl _ _).alloc _;have hB0:=(h.new S0).new ((Same.refl [] _).drew);have hlt:=h.both.lt;have hnf:w.heap.size∉s.foot++r.foot:=fun hm=>by have:=h.two.bn _ hm;omega
 have d0:(w.alloc (.cells #[.int .i64 10,.int .i64 kk,.int .i64 a,.string t,.string u,.string x] 34)).cell? ⟨bb,0,none⟩=some (.pointer (some ⟨s.pb,0,none⟩)):=(h.new S0).both.cell? 0;have HO:Hid (At (w.alloc (.cells #[.int .i64 10,.int .i64 kk,.int .i64 a,.string t,.string u,.string x] 34)) w.heap.size 34 [.int .i64 10,.int .i64 kk,.int .i64 a,.string t,.string u,.string x]):=O0;have HS0:Hid (Same [] w (w.alloc (.cells #[.int .i64 10,.int .i64 kk,.int .i64 a,.string t,.string u,.string x] 34))):=S0;have HB:Hid _:=hB0;clear S0 O0 h hB0
 go_enter func28,ntmps28
 go_wp2_with fail
 refine aU 6 (by kernel_rfl) (by kernel_rfl) ?_;simp only[List.take_succ_cons,List.take_zero,List.drop_succ_cons,List.drop_zero]
 repeat still_step
 refine wpStill_nil ?_;have h:=HB.out;obtain⟨c,P,c0,c13,hp1,hp2⟩:=(L9 h.two.pool h.two.good h.two.spare h.two.rel h.two.nodup t).ex;have HP2:Hid _:=hp2;clear hp2 h
 go_wp2_with (go_at_call 59;refine hp1.mono ?_;rintro e w1 ⟨rfl,s',fr',hA,hsp,hPs⟩)
 obtain⟨hR1,hB1⟩:=HB.out.mid hA;have O1:=hA.same.at HO.out.drew (fun hm=>hnf (List.mem_append_left _ hm));have x0:=O1.cell? 0;have x2:=O1.cell? 2;have x3:=O1.cell? 3;have x4:=O1.cell? 4;have x1:=hB1.cell? 1;simp only[List.getElem?_cons_succ,List.getElem?_cons_zero]at x0 x1 x2 x3 x4;refine aU 6 (by kernel_rfl) (by kernel_rfl) ?_;simp only[List.take_succ_cons,List.take_zero,List.drop_succ_cons,List.drop_zero]
 repeat still_step
 refine wpStill_nil ?_;have hp2:=HP2.out w1.drew (hR1.iW ((Same.refl [] _).drew));have hnum:=fun W=>num_int c W c0 c13
 go_wp2_with (first|(go_at_call 60;refine hp2.mono ?_;rintro e w2 ⟨rfl,r',hR,Aa⟩)|(go_at_call 26;refine(hnum _).mono ?_;rintro e w3 ⟨rfl,rfl⟩))
 go_ret
 refine⟨by simp,?_⟩;have hnx:=HB.out.next hA hsp (hR.old ((Same.refl [] _).drew)) (Aa _ _ _ hA.pool hA.good hPs);exact hnx.old (HS0.out.step ((Same.refl [] _).drew) (by simp))
theorem RJ{w:World}{s:St}{fr:List Nat}{r:aQ}(h:kD w s fr r)(t:ByteArray)(k:Int):∃(c:Int)(x:aN),0<=c/\c<=13 /\
 (Calls prog 61 #[.pointer (some ⟨s.pb,0,none⟩),.string t,.int .i64 k] w fun e w'=>e=.returned (.tuple #[x.val,.int .i64 c])/\Same [] w w') /\
 (∀W,aO W r->Calls prog 62 #[.pointer (some ⟨r.rb,0,none⟩),.string t,.int .i64 k] W fun e w'=>e=.returned (.tuple #[.string x.text,.int .i64 c])/\w'=W):=by
 have hP:=h.pool;have hG:=h.good;have hrel:=h.rel;by_cases h1:s.has t=true
 case neg=>
  have h1':s.has t=false:=by simpa using h1
  have hc:=JH hrel hP h1' k;refine⟨4,aN.zero,by omega,by omega,Cf s t k 4 w (by decide) fun w' hS=>sV s t k w' (hP.new hS) h1',fun W hR=>?_⟩;have:=qJ r t k W hR (by omega);rw[hc]at this;exact this
 obtain⟨hm,hnm,hp⟩:=St.aT h1;have hra:=hrel.oG hP h1;have hrv:jq s (s.aA t) (r.af[posOf s.names t]!):=hrel.aA h1;have hac:=OE hrel hP h1 k;by_cases hl:(s.aA t).lost=true
 ·rw[if_pos hl]at hac;refine⟨9,aN.zero,by omega,by omega,Cf s t k 9 w (by decide) fun w' hS=>rJ s t k w' (hP.new hS) h1 hl,fun W hR=>?_⟩;have:=qJ r t k W hR (by omega);rw[hac]at this;exact this
 have hl':(s.aA t).lost=false:=by simpa using hl
 rw[if_neg hl]at hac;by_cases hk:0<=k/\k<s.size (s.aA t)
 case neg=>
  rw[if_pos (by omega)]at hac;refine⟨1,aN.zero,by omega,by omega,Cf s t k 1 w (by decide) fun w' hS=>uI s t k w' (hP.new hS) h1 hl' hk,fun W hR=>?_⟩;have:=qJ r t k W hR (by omega);rw[hac]at this;exact this
 obtain⟨n,rfl⟩:∃n:Nat,k=n:=⟨k.toNat,by omega⟩
 have hn:n<s.size (s.aA t):=by omega
 refine⟨0,s.look (s.aA t) n,by omega,by omega,QF s t n w hP h1 hl' hn (iC hP hG hm hn),fun W hR=>?_⟩;have:=GK r t n _ W hR hra (by rw[hrv.lost];exact hl') (by rw[hrv.size];exact hn);rw[hrv.data hl' n hn]at this;exact this
theorem Lu(bb:Nat)(s:St)(fr:List Nat)(r:aQ)(w:World)(h:dA w bb s fr r)(t:ByteArray)(k:Int) :
 Calls prog 29 #[.pointer (some ⟨bb,0,none⟩),.string t,.int .i64 k] w fun e w'=>e=.returned (.bool true)/\Same [] w w':=by
 obtain⟨c,x,c0,c13,h1,h2⟩:=RJ h.two t k;have hnum:=fun W=>num_int c W c0 c13
 have htx:=fun W=>Cj x W
 have d0:w.cell? ⟨bb,0,none⟩=some (.pointer (some ⟨s.pb,0,none⟩)):=h.both.cell? 0;have HB:Hid (dA w bb s fr r):=h;have H2:Hid _:=h2;generalize x.text=tx at *;obtain⟨x0,x1,x2,x3,x4,x5,x6,x7⟩:=x;unfold aN.val at h1 htx;have hbeq:(tx.toList == tx.toList)=true:=by simp
 clear h h2
 go_enter func29,ntmps29
 go_wp2_with (go_at_call 61;refine h1.mono ?_;rintro e w1 ⟨rfl,S1⟩;have S2:=S1.alloc (.cells #[.int .u8 x0,.int .u8 x1,.int .u8 x2,.int .u8 x3,.int .u8 x4,.int .u8 x5,.int .u8 x6,.int .u8 x7] 91);have e1:=(HB.out.new S2).both.cell? 1;simp only[List.getElem?_cons_succ,List.getElem?_cons_zero]at e1;have hr2:=H2.out _ (HB.out.new S2).two.ref)
 go_wp2_with (first|(go_at_call 62;refine hr2.mono ?_;rintro e w2 ⟨rfl,hw2⟩;obtain rfl:=hw2.symm)|(go_at_call 26;refine(hnum _).mono ?_;rintro e w3 ⟨rfl,hw3⟩;obtain rfl:=hw3.symm)|(go_at_call 52;refine(htx _).mono ?_;rintro e w4 ⟨rfl,S4⟩))
 go_ret
 exact⟨by simp,S2.step S4 (by simp)⟩
theorem UZ{s:St}{v:aF}{x:ay}(h:jq s v x)(hn:v.org≠none->(s.aB v).name≠⟨#[]⟩)(ho:v.org=none->s.aB v=v):x.told=s.told v:=by
 have e:=h.bC;by_cases hv:v.org=none
 ·rw[if_pos hv]at e;unfold ay.told St.told;rw[if_pos e,hv];simp only;rw[h.name,h.size];unfold St.size;rw[ho hv]
 ·rw[if_neg hv]at e;obtain⟨b,hb⟩:=Option.ne_none_iff_exists'.1 hv;unfold ay.told St.told;rw[if_neg (by rw[e];exact hn hv),hb];simp only;rw[h.name,h.size,e,h.blocks,h.kept,h.lost]
theorem yM(s:St):∀(a:List aF)(b:List ay),a.length=b.length->(∀i,i<a.length->(b[i]!).told=s.told (a[i]!))->gU b=s.toldAll a
 | [],[],_,_=>rfl
 | [],_::_,h,_=>by simp at h
 | _::_,[],h,_=>by simp at h
 | x::a,y::b,h,e=>by
  have e0:=e 0 (by simp);have ih:=yM s a b (by simpa using h) (fun i hi=>by simpa using e (i+1) (by simpa using hi));simp only[List.getElem!_cons_zero]at e0;rw[gU,St.toldAll,e0,ih]
theorem Rel.told{w:World}{s:St}{r:aQ}{fr:List Nat}(h:Rel s r)(hP:ai w s)(hG:Good s fr):gU r.af=s.toldAll s.af:=
 yM s s.af r.af h.len.symm fun i hi=>UZ (h.each i hi) (fun _=>pz hG (hP.aB (get_mem hi)).1) (hP.aB (get_mem hi)).2.2.1
theorem TD(s:St)(v:aF):∃(nm bC:ByteArray)(sz rm kp:Nat)(lo:Bool),s.told v=[.string nm,.int .i64 sz,.string bC,.int .i64 rm,.int .i64 kp,.bool lo]/\nm=v.name:=by
 unfold St.told
 split
 ·exact⟨_,_,_,0,0,_,rfl,rfl⟩
 ·exact⟨_,_,_,_,_,_,rfl,rfl⟩
theorem vX(bb:Nat)(s:St)(fr:List Nat)(r:aQ)(w:World)(h:dA w bb s fr r) :
 Calls prog 19 #[.pointer (some ⟨bb,0,none⟩)] w fun e w'=>∃a,e=.returned (.tuple #[.slice a s.af.length s.af.length,.bool true])/\Same [] w w' /\
  (s.af≠[]->∃g cs,a=some ⟨g,0,none⟩/\w.heap.size<=g/\At w' g 57 cs/\cs.take (s.af.length*6)=s.toldAll s.af):=by
 have h1:=Oh s w h.two.pool;have h2:=fun W (hW:Same [] w W)=>Dx r W (h.two.ref.iW hW)
 have htd:=h.two.rel.told h.two.pool h.two.good;have hlen:=h.two.rel.len;have hfew:=h.two.pool.few;rw[htd,hlen]at h2;have hnil:r.af≠[]↔s.af≠[]:=by
  constructor<;>intro hn e<;>apply hn<;>apply List.eq_nil_of_length_eq_zero
  ·rw[hlen,e];rfl
  ·rw[<-hlen,e];rfl
 have d0:w.cell? ⟨bb,0,none⟩=some (.pointer (some ⟨s.pb,0,none⟩)):=h.both.cell? 0;have HB:Hid (dA w bb s fr r):=h;have HTL:Hid (∀i,i<s.af.length->∀j,j<6->(s.toldAll s.af)[i*6+j]? = (s.told (s.af[i]!))[j]?):=fun i hi j hj=>I4 s s.af i j hi hj
 have ZI:Hid (∀v,∃(nm bC:ByteArray)(sz rm kp:Nat)(lo:Bool),s.told v=[.string nm,.int .i64 sz,.string bC,.int .i64 rm,.int .i64 kp,.bool lo]/\nm=v.name):=TD s;generalize s.toldAll s.af=TL at *;generalize hN:s.af.length=N at *;have HN0:Hid (N≠0->s.af≠[]):=fun hn e=>hn (by rw[<-hN,e];rfl)
 clear h htd hlen hN
 go_enter func19,ntmps19
 go_wp2_with (go_at_call 36;refine h1.mono ?_;rintro e w1 ⟨a1,rfl,S1,hl1⟩;have e1:=(HB.out.new S1).both.cell? 1;simp only[List.getElem?_cons_succ,List.getElem?_cons_zero]at e1)
 go_wp2_with (go_at_call 37;refine(h2 _ S1).mono ?_;rintro e w2 ⟨a2,c2,rfl,S2,hl2⟩)
 have S3:=S1.step S2 (by simp);have HL1:Hid (s.af≠[]->∃g cs,a1=some ⟨g,0,none⟩/\w.heap.size<=g/\At w2 g 57 cs/\cs.take (N*6)=TL):=fun hn=>by
  obtain⟨g,cs,q1,q2,q3,q4⟩:=hl1 hn;exact⟨g,cs,q1,q2,S2.at q3 (by simp),q4⟩
 have HL2:Hid (s.af≠[]->∃g cs,a2=some ⟨g,0,none⟩/\w1.heap.size<=g/\At w2 g 57 cs/\cs.take (N*6)=TL):=fun hn=>hl2 (hnil.2 hn)
 clear h1 h2 hl1 hl2 hnil e1 d0
 go_loopw [6] (fun i wr=>∃k:Nat,k<=N/\i=.int .i64 k/\Same [] w2 wr) (fun i _=>N-(intOf i).toNat)
 case atStart=>exact⟨0,Nat.zero_le _,rfl,Same.refl _ _⟩
 case round=>
  obtain⟨k,hk,rfl,hS⟩:=hrel;by_cases hkl:k<N
  ·have hne:=HN0.out (by omega);obtain⟨g1,cs1,rfl,hg1,hA1,ht1⟩:=HL1.out hne;obtain⟨g2,cs2,rfl,hg2,hA2,ht2⟩:=HL2.out hne;obtain⟨nm,bC,sz,rm,kp,lo,h6,_⟩:=ZI.out (s.af[k]!);have B1:=hS.at hA1 (by simp);have B2:=hS.at hA2 (by simp);have key1:∀j,j<6->wr.cell? ⟨g1,k*6+j,none⟩=([.string nm,.int .i64 sz,.string bC,.int .i64 rm,.int .i64 kp,.bool lo]:List Value)[j]?:=fun j hj=>by
    rw[B1.cell?,<-h6,<-HTL.out k hkl j hj,<-ht1,List.getElem?_take,if_pos (by omega)]
   have key2:∀j,j<6->wr.cell? ⟨g2,k*6+j,none⟩=([.string nm,.int .i64 sz,.string bC,.int .i64 rm,.int .i64 kp,.bool lo]:List Value)[j]?:=fun j hj=>by
    rw[B2.cell?,<-h6,<-HTL.out k hkl j hj,<-ht2,List.getElem?_take,if_pos (by omega)]
   have a0:wr.cell? ⟨g1,k*6,none⟩=some (.string nm):=key1 0 (by omega);have a1:wr.cell? ⟨g1,k*6+1,none⟩=some (.int .i64 sz):=key1 1 (by omega);have a2:wr.cell? ⟨g1,k*6+2,none⟩=some (.string bC):=key1 2 (by omega);have a3:wr.cell? ⟨g1,k*6+3,none⟩=some (.int .i64 rm):=key1 3 (by omega);have a4:wr.cell? ⟨g1,k*6+4,none⟩=some (.int .i64 kp):=key1 4 (by omega);have a5:wr.cell? ⟨g1,k*6+5,none⟩=some (.bool lo):=key1 5 (by omega);have b0:wr.cell? ⟨g2,k*6,none⟩=some (.string nm):=key2 0 (by omega);have b1:wr.cell? ⟨g2,k*6+1,none⟩=some (.int .i64 sz):=key2 1 (by omega);have b2:wr.cell? ⟨g2,k*6+2,none⟩=some (.string bC):=key2 2 (by omega);have b3:wr.cell? ⟨g2,k*6+3,none⟩=some (.int .i64 rm):=key2 3 (by omega);have b4:wr.cell? ⟨g2,k*6+4,none⟩=some (.int .i64 kp):=key2 4 (by omega);have b5:wr.cell? ⟨g2,k*6+5,none⟩=some (.bool lo):=key2 5 (by omega);have lt2:g2<wr.heap.size:=B2.lt;have l1:(k:Int)<(N:Int):=by omega
   have hb1:(nm.toList == nm.toList)=true:=by simp
   have hb2:(bC.toList == bC.toList)=true:=by simp
   clear key1 key2 B1 B2 hA1 hA2 ht1 ht2 h6
   go_wp2
   go_roundw
   case rel=>exact⟨k+1,by omega,by go_num,(hS.alloc _).alloc _⟩
   case measure=>simp[intOf];omega
  ·have ek:k=N:=by omega
   subst ek;have HE:Hid _:=S3.step hS (by simp);have HL:Hid (s.af≠[]->∃g cs,a1=some ⟨g,0,none⟩/\w.heap.size<=g/\At wr g 57 cs/\cs.take (k*6)=TL):=fun hn=>by
    obtain⟨g,cs,q1,q2,q3,q4⟩:=HL1.out hn;exact⟨g,cs,q1,q2,hS.at q3 (by simp),q4⟩
   clear HL1 HL2 HTL ZI hS S1 S2 S3
   go_wp2
   go_ret2
   exact⟨_,rfl,HE.out,HL.out⟩
theorem jd.cell?{w:World}{g:Nat}{xs:List Nat}{cs:List Value}(h:jd w g xs cs)(i:Nat)(hi:i<xs.length):w.cell? ⟨g,i,none⟩=some (.int .i64 (xs[i]!:Nat)):=by
 rw[h.at_.cell?];exact h.cell i hi
theorem zf(bb:Nat)(s:St)(fr:List Nat)(r:aQ)(w:World)(h:dA w bb s fr r)(t:ByteArray)(ht:s.has t=false) :
 Calls prog 21 #[.pointer (some ⟨bb,0,none⟩),.string t] w fun e w'=>e=.returned (.tuple #[.slice none 0 0,.bool true])/\w'=w:=by
 have h1:=map_none s t w h.two.pool ht;have h2:=J8 r t w h.two.ref (h.two.rel.rX h.two.pool ht);have hnum:=fun W=>num_int 4 W (by omega) (by omega)
 have d0:w.cell? ⟨bb,0,none⟩=some (.pointer (some ⟨s.pb,0,none⟩)):=h.both.cell? 0;have d1:w.cell? ⟨bb,1,none⟩=some (.pointer (some ⟨r.rb,0,none⟩)):=h.both.cell? 1;clear h
 go_enter func21,ntmps21
 go_wp2_with (first|(go_at_call 39;refine h1.mono ?_;rintro e w1 ⟨rfl,hw1⟩;obtain rfl:=hw1.symm)|(go_at_call 40;refine h2.mono ?_;rintro e w1 ⟨rfl,hw1⟩;obtain rfl:=hw1.symm)|(go_at_call 26;refine(hnum _).mono ?_;rintro e w1 ⟨rfl,hw1⟩;obtain rfl:=hw1.symm))
 go_loopw [10] (fun i wr=>i=.int .i64 0/\wr=w) (fun i _=>0)
 case atStart=>exact⟨rfl,rfl⟩
 case round=>
  obtain⟨rfl,rfl⟩:=hrel
  go_wp2
  go_ret2
  exact⟨rfl,rfl⟩
theorem yX(bb:Nat)(s:St)(fr:List Nat)(r:aQ)(w:World)(h:dA w bb s fr r)(t:ByteArray)(ht:s.has t=true) :
 Calls prog 21 #[.pointer (some ⟨bb,0,none⟩),.string t] w fun e w'=>∃g cs,e=.returned (.tuple #[.slice (some ⟨g,0,none⟩) (s.aA t).xs.length (s.aA t).xs.length,.bool true])/\w.heap.size<=g/\jd w' g (s.aA t).xs cs/\Same [] w w':=by
 have h1:=map_some s t w h.two.pool ht;have hrv:jq s (s.aA t) (r.af[posOf s.names t]!):=h.two.rel.aA ht;have hra:=h.two.rel.oG h.two.pool ht;have h2:=fun W (hW:Same [] w W)=>LK r t _ W (h.two.ref.iW hW) hra
 have hblk:=hrv.blocks;have hm:=(St.aT ht).1;have hxl:(s.aA t).xs.length<=200:=by
  rw[<-hblk];refine(h.two.ref.af _ ?_).blocks;exact gY (by rw[h.two.rel.len];exact(St.aT ht).2.2)
 rw[hblk]at h2;generalize (r.af[posOf s.names t]!).bg=bg at *;have hnum:=fun W=>num_int 0 W (by omega) (by omega)
 have d0:w.cell? ⟨bb,0,none⟩=some (.pointer (some ⟨s.pb,0,none⟩)):=h.both.cell? 0;have HB:Hid (dA w bb s fr r):=h;generalize (s.aA t).xs=xs at *;clear h hra hrv
 go_enter func21,ntmps21
 go_wp2_with (go_at_call 39;refine h1.mono ?_;rintro e w1 ⟨g,cs,rfl,hg,hR,S1⟩;have e1:=(HB.out.new S1).both.cell? 1;simp only[List.getElem?_cons_succ,List.getElem?_cons_zero]at e1)
 go_wp2_with (first|(go_at_call 40;refine(h2 _ S1).mono ?_;rintro e w2 ⟨bc,rfl,hN,hw1⟩;obtain rfl:=hw1.symm)|(go_at_call 26;refine(hnum _).mono ?_;rintro e w3 ⟨rfl,hw1⟩;obtain rfl:=hw1.symm))
 have HR:Hid (jd w1 g xs cs/\fD w1 bg bc xs):=⟨hR,hN⟩
 clear hR hN h1 h2 d0 e1
 go_loopw [10] (fun i wr=>∃k:Nat,k<=xs.length/\i=.int .i64 k/\Same [] w1 wr) (fun i _=>xs.length-(intOf i).toNat)
 case atStart=>exact⟨0,Nat.zero_le _,rfl,Same.refl _ _⟩
 case round=>
  obtain⟨k,hk,rfl,hS⟩:=hrel;by_cases hkl:k<xs.length
  ·have c1:=(HR.out.1.same hS (by simp)).cell? k hkl;have c2:=(HR.out.2.same hS (by simp)).cell k hkl;generalize xs[k]! = y at *;have l1:(k:Int)<(xs.length:Int):=by omega
   go_wp2
   go_region
   go_wp2
   go_roundw
   case rel=>exact⟨k+1,by omega,by go_num,hS.drew⟩
   case measure=>simp[intOf];omega
  ·have ek:k=xs.length:=by omega
   subst ek;have HE:Hid (∃cs,jd wr g xs cs/\Same [] w wr):=⟨cs,HR.out.1.same hS (by simp),S1.step hS (by simp)⟩
   clear HR hS
   go_wp2
   go_ret2
   obtain⟨cs',q1,q2⟩:=HE.out;exact⟨g,cs',rfl,hg,q1,q2⟩
theorem At.UL{w:World}{g:Nat}{t:TypeId}{x0 x1 x2 x3 x4 x5 x6 x7:Int}(h:At w g t [.int .u8 x0,.int .u8 x1,.int .u8 x2,.int .u8 x3,.int .u8 x4,.int .u8 x5,.int .u8 x6,.int .u8 x7]) :
 w.cell? ⟨g,0,none⟩=some (.int .u8 x0)/\w.cell? ⟨g,1,none⟩=some (.int .u8 x1)/\w.cell? ⟨g,2,none⟩=some (.int .u8 x2)/\w.cell? ⟨g,3,none⟩=some (.int .u8 x3)/\w.cell? ⟨g,4,none⟩=some (.int .u8 x4)/\w.cell? ⟨g,5,none⟩=some (.int .u8 x5)/\w.cell? ⟨g,6,none⟩=some (.int .u8 x6)/\w.cell? ⟨g,7,none⟩=some (.int .u8 x7):=
 ⟨h.cell? 0,h.cell? 1,h.cell? 2,h.cell? 3,h.cell? 4,h.cell? 5,h.cell? 6,h.cell? 7⟩
theorem Ib(bb:Nat)(s:St)(fr:List Nat)(r:aQ)(w:World)(h:dA w bb s fr r)(kk a:Int)(t u x:ByteArray)(hx:x.size<=maxLen) :
 Calls prog 28 #[.pointer (some ⟨bb,0,none⟩),dw 2 kk a t u x] w fun e w'=>e=.returned (.bool true)/\dQ w bb s r w':=by
 unfold dw;have O0:=qQ w 2 kk a t u x;have S0:Same [] w (w.alloc (.cells #[.int .i64 2,.int .i64 kk,.int .i64 a,.string t,.string u,.string x] 34)):=(Same.refl _ _).alloc _;have hlt:=h.both.lt;have hnf:w.heap.size∉s.foot++r.foot:=fun hm=>by have:=h.two.bn _ hm;omega
 have hbk:=fun W=>MB x W hx
 have hbo:=U7 x (min x.size 8);generalize gI x (min x.size 8)=b at *;have htx:=fun W=>Cj b W
 have HPW:Hid (∀W s fr r,kD W s fr r->Pair W s fr r 50 #[.pointer (some ⟨s.pb,0,none⟩),.string t,.int .i64 a,b.val] 51 #[.pointer (some ⟨r.rb,0,none⟩),.string t,.int .i64 a,.string b.text]):=fun W s fr r hW=>NZ hW.pool hW.good hW.spare hW.rel hW.nodup t a b hbo
 generalize b.text=bt at *;obtain⟨x0,x1,x2,x3,x4,x5,x6,x7⟩:=b;unfold aN.val at hbk htx HPW;have HO:Hid (At (w.alloc (.cells #[.int .i64 2,.int .i64 kk,.int .i64 a,.string t,.string u,.string x] 34)) w.heap.size 34 [.int .i64 2,.int .i64 kk,.int .i64 a,.string t,.string u,.string x]):=O0;have HS0:Hid (Same [] w (w.alloc (.cells #[.int .i64 2,.int .i64 kk,.int .i64 a,.string t,.string u,.string x] 34))):=S0;have HB:Hid _:=h;clear S0 O0 h hbo
 go_enter func28,ntmps28
 go_wp2_with (go_at_call 49;refine(hbk _).mono ?_;rintro e w1 ⟨rfl,S1⟩;have S2:=(HS0.out.step S1 (by simp)).alloc (.cells #[.int .u8 x0,.int .u8 x1,.int .u8 x2,.int .u8 x3,.int .u8 x4,.int .u8 x5,.int .u8 x6,.int .u8 x7] 91);have X1:=At.new w1 #[.int .u8 x0,.int .u8 x1,.int .u8 x2,.int .u8 x3,.int .u8 x4,.int .u8 x5,.int .u8 x6,.int .u8 x7] 91;have O1:=(S1.at HO.out (by simp)).alloc (.cells #[.int .u8 x0,.int .u8 x1,.int .u8 x2,.int .u8 x3,.int .u8 x4,.int .u8 x5,.int .u8 x6,.int .u8 x7] 91))
 have hB1:=HB.out.new S2;have ZJ:w1.heap.size∉s.foot++r.foot:=fun hm=>by have:=HB.out.two.bn _ hm;have:=HS0.out.size;have:=S1.size;omega
 generalize w1.alloc (.cells #[.int .u8 x0,.int .u8 x1,.int .u8 x2,.int .u8 x3,.int .u8 x4,.int .u8 x5,.int .u8 x6,.int .u8 x7] 91)=wa at *;obtain⟨y0,y1,y2,y3,y4,y5,y6,y7⟩:=At.UL X1;have d0:=hB1.both.cell? 0;have d2:=O1.cell? 2;have d3:=O1.cell? 3;simp only[List.getElem?_cons_succ,List.getElem?_cons_zero]at d0 d2 d3;have HX:Hid (At wa w1.heap.size 91 [.int .u8 x0,.int .u8 x1,.int .u8 x2,.int .u8 x3,.int .u8 x4,.int .u8 x5,.int .u8 x6,.int .u8 x7]):=X1;have HO1:Hid (At wa w.heap.size 34 [.int .i64 2,.int .i64 kk,.int .i64 a,.string t,.string u,.string x]):=O1;have HB1:Hid _:=hB1;clear X1 O1 hB1 HO HB;refine aU 9 (by kernel_rfl) (by kernel_rfl) ?_;simp only[List.take_succ_cons,List.take_zero,List.drop_succ_cons,List.drop_zero]
 repeat still_step
 refine wpStill_nil ?_;have hB2:=HB1.out.new ((Same.refl [] _).drew);obtain⟨c,P,c0,c13,hp1,hp2⟩:=(HPW.out _ _ _ _ hB2.two).ex;have HP2:Hid _:=hp2;clear hp2
 go_wp2_with (go_at_call 50;refine hp1.mono ?_;rintro e w2 ⟨rfl,s',fr',hA,hsp,hPs⟩)
 obtain⟨hR1,hBB⟩:=hB2.mid hA;have O2:=hA.same.at HO1.out.drew (fun hm=>hnf (List.mem_append_left _ hm));have X2:=hA.same.at HX.out.drew (fun hm=>ZJ (List.mem_append_left _ hm));have HK:Hid (∀w',Same r.foot w2 w'->w'.cell? ⟨bb,1,none⟩=some (.pointer (some ⟨r.rb,0,none⟩))/\w'.cell? ⟨w.heap.size,2,none⟩=some (.int .i64 a)/\w'.cell? ⟨w.heap.size,3,none⟩=some (.string t)/\w'.cell? ⟨w1.heap.size,0,none⟩=some (.int .u8 x0)/\w'.cell? ⟨w1.heap.size,1,none⟩=some (.int .u8 x1)/\w'.cell? ⟨w1.heap.size,2,none⟩=some (.int .u8 x2)/\w'.cell? ⟨w1.heap.size,3,none⟩=some (.int .u8 x3)/\w'.cell? ⟨w1.heap.size,4,none⟩=some (.int .u8 x4)/\w'.cell? ⟨w1.heap.size,5,none⟩=some (.int .u8 x5)/\w'.cell? ⟨w1.heap.size,6,none⟩=some (.int .u8 x6)/\w'.cell? ⟨w1.heap.size,7,none⟩=some (.int .u8 x7)):=fun w' hw=>⟨(hw.at hBB (fun hm=>hB2.out (List.mem_append_right _ hm))).cell? 1,(hw.at O2 (fun hm=>hnf (List.mem_append_right _ hm))).cell? 2,(hw.at O2 (fun hm=>hnf (List.mem_append_right _ hm))).cell? 3,At.UL (hw.at X2 (fun hm=>ZJ (List.mem_append_right _ hm)))⟩
 have hK2:=HK.out w2 (Same.refl _ _);have hnum:=fun W=>num_int c W c0 c13
 go_region_held3 (fun w'=>w'.cell? ⟨bb,1,none⟩=some (.pointer (some ⟨r.rb,0,none⟩))/\w'.cell? ⟨w.heap.size,2,none⟩=some (.int .i64 a)/\w'.cell? ⟨w.heap.size,3,none⟩=some (.string t)/\w'.cell? ⟨w1.heap.size,0,none⟩=some (.int .u8 x0)/\w'.cell? ⟨w1.heap.size,1,none⟩=some (.int .u8 x1)/\w'.cell? ⟨w1.heap.size,2,none⟩=some (.int .u8 x2)/\w'.cell? ⟨w1.heap.size,3,none⟩=some (.int .u8 x3)/\w'.cell? ⟨w1.heap.size,4,none⟩=some (.int .u8 x4)/\w'.cell? ⟨w1.heap.size,5,none⟩=some (.int .u8 x5)/\w'.cell? ⟨w1.heap.size,6,none⟩=some (.int .u8 x6)/\w'.cell? ⟨w1.heap.size,7,none⟩=some (.int .u8 x7)) (first|assumption|exact hK2) (first|(go_at_call 52;refine(htx _).mono ?_;rintro e w3 ⟨rfl,S3⟩;have S23:=((Same.refl [] w2).drew).step S3 (by simp);have hk3:=HK.out _ (S23.mono (by simp));have hr3:=HP2.out w3 (hR1.iW S23))|(go_at_call 51;refine hr3.mono ?_;rintro e w4 ⟨rfl,r',hR,Aa⟩;have hk4:=HK.out _ ((S23.mono (T:=r.foot) (by simp)).step hR.same (fun k hk _=>hk))))
 go_wp2_with (go_at_call 26;refine(hnum _).mono ?_;rintro e w5 ⟨rfl,hw⟩;obtain rfl:=hw.symm)
 go_ret
 refine⟨by simp,?_⟩;have hnx:=hB2.next hA hsp (hR.old S23) (Aa _ _ _ hA.pool hA.good hPs);exact hnx.old (S2.step ((Same.refl [] _).drew) (by simp))
theorem PY{w:World}{s:St}{fr:List Nat}{r:aQ}(h:kD w s fr r):(r.dD r.n).length=s.m:=by
 rw[h.rel.free h.good];exact h.good.heap.len
theorem VO(n:Int)(w:World)(hn:¬(1<=n/\n<=200)) :
 Calls prog 11 #[.int .i64 n] w fun e w'=>e=.returned (.tuple #[.pointer none,.bool true])/\w'=w:=by
 have h1:=Na n w hn;have h2:=PI n w (by omega);have hnum:=fun W=>num_int 1 W (by omega) (by omega)
 go_enter func11,ntmps11
 go_wp2_with (first|(go_at_call 24;refine h1.mono ?_;rintro e w1 ⟨rfl,hw⟩;obtain rfl:=hw.symm)|(go_at_call 25;refine h2.mono ?_;rintro e w1 ⟨rfl,hw⟩;obtain rfl:=hw.symm)|(go_at_call 26;refine(hnum _).mono ?_;rintro e w1 ⟨rfl,hw⟩;obtain rfl:=hw.symm))
 go_ret2
 exact⟨rfl,rfl⟩
theorem YL(pb db bb fb n rb:Nat):Rel (kG pb db bb fb n) ⟨rb,none,n,[]⟩:=⟨rfl,rfl,fun i hi=>by simp[kG]at hi⟩
structure OD(w w':World)(n bb:Nat):Prop where
 ex:∃s fr r,dA w' bb s fr r/\s.n=n/\s.af=[]/\∀k∈bb::(s.foot++r.foot),w.heap.size<=k
 same:Same [] w w'
theorem VL(n:Nat)(w:World)(hn:1<=n/\n<=200) :
 Calls prog 11 #[.int .i64 n] w fun e w'=>∃bb,e=.returned (.tuple #[.pointer (some ⟨bb,0,none⟩),.bool true])/\OD w w' n bb:=by
 have h1:=Nk n w hn;have h2:=fun W=>QS n W hn.1 hn.2
 have hnum:=fun W=>num_int 0 W (by omega) (by omega)
 go_enter func11,ntmps11
 go_wp2_with (go_at_call 24;refine h1.mono ?_;rintro e w1 ⟨pb,rfl,hN⟩)
 obtain⟨⟨db,b2,fb,hP,hf⟩,S1⟩:=hN
 go_wp2_with (first|(go_at_call 25;refine(h2 _).mono ?_;rintro e w2 ⟨rfl,hR,S2⟩)|(go_at_call 26;refine(hnum _).mono ?_;rintro e w1 ⟨rfl,hw⟩;obtain rfl:=hw.symm))
 have hP2:=hP.new S2;have S3:Same [] w2 (w2.alloc (.cells #[.pointer (some ⟨pb,0,none⟩),.pointer (some ⟨w1.heap.size,0,none⟩)] 67)):=(Same.refl _ _).alloc _;have N3:=At.new w2 #[.pointer (some ⟨pb,0,none⟩),.pointer (some ⟨w1.heap.size,0,none⟩)] 67;have hpl:=hP.bn;have z1:=S1.size;have z2:=S2.size;have hrl:=hR.bn;have hrf:∀k∈aQ.foot ⟨w1.heap.size,none,n,[]⟩,k=w1.heap.size:=by simp[aQ.foot]
 have hB:dA (w2.alloc (.cells #[.pointer (some ⟨pb,0,none⟩),.pointer (some ⟨w1.heap.size,0,none⟩)] 67)) w2.heap.size (kG pb db b2 fb n) (List.range n) ⟨w1.heap.size,none,n,[]⟩:=by
  refine⟨N3,⟨hP2.new S3,Nv _ _ _ _ _,fun i hi=>by simp[kG]at hi,hR.iW S3,by simp[aQ.foot],YL _ _ _ _ _ _,fun k hk hm=>?_⟩,fun hm=>?_⟩
  ·have:=hrf k hm;have:=hpl k hk;omega
  ·rcases List.mem_append.1 hm with hm|hm
   ·have:=hpl _ hm;omega
   ·have:=hrl _ hm;omega
 have hF:=C9 (kG pb db b2 fb n) _ hB.two.pool;have HF:Hid (OD w (w2.alloc (.cells #[.pointer (some ⟨pb,0,none⟩),.pointer (some ⟨w1.heap.size,0,none⟩)] 67)) n w2.heap.size):=by
  refine⟨⟨_,_,_,hB,rfl,rfl,fun k hk=>?_⟩,(S1.step S2 (by simp)).step S3 (by simp)⟩;rcases List.mem_cons.1 hk with rfl|hk
  ·omega
  ·rcases List.mem_append.1 hk with hk|hk
   ·exact hf k hk
   ·have:=hrf k hk;omega
 have hm:(kG pb db b2 fb n).m=n:=rfl;have hpb:(kG pb db b2 fb n).pb=pb:=rfl;rw[hm,hpb]at hF;clear hB hP hP2 N3 hR S3 hf h1 h2
 go_wp2_with (go_at_call 27;refine hF.mono ?_;rintro e w4 ⟨rfl,hw⟩;obtain rfl:=hw.symm)
 go_ret2
 exact⟨_,by simp,HF.out⟩
theorem MO(k:Int)(hk:k=1\/k=2\/k=4\/k=5\/k=9\/k=10)(bb:Nat)(s:St)(fr:List Nat)(r:aQ)(w:World)(h:dA w bb s fr r)(kk a:Int)(t u x:ByteArray)(ht:t.size<=maxLen)(hx:x.size<=maxLen) :
 Calls prog 28 #[.pointer (some ⟨bb,0,none⟩),dw k kk a t u x] w fun e w'=>e=.returned (.bool true)/\dQ w bb s r w':=by
 rcases hk with rfl|rfl|rfl|rfl|rfl|rfl
 ·exact D8 bb s fr r w h kk a t u x ht
 ·exact Ib bb s fr r w h kk a t u x hx
 ·exact DC bb s fr r w h kk a t u x ht
 ·exact DZ bb s fr r w h kk a t u x ht
 ·exact AY bb s fr r w h kk a t u x ht
 ·exact Dw bb s fr r w h kk a t u x ht
theorem Ll(k:Int)(hk:k=1\/k=2\/k=4\/k=5\/k=9\/k=10)(bb:Nat)(s:St)(fr:List Nat)(r:aQ)(w:World)(h:dA w bb s fr r)(kk a:Int)(t u x:ByteArray)(ht:t.size<=maxLen)(hx:x.size<=maxLen) :
 Calls prog 12 #[.pointer (some ⟨bb,0,none⟩),dw k kk a t u x] w fun e w'=>e=.returned (.bool true)/\dQ w bb s r w':=by
 have hT:=MO k hk bb s fr r (w.alloc (.cells #[.int .i64 k,.int .i64 kk,.int .i64 a,.string t,.string u,.string x] 34)) (h.new ((Same.refl _ _).alloc _)) kk a t u x ht hx;have HO:Hid (∀w',dQ (w.alloc (.cells #[.int .i64 k,.int .i64 kk,.int .i64 a,.string t,.string u,.string x] 34)) bb s r w'->dQ w bb s r w'):=fun w' hn=>hn.old ((Same.refl _ _).alloc _)
 unfold dw at hT ⊢;clear h;rcases hk with rfl|rfl|rfl|rfl|rfl|rfl
 all_goals
  go_enter func12,ntmps12
  go_wp2_with (go_at_call 28;refine hT.mono ?_;rintro e w1 ⟨rfl,hN⟩)
  go_ret
  exact⟨rfl,HO.out _ hN⟩
theorem N7(k:Int)(hk:k=3\/k=6\/k=7\/k=8)(bb:Nat)(s:St)(fr:List Nat)(r:aQ)(w:World)(h:dA w bb s fr r)(kk a:Int)(t u x:ByteArray) :
 Calls prog 12 #[.pointer (some ⟨bb,0,none⟩),dw k kk a t u x] w fun e w'=>e=.returned (.bool true)/\Same [] w w':=by
 have S0:Same [] w (w.alloc (.cells #[.int .i64 k,.int .i64 kk,.int .i64 a,.string t,.string u,.string x] 34)):=(Same.refl _ _).alloc _;have hB:=h.new S0;unfold dw;rcases hk with rfl|rfl|rfl|rfl
 ·have hR:=Lu bb s fr r _ hB t a;clear h hB
  go_enter func12,ntmps12
  go_wp2_with (go_at_call 29;refine hR.mono ?_;rintro e w1 ⟨rfl,S1⟩)
  go_ret
  exact⟨rfl,S0.step S1 (by simp)⟩
 ·have hR:=vX bb s fr r _ hB;clear h hB
  go_enter func12,ntmps12
  go_wp2_with (go_at_call 19;refine hR.mono ?_;rintro e w1 ⟨aa,rfl,S1,_⟩)
  go_ret
  exact⟨rfl,S0.step S1 (by simp)⟩
 ·by_cases hh:s.has t=true
  ·have hR:=yX bb s fr r _ hB t hh;clear h hB
   go_enter func12,ntmps12
   go_wp2_with (go_at_call 21;refine hR.mono ?_;rintro e w1 ⟨g,cs,rfl,_,_,S1⟩)
   go_ret
   exact⟨rfl,S0.step S1 (by simp)⟩
  ·have hR:=zf bb s fr r _ hB t (by simpa using hh);clear h hB
   go_enter func12,ntmps12
   go_wp2_with (go_at_call 21;refine hR.mono ?_;rintro e w1 ⟨rfl,hw⟩;obtain rfl:=hw.symm)
   go_ret
   exact⟨rfl,S0⟩
 ·have hF1:=fun W (hW:Same [] w W)=>C9 s W (h.two.pool.new hW)
  have hF2:=fun W (hW:Same [] w W)=>BP r W (h.two.ref.iW hW)
  rw[PY h.two]at hF2;have HK:Hid (∀w',Same [] w w'->w'.cell? ⟨bb,0,none⟩=some (.pointer (some ⟨s.pb,0,none⟩))/\w'.cell? ⟨bb,1,none⟩=some (.pointer (some ⟨r.rb,0,none⟩))):=fun w' hw=>⟨(h.new hw).both.cell? 0,(h.new hw).both.cell? 1⟩
  have hK1:=HK.out _ S0;clear h hB
  go_enter func12,ntmps12
  go_wp2_with fail
  go_region_held3 (fun w'=>w'.cell? ⟨bb,0,none⟩=some (.pointer (some ⟨s.pb,0,none⟩))/\w'.cell? ⟨bb,1,none⟩=some (.pointer (some ⟨r.rb,0,none⟩))) (first|assumption|exact hK1) (first|(go_at_call 27;refine(hF1 _ (S0.drew)).mono ?_;rintro e w2 ⟨rfl,hw⟩;obtain rfl:=hw.symm)|(go_at_call 30;refine(hF2 _ (S0.drew)).mono ?_;rintro e w3 ⟨rfl,S3⟩;have hk3:=HK.out w3 ((S0.drew).step S3 (by simp))))
  go_wp2
  go_ret
  exact⟨by simp,(S0.drew).step S3 (by simp)⟩
theorem step_other(k:Int)(hk:¬(1<=k/\k<=12))(bb:Nat)(w:World)(kk a:Int)(t u x:ByteArray) :
 Calls prog 12 #[.pointer (some ⟨bb,0,none⟩),dw k kk a t u x] w fun e w'=>e=.returned (.bool true)/\Same [] w w':=by
 have S0:Same [] w (w.alloc (.cells #[.int .i64 k,.int .i64 kk,.int .i64 a,.string t,.string u,.string x] 34)):=(Same.refl _ _).alloc _;unfold dw;have n1:(k == 1)=false:=beq_eq_false_iff_ne.2 (by omega);have n2:(k == 2)=false:=beq_eq_false_iff_ne.2 (by omega);have n3:(k == 3)=false:=beq_eq_false_iff_ne.2 (by omega);have n4:(k == 4)=false:=beq_eq_false_iff_ne.2 (by omega);have n5:(k == 5)=false:=beq_eq_false_iff_ne.2 (by omega);have n6:(k == 6)=false:=beq_eq_false_iff_ne.2 (by omega);have n7:(k == 7)=false:=beq_eq_false_iff_ne.2 (by omega);have n8:(k == 8)=false:=beq_eq_false_iff_ne.2 (by omega);have n9:(k == 9)=false:=beq_eq_false_iff_ne.2 (by omega);have n10:(k == 10)=false:=beq_eq_false_iff_ne.2 (by omega);have n11:(k == 11)=false:=beq_eq_false_iff_ne.2 (by omega);have n12:(k == 12)=false:=beq_eq_false_iff_ne.2 (by omega);clear hk
 go_enter func12,ntmps12
 go_wp2
 go_ret
 exact⟨rfl,S0⟩
theorem UN(k:Int)(hk:k<=10)(bb:Nat)(s:St)(fr:List Nat)(r:aQ)(w:World)(h:dA w bb s fr r)(kk a:Int)(t u x:ByteArray)(ht:t.size<=maxLen)(hx:x.size<=maxLen) :
 Calls prog 12 #[.pointer (some ⟨bb,0,none⟩),dw k kk a t u x] w fun e w'=>e=.returned (.bool true)/\dQ w bb s r w':=by
 by_cases h1:k=1\/k=2\/k=4\/k=5\/k=9\/k=10
 ·exact Ll k h1 bb s fr r w h kk a t u x ht hx
 ·by_cases h2:k=3\/k=6\/k=7\/k=8
  ·exact(N7 k h2 bb s fr r w h kk a t u x).mono fun e w' ⟨a,b⟩=>⟨a,dQ.still h b⟩
  ·exact(step_other k (by omega) bb w kk a t u x).mono fun e w' ⟨a,b⟩=>⟨a,dQ.still h b⟩
end
section
open Go.ChangeShapes Go.WideShapes Go.ChangeAt Go.RowKit
theorem Tryz.WG:prog.cellsOf 34=6:=by kernel_rfl
theorem Tryz.U2:prog.cellsOf 3=1:=by kernel_rfl
theorem Tryz.I5:prog.cellsOf 9=1:=by kernel_rfl
theorem YU{α:Type}:∀(l:List α),l.length=6->∃a b c d e f,l=[a,b,c,d,e,f]
 | [a,b,c,d,e,f],_=>⟨a,b,c,d,e,f,rfl⟩
 | [],h=>by simp at h
 | [_],h=>by simp at h
 | [_,_],h=>by simp at h
 | [_,_,_],h=>by simp at h
 | [_,_,_,_],h=>by simp at h
 | [_,_,_,_,_],h=>by simp at h
 | _::_::_::_::_::_::_::_,h=>by simp at h
structure xq(w:World)(a:Option Addr)(len:Nat)(b off:Nat):Prop where
 mO:0<len->a=some ⟨b,off,none⟩/\b<w.heap.size
 le:len<=1048576
 cells:∀i,i<len->∃(k kk x:Int)(t u y:ByteArray),-9223372036854775808<=kk/\kk<=9223372036854775807/\t.size<=maxLen/\y.size<=1048576/\w.cell? ⟨b,off+i*6,none⟩=some (.int .i64 k)/\w.cell? ⟨b,off+i*6+1,none⟩=some (.int .i64 kk)/\w.cell? ⟨b,off+i*6+2,none⟩=some (.int .i64 x)/\w.cell? ⟨b,off+i*6+3,none⟩=some (.string t)/\w.cell? ⟨b,off+i*6+4,none⟩=some (.string u)/\w.cell? ⟨b,off+i*6+5,none⟩=some (.string y)
theorem U3{H:Type}(d:DataW H):1<=Rows.uptoBulk d:=by
 cases d with
 | lit l=>cases l<;>simp[Rows.uptoBulk]
 | nil=>simp[Rows.uptoBulk]
 | ptr d=>simp[Rows.uptoBulk]
 | slice elems spare=>simp[Rows.uptoBulk]
 | agg parts=>simp[Rows.uptoBulk]
 | iface t d=>simp[Rows.uptoBulk]
 | map entries=>simp[Rows.uptoBulk]
 | held h=>simp[Rows.uptoBulk]
theorem yJ{H:Type}{d:DataW H}:∀{l:List (DataW H)},d∈l->Rows.uptoBulk d<=Rows.uptoBulkAll l
 | x::r,h=>by
  simp only[Rows.uptoBulkAll];rcases List.mem_cons.1 h with e|e
  ·rw[e];omega
  ·have:=yJ e;omega
theorem Cb{H:Type}:∀(l:List (DataW H)),l.length<=Rows.uptoBulkAll l
 | []=>Nat.zero_le _
 | x::r=>by
  have h1:=U3 x;have h2:=Cb r;simp only[Rows.uptoBulkAll,List.length_cons];omega
theorem FT{H:Type}{enc:TypeId×Value->H}{W:World}{fuel:Nat}{a:Option Addr}{len cap:Nat}{x:DataW H×List MemPlace}
 (h:DataW.trod enc prog W 0 (fun _=>true) true fuel 22 [.slice a len cap]=some x) (hk:Rows.uptoBulk x.1<=1048576):∃b off,xq W a len b off:=by
 rcases Deep.open_slice underlying22 h with⟨h0,_⟩|⟨ad,l,c,m,n,D,Pl,h0,hb,hl,hm,hmm,rfl,hx⟩
 ·simp only[List.cons.injEq,Value.slice.injEq,and_true]at h0;obtain⟨rfl,rfl,rfl⟩:=h0;exact⟨0,0,by omega,by omega,fun i hi=>by omega⟩
 ·simp only[List.cons.injEq,Value.slice.injEq,and_true]at h0;obtain⟨rfl,rfl,rfl⟩:=h0;have hmm':m=cap:=by simpa using hmm
  subst hmm';unfold maxLen at hm;have abh:Rows.uptoBulkAll ((List.range len).map D)+1<=1048576:=by
   have h2:=hk;simp only[Rows.uptoBulk]at h2;omega
  have hlen1:len<=1048576:=by
   have h3:=Cb ((List.range len).map D);rw[List.length_map,List.length_range]at h3;omega
  have hpart:∀i,i<len->Rows.uptoBulk (D i)<=1048576:=fun i hi=>by
   have h4:=yJ (List.mem_map_of_mem (f:=D) (List.mem_range.2 hi));omega
  by_cases hl0:len=0
  ·subst hl0;exact⟨0,0,by omega,by omega,fun i hi=>by omega⟩
  obtain⟨xb,xo,xs⟩:=ad;have each:∀i,i<len->∃(k kk x:Int)(t u y:ByteArray),-9223372036854775808<=kk/\kk<=9223372036854775807/\t.size<=maxLen/\y.size<=1048576/\W.cell? (Addr.add ⟨xb,xo,xs⟩ (i*6))=some (.int .i64 k)/\W.cell? (Addr.add ⟨xb,xo,xs⟩ (i*6+1))=some (.int .i64 kk)/\W.cell? (Addr.add ⟨xb,xo,xs⟩ (i*6+2))=some (.int .i64 x)/\W.cell? (Addr.add ⟨xb,xo,xs⟩ (i*6+3))=some (.string t)/\W.cell? (Addr.add ⟨xb,xo,xs⟩ (i*6+4))=some (.string u)/\W.cell? (Addr.add ⟨xb,xo,xs⟩ (i*6+5))=some (.string y):=by
   intro i hi;obtain⟨cs',h1,h2⟩:=hx i (by omega);rw[Tryz.WG]at h1;obtain⟨_,hlen,hcell⟩:=World.cells?_some h1;obtain⟨ys,q,_,hye,_,hyl,hf⟩:=DataW.trod_struct underlying34 h2;obtain⟨v0,v1,v2,v3,v4,v5,rfl⟩:=YU cs' hlen;have g0:DataW.trod enc prog W 0 (fun _=>true) true q 3 ((([v0,v1,v2,v3,v4,v5]:List Value).drop 0).take (prog.cellsOf 3))=ys[0]?:=hf 0 _ rfl;have g1:DataW.trod enc prog W 0 (fun _=>true) true q 3 ((([v0,v1,v2,v3,v4,v5]:List Value).drop 1).take (prog.cellsOf 3))=ys[1]?:=hf 1 _ rfl;have g2:DataW.trod enc prog W 0 (fun _=>true) true q 3 ((([v0,v1,v2,v3,v4,v5]:List Value).drop 2).take (prog.cellsOf 3))=ys[2]?:=hf 2 _ rfl;have g3:DataW.trod enc prog W 0 (fun _=>true) true q 9 ((([v0,v1,v2,v3,v4,v5]:List Value).drop 3).take (prog.cellsOf 9))=ys[3]?:=hf 3 _ rfl;have g4:DataW.trod enc prog W 0 (fun _=>true) true q 9 ((([v0,v1,v2,v3,v4,v5]:List Value).drop 4).take (prog.cellsOf 9))=ys[4]?:=hf 4 _ rfl;have g5:DataW.trod enc prog W 0 (fun _=>true) true q 9 ((([v0,v1,v2,v3,v4,v5]:List Value).drop 5).take (prog.cellsOf 9))=ys[5]?:=hf 5 _ rfl;rw[Tryz.U2]at g0 g1 g2;rw[Tryz.I5]at g3 g4 g5;have hy6:ys.length=6:=by simpa using hyl
   rw[List.getElem?_eq_getElem (by omega)]at g0 g1 g2 g3 g4 g5;obtain⟨k,e0,_,_⟩:=DataW.trod_int underlying3 g0;obtain⟨kk,e1,_,wk⟩:=DataW.trod_int underlying3 g1;obtain⟨x,e2,_,_⟩:=DataW.trod_int underlying3 g2;obtain⟨t,e3,_,ht⟩:=DataW.trod_string underlying9 g3;obtain⟨u,e4,_,hu⟩:=DataW.trod_string underlying9 g4;obtain⟨y,e5,aaJ,hy⟩:=DataW.trod_string underlying9 g5;have hys:y.size<=1048576:=by
    have h5:=hpart i hi;have h6:D i=.agg (ys.map (·.1)):=congrArg Prod.fst hye;have h7:DataW.lit (.string y.data.toList)∈ys.map (·.1):=List.mem_map.2 ⟨ys[5],List.getElem_mem _,congrArg Prod.fst aaJ⟩;have h8:=yJ h7;have h9:y.data.toList.length=y.size:=by rw[Array.length_toList];rfl
    rw[h6]at h5;simp only[Rows.uptoBulk]at h5 h8;omega
   have hkk:-9223372036854775808<=kk/\kk<=9223372036854775807:=by
    simpa [Lit.wf,IntKind.min,IntKind.max,IntKind.signed,IntKind.bits] using wk
   simp only[List.drop_succ_cons,List.drop_zero,List.take_succ_cons,List.take_zero,List.cons.injEq,and_true]at e0 e1 e2 e3 e4 e5;subst e0 e1 e2 e3 e4 e5;have c0:=hcell 0 (by omega);have c1:=hcell 1 (by omega);have c2:=hcell 2 (by omega);have c3:=hcell 3 (by omega);have c4:=hcell 4 (by omega);have c5:=hcell 5 (by omega);rw[Deep.add_add]at c0 c1 c2 c3 c4 c5;exact⟨k,kk,x,t,u,y,hkk.1,hkk.2,ht,hys,by simpa using c0,by simpa using c1,by simpa using c2,by simpa using c3,by simpa using c4,by simpa using c5⟩
  obtain⟨k0,_,_,_,_,_,_,_,_,_,h00,_⟩:=each 0 (by omega);have hxs:xs=none:=by
   cases xs with
   | none=>rfl
   | some sp=>simp[Addr.add,World.cell?]at h00;split at h00<;>simp at h00
  subst hxs;have hblt:xb<W.heap.size:=by
   have h01:W.cell? ⟨xb,xo+0,none⟩=some (.int .i64 k0):=by rw[Addr.add_lit]at h00;simpa using h00
   obtain⟨c,e,fr,hb,_⟩:=Sort.cells_of_cell? h01;rcases Nat.lt_or_ge xb W.heap.size with h'|h'
   ·exact h'
   ·rw[Array.getElem?_eq_none h']at hb;cases hb
  refine⟨xb,xo,fun _=>⟨rfl,hblt⟩,by omega,fun i hi=>?_⟩;obtain⟨k,kk,x,t,u,y,k1,k2,ht,hy,c0,c1,c2,c3,c4,c5⟩:=each i hi;rw[Addr.add_lit]at c0 c1 c2 c3 c4 c5;exact⟨k,kk,x,t,u,y,k1,k2,ht,hy,c0,by rw[Nat.add_assoc];exact c1,by rw[Nat.add_assoc];exact c2,by rw[Nat.add_assoc];exact c3,by rw[Nat.add_assoc];exact c4,by rw[Nat.add_assoc];exact c5⟩
end
end Go.Proofs.YtpddgdjocffgdaaGreat
