/- Packed: see the last text. -/
import Derived.Test.YtpddgdjocffgdaaGreatA02
namespace Go.Proofs.YtpddgdjocffgdaaGreat
open Go.Proofs.Tryz
set_option linter.unusedVariables false
set_option linter.unusedSimpArgs false
set_option linter.unusedSectionVars false
set_option maxHeartbeats 16000000
set_option maxRecDepth 100000
section
open Go.RowKit Go.Sort
variable [DecidableEq aN] [Inhabited aN] [Inhabited aF]
theorem yD(s:St)(t:ByteArray)(k e0:Int)(b:aN)(w:World)(he:e0≠0)(hf:∀w',Same [] w w'->Calls prog 86 #[.pointer (some ⟨s.pb,0,none⟩),.string t,.int .i64 k] w' fun e w''=>e=.returned (.tuple #[.pointer none,.int .i64 e0])/\w''=w') :
 Calls prog 50 #[.pointer (some ⟨s.pb,0,none⟩),.string t,.int .i64 k,b.val] w fun e w'=>e=.returned (.int .i64 e0)/\Same [] w w':=by
 obtain⟨x0,x1,x2,x3,x4,x5,x6,x7⟩:=b;have hf':=hf _ ((Same.refl [] w).alloc (Obj.cells #[.int .u8 x0,.int .u8 x1,.int .u8 x2,.int .u8 x3,.int .u8 x4,.int .u8 x5,.int .u8 x6,.int .u8 x7] 91));clear hf;have he':(e0 != 0)=true:=by simpa using he
 unfold aN.val
 go_enter func50,ntmps50
 go_wp2_with (go_at_call 86;refine hf'.mono ?_;rintro e w' ⟨rfl,rfl⟩)
 go_ret
 exact⟨rfl,(Same.refl _ _).alloc _⟩
theorem MN(s:St)(t:ByteArray)(k:Nat)(b:aN)(w:World)(h:ai w s)(hi:s.has t=true)(hl:(s.aA t).lost=false)(hk:k<s.size (s.aA t))(hn:s.holder (s.aA t) k<s.n)(hb:s.look (s.aA t) k=b) :
 Calls prog 50 #[.pointer (some ⟨s.pb,0,none⟩),.string t,.int .i64 k,b.val] w fun e w'=>e=.returned (.int .i64 0)/\Same [] w w':=by
 obtain⟨x0,x1,x2,x3,x4,x5,x6,x7⟩:=b;have S0:=(Same.refl [] w).alloc (Obj.cells #[.int .u8 x0,.int .u8 x1,.int .u8 x2,.int .u8 x3,.int .u8 x4,.int .u8 x5,.int .u8 x6,.int .u8 x7] 91);have h1:=h.new S0;have N0:=At.new w #[.int .u8 x0,.int .u8 x1,.int .u8 x2,.int .u8 x3,.int .u8 x4,.int .u8 x5,.int .u8 x6,.int .u8 x7] 91;have hf:=mZ s t k _ h1 hi hl hk;have hmem:=(St.aT hi).1;have hH:=fun W (hW:Same [] w W)=>tX (h.new hW) hmem hk
 obtain⟨cap,hp,_,_⟩:=h.pool;have c1:=hp.cell? 1;simp only[List.getElem?_cons_succ,List.getElem?_cons_zero,ptr]at c1;have lp:=hp.lt;have hR:=fun W (hW:Same [] w W)=>gu s.db s.bb s.n (s.holder (s.aA t) k) _ _ _ s.bl W _ _ rfl rfl (h.new hW).disk.disk (h.new hW).disk.data h.disk.len hn (by have:=h.disk.small;omega)
 unfold St.look at hb;generalize s.holder (s.aA t) k=yy at *;generalize s.bl[yy]! = old at *;obtain⟨o0,o1,o2,o3,o4,o5,o6,o7⟩:=old;have HE:=fun W=>mX ⟨o0,o1,o2,o3,o4,o5,o6,o7⟩ ⟨x0,x1,x2,x3,x4,x5,x6,x7⟩ W
 simp only at HE;rw[decide_eq_true hb]at HE;have HS0:Hid (Same [] w (w.alloc (Obj.cells #[.int .u8 x0,.int .u8 x1,.int .u8 x2,.int .u8 x3,.int .u8 x4,.int .u8 x5,.int .u8 x6,.int .u8 x7] 91))):=S0;have HN:Hid (At (w.alloc (Obj.cells #[.int .u8 x0,.int .u8 x1,.int .u8 x2,.int .u8 x3,.int .u8 x4,.int .u8 x5,.int .u8 x6,.int .u8 x7] 91)) w.heap.size 91 [.int .u8 x0,.int .u8 x1,.int .u8 x2,.int .u8 x3,.int .u8 x4,.int .u8 x5,.int .u8 x6,.int .u8 x7]):=N0;clear h h1 hp S0 N0 hb;unfold aN.val at *
 go_enter func50,ntmps50
 go_wp2_with (go_at_call 86;refine hf.mono ?_;rintro e w' ⟨rfl,rfl⟩)
 go_region_with (first|(go_at_call 87;refine(hH _ (HS0.out.drew)).mono ?_;rintro e w' ⟨rfl,rfl⟩)|(go_at_call 69;refine(hR _ (HS0.out.drew)).mono ?_;rintro e w2 ⟨rfl,S2⟩;have d0:w2.cell? ⟨w.heap.size,0,none⟩=some (.int .u8 x0):=(S2.at HN.out.drew (by simp)).cell? 0;have d1:w2.cell? ⟨w.heap.size,1,none⟩=some (.int .u8 x1):=(S2.at HN.out.drew (by simp)).cell? 1;have d2:w2.cell? ⟨w.heap.size,2,none⟩=some (.int .u8 x2):=(S2.at HN.out.drew (by simp)).cell? 2;have d3:w2.cell? ⟨w.heap.size,3,none⟩=some (.int .u8 x3):=(S2.at HN.out.drew (by simp)).cell? 3;have d4:w2.cell? ⟨w.heap.size,4,none⟩=some (.int .u8 x4):=(S2.at HN.out.drew (by simp)).cell? 4;have d5:w2.cell? ⟨w.heap.size,5,none⟩=some (.int .u8 x5):=(S2.at HN.out.drew (by simp)).cell? 5;have d6:w2.cell? ⟨w.heap.size,6,none⟩=some (.int .u8 x6):=(S2.at HN.out.drew (by simp)).cell? 6;have d7:w2.cell? ⟨w.heap.size,7,none⟩=some (.int .u8 x7):=(S2.at HN.out.drew (by simp)).cell? 7;have SA:Same [] w w2:=HS0.out.drew.step S2 (by simp)))
 all_goals
  clear hf hH hR c1 HN HS0 HE
  go_wp2
  go_ret
  exact⟨rfl,SA⟩
theorem yw(s:St)(t:ByteArray)(k:Nat)(b:aN)(w:World)(Q:Ending->World->Prop)(h:ai w s)(hi:s.has t=true)(hl:(s.aA t).lost=false)(hk:k<s.size (s.aA t))(hn:s.holder (s.aA t) k<s.n)(hb:s.look (s.aA t) k≠b)(ho:(s.aA t).org≠none)
 (hA:∀W,Same [] w W->Calls prog 89 #[.pointer (some ⟨s.pb,0,none⟩),.pointer (some ⟨(s.aA t).vb,0,none⟩),.int .i64 k,b.val] W fun e w'=>∃x,e=.returned (.int .i64 x)/\Q (.returned (.int .i64 x)) w') :
 Calls prog 50 #[.pointer (some ⟨s.pb,0,none⟩),.string t,.int .i64 k,b.val] w Q:=by
 obtain⟨x0,x1,x2,x3,x4,x5,x6,x7⟩:=b;have S0:=(Same.refl [] w).alloc (Obj.cells #[.int .u8 x0,.int .u8 x1,.int .u8 x2,.int .u8 x3,.int .u8 x4,.int .u8 x5,.int .u8 x6,.int .u8 x7] 91);have h1:=h.new S0;have N0:=At.new w #[.int .u8 x0,.int .u8 x1,.int .u8 x2,.int .u8 x3,.int .u8 x4,.int .u8 x5,.int .u8 x6,.int .u8 x7] 91;have hf:=mZ s t k _ h1 hi hl hk;have hmem:=(St.aT hi).1;have hH:=fun W (hW:Same [] w W)=>tX (h.new hW) hmem hk
 obtain⟨cap,hp,_,_⟩:=h.pool;have c1:=hp.cell? 1;simp only[List.getElem?_cons_succ,List.getElem?_cons_zero,ptr]at c1;have lp:=hp.lt;have hR:=fun W (hW:Same [] w W)=>gu s.db s.bb s.n (s.holder (s.aA t) k) _ _ _ s.bl W _ _ rfl rfl (h.new hW).disk.disk (h.new hW).disk.data h.disk.len hn (by have:=h.disk.small;omega)
 unfold St.look at hb;generalize s.holder (s.aA t) k=yy at *;generalize s.bl[yy]! = old at *;obtain⟨o0,o1,o2,o3,o4,o5,o6,o7⟩:=old;have HE:=fun W=>mX ⟨o0,o1,o2,o3,o4,o5,o6,o7⟩ ⟨x0,x1,x2,x3,x4,x5,x6,x7⟩ W
 simp only at HE;rw[decide_eq_false hb]at HE;have HS0:Hid (Same [] w (w.alloc (Obj.cells #[.int .u8 x0,.int .u8 x1,.int .u8 x2,.int .u8 x3,.int .u8 x4,.int .u8 x5,.int .u8 x6,.int .u8 x7] 91))):=S0;have HN:Hid (At (w.alloc (Obj.cells #[.int .u8 x0,.int .u8 x1,.int .u8 x2,.int .u8 x3,.int .u8 x4,.int .u8 x5,.int .u8 x6,.int .u8 x7] 91)) w.heap.size 91 [.int .u8 x0,.int .u8 x1,.int .u8 x2,.int .u8 x3,.int .u8 x4,.int .u8 x5,.int .u8 x6,.int .u8 x7]):=N0;have hI:=fun W (hW:Same [] w W)=>aJ (s.aA t) W ((h.new hW).af _ hmem)
 have ho':(s.aA t).org.isSome=true:=by cases hq:(s.aA t).org<;>simp_all
 rw[ho']at hI;clear h h1 hp S0 N0 hb;unfold aN.val at *
 go_enter func50,ntmps50
 go_wp2_with (go_at_call 86;refine hf.mono ?_;rintro e w' ⟨rfl,rfl⟩)
 go_region_with (first|(go_at_call 87;refine(hH _ (HS0.out.drew)).mono ?_;rintro e w' ⟨rfl,rfl⟩)|(go_at_call 69;refine(hR _ (HS0.out.drew)).mono ?_;rintro e w2 ⟨rfl,S2⟩;have d0:w2.cell? ⟨w.heap.size,0,none⟩=some (.int .u8 x0):=(S2.at HN.out.drew (by simp)).cell? 0;have d1:w2.cell? ⟨w.heap.size,1,none⟩=some (.int .u8 x1):=(S2.at HN.out.drew (by simp)).cell? 1;have d2:w2.cell? ⟨w.heap.size,2,none⟩=some (.int .u8 x2):=(S2.at HN.out.drew (by simp)).cell? 2;have d3:w2.cell? ⟨w.heap.size,3,none⟩=some (.int .u8 x3):=(S2.at HN.out.drew (by simp)).cell? 3;have d4:w2.cell? ⟨w.heap.size,4,none⟩=some (.int .u8 x4):=(S2.at HN.out.drew (by simp)).cell? 4;have d5:w2.cell? ⟨w.heap.size,5,none⟩=some (.int .u8 x5):=(S2.at HN.out.drew (by simp)).cell? 5;have d6:w2.cell? ⟨w.heap.size,6,none⟩=some (.int .u8 x6):=(S2.at HN.out.drew (by simp)).cell? 6;have d7:w2.cell? ⟨w.heap.size,7,none⟩=some (.int .u8 x7):=(S2.at HN.out.drew (by simp)).cell? 7;have SA:Same [] w w2:=HS0.out.drew.step S2 (by simp)))
 all_goals
  clear hf hH hR c1 HN HS0 HE
  go_wp2_with (first|(go_at_call 88;refine(hI _ SA).mono ?_;rintro e w' ⟨rfl,rfl⟩)|(go_at_call 89;refine(hA _ SA).mono ?_;rintro e w4 ⟨x,rfl,hQ⟩))
  exact hQ
theorem RQ(s:St)(t:ByteArray)(k:Nat)(b:aN)(w:World)(Q:World->Prop)(h:ai w s)(hi:s.has t=true)(hl:(s.aA t).lost=false)(hk:k<s.size (s.aA t))(hn:s.holder (s.aA t) k<s.n)(hb:s.look (s.aA t) k≠b)(ho:(s.aA t).org=none)
 (hA:∀W,Same [] w W->Calls prog 90 #[.pointer (some ⟨s.pb,0,none⟩),.pointer (some ⟨(s.aA t).vb,0,none⟩),.int .i64 k,b.val] W fun e w'=>e=.returned (.tuple #[])/\Q w') :
 Calls prog 50 #[.pointer (some ⟨s.pb,0,none⟩),.string t,.int .i64 k,b.val] w fun e w'=>e=.returned (.int .i64 0)/\Q w':=by
 obtain⟨x0,x1,x2,x3,x4,x5,x6,x7⟩:=b;have S0:=(Same.refl [] w).alloc (Obj.cells #[.int .u8 x0,.int .u8 x1,.int .u8 x2,.int .u8 x3,.int .u8 x4,.int .u8 x5,.int .u8 x6,.int .u8 x7] 91);have h1:=h.new S0;have N0:=At.new w #[.int .u8 x0,.int .u8 x1,.int .u8 x2,.int .u8 x3,.int .u8 x4,.int .u8 x5,.int .u8 x6,.int .u8 x7] 91;have hf:=mZ s t k _ h1 hi hl hk;have hmem:=(St.aT hi).1;have hH:=fun W (hW:Same [] w W)=>tX (h.new hW) hmem hk
 obtain⟨cap,hp,_,_⟩:=h.pool;have c1:=hp.cell? 1;simp only[List.getElem?_cons_succ,List.getElem?_cons_zero,ptr]at c1;have lp:=hp.lt;have hR:=fun W (hW:Same [] w W)=>gu s.db s.bb s.n (s.holder (s.aA t) k) _ _ _ s.bl W _ _ rfl rfl (h.new hW).disk.disk (h.new hW).disk.data h.disk.len hn (by have:=h.disk.small;omega)
 unfold St.look at hb;generalize s.holder (s.aA t) k=yy at *;generalize s.bl[yy]! = old at *;obtain⟨o0,o1,o2,o3,o4,o5,o6,o7⟩:=old;have HE:=fun W=>mX ⟨o0,o1,o2,o3,o4,o5,o6,o7⟩ ⟨x0,x1,x2,x3,x4,x5,x6,x7⟩ W
 simp only at HE;rw[decide_eq_false hb]at HE;have HS0:Hid (Same [] w (w.alloc (Obj.cells #[.int .u8 x0,.int .u8 x1,.int .u8 x2,.int .u8 x3,.int .u8 x4,.int .u8 x5,.int .u8 x6,.int .u8 x7] 91))):=S0;have HN:Hid (At (w.alloc (Obj.cells #[.int .u8 x0,.int .u8 x1,.int .u8 x2,.int .u8 x3,.int .u8 x4,.int .u8 x5,.int .u8 x6,.int .u8 x7] 91)) w.heap.size 91 [.int .u8 x0,.int .u8 x1,.int .u8 x2,.int .u8 x3,.int .u8 x4,.int .u8 x5,.int .u8 x6,.int .u8 x7]):=N0;have hI:=fun W (hW:Same [] w W)=>aJ (s.aA t) W ((h.new hW).af _ hmem)
 rw[ho]at hI;clear h h1 hp S0 N0 hb;unfold aN.val at *
 go_enter func50,ntmps50
 go_wp2_with (go_at_call 86;refine hf.mono ?_;rintro e w' ⟨rfl,rfl⟩)
 go_region_with (first|(go_at_call 87;refine(hH _ (HS0.out.drew)).mono ?_;rintro e w' ⟨rfl,rfl⟩)|(go_at_call 69;refine(hR _ (HS0.out.drew)).mono ?_;rintro e w2 ⟨rfl,S2⟩;have d0:w2.cell? ⟨w.heap.size,0,none⟩=some (.int .u8 x0):=(S2.at HN.out.drew (by simp)).cell? 0;have d1:w2.cell? ⟨w.heap.size,1,none⟩=some (.int .u8 x1):=(S2.at HN.out.drew (by simp)).cell? 1;have d2:w2.cell? ⟨w.heap.size,2,none⟩=some (.int .u8 x2):=(S2.at HN.out.drew (by simp)).cell? 2;have d3:w2.cell? ⟨w.heap.size,3,none⟩=some (.int .u8 x3):=(S2.at HN.out.drew (by simp)).cell? 3;have d4:w2.cell? ⟨w.heap.size,4,none⟩=some (.int .u8 x4):=(S2.at HN.out.drew (by simp)).cell? 4;have d5:w2.cell? ⟨w.heap.size,5,none⟩=some (.int .u8 x5):=(S2.at HN.out.drew (by simp)).cell? 5;have d6:w2.cell? ⟨w.heap.size,6,none⟩=some (.int .u8 x6):=(S2.at HN.out.drew (by simp)).cell? 6;have d7:w2.cell? ⟨w.heap.size,7,none⟩=some (.int .u8 x7):=(S2.at HN.out.drew (by simp)).cell? 7;have SA:Same [] w w2:=HS0.out.drew.step S2 (by simp)))
 all_goals
  clear hf hH hR c1 HN HS0 HE
  go_wp2_with (first|(go_at_call 88;refine(hI _ SA).mono ?_;rintro e w' ⟨rfl,rfl⟩)|(go_at_call 90;refine(hA _ SA).mono ?_;rintro e w4 ⟨rfl,hQ⟩))
  go_ret
  exact⟨rfl,hQ⟩
end
end Go.Proofs.YtpddgdjocffgdaaGreat
