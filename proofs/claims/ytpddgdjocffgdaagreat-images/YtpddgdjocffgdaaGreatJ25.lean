/- The reference's reader of an image: an entry, by a contract. -/
import Derived.Test.YtpddgdjocffgdaaGreatJ24
namespace Go.Proofs.YtpddgdjocffgdaaGreat
set_option linter.unusedVariables false
set_option linter.unusedSimpArgs false
set_option linter.unusedSectionVars false
set_option maxHeartbeats 16000000
set_option maxRecDepth 100000
section
open Go.RowKit Go.Sort
variable [DecidableEq Blk] [Inhabited Blk] [Inhabited Vol] [Inhabited RVol]
theorem scEntry_calls(w0 w:World)(sb base:Nat)(B:List UInt8)(a0:Nat)(b0:Option Nat)(ahead:Option ByteArray)(aa:Option Addr)(m ac bound count:Nat)(L:List Nat)(lv:Value)(hl:B.length<=140737488355328)(h:ScAt w0 w sb B a0 b0)(hA:AheadAt w aa m ahead sb [])(hm:m<=1000)(ho:w.ownsRow base 3 1 lv L.length (intsV L))(hb:base<=w.heap.size)(hsb:sb < base)(hn:L.length<=1000)(hc:count<=1000)(hbd:bound<=1000) :
 Calls Tryz.prog 111 #[.pointer (some ⟨sb,0,none⟩),.slice aa m ac,.int .i64 bound,.int .i64 count,lv] w fun e w'=>∃allv bv kv,e=.returned (.tuple #[.pointer (some ⟨w.heap.size+1,0,none⟩),allv])/\EntX w0 w w' sb base B lv allv bv kv (entryX B ahead bound count L a0 b0):=by
 have hnot:=runNot;have HM0:Hid (EMid w0 w ((w.alloc (.cells #[.string ⟨#[]⟩,.string ⟨#[]⟩,.slice none 0 0,.slice none 0 0,.slice none 0 0,.bool false] 118)).alloc (.cells #[.pointer (some ⟨w.heap.size,0,none⟩),.int .i64 0,.int .i64 (-1),.int .i64 0] 163)) sb B a0 b0 [] [.pointer (some ⟨w.heap.size,0,none⟩),.int .i64 0,.int .i64 (-1),.int .i64 0] [.string ⟨#[]⟩,.string ⟨#[]⟩,.slice none 0 0,.slice none 0 0,.slice none 0 0,.bool false]):=by
  have S1:Same [] w ((w.alloc (.cells #[.string ⟨#[]⟩,.string ⟨#[]⟩,.slice none 0 0,.slice none 0 0,.slice none 0 0,.bool false] 118)).alloc (.cells #[.pointer (some ⟨w.heap.size,0,none⟩),.int .i64 0,.int .i64 (-1),.int .i64 0] 163)):=((Same.refl _ _).alloc _).alloc _;refine⟨h.next S1 (by simp) (by simp),?_,((At.new w _ _).alloc _),S1.mono (by simp),by omega,h.same.size⟩;have:=At.new (w.alloc (.cells #[.string ⟨#[]⟩,.string ⟨#[]⟩,.slice none 0 0,.slice none 0 0,.slice none 0 0,.bool false] 118)) #[.pointer (some ⟨w.heap.size,0,none⟩),.int .i64 0,.int .i64 (-1),.int .i64 0] 163;simpa using this
 go_enter Tryz.func111,Tryz.ntmps111
 have c1:((w.alloc (.cells #[.string ⟨#[]⟩,.string ⟨#[]⟩,.slice none 0 0,.slice none 0 0,.slice none 0 0,.bool false] 118)).alloc (.cells #[.pointer (some ⟨w.heap.size,0,none⟩),.int .i64 0,.int .i64 (-1),.int .i64 0] 163)).cell? ⟨sb,1,none⟩=some (.int .i64 a0):=HM0.out.sc.cell.cell? 1;obtain⟨n1,a1,d1,hX1⟩:∃n a d,numX B 1 a0 b0=(n,a,d):=⟨_,_,_,rfl⟩
 have hN1:=rnumber_calls w0 _ sb B 1 a0 b0 n1 a1 d1 1 rfl (by omega) hl HM0.out.sc hX1;have hb1:n1 < 65536:=by have:=numX_lt B 1 a0 b0 (by omega);rw[hX1] at this;exact this
 have HX1:Hid (numX B 1 a0 b0=(n1,a1,d1)):=hX1;have HA:Hid (AheadAt w aa m ahead sb []):=hA;have HO:Hid (w.ownsRow base 3 1 lv L.length (intsV L)):=ho;clear hX1 hA ho h
 go_wp2_with fail
 refine hN1.mono ?_;rintro e w1 ⟨rfl,A1,S1⟩;have HM1:Hid (EMid w0 w w1 sb B a1 d1 [] [.pointer (some ⟨w.heap.size,0,none⟩),.int .i64 0,.int .i64 (-1),.int .i64 0] [.string ⟨#[]⟩,.string ⟨#[]⟩,.slice none 0 0,.slice none 0 0,.slice none 0 0,.bool false]):=HM0.out.call A1 S1;clear hN1 A1 S1 HM0 c1
 go_upto_region 4 with fail
 go_cut [] (fun wc=>Hid (EMid w0 w wc sb B a1 (mustB d1 (decide (1<=n1/\n1<=10)) a0) [] [.pointer (some ⟨w.heap.size,0,none⟩),.int .i64 0,.int .i64 (-1),.int .i64 0] [.string ⟨#[]⟩,.string ⟨#[]⟩,.slice none 0 0,.slice none 0 0,.slice none 0 0,.bool false]))
 case first=>
  as_aux_lemma=>
   have hM:=fun ok=>rmust_calls w0 _ sb B a1 d1 ok a0 (a0:Int) rfl HM1.out.sc
   by_cases g1:1<=n1
   ·have g1':(1:Int)<=(n1:Int):=by omega
    go_wp2_with fail
    refine (hM _).mono ?_;rintro e w2 ⟨rfl,A2,S2⟩;have HF:Hid (EMid w0 w w2 sb B a1 (mustB d1 (decide (1<=n1/\n1<=10)) a0) [] [.pointer (some ⟨w.heap.size,0,none⟩),.int .i64 0,.int .i64 (-1),.int .i64 0] [.string ⟨#[]⟩,.string ⟨#[]⟩,.slice none 0 0,.slice none 0 0,.slice none 0 0,.bool false]):=HM1.out.call (by have gz:decide ((n1:Int)<=10)=decide (1<=n1/\n1<=10):=(by rw[decide_eq_decide];omega);rw[<-gz];exact A2) S2;clear A2 S2 hM HM1
    go_wp2_with fail
    go_meet
    case rel=>exact HF
   ·obtain rfl:n1=0:=by omega
    go_wp2_with fail
    refine (hM _).mono ?_;rintro e w2 ⟨rfl,A2,S2⟩;have HF:Hid (EMid w0 w w2 sb B a1 (mustB d1 (decide (1<=0/\0<=10)) a0) [] [.pointer (some ⟨w.heap.size,0,none⟩),.int .i64 0,.int .i64 (-1),.int .i64 0] [.string ⟨#[]⟩,.string ⟨#[]⟩,.slice none 0 0,.slice none 0 0,.slice none 0 0,.bool false]):=HM1.out.call (by simpa using A2) S2;clear A2 S2 hM HM1
    go_wp2_with fail
    go_meet
    case rel=>exact HF
 case rest=>
  as_aux_lemma=>
   obtain⟨b1,hb1'⟩:∃b,mustB d1 (decide (1<=n1/\n1<=10)) a0=b:=⟨_,rfl⟩
   have HB1:Hid (mustB d1 (decide (1<=n1/\n1<=10)) a0=b1):=hb1';rw[hb1'] at hcut;have HM2:Hid (EMid w0 w wc sb B a1 b1 [] [.pointer (some ⟨w.heap.size,0,none⟩),.int .i64 0,.int .i64 (-1),.int .i64 0] [.string ⟨#[]⟩,.string ⟨#[]⟩,.slice none 0 0,.slice none 0 0,.slice none 0 0,.bool false]):=hcut;obtain⟨t2,a2,d2,hX2⟩:∃n a d,takeX B n1 a1 b1=(n,a,d):=⟨_,_,_,rfl⟩
   have hT:=rtake_calls w0 wc.drew sb B n1 a1 b1 t2 a2 d2 (n1:Int) rfl (by omega) hl HM2.out.drew.sc hX2;have ht2:t2.size<=65536:=by have:=takeX_size B n1 a1 b1;rw[hX2] at this;simp at this;omega
   have HX2:Hid (takeX B n1 a1 b1=(t2,a2,d2)):=hX2;have c1:wc.cell? ⟨sb,1,none⟩=some (.int .i64 a1):=HM2.out.sc.cell.cell? 1;have c2:wc.cell? ⟨w.heap.size+1,0,none⟩=some (.pointer (some ⟨w.heap.size,0,none⟩)):=HM2.out.ent.cell? 0;clear hcut HM1 hX2 hb1'
   go_upto_region 6 with fail
   go_cut [] (fun wd=>Hid (EMid w0 w wd sb B a2 d2 [] [.pointer (some ⟨w.heap.size,0,none⟩),.int .i64 0,.int .i64 (-1),.int .i64 0] [.string t2,.string ⟨#[]⟩,.slice none 0 0,.slice none 0 0,.slice none 0 0,.bool false]))
   case first=>
    as_aux_lemma=>
     go_region_held3 (fun w'=>w'.cell? ⟨w.heap.size+1,0,none⟩=some (.pointer (some ⟨w.heap.size,0,none⟩))) (first|assumption|exact c2|exact (HM3.out.setV 0 (.string t2)).ent.cell? 0) ((go_at_call 108;refine hT.mono ?_;rintro e w3 ⟨rfl,A3,S3⟩;have HM3:Hid (EMid w0 w w3 sb B a2 d2 [] [.pointer (some ⟨w.heap.size,0,none⟩),.int .i64 0,.int .i64 (-1),.int .i64 0] [.string ⟨#[]⟩,.string ⟨#[]⟩,.slice none 0 0,.slice none 0 0,.slice none 0 0,.bool false]):=HM2.out.drew.call A3 S3;have k3:w3.cell? ⟨w.heap.size+1,0,none⟩=some (.pointer (some ⟨w.heap.size,0,none⟩)):=HM3.out.ent.cell? 0;have f3:w3.frozen? ⟨w.heap.size,0,none⟩=false:=HM3.out.vol.frozen 0;have v3:w3.cell? ⟨w.heap.size,0,none⟩=some (.string ⟨#[]⟩):=HM3.out.vol.cell? 0;clear A3 S3))
     all_goals
      have HF:Hid (EMid w0 w (w3.setCell ⟨w.heap.size,0,none⟩ (.string t2)) sb B a2 d2 [] [.pointer (some ⟨w.heap.size,0,none⟩),.int .i64 0,.int .i64 (-1),.int .i64 0] [.string t2,.string ⟨#[]⟩,.slice none 0 0,.slice none 0 0,.slice none 0 0,.bool false]):=HM3.out.setV 0 (.string t2);clear hT HM2 HM3
      go_wp2_with fail
      go_meet
      case rel=>exact HF
   case rest=>
    as_aux_lemma=>
     have HM3:Hid (EMid w0 w wc sb B a2 d2 [] [.pointer (some ⟨w.heap.size,0,none⟩),.int .i64 0,.int .i64 (-1),.int .i64 0] [.string t2,.string ⟨#[]⟩,.slice none 0 0,.slice none 0 0,.slice none 0 0,.bool false]):=hcut;clear hcut hT c1 c2;have hI:=refIsName_calls t2 wc (by unfold maxLen;omega);have hM:=rmust_calls w0 wc sb B a2 d2 (nameB t2) a1 (a1:Int) rfl HM3.out.sc;have c2:wc.cell? ⟨w.heap.size+1,0,none⟩=some (.pointer (some ⟨w.heap.size,0,none⟩)):=HM3.out.ent.cell? 0;have c3:wc.cell? ⟨w.heap.size,0,none⟩=some (.string t2):=HM3.out.vol.cell? 0
     go_wp2_with fail
     refine hI.mono ?_;rintro e w' ⟨rfl,hw⟩;obtain rfl:=hw.symm
     go_wp2_with fail
     refine hM.mono ?_;rintro e w4 ⟨rfl,A4,S4⟩;obtain⟨b2,hb2'⟩:∃b,mustB d2 (nameB t2) a1=b:=⟨_,rfl⟩
     have HB2:Hid (mustB d2 (nameB t2) a1=b2):=hb2';rw[hb2'] at A4;have HM4:Hid (EMid w0 w w4 sb B a2 b2 [] [.pointer (some ⟨w.heap.size,0,none⟩),.int .i64 0,.int .i64 (-1),.int .i64 0] [.string t2,.string ⟨#[]⟩,.slice none 0 0,.slice none 0 0,.slice none 0 0,.bool false]):=HM3.out.call A4 S4;clear hI hM c2 c3 A4 S4 HM3 hb2'
     go_upto_if 65 with fail
     go_cut [] (fun wd=>Hid (EMid w0 w wd sb B a2 (aheadX ahead t2 a1 b2) [] [.pointer (some ⟨w.heap.size,0,none⟩),.int .i64 0,.int .i64 (-1),.int .i64 0] [.string t2,.string ⟨#[]⟩,.slice none 0 0,.slice none 0 0,.slice none 0 0,.bool false]))
     case first=>
      as_aux_lemma=>
       by_cases hm0:m=0
       ·have hah:=HA.out.no hm0;subst hm0;have HF:Hid (EMid w0 w w4 sb B a2 (aheadX ahead t2 a1 b2) [] [.pointer (some ⟨w.heap.size,0,none⟩),.int .i64 0,.int .i64 (-1),.int .i64 0] [.string t2,.string ⟨#[]⟩,.slice none 0 0,.slice none 0 0,.slice none 0 0,.bool false]):=by rw[hah];exact HM4.out
        clear HM4 hah
        go_wp2_with fail
        go_meet
        case rel=>exact HF
       ·obtain⟨t,ag,pe,pv,cs,ce,cv,rfl,rfl,p1,q1,p2,q2,p3,q3,o1,o2,o3⟩:=HA.out.ex hm0;have r1:w4.cell? ⟨ag,m - 1,none⟩=some (.pointer (some ⟨pe,0,none⟩)):=by rw[(HM4.out.same.at p1 o1).cell?];exact q1
        have r2:w4.cell? ⟨pe,0,none⟩=some (.pointer (some ⟨pv,0,none⟩)):=by rw[(HM4.out.same.at p2 o2).cell?];exact q2
        have r3:w4.cell? ⟨pv,0,none⟩=some (.string t):=by rw[(HM4.out.same.at p3 o3).cell?];exact q3
        have c2:w4.cell? ⟨w.heap.size+1,0,none⟩=some (.pointer (some ⟨w.heap.size,0,none⟩)):=HM4.out.ent.cell? 0;have c3:w4.cell? ⟨w.heap.size,0,none⟩=some (.string t2):=HM4.out.vol.cell? 0;have l1:(0:Int) < (m:Int):=by omega
        have l2:IntKind.i64.wrap ((m:Int) - 1)=((m - 1:Nat):Int):=by rw[IntWalk.i64_in _ (by omega)];omega
        have l3:((m - 1:Nat):Int) < (m:Int):=by omega
        have hM:=fun ok=>rmust_calls w0 w4.drew sb B a2 b2 ok a1 (a1:Int) rfl HM4.out.drew.sc
        clear p1 q1 p2 q2 p3 q3 o1 o2 o3;generalize m - 1=m1 at *
        go_wp2_with fail
        refine region_tail 22 (by kernel_rfl) (by kernel_rfl) ?_;simp only[List.take_succ_cons,List.take_zero,List.drop_succ_cons,List.drop_zero]
        repeat still_step
        refine wpStill_nil ?_
        go_wp2_with fail
        refine (hM _).mono ?_;rintro e w5 ⟨rfl,A5,S5⟩;have HF:Hid (EMid w0 w w5 sb B a2 (aheadX (some t) t2 a1 b2) [] [.pointer (some ⟨w.heap.size,0,none⟩),.int .i64 0,.int .i64 (-1),.int .i64 0] [.string t2,.string ⟨#[]⟩,.slice none 0 0,.slice none 0 0,.slice none 0 0,.bool false]):=HM4.out.drew.call (by rw[text_less] at A5;exact A5) S5;clear A5 S5 hM HM4
        go_wp2_with fail
        go_meet
        case rel=>exact HF
     case rest=>
      as_aux_lemma=>
       obtain⟨b3,hb3'⟩:∃b,aheadX ahead t2 a1 b2=b:=⟨_,rfl⟩
       have HB3:Hid (aheadX ahead t2 a1 b2=b3):=hb3';rw[hb3'] at hcut;have HM5:Hid (EMid w0 w wc sb B a2 b3 [] [.pointer (some ⟨w.heap.size,0,none⟩),.int .i64 0,.int .i64 (-1),.int .i64 0] [.string t2,.string ⟨#[]⟩,.slice none 0 0,.slice none 0 0,.slice none 0 0,.bool false]):=hcut;clear hcut hb3' HM4;obtain⟨n4,a4,d4,hX4⟩:∃n a d,numX B 1 a2 b3=(n,a,d):=⟨_,_,_,rfl⟩
       have hN4:=rnumber_calls w0 wc sb B 1 a2 b3 n4 a4 d4 1 rfl (by omega) hl HM5.out.sc hX4;have hb4:n4 < 65536:=by have:=numX_lt B 1 a2 b3 (by omega);rw[hX4] at this;exact this
       have HX4:Hid (numX B 1 a2 b3=(n4,a4,d4)):=hX4;have c1:wc.cell? ⟨sb,1,none⟩=some (.int .i64 a2):=HM5.out.sc.cell.cell? 1;clear hX4
       go_wp2_with fail
       refine hN4.mono ?_;rintro e w6 ⟨rfl,A6,S6⟩;have HM6:Hid (EMid w0 w w6 sb B a4 d4 [] [.pointer (some ⟨w.heap.size,0,none⟩),.int .i64 0,.int .i64 (-1),.int .i64 0] [.string t2,.string ⟨#[]⟩,.slice none 0 0,.slice none 0 0,.slice none 0 0,.bool false]):=HM5.out.call A6 S6;have hM:=fun ok=>rmust_calls w0 w6 sb B a4 d4 ok a2 (a2:Int) rfl A6
       clear hN4 A6 S6 HM5 c1
       go_wp2_with fail
       refine (hM _).mono ?_;rintro e w7 ⟨rfl,A7,S7⟩;obtain⟨b4,hb4'⟩:∃b,mustB d4 (decide (n4<=2)) a2=b:=⟨_,rfl⟩
       have HB4:Hid (mustB d4 (decide (n4<=2)) a2=b4):=hb4';have A7':ScAt w0 w7 sb B a4 b4:=by rw[<-hb4'];exact A7.must_eq (by rw[Bool.eq_iff_iff];simp;omega)
       have HM7:Hid (EMid w0 w w7 sb B a4 b4 [] [.pointer (some ⟨w.heap.size,0,none⟩),.int .i64 0,.int .i64 (-1),.int .i64 0] [.string t2,.string ⟨#[]⟩,.slice none 0 0,.slice none 0 0,.slice none 0 0,.bool false]):=HM6.out.call A7' S7;obtain⟨n5,a5,d5,hX5⟩:∃n a d,numX B 2 a4 b4=(n,a,d):=⟨_,_,_,rfl⟩
       have hN5:=rnumber_calls w0 w7 sb B 2 a4 b4 n5 a5 d5 2 rfl (by omega) hl HM7.out.sc hX5;have hb5:n5 < 65536:=by have:=numX_lt B 2 a4 b4 (by omega);rw[hX5] at this;exact this
       have HX5:Hid (numX B 2 a4 b4=(n5,a5,d5)):=hX5;have c1:w7.cell? ⟨sb,1,none⟩=some (.int .i64 a4):=HM7.out.sc.cell.cell? 1;clear hX5 hM A7 A7' S7 hb4' HM6
       go_wp2_with fail
       refine hN5.mono ?_;rintro e w8 ⟨rfl,A8,S8⟩;have HM8:Hid (EMid w0 w w8 sb B a5 d5 [] [.pointer (some ⟨w.heap.size,0,none⟩),.int .i64 0,.int .i64 (-1),.int .i64 0] [.string t2,.string ⟨#[]⟩,.slice none 0 0,.slice none 0 0,.slice none 0 0,.bool false]):=HM7.out.call A8 S8;have f8:w8.frozen? ⟨w.heap.size+1,1,none⟩=false:=HM8.out.ent.frozen 1;have k8:w8.cell? ⟨w.heap.size+1,1,none⟩=some (.int .i64 0):=HM8.out.ent.cell? 1;clear A8 S8 hN5 HM7 c1;have HM9:Hid (EMid w0 w (w8.setCell ⟨w.heap.size+1,1,none⟩ (.int .i64 (n5:Int))) sb B a5 d5 [] [.pointer (some ⟨w.heap.size,0,none⟩),.int .i64 (n5:Int),.int .i64 (-1),.int .i64 0] [.string t2,.string ⟨#[]⟩,.slice none 0 0,.slice none 0 0,.slice none 0 0,.bool false]):=HM8.out.setE 1 (.int .i64 (n5:Int))
       go_upto_region 16 with fail
       go_cut [] (fun wd=>Hid (EMid w0 w wd sb B a5 (mustB d5 (decide (1<=n5/\n5<=200)) a4) [] [.pointer (some ⟨w.heap.size,0,none⟩),.int .i64 (n5:Int),.int .i64 (-1),.int .i64 0] [.string t2,.string ⟨#[]⟩,.slice none 0 0,.slice none 0 0,.slice none 0 0,.bool false]))
       case first=>
        as_aux_lemma=>
         have e1:(w8.setCell ⟨w.heap.size+1,1,none⟩ (.int .i64 (n5:Int))).cell? ⟨w.heap.size+1,1,none⟩=some (.int .i64 (n5:Int)):=HM9.out.ent.cell? 1;generalize w8.setCell ⟨w.heap.size+1,1,none⟩ (.int .i64 (n5:Int))=w9 at *;have hM:=fun ok=>rmust_calls w0 w9 sb B a5 d5 ok a4 (a4:Int) rfl HM9.out.sc
         go_wp2_with fail
         all_goals
          refine (hM _).mono ?_;rintro e w10 ⟨rfl,A10,S10⟩;have HF:Hid (EMid w0 w w10 sb B a5 (mustB d5 (decide (1<=n5/\n5<=200)) a4) [] [.pointer (some ⟨w.heap.size,0,none⟩),.int .i64 (n5:Int),.int .i64 (-1),.int .i64 0] [.string t2,.string ⟨#[]⟩,.slice none 0 0,.slice none 0 0,.slice none 0 0,.bool false]):=HM9.out.call (A10.must_eq (by first|rfl|(rw[Bool.eq_iff_iff];simp<;>omega))) S10;clear A10 S10 hM HM9 HM8
          go_wp2_with fail
          go_meet
          case rel=>exact HF
       case rest=>
        as_aux_lemma=>
         obtain⟨b5,hb5'⟩:∃b,mustB d5 (decide (1<=n5/\n5<=200)) a4=b:=⟨_,rfl⟩
         have HB5:Hid (mustB d5 (decide (1<=n5/\n5<=200)) a4=b5):=hb5';rw[hb5'] at hcut;have HM10:Hid (EMid w0 w wc sb B a5 b5 [] [.pointer (some ⟨w.heap.size,0,none⟩),.int .i64 (n5:Int),.int .i64 (-1),.int .i64 0] [.string t2,.string ⟨#[]⟩,.slice none 0 0,.slice none 0 0,.slice none 0 0,.bool false]):=hcut;obtain⟨og,oat,a6,b6,hX6⟩:∃x y a b,orgX B count n4 a5 b5=(x,y,a,b):=⟨_,_,_,_,rfl⟩
         have HX6:Hid (orgX B count n4 a5 b5=(og,oat,a6,b6)):=hX6;clear hcut hb5' HM8 HM9 f8 k8 hX6
         go_upto_if 125 with fail
         go_cut [] (fun wd=>Hid (EMid w0 w wd sb B a6 b6 [] [.pointer (some ⟨w.heap.size,0,none⟩),.int .i64 (n5:Int),.int .i64 (orgI og),.int .i64 (oat:Int)] [.string t2,.string ⟨#[]⟩,.slice none 0 0,.slice none 0 0,.slice none 0 0,.bool false]))
         case first=>
          as_aux_lemma=>
           by_cases k0:n4=0
           ·subst k0;have HF:Hid (EMid w0 w wc sb B a6 b6 [] [.pointer (some ⟨w.heap.size,0,none⟩),.int .i64 (n5:Int),.int .i64 (orgI og),.int .i64 (oat:Int)] [.string t2,.string ⟨#[]⟩,.slice none 0 0,.slice none 0 0,.slice none 0 0,.bool false]):=by
             have:=HX6.out;simp only[orgX,if_pos,Prod.mk.injEq] at this;obtain⟨rfl,rfl,rfl,rfl⟩:=this;exact HM10.out
            clear HM10
            go_wp2_with fail
            go_meet
            case rel=>exact HF
           ·have k1:(0:Int) < (n4:Int):=by omega
            obtain⟨n6,a6',d6,hX6'⟩:∃n a d,numX B 1 a5 b5=(n,a,d):=⟨_,_,_,rfl⟩
            have HM11:Hid (EMid w0 w (wc.setCell ⟨w.heap.size+1,3,none⟩ (.int .i64 (a5:Int))) sb B a5 b5 [] [.pointer (some ⟨w.heap.size,0,none⟩),.int .i64 (n5:Int),.int .i64 (-1),.int .i64 (a5:Int)] [.string t2,.string ⟨#[]⟩,.slice none 0 0,.slice none 0 0,.slice none 0 0,.bool false]):=HM10.out.setE 3 (.int .i64 (a5:Int));have hN6:=rnumber_calls w0 _ sb B 1 a5 b5 n6 a6' d6 1 rfl (by omega) hl HM11.out.sc hX6';have HEQ:Hid (og=some n6/\oat=a5/\a6=a6'/\b6=mustB d6 (decide (n6 < count)) a5):=by
             have:=HX6.out;simp only[orgX,if_neg k0,hX6',Prod.mk.injEq] at this;obtain⟨rfl,rfl,rfl,rfl⟩:=this;exact⟨rfl,rfl,rfl,rfl⟩
            have c1:wc.cell? ⟨sb,1,none⟩=some (.int .i64 a5):=HM10.out.sc.cell.cell? 1;have f1:wc.frozen? ⟨w.heap.size+1,3,none⟩=false:=HM10.out.ent.frozen 3;have k3:wc.cell? ⟨w.heap.size+1,3,none⟩=some (.int .i64 0):=HM10.out.ent.cell? 3;have hb6:n6 < 65536:=by have:=numX_lt B 1 a5 b5 (by omega);rw[hX6'] at this;exact this
            clear hX6' HM10 k0
            go_wp2_with fail
            refine hN6.mono ?_;rintro e w11 ⟨rfl,A11,S11⟩;have HM12:Hid (EMid w0 w w11 sb B a6' d6 [] [.pointer (some ⟨w.heap.size,0,none⟩),.int .i64 (n5:Int),.int .i64 (-1),.int .i64 (a5:Int)] [.string t2,.string ⟨#[]⟩,.slice none 0 0,.slice none 0 0,.slice none 0 0,.bool false]):=HM11.out.call A11 S11;have f2:w11.frozen? ⟨w.heap.size+1,2,none⟩=false:=HM12.out.ent.frozen 2;have k4:w11.cell? ⟨w.heap.size+1,2,none⟩=some (.int .i64 (-1)):=HM12.out.ent.cell? 2;have HM13:Hid (EMid w0 w (w11.setCell ⟨w.heap.size+1,2,none⟩ (.int .i64 (n6:Int))) sb B a6' d6 [] [.pointer (some ⟨w.heap.size,0,none⟩),.int .i64 (n5:Int),.int .i64 (n6:Int),.int .i64 (a5:Int)] [.string t2,.string ⟨#[]⟩,.slice none 0 0,.slice none 0 0,.slice none 0 0,.bool false]):=HM12.out.setE 2 (.int .i64 (n6:Int));have g2:(w11.setCell ⟨w.heap.size+1,2,none⟩ (.int .i64 (n6:Int))).cell? ⟨w.heap.size+1,2,none⟩=some (.int .i64 (n6:Int)):=HM13.out.ent.cell? 2;have g3:(w11.setCell ⟨w.heap.size+1,2,none⟩ (.int .i64 (n6:Int))).cell? ⟨w.heap.size+1,3,none⟩=some (.int .i64 (a5:Int)):=HM13.out.ent.cell? 3;have hM:=fun ok=>rmust_calls w0 _ sb B a6' d6 ok a5 (a5:Int) rfl HM13.out.drew.sc
            clear A11 S11 hN6 HM11 HM12 c1 f1 k3
            go_wp2_with fail
            refine region_tail 11 (by kernel_rfl) (by kernel_rfl) ?_;simp only[List.take_succ_cons,List.take_zero,List.drop_succ_cons,List.drop_zero]
            repeat still_step
            refine wpStill_nil ?_
            go_wp2_with fail
            refine (hM _).mono ?_;rintro e w13 ⟨rfl,A13,S13⟩;have HF:Hid (EMid w0 w w13 sb B a6 b6 [] [.pointer (some ⟨w.heap.size,0,none⟩),.int .i64 (n5:Int),.int .i64 (orgI og),.int .i64 (oat:Int)] [.string t2,.string ⟨#[]⟩,.slice none 0 0,.slice none 0 0,.slice none 0 0,.bool false]):=by
             obtain⟨rfl,rfl,rfl,rfl⟩:=HEQ.out;exact HM13.out.drew.call (A13.must_eq (by first|rfl|(rw[Bool.eq_iff_iff];simp<;>omega))) S13
            clear A13 S13 hM HM13 g2 g3 f2 k4
            go_wp2_with fail
            go_meet
            case rel=>exact HF
         case rest=>
          as_aux_lemma=>
           have HM14:Hid (EMid w0 w wc sb B a6 b6 [] [.pointer (some ⟨w.heap.size,0,none⟩),.int .i64 (n5:Int),.int .i64 (orgI og),.int .i64 (oat:Int)] [.string t2,.string ⟨#[]⟩,.slice none 0 0,.slice none 0 0,.slice none 0 0,.bool false]):=hcut;clear hcut HM10;obtain⟨n7,a7,d7,hX7⟩:∃n a d,numX B 2 a6 b6=(n,a,d):=⟨_,_,_,rfl⟩
           have hN7:=rnumber_calls w0 wc sb B 2 a6 b6 n7 a7 d7 2 rfl (by omega) hl HM14.out.sc hX7;have hb7:n7 < 65536:=by have:=numX_lt B 2 a6 b6 (by omega);rw[hX7] at this;exact this
           have HX7:Hid (numX B 2 a6 b6=(n7,a7,d7)):=hX7;have c1:wc.cell? ⟨sb,1,none⟩=some (.int .i64 a6):=HM14.out.sc.cell.cell? 1;clear hX7
           go_wp2_with fail
           refine hN7.mono ?_;rintro e w15 ⟨rfl,A15,S15⟩;have HM15:Hid (EMid w0 w w15 sb B a7 d7 [] [.pointer (some ⟨w.heap.size,0,none⟩),.int .i64 (n5:Int),.int .i64 (orgI og),.int .i64 (oat:Int)] [.string t2,.string ⟨#[]⟩,.slice none 0 0,.slice none 0 0,.slice none 0 0,.bool false]):=HM14.out.call A15 S15;clear hN7 A15 S15 HM14 c1
           go_upto_region 23 with fail
           go_cut [] (fun wd=>Hid (EMid w0 w wd sb B a7 (mustB d7 (decide (1<=n7/\n7<=n5/\(0 < n4\/n7=n5))) a6) [] [.pointer (some ⟨w.heap.size,0,none⟩),.int .i64 (n5:Int),.int .i64 (orgI og),.int .i64 (oat:Int)] [.string t2,.string ⟨#[]⟩,.slice none 0 0,.slice none 0 0,.slice none 0 0,.bool false]))
           case first=>
            as_aux_lemma=>
             have e1:w15.cell? ⟨w.heap.size+1,1,none⟩=some (.int .i64 (n5:Int)):=HM15.out.ent.cell? 1;have hM:=fun ok=>rmust_calls w0 w15 sb B a7 d7 ok a6 (a6:Int) rfl HM15.out.sc
             rcases Nat.eq_zero_or_pos n7 with rfl|g1
             ·go_wp2_with fail
              all_goals
               refine (hM _).mono ?_;rintro e w16 ⟨rfl,A16,S16⟩;have HF:Hid (EMid w0 w w16 sb B a7 (mustB d7 (decide (1<=0/\0<=n5/\(0 < n4\/0=n5))) a6) [] [.pointer (some ⟨w.heap.size,0,none⟩),.int .i64 (n5:Int),.int .i64 (orgI og),.int .i64 (oat:Int)] [.string t2,.string ⟨#[]⟩,.slice none 0 0,.slice none 0 0,.slice none 0 0,.bool false]):=HM15.out.call (A16.must_eq (by first|rfl|(rw[Bool.eq_iff_iff];simp<;>omega))) S16;clear A16 S16 hM HM15
               go_wp2_with fail
               go_meet
               case rel=>exact HF
             ·have g1':(1:Int)<=(n7:Int):=by omega
              rcases Nat.lt_or_ge n5 n7 with g2|g2
              ·have g2':(n5:Int) < (n7:Int):=by omega
               go_wp2_with fail
               all_goals
                refine (hM _).mono ?_;rintro e w16 ⟨rfl,A16,S16⟩;have HF:Hid (EMid w0 w w16 sb B a7 (mustB d7 (decide (1<=n7/\n7<=n5/\(0 < n4\/n7=n5))) a6) [] [.pointer (some ⟨w.heap.size,0,none⟩),.int .i64 (n5:Int),.int .i64 (orgI og),.int .i64 (oat:Int)] [.string t2,.string ⟨#[]⟩,.slice none 0 0,.slice none 0 0,.slice none 0 0,.bool false]):=HM15.out.call (A16.must_eq (by first|rfl|(rw[Bool.eq_iff_iff];simp<;>omega))) S16;clear A16 S16 hM HM15
                go_wp2_with fail
                go_meet
                case rel=>exact HF
              ·have g2':(n7:Int)<=(n5:Int):=by omega
               rcases Nat.eq_zero_or_pos n4 with rfl|g3
               ·go_wp2_with fail
                all_goals
                 refine (hM _).mono ?_;rintro e w16 ⟨rfl,A16,S16⟩;have HF:Hid (EMid w0 w w16 sb B a7 (mustB d7 (decide (1<=n7/\n7<=n5/\(0 < 0\/n7=n5))) a6) [] [.pointer (some ⟨w.heap.size,0,none⟩),.int .i64 (n5:Int),.int .i64 (orgI og),.int .i64 (oat:Int)] [.string t2,.string ⟨#[]⟩,.slice none 0 0,.slice none 0 0,.slice none 0 0,.bool false]):=HM15.out.call (A16.must_eq (by first|rfl|(rw[Bool.eq_iff_iff];simp<;>omega))) S16;clear A16 S16 hM HM15
                 go_wp2_with fail
                 go_meet
                 case rel=>exact HF
               ·have g3':(0:Int) < (n4:Int):=by omega
                go_wp2_with fail
                all_goals
                 refine (hM _).mono ?_;rintro e w16 ⟨rfl,A16,S16⟩;have HF:Hid (EMid w0 w w16 sb B a7 (mustB d7 (decide (1<=n7/\n7<=n5/\(0 < n4\/n7=n5))) a6) [] [.pointer (some ⟨w.heap.size,0,none⟩),.int .i64 (n5:Int),.int .i64 (orgI og),.int .i64 (oat:Int)] [.string t2,.string ⟨#[]⟩,.slice none 0 0,.slice none 0 0,.slice none 0 0,.bool false]):=HM15.out.call (A16.must_eq (by first|rfl|(rw[Bool.eq_iff_iff];simp<;>omega))) S16;clear A16 S16 hM HM15
                 go_wp2_with fail
                 go_meet
                 case rel=>exact HF
           case rest=>
            as_aux_lemma=>
             obtain⟨b7,hb7'⟩:∃b,mustB d7 (decide (1<=n7/\n7<=n5/\(0 < n4\/n7=n5))) a6=b:=⟨_,rfl⟩
             have HB7:Hid (mustB d7 (decide (1<=n7/\n7<=n5/\(0 < n4\/n7=n5))) a6=b7):=hb7';rw[hb7'] at hcut;have HR0:Hid (restX B bound n4 n5 n7 L t2 og oat a7 b7=entryX B ahead bound count L a0 b0):=by
              show _=_;unfold restX entryX headX tailX;simp only[HX1.out,HB1.out,HX2.out,HB2.out,HB3.out,HX4.out,HB4.out,HX5.out,HB5.out,HX6.out,HX7.out,HB7.out]
             clear HM15 hb7';refine ‹∀(a:Act) (w:World),Code.wp Tryz.prog _ _ a w->_› _ _ ?_;exact entry_rest _ _ _ _ _ _ _ _ _ _ _ _ _ _ _ _ _ _ _ _ _ _ _ _ _ _ _ _ _ _ _ _ _ _ _ _ _ _ _ _ _ _ _ _ _ _ _ _ _ _ _ _ _ _ _ _ _ _ _ _ _ _ _ _ _ _ _ _ _ _ _ _ _ _ _ _ _ _ _ _ _ _ _ _ _ _ _ _ _ _ _ _ _ _ _ _ _ _ _ _ _ _ _ _ _ _ _ _ _ _ _ _ _ _ _ _ _ _ _ _ _ _ _ _ _ _ _ _ _ _ _ _ _ _ _ _ _ _ _ _ _ _ _ _ _ _ _ _ _ _ _ _ _ _ _ _ _ _ _ _ _ _ _ _ _ _ _ _ _ _ _ _ _ _ _ _ _ _ _ _ _ _ _ _ _ _ _ _ _ _ _ _ _ _ _ _ _ _ _ _ _ _ _ _ _ _ _ _ _ _ _ _ _ _ _ _ _ _ _ _ _ _ _ _ _ _ _ _ _ _ w0 w wc sb base B aa m ac bound count L lv t2 _ n4 n5 n7 a6 a7 b7 og oat hl HO.out hb hsb hn hbd hb7 _ HR0 hcut
end
end Go.Proofs.YtpddgdjocffgdaaGreat
