/- Packed: see the last text. -/
import Derived.Test.YtpddgdjocffgdaaGreatA18
namespace Go.Proofs.YtpddgdjocffgdaaGreat
open Go.Proofs.Tryz
set_option linter.unusedVariables false
set_option linter.unusedSimpArgs false
set_option linter.unusedSectionVars false
set_option maxHeartbeats 16000000
set_option maxRecDepth 100000
section
open Go.RowKit Go.Sort
variable [DecidableEq aN] [Inhabited aN] [Inhabited aF] [Inhabited ay]
theorem DF(w0 w:World)(sb base:Nat)(B:List UInt8)(a0:Nat)(b0:Option Nat)(ahead:Option ByteArray)(aa:Option Addr)(m ac bound count:Nat)(L:List Nat)(lv:Value)(hl:B.length<=140737488355328)(h:bY w0 w sb B a0 b0)(hA:IC w aa m ahead sb [])(hm:m<=1000)(ho:w.ownsRow base 3 1 lv L.length (bK L))(hb:base<=w.heap.size)(hsb:sb<base)(hn:L.length<=1000)(hc:count<=1000)(hbd:bound<=1000) :
 Calls prog 111 #[.pointer (some ⟨sb,0,none⟩),.slice aa m ac,.int .i64 bound,.int .i64 count,lv] w fun e w'=>∃mg bv kv,e=.returned (.tuple #[.pointer (some ⟨w.heap.size+1,0,none⟩),mg])/\LH w0 w w' sb base B lv mg bv kv (pK B ahead bound count L a0 b0):=by
 have hnot:=bP;have HM0:Hid (dB w0 w ((w.alloc (.cells #[.string ⟨#[]⟩,.string ⟨#[]⟩,.slice none 0 0,.slice none 0 0,.slice none 0 0,.bool false] 118)).alloc (.cells #[.pointer (some ⟨w.heap.size,0,none⟩),.int .i64 0,.int .i64 (-1),.int .i64 0] 163)) sb B a0 b0 [] [.pointer (some ⟨w.heap.size,0,none⟩),.int .i64 0,.int .i64 (-1),.int .i64 0] [.string ⟨#[]⟩,.string ⟨#[]⟩,.slice none 0 0,.slice none 0 0,.slice none 0 0,.bool false]):=by
  have S1:Same [] w ((w.alloc (.cells #[.string ⟨#[]⟩,.string ⟨#[]⟩,.slice none 0 0,.slice none 0 0,.slice none 0 0,.bool false] 118)).alloc (.cells #[.pointer (some ⟨w.heap.size,0,none⟩),.int .i64 0,.int .i64 (-1),.int .i64 0] 163)):=((Same.refl _ _).alloc _).alloc _;refine⟨h.next S1 (by simp) (by simp),?_,((At.new w _ _).alloc _),S1.mono (by simp),by omega,h.same.size⟩;have:=At.new (w.alloc (.cells #[.string ⟨#[]⟩,.string ⟨#[]⟩,.slice none 0 0,.slice none 0 0,.slice none 0 0,.bool false] 118)) #[.pointer (some ⟨w.heap.size,0,none⟩),.int .i64 0,.int .i64 (-1),.int .i64 0] 163;simpa using this
 go_enter func111,ntmps111
 have c1:((w.alloc (.cells #[.string ⟨#[]⟩,.string ⟨#[]⟩,.slice none 0 0,.slice none 0 0,.slice none 0 0,.bool false] 118)).alloc (.cells #[.pointer (some ⟨w.heap.size,0,none⟩),.int .i64 0,.int .i64 (-1),.int .i64 0] 163)).cell? ⟨sb,1,none⟩=some (.int .i64 a0):=HM0.out.sc.cell.cell? 1;obtain⟨n1,a1,d1,hX1⟩:∃n a d,bF B 1 a0 b0=(n,a,d):=⟨_,_,_,rfl⟩
 have hN1:=eG w0 _ sb B 1 a0 b0 n1 a1 d1 1 rfl (by omega) hl HM0.out.sc hX1;have hb1:n1<65536:=by have:=nC B 1 a0 b0 (by omega);rw[hX1]at this;exact this
 have HX1:Hid (bF B 1 a0 b0=(n1,a1,d1)):=hX1;have HA:Hid (IC w aa m ahead sb []):=hA;have HO:Hid (w.ownsRow base 3 1 lv L.length (bK L)):=ho;clear hX1 hA ho h
 go_wp2_with fail
 refine hN1.mono ?_;rintro e w1 ⟨rfl,A1,S1⟩;have HM1:Hid (dB w0 w w1 sb B a1 d1 [] [.pointer (some ⟨w.heap.size,0,none⟩),.int .i64 0,.int .i64 (-1),.int .i64 0] [.string ⟨#[]⟩,.string ⟨#[]⟩,.slice none 0 0,.slice none 0 0,.slice none 0 0,.bool false]):=HM0.out.call A1 S1;clear hN1 A1 S1 HM0 c1
 go_upto_region 4 with fail
 go_cut [] (fun wc=>Hid (dB w0 w wc sb B a1 (aX d1 (decide (1<=n1/\n1<=10)) a0) [] [.pointer (some ⟨w.heap.size,0,none⟩),.int .i64 0,.int .i64 (-1),.int .i64 0] [.string ⟨#[]⟩,.string ⟨#[]⟩,.slice none 0 0,.slice none 0 0,.slice none 0 0,.bool false]))
 case first=>
  as_aux_lemma=>
   have hM:=fun ok=>cO w0 _ sb B a1 d1 ok a0 (a0:Int) rfl HM1.out.sc
   by_cases g1:1<=n1
   ·have g1':(1:Int)<=(n1:Int):=by omega
    go_wp2_with fail
    refine(hM _).mono ?_;rintro e w2 ⟨rfl,A2,S2⟩;have HF:Hid (dB w0 w w2 sb B a1 (aX d1 (decide (1<=n1/\n1<=10)) a0) [] [.pointer (some ⟨w.heap.size,0,none⟩),.int .i64 0,.int .i64 (-1),.int .i64 0] [.string ⟨#[]⟩,.string ⟨#[]⟩,.slice none 0 0,.slice none 0 0,.slice none 0 0,.bool false]):=HM1.out.call (by have gz:decide ((n1:Int)<=10)=decide (1<=n1/\n1<=10):=(by rw[decide_eq_decide];omega);rw[<-gz];exact A2) S2;clear A2 S2 hM HM1
    go_wp2_with fail
    go_meet
    case rel=>exact HF
   ·obtain rfl:n1=0:=by omega
    go_wp2_with fail
    refine(hM _).mono ?_;rintro e w2 ⟨rfl,A2,S2⟩;have HF:Hid (dB w0 w w2 sb B a1 (aX d1 (decide (1<=0/\0<=10)) a0) [] [.pointer (some ⟨w.heap.size,0,none⟩),.int .i64 0,.int .i64 (-1),.int .i64 0] [.string ⟨#[]⟩,.string ⟨#[]⟩,.slice none 0 0,.slice none 0 0,.slice none 0 0,.bool false]):=HM1.out.call (by simpa using A2) S2;clear A2 S2 hM HM1
    go_wp2_with fail
    go_meet
    case rel=>exact HF
 case rest=>
  as_aux_lemma=>
   obtain⟨b1,hb1'⟩:∃b,aX d1 (decide (1<=n1/\n1<=10)) a0=b:=⟨_,rfl⟩
   have HB1:Hid (aX d1 (decide (1<=n1/\n1<=10)) a0=b1):=hb1';rw[hb1']at hcut;have HM2:Hid (dB w0 w wc sb B a1 b1 [] [.pointer (some ⟨w.heap.size,0,none⟩),.int .i64 0,.int .i64 (-1),.int .i64 0] [.string ⟨#[]⟩,.string ⟨#[]⟩,.slice none 0 0,.slice none 0 0,.slice none 0 0,.bool false]):=hcut;obtain⟨t2,a2,d2,hX2⟩:∃n a d,ig B n1 a1 b1=(n,a,d):=⟨_,_,_,rfl⟩
   have hT:=lX w0 wc.drew sb B n1 a1 b1 t2 a2 d2 (n1:Int) rfl (by omega) hl HM2.out.drew.sc hX2;have ht2:t2.size<=65536:=by have:=Nb B n1 a1 b1;rw[hX2]at this;simp at this;omega
   have HX2:Hid (ig B n1 a1 b1=(t2,a2,d2)):=hX2;have c1:wc.cell? ⟨sb,1,none⟩=some (.int .i64 a1):=HM2.out.sc.cell.cell? 1;have c2:wc.cell? ⟨w.heap.size+1,0,none⟩=some (.pointer (some ⟨w.heap.size,0,none⟩)):=HM2.out.ent.cell? 0;clear hcut HM1 hX2 hb1'
   go_upto_region 6 with fail
   go_cut [] (fun wd=>Hid (dB w0 w wd sb B a2 d2 [] [.pointer (some ⟨w.heap.size,0,none⟩),.int .i64 0,.int .i64 (-1),.int .i64 0] [.string t2,.string ⟨#[]⟩,.slice none 0 0,.slice none 0 0,.slice none 0 0,.bool false]))
   case first=>
    as_aux_lemma=>
     go_region_held3 (fun w'=>w'.cell? ⟨w.heap.size+1,0,none⟩=some (.pointer (some ⟨w.heap.size,0,none⟩))) (first|assumption|exact c2|exact(HM3.out.jE 0 (.string t2)).ent.cell? 0) ((go_at_call 108;refine hT.mono ?_;rintro e w3 ⟨rfl,A3,S3⟩;have HM3:Hid (dB w0 w w3 sb B a2 d2 [] [.pointer (some ⟨w.heap.size,0,none⟩),.int .i64 0,.int .i64 (-1),.int .i64 0] [.string ⟨#[]⟩,.string ⟨#[]⟩,.slice none 0 0,.slice none 0 0,.slice none 0 0,.bool false]):=HM2.out.drew.call A3 S3;have k3:w3.cell? ⟨w.heap.size+1,0,none⟩=some (.pointer (some ⟨w.heap.size,0,none⟩)):=HM3.out.ent.cell? 0;have f3:w3.frozen? ⟨w.heap.size,0,none⟩=false:=HM3.out.aA.frozen 0;have v3:w3.cell? ⟨w.heap.size,0,none⟩=some (.string ⟨#[]⟩):=HM3.out.aA.cell? 0;clear A3 S3))
     all_goals
      have HF:Hid (dB w0 w (w3.setCell ⟨w.heap.size,0,none⟩ (.string t2)) sb B a2 d2 [] [.pointer (some ⟨w.heap.size,0,none⟩),.int .i64 0,.int .i64 (-1),.int .i64 0] [.string t2,.string ⟨#[]⟩,.slice none 0 0,.slice none 0 0,.slice none 0 0,.bool false]):=HM3.out.jE 0 (.string t2);clear hT HM2 HM3
      go_wp2_with fail
      go_meet
      case rel=>exact HF
   case rest=>
    as_aux_lemma=>
     have HM3:Hid (dB w0 w wc sb B a2 d2 [] [.pointer (some ⟨w.heap.size,0,none⟩),.int .i64 0,.int .i64 (-1),.int .i64 0] [.string t2,.string ⟨#[]⟩,.slice none 0 0,.slice none 0 0,.slice none 0 0,.bool false]):=hcut;clear hcut hT c1 c2;have hI:=qX t2 wc (by unfold maxLen;omega);have hM:=cO w0 wc sb B a2 d2 (nameB t2) a1 (a1:Int) rfl HM3.out.sc;have c2:wc.cell? ⟨w.heap.size+1,0,none⟩=some (.pointer (some ⟨w.heap.size,0,none⟩)):=HM3.out.ent.cell? 0;have c3:wc.cell? ⟨w.heap.size,0,none⟩=some (.string t2):=HM3.out.aA.cell? 0
     go_wp2_with fail
     refine hI.mono ?_;rintro e w' ⟨rfl,hw⟩;obtain rfl:=hw.symm
     go_wp2_with fail
     refine hM.mono ?_;rintro e w4 ⟨rfl,A4,S4⟩;obtain⟨b2,hb2'⟩:∃b,aX d2 (nameB t2) a1=b:=⟨_,rfl⟩
     have HB2:Hid (aX d2 (nameB t2) a1=b2):=hb2';rw[hb2']at A4;have HM4:Hid (dB w0 w w4 sb B a2 b2 [] [.pointer (some ⟨w.heap.size,0,none⟩),.int .i64 0,.int .i64 (-1),.int .i64 0] [.string t2,.string ⟨#[]⟩,.slice none 0 0,.slice none 0 0,.slice none 0 0,.bool false]):=HM3.out.call A4 S4;clear hI hM c2 c3 A4 S4 HM3 hb2'
     go_upto_if 65 with fail
     go_cut [] (fun wd=>Hid (dB w0 w wd sb B a2 (nV ahead t2 a1 b2) [] [.pointer (some ⟨w.heap.size,0,none⟩),.int .i64 0,.int .i64 (-1),.int .i64 0] [.string t2,.string ⟨#[]⟩,.slice none 0 0,.slice none 0 0,.slice none 0 0,.bool false]))
     case first=>
      as_aux_lemma=>
       by_cases hm0:m=0
       ·have hah:=HA.out.no hm0;subst hm0;have HF:Hid (dB w0 w w4 sb B a2 (nV ahead t2 a1 b2) [] [.pointer (some ⟨w.heap.size,0,none⟩),.int .i64 0,.int .i64 (-1),.int .i64 0] [.string t2,.string ⟨#[]⟩,.slice none 0 0,.slice none 0 0,.slice none 0 0,.bool false]):=by rw[hah];exact HM4.out
        clear HM4 hah
        go_wp2_with fail
        go_meet
        case rel=>exact HF
       ·obtain⟨t,ag,pe,pv,cs,ce,cv,rfl,rfl,p1,q1,p2,q2,p3,q3,o1,o2,o3⟩:=HA.out.ex hm0;have r1:w4.cell? ⟨ag,m-1,none⟩=some (.pointer (some ⟨pe,0,none⟩)):=by rw[(HM4.out.same.at p1 o1).cell?];exact q1
        have r2:w4.cell? ⟨pe,0,none⟩=some (.pointer (some ⟨pv,0,none⟩)):=by rw[(HM4.out.same.at p2 o2).cell?];exact q2
        have r3:w4.cell? ⟨pv,0,none⟩=some (.string t):=by rw[(HM4.out.same.at p3 o3).cell?];exact q3
        have c2:w4.cell? ⟨w.heap.size+1,0,none⟩=some (.pointer (some ⟨w.heap.size,0,none⟩)):=HM4.out.ent.cell? 0;have c3:w4.cell? ⟨w.heap.size,0,none⟩=some (.string t2):=HM4.out.aA.cell? 0;have l1:(0:Int)<(m:Int):=by omega
        have l2:IntKind.i64.wrap ((m:Int)-1)=((m-1:Nat):Int):=by rw[IntWalk.i64_in _ (by omega)];omega
        have l3:((m-1:Nat):Int)<(m:Int):=by omega
        have hM:=fun ok=>cO w0 w4.drew sb B a2 b2 ok a1 (a1:Int) rfl HM4.out.drew.sc
        clear p1 q1 p2 q2 p3 q3 o1 o2 o3;generalize m-1=m1 at *
        go_wp2_with fail
        refine aU 22 (by kernel_rfl) (by kernel_rfl) ?_;simp only[List.take_succ_cons,List.take_zero,List.drop_succ_cons,List.drop_zero]
        repeat still_step
        refine wpStill_nil ?_
        go_wp2_with fail
        refine(hM _).mono ?_;rintro e w5 ⟨rfl,A5,S5⟩;have HF:Hid (dB w0 w w5 sb B a2 (nV (some t) t2 a1 b2) [] [.pointer (some ⟨w.heap.size,0,none⟩),.int .i64 0,.int .i64 (-1),.int .i64 0] [.string t2,.string ⟨#[]⟩,.slice none 0 0,.slice none 0 0,.slice none 0 0,.bool false]):=HM4.out.drew.call (by rw[EF]at A5;exact A5) S5;clear A5 S5 hM HM4
        go_wp2_with fail
        go_meet
        case rel=>exact HF
     case rest=>
      as_aux_lemma=>
       obtain⟨b3,XZ⟩:∃b,nV ahead t2 a1 b2=b:=⟨_,rfl⟩
       have HB3:Hid (nV ahead t2 a1 b2=b3):=XZ;rw[XZ]at hcut;have HM5:Hid (dB w0 w wc sb B a2 b3 [] [.pointer (some ⟨w.heap.size,0,none⟩),.int .i64 0,.int .i64 (-1),.int .i64 0] [.string t2,.string ⟨#[]⟩,.slice none 0 0,.slice none 0 0,.slice none 0 0,.bool false]):=hcut;clear hcut XZ HM4;obtain⟨n4,a4,d4,hX4⟩:∃n a d,bF B 1 a2 b3=(n,a,d):=⟨_,_,_,rfl⟩
       have hN4:=eG w0 wc sb B 1 a2 b3 n4 a4 d4 1 rfl (by omega) hl HM5.out.sc hX4;have hb4:n4<65536:=by have:=nC B 1 a2 b3 (by omega);rw[hX4]at this;exact this
       have HX4:Hid (bF B 1 a2 b3=(n4,a4,d4)):=hX4;have c1:wc.cell? ⟨sb,1,none⟩=some (.int .i64 a2):=HM5.out.sc.cell.cell? 1;clear hX4
       go_wp2_with fail
       refine hN4.mono ?_;rintro e w6 ⟨rfl,A6,S6⟩;have HM6:Hid (dB w0 w w6 sb B a4 d4 [] [.pointer (some ⟨w.heap.size,0,none⟩),.int .i64 0,.int .i64 (-1),.int .i64 0] [.string t2,.string ⟨#[]⟩,.slice none 0 0,.slice none 0 0,.slice none 0 0,.bool false]):=HM5.out.call A6 S6;have hM:=fun ok=>cO w0 w6 sb B a4 d4 ok a2 (a2:Int) rfl A6
       clear hN4 A6 S6 HM5 c1
       go_wp2_with fail
       refine(hM _).mono ?_;rintro e w7 ⟨rfl,A7,S7⟩;obtain⟨b4,X5⟩:∃b,aX d4 (decide (n4<=2)) a2=b:=⟨_,rfl⟩
       have HB4:Hid (aX d4 (decide (n4<=2)) a2=b4):=X5;have A7':bY w0 w7 sb B a4 b4:=by rw[<-X5];exact A7.iJ (by rw[Bool.eq_iff_iff];simp;omega)
       have HM7:Hid (dB w0 w w7 sb B a4 b4 [] [.pointer (some ⟨w.heap.size,0,none⟩),.int .i64 0,.int .i64 (-1),.int .i64 0] [.string t2,.string ⟨#[]⟩,.slice none 0 0,.slice none 0 0,.slice none 0 0,.bool false]):=HM6.out.call A7' S7;obtain⟨n5,a5,d5,hX5⟩:∃n a d,bF B 2 a4 b4=(n,a,d):=⟨_,_,_,rfl⟩
       have hN5:=eG w0 w7 sb B 2 a4 b4 n5 a5 d5 2 rfl (by omega) hl HM7.out.sc hX5;have hb5:n5<65536:=by have:=nC B 2 a4 b4 (by omega);rw[hX5]at this;exact this
       have HX5:Hid (bF B 2 a4 b4=(n5,a5,d5)):=hX5;have c1:w7.cell? ⟨sb,1,none⟩=some (.int .i64 a4):=HM7.out.sc.cell.cell? 1;clear hX5 hM A7 A7' S7 X5 HM6
       go_wp2_with fail
       refine hN5.mono ?_;rintro e w8 ⟨rfl,A8,S8⟩;have HM8:Hid (dB w0 w w8 sb B a5 d5 [] [.pointer (some ⟨w.heap.size,0,none⟩),.int .i64 0,.int .i64 (-1),.int .i64 0] [.string t2,.string ⟨#[]⟩,.slice none 0 0,.slice none 0 0,.slice none 0 0,.bool false]):=HM7.out.call A8 S8;have f8:w8.frozen? ⟨w.heap.size+1,1,none⟩=false:=HM8.out.ent.frozen 1;have k8:w8.cell? ⟨w.heap.size+1,1,none⟩=some (.int .i64 0):=HM8.out.ent.cell? 1;clear A8 S8 hN5 HM7 c1;have HM9:Hid (dB w0 w (w8.setCell ⟨w.heap.size+1,1,none⟩ (.int .i64 (n5:Int))) sb B a5 d5 [] [.pointer (some ⟨w.heap.size,0,none⟩),.int .i64 (n5:Int),.int .i64 (-1),.int .i64 0] [.string t2,.string ⟨#[]⟩,.slice none 0 0,.slice none 0 0,.slice none 0 0,.bool false]):=HM8.out.YM 1 (.int .i64 (n5:Int))
       go_upto_region 16 with fail
       go_cut [] (fun wd=>Hid (dB w0 w wd sb B a5 (aX d5 (decide (1<=n5/\n5<=200)) a4) [] [.pointer (some ⟨w.heap.size,0,none⟩),.int .i64 (n5:Int),.int .i64 (-1),.int .i64 0] [.string t2,.string ⟨#[]⟩,.slice none 0 0,.slice none 0 0,.slice none 0 0,.bool false]))
       case first=>
        as_aux_lemma=>
         have e1:(w8.setCell ⟨w.heap.size+1,1,none⟩ (.int .i64 (n5:Int))).cell? ⟨w.heap.size+1,1,none⟩=some (.int .i64 (n5:Int)):=HM9.out.ent.cell? 1;generalize w8.setCell ⟨w.heap.size+1,1,none⟩ (.int .i64 (n5:Int))=w9 at *;have hM:=fun ok=>cO w0 w9 sb B a5 d5 ok a4 (a4:Int) rfl HM9.out.sc
         go_wp2_with fail
         all_goals
          refine(hM _).mono ?_;rintro e w10 ⟨rfl,A10,S10⟩;have HF:Hid (dB w0 w w10 sb B a5 (aX d5 (decide (1<=n5/\n5<=200)) a4) [] [.pointer (some ⟨w.heap.size,0,none⟩),.int .i64 (n5:Int),.int .i64 (-1),.int .i64 0] [.string t2,.string ⟨#[]⟩,.slice none 0 0,.slice none 0 0,.slice none 0 0,.bool false]):=HM9.out.call (A10.iJ (by first|rfl|(rw[Bool.eq_iff_iff];simp<;>omega))) S10;clear A10 S10 hM HM9 HM8
          go_wp2_with fail
          go_meet
          case rel=>exact HF
       case rest=>
        as_aux_lemma=>
         obtain⟨b5,X7⟩:∃b,aX d5 (decide (1<=n5/\n5<=200)) a4=b:=⟨_,rfl⟩
         have HB5:Hid (aX d5 (decide (1<=n5/\n5<=200)) a4=b5):=X7;rw[X7]at hcut;have IL:Hid (dB w0 w wc sb B a5 b5 [] [.pointer (some ⟨w.heap.size,0,none⟩),.int .i64 (n5:Int),.int .i64 (-1),.int .i64 0] [.string t2,.string ⟨#[]⟩,.slice none 0 0,.slice none 0 0,.slice none 0 0,.bool false]):=hcut;obtain⟨og,mJ,a6,b6,hX6⟩:∃x y a b,uq B count n4 a5 b5=(x,y,a,b):=⟨_,_,_,_,rfl⟩
         have HX6:Hid (uq B count n4 a5 b5=(og,mJ,a6,b6)):=hX6;clear hcut X7 HM8 HM9 f8 k8 hX6
         go_upto_if 125 with fail
         go_cut [] (fun wd=>Hid (dB w0 w wd sb B a6 b6 [] [.pointer (some ⟨w.heap.size,0,none⟩),.int .i64 (n5:Int),.int .i64 (iq og),.int .i64 (mJ:Int)] [.string t2,.string ⟨#[]⟩,.slice none 0 0,.slice none 0 0,.slice none 0 0,.bool false]))
         case first=>
          as_aux_lemma=>
           by_cases k0:n4=0
           ·subst k0;have HF:Hid (dB w0 w wc sb B a6 b6 [] [.pointer (some ⟨w.heap.size,0,none⟩),.int .i64 (n5:Int),.int .i64 (iq og),.int .i64 (mJ:Int)] [.string t2,.string ⟨#[]⟩,.slice none 0 0,.slice none 0 0,.slice none 0 0,.bool false]):=by
             have:=HX6.out;simp only[uq,if_pos,Prod.mk.injEq]at this;obtain⟨rfl,rfl,rfl,rfl⟩:=this;exact IL.out
            clear IL
            go_wp2_with fail
            go_meet
            case rel=>exact HF
           ·have k1:(0:Int)<(n4:Int):=by omega
            obtain⟨n6,a6',d6,V8⟩:∃n a d,bF B 1 a5 b5=(n,a,d):=⟨_,_,_,rfl⟩
            have IQ:Hid (dB w0 w (wc.setCell ⟨w.heap.size+1,3,none⟩ (.int .i64 (a5:Int))) sb B a5 b5 [] [.pointer (some ⟨w.heap.size,0,none⟩),.int .i64 (n5:Int),.int .i64 (-1),.int .i64 (a5:Int)] [.string t2,.string ⟨#[]⟩,.slice none 0 0,.slice none 0 0,.slice none 0 0,.bool false]):=IL.out.YM 3 (.int .i64 (a5:Int));have hN6:=eG w0 _ sb B 1 a5 b5 n6 a6' d6 1 rfl (by omega) hl IQ.out.sc V8;have HEQ:Hid (og=some n6/\mJ=a5/\a6=a6'/\b6=aX d6 (decide (n6<count)) a5):=by
             have:=HX6.out;simp only[uq,if_neg k0,V8,Prod.mk.injEq]at this;obtain⟨rfl,rfl,rfl,rfl⟩:=this;exact⟨rfl,rfl,rfl,rfl⟩
            have c1:wc.cell? ⟨sb,1,none⟩=some (.int .i64 a5):=IL.out.sc.cell.cell? 1;have f1:wc.frozen? ⟨w.heap.size+1,3,none⟩=false:=IL.out.ent.frozen 3;have k3:wc.cell? ⟨w.heap.size+1,3,none⟩=some (.int .i64 0):=IL.out.ent.cell? 3;have hb6:n6<65536:=by have:=nC B 1 a5 b5 (by omega);rw[V8]at this;exact this
            clear V8 IL k0
            go_wp2_with fail
            refine hN6.mono ?_;rintro e w11 ⟨rfl,A11,S11⟩;have V9:Hid (dB w0 w w11 sb B a6' d6 [] [.pointer (some ⟨w.heap.size,0,none⟩),.int .i64 (n5:Int),.int .i64 (-1),.int .i64 (a5:Int)] [.string t2,.string ⟨#[]⟩,.slice none 0 0,.slice none 0 0,.slice none 0 0,.bool false]):=IQ.out.call A11 S11;have f2:w11.frozen? ⟨w.heap.size+1,2,none⟩=false:=V9.out.ent.frozen 2;have k4:w11.cell? ⟨w.heap.size+1,2,none⟩=some (.int .i64 (-1)):=V9.out.ent.cell? 2;have kK:Hid (dB w0 w (w11.setCell ⟨w.heap.size+1,2,none⟩ (.int .i64 (n6:Int))) sb B a6' d6 [] [.pointer (some ⟨w.heap.size,0,none⟩),.int .i64 (n5:Int),.int .i64 (n6:Int),.int .i64 (a5:Int)] [.string t2,.string ⟨#[]⟩,.slice none 0 0,.slice none 0 0,.slice none 0 0,.bool false]):=V9.out.YM 2 (.int .i64 (n6:Int));have g2:(w11.setCell ⟨w.heap.size+1,2,none⟩ (.int .i64 (n6:Int))).cell? ⟨w.heap.size+1,2,none⟩=some (.int .i64 (n6:Int)):=kK.out.ent.cell? 2;have g3:(w11.setCell ⟨w.heap.size+1,2,none⟩ (.int .i64 (n6:Int))).cell? ⟨w.heap.size+1,3,none⟩=some (.int .i64 (a5:Int)):=kK.out.ent.cell? 3;have hM:=fun ok=>cO w0 _ sb B a6' d6 ok a5 (a5:Int) rfl kK.out.drew.sc
            clear A11 S11 hN6 IQ V9 c1 f1 k3
            go_wp2_with fail
            refine aU 11 (by kernel_rfl) (by kernel_rfl) ?_;simp only[List.take_succ_cons,List.take_zero,List.drop_succ_cons,List.drop_zero]
            repeat still_step
            refine wpStill_nil ?_
            go_wp2_with fail
            refine(hM _).mono ?_;rintro e w13 ⟨rfl,A13,S13⟩;have HF:Hid (dB w0 w w13 sb B a6 b6 [] [.pointer (some ⟨w.heap.size,0,none⟩),.int .i64 (n5:Int),.int .i64 (iq og),.int .i64 (mJ:Int)] [.string t2,.string ⟨#[]⟩,.slice none 0 0,.slice none 0 0,.slice none 0 0,.bool false]):=by
             obtain⟨rfl,rfl,rfl,rfl⟩:=HEQ.out;exact kK.out.drew.call (A13.iJ (by first|rfl|(rw[Bool.eq_iff_iff];simp<;>omega))) S13
            clear A13 S13 hM kK g2 g3 f2 k4
            go_wp2_with fail
            go_meet
            case rel=>exact HF
         case rest=>
          as_aux_lemma=>
           have Wh:Hid (dB w0 w wc sb B a6 b6 [] [.pointer (some ⟨w.heap.size,0,none⟩),.int .i64 (n5:Int),.int .i64 (iq og),.int .i64 (mJ:Int)] [.string t2,.string ⟨#[]⟩,.slice none 0 0,.slice none 0 0,.slice none 0 0,.bool false]):=hcut;clear hcut IL;obtain⟨n7,a7,d7,hX7⟩:∃n a d,bF B 2 a6 b6=(n,a,d):=⟨_,_,_,rfl⟩
           have hN7:=eG w0 wc sb B 2 a6 b6 n7 a7 d7 2 rfl (by omega) hl Wh.out.sc hX7;have hb7:n7<65536:=by have:=nC B 2 a6 b6 (by omega);rw[hX7]at this;exact this
           have HX7:Hid (bF B 2 a6 b6=(n7,a7,d7)):=hX7;have c1:wc.cell? ⟨sb,1,none⟩=some (.int .i64 a6):=Wh.out.sc.cell.cell? 1;clear hX7
           go_wp2_with fail
           refine hN7.mono ?_;rintro e w15 ⟨rfl,A15,S15⟩;have qx:Hid (dB w0 w w15 sb B a7 d7 [] [.pointer (some ⟨w.heap.size,0,none⟩),.int .i64 (n5:Int),.int .i64 (iq og),.int .i64 (mJ:Int)] [.string t2,.string ⟨#[]⟩,.slice none 0 0,.slice none 0 0,.slice none 0 0,.bool false]):=Wh.out.call A15 S15;clear hN7 A15 S15 Wh c1
           go_upto_region 23 with fail
           go_cut [] (fun wd=>Hid (dB w0 w wd sb B a7 (aX d7 (decide (1<=n7/\n7<=n5/\(0<n4\/n7=n5))) a6) [] [.pointer (some ⟨w.heap.size,0,none⟩),.int .i64 (n5:Int),.int .i64 (iq og),.int .i64 (mJ:Int)] [.string t2,.string ⟨#[]⟩,.slice none 0 0,.slice none 0 0,.slice none 0 0,.bool false]))
           case first=>
            as_aux_lemma=>
             have e1:w15.cell? ⟨w.heap.size+1,1,none⟩=some (.int .i64 (n5:Int)):=qx.out.ent.cell? 1;have hM:=fun ok=>cO w0 w15 sb B a7 d7 ok a6 (a6:Int) rfl qx.out.sc
             rcases Nat.eq_zero_or_pos n7 with rfl|g1
             ·go_wp2_with fail
              all_goals
               refine(hM _).mono ?_;rintro e w16 ⟨rfl,A16,S16⟩;have HF:Hid (dB w0 w w16 sb B a7 (aX d7 (decide (1<=0/\0<=n5/\(0<n4\/0=n5))) a6) [] [.pointer (some ⟨w.heap.size,0,none⟩),.int .i64 (n5:Int),.int .i64 (iq og),.int .i64 (mJ:Int)] [.string t2,.string ⟨#[]⟩,.slice none 0 0,.slice none 0 0,.slice none 0 0,.bool false]):=qx.out.call (A16.iJ (by first|rfl|(rw[Bool.eq_iff_iff];simp<;>omega))) S16;clear A16 S16 hM qx
               go_wp2_with fail
               go_meet
               case rel=>exact HF
             ·have g1':(1:Int)<=(n7:Int):=by omega
              rcases Nat.lt_or_ge n5 n7 with g2|g2
              ·have g2':(n5:Int)<(n7:Int):=by omega
               go_wp2_with fail
               all_goals
                refine(hM _).mono ?_;rintro e w16 ⟨rfl,A16,S16⟩;have HF:Hid (dB w0 w w16 sb B a7 (aX d7 (decide (1<=n7/\n7<=n5/\(0<n4\/n7=n5))) a6) [] [.pointer (some ⟨w.heap.size,0,none⟩),.int .i64 (n5:Int),.int .i64 (iq og),.int .i64 (mJ:Int)] [.string t2,.string ⟨#[]⟩,.slice none 0 0,.slice none 0 0,.slice none 0 0,.bool false]):=qx.out.call (A16.iJ (by first|rfl|(rw[Bool.eq_iff_iff];simp<;>omega))) S16;clear A16 S16 hM qx
                go_wp2_with fail
                go_meet
                case rel=>exact HF
              ·have g2':(n7:Int)<=(n5:Int):=by omega
               rcases Nat.eq_zero_or_pos n4 with rfl|g3
               ·go_wp2_with fail
                all_goals
                 refine(hM _).mono ?_;rintro e w16 ⟨rfl,A16,S16⟩;have HF:Hid (dB w0 w w16 sb B a7 (aX d7 (decide (1<=n7/\n7<=n5/\(0<0\/n7=n5))) a6) [] [.pointer (some ⟨w.heap.size,0,none⟩),.int .i64 (n5:Int),.int .i64 (iq og),.int .i64 (mJ:Int)] [.string t2,.string ⟨#[]⟩,.slice none 0 0,.slice none 0 0,.slice none 0 0,.bool false]):=qx.out.call (A16.iJ (by first|rfl|(rw[Bool.eq_iff_iff];simp<;>omega))) S16;clear A16 S16 hM qx
                 go_wp2_with fail
                 go_meet
                 case rel=>exact HF
               ·have g3':(0:Int)<(n4:Int):=by omega
                go_wp2_with fail
                all_goals
                 refine(hM _).mono ?_;rintro e w16 ⟨rfl,A16,S16⟩;have HF:Hid (dB w0 w w16 sb B a7 (aX d7 (decide (1<=n7/\n7<=n5/\(0<n4\/n7=n5))) a6) [] [.pointer (some ⟨w.heap.size,0,none⟩),.int .i64 (n5:Int),.int .i64 (iq og),.int .i64 (mJ:Int)] [.string t2,.string ⟨#[]⟩,.slice none 0 0,.slice none 0 0,.slice none 0 0,.bool false]):=qx.out.call (A16.iJ (by first|rfl|(rw[Bool.eq_iff_iff];simp<;>omega))) S16;clear A16 S16 hM qx
                 go_wp2_with fail
                 go_meet
                 case rel=>exact HF
           case rest=>
            as_aux_lemma=>
             obtain⟨b7,X8⟩:∃b,aX d7 (decide (1<=n7/\n7<=n5/\(0<n4\/n7=n5))) a6=b:=⟨_,rfl⟩
             have HB7:Hid (aX d7 (decide (1<=n7/\n7<=n5/\(0<n4\/n7=n5))) a6=b7):=X8;rw[X8]at hcut;have HR0:Hid (yN B bound n4 n5 n7 L t2 og mJ a7 b7=pK B ahead bound count L a0 b0):=by
              show _=_;unfold yN pK mW mV;simp only[HX1.out,HB1.out,HX2.out,HB2.out,HB3.out,HX4.out,HB4.out,HX5.out,HB5.out,HX6.out,HX7.out,HB7.out]
             clear qx X8;refine ‹∀(a:Act)(w:World),Code.wp prog _ _ a w->_› _ _ ?_;exact NT _ _ _ _ _ _ _ _ _ _ _ _ _ _ _ _ _ _ _ _ _ _ _ _ _ _ _ _ _ _ _ _ _ _ _ _ _ _ _ _ _ _ _ _ _ _ _ _ _ _ _ _ _ _ _ _ _ _ _ _ _ _ _ _ _ _ _ _ _ _ _ _ _ _ _ _ _ _ _ _ _ _ _ _ _ _ _ _ _ _ _ _ _ _ _ _ _ _ _ _ _ _ _ _ _ _ _ _ _ _ _ _ _ _ _ _ _ _ _ _ _ _ _ _ _ _ _ _ _ _ _ _ _ _ _ _ _ _ _ _ _ _ _ _ _ _ _ _ _ _ _ _ _ _ _ _ _ _ _ _ _ _ _ _ _ _ _ _ _ _ _ _ _ _ _ _ _ _ _ _ _ _ _ _ _ _ _ _ _ _ _ _ _ _ _ _ _ _ _ _ _ _ _ _ _ _ _ _ _ _ _ _ _ _ _ _ _ _ _ _ _ _ _ _ _ _ _ _ _ _ w0 w wc sb base B aa m ac bound count L lv t2 _ n4 n5 n7 a6 a7 b7 og mJ hl HO.out hb hsb hn hbd hb7 _ HR0 hcut
end
end Go.Proofs.YtpddgdjocffgdaaGreat
