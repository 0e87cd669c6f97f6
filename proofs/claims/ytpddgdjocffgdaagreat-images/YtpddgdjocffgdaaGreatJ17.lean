/- The reference's image, by a contract. -/
import Derived.Test.YtpddgdjocffgdaaGreatJ16
import Derived.Laws.Concat
import Derived.Deep.CutBlock
import Derived.Deep.DeepCutAuto
import Derived.Deep.RegionHeld3
namespace Go.Proofs.YtpddgdjocffgdaaGreat
set_option linter.unusedVariables false
set_option linter.unusedSimpArgs false
set_option linter.unusedSectionVars false
set_option maxHeartbeats 16000000
set_option maxRecDepth 100000
section
open Go.RowKit Go.Sort
variable [DecidableEq Blk] [Inhabited Blk] [Inhabited Vol] [Inhabited RVol]
theorem hidR{p:Prop}(h:p):Hid p:=h
structure RImg(r:RSt):Prop where
 name:∀v∈r.vols,v.name.size<=10
 bl:∀v∈r.vols,∀x∈v.blocks,x < 200
 ke:∀v∈r.vols,∀x∈v.kept,x < 200
 idx:∀v∈r.vols,v.of_≠⟨#[]⟩->∃i,i < r.vols.length/\(r.vols[i]!).name=v.of_/\(∀j,j < i->(r.vols[j]!).name≠v.of_)/\posOf (r.vols.map (·.name)) v.of_=i
 hd:∀v∈r.vols,(v.of_=⟨#[]⟩->v.blocks.length<=v.data.length)/\(v.of_≠⟨#[]⟩->∀x∈v.kept,x < v.data.length)
def rpreB(r:RSt)(j:Nat):List UInt8:=markB++two r.n++[UInt8.ofNat r.vols.length]++(r.vols.take j).flatMap (rentB r)
theorem rpreB_succ(r:RSt)(j:Nat)(hj:j < r.vols.length):rpreB r (j+1)=rpreB r j++rentB r (r.vols[j]!):=by
 unfold rpreB;rw[List.take_succ_eq_append_getElem hj,List.flatMap_append,getElem!_pos r.vols j hj];simp
theorem text_app(a b:ByteArray):(a++b).data.toList=a.data.toList++b.data.toList:=by
 rw[ByteArray.data_append,Array.toList_append]
theorem add_text(a b:ByteArray)(h:a.size+b.size<=9223372036854775807):∃m,(∀(P:Program) (W:World),Sem.run P (Op.stringOp .add a b) W=.ok (.string m) W)/\m.data.toList=a.data.toList++b.data.toList/\m.size=a.size+b.size:=
 ⟨a++b,fun P W=>run_string_add_sum W a b h,text_app a b,ByteArray.size_append⟩
theorem text_size(t:ByteArray):t.size=t.data.toList.length:=by rw[Array.length_toList];rfl
theorem rpreB_le(r:RSt):∀j,j<=r.vols.length->(rpreB r j).length<=(rbodyB r).length:=by
 intro j hj;have h1:∀d j,j+d<=r.vols.length->(rpreB r j).length<=(rpreB r (j+d)).length:=by
  intro d
  induction d with
  | zero=>intro j _;exact Nat.le_refl _
  | succ d ih=>
   intro j hj;have:=ih j (by omega);have e:=rpreB_succ r (j+d) (by omega);rw[show j+(d+1)=j+d+1 by omega,e,List.length_append];omega
 have h2:=h1 (r.vols.length - j) j (by omega);rw[show j+(r.vols.length - j)=r.vols.length by omega] at h2;have h3:rbodyB r=rpreB r r.vols.length++(List.range r.n).flatMap fun k=>(r.blk k).data.toList:=by
  unfold rbodyB rpreB;rw[List.take_length]
 rw[h3,List.length_append];omega
theorem rbody_pre(r:RSt):rpreB r r.vols.length++(List.range r.n).flatMap (fun k=>(r.blk k).data.toList)=rbodyB r:=by
 unfold rbodyB rpreB;rw[List.take_length]
theorem rblk_le(r:RSt)(m:Nat)(hm:m<=r.n):(rpreB r r.vols.length++(List.range m).flatMap fun k=>(r.blk k).data.toList).length<=(rbodyB r).length:=by
 have h1:∀d,((List.range m).flatMap fun k=>(r.blk k).data.toList).length<=((List.range (m+d)).flatMap fun k=>(r.blk k).data.toList).length:=by
  intro d
  induction d with
  | zero=>exact Nat.le_refl _
  | succ d ih=>
   rw[<-Nat.add_assoc,List.range_succ,List.flatMap_append,List.length_append];omega
 have h2:=h1 (r.n - m);rw[show m+(r.n - m)=r.n by omega] at h2;rw[<-rbody_pre r,List.length_append,List.length_append];omega
theorem two_text(n:Nat):(⟨(two n).toArray⟩:ByteArray).data.toList=two n/\(⟨(two n).toArray⟩:ByteArray).size=2:=⟨rfl,rfl⟩
theorem one_text(n:Nat):(⟨#[UInt8.ofNat n]⟩:ByteArray).data.toList=[UInt8.ofNat n]/\(⟨#[UInt8.ofNat n]⟩:ByteArray).size=1:=⟨rfl,rfl⟩
theorem refImage_calls(r:RSt)(w:World)(h:RefAt w r)(hI:RImg r)(hlen:(rbodyB r).length<=140737488355328) :
 Calls Tryz.prog 35 #[.pointer (some ⟨r.rb,0,none⟩)] w fun e w'=>e=.returned (.string ⟨(rbodyB r++two (sumB (rbodyB r))).toArray⟩)/\Same [] w w':=by
 obtain⟨cap,hp,h1,h2⟩:=h.pool;have hfew:=h.few;have hnn:=h.n;have HK:Hid (∀W,Same [] w W->W.cell? ⟨r.rb,0,none⟩=some (.int .i64 (r.n:Int))/\W.cell? ⟨r.rb,1,none⟩=some (.slice (r.lg.map fun b=>⟨b,0,none⟩) r.vols.length cap)):=fun W hW=>⟨(hW.at hp (by simp)).cell? 0,(hW.at hp (by simp)).cell? 1⟩
 have HR:Hid (∀W,Same [] w W->RefAt W r):=fun W hW=>h.same0 hW
 have HI:Hid (RImg r):=hI;have HL:Hid (∀j,j<=r.vols.length->(rpreB r j).length<=140737488355328):=fun j hj=>Nat.le_trans (rpreB_le r j hj) hlen
 have HLB:Hid (∀m,m<=r.n->(rpreB r r.vols.length++(List.range m).flatMap fun k=>(r.blk k).data.toList).length<=140737488355328):=fun m hm=>Nat.le_trans (rblk_le r m hm) hlen
 have HLE:Hid ((rbodyB r).length<=140737488355328):=hlen;have hK0:=HK.out w (Same.refl _ _);have hTn:=fun W=>refTwo_calls W r.n (by omega)
 have hOl:=fun W=>refOne_calls W r.vols.length (by omega)
 obtain⟨tn1,tn2⟩:=two_text r.n;obtain⟨on1,on2⟩:=one_text r.vols.length;generalize (⟨(two r.n).toArray⟩:ByteArray)=tn at *;generalize (⟨#[UInt8.ofNat r.vols.length]⟩:ByteArray)=on at *;obtain⟨m1,a1,b1,c1⟩:=add_text ⟨#[83,84,82,49]⟩ tn (by rw[tn2];decide);have c1:m1.size=6:=by rw[c1,tn2];rfl
 obtain⟨m2,a2,b2,c2⟩:=add_text m1 on (by omega);have HM2:Hid (m2.data.toList=rpreB r 0/\m2.size<=140737488355328):=⟨by rw[b2,b1,tn1,on1];simp[rpreB,markB],by omega⟩
 clear h hp hI tn1 tn2 on1 on2 b1 c1 b2 c2 hlen
 go_enter Tryz.func35,Tryz.ntmps35
 go_wp2_with fail
 go_region_held3 (fun w'=>w'.cell? ⟨r.rb,0,none⟩=some (.int .i64 (r.n:Int))/\w'.cell? ⟨r.rb,1,none⟩=some (.slice (r.lg.map fun b=>⟨b,0,none⟩) r.vols.length cap)) (first|assumption|exact hK0|exact hK2|exact hK1) (first|(go_at_call 71;refine (hTn _).mono ?_;rintro e w1 ⟨rfl,S1⟩;dsimp only;have hK1:=HK.out w1 (((Same.refl [] w).drew).step S1 (by simp)))|(go_at_call 72;refine (hOl _).mono ?_;rintro e w2 ⟨rfl,S2⟩;dsimp only;have hK2:=HK.out w2 ((((Same.refl [] w).drew).step S1 (by simp)).step S2 (by simp))))
 have HS2:Hid (Same [] w w2):=(((Same.refl [] w).drew).step S1 (by simp)).step S2 (by simp);clear S1 S2 hTn hOl hK0 hK1 hK2 a1 a2
 go_upto_block 0 with fail
 go_cut [3,4,5,6,7] (fun sv _ _ _ _ wd=>∃t,.string t=sv/\Hid (t.data.toList=rpreB r r.vols.length/\t.size<=140737488355328/\Same [] w wd))
 case first=>
  go_wp2_with fail
  go_loopw [3,4,5,6,7] (fun sv i _ _ _ wr=>∃(j:Nat) (t:ByteArray),.string t=sv/\i=.int .i64 j/\j<=r.vols.length/\Hid (t.data.toList=rpreB r j/\t.size<=140737488355328/\Same [] w wr)) (fun _ i _ _ _ _=>r.vols.length - (intOf i).toNat)
  case atStart=>exact⟨0,m2,rfl,rfl,Nat.zero_le _,HM2.out.1,HM2.out.2,HS2.out⟩
  case round=>
   obtain⟨j,t,rfl,rfl,hj,HJ⟩:=hrel;obtain⟨k0,k1⟩:=HK.out wr HJ.out.2.2;by_cases hjl:j < r.vols.length
   ·have l1:(j:Int) < (r.vols.length:Int):=by omega
    obtain⟨b,hb,e1,hm⟩:=(HR.out w (Same.refl _ _)).cell j hjl;obtain⟨dc,bc,kc,hv,hdt,hbl,hk1,hk2⟩:=((HR.out w (Same.refl _ _)).vols _ hm).ex;have hds:=((HR.out w (Same.refl _ _)).vols _ hm).data;have hbs:=((HR.out w (Same.refl _ _)).vols _ hm).blocks;have hks:=((HR.out w (Same.refl _ _)).vols _ hm).kept;obtain⟨cs,hcs,_,_⟩:=(HR.out w (Same.refl _ _)).arr b hb;have HV:Hid (∀W,Same [] w W->W.cell? ⟨b,j,none⟩=some (.pointer (some ⟨(r.vols[j]!).vb,0,none⟩))/\W.cell? ⟨(r.vols[j]!).vb,0,none⟩=some (.string (r.vols[j]!).name)/\W.cell? ⟨(r.vols[j]!).vb,1,none⟩=some (.string (r.vols[j]!).of_)/\W.cell? ⟨(r.vols[j]!).vb,2,none⟩=some (.slice (some ⟨(r.vols[j]!).dg,0,none⟩) (r.vols[j]!).data.length dc)/\W.cell? ⟨(r.vols[j]!).vb,3,none⟩=some (.slice (some ⟨(r.vols[j]!).bg,0,none⟩) (r.vols[j]!).blocks.length bc)/\W.cell? ⟨(r.vols[j]!).vb,4,none⟩=some (.slice ((r.vols[j]!).kg.map fun g=>⟨g,0,none⟩) (r.vols[j]!).kept.length kc)/\W.cell? ⟨(r.vols[j]!).vb,5,none⟩=some (.bool (r.vols[j]!).lost)):=fun W hW=>by
     have hv':=hW.at hv (by simp);exact⟨by rw[(hW.at hcs (by simp)).cell?,<-hcs.cell?];exact e1,hv'.cell? 0,hv'.cell? 1,hv'.cell? 2,hv'.cell? 3,hv'.cell? 4,hv'.cell? 5⟩
    have HBC:Hid (∀W,Same [] w W->∀i,i < (r.vols[j]!).blocks.length->W.cell? ⟨(r.vols[j]!).bg,i,none⟩=some (.int .i64 ((r.vols[j]!).blocks[i]!:Nat))/\(r.vols[j]!).blocks[i]! < 65536):=fun W hW i hi=>⟨(hbl.same hW (by simp)).cell i hi,by have:=HI.out.bl _ hm _ (by rw[getElem!_pos _ i hi];exact List.getElem_mem hi:(r.vols[j]!).blocks[i]!∈(r.vols[j]!).blocks);omega⟩
    have HKC:Hid (∀W,Same [] w W->∀i,i < (r.vols[j]!).kept.length->(∃g,(r.vols[j]!).kg=some g/\W.cell? ⟨g,i,none⟩=some (.int .i64 ((r.vols[j]!).kept[i]!:Nat)))/\(r.vols[j]!).kept[i]! < 65536):=fun W hW i hi=>by
     refine⟨?_,by have:=HI.out.ke _ hm _ (by rw[getElem!_pos _ i hi];exact List.getElem_mem hi:(r.vols[j]!).kept[i]!∈(r.vols[j]!).kept);omega⟩;cases hg:(r.vols[j]!).kg with
     | none=>have:=(hk1 hg).1;rw[this] at hi;simp at hi
     | some g=>exact⟨g,rfl,((hk2 g hg).same hW (by simp)).cell i hi⟩
    have hnz:=HI.out.name _ hm;have HIX:Hid ((r.vols[j]!).of_≠⟨#[]⟩->∃i,i < r.vols.length/\(∀W,Same [] w W->Calls Tryz.prog 73 #[.pointer (some ⟨r.rb,0,none⟩),.string (r.vols[j]!).of_] W fun e w'=>e=.returned (.int .i64 (i:Int))/\w'=W)/\posOf (r.vols.map (·.name)) (r.vols[j]!).of_=i):=fun hne=>by
     obtain⟨i,i1,i2,i3,i4⟩:=HI.out.idx _ hm hne;exact⟨i,i1,fun W hW=>refIndex_calls r _ W (HR.out W hW) i i1 i2 i3,i4⟩
    have HEN:Hid (rpreB r (j+1)=rpreB r j++([UInt8.ofNat (r.vols[j]!).name.size]++(r.vols[j]!).name.data.toList++[UInt8.ofNat (r.vols[j]!).kindR]++two (r.vols[j]!).data.length++(if (r.vols[j]!).of_=⟨#[]⟩ then nums (r.vols[j]!).blocks else [UInt8.ofNat (posOf (r.vols.map (·.name)) (r.vols[j]!).of_)]++nums (r.vols[j]!).blocks++nums (r.vols[j]!).kept))):=rpreB_succ r j hjl;have HLJ:Hid ((rpreB r (j+1)).length<=140737488355328):=HL.out (j+1) (by omega);have hb':(r.lg.map fun b=>(⟨b,0,none⟩:Addr))=some ⟨b,0,none⟩:=by rw[hb];rfl
    rw[hb'] at k1;clear hv hdt hbl hk1 hk2 hcs e1 hm hb' hb;generalize posOf (r.vols.map (·.name)) (r.vols[j]!).of_=px at *;generalize r.vols[j]! = v at *;obtain⟨XE,hXE⟩:∃X,X=rpreB r (j+1):=⟨_,rfl⟩
    have HXE:Hid (XE=rpreB r (j+1)):=hXE;rw[<-hXE] at HEN HLJ;clear hXE;generalize rpreB r j=X0 at *;obtain⟨v0,v1,v2,v3,v4,v5,v6⟩:=HV.out wr HJ.out.2.2;have HS:Hid (Same [] w wr):=HJ.out.2.2;have HT:Hid (t.data.toList=X0/\t.size<=140737488355328):=⟨HJ.out.1,HJ.out.2.1⟩
    have hO1:=fun W=>refOne_calls W v.name.size (by omega)
    obtain⟨u1,u2⟩:=one_text v.name.size;generalize (⟨#[UInt8.ofNat v.name.size]⟩:ByteArray)=ou at *;have htz:=HT.out.2;obtain⟨m3,a3,b3,c3⟩:=add_text t ou (by omega);obtain⟨m4,a4,b4,c4⟩:=add_text m3 v.name (by omega);have HM4:Hid (m4.data.toList=X0++([UInt8.ofNat v.name.size]++v.name.data.toList)/\m4.size<=140737488355339):=⟨by rw[b4,b3,u1,HT.out.1,List.append_assoc],by omega⟩
    clear HJ b3 b4 c3 c4 u1 u2 htz HT
    go_upto_region 6 with fail
    go_cut [3] (fun sv wd=>∃t,.string t=sv/\Hid (t.data.toList=X0++([UInt8.ofNat v.name.size]++v.name.data.toList)/\t.size<=140737488355339/\Same [] w wd))
    case first=>
     as_aux_lemma=>
      go_region_held3 (fun w'=>w'.cell? ⟨v.vb,0,none⟩=some (.string v.name)) (first|assumption|exact v1|exact c1) ((go_at_call 72;refine (hO1 _).mono ?_;rintro e w3 ⟨rfl,S3⟩;dsimp only;have c1:=(HV.out w3 ((HS.out.drew).step S3 (by simp))).2.1))
      have HF:Hid (m4.data.toList=X0++([UInt8.ofNat v.name.size]++v.name.data.toList)/\m4.size<=140737488355339/\Same [] w w3):=⟨HM4.out.1,HM4.out.2,(HS.out.drew).step S3 (by simp)⟩
      clear S3 hO1
      go_wp2_with fail
      go_meet
      case rel=>exact⟨m4,rfl,HF⟩
    case rest=>
     as_aux_lemma=>
      obtain⟨t1,rfl,HT1⟩:=hcut;clear HM4 a3 a4 hO1 v0 v1 v2 v3 v4 v5 v6 k0 k1 HS;obtain⟨v0,v1,v2,v3,v4,v5,v6⟩:=HV.out _ HT1.out.2.2;have hO0:=fun W=>refOne_calls W 0 (by omega)
      have hO1:=fun W=>refOne_calls W 1 (by omega)
      have hO2:=fun W=>refOne_calls W 2 (by omega)
      have ht1z:=HT1.out.2.1;obtain⟨p0,q0⟩:=one_text 0;obtain⟨p1,q1⟩:=one_text 1;obtain⟨p2,q2⟩:=one_text 2;generalize (⟨#[UInt8.ofNat 0]⟩:ByteArray)=z0 at *;generalize (⟨#[UInt8.ofNat 1]⟩:ByteArray)=z1 at *;generalize (⟨#[UInt8.ofNat 2]⟩:ByteArray)=z2 at *;obtain⟨n0,d0,e0,f0⟩:=add_text t1 z0 (by omega);obtain⟨n1,d1,e1,f1⟩:=add_text t1 z1 (by omega);obtain⟨n2,d2,e2,f2⟩:=add_text t1 z2 (by omega);obtain⟨X1,hX1⟩:∃X,X=X0++([UInt8.ofNat v.name.size]++v.name.data.toList):=⟨_,rfl⟩
      have HX1:Hid (X1=X0++([UInt8.ofNat v.name.size]++v.name.data.toList)):=hX1;rw[<-hX1] at HT1;have HN:Hid (∀wd,Same [] w wd->(v.of_=⟨#[]⟩->n0.data.toList=X1++[UInt8.ofNat v.kindR]/\n0.size<=140737488355340/\Same [] w wd)/\(v.of_≠⟨#[]⟩->v.lost=true->n2.data.toList=X1++[UInt8.ofNat v.kindR]/\n2.size<=140737488355340/\Same [] w wd)/\(v.of_≠⟨#[]⟩->v.lost=false->n1.data.toList=X1++[UInt8.ofNat v.kindR]/\n1.size<=140737488355340/\Same [] w wd)):=fun wd hw=>by
       refine⟨fun ho=>⟨?_,by omega,hw⟩,fun ho hl=>⟨?_,by omega,hw⟩,fun ho hl=>⟨?_,by omega,hw⟩⟩
       ·rw[e0,p0,HT1.out.1];unfold RVol.kindR;rw[if_pos ho]
       ·rw[e2,p2,HT1.out.1];unfold RVol.kindR;rw[if_neg ho,hl];rfl
       ·rw[e1,p1,HT1.out.1];unfold RVol.kindR;rw[if_neg ho,hl];rfl
      have HS:Hid (Same [] w wc):=HT1.out.2.2;clear hX1 HT1 e0 e1 e2 f0 f1 f2 p0 p1 p2 q0 q1 q2 ht1z
      go_upto_block 2 with fail
      go_cut [3] (fun sv wd=>∃t,.string t=sv/\Hid (t.data.toList=X1++[UInt8.ofNat v.kindR]/\t.size<=140737488355340/\Same [] w wd))
      case first=>
       as_aux_lemma=>
        by_cases ho:v.of_=⟨#[]⟩
        ·rw[ho] at v2
         go_wp2_with fail
         refine (hO0 _).mono ?_;rintro e w4 ⟨rfl,S4⟩;have HF:=hidR ((HN.out w4 (HS.out.step S4 (by simp))).1 ho);clear S4 hO0 hO1 hO2 HN ho;dsimp only
         go_wp2_with fail
         go_meet
         case rel=>exact⟨n0,rfl,HF⟩
        ·have hofb:v.of_.toList.isEmpty=false:=by
          have:v.of_.toList≠[]:=fun e=>ho (by
           rw[ByteArray.toList_eq] at e;apply ByteArray.ext;exact Array.toList_eq_nil_iff.1 e)
          cases hq:v.of_.toList with
          | nil=>exact absurd hq this
          | cons a r=>rfl
         cases hlo:v.lost with
         | true=>
          rw[hlo] at v6;have HF2:=hidR (fun w4 (S4:Same [] wc w4)=>(HN.out w4 (HS.out.step S4 (by simp))).2.1 ho hlo);clear HN ho hlo
          go_wp2_with fail
          refine (hO2 _).mono ?_;rintro e w4 ⟨rfl,S4⟩;have HF:=hidR (HF2.out w4 S4);clear S4 hO0 hO1 hO2 HF2;dsimp only
          go_wp2_with fail
          go_meet
          case rel=>exact⟨n2,rfl,HF⟩
         | false=>
          rw[hlo] at v6;have HF2:=hidR (fun w4 (S4:Same [] wc w4)=>(HN.out w4 (HS.out.step S4 (by simp))).2.2 ho hlo);clear HN ho hlo
          go_wp2_with fail
          refine (hO1 _).mono ?_;rintro e w4 ⟨rfl,S4⟩;have HF:=hidR (HF2.out w4 S4);clear S4 hO0 hO1 hO2 HF2;dsimp only
          go_wp2_with fail
          go_meet
          case rel=>exact⟨n1,rfl,HF⟩
      case rest=>
       as_aux_lemma=>
        obtain⟨t2,rfl,HT2⟩:=hcut;clear d0 d1 d2 hO0 hO1 hO2 v0 v1 v2 v3 v4 v5 v6 HS HN;obtain⟨v0,v1,v2,v3,v4,v5,v6⟩:=HV.out _ HT2.out.2.2;have hTd:=fun W=>refTwo_calls W v.data.length (by omega)
        obtain⟨p0,q0⟩:=two_text v.data.length;generalize (⟨(two v.data.length).toArray⟩:ByteArray)=z0 at *;have ht2z:=HT2.out.2.1;obtain⟨n0,d0,e0,f0⟩:=add_text t2 z0 (by omega);have HN:Hid (n0.data.toList=X1++[UInt8.ofNat v.kindR]++two v.data.length/\n0.size<=140737488355342):=⟨by rw[e0,p0,HT2.out.1],by omega⟩
        have HS:Hid (Same [] w wc):=HT2.out.2.2;clear HT2 e0 f0 p0 q0 ht2z
        go_upto_region 12 with fail
        go_cut [3] (fun sv wd=>∃t,.string t=sv/\Hid (t.data.toList=X1++[UInt8.ofNat v.kindR]++two v.data.length/\t.size<=140737488355342/\Same [] w wd))
        case first=>
         as_aux_lemma=>
          go_wp2_with fail
          refine (hTd _).mono ?_;rintro e w4 ⟨rfl,S4⟩;have HF:Hid (n0.data.toList=X1++[UInt8.ofNat v.kindR]++two v.data.length/\n0.size<=140737488355342/\Same [] w w4):=⟨HN.out.1,HN.out.2,HS.out.step S4 (by simp)⟩
          clear S4 hTd HN;dsimp only
          go_wp2_with fail
          go_meet
          case rel=>exact⟨n0,rfl,HF⟩
        case rest=>
         as_aux_lemma=>
          obtain⟨t3,rfl,HT3⟩:=hcut;clear d0 hTd v0 v1 v2 v3 v4 v5 v6 HS HN;obtain⟨v0,v1,v2,v3,v4,v5,v6⟩:=HV.out _ HT3.out.2.2;obtain⟨X3,hX3⟩:∃X,X=X1++[UInt8.ofNat v.kindR]++two v.data.length:=⟨_,rfl⟩
          have HX3:Hid (X3=X1++[UInt8.ofNat v.kindR]++two v.data.length):=hX3;rw[<-hX3] at HT3;clear hX3;obtain⟨bo,hbo⟩:∃bo,v.of_.toList.isEmpty=bo:=⟨_,rfl⟩
          have HBO:Hid (bo=true↔v.of_=⟨#[]⟩):=by
           show _↔_;rw[<-hbo,List.isEmpty_iff,ByteArray.toList_eq];exact⟨fun e=>ByteArray.ext (Array.toList_eq_nil_iff.1 e),fun e=>by rw[e]⟩
          go_upto_if 83 with fail
          go_cut [3] (fun sv wd=>∃t,.string t=sv/\Hid (t.data.toList=X3++(if v.of_=⟨#[]⟩ then [] else [UInt8.ofNat px])/\t.size<=140737488355343/\Same [] w wd))
          case first=>
           as_aux_lemma=>
            cases bo with
            | true=>
             have ho:v.of_=⟨#[]⟩:=HBO.out.1 rfl;have HF:Hid (t3.data.toList=X3++(if v.of_=⟨#[]⟩ then [] else [UInt8.ofNat px])/\t3.size<=140737488355343/\Same [] w wc):=⟨by rw[HT3.out.1,if_pos ho,List.append_nil],by have:=HT3.out.2.1;omega,HT3.out.2.2⟩
             clear HT3 ho
             go_wp2_with fail
             go_meet
             case rel=>exact⟨t3,rfl,HF⟩
            | false=>
             have ho:v.of_≠⟨#[]⟩:=fun e=>by have:=HBO.out.2 e;cases this
             obtain⟨ix,ix1,hIx,hpx⟩:=HIX.out ho;have hI1:=hIx wc HT3.out.2.2;have hOi:=fun W=>refOne_calls W ix (by omega)
             obtain⟨p0,q0⟩:=one_text ix;generalize (⟨#[UInt8.ofNat ix]⟩:ByteArray)=z0 at *;have ht3z:=HT3.out.2.1;obtain⟨n0,d0,e0,f0⟩:=add_text t3 z0 (by omega);have HN:Hid (n0.data.toList=X3++(if v.of_=⟨#[]⟩ then [] else [UInt8.ofNat px])/\n0.size<=140737488355343):=⟨by rw[e0,p0,HT3.out.1,if_neg ho,hpx],by omega⟩
             have HS:Hid (Same [] w wc):=HT3.out.2.2;clear HT3 e0 f0 p0 q0 ht3z ho hIx hpx
             go_wp2_with fail
             refine hI1.mono ?_;rintro e w4 ⟨rfl,hw4⟩;obtain rfl:=hw4.symm;dsimp only
             go_wp2_with fail
             refine (hOi _).mono ?_;rintro e w5 ⟨rfl,S5⟩;have HF:Hid (n0.data.toList=X3++(if v.of_=⟨#[]⟩ then [] else [UInt8.ofNat px])/\n0.size<=140737488355343/\Same [] w w5):=⟨HN.out.1,HN.out.2,HS.out.step S5 (by simp)⟩
             clear S5 hOi hI1 HN;dsimp only
             go_wp2_with fail
             go_meet
             case rel=>exact⟨n0,rfl,HF⟩
          case rest=>
           as_aux_lemma=>
            obtain⟨t4,rfl,HT4⟩:=hcut;clear HT3 v0 v1 v2 v3 v4 v5 v6;obtain⟨v0,v1,v2,v3,v4,v5,v6⟩:=HV.out _ HT4.out.2.2;obtain⟨X4,hX4⟩:∃X,X=X3++(if v.of_=⟨#[]⟩ then [] else [UInt8.ofNat px]):=⟨_,rfl⟩
            have HX4:Hid (X4=X3++(if v.of_=⟨#[]⟩ then [] else [UInt8.ofNat px])):=hX4;rw[<-hX4] at HT4;clear hX4;have hTd:=fun W=>refTwo_calls W v.blocks.length (by omega)
            obtain⟨p0,q0⟩:=two_text v.blocks.length;generalize (⟨(two v.blocks.length).toArray⟩:ByteArray)=z0 at *;have ht4z:=HT4.out.2.1;obtain⟨n0,d0,e0,f0⟩:=add_text t4 z0 (by omega);have HN:Hid (n0.data.toList=X4++two v.blocks.length/\n0.size<=140737488355345):=⟨by rw[e0,p0,HT4.out.1],by omega⟩
            have HS:Hid (Same [] w wc):=HT4.out.2.2;clear HT4 e0 f0 p0 q0 ht4z
            go_upto_region 15 with fail
            go_cut [3] (fun sv wd=>∃t,.string t=sv/\Hid (t.data.toList=X4++two v.blocks.length/\t.size<=140737488355345/\Same [] w wd))
            case first=>
             as_aux_lemma=>
              go_wp2_with fail
              refine (hTd _).mono ?_;rintro e w4 ⟨rfl,S4⟩;have HF:Hid (n0.data.toList=X4++two v.blocks.length/\n0.size<=140737488355345/\Same [] w w4):=⟨HN.out.1,HN.out.2,HS.out.step S4 (by simp)⟩
              clear S4 hTd HN;dsimp only
              go_wp2_with fail
              go_meet
              case rel=>exact⟨n0,rfl,HF⟩
            case rest=>
             as_aux_lemma=>
              obtain⟨t5,rfl,HT5⟩:=hcut;clear d0 hTd v0 v1 v2 v3 v4 v5 v6 HS HN
              go_upto_block 3 with fail
              go_cut [3,6] (fun sv _ wd=>∃t,.string t=sv/\Hid (t.data.toList=X4++nums v.blocks/\t.size<=140737488355745/\Same [] w wd))
              case first=>
               as_aux_lemma=>
                go_wp2_with fail
                go_loopw [3,6] (fun sv k wr=>∃(m:Nat) (t:ByteArray),.string t=sv/\k=.int .i64 m/\m<=v.blocks.length/\Hid (t.data.toList=X4++two v.blocks.length++(v.blocks.take m).flatMap two/\t.size<=140737488355345+2 * m/\Same [] w wr)) (fun _ k _=>v.blocks.length - (intOf k).toNat)
                case atStart=>exact⟨0,t5,rfl,rfl,Nat.zero_le _,by rw[HT5.out.1];simp,HT5.out.2.1,HT5.out.2.2⟩
                case round=>
                 obtain⟨m,t6,rfl,rfl,hmm,HM⟩:=hrel;obtain⟨v0,v1,v2,v3,v4,v5,v6⟩:=HV.out _ HM.out.2.2;by_cases hml:m < v.blocks.length
                 ·have lm:(m:Int) < (v.blocks.length:Int):=by omega
                  obtain⟨c1,c2⟩:=HBC.out _ HM.out.2.2 m hml;have HTK:Hid ((v.blocks.take (m+1)).flatMap two=(v.blocks.take m).flatMap two++two (v.blocks[m]!)):=by
                   show _=_;rw[List.take_succ_eq_append_getElem hml,List.flatMap_append,getElem!_pos v.blocks m hml];simp
                  generalize v.blocks[m]! = bm at *;have hTd:=fun W=>refTwo_calls W bm c2
                  obtain⟨p0,q0⟩:=two_text bm;have htz:=HM.out.2.1;obtain⟨n0,d0,e0,f0⟩:=add_text t6 ⟨(two bm).toArray⟩ (by omega);have HN:Hid (n0.data.toList=X4++two v.blocks.length++(v.blocks.take (m+1)).flatMap two/\n0.size<=140737488355345+2 * (m+1)):=⟨by rw[e0,HM.out.1,HTK.out,List.append_assoc],by omega⟩
                  have HS:Hid (Same [] w wr):=HM.out.2.2;generalize (⟨(two bm).toArray⟩:ByteArray)=z0 at *;clear HM e0 f0 p0 q0 htz HTK
                  go_wp2_with fail
                  refine (hTd _).mono ?_;rintro e w4 ⟨rfl,S4⟩;have HF:Hid (n0.data.toList=X4++two v.blocks.length++(v.blocks.take (m+1)).flatMap two/\n0.size<=140737488355345+2 * (m+1)/\Same [] w w4):=⟨HN.out.1,HN.out.2,HS.out.step S4 (by simp)⟩
                  clear S4 hTd HN;dsimp only
                  go_wp2
                  go_roundw
                  case rel=>exact⟨m+1,n0,rfl,by go_num,by omega,HF.out⟩
                  case measure=>simp[intOf];omega
                 ·have lm:(v.blocks.length:Int)<=(m:Int):=by omega
                  have em:m=v.blocks.length:=by omega
                  have HF:Hid (t6.data.toList=X4++nums v.blocks/\t6.size<=140737488355745/\Same [] w wr):=⟨by rw[HM.out.1,em,List.take_length,nums,List.append_assoc],by have:=HM.out.2.1;omega,HM.out.2.2⟩
                  clear HM em
                  go_wp2_with fail
                  go_meet
                  case rel=>exact⟨t6,rfl,HF⟩
              case rest=>
               as_aux_lemma=>
                obtain⟨t6,rfl,HT6⟩:=hcut;clear HT5;obtain⟨v0,v1,v2,v3,v4,v5,v6⟩:=HV.out _ HT6.out.2.2;have HX0:Hid (X4++nums v.blocks++(if v.of_=⟨#[]⟩ then [] else nums v.kept)=XE):=by
                 show _=_;rw[HEN.out,HX4.out,HX3.out,HX1.out];by_cases ho:v.of_=⟨#[]⟩
                 ·simp only[if_pos ho];simp
                 ·simp only[if_neg ho];simp
                cases bo with
                | true=>
                 have ho:v.of_=⟨#[]⟩:=HBO.out.1 rfl;have HE:Hid (t6.data.toList=rpreB r (j+1)/\t6.size<=140737488355328/\Same [] w wc):=by
                  have e:t6.data.toList=XE:=by rw[HT6.out.1,<-HX0.out,if_pos ho,List.append_nil]
                  refine⟨by rw[e,HXE.out],?_,HT6.out.2.2⟩;rw[text_size,e];exact HLJ.out
                 clear HT6 ho HX0 HEN HX1 HX3 HX4 HIX HBC HKC
                 go_wp2_with fail
                 go_roundw
                 case rel=>exact⟨j+1,t6,rfl,by go_num,by omega,HE.out⟩
                 case measure=>simp[intOf];omega
                | false=>
                 have ho:v.of_≠⟨#[]⟩:=fun e=>by have:=HBO.out.2 e;cases this
                 have HX0':Hid (X4++nums v.blocks++nums v.kept=XE):=by have:=HX0.out;rw[if_neg ho] at this;exact this
                 clear ho HX0 HEN HX1 HX3 HX4 HIX HBC;generalize X4++nums v.blocks=X6 at *;have hTd:=fun W=>refTwo_calls W v.kept.length (by omega)
                 obtain⟨p0,q0⟩:=two_text v.kept.length;generalize (⟨(two v.kept.length).toArray⟩:ByteArray)=z0 at *;have htz:=HT6.out.2.1;obtain⟨n0,d0,e0,f0⟩:=add_text t6 z0 (by omega);have HN:Hid (n0.data.toList=X6++two v.kept.length/\n0.size<=140737488355747):=⟨by rw[e0,p0,HT6.out.1],by omega⟩
                 have HS:Hid (Same [] w wc):=HT6.out.2.2;clear HT6 e0 f0 p0 q0 htz
                 go_upto_region 21 with fail
                 go_cut [3] (fun sv wd=>∃t,.string t=sv/\Hid (t.data.toList=X6++two v.kept.length/\t.size<=140737488355747/\Same [] w wd))
                 case first=>
                  as_aux_lemma=>
                   go_wp2_with fail
                   refine (hTd _).mono ?_;rintro e w4 ⟨rfl,S4⟩;have HF:Hid (n0.data.toList=X6++two v.kept.length/\n0.size<=140737488355747/\Same [] w w4):=⟨HN.out.1,HN.out.2,HS.out.step S4 (by simp)⟩
                   clear S4 hTd HN;dsimp only
                   go_wp2_with fail
                   go_meet
                   case rel=>exact⟨n0,rfl,HF⟩
                 case rest=>
                  as_aux_lemma=>
                   obtain⟨t7,rfl,HT7⟩:=hcut;clear d0 hTd v0 v1 v2 v3 v4 v5 v6 HS HN
                   go_wp2_with fail
                   go_loopw [3,7] (fun sv k wr=>∃(m:Nat) (t:ByteArray),.string t=sv/\k=.int .i64 m/\m<=v.kept.length/\Hid (t.data.toList=X6++two v.kept.length++(v.kept.take m).flatMap two/\t.size<=140737488355747+2 * m/\Same [] w wr)) (fun _ k _=>v.kept.length - (intOf k).toNat)
                   case atStart=>exact⟨0,t7,rfl,rfl,Nat.zero_le _,by rw[HT7.out.1];simp,HT7.out.2.1,HT7.out.2.2⟩
                   case round=>
                    obtain⟨m,t8,rfl,rfl,hmm,HM⟩:=hrel;obtain⟨v0,v1,v2,v3,v4,v5,v6⟩:=HV.out _ HM.out.2.2;by_cases hml:m < v.kept.length
                    ·have lm:(m:Int) < (v.kept.length:Int):=by omega
                     obtain⟨⟨g,hg,c1⟩,c2⟩:=HKC.out _ HM.out.2.2 m hml;have hg':(v.kg.map fun g=>(⟨g,0,none⟩:Addr))=some ⟨g,0,none⟩:=by rw[hg];rfl
                     rw[hg'] at v5;have HTK:Hid ((v.kept.take (m+1)).flatMap two=(v.kept.take m).flatMap two++two (v.kept[m]!)):=by
                      show _=_;rw[List.take_succ_eq_append_getElem hml,List.flatMap_append,getElem!_pos v.kept m hml];simp
                     generalize v.kept[m]! = bm at *;have hTd:=fun W=>refTwo_calls W bm c2
                     obtain⟨p0,q0⟩:=two_text bm;have htz:=HM.out.2.1;obtain⟨n0,d0,e0,f0⟩:=add_text t8 ⟨(two bm).toArray⟩ (by omega);have HN:Hid (n0.data.toList=X6++two v.kept.length++(v.kept.take (m+1)).flatMap two/\n0.size<=140737488355747+2 * (m+1)):=⟨by rw[e0,HM.out.1,HTK.out,List.append_assoc],by omega⟩
                     have HS:Hid (Same [] w wr):=HM.out.2.2;generalize (⟨(two bm).toArray⟩:ByteArray)=z0 at *;clear HM e0 f0 p0 q0 htz HTK hg hg'
                     go_wp2_with fail
                     refine (hTd _).mono ?_;rintro e w4 ⟨rfl,S4⟩;have HF:Hid (n0.data.toList=X6++two v.kept.length++(v.kept.take (m+1)).flatMap two/\n0.size<=140737488355747+2 * (m+1)/\Same [] w w4):=⟨HN.out.1,HN.out.2,HS.out.step S4 (by simp)⟩
                     clear S4 hTd HN;dsimp only
                     go_wp2
                     go_roundw
                     case rel=>exact⟨m+1,n0,rfl,by go_num,by omega,HF.out⟩
                     case measure=>simp[intOf];omega
                    ·have lm:(v.kept.length:Int)<=(m:Int):=by omega
                     have em:m=v.kept.length:=by omega
                     have HE:Hid (t8.data.toList=rpreB r (j+1)/\t8.size<=140737488355328/\Same [] w wr):=by
                      have e:t8.data.toList=XE:=by rw[HM.out.1,em,List.take_length,<-HX0'.out,nums,List.append_assoc]
                      refine⟨by rw[e,HXE.out],?_,HM.out.2.2⟩;rw[text_size,e];exact HLJ.out
                     clear HM em
                     go_wp2_with fail
                     go_roundw
                     case rel=>exact⟨j+1,t8,rfl,by go_num,by omega,HE.out⟩
                     case measure=>simp[intOf];omega
   ·have l1:(r.vols.length:Int)<=(j:Int):=by omega
    have ej:j=r.vols.length:=by omega
    rw[ej] at HJ;clear ej
    go_wp2_with fail
    go_meet
    case rel=>exact⟨t,rfl,HJ⟩
 case rest=>
  as_aux_lemma=>
   obtain⟨t1,rfl,HT1⟩:=hcut;clear HM2 HS2
   go_upto_block 7 with fail
   go_cut [3,8] (fun sv _ wd=>∃t,.string t=sv/\Hid (t.data.toList=rbodyB r/\Same [] w wd))
   case first=>
    as_aux_lemma=>
     go_wp2_with fail
     go_loopw [3,8] (fun sv k wr=>∃(m:Nat) (t:ByteArray),.string t=sv/\k=.int .i64 m/\m<=r.n/\Hid (t.data.toList=rpreB r r.vols.length++(List.range m).flatMap (fun k=>(r.blk k).data.toList)/\Same [] w wr)) (fun _ k _=>r.n - (intOf k).toNat)
     case atStart=>exact⟨0,t1,rfl,rfl,Nat.zero_le _,by rw[HT1.out.1];simp,HT1.out.2.2⟩
     case round=>
      obtain⟨m,t2,rfl,rfl,hmm,HM⟩:=hrel;obtain⟨k0,k1⟩:=HK.out wr HM.out.2;by_cases hml:m < r.n
      ·have lm:(m:Int) < (r.n:Int):=by omega
       have hB:=refBlock_calls r m wr (HR.out wr HM.out.2) HI.out.hd;have hle:=HLB.out (m+1) (by omega);rw[List.range_succ,List.flatMap_append,<-List.append_assoc,<-HM.out.1] at hle;simp only[List.flatMap_cons,List.flatMap_nil,List.append_nil,List.length_append] at hle;rw[<-text_size,<-text_size] at hle;obtain⟨n0,d0,e0,f0⟩:=add_text t2 (r.blk m) (by omega);have HN:Hid (n0.data.toList=rpreB r r.vols.length++(List.range (m+1)).flatMap (fun k=>(r.blk k).data.toList)):=by
        show _=_;rw[e0,HM.out.1,List.range_succ,List.flatMap_append,List.append_assoc];simp
       have HS:Hid (Same [] w wr):=HM.out.2;generalize r.blk m=bk at *;clear HM e0 f0 hle
       go_wp2_with fail
       refine hB.mono ?_;rintro e w4 ⟨rfl,S4⟩;have HF:Hid (n0.data.toList=rpreB r r.vols.length++(List.range (m+1)).flatMap (fun k=>(r.blk k).data.toList)/\Same [] w w4):=⟨HN.out,HS.out.step S4 (by simp)⟩
       clear S4 hB HN;dsimp only
       go_wp2
       go_roundw
       case rel=>exact⟨m+1,n0,rfl,by go_num,by omega,HF.out⟩
       case measure=>simp[intOf];omega
      ·have lm:(r.n:Int)<=(m:Int):=by omega
       have em:m=r.n:=by omega
       have HF:Hid (t2.data.toList=rbodyB r/\Same [] w wr):=⟨by rw[HM.out.1,em,rbody_pre],HM.out.2⟩
       clear HM em
       go_wp2_with fail
       go_meet
       case rel=>exact⟨t2,rfl,HF⟩
   case rest=>
    as_aux_lemma=>
     obtain⟨t2,rfl,HT2⟩:=hcut;have hz:t2.size<=140737488355328:=by rw[text_size,HT2.out.1];exact HLE.out
     have hSu:=fun W=>refSum_calls W t2 hz
     have hlt:sumB t2.data.toList < 65536:=by have:=sumB_lt t2.data.toList;omega
     have hTw:=fun W=>refTwo_calls W (sumB t2.data.toList) hlt
     obtain⟨p0,q0⟩:=two_text (sumB t2.data.toList);obtain⟨n0,d0,e0,f0⟩:=add_text t2 ⟨(two (sumB t2.data.toList)).toArray⟩ (by omega);have HN:Hid (n0=⟨(rbodyB r++two (sumB (rbodyB r))).toArray⟩):=by
      show _=_;apply ByteArray.ext;apply Array.toList_inj.1;rw[e0,p0,HT2.out.1]
     generalize (⟨(two (sumB t2.data.toList)).toArray⟩:ByteArray)=z0 at *;generalize sumB t2.data.toList=sm at *;have HS:Hid (Same [] w wc):=HT2.out.2;clear HT2 e0 f0 p0 q0 HT1
     go_wp2_with fail
     refine (hSu _).mono ?_;rintro e w4 ⟨rfl,hw4⟩;obtain rfl:=hw4.symm;dsimp only
     go_wp2_with fail
     refine (hTw _).mono ?_;rintro e w5 ⟨rfl,S5⟩;dsimp only
     go_wp2
     go_ret
     exact⟨by rw[HN.out];rfl,HS.out.step S5 (by simp)⟩
end
end Go.Proofs.YtpddgdjocffgdaaGreat
