/- Packed: see the last text. -/
import Derived.Test.YtpddgdjocffgdaaGreatA12
import Derived.Laws.Concat
import Derived.Deep.CutBlock
import Derived.Deep.DeepCutAuto
import Derived.Deep.RegionHeld3
namespace Go.Proofs.YtpddgdjocffgdaaGreat
open Go.Proofs.Tryz
set_option linter.unusedVariables false
set_option linter.unusedSimpArgs false
set_option linter.unusedSectionVars false
set_option maxHeartbeats 16000000
set_option maxRecDepth 100000
section
open Go.RowKit Go.Sort
variable [DecidableEq aN] [Inhabited aN] [Inhabited aF] [Inhabited ay]
theorem hidR{p:Prop}(h:p):Hid p:=h
structure YI(r:aQ):Prop where
 name:∀v∈r.af,v.name.size<=10
 bl:∀v∈r.af,∀x∈v.blocks,x<200
 ke:∀v∈r.af,∀x∈v.kept,x<200
 idx:∀v∈r.af,v.bC≠⟨#[]⟩->∃i,i<r.af.length/\(r.af[i]!).name=v.bC/\(∀j,j<i->(r.af[j]!).name≠v.bC)/\posOf (r.af.map (·.name)) v.bC=i
 hd:∀v∈r.af,(v.bC=⟨#[]⟩->v.blocks.length<=v.data.length)/\(v.bC≠⟨#[]⟩->∀x∈v.kept,x<v.data.length)
def gZ(r:aQ)(j:Nat):List UInt8:=gq++two r.n++[UInt8.ofNat r.af.length]++(r.af.take j).flatMap (EI r)
theorem Ak(r:aQ)(j:Nat)(hj:j<r.af.length):gZ r (j+1)=gZ r j++EI r (r.af[j]!):=by
 unfold gZ;rw[List.take_succ_eq_append_getElem hj,List.flatMap_append,getElem!_pos r.af j hj];simp
theorem TT(a b:ByteArray):(a++b).data.toList=a.data.toList++b.data.toList:=by
 rw[ByteArray.data_append,Array.toList_append]
theorem fM(a b:ByteArray)(h:a.size+b.size<=9223372036854775807):∃m,(∀(P:Program)(W:World),Sem.run P (Op.stringOp .add a b) W=.ok (.string m) W)/\m.data.toList=a.data.toList++b.data.toList/\m.size=a.size+b.size:=
 ⟨a++b,fun P W=>run_string_add_sum W a b h,TT a b,ByteArray.size_append⟩
theorem text_size(t:ByteArray):t.size=t.data.toList.length:=by rw[Array.length_toList];rfl
theorem TP(r:aQ):∀j,j<=r.af.length->(gZ r j).length<=(jC r).length:=by
 intro j hj;have h1:∀d j,j+d<=r.af.length->(gZ r j).length<=(gZ r (j+d)).length:=by
  intro d
  induction d with
  | zero=>intro j _;exact Nat.le_refl _
  | succ d ih=>
   intro j hj;have:=ih j (by omega);have e:=Ak r (j+d) (by omega);rw[show j+(d+1)=j+d+1 by omega,e,List.length_append];omega
 have h2:=h1 (r.af.length-j) j (by omega);rw[show j+(r.af.length-j)=r.af.length by omega]at h2;have h3:jC r=gZ r r.af.length++(List.range r.n).flatMap fun k=>(r.blk k).data.toList:=by
  unfold jC gZ;rw[List.take_length]
 rw[h3,List.length_append];omega
theorem Em(r:aQ):gZ r r.af.length++(List.range r.n).flatMap (fun k=>(r.blk k).data.toList)=jC r:=by
 unfold jC gZ;rw[List.take_length]
theorem WA(r:aQ)(m:Nat)(hm:m<=r.n):(gZ r r.af.length++(List.range m).flatMap fun k=>(r.blk k).data.toList).length<=(jC r).length:=by
 have h1:∀d,((List.range m).flatMap fun k=>(r.blk k).data.toList).length<=((List.range (m+d)).flatMap fun k=>(r.blk k).data.toList).length:=by
  intro d
  induction d with
  | zero=>exact Nat.le_refl _
  | succ d ih=>
   rw[<-Nat.add_assoc,List.range_succ,List.flatMap_append,List.length_append];omega
 have h2:=h1 (r.n-m);rw[show m+(r.n-m)=r.n by omega]at h2;rw[<-Em r,List.length_append,List.length_append];omega
theorem oh(n:Nat):(⟨(two n).toArray⟩:ByteArray).data.toList=two n/\(⟨(two n).toArray⟩:ByteArray).size=2:=⟨rfl,rfl⟩
theorem qo(n:Nat):(⟨#[UInt8.ofNat n]⟩:ByteArray).data.toList=[UInt8.ofNat n]/\(⟨#[UInt8.ofNat n]⟩:ByteArray).size=1:=⟨rfl,rfl⟩
theorem BX(r:aQ)(w:World)(h:aO w r)(hI:YI r)(hlen:(jC r).length<=140737488355328) :
 Calls prog 35 #[.pointer (some ⟨r.rb,0,none⟩)] w fun e w'=>e=.returned (.string ⟨(jC r++two (dF (jC r))).toArray⟩)/\Same [] w w':=by
 obtain⟨cap,hp,h1,h2⟩:=h.pool;have hfew:=h.few;have hnn:=h.n;have HK:Hid (∀W,Same [] w W->W.cell? ⟨r.rb,0,none⟩=some (.int .i64 (r.n:Int))/\W.cell? ⟨r.rb,1,none⟩=some (.slice (r.lg.map fun b=>⟨b,0,none⟩) r.af.length cap)):=fun W hW=>⟨(hW.at hp (by simp)).cell? 0,(hW.at hp (by simp)).cell? 1⟩
 have HR:Hid (∀W,Same [] w W->aO W r):=fun W hW=>h.iW hW
 have HI:Hid (YI r):=hI;have HL:Hid (∀j,j<=r.af.length->(gZ r j).length<=140737488355328):=fun j hj=>Nat.le_trans (TP r j hj) hlen
 have HLB:Hid (∀m,m<=r.n->(gZ r r.af.length++(List.range m).flatMap fun k=>(r.blk k).data.toList).length<=140737488355328):=fun m hm=>Nat.le_trans (WA r m hm) hlen
 have HLE:Hid ((jC r).length<=140737488355328):=hlen;have hK0:=HK.out w (Same.refl _ _);have hTn:=fun W=>fH W r.n (by omega)
 have hOl:=fun W=>jD W r.af.length (by omega)
 obtain⟨tn1,tn2⟩:=oh r.n;obtain⟨on1,on2⟩:=qo r.af.length;generalize (⟨(two r.n).toArray⟩:ByteArray)=tn at *;generalize (⟨#[UInt8.ofNat r.af.length]⟩:ByteArray)=on at *;obtain⟨m1,a1,b1,c1⟩:=fM ⟨#[83,84,82,49]⟩ tn (by rw[tn2];decide);have c1:m1.size=6:=by rw[c1,tn2];rfl
 obtain⟨m2,a2,b2,c2⟩:=fM m1 on (by omega);have HM2:Hid (m2.data.toList=gZ r 0/\m2.size<=140737488355328):=⟨by rw[b2,b1,tn1,on1];simp[gZ,gq],by omega⟩
 clear h hp hI tn1 tn2 on1 on2 b1 c1 b2 c2 hlen
 go_enter func35,ntmps35
 go_wp2_with fail
 go_region_held3 (fun w'=>w'.cell? ⟨r.rb,0,none⟩=some (.int .i64 (r.n:Int))/\w'.cell? ⟨r.rb,1,none⟩=some (.slice (r.lg.map fun b=>⟨b,0,none⟩) r.af.length cap)) (first|assumption|exact hK0|exact hK2|exact hK1) (first|(go_at_call 71;refine(hTn _).mono ?_;rintro e w1 ⟨rfl,S1⟩;dsimp only;have hK1:=HK.out w1 (((Same.refl [] w).drew).step S1 (by simp)))|(go_at_call 72;refine(hOl _).mono ?_;rintro e w2 ⟨rfl,S2⟩;dsimp only;have hK2:=HK.out w2 ((((Same.refl [] w).drew).step S1 (by simp)).step S2 (by simp))))
 have HS2:Hid (Same [] w w2):=(((Same.refl [] w).drew).step S1 (by simp)).step S2 (by simp);clear S1 S2 hTn hOl hK0 hK1 hK2 a1 a2
 go_upto_block 0 with fail
 go_cut [3,4,5,6,7] (fun sv _ _ _ _ wd=>∃t,.string t=sv/\Hid (t.data.toList=gZ r r.af.length/\t.size<=140737488355328/\Same [] w wd))
 case first=>
  go_wp2_with fail
  go_loopw [3,4,5,6,7] (fun sv i _ _ _ wr=>∃(j:Nat)(t:ByteArray),.string t=sv/\i=.int .i64 j/\j<=r.af.length/\Hid (t.data.toList=gZ r j/\t.size<=140737488355328/\Same [] w wr)) (fun _ i _ _ _ _=>r.af.length-(intOf i).toNat)
  case atStart=>exact⟨0,m2,rfl,rfl,Nat.zero_le _,HM2.out.1,HM2.out.2,HS2.out⟩
  case round=>
   obtain⟨j,t,rfl,rfl,hj,HJ⟩:=hrel;obtain⟨k0,k1⟩:=HK.out wr HJ.out.2.2;by_cases hjl:j<r.af.length
   ·have l1:(j:Int)<(r.af.length:Int):=by omega
    obtain⟨b,hb,e1,hm⟩:=(HR.out w (Same.refl _ _)).cell j hjl;obtain⟨dc,bc,kc,hv,hdt,hbl,hk1,hk2⟩:=((HR.out w (Same.refl _ _)).af _ hm).ex;have hds:=((HR.out w (Same.refl _ _)).af _ hm).data;have hbs:=((HR.out w (Same.refl _ _)).af _ hm).blocks;have hks:=((HR.out w (Same.refl _ _)).af _ hm).kept;obtain⟨cs,hcs,_,_⟩:=(HR.out w (Same.refl _ _)).arr b hb;have HV:Hid (∀W,Same [] w W->W.cell? ⟨b,j,none⟩=some (.pointer (some ⟨(r.af[j]!).vb,0,none⟩))/\W.cell? ⟨(r.af[j]!).vb,0,none⟩=some (.string (r.af[j]!).name)/\W.cell? ⟨(r.af[j]!).vb,1,none⟩=some (.string (r.af[j]!).bC)/\W.cell? ⟨(r.af[j]!).vb,2,none⟩=some (.slice (some ⟨(r.af[j]!).dg,0,none⟩) (r.af[j]!).data.length dc)/\W.cell? ⟨(r.af[j]!).vb,3,none⟩=some (.slice (some ⟨(r.af[j]!).bg,0,none⟩) (r.af[j]!).blocks.length bc)/\W.cell? ⟨(r.af[j]!).vb,4,none⟩=some (.slice ((r.af[j]!).kg.map fun g=>⟨g,0,none⟩) (r.af[j]!).kept.length kc)/\W.cell? ⟨(r.af[j]!).vb,5,none⟩=some (.bool (r.af[j]!).lost)):=fun W hW=>by
     have hv':=hW.at hv (by simp);exact⟨by rw[(hW.at hcs (by simp)).cell?,<-hcs.cell?];exact e1,hv'.cell? 0,hv'.cell? 1,hv'.cell? 2,hv'.cell? 3,hv'.cell? 4,hv'.cell? 5⟩
    have HBC:Hid (∀W,Same [] w W->∀i,i<(r.af[j]!).blocks.length->W.cell? ⟨(r.af[j]!).bg,i,none⟩=some (.int .i64 ((r.af[j]!).blocks[i]!:Nat))/\(r.af[j]!).blocks[i]!<65536):=fun W hW i hi=>⟨(hbl.same hW (by simp)).cell i hi,by have:=HI.out.bl _ hm _ (by rw[getElem!_pos _ i hi];exact List.getElem_mem hi:(r.af[j]!).blocks[i]!∈(r.af[j]!).blocks);omega⟩
    have HKC:Hid (∀W,Same [] w W->∀i,i<(r.af[j]!).kept.length->(∃g,(r.af[j]!).kg=some g/\W.cell? ⟨g,i,none⟩=some (.int .i64 ((r.af[j]!).kept[i]!:Nat)))/\(r.af[j]!).kept[i]!<65536):=fun W hW i hi=>by
     refine⟨?_,by have:=HI.out.ke _ hm _ (by rw[getElem!_pos _ i hi];exact List.getElem_mem hi:(r.af[j]!).kept[i]!∈(r.af[j]!).kept);omega⟩;cases hg:(r.af[j]!).kg with
     | none=>have:=(hk1 hg).1;rw[this]at hi;simp at hi
     | some g=>exact⟨g,rfl,((hk2 g hg).same hW (by simp)).cell i hi⟩
    have hnz:=HI.out.name _ hm;have HIX:Hid ((r.af[j]!).bC≠⟨#[]⟩->∃i,i<r.af.length/\(∀W,Same [] w W->Calls prog 73 #[.pointer (some ⟨r.rb,0,none⟩),.string (r.af[j]!).bC] W fun e w'=>e=.returned (.int .i64 (i:Int))/\w'=W)/\posOf (r.af.map (·.name)) (r.af[j]!).bC=i):=fun hne=>by
     obtain⟨i,i1,i2,i3,i4⟩:=HI.out.idx _ hm hne;exact⟨i,i1,fun W hW=>CY r _ W (HR.out W hW) i i1 i2 i3,i4⟩
    have HEN:Hid (gZ r (j+1)=gZ r j++([UInt8.ofNat (r.af[j]!).name.size]++(r.af[j]!).name.data.toList++[UInt8.ofNat (r.af[j]!).kY]++two (r.af[j]!).data.length++(if (r.af[j]!).bC=⟨#[]⟩ then nums (r.af[j]!).blocks else [UInt8.ofNat (posOf (r.af.map (·.name)) (r.af[j]!).bC)]++nums (r.af[j]!).blocks++nums (r.af[j]!).kept))):=Ak r j hjl;have HLJ:Hid ((gZ r (j+1)).length<=140737488355328):=HL.out (j+1) (by omega);have hb':(r.lg.map fun b=>(⟨b,0,none⟩:Addr))=some ⟨b,0,none⟩:=by rw[hb];rfl
    rw[hb']at k1;clear hv hdt hbl hk1 hk2 hcs e1 hm hb' hb;generalize posOf (r.af.map (·.name)) (r.af[j]!).bC=px at *;generalize r.af[j]! = v at *;obtain⟨XE,hXE⟩:∃X,X=gZ r (j+1):=⟨_,rfl⟩
    have HXE:Hid (XE=gZ r (j+1)):=hXE;rw[<-hXE]at HEN HLJ;clear hXE;generalize gZ r j=X0 at *;obtain⟨v0,v1,v2,v3,v4,v5,v6⟩:=HV.out wr HJ.out.2.2;have HS:Hid (Same [] w wr):=HJ.out.2.2;have HT:Hid (t.data.toList=X0/\t.size<=140737488355328):=⟨HJ.out.1,HJ.out.2.1⟩
    have hO1:=fun W=>jD W v.name.size (by omega)
    obtain⟨u1,u2⟩:=qo v.name.size;generalize (⟨#[UInt8.ofNat v.name.size]⟩:ByteArray)=ou at *;have htz:=HT.out.2;obtain⟨m3,a3,b3,c3⟩:=fM t ou (by omega);obtain⟨m4,a4,b4,c4⟩:=fM m3 v.name (by omega);have HM4:Hid (m4.data.toList=X0++([UInt8.ofNat v.name.size]++v.name.data.toList)/\m4.size<=140737488355339):=⟨by rw[b4,b3,u1,HT.out.1,List.append_assoc],by omega⟩
    clear HJ b3 b4 c3 c4 u1 u2 htz HT
    go_upto_region 6 with fail
    go_cut [3] (fun sv wd=>∃t,.string t=sv/\Hid (t.data.toList=X0++([UInt8.ofNat v.name.size]++v.name.data.toList)/\t.size<=140737488355339/\Same [] w wd))
    case first=>
     as_aux_lemma=>
      go_region_held3 (fun w'=>w'.cell? ⟨v.vb,0,none⟩=some (.string v.name)) (first|assumption|exact v1|exact c1) ((go_at_call 72;refine(hO1 _).mono ?_;rintro e w3 ⟨rfl,S3⟩;dsimp only;have c1:=(HV.out w3 ((HS.out.drew).step S3 (by simp))).2.1))
      have HF:Hid (m4.data.toList=X0++([UInt8.ofNat v.name.size]++v.name.data.toList)/\m4.size<=140737488355339/\Same [] w w3):=⟨HM4.out.1,HM4.out.2,(HS.out.drew).step S3 (by simp)⟩
      clear S3 hO1
      go_wp2_with fail
      go_meet
      case rel=>exact⟨m4,rfl,HF⟩
    case rest=>
     as_aux_lemma=>
      obtain⟨t1,rfl,HT1⟩:=hcut;clear HM4 a3 a4 hO1 v0 v1 v2 v3 v4 v5 v6 k0 k1 HS;obtain⟨v0,v1,v2,v3,v4,v5,v6⟩:=HV.out _ HT1.out.2.2;have hO0:=fun W=>jD W 0 (by omega)
      have hO1:=fun W=>jD W 1 (by omega)
      have hO2:=fun W=>jD W 2 (by omega)
      have aaL:=HT1.out.2.1;obtain⟨p0,q0⟩:=qo 0;obtain⟨p1,q1⟩:=qo 1;obtain⟨p2,q2⟩:=qo 2;generalize (⟨#[UInt8.ofNat 0]⟩:ByteArray)=z0 at *;generalize (⟨#[UInt8.ofNat 1]⟩:ByteArray)=z1 at *;generalize (⟨#[UInt8.ofNat 2]⟩:ByteArray)=z2 at *;obtain⟨n0,d0,e0,f0⟩:=fM t1 z0 (by omega);obtain⟨n1,d1,e1,f1⟩:=fM t1 z1 (by omega);obtain⟨n2,d2,e2,f2⟩:=fM t1 z2 (by omega);obtain⟨X1,hX1⟩:∃X,X=X0++([UInt8.ofNat v.name.size]++v.name.data.toList):=⟨_,rfl⟩
      have HX1:Hid (X1=X0++([UInt8.ofNat v.name.size]++v.name.data.toList)):=hX1;rw[<-hX1]at HT1;have HN:Hid (∀wd,Same [] w wd->(v.bC=⟨#[]⟩->n0.data.toList=X1++[UInt8.ofNat v.kY]/\n0.size<=140737488355340/\Same [] w wd)/\(v.bC≠⟨#[]⟩->v.lost=true->n2.data.toList=X1++[UInt8.ofNat v.kY]/\n2.size<=140737488355340/\Same [] w wd)/\(v.bC≠⟨#[]⟩->v.lost=false->n1.data.toList=X1++[UInt8.ofNat v.kY]/\n1.size<=140737488355340/\Same [] w wd)):=fun wd hw=>by
       refine⟨fun ho=>⟨?_,by omega,hw⟩,fun ho hl=>⟨?_,by omega,hw⟩,fun ho hl=>⟨?_,by omega,hw⟩⟩
       ·rw[e0,p0,HT1.out.1];unfold ay.kY;rw[if_pos ho]
       ·rw[e2,p2,HT1.out.1];unfold ay.kY;rw[if_neg ho,hl];rfl
       ·rw[e1,p1,HT1.out.1];unfold ay.kY;rw[if_neg ho,hl];rfl
      have HS:Hid (Same [] w wc):=HT1.out.2.2;clear hX1 HT1 e0 e1 e2 f0 f1 f2 p0 p1 p2 q0 q1 q2 aaL
      go_upto_block 2 with fail
      go_cut [3] (fun sv wd=>∃t,.string t=sv/\Hid (t.data.toList=X1++[UInt8.ofNat v.kY]/\t.size<=140737488355340/\Same [] w wd))
      case first=>
       as_aux_lemma=>
        by_cases ho:v.bC=⟨#[]⟩
        ·rw[ho]at v2
         go_wp2_with fail
         refine(hO0 _).mono ?_;rintro e w4 ⟨rfl,S4⟩;have HF:=hidR ((HN.out w4 (HS.out.step S4 (by simp))).1 ho);clear S4 hO0 hO1 hO2 HN ho;dsimp only
         go_wp2_with fail
         go_meet
         case rel=>exact⟨n0,rfl,HF⟩
        ·have aaK:v.bC.toList.isEmpty=false:=by
          have:v.bC.toList≠[]:=fun e=>ho (by
           rw[ByteArray.toList_eq]at e;apply ByteArray.ext;exact Array.toList_eq_nil_iff.1 e)
          cases hq:v.bC.toList with
          | nil=>exact absurd hq this
          | cons a r=>rfl
         cases hlo:v.lost with
         | true=>
          rw[hlo]at v6;have HF2:=hidR (fun w4 (S4:Same [] wc w4)=>(HN.out w4 (HS.out.step S4 (by simp))).2.1 ho hlo);clear HN ho hlo
          go_wp2_with fail
          refine(hO2 _).mono ?_;rintro e w4 ⟨rfl,S4⟩;have HF:=hidR (HF2.out w4 S4);clear S4 hO0 hO1 hO2 HF2;dsimp only
          go_wp2_with fail
          go_meet
          case rel=>exact⟨n2,rfl,HF⟩
         | false=>
          rw[hlo]at v6;have HF2:=hidR (fun w4 (S4:Same [] wc w4)=>(HN.out w4 (HS.out.step S4 (by simp))).2.2 ho hlo);clear HN ho hlo
          go_wp2_with fail
          refine(hO1 _).mono ?_;rintro e w4 ⟨rfl,S4⟩;have HF:=hidR (HF2.out w4 S4);clear S4 hO0 hO1 hO2 HF2;dsimp only
          go_wp2_with fail
          go_meet
          case rel=>exact⟨n1,rfl,HF⟩
      case rest=>
       as_aux_lemma=>
        obtain⟨t2,rfl,HT2⟩:=hcut;clear d0 d1 d2 hO0 hO1 hO2 v0 v1 v2 v3 v4 v5 v6 HS HN;obtain⟨v0,v1,v2,v3,v4,v5,v6⟩:=HV.out _ HT2.out.2.2;have hTd:=fun W=>fH W v.data.length (by omega)
        obtain⟨p0,q0⟩:=oh v.data.length;generalize (⟨(two v.data.length).toArray⟩:ByteArray)=z0 at *;have aaM:=HT2.out.2.1;obtain⟨n0,d0,e0,f0⟩:=fM t2 z0 (by omega);have HN:Hid (n0.data.toList=X1++[UInt8.ofNat v.kY]++two v.data.length/\n0.size<=140737488355342):=⟨by rw[e0,p0,HT2.out.1],by omega⟩
        have HS:Hid (Same [] w wc):=HT2.out.2.2;clear HT2 e0 f0 p0 q0 aaM
        go_upto_region 12 with fail
        go_cut [3] (fun sv wd=>∃t,.string t=sv/\Hid (t.data.toList=X1++[UInt8.ofNat v.kY]++two v.data.length/\t.size<=140737488355342/\Same [] w wd))
        case first=>
         as_aux_lemma=>
          go_wp2_with fail
          refine(hTd _).mono ?_;rintro e w4 ⟨rfl,S4⟩;have HF:Hid (n0.data.toList=X1++[UInt8.ofNat v.kY]++two v.data.length/\n0.size<=140737488355342/\Same [] w w4):=⟨HN.out.1,HN.out.2,HS.out.step S4 (by simp)⟩
          clear S4 hTd HN;dsimp only
          go_wp2_with fail
          go_meet
          case rel=>exact⟨n0,rfl,HF⟩
        case rest=>
         as_aux_lemma=>
          obtain⟨t3,rfl,HT3⟩:=hcut;clear d0 hTd v0 v1 v2 v3 v4 v5 v6 HS HN;obtain⟨v0,v1,v2,v3,v4,v5,v6⟩:=HV.out _ HT3.out.2.2;obtain⟨X3,hX3⟩:∃X,X=X1++[UInt8.ofNat v.kY]++two v.data.length:=⟨_,rfl⟩
          have HX3:Hid (X3=X1++[UInt8.ofNat v.kY]++two v.data.length):=hX3;rw[<-hX3]at HT3;clear hX3;obtain⟨bo,hbo⟩:∃bo,v.bC.toList.isEmpty=bo:=⟨_,rfl⟩
          have HBO:Hid (bo=true↔v.bC=⟨#[]⟩):=by
           show _↔_;rw[<-hbo,List.isEmpty_iff,ByteArray.toList_eq];exact⟨fun e=>ByteArray.ext (Array.toList_eq_nil_iff.1 e),fun e=>by rw[e]⟩
          go_upto_if 83 with fail
          go_cut [3] (fun sv wd=>∃t,.string t=sv/\Hid (t.data.toList=X3++(if v.bC=⟨#[]⟩ then [] else [UInt8.ofNat px])/\t.size<=140737488355343/\Same [] w wd))
          case first=>
           as_aux_lemma=>
            cases bo with
            | true=>
             have ho:v.bC=⟨#[]⟩:=HBO.out.1 rfl;have HF:Hid (t3.data.toList=X3++(if v.bC=⟨#[]⟩ then [] else [UInt8.ofNat px])/\t3.size<=140737488355343/\Same [] w wc):=⟨by rw[HT3.out.1,if_pos ho,List.append_nil],by have:=HT3.out.2.1;omega,HT3.out.2.2⟩
             clear HT3 ho
             go_wp2_with fail
             go_meet
             case rel=>exact⟨t3,rfl,HF⟩
            | false=>
             have ho:v.bC≠⟨#[]⟩:=fun e=>by have:=HBO.out.2 e;cases this
             obtain⟨ix,ix1,hIx,hpx⟩:=HIX.out ho;have hI1:=hIx wc HT3.out.2.2;have hOi:=fun W=>jD W ix (by omega)
             obtain⟨p0,q0⟩:=qo ix;generalize (⟨#[UInt8.ofNat ix]⟩:ByteArray)=z0 at *;have aaN:=HT3.out.2.1;obtain⟨n0,d0,e0,f0⟩:=fM t3 z0 (by omega);have HN:Hid (n0.data.toList=X3++(if v.bC=⟨#[]⟩ then [] else [UInt8.ofNat px])/\n0.size<=140737488355343):=⟨by rw[e0,p0,HT3.out.1,if_neg ho,hpx],by omega⟩
             have HS:Hid (Same [] w wc):=HT3.out.2.2;clear HT3 e0 f0 p0 q0 aaN ho hIx hpx
             go_wp2_with fail
             refine hI1.mono ?_;rintro e w4 ⟨rfl,hw4⟩;obtain rfl:=hw4.symm;dsimp only
             go_wp2_with fail
             refine(hOi _).mono ?_;rintro e w5 ⟨rfl,S5⟩;have HF:Hid (n0.data.toList=X3++(if v.bC=⟨#[]⟩ then [] else [UInt8.ofNat px])/\n0.size<=140737488355343/\Same [] w w5):=⟨HN.out.1,HN.out.2,HS.out.step S5 (by simp)⟩
             clear S5 hOi hI1 HN;dsimp only
             go_wp2_with fail
             go_meet
             case rel=>exact⟨n0,rfl,HF⟩
          case rest=>
           as_aux_lemma=>
            obtain⟨t4,rfl,HT4⟩:=hcut;clear HT3 v0 v1 v2 v3 v4 v5 v6;obtain⟨v0,v1,v2,v3,v4,v5,v6⟩:=HV.out _ HT4.out.2.2;obtain⟨X4,hX4⟩:∃X,X=X3++(if v.bC=⟨#[]⟩ then [] else [UInt8.ofNat px]):=⟨_,rfl⟩
            have HX4:Hid (X4=X3++(if v.bC=⟨#[]⟩ then [] else [UInt8.ofNat px])):=hX4;rw[<-hX4]at HT4;clear hX4;have hTd:=fun W=>fH W v.blocks.length (by omega)
            obtain⟨p0,q0⟩:=oh v.blocks.length;generalize (⟨(two v.blocks.length).toArray⟩:ByteArray)=z0 at *;have aaO:=HT4.out.2.1;obtain⟨n0,d0,e0,f0⟩:=fM t4 z0 (by omega);have HN:Hid (n0.data.toList=X4++two v.blocks.length/\n0.size<=140737488355345):=⟨by rw[e0,p0,HT4.out.1],by omega⟩
            have HS:Hid (Same [] w wc):=HT4.out.2.2;clear HT4 e0 f0 p0 q0 aaO
            go_upto_region 15 with fail
            go_cut [3] (fun sv wd=>∃t,.string t=sv/\Hid (t.data.toList=X4++two v.blocks.length/\t.size<=140737488355345/\Same [] w wd))
            case first=>
             as_aux_lemma=>
              go_wp2_with fail
              refine(hTd _).mono ?_;rintro e w4 ⟨rfl,S4⟩;have HF:Hid (n0.data.toList=X4++two v.blocks.length/\n0.size<=140737488355345/\Same [] w w4):=⟨HN.out.1,HN.out.2,HS.out.step S4 (by simp)⟩
              clear S4 hTd HN;dsimp only
              go_wp2_with fail
              go_meet
              case rel=>exact⟨n0,rfl,HF⟩
            case rest=>
             as_aux_lemma=>
              obtain⟨t5,rfl,HT5⟩:=hcut;clear d0 hTd v0 v1 v2 v3 v4 v5 v6 HS HN
              go_upto_block 3 with fail
              go_cut [3,6] (fun sv _ wd=>∃t,.string t=sv/\Hid (t.data.toList=X4++nums v.blocks/\t.size<=140737488355745/\Same [] w wd))
              case first=>
               as_aux_lemma=>
                go_wp2_with fail
                go_loopw [3,6] (fun sv k wr=>∃(m:Nat)(t:ByteArray),.string t=sv/\k=.int .i64 m/\m<=v.blocks.length/\Hid (t.data.toList=X4++two v.blocks.length++(v.blocks.take m).flatMap two/\t.size<=140737488355345+2*m/\Same [] w wr)) (fun _ k _=>v.blocks.length-(intOf k).toNat)
                case atStart=>exact⟨0,t5,rfl,rfl,Nat.zero_le _,by rw[HT5.out.1];simp,HT5.out.2.1,HT5.out.2.2⟩
                case round=>
                 obtain⟨m,t6,rfl,rfl,hmm,HM⟩:=hrel;obtain⟨v0,v1,v2,v3,v4,v5,v6⟩:=HV.out _ HM.out.2.2;by_cases hml:m<v.blocks.length
                 ·have lm:(m:Int)<(v.blocks.length:Int):=by omega
                  obtain⟨c1,c2⟩:=HBC.out _ HM.out.2.2 m hml;have HTK:Hid ((v.blocks.take (m+1)).flatMap two=(v.blocks.take m).flatMap two++two (v.blocks[m]!)):=by
                   show _=_;rw[List.take_succ_eq_append_getElem hml,List.flatMap_append,getElem!_pos v.blocks m hml];simp
                  generalize v.blocks[m]! = bm at *;have hTd:=fun W=>fH W bm c2
                  obtain⟨p0,q0⟩:=oh bm;have htz:=HM.out.2.1;obtain⟨n0,d0,e0,f0⟩:=fM t6 ⟨(two bm).toArray⟩ (by omega);have HN:Hid (n0.data.toList=X4++two v.blocks.length++(v.blocks.take (m+1)).flatMap two/\n0.size<=140737488355345+2*(m+1)):=⟨by rw[e0,HM.out.1,HTK.out,List.append_assoc],by omega⟩
                  have HS:Hid (Same [] w wr):=HM.out.2.2;generalize (⟨(two bm).toArray⟩:ByteArray)=z0 at *;clear HM e0 f0 p0 q0 htz HTK
                  go_wp2_with fail
                  refine(hTd _).mono ?_;rintro e w4 ⟨rfl,S4⟩;have HF:Hid (n0.data.toList=X4++two v.blocks.length++(v.blocks.take (m+1)).flatMap two/\n0.size<=140737488355345+2*(m+1)/\Same [] w w4):=⟨HN.out.1,HN.out.2,HS.out.step S4 (by simp)⟩
                  clear S4 hTd HN;dsimp only
                  go_wp2
                  go_roundw
                  case rel=>exact⟨m+1,n0,rfl,by go_num,by omega,HF.out⟩
                  case measure=>simp[intOf];omega
                 ·have lm:(v.blocks.length:Int)<=(m:Int):=by omega
                  have em:m=v.blocks.length:=by omega
                  have HF:Hid (t6.data.toList=X4++nums v.blocks/\t6.size<=140737488355745/\Same [] w wr):=⟨by rw[HM.out.1,em,List.take_length,nums,List.append_assoc],by have:=HM.out.2.1;omega,HM.out.2.2⟩
                  clear HM em
                  go_wp2_with fail
                  go_meet
                  case rel=>exact⟨t6,rfl,HF⟩
              case rest=>
               as_aux_lemma=>
                obtain⟨t6,rfl,HT6⟩:=hcut;clear HT5;obtain⟨v0,v1,v2,v3,v4,v5,v6⟩:=HV.out _ HT6.out.2.2;have HX0:Hid (X4++nums v.blocks++(if v.bC=⟨#[]⟩ then [] else nums v.kept)=XE):=by
                 show _=_;rw[HEN.out,HX4.out,HX3.out,HX1.out];by_cases ho:v.bC=⟨#[]⟩
                 ·simp only[if_pos ho];simp
                 ·simp only[if_neg ho];simp
                cases bo with
                | true=>
                 have ho:v.bC=⟨#[]⟩:=HBO.out.1 rfl;have HE:Hid (t6.data.toList=gZ r (j+1)/\t6.size<=140737488355328/\Same [] w wc):=by
                  have e:t6.data.toList=XE:=by rw[HT6.out.1,<-HX0.out,if_pos ho,List.append_nil]
                  refine⟨by rw[e,HXE.out],?_,HT6.out.2.2⟩;rw[text_size,e];exact HLJ.out
                 clear HT6 ho HX0 HEN HX1 HX3 HX4 HIX HBC HKC
                 go_wp2_with fail
                 go_roundw
                 case rel=>exact⟨j+1,t6,rfl,by go_num,by omega,HE.out⟩
                 case measure=>simp[intOf];omega
                | false=>
                 have ho:v.bC≠⟨#[]⟩:=fun e=>by have:=HBO.out.2 e;cases this
                 have aaP:Hid (X4++nums v.blocks++nums v.kept=XE):=by have:=HX0.out;rw[if_neg ho]at this;exact this
                 clear ho HX0 HEN HX1 HX3 HX4 HIX HBC;generalize X4++nums v.blocks=X6 at *;have hTd:=fun W=>fH W v.kept.length (by omega)
                 obtain⟨p0,q0⟩:=oh v.kept.length;generalize (⟨(two v.kept.length).toArray⟩:ByteArray)=z0 at *;have htz:=HT6.out.2.1;obtain⟨n0,d0,e0,f0⟩:=fM t6 z0 (by omega);have HN:Hid (n0.data.toList=X6++two v.kept.length/\n0.size<=140737488355747):=⟨by rw[e0,p0,HT6.out.1],by omega⟩
                 have HS:Hid (Same [] w wc):=HT6.out.2.2;clear HT6 e0 f0 p0 q0 htz
                 go_upto_region 21 with fail
                 go_cut [3] (fun sv wd=>∃t,.string t=sv/\Hid (t.data.toList=X6++two v.kept.length/\t.size<=140737488355747/\Same [] w wd))
                 case first=>
                  as_aux_lemma=>
                   go_wp2_with fail
                   refine(hTd _).mono ?_;rintro e w4 ⟨rfl,S4⟩;have HF:Hid (n0.data.toList=X6++two v.kept.length/\n0.size<=140737488355747/\Same [] w w4):=⟨HN.out.1,HN.out.2,HS.out.step S4 (by simp)⟩
                   clear S4 hTd HN;dsimp only
                   go_wp2_with fail
                   go_meet
                   case rel=>exact⟨n0,rfl,HF⟩
                 case rest=>
                  as_aux_lemma=>
                   obtain⟨t7,rfl,HT7⟩:=hcut;clear d0 hTd v0 v1 v2 v3 v4 v5 v6 HS HN
                   go_wp2_with fail
                   go_loopw [3,7] (fun sv k wr=>∃(m:Nat)(t:ByteArray),.string t=sv/\k=.int .i64 m/\m<=v.kept.length/\Hid (t.data.toList=X6++two v.kept.length++(v.kept.take m).flatMap two/\t.size<=140737488355747+2*m/\Same [] w wr)) (fun _ k _=>v.kept.length-(intOf k).toNat)
                   case atStart=>exact⟨0,t7,rfl,rfl,Nat.zero_le _,by rw[HT7.out.1];simp,HT7.out.2.1,HT7.out.2.2⟩
                   case round=>
                    obtain⟨m,t8,rfl,rfl,hmm,HM⟩:=hrel;obtain⟨v0,v1,v2,v3,v4,v5,v6⟩:=HV.out _ HM.out.2.2;by_cases hml:m<v.kept.length
                    ·have lm:(m:Int)<(v.kept.length:Int):=by omega
                     obtain⟨⟨g,hg,c1⟩,c2⟩:=HKC.out _ HM.out.2.2 m hml;have hg':(v.kg.map fun g=>(⟨g,0,none⟩:Addr))=some ⟨g,0,none⟩:=by rw[hg];rfl
                     rw[hg']at v5;have HTK:Hid ((v.kept.take (m+1)).flatMap two=(v.kept.take m).flatMap two++two (v.kept[m]!)):=by
                      show _=_;rw[List.take_succ_eq_append_getElem hml,List.flatMap_append,getElem!_pos v.kept m hml];simp
                     generalize v.kept[m]! = bm at *;have hTd:=fun W=>fH W bm c2
                     obtain⟨p0,q0⟩:=oh bm;have htz:=HM.out.2.1;obtain⟨n0,d0,e0,f0⟩:=fM t8 ⟨(two bm).toArray⟩ (by omega);have HN:Hid (n0.data.toList=X6++two v.kept.length++(v.kept.take (m+1)).flatMap two/\n0.size<=140737488355747+2*(m+1)):=⟨by rw[e0,HM.out.1,HTK.out,List.append_assoc],by omega⟩
                     have HS:Hid (Same [] w wr):=HM.out.2.2;generalize (⟨(two bm).toArray⟩:ByteArray)=z0 at *;clear HM e0 f0 p0 q0 htz HTK hg hg'
                     go_wp2_with fail
                     refine(hTd _).mono ?_;rintro e w4 ⟨rfl,S4⟩;have HF:Hid (n0.data.toList=X6++two v.kept.length++(v.kept.take (m+1)).flatMap two/\n0.size<=140737488355747+2*(m+1)/\Same [] w w4):=⟨HN.out.1,HN.out.2,HS.out.step S4 (by simp)⟩
                     clear S4 hTd HN;dsimp only
                     go_wp2
                     go_roundw
                     case rel=>exact⟨m+1,n0,rfl,by go_num,by omega,HF.out⟩
                     case measure=>simp[intOf];omega
                    ·have lm:(v.kept.length:Int)<=(m:Int):=by omega
                     have em:m=v.kept.length:=by omega
                     have HE:Hid (t8.data.toList=gZ r (j+1)/\t8.size<=140737488355328/\Same [] w wr):=by
                      have e:t8.data.toList=XE:=by rw[HM.out.1,em,List.take_length,<-aaP.out,nums,List.append_assoc]
                      refine⟨by rw[e,HXE.out],?_,HM.out.2.2⟩;rw[text_size,e];exact HLJ.out
                     clear HM em
                     go_wp2_with fail
                     go_roundw
                     case rel=>exact⟨j+1,t8,rfl,by go_num,by omega,HE.out⟩
                     case measure=>simp[intOf];omega
   ·have l1:(r.af.length:Int)<=(j:Int):=by omega
    have ej:j=r.af.length:=by omega
    rw[ej]at HJ;clear ej
    go_wp2_with fail
    go_meet
    case rel=>exact⟨t,rfl,HJ⟩
 case rest=>
  as_aux_lemma=>
   obtain⟨t1,rfl,HT1⟩:=hcut;clear HM2 HS2
   go_upto_block 7 with fail
   go_cut [3,8] (fun sv _ wd=>∃t,.string t=sv/\Hid (t.data.toList=jC r/\Same [] w wd))
   case first=>
    as_aux_lemma=>
     go_wp2_with fail
     go_loopw [3,8] (fun sv k wr=>∃(m:Nat)(t:ByteArray),.string t=sv/\k=.int .i64 m/\m<=r.n/\Hid (t.data.toList=gZ r r.af.length++(List.range m).flatMap (fun k=>(r.blk k).data.toList)/\Same [] w wr)) (fun _ k _=>r.n-(intOf k).toNat)
     case atStart=>exact⟨0,t1,rfl,rfl,Nat.zero_le _,by rw[HT1.out.1];simp,HT1.out.2.2⟩
     case round=>
      obtain⟨m,t2,rfl,rfl,hmm,HM⟩:=hrel;obtain⟨k0,k1⟩:=HK.out wr HM.out.2;by_cases hml:m<r.n
      ·have lm:(m:Int)<(r.n:Int):=by omega
       have hB:=rE r m wr (HR.out wr HM.out.2) HI.out.hd;have hle:=HLB.out (m+1) (by omega);rw[List.range_succ,List.flatMap_append,<-List.append_assoc,<-HM.out.1]at hle;simp only[List.flatMap_cons,List.flatMap_nil,List.append_nil,List.length_append]at hle;rw[<-text_size,<-text_size]at hle;obtain⟨n0,d0,e0,f0⟩:=fM t2 (r.blk m) (by omega);have HN:Hid (n0.data.toList=gZ r r.af.length++(List.range (m+1)).flatMap (fun k=>(r.blk k).data.toList)):=by
        show _=_;rw[e0,HM.out.1,List.range_succ,List.flatMap_append,List.append_assoc];simp
       have HS:Hid (Same [] w wr):=HM.out.2;generalize r.blk m=bk at *;clear HM e0 f0 hle
       go_wp2_with fail
       refine hB.mono ?_;rintro e w4 ⟨rfl,S4⟩;have HF:Hid (n0.data.toList=gZ r r.af.length++(List.range (m+1)).flatMap (fun k=>(r.blk k).data.toList)/\Same [] w w4):=⟨HN.out,HS.out.step S4 (by simp)⟩
       clear S4 hB HN;dsimp only
       go_wp2
       go_roundw
       case rel=>exact⟨m+1,n0,rfl,by go_num,by omega,HF.out⟩
       case measure=>simp[intOf];omega
      ·have lm:(r.n:Int)<=(m:Int):=by omega
       have em:m=r.n:=by omega
       have HF:Hid (t2.data.toList=jC r/\Same [] w wr):=⟨by rw[HM.out.1,em,Em],HM.out.2⟩
       clear HM em
       go_wp2_with fail
       go_meet
       case rel=>exact⟨t2,rfl,HF⟩
   case rest=>
    as_aux_lemma=>
     obtain⟨t2,rfl,HT2⟩:=hcut;have hz:t2.size<=140737488355328:=by rw[text_size,HT2.out.1];exact HLE.out
     have hSu:=fun W=>qP W t2 hz
     have hlt:dF t2.data.toList<65536:=by have:=lM t2.data.toList;omega
     have hTw:=fun W=>fH W (dF t2.data.toList) hlt
     obtain⟨p0,q0⟩:=oh (dF t2.data.toList);obtain⟨n0,d0,e0,f0⟩:=fM t2 ⟨(two (dF t2.data.toList)).toArray⟩ (by omega);have HN:Hid (n0=⟨(jC r++two (dF (jC r))).toArray⟩):=by
      show _=_;apply ByteArray.ext;apply Array.toList_inj.1;rw[e0,p0,HT2.out.1]
     generalize (⟨(two (dF t2.data.toList)).toArray⟩:ByteArray)=z0 at *;generalize dF t2.data.toList=sm at *;have HS:Hid (Same [] w wc):=HT2.out.2;clear HT2 e0 f0 p0 q0 HT1
     go_wp2_with fail
     refine(hSu _).mono ?_;rintro e w4 ⟨rfl,hw4⟩;obtain rfl:=hw4.symm;dsimp only
     go_wp2_with fail
     refine(hTw _).mono ?_;rintro e w5 ⟨rfl,S5⟩;dsimp only
     go_wp2
     go_ret
     exact⟨by rw[HN.out];rfl,HS.out.step S5 (by simp)⟩
end
end Go.Proofs.YtpddgdjocffgdaaGreat
