/- Packed: see the last text. -/
import Derived.Test.YtpddgdjocffgdaaGreatA22
import Derived.Test.YtpddgdjocffgdaaGreatA03
import Derived.Test.YtpddgdjocffgdaaGreatA02
import Derived.Test.YtpddgdjocffgdaaGreatA05
import Derived.Test.YtpddgdjocffgdaaGreatA08
import Derived.Test.YtpddgdjocffgdaaGreatA11
namespace Go.Proofs.YtpddgdjocffgdaaGreat
open Go.Proofs.Tryz
set_option linter.unusedVariables false
set_option linter.unusedSimpArgs false
set_option linter.unusedSectionVars false
set_option maxHeartbeats 16000000
set_option maxRecDepth 100000
section
open Go.RowKit Go.Sort
variable [DecidableEq aN] [Inhabited aN] [Inhabited aF] [Inhabited aS] [Inhabited ay] [Inhabited aV]
theorem DY(u0 u1 u2 u3 u4 u5 u7 u8 u9 Ja Jb Jc Jd Je Jf Jg Jh Ji Jj Jk Jl Jm Jn Jo Jp Jq Jr Js Jt Ju Jv Jw Jx Jy Jz Ka Kb Kc Kd Ke Kf Kg Kh Ki Kj Kk Kl Km Kn Ko Kp Kq Kr Ks Kt Ku Kv Kw Kx Ky Kz Qa Qb Qc Qd Qe Qf Qg Qh Qi Qj Qk Ql Qm Qn Qo Qp Qq Qr Qs Qt Qu Qv Qw Qx Qy Qz Ua Ub Uc Ud Ue Uf Ug Uh Ui Uj Uk Ul Um Un Uo Up Uq Ur Us Ut Uu Uv Uw Ux Uy Uz Va Vb Vc Vd Ve Vf Vg Vh Vi Vj Vk Vl Vm Vn Vo Vp Vq Vr Vs Vt Vu Vv Vw Vx Vy:Value)(w0 W:World)(sb:Nat)(B:List UInt8)(at_ q count:Nat)(hc:count<65536)(hs:bY w0 W sb B at_ (some q))(R:Ending->World->Prop)(hR:∀w',Same [] W w'->R (.returned (.tuple #[.pointer none,.int .i64 12,.int .i64 (q:Int)])) w') :
 Code.wp prog (bI 12 (f65.body.getD .skip)) (bodyPost prog f65 R) { tmps:=#[u0,u1,u2,u3,u4,u5,.pointer (some ⟨sb,0,none⟩),u7,u8,u9,.int .i64 (count:Int),Ja,Jb,Jc,Jd,Je,Jf,Jg,Jh,Ji,Jj,Jk,Jl,Jm,Jn,Jo,Jp,Jq,Jr,Js,Jt,Ju,Jv,Jw,Jx,Jy,Jz,Ka,Kb,Kc,Kd,Ke,Kf,Kg,Kh,Ki,Kj,Kk,Kl,Km,Kn,Ko,Kp,Kq,Kr,Ks,Kt,Ku,Kv,Kw,Kx,Ky,Kz,Qa,Qb,Qc,Qd,Qe,Qf,Qg,Qh,Qi,Qj,Qk,Ql,Qm,Qn,Qo,Qp,Qq,Qr,Qs,Qt,Qu,Qv,Qw,Qx,Qy,Qz,Ua,Ub,Uc,Ud,Ue,Uf,Ug,Uh,Ui,Uj,Uk,Ul,Um,Un,Uo,Up,Uq,Ur,Us,Ut,Uu,Uv,Uw,Ux,Uy,Uz,Va,Vb,Vc,Vd,Ve,Vf,Vg,Vh,Vi,Vj,Vk,Vl,Vm,Vn,Vo,Vp,Vq,Vr,Vs,Vt,Vu,Vv,Vw,Vx,Vy],defers:=[] } W:=by
 generalize hC:bI 12 (f65.body.getD .skip)=C
 delta f65 at hC
 dsimp only[bI,Option.getD]at hC;subst hC;have HR:=hid hR;have HS:Hid (bY w0 W sb B at_ (some q)):=hs;have hc2:W.cell? ⟨sb,2,none⟩=some (.int .i64 (q:Int)):=hs.cell.cell? 2;have lq:¬((q:Int)<0):=by omega
 have lq2:(0:Int)<=(q:Int):=by omega
 clear hs hR
 go_upto_block 2 with fail
 go_cut [11,12,13,14,15] (fun _ _ _ _ _ wd=>wd=W)
 case first=>
  go_wp2_with fail
  go_loopw [13] (fun i wr=>i=.int .i64 0/\wr=W) (fun _ _=>0)
  case atStart=>exact⟨rfl,rfl⟩
  case round=>
   obtain⟨rfl,rfl⟩:=hrel;rcases Nat.eq_zero_or_pos count with rfl|hp
   ·go_wp2_with fail
    go_meet
    case rel=>first|rfl|trivial
   ·have lp:(0:Int)<(count:Int):=by omega
    go_wp2_with fail
    go_meet
    case rel=>first|rfl|trivial
 case rest=>
  subst hcut;refine ‹∀(a:Act)(w:World),Code.wp prog _ _ a w->_› _ _ ?_;exact LQ _ _ _ _ _ _ _ _ _ _ _ _ _ _ _ _ _ _ _ _ _ _ _ _ _ _ _ _ _ _ _ _ _ _ _ _ _ _ _ _ _ _ _ _ _ _ _ _ _ _ _ _ _ _ _ _ _ _ _ _ _ _ _ _ _ _ _ _ _ _ _ _ _ _ _ _ _ _ _ _ _ _ _ _ _ _ _ _ _ _ _ _ _ _ _ _ _ _ _ _ _ _ _ _ _ _ _ _ _ _ _ _ _ _ _ _ _ _ _ _ _ _ _ _ _ _ _ _ _ _ _ _ _ _ _ _ _ _ _ w0 _ sb B at_ q HS.out R HR.out
def FC(B:List UInt8)(a0:Nat)(b0:Option Nat):Nat×Nat×Option Nat:=((bF B 2 a0 b0).1,(bF B 2 a0 b0).2.1,aX (bF B 2 a0 b0).2.2 (decide (1<=(bF B 2 a0 b0).1/\(bF B 2 a0 b0).1<=200)) 4)
def yx(B:List UInt8)(a0:Nat)(b0:Option Nat):Nat×Nat×Option Nat:=((bF B 1 a0 b0).1,(bF B 1 a0 b0).2.1,aX (bF B 1 a0 b0).2.2 (decide ((bF B 1 a0 b0).1<=20)) 6)
theorem TI(u0 u1 u2 u3 u4 u5 u7 u8 u9 Ja Jb Jc Jd Je Jf Jg Jh Ji Jj Jk Jl Jm Jn Jo Jp Jq Jr Js Jt Ju Jv Jw Jx Jy Jz Ka Kb Kc Kd Ke Kf Kg Kh Ki Kj Kk Kl Km Kn Ko Kp Kq Kr Ks Kt Ku Kv Kw Kx Ky Kz Qa Qb Qc Qd Qe Qf Qg Qh Qi Qj Qk Ql Qm Qn Qo Qp Qq Qr Qs Qt Qu Qv Qw Qx Qy Qz Ua Ub Uc Ud Ue Uf Ug Uh Ui Uj Uk Ul Um Un Uo Up Uq Ur Us Ut Uu Uv Uw Ux Uy Uz Va Vb Vc Vd Ve Vf Vg Vh Vi Vj Vk Vl Vm Vn Vo Vp Vq Vr Vs Vt Vu Vv Vw Vx Vy Vz:Value)(w0 W:World)(sb:Nat)(B:List UInt8)(a0:Nat)(b0:Option Nat)(hl:B.length<=140737488355328)(hs:bY w0 W sb B a0 b0)(R:Ending->World->Prop)
 (hrest:∀(u0 u1 u2 u3 u4 u5 u7 u8 Jd Je Jf Jg Jh Ji Jj Jk Jl Jm Jn Jo Jp Jq Jr Js Jt Ju Jv Jw Jx Jy Jz Ka Kb Kc Kd Ke Kf Kg Kh Ki Kj Kk Kl Km Kn Ko Kp Kq Kr Ks Kt Ku Kv Kw Kx Ky Kz Qa Qb Qc Qd Qe Qf Qg Qh Qi Qj Qk Ql Qm Qn Qo Qp Qq Qr Qs Qt Qu Qv Qw Qx Qy Qz Ua Ub Uc Ud Ue Uf Ug Uh Ui Uj Uk Ul Um Un Uo Up Uq Ur Us Ut Uu Uv Uw Ux Uy Uz Va Vb Vc Vd Ve Vf Vg Vh Vi Vj Vk Vl Vm Vn Vo Vp Vq Vr Vs Vt Vu Vv Vw Vx Vy Vz:Value)(wd:World)(n count a1 a2:Nat)(b1 b2:Option Nat),Hid (FC B a0 b0=(n,a1,b1)/\yx B a1 b1=(count,a2,b2)/\n<65536/\count<65536/\bY w0 wd sb B a2 b2/\At wd W.heap.size 84 [.int .i64 (n:Int),.slice none 0 0]/\Same [sb] W wd)->Code.wp prog (bI 12 (f65.body.getD .skip)) (bodyPost prog f65 R) { tmps:=#[u0,u1,u2,u3,u4,u5,.pointer (some ⟨sb,0,none⟩),u7,u8,.pointer (some ⟨W.heap.size,0,none⟩),.int .i64 (count:Int),.slice none 0 0,.slice none 0 0,Jd,Je,Jf,Jg,Jh,Ji,Jj,Jk,Jl,Jm,Jn,Jo,Jp,Jq,Jr,Js,Jt,Ju,Jv,Jw,Jx,Jy,Jz,Ka,Kb,Kc,Kd,Ke,Kf,Kg,Kh,Ki,Kj,Kk,Kl,Km,Kn,Ko,Kp,Kq,Kr,Ks,Kt,Ku,Kv,Kw,Kx,Ky,Kz,Qa,Qb,Qc,Qd,Qe,Qf,Qg,Qh,Qi,Qj,Qk,Ql,Qm,Qn,Qo,Qp,Qq,Qr,Qs,Qt,Qu,Qv,Qw,Qx,Qy,Qz,Ua,Ub,Uc,Ud,Ue,Uf,Ug,Uh,Ui,Uj,Uk,Ul,Um,Un,Uo,Up,Uq,Ur,Us,Ut,Uu,Uv,Uw,Ux,Uy,Uz,Va,Vb,Vc,Vd,Ve,Vf,Vg,Vh,Vi,Vj,Vk,Vl,Vm,Vn,Vo,Vp,Vq,Vr,Vs,Vt,Vu,Vv,Vw,Vx,Vy,Vz],defers:=[] } wd) :
 Code.wp prog (bI 5 (f65.body.getD .skip)) (bodyPost prog f65 R) { tmps:=#[u0,u1,u2,u3,u4,u5,.pointer (some ⟨sb,0,none⟩),u7,u8,u9,Ja,Jb,Jc,Jd,Je,Jf,Jg,Jh,Ji,Jj,Jk,Jl,Jm,Jn,Jo,Jp,Jq,Jr,Js,Jt,Ju,Jv,Jw,Jx,Jy,Jz,Ka,Kb,Kc,Kd,Ke,Kf,Kg,Kh,Ki,Kj,Kk,Kl,Km,Kn,Ko,Kp,Kq,Kr,Ks,Kt,Ku,Kv,Kw,Kx,Ky,Kz,Qa,Qb,Qc,Qd,Qe,Qf,Qg,Qh,Qi,Qj,Qk,Ql,Qm,Qn,Qo,Qp,Qq,Qr,Qs,Qt,Qu,Qv,Qw,Qx,Qy,Qz,Ua,Ub,Uc,Ud,Ue,Uf,Ug,Uh,Ui,Uj,Uk,Ul,Um,Un,Uo,Up,Uq,Ur,Us,Ut,Uu,Uv,Uw,Ux,Uy,Uz,Va,Vb,Vc,Vd,Ve,Vf,Vg,Vh,Vi,Vj,Vk,Vl,Vm,Vn,Vo,Vp,Vq,Vr,Vs,Vt,Vu,Vv,Vw,Vx,Vy,Vz],defers:=[] } W:=by
 generalize hC:bI 5 (f65.body.getD .skip)=C
 delta f65 at hC
 dsimp only[bI,Option.getD]at hC;subst hC;have oP:=hid hrest;have hnot:=bP;obtain⟨n,a1,d1,hX1⟩:∃n a d,bF B 2 a0 b0=(n,a,d):=⟨_,_,_,rfl⟩
 have hb1:n<65536:=by have:=nC B 2 a0 b0 (by omega);rw[hX1]at this;exact this
 obtain⟨b1,hB1⟩:∃b,aX d1 (decide (1<=n/\n<=200)) 4=b:=⟨_,rfl⟩
 obtain⟨count,a2,d2,hX2⟩:∃n a d,bF B 1 a1 b1=(n,a,d):=⟨_,_,_,rfl⟩
 have hb2:count<65536:=by have:=nC B 1 a1 b1 (by omega);rw[hX2]at this;exact this
 obtain⟨b2,hB2⟩:∃b,aX d2 (decide (count<=20)) 6=b:=⟨_,rfl⟩
 have HSP:Hid (FC B a0 b0=(n,a1,b1)/\yx B a1 b1=(count,a2,b2)):=⟨by unfold FC;rw[hX1,<-hB1],by unfold yx;rw[hX2,<-hB2]⟩
 have hlt:=hs.cell.lt;have S0:Same [] W (W.alloc (.cells #[.int .i64 0,.slice none 0 0] 84)):=(Same.refl _ _).alloc _;have A0:At (W.alloc (.cells #[.int .i64 0,.slice none 0 0] 84)) W.heap.size 84 [.int .i64 0,.slice none 0 0]:=At.new W _ _;have hN1:=eG w0 _ sb B 2 a0 b0 n a1 d1 2 rfl (by omega) hl (hs.next S0 (by simp) (by simp)) hX1;have HM0:Hid (At (W.alloc (.cells #[.int .i64 0,.slice none 0 0] 84)) W.heap.size 84 [.int .i64 0,.slice none 0 0]/\Same [sb] W (W.alloc (.cells #[.int .i64 0,.slice none 0 0] 84))/\w0.heap.size<=sb):=⟨A0,S0.mono (by simp),hs.new⟩
 have hw0:w0.heap.size<=W.heap.size:=hs.same.size;clear hrest hX1 S0 A0 hs
 go_wp2_with fail
 refine hN1.mono ?_;rintro e w1 ⟨rfl,A1,S1⟩;have P1:At w1 W.heap.size 84 [.int .i64 0,.slice none 0 0]:=S1.at HM0.out.1 (by simp;omega);have S2:Same [W.heap.size] w1 (w1.setCell ⟨W.heap.size,0,none⟩ (.int .i64 (n:Int))):=(Same.refl _ _).set _ _ _ (by simp);have HM1:Hid (bY w0 (w1.setCell ⟨W.heap.size,0,none⟩ (.int .i64 (n:Int))) sb B a1 d1/\At (w1.setCell ⟨W.heap.size,0,none⟩ (.int .i64 (n:Int))) W.heap.size 84 [.int .i64 (n:Int),.slice none 0 0]/\Same [sb] W (w1.setCell ⟨W.heap.size,0,none⟩ (.int .i64 (n:Int)))):=
  ⟨A1.next S2 (by simp;omega) (fun k hk=>by simp at hk;omega),P1.ax 0 _,(HM0.out.2.1.step S1 (fun k hk _=>hk)).step S2 (fun k hk hl=>by simp at hk;omega)⟩
 have c1:w1.cell? ⟨W.heap.size,0,none⟩=some (.int .i64 0):=P1.cell? 0;have f1:w1.frozen? ⟨W.heap.size,0,none⟩=false:=P1.frozen 0;clear hN1 A1 S1 P1 S2 HM0
 go_upto_region 12 with fail
 go_cut [] (fun wd=>Hid (bY w0 wd sb B a1 b1/\At wd W.heap.size 84 [.int .i64 (n:Int),.slice none 0 0]/\Same [sb] W wd))
 case first=>
  generalize w1.setCell ⟨W.heap.size,0,none⟩ (.int .i64 (n:Int))=w2 at *;have c2:w2.cell? ⟨W.heap.size,0,none⟩=some (.int .i64 (n:Int)):=HM1.out.2.1.cell? 0;have hM:=fun ok=>cO w0 w2 sb B a1 d1 ok 4 4 rfl HM1.out.1
  have HFF:Hid (∀ok w3,ok=decide (1<=n/\n<=200)->bY w0 w3 sb B a1 (aX d1 ok 4)->Same [sb] w2 w3->bY w0 w3 sb B a1 b1/\At w3 W.heap.size 84 [.int .i64 (n:Int),.slice none 0 0]/\Same [sb] W w3):=fun ok w3 ho h1 h2=>⟨by rw[ho,hB1]at h1;exact h1,h2.at HM1.out.2.1 (by simp;omega),HM1.out.2.2.step h2 (fun k hk _=>hk)⟩
  clear HM1 c1 f1;by_cases g1:1<=n
  ·have g1':(1:Int)<=(n:Int):=by omega
   go_wp2_with fail
   refine(hM _).mono ?_;rintro e w3 ⟨rfl,A3,S3⟩;have HF:=hid (HFF.out _ w3 (by first|rfl|(rw[Bool.eq_iff_iff];simp<;>omega)) A3 S3);clear A3 S3 hM HFF
   go_wp2_with fail
   go_meet
   case rel=>exact HF
  ·obtain rfl:n=0:=by omega
   go_wp2_with fail
   refine(hM _).mono ?_;rintro e w3 ⟨rfl,A3,S3⟩;have HF:=hid (HFF.out _ w3 (by first|rfl|(rw[Bool.eq_iff_iff];simp<;>omega)) A3 S3);clear A3 S3 hM HFF
   go_wp2_with fail
   go_meet
   case rel=>exact HF
 case rest=>
  have hN2:=eG w0 wc sb B 1 a1 b1 count a2 d2 1 rfl (by omega) hl hcut.out.1 hX2;have HC:Hid (At wc W.heap.size 84 [.int .i64 (n:Int),.slice none 0 0]/\Same [sb] W wc):=hcut.out.2;clear HM1 c1 f1 hcut hX2
  go_wp2_with fail
  refine hN2.mono ?_;rintro e w4 ⟨rfl,A4,S4⟩;have hM:=fun ok=>cO w0 w4 sb B a2 d2 ok 6 6 rfl A4
  have HFF:Hid (∀ok w5,ok=decide (count<=20)->bY w0 w5 sb B a2 (aX d2 ok 6)->Same [sb] w4 w5->bY w0 w5 sb B a2 b2/\At w5 W.heap.size 84 [.int .i64 (n:Int),.slice none 0 0]/\Same [sb] W w5):=fun ok w5 ho h1 h2=>⟨by rw[ho,hB2]at h1;exact h1,h2.at (S4.at HC.out.1 (by simp;omega)) (by simp;omega),(HC.out.2.step S4 (fun k hk _=>hk)).step h2 (fun k hk _=>hk)⟩
  clear A4 S4 hN2 HC
  go_upto_region 16 with (go_at_call 109;refine(hM _).mono ?_;rintro e w5 ⟨rfl,A5,S5⟩)
  have HF:=hid (HFF.out _ w5 (by first|rfl|(rw[Bool.eq_iff_iff];simp<;>omega)) A5 S5);clear A5 S5 hM HFF
  go_cut [12] (fun uv wd=>uv=.slice none 0 0/\Hid (bY w0 wd sb B a2 b2/\At wd W.heap.size 84 [.int .i64 (n:Int),.slice none 0 0]/\Same [sb] W wd))
  case first=>
   go_wp2_with fail
   go_meet
   case rel=>exact⟨rfl,HF⟩
  case rest=>
   obtain⟨rfl,HC⟩:=hcut;refine ‹∀(a:Act)(w:World),Code.wp prog _ _ a w->_› _ _ ?_;exact oP.out _ _ _ _ _ _ _ _ _ _ _ _ _ _ _ _ _ _ _ _ _ _ _ _ _ _ _ _ _ _ _ _ _ _ _ _ _ _ _ _ _ _ _ _ _ _ _ _ _ _ _ _ _ _ _ _ _ _ _ _ _ _ _ _ _ _ _ _ _ _ _ _ _ _ _ _ _ _ _ _ _ _ _ _ _ _ _ _ _ _ _ _ _ _ _ _ _ _ _ _ _ _ _ _ _ _ _ _ _ _ _ _ _ _ _ _ _ _ _ _ _ _ _ _ _ _ _ _ _ _ _ _ _ _ _ _ n count a1 a2 b1 b2 ⟨HSP.out.1,HSP.out.2,hb1,hb2,HC.out⟩
def VN(w0:World)(sb:Nat)(B:List UInt8)(k:Nat)(wr:World):Prop:=
 (∃q at_,gX B 4 0=.error q/\bY w0 wr sb B at_ (some q))\/(gX B (4-k) k=gX B 4 0/\bY w0 wr sb B k none)
theorem VW(B:List UInt8)(k:Nat)(h:k+1<=B.length):aH B k 1=⟨#[B[k]!]⟩:=by
 unfold aH;rw[List.drop_eq_getElem_cons (by omega),getElem!_pos B k (by omega)];rfl
theorem UQ(a b:UInt8):((⟨#[a]⟩:ByteArray)=⟨#[b]⟩)↔a=b:=by
 constructor
 ·intro h;simpa using h
 ·intro h;rw[h]
theorem PL(t:ByteArray)(b:UInt8):(t.toList == [b])=decide (t=⟨#[b]⟩):=by
 have h:=KJ t ⟨#[b]⟩;have e:(⟨#[b]⟩:ByteArray).toList=[b]:=by rw[ByteArray.toList_eq]
 rw[e]at h;exact h
theorem PG(w:World)(t:ByteArray)(m:Nat)(B:List UInt8)(hl:B.length<=140737488355328)(hm:t.size=m+2)(hm2:m<=140737488355328)(hB:t.extract 0 m=⟨B.toArray⟩)(hE:t.extract m t.size=⟨(two (dF B)).toArray⟩)(R:Ending->World->Prop)
 (hrest:∀(u0 u1 u2 u3 u4 u5 u7 u8 u9 Ja Jb Jc Jd Je Jf Jg Jh Ji Jj Jk Jl Jm Jn Jo Jp Jq Jr Js Jt Ju Jv Jw Jx Jy Jz Ka Kb Kc Kd Ke Kf Kg Kh Ki Kj Kk Kl Km Kn Ko Kp Kq Kr Ks Kt Ku Kv Kw Kx Ky Kz Qa Qb Qc Qd Qe Qf Qg Qh Qi Qj Qk Ql Qm Qn Qo Qp Qq Qr Qs Qt Qu Qv Qw Qx Qy Qz Ua Ub Uc Ud Ue Uf Ug Uh Ui Uj Uk Ul Um Un Uo Up Uq Ur Us Ut Uu Uv Uw Ux Uy Uz Va Vb Vc Vd Ve Vf Vg Vh Vi Vj Vk Vl Vm Vn Vo Vp Vq Vr Vs Vt Vu Vv Vw Vx Vy Vz:Value)(wd:World)(sb:Nat),Hid (VN w sb B 4 wd)->Code.wp prog (bI 5 (f65.body.getD .skip)) (bodyPost prog f65 R) { tmps:=#[u0,u1,u2,u3,u4,u5,.pointer (some ⟨sb,0,none⟩),u7,u8,u9,Ja,Jb,Jc,Jd,Je,Jf,Jg,Jh,Ji,Jj,Jk,Jl,Jm,Jn,Jo,Jp,Jq,Jr,Js,Jt,Ju,Jv,Jw,Jx,Jy,Jz,Ka,Kb,Kc,Kd,Ke,Kf,Kg,Kh,Ki,Kj,Kk,Kl,Km,Kn,Ko,Kp,Kq,Kr,Ks,Kt,Ku,Kv,Kw,Kx,Ky,Kz,Qa,Qb,Qc,Qd,Qe,Qf,Qg,Qh,Qi,Qj,Qk,Ql,Qm,Qn,Qo,Qp,Qq,Qr,Qs,Qt,Qu,Qv,Qw,Qx,Qy,Qz,Ua,Ub,Uc,Ud,Ue,Uf,Ug,Uh,Ui,Uj,Uk,Ul,Um,Un,Uo,Up,Uq,Ur,Us,Ut,Uu,Uv,Uw,Ux,Uy,Uz,Va,Vb,Vc,Vd,Ve,Vf,Vg,Vh,Vi,Vj,Vk,Vl,Vm,Vn,Vo,Vp,Vq,Vr,Vs,Vt,Vu,Vv,Vw,Vx,Vy,Vz],defers:=[] } wd) :
 Calls prog 65 #[.string t] w R:=by
 have oP:=hid hrest;have hnot:=bP;have Tj:=fun W=>qP W ⟨B.toArray⟩ (by simpa [ByteArray.size] using hl)
 have hlt:dF B<65536:=by have:=lM B;omega
 have Tm:=fun W=>fH W (dF B) hlt
 have w1:IntKind.i64.wrap ((t.size:Int)-2)=(m:Int):=by rw[IntWalk.i64_in _ (by omega)];omega
 have l0:¬((m:Int)<0):=by omega
 have l1:decide ((m:Int)<0)=false:=decide_eq_false l0;have l2:(0:Int)<=(m:Int):=by omega
 have l3:(m:Int)<=(t.size:Int):=by omega
 have hEb:((t.extract m t.size).toList == two (dF B))=true:=by rw[hE,ByteArray.toList_eq];simp
 clear hrest hm hE
 go_enter func65,ntmps65
 generalize two (dF B)=tw at *
 go_wp2_with fail
 go_region_held3 (fun _=>True) (trivial) (first|(go_at_call 75;refine(Tj _).mono ?_;rintro e w' ⟨rfl,rfl⟩;dsimp only)|(go_at_call 71;refine(Tm _).mono ?_;rintro e w2 ⟨rfl,S2⟩;dsimp only))
 have HS2:Hid (Same [] w w2):=((Same.refl [] w).drew).step S2 (by simp);have HI:Hid (VN w w2.heap.size B 0 (w2.alloc (.cells #[.string ⟨B.toArray⟩,.int .i64 0,.int .i64 (-1)] 156))):=by
  refine Or.inr ⟨rfl,?_,HS2.out.size,HS2.out.alloc _,Nat.zero_le _⟩;exact At.new w2 _ _
 clear S2 Tj Tm;generalize hsb:w2.heap.size=sb at *
 go_upto_block 0 with fail
 go_cut [7,8] (fun _ _ wd=>Hid (VN w sb B 4 wd))
 case first=>
  generalize w2.alloc (.cells #[.string ⟨B.toArray⟩,.int .i64 0,.int .i64 (-1)] 156)=w3 at *;clear hsb HS2
  go_wp2_with fail
  go_loopw [7,8] (fun i _ wr=>∃k:Nat,i=.int .i64 k/\k<=4/\Hid (VN w sb B k wr)) (fun i _ _=>4-(intOf i).toNat)
  case atStart=>exact⟨0,rfl,by omega,HI.out⟩
  case round=>
   obtain⟨k,rfl,hk,HK⟩:=hrel;by_cases hk4:k<4
   ·have lk:(k:Int)<4:=by omega
    have lk0:(0:Int)<=(k:Int):=by omega
    obtain⟨a,bd,hsc,hre⟩:∃a bd,bY w wr sb B a bd/\((∃q,gX B 4 0=.error q/\bd=some q)\/(gX B (4-k) k=gX B 4 0/\a=k/\bd=none)):=by
     rcases HK.out with⟨q,at_,h1,h2⟩|⟨h1,h2⟩
     ·exact⟨at_,some q,h2,Or.inl ⟨q,h1,rfl⟩⟩
     ·exact⟨k,none,h2,Or.inr ⟨h1,rfl,rfl⟩⟩
    obtain⟨tx,a1,d1,hX⟩:∃t' a' d',ig B 1 a bd=(t',a',d'):=⟨_,_,_,rfl⟩
    have hT:=lX w wr sb B 1 a bd tx a1 d1 1 rfl (by omega) hl hsc hX;have HNX:Hid (∀w5,bY w w5 sb B a1 (aX d1 (decide (tx=⟨#[gq[k]!]⟩)) k)->VN w sb B (k+1) w5):=fun w5 h5=>by
     rcases hre with⟨q,h1,rfl⟩|⟨h1,rfl,rfl⟩
     ·simp only[ig,Prod.mk.injEq]at hX;obtain⟨_,rfl,rfl⟩:=hX;exact Or.inl ⟨q,_,h1,h5⟩
     ·have hst:gX B (4-a) a=if a+1<=B.length then (if B[a]! = gq[a]! then gX B (4-(a+1)) (a+1) else .error a) else .error B.length:=by
       rw[show 4-a=(4-(a+1))+1 by omega,gX]
      rw[h1]at hst;simp only[ig]at hX;by_cases hle:a+1<=B.length
      ·rw[if_pos hle]at hX hst;simp only[Prod.mk.injEq]at hX;obtain⟨rfl,rfl,rfl⟩:=hX;rw[VW B a hle]at h5;by_cases he:B[a]! = gq[a]!
       ·rw[if_pos he]at hst;refine Or.inr ⟨hst.symm,?_⟩;have e:decide ((⟨#[B[a]!]⟩:ByteArray)=⟨#[gq[a]!]⟩)=true:=decide_eq_true ((UQ _ _).2 he);rw[e]at h5;exact h5
       ·rw[if_neg he]at hst;have e:decide ((⟨#[B[a]!]⟩:ByteArray)=⟨#[gq[a]!]⟩)=false:=decide_eq_false (fun h=>he ((UQ _ _).1 h));rw[e]at h5;exact Or.inl ⟨a,_,hst,h5⟩
      ·rw[if_neg hle]at hX hst;simp only[Prod.mk.injEq]at hX;obtain⟨rfl,rfl,rfl⟩:=hX;exact Or.inl ⟨_,_,hst,h5⟩
    have hsl:∀W,Sem.run prog (Instr.slice 9 (.string ⟨#[83,84,82,49]⟩) (some (.int .i64 (k:Int))) (some (.int .i64 ((k:Int)+1))) none) W=.ok (.string ⟨#[gq[k]!]⟩) W:=by
     intro W
     match k,hk4 with
     | 0,_=>rfl
     | 1,_=>rfl
     | 2,_=>rfl
     | 3,_=>rfl
    have wk:IntKind.i64.wrap ((k:Int)+1)=(k:Int)+1:=IntWalk.i64_in _ (by omega);have nk:((k:Int)+1).toNat=k+1:=by omega
    have nk2:(k:Int)+1<=4:=by omega
    generalize gq[k]! = mk at *;clear HK hsc hre hX
    go_wp2_with fail
    refine hT.mono ?_;rintro e w4 ⟨rfl,A4,S4⟩;have hM:=fun ok=>cO w w4 sb B a1 d1 ok k (k:Int) rfl A4
    clear hT A4 S4;dsimp only
    go_wp2_with fail
    refine(hM _).mono ?_;rintro e w5 ⟨rfl,A5,S5⟩;have HF:=hid (HNX.out w5 (A5.iJ (PL _ _)));clear A5 S5 hM HNX
    go_wp2
    go_roundw
    case rel=>exact⟨k+1,by go_num,by omega,HF.out⟩
    case measure=>simp[intOf];omega
   ·obtain rfl:k=4:=by omega
    go_wp2_with fail
    go_meet
    case rel=>exact HK
 case rest=>
  refine ‹∀(a:Act)(w:World),Code.wp prog _ _ a w->_› _ _ ?_;exact oP.out _ _ _ _ _ _ _ _ _ _ _ _ _ _ _ _ _ _ _ _ _ _ _ _ _ _ _ _ _ _ _ _ _ _ _ _ _ _ _ _ _ _ _ _ _ _ _ _ _ _ _ _ _ _ _ _ _ _ _ _ _ _ _ _ _ _ _ _ _ _ _ _ _ _ _ _ _ _ _ _ _ _ _ _ _ _ _ _ _ _ _ _ _ _ _ _ _ _ _ _ _ _ _ _ _ _ _ _ _ _ _ _ _ _ _ _ _ _ _ _ _ _ _ _ _ _ _ _ _ _ _ _ _ _ _ _ _ _ _ _ sb hcut
theorem MR(w:World)(t:ByteArray)(m:Nat)(B:List UInt8)(hl:B.length<=140737488355328)(hm:t.size=m+2)(hm2:m<=140737488355328)(hB:t.extract 0 m=⟨B.toArray⟩)(hE:t.extract m t.size≠⟨(two (dF B)).toArray⟩) :
 Calls prog 65 #[.string t] w fun e w'=>e=.returned (.tuple #[.pointer none,.int .i64 11,.int .i64 0])/\Same [] w w':=by
 have hnot:=bP;have Tj:=fun W=>qP W ⟨B.toArray⟩ (by simpa [ByteArray.size] using hl)
 have hlt:dF B<65536:=by have:=lM B;omega
 have Tm:=fun W=>fH W (dF B) hlt
 have w1:IntKind.i64.wrap ((t.size:Int)-2)=(m:Int):=by rw[IntWalk.i64_in _ (by omega)];omega
 have l0:¬((m:Int)<0):=by omega
 have l1:decide ((m:Int)<0)=false:=decide_eq_false l0;have l2:(0:Int)<=(m:Int):=by omega
 have l3:(m:Int)<=(t.size:Int):=by omega
 have hEb:((t.extract m t.size).toList == two (dF B))=false:=by
  rw[beq_eq_false_iff_ne];intro e;apply hE;apply ByteArray.ext;apply Array.toList_inj.1;rw[ByteArray.toList_eq]at e;exact e
 clear hm hE
 go_enter func65,ntmps65
 generalize two (dF B)=tw at *
 go_wp2_with fail
 go_region_held3 (fun _=>True) (trivial) (first|(go_at_call 75;refine(Tj _).mono ?_;rintro e w' ⟨rfl,rfl⟩;dsimp only)|(go_at_call 71;refine(Tm _).mono ?_;rintro e w2 ⟨rfl,S2⟩;dsimp only))
 have HS2:Hid (Same [] w w2):=((Same.refl [] w).drew).step S2 (by simp);clear S2 Tj Tm
 go_wp2
 go_ret3
 exact⟨rfl,HS2.out⟩
theorem Pj(w:World)(t:ByteArray)(ht:t=⟨#[]⟩\/∃a,t=⟨#[a]⟩) :
 Calls prog 65 #[.string t] w fun e w'=>e=.returned (.tuple #[.pointer none,.int .i64 11,.int .i64 0])/\Same [] w w':=by
 have hnot:=bP;obtain⟨z,hz,hz0⟩:∃z:Int,IntKind.i64.wrap ((t.size:Int)-2)=z/\z<0:=by
  rcases ht with rfl|⟨a,rfl⟩
  ·exact⟨-2,rfl,by omega⟩
  ·exact⟨-1,rfl,by omega⟩
 have l1:decide (z<0)=true:=decide_eq_true hz0;clear ht hz0
 go_enter func65,ntmps65
 go_wp2_with fail
 go_quiet (fail)
 go_wp2
 go_ret3
 exact⟨rfl,(Same.refl [] w).drewN _⟩
end
section
open Go.RowKit Go.Sort
variable [DecidableEq aN] [Inhabited aN] [Inhabited aF] [Inhabited aS]
theorem IZ{w w':World}{B:List UInt8}{count at_:Nat}{pv:List (aS×aF)}{pb db bb fb jg:Nat}{d:Array Int}(h:fB w w' B count at_ pv pb db bb fb jg d)(hr:pF B count (pv.map (·.1)) at_) :
 Good (jY pv pb db bb fb jg count B at_ d) (fZ (bG (ja pv) count) []):=by
 have hjv:∀x∈pv,JV pv x (bf pv x):=fun x hx=>jK (h.ent x hx)
 have hok:∀x∈pv,xX (pv.map (·.1)).length count [] x.1:=fun x hx=>hr.sD.all x.1 (List.mem_map.2 ⟨x,hx,rfl⟩)
 have hLn:(ja pv).Nodup:=hr.sD.nodup;have hLl:∀x∈ja pv,x<count:=fun x hx=>by
  obtain⟨p,hp,hx⟩:=List.mem_flatMap.1 hx;exact((hr.sD.all p hp).xs.2 x hx).1
 refine⟨?_,?_,?_,?_,?_⟩
 ·show fU (bG (ja pv) count).length d _;rw[h.heap];have h0:=((vH count).pops count (Nat.le_refl _)).2;rw[Nat.sub_self,List.drop_eq_nil_of_le (by simp)]at h0;have hsz:(lY count).size=count:=by simp[lY]
  have:=h0.gives (bG (ja pv) count) (vU _ _) (by simp) (by rw[AV,hsz,Nat.zero_add];exact yg _ _);rw[Nat.zero_add]at this;exact this
 ·show(fZ (bG (ja pv) count) []++(pv.map (bf pv)).flatMap (·.xs)).Perm (List.range count);rw[MX pv h.ent pv (fun x hx=>hx)];have hp:=l9 (bG (ja pv) count) [];rw[List.append_nil]at hp;refine(hp.append_right _).trans ?_;refine(List.perm_ext_iff_of_nodup ?_ List.nodup_range).2 fun x=>?_
  ·rw[List.nodup_append];refine⟨vU _ _,hLn,fun x hx y hy e=>?_⟩;subst e;exact((vI _ _ _).1 hx).2 hy
  ·rw[List.mem_append,vI,List.mem_range]
   constructor
   ·rintro (⟨h1,_⟩|h1)
    ·exact h1
    ·exact hLl x h1
   ·intro h1;by_cases hx:x∈ja pv
    ·exact Or.inr hx
    ·exact Or.inl ⟨h1,hx⟩
 ·intro x hx;rw[qB]at hx;exact(yT hr x (hx.resolve_right (by simp))).2
 ·intro v hv;obtain⟨x,hx,rfl⟩:=List.mem_map.1 hv;rw[(hjv x hx).name];exact(hok x hx).name
 ·intro v hv;obtain⟨x,hx,rfl⟩:=List.mem_map.1 hv;have j:=hjv x hx;have o:=hok x hx;refine⟨by rw[j.kept];exact o.kept.1,fun hl=>?_,fun u hu ho=>?_⟩
  ·rw[j.kept];rw[j.lost]at hl;exact o.lost (of_decide_eq_true hl)
  ·obtain⟨y,hy,rfl⟩:=List.mem_map.1 hu;obtain⟨hk,hvb⟩:=j.some _ ho;have hol:x.1.origin<pv.length:=by have:=o.org hk;simpa using this
   obtain⟨e1,e2⟩:=uj pv x.1.origin hol;have hj:=hr.join x.1 (List.mem_map.2 ⟨x,hx,rfl⟩) hk;rw[e1]at hj;have hyy:y=pv[x.1.origin]!:=by
    obtain⟨i,hi⟩:=List.mem_iff_getElem?.1 hy;have hz:pv[x.1.origin]? = some pv[x.1.origin]!:=by rw[getElem!_pos pv _ hol];exact List.getElem?_eq_getElem hol
    by_cases hii:i=x.1.origin
    ·subst hii;rw[hi]at hz;exact Option.some.inj hz
    ·exact absurd (by rw[<-hvb,(hjv y hy).vb]) (TK h.nodup hi hz hii)
   subst hyy;have oy:=(hok _ e2).plain hj.1;rw[j.kept,j.xs,(hjv _ e2).xs,oy.1,hj.2];exact⟨o.kept.2,(o.YP hk).2⟩
theorem FY{w w':World}{B:List UInt8}{count at_:Nat}{pv:List (aS×aF)}{pb db bb fb jg:Nat}{d:Array Int}(h:fB w w' B count at_ pv pb db bb fb jg d)(hr:pF B count (pv.map (·.1)) at_) :
 fJ (jY pv pb db bb fb jg count B at_ d):=by
 intro i hi ho x hx;have hi':i<pv.length:=by have:i<(pv.map (bf pv)).length:=hi;simpa using this
 have e:(jY pv pb db bb fb jg count B at_ d).af[i]! = bf pv pv[i]!:=by
  show(pv.map (bf pv))[i]! = _;rw[getElem!_pos _ i (by simpa using hi'),getElem!_pos pv i hi'];simp
 obtain⟨_,hm⟩:=uj pv i hi';rw[e]at ho hx;have j:=jK (pv:=pv) (h.ent _ hm);have hk:pv[i]!.1.kind≠0:=fun hk=>ho (j.none.2 hk)
 rw[j.xs,j.kept]at hx;have hxx:x∈pv[i]!.1.xs:=List.mem_of_mem_drop hx;have hmp:pv[i]!.1∈pv.map (·.1):=List.mem_map.2 ⟨_,hm,rfl⟩;have hlt:=((hr.sD.all _ hmp).xs.2 x hxx).1;show(fQ B at_ count)[x]! = aN.zero;rw[tJ B at_ count x hlt];refine(hr.free x hlt).resolve_left fun hu=>?_
 obtain⟨p,hp,hxp⟩:=List.mem_flatMap.1 hu;have aac:=List.mem_of_mem_take hxp;obtain⟨q,hq⟩:=List.mem_iff_getElem?.1 hp;have hql:=(List.getElem?_eq_some_iff.1 hq).1;have hqe:=(List.getElem?_eq_some_iff.1 hq).2;have hil:i<(pv.map (·.1)).length:=by simpa using hi'
 have hie:(pv.map (·.1))[i]=pv[i]!.1:=by rw[getElem!_pos pv i hi'];simp
 have hn:=hr.sD.nodup;rw[List.Nodup,List.pairwise_flatMap]at hn;have hpw:=List.pairwise_iff_getElem.1 hn.2;by_cases hqi:q=i
 ·subst hqi;rw[hie]at hqe;subst hqe;rw[if_neg hk]at hxp;have hnx:=(hr.sD.all _ hmp).xs.1;rw[<-List.take_append_drop pv[q]!.1.kept.length pv[q]!.1.xs,List.nodup_append]at hnx;exact hnx.2.2 x hxp x hx rfl
 ·rcases Nat.lt_or_gt_of_ne hqi with hlt'|hlt'
  ·have:=hpw q i hql hil hlt';rw[hqe,hie]at this;exact this x aac x hxx rfl
  ·have:=hpw i q hil hql hlt';rw[hqe,hie]at this;exact this x hxx x aac rfl
structure Told(s:St)(count:Nat)(v:aF):Prop where
 name:nameB v.name=true
 size:1<=s.size v/\s.size v<=200
 plain:v.org=none->v.lost=false/\s.size v=v.xs.length
 pos:v.org≠none->posOf s.names (s.aB v).name<count
 YP:v.org≠none->1<=v.xs.length/\v.xs.length<=s.size v/\v.kept.length<=v.xs.length
 lost:v.lost=true->v.kept=[]
 xs:v.xs.Nodup/\∀x∈v.xs,x<s.n
 kept:v.kept.Nodup/\∀x∈v.kept,x<s.size v
 n:1<=s.n/\s.n<=200
 cnt:count<=20
theorem WM{w:World}{s:St}{fr:List Nat}(h:ai w s)(hG:Good s fr)(hn:1<=s.n){v:aF}(hv:v∈s.af):Told s s.af.length v:=by
 obtain⟨om,oo,on,os⟩:=h.aB hv;have va:=h.af v hv;have vo:=h.af _ om;have hP:=hG.dN v hv;have h1:∀u:aF,dG w u->1<=u.xs.length:=fun u hu=>by
  have:=hu.pos;cases hx:u.xs with
  | nil=>exact absurd hx this
  | cons a b=>simp
 refine⟨hG.names v hv,⟨h1 _ vo,vo.small⟩,fun ho=>⟨(va.plain ho).2,by unfold St.size;rw[on ho]⟩,fun ho=>?_,fun ho=>⟨h1 v va,((hP.2.2 _ om (os ho)).2),va.room⟩,hP.2.1,⟨?_,(hG.lt.2 v hv)⟩,⟨hP.1,fun k hk=>?_⟩,⟨hn,h.disk.small⟩,h.few⟩
 ·obtain⟨i,hi⟩:=List.mem_iff_getElem?.1 om;obtain⟨hil,hie⟩:=List.getElem?_eq_some_iff.1 hi;have hs:s.names.Pairwise fun a b=>bW a b<0:=by
   unfold St.names;rw[List.pairwise_map];exact h.sorted
  have hnl:i<s.names.length:=by unfold St.names;rw[List.length_map];exact hil
  have e:s.names[i]! = (s.aB v).name:=by
   unfold St.names;rw[getElem!_pos _ i (by rw[List.length_map];exact hil),List.getElem_map,hie]
  rw[<-e,xU hs i hnl];exact hil
 ·have:=hG.nodup;rw[List.nodup_append]at this;have:=this.2.1;rw[List.Nodup,List.pairwise_flatMap]at this;exact this.1 v hv
 ·cases ho:v.org with
  | none=>
   have:=va.fE ho;rw[this]at hk;simp at hk
  | some o=>
   have hne:v.org≠none:=by simp[ho]
   exact(hP.2.2 _ om (os hne)).1 k hk
structure Seg(B:List UInt8)(at_:Nat)(X:List UInt8)(at1:Nat):Prop where
 le:at1<=B.length
 sum:at_+X.length=at1
 eq:B.drop at_=X++B.drop at1
theorem Seg.trans{B X Y:List UInt8}{a b c:Nat}(h:Seg B a X b)(k:Seg B b Y c):Seg B a (X++Y) c:=
 ⟨k.le,by rw[List.length_append];have:=h.sum;have:=k.sum;omega,by rw[h.eq,k.eq,List.append_assoc]⟩
theorem Seg.nil{B:List UInt8}{a:Nat}(h:a<=B.length):Seg B a [] a:=⟨h,rfl,rfl⟩
theorem Seg.take{B:List UInt8}{a n:Nat}(h:a+n<=B.length):Seg B a ((B.drop a).take n) (a+n):=by
 refine⟨h,by rw[List.length_take,List.length_drop];omega,?_⟩;rw[<-List.drop_drop,List.take_append_drop]
theorem TV(a b:UInt8):two (jl [a,b])=[a,b]:=by
 have ha:=a.toNat_lt;have hb:=b.toNat_lt;simp only[jl,two,List.foldl_cons,List.foldl_nil,List.cons.injEq,and_true]
 constructor<;>(apply UInt8.toNat_inj.1;rw[UInt8.toNat_ofNat'];omega)
theorem UW(a:UInt8):[UInt8.ofNat (jl [a])]=[a]:=by
 have ha:=a.toNat_lt;simp only[jl,List.foldl_cons,List.foldl_nil,List.cons.injEq,and_true];apply UInt8.toNat_inj.1;rw[UInt8.toNat_ofNat'];omega
theorem VQ{l:List UInt8}(h:l.length=2):∃a b,l=[a,b]:=by
 match l,h with
 | [a,b],_=>exact⟨a,b,rfl⟩
theorem TF{l:List UInt8}(h:l.length=1):∃a,l=[a]:=by
 match l,h with
 | [a],_=>exact⟨a,rfl⟩
theorem mY{B:List UInt8}{low high at_ x at1:Nat}(h:bJ B 2 low high at_=.ok (x,at1)):Seg B at_ (two x) at1:=by
 obtain⟨h1,_,_,h4,h5⟩:=dJ h;have s:=Seg.take (B:=B) (a:=at_) (n:=2) h1;obtain⟨a,b,e⟩:=VQ (l:=(B.drop at_).take 2) (by rw[List.length_take,List.length_drop];omega);unfold numAt at h4;rw[e]at h4 s;rw[h4,TV,h5];exact s
theorem nD{B:List UInt8}{low high at_ x at1:Nat}(h:bJ B 1 low high at_=.ok (x,at1)):Seg B at_ [UInt8.ofNat x] at1:=by
 obtain⟨h1,_,_,h4,h5⟩:=dJ h;have s:=Seg.take (B:=B) (a:=at_) (n:=1) h1;obtain⟨a,e⟩:=TF (l:=(B.drop at_).take 1) (by rw[List.length_take,List.length_drop];omega);unfold numAt at h4;rw[e]at h4 s;rw[h4,UW,h5];exact s
theorem EJ{B:List UInt8}{bound:Nat}:∀(c:Nat)(seen acc:List Nat)(at_:Nat)(xs:List Nat)(at1:Nat),at_<=B.length->cZ B bound c seen acc at_=.ok (xs,at1)->∃new,xs=acc++new/\new.length=c/\Seg B at_ (new.flatMap two) at1
 | 0,seen,acc,at_,xs,at1,hle,h=>by
  simp only[cZ,Except.ok.injEq,Prod.mk.injEq]at h;exact⟨[],by simp[h.1],rfl,by rw[<-h.2];exact Seg.nil hle⟩
 | c+1,seen,acc,at_,xs,at1,hle,h=>by
  unfold cZ at h;cases hs:bJ B 2 0 (bound-1) at_ with
  | error q=>rw[hs]at h;cases h
  | ok pr=>
   obtain⟨k,at2⟩:=pr;rw[hs]at h;have sg:=mY hs;by_cases hm:k∈seen++acc
   ·simp only[hm,if_true]at h;cases h
   ·simp only[hm,if_false]at h;obtain⟨new,h1,h2,h3⟩:=EJ c seen (acc++[k]) at2 xs at1 sg.le h;exact⟨k::new,by rw[h1,List.append_assoc];rfl,by simp[h2],by rw[List.flatMap_cons];exact sg.trans h3⟩
theorem CU{B:List UInt8}{bound low high at_ c at1 at2:Nat}{seen xs:List Nat}(h1:bJ B 2 low high at_=.ok (c,at1))(h2:cZ B bound c seen [] at1=.ok (xs,at2)):Seg B at_ (nums xs) at2:=by
 have s1:=mY h1;obtain⟨new,e1,e2,s2⟩:=EJ c seen [] at1 xs at2 s1.le h2;rw[List.nil_append]at e1;subst e1;unfold nums;rw[e2];exact s1.trans s2
theorem RV{B:List UInt8}{ahead name:ByteArray}{at_ at1:Nat}(h:lQ B ahead at_=.ok (name,at1)):Seg B at_ ([UInt8.ofNat name.size]++name.data.toList) at1:=by
 unfold lQ at h;cases hs:bJ B 1 1 10 at_ with
 | error q=>rw[hs]at h;cases h
 | ok pr=>
  obtain⟨n,at2⟩:=pr;rw[hs]at h;simp only at h;have s1:=nD hs;by_cases h1:at2+n<=B.length
  ·rw[if_pos h1]at h;by_cases h2:nameB (aH B at2 n)=true/\bW ahead (aH B at2 n)<0
   ·rw[if_pos h2]at h;simp only[Except.ok.injEq,Prod.mk.injEq]at h;have s2:=Seg.take (B:=B) (a:=at2) (n:=n) h1;have ed:name.data.toList=(B.drop at2).take n:=by rw[<-h.1];simp[aH]
    have es:name.size=n:=by
     have:name.size=name.data.toList.length:=by rw[Array.length_toList];rfl
     rw[this,ed,List.length_take,List.length_drop];omega
    rw[ed,es,<-h.2];exact s1.trans s2
   ·rw[if_neg h2]at h;cases h
  ·rw[if_neg h1]at h;cases h
def aS.bytes(p:aS):List UInt8:=
 ([UInt8.ofNat p.name.size]++p.name.data.toList)++([UInt8.ofNat p.kind]++(two p.size++(if p.kind=0 then nums p.xs else [UInt8.ofNat p.origin]++(nums p.xs++nums p.kept))))
theorem NY{B:List UInt8}{count bound:Nat}{used:List Nat}{ahead:ByteArray}{at_:Nat}{p:aS}{at1:Nat}(h:jw B count bound used ahead at_=.ok (p,at1)):Seg B at_ p.bytes at1:=by
 rw[yc]at h;cases hs:lQ B ahead at_ with
 | error q=>rw[hs]at h;cases h
 | ok pr=>
  obtain⟨name,a1⟩:=pr;rw[hs]at h;have s1:=RV hs;cases hs:bJ B 1 0 2 a1 with
  | error q=>simp only[hs]at h;cases h
  | ok pr=>
   obtain⟨kind,a2⟩:=pr;simp only[hs]at h;have s2:=nD hs;cases hs:bJ B 2 1 200 a2 with
   | error q=>simp only[hs]at h;cases h
   | ok pr=>
    obtain⟨size,a3⟩:=pr;simp only[hs]at h;have s3:=mY hs;by_cases hk0:kind=0
    ·rw[if_pos hk0]at h;unfold zL at h;cases hs:bJ B 2 size size a3 with
     | error q=>simp only[hs]at h;cases h
     | ok pr=>
      obtain⟨c,a4⟩:=pr;simp only[hs]at h;cases hs2:cZ B bound c used [] a4 with
      | error q=>simp only[hs2]at h;cases h
      | ok pr=>
       obtain⟨xs,a5⟩:=pr;simp only[hs2,Except.ok.injEq,Prod.mk.injEq]at h;have s4:=CU hs hs2;rw[<-h.1,<-h.2];subst hk0;exact s1.trans (s2.trans (s3.trans s4))
    ·rw[if_neg hk0]at h;unfold zG at h;cases hs:bJ B 1 0 (count-1) a3 with
     | error q=>simp only[hs]at h;cases h
     | ok pr=>
      obtain⟨origin,a4⟩:=pr;simp only[hs]at h;have s4:=nD hs;cases hs:bJ B 2 1 size a4 with
      | error q=>simp only[hs]at h;cases h
      | ok pr=>
       obtain⟨c,a5⟩:=pr;simp only[hs]at h;cases hs2:cZ B bound c used [] a5 with
       | error q=>simp only[hs2]at h;cases h
       | ok pr=>
        obtain⟨xs,a6⟩:=pr;simp only[hs2]at h;have s5:=CU hs hs2;cases hs3:bJ B 2 0 (if kind=2 then 0 else xs.length) a6 with
        | error q=>simp only[hs3]at h;cases h
        | ok pr=>
         obtain⟨k,a7⟩:=pr;simp only[hs3]at h;cases hs4:cZ B size k [] [] a7 with
         | error q=>simp only[hs4]at h;cases h
         | ok pr=>
          obtain⟨kept,a8⟩:=pr;simp only[hs4,Except.ok.injEq,Prod.mk.injEq]at h;have s6:=CU hs3 hs4;rw[<-h.1,<-h.2];unfold aS.bytes;simp only[hk0,if_false];exact s1.trans (s2.trans (s3.trans (s4.trans (s5.trans s6))))
theorem EW{B:List UInt8}{count bound:Nat}:∀(c:Nat)(acc:List aS)(at_:Nat)(ps:List aS)(at1:Nat),at_<=B.length->fF B count bound c acc at_=.ok (ps,at1)->∃new,ps=acc++new/\new.length=c/\Seg B at_ (new.flatMap aS.bytes) at1
 | 0,acc,at_,ps,at1,hle,h=>by
  simp only[fF,Except.ok.injEq,Prod.mk.injEq]at h;exact⟨[],by simp[h.1],rfl,by rw[<-h.2];exact Seg.nil hle⟩
 | c+1,acc,at_,ps,at1,hle,h=>by
  unfold fF at h;cases hs:jw B count bound (acc.flatMap (·.xs)) ((acc.getLast?.map (·.name)).getD ⟨#[]⟩) at_ with
  | error q=>rw[hs]at h;cases h
  | ok pr=>
   obtain⟨p,at2⟩:=pr;rw[hs]at h;simp only at h;have sg:=NY hs;obtain⟨new,h1,h2,h3⟩:=EW c (acc++[p]) at2 ps at1 sg.le h;exact⟨p::new,by rw[h1,List.append_assoc];rfl,by simp[h2],by rw[List.flatMap_cons];exact sg.trans h3⟩
theorem QD{B:List UInt8}{bound at_:Nat}{ps:List aS}{at1:Nat}(h:mP B bound at_=.ok (ps,at1)):Seg B at_ ([UInt8.ofNat ps.length]++ps.flatMap aS.bytes) at1:=by
 unfold mP at h;cases hs:bJ B 1 0 20 at_ with
 | error q=>rw[hs]at h;cases h
 | ok pr=>
  obtain⟨c,a1⟩:=pr;rw[hs]at h;simp only at h;have s1:=nD hs;obtain⟨new,e1,e2,s2⟩:=EW c [] a1 ps at1 s1.le h;rw[List.nil_append]at e1;subst e1;rw[e2];exact s1.trans s2
theorem EX(B:List UInt8)(i:Nat)(h:i+8<=B.length):(kZ B i).bytes=(B.drop i).take 8:=by
 have e:(kZ B i).bytes=[UInt8.ofNat ((B[i]!.toNat:Int)).toNat,UInt8.ofNat ((B[i+1]!.toNat:Int)).toNat,UInt8.ofNat ((B[i+2]!.toNat:Int)).toNat,UInt8.ofNat ((B[i+3]!.toNat:Int)).toNat,UInt8.ofNat ((B[i+4]!.toNat:Int)).toNat,UInt8.ofNat ((B[i+5]!.toNat:Int)).toNat,UInt8.ofNat ((B[i+6]!.toNat:Int)).toNat,UInt8.ofNat ((B[i+7]!.toNat:Int)).toNat]:=rfl;have k:∀b:UInt8,UInt8.ofNat ((b.toNat:Int)).toNat=b:=fun b=>by
  apply UInt8.toNat_inj.1;rw[UInt8.toNat_ofNat'];have:=b.toNat_lt;omega
 rw[e];simp only[k];rw[getElem!_pos B i (by omega),getElem!_pos B (i+1) (by omega),getElem!_pos B (i+2) (by omega),getElem!_pos B (i+3) (by omega),getElem!_pos B (i+4) (by omega),getElem!_pos B (i+5) (by omega),getElem!_pos B (i+6) (by omega),getElem!_pos B (i+7) (by omega)];rw[List.drop_eq_getElem_cons (by omega),List.drop_eq_getElem_cons (by omega),List.drop_eq_getElem_cons (by omega),List.drop_eq_getElem_cons (by omega),List.drop_eq_getElem_cons (by omega),List.drop_eq_getElem_cons (by omega),List.drop_eq_getElem_cons (by omega),List.drop_eq_getElem_cons (by omega)];rfl
theorem JY(B:List UInt8)(at_:Nat):∀n,at_+n*8<=B.length->Seg B at_ ((fQ B at_ n).flatMap aN.bytes) (at_+n*8)
 | 0,h=>by
  have:(fQ B at_ 0).flatMap aN.bytes=[]:=by simp[fQ]
  rw[this];simpa using Seg.nil (B:=B) (a:=at_) (by omega)
 | n+1,h=>by
  have ih:=JY B at_ n (by omega);have e:(fQ B at_ (n+1)).flatMap aN.bytes=(fQ B at_ n).flatMap aN.bytes++(kZ B (at_+n*8)).bytes:=by
   unfold fQ;rw[List.range_succ,List.map_append,List.flatMap_append];simp
  rw[e,EX B _ (by omega),show at_+(n+1)*8=at_+n*8+8 by omega];exact ih.trans (Seg.take (by omega))
end
section
open Go.RowKit Go.Sort
variable [DecidableEq aN] [Inhabited aN] [Inhabited aF] [Inhabited aS] [Inhabited ay] [Inhabited aV]
theorem nR(p:aS):p.ref.origin=none↔p.kind=0:=by
 unfold aS.ref;by_cases h:p.kind=0
 ·simp[h]
 ·simp[h]
theorem rO(p:aS)(h:p.kind≠0):p.ref.origin=some p.origin:=by
 unfold aS.ref;simp[h]
theorem EK{xs:List aV}{ps:List aS}(h:xs.map (·.e)=ps.map aS.ref)(ho:∀p∈ps,p.kind≠0->p.origin<ps.length):∀i,i<=ps.length->(dR xs i=none->jh ps ps=jh ps (ps.drop i))/\∀q,dR xs i=some q->jh ps ps=.error q
 | 0,_=>⟨fun _=>by rw[List.drop_zero],fun q hq=>by cases hq⟩
 | i+1,hi=>by
  obtain⟨h1,h2⟩:=EK h ho i (by omega);obtain⟨hl,_,he⟩:=yE h;have hd:ps.drop i=ps[i]!::ps.drop (i+1):=by rw[List.drop_eq_getElem_cons (by omega),getElem!_pos ps i (by omega)]
  have hm:ps[i]!∈ps:=by rw[getElem!_pos ps i (by omega)];exact List.getElem_mem _
  cases hj:dR xs i with
  | some q0=>
   have e:dR xs (i+1)=some q0:=by simp only[dR,hj]
   rw[e];exact⟨fun hc=>(by cases hc),fun q hq=>(by cases hq;exact h2 q0 hj)⟩
  | none=>
   have h3:=h1 hj;rw[hd,jh]at h3;by_cases hk:(ps[i]!).kind=0
   ·have e:dR xs (i+1)=none:=by simp only[dR,hj,he i (by omega),(nR _).2 hk]
    rw[e];rw[if_pos hk]at h3;exact⟨fun _=>h3,fun q hq=>by cases hq⟩
   ·have hol:=ho _ hm hk;have e:dR xs (i+1)=if (ps[(ps[i]!).origin]!).kind=0/\(ps[(ps[i]!).origin]!).size=(ps[i]!).size then none else some (ps[i]!).iT:=by
     simp only[dR,hj,he i (by omega),rO _ hk,he _ hol,nR];rfl
    rw[e];rw[if_neg hk]at h3;by_cases hc:(ps[(ps[i]!).origin]!).kind=0/\(ps[(ps[i]!).origin]!).size=(ps[i]!).size
    ·rw[if_pos hc]at h3 ⊢;exact⟨fun _=>h3,fun q hq=>by cases hq⟩
    ·rw[if_neg hc]at h3 ⊢;exact⟨fun hx=>(by cases hx),fun q hq=>by cases hq;exact h3⟩
theorem UO{xs:List aV}{ps:List aS}(h:xs.map (·.e)=ps.map aS.ref)(ho:∀p∈ps,p.kind≠0->p.origin<ps.length):(dR xs xs.length=none->jh ps ps=.ok ())/\∀q,dR xs xs.length=some q->jh ps ps=.error q:=by
 obtain⟨hl,_,_⟩:=yE h;obtain⟨h1,h2⟩:=EK h ho ps.length (Nat.le_refl _);rw[hl];refine⟨fun hn=>?_,h2⟩;rw[h1 hn,List.drop_length];rfl
theorem WV(B:List UInt8)(i:Nat)(h:i+8<=B.length):(kZ B i).text=aH B i 8:=by
 have h1:=EX B i h;rw[aN.text_eq];unfold aH;rw[<-h1];rfl
theorem zV(B:List UInt8)(i:Nat):(kZ B i).ok:=by
 have hb:∀x:UInt8,0<=(x.toNat:Int)/\(x.toNat:Int)<=255:=fun x=>by have:=x.toNat_lt;omega
 intro n hn;simp only[aN.ints,kZ,List.mem_cons,List.mem_nil_iff,or_false]at hn;rcases hn with rfl|rfl|rfl|rfl|rfl|rfl|rfl|rfl<;>exact hb _
theorem QJ(B:List UInt8)(i:Nat)(h:i+8<=B.length):aH B i 8=eP↔kZ B i=aN.zero:=by
 rw[<-WV B i h,<-aN.tV];exact⟨fun e=>aN.KU (zV B i) aN.Hg e,fun e=>by rw[e]⟩
theorem BL(B:List UInt8)(a2:Nat)(x:aV)(d:List ByteArray)(hn:x.e.kept.Nodup):∀m,m<=x.e.kept.length->∀i,i<m->x.e.kept[i]!<d.length->(oM B a2 x d m)[x.e.kept[i]!]! = aH B (a2+8*x.e.xs[i]!) 8
 | 0,_,i,hi,_=>by omega
 | m+1,hm,i,hi,hl=>by
  rw[tZ];have hlen:x.e.kept[i]!<(oM B a2 x d m).length:=by rw[iF];exact hl
  rw[getElem!_pos ((oM B a2 x d m).set _ _) _ (by rw[List.length_set];exact hlen),List.getElem_set];by_cases e:i=m
  ·subst e;rw[if_pos rfl]
  ·have hne:x.e.kept[m]!≠x.e.kept[i]!:=fun h=>e (by
    exfalso
    rw[getElem!_pos x.e.kept m (by omega),getElem!_pos x.e.kept i (by omega)]at h;exact List.pairwise_iff_getElem.1 hn i m (by omega) (by omega) (by omega) h.symm)
   rw[if_neg hne];have:=BL B a2 x d hn m (by omega) i (by omega) hl;rw[getElem!_pos (oM B a2 x d m) _ hlen]at this;exact this
theorem ED(B:List UInt8)(a2:Nat)(x:aV)(d:List ByteArray)(q:Nat)(hq:q<d.length):∀m,(∀i,i<m->x.e.kept[i]!≠q)->(oM B a2 x d m)[q]! = d[q]!
 | 0,_=>rfl
 | m+1,h=>by
  rw[tZ];have hlen:q<(oM B a2 x d m).length:=by rw[iF];exact hq
  rw[getElem!_pos ((oM B a2 x d m).set _ _) _ (by rw[List.length_set];exact hlen),List.getElem_set,if_neg (h m (by omega))];have:=ED B a2 x d q hq m (fun i hi=>h i (by omega));rw[getElem!_pos (oM B a2 x d m) _ hlen]at this;exact this
theorem xH(B:List UInt8)(a2:Nat)(l:List Nat)(i:Nat)(hi:i<l.length):(fA B a2 l)[i]! = aH B (a2+8*l[i]!) 8:=by
 unfold fA;rw[getElem!_pos _ i (by simpa using hi),List.getElem_map,getElem!_pos l i hi]
structure Ej(B:List UInt8)(n a1:Nat)(xs:List aV)(ps:List aS):Prop where
 eq:xs.map (·.e)=ps.map aS.ref
 sD:mG ps.length n ps
 join:dR xs xs.length=none
 len:a1+8*n<=B.length
theorem Ej.org{B:List UInt8}{n a1:Nat}{xs:List aV}{ps:List aS}(h:Ej B n a1 xs ps)(j:Nat)(hj:j<ps.length)(hk:(ps[j]!).kind≠0):(ps[j]!).origin<ps.length/\(ps[(ps[j]!).origin]!).kind=0/\(ps[(ps[j]!).origin]!).size=(ps[j]!).size:=by
 obtain⟨hl,_,he⟩:=yE h.eq;have hm:ps[j]!∈ps:=by rw[getElem!_pos ps j hj];exact List.getElem_mem hj
 have hol:=(h.sD.all _ hm).org hk;have h1:=Bj xs xs.length (Nat.le_refl _) h.join j (by omega) (ps[j]!).origin (by rw[he j hj];exact rO _ hk);rw[he _ hol,he j hj]at h1;exact⟨hol,(nR _).1 h1.1,h1.2⟩
theorem TM{w0 w':World}{B:List UInt8}{n a1:Nat}{xs:List aV}{ps:List aS}{rb:Nat}{r:aQ}(h:Ej B n a1 xs ps)(hT:vM w0 w' B a1 n xs rb r)(hnm:∀x∈xs,x.e.name≠⟨#[]⟩)(hX:VG n xs)(k:Nat)(hk:k<n):(aH B (a1+8*k) 8=r.blk k)↔(k∈jG ps\/kZ B (a1+k*8)=aN.zero):=by
 obtain⟨hl,_,he⟩:=yE h.eq;have hmp:∀j,j<ps.length->ps[j]!∈ps:=fun j hj=>by rw[getElem!_pos ps j hj];exact List.getElem_mem hj
 have hpick:∀j,j<ps.length->∀i,i<(ps[j]!).xs.length->(r.af[j]!).pick k i=if (ps[j]!).xs[i]! = k/\i<(if (ps[j]!).kind=0 then (ps[j]!).xs.length else (ps[j]!).kept.length) then some (aH B (a1+8*k) 8) else none:=fun j hj i hi=>by
  obtain⟨_,e2,e3,e4,e5,_⟩:=hT.each j (by omega);rw[he j hj]at e4 e5;have e4:(r.af[j]!).blocks=(ps[j]!).xs:=e4;have e5:(r.af[j]!).kept=(ps[j]!).kept:=e5;have hof:=EP xs n hX hnm j (by omega);rw[<-e2,he j hj,nR]at hof;unfold ay.pick;rw[e3,e4,e5];by_cases hx:(ps[j]!).xs[i]! = k
  ·rw[if_pos hx];by_cases hkd:(ps[j]!).kind=0
   ·rw[if_pos (hof.2 hkd),if_pos ⟨hx,by rw[if_pos hkd];exact hi⟩]
    congr 1
    unfold zh;rw[he j hj,(nR _).2 hkd];simp only;show(fA B a1 (ps[j]!).xs)[i]! = _;rw[xH B a1 _ i hi,hx]
   ·rw[if_neg (fun e=>hkd (hof.1 e))];by_cases hkl:i<(ps[j]!).kept.length
    ·rw[if_pos hkl,if_pos ⟨hx,by rw[if_neg hkd];exact hkl⟩]
     congr 1
     obtain⟨o1,o2,o3⟩:=h.org j hj hkd;have hpo:=h.sD.all _ (hmp j hj);have hpq:=h.sD.all _ (hmp _ o1);unfold zh;rw[he j hj,rO _ hkd];simp only;have hkk:(xs[j]!).e.kept=(ps[j]!).kept:=by rw[he j hj];rfl
     have hxx:(xs[j]!).e.xs=(ps[j]!).xs:=by rw[he j hj];rfl
     have hoo:(xs[(ps[j]!).origin]!).e.xs=(ps[(ps[j]!).origin]!).xs:=by rw[he _ o1];rfl
     have hg:=BL B a1 xs[j]! (fA B a1 (xs[(ps[j]!).origin]!).e.xs) (by rw[hkk];exact hpo.kept.1) (ps[j]!).kept.length (by rw[hkk];exact Nat.le_refl _) i hkl (by
      rw[hkk,fA,List.length_map,hoo,(hpq.plain o2).1,o3];exact hpo.kept.2 _ (by rw[getElem!_pos _ i hkl];exact List.getElem_mem hkl))
     rw[hkk,hxx,hx]at hg;exact hg
    ·rw[if_neg hkl,if_neg (fun hc=>hkl (by have:=hc.2;rw[if_neg hkd]at this;exact this))]
  ·rw[if_neg hx,if_neg (fun hc=>hx hc.1)]
 have IJ:∀j,j<ps.length->(r.af[j]!).blocks.length=(ps[j]!).xs.length:=fun j hj=>by
  obtain⟨_,_,_,e4,_⟩:=hT.each j (by omega);rw[e4,he j hj];rfl
 have hv:∀v∈r.af,∃j,j<ps.length/\v=r.af[j]!:=fun v hv=>by
  obtain⟨j,hj,e⟩:=List.getElem_of_mem hv;have:=hT.len;exact⟨j,by omega,by rw[getElem!_pos _ j hj];exact e.symm⟩
 have hsome:∀v∈r.af,∀t,v.blk k=some t->t=aH B (a1+8*k) 8/\k∈jG ps:=fun v hvm t ht=>by
  obtain⟨j,hj,rfl⟩:=hv v hvm;unfold ay.blk at ht;obtain⟨i,hi,hp⟩:=List.exists_of_findSome?_eq_some ht;have hi:=List.mem_range.1 hi;rw[IJ j hj]at hi;rw[hpick j hj i hi]at hp;by_cases hc:(ps[j]!).xs[i]! = k/\i<(if (ps[j]!).kind=0 then (ps[j]!).xs.length else (ps[j]!).kept.length)
  ·rw[if_pos hc]at hp;cases hp;refine⟨rfl,List.mem_flatMap.2 ⟨_,hmp j hj,?_⟩⟩;rw[<-hc.1,getElem!_pos _ i hi];exact List.mem_take_iff_getElem.2 ⟨i,by omega,rfl⟩
  ·rw[if_neg hc]at hp;cases hp
 by_cases hU:k∈jG ps
 ·refine⟨fun _=>Or.inl hU,fun _=>?_⟩;obtain⟨p,hp,hx⟩:=List.mem_flatMap.1 hU;obtain⟨j,hj,e⟩:=List.getElem_of_mem hp;have e:ps[j]! = p:=by rw[getElem!_pos ps j hj];exact e
  obtain⟨i,hi,hxi⟩:=List.mem_take_iff_getElem.1 hx;have hjr:j<r.af.length:=by have:=hT.len;omega
  have hmr:r.af[j]!∈r.af:=by rw[getElem!_pos _ j hjr];exact List.getElem_mem hjr
  have hne:(r.af[j]!).blk k≠none:=fun hn=>by
   unfold ay.blk at hn;have:=List.findSome?_eq_none_iff.1 hn i (List.mem_range.2 (by rw[IJ j hj,e];omega));rw[hpick j hj i (by rw[e];omega),e,if_pos ⟨by rw[getElem!_pos _ i (by omega)];exact hxi,by omega⟩]at this;cases this
  unfold aQ.blk;cases hf:r.af.findSome? (·.blk k) with
  | none=>exact absurd (List.findSome?_eq_none_iff.1 hf _ hmr) hne
  | some t=>
   obtain⟨v,hvm,ht⟩:=List.exists_of_findSome?_eq_some hf;rw[(hsome v hvm t ht).1];rfl
 ·have hnone:r.af.findSome? (·.blk k)=none:=List.findSome?_eq_none_iff.2 fun v hvm=>by
   cases hb:v.blk k with
   | none=>rfl
   | some t=>exact absurd (hsome v hvm t hb).2 hU
  unfold aQ.blk;rw[hnone];show aH B (a1+8*k) 8=eP↔_;have:=h.len;rw[QJ B _ (by omega),Nat.mul_comm 8 k];exact⟨Or.inr,fun hc=>hc.resolve_left hU⟩
theorem xB(B:List UInt8)(r:aQ)(a1 q:Nat)(bd:Option Nat)(k:Nat)(h:eF B r a1 k bd=some q):∀f,eF B r a1 (k+f) bd=some q
 | 0=>h
 | f+1=>by rw[<-Nat.add_assoc,qF,xB B r a1 q bd k h f];rfl
theorem y9(B:List UInt8)(r:aQ)(U:List Nat)(a1 n:Nat)(h:∀k,k<n->((aH B (a1+8*k) 8=r.blk k)↔(k∈U\/kZ B (a1+k*8)=aN.zero))):∀f k,k+f<=n->eF B r a1 k none=none->(lU B U a1 f k=.ok ()->eF B r a1 (k+f) none=none)/\∀q,lU B U a1 f k=.error q->eF B r a1 (k+f) none=some q
 | 0,k,_,hb=>⟨fun _=>hb,fun q hq=>by simp[lU]at hq⟩
 | f+1,k,hk,hb=>by
  unfold lU;have hs:=qF B r a1 k none;rw[hb]at hs;by_cases hc:k∈U\/kZ B (a1+k*8)=aN.zero
  ·rw[if_pos hc];have e:decide (aH B (a1+8*k) 8=r.blk k)=true:=decide_eq_true ((h k (by omega)).2 hc);rw[e]at hs;have:=y9 B r U a1 n h f (k+1) (by omega) hs;rw[show k+(f+1)=k+1+f by omega];exact this
  ·rw[if_neg hc];have e:decide (aH B (a1+8*k) 8=r.blk k)=false:=decide_eq_false (fun hx=>hc ((h k (by omega)).1 hx));rw[e]at hs;have hs:eF B r a1 (k+1) none=some (a1+8*k):=hs;have:=xB B r a1 _ none (k+1) hs f;refine⟨fun hx=>(by cases hx),fun q hq=>?_⟩;cases hq;rw[show k+(f+1)=k+1+f by omega,this,Nat.mul_comm 8 k]
def IE(w:World)(B:List UInt8)(e:Ending)(w':World):Prop:=
 match iO B with
 | .error q=>e=.returned (.tuple #[.pointer none,.int .i64 12,.int .i64 q])/\Same [] w w'
 | .ok (n,ps,at2)=>∃r xs,e=.returned (.tuple #[.pointer (some ⟨r.rb,0,none⟩),.int .i64 0,.int .i64 0])/\Ej B n at2 xs ps/\vM w w' B at2 n xs r.rb r/\Same [] w w'
def lF(w:World)(I:List UInt8)(e:Ending)(w':World):Prop:=
 if 2<=I.length/\sZ I=dF (bV I) then IE w (bV I) e w' else e=.returned (.tuple #[.pointer none,.int .i64 11,.int .i64 0])/\Same [] w w'
theorem IE.bad{w w':World}{B:List UInt8}{q:Nat}(h:iO B=.error q)(hS:Same [] w w'):IE w B (.returned (.tuple #[.pointer none,.int .i64 12,.int .i64 (q:Int)])) w':=by
 unfold IE;rw[h];exact⟨rfl,hS⟩
theorem JL(B:List UInt8)(a:Nat)(q:Nat):FC B a (some q)=(0,a,some q):=rfl
theorem yA(B:List UInt8)(a:Nat)(q:Nat):yx B a (some q)=(0,a,some q):=rfl
theorem Ed{B:List UInt8}{n count a1 a2:Nat}{b1 b2:Option Nat}(h1:FC B 4 none=(n,a1,b1))(h2:yx B a1 b1=(count,a2,b2)) :
 (∀q,b2=some q->bJ B 2 1 200 4=.error q\/((1<=n/\n<=200)/\bJ B 2 1 200 4=.ok (n,a1)/\bJ B 1 0 20 a1=.error q))/\(b2=none->(1<=n/\n<=200)/\count<=20/\bJ B 2 1 200 4=.ok (n,a1)/\bJ B 1 0 20 a1=.ok (count,a2)):=by
 unfold FC at h1;simp only[Prod.mk.injEq]at h1;obtain⟨e1,e2,e3⟩:=h1;cases hr:bJ B 2 1 200 4 with
 | error q=>
  have:=lK hr (decide (1<=(bF B 2 4 none).1/\(bF B 2 4 none).1<=200)) (by simp);rw[this]at e3;subst e3;rw[yA]at h2;simp only[Prod.mk.injEq]at h2;obtain⟨_,_,rfl⟩:=h2;exact⟨fun q' hq=>Or.inl (by cases hq;rfl),fun hn=>by cases hn⟩
 | ok pr=>
  obtain⟨v,at1⟩:=pr;obtain⟨f1,f2,f3⟩:=iZ hr;have f4:=(dJ hr).2.2.2.2;rw[f1]at e1 e2 e3;simp only at e1 e2 e3;subst e1 e2;have e:decide (1<=v/\v<=200)=true:=decide_eq_true ⟨f2,f3⟩;rw[e]at e3;have e3:none=b1:=e3;subst e3;unfold yx at h2;simp only[Prod.mk.injEq]at h2;obtain⟨g1,g2,g3⟩:=h2;have h6:at1=6:=by omega
  cases hc:bJ B 1 0 20 at1 with
  | error q=>
   have:=lK hc (decide ((bF B 1 at1 none).1<=20)) (by simp);rw[h6]at this g3;rw[this]at g3;subst g3;exact⟨fun q' hq=>Or.inr ⟨⟨f2,f3⟩,rfl,by cases hq;rfl⟩,fun hn=>by cases hn⟩
  | ok pr=>
   obtain⟨c,at2⟩:=pr;obtain⟨k1,k2,k3⟩:=iZ hc;rw[k1]at g1 g2 g3;simp only at g1 g2 g3;subst g1 g2;have e:decide (c<=20)=true:=decide_eq_true k3;rw[e]at g3;have g3:none=b2:=g3;subst g3;exact⟨fun q hq=>(by cases hq),fun _=>⟨⟨f2,f3⟩,k3,rfl,rfl⟩⟩
theorem bY.vC{w0 w:World}{sb:Nat}{B:List UInt8}{a a':Nat}{bd bd':Option Nat}(h:bY w0 w sb B a bd)(h':bY w0 w sb B a' bd'):bd=bd':=by
 have h1:=h.cell.cell? 2;have h2:=h'.cell.cell? 2;rw[h1]at h2;have h3:xI bd=xI bd':=by simpa using h2
 cases bd<;>cases bd'<;>simp only[xI]at h3
 ·rfl
 ·omega
 ·omega
 ·congr 1;omega
theorem VX(w:World)(base:Nat):Rows w base [] (gG [] 0) (List.replicate ([]:List aV).length (.slice none 0 0,[])):=
 ⟨fun j hj=>by simp at hj,fun j hj=>by simp at hj,fun j hj=>by simp at hj,fun j k hj=>by simp at hj,by simp,fun x hx=>by simp at hx,rfl,rfl⟩
theorem OL(x y:UInt8)(s:Nat)(hs:s<65536):([x,y]=two s)↔jl [x,y]=s:=by
 have hx:=x.toNat_lt;have hy:=y.toNat_lt;have hv:jl [x,y]=x.toNat*256+y.toNat:=by simp[jl]
 rw[hv];unfold two
 constructor
 ·intro h;simp only[List.cons.injEq,and_true]at h;obtain⟨h1,h2⟩:=h;have e1:=congrArg UInt8.toNat h1;have e2:=congrArg UInt8.toNat h2;simp at e1 e2;omega
 ·intro h;simp only[List.cons.injEq,and_true]
  constructor
  ·apply UInt8.toNat.inj;simp;omega
  ·apply UInt8.toNat.inj;simp;omega
theorem IA(w:World)(t:ByteArray)(m:Nat)(B:List UInt8)(hl:B.length<=140737488355328)(hm:t.size=m+2)(hm2:m<=140737488355328)(hB:t.extract 0 m=⟨B.toArray⟩)(hE:t.extract m t.size=⟨(two (dF B)).toArray⟩) :
 Calls prog 65 #[.string t] w (IE w B):=by
 refine PG w t m B hl hm hm2 hB hE (IE w B) ?_
 iterate 139 intro _
 intro wd sb hM
 obtain⟨a0,b0,hsc,hre⟩:∃a bd,bY w wd sb B a bd/\((∃q,gX B 4 0=.error q/\bd=some q)\/(gX B 4 0=.ok 4/\a=4/\bd=none)):=by
  rcases hM.out with⟨q,at_,h1,h2⟩|⟨h1,h2⟩
  ·exact⟨at_,some q,h2,Or.inl ⟨q,h1,rfl⟩⟩
  ·exact⟨4,none,h2,Or.inr ⟨h1.symm,rfl,rfl⟩⟩
 have hSw:∀{w1:World},Same [] w w1->∀{w2:World},Same [] w1 w2->Same [] w w2:=fun h1 _ h2=>h1.step h2 (by simp)
 refine TI _ _ _ _ _ _ _ _ _ _ _ _ _ _ _ _ _ _ _ _ _ _ _ _ _ _ _ _ _ _ _ _ _ _ _ _ _ _ _ _ _ _ _ _ _ _ _ _ _ _ _ _ _ _ _ _ _ _ _ _ _ _ _ _ _ _ _ _ _ _ _ _ _ _ _ _ _ _ _ _ _ _ _ _ _ _ _ _ _ _ _ _ _ _ _ _ _ _ _ _ _ _ _ _ _ _ _ _ _ _ _ _ _ _ _ _ _ _ _ _ _ _ _ _ _ _ _ _ _ _ _ _ _ _ _ _ _ _ _ w wd sb B a0 b0 hl hsc (IE w B) ?_
 iterate 135 intro _
 intro wd2 n count a1 a2 b1 b2 hh
 obtain⟨h1,h2,hn6,hc6,hsc2,hP,hS2⟩:=hh.out;have abl:=hsc.cell.lt;have hsz:=hS2.size;have aa5:=hP.lt;have hw0:=hsc.same.size;cases b2 with
 | some q=>
  have hrp:iO B=.error q:=by
   rcases hre with⟨q0,e1,rfl⟩|⟨e1,rfl,rfl⟩
   ·rw[JL]at h1;simp only[Prod.mk.injEq]at h1;obtain⟨_,_,rfl⟩:=h1;rw[yA]at h2;simp only[Prod.mk.injEq]at h2;obtain⟨_,_,h2⟩:=h2;cases h2;simp only[iO,e1]
   ·rcases (Ed h1 h2).1 q rfl with e2|⟨_,e2,e3⟩
    ·simp only[iO,e1,e2]
    ·simp only[iO,e1,e2,mP,e3]
  exact DY _ _ _ _ _ _ _ _ _ _ _ _ _ _ _ _ _ _ _ _ _ _ _ _ _ _ _ _ _ _ _ _ _ _ _ _ _ _ _ _ _ _ _ _ _ _ _ _ _ _ _ _ _ _ _ _ _ _ _ _ _ _ _ _ _ _ _ _ _ _ _ _ _ _ _ _ _ _ _ _ _ _ _ _ _ _ _ _ _ _ _ _ _ _ _ _ _ _ _ _ _ _ _ _ _ _ _ _ _ _ _ _ _ _ _ _ _ _ _ _ _ _ _ _ _ _ _ _ _ _ _ _ _ _ _ _ _ _ w wd2 sb B a2 q count hc6 hsc2 (IE w B) (fun w' hw=>IE.bad hrp (hSw hsc2.same hw))
 | none=>
  obtain⟨e1,rfl,rfl⟩:gX B 4 0=.ok 4/\a0=4/\b0=none:=by
   rcases hre with⟨q0,e1,rfl⟩|h
   ·rw[JL]at h1;simp only[Prod.mk.injEq]at h1;obtain⟨_,_,rfl⟩:=h1;rw[yA]at h2;simp only[Prod.mk.injEq]at h2;obtain⟨_,_,h2⟩:=h2;cases h2
   ·exact h
  obtain⟨hn,hc,e2,e3⟩:=(Ed h1 h2).2 rfl;have hrl:mP B n a1=fF B count n count [] a2:=by simp only[mP,e3]
  refine P6 _ _ _ _ _ _ _ _ _ _ _ _ _ _ _ _ _ _ _ _ _ _ _ _ _ _ _ _ _ _ _ _ _ _ _ _ _ _ _ _ _ _ _ _ _ _ _ _ _ _ _ _ _ _ _ _ _ _ _ _ _ _ _ _ _ _ _ _ _ _ _ _ _ _ _ _ _ _ _ _ _ _ _ _ _ _ _ _ _ _ _ _ _ _ _ _ _ _ _ _ _ _ _ _ _ _ _ _ _ _ _ _ _ _ _ _ _ _ _ _ _ _ _ _ _ _ _ _ _ _ _ _ _ _ _ w wd2 sb wd.heap.size wd2.heap.size B n count a2 hl hn hc ?_ (IE w B) ?_
  ·refine Or.inr ⟨[],[],.slice none 0 0,a2,rfl,rfl,⟨fun p hp=>by simp at hp,by simp,by simp⟩,rfl,?_⟩;refine⟨hsc2,VX _ _,fun x hx=>by simp at hx,hP,World.ownsRow_nil _ _ _ _,World.ownsRow_nil _ _ _ _,World.ownsRow_nil _ _ _ _,fun g hg=>(by cases hg),fun g hg=>(by cases hg),fun g hg=>(by cases hg),by omega,⟨aa5,by omega,hw0⟩,⟨Nat.le_refl _,by omega⟩⟩
  ·intro _ _ _ _ _ _ _ _ u11 u12 _ _ _ _ _ _ _ _ _ _ _ _ _ _ _ _ _ _ _ _ _ _ _ _ _ _ _ _ _ _ _ _ _ _ _ _ _ _ _ _ _ _ _ _ _ _ _ _ _ _ _ _ _ _ _ _ _ _ _ _ _ _ _ _ _ _ _ _ _ _ _ _ _ _ _ _ _ _ _ _ _ _ _ _ _ _ _ _ _ _ _ _ _ _ _ _ _ _ _ _ _ _ _ _ _ _ _ _ _ _ _ _ _ _ _ _ _ _ _ _ _ _ _ _ _ _ _ wd3 i hh3;obtain⟨hic,hR3,hlt3⟩:=hh3.out;have aad:∀q at_,fF B count n count [] a2=.error q->bY w wd3 sb B at_ (some q)->∀w',Same [] wd3 w'->IE w B (.returned (.tuple #[.pointer none,.int .i64 12,.int .i64 (q:Int)])) w':=fun q at_ hq hs w' hw=>
    IE.bad (by simp only[iO,e1,e2,hrl,hq]) (hSw hs.same hw)
   rcases hR3 with⟨q,at_,hq,hs⟩|⟨ps,xs,pv,at_,hpl,ht,hok,hxs,hI⟩
   ·exact LQ _ _ _ _ _ _ _ _ _ _ _ _ _ _ _ _ _ _ _ _ _ _ _ _ _ _ _ _ _ _ _ _ _ _ _ _ _ _ _ _ _ _ _ _ _ _ _ _ _ _ _ _ _ _ _ _ _ _ _ _ _ _ _ _ _ _ _ _ _ _ _ _ _ _ _ _ _ _ _ _ _ _ _ _ _ _ _ _ _ _ _ _ _ _ _ _ _ _ _ _ _ _ _ _ _ _ _ _ _ _ _ _ _ _ _ _ _ _ _ _ _ _ _ _ _ _ _ _ _ _ _ _ _ _ _ _ _ _ _ w wd3 sb B at_ q hs (IE w B) (aad q at_ hq hs)
   ·have hi:i=count:=by
     rcases Nat.lt_or_ge i count with hlt|hge
     ·obtain⟨q,at',_,hs⟩:=hlt3 hlt;have:=hs.vC hI.sc;cases this
     ·omega
    subst hi;rw[Nat.sub_self]at ht;have ht:fF B i n i [] a2=.ok (ps,at_):=ht.symm;have hok':=hok;rw[<-hpl]at hok';have ho:∀p∈ps,p.kind≠0->p.origin<ps.length:=fun p hp hk=>(hok'.all p hp).org hk
    obtain⟨j1,j2⟩:=UO hxs ho;obtain⟨hX,hnm⟩:=WX hxs hok hpl hc hn.2;have hrp:iO B=(match jh ps ps with|.error q=>.error q|.ok _=>match oz B (jG ps) n at_ with|.error q=>.error q|.ok (bl,at3)=>if at3=B.length then .ok (n,ps,at_) else .error at3):=by
     simp only[iO,e1,e2,hrl,ht];rfl
    have hfull:∀w1 r,dR xs xs.length=none->at_+8*n<=B.length->vM w w1 B at_ n xs wd.heap.size r->(lU B (jG ps) at_ n 0=.ok ()->eF B r at_ n none=none)/\∀q,lU B (jG ps) at_ n 0=.error q->eF B r at_ n none=some q:=fun w1 r hj hle hT=>by
     have:=y9 B r (jG ps) at_ n (fun k hk=>TM ⟨hxs,hok',hj,hle⟩ hT hnm hX k hk) n 0 (by omega) rfl;rw[Nat.zero_add]at this;exact this
    refine PS _ _ _ _ _ _ _ _ _ _ _ _ _ _ _ _ _ _ _ _ _ _ _ _ _ _ _ _ _ _ _ _ _ _ _ _ _ _ _ _ _ _ _ _ _ _ _ _ _ _ _ _ _ _ _ _ _ _ _ _ _ _ _ _ _ _ _ _ _ _ _ _ _ _ _ _ _ _ _ _ _ _ _ _ _ _ _ _ _ _ _ _ _ _ _ _ _ _ _ _ _ _ _ _ _ _ _ _ _ _ _ _ _ _ _ _ _ _ _ _ _ _ _ _ _ _ _ _ _ _ _ _ _ _ _ _ w wd3 sb wd.heap.size wd2.heap.size B n i at_ _ ps xs u11 u12 pv _ hl hn.2 hc hI hxs hok hpl (IE w B) ?_ ?_
    ·intro w1 w' q a hPp hs hw;refine IE.bad ?_ (hSw hs.same hw);rw[hrp];rcases hPp with⟨q',hj,hs'⟩|⟨hj,hle,hs'⟩|⟨r,hj,hle,hT,hs'⟩
     ·have:=hs.vC hs';cases this;rw[j2 _ hj]
     ·have:=hs.vC hs';cases this;rw[j1 hj];simp only;unfold oz;rw[if_neg (by omega)]
     ·have hbd:=hs.vC hs';obtain⟨f1,f2⟩:=hfull w1 r hj hle hT;rw[j1 hj];simp only;unfold oz;rw[if_pos (by omega)];cases hf:lU B (jG ps) at_ n 0 with
      | error q'=>
       rw[f2 _ hf]at hbd;cases hbd;rfl
      | ok u=>
       rw[f1 hf]at hbd;simp only[aX]at hbd;by_cases hz:at_+8*n=B.length
       ·rw[decide_eq_true hz]at hbd;cases hbd
       ·rw[decide_eq_false hz]at hbd;simp only[Bool.false_eq_true,if_false,Option.some.injEq]at hbd;simp only;rw[if_neg (by omega),hbd,Nat.mul_comm 8 n]
    ·intro w1 a hPp hs;rcases hPp with⟨q',hj,hs'⟩|⟨hj,hle,hs'⟩|⟨r,hj,hle,hT,hs'⟩
     ·have:=hs.vC hs';cases this
     ·have:=hs.vC hs';cases this
     ·have hbd:=hs.vC hs';obtain⟨f1,f2⟩:=hfull w1 r hj hle hT;unfold IE;have hok2:iO B=.ok (n,ps,at_):=by
       rw[hrp,j1 hj];simp only;unfold oz;rw[if_pos (by omega)];cases hf:lU B (jG ps) at_ n 0 with
       | error q'=>rw[f2 _ hf]at hbd;cases hbd
       | ok u=>
        rw[f1 hf]at hbd;simp only[aX]at hbd;by_cases hz:at_+8*n=B.length
        ·simp only;rw[if_pos (by omega)]
        ·rw[decide_eq_false hz]at hbd;cases hbd
      rw[hok2];refine⟨r,xs,by rw[hT.erb],⟨hxs,hok',hj,hle⟩,?_,hs.same⟩;rw[hT.erb];exact hT
theorem Ip(t:ByteArray)(m:Nat):t.extract 0 m=⟨(t.data.toList.take m).toArray⟩:=by
 apply ByteArray.ext;rw[ByteArray.data_extract];apply Array.toList_inj.1;simp[Array.toList_extract,List.extract_eq_take_drop]
theorem DK(w:World)(t:ByteArray)(hl:t.size<=140737488355328):Calls prog 65 #[.string t] w (lF w t.data.toList):=by
 have hsz:t.data.toList.length=t.size:=by rw[Array.length_toList];rfl
 by_cases h2:2<=t.size
 ·obtain⟨m,hm⟩:∃m,t.size=m+2:=⟨t.size-2,by omega⟩
  have hab:bV t.data.toList=t.data.toList.take m:=by unfold bV;rw[hsz,hm,Nat.add_sub_cancel]
  have hB:t.extract 0 m=⟨(bV t.data.toList).toArray⟩:=by rw[hab];exact Ip t m
  have hbl:(bV t.data.toList).length<=140737488355328:=by rw[hab,List.length_take];omega
  have htl:t.extract m t.size=⟨((t.data.toList.drop m).take 2).toArray⟩:=by
   apply ByteArray.ext;rw[ByteArray.data_extract];apply Array.toList_inj.1;rw[hm,Array.toList_extract,List.extract_eq_take_drop,Nat.add_sub_cancel_left]
  have hlen2:(t.data.toList.drop m).length=2:=by rw[List.length_drop];omega
  obtain⟨x,y,hxy⟩:∃x y,t.data.toList.drop m=[x,y]:=by
   match hq:t.data.toList.drop m,hlen2 with
   | [x,y],_=>exact⟨x,y,rfl⟩
  have hend:sZ t.data.toList=jl [x,y]:=by
   unfold sZ numAt;rw[hsz,hm,Nat.add_sub_cancel,hxy];rfl
  rw[hxy]at htl;have htl:t.extract m t.size=⟨([x,y]:List UInt8).toArray⟩:=htl;have hlt:dF (bV t.data.toList)<65536:=by have:=lM (bV t.data.toList);omega
  have heq:=OL x y _ hlt;by_cases hs:sZ t.data.toList=dF (bV t.data.toList)
  ·have hE:t.extract m t.size=⟨(two (dF (bV t.data.toList))).toArray⟩:=by rw[htl,heq.2 (by rw[<-hend];exact hs)]
   refine(IA w t m _ hbl hm (by omega) hB hE).mono fun e w' h=>?_
   unfold lF;rw[if_pos ⟨by omega,hs⟩];exact h
  ·have hE:t.extract m t.size≠⟨(two (dF (bV t.data.toList))).toArray⟩:=fun h=>hs (by
    rw[htl]at h;have h:[x,y]=two (dF (bV t.data.toList)):=by simpa using h
    rw[hend];exact heq.1 h)
   refine(MR w t m _ hbl hm (by omega) hB hE).mono fun e w' h=>?_
   unfold lF;rw[if_neg (fun hc=>hs hc.2)];exact h
 ·refine(Pj w t ?_).mono fun e w' h=>?_
  ·have:t.data.toList.length<2:=by omega
   match hq:t.data.toList,this with
   | [],_=>exact Or.inl (by apply ByteArray.ext;exact Array.toList_inj.1 hq)
   | [a],_=>exact Or.inr ⟨a,by apply ByteArray.ext;exact Array.toList_inj.1 hq⟩
  ·unfold lF;rw[if_neg (fun hc=>h2 (by rw[<-hsz];exact hc.1))];exact h
end
section
open Go.RowKit Go.Sort
variable [DecidableEq aN] [Inhabited aN] [Inhabited aF] [Inhabited aS]
theorem PZ{B:List UInt8}{at0:Nat}(h:gX B 4 0=.ok at0):Seg B 0 gq at0:=by
 have step:∀(n k a:Nat),gX B (n+1) k=.ok a->k+1<=B.length/\B[k]! = gq[k]!/\gX B n (k+1)=.ok a:=fun n k a h=>by
  unfold gX at h;by_cases h1:k+1<=B.length
  ·rw[if_pos h1]at h;by_cases h2:B[k]! = gq[k]!
   ·rw[if_pos h2]at h;exact⟨h1,h2,h⟩
   ·rw[if_neg h2]at h;cases h
  ·rw[if_neg h1]at h;cases h
 obtain⟨l0,b0,h⟩:=step 3 0 at0 h;obtain⟨l1,b1,h⟩:=step 2 1 at0 h;obtain⟨l2,b2,h⟩:=step 1 2 at0 h;obtain⟨l3,b3,h⟩:=step 0 3 at0 h;have e:at0=4:=by
  simp only[gX,Except.ok.injEq]at h;omega
 subst e;have sg:=Seg.take (B:=B) (a:=0) (n:=4) (by omega);have em:(B.drop 0).take 4=gq:=by
  rw[getElem!_pos B 0 (by omega)]at b0;rw[getElem!_pos B 1 (by omega)]at b1;rw[getElem!_pos B 2 (by omega)]at b2;rw[getElem!_pos B 3 (by omega)]at b3;rw[List.drop_eq_getElem_cons (by omega),List.drop_eq_getElem_cons (by omega),List.drop_eq_getElem_cons (by omega),List.drop_eq_getElem_cons (by omega)];simp only[List.take_succ_cons,List.take_zero,Nat.zero_add,b0,b1,b2,b3];rfl
 rw[em]at sg;exact sg
theorem RD{B:List UInt8}{count:Nat}{ps:List aS}{at2:Nat}(h:iO B=.ok (count,ps,at2)):B=gq++two count++[UInt8.ofNat ps.length]++ps.flatMap aS.bytes++(fQ B at2 count).flatMap aN.bytes:=by
 have hok:=vP h;unfold iO at h;cases hs:gX B 4 0 with
 | error q=>rw[hs]at h;cases h
 | ok at0=>
  rw[hs]at h;simp only at h;have s1:=PZ hs;cases hs:bJ B 2 1 200 at0 with
  | error q=>rw[hs]at h;cases h
  | ok pr=>
   obtain⟨c,at1⟩:=pr;rw[hs]at h;simp only at h;have s2:=mY hs;cases hl:mP B c at1 with
   | error q=>rw[hl]at h;cases h
   | ok pr=>
    obtain⟨qs,a2⟩:=pr;rw[hl]at h;simp only at h;have s3:=QD hl;cases hj:jh qs qs with
    | error q=>rw[hj]at h;cases h
    | ok uu=>
     rw[hj]at h;simp only at h;cases hd:oz B (jG qs) c a2 with
     | error q=>rw[hd]at h;cases h
     | ok pr=>
      obtain⟨bl,a3⟩:=pr;rw[hd]at h;simp only at h;by_cases he:a3=B.length
      ·rw[if_pos he]at h;simp only[Except.ok.injEq,Prod.mk.injEq]at h;obtain⟨rfl,rfl,rfl⟩:=h;have s4:=JY B a2 c (by rw[hok.len];exact Nat.le_refl _);have s:=((s1.trans s2).trans s3).trans s4;have e:=s.eq;rw[List.drop_zero,hok.len,List.drop_length,List.append_nil]at e;rw[<-List.append_assoc]at e;exact e
      ·rw[if_neg he]at h;cases h
theorem Aq{w w':World}{B:List UInt8}{count at_:Nat}{pv:List (aS×aF)}{pb db bb fb jg:Nat}{d:Array Int}(h:fB w w' B count at_ pv pb db bb fb jg d)(hr:pF B count (pv.map (·.1)) at_){x:aS×aF}(hx:x∈pv) :
 (x.1.kind=0->(jY pv pb db bb fb jg count B at_ d).aB (bf pv x)=bf pv x)/\(x.1.kind≠0->x.1.origin<pv.length/\pv[x.1.origin]!∈pv/\(jY pv pb db bb fb jg count B at_ d).aB (bf pv x)=bf pv pv[x.1.origin]!/\pv[x.1.origin]!.1.kind=0/\pv[x.1.origin]!.1.size=x.1.size):=by
 have hP:=rV h hr;have j:=jK (pv:=pv) (h.ent x hx);refine⟨fun hk=>?_,fun hk=>?_⟩
 ·unfold St.aB;rw[j.none.2 hk]
 ·have hol:x.1.origin<pv.length:=by have:=(hr.sD.all x.1 (List.mem_map.2 ⟨x,hx,rfl⟩)).org hk;simpa using this
  obtain⟨e1,e2⟩:=uj pv x.1.origin hol;have hj:=hr.join x.1 (List.mem_map.2 ⟨x,hx,rfl⟩) hk;rw[e1]at hj;refine⟨hol,e2,?_,hj⟩;have jy:=jK (pv:=pv) (h.ent _ e2);have ho:(bf pv x).org=some pv[x.1.origin]!.2.vb:=by unfold bf;rw[if_neg hk]
  unfold St.aB;rw[ho];show(jY pv pb db bb fb jg count B at_ d).tq pv[x.1.origin]!.2.vb=_;rw[<-jy.vb];exact hP.tq (List.mem_map.2 ⟨_,e2,rfl⟩)
theorem H8{w w':World}{B:List UInt8}{count at_:Nat}{pv:List (aS×aF)}{pb db bb fb jg:Nat}{d:Array Int}(h:fB w w' B count at_ pv pb db bb fb jg d)(hr:pF B count (pv.map (·.1)) at_){x:aS×aF}(hx:x∈pv) :
 iD (jY pv pb db bb fb jg count B at_ d) (bf pv x)=x.1.bytes:=by
 have hP:=rV h hr;have j:=jK (pv:=pv) (h.ent x hx);have o:=hr.sD.all x.1 (List.mem_map.2 ⟨x,hx,rfl⟩);obtain⟨g0,g1⟩:=Aq h hr hx;by_cases hk:x.1.kind=0
 ·have ho:=j.none.2 hk;have hkn:(bf pv x).jv=x.1.kind:=by unfold aF.jv;rw[j.lost,ho,hk];rfl
  have hsz:(jY pv pb db bb fb jg count B at_ d).size (bf pv x)=x.1.size:=by
   unfold St.size;rw[g0 hk,j.xs];exact(o.plain hk).1
  unfold iD headB aS.bytes;rw[ho,hkn,hsz,j.name,j.xs,if_pos hk];simp only[List.append_assoc]
 ·obtain⟨hol,hym,rq,hyk,hys⟩:=g1 hk;have jy:=jK (pv:=pv) (h.ent _ hym);have oy:=hr.sD.all _ (List.mem_map.2 ⟨_,hym,rfl⟩);cases hq:(bf pv x).org with
  | none=>exact absurd (j.none.1 hq) hk
  | some b=>
   have hkn:(bf pv x).jv=x.1.kind:=by
    unfold aF.jv;rw[j.lost,hq];have:=o.kind;by_cases h2:x.1.kind=2
    ·simp[h2]
    ·simp[h2];omega
   have hsz:(jY pv pb db bb fb jg count B at_ d).size (bf pv x)=x.1.size:=by
    unfold St.size;rw[rq,jy.xs,(oy.plain hyk).1,hys]
   have hpos:posOf (jY pv pb db bb fb jg count B at_ d).names ((jY pv pb db bb fb jg count B at_ d).aB (bf pv x)).name=x.1.origin:=by
    rw[rq];have hs:(jY pv pb db bb fb jg count B at_ d).names.Pairwise fun a b=>bW a b<0:=by
     unfold St.names;rw[List.pairwise_map];exact hP.sorted
    have hnl:x.1.origin<(jY pv pb db bb fb jg count B at_ d).names.length:=by
     show x.1.origin<((pv.map (bf pv)).map (·.name)).length;simpa using hol
    have e:(jY pv pb db bb fb jg count B at_ d).names[x.1.origin]! = (bf pv pv[x.1.origin]!).name:=by
     show((pv.map (bf pv)).map (·.name))[x.1.origin]! = _;rw[getElem!_pos _ _ (by simpa using hol),getElem!_pos pv _ hol];simp
    rw[<-e];exact xU hs _ hnl
   unfold iD headB aS.bytes;rw[hq,hkn,hsz,j.name,j.xs,j.kept,if_neg hk,hpos];simp only[List.append_assoc]
theorem JF{w w':World}{B:List UInt8}{count at_:Nat}{pv:List (aS×aF)}{pb db bb fb jg:Nat}{d:Array Int}(h:fB w w' B count at_ pv pb db bb fb jg d)(hp:iO B=.ok (count,pv.map (·.1),at_)) :
 qh (jY pv pb db bb fb jg count B at_ d)=B:=by
 have hr:=vP hp;have e:=RD hp;have el:mQ (jY pv pb db bb fb jg count B at_ d) (pv.map (bf pv))=(pv.map (·.1)).flatMap aS.bytes:=by
  unfold mQ;have:∀l:List (aS×aF),(∀x∈l,x∈pv)->(l.map (bf pv)).flatMap (iD (jY pv pb db bb fb jg count B at_ d))=(l.map (·.1)).flatMap aS.bytes:=by
   intro l
   induction l with
   | nil=>intro _;rfl
   | cons x r ih=>
    intro hl;rw[List.map_cons,List.map_cons,List.flatMap_cons,List.flatMap_cons,ih (fun y hy=>hl y (by simp[hy])),H8 h hr (hl x (by simp))]
  exact this pv fun x hx=>hx
 have e2:qh (jY pv pb db bb fb jg count B at_ d)=gq++two count++[UInt8.ofNat (pv.map (bf pv)).length]++mQ (jY pv pb db bb fb jg count B at_ d) (pv.map (bf pv))++(fQ B at_ count).flatMap aN.bytes:=rfl;rw[e2,el,List.length_map];rw[List.length_map]at e;exact e.symm
end
section
open Go.RowKit Go.Sort
variable [DecidableEq aN] [Inhabited aN] [Inhabited aF] [Inhabited aS] [Inhabited ay] [Inhabited aV]
theorem UK{l:List Nat}{q:Nat}(h:q∈l):l.idxOf q<l.length/\l[l.idxOf q]! = q:=by
 have h1:=List.idxOf_lt_length_of_mem h;refine⟨h1,?_⟩;rw[getElem!_pos l _ h1];exact List.getElem_idxOf h1
theorem U5(xs:List aV)(i:Nat)(hi:i<xs.length)(ho:(xs[i]!).e.origin=none):(gG xs xs.length)[i]! = ⟨#[]⟩:=by
 unfold gG;rw[getElem!_pos (List.map _ _) i (by simpa using hi)];simp only[List.getElem_map,List.getElem_range,if_pos hi,ho]
theorem VE(xs:List aV)(i o:Nat)(hi:i<xs.length)(ho:(xs[i]!).e.origin=some o):(gG xs xs.length)[i]! = (xs[o]!).e.name:=by
 unfold gG;rw[getElem!_pos (List.map _ _) i (by simpa using hi)];simp only[List.getElem_map,List.getElem_range,if_pos hi,ho]
theorem MV{w w' w1 w2:World}{B:List UInt8}{n at_:Nat}{pv:List (aS×aF)}{ps:List aS}{pb db bb fb jg:Nat}{d:Array Int}{xs:List aV}{rb:Nat}{r:aQ}(h:fB w w' B n at_ pv pb db bb fb jg d)(hps:pv.map (·.1)=ps)(hp:iO B=.ok (n,ps,at_))(hA:Ej B n at_ xs ps)(hT:vM w1 w2 B at_ n xs rb r):Rel (jY pv pb db bb fb jg n B at_ d) r:=by
 subst hps;have hr:=vP hp;obtain⟨hl,_,he⟩:=yE hA.eq;have hlp:(pv.map (·.1)).length=pv.length:=by simp
 have hbl:∀k,k<n->(jY pv pb db bb fb jg n B at_ d).bl[k]! = kZ B (at_+k*8)/\(kZ B (at_+k*8)).text=aH B (at_+8*k) 8:=fun k hk=>by
  have:=hA.len;refine⟨tJ B at_ n k hk,?_⟩;rw[WV B _ (by omega),Nat.mul_comm 8 k]
 refine⟨hT.en,by rw[hT.len,hl,hlp];show _=(pv.map (bf pv)).length;simp,fun i hi=>?_⟩;have hi':i<pv.length:=by have:i<(pv.map (bf pv)).length:=hi;simpa using this
 have ev:(jY pv pb db bb fb jg n B at_ d).af[i]! = bf pv pv[i]!:=by
  show(pv.map (bf pv))[i]! = _;rw[getElem!_pos _ i (by simpa using hi'),List.getElem_map,getElem!_pos pv i hi']
 obtain⟨aa6,hmem⟩:=uj pv i hi';rw[ev];have j:=jK (pv:=pv) (h.ent _ hmem);obtain⟨o1,o2⟩:=Aq h hr hmem;obtain⟨t1,t2,t3,t4,t5,t6⟩:=hT.each i (by rw[hl,hlp];exact hi');have hei:(xs[i]!).e=(pv[i]!).1.ref:=by rw[he i (by rw[hlp];exact hi'),aa6]
 have hok:=hr.sD.all (pv[i]!).1 (List.mem_map.2 ⟨_,hmem,rfl⟩);rw[hei]at t1 t4 t5 t6;have aae:((xs[i]!).e.origin=none->(gG xs xs.length)[i]! = ⟨#[]⟩)/\∀o,(xs[i]!).e.origin=some o->(gG xs xs.length)[i]! = (xs[o]!).e.name:=by
  have hix:i<xs.length:=by rw[hl,hlp];exact hi'
  exact⟨fun e=>U5 xs i hix e,fun o e=>VE xs i o hix e⟩
 by_cases hk:(pv[i]!).1.kind=0
 ·have hn:(bf pv pv[i]!).org=none:=j.none.2 hk;have rq:=o1 hk;have hsz:(jY pv pb db bb fb jg n B at_ d).size (bf pv pv[i]!)=(pv[i]!).1.xs.length:=by unfold St.size;rw[rq,j.xs]
  have hd:(r.af[i]!).data=fA B at_ (pv[i]!).1.xs:=by
   rw[t3];unfold zh;rw[hei,(nR _).2 hk];rfl
  have hlook:∀q,q<(pv[i]!).1.xs.length->(jY pv pb db bb fb jg n B at_ d).look (bf pv pv[i]!) q=kZ B (at_+(pv[i]!).1.xs[q]! * 8)/\(pv[i]!).1.xs[q]!<n:=fun q hq=>by
   have hx:(pv[i]!).1.xs[q]!<n:=(hok.xs.2 _ (by rw[getElem!_pos _ q hq];exact List.getElem_mem hq)).1;refine⟨?_,hx⟩;unfold St.look St.holder;rw[j.kept,(hok.plain hk).2,if_neg (by simp),rq,j.xs];exact(hbl _ hx).1
  refine⟨by rw[t1,j.name];rfl,?_,by rw[hd,hsz,fA,List.length_map],by rw[t4,j.xs];rfl,by rw[t5,j.kept];rfl,by rw[t6,j.lost];rfl,fun _ q hq=>?_,fun _ q hq=>?_⟩
  ·rw[if_pos hn,t2];exact aae.1 (by rw[hei];exact(nR _).2 hk)
  ·rw[hsz]at hq;rw[(hlook q hq).1];exact zV B _
  ·rw[hsz]at hq;obtain⟨e1,e2⟩:=hlook q hq;rw[hd,xH B at_ _ q hq,e1,(hbl _ e2).2]
 ·have hn:(bf pv pv[i]!).org≠none:=fun e=>hk (j.none.1 e)
  obtain⟨p1,p2,rq,p4,p5⟩:=o2 hk;have jo:=jK (pv:=pv) (h.ent _ p2);have aaf:=hr.sD.all _ (List.mem_map.2 ⟨_,p2,rfl⟩);obtain⟨hfo,_⟩:=uj pv (pv[i]!).1.origin p1;have heo:(xs[(pv[i]!).1.origin]!).e=(pv[(pv[i]!).1.origin]!).1.ref:=by rw[he _ (by rw[hlp];exact p1),hfo]
  have hsz:(jY pv pb db bb fb jg n B at_ d).size (bf pv pv[i]!)=(pv[(pv[i]!).1.origin]!).1.xs.length:=by unfold St.size;rw[rq,jo.xs]
  have hso:(pv[(pv[i]!).1.origin]!).1.xs.length=(pv[i]!).1.size:=by rw[(aaf.plain p4).1,p5]
  have hd:(r.af[i]!).data=oM B at_ xs[i]! (fA B at_ (pv[(pv[i]!).1.origin]!).1.xs) (pv[i]!).1.kept.length:=by
   rw[t3];unfold zh;rw[hei,rO _ hk];simp only;rw[heo];rfl
  have hkk:(xs[i]!).e.kept=(pv[i]!).1.kept:=by rw[hei];rfl
  have hxx:(xs[i]!).e.xs=(pv[i]!).1.xs:=by rw[hei];rfl
  have hlook:∀q,q<(pv[(pv[i]!).1.origin]!).1.xs.length->∃k,k<n/\(jY pv pb db bb fb jg n B at_ d).look (bf pv pv[i]!) q=kZ B (at_+k*8)/\(r.af[i]!).data[q]! = aH B (at_+8*k) 8:=fun q hq=>by
   unfold St.look St.holder;rw[j.kept,j.xs,rq,jo.xs,hd];by_cases hqk:q∈(pv[i]!).1.kept
   ·obtain⟨a1,a2⟩:=UK hqk;have hxl:(pv[i]!).1.kept.idxOf q<(pv[i]!).1.xs.length:=by have:=hok.AA;omega
    have hx:(pv[i]!).1.xs[(pv[i]!).1.kept.idxOf q]!<n:=(hok.xs.2 _ (by rw[getElem!_pos (pv[i]!).1.xs _ hxl];exact List.getElem_mem hxl)).1;rw[if_pos hqk];refine⟨_,hx,(hbl _ hx).1,?_⟩;have hg:=BL B at_ xs[i]! (fA B at_ (pv[(pv[i]!).1.origin]!).1.xs) (by rw[hkk];exact hok.kept.1) (pv[i]!).1.kept.length (by rw[hkk];exact Nat.le_refl _) ((pv[i]!).1.kept.idxOf q) a1 (by rw[hkk,a2,fA,List.length_map];exact hq);rw[hkk,hxx,a2]at hg;exact hg
   ·have hx:(pv[(pv[i]!).1.origin]!).1.xs[q]!<n:=(aaf.xs.2 _ (by rw[getElem!_pos _ q hq];exact List.getElem_mem hq)).1;rw[if_neg hqk];refine⟨_,hx,(hbl _ hx).1,?_⟩;rw[ED B at_ xs[i]! _ q (by rw[fA,List.length_map];exact hq) _ (fun a ha e=>?_),xH B at_ _ q hq];rw[hkk,getElem!_pos _ a ha]at e;exact hqk (by rw[<-e];exact List.getElem_mem ha)
  refine⟨by rw[t1,j.name];rfl,?_,by rw[hd,iF,hsz,fA,List.length_map],by rw[t4,j.xs];rfl,by rw[t5,j.kept];rfl,by rw[t6,j.lost];rfl,fun _ q hq=>?_,fun _ q hq=>?_⟩
  ·rw[if_neg hn,t2,aae.2 _ (by rw[hei];exact rO _ hk),rq,jo.name,heo];rfl
  ·rw[hsz]at hq;obtain⟨k,_,e2,_⟩:=hlook q hq;rw[e2];exact zV B _
  ·rw[hsz]at hq;obtain⟨k,e1,e2,e3⟩:=hlook q hq;rw[e3,e2,(hbl k e1).2]
end
section
open Go.RowKit Go.Sort
variable [DecidableEq aN] [Inhabited aN] [Inhabited aF] [Inhabited aS]
theorem Eo:aN.zero.fits:=by
 intro n hn;simp[aN.Ei,aN.zero]at hn;omega
theorem fits_all{w:World}{s:St}{fr:List Nat}(h:ai w s)(hG:Good s fr)(hS:fJ s)(hl:∀i,i<s.af.length->(s.af[i]!).lost=false->∀q,q<s.size (s.af[i]!)->(s.look (s.af[i]!) q).fits):∀x,x<s.n->(s.bl[x]!).fits:=fun x hx=>by
 have hm:=hG.parts.mem_iff.2 (List.mem_range.2 hx);rcases List.mem_append.1 hm with hm|hm
 ·rw[hG.zero x hm];exact Eo
 ·obtain⟨v,hv,hxv⟩:=List.mem_flatMap.1 hm;obtain⟨i,hi⟩:=List.mem_iff_getElem?.1 hv;obtain⟨hil,hie⟩:=List.getElem?_eq_some_iff.1 hi;have ev:s.af[i]! = v:=by rw[getElem!_pos _ i hil];exact hie
  have va:=h.af v hv;obtain⟨om,oo,on,os⟩:=h.aB hv;obtain⟨p,hp⟩:=List.mem_iff_getElem?.1 hxv;obtain⟨hpl,hpe⟩:=List.getElem?_eq_some_iff.1 hp;have epx:v.xs[p]! = x:=by rw[getElem!_pos _ p hpl];exact hpe
  by_cases ho:v.org=none
  ·have:=hl i hil (by rw[ev];exact(va.plain ho).2) p (by rw[ev];unfold St.size;rw[on ho];exact hpl);rw[ev]at this;have eh:s.look v p=s.bl[x]!:=by
    unfold St.look St.holder;rw[va.fE ho,on ho];simp only[List.not_mem_nil,if_false,epx]
   rw[eh]at this;exact this
  ·have hP:=hG.dN v hv;by_cases hpk:p<v.kept.length
   ·have hnl:v.lost=false:=by
     cases hlo:v.lost with
     | false=>rfl
     | true=>rw[hP.2.1 hlo]at hpk;simp at hpk
    have hkm:v.kept[p]∈v.kept:=List.getElem_mem hpk;have hks:=(hP.2.2 _ om (os ho)).1 _ hkm;have:=hl i hil (by rw[ev];exact hnl) v.kept[p] (by rw[ev];exact hks);rw[ev]at this;have eh:s.look v v.kept[p]=s.bl[x]!:=by
     unfold St.look St.holder;rw[if_pos hkm];have ei:v.kept.idxOf v.kept[p]=p:=hP.1.idxOf_getElem p hpk;rw[ei,epx]
    rw[eh]at this;exact this
   ·have hz:=hS i hil (by rw[ev];exact ho) x (by
     rw[ev];refine List.mem_iff_getElem?.2 ⟨p-v.kept.length,?_⟩;rw[List.getElem?_drop,show v.kept.length+(p-v.kept.length)=p by omega];exact hp)
    rw[hz];exact Eo
theorem EQ{w:World}{s:St}{fr:List Nat}(h:ai w s)(hG:Good s fr)(hn:1<=s.n)(hf:∀x,x<s.n->(s.bl[x]!).fits):mD s w:=by
 have hn2:=h.disk.small;refine⟨h,fun v hv=>?_,fun v hv x hx=>?_,fun v hv x hx=>?_,hf⟩
 ·have:=hG.names v hv;simp only[nameB,Bool.and_eq_true,decide_eq_true_eq]at this;exact this.1.2
 ·have:=hG.lt.2 v hv x hx;omega
 ·have ht:=WM h hG hn hv;have:=ht.kept.2 x hx;have:=ht.size.2;omega
end
section
open Go.RowKit Go.Sort
variable [DecidableEq aN] [Inhabited aN] [Inhabited aF] [Inhabited aS] [Inhabited ay] [Inhabited aV]
structure Nr(w w':World)(I:List UInt8)(bb:Nat):Prop where
 ex:∃s fr r,dA w' bb s fr r/\kT s=I/\mD s w'/\1<=s.n/\∀k∈bb::(s.foot++r.foot),w.heap.size<=k
 same:Same [] w w'
inductive oH (w:World) (I:List UInt8) (e:Ending) (w':World):Prop where
 | no (h:e=.returned (.tuple #[.pointer none,.bool true])) (why:¬(2<=I.length/\sZ I=dF (bV I))\/∃q,iO (bV I)=.error q) (same:Same [] w w'):oH w I e w'
 | ok (bb:Nat) (h:e=.returned (.tuple #[.pointer (some ⟨bb,0,none⟩),.bool true])) (ok:Nr w w' I bb):oH w I e w'
theorem Ec(w:World)(b off:Nat)(I:List UInt8)(cap:Nat)(c z:Int)(hc0:0<=c)(hc:c<=13)(hcell:∀i,i<I.length->w.cell? ⟨b,off+i,none⟩=some (bT I[i]!))
 (h1:Calls prog 64 #[.slice (some ⟨b,off,none⟩) I.length cap] w fun e w'=>e=.returned (.tuple #[.pointer none,.int .i64 c,.int .i64 z])/\Same [] w w')
 (h2:∀W,Calls prog 65 #[.string ⟨I.toArray⟩] W fun e w'=>e=.returned (.tuple #[.pointer none,.int .i64 c,.int .i64 z])/\Same [] W w') :
 Calls prog 32 #[.slice (some ⟨b,off,none⟩) I.length cap] w fun e w'=>e=.returned (.tuple #[.pointer none,.bool true])/\Same [] w w':=by
 have hcv:=jF w b off I.length I rfl hcell cap;have hnum:=fun W=>num_int c W hc0 hc
 generalize (⟨I.toArray⟩:ByteArray)=t at *;clear hcell
 go_enter func32,ntmps32
 go_wp2_with (first|(go_at_call 64;refine h1.mono ?_;rintro e w1 ⟨rfl,S1⟩;dsimp only)|(go_at_call 65;refine(h2 _).mono ?_;rintro e w2 ⟨rfl,S2⟩;dsimp only)|(go_at_call 26;refine(hnum _).mono ?_;rintro e w3 ⟨rfl,hw⟩;obtain rfl:=hw.symm;dsimp only))
 go_ret2
 exact⟨rfl,S1.step S2 (by simp)⟩
theorem NJ(w:World)(b off:Nat)(I:List UInt8)(cap:Nat)(P1:Nat->World->Prop)(P2:World->Nat->World->Prop)(hcell:∀i,i<I.length->w.cell? ⟨b,off+i,none⟩=some (bT I[i]!))
 (h1:Calls prog 64 #[.slice (some ⟨b,off,none⟩) I.length cap] w fun e w'=>∃pb,e=.returned (.tuple #[.pointer (some ⟨pb,0,none⟩),.int .i64 0,.int .i64 0])/\P1 pb w')
 (h2:∀W,Calls prog 65 #[.string ⟨I.toArray⟩] W fun e w'=>∃rb,e=.returned (.tuple #[.pointer (some ⟨rb,0,none⟩),.int .i64 0,.int .i64 0])/\P2 W rb w') :
 Calls prog 32 #[.slice (some ⟨b,off,none⟩) I.length cap] w fun e w'=>∃pb rb w1 w2,e=.returned (.tuple #[.pointer (some ⟨w2.heap.size,0,none⟩),.bool true])/\Hid (P1 pb w1)/\Hid (P2 w1 rb w2)/\w'=w2.alloc (.cells #[.pointer (some ⟨pb,0,none⟩),.pointer (some ⟨rb,0,none⟩)] 67):=by
 have hcv:=jF w b off I.length I rfl hcell cap;have hnum:=fun W=>num_int 0 W (by omega) (by omega)
 generalize (⟨I.toArray⟩:ByteArray)=t at *;clear hcell
 go_enter func32,ntmps32
 go_wp2_with (go_at_call 64;refine h1.mono ?_;rintro e w1 ⟨pb,rfl,hP1⟩;dsimp only)
 have HP1:=hid hP1;clear hP1 h1
 go_wp2_with (go_at_call 65;refine(h2 _).mono ?_;rintro e w2 ⟨rb,rfl,hP2⟩;dsimp only)
 have HP2:=hid hP2;clear hP2 h2
 go_wp2_with (go_at_call 26;refine(hnum _).mono ?_;rintro e w3 ⟨rfl,hw⟩;obtain rfl:=hw.symm;dsimp only)
 go_ret2
 exact⟨pb,rb,w1,w2,rfl,HP1,HP2,rfl⟩
theorem QM(I:List UInt8)(h2:2<=I.length)(hs:sZ I=dF (bV I)):I=bV I++two (dF (bV I)):=by
 obtain⟨m,hm⟩:∃m,I.length=m+2:=⟨I.length-2,by omega⟩
 have hab:bV I=I.take m:=by unfold bV;rw[hm,Nat.add_sub_cancel]
 have hlen2:(I.drop m).length=2:=by rw[List.length_drop];omega
 obtain⟨x,y,hxy⟩:∃x y,I.drop m=[x,y]:=by
  match hq:I.drop m,hlen2 with
  | [x,y],_=>exact⟨x,y,rfl⟩
 have hend:sZ I=jl [x,y]:=by
  unfold sZ numAt;rw[hm,Nat.add_sub_cancel,hxy];rfl
 have hlt:dF (bV I)<65536:=by have:=lM (bV I);omega
 have:=(OL x y _ hlt).2 (by rw[<-hend];exact hs);rw[<-this,hab,<-hxy,List.take_append_drop]
theorem Nq{w w':World}{B:List UInt8}{n at_:Nat}{pv:List (aS×aF)}{pb db bb fb jg:Nat}{d:Array Int}(hraw:fB w w' B n at_ pv pb db bb fb jg d):∀k∈(jY pv pb db bb fb jg n B at_ d).foot,w.heap.size<=k:=by
 intro k hk;have hk':k∈pb::db::bb::fb::((some jg).toList++(pv.map (bf pv)).flatMap aF.foot):=hk;rw[Bf]at hk';obtain⟨o1,o2,o3,o4,o5,o6,o7⟩:=hraw.ord;simp only[List.mem_cons,List.mem_append,Option.toList_some,List.not_mem_nil,or_false]at hk';rcases hk' with rfl|rfl|rfl|rfl|rfl|hk'
 ·omega
 ·omega
 ·omega
 ·omega
 ·omega
 ·obtain⟨x,hx,hk⟩:=List.mem_flatMap.1 hk';exact(hraw.new x hx k hk).1
theorem NR{w w':World}{B:List UInt8}{n at_:Nat}{pv:List (aS×aF)}{pb db bb fb jg:Nat}{d:Array Int}(hraw:fB w w' B n at_ pv pb db bb fb jg d)(x:Nat)(hx:x<n):(jY pv pb db bb fb jg n B at_ d).bl[x]! = kZ B (at_+x*8):=tJ B at_ n x hx
theorem RI(B:List UInt8)(i:Nat):(kZ B i).fits:=fun n hn=>zV B i n hn
theorem FX(w:World)(b off:Nat)(I:List UInt8)(cap:Nat)(h:bD w (some ⟨b,off,none⟩) I)(hcell:∀i,i<I.length->w.cell? ⟨b,off+i,none⟩=some (bT I[i]!))(hcap:I.length<=cap) :
 Calls prog 32 #[.slice (some ⟨b,off,none⟩) I.length cap] w (oH w I):=by
 have hL:=MW w (some ⟨b,off,none⟩) I cap h hcap;have hR:=fun W=>DK W ⟨I.toArray⟩ (by have:=h.len;simpa [ByteArray.size] using this)
 have hI:(⟨I.toArray⟩:ByteArray).data.toList=I:=rfl;rw[hI]at hR;by_cases hs:2<=I.length/\sZ I=dF (bV I)
 ·cases hp:iO (bV I) with
  | error q=>
   refine(Ec w b off I cap 12 q (by omega) (by omega) hcell (hL.mono fun e w' hh=>?_) (fun W=>(hR W).mono fun e w' hh=>?_)).mono fun e w' hh=>.no hh.1 (Or.inr ⟨q,hp⟩) hh.2
   ·unfold iV at hh;rw[if_pos hs,hp]at hh;exact hh
   ·unfold lF IE at hh;rw[if_pos hs,hp]at hh;exact hh
  | ok pr=>
   obtain⟨n,ps,at2⟩:=pr;refine(NJ w b off I cap (fun pb w'=>∃pv db bb fb jg d,pv.map (·.1)=ps/\fB w w' (bV I) n at2 pv pb db bb fb jg d) (fun W rb w'=>∃r xs,r.rb=rb/\Ej (bV I) n at2 xs ps/\vM W w' (bV I) at2 n xs r.rb r/\Same [] W w') hcell (hL.mono fun e w' hh=>?_) (fun W=>(hR W).mono fun e w' hh=>?_)).mono fun e w' hh=>?_
   ·unfold iV at hh;rw[if_pos hs,hp]at hh;obtain⟨pv,pb,db,bb,fb,jg,d,h1,h2,h3⟩:=hh;exact⟨pb,h1,pv,db,bb,fb,jg,d,h2,h3⟩
   ·unfold lF IE at hh;rw[if_pos hs,hp]at hh;obtain⟨r,xs,h1,h2,h3,h4⟩:=hh;exact⟨r.rb,h1,r,xs,rfl,h2,h3,h4⟩
   ·obtain⟨pb,rb,w1,w2,rfl,hP1,hP2,rfl⟩:=hh;obtain⟨pv,db,b2,fb,jg,d,hps,hraw⟩:=hP1.out;obtain⟨r,xs,rfl,hA,hT,hS2⟩:=hP2.out;have hr:pF (bV I) n (pv.map (·.1)) at2:=vP (by rw[hps];exact hp);have Tn:=rV hraw hr;have hgood:=IZ hraw hr;have hspare:=FY hraw hr;have hrel:=MV hraw hps hp hA hT;have hbody:=JF hraw (by rw[hps];exact hp);have S3:Same [] w2 (w2.alloc (.cells #[.pointer (some ⟨pb,0,none⟩),.pointer (some ⟨r.rb,0,none⟩)] 67)):=(Same.refl _ _).alloc _;have hsame:Same [] w (w2.alloc (.cells #[.pointer (some ⟨pb,0,none⟩),.pointer (some ⟨r.rb,0,none⟩)] 67)):=(hraw.same.step hS2 (by simp)).step S3 (by simp);have hpl:=Tn.bn;have z1:=hraw.same.size;have z2:=hS2.size;have hrl:=hT.ref.bn;have hnew:∀k∈(jY pv pb db b2 fb jg n (bV I) at2 d).foot,w.heap.size<=k:=Nq hraw;refine .ok _ rfl ⟨⟨jY pv pb db b2 fb jg n (bV I) at2 d,_,r,⟨At.new w2 _ _,⟨(Tn.new hS2).new S3,hgood,hspare,hT.ref.iW S3,hT.nodup,hrel,fun k hk hm=>?_⟩,fun hm=>?_⟩,?_,EQ ((Tn.new hS2).new S3) hgood hr.cnt.1 (fun x hx=>by rw[NR hraw x hx];exact RI _ _),hr.cnt.1,fun k hk=>?_⟩,hsame⟩
    ·have h1:=hpl k hk;have h2:=hT.new k hm;omega
    ·rcases List.mem_append.1 hm with hm|hm
     ·have:=hpl _ hm;omega
     ·have:=hrl _ hm;omega
    ·unfold kT;rw[hbody];exact(QM I hs.1 hs.2).symm
    ·rcases List.mem_cons.1 hk with rfl|hk
     ·omega
     ·rcases List.mem_append.1 hk with hk|hk
      ·exact hnew k hk
      ·have:=hT.new k hk;omega
 ·refine(Ec w b off I cap 11 0 (by omega) (by omega) hcell (hL.mono fun e w' hh=>?_) (fun W=>(hR W).mono fun e w' hh=>?_)).mono fun e w' hh=>.no hh.1 (Or.inl hs) hh.2
  ·unfold iV at hh;rw[if_neg hs]at hh;exact hh
  ·unfold lF at hh;rw[if_neg hs]at hh;exact hh
end
end Go.Proofs.YtpddgdjocffgdaaGreat
