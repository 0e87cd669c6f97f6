/- Packed: see the last text. -/
import Derived.Test.YtpddgdjocffgdaaGreatA12
namespace Go.Proofs.YtpddgdjocffgdaaGreat
open Go.Proofs.Tryz
set_option linter.unusedVariables false
set_option linter.unusedSimpArgs false
set_option linter.unusedSectionVars false
set_option maxHeartbeats 16000000
set_option maxRecDepth 100000
section
open Go.RowKit Go.Sort
variable [DecidableEq aN] [Inhabited aN] [Inhabited aF] [Inhabited ay]
def yN(B:List UInt8)(bound n4 n5 n7:Nat)(L:List Nat)(t2:ByteArray)(og:Option Nat)(mJ a7:Nat)(b7:Option Nat):Np×List Nat×Nat×Option Nat:=
 let T:=gK B bound n7 L a7 b7
 let k:=if n4=0 then ([],T.2) else vW B n4 n7 n5 T.2.1 T.2.2
 (⟨t2,n5,og,mJ,T.1.drop L.length,k.1,decide (n4=2)⟩,T.1,k.2)
theorem Tz{w0 w W w1 w2:World}{sb base:Nat}{B:List UInt8}{a8:Nat}{b8:Option Nat}{la:Option Addr}{lc rc g bc:Nat}{ba:Option Addr}{L A X:List Nat}{t2:ByteArray}{ec:List Value}
 (hM:dB w0 w w1 sb B a8 b8 (Value.slice la L.length lc).ownBlock.toList ec [.string t2,.string ⟨#[]⟩,.slice none 0 0,.slice none 0 0,.slice none 0 0,.bool false]) (hN:yV w0 W w1 sb base B (.slice la L.length lc) (.slice (some ⟨g,0,none⟩) A.length rc) (A,a8,b8)) (S2:Same [] w1 w2) (hls:∀g,(Value.slice la L.length lc).ownBlock=some g->g<w.heap.size) (hAL:A.length=L.length+X.length)
 (hown:w2.ownsRow w1.heap.size 3 1 (.slice ba (A.length-L.length) bc) (A.length-L.length) (bK X)) (hgv:(Value.slice (some ⟨g,0,none⟩) A.length rc).ownBlock≠some w.heap.size) :
 dB w0 w (w2.setCell ⟨w.heap.size,3,none⟩ (.slice ba (A.length-L.length) bc)) sb B a8 b8 (Value.slice la L.length lc).ownBlock.toList ec [.string t2,.string ⟨#[]⟩,.slice none 0 0,.slice ba (A.length-L.length) bc,.slice none 0 0,.bool false]/\(w2.setCell ⟨w.heap.size,3,none⟩ (.slice ba (A.length-L.length) bc)).ownsRow w1.heap.size 3 1 (.slice ba (A.length-L.length) bc) X.length (bK X)/\(w2.setCell ⟨w.heap.size,3,none⟩ (.slice ba (A.length-L.length) bc)).ownsRow base 3 1 (.slice (some ⟨g,0,none⟩) A.length rc) A.length (bK A)/\w1.heap.size<=(w2.setCell ⟨w.heap.size,3,none⟩ (.slice ba (A.length-L.length) bc)).heap.size:=by
 have S3:Same [w.heap.size] w2 (w2.setCell ⟨w.heap.size,3,none⟩ (.slice ba (A.length-L.length) bc)):=(Same.refl _ _).set _ _ _ (by simp);have hv:=hM.aA.lt;refine⟨(hM.new S2).jE 3 _,?_,?_,?_⟩
 ·have h1:=aG hown S3 (fun q hq=>by have:=aI hown q hq;simp;omega);rw[show A.length-L.length=X.length by omega]at h1 ⊢;exact h1
 ·exact aG (aG hN.own S2 (by simp)) S3 (fun q hq=>by simp;intro e;exact hgv (by rw[hq,e]))
 ·exact Nat.le_trans S2.size S3.size
theorem xY{w0 w wc w1 w20 w21:World}{sb base:Nat}{B:List UInt8}{a9 a10:Nat}{d9 b9:Option Nat}{S:List Nat}{ec vc:List Value}{bv av:Value}{X A:List Nat}
 (h:dB w0 w w20 sb B a9 d9 S ec vc/\w20.ownsRow w1.heap.size 3 1 bv X.length (bK X)/\w20.ownsRow base 3 1 av A.length (bK A)/\wc.heap.size<=w20.heap.size) (hE:dB w0 w w21 sb B a10 b9 S ec vc) (hS:Same [sb] w20 w21) (hw:w.heap.size<=w1.heap.size) (hA:∀g,av.ownBlock=some g->g<w1.heap.size/\g≠sb/\g≠w.heap.size/\g≠w.heap.size+1) :
 dB w0 w w21 sb B a10 b9 S ec vc/\w21.ownsRow w1.heap.size 3 1 bv X.length (bK X)/\w21.ownsRow base 3 1 av A.length (bK A)/\wc.heap.size<=w21.heap.size:=
 ⟨hE,aG h.2.1 hS (fun g hg=>by have:=aI h.2.1 g hg;have:=h.1.lt;simp;omega),aG h.2.2.1 hS (fun g hg=>by simp;exact(hA g hg).2.1),Nat.le_trans h.2.2.2 hS.size⟩
structure Ho(w0 w w1 wc W:World)(sb base:Nat)(B:List UInt8)(at_:Nat)(bd:Option Nat)(S:List Nat)(ec vc:List Value)(bv av kv:Value)(X A K:List Nat):Prop where
 mid:dB w0 w W sb B at_ bd S ec vc
 bl:W.ownsRow w1.heap.size 3 1 bv X.length (bK X)
 al:W.ownsRow base 3 1 av A.length (bK A)
 ke:W.ownsRow wc.heap.size 3 1 kv K.length (bK K)
theorem Ho.jE{w0 w w1 wc W:World}{sb base:Nat}{B:List UInt8}{at_:Nat}{bd:Option Nat}{S:List Nat}{ec vc:List Value}{bv av kv:Value}{X A K:List Nat}(h:Ho w0 w w1 wc W sb base B at_ bd S ec vc bv av kv X A K)(hA:∀g,av.ownBlock=some g->g≠w.heap.size)(h1:w.heap.size+2<=w1.heap.size)(h2:w1.heap.size<=wc.heap.size)(i:Nat)(v:Value) :
 Ho w0 w w1 wc (W.setCell ⟨w.heap.size,i,none⟩ v) sb base B at_ bd S ec (vc.set i v) bv av kv X A K:=by
 have S1:Same [w.heap.size] W (W.setCell ⟨w.heap.size,i,none⟩ v):=(Same.refl _ _).set _ _ _ (by simp);exact⟨h.mid.jE i v,aG h.bl S1 (fun g hg=>by have:=aI h.bl g hg;simp;omega),aG h.al S1 (fun g hg=>by simp;exact hA g hg),aG h.ke S1 (fun g hg=>by have:=aI h.ke g hg;simp;omega)⟩
theorem VA{w0 w w1 wc w22:World}{sb base:Nat}{B:List UInt8}{a9:Nat}{b9:Option Nat}{S:List Nat}{ec vc:List Value}{bv av kv:Value}{X A:List Nat}{r:List Nat×Nat×Option Nat}
 (h:dB w0 w wc sb B a9 b9 S ec vc/\wc.ownsRow w1.heap.size 3 1 bv X.length (bK X)/\wc.ownsRow base 3 1 av A.length (bK A)) (hk:yV w0 wc.drew w22 sb wc.heap.size B (.slice none 0 0) kv r) (hA:∀g,av.ownBlock=some g->g<w1.heap.size/\g≠sb/\g≠w.heap.size/\g≠w.heap.size+1) (hw:w.heap.size<=w1.heap.size) :
 Ho w0 w w1 wc w22 sb base B r.2.1 r.2.2 S ec vc bv av kv X A r.1:=by
 have S1:Same [sb] wc w22:=(Same.refl [sb] wc).drew.step hk.same (fun k hk' _=>by simpa [Value.ownBlock] using hk');exact⟨h.1.call hk.sc S1,aG h.2.1 S1 (fun g hg=>by have:=aI h.2.1 g hg;have:=h.1.lt;simp;omega),aG h.2.2 S1 (fun g hg=>by simp;exact(hA g hg).2.1),hk.own⟩
theorem UY{w0 w w1 wc W:World}{sb base:Nat}{B:List UInt8}{at_:Nat}{bd:Option Nat}{t2:ByteArray}{n5 mJ:Nat}{og:Option Nat}{lo:Bool}{lv bv av kv:Value}{X A K:List Nat}{r:Np×List Nat×Nat×Option Nat}
 (h:Ho w0 w w1 wc W sb base B at_ bd lv.ownBlock.toList [.pointer (some ⟨w.heap.size,0,none⟩),.int .i64 (n5:Int),.int .i64 (iq og),.int .i64 (mJ:Int)] [.string t2,.string ⟨#[]⟩,.slice none 0 0,bv,kv,.bool lo] bv av kv X A K) (hli:av.ownBlock=lv.ownBlock\/∃g,av.ownBlock=some g/\w.heap.size+2<=g) (hA:∀g,av.ownBlock=some g->g<w1.heap.size) (h1:w.heap.size+2<=w1.heap.size) (h2:w1.heap.size<=wc.heap.size) (hb:∀g,bv.ownBlock=some g->g<wc.heap.size) (hr:r=(⟨t2,n5,og,mJ,X,K,lo⟩,A,at_,bd)) :
 LH w0 w W sb base B lv av bv kv r:=by
 subst hr;exact⟨h.mid.sc,h.mid.ent,h.mid.aA,h.al,hli,⟨w1.heap.size,wc.heap.size,h1,hA,h.bl,h2,hb,h.ke⟩,h.mid.same⟩
theorem NT(Ja Jb Jc Jd Je Jf Jg Jh Ji Jj Jk Jl Jm Jn Jo Jp Jq Jr Js Jt Ju Jv Jw Jx Jy Jz Ka Kb Kc Kd Ke Kf Kg Kh Ki Kj Kk Kl Km Kn Ko Kp Kq Kr Ks Kt Ku Kv Kw Kx Ky Kz Qa Qb Qc Qd Qe Qf Qg Qh Qi Qj Qk Ql Qm Qn Qo Qp Qq Qr Qs Qt Qu Qv Qw Qx Qy Qz Ua Ub Uc Ud Ue Uf Ug Uh Ui Uj Uk Ul Um Un Uo Up Uq Ur Us Ut Uu Uv Uw Ux Uy Uz Va Vb Vc Vd Ve Vf Vg Vh Vi Vj Vk Vl Vm Vn Vo Vp Vq Vr Vs Vt Vu Vv Vw Vx Vy Vz Xa Xb Xc Xd Xe Xf Xg Xh Xi Xj Xk Xl Xm Xn Xo Xp Xq Xr Xs Xt Xu Xv Xw Xx Xy Xz Ya Yb Yc Yd Ye Yf Yg Yh Yi Yj Yk Yl Ym Yn Yo Yp Yq Yr Ys Yt Yu Yv Yw Yx Yy Yz Za Zb Zc Zd Ze Zf Zg Zh Zi Zj Zk Zl Zm Zn Zo Zp Zq Zr Zs Zt Zu Zv Zw Zx Zy Zz Ga Gb Gc Gd Ge Gf Gg Gh Gi Gj Gk Gl Gm Gn Gp Gq Gr Gs Gt Gu Gv Gw:Value)(w0 w W:World)(sb base:Nat)(B:List UInt8)(aa:Option Addr)(m ac bound count:Nat)(L:List Nat)(lv:Value)(t2:ByteArray)(nb:Bool)(n4 n5 n7 a6 a7:Nat)(b7 og:Option Nat)(mJ:Nat)(hl:B.length<=140737488355328)(ho:w.ownsRow base 3 1 lv L.length (bK L))(hb:base<=w.heap.size)(hsb:sb<base)(hn:L.length<=1000)(hbd:bound<=1000)(hb7:n7<65536)
 (r:Np×List Nat×Nat×Option Nat) (HR0:Hid (yN B bound n4 n5 n7 L t2 og mJ a7 b7=r)) (HM:Hid (dB w0 w W sb B a7 b7 [] [.pointer (some ⟨w.heap.size,0,none⟩),.int .i64 (n5:Int),.int .i64 (iq og),.int .i64 (mJ:Int)] [.string t2,.string ⟨#[]⟩,.slice none 0 0,.slice none 0 0,.slice none 0 0,.bool false])) :
 Code.wp prog (bI 20 (f111.body.getD .skip)) (bodyPost prog f111 fun e w'=>∃mg bv kv,e=.returned (.tuple #[.pointer (some ⟨w.heap.size+1,0,none⟩),mg])/\LH w0 w w' sb base B lv mg bv kv r) { tmps:=#[.pointer (some ⟨sb,0,none⟩),.slice aa m ac,.int .i64 bound,.int .i64 count,lv,undef,undef,undef,undef,undef,.pointer none,.slice none 0 0,.pointer (some ⟨w.heap.size+1,0,none⟩),.int .i64 a6,.int .i64 n7,.bool nb,.int .i64 n4,undef,undef,Ja,Jb,Jc,Jd,Je,Jf,Jg,Jh,Ji,Jj,Jk,Jl,Jm,Jn,Jo,Jp,Jq,Jr,Js,Jt,Ju,Jv,Jw,Jx,Jy,Jz,Ka,Kb,Kc,Kd,Ke,Kf,Kg,Kh,Ki,Kj,Kk,Kl,Km,Kn,Ko,Kp,Kq,Kr,Ks,Kt,Ku,Kv,Kw,Kx,Ky,Kz,Qa,Qb,Qc,Qd,Qe,Qf,Qg,Qh,Qi,Qj,Qk,Ql,Qm,Qn,Qo,Qp,Qq,Qr,Qs,Qt,Qu,Qv,Qw,Qx,Qy,Qz,Ua,Ub,Uc,Ud,Ue,Uf,Ug,Uh,Ui,Uj,Uk,Ul,Um,Un,Uo,Up,Uq,Ur,Us,Ut,Uu,Uv,Uw,Ux,Uy,Uz,Va,Vb,Vc,Vd,Ve,Vf,Vg,Vh,Vi,Vj,Vk,Vl,Vm,Vn,Vo,Vp,Vq,Vr,Vs,Vt,Vu,Vv,Vw,Vx,Vy,Vz,Xa,Xb,Xc,Xd,Xe,Xf,Xg,Xh,Xi,Xj,Xk,Xl,Xm,Xn,Xo,Xp,Xq,Xr,Xs,Xt,Xu,Xv,Xw,Xx,Xy,Xz,Ya,Yb,Yc,Yd,Ye,Yf,Yg,Yh,Yi,Yj,Yk,Yl,Ym,Yn,Yo,Yp,Yq,Yr,Ys,Yt,Yu,Yv,Yw,Yx,Yy,Yz,Za,Zb,Zc,Zd,Ze,Zf,Zg,Zh,Zi,Zj,Zk,Zl,Zm,Zn,Zo,Zp,Zq,Zr,Zs,Zt,Zu,Zv,Zw,Zx,Zy,Zz,Ga,Gb,Gc,Gd,Ge,Gf,Gg,Gh,Gi,Gj,Gk,Gl,Gm,Gn,Gp,Gq,Gr,Gs,Gt,Gu,Gv,Gw],defers:=[] } W:=by
 generalize hC:bI 20 (f111.body.getD .skip)=C
 delta f111 at hC
 dsimp only[bI,Option.getD]at hC;subst hC;have hnot:=bP;obtain⟨i0,hi,hz0,hz1,hz2⟩:=info_parts Tryz.info3;have hszW:=HM.out.same.size;have hEW:=HM.out.ent.lt;have OW:W.ownsRow base 3 1 lv L.length (bK L):=dZ ho HM.out.same (by intro k hk;simp at hk;omega);have hNs:=qR w0 W sb base B n7 bound a7 b7 L lv (n7:Int) (bound:Int) rfl rfl hl HM.out.sc OW (by omega) hsb (by omega);obtain⟨A,a8,b8,hT⟩:∃x y z,gK B bound n7 L a7 b7=(x,y,z):=⟨_,_,_,rfl⟩
 have hpre:∃X,A=L++X:=by have:=EZ B bound n7 L a7 b7;rw[hT]at this;exact this
 have hAl:A.length<=L.length+n7:=by have:=Ew B bound n7 L a7 b7;rw[hT]at this;exact this
 obtain⟨X,hXA⟩:=hpre;have HT:Hid (gK B bound n7 L a7 b7=(A,a8,b8)):=hT;rw[hT]at hNs;have HO:Hid (w.ownsRow base 3 1 lv L.length (bK L)):=ho;clear hT OW ho
 go_wp2_with fail
 refine hNs.mono ?_;rintro e w1 ⟨mg,rfl,hN⟩;have hLs:∀g,lv.ownBlock=some g->g<w.heap.size:=fun g hg=>(HO.out.lt g hg).2
 have HM1:Hid (dB w0 w w1 sb B a8 b8 lv.ownBlock.toList [.pointer (some ⟨w.heap.size,0,none⟩),.int .i64 (n5:Int),.int .i64 (iq og),.int .i64 (mJ:Int)] [.string t2,.string ⟨#[]⟩,.slice none 0 0,.slice none 0 0,.slice none 0 0,.bool false]):=by
  have h1:=HM.out;have hlt:=h1.lt;exact⟨hN.sc,hN.same.at h1.ent (by intro hk;simp at hk;rcases hk with hk|hk;(omega);(have:=hLs _ hk;omega)),hN.same.at h1.aA (by intro hk;simp at hk;rcases hk with hk|hk;(omega);(have:=hLs _ hk;omega)),(h1.same.mono (T:=sb::lv.ownBlock.toList) (fun k hk _=>by simp at hk;simp[hk])).step hN.same (fun k hk _=>hk),h1.lt,h1.low⟩
 obtain⟨la,lc,rfl⟩:=ak HO.out;obtain⟨ra,rc,rfl⟩:=ak hN.own;have WR:A.length=L.length+X.length:=by rw[hXA];simp
 have hal:A.length<=rc:=oQ hN.own;have HN:Hid (yV w0 W w1 sb base B (.slice la L.length lc) (.slice ra A.length rc) (A,a8,b8)):=hN;have c1:w1.cell? ⟨w.heap.size+1,0,none⟩=some (.pointer (some ⟨w.heap.size,0,none⟩)):=HM1.out.ent.cell? 0;have c2:w1.cell? ⟨w.heap.size,3,none⟩=some (.slice none 0 0):=HM1.out.aA.cell? 3;have hsz1:=hN.same.size;have e1:(L.length:Int)<=(A.length:Int):=by omega
 have e2:((L.length:Int)).toNat=L.length:=by omega
 have e3:(0:Int)<=(L.length:Int):=by omega
 have e4:(A.length:Int)<=(rc:Int):=by omega
 have e5:((A.length:Int)).toNat=A.length:=by omega
 have e6:((rc:Int)).toNat=rc:=by omega
 have HXA:Hid (A=L++X):=hXA;have HLS:Hid (∀g,(Value.slice la L.length lc).ownBlock=some g->g<w.heap.size):=hLs;have HAL:Hid (A.length=L.length+X.length):=WR;clear hN hNs hXA hLs WR
 go_upto_region 25 with fail
 go_cut [17] (fun al wd=>al=.slice ra A.length rc/\∃bv,Hid (dB w0 w wd sb B a8 b8 (Value.slice la L.length lc).ownBlock.toList [.pointer (some ⟨w.heap.size,0,none⟩),.int .i64 (n5:Int),.int .i64 (iq og),.int .i64 (mJ:Int)] [.string t2,.string ⟨#[]⟩,.slice none 0 0,bv,.slice none 0 0,.bool false]/\wd.ownsRow w1.heap.size 3 1 bv X.length (bK X)/\wd.ownsRow base 3 1 (.slice ra A.length rc) A.length (bK A)/\w1.heap.size<=wd.heap.size))
 case first=>
  have hxl:X.length<=65536:=by have:=HAL.out;omega
  have hb1:sb<w1.heap.size:=by have:=HM1.out.lt;omega
  rcases HN.out.own.2 with⟨hnil,hA0⟩|⟨g,cap,cur,hv,hbg,hg3,hg4,hg5,hg6,hg7⟩
  ·have aaV:A.length=0:=hA0;obtain⟨rfl,_,rfl⟩:ra=none/\A.length=0/\rc=0:=by simpa using hnil
   have hX0:X=[]:=List.eq_nil_of_length_eq_zero (by have:=HAL.out;omega);have hL0:L=[]:=List.eq_nil_of_length_eq_zero (by have:=HAL.out;omega);have ZR:A=[]:=List.eq_nil_of_length_eq_zero aaV;subst hX0 hL0 ZR;have f3:w1.drew.frozen? ⟨w.heap.size,3,none⟩=false:=HM1.out.aA.frozen 3;have HF:Hid (dB w0 w (w1.drew.setCell ⟨w.heap.size,3,none⟩ (.slice none 0 0)) sb B a8 b8 (Value.slice la 0 lc).ownBlock.toList [.pointer (some ⟨w.heap.size,0,none⟩),.int .i64 (n5:Int),.int .i64 (iq og),.int .i64 (mJ:Int)] [.string t2,.string ⟨#[]⟩,.slice none 0 0,.slice none 0 0,.slice none 0 0,.bool false]):=HM1.out.drew.jE 3 (.slice none 0 0);have q1:w1.drew.cell? ⟨w.heap.size+1,0,none⟩=some (.pointer (some ⟨w.heap.size,0,none⟩)):=c1;have q2:w1.drew.cell? ⟨w.heap.size,3,none⟩=some (.slice none 0 0):=c2;have HG:Hid ((w1.drew.setCell ⟨w.heap.size,3,none⟩ (.slice none 0 0)).ownsRow base 3 1 (.slice none 0 0) 0 (bK [])):=World.ownsRow_nil _ _ _ _
   go_wp2_with fail
   go_region_law (refine xW rfl (.tmp 196) (.tmp 200) 51 rfl w1.heap.size 3 i0 1 underlying51 hi (.slice none 0 0) 0 [] (by simp[Act.eval,Act.put]) (World.ownsRow_nil _ _ _ _) (by simp[Act.eval,Act.put]) ?_)
   all_goals
    go_wp2_with fail
    go_meet
    case rel=>exact⟨rfl,_,HF.out,World.ownsRow_nil _ _ _ _,HG.out,by simp⟩
  ·obtain⟨rfl,_,rfl⟩:ra=some ⟨g,0,none⟩/\A.length=A.length/\rc=cap:=by simpa using hv
   have hAg:At w1 g 3 cur.toList:=by unfold At;simpa using hg3
   have hct:cur.toList.take (A.length*1)=bK A:=hg7;generalize cur.toList=cs at hAg hct;have HC:Hid (∀j u,(bK X)[j]? = some u->w1.cell? ⟨g,L.length+j,none⟩=some u):=by
    intro j u hj;rw[hAg.cell?];have hjl:j<X.length:=by
     rcases Nat.lt_or_ge j X.length with h'|h'
     ·exact h'
     ·rw[List.getElem?_eq_none (by simp[bK];exact h')]at hj;cases hj
    have hAL:=HAL.out;have:(cs.take (A.length*1))[L.length+j]? = cs[L.length+j]?:=by rw[List.getElem?_take,if_pos (by omega)]
    rw[<-this,hct,HXA.out];unfold bK at hj ⊢;rw[List.map_append,List.getElem?_append_right (by simp),List.length_map,Nat.add_sub_cancel_left];exact hj
   clear hAg hct hg3 hg4 hg5 hg6 hg7 hv;have hXm:(bK X).length=(A.length-L.length)*1:=by have:=HAL.out;simp[bK];omega
   have hm1:0+(A.length-L.length)<=maxLen:=by unfold maxLen;omega
   have hm2:(0+(A.length-L.length))*8<=140737488355328:=by omega
   have h1c:∀u∈bK X,u.oneCell'=true:=by intro u hu;unfold bK at hu;obtain⟨x,_,rfl⟩:=List.mem_map.1 hu;rfl
   have hgv:(Value.slice (some ⟨g,0,none⟩) A.length rc).ownBlock≠some w.heap.size:=by
    intro e;rcases HN.out.lies with hq|⟨g',hq,hg'⟩
    ·rw[hq]at e;have:=HLS.out _ e;omega
    ·rw[hq]at e;have:g'=w.heap.size:=by simpa using e
     omega
   by_cases hX0:X=[]
   ·subst hX0;obtain rfl:A=L:=by have:=HXA.out;simpa using this
    go_wp2_with fail
    go_region_law (refine yG rfl (.tmp 196) (.tmp 200) 51 rfl 3 i0 (.int .i64 0) 1 8 underlying51 hi hz0 hz1 hz2 rfl (by decide) (by simp[Act.eval,Act.put]) (if rc=A.length then ⟨g,0,none⟩ else ⟨g,A.length,none⟩) (rc-A.length) (by simp[Act.eval,Act.put];split<;>rfl) ?_;intro w2 S2;have S2':Same [] w1 w2:=(Same.refl [] w1).drew.step S2 (by simp);have q1:w2.cell? ⟨w.heap.size+1,0,none⟩=some (.pointer (some ⟨w.heap.size,0,none⟩)):=(S2'.at HM1.out.ent (by simp)).cell? 0;have q2:w2.cell? ⟨w.heap.size,3,none⟩=some (.slice none 0 0):=(S2'.at HM1.out.aA (by simp)).cell? 3;have q3:w2.frozen? ⟨w.heap.size,3,none⟩=false:=(S2'.at HM1.out.aA (by simp)).frozen 3)
    all_goals
     have HF:Hid (dB w0 w (w2.setCell ⟨w.heap.size,3,none⟩ (.slice none 0 0)) sb B a8 b8 (Value.slice la A.length lc).ownBlock.toList [.pointer (some ⟨w.heap.size,0,none⟩),.int .i64 (n5:Int),.int .i64 (iq og),.int .i64 (mJ:Int)] [.string t2,.string ⟨#[]⟩,.slice none 0 0,.slice none 0 0,.slice none 0 0,.bool false]/\(w2.setCell ⟨w.heap.size,3,none⟩ (.slice none 0 0)).ownsRow base 3 1 (.slice (some ⟨g,0,none⟩) A.length rc) A.length (bK A)/\w1.heap.size<=(w2.setCell ⟨w.heap.size,3,none⟩ (.slice none 0 0)).heap.size):=by
      have S3:Same [w.heap.size] w2 (w2.setCell ⟨w.heap.size,3,none⟩ (.slice none 0 0)):=(Same.refl _ _).set _ _ _ (by simp);exact⟨(HM1.out.new S2').jE 3 _,aG (aG HN.out.own S2' (by simp)) S3 (fun q hq=>by simp;intro e;exact hgv (by rw[hq,e])),Nat.le_trans S2'.size S3.size⟩
     clear S2 S2' q1 q2 q3
     go_wp2_with fail
     all_goals
      go_meet
      case rel=>exact⟨by first|rfl|(congr 1;omega)|(simp;omega),_,HF.out.1,World.ownsRow_nil _ _ _ _,HF.out.2⟩
   ·have hrc:¬rc=L.length:=fun e=>hX0 (List.eq_nil_of_length_eq_zero (by have:=HAL.out;omega))
    have hrc2:¬L.length=rc:=fun e=>hrc e.symm
    have hcj:∀j u,(bK X)[j]? = some u->w1.drew.cell? (Addr.add ⟨g,L.length,none⟩ j)=some u:=by intro j u hj;rw[Addr.add_lit];exact HC.out j u hj
    go_wp2_with fail
    go_region_law (refine fV rfl (.tmp 196) (.tmp 200) 51 rfl w1.heap.size 3 i0 (.int .i64 0) 1 8 underlying51 hi hz0 hz1 hz2 rfl (by decide) (.slice none 0 0) 0 [] (by simp[Act.eval,Act.put]) (World.ownsRow_nil _ _ _ _) ⟨g,L.length,none⟩ (A.length-L.length) (rc-L.length) (bK X) (by simp[Act.eval,Act.put,hrc]) hXm hcj h1c hm1 hm2 (Nat.le_refl _) ?_;intro bv w2 hown2 hgrow2 hblk2;rw[Nat.zero_add,List.nil_append]at hown2;obtain⟨ba,bc,rfl⟩:=ak hown2;have S2:Same [] w1 w2:=(Same.refl [] w1).drew.grown hgrow2 (fun j hj hl=>by simp[Value.ownBlock]at hj);have q1:w2.cell? ⟨w.heap.size+1,0,none⟩=some (.pointer (some ⟨w.heap.size,0,none⟩)):=(S2.at HM1.out.ent (by simp)).cell? 0;have q2:w2.cell? ⟨w.heap.size,3,none⟩=some (.slice none 0 0):=(S2.at HM1.out.aA (by simp)).cell? 3;have q3:w2.frozen? ⟨w.heap.size,3,none⟩=false:=(S2.at HM1.out.aA (by simp)).frozen 3)
    all_goals
     have HF:Hid (dB w0 w (w2.setCell ⟨w.heap.size,3,none⟩ (.slice ba (A.length-L.length) bc)) sb B a8 b8 (Value.slice la L.length lc).ownBlock.toList [.pointer (some ⟨w.heap.size,0,none⟩),.int .i64 (n5:Int),.int .i64 (iq og),.int .i64 (mJ:Int)] [.string t2,.string ⟨#[]⟩,.slice none 0 0,.slice ba (A.length-L.length) bc,.slice none 0 0,.bool false]/\(w2.setCell ⟨w.heap.size,3,none⟩ (.slice ba (A.length-L.length) bc)).ownsRow w1.heap.size 3 1 (.slice ba (A.length-L.length) bc) X.length (bK X)/\(w2.setCell ⟨w.heap.size,3,none⟩ (.slice ba (A.length-L.length) bc)).ownsRow base 3 1 (.slice (some ⟨g,0,none⟩) A.length rc) A.length (bK A)/\w1.heap.size<=(w2.setCell ⟨w.heap.size,3,none⟩ (.slice ba (A.length-L.length) bc)).heap.size):=Tz HM1.out HN.out S2 HLS.out HAL.out hown2 hgv;clear S2 hown2 hgrow2 hblk2 q1 q2 q3
     go_wp2_with fail
     go_meet
     case rel=>exact⟨by first|rfl|(congr 1;omega)|(simp;omega),_,HF.out⟩
 case rest=>
  as_aux_lemma=>
   obtain⟨rfl,bv,HF⟩:=hcut;have hsz2:=HF.out.2.2.2;have HLB:Hid ((Value.slice la L.length lc).ownBlock≠some sb/\(∀g,(Value.slice la L.length lc).ownBlock=some g->g<w.heap.size)/\∀g,(Value.slice ra A.length rc).ownBlock=some g->g<w1.heap.size/\g≠sb/\g≠w.heap.size/\g≠w.heap.size+1):=by
    refine⟨fun e=>by have:=aI HO.out _ e;omega,HLS.out,fun g hg=>?_⟩;have h1:=HN.out.own.lt g hg;refine⟨h1.2,by have:=h1.1;omega,?_,?_⟩
    ·rcases HN.out.lies with hq|⟨g',hq,hg'⟩
     ·rw[hq]at hg;have:=HLS.out g hg;omega
     ·rw[hq]at hg;have:g'=g:=by simpa using hg
      omega
    ·rcases HN.out.lies with hq|⟨g',hq,hg'⟩
     ·rw[hq]at hg;have:=HLS.out g hg;omega
     ·rw[hq]at hg;have:g'=g:=by simpa using hg
      omega
   have HLI:Hid ((Value.slice ra A.length rc).ownBlock=(Value.slice la L.length lc).ownBlock\/∃g,(Value.slice ra A.length rc).ownBlock=some g/\w.heap.size+2<=g):=by
    rcases HN.out.lies with hq|⟨g',hq,hg'⟩
    ·exact Or.inl hq
    ·exact Or.inr ⟨g',hq,by omega⟩
   have hw1:w.heap.size+2<=w1.heap.size:=by omega
   have HX:Hid (A.drop L.length=X):=by show _=_;rw[HXA.out];simp
   clear HM HM1 HN c1 c2;rcases Nat.eq_zero_or_pos n4 with rfl|k0
   ·have HD:Hid (LH w0 w wc sb base B (Value.slice la L.length lc) (.slice ra A.length rc) bv (.slice none 0 0) (yN B bound 0 n5 n7 L t2 og mJ a7 b7)):=by
     have hr:yN B bound 0 n5 n7 L t2 og mJ a7 b7=(⟨t2,n5,og,mJ,X,[],false⟩,A,a8,b8):=by
      unfold yN;rw[HT.out];simp[HX.out]
     rw[hr];exact⟨HF.out.1.sc,HF.out.1.ent,HF.out.1.aA,HF.out.2.2.1,HLI.out,⟨w1.heap.size,wc.heap.size,hw1,fun g hg=>(HLB.out.2.2 g hg).1,HF.out.2.1,hsz2,fun g hg=>(HF.out.2.1.lt g hg).2,World.ownsRow_nil _ _ _ _⟩,HF.out.1.same⟩
    clear HF
    go_wp2
    refine bodyPost_ret (v:=.tuple #[.pointer (some ⟨w.heap.size+1,0,none⟩),(.slice ra A.length rc)]) (by simp[results,results111,go_sem]) rfl ?_;exact⟨_,_,_,rfl,by rw[<-HR0.out];exact HD.out⟩
   ·have k1:(0:Int)<(n4:Int):=by omega
    obtain⟨n9,a9,d9,hX9⟩:∃n a d,bF B 2 a8 b8=(n,a,d):=⟨_,_,_,rfl⟩
    have hN9:=eG w0 wc sb B 2 a8 b8 n9 a9 d9 2 rfl (by omega) hl HF.out.1.sc hX9;have hb9:n9<65536:=by have:=nC B 2 a8 b8 (by omega);rw[hX9]at this;exact this
    have HX9:Hid (bF B 2 a8 b8=(n9,a9,d9)):=hX9;have c1:wc.cell? ⟨sb,1,none⟩=some (.int .i64 a8):=HF.out.1.sc.cell.cell? 1;clear hX9
    go_wp2_with fail
    refine hN9.mono ?_;rintro e w20 ⟨rfl,A20,S20⟩;have Ac:Hid (dB w0 w w20 sb B a9 d9 (Value.slice la L.length lc).ownBlock.toList [.pointer (some ⟨w.heap.size,0,none⟩),.int .i64 (n5:Int),.int .i64 (iq og),.int .i64 (mJ:Int)] [.string t2,.string ⟨#[]⟩,.slice none 0 0,bv,.slice none 0 0,.bool false]/\w20.ownsRow w1.heap.size 3 1 bv X.length (bK X)/\w20.ownsRow base 3 1 (.slice ra A.length rc) A.length (bK A)/\wc.heap.size<=w20.heap.size):=
     ⟨HF.out.1.call A20 S20,aG HF.out.2.1 S20 (fun g hg=>by have:=aI HF.out.2.1 g hg;simp;intro e;have:=HF.out.1.lt;omega),aG HF.out.2.2.1 S20 (fun g hg=>by simp;exact(HLB.out.2.2 g hg).2.1),S20.size⟩
    clear hN9 A20 S20 HF c1
    go_upto_region 29 with fail
    go_cut [] (fun wd=>Hid (dB w0 w wd sb B a9 (aX d9 (decide (n9<=n7/\(n4=1\/n9=0))) a8) (Value.slice la L.length lc).ownBlock.toList [.pointer (some ⟨w.heap.size,0,none⟩),.int .i64 (n5:Int),.int .i64 (iq og),.int .i64 (mJ:Int)] [.string t2,.string ⟨#[]⟩,.slice none 0 0,bv,.slice none 0 0,.bool false]/\wd.ownsRow w1.heap.size 3 1 bv X.length (bK X)/\wd.ownsRow base 3 1 (.slice ra A.length rc) A.length (bK A)/\wc.heap.size<=wd.heap.size))
    case first=>
     have hM:=fun ok=>cO w0 w20 sb B a9 d9 ok a8 (a8:Int) rfl Ac.out.1.sc
     rcases Nat.lt_or_ge n7 n9 with g1|g1
     ·have g1':(n7:Int)<(n9:Int):=by omega
      go_wp2_with fail
      all_goals
       refine(hM _).mono ?_;rintro e w21 ⟨rfl,A21,S21⟩;have HF:Hid (dB w0 w w21 sb B a9 (aX d9 (decide (n9<=n7/\(n4=1\/n9=0))) a8) (Value.slice la L.length lc).ownBlock.toList [.pointer (some ⟨w.heap.size,0,none⟩),.int .i64 (n5:Int),.int .i64 (iq og),.int .i64 (mJ:Int)] [.string t2,.string ⟨#[]⟩,.slice none 0 0,bv,.slice none 0 0,.bool false]/\w21.ownsRow w1.heap.size 3 1 bv X.length (bK X)/\w21.ownsRow base 3 1 (.slice ra A.length rc) A.length (bK A)/\wc.heap.size<=w21.heap.size):=xY Ac.out (Ac.out.1.call (A21.iJ (by first|rfl|(rw[Bool.eq_iff_iff];simp<;>omega))) S21) S21 (by omega) HLB.out.2.2;clear A21 S21 hM Ac
       go_wp2_with fail
       go_meet
       case rel=>exact HF
     ·have g1':(n9:Int)<=(n7:Int):=by omega
      by_cases g2:n4=1
      ·subst g2
       go_wp2_with fail
       all_goals
        refine(hM _).mono ?_;rintro e w21 ⟨rfl,A21,S21⟩;have HF:Hid (dB w0 w w21 sb B a9 (aX d9 (decide (n9<=n7/\(1=1\/n9=0))) a8) (Value.slice la L.length lc).ownBlock.toList [.pointer (some ⟨w.heap.size,0,none⟩),.int .i64 (n5:Int),.int .i64 (iq og),.int .i64 (mJ:Int)] [.string t2,.string ⟨#[]⟩,.slice none 0 0,bv,.slice none 0 0,.bool false]/\w21.ownsRow w1.heap.size 3 1 bv X.length (bK X)/\w21.ownsRow base 3 1 (.slice ra A.length rc) A.length (bK A)/\wc.heap.size<=w21.heap.size):=xY Ac.out (Ac.out.1.call (A21.iJ (by first|rfl|(rw[Bool.eq_iff_iff];simp<;>omega))) S21) S21 (by omega) HLB.out.2.2;clear A21 S21 hM Ac
        go_wp2_with fail
        go_meet
        case rel=>exact HF
      ·have g2':¬((n4:Int)=1):=by omega
       have g2b:((n4:Int) == 1)=false:=by simp;omega
       go_wp2_with fail
       all_goals
        refine(hM _).mono ?_;rintro e w21 ⟨rfl,A21,S21⟩;have HF:Hid (dB w0 w w21 sb B a9 (aX d9 (decide (n9<=n7/\(n4=1\/n9=0))) a8) (Value.slice la L.length lc).ownBlock.toList [.pointer (some ⟨w.heap.size,0,none⟩),.int .i64 (n5:Int),.int .i64 (iq og),.int .i64 (mJ:Int)] [.string t2,.string ⟨#[]⟩,.slice none 0 0,bv,.slice none 0 0,.bool false]/\w21.ownsRow w1.heap.size 3 1 bv X.length (bK X)/\w21.ownsRow base 3 1 (.slice ra A.length rc) A.length (bK A)/\wc.heap.size<=w21.heap.size):=xY Ac.out (Ac.out.1.call (A21.iJ (by first|rfl|(rw[Bool.eq_iff_iff];simp<;>omega))) S21) S21 (by omega) HLB.out.2.2;clear A21 S21 hM Ac
        go_wp2_with fail
        go_meet
        case rel=>exact HF
    case rest=>
     obtain⟨b9,XY⟩:∃b,aX d9 (decide (n9<=n7/\(n4=1\/n9=0))) a8=b:=⟨_,rfl⟩
     have HB9:Hid (aX d9 (decide (n9<=n7/\(n4=1\/n9=0))) a8=b9):=XY;rw[XY]at hcut;have IK:Hid (dB w0 w wc sb B a9 b9 (Value.slice la L.length lc).ownBlock.toList [.pointer (some ⟨w.heap.size,0,none⟩),.int .i64 (n5:Int),.int .i64 (iq og),.int .i64 (mJ:Int)] [.string t2,.string ⟨#[]⟩,.slice none 0 0,bv,.slice none 0 0,.bool false]/\wc.ownsRow w1.heap.size 3 1 bv X.length (bK X)/\wc.ownsRow base 3 1 (.slice ra A.length rc) A.length (bK A)):=⟨hcut.out.1,hcut.out.2.1,hcut.out.2.2.1⟩
     have SX:=Nat.le_trans hsz2 hcut.out.2.2.2;clear hcut XY Ac;have aaW:sb<wc.heap.size:=by have:=IK.out.1.lt;omega
     have hNk:=qR w0 wc.drew sb wc.heap.size B n9 n5 a9 b9 [] (.slice none 0 0) (n9:Int) (n5:Int) rfl rfl hl IK.out.1.drew.sc (World.ownsRow_nil _ _ _ _) (Nat.le_refl _) aaW (by simp;omega);obtain⟨K,a10,b10,hTk⟩:∃x y z,gK B n5 n9 [] a9 b9=(x,y,z):=⟨_,_,_,rfl⟩
     have HTk:Hid (gK B n5 n9 [] a9 b9=(K,a10,b10)):=hTk;rw[hTk]at hNk;have c2:wc.cell? ⟨w.heap.size+1,0,none⟩=some (.pointer (some ⟨w.heap.size,0,none⟩)):=IK.out.1.ent.cell? 0;have c3:wc.cell? ⟨w.heap.size+1,1,none⟩=some (.int .i64 (n5:Int)):=IK.out.1.ent.cell? 1;have HR:Hid (∀w22 kv,yV w0 wc.drew w22 sb wc.heap.size B (.slice none 0 0) kv (K,a10,b10)->Ho w0 w w1 wc w22 sb base B a10 b10 (Value.slice la L.length lc).ownBlock.toList [.pointer (some ⟨w.heap.size,0,none⟩),.int .i64 (n5:Int),.int .i64 (iq og),.int .i64 (mJ:Int)] [.string t2,.string ⟨#[]⟩,.slice none 0 0,bv,.slice none 0 0,.bool false] bv (.slice ra A.length rc) kv X A K):=fun w22 kv hk=>VA IK.out hk HLB.out.2.2 (by omega)
     have HBW:Hid (∀g,bv.ownBlock=some g->g<wc.heap.size):=fun g hg=>(IK.out.2.1.lt g hg).2
     have HQ:Hid (∀g,(Value.slice ra A.length rc).ownBlock=some g->g≠w.heap.size):=fun g hg=>(HLB.out.2.2 g hg).2.2.1
     clear hTk
     go_upto_region 30 with fail
     go_cut [] (fun wd=>∃ka kc,Hid (Ho w0 w w1 wc wd sb base B a10 b10 (Value.slice la L.length lc).ownBlock.toList [.pointer (some ⟨w.heap.size,0,none⟩),.int .i64 (n5:Int),.int .i64 (iq og),.int .i64 (mJ:Int)] [.string t2,.string ⟨#[]⟩,.slice none 0 0,bv,.slice ka K.length kc,.bool false] bv (.slice ra A.length rc) (.slice ka K.length kc) X A K))
     case first=>
      go_region_held3 (fun w'=>w'.cell? ⟨w.heap.size+1,0,none⟩=some (.pointer (some ⟨w.heap.size,0,none⟩))/\w'.cell? ⟨w.heap.size+1,1,none⟩=some (.int .i64 (n5:Int))) (first|assumption|exact⟨c2,c3⟩|exact⟨(HK.out.jE HQ.out hw1 SX 4 (.slice ka K.length kc)).mid.ent.cell? 0,(HK.out.jE HQ.out hw1 SX 4 (.slice ka K.length kc)).mid.ent.cell? 1⟩) ((go_at_call 135;refine hNk.mono ?_;rintro e w22 ⟨kv,rfl,hk⟩;obtain⟨ka,kc,rfl⟩:=ak hk.own;have HK:Hid (Ho w0 w w1 wc w22 sb base B a10 b10 (Value.slice la L.length lc).ownBlock.toList [.pointer (some ⟨w.heap.size,0,none⟩),.int .i64 (n5:Int),.int .i64 (iq og),.int .i64 (mJ:Int)] [.string t2,.string ⟨#[]⟩,.slice none 0 0,bv,.slice none 0 0,.bool false] bv (.slice ra A.length rc) (.slice ka K.length kc) X A K):=HR.out w22 _ hk;have k22:w22.cell? ⟨w.heap.size+1,0,none⟩=some (.pointer (some ⟨w.heap.size,0,none⟩)):=HK.out.mid.ent.cell? 0;have j22:w22.cell? ⟨w.heap.size+1,1,none⟩=some (.int .i64 (n5:Int)):=HK.out.mid.ent.cell? 1;have kj22:w22.cell? ⟨w.heap.size+1,0,none⟩=some (.pointer (some ⟨w.heap.size,0,none⟩))/\w22.cell? ⟨w.heap.size+1,1,none⟩=some (.int .i64 (n5:Int)):=⟨k22,j22⟩;have f22:w22.frozen? ⟨w.heap.size,4,none⟩=false:=HK.out.mid.aA.frozen 4;have v22:w22.cell? ⟨w.heap.size,4,none⟩=some (.slice none 0 0):=HK.out.mid.aA.cell? 4;clear hk))
      all_goals
       have HF:Hid (Ho w0 w w1 wc (w22.setCell ⟨w.heap.size,4,none⟩ (.slice ka K.length kc)) sb base B a10 b10 (Value.slice la L.length lc).ownBlock.toList [.pointer (some ⟨w.heap.size,0,none⟩),.int .i64 (n5:Int),.int .i64 (iq og),.int .i64 (mJ:Int)] [.string t2,.string ⟨#[]⟩,.slice none 0 0,bv,.slice ka K.length kc,.bool false] bv (.slice ra A.length rc) (.slice ka K.length kc) X A K):=HK.out.jE HQ.out hw1 SX 4 (.slice ka K.length kc);clear hNk HR HK IK
       go_wp2_with fail
       go_meet
       case rel=>exact⟨_,_,HF⟩
     case rest=>
      obtain⟨ka,kc,HK⟩:=hcut;clear hNk HR IK c2 c3;have c2:=HK.out.mid.ent.cell? 0;have f5:wc.frozen? ⟨w.heap.size,5,none⟩=false:=HK.out.mid.aA.frozen 5;have c5:wc.cell? ⟨w.heap.size,5,none⟩=some (.bool false):=HK.out.mid.aA.cell? 5;have c2':wc.cell? ⟨w.heap.size+1,0,none⟩=some (.pointer (some ⟨w.heap.size,0,none⟩)):=c2;have HD:Hid (∀lo:Bool,lo=decide (n4=2)->LH w0 w (wc.setCell ⟨w.heap.size,5,none⟩ (.bool lo)) sb base B (Value.slice la L.length lc) (.slice ra A.length rc) bv (.slice ka K.length kc) (yN B bound n4 n5 n7 L t2 og mJ a7 b7)):=fun lo hlo=>UY (HK.out.jE HQ.out hw1 SX 5 (.bool lo)) HLI.out (fun g hg=>(HLB.out.2.2 g hg).1) hw1 SX HBW.out (by
       unfold yN vW;rw[HT.out];simp only[HX9.out,HB9.out,HTk.out,if_neg (Nat.pos_iff_ne_zero.1 k0),HX.out];rw[hlo])
      clear HK c2
      go_wp2
      refine bodyPost_ret (v:=.tuple #[.pointer (some ⟨w.heap.size+1,0,none⟩),(.slice ra A.length rc)]) (by simp[results,results111,go_sem]) rfl ?_;exact⟨_,_,_,rfl,by rw[<-HR0.out];exact HD.out _ (by rw[Bool.eq_iff_iff];simp;omega)⟩
end
end Go.Proofs.YtpddgdjocffgdaaGreat
