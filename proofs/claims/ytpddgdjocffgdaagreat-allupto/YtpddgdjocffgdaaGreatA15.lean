/- Packed: see the last text. -/
import Derived.Test.YtpddgdjocffgdaaGreatA12
import Derived.Test.YtpddgdjocffgdaaGreatA14
import Derived.Deep.CutBlock
import Derived.Deep.DeepCutAuto
namespace Go.Proofs.YtpddgdjocffgdaaGreat
open Go.Proofs.Tryz
set_option linter.unusedVariables false
set_option linter.unusedSimpArgs false
set_option linter.unusedSectionVars false
set_option maxHeartbeats 16000000
set_option maxRecDepth 100000
section
open Go.RowKit Go.Sort
variable [DecidableEq aN] [Inhabited aN] [Inhabited aF] [Inhabited ay] [Inhabited aV]
theorem Rows.aap{w:World}{base:Nat}{xs:List aV}{ofs:List ByteArray}{ds:List (Value×List ByteArray)}(h:Rows w base xs ofs ds)(i:Nat)(hi:i<xs.length)(t:ByteArray):Rows (w.setCell ⟨(xs[i]!).vb,1,none⟩ (.string t)) base xs (ofs.set i t) ds:=by
 have S1:Same [(xs[i]!).vb] w (w.setCell ⟨(xs[i]!).vb,1,none⟩ (.string t)):=(Same.refl _ _).set _ _ _ (by simp);have low:∀j,j<xs.length->∀q∈(xs[j]!).foot,q<base:=fun j hj q hq=>h.low _ (by rw[getElem!_pos xs j hj];exact List.getElem_mem hj) q hq
 have gs:(ofs.set i t)[i]! = t:=by rw[getElem!_pos _ i (by rw[List.length_set,h.lo];exact hi),List.getElem_set_self]
 have gn:∀j,j<xs.length->j≠i->(ofs.set i t)[j]! = ofs[j]!:=fun j hj hne=>by
  rw[getElem!_pos _ j (by rw[List.length_set,h.lo];exact hj),List.getElem_set_ne (fun e=>hne e.symm),getElem!_pos ofs j (by rw[h.lo];exact hj)]
 refine⟨fun j hj=>(h.fix j hj).same S1 fun q hq hqs=>?_,fun j hj=>?_,fun j hj=>aG (h.dat j hj) S1 fun g hg hq=>?_,h.apart,h.nodup,h.low,by rw[List.length_set];exact h.lo,h.ld⟩
 ·have hqf:q∈(xs[j]!).foot:=by
   simp only[aV.foot,List.mem_cons]at hq ⊢;rcases hq with e|e|e
   ·exact Or.inl e
   ·exact Or.inr (Or.inr (Or.inl e))
   ·exact Or.inr (Or.inr (Or.inr e))
  obtain rfl:q=(xs[i]!).vb:=by simpa using hqs
  by_cases hji:j=i
  ·subst hji;have:=qM h.nodup hj;simp only[aV.foot,List.nodup_cons,List.mem_cons,not_or]at this;simp only[List.mem_cons]at hq;rcases hq with e|e|e
   ·exact this.1.1 e.symm
   ·exact this.2.1.1 e
   ·exact this.2.1.2 e
  ·exact nP h.nodup hj hi hji hqf (by simp[aV.foot])
 ·by_cases hji:j=i
  ·subst hji;rw[gs];exact(h.aA j hj).ax 1 (.string t)
  ·rw[gn j hj hji];refine S1.at (h.aA j hj) fun hq=>?_
   have e:(xs[j]!).vb=(xs[i]!).vb:=by simpa using hq
   exact nP h.nodup hj hi hji (q:=(xs[j]!).vb) (by simp[aV.foot]) (by rw[e];simp[aV.foot])
 ·have h1:=aI (h.dat j hj) g hg;have h2:=low i hi (xs[i]!).vb (by simp[aV.foot]);have e:g=(xs[i]!).vb:=by simpa using hq
  omega
def dR(xs:List aV):Nat->Option Nat
 | 0=>none
 | i+1=>match dR xs i with
  | some q=>some q
  | none=>match (xs[i]!).e.origin with
   | none=>none
   | some o=>if (xs[o]!).e.origin=none/\(xs[o]!).e.size=(xs[i]!).e.size then none else some (xs[i]!).e.mJ
theorem BQ (xs : List aV) {i q : Nat} (h : dR xs i = some q) : ∀ j, i ≤ j → dR xs j = some q
  | 0, hj => by obtain rfl : i = 0 := by omega
                exact h
  | j + 1, hj => by
    by_cases e : i = j + 1
    · rw [← e]; exact h
    · simp only [dR, BQ xs h j (by omega)]
def gG(xs:List aV)(i:Nat):List ByteArray:=(List.range xs.length).map fun j=>if j<i then (match (xs[j]!).e.origin with|none=>⟨#[]⟩|some o=>(xs[o]!).e.name) else ⟨#[]⟩
theorem QT(xs:List aV)(i:Nat)(hi:i<xs.length):gG xs (i+1)=(gG xs i).set i (match (xs[i]!).e.origin with|none=>⟨#[]⟩|some o=>(xs[o]!).e.name):=by
 apply List.ext_getElem
 ·simp[gG]
 ·intro j h1 h2;rw[List.getElem_set];simp only[gG,List.getElem_map,List.getElem_range];by_cases h:i=j
  ·subst h;rw[if_pos (by omega),if_pos rfl]
  ·rw[if_neg h];by_cases h':j<i
   ·rw[if_pos (by omega),if_pos h']
   ·rw[if_neg (by omega),if_neg h']
theorem Po(xs:List aV)(i:Nat)(hi:i<xs.length)(ho:(xs[i]!).e.origin=none):gG xs (i+1)=gG xs i:=by
 unfold gG;apply List.map_congr_left;intro j hj;by_cases h:j=i
 ·subst h;rw[if_pos (by omega),if_neg (by omega),ho]
 ·by_cases h':j<i
  ·rw[if_pos (by omega),if_pos h']
  ·rw[if_neg (by omega),if_neg h']
structure Am(w0 W wr:World)(sb:Nat)(B:List UInt8)(at_ base:Nat)(xs:List aV)(i:Nat):Prop where
 rows:Rows wr base xs (gG xs i) (List.replicate xs.length (.slice none 0 0,[]))
 sc:bY w0 wr sb B at_ (dR xs i)
 same:Same (sb::xs.map (·.vb)) W wr
theorem PU(u3 u4 u5 u6 u7 u8 u9 Ja Jb Jc Jd Je Jf Jg Jh Ji Jj Jk Jl Jm Jn Jo Jp Jq Jr Js Jt Ju Jv Jw Jx Jy Jz Ka Kb Kc Kd Ke Kf Kg Kh Ki Kj Kk Kl Km Kn Ko Kp Kq Kr Ks Kt Ku Kv Kw Kx Ky Kz Qa Qb Qc Qd Qe Qf Qg Qh Qi Qj Qk Ql Qm Qn Qo Qp Qq Qr Qs Qt Qu Qv Qw Qx Qy Qz Ua Ub Uc Ud Ue Uf Ug Uh Ui Uj Uk Ul Um Un Uo Up Uq Ur Us Ut Uu Uv Uw Ux Uy Uz Va Vb Vc Vd Ve Vf Vg Vh Vi Vj Vk Vl Vm Vn Vo Vp Vq Vr Vs Vt Vu Vv Vw Vx Vy Vz Xa Xb Xc Xd Xe Xf Xg Xh Xi Xj Xk Xl Xm Xn Xo Xp Xq Xr Xs Xt Xu Xv Xw Xx Xy Xz Ya Yb Yc Yd Ye Yf Yg Yh Yi Yj Yk Yl Ym Yn Yo Yp Yq Yr Ys Yt Yu Yv Yw Yx Yy Yz Za Zb Zc Zd Ze Zf Zg Zh Zi Zj Zk Zl Zm Zn Zo Zp Zq Zr Zs Zt Zu Zv Zw Zx Zy Zz Ga Gb Gc Gd Ge Gf Gg Gh Gi Gj Gk Gl Gm Gn Gp Gq Gr Gs Gt Gu Gv Gw Gx Gy Gz Fa Fb Fc Fd Fe Ff Fg Fh Fi Fj Fk Fl Fm Fo Fp Fq Fr Fs Ft Fu Fv Fw Fx Fy Fz Ra Rb Rc Rd Rf Rg Rh Ri Rj Rk Rl Rm Rn Ro Rp Rq Rr Rs Rt Ru Rv Rw Rx Ry Rz Ma Mb Mc Md Me Mf Mg Mh Mi Mj Mk Ml Mm Mn Mo Mp Mq Mr Ms Mt Mu Mv Mw Mx My Mz Da Db Dc Dd De Df Dg Dh Di Dj Dk:Value)(w0 V:World)(sb rb:Nat)(lv:Value)(B:List UInt8)(a1 n:Nat)(bd:Option Nat)(hl:B.length<=140737488355328)(hn:n<=200)(hp0:V.cell? ⟨rb,0,none⟩=some (.int .i64 (n:Int)))(hsc:bY w0 V sb B a1 bd)(R:Ending->World->Prop)
 (hbad:∀w' q,(bd=some q\/(bd=none/\¬a1+8*n<=B.length/\q=B.length))->bY w0 w' sb B a1 (some q)->Same [sb] V w'->R (.returned (.tuple #[])) w')
 (hrest:∀(u3 u4 u5 u6 u7 Ja Jb Jc Jd Je Jf Jg Jh Ji Jj Jk Jl Jm Jn Jo Jp Jq Jr Js Jt Ju Jv Jw Jx Jy Jz Ka Kb Kc Kd Ke Kf Kg Kh Ki Kj Kk Kl Km Kn Ko Kp Kq Kr Ks Kt Ku Kv Kw Kx Ky Kz Qa Qb Qc Qd Qe Qf Qg Qh Qi Qj Qk Ql Qm Qn Qo Qp Qq Qr Qs Qt Qu Qv Qw Qx Qy Qz Ua Ub Uc Ud Ue Uf Ug Uh Ui Uj Uk Ul Um Un Uo Up Uq Ur Us Ut Uu Uv Uw Ux Uy Uz Va Vb Vc Vd Ve Vf Vg Vh Vi Vj Vk Vl Vm Vn Vo Vp Vq Vr Vs Vt Vu Vv Vw Vx Vy Vz Xa Xb Xc Xd Xe Xf Xg Xh Xi Xj Xk Xl Xm Xn Xo Xp Xq Xr Xs Xt Xu Xv Xw Xx Xy Xz Ya Yb Yc Yd Ye Yf Yg Yh Yi Yj Yk Yl Ym Yn Yo Yp Yq Yr Ys Yt Yu Yv Yw Yx Yy Yz Za Zb Zc Zd Ze Zf Zg Zh Zi Zj Zk Zl Zm Zn Zo Zp Zq Zr Zs Zt Zu Zv Zw Zx Zy Zz Ga Gb Gc Gd Ge Gf Gg Gh Gi Gj Gk Gl Gm Gn Gp Gq Gr Gs Gt Gu Gv Gw Gx Gy Gz Fa Fb Fc Fd Fe Ff Fg Fh Fi Fj Fk Fl Fm Fo Fp Fq Fr Fs Ft Fu Fv Fw Fx Fy Fz Ra Rb Rc Rd Rf Rg Rh Ri Rj Rk Rl Rm Rn Ro Rp Rq Rr Rs Rt Ru Rv Rw Rx Ry Rz Ma Mb Mc Md Me Mf Mg Mh Mi Mj Mk Ml Mm Mn Mo Mp Mq Mr Ms Mt Mu Mv Mw Mx My Mz Da Db Dc Dd De Df Dg Dh Di Dj Dk:Value)(wd:World),bd=none->a1+8*n<=B.length->Hid (bY w0 wd sb B (a1+8*n) none/\Same [sb] V wd)->Code.wp prog (bI 4 (f112.body.getD .skip)) (bodyPost prog f112 R) { tmps:=#[.pointer (some ⟨sb,0,none⟩),lv,.pointer (some ⟨rb,0,none⟩),u3,u4,u5,u6,u7,.int .i64 a1,.string (aH B a1 (8*n)),Ja,Jb,Jc,Jd,Je,Jf,Jg,Jh,Ji,Jj,Jk,Jl,Jm,Jn,Jo,Jp,Jq,Jr,Js,Jt,Ju,Jv,Jw,Jx,Jy,Jz,Ka,Kb,Kc,Kd,Ke,Kf,Kg,Kh,Ki,Kj,Kk,Kl,Km,Kn,Ko,Kp,Kq,Kr,Ks,Kt,Ku,Kv,Kw,Kx,Ky,Kz,Qa,Qb,Qc,Qd,Qe,Qf,Qg,Qh,Qi,Qj,Qk,Ql,Qm,Qn,Qo,Qp,Qq,Qr,Qs,Qt,Qu,Qv,Qw,Qx,Qy,Qz,Ua,Ub,Uc,Ud,Ue,Uf,Ug,Uh,Ui,Uj,Uk,Ul,Um,Un,Uo,Up,Uq,Ur,Us,Ut,Uu,Uv,Uw,Ux,Uy,Uz,Va,Vb,Vc,Vd,Ve,Vf,Vg,Vh,Vi,Vj,Vk,Vl,Vm,Vn,Vo,Vp,Vq,Vr,Vs,Vt,Vu,Vv,Vw,Vx,Vy,Vz,Xa,Xb,Xc,Xd,Xe,Xf,Xg,Xh,Xi,Xj,Xk,Xl,Xm,Xn,Xo,Xp,Xq,Xr,Xs,Xt,Xu,Xv,Xw,Xx,Xy,Xz,Ya,Yb,Yc,Yd,Ye,Yf,Yg,Yh,Yi,Yj,Yk,Yl,Ym,Yn,Yo,Yp,Yq,Yr,Ys,Yt,Yu,Yv,Yw,Yx,Yy,Yz,Za,Zb,Zc,Zd,Ze,Zf,Zg,Zh,Zi,Zj,Zk,Zl,Zm,Zn,Zo,Zp,Zq,Zr,Zs,Zt,Zu,Zv,Zw,Zx,Zy,Zz,Ga,Gb,Gc,Gd,Ge,Gf,Gg,Gh,Gi,Gj,Gk,Gl,Gm,Gn,Gp,Gq,Gr,Gs,Gt,Gu,Gv,Gw,Gx,Gy,Gz,Fa,Fb,Fc,Fd,Fe,Ff,Fg,Fh,Fi,Fj,Fk,Fl,Fm,Fo,Fp,Fq,Fr,Fs,Ft,Fu,Fv,Fw,Fx,Fy,Fz,Ra,Rb,Rc,Rd,Rf,Rg,Rh,Ri,Rj,Rk,Rl,Rm,Rn,Ro,Rp,Rq,Rr,Rs,Rt,Ru,Rv,Rw,Rx,Ry,Rz,Ma,Mb,Mc,Md,Me,Mf,Mg,Mh,Mi,Mj,Mk,Ml,Mm,Mn,Mo,Mp,Mq,Mr,Ms,Mt,Mu,Mv,Mw,Mx,My,Mz,Da,Db,Dc,Dd,De,Df,Dg,Dh,Di,Dj,Dk],defers:=[] } wd) :
 Code.wp prog (bI 1 (f112.body.getD .skip)) (bodyPost prog f112 R) { tmps:=#[.pointer (some ⟨sb,0,none⟩),lv,.pointer (some ⟨rb,0,none⟩),u3,u4,u5,u6,u7,u8,u9,Ja,Jb,Jc,Jd,Je,Jf,Jg,Jh,Ji,Jj,Jk,Jl,Jm,Jn,Jo,Jp,Jq,Jr,Js,Jt,Ju,Jv,Jw,Jx,Jy,Jz,Ka,Kb,Kc,Kd,Ke,Kf,Kg,Kh,Ki,Kj,Kk,Kl,Km,Kn,Ko,Kp,Kq,Kr,Ks,Kt,Ku,Kv,Kw,Kx,Ky,Kz,Qa,Qb,Qc,Qd,Qe,Qf,Qg,Qh,Qi,Qj,Qk,Ql,Qm,Qn,Qo,Qp,Qq,Qr,Qs,Qt,Qu,Qv,Qw,Qx,Qy,Qz,Ua,Ub,Uc,Ud,Ue,Uf,Ug,Uh,Ui,Uj,Uk,Ul,Um,Un,Uo,Up,Uq,Ur,Us,Ut,Uu,Uv,Uw,Ux,Uy,Uz,Va,Vb,Vc,Vd,Ve,Vf,Vg,Vh,Vi,Vj,Vk,Vl,Vm,Vn,Vo,Vp,Vq,Vr,Vs,Vt,Vu,Vv,Vw,Vx,Vy,Vz,Xa,Xb,Xc,Xd,Xe,Xf,Xg,Xh,Xi,Xj,Xk,Xl,Xm,Xn,Xo,Xp,Xq,Xr,Xs,Xt,Xu,Xv,Xw,Xx,Xy,Xz,Ya,Yb,Yc,Yd,Ye,Yf,Yg,Yh,Yi,Yj,Yk,Yl,Ym,Yn,Yo,Yp,Yq,Yr,Ys,Yt,Yu,Yv,Yw,Yx,Yy,Yz,Za,Zb,Zc,Zd,Ze,Zf,Zg,Zh,Zi,Zj,Zk,Zl,Zm,Zn,Zo,Zp,Zq,Zr,Zs,Zt,Zu,Zv,Zw,Zx,Zy,Zz,Ga,Gb,Gc,Gd,Ge,Gf,Gg,Gh,Gi,Gj,Gk,Gl,Gm,Gn,Gp,Gq,Gr,Gs,Gt,Gu,Gv,Gw,Gx,Gy,Gz,Fa,Fb,Fc,Fd,Fe,Ff,Fg,Fh,Fi,Fj,Fk,Fl,Fm,Fo,Fp,Fq,Fr,Fs,Ft,Fu,Fv,Fw,Fx,Fy,Fz,Ra,Rb,Rc,Rd,Rf,Rg,Rh,Ri,Rj,Rk,Rl,Rm,Rn,Ro,Rp,Rq,Rr,Rs,Rt,Ru,Rv,Rw,Rx,Ry,Rz,Ma,Mb,Mc,Md,Me,Mf,Mg,Mh,Mi,Mj,Mk,Ml,Mm,Mn,Mo,Mp,Mq,Mr,Ms,Mt,Mu,Mv,Mw,Mx,My,Mz,Da,Db,Dc,Dd,De,Df,Dg,Dh,Di,Dj,Dk],defers:=[] } V:=by
 generalize hC:bI 1 (f112.body.getD .skip)=C
 delta f112 at hC
 dsimp only[bI,Option.getD]at hC;subst hC;have oP:=hid hrest;have HBAD:=hid hbad;have hc1:V.cell? ⟨sb,1,none⟩=some (.int .i64 (a1:Int)):=hsc.cell.cell? 1;have m1:IntKind.i64.wrap (8*(n:Int))=8*(n:Int):=IntWalk.i64_in _ (by omega);clear hrest hbad;by_cases hg:bd=none/\a1+8*n<=B.length
 ·obtain⟨rfl,hle⟩:=hg;obtain⟨tx,htx⟩:∃t,t=aH B a1 (8*n):=⟨_,rfl⟩
  have HTX:Hid (tx=aH B a1 (8*n)):=htx;have hT:=lX w0 V sb B (8*n) a1 none tx (a1+8*n) none (8*(n:Int)) (by omega) (by omega) hl hsc (by unfold ig;simp only;rw[if_pos hle,htx]);clear htx hsc HBAD
  go_upto_region 8 with fail
  go_cut [9] (fun sv wd=>sv=.string tx/\Hid (bY w0 wd sb B (a1+8*n) none/\Same [sb] V wd))
  case first=>
   go_wp2_with fail
   refine hT.mono ?_;rintro e w1 ⟨rfl,A1,S1⟩;have HF:Hid (bY w0 w1 sb B (a1+8*n) none/\Same [sb] V w1):=⟨A1,S1⟩
   clear A1 S1 hT;dsimp only
   go_wp2_with fail
   go_meet
   case rel=>exact⟨rfl,HF⟩
  case rest=>
   obtain⟨rfl,HC⟩:=hcut;have hc2:wc.cell? ⟨sb,2,none⟩=some (.int .i64 (-1)):=HC.out.1.cell.cell? 2;clear hT
   go_upto_if 108 with fail
   refine wp_cond_false rfl (wp_skip ?_);simp only[Exit.then];refine ‹∀(a:Act)(w:World),Code.wp prog _ _ a w->_› _ _ ?_;obtain rfl:=HTX.out;exact oP.out _ _ _ _ _ _ _ _ _ _ _ _ _ _ _ _ _ _ _ _ _ _ _ _ _ _ _ _ _ _ _ _ _ _ _ _ _ _ _ _ _ _ _ _ _ _ _ _ _ _ _ _ _ _ _ _ _ _ _ _ _ _ _ _ _ _ _ _ _ _ _ _ _ _ _ _ _ _ _ _ _ _ _ _ _ _ _ _ _ _ _ _ _ _ _ _ _ _ _ _ _ _ _ _ _ _ _ _ _ _ _ _ _ _ _ _ _ _ _ _ _ _ _ _ _ _ _ _ _ _ _ _ _ _ _ _ _ _ _ _ _ _ _ _ _ _ _ _ _ _ _ _ _ _ _ _ _ _ _ _ _ _ _ _ _ _ _ _ _ _ _ _ _ _ _ _ _ _ _ _ _ _ _ _ _ _ _ _ _ _ _ _ _ _ _ _ _ _ _ _ _ _ _ _ _ _ _ _ _ _ _ _ _ _ _ _ _ _ _ _ _ _ _ _ _ _ _ _ _ _ _ _ _ _ _ _ _ _ _ _ _ _ _ _ _ _ _ _ _ _ _ _ _ _ _ _ _ _ _ _ _ _ _ _ _ _ _ _ _ _ _ _ _ _ _ _ _ _ _ _ _ _ _ _ _ _ _ _ _ _ _ _ _ _ _ _ _ _ _ _ _ _ _ _ _ _ _ _ _ _ _ _ _ _ _ _ _ _ _ _ _ _ _ _ _ _ rfl hle HC
 ·obtain⟨q,hq⟩:∃q,bd=some q\/(bd=none/\¬a1+8*n<=B.length/\q=B.length):=by
   cases bd with
   | some q=>exact⟨q,Or.inl rfl⟩
   | none=>exact⟨B.length,Or.inr ⟨rfl,fun h=>hg ⟨rfl,h⟩,rfl⟩⟩
  have hT:=lX w0 V sb B (8*n) a1 bd ⟨#[]⟩ a1 (some q) (8*(n:Int)) (by omega) (by omega) hl hsc (by
   unfold ig;rcases hq with rfl|⟨rfl,h1,rfl⟩
   ·rfl
   ·simp only;rw[if_neg h1])
  have HQ:=hid hq;have lq:(0:Int)<=(q:Int):=by omega
  clear hsc oP hg hq
  go_wp2_with fail
  refine hT.mono ?_;rintro e w1 ⟨rfl,A1,S1⟩;have hc2:w1.cell? ⟨sb,2,none⟩=some (.int .i64 (q:Int)):=A1.cell.cell? 2;have HR:Hid (R (.returned (.tuple #[])) w1):=HBAD.out w1 q HQ.out A1 S1;clear A1 S1 hT HBAD
  go_wp2_with fail
  exact bodyPost_ret (results_none rfl _ _ _) rfl HR.out
theorem NV(w0 W:World)(sb rb base:Nat)(la:Option Addr)(lc:Nat)(B:List UInt8)(xs:List aV)(a1 n:Nat)(pc:List Value)(hl:B.length<=140737488355328)(hI:Am w0 W W sb B a1 base xs 0)(hE:oD W la xs)(hlg:∀lg,la=some ⟨lg,0,none⟩->lg∉sb::xs.map (·.vb))(hsb:∀x∈xs,sb∉x.foot)(hsl:sb<base)(ho:∀x∈xs,∀o,x.e.origin=some o->o<xs.length)(hxl:xs.length<=20)(hz:∀x∈xs,x.e.size<65536)(hvw:∀x∈xs,w0.heap.size<=x.vb)
 (hP:At W rb 84 pc) (hP0:pc[0]? = some (.int .i64 (n:Int))) (hPn:rb∉sb::xs.map (·.vb)) (hn:n<=200) (R:Ending->World->Prop)
 (hbad:∀w' q,(dR xs xs.length=some q\/(dR xs xs.length=none/\¬a1+8*n<=B.length/\q=B.length))->bY w0 w' sb B a1 (some q)->Same (sb::xs.map (·.vb)) W w'->R (.returned (.tuple #[])) w')
 (hrest:∀(u3 u4 u5 u6 u7 Ja Jb Jc Jd Je Jf Jg Jh Ji Jj Jk Jl Jm Jn Jo Jp Jq Jr Js Jt Ju Jv Jw Jx Jy Jz Ka Kb Kc Kd Ke Kf Kg Kh Ki Kj Kk Kl Km Kn Ko Kp Kq Kr Ks Kt Ku Kv Kw Kx Ky Kz Qa Qb Qc Qd Qe Qf Qg Qh Qi Qj Qk Ql Qm Qn Qo Qp Qq Qr Qs Qt Qu Qv Qw Qx Qy Qz Ua Ub Uc Ud Ue Uf Ug Uh Ui Uj Uk Ul Um Un Uo Up Uq Ur Us Ut Uu Uv Uw Ux Uy Uz Va Vb Vc Vd Ve Vf Vg Vh Vi Vj Vk Vl Vm Vn Vo Vp Vq Vr Vs Vt Vu Vv Vw Vx Vy Vz Xa Xb Xc Xd Xe Xf Xg Xh Xi Xj Xk Xl Xm Xn Xo Xp Xq Xr Xs Xt Xu Xv Xw Xx Xy Xz Ya Yb Yc Yd Ye Yf Yg Yh Yi Yj Yk Yl Ym Yn Yo Yp Yq Yr Ys Yt Yu Yv Yw Yx Yy Yz Za Zb Zc Zd Ze Zf Zg Zh Zi Zj Zk Zl Zm Zn Zo Zp Zq Zr Zs Zt Zu Zv Zw Zx Zy Zz Ga Gb Gc Gd Ge Gf Gg Gh Gi Gj Gk Gl Gm Gn Gp Gq Gr Gs Gt Gu Gv Gw Gx Gy Gz Fa Fb Fc Fd Fe Ff Fg Fh Fi Fj Fk Fl Fm Fo Fp Fq Fr Fs Ft Fu Fv Fw Fx Fy Fz Ra Rb Rc Rd Rf Rg Rh Ri Rj Rk Rl Rm Rn Ro Rp Rq Rr Rs Rt Ru Rv Rw Rx Ry Rz Ma Mb Mc Md Me Mf Mg Mh Mi Mj Mk Ml Mm Mn Mo Mp Mq Mr Ms Mt Mu Mv Mw Mx My Mz Da Db Dc Dd De Df Dg Dh Di Dj Dk:Value)(wd:World),dR xs xs.length=none->a1+8*n<=B.length->Hid (Rows wd base xs (gG xs xs.length) (List.replicate xs.length (.slice none 0 0,[]))/\bY w0 wd sb B (a1+8*n) none/\Same (sb::xs.map (·.vb)) W wd)->Code.wp prog (bI 4 (f112.body.getD .skip)) (bodyPost prog f112 R) { tmps:=#[.pointer (some ⟨sb,0,none⟩),.slice la xs.length lc,.pointer (some ⟨rb,0,none⟩),u3,u4,u5,u6,u7,.int .i64 a1,.string (aH B a1 (8*n)),Ja,Jb,Jc,Jd,Je,Jf,Jg,Jh,Ji,Jj,Jk,Jl,Jm,Jn,Jo,Jp,Jq,Jr,Js,Jt,Ju,Jv,Jw,Jx,Jy,Jz,Ka,Kb,Kc,Kd,Ke,Kf,Kg,Kh,Ki,Kj,Kk,Kl,Km,Kn,Ko,Kp,Kq,Kr,Ks,Kt,Ku,Kv,Kw,Kx,Ky,Kz,Qa,Qb,Qc,Qd,Qe,Qf,Qg,Qh,Qi,Qj,Qk,Ql,Qm,Qn,Qo,Qp,Qq,Qr,Qs,Qt,Qu,Qv,Qw,Qx,Qy,Qz,Ua,Ub,Uc,Ud,Ue,Uf,Ug,Uh,Ui,Uj,Uk,Ul,Um,Un,Uo,Up,Uq,Ur,Us,Ut,Uu,Uv,Uw,Ux,Uy,Uz,Va,Vb,Vc,Vd,Ve,Vf,Vg,Vh,Vi,Vj,Vk,Vl,Vm,Vn,Vo,Vp,Vq,Vr,Vs,Vt,Vu,Vv,Vw,Vx,Vy,Vz,Xa,Xb,Xc,Xd,Xe,Xf,Xg,Xh,Xi,Xj,Xk,Xl,Xm,Xn,Xo,Xp,Xq,Xr,Xs,Xt,Xu,Xv,Xw,Xx,Xy,Xz,Ya,Yb,Yc,Yd,Ye,Yf,Yg,Yh,Yi,Yj,Yk,Yl,Ym,Yn,Yo,Yp,Yq,Yr,Ys,Yt,Yu,Yv,Yw,Yx,Yy,Yz,Za,Zb,Zc,Zd,Ze,Zf,Zg,Zh,Zi,Zj,Zk,Zl,Zm,Zn,Zo,Zp,Zq,Zr,Zs,Zt,Zu,Zv,Zw,Zx,Zy,Zz,Ga,Gb,Gc,Gd,Ge,Gf,Gg,Gh,Gi,Gj,Gk,Gl,Gm,Gn,Gp,Gq,Gr,Gs,Gt,Gu,Gv,Gw,Gx,Gy,Gz,Fa,Fb,Fc,Fd,Fe,Ff,Fg,Fh,Fi,Fj,Fk,Fl,Fm,Fo,Fp,Fq,Fr,Fs,Ft,Fu,Fv,Fw,Fx,Fy,Fz,Ra,Rb,Rc,Rd,Rf,Rg,Rh,Ri,Rj,Rk,Rl,Rm,Rn,Ro,Rp,Rq,Rr,Rs,Rt,Ru,Rv,Rw,Rx,Ry,Rz,Ma,Mb,Mc,Md,Me,Mf,Mg,Mh,Mi,Mj,Mk,Ml,Mm,Mn,Mo,Mp,Mq,Mr,Ms,Mt,Mu,Mv,Mw,Mx,My,Mz,Da,Db,Dc,Dd,De,Df,Dg,Dh,Di,Dj,Dk],defers:=[] } wd) :
 Calls prog 112 #[.pointer (some ⟨sb,0,none⟩),.slice la xs.length lc,.pointer (some ⟨rb,0,none⟩)] W R:=by
 have hnot:=bP;have HI0:Hid (Am w0 W W sb B a1 base xs 0):=hI;have HE:Hid (oD W la xs/\∀lg,la=some ⟨lg,0,none⟩->lg∉sb::xs.map (·.vb)):=⟨hE,hlg⟩
 have oP:=hid hrest;have HBAD:=hid hbad;have HPP:Hid (At W rb 84 pc/\pc[0]? = some (.int .i64 (n:Int))/\rb∉sb::xs.map (·.vb)):=⟨hP,hP0,hPn⟩
 clear hI hE hlg hrest hbad hP hP0 hPn
 go_enter func112,ntmps112
 go_upto_block 0 with fail
 go_cut [6,7] (fun _ _ wd=>∃i,i<=xs.length/\(dR xs i=none->i=xs.length)/\Hid (Am w0 W wd sb B a1 base xs i))
 case first=>
  go_wp2_with fail
  go_loopw [6,7] (fun i _ wr=>∃j:Nat,i=.int .i64 j/\j<=xs.length/\Hid (Am w0 W wr sb B a1 base xs j)) (fun i _ _=>xs.length-(intOf i).toNat)
  case atStart=>exact⟨0,rfl,Nat.zero_le _,HI0.out⟩
  case round=>
   obtain⟨j,rfl,hj,HJ⟩:=hrel;have hc2:wr.cell? ⟨sb,2,none⟩=some (.int .i64 (xI (dR xs j))):=HJ.out.sc.cell.cell? 2;by_cases hjl:j<xs.length
   ·have l1:(j:Int)<(xs.length:Int):=by omega
    cases hq:dR xs j with
    | some q=>
     rw[hq]at hc2;simp only[xI]at hc2;have lq:¬((q:Int)<0):=by omega
     have lq2:(0:Int)<=(q:Int):=by omega
     have HR:Hid (∃i,i<=xs.length/\(dR xs i=none->i=xs.length)/\Hid (Am w0 W wr sb B a1 base xs i)):=⟨j,hj,(fun e=>by rw[hq]at e;cases e),HJ.out⟩
     clear HJ hq
     go_wp2_with fail
     go_meet
     case rel=>exact HR.out
    | none=>
     rw[hq]at hc2;simp only[xI]at hc2;have lq:(-1:Int)<0:=by omega
     obtain⟨lg,lcs,hla,hAl,hce⟩:=HE.out.1.cell j hjl;have um:=HE.out.2 lg hla;have HLO:Hid (∀o,o<xs.length->wr.cell? ⟨lg,o,none⟩=some (.pointer (some ⟨(xs[o]!).eb,0,none⟩))):=fun o ho'=>by
      obtain⟨lg',aaQ,SL,SN,XH⟩:=HE.out.1.cell o ho';obtain rfl:lg=lg':=by rw[hla]at SL;simpa using SL
      rw[(HJ.out.same.at SN um).cell?,<-SN.cell?];exact XH
     subst hla;have p1:=HLO.out j hjl;have p2:wr.cell? ⟨(xs[j]!).eb,0,none⟩=some (.pointer (some ⟨(xs[j]!).vb,0,none⟩)):=(HJ.out.rows.fix j hjl).ent.cell? 0;have p3:wr.cell? ⟨(xs[j]!).eb,1,none⟩=some (.int .i64 ((xs[j]!).e.size:Int)):=(HJ.out.rows.fix j hjl).ent.cell? 1;have p4:wr.cell? ⟨(xs[j]!).eb,2,none⟩=some (.int .i64 (iq (xs[j]!).e.origin)):=(HJ.out.rows.fix j hjl).ent.cell? 2;have p5:wr.cell? ⟨(xs[j]!).eb,3,none⟩=some (.int .i64 ((xs[j]!).e.mJ:Int)):=(HJ.out.rows.fix j hjl).ent.cell? 3;have p6:wr.cell? ⟨(xs[j]!).vb,1,none⟩=some (.string (gG xs j)[j]!):=(HJ.out.rows.aA j hjl).cell? 1;have hmj:xs[j]!∈xs:=by rw[getElem!_pos xs j hjl];exact List.getElem_mem hjl
     cases hog:(xs[j]!).e.origin with
     | none=>
      rw[hog]at p4;simp only[iq]at p4;have HN:Hid (Am w0 W wr sb B a1 base xs (j+1)):=⟨by rw[Po xs j hjl hog];exact HJ.out.rows,by
       have:dR xs (j+1)=dR xs j:=by rw[hq];simp only[dR,hq,hog]
       rw[this];exact HJ.out.sc,HJ.out.same⟩
      clear HJ hq hAl hce HLO hog hmj p3 p5 p6;generalize xs[j]! = x at *
      go_wp2_with fail
      go_roundw
      case rel=>exact⟨j+1,by go_num,by omega,HN.out⟩
      case measure=>simp[intOf];omega
     | some o=>
      rw[hog]at p4;simp only[iq]at p4;have hol:=ho _ hmj o hog;have lo:(o:Int)<(xs.length:Int):=by omega
      have lo2:¬((o:Int)<0):=by omega
      have lo3:(0:Int)<=(o:Int):=by omega
      have r1:=HLO.out o hol;have r2:wr.cell? ⟨(xs[o]!).eb,0,none⟩=some (.pointer (some ⟨(xs[o]!).vb,0,none⟩)):=(HJ.out.rows.fix o hol).ent.cell? 0;have r3:wr.cell? ⟨(xs[o]!).eb,1,none⟩=some (.int .i64 ((xs[o]!).e.size:Int)):=(HJ.out.rows.fix o hol).ent.cell? 1;have r4:wr.cell? ⟨(xs[o]!).eb,2,none⟩=some (.int .i64 (iq (xs[o]!).e.origin)):=(HJ.out.rows.fix o hol).ent.cell? 2;have r5:wr.cell? ⟨(xs[o]!).vb,0,none⟩=some (.string (xs[o]!).e.name):=(HJ.out.rows.aA o hol).cell? 0;have hM:=fun ok=>cO w0 wr.drew sb B a1 none ok (xs[j]!).e.mJ ((xs[j]!).e.mJ:Int) rfl (by have:=HJ.out.sc;rw[hq]at this;exact this.next ((Same.refl [] wr).drew) (by simp) (by simp))
      have HSC:Hid (∀w1,bY w0 w1 sb B a1 (aX none (decide ((xs[o]!).e.origin=none/\(xs[o]!).e.size=(xs[j]!).e.size)) (xs[j]!).e.mJ)->Same [sb] wr w1->Am w0 W (w1.setCell ⟨(xs[j]!).vb,1,none⟩ (.string (xs[o]!).e.name)).drew sb B a1 base xs (j+1)):=fun w1 hs1 hS1=>by
       have hR1:Rows w1 base xs (gG xs j) (List.replicate xs.length (.slice none 0 0,[])):=HJ.out.rows.same hS1 (fun q hq'=>by
        obtain rfl:q=sb:=by simpa using hq'
        refine⟨hsb,fun k hk e=>?_⟩;have:=aI (HJ.out.rows.dat k hk) q e;omega)
       have hR2:=hR1.aap j hjl (xs[o]!).e.name;have e1:gG xs (j+1)=(gG xs j).set j (xs[o]!).e.name:=by rw[QT xs j hjl];simp only[hog]
       have e2:dR xs (j+1)=aX none (decide ((xs[o]!).e.origin=none/\(xs[o]!).e.size=(xs[j]!).e.size)) (xs[j]!).e.mJ:=by
        simp only[dR,hq,hog,aX,decide_eq_true_eq]
       have S2:Same [(xs[j]!).vb] w1 (w1.setCell ⟨(xs[j]!).vb,1,none⟩ (.string (xs[o]!).e.name)).drew:=((Same.refl _ _).set _ _ _ (by simp)).drew;have hvb:(xs[j]!).vb≠sb:=fun e=>hsb _ hmj (by rw[<-e];simp[aV.foot])
       have hlow:w0.heap.size<=(xs[j]!).vb:=hvw _ hmj;refine⟨?_,?_,?_⟩
       ·rw[e1];exact hR2.same ((Same.refl [] _).drew) (by simp)
       ·rw[e2];exact hs1.next S2 (by rw[List.mem_singleton];exact fun e=>hvb e.symm) (fun k hk=>by rw[List.mem_singleton]at hk;omega)
       ·refine(HJ.out.same.step hS1 (fun k hk _=>by simp at hk;simp[hk])).step S2 (fun k hk _=>?_);have:k=(xs[j]!).vb:=by simpa using hk
        rw[this];exact List.mem_cons_of_mem _ (List.mem_map.2 ⟨_,hmj,rfl⟩)
      have HSE:Hid (∀w1,Same [sb] wr w1->w1.cell? ⟨lg,j,none⟩=some (.pointer (some ⟨(xs[j]!).eb,0,none⟩))/\w1.cell? ⟨(xs[j]!).eb,0,none⟩=some (.pointer (some ⟨(xs[j]!).vb,0,none⟩))/\w1.cell? ⟨(xs[o]!).eb,0,none⟩=some (.pointer (some ⟨(xs[o]!).vb,0,none⟩))/\w1.cell? ⟨(xs[o]!).vb,0,none⟩=some (.string (xs[o]!).e.name)/\w1.frozen? ⟨(xs[j]!).vb,1,none⟩=false/\w1.cell? ⟨(xs[j]!).vb,1,none⟩=some (.string (gG xs j)[j]!)):=fun w1 hS1=>by
       have hR1:Rows w1 base xs (gG xs j) (List.replicate xs.length (.slice none 0 0,[])):=HJ.out.rows.same hS1 (fun q hq'=>by
        obtain rfl:q=sb:=by simpa using hq'
        refine⟨hsb,fun k hk e=>?_⟩;have:=aI (HJ.out.rows.dat k hk) q e;omega)
       refine⟨?_,(hR1.fix j hjl).ent.cell? 0,(hR1.fix o hol).ent.cell? 0,(hR1.aA o hol).cell? 0,(hR1.aA j hjl).frozen 1,(hR1.aA j hjl).cell? 1⟩;have h1:=HJ.out.same.at hAl um;rw[(hS1.at h1 (by simp at um ⊢;exact um.1)).cell?,<-hAl.cell?];exact hce
      clear HJ hq hAl hce HLO hmj um;generalize (gG xs j)[j]! = of0 at *;generalize xs[j]! = x at *;generalize xs[o]! = y at *;clear hog;cases hoy:y.e.origin with
      | none=>
       rw[hoy]at r4;simp only[iq]at r4;simp only[hoy,true_and]at HSC;clear hoy
       go_wp2_with fail
       refine aU 27 (by kernel_rfl) (by kernel_rfl) ?_;simp only[List.take_succ_cons,List.take_zero,List.drop_succ_cons,List.drop_zero]
       repeat still_step
       refine wpStill_nil ?_
       go_wp2_with fail
       refine(hM _).mono ?_;rintro e w1 ⟨rfl,A1,S1⟩;have S1':Same [sb] wr w1:=((Same.refl [sb] wr).drew).step S1 (fun k hk _=>hk);have HF:Hid (Am w0 W (w1.setCell ⟨x.vb,1,none⟩ (.string y.e.name)).drew sb B a1 base xs (j+1)):=HSC.out w1 (A1.iJ (by first|rfl|(rw[Bool.eq_iff_iff];simp<;>omega))) S1';obtain⟨q1,q2,q3,q4,q5,q6⟩:=HSE.out w1 S1';clear HSC HSE hM A1 S1 S1'
       go_wp2_with fail
       refine aU 16 (by kernel_rfl) (by kernel_rfl) ?_;simp only[List.take_succ_cons,List.take_zero,List.drop_succ_cons,List.drop_zero]
       repeat still_step
       refine wpStill_nil ?_
       go_wp2
       go_roundw
       case rel=>exact⟨j+1,by go_num,by omega,HF.out⟩
       case measure=>simp[intOf];omega
      | some oo=>
       rw[hoy]at r4;simp only[iq]at r4;obtain⟨zo,hzo⟩:∃z:Int,(oo:Int)=z:=⟨_,rfl⟩
       rw[hzo]at r4;have loo:¬(zo<0):=by omega
       have loo2:(0:Int)<=zo:=by omega
       have loo3:decide (zo<0)=false:=decide_eq_false loo;have ZO:Hid (∀w1,bY w0 w1 sb B a1 (aX none false x.e.mJ)->Same [sb] wr w1->Am w0 W (w1.setCell ⟨x.vb,1,none⟩ (.string y.e.name)).drew sb B a1 base xs (j+1)):=by
        have h0:=HSC.out;rw[hoy]at h0;intro w1 h1 h2;exact h0 w1 (by simpa using h1) h2
       clear HSC hoy hzo loo
       go_wp2_with fail
       refine aU 27 (by kernel_rfl) (by kernel_rfl) ?_;simp only[List.take_succ_cons,List.take_zero,List.drop_succ_cons,List.drop_zero]
       still_step
       still_step
       still_step
       still_step
       still_step
       still_step
       refine RU (fun K hK=>?_)
       go_simp
       refine hK _ ?_;clear hK K;refine iQ (by kernel_rfl) ?_;simp only[Act.put,List.setIfInBounds_toArray,List.set_cons_zero,List.set_cons_succ];refine iQ (by kernel_rfl) ?_;simp only[Act.put,List.setIfInBounds_toArray,List.set_cons_zero,List.set_cons_succ];refine iQ (by kernel_rfl) ?_;simp only[Act.put,List.setIfInBounds_toArray,List.set_cons_zero,List.set_cons_succ];refine iQ (by kernel_rfl) ?_;simp only[Act.put,List.setIfInBounds_toArray,List.set_cons_zero,List.set_cons_succ];refine iQ (by kernel_rfl) ?_;simp only[Act.put,List.setIfInBounds_toArray,List.set_cons_zero,List.set_cons_succ];refine iQ (by kernel_rfl) ?_;simp only[Act.put,List.setIfInBounds_toArray,List.set_cons_zero,List.set_cons_succ];refine iQ (by kernel_rfl) ?_;simp only[Act.put,List.setIfInBounds_toArray,List.set_cons_zero,List.set_cons_succ];refine iQ (by kernel_rfl) ?_;simp only[Act.put,List.setIfInBounds_toArray,List.set_cons_zero,List.set_cons_succ];refine iQ (by kernel_rfl) ?_;simp only[Act.put,List.setIfInBounds_toArray,List.set_cons_zero,List.set_cons_succ];refine iQ (by kernel_rfl) ?_;simp only[Act.put,List.setIfInBounds_toArray,List.set_cons_zero,List.set_cons_succ];refine iQ (by kernel_rfl) ?_;simp only[Act.put,List.setIfInBounds_toArray,List.set_cons_zero,List.set_cons_succ];refine iQ (by kernel_rfl) ?_;simp only[Act.put,List.setIfInBounds_toArray,List.set_cons_zero,List.set_cons_succ];refine QK (fun K hK=>?_)
       go_simp
       refine hK _ ?_;clear hK K
       repeat still_step
       refine wpStill_nil ?_
       go_wp2_with fail
       refine(hM _).mono ?_;rintro e w1 ⟨rfl,A1,S1⟩;have S1':Same [sb] wr w1:=((Same.refl [sb] wr).drew).step S1 (fun k hk _=>hk);have HF:Hid (Am w0 W (w1.setCell ⟨x.vb,1,none⟩ (.string y.e.name)).drew sb B a1 base xs (j+1)):=ZO.out w1 (A1.iJ (by first|rfl|(rw[Bool.eq_iff_iff];simp<;>omega))) S1';obtain⟨q1,q2,q3,q4,q5,q6⟩:=HSE.out w1 S1';clear ZO HSE hM A1 S1 S1'
       go_wp2_with fail
       refine aU 16 (by kernel_rfl) (by kernel_rfl) ?_;simp only[List.take_succ_cons,List.take_zero,List.drop_succ_cons,List.drop_zero]
       repeat still_step
       refine wpStill_nil ?_
       go_wp2
       go_roundw
       case rel=>exact⟨j+1,by go_num,by omega,HF.out⟩
       case measure=>simp[intOf];omega
   ·have l1:(xs.length:Int)<=(j:Int):=by omega
    have ej:j=xs.length:=by omega
    have HR:Hid (∃i,i<=xs.length/\(dR xs i=none->i=xs.length)/\Hid (Am w0 W wr sb B a1 base xs i)):=⟨j,hj,fun _=>ej,HJ.out⟩
    clear HJ ej
    go_wp2_with fail
    go_meet
    case rel=>exact HR.out
 case rest=>
  obtain⟨i,hi,hji,HO⟩:=hcut;have hp0:wc.cell? ⟨rb,0,none⟩=some (Value.int .i64 (n:Int)):=((HO.out.same.at HPP.out.1 HPP.out.2.2).cell? 0).trans HPP.out.2.1;refine ‹∀(a:Act)(w:World),Code.wp prog _ _ a w->_› _ _ ?_;refine PU _ _ _ _ _ _ _ _ _ _ _ _ _ _ _ _ _ _ _ _ _ _ _ _ _ _ _ _ _ _ _ _ _ _ _ _ _ _ _ _ _ _ _ _ _ _ _ _ _ _ _ _ _ _ _ _ _ _ _ _ _ _ _ _ _ _ _ _ _ _ _ _ _ _ _ _ _ _ _ _ _ _ _ _ _ _ _ _ _ _ _ _ _ _ _ _ _ _ _ _ _ _ _ _ _ _ _ _ _ _ _ _ _ _ _ _ _ _ _ _ _ _ _ _ _ _ _ _ _ _ _ _ _ _ _ _ _ _ _ _ _ _ _ _ _ _ _ _ _ _ _ _ _ _ _ _ _ _ _ _ _ _ _ _ _ _ _ _ _ _ _ _ _ _ _ _ _ _ _ _ _ _ _ _ _ _ _ _ _ _ _ _ _ _ _ _ _ _ _ _ _ _ _ _ _ _ _ _ _ _ _ _ _ _ _ _ _ _ _ _ _ _ _ _ _ _ _ _ _ _ _ _ _ _ _ _ _ _ _ _ _ _ _ _ _ _ _ _ _ _ _ _ _ _ _ _ _ _ _ _ _ _ _ _ _ _ _ _ _ _ _ _ _ _ _ _ _ _ _ _ _ _ _ _ _ _ _ _ _ _ _ _ _ _ _ _ _ _ _ _ _ _ _ _ _ _ _ _ _ _ _ _ _ _ _ _ _ _ _ _ _ _ _ _ _ _ _ w0 wc sb rb (.slice la xs.length lc) B a1 n (dR xs i) hl hn hp0 HO.out.sc R (fun w' q hq hs hS=>?_) ?_
  ·refine HBAD.out w' q ?_ hs (HO.out.same.step hS (fun k hk _=>by simp at hk;simp[hk]));rcases hq with hq|⟨hq,h1,h2⟩
   ·exact Or.inl (BQ xs hq _ hi)
   ·have e:=hji hq;rw[e]at hq;exact Or.inr ⟨hq,h1,h2⟩
  ·iterate 325 intro _
   intro wd hq hle hC
   obtain rfl:=hji hq;refine oP.out _ _ _ _ _ _ _ _ _ _ _ _ _ _ _ _ _ _ _ _ _ _ _ _ _ _ _ _ _ _ _ _ _ _ _ _ _ _ _ _ _ _ _ _ _ _ _ _ _ _ _ _ _ _ _ _ _ _ _ _ _ _ _ _ _ _ _ _ _ _ _ _ _ _ _ _ _ _ _ _ _ _ _ _ _ _ _ _ _ _ _ _ _ _ _ _ _ _ _ _ _ _ _ _ _ _ _ _ _ _ _ _ _ _ _ _ _ _ _ _ _ _ _ _ _ _ _ _ _ _ _ _ _ _ _ _ _ _ _ _ _ _ _ _ _ _ _ _ _ _ _ _ _ _ _ _ _ _ _ _ _ _ _ _ _ _ _ _ _ _ _ _ _ _ _ _ _ _ _ _ _ _ _ _ _ _ _ _ _ _ _ _ _ _ _ _ _ _ _ _ _ _ _ _ _ _ _ _ _ _ _ _ _ _ _ _ _ _ _ _ _ _ _ _ _ _ _ _ _ _ _ _ _ _ _ _ _ _ _ _ _ _ _ _ _ _ _ _ _ _ _ _ _ _ _ _ _ _ _ _ _ _ _ _ _ _ _ _ _ _ _ _ _ _ _ _ _ _ _ _ _ _ _ _ _ _ _ _ _ _ _ _ _ _ _ _ _ _ _ _ _ _ _ _ _ _ _ _ _ _ _ _ _ _ _ _ _ _ _ _ _ _ _ _ _ wd hq hle ⟨HO.out.rows.same hC.out.2 (fun q hq'=>?_),hC.out.1,HO.out.same.step hC.out.2 (fun k hk _=>by simp at hk;simp[hk])⟩;obtain rfl:q=sb:=by simpa using hq'
   refine⟨hsb,fun k hk e=>?_⟩;have:=aI (HO.out.rows.dat k hk) q e;omega
end
end Go.Proofs.YtpddgdjocffgdaaGreat
