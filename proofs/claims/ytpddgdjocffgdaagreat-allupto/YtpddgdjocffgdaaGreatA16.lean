/- Packed: see the last text. -/
import Derived.Test.YtpddgdjocffgdaaGreatA12
import Derived.Test.YtpddgdjocffgdaaGreatA14
import Derived.Deep.CutBlock
namespace Go.Proofs.YtpddgdjocffgdaaGreat
open Go.Proofs.Tryz
set_option linter.unusedVariables false
set_option linter.unusedSimpArgs false
set_option linter.unusedSectionVars false
set_option maxHeartbeats 16000000
set_option maxRecDepth 100000
section
open Go.RowKit Go.Sort
variable [DecidableEq aN] [Inhabited aN] [Inhabited aF] [Inhabited ay] [Inhabited aV]
structure lC(W wr:World)(B:List UInt8)(a2:Nat)(xs:List aV)(ofs:List ByteArray)(i:Nat)(ds:List (Value×List ByteArray))(cur:List ByteArray):Prop where
 rows:Rows wr W.heap.size xs ofs ds
 done:∀j,j<xs.length->j<i->(ds[j]!).2=if (xs[j]!).e.origin=none then (xs[j]!).e.xs.map (fun b=>aH B (a2+8*b) 8) else []
 nil:∀j,j<xs.length->(i<j\/(j<i/\(xs[j]!).e.origin≠none))->ds[j]! = (.slice none 0 0,[])
 cur:i<xs.length->(ds[i]!).2=cur/\(cur=[]->(ds[i]!).1=.slice none 0 0)
 same:Same (xs.map (·.vb)) W wr
theorem lC.next{W wr:World}{B:List UInt8}{a2:Nat}{xs:List aV}{ofs:List ByteArray}{i:Nat}{ds:List (Value×List ByteArray)}{cur:List ByteArray}(h:lC W wr B a2 xs ofs i ds cur)(hi:i<xs.length)(hc:cur=if (xs[i]!).e.origin=none then (xs[i]!).e.xs.map (fun b=>aH B (a2+8*b) 8) else []):lC W wr B a2 xs ofs (i+1) ds []:=by
 refine⟨h.rows,fun j hj hji=>?_,fun j hj hji=>?_,fun hi1=>?_,h.same⟩
 ·by_cases e:j=i
  ·subst e;rw[(h.cur hi).1];exact hc
  ·exact h.done j hj (by omega)
 ·by_cases e:j=i
  ·subst e;have ho:(xs[j]!).e.origin≠none:=by
    rcases hji with h'|h'
    ·omega
    ·exact h'.2
   have h0:cur=[]:=by rw[hc,if_neg ho]
   have h1:=h.cur hi;exact Prod.ext (h1.2 h0) (h1.1.trans h0)
  ·refine h.nil j hj ?_;rcases hji with h'|h'
   ·left;omega
   ·right;exact⟨by omega,h'.2⟩
 ·have:=h.nil (i+1) hi1 (Or.inl (by omega));rw[this];exact⟨rfl,fun _=>rfl⟩
theorem lC.push{W wr w':World}{B:List UInt8}{a2:Nat}{xs:List aV}{ofs:List ByteArray}{i:Nat}{ds:List (Value×List ByteArray)}{cur:List ByteArray}(h:lC W wr B a2 xs ofs i ds cur)(hi:i<xs.length)(t:ByteArray)(dv:Value){S:List Nat}(hS:Same S wr w')
 (hs:∀q∈S,q=(xs[i]!).vb\/(ds[i]!).1.ownBlock=some q) (hv:At w' (xs[i]!).vb 118 ((xs[i]!).cells ofs[i]! dv)) (hd:w'.ownsRow W.heap.size 9 1 dv (cur++[t]).length ((cur++[t]).map Value.string))
 (hl:dv.ownBlock=(ds[i]!).1.ownBlock\/∃g,dv.ownBlock=some g/\wr.heap.size<=g):lC W w' B a2 xs ofs i (ds.set i (dv,cur++[t])) (cur++[t]):=by
 have hld:=h.rows.ld;have gs:(ds.set i (dv,cur++[t]))[i]! = (dv,cur++[t]):=by rw[getElem!_pos _ i (by rw[List.length_set,hld];exact hi),List.getElem_set_self]
 have gn:∀j,j<xs.length->j≠i->(ds.set i (dv,cur++[t]))[j]! = ds[j]!:=fun j hj hne=>by
  rw[getElem!_pos _ j (by rw[List.length_set,hld];exact hj),List.getElem_set_ne (fun e=>hne e.symm),getElem!_pos ds j (by rw[hld];exact hj)]
 refine⟨h.rows.put i hi dv (cur++[t]) hS hs hv hd hl,fun j hj hji=>?_,fun j hj hji=>?_,fun _=>?_,?_⟩
 ·rw[gn j hj (by omega)];exact h.done j hj hji
 ·rw[gn j hj (by omega)];exact h.nil j hj hji
 ·rw[gs];exact⟨rfl,fun e=>by simp at e⟩
 ·refine h.same.step hS fun q hq hlt=>?_
  rcases hs q hq with e|e
  ·rw[e];exact List.mem_map.2 ⟨xs[i]!,by rw[getElem!_pos xs i hi];exact List.getElem_mem hi,rfl⟩
  ·have:=aI (h.rows.dat i hi) q e;omega
def fA(B:List UInt8)(a2:Nat)(xs:List Nat):List ByteArray:=xs.map fun b=>aH B (a2+8*b) 8
theorem QZ(u3 u4 u5 u6 u7 Ja Jb Jc Jd Je Jf Jg Jh Ji Jj Jk Jl Jm Jn Jo Jp Jq Jr Js Jt Ju Jv Jw Jx Jy Jz Ka Kb Kc Kd Ke Kf Kg Kh Ki Kj Kk Kl Km Kn Ko Kp Kq Kr Ks Kt Ku Kv Kw Kx Ky Kz Qa Qb Qc Qd Qe Qf Qg Qh Qi Qj Qk Ql Qm Qn Qo Qp Qq Qr Qs Qt Qu Qv Qw Qx Qy Qz Ua Ub Uc Ud Ue Uf Ug Uh Ui Uj Uk Ul Um Un Uo Up Uq Ur Us Ut Uu Uv Uw Ux Uy Uz Va Vb Vc Vd Ve Vf Vg Vh Vi Vj Vk Vl Vm Vn Vo Vp Vq Vr Vs Vt Vu Vv Vw Vx Vy Vz Xa Xb Xc Xd Xe Xf Xg Xh Xi Xj Xk Xl Xm Xn Xo Xp Xq Xr Xs Xt Xu Xv Xw Xx Xy Xz Ya Yb Yc Yd Ye Yf Yg Yh Yi Yj Yk Yl Ym Yn Yo Yp Yq Yr Ys Yt Yu Yv Yw Yx Yy Yz Za Zb Zc Zd Ze Zf Zg Zh Zi Zj Zk Zl Zm Zn Zo Zp Zq Zr Zs Zt Zu Zv Zw Zx Zy Zz Ga Gb Gc Gd Ge Gf Gg Gh Gi Gj Gk Gl Gm Gn Gp Gq Gr Gs Gt Gu Gv Gw Gx Gy Gz Fa Fb Fc Fd Fe Ff Fg Fh Fi Fj Fk Fl Fm Fo Fp Fq Fr Fs Ft Fu Fv Fw Fx Fy Fz Ra Rb Rc Rd Rf Rg Rh Ri Rj Rk Rl Rm Rn Ro Rp Rq Rr Rs Rt Ru Rv Rw Rx Ry Rz Ma Mb Mc Md Me Mf Mg Mh Mi Mj Mk Ml Mm Mn Mo Mp Mq Mr Ms Mt Mu Mv Mw Mx My Mz Da Db Dc Dd De Df Dg Dh Di Dj Dk:Value)(w0 w W:World)(sb rb:Nat)(la:Option Addr)(lc:Nat)(B:List UInt8)(xs:List aV)(ofs:List ByteArray)(n a2:Nat)(S:List Nat)(hl:B.length<=140737488355328)(h:bY w0 W sb B (a2+8*n) none)(hle:a2+8*n<=B.length)(hS:Same S w W)(hE:oD W la xs)(hlg:∀lg,la=some ⟨lg,0,none⟩->lg∉xs.map (·.vb))(hR:Rows W W.heap.size xs ofs (List.replicate xs.length (.slice none 0 0,[])))(hx:∀x∈xs,∀b∈x.e.xs,b<n)(hx2:∀x∈xs,x.e.xs.length<=200)(hn:n<=200)(hxl:xs.length<=20)(R:Ending->World->Prop)
 (hrest:∀(u3 u4 u5 u6 u7 Ja Jb Jc Jd Je Jf Jg Jh Ji Jj Jk Jl Jm Jn Jo Jp Jq Jr Js Jt Ju Jv Jw Jx Jy Jz Ka Kb Kc Kd Ke Kf Kg Kh Ki Kj Kk Kl Km Kn Ko Kp Kq Kr Ks Kt Ku Kv Kw Kx Ky Kz Qa Qb Qc Qd Qe Qf Qg Qh Qi Qj Qk Ql Qm Qn Qo Qp Qq Qr Qs Qt Qu Qv Qw Qx Qy Qz Ua Ub Uc Ud Ue Uf Ug Uh Ui Uj Uk Ul Um Un Uo Up Uq Ur Us Ut Uu Uv Uw Ux Uy Uz Va Vb Vc Vd Ve Vf Vg Vh Vi Vj Vk Vl Vm Vn Vo Vp Vq Vr Vs Vt Vu Vv Vw Vx Vy Vz Xa Xb Xc Xd Xe Xf Xg Xh Xi Xj Xk Xl Xm Xn Xo Xp Xq Xr Xs Xt Xu Xv Xw Xx Xy Xz Ya Yb Yc Yd Ye Yf Yg Yh Yi Yj Yk Yl Ym Yn Yo Yp Yq Yr Ys Yt Yu Yv Yw Yx Yy Yz Za Zb Zc Zd Ze Zf Zg Zh Zi Zj Zk Zl Zm Zn Zo Zp Zq Zr Zs Zt Zu Zv Zw Zx Zy Zz Ga Gb Gc Gd Ge Gf Gg Gh Gi Gj Gk Gl Gm Gn Gp Gq Gr Gs Gt Gu Gv Gw Gx Gy Gz Fa Fb Fc Fd Fe Ff Fg Fh Fi Fj Fk Fl Fm Fo Fp Fq Fr Fs Ft Fu Fv Fw Fx Fy Fz Ra Rb Rc Rd Rf Rg Rh Ri Rj Rk Rl Rm Rn Ro Rp Rq Rr Rs Rt Ru Rv Rw Rx Ry Rz Ma Mb Mc Md Me Mf Mg Mh Mi Mj Mk Ml Mm Mn Mo Mp Mq Mr Ms Mt Mu Mv Mw Mx My Mz Da Db Dc Dd De Df Dg Dh Di Dj Dk:Value)(wd:World)(ds:List (Value×List ByteArray)),Hid (lC W wd B a2 xs ofs xs.length ds [])->Code.wp prog (bI 5 (f112.body.getD .skip)) (bodyPost prog f112 R) { tmps:=#[.pointer (some ⟨sb,0,none⟩),.slice la xs.length lc,.pointer (some ⟨rb,0,none⟩),u3,u4,u5,u6,u7,.int .i64 a2,.string (aH B a2 (8*n)),Ja,Jb,Jc,Jd,Je,Jf,Jg,Jh,Ji,Jj,Jk,Jl,Jm,Jn,Jo,Jp,Jq,Jr,Js,Jt,Ju,Jv,Jw,Jx,Jy,Jz,Ka,Kb,Kc,Kd,Ke,Kf,Kg,Kh,Ki,Kj,Kk,Kl,Km,Kn,Ko,Kp,Kq,Kr,Ks,Kt,Ku,Kv,Kw,Kx,Ky,Kz,Qa,Qb,Qc,Qd,Qe,Qf,Qg,Qh,Qi,Qj,Qk,Ql,Qm,Qn,Qo,Qp,Qq,Qr,Qs,Qt,Qu,Qv,Qw,Qx,Qy,Qz,Ua,Ub,Uc,Ud,Ue,Uf,Ug,Uh,Ui,Uj,Uk,Ul,Um,Un,Uo,Up,Uq,Ur,Us,Ut,Uu,Uv,Uw,Ux,Uy,Uz,Va,Vb,Vc,Vd,Ve,Vf,Vg,Vh,Vi,Vj,Vk,Vl,Vm,Vn,Vo,Vp,Vq,Vr,Vs,Vt,Vu,Vv,Vw,Vx,Vy,Vz,Xa,Xb,Xc,Xd,Xe,Xf,Xg,Xh,Xi,Xj,Xk,Xl,Xm,Xn,Xo,Xp,Xq,Xr,Xs,Xt,Xu,Xv,Xw,Xx,Xy,Xz,Ya,Yb,Yc,Yd,Ye,Yf,Yg,Yh,Yi,Yj,Yk,Yl,Ym,Yn,Yo,Yp,Yq,Yr,Ys,Yt,Yu,Yv,Yw,Yx,Yy,Yz,Za,Zb,Zc,Zd,Ze,Zf,Zg,Zh,Zi,Zj,Zk,Zl,Zm,Zn,Zo,Zp,Zq,Zr,Zs,Zt,Zu,Zv,Zw,Zx,Zy,Zz,Ga,Gb,Gc,Gd,Ge,Gf,Gg,Gh,Gi,Gj,Gk,Gl,Gm,Gn,Gp,Gq,Gr,Gs,Gt,Gu,Gv,Gw,Gx,Gy,Gz,Fa,Fb,Fc,Fd,Fe,Ff,Fg,Fh,Fi,Fj,Fk,Fl,Fm,Fo,Fp,Fq,Fr,Fs,Ft,Fu,Fv,Fw,Fx,Fy,Fz,Ra,Rb,Rc,Rd,Rf,Rg,Rh,Ri,Rj,Rk,Rl,Rm,Rn,Ro,Rp,Rq,Rr,Rs,Rt,Ru,Rv,Rw,Rx,Ry,Rz,Ma,Mb,Mc,Md,Me,Mf,Mg,Mh,Mi,Mj,Mk,Ml,Mm,Mn,Mo,Mp,Mq,Mr,Ms,Mt,Mu,Mv,Mw,Mx,My,Mz,Da,Db,Dc,Dd,De,Df,Dg,Dh,Di,Dj,Dk],defers:=[] } wd) :
 Code.wp prog (bI 4 (f112.body.getD .skip)) (bodyPost prog f112 R) { tmps:=#[.pointer (some ⟨sb,0,none⟩),.slice la xs.length lc,.pointer (some ⟨rb,0,none⟩),u3,u4,u5,u6,u7,.int .i64 a2,.string (aH B a2 (8*n)),Ja,Jb,Jc,Jd,Je,Jf,Jg,Jh,Ji,Jj,Jk,Jl,Jm,Jn,Jo,Jp,Jq,Jr,Js,Jt,Ju,Jv,Jw,Jx,Jy,Jz,Ka,Kb,Kc,Kd,Ke,Kf,Kg,Kh,Ki,Kj,Kk,Kl,Km,Kn,Ko,Kp,Kq,Kr,Ks,Kt,Ku,Kv,Kw,Kx,Ky,Kz,Qa,Qb,Qc,Qd,Qe,Qf,Qg,Qh,Qi,Qj,Qk,Ql,Qm,Qn,Qo,Qp,Qq,Qr,Qs,Qt,Qu,Qv,Qw,Qx,Qy,Qz,Ua,Ub,Uc,Ud,Ue,Uf,Ug,Uh,Ui,Uj,Uk,Ul,Um,Un,Uo,Up,Uq,Ur,Us,Ut,Uu,Uv,Uw,Ux,Uy,Uz,Va,Vb,Vc,Vd,Ve,Vf,Vg,Vh,Vi,Vj,Vk,Vl,Vm,Vn,Vo,Vp,Vq,Vr,Vs,Vt,Vu,Vv,Vw,Vx,Vy,Vz,Xa,Xb,Xc,Xd,Xe,Xf,Xg,Xh,Xi,Xj,Xk,Xl,Xm,Xn,Xo,Xp,Xq,Xr,Xs,Xt,Xu,Xv,Xw,Xx,Xy,Xz,Ya,Yb,Yc,Yd,Ye,Yf,Yg,Yh,Yi,Yj,Yk,Yl,Ym,Yn,Yo,Yp,Yq,Yr,Ys,Yt,Yu,Yv,Yw,Yx,Yy,Yz,Za,Zb,Zc,Zd,Ze,Zf,Zg,Zh,Zi,Zj,Zk,Zl,Zm,Zn,Zo,Zp,Zq,Zr,Zs,Zt,Zu,Zv,Zw,Zx,Zy,Zz,Ga,Gb,Gc,Gd,Ge,Gf,Gg,Gh,Gi,Gj,Gk,Gl,Gm,Gn,Gp,Gq,Gr,Gs,Gt,Gu,Gv,Gw,Gx,Gy,Gz,Fa,Fb,Fc,Fd,Fe,Ff,Fg,Fh,Fi,Fj,Fk,Fl,Fm,Fo,Fp,Fq,Fr,Fs,Ft,Fu,Fv,Fw,Fx,Fy,Fz,Ra,Rb,Rc,Rd,Rf,Rg,Rh,Ri,Rj,Rk,Rl,Rm,Rn,Ro,Rp,Rq,Rr,Rs,Rt,Ru,Rv,Rw,Rx,Ry,Rz,Ma,Mb,Mc,Md,Me,Mf,Mg,Mh,Mi,Mj,Mk,Ml,Mm,Mn,Mo,Mp,Mq,Mr,Ms,Mt,Mu,Mv,Mw,Mx,My,Mz,Da,Db,Dc,Dd,De,Df,Dg,Dh,Di,Dj,Dk],defers:=[] } W:=by
 generalize hC:bI 4 (f112.body.getD .skip)=C
 delta f112 at hC
 dsimp only[bI,Option.getD]at hC;subst hC;have oP:=hid hrest;clear hrest;have hnot:=bP;have HTZ:Hid ((aH B a2 (8*n)).size=8*n):=by
  show((B.drop a2).take (8*n)).toArray.size=_;rw[List.size_toArray,List.length_take,List.length_drop];omega
 have SK:Hid (∀k,k<n->(aH B a2 (8*n)).extract (8*k) (8*k+8)=aH B (a2+8*k) 8):=fun k hk=>by
  apply ByteArray.ext;simp only[aH,ByteArray.data_extract,List.extract_toArray,List.extract_eq_take_drop];rw[List.drop_take,List.take_take,List.drop_drop]
  congr 2
  omega
 generalize aH B a2 (8*n)=tx at *;obtain⟨i0,hi,hz0,hz1,hz2⟩:=info_parts Tryz.wI;have HI0:Hid (lC W W B a2 xs ofs 0 (List.replicate xs.length (.slice none 0 0,[])) []):=by
  have hr:∀j,j<xs.length->(List.replicate xs.length ((.slice none 0 0,[]):Value×List ByteArray))[j]! = (.slice none 0 0,[]):=fun j hj=>by
   rw[getElem!_pos _ j (by simpa using hj),List.getElem_replicate]
  exact⟨hR,fun j _ hj=>by omega,fun j hj _=>hr j hj,fun hj=>by rw[hr 0 hj];exact⟨rfl,fun _=>rfl⟩,Same.refl _ _⟩
 have HE:Hid (oD W la xs/\∀lg,la=some ⟨lg,0,none⟩->lg∉xs.map (·.vb)):=⟨hE,hlg⟩
 have HX:Hid (∀x∈xs,∀b∈x.e.xs,b<n):=hx;clear hE hR hx hlg
 go_upto_block 2 with fail
 go_cut [10,11,12] (fun _ _ _ wd=>∃ds,Hid (lC W wd B a2 xs ofs xs.length ds []))
 case first=>
  go_wp2_with fail
  go_loopw [10,11,12] (fun i _ _ wr=>∃(j:Nat)(ds:List (Value×List ByteArray)),i=.int .i64 j/\j<=xs.length/\Hid (lC W wr B a2 xs ofs j ds [])) (fun i _ _ _=>xs.length-(intOf i).toNat)
  case atStart=>exact⟨0,_,rfl,Nat.zero_le _,HI0.out⟩
  case round=>
   obtain⟨j,ds,rfl,hj,HV⟩:=hrel;by_cases hjl:j<xs.length
   ·have l1:(j:Int)<(xs.length:Int):=by omega
    obtain⟨lg,lcs,hla,hAl,hce⟩:=HE.out.1.cell j hjl;have um:=HE.out.2 lg hla;subst hla;have HFA:Hid (∀wr' ds' cur,lC W wr' B a2 xs ofs j ds' cur->wr'.cell? ⟨lg,j,none⟩=some (.pointer (some ⟨(xs[j]!).eb,0,none⟩))/\wr'.cell? ⟨(xs[j]!).eb,0,none⟩=some (.pointer (some ⟨(xs[j]!).vb,0,none⟩))/\wr'.cell? ⟨(xs[j]!).eb,2,none⟩=some (.int .i64 (iq (xs[j]!).e.origin))/\wr'.cell? ⟨(xs[j]!).vb,3,none⟩=some (.slice (some ⟨(xs[j]!).bg,0,none⟩) (xs[j]!).e.xs.length (xs[j]!).bc)/\wr'.cell? ⟨(xs[j]!).vb,2,none⟩=some (ds'[j]!).1/\wr'.frozen? ⟨(xs[j]!).vb,2,none⟩=false/\∀k,k<(xs[j]!).e.xs.length->wr'.cell? ⟨(xs[j]!).bg,k,none⟩=some (.int .i64 ((xs[j]!).e.xs[k]!:Nat))):=fun wr' ds' cur hv=>
     ⟨by rw[(hv.same.at hAl um).cell?,<-hAl.cell?];exact hce,(hv.rows.fix j hjl).ent.cell? 0,(hv.rows.fix j hjl).ent.cell? 2,(hv.rows.aA j hjl).cell? 3,(hv.rows.aA j hjl).cell? 2,(hv.rows.aA j hjl).frozen 2,fun k hk=>(hv.rows.fix j hjl).bl.cell k hk⟩
    have ZP:(xs[j]!).e.xs.length<=maxLen:=by obtain⟨cs,_,_,_,q1,q2⟩:=(HV.out.rows.fix j hjl).bl.ex;omega
    have HXJ:Hid (∀b∈(xs[j]!).e.xs,b<n):=HX.out _ (by rw[getElem!_pos xs j hjl];exact List.getElem_mem hjl);unfold maxLen at ZP;obtain⟨p1,p2,p3,p4,p5,p6,p7⟩:=HFA.out wr ds [] HV.out;by_cases hog:(xs[j]!).e.origin=none
    ·have HEN:Hid (∀wr' ds',lC W wr' B a2 xs ofs j ds' ((xs[j]!).e.xs.map fun b=>aH B (a2+8*b) 8)->lC W wr' B a2 xs ofs (j+1) ds' []):=fun wr' ds' hv=>hv.next hjl (by rw[if_pos hog])
     have HPU:Hid (∀wr' ds' cur t w' dv S,lC W wr' B a2 xs ofs j ds' cur->Same S wr' w'->(∀q∈S,q=(xs[j]!).vb\/(ds'[j]!).1.ownBlock=some q)->At w' (xs[j]!).vb 118 ((xs[j]!).cells ofs[j]! dv)->w'.ownsRow W.heap.size 9 1 dv (cur++[t]).length ((cur++[t]).map Value.string)->(dv.ownBlock=(ds'[j]!).1.ownBlock\/∃g,dv.ownBlock=some g/\wr'.heap.size<=g)->∃ds2,lC W w' B a2 xs ofs j ds2 (cur++[t])):=fun wr' ds' cur t w' dv S hv hS hs ha hd hl=>⟨_,hv.push hjl t dv hS hs ha hd hl⟩
     have HOW:Hid (∀wr' ds' cur,lC W wr' B a2 xs ofs j ds' cur->wr'.ownsRow W.heap.size 9 1 (ds'[j]!).1 cur.length (cur.map Value.string)/\At wr' (xs[j]!).vb 118 ((xs[j]!).cells ofs[j]! (ds'[j]!).1)/\W.heap.size<=wr'.heap.size/\∀q,(ds'[j]!).1.ownBlock=some q->q≠(xs[j]!).vb/\q≠(xs[j]!).eb/\q≠lg):=fun wr' ds' cur hv=>by
      have h1:=hv.rows.dat j hjl;rw[(hv.cur hjl).1]at h1;have hm:xs[j]!∈xs:=by rw[getElem!_pos xs j hjl];exact List.getElem_mem hjl
      refine⟨h1,hv.rows.aA j hjl,hv.same.size,fun q hq=>?_⟩;have h2:=aI h1 q hq;have h3:=hv.rows.low _ hm (xs[j]!).vb (by simp[aV.foot]);have h4:=hv.rows.low _ hm (xs[j]!).eb (by simp[aV.foot]);have h5:=hAl.lt;exact⟨by omega,by omega,by omega⟩
     have HEE:Hid (∀wr' ds' cur,lC W wr' B a2 xs ofs j ds' cur->∃ce,At wr' (xs[j]!).eb 163 ce/\ce[0]? = some (.pointer (some ⟨(xs[j]!).vb,0,none⟩))):=fun wr' ds' cur hv=>⟨_,(hv.rows.fix j hjl).ent,rfl⟩
     have HLL:Hid (∀wr' ds' cur,lC W wr' B a2 xs ofs j ds' cur->∃cl,At wr' lg 159 cl/\cl[j]? = some (.pointer (some ⟨(xs[j]!).eb,0,none⟩))):=fun wr' ds' cur hv=>⟨lcs,hv.same.at hAl um,by rw[<-hAl.cell?];exact hce⟩
     have ZQ:Hid (lg≠(xs[j]!).vb/\(xs[j]!).eb≠(xs[j]!).vb):=by
      have hm:xs[j]!∈xs:=by rw[getElem!_pos xs j hjl];exact List.getElem_mem hjl
      refine⟨fun e=>um (by rw[e];exact List.mem_map.2 ⟨_,hm,rfl⟩),?_⟩;have:=qM HV.out.rows.nodup hjl;simp only[aV.foot,List.nodup_cons,List.mem_cons,not_or]at this;exact this.1.1
     have HML:Hid ((xs[j]!).e.xs.length<=200):=hx2 _ (by rw[getElem!_pos xs j hjl];exact List.getElem_mem hjl);clear hce um;have HI1:Hid (lC W wr B a2 xs ofs j ds (((xs[j]!).e.xs.take 0).map fun b=>aH B (a2+8*b) 8)):=HV.out;rw[hog]at p3;simp only[iq]at p3;have lo:(-1:Int)<0:=by omega
     clear HV hAl;generalize xs[j]! = x at *
     go_wp2_with fail
     go_loopw [11,12] (fun k _ wr'=>∃(m:Nat)(ds':List (Value×List ByteArray)),k=.int .i64 m/\m<=x.e.xs.length/\Hid (lC W wr' B a2 xs ofs j ds' ((x.e.xs.take m).map fun b=>aH B (a2+8*b) 8))) (fun k _ _=>x.e.xs.length-(intOf k).toNat)
     case atStart=>exact⟨0,ds,rfl,Nat.zero_le _,HI1.out⟩
     case round=>
      obtain⟨m,ds',rfl,hm,HVm⟩:=hrel;clear p1 p2 p3 p4 p5 p6 p7;obtain⟨p1,p2,p3,p4,p5,p6,p7⟩:=HFA.out _ _ _ HVm.out;rw[hog]at p3;simp only[iq]at p3;by_cases hml:m<x.e.xs.length
      ·have lm:(m:Int)<(x.e.xs.length:Int):=by omega
       have p8:=p7 m hml;have hbn:x.e.xs[m]!<n:=HXJ.out _ (by rw[getElem!_pos x.e.xs m hml];exact List.getElem_mem hml);have HTK:Hid (x.e.xs.take (m+1)=x.e.xs.take m++[x.e.xs[m]!]):=by show _=_;rw[List.take_succ_eq_append_getElem hml,getElem!_pos x.e.xs m hml]
       have hcut:=SK.out _ hbn;generalize x.e.xs[m]! = b at *;have HCL:Hid (((x.e.xs.take m).map fun b=>aH B (a2+8*b) 8).length=m):=by show _=_;rw[List.length_map,List.length_take];omega
       obtain⟨o1,o2,o3,o4⟩:=HOW.out _ _ _ HVm.out;have HPM:Hid (∀w' dv S,Same S wr w'->(∀q∈S,q=x.vb\/(ds'[j]!).1.ownBlock=some q)->At w' x.vb 118 (x.cells ofs[j]! dv)->w'.ownsRow W.heap.size 9 1 dv (((x.e.xs.take m).map fun b=>aH B (a2+8*b) 8)++[aH B (a2+8*b) 8]).length ((((x.e.xs.take m).map fun b=>aH B (a2+8*b) 8)++[aH B (a2+8*b) 8]).map Value.string)->(dv.ownBlock=(ds'[j]!).1.ownBlock\/∃g,dv.ownBlock=some g/\wr.heap.size<=g)->∃ds2,lC W w' B a2 xs ofs j ds2 (((x.e.xs.take m).map fun b=>aH B (a2+8*b) 8)++[aH B (a2+8*b) 8])):=fun w' dv S hS hs ha hd hl=>HPU.out _ _ _ (aH B (a2+8*b) 8) w' dv S HVm.out hS hs ha hd hl
       have HTM:Hid ((x.e.xs.take (m+1)).map (fun b=>aH B (a2+8*b) 8)=((x.e.xs.take m).map fun b=>aH B (a2+8*b) 8)++[aH B (a2+8*b) 8]):=by show _=_;rw[HTK.out,List.map_append];rfl
       generalize (x.e.xs.take m).map (fun b=>aH B (a2+8*b) 8)=cur at *;generalize aH B (a2+8*b) 8=t at *;rw[HCL.out]at o1;generalize (ds'[j]!).1=dv at *;obtain⟨da,dc,rfl⟩:=ak o1;have HAV:Hid (At wr x.vb 118 (x.cells ofs[j]! (.slice da m dc))):=o2;have HNB:Hid (∀q,(Value.slice da m dc).ownBlock=some q->q≠x.vb/\q≠x.eb/\q≠lg):=o4;have HEB:Hid (∃ce,At wr x.eb 163 ce/\ce[0]? = some (.pointer (some ⟨x.vb,0,none⟩))):=HEE.out _ _ _ HVm.out;have HLG:Hid (∃cl,At wr lg 159 cl/\cl[j]? = some (.pointer (some ⟨x.eb,0,none⟩))):=HLL.out _ _ _ HVm.out;have m1:IntKind.i64.wrap (8*(b:Int))=8*(b:Int):=IntWalk.i64_in _ (by omega);have m2:IntKind.i64.wrap (8*(b:Int)+8)=8*(b:Int)+8:=IntWalk.i64_in _ (by omega);have n1:(0:Int)<=8*(b:Int):=by omega
       have n2:8*(b:Int)<=8*(b:Int)+8:=by omega
       have n3:(8*(b:Int)).toNat=8*b:=by omega
       have n4:(8*(b:Int)+8).toNat=8*b+8:=by omega
       have n5:8*(b:Int)+8<=(tx.size:Int):=by have:=HTZ.out;omega
       have hmm:m<=200:=by have:=HML.out;omega
       have b1:x.vb<wr.heap.size:=o2.lt;have b2:x.eb<wr.heap.size:=by obtain⟨ce,e1,_⟩:=HEB.out;exact e1.lt
       have b3:lg<wr.heap.size:=by obtain⟨cl,e1,_⟩:=HLG.out;exact e1.lt
       clear HVm o2 o4 p7 HPU HOW HEN
       go_wp2_with fail
       have hne1:lg≠x.vb:=ZQ.out.1;have hne2:x.eb≠x.vb:=ZQ.out.2;have HSA:Hid (∀o,(wr.alloc o).cell? ⟨lg,j,none⟩=some (.pointer (some ⟨x.eb,0,none⟩))/\(wr.alloc o).cell? ⟨x.eb,0,none⟩=some (.pointer (some ⟨x.vb,0,none⟩))):=fun o=>by
        obtain⟨ce,e1,e2⟩:=HEB.out;obtain⟨cl,f1,f2⟩:=HLG.out;exact⟨((f1.alloc o).cell? j).trans f2,((e1.alloc o).cell? 0).trans e2⟩
       have HS0:wr.cell? ⟨lg,j,none⟩=some (.pointer (some ⟨x.eb,0,none⟩))/\wr.cell? ⟨x.eb,0,none⟩=some (.pointer (some ⟨x.vb,0,none⟩)):=⟨p1,p2⟩
       have ZF:x.vb≠lg:=fun e=>hne1 e.symm
       have hne4:x.vb≠x.eb:=fun e=>hne2 e.symm
       have hld:∀o,(wr.alloc o).cell? ⟨x.vb,2,none⟩=some (.slice da m dc):=fun o=>(HAV.out.alloc o).cell? 2
       refine jH (S:=fun w'=>w'.cell? ⟨lg,j,none⟩=some (.pointer (some ⟨x.eb,0,none⟩))/\w'.cell? ⟨x.eb,0,none⟩=some (.pointer (some ⟨x.vb,0,none⟩))/\w'.cell? ⟨x.vb,2,none⟩=some (.slice da m dc)) 26 (by kernel_rfl) (by kernel_rfl) rfl ?hS (fun hHeld=>?_)
       case hS=>exact⟨p1,p2,p5⟩
       simp only[List.take_succ_cons,List.take_zero];refine aj (i:=0) (v:=?v1) rfl (by kernel_rfl) (by kernel_rfl) (by kernel_rfl) (fun _ _ _ h=>h) (by kernel_rfl) ?hy1 (by assumption) ?_
       case hy1=>intro w hSw;(try dsimp only at hSw);go_simp;try with_reducible rfl
       (try simp only[Act.put,List.setIfInBounds_toArray,List.set_cons_zero,List.set_cons_succ])
       refine aj (i:=1) (v:=?v2) rfl (by kernel_rfl) (by kernel_rfl) (by kernel_rfl) (fun _ _ _ h=>h) (by kernel_rfl) ?hy2 (by assumption) ?_
       case hy2=>intro w hSw;(try dsimp only at hSw);go_simp;try with_reducible rfl
       (try simp only[Act.put,List.setIfInBounds_toArray,List.set_cons_zero,List.set_cons_succ])
       refine aj (i:=2) (v:=?v3) rfl (by kernel_rfl) (by kernel_rfl) (by kernel_rfl) (fun _ _ _ h=>h) (by kernel_rfl) ?hy3 (by assumption) ?_
       case hy3=>intro w hSw;(try dsimp only at hSw);go_simp;try with_reducible rfl
       (try simp only[Act.put,List.setIfInBounds_toArray,List.set_cons_zero,List.set_cons_succ])
       refine aj (i:=3) (v:=?v4) rfl (by kernel_rfl) (by kernel_rfl) (by kernel_rfl) (fun _ _ _ h=>h) (by kernel_rfl) ?hy4 (by assumption) ?_
       case hy4=>intro w hSw;(try dsimp only at hSw);go_simp;try with_reducible rfl
       (try simp only[Act.put,List.setIfInBounds_toArray,List.set_cons_zero,List.set_cons_succ])
       refine aj (i:=4) (v:=?v5) rfl (by kernel_rfl) (by kernel_rfl) (by kernel_rfl) (fun _ _ _ h=>h) (by kernel_rfl) ?hy5 (by assumption) ?_
       case hy5=>intro w hSw;(try dsimp only at hSw);go_simp;try with_reducible rfl
       (try simp only[Act.put,List.setIfInBounds_toArray,List.set_cons_zero,List.set_cons_succ])
       refine aj (i:=5) (v:=?v6) rfl (by kernel_rfl) (by kernel_rfl) (by kernel_rfl) (fun _ _ _ h=>h) (by kernel_rfl) ?hy6 (by assumption) ?_
       case hy6=>intro w hSw;(try dsimp only at hSw);go_simp;try with_reducible rfl
       (try simp only[Act.put,List.setIfInBounds_toArray,List.set_cons_zero,List.set_cons_succ])
       refine aj (i:=6) (v:=?v7) rfl (by kernel_rfl) (by kernel_rfl) (by kernel_rfl) (fun _ _ _ h=>h) (by kernel_rfl) ?hy7 (by assumption) ?_
       case hy7=>intro w hSw;(try dsimp only at hSw);go_simp;try with_reducible rfl
       (try simp only[Act.put,List.setIfInBounds_toArray,List.set_cons_zero,List.set_cons_succ])
       refine aj (i:=7) (v:=?v8) rfl (by kernel_rfl) (by kernel_rfl) (by kernel_rfl) (fun _ _ _ h=>h) (by kernel_rfl) ?hy8 (by assumption) ?_
       case hy8=>intro w hSw;(try dsimp only at hSw);go_simp;try with_reducible rfl
       (try simp only[Act.put,List.setIfInBounds_toArray,List.set_cons_zero,List.set_cons_succ])
       refine aj (i:=8) (v:=?v9) rfl (by kernel_rfl) (by kernel_rfl) (by kernel_rfl) (fun _ _ _ h=>h) (by kernel_rfl) ?hy9 (by assumption) ?_
       case hy9=>intro w hSw;(try dsimp only at hSw);go_simp;try with_reducible rfl
       (try simp only[Act.put,List.setIfInBounds_toArray,List.set_cons_zero,List.set_cons_succ])
       refine aj (i:=9) (v:=?v10) rfl (by kernel_rfl) (by kernel_rfl) (by kernel_rfl) (fun _ _ _ h=>h) (by kernel_rfl) ?SQ (by assumption) ?_
       case SQ=>intro w hSw;(try dsimp only at hSw);go_simp;try with_reducible rfl
       (try simp only[Act.put,List.setIfInBounds_toArray,List.set_cons_zero,List.set_cons_succ])
       refine aj (i:=10) (v:=?v11) rfl (by kernel_rfl) (by kernel_rfl) (by kernel_rfl) (fun _ _ _ h=>h) (by kernel_rfl) ?SV (by assumption) ?_
       case SV=>intro w hSw;(try dsimp only at hSw);go_simp;try with_reducible rfl
       (try simp only[Act.put,List.setIfInBounds_toArray,List.set_cons_zero,List.set_cons_succ])
       refine aj (i:=11) (v:=?v12) rfl (by kernel_rfl) (by kernel_rfl) (by kernel_rfl) (fun _ _ _ h=>h) (by kernel_rfl) ?XI (by assumption) ?_
       case XI=>intro w hSw;(try dsimp only at hSw);go_simp;try with_reducible rfl
       (try simp only[Act.put,List.setIfInBounds_toArray,List.set_cons_zero,List.set_cons_succ])
       refine aj (i:=12) (v:=?v13) rfl (by kernel_rfl) (by kernel_rfl) (by kernel_rfl) (fun _ _ _ h=>h) (by kernel_rfl) ?XJ (by assumption) ?_
       case XJ=>intro w hSw;(try dsimp only at hSw);go_simp;try with_reducible rfl
       (try simp only[Act.put,List.setIfInBounds_toArray,List.set_cons_zero,List.set_cons_succ])
       refine aj (i:=13) (v:=?v14) rfl (by kernel_rfl) (by kernel_rfl) (by kernel_rfl) (fun _ _ _ h=>h) (by kernel_rfl) ?XK (by assumption) ?_
       case XK=>intro w hSw;(try dsimp only at hSw);go_simp;try with_reducible rfl
       (try simp only[Act.put,List.setIfInBounds_toArray,List.set_cons_zero,List.set_cons_succ])
       refine aj (i:=14) (v:=?v15) rfl (by kernel_rfl) (by kernel_rfl) (by kernel_rfl) (fun _ _ _ h=>h) (by kernel_rfl) ?XL (by assumption) ?_
       case XL=>intro w hSw;(try dsimp only at hSw);go_simp;try with_reducible rfl
       (try simp only[Act.put,List.setIfInBounds_toArray,List.set_cons_zero,List.set_cons_succ])
       refine aj (i:=15) (v:=?v16) rfl (by kernel_rfl) (by kernel_rfl) (by kernel_rfl) (fun _ _ _ h=>h) (by kernel_rfl) ?XM (by assumption) ?_
       case XM=>intro w hSw;(try dsimp only at hSw);go_simp;try with_reducible rfl
       (try simp only[Act.put,List.setIfInBounds_toArray,List.set_cons_zero,List.set_cons_succ])
       refine aj (i:=16) (v:=?v17) rfl (by kernel_rfl) (by kernel_rfl) (by kernel_rfl) (fun _ _ _ h=>h) (by kernel_rfl) ?XO (by assumption) ?_
       case XO=>intro w hSw;(try dsimp only at hSw);go_simp;try with_reducible rfl
       (try simp only[Act.put,List.setIfInBounds_toArray,List.set_cons_zero,List.set_cons_succ])
       refine aj (i:=17) (v:=?v18) rfl (by kernel_rfl) (by kernel_rfl) (by kernel_rfl) (fun _ _ _ h=>h) (by kernel_rfl) ?XP (by assumption) ?_
       case XP=>intro w hSw;(try dsimp only at hSw);go_simp;try with_reducible rfl
       (try simp only[Act.put,List.setIfInBounds_toArray,List.set_cons_zero,List.set_cons_succ])
       refine aj (i:=18) (v:=?v19) rfl (by kernel_rfl) (by kernel_rfl) (by kernel_rfl) (fun _ _ _ h=>h) (by kernel_rfl) ?XQ (by assumption) ?_
       case XQ=>intro w hSw;(try dsimp only at hSw);go_simp;try with_reducible rfl
       (try simp only[Act.put,List.setIfInBounds_toArray,List.set_cons_zero,List.set_cons_succ])
       refine aj (i:=19) (v:=?v20) rfl (by kernel_rfl) (by kernel_rfl) (by kernel_rfl) (fun _ _ _ h=>h) (by kernel_rfl) ?XR (by assumption) ?_
       case XR=>intro w hSw;(try dsimp only at hSw);go_simp;try with_reducible rfl
       (try simp only[Act.put,List.setIfInBounds_toArray,List.set_cons_zero,List.set_cons_succ])
       refine aj (i:=20) (v:=?v21) rfl (by kernel_rfl) (by kernel_rfl) (by kernel_rfl) (fun _ _ _ h=>h) (by kernel_rfl) ?XT (by assumption) ?_
       case XT=>intro w hSw;(try dsimp only at hSw);go_simp;try with_reducible rfl
       (try simp only[Act.put,List.setIfInBounds_toArray,List.set_cons_zero,List.set_cons_succ])
       refine aj (i:=21) (v:=?v22) rfl (by kernel_rfl) (by kernel_rfl) (by kernel_rfl) (fun _ _ _ h=>h) (by kernel_rfl) ?XU (by assumption) ?_
       case XU=>intro w hSw;(try dsimp only at hSw);go_simp;try with_reducible rfl
       (try simp only[Act.put,List.setIfInBounds_toArray,List.set_cons_zero,List.set_cons_succ])
       refine lV (i:=22) rfl (by kernel_rfl) (fun K hK=>?_)
       go_simp
       refine hK.out _ _ ?hS2 (fun hHeld=>?_)
       case hS2=>go_keep
       clear hK K
       (try simp only[Act.put,List.setIfInBounds_toArray,List.set_cons_zero,List.set_cons_succ])
       refine lV (i:=23) rfl (by kernel_rfl) (fun K hK=>?_);refine fV rfl (.tmp 170) (.tmp 176) 116 rfl W.heap.size 9 i0 (.string ⟨#[]⟩) 1 16 underlying116 hi hz0 hz1 hz2 rfl (by decide) (.slice da m dc) m (cur.map Value.string) (by simp[Act.eval,Act.put]) (o1.alloc _) ⟨wr.heap.size,0,none⟩ 1 1 [.string t] (by simp[Act.eval,Act.put]) rfl (by intro q u hq;match q,hq with|0,hq=>simp at hq;subst hq;simp[Addr.add]) (by intro u hu;simp at hu;subst hu;rfl) (by unfold maxLen;omega) (by omega) (by simp;omega) ?_;intro dv2 w2 hown2 hgrow2 hblk2;obtain⟨a6,cap6,rfl⟩:=ak hown2;have S2:Same (Value.slice da m dc).ownBlock.toList wr w2:=((Same.refl _ _).drew.alloc _).grown hgrow2 (fun q hq _=>by simp[hq]);have p62:At w2 x.vb 118 (x.cells ofs[j]! (.slice da m dc)):=S2.at HAV.out (fun hq=>(HNB.out _ (by simpa using hq)).1 rfl);have g6:w2.cell? ⟨x.vb,2,none⟩=some (.slice da m dc):=p62.cell? 2;have z6:w2.frozen? ⟨x.vb,2,none⟩=false:=p62.frozen 2;obtain⟨ce,e1,e2⟩:=HEB.out;have g7:w2.cell? ⟨x.eb,0,none⟩=some (.pointer (some ⟨x.vb,0,none⟩)):=((S2.at e1 (fun hq=>(HNB.out _ (by simpa using hq)).2.1 rfl)).cell? 0).trans e2;obtain⟨cl,f1,f2⟩:=HLG.out;have g8:w2.cell? ⟨lg,j,none⟩=some (.pointer (some ⟨x.eb,0,none⟩)):=((S2.at f1 (fun hq=>(HNB.out _ (by simpa using hq)).2.2 rfl)).cell? j).trans f2;refine hK.out _ _ ⟨g8,g7,g6⟩ (fun hHeld=>?_);clear hK K
       (try simp only[Act.put,List.setIfInBounds_toArray,List.set_cons_zero,List.set_cons_succ])
       refine aj (i:=24) (v:=?v23) rfl (by kernel_rfl) (by kernel_rfl) (by kernel_rfl) (fun _ _ _ h=>h) (by kernel_rfl) ?XV (by assumption) ?_
       case XV=>intro w hSw;(try dsimp only at hSw);go_simp;try with_reducible rfl
       (try simp only[Act.put,List.setIfInBounds_toArray,List.set_cons_zero,List.set_cons_succ])
       refine aj (i:=25) (v:=?v24) rfl (by kernel_rfl) (by kernel_rfl) (by kernel_rfl) (fun _ _ _ h=>h) (by kernel_rfl) ?hy24 (by assumption) ?_
       case hy24=>intro w hSw;(try dsimp only at hSw);go_simp;try with_reducible rfl
       (try simp only[Act.put,List.setIfInBounds_toArray,List.set_cons_zero,List.set_cons_succ])
       refine wpAnyH_done (by kernel_rfl) ?_ _;refine mr (fun K hK=>?_)
       go_simp
       refine hK.out _ _ ?_;clear hK K
       all_goals
        have HF:Hid (∃ds2,lC W (w2.setCell ⟨x.vb,2,none⟩ (.slice a6 (m+1) cap6)) B a2 xs ofs j ds2 (cur++[t])):=by
         have hlen:(cur++[t]).length=m+1:=by rw[List.length_append,HCL.out];rfl
         have S3:Same (x.vb::(Value.slice da m dc).ownBlock.toList) wr (w2.setCell ⟨x.vb,2,none⟩ (.slice a6 (m+1) cap6)):=(S2.mono (T:=x.vb::(Value.slice da m dc).ownBlock.toList) (fun q hq _=>List.mem_cons_of_mem _ hq)).set _ _ _ (fun _=>by simp);refine HPM.out _ (.slice a6 (m+1) cap6) _ S3 (fun q hq=>?_) (p62.ax 2 _) ?_ ?_
         ·simp only[List.mem_cons,Option.mem_toList,Option.mem_def]at hq;exact hq
         ·rw[hlen,List.map_append];exact aG hown2 ((Same.refl [x.vb] w2).set x.vb 2 (.slice a6 (m+1) cap6) (fun _=>by simp)) (fun g hg hq=>by
           simp at hq;subst hq;rcases hblk2 with e|e
           ·rw[e]at hg;exact(HNB.out _ hg).1 rfl
           ·rw[e]at hg;have:wr.heap.size+1=x.vb:=by simpa using hg
            omega)
         ·rcases hblk2 with e|e
          ·exact Or.inl e
          ·exact Or.inr ⟨_,e,by simp⟩
        clear S2 hown2 hgrow2 hblk2 p62 HPM;obtain⟨ds2,hF⟩:=HF.out;have HFF:Hid (lC W (w2.setCell ⟨x.vb,2,none⟩ (.slice a6 (m+1) cap6)) B a2 xs ofs j ds2 ((x.e.xs.take (m+1)).map fun b=>aH B (a2+8*b) 8)):=by rw[HTM.out];exact hF
        clear HF hF
        go_wp2
        go_roundw
        case rel=>exact⟨m+1,ds2,by go_num,by omega,HFF.out⟩
        case measure=>simp[intOf];omega
      ·have lm:(x.e.xs.length:Int)<=(m:Int):=by omega
       have em:m=x.e.xs.length:=by omega
       have HNX:=HEN.out _ _ (by have:=HVm.out;rw[em,List.take_length]at this;exact this);have XW:Hid (lC W wr B a2 xs ofs (j+1) ds' []):=HNX;clear em HNX
       go_wp2_with fail
       go_roundw
       case rel=>exact⟨j+1,ds',by go_num,by omega,XW.out⟩
       case measure=>simp[intOf];omega
    ·obtain⟨o,ho⟩:∃o,(xs[j]!).e.origin=some o:=by
      cases h':(xs[j]!).e.origin with
      | none=>exact absurd h' hog
      | some o=>exact⟨o,rfl⟩
     have HNX:Hid (lC W wr B a2 xs ofs (j+1) ds []):=HV.out.next hjl (by rw[if_neg hog]);rw[ho]at p3;simp only[iq]at p3;have lo:(0:Int)<=(o:Int):=by omega
     have lo2:¬((o:Int)<0):=by omega
     clear HV HFA hog ho p6 p7 p5 hce um hAl;generalize (xs[j]!).eb=eb at *;generalize (xs[j]!).vb=vb at *;generalize (xs[j]!).bg=bg at *;generalize (xs[j]!).bc=bc at *;generalize (xs[j]!).e.xs.length=bl at *
     go_wp2_with fail
     go_loopw [11,12] (fun k _ wr'=>k=.int .i64 0/\wr'=wr) (fun _ _ _=>0)
     case atStart=>exact⟨rfl,rfl⟩
     case round=>
      obtain⟨rfl,rfl⟩:=hrel;rcases Nat.eq_zero_or_pos bl with rfl|hbl
      ·go_wp2_with fail
       go_roundw
       case rel=>exact⟨j+1,ds,by go_num,by omega,HNX.out⟩
       case measure=>simp[intOf];omega
      ·have lb:(0:Int)<(bl:Int):=by omega
       go_wp2_with fail
       go_roundw
       case rel=>exact⟨j+1,ds,by go_num,by omega,HNX.out⟩
       case measure=>simp[intOf];omega
   ·have l1:(xs.length:Int)<=(j:Int):=by omega
    have ej:j=xs.length:=by omega
    rw[ej]at HV;clear ej
    go_wp2_with fail
    go_meet
    case rel=>exact⟨ds,HV⟩
 case rest=>
  obtain⟨ds,HD⟩:=hcut;refine ‹∀(a:Act)(w:World),Code.wp prog _ _ a w->_› _ _ ?_;exact oP.out _ _ _ _ _ _ _ _ _ _ _ _ _ _ _ _ _ _ _ _ _ _ _ _ _ _ _ _ _ _ _ _ _ _ _ _ _ _ _ _ _ _ _ _ _ _ _ _ _ _ _ _ _ _ _ _ _ _ _ _ _ _ _ _ _ _ _ _ _ _ _ _ _ _ _ _ _ _ _ _ _ _ _ _ _ _ _ _ _ _ _ _ _ _ _ _ _ _ _ _ _ _ _ _ _ _ _ _ _ _ _ _ _ _ _ _ _ _ _ _ _ _ _ _ _ _ _ _ _ _ _ _ _ _ _ _ _ _ _ _ _ _ _ _ _ _ _ _ _ _ _ _ _ _ _ _ _ _ _ _ _ _ _ _ _ _ _ _ _ _ _ _ _ _ _ _ _ _ _ _ _ _ _ _ _ _ _ _ _ _ _ _ _ _ _ _ _ _ _ _ _ _ _ _ _ _ _ _ _ _ _ _ _ _ _ _ _ _ _ _ _ _ _ _ _ _ _ _ _ _ _ _ _ _ _ _ _ _ _ _ _ _ _ _ _ _ _ _ _ _ _ _ _ _ _ _ _ _ _ _ _ _ _ _ _ _ _ _ _ _ _ _ _ _ _ _ _ _ _ _ _ _ _ _ _ _ _ _ _ _ _ _ _ _ _ _ _ _ _ _ _ _ _ _ _ _ _ _ _ _ _ _ _ _ _ _ _ _ _ _ _ _ _ _ _ _ ds HD
end
end Go.Proofs.YtpddgdjocffgdaaGreat
