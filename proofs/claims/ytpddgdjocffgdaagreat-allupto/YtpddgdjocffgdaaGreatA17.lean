/- Packed: see the last text. -/
import Derived.Test.YtpddgdjocffgdaaGreatA16
import Derived.Laws.OwnMore
namespace Go.Proofs.YtpddgdjocffgdaaGreat
open Go.Proofs.Tryz
set_option linter.unusedVariables false
set_option linter.unusedSimpArgs false
set_option linter.unusedSectionVars false
set_option maxHeartbeats 16000000
set_option maxRecDepth 100000
section
open Go.RowKit Go.Sort
variable [DecidableEq aN] [Inhabited aN] [Inhabited aF] [Inhabited ay] [Inhabited aV]
def oM(B:List UInt8)(a2:Nat)(x:aV)(d:List ByteArray)(m:Nat):List ByteArray:=(List.range m).foldl (fun d k=>d.set (x.e.kept[k]!) (aH B (a2+8*x.e.xs[k]!) 8)) d
theorem tZ(B:List UInt8)(a2:Nat)(x:aV)(d:List ByteArray)(m:Nat):oM B a2 x d (m+1)=(oM B a2 x d m).set (x.e.kept[m]!) (aH B (a2+8*x.e.xs[m]!) 8):=by
 unfold oM;rw[List.range_succ,List.foldl_append];rfl
theorem iF(B:List UInt8)(a2:Nat)(x:aV)(d:List ByteArray)(m:Nat):(oM B a2 x d m).length=d.length:=by
 induction m with
 | zero=>rfl
 | succ m ih=>rw[tZ,List.length_set,ih]
structure kR(W wr:World)(B:List UInt8)(a2:Nat)(xs:List aV)(ofs:List ByteArray)(i:Nat)(ds:List (Value×List ByteArray))(c:Option Nat):Prop where
 rows:Rows wr W.heap.size xs ofs ds
 aA:∀j,j<xs.length->(xs[j]!).e.origin=none->(ds[j]!).2=fA B a2 (xs[j]!).e.xs
 done:∀j,j<xs.length->j<i->∀o,(xs[j]!).e.origin=some o->(ds[j]!).2=oM B a2 xs[j]! (fA B a2 (xs[o]!).e.xs) (xs[j]!).e.kept.length
 nil:∀j,j<xs.length->i<j->(xs[j]!).e.origin≠none->ds[j]! = (.slice none 0 0,[])
 abb:c=none->i<xs.length->(xs[i]!).e.origin≠none->ds[i]! = (.slice none 0 0,[])
 aan:∀m,c=some m->i<xs.length->∀o,(xs[i]!).e.origin=some o->(ds[i]!).2=oM B a2 xs[i]! (fA B a2 (xs[o]!).e.xs) m
 same:Same (xs.map (·.vb)) W wr
theorem kR.Wl{W wr:World}{B:List UInt8}{a2:Nat}{xs:List aV}{ofs:List ByteArray}{ds:List (Value×List ByteArray)}(h:lC W wr B a2 xs ofs xs.length ds []):kR W wr B a2 xs ofs 0 ds none:=
 ⟨h.rows,fun j hj ho=>by rw[h.done j hj hj,if_pos ho];rfl,fun j _ hj=>by omega,fun j hj _ ho=>h.nil j hj (Or.inr ⟨hj,ho⟩),fun _ hj ho=>h.nil 0 hj (Or.inr ⟨hj,ho⟩),fun m hm=>(by cases hm),h.same⟩
theorem kR.skip{W wr:World}{B:List UInt8}{a2:Nat}{xs:List aV}{ofs:List ByteArray}{i:Nat}{ds:List (Value×List ByteArray)}(h:kR W wr B a2 xs ofs i ds none)(hi:i<xs.length)(ho:(xs[i]!).e.origin=none):kR W wr B a2 xs ofs (i+1) ds none:=
 ⟨h.rows,h.aA,fun j hj hji o hoj=>by
  by_cases e:j=i
  ·subst e;rw[ho]at hoj;cases hoj
  ·exact h.done j hj (by omega) o hoj,fun j hj hji ho'=>h.nil j hj (by omega) ho',fun _ hj ho'=>h.nil (i+1) hj (by omega) ho',fun m hm=>(by cases hm),h.same⟩
theorem kR.next{W wr:World}{B:List UInt8}{a2:Nat}{xs:List aV}{ofs:List ByteArray}{i:Nat}{ds:List (Value×List ByteArray)}(h:kR W wr B a2 xs ofs i ds (some (xs[i]!).e.kept.length))(hi:i<xs.length):kR W wr B a2 xs ofs (i+1) ds none:=
 ⟨h.rows,h.aA,fun j hj hji o hoj=>by
  by_cases e:j=i
  ·subst e;exact h.aan _ rfl hj o hoj
  ·exact h.done j hj (by omega) o hoj,fun j hj hji ho'=>h.nil j hj (by omega) ho',fun _ hj ho'=>h.nil (i+1) hj (by omega) ho',fun m hm=>(by cases hm),h.same⟩
theorem kR.put{W wr w':World}{B:List UInt8}{a2:Nat}{xs:List aV}{ofs:List ByteArray}{i:Nat}{ds:List (Value×List ByteArray)}{c:Option Nat}(h:kR W wr B a2 xs ofs i ds c)(hi:i<xs.length)(o m:Nat)(ho:(xs[i]!).e.origin=some o)(dv:Value){S:List Nat}(hS:Same S wr w')
 (hs:∀q∈S,q=(xs[i]!).vb\/(ds[i]!).1.ownBlock=some q) (hv:At w' (xs[i]!).vb 118 ((xs[i]!).cells ofs[i]! dv)) (dl:List ByteArray) (hdl:dl=oM B a2 xs[i]! (fA B a2 (xs[o]!).e.xs) m) (hd:w'.ownsRow W.heap.size 9 1 dv dl.length (dl.map Value.string))
 (hl:dv.ownBlock=(ds[i]!).1.ownBlock\/∃g,dv.ownBlock=some g/\wr.heap.size<=g):kR W w' B a2 xs ofs i (ds.set i (dv,dl)) (some m):=by
 have hld:=h.rows.ld;have gs:(ds.set i (dv,dl))[i]! = (dv,dl):=by rw[getElem!_pos _ i (by rw[List.length_set,hld];exact hi),List.getElem_set_self]
 have gn:∀j,j<xs.length->j≠i->(ds.set i (dv,dl))[j]! = ds[j]!:=fun j hj hne=>by
  rw[getElem!_pos _ j (by rw[List.length_set,hld];exact hj),List.getElem_set_ne (fun e=>hne e.symm),getElem!_pos ds j (by rw[hld];exact hj)]
 refine⟨h.rows.put i hi dv dl hS hs hv hd hl,fun j hj hoj=>?_,fun j hj hji o' hoj=>?_,fun j hj hji ho'=>?_,fun hc=>(by cases hc),fun m' hm' _ o' ho'=>?_,?_⟩
 ·rw[gn j hj (fun e=>by subst e;rw[ho]at hoj;cases hoj)];exact h.aA j hj hoj
 ·rw[gn j hj (by omega)];exact h.done j hj hji o' hoj
 ·rw[gn j hj (by omega)];exact h.nil j hj hji ho'
 ·rw[ho]at ho';cases ho';cases hm';rw[gs];exact hdl
 ·refine h.same.step hS fun q hq hlt=>?_
  rcases hs q hq with e|e
  ·rw[e];exact List.mem_map.2 ⟨xs[i]!,by rw[getElem!_pos xs i hi];exact List.getElem_mem hi,rfl⟩
  ·have:=aI (h.rows.dat i hi) q e;omega
theorem owns_block{w:World}{base:Nat}{e:TypeId}{size n:Nat}{v:Value}{xs:List Value}(h:w.ownsRow base e size v n xs)(hn:0<n):∃g cap,v=.slice (some ⟨g,0,none⟩) n cap/\n<=cap/\cap<=maxLen:=by
 rcases h.2 with⟨h1,h2⟩|⟨g,cap,cur,h1,h2,h3,h4,h5,_⟩
 ·omega
 ·exact⟨g,cap,h1,h4,h5⟩
theorem QV(u3 u4 u5 u6 u7 Ja Jb Jc Jd Je Jf Jg Jh Ji Jj Jk Jl Jm Jn Jo Jp Jq Jr Js Jt Ju Jv Jw Jx Jy Jz Ka Kb Kc Kd Ke Kf Kg Kh Ki Kj Kk Kl Km Kn Ko Kp Kq Kr Ks Kt Ku Kv Kw Kx Ky Kz Qa Qb Qc Qd Qe Qf Qg Qh Qi Qj Qk Ql Qm Qn Qo Qp Qq Qr Qs Qt Qu Qv Qw Qx Qy Qz Ua Ub Uc Ud Ue Uf Ug Uh Ui Uj Uk Ul Um Un Uo Up Uq Ur Us Ut Uu Uv Uw Ux Uy Uz Va Vb Vc Vd Ve Vf Vg Vh Vi Vj Vk Vl Vm Vn Vo Vp Vq Vr Vs Vt Vu Vv Vw Vx Vy Vz Xa Xb Xc Xd Xe Xf Xg Xh Xi Xj Xk Xl Xm Xn Xo Xp Xq Xr Xs Xt Xu Xv Xw Xx Xy Xz Ya Yb Yc Yd Ye Yf Yg Yh Yi Yj Yk Yl Ym Yn Yo Yp Yq Yr Ys Yt Yu Yv Yw Yx Yy Yz Za Zb Zc Zd Ze Zf Zg Zh Zi Zj Zk Zl Zm Zn Zo Zp Zq Zr Zs Zt Zu Zv Zw Zx Zy Zz Ga Gb Gc Gd Ge Gf Gg Gh Gi Gj Gk Gl Gm Gn Gp Gq Gr Gs Gt Gu Gv Gw Gx Gy Gz Fa Fb Fc Fd Fe Ff Fg Fh Fi Fj Fk Fl Fm Fo Fp Fq Fr Fs Ft Fu Fv Fw Fx Fy Fz Ra Rb Rc Rd Rf Rg Rh Ri Rj Rk Rl Rm Rn Ro Rp Rq Rr Rs Rt Ru Rv Rw Rx Ry Rz Ma Mb Mc Md Me Mf Mg Mh Mi Mj Mk Ml Mm Mn Mo Mp Mq Mr Ms Mt Mu Mv Mw Mx My Mz Da Db Dc Dd De Df Dg Dh Di Dj Dk:Value)(W V:World)(sb rb:Nat)(la:Option Addr)(lc:Nat)(B:List UInt8)(xs:List aV)(ofs:List ByteArray)(ds0:List (Value×List ByteArray))(n a2:Nat)(hle:a2+8*n<=B.length)(hV:lC W V B a2 xs ofs xs.length ds0 [])(hE:oD W la xs)(hlg:∀lg,la=some ⟨lg,0,none⟩->lg∉xs.map (·.vb))(hx:∀x∈xs,∀b∈x.e.xs,b<n)(hx2:∀x∈xs,x.e.xs.length<=200)(hn:n<=200)(hxl:xs.length<=20)
 (hp:∀x∈xs,∀o,x.e.origin=some o->o<xs.length/\(xs[o]!).e.origin=none/\1<=(xs[o]!).e.xs.length/\(∀k∈x.e.kept,k<(xs[o]!).e.xs.length)/\x.e.kept.length<=x.e.xs.length) (R:Ending->World->Prop)
 (hrest:∀(u3 u4 u5 u6 u7 Ja Jb Jc Jd Je Jf Jg Jh Ji Jj Jk Jl Jm Jn Jo Jp Jq Jr Js Jt Ju Jv Jw Jx Jy Jz Ka Kb Kc Kd Ke Kf Kg Kh Ki Kj Kk Kl Km Kn Ko Kp Kq Kr Ks Kt Ku Kv Kw Kx Ky Kz Qa Qb Qc Qd Qe Qf Qg Qh Qi Qj Qk Ql Qm Qn Qo Qp Qq Qr Qs Qt Qu Qv Qw Qx Qy Qz Ua Ub Uc Ud Ue Uf Ug Uh Ui Uj Uk Ul Um Un Uo Up Uq Ur Us Ut Uu Uv Uw Ux Uy Uz Va Vb Vc Vd Ve Vf Vg Vh Vi Vj Vk Vl Vm Vn Vo Vp Vq Vr Vs Vt Vu Vv Vw Vx Vy Vz Xa Xb Xc Xd Xe Xf Xg Xh Xi Xj Xk Xl Xm Xn Xo Xp Xq Xr Xs Xt Xu Xv Xw Xx Xy Xz Ya Yb Yc Yd Ye Yf Yg Yh Yi Yj Yk Yl Ym Yn Yo Yp Yq Yr Ys Yt Yu Yv Yw Yx Yy Yz Za Zb Zc Zd Ze Zf Zg Zh Zi Zj Zk Zl Zm Zn Zo Zp Zq Zr Zs Zt Zu Zv Zw Zx Zy Zz Ga Gb Gc Gd Ge Gf Gg Gh Gi Gj Gk Gl Gm Gn Gp Gq Gr Gs Gt Gu Gv Gw Gx Gy Gz Fa Fb Fc Fd Fe Ff Fg Fh Fi Fj Fk Fl Fm Fo Fp Fq Fr Fs Ft Fu Fv Fw Fx Fy Fz Ra Rb Rc Rd Rf Rg Rh Ri Rj Rk Rl Rm Rn Ro Rp Rq Rr Rs Rt Ru Rv Rw Rx Ry Rz Ma Mb Mc Md Me Mf Mg Mh Mi Mj Mk Ml Mm Mn Mo Mp Mq Mr Ms Mt Mu Mv Mw Mx My Mz Da Db Dc Dd De Df Dg Dh Di Dj Dk:Value)(wd:World)(ds:List (Value×List ByteArray)),Hid (kR W wd B a2 xs ofs xs.length ds none)->Code.wp prog (bI 6 (f112.body.getD .skip)) (bodyPost prog f112 R) { tmps:=#[.pointer (some ⟨sb,0,none⟩),.slice la xs.length lc,.pointer (some ⟨rb,0,none⟩),u3,u4,u5,u6,u7,.int .i64 a2,.string (aH B a2 (8*n)),Ja,Jb,Jc,Jd,Je,Jf,Jg,Jh,Ji,Jj,Jk,Jl,Jm,Jn,Jo,Jp,Jq,Jr,Js,Jt,Ju,Jv,Jw,Jx,Jy,Jz,Ka,Kb,Kc,Kd,Ke,Kf,Kg,Kh,Ki,Kj,Kk,Kl,Km,Kn,Ko,Kp,Kq,Kr,Ks,Kt,Ku,Kv,Kw,Kx,Ky,Kz,Qa,Qb,Qc,Qd,Qe,Qf,Qg,Qh,Qi,Qj,Qk,Ql,Qm,Qn,Qo,Qp,Qq,Qr,Qs,Qt,Qu,Qv,Qw,Qx,Qy,Qz,Ua,Ub,Uc,Ud,Ue,Uf,Ug,Uh,Ui,Uj,Uk,Ul,Um,Un,Uo,Up,Uq,Ur,Us,Ut,Uu,Uv,Uw,Ux,Uy,Uz,Va,Vb,Vc,Vd,Ve,Vf,Vg,Vh,Vi,Vj,Vk,Vl,Vm,Vn,Vo,Vp,Vq,Vr,Vs,Vt,Vu,Vv,Vw,Vx,Vy,Vz,Xa,Xb,Xc,Xd,Xe,Xf,Xg,Xh,Xi,Xj,Xk,Xl,Xm,Xn,Xo,Xp,Xq,Xr,Xs,Xt,Xu,Xv,Xw,Xx,Xy,Xz,Ya,Yb,Yc,Yd,Ye,Yf,Yg,Yh,Yi,Yj,Yk,Yl,Ym,Yn,Yo,Yp,Yq,Yr,Ys,Yt,Yu,Yv,Yw,Yx,Yy,Yz,Za,Zb,Zc,Zd,Ze,Zf,Zg,Zh,Zi,Zj,Zk,Zl,Zm,Zn,Zo,Zp,Zq,Zr,Zs,Zt,Zu,Zv,Zw,Zx,Zy,Zz,Ga,Gb,Gc,Gd,Ge,Gf,Gg,Gh,Gi,Gj,Gk,Gl,Gm,Gn,Gp,Gq,Gr,Gs,Gt,Gu,Gv,Gw,Gx,Gy,Gz,Fa,Fb,Fc,Fd,Fe,Ff,Fg,Fh,Fi,Fj,Fk,Fl,Fm,Fo,Fp,Fq,Fr,Fs,Ft,Fu,Fv,Fw,Fx,Fy,Fz,Ra,Rb,Rc,Rd,Rf,Rg,Rh,Ri,Rj,Rk,Rl,Rm,Rn,Ro,Rp,Rq,Rr,Rs,Rt,Ru,Rv,Rw,Rx,Ry,Rz,Ma,Mb,Mc,Md,Me,Mf,Mg,Mh,Mi,Mj,Mk,Ml,Mm,Mn,Mo,Mp,Mq,Mr,Ms,Mt,Mu,Mv,Mw,Mx,My,Mz,Da,Db,Dc,Dd,De,Df,Dg,Dh,Di,Dj,Dk],defers:=[] } wd) :
 Code.wp prog (bI 5 (f112.body.getD .skip)) (bodyPost prog f112 R) { tmps:=#[.pointer (some ⟨sb,0,none⟩),.slice la xs.length lc,.pointer (some ⟨rb,0,none⟩),u3,u4,u5,u6,u7,.int .i64 a2,.string (aH B a2 (8*n)),Ja,Jb,Jc,Jd,Je,Jf,Jg,Jh,Ji,Jj,Jk,Jl,Jm,Jn,Jo,Jp,Jq,Jr,Js,Jt,Ju,Jv,Jw,Jx,Jy,Jz,Ka,Kb,Kc,Kd,Ke,Kf,Kg,Kh,Ki,Kj,Kk,Kl,Km,Kn,Ko,Kp,Kq,Kr,Ks,Kt,Ku,Kv,Kw,Kx,Ky,Kz,Qa,Qb,Qc,Qd,Qe,Qf,Qg,Qh,Qi,Qj,Qk,Ql,Qm,Qn,Qo,Qp,Qq,Qr,Qs,Qt,Qu,Qv,Qw,Qx,Qy,Qz,Ua,Ub,Uc,Ud,Ue,Uf,Ug,Uh,Ui,Uj,Uk,Ul,Um,Un,Uo,Up,Uq,Ur,Us,Ut,Uu,Uv,Uw,Ux,Uy,Uz,Va,Vb,Vc,Vd,Ve,Vf,Vg,Vh,Vi,Vj,Vk,Vl,Vm,Vn,Vo,Vp,Vq,Vr,Vs,Vt,Vu,Vv,Vw,Vx,Vy,Vz,Xa,Xb,Xc,Xd,Xe,Xf,Xg,Xh,Xi,Xj,Xk,Xl,Xm,Xn,Xo,Xp,Xq,Xr,Xs,Xt,Xu,Xv,Xw,Xx,Xy,Xz,Ya,Yb,Yc,Yd,Ye,Yf,Yg,Yh,Yi,Yj,Yk,Yl,Ym,Yn,Yo,Yp,Yq,Yr,Ys,Yt,Yu,Yv,Yw,Yx,Yy,Yz,Za,Zb,Zc,Zd,Ze,Zf,Zg,Zh,Zi,Zj,Zk,Zl,Zm,Zn,Zo,Zp,Zq,Zr,Zs,Zt,Zu,Zv,Zw,Zx,Zy,Zz,Ga,Gb,Gc,Gd,Ge,Gf,Gg,Gh,Gi,Gj,Gk,Gl,Gm,Gn,Gp,Gq,Gr,Gs,Gt,Gu,Gv,Gw,Gx,Gy,Gz,Fa,Fb,Fc,Fd,Fe,Ff,Fg,Fh,Fi,Fj,Fk,Fl,Fm,Fo,Fp,Fq,Fr,Fs,Ft,Fu,Fv,Fw,Fx,Fy,Fz,Ra,Rb,Rc,Rd,Rf,Rg,Rh,Ri,Rj,Rk,Rl,Rm,Rn,Ro,Rp,Rq,Rr,Rs,Rt,Ru,Rv,Rw,Rx,Ry,Rz,Ma,Mb,Mc,Md,Me,Mf,Mg,Mh,Mi,Mj,Mk,Ml,Mm,Mn,Mo,Mp,Mq,Mr,Ms,Mt,Mu,Mv,Mw,Mx,My,Mz,Da,Db,Dc,Dd,De,Df,Dg,Dh,Di,Dj,Dk],defers:=[] } V:=by
 generalize hC:bI 5 (f112.body.getD .skip)=C
 delta f112 at hC
 dsimp only[bI,Option.getD]at hC;subst hC;have oP:=hid hrest;clear hrest;have hnot:=bP;have HTZ:Hid ((aH B a2 (8*n)).size=8*n):=by
  show((B.drop a2).take (8*n)).toArray.size=_;rw[List.size_toArray,List.length_take,List.length_drop];omega
 have SK:Hid (∀k,k<n->(aH B a2 (8*n)).extract (8*k) (8*k+8)=aH B (a2+8*k) 8):=fun k hk=>by
  apply ByteArray.ext;simp only[aH,ByteArray.data_extract,List.extract_toArray,List.extract_eq_take_drop];rw[List.drop_take,List.take_take,List.drop_drop]
  congr 2
  omega
 generalize aH B a2 (8*n)=tx at *;obtain⟨i0,hi,hz0,hz1,hz2⟩:=info_parts Tryz.wI;have HI0:Hid (kR W V B a2 xs ofs 0 ds0 none):=kR.Wl hV;have HE:Hid (oD W la xs/\∀lg,la=some ⟨lg,0,none⟩->lg∉xs.map (·.vb)):=⟨hE,hlg⟩
 have HX:Hid (∀x∈xs,∀b∈x.e.xs,b<n):=hx;have HP:=hid hp;clear hE hV hx hlg hp
 go_upto_block 6 with fail
 go_cut [13,14,15] (fun _ _ _ wd=>∃ds,Hid (kR W wd B a2 xs ofs xs.length ds none))
 case first=>
  go_wp2_with fail
  go_loopw [13,14,15] (fun i _ _ wr=>∃(j:Nat)(ds:List (Value×List ByteArray)),i=.int .i64 j/\j<=xs.length/\Hid (kR W wr B a2 xs ofs j ds none)) (fun i _ _ _=>xs.length-(intOf i).toNat)
  case atStart=>exact⟨0,_,rfl,Nat.zero_le _,HI0.out⟩
  case round=>
   obtain⟨j,ds,rfl,hj,HV⟩:=hrel;by_cases hjl:j<xs.length
   ·have l1:(j:Int)<(xs.length:Int):=by omega
    obtain⟨lg,lcs,hla,hAl,hce⟩:=HE.out.1.cell j hjl;have um:=HE.out.2 lg hla;have HLO:Hid (∀w',Same (xs.map (·.vb)) W w'->∀o,o<xs.length->w'.cell? ⟨lg,o,none⟩=some (.pointer (some ⟨(xs[o]!).eb,0,none⟩))):=fun w' hw o ho'=>by
     obtain⟨lg',aaQ,SL,SN,XH⟩:=HE.out.1.cell o ho';obtain rfl:lg=lg':=by rw[hla]at SL;simpa using SL
     rw[(hw.at SN um).cell?,<-SN.cell?];exact XH
    subst hla;have hmj:xs[j]!∈xs:=by rw[getElem!_pos xs j hjl];exact List.getElem_mem hjl
    have p1:=HLO.out _ HV.out.same j hjl;have p2:wr.cell? ⟨(xs[j]!).eb,0,none⟩=some (.pointer (some ⟨(xs[j]!).vb,0,none⟩)):=(HV.out.rows.fix j hjl).ent.cell? 0;have p3:wr.cell? ⟨(xs[j]!).eb,2,none⟩=some (.int .i64 (iq (xs[j]!).e.origin)):=(HV.out.rows.fix j hjl).ent.cell? 2;cases hog:(xs[j]!).e.origin with
    | none=>
     have HN:Hid (kR W wr B a2 xs ofs (j+1) ds none):=HV.out.skip hjl hog;rw[hog]at p3;simp only[iq]at p3;have lo:(-1:Int)<0:=by omega
     clear HV hAl hce HLO hog hmj um p2;generalize xs[j]! = x at *
     go_wp2_with fail
     go_roundw
     case rel=>exact⟨j+1,ds,by go_num,by omega,HN.out⟩
     case measure=>simp[intOf];omega
    | some o=>
     rw[hog]at p3;simp only[iq]at p3;obtain⟨hol,hoo,hy1,hky,hkx⟩:=HP.out _ hmj o hog;have lo:(o:Int)<(xs.length:Int):=by omega
     have lo2:¬((o:Int)<0):=by omega
     have lo3:(0:Int)<=(o:Int):=by omega
     have hjo:o≠j:=fun e=>by subst e;rw[hoo]at hog;cases hog
     have q1:=HLO.out _ HV.out.same o hol;have q2:wr.cell? ⟨(xs[o]!).eb,0,none⟩=some (.pointer (some ⟨(xs[o]!).vb,0,none⟩)):=(HV.out.rows.fix o hol).ent.cell? 0;have hyd:=HV.out.aA o hol hoo;have hrow:=HV.out.rows.dat o hol;have hlen:(fA B a2 (xs[o]!).e.xs).length=(xs[o]!).e.xs.length:=by unfold fA;rw[List.length_map]
     rw[hyd,hlen]at hrow;obtain⟨g,gc,hgv,hgc,hgm⟩:=owns_block hrow (by omega);have q5:wr.cell? ⟨(xs[o]!).vb,2,none⟩=some (.slice (some ⟨g,0,none⟩) (xs[o]!).e.xs.length gc):=by rw[<-hgv];exact(HV.out.rows.aA o hol).cell? 2
     have hcur:=HV.out.abb rfl hjl (by rw[hog];exact fun e=>by cases e);have HAV:Hid (At wr (xs[j]!).vb 118 ((xs[j]!).cells ofs[j]! (.slice none 0 0))):=by have:=HV.out.rows.aA j hjl;rw[hcur]at this;exact this
     have p5:wr.cell? ⟨(xs[j]!).vb,2,none⟩=some (.slice none 0 0):=HAV.out.cell? 2;have HDC:Hid (∀q u,((fA B a2 (xs[o]!).e.xs).map Value.string)[q]? = some u->wr.cell? ((⟨g,0,none⟩:Addr).add q)=some u):=fun q u hq=>hrow.cells (by rw[hgv];rfl) q u hq
     have HDL:Hid ((fA B a2 (xs[o]!).e.xs).length=(xs[o]!).e.xs.length):=hlen;have HWS:Hid (W.heap.size<=wr.heap.size):=HV.out.same.size;have HRW:Hid (Rows wr W.heap.size xs ofs ds):=HV.out.rows;have hL2:(xs[o]!).e.xs.length<=200:=hx2 _ (by rw[getElem!_pos xs o hol];exact List.getElem_mem hol);have HCE:Hid (∀w2,Same [] wr w2->w2.cell? ⟨lg,j,none⟩=some (.pointer (some ⟨(xs[j]!).eb,0,none⟩))/\w2.cell? ⟨(xs[j]!).eb,0,none⟩=some (.pointer (some ⟨(xs[j]!).vb,0,none⟩))/\w2.cell? ⟨(xs[j]!).vb,2,none⟩=some (.slice none 0 0)/\w2.cell? ⟨(xs[j]!).eb,2,none⟩=some (.int .i64 (o:Int))/\w2.cell? ⟨lg,o,none⟩=some (.pointer (some ⟨(xs[o]!).eb,0,none⟩))/\w2.cell? ⟨(xs[o]!).eb,0,none⟩=some (.pointer (some ⟨(xs[o]!).vb,0,none⟩))/\w2.cell? ⟨(xs[o]!).vb,2,none⟩=some (.slice (some ⟨g,0,none⟩) (xs[o]!).e.xs.length gc)):=fun w2 h2=>by
      have hR:=HV.out.rows.same h2 (by simp);have hS:=HV.out.same.step h2 (by simp);refine⟨HLO.out _ hS j hjl,(hR.fix j hjl).ent.cell? 0,?_,?_,HLO.out _ hS o hol,(hR.fix o hol).ent.cell? 0,?_⟩
      ·exact(h2.at HAV.out (by simp)).cell? 2
      ·have:=(hR.fix j hjl).ent.cell? 2;rw[hog]at this;exact this
      ·rw[<-hgv];exact(hR.aA o hol).cell? 2
     have HPU:Hid (∀w' dv S,Same S wr w'->(∀q∈S,q=(xs[j]!).vb)->At w' (xs[j]!).vb 118 ((xs[j]!).cells ofs[j]! dv)->w'.ownsRow W.heap.size 9 1 dv (xs[o]!).e.xs.length ((fA B a2 (xs[o]!).e.xs).map Value.string)->(∃g,dv.ownBlock=some g/\wr.heap.size<=g)->∃ds',kR W w' B a2 xs ofs j ds' (some 0)/\(ds'[j]!).1=dv):=fun w' dv S hS hs hv hd hl=>by
      refine⟨_,HV.out.put hjl o 0 hog dv hS (fun q hq=>Or.inl (hs q hq)) hv (fA B a2 (xs[o]!).e.xs) rfl (by rw[hlen];exact hd) (Or.inr hl),?_⟩;rw[getElem!_pos _ j (by rw[List.length_set,HV.out.rows.ld];exact hjl),List.getElem_set_self]
     have HFA:Hid (∀wr' ds' m,kR W wr' B a2 xs ofs j ds' (some m)->wr'.cell? ⟨lg,j,none⟩=some (.pointer (some ⟨(xs[j]!).eb,0,none⟩))/\wr'.cell? ⟨(xs[j]!).eb,0,none⟩=some (.pointer (some ⟨(xs[j]!).vb,0,none⟩))/\wr'.cell? ⟨(xs[j]!).vb,2,none⟩=some (ds'[j]!).1/\wr'.cell? ⟨(xs[j]!).vb,3,none⟩=some (.slice (some ⟨(xs[j]!).bg,0,none⟩) (xs[j]!).e.xs.length (xs[j]!).bc)/\wr'.cell? ⟨(xs[j]!).vb,4,none⟩=some (.slice ((xs[j]!).kg.map fun g=>⟨g,0,none⟩) (xs[j]!).e.kept.length (xs[j]!).kc)/\(∀k,k<(xs[j]!).e.xs.length->wr'.cell? ⟨(xs[j]!).bg,k,none⟩=some (.int .i64 ((xs[j]!).e.xs[k]!:Nat)))/\(∀k,k<(xs[j]!).e.kept.length->∃g,(xs[j]!).kg=some g/\wr'.cell? ⟨g,k,none⟩=some (.int .i64 ((xs[j]!).e.kept[k]!:Nat)))/\wr'.ownsRow W.heap.size 9 1 (ds'[j]!).1 (xs[o]!).e.xs.length ((oM B a2 xs[j]! (fA B a2 (xs[o]!).e.xs) m).map Value.string)):=fun wr' ds' m hv=>by
      refine⟨HLO.out _ hv.same j hjl,(hv.rows.fix j hjl).ent.cell? 0,(hv.rows.aA j hjl).cell? 2,(hv.rows.aA j hjl).cell? 3,(hv.rows.aA j hjl).cell? 4,fun k hk=>(hv.rows.fix j hjl).bl.cell k hk,fun k hk=>?_,?_⟩
      ·have hke:=(hv.rows.fix j hjl).ke;cases hg:(xs[j]!).kg with
       | none=>rw[(hke.1 hg).1]at hk;simp at hk
       | some g=>exact⟨g,rfl,(hke.2 g hg).cell k hk⟩
      ·have h1:=hv.rows.dat j hjl;rw[hv.aan m rfl hjl o hog,iF,hlen]at h1;exact h1
     have HST:Hid (∀wr' ds' m w' g,kR W wr' B a2 xs ofs j ds' (some m)->Same [g] wr' w'->(ds'[j]!).1.ownBlock=some g->w'.ownsRow W.heap.size 9 1 (ds'[j]!).1 (xs[o]!).e.xs.length ((oM B a2 xs[j]! (fA B a2 (xs[o]!).e.xs) (m+1)).map Value.string)->∃ds2,kR W w' B a2 xs ofs j ds2 (some (m+1))):=fun wr' ds' m w' g hv hS hg hd=>by
      refine⟨_,hv.put hjl o (m+1) hog (ds'[j]!).1 hS (fun q hq=>Or.inr (by rw[List.mem_singleton]at hq;rw[hq];exact hg)) (hS.at (hv.rows.aA j hjl) ?_) (oM B a2 xs[j]! (fA B a2 (xs[o]!).e.xs) (m+1)) rfl (by rw[iF,hlen];exact hd) (Or.inl rfl)⟩;have h2:=aI (hv.rows.dat j hjl) g hg;have h3:=hv.rows.low _ hmj (xs[j]!).vb (by simp[aV.foot]);rw[List.mem_singleton];omega
     have HEN:Hid (∀wr' ds',kR W wr' B a2 xs ofs j ds' (some (xs[j]!).e.kept.length)->kR W wr' B a2 xs ofs (j+1) ds' none):=fun wr' ds' hv=>hv.next hjl
     have HXJ:Hid (∀b∈(xs[j]!).e.xs,b<n):=HX.out _ hmj;have HKY:Hid (∀k∈(xs[j]!).e.kept,k<(xs[o]!).e.xs.length):=hky;have HX2:Hid ((xs[j]!).e.xs.length<=200):=hx2 _ hmj;have HKX:Hid ((xs[j]!).e.kept.length<=(xs[j]!).e.xs.length):=hkx;clear HV hAl hce HLO hmj um hoo hyd hrow hcur hlen hgv hky hkx;generalize fA B a2 (xs[o]!).e.xs=dl at *;generalize xs[j]! = x at *;generalize xs[o]! = y at *;generalize y.e.xs.length=L at *;clear hog hjo
     go_wp2_with fail
     refine jH (S:=fun w'=>w'.cell? ⟨lg,j,none⟩=some (.pointer (some ⟨x.eb,0,none⟩))/\w'.cell? ⟨x.eb,0,none⟩=some (.pointer (some ⟨x.vb,0,none⟩))/\w'.cell? ⟨x.vb,2,none⟩=some (.slice none 0 0)/\w'.cell? ⟨x.eb,2,none⟩=some (.int .i64 (o:Int))/\w'.cell? ⟨lg,o,none⟩=some (.pointer (some ⟨y.eb,0,none⟩))/\w'.cell? ⟨y.eb,0,none⟩=some (.pointer (some ⟨y.vb,0,none⟩))/\w'.cell? ⟨y.vb,2,none⟩=some (.slice (some ⟨g,0,none⟩) L gc)) 36 (by kernel_rfl) (by kernel_rfl) rfl ?hS1 (fun hHeld=>?_)
     case hS1=>exact⟨p1,p2,p5,p3,q1,q2,q5⟩
     simp only[List.take_succ_cons,List.take_zero];refine aj (i:=0) (v:=?v1) rfl (by kernel_rfl) (by kernel_rfl) (by kernel_rfl) (fun _ _ _ h=>h) (by kernel_rfl) ?hy1 (by assumption) ?_
     case hy1=>intro w hSw;(try dsimp only at hSw);go_simp;try with_reducible rfl
     (try simp only[Act.put,List.setIfInBounds_toArray,List.set_cons_zero,List.set_cons_succ])
     refine aj (i:=1) (v:=?v2) rfl (by kernel_rfl) (by kernel_rfl) (by kernel_rfl) (fun _ _ _ h=>h) (by kernel_rfl) ?hy2 (by assumption) ?_
     case hy2=>intro w hSw;(try dsimp only at hSw);go_simp;try with_reducible rfl
     (try simp only[Act.put,List.setIfInBounds_toArray,List.set_cons_zero,List.set_cons_succ])
     refine aj (i:=2) (v:=?v3) rfl (by kernel_rfl) (by kernel_rfl) (by kernel_rfl) (fun _ _ _ h=>h) (by kernel_rfl) ?hy3 (by assumption) ?_
     case hy3=>intro w hSw;(try dsimp only at hSw);go_simp;try with_reducible rfl
     (try simp only[Act.put,List.setIfInBounds_toArray,List.set_cons_zero,List.set_cons_succ])
     refine aj (i:=3) (v:=?v4) rfl (by kernel_rfl) (by kernel_rfl) (by kernel_rfl) (fun _ _ _ h=>h) (by kernel_rfl) ?hy4 (by assumption) ?_
     case hy4=>intro w hSw;(try dsimp only at hSw);go_simp;try with_reducible rfl
     (try simp only[Act.put,List.setIfInBounds_toArray,List.set_cons_zero,List.set_cons_succ])
     refine aj (i:=4) (v:=?v5) rfl (by kernel_rfl) (by kernel_rfl) (by kernel_rfl) (fun _ _ _ h=>h) (by kernel_rfl) ?hy5 (by assumption) ?_
     case hy5=>intro w hSw;(try dsimp only at hSw);go_simp;try with_reducible rfl
     (try simp only[Act.put,List.setIfInBounds_toArray,List.set_cons_zero,List.set_cons_succ])
     refine aj (i:=5) (v:=?v6) rfl (by kernel_rfl) (by kernel_rfl) (by kernel_rfl) (fun _ _ _ h=>h) (by kernel_rfl) ?hy6 (by assumption) ?_
     case hy6=>intro w hSw;(try dsimp only at hSw);go_simp;try with_reducible rfl
     (try simp only[Act.put,List.setIfInBounds_toArray,List.set_cons_zero,List.set_cons_succ])
     refine aj (i:=6) (v:=?v7) rfl (by kernel_rfl) (by kernel_rfl) (by kernel_rfl) (fun _ _ _ h=>h) (by kernel_rfl) ?hy7 (by assumption) ?_
     case hy7=>intro w hSw;(try dsimp only at hSw);go_simp;try with_reducible rfl
     (try simp only[Act.put,List.setIfInBounds_toArray,List.set_cons_zero,List.set_cons_succ])
     refine aj (i:=7) (v:=?v8) rfl (by kernel_rfl) (by kernel_rfl) (by kernel_rfl) (fun _ _ _ h=>h) (by kernel_rfl) ?hy8 (by assumption) ?_
     case hy8=>intro w hSw;(try dsimp only at hSw);go_simp;try with_reducible rfl
     (try simp only[Act.put,List.setIfInBounds_toArray,List.set_cons_zero,List.set_cons_succ])
     refine aj (i:=8) (v:=?v9) rfl (by kernel_rfl) (by kernel_rfl) (by kernel_rfl) (fun _ _ _ h=>h) (by kernel_rfl) ?hy9 (by assumption) ?_
     case hy9=>intro w hSw;(try dsimp only at hSw);go_simp;try with_reducible rfl
     (try simp only[Act.put,List.setIfInBounds_toArray,List.set_cons_zero,List.set_cons_succ])
     refine aj (i:=9) (v:=?v10) rfl (by kernel_rfl) (by kernel_rfl) (by kernel_rfl) (fun _ _ _ h=>h) (by kernel_rfl) ?SQ (by assumption) ?_
     case SQ=>intro w hSw;(try dsimp only at hSw);go_simp;try with_reducible rfl
     (try simp only[Act.put,List.setIfInBounds_toArray,List.set_cons_zero,List.set_cons_succ])
     refine aj (i:=10) (v:=?v11) rfl (by kernel_rfl) (by kernel_rfl) (by kernel_rfl) (fun _ _ _ h=>h) (by kernel_rfl) ?SV (by assumption) ?_
     case SV=>intro w hSw;(try dsimp only at hSw);go_simp;try with_reducible rfl
     (try simp only[Act.put,List.setIfInBounds_toArray,List.set_cons_zero,List.set_cons_succ])
     refine aj (i:=11) (v:=?v12) rfl (by kernel_rfl) (by kernel_rfl) (by kernel_rfl) (fun _ _ _ h=>h) (by kernel_rfl) ?XI (by assumption) ?_
     case XI=>intro w hSw;(try dsimp only at hSw);go_simp;try with_reducible rfl
     (try simp only[Act.put,List.setIfInBounds_toArray,List.set_cons_zero,List.set_cons_succ])
     refine aj (i:=12) (v:=?v13) rfl (by kernel_rfl) (by kernel_rfl) (by kernel_rfl) (fun _ _ _ h=>h) (by kernel_rfl) ?XJ (by assumption) ?_
     case XJ=>intro w hSw;(try dsimp only at hSw);go_simp;try with_reducible rfl
     (try simp only[Act.put,List.setIfInBounds_toArray,List.set_cons_zero,List.set_cons_succ])
     refine aj (i:=13) (v:=?v14) rfl (by kernel_rfl) (by kernel_rfl) (by kernel_rfl) (fun _ _ _ h=>h) (by kernel_rfl) ?XK (by assumption) ?_
     case XK=>intro w hSw;(try dsimp only at hSw);go_simp;try with_reducible rfl
     (try simp only[Act.put,List.setIfInBounds_toArray,List.set_cons_zero,List.set_cons_succ])
     refine aj (i:=14) (v:=?v15) rfl (by kernel_rfl) (by kernel_rfl) (by kernel_rfl) (fun _ _ _ h=>h) (by kernel_rfl) ?XL (by assumption) ?_
     case XL=>intro w hSw;(try dsimp only at hSw);go_simp;try with_reducible rfl
     (try simp only[Act.put,List.setIfInBounds_toArray,List.set_cons_zero,List.set_cons_succ])
     refine aj (i:=15) (v:=?v16) rfl (by kernel_rfl) (by kernel_rfl) (by kernel_rfl) (fun _ _ _ h=>h) (by kernel_rfl) ?XM (by assumption) ?_
     case XM=>intro w hSw;(try dsimp only at hSw);go_simp;try with_reducible rfl
     (try simp only[Act.put,List.setIfInBounds_toArray,List.set_cons_zero,List.set_cons_succ])
     refine aj (i:=16) (v:=?v17) rfl (by kernel_rfl) (by kernel_rfl) (by kernel_rfl) (fun _ _ _ h=>h) (by kernel_rfl) ?XO (by assumption) ?_
     case XO=>intro w hSw;(try dsimp only at hSw);go_simp;try with_reducible rfl
     (try simp only[Act.put,List.setIfInBounds_toArray,List.set_cons_zero,List.set_cons_succ])
     refine aj (i:=17) (v:=?v18) rfl (by kernel_rfl) (by kernel_rfl) (by kernel_rfl) (fun _ _ _ h=>h) (by kernel_rfl) ?XP (by assumption) ?_
     case XP=>intro w hSw;(try dsimp only at hSw);go_simp;try with_reducible rfl
     (try simp only[Act.put,List.setIfInBounds_toArray,List.set_cons_zero,List.set_cons_succ])
     refine aj (i:=18) (v:=?v19) rfl (by kernel_rfl) (by kernel_rfl) (by kernel_rfl) (fun _ _ _ h=>h) (by kernel_rfl) ?XQ (by assumption) ?_
     case XQ=>intro w hSw;(try dsimp only at hSw);go_simp;try with_reducible rfl
     (try simp only[Act.put,List.setIfInBounds_toArray,List.set_cons_zero,List.set_cons_succ])
     refine aj (i:=19) (v:=?v20) rfl (by kernel_rfl) (by kernel_rfl) (by kernel_rfl) (fun _ _ _ h=>h) (by kernel_rfl) ?XR (by assumption) ?_
     case XR=>intro w hSw;(try dsimp only at hSw);go_simp;try with_reducible rfl
     (try simp only[Act.put,List.setIfInBounds_toArray,List.set_cons_zero,List.set_cons_succ])
     refine aj (i:=20) (v:=?v21) rfl (by kernel_rfl) (by kernel_rfl) (by kernel_rfl) (fun _ _ _ h=>h) (by kernel_rfl) ?XT (by assumption) ?_
     case XT=>intro w hSw;(try dsimp only at hSw);go_simp;try with_reducible rfl
     (try simp only[Act.put,List.setIfInBounds_toArray,List.set_cons_zero,List.set_cons_succ])
     refine aj (i:=21) (v:=?v22) rfl (by kernel_rfl) (by kernel_rfl) (by kernel_rfl) (fun _ _ _ h=>h) (by kernel_rfl) ?XU (by assumption) ?_
     case XU=>intro w hSw;(try dsimp only at hSw);go_simp;try with_reducible rfl
     (try simp only[Act.put,List.setIfInBounds_toArray,List.set_cons_zero,List.set_cons_succ])
     refine aj (i:=22) (v:=?v23) rfl (by kernel_rfl) (by kernel_rfl) (by kernel_rfl) (fun _ _ _ h=>h) (by kernel_rfl) ?XV (by assumption) ?_
     case XV=>intro w hSw;(try dsimp only at hSw);go_simp;try with_reducible rfl
     (try simp only[Act.put,List.setIfInBounds_toArray,List.set_cons_zero,List.set_cons_succ])
     refine aj (i:=23) (v:=?v24) rfl (by kernel_rfl) (by kernel_rfl) (by kernel_rfl) (fun _ _ _ h=>h) (by kernel_rfl) ?hy24 (by assumption) ?_
     case hy24=>intro w hSw;(try dsimp only at hSw);go_simp;try with_reducible rfl
     (try simp only[Act.put,List.setIfInBounds_toArray,List.set_cons_zero,List.set_cons_succ])
     refine aj (i:=24) (v:=?v25) rfl (by kernel_rfl) (by kernel_rfl) (by kernel_rfl) (fun _ _ _ h=>h) (by kernel_rfl) ?hy25 (by assumption) ?_
     case hy25=>intro w hSw;(try dsimp only at hSw);go_simp;try with_reducible rfl
     (try simp only[Act.put,List.setIfInBounds_toArray,List.set_cons_zero,List.set_cons_succ])
     refine aj (i:=25) (v:=?v26) rfl (by kernel_rfl) (by kernel_rfl) (by kernel_rfl) (fun _ _ _ h=>h) (by kernel_rfl) ?aaR (by assumption) ?_
     case aaR=>intro w hSw;(try dsimp only at hSw);go_simp;try with_reducible rfl
     (try simp only[Act.put,List.setIfInBounds_toArray,List.set_cons_zero,List.set_cons_succ])
     refine aj (i:=26) (v:=?v27) rfl (by kernel_rfl) (by kernel_rfl) (by kernel_rfl) (fun _ _ _ h=>h) (by kernel_rfl) ?hy27 (by assumption) ?_
     case hy27=>intro w hSw;(try dsimp only at hSw);go_simp;try with_reducible rfl
     (try simp only[Act.put,List.setIfInBounds_toArray,List.set_cons_zero,List.set_cons_succ])
     refine aj (i:=27) (v:=?v28) rfl (by kernel_rfl) (by kernel_rfl) (by kernel_rfl) (fun _ _ _ h=>h) (by kernel_rfl) ?hy28 (by assumption) ?_
     case hy28=>intro w hSw;(try dsimp only at hSw);go_simp;try with_reducible rfl
     (try simp only[Act.put,List.setIfInBounds_toArray,List.set_cons_zero,List.set_cons_succ])
     refine aj (i:=28) (v:=?v29) rfl (by kernel_rfl) (by kernel_rfl) (by kernel_rfl) (fun _ _ _ h=>h) (by kernel_rfl) ?hy29 (by assumption) ?_
     case hy29=>intro w hSw;(try dsimp only at hSw);go_simp;try with_reducible rfl
     (try simp only[Act.put,List.setIfInBounds_toArray,List.set_cons_zero,List.set_cons_succ])
     refine aj (i:=29) (v:=?v30) rfl (by kernel_rfl) (by kernel_rfl) (by kernel_rfl) (fun _ _ _ h=>h) (by kernel_rfl) ?aaS (by assumption) ?_
     case aaS=>intro w hSw;(try dsimp only at hSw);go_simp;try with_reducible rfl
     (try simp only[Act.put,List.setIfInBounds_toArray,List.set_cons_zero,List.set_cons_succ])
     refine aj (i:=30) (v:=?v31) rfl (by kernel_rfl) (by kernel_rfl) (by kernel_rfl) (fun _ _ _ h=>h) (by kernel_rfl) ?hy31 (by assumption) ?_
     case hy31=>intro w hSw;(try dsimp only at hSw);go_simp;try with_reducible rfl
     (try simp only[Act.put,List.setIfInBounds_toArray,List.set_cons_zero,List.set_cons_succ])
     refine aj (i:=31) (v:=?v32) rfl (by kernel_rfl) (by kernel_rfl) (by kernel_rfl) (fun _ _ _ h=>h) (by kernel_rfl) ?hy32 (by assumption) ?_
     case hy32=>intro w hSw;(try dsimp only at hSw);go_simp;try with_reducible rfl
     (try simp only[Act.put,List.setIfInBounds_toArray,List.set_cons_zero,List.set_cons_succ])
     refine aj (i:=32) (v:=?v33) rfl (by kernel_rfl) (by kernel_rfl) (by kernel_rfl) (fun _ _ _ h=>h) (by kernel_rfl) ?aaT (by assumption) ?_
     case aaT=>intro w hSw;(try dsimp only at hSw);go_simp;try with_reducible rfl
     (try simp only[Act.put,List.setIfInBounds_toArray,List.set_cons_zero,List.set_cons_succ])
     refine lV (i:=33) rfl (by kernel_rfl) (fun K hK=>?_);refine fV rfl (.tmp 210) (.tmp 226) 116 rfl W.heap.size 9 i0 (.string ⟨#[]⟩) 1 16 underlying116 hi hz0 hz1 hz2 rfl (by decide) (.slice none 0 0) 0 [] (by simp[Act.eval,Act.put]) (World.ownsRow_nil _ _ _ _) ⟨g,0,none⟩ L gc (dl.map Value.string) (by simp[Act.eval,Act.put]) (by rw[List.length_map,Nat.mul_one];exact HDL.out) (fun q u hq=>HDC.out q u hq) (fun u hu=>by obtain⟨_,_,rfl⟩:=List.mem_map.1 hu;rfl) (by unfold maxLen;omega) (by omega) HWS.out ?_;intro dv2 w2 hown2 hgrow2 hblk2;rw[Nat.zero_add,List.nil_append]at hown2;obtain⟨a6,cap6,rfl⟩:=ak hown2;have S2:Same [] wr w2:=((Same.refl [] wr).drew).grown hgrow2 (fun q hq _=>by simp[Value.ownBlock]at hq);have hR2:=HRW.out.same S2 (by simp);have p62:At w2 x.vb 118 (x.cells ofs[j]! (.slice none 0 0)):=S2.at HAV.out (by simp);have z6:w2.frozen? ⟨x.vb,2,none⟩=false:=p62.frozen 2;have HS3:=HCE.out w2 S2;refine hK.out _ _ HS3 (fun hHeld=>?_);have g6:w2.cell? ⟨x.vb,2,none⟩=some (.slice none 0 0):=p62.cell? 2;clear hK K hR2
     (try simp only[Act.put,List.setIfInBounds_toArray,List.set_cons_zero,List.set_cons_succ])
     refine aj (i:=34) (v:=?v34) rfl (by kernel_rfl) (by kernel_rfl) (by kernel_rfl) (fun _ _ _ h=>h) (by kernel_rfl) ?hy34 (by assumption) ?_
     case hy34=>intro w hSw;(try dsimp only at hSw);go_simp;try with_reducible rfl
     (try simp only[Act.put,List.setIfInBounds_toArray,List.set_cons_zero,List.set_cons_succ])
     refine aj (i:=35) (v:=?v35) rfl (by kernel_rfl) (by kernel_rfl) (by kernel_rfl) (fun _ _ _ h=>h) (by kernel_rfl) ?aaU (by assumption) ?_
     case aaU=>intro w hSw;(try dsimp only at hSw);go_simp;try with_reducible rfl
     (try simp only[Act.put,List.setIfInBounds_toArray,List.set_cons_zero,List.set_cons_succ])
     refine wpAnyH_done (by kernel_rfl) ?_ _;refine mr (fun K hK=>?_)
     go_simp
     refine hK.out _ _ ?_;clear hK K;have HF:Hid (∃ds',kR W (w2.setCell ⟨x.vb,2,none⟩ (.slice a6 L cap6)) B a2 xs ofs j ds' (some 0)/\(ds'[j]!).1=.slice a6 L cap6):=by
      have S3:Same [x.vb] wr (w2.setCell ⟨x.vb,2,none⟩ (.slice a6 L cap6)):=(S2.mono (T:=[x.vb]) (fun q hq _=>by cases hq)).set _ _ _ (fun _=>by simp);refine HPU.out _ (.slice a6 L cap6) _ S3 (fun q hq=>by simpa using hq) (p62.ax 2 _) ?_ ?_
      ·exact aG hown2 ((Same.refl [x.vb] w2).set x.vb 2 (.slice a6 L cap6) (fun _=>by simp)) (fun g' hg hq=>by
        simp at hq;subst hq;rcases hblk2 with e|e
        ·rw[e]at hg;cases hg
        ·rw[e]at hg;have h1:wr.heap.size=x.vb:=by simpa using hg
         have:=HAV.out.lt;omega)
      ·rcases hblk2 with e|e
       ·exfalso
        obtain⟨g',c',e',_⟩:=owns_block hown2 (by omega);rw[e']at e;cases e
       ·exact⟨_,e,by simp⟩
     clear S2 hown2 hgrow2 hblk2 p62 HPU HS3 hHeld;obtain⟨ds1,hF⟩:=HF.out;have HI1:Hid (kR W (w2.setCell ⟨x.vb,2,none⟩ (.slice a6 L cap6)) B a2 xs ofs j ds1 (some 0)):=hF.1;clear HF hF g6 z6 p1 p2 p3 p5 q1 q2 q5 HCE HAV HDC HRW;generalize w2.setCell ⟨x.vb,2,none⟩ (.slice a6 L cap6)=w3 at *
     go_wp2_with fail
     go_loopw [14,15] (fun k _ wr'=>∃(m:Nat)(ds':List (Value×List ByteArray)),k=.int .i64 m/\m<=x.e.kept.length/\Hid (kR W wr' B a2 xs ofs j ds' (some m))) (fun k _ _=>x.e.kept.length-(intOf k).toNat)
     case atStart=>exact⟨0,ds1,rfl,Nat.zero_le _,HI1.out⟩
     case round=>
      obtain⟨m,ds',rfl,hm,HVm⟩:=hrel;obtain⟨p1,p2,p3,p4,p5,p6,p7,p8⟩:=HFA.out _ _ _ HVm.out;by_cases hml:m<x.e.kept.length
      ·have lm:(m:Int)<(x.e.kept.length:Int):=by omega
       have hmx:m<x.e.xs.length:=by have:=HKX.out;omega
       have lm2:(m:Int)<(x.e.xs.length:Int):=by omega
       have hxx:=HX2.out;have p9:=p6 m hmx;obtain⟨kg,hkg,p10⟩:=p7 m hml;have hbn:x.e.xs[m]!<n:=HXJ.out _ (by rw[getElem!_pos x.e.xs m hmx];exact List.getElem_mem hmx);have hkl:x.e.kept[m]!<L:=HKY.out _ (by rw[getElem!_pos x.e.kept m hml];exact List.getElem_mem hml);obtain⟨g2,gc2,hg2,hgc2,hgm2⟩:=owns_block p8 (by omega);have HSU:Hid (oM B a2 x dl (m+1)=(oM B a2 x dl m).set (x.e.kept[m]!) (aH B (a2+8*x.e.xs[m]!) 8)):=tZ B a2 x dl m;have hcut:=SK.out _ hbn;rw[hg2]at p3;have p8':=p8;rw[hg2]at p8';have p11:wr.frozen? ⟨g2,x.e.kept[m]!,none⟩=false:=p8'.frozenAt _;have p12:∃u,wr.cell? ⟨g2,x.e.kept[m]!,none⟩=some u:=by
        rw[p8'.cellAt _ (by omega)];have h1:=p8'.1;exact⟨_,List.getElem?_eq_getElem (by omega)⟩
       obtain⟨u0,p12⟩:=p12;have HNX:Hid (∃ds2,kR W (wr.setCell ⟨g2,x.e.kept[m]!,none⟩ (.string (aH B (a2+8*x.e.xs[m]!) 8))).drew B a2 xs ofs j ds2 (some (m+1))):=by
        refine HST.out _ _ _ _ g2 HVm.out (((Same.refl [g2] wr).set _ _ _ (by simp)).drew) (by rw[hg2];rfl) ?_;rw[HSU.out,List.map_set,hg2];exact((p8'.stored (x.e.kept[m]!) (.string (aH B (a2+8*x.e.xs[m]!) 8))).1).drew
       have hkk:(x.kg.map fun g=>(⟨g,0,none⟩:Addr))=some ⟨kg,0,none⟩:=by rw[hkg];rfl
       rw[hkk]at p5;clear p6 p7 p8 p8' HVm HSU hkk hkg hg2;generalize x.e.xs[m]! = b at *;generalize x.e.kept[m]! = kk at *;generalize aH B (a2+8*b) 8=t at *;have m1:IntKind.i64.wrap (8*(b:Int))=8*(b:Int):=IntWalk.i64_in _ (by omega);have m2:IntKind.i64.wrap (8*(b:Int)+8)=8*(b:Int)+8:=IntWalk.i64_in _ (by omega);have n1:(0:Int)<=8*(b:Int):=by omega
       have n2:8*(b:Int)<=8*(b:Int)+8:=by omega
       have n3:(8*(b:Int)).toNat=8*b:=by omega
       have n4:(8*(b:Int)+8).toNat=8*b+8:=by omega
       have n5:8*(b:Int)+8<=(tx.size:Int):=by have:=HTZ.out;omega
       have lk:(kk:Int)<(L:Int):=by omega
       have lk2:(0:Int)<=(kk:Int):=by omega
       go_wp2_with fail
       refine aU 29 (by kernel_rfl) (by kernel_rfl) ?_;simp only[List.take_succ_cons,List.take_zero,List.drop_succ_cons,List.drop_zero]
       repeat still_step
       refine wpStill_nil ?_;obtain⟨ds2,hF2⟩:=HNX.out;have HFF:=hid hF2;clear HNX hF2
       go_wp2
       go_roundw
       case rel=>exact⟨m+1,ds2,by go_num,by omega,HFF.out⟩
       case measure=>simp[intOf];omega
      ·have lm:(x.e.kept.length:Int)<=(m:Int):=by omega
       have em:m=x.e.kept.length:=by omega
       have HNX:=HEN.out _ _ (by have:=HVm.out;rw[em]at this;exact this);have XW:Hid (kR W wr B a2 xs ofs (j+1) ds' none):=HNX;clear em HNX p3 p4 p6 p7 p8
       go_wp2_with fail
       go_roundw
       case rel=>exact⟨j+1,ds',by go_num,by omega,XW.out⟩
       case measure=>simp[intOf];omega
   ·have l1:(xs.length:Int)<=(j:Int):=by omega
    have ej:j=xs.length:=by omega
    rw[ej]at HV;clear ej
    go_wp2_with fail
    go_meet
    case rel=>exact⟨ds,HV⟩
 case rest=>
  obtain⟨ds,HD⟩:=hcut;refine ‹∀(a:Act)(w:World),Code.wp prog _ _ a w->_› _ _ ?_;exact oP.out _ _ _ _ _ _ _ _ _ _ _ _ _ _ _ _ _ _ _ _ _ _ _ _ _ _ _ _ _ _ _ _ _ _ _ _ _ _ _ _ _ _ _ _ _ _ _ _ _ _ _ _ _ _ _ _ _ _ _ _ _ _ _ _ _ _ _ _ _ _ _ _ _ _ _ _ _ _ _ _ _ _ _ _ _ _ _ _ _ _ _ _ _ _ _ _ _ _ _ _ _ _ _ _ _ _ _ _ _ _ _ _ _ _ _ _ _ _ _ _ _ _ _ _ _ _ _ _ _ _ _ _ _ _ _ _ _ _ _ _ _ _ _ _ _ _ _ _ _ _ _ _ _ _ _ _ _ _ _ _ _ _ _ _ _ _ _ _ _ _ _ _ _ _ _ _ _ _ _ _ _ _ _ _ _ _ _ _ _ _ _ _ _ _ _ _ _ _ _ _ _ _ _ _ _ _ _ _ _ _ _ _ _ _ _ _ _ _ _ _ _ _ _ _ _ _ _ _ _ _ _ _ _ _ _ _ _ _ _ _ _ _ _ _ _ _ _ _ _ _ _ _ _ _ _ _ _ _ _ _ _ _ _ _ _ _ _ _ _ _ _ _ _ _ _ _ _ _ _ _ _ _ _ _ _ _ _ _ _ _ _ _ _ _ _ _ _ _ _ _ _ _ _ _ _ _ _ _ _ _ _ _ _ _ _ _ _ _ _ _ _ _ _ _ _ _ ds HD
end
end Go.Proofs.YtpddgdjocffgdaaGreat
