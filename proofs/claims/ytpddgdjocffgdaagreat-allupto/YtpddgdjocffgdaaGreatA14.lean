/- Packed: see the last text. -/
import Derived.Test.YtpddgdjocffgdaaGreatA12
import Derived.StillTail
import Derived.Deep.RegionHeld3
namespace Go.Proofs.YtpddgdjocffgdaaGreat
open Go.Proofs.Tryz
set_option linter.unusedVariables false
set_option linter.unusedSimpArgs false
set_option linter.unusedSectionVars false
set_option maxHeartbeats 16000000
set_option maxRecDepth 100000
section
open Go.RowKit Go.Sort
variable [DecidableEq aN] [Inhabited aN] [Inhabited aF] [Inhabited ay]
theorem KJ(a b:ByteArray):(a.toList == b.toList)=decide (a=b):=by
 rw[Bool.eq_iff_iff,beq_iff_eq,decide_eq_true_iff,ByteArray.toList_eq,ByteArray.toList_eq]
 constructor
 ·intro e;apply ByteArray.ext;exact Array.toList_inj.1 e
 ·intro e;rw[e]
def eF(B:List UInt8)(r:aQ)(at_:Nat)(n:Nat)(bd:Option Nat):Option Nat:=(List.range n).foldl (fun b k=>aX b (decide (aH B (at_+8*k) 8=r.blk k)) (at_+8*k)) bd
theorem qF(B:List UInt8)(r:aQ)(at_:Nat)(n:Nat)(bd:Option Nat):eF B r at_ (n+1) bd=aX (eF B r at_ n bd) (decide (aH B (at_+8*n) 8=r.blk n)) (at_+8*n):=by
 unfold eF;rw[List.range_succ,List.foldl_append];rfl
theorem JM(u3 u4 u5 u6 u7 u8 u9 Ja Jb Jc Jd Je Jf Jg Jh Ji Jj Jk Jl Jm Jn Jo Jp Jq Jr Js Jt Ju Jv Jw Jx Jy Jz Ka Kb Kc Kd Ke Kf Kg Kh Ki Kj Kk Kl Km Kn Ko Kp Kq Kr Ks Kt Ku Kv Kw Kx Ky Kz Qa Qb Qc Qd Qe Qf Qg Qh Qi Qj Qk Ql Qm Qn Qo Qp Qq Qr Qs Qt Qu Qv Qw Qx Qy Qz Ua Ub Uc Ud Ue Uf Ug Uh Ui Uj Uk Ul Um Un Uo Up Uq Ur Us Ut Uu Uv Uw Ux Uy Uz Va Vb Vc Vd Ve Vf Vg Vh Vi Vj Vk Vl Vm Vn Vo Vp Vq Vr Vs Vt Vu Vv Vw Vx Vy Vz Xa Xb Xc Xd Xe Xf Xg Xh Xi Xj Xk Xl Xm Xn Xo Xp Xq Xr Xs Xt Xu Xv Xw Xx Xy Xz Ya Yb Yc Yd Ye Yf Yg Yh Yi Yj Yk Yl Ym Yn Yo Yp Yq Yr Ys Yt Yu Yv Yw Yx Yy Yz Za Zb Zc Zd Ze Zf Zg Zh Zi Zj Zk Zl Zm Zn Zo Zp Zq Zr Zs Zt Zu Zv Zw Zx Zy Zz Ga Gb Gc Gd Ge Gf Gg Gh Gi Gj Gk Gl Gm Gn Gp Gq Gr Gs Gt Gu Gv Gw Gx Gy Gz Fa Fb Fc Fd Fe Ff Fg Fh Fi Fj Fk Fl Fm Fo Fp Fq Fr Fs Ft Fu Fv Fw Fx Fy Fz Ra Rb Rc Rd Rf Rg Rh Ri Rj Rk Rl Rm Rn Ro Rp Rq Rr Rs Rt Ru Rv Rw Rx Ry Rz Ma Mb Mc Md Me Mf Mg Mh Mi Mj Mk Ml Mm Mn Mo Mp Mq Mr Ms Mt Mu Mv Mw Mx My Mz Da Db Dc Dd De Df Dg Dh Di Dj Dk:Value)(w0 w W:World)(sb:Nat)(lv:Value)(B:List UInt8)(r:aQ)(a2:Nat)(bd:Option Nat)(S:List Nat)(hl:B.length<=140737488355328)(h:bY w0 W sb B (a2+8*r.n) bd)(hle:a2+8*r.n<=B.length)(hS:Same (sb::S) w W)(hR:aO W r)(hsb:sb∉r.foot)(hd:∀v∈r.af,(v.bC=⟨#[]⟩->v.blocks.length<=v.data.length)/\(v.bC≠⟨#[]⟩->∀x∈v.kept,x<v.data.length)) :
 Code.wp prog (bI 6 (f112.body.getD .skip)) (bodyPost prog f112 fun e w'=>e=.returned (.tuple #[])/\bY w0 w' sb B (a2+8*r.n) (aX (eF B r a2 r.n bd) (decide (a2+8*r.n=B.length)) (a2+8*r.n))/\Same (sb::S) w w'/\aO w' r) { tmps:=#[.pointer (some ⟨sb,0,none⟩),lv,.pointer (some ⟨r.rb,0,none⟩),u3,u4,u5,u6,u7,.int .i64 a2,.string (aH B a2 (8*r.n)),Ja,Jb,Jc,Jd,Je,Jf,Jg,Jh,Ji,Jj,Jk,Jl,Jm,Jn,Jo,Jp,Jq,Jr,Js,Jt,Ju,Jv,Jw,Jx,Jy,Jz,Ka,Kb,Kc,Kd,Ke,Kf,Kg,Kh,Ki,Kj,Kk,Kl,Km,Kn,Ko,Kp,Kq,Kr,Ks,Kt,Ku,Kv,Kw,Kx,Ky,Kz,Qa,Qb,Qc,Qd,Qe,Qf,Qg,Qh,Qi,Qj,Qk,Ql,Qm,Qn,Qo,Qp,Qq,Qr,Qs,Qt,Qu,Qv,Qw,Qx,Qy,Qz,Ua,Ub,Uc,Ud,Ue,Uf,Ug,Uh,Ui,Uj,Uk,Ul,Um,Un,Uo,Up,Uq,Ur,Us,Ut,Uu,Uv,Uw,Ux,Uy,Uz,Va,Vb,Vc,Vd,Ve,Vf,Vg,Vh,Vi,Vj,Vk,Vl,Vm,Vn,Vo,Vp,Vq,Vr,Vs,Vt,Vu,Vv,Vw,Vx,Vy,Vz,Xa,Xb,Xc,Xd,Xe,Xf,Xg,Xh,Xi,Xj,Xk,Xl,Xm,Xn,Xo,Xp,Xq,Xr,Xs,Xt,Xu,Xv,Xw,Xx,Xy,Xz,Ya,Yb,Yc,Yd,Ye,Yf,Yg,Yh,Yi,Yj,Yk,Yl,Ym,Yn,Yo,Yp,Yq,Yr,Ys,Yt,Yu,Yv,Yw,Yx,Yy,Yz,Za,Zb,Zc,Zd,Ze,Zf,Zg,Zh,Zi,Zj,Zk,Zl,Zm,Zn,Zo,Zp,Zq,Zr,Zs,Zt,Zu,Zv,Zw,Zx,Zy,Zz,Ga,Gb,Gc,Gd,Ge,Gf,Gg,Gh,Gi,Gj,Gk,Gl,Gm,Gn,Gp,Gq,Gr,Gs,Gt,Gu,Gv,Gw,Gx,Gy,Gz,Fa,Fb,Fc,Fd,Fe,Ff,Fg,Fh,Fi,Fj,Fk,Fl,Fm,Fo,Fp,Fq,Fr,Fs,Ft,Fu,Fv,Fw,Fx,Fy,Fz,Ra,Rb,Rc,Rd,Rf,Rg,Rh,Ri,Rj,Rk,Rl,Rm,Rn,Ro,Rp,Rq,Rr,Rs,Rt,Ru,Rv,Rw,Rx,Ry,Rz,Ma,Mb,Mc,Md,Me,Mf,Mg,Mh,Mi,Mj,Mk,Ml,Mm,Mn,Mo,Mp,Mq,Mr,Ms,Mt,Mu,Mv,Mw,Mx,My,Mz,Da,Db,Dc,Dd,De,Df,Dg,Dh,Di,Dj,Dk],defers:=[] } W:=by
 generalize hC:bI 6 (f112.body.getD .skip)=C
 delta f112 at hC
 dsimp only[bI,Option.getD]at hC;subst hC;have hrn:=hR.n;have HI0:Hid (bY w0 W sb B (a2+8*r.n) bd/\aO W r/\Same (sb::S) w W):=⟨h,hR,hS⟩
 have htz:(aH B a2 (8*r.n)).size=8*r.n:=by
  show((B.drop a2).take (8*r.n)).toArray.size=_;rw[List.size_toArray,List.length_take,List.length_drop];omega
 have SK:Hid (∀k,k<r.n->(aH B a2 (8*r.n)).extract (8*k) (8*k+8)=aH B (a2+8*k) 8):=fun k hk=>by
  apply ByteArray.ext;simp only[aH,ByteArray.data_extract,List.extract_toArray,List.extract_eq_take_drop];rw[List.drop_take,List.take_take,List.drop_drop]
  congr 2
  omega
 generalize aH B a2 (8*r.n)=tx at *;have HTZ:Hid (tx.size=8*r.n):=htz;clear h hR hS htz
 go_wp2_with fail
 go_loopw [16] (fun i wr=>∃k:Nat,k<=r.n/\i=.int .i64 k/\Hid (bY w0 wr sb B (a2+8*r.n) (eF B r a2 k bd)/\aO wr r/\Same (sb::S) w wr)) (fun i _=>r.n-(intOf i).toNat)
 case atStart=>exact⟨0,Nat.zero_le _,rfl,HI0.out⟩
 case round=>
  obtain⟨k,hk,rfl,HK⟩:=hrel;obtain⟨cap,hp,_,_⟩:=HK.out.2.1.pool;have c0:wr.cell? ⟨r.rb,0,none⟩=some (.int .i64 (r.n:Int)):=hp.cell? 0;clear hp;by_cases hkl:k<r.n
  ·have l1:(k:Int)<(r.n:Int):=by omega
   have hB:=rE r k wr HK.out.2.1 hd;have HSU:Hid (eF B r a2 (k+1) bd=aX (eF B r a2 k bd) (decide (aH B (a2+8*k) 8=r.blk k)) (a2+8*k)):=qF B r a2 k bd;have hcut:=SK.out k hkl;have m1:IntKind.i64.wrap (8*(k:Int))=((8*k:Nat):Int):=by rw[IntWalk.i64_in _ (by omega)];omega
   have m2:IntKind.i64.wrap (((8*k:Nat):Int)+8)=((8*k+8:Nat):Int):=by rw[IntWalk.i64_in _ (by omega)];omega
   have m3:IntKind.i64.wrap ((a2:Int)+((8*k:Nat):Int))=((a2+8*k:Nat):Int):=by rw[IntWalk.i64_in _ (by omega)];omega
   have n1:(0:Int)<=8*(k:Int):=by omega
   have n2:8*(k:Int)<=8*(k:Int)+8:=by omega
   have n3:(8*(k:Int)).toNat=8*k:=by omega
   have n4:(8*(k:Int)+8).toNat=8*k+8:=by omega
   have n5:8*(k:Int)+8<=(tx.size:Int):=by have:=HTZ.out;omega
   go_wp2_with fail
   refine hB.mono ?_;rintro e w1 ⟨rfl,S1⟩;generalize r.blk k=bk at *;have HK1:Hid (bY w0 w1 sb B (a2+8*r.n) (eF B r a2 k bd)/\aO w1 r/\Same (sb::S) w w1):=⟨HK.out.1.next S1 (by simp) (by simp),HK.out.2.1.uy S1 (by simp),HK.out.2.2.step S1 (by simp)⟩
   have hM:=fun ok=>cO w0 w1 sb B (a2+8*r.n) (eF B r a2 k bd) ok (a2+8*k) ((a2+8*k:Nat):Int) rfl HK1.out.1
   clear hB S1 HK c0
   go_wp2_with fail
   refine(hM _).mono ?_;rintro e w2 ⟨rfl,A2,S2⟩;have HF:Hid (bY w0 w2 sb B (a2+8*r.n) (eF B r a2 (k+1) bd)/\aO w2 r/\Same (sb::S) w w2):=by
    refine⟨?_,HK1.out.2.1.uy S2 (fun q hq=>by simp;intro e;subst e;exact hsb hq),HK1.out.2.2.step S2 (fun q hq _=>by simp at hq;simp[hq])⟩;rw[HSU.out];exact A2.iJ (KJ _ _)
   clear A2 S2 hM HK1
   go_wp2
   go_roundw
   case rel=>exact⟨k+1,by omega,by go_num,HF.out⟩
   case measure=>simp[intOf];omega
  ·have l1:(r.n:Int)<=(k:Int):=by omega
   have ek:k=r.n:=by omega
   rw[ek]at HK;have hsz:(⟨B.toArray⟩:ByteArray).size=B.length:=by simp[ByteArray.size]
   have d0:wr.cell? ⟨sb,0,none⟩=some (.string ⟨B.toArray⟩):=HK.out.1.cell.cell? 0;have d1:wr.cell? ⟨sb,1,none⟩=some (.int .i64 ((a2+8*r.n:Nat):Int)):=HK.out.1.cell.cell? 1;generalize hat:a2+8*r.n=at_ at *;have hM:=fun ok=>cO w0 wr.drew sb B at_ (eF B r a2 r.n bd) ok at_ (at_:Int) rfl (HK.out.1.next ((Same.refl [] wr).drew) (by simp) (by simp))
   have HRD:Hid (∀w',Same [sb] wr.drew w'->Same (sb::S) w w'/\aO w' r):=fun w' hw=>⟨(HK.out.2.2.drew).step hw (fun k hk _=>by simp at hk;simp[hk]),(HK.out.2.1.uy ((Same.refl [] wr).drew) (by simp)).uy hw (fun q hq=>by simp;intro e;subst e;exact hsb hq)⟩
   have HAT:Hid (a2+8*r.n=at_):=hat;clear ek hat
   go_wp2_with fail
   refine aU 15 (by kernel_rfl) (by kernel_rfl) ?_;simp only[List.take_succ_cons,List.take_zero,List.drop_succ_cons,List.drop_zero]
   repeat still_step
   refine wpStill_nil ?_
   go_wp2_with fail
   refine(hM _).mono ?_;rintro e w1 ⟨rfl,A1,S1⟩;have HF:Hid (bY w0 w1 sb B at_ (aX (eF B r a2 r.n bd) (decide (at_=B.length)) at_)/\Same (sb::S) w w1/\aO w1 r):=⟨A1.iJ (by first|rfl|(rw[Bool.eq_iff_iff];simp<;>omega)),HRD.out _ S1⟩
   clear A1 S1 hM HRD HK
   go_wp2
   go_end0
   exact⟨rfl,by rw[HAT.out];exact HF.out⟩
end
section
def wX(P:Program)(o:Oper)(Q:Exit->Act->World->Prop):Exit->Act->World->Prop
 | .normal,a,w=>o.wp P a w (fun a' w'=>Q .normal a' w') Q
 | .exit i,a,w=>Q (.exit i) a w
 | .goto l,a,w=>Q (.goto l) a w
 | .ret,a,w=>Q .ret a w
 | .panic c,a,w=>Q (.panic c) a w
 | .outgrown,a,w=>Q .outgrown a w
theorem Wp{P:Program}{o o':Oper}{Q:Exit->Act->World->Prop}{a:Act}{w:World}{K:Act->World->Prop}(h:o.wp P a w K (wX P o' Q)):o.wp P a w K Q:=by
 unfold Oper.wp at *;generalize (execOp a.eval o).run P w=r at *;cases r with
 | ok n w'=>
  cases n<;>simp only[Oper.upon]at h ⊢
  case enter f args=>exact h.mono fun e w'' he=>by cases e<;>exact he
  all_goals exact h
 | halt x w'=>cases x<;>simp only[Oper.upon]at h ⊢<;>exact h
def TA(l:List Oper)(n:Nat):Bool:=
 decide (l.length=n+1) && Region.sinkB .any l.toArray n && (List.range (n+1)).all fun i=>
  match l[i]? with
  | none=>true
  | some o=>o.after.all (fun e=>decide (e.on<i)) && (match o.guard with|none=>true|some (j,_)=>decide (j<n) && decide (i<n))
end
section
variable {P : Program} {l : List Oper} {n : Nat} {o : Oper} {Q : Exit → Act → World → Prop}
theorem nG(listed:Array Bool)(i:Nat)(d b:Bool)(h:i<listed.size):(listed.push b).getD i d=listed.getD i d:=by
 simp[Array.getElem?_push,Nat.ne_of_lt h]
theorem QW(listed:Array Bool)(d b:Bool):(listed.push b).getD listed.size d=b:=by
 simp[Array.getElem?_push]
theorem U8(listed:Array Bool)(i:Nat)(b c:Bool)(h:i<listed.size):(listed.push b).setIfInBounds i c=(listed.setIfInBounds i c).push b:=by
 apply Array.ext_getElem?;intro j;rw[Array.getElem?_setIfInBounds,Array.getElem?_push,Array.getElem?_push,Array.getElem?_setIfInBounds,Array.size_setIfInBounds,Array.size_push];by_cases hij:i=j
 ·subst hij;rw[if_pos rfl,if_pos rfl,if_pos (by omega),if_pos h,if_neg (by omega)]
 ·rw[if_neg hij,if_neg hij]
theorem tN(hl:l.length=n+1)(i:Nat)(hi:i<n):(l.take n).toArray[i]? = l.toArray[i]?:=by
 simp[List.getElem?_take,hi]
theorem JZ(hl:l.length=n+1){o':Oper}(hg:∀j b,o'.guard=some (j,b)->j<n)(t:Array Value):Region.wanted o' (yielded (l.take n).toArray t)=Region.wanted o' (yielded l.toArray t):=by
 unfold Region.wanted;cases h:o'.guard with
 | none=>rfl
 | some p=>
  obtain⟨j,b⟩:=p;simp only;unfold yielded;rw[tN hl j (hg j b h)]
theorem NW(hl:l.length=n+1)(hs:Region.sinkB .any l.toArray n=true)(hd:∀i o',i<=n->l.toArray[i]? = some o'->∀e∈o'.after,e.on<i)(hg:∀i o' j b,i<=n->l.toArray[i]? = some o'->o'.guard=some (j,b)->j<n/\i<n)(ho:l.toArray[n]? = some o) :
 ∀(f:Nat)(listed:Array Bool)(a:Act)(w:World),listed.size=n->HeadInv .any l.toArray n (listed.push false)->wpAny P .any (l.take n).toArray (wX P o Q) f listed a w->wpAny P .any l.toArray Q (f+1) (listed.push false) a w:=by
 have hrd:∀(listed:Array Bool) i,listed.size=n->i<n->(i∈Region.ready .any l.toArray (listed.push false)↔i∈Region.ready .any (l.take n).toArray listed):=fun listed i hz hi=>by
  rw[mem_ready,mem_ready,nG _ _ _ _ (by omega),tN hl i hi]
  constructor
  ·rintro ⟨h1,o',h2,h3⟩;refine⟨h1,o',h2,fun e he hb=>?_⟩;have:=h3 e he hb
   rwa [nG _ _ _ _ (by have:=hd i o' (by omega) h2 e he;omega)]at this
  ·rintro ⟨h1,o',h2,h3⟩;refine⟨h1,o',h2,fun e he hb=>?_⟩;rw[nG _ _ _ _ (by have:=hd i o' (by omega) h2 e he;omega)];exact h3 e he hb
 have hall:∀(listed:Array Bool),listed.size=n->Region.ready .any (l.take n).toArray listed=[]->∀i,i<n->listed.getD i false=true:=fun listed hz hr i=>by
  induction i using Nat.strongRecOn with
  | _ i ih=>
   intro hi;cases hq:listed.getD i false with
   | true=>rfl
   | false=>
    have hm:i∈Region.ready .any (l.take n).toArray listed:=by
     rw[mem_ready,tN hl i hi];refine⟨getD_in (by omega) hq,l[i]'(by omega),by simp,fun e he hb=>?_⟩;have:=hd i _ (by omega) (show l.toArray[i]? = some (l[i]'(by omega)) by simp) e he;exact ih e.on this (by omega)
    rw[hr]at hm;cases hm
 have hnr:∀(listed:Array Bool),listed.size=n->(∀i,i<n->listed.getD i false=true)->n∈Region.ready .any l.toArray (listed.push false):=fun listed hz h=>by
  rw[mem_ready];have e1:(listed.push false).getD n true=false:=by
   have:=QW listed true false
   rwa [hz]at this
  refine⟨e1,o,ho,fun e he _=>?_⟩;have:=hd n o (Nat.le_refl _) ho e he;rw[nG _ _ _ _ (by omega)];exact h e.on this
 have hend:∀(listed:Array Bool),listed.size=n->(∀i,i<n->listed.getD i false=true)->Region.ready .any l.toArray ((listed.push false).setIfInBounds n true)=[]:=fun listed hz h=>by
  rw[List.eq_nil_iff_forall_not_mem];intro j hj;obtain⟨h1,o',h2,_⟩:=mem_ready.1 hj;have hjl:j<l.length:=by
   have:=(Array.getElem?_eq_some_iff.1 h2).1;simpa using this
  by_cases e:j=n
  ·subst e;have hjs:j<(listed.push false).size:=by rw[Array.size_push];omega
   have h3:((listed.push false).setIfInBounds j true).getD j true=true:=by
    rw[Array.getD_eq_getD_getElem?,Array.getElem?_setIfInBounds,if_pos rfl,if_pos hjs];rfl
   rw[h3]at h1;cases h1
  ·rw[getD_set_ne true (fun e'=>e e'.symm),nG _ _ _ _ (by omega)]at h1;have:=h j (by omega);rw[getD_both h1]at this;cases this
 have hlast:∀(f:Nat)(listed:Array Bool)(a:Act)(w:World),listed.size=n->(∀i,i<n->listed.getD i false=true)->o.wp P a w (fun a' w'=>Q .normal a' w') Q->wpOp P l.toArray Q n (wpAny P .any l.toArray Q f ((listed.push false).setIfInBounds n true)) a w:=fun f listed a w hz h h'=>by
  unfold wpOp;simp only[ho];have hw':Region.wanted o (yielded l.toArray a.tmps)=true:=by
   unfold Region.wanted;cases h:o.guard with
   | none=>rfl
   | some p=>have:=(hg n o p.1 p.2 (Nat.le_refl _) ho h).2;omega
  rw[if_pos hw'];refine Or.inl (Oper.wp_mono (fun a' w' hq=>?_) h');have he:=hend listed hz h;cases f with
  | zero=>exact⟨he,hq⟩
  | succ f=>exact⟨fun _=>hq,fun i hi=>by rw[he]at hi;cases hi⟩
 intro f
 induction f with
 | zero=>
  intro listed a w hz inv h;have ha:=hall listed hz h.1;have hn:=hnr listed hz ha;refine⟨fun h0=>(by rw[h0]at hn;cases hn),fun i hi=>?_⟩;by_cases e:i<n
  ·have:=(hrd listed i hz e).1 hi;rw[h.1]at this;cases this
  ·have hin:i=n:=by
    obtain⟨_,o',h2,_⟩:=mem_ready.1 hi;have:=(Array.getElem?_eq_some_iff.1 h2).1;simp at this;omega
   subst hin;exact hlast 0 listed a w hz ha h.2
 | succ f ih=>
  intro listed a w hz inv h;refine⟨fun h0=>?_,fun i hi=>?_⟩
  ·exfalso
   by_cases hr:Region.ready .any (l.take n).toArray listed=[]
   ·have hn:=hnr listed hz (hall listed hz hr);rw[h0]at hn;cases hn
   ·obtain⟨j,hj⟩:=List.exists_mem_of_ne_nil _ hr;have hjn:j<n:=by
     obtain⟨_,o',h2,_⟩:=mem_ready.1 hj;have:=(Array.getElem?_eq_some_iff.1 h2).1;simp at this;omega
    have:=(hrd listed j hz hjn).2 hj;rw[h0]at this;cases this
  ·by_cases e:i<n
   ·have hi':=(hrd listed i hz e).1 hi;have h1:=h.2 i hi';have hinv:=inv.set hi e;rw[U8 _ _ _ _ (by omega)]at hinv ⊢;have hz':(listed.setIfInBounds i true).size=n:=by simpa using hz
    have hoi:l.toArray[i]? = some (l[i]'(by omega)):=by simp
    unfold wpOp at h1 ⊢;rw[tN hl i e]at h1;simp only[hoi]at h1 ⊢;rw[JZ hl (fun j b hgj=>(hg i _ j b (by omega) hoi hgj).1)]at h1;by_cases hwt:Region.wanted (l[i]'(by omega)) (yielded l.toArray a.tmps)=true
    ·rw[if_pos hwt]at h1 ⊢;rcases h1 with h1|⟨h1,h2⟩
     ·exact Or.inl (Oper.wp_mono (fun a' w' hq=>ih _ a' w' hz' hinv hq) (Wp h1))
     ·exact Or.inr ⟨h1,h2⟩
    ·rw[if_neg hwt]at h1 ⊢;exact ih _ _ _ hz' hinv h1
   ·have hin:i=n:=by
     obtain⟨_,o',h2,_⟩:=mem_ready.1 hi;have:=(Array.getElem?_eq_some_iff.1 h2).1;simp at this;omega
    subst hin;have hc:Region.chainB .any l.toArray i=true:=by
     unfold Region.chainB;rw[List.all_eq_true];intro t ht;have:=List.mem_range.1 ht;simp at this;simp;left;omega
    have ha:∀j,j<i->listed.getD j false=true:=fun j hj=>by
     cases hq:listed.getD j false with
     | true=>rfl
     | false=>
      exact absurd hi (tail_waits hs hc (by simp;omega) inv _ j rfl hj (by rw[nG _ _ _ _ (by omega)];exact getD_in (by omega) hq) i (Nat.le_refl _))
    have hr:Region.ready .any (l.take i).toArray listed=[]:=by
     rw[List.eq_nil_iff_forall_not_mem];intro j hj;obtain⟨h1,o',h2,_⟩:=mem_ready.1 hj;have hjl:=(Array.getElem?_eq_some_iff.1 h2).1;have:=ha j (by simp at hjl;omega);rw[getD_both h1]at this;cases this
    exact hlast (f+1) listed a w hz ha (h.1 hr)
theorem Ia{l:List Oper}{i:Nat}{oi:Oper}{r:List Oper}(h:l.drop i=oi::r):l.toArray[i]? = some oi:=by
 have e:(l.drop i)[0]? = l[i+0]?:=List.getElem?_drop;rw[h]at e;simpa using e.symm
theorem mr{P:Program}{o:Oper}{Q:Exit->Act->World->Prop}{a:Act}{w:World}(h:∀K:Act->World->Prop,Shut (∀a w,Q .normal a w->K a w)->o.wp P a w K Q):wX P o Q .normal a w:=
 h _ (fun _ _ h=>h)
theorem aj{md:Region.Mode}{S:World->Prop}{i:Nat}{oi:Oper}{r:List Oper}{v:Value}{fuel:Nat}{listed:Array Bool}{a:Act}{w:World}(hd:l.drop i=oi::r)
 (hs:Region.noSelect l.toArray=true) (hf:Region.free md l.toArray listed i=true) (hr:(Region.ready md l.toArray listed).contains i=true)
 (hQ:∀c a w,Q (.panic c) (a.put oi.dst v) w->Q (.panic c) a w) (hw:Region.wanted oi (yielded l.toArray a.tmps)=true) (hy:∀w,S w->(execOp a.eval oi).run P w=.ok (.value v) w) (hS:S w)
 (h:wpAnyH P md l.toArray Q S fuel (listed.setIfInBounds i true) (a.put oi.dst v) w):wpAnyH P md l.toArray Q S (fuel+1) listed a w:=
 wpAnyH_take (Ia hd) hs hf hr hQ (Or.inl ⟨hw,hy⟩) hS h
theorem lV{md:Region.Mode}{S:World->Prop}{i:Nat}{oi:Oper}{r:List Oper}{fuel:Nat}{listed:Array Bool}{a:Act}{w:World}(hd:l.drop i=oi::r)(hr:Region.ready md l.toArray listed=[i])
 (h:∀K':Act->World->Prop,Shut (∀a w,S w->(S w->wpAnyH P md l.toArray Q S fuel (listed.setIfInBounds i true) a w)->K' a w)->if Region.wanted oi (yielded l.toArray a.tmps)=true then Oper.wp P oi a w K' Q else K' (a.put oi.dst undef) w):wpAnyH P md l.toArray Q S (fuel+1) listed a w:=
 wpAnyH_ready hr (by simp) (AllReadyH.cons (Ia hd) h AllReadyH.nil)
theorem jH{S:World->Prop}{id:Nat}{a:Act}{w:World}(n:Nat)(hm:P.follows .mixedOrders=true)(hB:TA l n=true)(ho:l.drop n=[o])(hS:S w.drew)
 (h':S w.drew->wpAnyH P .any (l.take n).toArray (wX P o Q) S n (Array.replicate n false) a w.drew):(Code.region id l.toArray true).wp P Q a w:=by
 unfold TA at hB;simp only[Bool.and_eq_true,decide_eq_true_eq]at hB;obtain⟨⟨hl,hs⟩,hr⟩:=hB;rw[List.all_eq_true]at hr;have hd:∀i o',i<=n->l.toArray[i]? = some o'->(∀e∈o'.after,e.on<i)/\∀j b,o'.guard=some (j,b)->j<n/\i<n:=fun i o' hi hio=>by
  have h1:=hr i (List.mem_range.2 (by omega));have h2:l[i]? = some o':=by simpa using hio
  rw[h2]at h1;simp only[Bool.and_eq_true]at h1;refine⟨fun e he=>by have:=Array.all_eq_true'.1 h1.1 e he;simpa using this,fun j b hg=>?_⟩;have h3:=h1.2;rw[hg]at h3;simpa using h3
 refine wp_region_any hm ?_;have hsz:(l.take n).toArray.size=n:=by simp;omega
 have hsl:l.toArray.size=n+1:=by simp;omega
 have hrep:Array.replicate l.toArray.size false=(Array.replicate n false).push false:=by
  rw[hsl,Array.replicate_succ]
 rw[hrep,hsl];refine NW (P:=P) (Q:=Q) hl hs (fun i o' hi h=>(hd i o' hi h).1) (fun i o' j b hi h hg=>(hd i o' hi h).2 j b hg) (by have:=Ia ho;simpa using this) _ _ a _ (by simp) ?_ (wpAny_of_held _ _ _ _ (h' hS));rw[<-hrep];exact⟨by simp,fun j oj _ hl=>(by rw[getD_replicate_false]at hl;cases hl),fun t _ ht=>getD_in (by simpa using ht) (getD_replicate_false _ _)⟩
structure Box(p:Prop):Prop where
 out:p
theorem RU{P:Program}{ops:Array Oper}{w:World}{Q:Act->Prop}{a:Act}{o:Oper}{rest:List Oper}
 (h:∀K:Act->Prop,(∀a,Box (wpStill P ops w Q rest a)->K a)->if Region.wanted o (yielded ops a.tmps) then o.still P a w K else K (a.put o.dst undef)):wpStill P ops w Q (o::rest) a:=
 wpStill_step fun K hK=>h K fun a hb=>hK a hb.out
theorem iQ{P:Program}{ops:Array Oper}{w:World}{Q:Act->Prop}{a:Act}{o:Oper}{rest:List Oper}(h:Region.wanted o (yielded ops a.tmps)=false)(hr:Box (wpStill P ops w Q rest (a.put o.dst undef))):Box (wpStill P ops w Q (o::rest) a):=by
 refine⟨?_⟩;unfold wpStill;rw[if_neg (by rw[h];exact Bool.false_ne_true)];exact hr.out
theorem QK{P:Program}{ops:Array Oper}{w:World}{Q:Act->Prop}{a:Act}{o:Oper}{rest:List Oper}
 (h:∀K:Act->Prop,(∀a,wpStill P ops w Q rest a->K a)->if Region.wanted o (yielded ops a.tmps) then o.still P a w K else K (a.put o.dst undef)):Box (wpStill P ops w Q (o::rest) a):=⟨wpStill_step h⟩
end
end Go.Proofs.YtpddgdjocffgdaaGreat
