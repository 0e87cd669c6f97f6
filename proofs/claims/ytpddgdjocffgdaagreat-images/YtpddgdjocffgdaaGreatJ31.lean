/- The reference's reader of an image: the entries, one behind the other. The reference's reader of an image: behind the entries. The reference's reader of an image: ahead of the entries. The reference's reader of an image: the sum and the mark. -/
import Derived.Test.YtpddgdjocffgdaaGreatJ30
namespace Go.Proofs.YtpddgdjocffgdaaGreat
set_option linter.unusedVariables false
set_option linter.unusedSimpArgs false
set_option linter.unusedSectionVars false
set_option maxHeartbeats 16000000
set_option maxRecDepth 100000
section
open Go.RowKit Go.Sort
variable [DecidableEq Blk] [Inhabited Blk] [Inhabited Vol] [Inhabited PEnt] [Inhabited RVol] [Inhabited RRow]
theorem Tryz.infoPE:(Tryz.prog.info? 159).map (fun i=>(i.zero,i.size,i.bytes))=some (some (.pointer none),1,8):=by kernel_rfl
theorem Tryz.infoPV:(Tryz.prog.info? 115).map (fun i=>(i.zero,i.size,i.bytes))=some (some (.pointer none),1,8):=by kernel_rfl
def LRel(w0:World)(sb rb base:Nat)(B:List UInt8)(n count a0:Nat)(i:Nat)(lv uv:Value)(wr:World):Prop:=
 (∃q at_,rents B count n count [] a0=.error q/\ScAt w0 wr sb B at_ (some q)) \/
 (∃ps xs pv at_,ps.length=i/\rents B count n (count - i) ps at_=rents B count n count [] a0/\EntsOk count n ps/\xs.map (·.e)=ps.map PEnt.ref/\LInv w0 wr sb rb base B n at_ (ps.flatMap (·.xs)) xs xs xs lv uv pv)
theorem last_name{xs:List RRow}{ps:List PEnt}(h:xs.map (·.e)=ps.map PEnt.ref):xs.getLast?.map (·.e.name)=ps.getLast?.map (·.name):=by
 have h1:(xs.map (·.e)).getLast?.map (·.name)=(ps.map PEnt.ref).getLast?.map (·.name):=by rw[h]
 rw[List.getLast?_map,List.getLast?_map,Option.map_map,Option.map_map] at h1;exact h1
theorem ahead_is(ps:List PEnt):AheadIs (ps.getLast?.map (·.name)) ((ps.getLast?.map (·.name)).getD ⟨#[]⟩):=by
 cases h:ps.getLast?.map (·.name) with
 | none=>exact Or.inl ⟨rfl,rfl⟩
 | some t=>exact Or.inr rfl
theorem EntsOk.snoc{count bound:Nat}{ps:List PEnt}(h:EntsOk count bound ps){p:PEnt}(hp:PEntOk count bound (ps.flatMap (·.xs)) p)(hc:cmpB ((ps.getLast?.map (·.name)).getD ⟨#[]⟩) p.name < 0){B:List UInt8}(hb:1<=bound)(hc1:1<=count){at_ at1:Nat}(hr:rentry B count bound (ps.flatMap (·.xs)) ((ps.getLast?.map (·.name)).getD ⟨#[]⟩) at_=.ok (p,at1)):EntsOk count bound (ps++[p]):=by
 have:=rents_ok (B:=B) hb hc1 1 ps at_ (ps++[p]) at1 (by simp only[rents,hr]) h;exact this.1
theorem rents_err{B:List UInt8}{count bound c:Nat}{acc:List PEnt}{at_ q:Nat}(h:rentry B count bound (acc.flatMap (·.xs)) ((acc.getLast?.map (·.name)).getD ⟨#[]⟩) at_=.error q):rents B count bound (c+1) acc at_=.error q:=by
 rw[rents,h]
theorem rents_go{B:List UInt8}{count bound c:Nat}{acc:List PEnt}{at_:Nat}{p:PEnt}{at1:Nat}(h:rentry B count bound (acc.flatMap (·.xs)) ((acc.getLast?.map (·.name)).getD ⟨#[]⟩) at_=.ok (p,at1)):rents B count bound (c+1) acc at_=rents B count bound c (acc++[p]) at1:=by
 rw[rents,h]
theorem load_ents(u0 u1 u2 u3 u4 u5 u7 u8 Jc Jd Je Jf Jg Jh Ji Jj Jk Jl Jm Jn Jo Jp Jq Jr Js Jt Ju Jv Jw Jx Jy Jz Ka Kb Kc Kd Ke Kf Kg Kh Ki Kj Kk Kl Km Kn Ko Kp Kq Kr Ks Kt Ku Kv Kw Kx Ky Kz Qa Qb Qc Qd Qe Qf Qg Qh Qi Qj Qk Ql Qm Qn Qo Qp Qq Qr Qs Qt Qu Qv Qw Qx Qy Qz Ua Ub Uc Ud Ue Uf Ug Uh Ui Uj Uk Ul Um Un Uo Up Uq Ur Us Ut Uu Uv Uw Ux Uy Uz Va Vb Vc Vd Ve Vf Vg Vh Vi Vj Vk Vl Vm Vn Vo Vp Vq Vr Vs Vt Vu Vv Vw Vx Vy:Value)(w0 W:World)(sb rb base:Nat)(B:List UInt8)(n count a0:Nat)(hl:B.length<=140737488355328)(hn:1<=n/\n<=200)(hc:count<=20)(h0:LRel w0 sb rb base B n count a0 0 (.slice none 0 0) (.slice none 0 0) W)(R:Ending->World->Prop)
 (hrest:∀(u0 u1 u2 u3 u4 u5 u7 u8 Ja Jb Jc Jd Je Jf Jg Jh Ji Jj Jk Jl Jm Jn Jo Jp Jq Jr Js Jt Ju Jv Jw Jx Jy Jz Ka Kb Kc Kd Ke Kf Kg Kh Ki Kj Kk Kl Km Kn Ko Kp Kq Kr Ks Kt Ku Kv Kw Kx Ky Kz Qa Qb Qc Qd Qe Qf Qg Qh Qi Qj Qk Ql Qm Qn Qo Qp Qq Qr Qs Qt Qu Qv Qw Qx Qy Qz Ua Ub Uc Ud Ue Uf Ug Uh Ui Uj Uk Ul Um Un Uo Up Uq Ur Us Ut Uu Uv Uw Ux Uy Uz Va Vb Vc Vd Ve Vf Vg Vh Vi Vj Vk Vl Vm Vn Vo Vp Vq Vr Vs Vt Vu Vv Vw Vx Vy:Value) (wd:World) (i:Nat),Hid (i<=count/\LRel w0 sb rb base B n count a0 i Ja Jb wd/\(i < count->∃q at_,rents B count n count [] a0=.error q/\ScAt w0 wd sb B at_ (some q)))->Code.wp Tryz.prog (dropSeq 13 (Tryz.f65.body.getD .skip)) (bodyPost Tryz.prog Tryz.f65 R) { tmps:=#[u0,u1,u2,u3,u4,u5,.pointer (some ⟨sb,0,none⟩),u7,u8,.pointer (some ⟨rb,0,none⟩),.int .i64 (count:Int),Ja,Jb,Jc,Jd,Je,Jf,Jg,Jh,Ji,Jj,Jk,Jl,Jm,Jn,Jo,Jp,Jq,Jr,Js,Jt,Ju,Jv,Jw,Jx,Jy,Jz,Ka,Kb,Kc,Kd,Ke,Kf,Kg,Kh,Ki,Kj,Kk,Kl,Km,Kn,Ko,Kp,Kq,Kr,Ks,Kt,Ku,Kv,Kw,Kx,Ky,Kz,Qa,Qb,Qc,Qd,Qe,Qf,Qg,Qh,Qi,Qj,Qk,Ql,Qm,Qn,Qo,Qp,Qq,Qr,Qs,Qt,Qu,Qv,Qw,Qx,Qy,Qz,Ua,Ub,Uc,Ud,Ue,Uf,Ug,Uh,Ui,Uj,Uk,Ul,Um,Un,Uo,Up,Uq,Ur,Us,Ut,Uu,Uv,Uw,Ux,Uy,Uz,Va,Vb,Vc,Vd,Ve,Vf,Vg,Vh,Vi,Vj,Vk,Vl,Vm,Vn,Vo,Vp,Vq,Vr,Vs,Vt,Vu,Vv,Vw,Vx,Vy],defers:=[] } wd) :
 Code.wp Tryz.prog (dropSeq 12 (Tryz.f65.body.getD .skip)) (bodyPost Tryz.prog Tryz.f65 R) { tmps:=#[u0,u1,u2,u3,u4,u5,.pointer (some ⟨sb,0,none⟩),u7,u8,.pointer (some ⟨rb,0,none⟩),.int .i64 (count:Int),.slice none 0 0,.slice none 0 0,Jc,Jd,Je,Jf,Jg,Jh,Ji,Jj,Jk,Jl,Jm,Jn,Jo,Jp,Jq,Jr,Js,Jt,Ju,Jv,Jw,Jx,Jy,Jz,Ka,Kb,Kc,Kd,Ke,Kf,Kg,Kh,Ki,Kj,Kk,Kl,Km,Kn,Ko,Kp,Kq,Kr,Ks,Kt,Ku,Kv,Kw,Kx,Ky,Kz,Qa,Qb,Qc,Qd,Qe,Qf,Qg,Qh,Qi,Qj,Qk,Ql,Qm,Qn,Qo,Qp,Qq,Qr,Qs,Qt,Qu,Qv,Qw,Qx,Qy,Qz,Ua,Ub,Uc,Ud,Ue,Uf,Ug,Uh,Ui,Uj,Uk,Ul,Um,Un,Uo,Up,Uq,Ur,Us,Ut,Uu,Uv,Uw,Ux,Uy,Uz,Va,Vb,Vc,Vd,Ve,Vf,Vg,Vh,Vi,Vj,Vk,Vl,Vm,Vn,Vo,Vp,Vq,Vr,Vs,Vt,Vu,Vv,Vw,Vx,Vy],defers:=[] } W:=by
 generalize hC:dropSeq 12 (Tryz.f65.body.getD .skip)=C
 delta Tryz.f65 at hC
 dsimp only[dropSeq,Option.getD] at hC;subst hC;have HREST:=hid hrest;have HL0:Hid (LRel w0 sb rb base B n count a0 0 (.slice none 0 0) (.slice none 0 0) W):=h0;clear hrest h0;obtain⟨i0,hi,hz0,hz1,hz2⟩:=info_parts Tryz.infoPE;obtain⟨j0,ji,jz0,jz1,jz2⟩:=info_parts Tryz.infoPV
 go_upto_block 2 with fail
 go_cut [11,12,13,14,15] (fun lv uv _ _ _ wd=>∃i,Hid (i<=count/\LRel w0 sb rb base B n count a0 i lv uv wd/\(i < count->∃q at_,rents B count n count [] a0=.error q/\ScAt w0 wd sb B at_ (some q))))
 case first=>
  go_wp2_with fail
  go_loopw [11,12,13,14,15] (fun l u i _ _ wr=>∃(j:Nat) (lv uv:Value),lv=l/\uv=u/\i=.int .i64 j/\j<=count/\Hid (LRel w0 sb rb base B n count a0 j lv uv wr)) (fun _ _ i _ _ _=>count - (intOf i).toNat)
  case atStart=>exact⟨0,_,_,rfl,rfl,rfl,Nat.zero_le _,HL0.out⟩
  case round=>
   obtain⟨j,lv,uv,rfl,rfl,rfl,hj,HJ⟩:=hrel;by_cases hjl:j < count
   ·have l1:(j:Int) < (count:Int):=by omega
    rcases HJ.out with⟨q,at_,ht,hsc⟩|⟨ps,xs,pv,at_,hpl,ht,hok,hxs,hI⟩
    ·have hc2:wr.cell? ⟨sb,2,none⟩=some (.int .i64 (q:Int)):=hsc.cell.cell? 2;have lq:¬((q:Int) < 0):=by omega
     have lq2:(0:Int)<=(q:Int):=by omega
     have HE:Hid (∃i,Hid (i<=count/\LRel w0 sb rb base B n count a0 i lv uv wr/\(i < count->∃q at_,rents B count n count [] a0=.error q/\ScAt w0 wr sb B at_ (some q)))):=⟨j,hj,HJ.out,fun _=>⟨q,at_,ht,hsc⟩⟩
     clear HJ hsc ht
     go_wp2_with fail
     go_meet
     case rel=>exact HE.out
    ·have hc2:wr.cell? ⟨sb,2,none⟩=some (.int .i64 (-1)):=hI.sc.cell.cell? 2;have lq:(-1:Int) < 0:=by omega
     have hxl:xs.length=j:=by
      have:=congrArg List.length hxs;simpa [hpl] using this
     obtain⟨aa,lc,rfl⟩:=owns_form hI.l;obtain⟨pa,pc,rfl⟩:=owns_form hI.p;have hU:(ps.flatMap (·.xs)).length<=n:=nodup_le n _ hok.nodup (fun x hx=>by
      obtain⟨p,hp,hx⟩:=List.mem_flatMap.1 hx;exact ((hok.all p hp).xs.2 x hx).1)
     have hAh:=hI.ahead;have hEn:=scEntry_calls w0 wr sb base B at_ none (xs.getLast?.map (·.e.name)) aa xs.length lc n count (ps.flatMap (·.xs)) uv hl hI.sc hAh (by omega) hI.u hI.bl.1 hI.sbl (by omega) (by omega) (by omega);rw[last_name hxs] at hEn;have c0:wr.cell? ⟨rb,0,none⟩=some (.int .i64 (n:Int)):=hI.pool.cell? 0;have HMEM:Hid (∀w1 allv bv kv r,EntX w0 wr w1 sb base B uv allv bv kv r->w1.ownsRow base 159 1 (.slice aa xs.length lc) xs.length (xs.map fun x=>ptr x.eb)/\w1.ownsRow base 115 1 (.slice pa xs.length pc) xs.length (xs.map fun x=>ptr x.vb)/\At w1 rb 84 [.int .i64 (n:Int),.slice pa xs.length pc]/\(∃ce,At w1 (wr.heap.size+1) 163 ce/\ce[0]? = some (.pointer (some ⟨wr.heap.size,0,none⟩)))/\base<=w1.heap.size):=fun w1 allv bv kv r hE=>by
      have hs:∀q∈sb :: uv.ownBlock.toList,q=sb\/uv.ownBlock=some q:=fun q hq=>by
       rcases List.mem_cons.1 hq with e|e
       ·exact Or.inl e
       ·exact Or.inr (by simpa using e)
      refine⟨owns_but hI.l hE.same fun g hg hq=>?_,owns_but hI.p hE.same fun g hg hq=>?_,hE.same.at hI.pool fun hq=>?_,⟨_,hE.ent,rfl⟩,by have:=hE.same.size;have:=hI.bl.1;omega⟩
      ·rcases hs g hq with e|e
       ·have:=owns_row hI.l g hg;have:=hI.sbl;omega
       ·exact (hI.al g hg).2.1 e
      ·rcases hs g hq with e|e
       ·have:=owns_row hI.p g hg;have:=hI.sbl;omega
       ·exact (hI.au g e).2 hg
      ·rcases hs rb hq with e|e
       ·exact hI.rbl.2.1 e
       ·have:=owns_row hI.u rb e;have:=hI.rbl.1;omega
     have HAP:Hid (rb < base/\(∀g,(Value.slice aa xs.length lc).ownBlock=some g->base<=g/\g < wr.heap.size/\(Value.slice pa xs.length pc).ownBlock≠some g)/\(∀g,(Value.slice pa xs.length pc).ownBlock=some g->base<=g/\g < wr.heap.size)):=
      ⟨hI.rbl.1,fun g hg=>⟨owns_row hI.l g hg,(hI.l.lt g hg).2,(hI.al g hg).2.2⟩,fun g hg=>⟨owns_row hI.p g hg,(hI.p.lt g hg).2⟩⟩
     have HEND:Hid (∀w1 allv bv kv,EntX w0 wr w1 sb base B uv allv bv kv (entryX B (ps.getLast?.map (·.name)) n count (ps.flatMap (·.xs)) at_ none)->∀w2 w3 lv' pv',Same (Value.slice aa xs.length lc).ownBlock.toList w1 w2->w2.ownsRow base 159 1 lv' (xs.length+1) ((xs.map fun x=>ptr x.eb)++[.pointer (some ⟨wr.heap.size+1,0,none⟩)])->(lv'.ownBlock=(Value.slice aa xs.length lc).ownBlock\/∃g,lv'.ownBlock=some g/\w1.heap.size<=g)->Same (rb :: (Value.slice pa xs.length pc).ownBlock.toList) w2 w3->At w3 rb 84 [.int .i64 (n:Int),pv']->w3.ownsRow base 115 1 pv' (xs.length+1) ((xs.map fun x=>ptr x.vb)++[.pointer (some ⟨wr.heap.size,0,none⟩)])->(pv'.ownBlock=(Value.slice pa xs.length pc).ownBlock\/∃g,pv'.ownBlock=some g/\w2.heap.size<=g)->LRel w0 sb rb base B n count a0 (j+1) lv' allv w3):=fun w1 allv bv kv hE w2 w3 lv' pv' hS2 hl2 hb2 hS3 hP3 hl3 hb3=>by
      have hcj:count - j=(count - (j+1))+1:=by omega
      rw[hcj] at ht;cases hre:rentry B count n (ps.flatMap (·.xs)) ((ps.getLast?.map (·.name)).getD ⟨#[]⟩) at_ with
      | error q=>
       have hun:rents B count n count [] a0=.error q:=by rw[<-ht];exact rents_err hre
       have he:=entry_err (ahead_is ps) (by omega) (by omega) hre;have hsc:=hE.sc;rw[he] at hsc;refine Or.inl ⟨q,_,hun,(hsc.next hS2 (fun hq=>?_) (fun k hk=>?_)).next hS3 (fun hq=>?_) (fun k hk=>?_)⟩
       ·have:=owns_row hI.l sb (by simpa using hq);have:=hI.sbl;omega
       ·have:=owns_row hI.l k (by simpa using hk);have:=hI.bl.2;omega
       ·rcases List.mem_cons.1 hq with e|e
        ·exact hI.rbl.2.1 e.symm
        ·have:=owns_row hI.p sb (by simpa using e);have:=hI.sbl;omega
       ·rcases List.mem_cons.1 hk with e|e
        ·rw[e];exact hI.rbl.2.2
        ·have:=owns_row hI.p k (by simpa using e);have:=hI.bl.2;omega
      | ok pr=>
       obtain⟨p,at1⟩:=pr;have hun:rents B count n count [] a0=rents B count n (count - (j+1)) (ps++[p]) at1:=by rw[<-ht];exact rents_go hre
       have he:=entry_ok (ahead_is ps) (by omega) (by omega) hre;rw[he] at hE;obtain⟨hpo,hcm⟩:=rentry_ok (by omega) (by omega) hre;have hp1:1<=p.xs.length:=by
        by_cases hk:p.kind=0
        ·rw[(hpo.plain hk).1];exact hpo.size.1
        ·exact (hpo.pic hk).1
       obtain⟨x,hx1,hx2,hx3,hI1⟩:=hI.entry p hp1 hE;have hI2:=hI1.pushL (ls':=xs++[x]) hS2 (by
        rw[List.length_append,List.length_singleton,List.map_append];show w2.ownsRow _ _ _ _ _ (_++[ptr x.eb]);rw[hx2];exact hl2) hb2
       have hI3:=hI2.pushP (pl':=xs++[x]) hS3 hP3 (by
        rw[List.length_append,List.length_singleton,List.map_append];show w3.ownsRow _ _ _ _ _ (_++[ptr x.vb]);rw[hx3];exact hl3) hb3
       refine Or.inr ⟨ps++[p],xs++[x],pv',at1,by rw[List.length_append,hpl];rfl,hun.symm,hok.snoc hpo hcm (by omega) (by omega) hre,by rw[List.map_append,List.map_append,hxs];simp[hx1],?_⟩;rw[List.flatMap_append];simpa using hI3
     clear HJ hI ht hok hU hAh;have hxl20:xs.length<=20:=by omega
     have HXL:Hid (xs.length=j):=hxl;clear hpl hxs hxl
     go_wp2_with fail
     refine hEn.mono ?_;rintro e w1 ⟨allv,bv,kv,rfl,hE⟩;obtain⟨hl1,hp1,hP1,⟨ce,hce,hce0⟩,hbw⟩:=HMEM.out _ _ _ _ _ hE;have HND:=hid (HEND.out w1 allv bv kv hE);have hwsz:=hE.same.size;have HP1:Hid (w1.ownsRow base 115 1 (.slice pa xs.length pc) xs.length (xs.map fun x=>ptr x.vb)/\At w1 rb 84 [.int .i64 (n:Int),.slice pa xs.length pc]/\At w1 (wr.heap.size+1) 163 ce/\ce[0]? = some (.pointer (some ⟨wr.heap.size,0,none⟩))/\wr.heap.size<=w1.heap.size):=⟨hp1,hP1,hce,hce0,hwsz⟩
     obtain⟨eb,heb⟩:∃eb,wr.heap.size+1=eb:=⟨_,rfl⟩
     obtain⟨vb,hvb⟩:∃vb,wr.heap.size=vb:=⟨_,rfl⟩
     have HEB:Hid (wr.heap.size+1=eb/\wr.heap.size=vb):=⟨heb,hvb⟩
     rw[heb];clear hEn HMEM HEND hE hp1 hP1 hce hce0 hwsz heb hvb c0 hc2
     go_wp2_with (at_builtin;refine wpList_append_own_at _ rfl _ _ 158 rfl base 159 i0 (.pointer none) 1 8 Tryz.underlying158 hi hz0 hz1 hz2 rfl (by decide) _ _ _ rfl (hl1.alloc _) ⟨w1.heap.size,0,none⟩ 1 1 [.pointer (some ⟨eb,0,none⟩)] rfl rfl ?c1 ?c2 ?c3 ?c4 ?c5 ?_)
     case c1=>
      intro j u hj
      match j,hj with
      | 0,hj=>simp at hj;subst hj;simp[Addr.add]
     case c2=>intro u hu;simp at hu;subst hu;rfl
     case c3=>unfold maxLen;omega
     case c4=>omega
     case c5=>first|omega|(simp;omega)
     intro lv2 w2 hown2 hgrow2 _ hblk2;have S2:Same (Value.slice aa xs.length lc).ownBlock.toList w1 w2:=((Same.refl _ _).alloc _).grown hgrow2 (fun q hq _=>by simp[hq]);have hlo:∀q∈(Value.slice aa xs.length lc).ownBlock.toList,base<=q/\q < wr.heap.size/\(Value.slice pa xs.length pc).ownBlock≠some q:=fun q hq=>HAP.out.2.1 q (by simpa using hq)
     have O2:Hid (w2.ownsRow base 115 1 (.slice pa xs.length pc) xs.length (xs.map fun x=>ptr x.vb)/\At w2 rb 84 [.int .i64 (n:Int),.slice pa xs.length pc]/\At w2 eb 163 ce/\ce[0]? = some (.pointer (some ⟨vb,0,none⟩))):=by
      obtain⟨h1,h2,h3,h4,h5⟩:=HP1.out;obtain⟨e1,e2⟩:=HEB.out;refine⟨owns_but h1 S2 fun g hg hq=>(hlo g hq).2.2 hg,S2.at h2 fun hq=>?_,?_,by rw[<-e2];exact h4⟩
      ·have:=hlo rb hq;have:=HAP.out.1;omega
      ·rw[<-e1];exact S2.at h3 fun hq=>by have:=hlo _ hq;omega
     have HC3:Hid (∀w3,Same (Value.slice pa xs.length pc).ownBlock.toList w2 w3->At w3 rb 84 [.int .i64 (n:Int),.slice pa xs.length pc]/\w3.cell? ⟨eb,0,none⟩=some (.pointer (some ⟨vb,0,none⟩))):=fun w3 hw=>by
      have hpo:∀q∈(Value.slice pa xs.length pc).ownBlock.toList,base<=q/\q < wr.heap.size:=fun q hq=>HAP.out.2.2 q (by simpa using hq)
      obtain⟨e1,e2⟩:=HEB.out;refine⟨hw.at O2.out.2.1 fun hq=>?_,?_⟩
      ·have:=hpo rb hq;have:=HAP.out.1;omega
      ·rw[(hw.at O2.out.2.2.1 fun hq=>by have:=hpo eb hq;omega).cell?];exact O2.out.2.2.2
     have HN2:Hid (∀w3 pv',Same (rb :: (Value.slice pa xs.length pc).ownBlock.toList) w2 w3->At w3 rb 84 [.int .i64 (n:Int),pv']->w3.ownsRow base 115 1 pv' (xs.length+1) ((xs.map fun x=>ptr x.vb)++[.pointer (some ⟨vb,0,none⟩)])->(pv'.ownBlock=(Value.slice pa xs.length pc).ownBlock\/∃g,pv'.ownBlock=some g/\w2.heap.size<=g)->LRel w0 sb rb base B n count a0 (j+1) lv2 allv w3):=fun w3 pv' a1 a2 a3 a4=>by
      obtain⟨e1,e2⟩:=HEB.out;refine HND.out w2 w3 lv2 pv' S2 (by rw[e1];exact hown2) ?_ a1 a2 (by rw[e2];exact a3) a4;rcases hblk2 with e|e
      ·exact Or.inl e
      ·exact Or.inr ⟨_,e,by simp⟩
     have hb2:base<=w2.heap.size:=by have:=S2.size;omega
     have c1:w2.cell? ⟨rb,1,none⟩=some (.slice pa xs.length pc):=O2.out.2.1.cell? 1;have c2:w2.cell? ⟨eb,0,none⟩=some (.pointer (some ⟨vb,0,none⟩)):=by rw[O2.out.2.2.1.cell?];exact O2.out.2.2.2
     have bb1:rb < w2.heap.size:=O2.out.2.1.lt;have bb2:eb < w2.heap.size:=O2.out.2.2.1.lt;clear S2 hown2 hgrow2 hblk2 hlo HND HP1 hl1
     go_wp2_with fail
     refine wp_region_held_sink (S:=fun w'=>w'.cell? ⟨rb,1,none⟩=some (.slice pa xs.length pc)/\w'.cell? ⟨eb,0,none⟩=some (.pointer (some ⟨vb,0,none⟩))) 13 (by kernel_rfl) (by kernel_rfl) rfl ?hS1 (fun hHeld=>?_)
     case hS1=>exact⟨c1,c2⟩
     simp only[List.take_succ_cons,List.take_zero];refine wpAnyH_takeL (i:=0) (v:=?v1) rfl (by kernel_rfl) (by kernel_rfl) (by kernel_rfl) (fun _ _ _ h=>h) (by kernel_rfl) ?hy1 (by assumption) ?_
     case hy1=>intro w hSw;(try dsimp only at hSw);go_simp;try with_reducible rfl
     (try simp only[Act.put,List.setIfInBounds_toArray,List.set_cons_zero,List.set_cons_succ])
     refine wpAnyH_takeL (i:=1) (v:=?v2) rfl (by kernel_rfl) (by kernel_rfl) (by kernel_rfl) (fun _ _ _ h=>h) (by kernel_rfl) ?hy2 (by assumption) ?_
     case hy2=>intro w hSw;(try dsimp only at hSw);go_simp;try with_reducible rfl
     (try simp only[Act.put,List.setIfInBounds_toArray,List.set_cons_zero,List.set_cons_succ])
     refine wpAnyH_takeL (i:=2) (v:=?v3) rfl (by kernel_rfl) (by kernel_rfl) (by kernel_rfl) (fun _ _ _ h=>h) (by kernel_rfl) ?hy3 (by assumption) ?_
     case hy3=>intro w hSw;(try dsimp only at hSw);go_simp;try with_reducible rfl
     (try simp only[Act.put,List.setIfInBounds_toArray,List.set_cons_zero,List.set_cons_succ])
     refine wpAnyH_takeL (i:=3) (v:=?v4) rfl (by kernel_rfl) (by kernel_rfl) (by kernel_rfl) (fun _ _ _ h=>h) (by kernel_rfl) ?hy4 (by assumption) ?_
     case hy4=>intro w hSw;(try dsimp only at hSw);go_simp;try with_reducible rfl
     (try simp only[Act.put,List.setIfInBounds_toArray,List.set_cons_zero,List.set_cons_succ])
     refine wpAnyH_takeL (i:=4) (v:=?v5) rfl (by kernel_rfl) (by kernel_rfl) (by kernel_rfl) (fun _ _ _ h=>h) (by kernel_rfl) ?hy5 (by assumption) ?_
     case hy5=>intro w hSw;(try dsimp only at hSw);go_simp;try with_reducible rfl
     (try simp only[Act.put,List.setIfInBounds_toArray,List.set_cons_zero,List.set_cons_succ])
     refine wpAnyH_takeL (i:=5) (v:=?v6) rfl (by kernel_rfl) (by kernel_rfl) (by kernel_rfl) (fun _ _ _ h=>h) (by kernel_rfl) ?hy6 (by assumption) ?_
     case hy6=>intro w hSw;(try dsimp only at hSw);go_simp;try with_reducible rfl
     (try simp only[Act.put,List.setIfInBounds_toArray,List.set_cons_zero,List.set_cons_succ])
     refine wpAnyH_takeL (i:=6) (v:=?v7) rfl (by kernel_rfl) (by kernel_rfl) (by kernel_rfl) (fun _ _ _ h=>h) (by kernel_rfl) ?hy7 (by assumption) ?_
     case hy7=>intro w hSw;(try dsimp only at hSw);go_simp;try with_reducible rfl
     (try simp only[Act.put,List.setIfInBounds_toArray,List.set_cons_zero,List.set_cons_succ])
     refine wpAnyH_takeL (i:=7) (v:=?v8) rfl (by kernel_rfl) (by kernel_rfl) (by kernel_rfl) (fun _ _ _ h=>h) (by kernel_rfl) ?hy8 (by assumption) ?_
     case hy8=>intro w hSw;(try dsimp only at hSw);go_simp;try with_reducible rfl
     (try simp only[Act.put,List.setIfInBounds_toArray,List.set_cons_zero,List.set_cons_succ])
     refine wpAnyH_takeL (i:=8) (v:=?v9) rfl (by kernel_rfl) (by kernel_rfl) (by kernel_rfl) (fun _ _ _ h=>h) (by kernel_rfl) ?hy9 (by assumption) ?_
     case hy9=>intro w hSw;(try dsimp only at hSw);go_simp;try with_reducible rfl
     (try simp only[Act.put,List.setIfInBounds_toArray,List.set_cons_zero,List.set_cons_succ])
     refine wpAnyH_oneL (i:=9) rfl (by kernel_rfl) (fun K hK=>?_)
     go_simp
     refine hK.out _ _ ?hS2 (fun hHeld=>?_)
     case hS2=>go_keep
     clear hK K
     (try simp only[Act.put,List.setIfInBounds_toArray,List.set_cons_zero,List.set_cons_succ])
     refine wpAnyH_oneL (i:=10) rfl (by kernel_rfl) (fun K hK=>?_);refine step_append_own_at rfl (.tmp 112) (.tmp 117) 82 rfl base 115 j0 (.pointer none) 1 8 Tryz.underlying82 ji jz0 jz1 jz2 rfl (by decide) (.slice pa xs.length pc) xs.length _ (by simp[Act.eval,Act.put]) (O2.out.1.alloc _) ⟨w2.heap.size,0,none⟩ 1 1 [.pointer (some ⟨vb,0,none⟩)] (by simp[Act.eval,Act.put]) rfl (by intro q u hq;match q,hq with|0,hq=>simp at hq;subst hq;simp[Addr.add]) (by intro u hu;simp at hu;subst hu;rfl) (by unfold maxLen;omega) (by omega) (by simp;omega) ?_;intro pv2 w3 hown3 hgrow3 hblk3;obtain⟨pa3,pc3,rfl⟩:=owns_form hown3;have S3:Same (Value.slice pa xs.length pc).ownBlock.toList w2 w3:=((Same.refl _ _).drew.alloc _).grown hgrow3 (fun q hq _=>by simp[hq]);obtain⟨p63,g63⟩:=HC3.out w3 S3;have g6:w3.cell? ⟨rb,1,none⟩=some (.slice pa xs.length pc):=p63.cell? 1;have z6:w3.frozen? ⟨rb,1,none⟩=false:=p63.frozen 1;refine hK.out _ _ ⟨g6,g63⟩ (fun hHeld=>?_);clear hK K
     (try simp only[Act.put,List.setIfInBounds_toArray,List.set_cons_zero,List.set_cons_succ])
     refine wpAnyH_takeL (i:=11) (v:=?v10) rfl (by kernel_rfl) (by kernel_rfl) (by kernel_rfl) (fun _ _ _ h=>h) (by kernel_rfl) ?hy10 (by assumption) ?_
     case hy10=>intro w hSw;(try dsimp only at hSw);go_simp;try with_reducible rfl
     (try simp only[Act.put,List.setIfInBounds_toArray,List.set_cons_zero,List.set_cons_succ])
     refine wpAnyH_takeL (i:=12) (v:=?v11) rfl (by kernel_rfl) (by kernel_rfl) (by kernel_rfl) (fun _ _ _ h=>h) (by kernel_rfl) ?hy11 (by assumption) ?_
     case hy11=>intro w hSw;(try dsimp only at hSw);go_simp;try with_reducible rfl
     (try simp only[Act.put,List.setIfInBounds_toArray,List.set_cons_zero,List.set_cons_succ])
     refine wpAnyH_done (by kernel_rfl) ?_ _;refine sinkPost_normal (fun K hK=>?_)
     go_simp
     refine hK.out _ _ ?_;clear hK K;have HF:Hid (LRel w0 sb rb base B n count a0 (j+1) lv2 allv (w3.setCell ⟨rb,1,none⟩ (.slice pa3 (xs.length+1) pc3))):=by
      have S4:Same (rb :: (Value.slice pa xs.length pc).ownBlock.toList) w2 (w3.setCell ⟨rb,1,none⟩ (.slice pa3 (xs.length+1) pc3)):=(S3.mono (T:=rb :: (Value.slice pa xs.length pc).ownBlock.toList) (fun q hq _=>List.mem_cons_of_mem _ hq)).set _ _ _ (fun _=>by simp);refine HN2.out _ _ S4 (p63.set_same 1 _) ?_ ?_
      ·exact owns_but hown3 ((Same.refl [rb] w3).set rb 1 (.slice pa3 (xs.length+1) pc3) (fun _=>by simp)) (fun g hg hq=>by
        simp at hq;subst hq;have:=owns_row hown3 g hg;have:=HAP.out.1;omega)
      ·rcases hblk3 with e|e
       ·exact Or.inl e
       ·exact Or.inr ⟨_,e,by simp⟩
     clear S3 hown3 hgrow3 hblk3 p63 HN2 HC3 O2 hHeld
     go_wp2
     go_roundw
     case rel=>exact⟨j+1,_,_,rfl,rfl,by go_num,by omega,HF.out⟩
     case measure=>simp[intOf];omega
   ·have l1:(count:Int)<=(j:Int):=by omega
    have ej:j=count:=by omega
    have HE:Hid (∃i,Hid (i<=count/\LRel w0 sb rb base B n count a0 i lv uv wr/\(i < count->∃q at_,rents B count n count [] a0=.error q/\ScAt w0 wr sb B at_ (some q)))):=⟨j,hj,HJ.out,fun h=>by omega⟩
    clear HJ ej
    go_wp2_with fail
    go_meet
    case rel=>exact HE.out
 case rest=>
  obtain⟨i,HD⟩:=hcut;refine ‹∀(a:Act) (w:World),Code.wp Tryz.prog _ _ a w->_› _ _ ?_;exact HREST.out _ _ _ _ _ _ _ _ _ _ _ _ _ _ _ _ _ _ _ _ _ _ _ _ _ _ _ _ _ _ _ _ _ _ _ _ _ _ _ _ _ _ _ _ _ _ _ _ _ _ _ _ _ _ _ _ _ _ _ _ _ _ _ _ _ _ _ _ _ _ _ _ _ _ _ _ _ _ _ _ _ _ _ _ _ _ _ _ _ _ _ _ _ _ _ _ _ _ _ _ _ _ _ _ _ _ _ _ _ _ _ _ _ _ _ _ _ _ _ _ _ _ _ _ _ _ _ _ _ _ _ _ _ _ _ _ _ _ i HD
theorem xs_ent{xs:List RRow}{ps:List PEnt}(h:xs.map (·.e)=ps.map PEnt.ref):xs.length=ps.length/\(∀x∈xs,∃p∈ps,x.e=p.ref)/\∀j,j < ps.length->(xs[j]!).e=(ps[j]!).ref:=by
 have hl:xs.length=ps.length:=by simpa using congrArg List.length h
 refine⟨hl,fun x hx=>?_,fun j hj=>?_⟩
 ·have:x.e∈ps.map PEnt.ref:=by rw[<-h];exact List.mem_map.2 ⟨x,hx,rfl⟩
  obtain⟨p,hp,e⟩:=List.mem_map.1 this;exact⟨p,hp,e.symm⟩
 ·have h1:(xs.map (·.e))[j]? = (ps.map PEnt.ref)[j]?:=by rw[h]
  rw[List.getElem?_map,List.getElem?_map,List.getElem?_eq_getElem hj,List.getElem?_eq_getElem (by omega)] at h1;rw[getElem!_pos ps j hj,getElem!_pos xs j (by omega)];simpa using h1
theorem xs_ok{xs:List RRow}{ps:List PEnt}{n count:Nat}(h:xs.map (·.e)=ps.map PEnt.ref)(hok:EntsOk count n ps)(hpl:ps.length=count)(hc:count<=20)(hn:n<=200):XsOk n xs/\∀x∈xs,x.e.name≠⟨#[]⟩:=by
 obtain⟨hl,hm,_⟩:=xs_ent h;refine⟨⟨by omega,hn,fun x hx o ho=>?_,fun x hx=>?_,fun x hx b hb=>?_,fun x hx=>?_,fun x hx ho=>?_,fun x hx=>?_⟩,fun x hx hne=>?_⟩
 all_goals obtain⟨p,hp,e⟩:=hm x hx
 all_goals have hpo:=hok.all p hp
 ·rw[e] at ho;simp only[PEnt.ref] at ho;by_cases hk:p.kind=0
  ·rw[if_pos hk] at ho;cases ho
  ·rw[if_neg hk] at ho;cases ho;have:=hpo.org hk;omega
 ·rw[e];exact hpo.size.2
 ·rw[e] at hb;exact (hpo.xs.2 b hb).1
 ·rw[e];show 1<=p.xs.length/\p.xs.length<=p.size;by_cases hk:p.kind=0
  ·have:=hpo.plain hk;have:=hpo.size;omega
  ·exact hpo.pic hk
 ·rw[e] at ho ⊢;simp only[PEnt.ref] at ho;by_cases hk:p.kind=0
  ·exact hpo.plain hk
  ·rw[if_neg hk] at ho;cases ho
 ·rw[e];exact⟨hpo.kept.2,hpo.keptle⟩
 ·rw[e] at hne;have h1:=hpo.name;have hne:p.name=⟨#[]⟩:=hne;rw[hne] at h1;have h2:nameB ⟨#[]⟩=false:=rfl;rw[h2] at h1;cases h1
theorem LInv.tied{w0 W:World}{sb rb base:Nat}{B:List UInt8}{n at_:Nat}{U:List Nat}{xs:List RRow}{lv uv pv:Value}(h:LInv w0 W sb rb base B n at_ U xs xs xs lv uv pv) :
 ∃la lc lp pcap,lv=.slice la xs.length lc/\EntsAt W la xs/\(∀lg,la=some ⟨lg,0,none⟩->lg∉sb :: xs.map (·.vb))/\(∀x∈xs,sb∉x.foot)/\(∀x∈xs,∀q∈x.foot,w0.heap.size<=q)/\PoolL w0 W sb rb lp pcap n xs:=by
 have hbl:=h.bl;have hsb:=h.sbl;have hrb:=h.rbl;obtain⟨la,lc,rfl⟩:=owns_form h.l;have hfoot:∀x∈xs,∀q∈x.foot,base<=q:=h.new;have hP:∃lp pcap,pv=.slice (lp.map fun b=>⟨b,0,none⟩) xs.length pcap/\(xs.length<=pcap/\(lp=none->xs=[]/\pcap=0))/\(∀b,lp=some b->base<=b/\pv.ownBlock=some b/\∃cs,At W b 115 cs/\cs.take xs.length=xs.map (fun x=>ptr x.vb)/\xs.length<=cs.length):=by
  rcases h.p.2 with⟨h1,h2⟩|⟨g,cap,cur,h1,h2,h3,h4,h5,h6,h7⟩
  ·have hx:xs=[]:=List.length_eq_zero_iff.1 h2;exact⟨none,0,(by rw[h1,h2];rfl),⟨by omega,fun _=>⟨hx,rfl⟩⟩,fun b hb=>(by cases hb)⟩
  ·refine⟨some g,cap,h1,⟨h4,fun e=>(by cases e)⟩,fun b hb=>?_⟩;cases hb;refine⟨h2,by rw[h1];rfl,cur.toList,by show _=_;rw[h3],by rw[Nat.mul_one] at h7;exact h7,?_⟩;have h8:cur.toList.length=cap:=by rw[Array.length_toList];omega
   omega
 obtain⟨lp,pcap,e1,e2,e3⟩:=hP;refine⟨la,lc,lp,pcap,rfl,⟨fun hne=>?_⟩,fun lg hlg=>?_,fun x hx hq=>?_,fun x hx q hq=>?_,?_⟩
 ·obtain⟨g,cs,a1,a2,a3,a4,a5,a6⟩:=owns_at h.l (fun e=>hne (List.length_eq_zero_iff.1 e));exact⟨g,cs,a1,a3,a6⟩
 ·have hg:(Value.slice la xs.length lc).ownBlock=some lg:=by rw[hlg];rfl
  have h1:=owns_row h.l lg hg;simp only[List.mem_cons,not_or];refine⟨by omega,fun hq=>?_⟩;obtain⟨x,hx,e⟩:=List.mem_map.1 hq;exact (h.al lg hg).1 x hx (by rw[<-e];simp[RRow.foot])
 ·have:=hfoot x hx sb hq;omega
 ·have:=hfoot x hx q hq;omega
 ·refine⟨by rw[<-e1];exact h.pool,e2,fun b hb=>(e3 b hb).2.2,⟨hrb.2.1,hrb.2.2,fun x hx hq=>?_⟩,fun b hb=>?_⟩
  ·have:=hfoot x hx rb hq;omega
  ·obtain⟨h1,h2,_⟩:=e3 b hb;exact⟨by omega,by omega,by omega,h.ap b h2⟩
theorem load_bad(u0 u1 u2 u3 u4 u5 u7 u8 u9 Ja Jb Jc Jd Je Jf Jg Jh Ji Jj Jk Jl Jm Jn Jo Jp Jq Jr Js Jt Ju Jv Jw Jx Jy Jz Ka Kb Kc Kd Ke Kf Kg Kh Ki Kj Kk Kl Km Kn Ko Kp Kq Kr Ks Kt Ku Kv Kw Kx Ky Kz Qa Qb Qc Qd Qe Qf Qg Qh Qi Qj Qk Ql Qm Qn Qo Qp Qq Qr Qs Qt Qu Qv Qw Qx Qy Qz Ua Ub Uc Ud Ue Uf Ug Uh Ui Uj Uk Ul Um Un Uo Up Uq Ur Us Ut Uu Uv Uw Ux Uy Uz Va Vb Vc Vd Ve Vf Vg Vh Vi Vj Vk Vl Vm Vn Vo Vp Vq Vr Vs Vt Vu Vv Vw Vx Vy Vz:Value)(w0 W:World)(sb:Nat)(B:List UInt8)(at_ q:Nat)(hs:ScAt w0 W sb B at_ (some q))(R:Ending->World->Prop)(hR:∀w',Same [] W w'->R (.returned (.tuple #[.pointer none,.int .i64 12,.int .i64 (q:Int)])) w') :
 Code.wp Tryz.prog (dropSeq 13 (Tryz.f65.body.getD .skip)) (bodyPost Tryz.prog Tryz.f65 R) { tmps:=#[u0,u1,u2,u3,u4,u5,.pointer (some ⟨sb,0,none⟩),u7,u8,u9,Ja,Jb,Jc,Jd,Je,Jf,Jg,Jh,Ji,Jj,Jk,Jl,Jm,Jn,Jo,Jp,Jq,Jr,Js,Jt,Ju,Jv,Jw,Jx,Jy,Jz,Ka,Kb,Kc,Kd,Ke,Kf,Kg,Kh,Ki,Kj,Kk,Kl,Km,Kn,Ko,Kp,Kq,Kr,Ks,Kt,Ku,Kv,Kw,Kx,Ky,Kz,Qa,Qb,Qc,Qd,Qe,Qf,Qg,Qh,Qi,Qj,Qk,Ql,Qm,Qn,Qo,Qp,Qq,Qr,Qs,Qt,Qu,Qv,Qw,Qx,Qy,Qz,Ua,Ub,Uc,Ud,Ue,Uf,Ug,Uh,Ui,Uj,Uk,Ul,Um,Un,Uo,Up,Uq,Ur,Us,Ut,Uu,Uv,Uw,Ux,Uy,Uz,Va,Vb,Vc,Vd,Ve,Vf,Vg,Vh,Vi,Vj,Vk,Vl,Vm,Vn,Vo,Vp,Vq,Vr,Vs,Vt,Vu,Vv,Vw,Vx,Vy,Vz],defers:=[] } W:=by
 generalize hC:dropSeq 13 (Tryz.f65.body.getD .skip)=C
 delta Tryz.f65 at hC
 dsimp only[dropSeq,Option.getD] at hC;subst hC;have HR:=hid hR;have hc2:W.cell? ⟨sb,2,none⟩=some (.int .i64 (q:Int)):=hs.cell.cell? 2;have lq:¬((q:Int) < 0):=by omega
 have lq2:(0:Int)<=(q:Int):=by omega
 clear hs hR
 go_wp2_with fail
 go_quiet (fail)
 go_wp2
 go_ret3
 exact HR.out _ ((Same.refl [] W).drewN _)
theorem load_good(u0 u1 u2 u3 u4 u5 u7 u8 Jb Jc Jd Je Jf Jg Jh Ji Jj Jk Jl Jm Jn Jo Jp Jq Jr Js Jt Ju Jv Jw Jx Jy Jz Ka Kb Kc Kd Ke Kf Kg Kh Ki Kj Kk Kl Km Kn Ko Kp Kq Kr Ks Kt Ku Kv Kw Kx Ky Kz Qa Qb Qc Qd Qe Qf Qg Qh Qi Qj Qk Ql Qm Qn Qo Qp Qq Qr Qs Qt Qu Qv Qw Qx Qy Qz Ua Ub Uc Ud Ue Uf Ug Uh Ui Uj Uk Ul Um Un Uo Up Uq Ur Us Ut Uu Uv Uw Ux Uy Uz Va Vb Vc Vd Ve Vf Vg Vh Vi Vj Vk Vl Vm Vn Vo Vp Vq Vr Vs Vt Vu Vv Vw Vx Vy:Value)(w0 W:World)(sb rb base:Nat)(B:List UInt8)(n count at_:Nat)(U:List Nat)(ps:List PEnt)(xs:List RRow)(lv uv pv Ja:Value)(hl:B.length<=140737488355328)(hn:n<=200)(hc:count<=20)(hI:LInv w0 W sb rb base B n at_ U xs xs xs lv uv pv)(hxs:xs.map (·.e)=ps.map PEnt.ref)(hok:EntsOk count n ps)(hpl:ps.length=count)(R:Ending->World->Prop)
 (hR1:∀w1 w' q a,TiedPost w0 w1 sb B at_ n xs rb->ScAt w0 w1 sb B a (some q)->Same [] w1 w'->R (.returned (.tuple #[.pointer none,.int .i64 12,.int .i64 (q:Int)])) w')
 (hR2:∀w1 a,TiedPost w0 w1 sb B at_ n xs rb->ScAt w0 w1 sb B a none->R (.returned (.tuple #[.pointer (some ⟨rb,0,none⟩),.int .i64 0,.int .i64 0])) w1) :
 Code.wp Tryz.prog (dropSeq 13 (Tryz.f65.body.getD .skip)) (bodyPost Tryz.prog Tryz.f65 R) { tmps:=#[u0,u1,u2,u3,u4,u5,.pointer (some ⟨sb,0,none⟩),u7,u8,.pointer (some ⟨rb,0,none⟩),Ja,lv,Jb,Jc,Jd,Je,Jf,Jg,Jh,Ji,Jj,Jk,Jl,Jm,Jn,Jo,Jp,Jq,Jr,Js,Jt,Ju,Jv,Jw,Jx,Jy,Jz,Ka,Kb,Kc,Kd,Ke,Kf,Kg,Kh,Ki,Kj,Kk,Kl,Km,Kn,Ko,Kp,Kq,Kr,Ks,Kt,Ku,Kv,Kw,Kx,Ky,Kz,Qa,Qb,Qc,Qd,Qe,Qf,Qg,Qh,Qi,Qj,Qk,Ql,Qm,Qn,Qo,Qp,Qq,Qr,Qs,Qt,Qu,Qv,Qw,Qx,Qy,Qz,Ua,Ub,Uc,Ud,Ue,Uf,Ug,Uh,Ui,Uj,Uk,Ul,Um,Un,Uo,Up,Uq,Ur,Us,Ut,Uu,Uv,Uw,Ux,Uy,Uz,Va,Vb,Vc,Vd,Ve,Vf,Vg,Vh,Vi,Vj,Vk,Vl,Vm,Vn,Vo,Vp,Vq,Vr,Vs,Vt,Vu,Vv,Vw,Vx,Vy],defers:=[] } W:=by
 generalize hC:dropSeq 13 (Tryz.f65.body.getD .skip)=C
 delta Tryz.f65 at hC
 dsimp only[dropSeq,Option.getD] at hC;subst hC;obtain⟨la,lc,lp,pcap,rfl,h1,h2,h3,h4,h5⟩:=hI.tied;obtain⟨hX,hnm⟩:=xs_ok hxs hok hpl hc hn;have hT:=tied_all w0 W sb rb la lc lp pcap B xs at_ n hl hI.sc hI.rows h1 h2 h3 hX hnm h4 h5;have hc2:W.cell? ⟨sb,2,none⟩=some (.int .i64 (-1)):=hI.sc.cell.cell? 2;have HR1:=hid hR1;have HR2:=hid hR2;have lq:(-1:Int) < 0:=by omega
 clear hI h1 h2 h3 h4 h5 hX hnm hR1 hR2 hxs hok
 go_wp2_with fail
 refine hT.mono ?_;rintro e w1 ⟨rfl,hP⟩;have HP:Hid (TiedPost w0 w1 sb B at_ n xs rb):=hP;obtain⟨a,bd,hsc⟩:∃a bd,ScAt w0 w1 sb B a bd:=by
  rcases hP with⟨q,_,h⟩|⟨_,_,h⟩|⟨r,_,_,_,h⟩
  ·exact⟨_,_,h⟩
  ·exact⟨_,_,h⟩
  ·exact⟨_,_,h⟩
 clear hP hT hc2;cases bd with
 | some q=>
  have hc2:w1.cell? ⟨sb,2,none⟩=some (.int .i64 (q:Int)):=hsc.cell.cell? 2;have HQ:Hid (∀w',Same [] w1 w'->R (.returned (.tuple #[.pointer none,.int .i64 12,.int .i64 (q:Int)])) w'):=fun w' hw=>HR1.out w1 w' q a HP.out hsc hw
  have lq1:¬((q:Int) < 0):=by omega
  have lq2:(0:Int)<=(q:Int):=by omega
  clear hsc HP HR1 HR2
  go_wp2_with fail
  go_quiet (fail)
  go_wp2
  go_ret3
  exact HQ.out _ ((Same.refl [] w1).drewN _)
 | none=>
  have hc2:w1.cell? ⟨sb,2,none⟩=some (.int .i64 (-1)):=hsc.cell.cell? 2;have HQ:Hid (R (.returned (.tuple #[.pointer (some ⟨rb,0,none⟩),.int .i64 0,.int .i64 0])) w1):=HR2.out w1 a HP.out hsc;clear hsc HP HR1 HR2
  go_wp2
  go_ret3
  exact HQ.out
theorem load_ents_bad(u0 u1 u2 u3 u4 u5 u7 u8 u9 Ja Jb Jc Jd Je Jf Jg Jh Ji Jj Jk Jl Jm Jn Jo Jp Jq Jr Js Jt Ju Jv Jw Jx Jy Jz Ka Kb Kc Kd Ke Kf Kg Kh Ki Kj Kk Kl Km Kn Ko Kp Kq Kr Ks Kt Ku Kv Kw Kx Ky Kz Qa Qb Qc Qd Qe Qf Qg Qh Qi Qj Qk Ql Qm Qn Qo Qp Qq Qr Qs Qt Qu Qv Qw Qx Qy Qz Ua Ub Uc Ud Ue Uf Ug Uh Ui Uj Uk Ul Um Un Uo Up Uq Ur Us Ut Uu Uv Uw Ux Uy Uz Va Vb Vc Vd Ve Vf Vg Vh Vi Vj Vk Vl Vm Vn Vo Vp Vq Vr Vs Vt Vu Vv Vw Vx Vy:Value)(w0 W:World)(sb:Nat)(B:List UInt8)(at_ q count:Nat)(hc:count < 65536)(hs:ScAt w0 W sb B at_ (some q))(R:Ending->World->Prop)(hR:∀w',Same [] W w'->R (.returned (.tuple #[.pointer none,.int .i64 12,.int .i64 (q:Int)])) w') :
 Code.wp Tryz.prog (dropSeq 12 (Tryz.f65.body.getD .skip)) (bodyPost Tryz.prog Tryz.f65 R) { tmps:=#[u0,u1,u2,u3,u4,u5,.pointer (some ⟨sb,0,none⟩),u7,u8,u9,.int .i64 (count:Int),Ja,Jb,Jc,Jd,Je,Jf,Jg,Jh,Ji,Jj,Jk,Jl,Jm,Jn,Jo,Jp,Jq,Jr,Js,Jt,Ju,Jv,Jw,Jx,Jy,Jz,Ka,Kb,Kc,Kd,Ke,Kf,Kg,Kh,Ki,Kj,Kk,Kl,Km,Kn,Ko,Kp,Kq,Kr,Ks,Kt,Ku,Kv,Kw,Kx,Ky,Kz,Qa,Qb,Qc,Qd,Qe,Qf,Qg,Qh,Qi,Qj,Qk,Ql,Qm,Qn,Qo,Qp,Qq,Qr,Qs,Qt,Qu,Qv,Qw,Qx,Qy,Qz,Ua,Ub,Uc,Ud,Ue,Uf,Ug,Uh,Ui,Uj,Uk,Ul,Um,Un,Uo,Up,Uq,Ur,Us,Ut,Uu,Uv,Uw,Ux,Uy,Uz,Va,Vb,Vc,Vd,Ve,Vf,Vg,Vh,Vi,Vj,Vk,Vl,Vm,Vn,Vo,Vp,Vq,Vr,Vs,Vt,Vu,Vv,Vw,Vx,Vy],defers:=[] } W:=by
 generalize hC:dropSeq 12 (Tryz.f65.body.getD .skip)=C
 delta Tryz.f65 at hC
 dsimp only[dropSeq,Option.getD] at hC;subst hC;have HR:=hid hR;have HS:Hid (ScAt w0 W sb B at_ (some q)):=hs;have hc2:W.cell? ⟨sb,2,none⟩=some (.int .i64 (q:Int)):=hs.cell.cell? 2;have lq:¬((q:Int) < 0):=by omega
 have lq2:(0:Int)<=(q:Int):=by omega
 clear hs hR
 go_upto_block 2 with fail
 go_cut [11,12,13,14,15] (fun _ _ _ _ _ wd=>wd=W)
 case first=>
  go_wp2_with fail
  go_loopw [13] (fun i wr=>i=.int .i64 0/\wr=W) (fun _ _=>0)
  case atStart=>exact⟨rfl,rfl⟩
  case round=>
   obtain⟨rfl,rfl⟩:=hrel;rcases Nat.eq_zero_or_pos count with rfl|hp
   ·go_wp2_with fail
    go_meet
    case rel=>first|rfl|trivial
   ·have lp:(0:Int) < (count:Int):=by omega
    go_wp2_with fail
    go_meet
    case rel=>first|rfl|trivial
 case rest=>
  subst hcut;refine ‹∀(a:Act) (w:World),Code.wp Tryz.prog _ _ a w->_› _ _ ?_;exact load_bad _ _ _ _ _ _ _ _ _ _ _ _ _ _ _ _ _ _ _ _ _ _ _ _ _ _ _ _ _ _ _ _ _ _ _ _ _ _ _ _ _ _ _ _ _ _ _ _ _ _ _ _ _ _ _ _ _ _ _ _ _ _ _ _ _ _ _ _ _ _ _ _ _ _ _ _ _ _ _ _ _ _ _ _ _ _ _ _ _ _ _ _ _ _ _ _ _ _ _ _ _ _ _ _ _ _ _ _ _ _ _ _ _ _ _ _ _ _ _ _ _ _ _ _ _ _ _ _ _ _ _ _ _ _ _ _ _ _ _ w0 _ sb B at_ q HS.out R HR.out
def sizeX(B:List UInt8)(a0:Nat)(b0:Option Nat):Nat×Nat×Option Nat:=((numX B 2 a0 b0).1,(numX B 2 a0 b0).2.1,mustB (numX B 2 a0 b0).2.2 (decide (1<=(numX B 2 a0 b0).1/\(numX B 2 a0 b0).1<=200)) 4)
def countX(B:List UInt8)(a0:Nat)(b0:Option Nat):Nat×Nat×Option Nat:=((numX B 1 a0 b0).1,(numX B 1 a0 b0).2.1,mustB (numX B 1 a0 b0).2.2 (decide ((numX B 1 a0 b0).1<=20)) 6)
theorem load_mid(u0 u1 u2 u3 u4 u5 u7 u8 u9 Ja Jb Jc Jd Je Jf Jg Jh Ji Jj Jk Jl Jm Jn Jo Jp Jq Jr Js Jt Ju Jv Jw Jx Jy Jz Ka Kb Kc Kd Ke Kf Kg Kh Ki Kj Kk Kl Km Kn Ko Kp Kq Kr Ks Kt Ku Kv Kw Kx Ky Kz Qa Qb Qc Qd Qe Qf Qg Qh Qi Qj Qk Ql Qm Qn Qo Qp Qq Qr Qs Qt Qu Qv Qw Qx Qy Qz Ua Ub Uc Ud Ue Uf Ug Uh Ui Uj Uk Ul Um Un Uo Up Uq Ur Us Ut Uu Uv Uw Ux Uy Uz Va Vb Vc Vd Ve Vf Vg Vh Vi Vj Vk Vl Vm Vn Vo Vp Vq Vr Vs Vt Vu Vv Vw Vx Vy Vz:Value)(w0 W:World)(sb:Nat)(B:List UInt8)(a0:Nat)(b0:Option Nat)(hl:B.length<=140737488355328)(hs:ScAt w0 W sb B a0 b0)(R:Ending->World->Prop)
 (hrest:∀(u0 u1 u2 u3 u4 u5 u7 u8 Jd Je Jf Jg Jh Ji Jj Jk Jl Jm Jn Jo Jp Jq Jr Js Jt Ju Jv Jw Jx Jy Jz Ka Kb Kc Kd Ke Kf Kg Kh Ki Kj Kk Kl Km Kn Ko Kp Kq Kr Ks Kt Ku Kv Kw Kx Ky Kz Qa Qb Qc Qd Qe Qf Qg Qh Qi Qj Qk Ql Qm Qn Qo Qp Qq Qr Qs Qt Qu Qv Qw Qx Qy Qz Ua Ub Uc Ud Ue Uf Ug Uh Ui Uj Uk Ul Um Un Uo Up Uq Ur Us Ut Uu Uv Uw Ux Uy Uz Va Vb Vc Vd Ve Vf Vg Vh Vi Vj Vk Vl Vm Vn Vo Vp Vq Vr Vs Vt Vu Vv Vw Vx Vy Vz:Value) (wd:World) (n count a1 a2:Nat) (b1 b2:Option Nat),Hid (sizeX B a0 b0=(n,a1,b1)/\countX B a1 b1=(count,a2,b2)/\n < 65536/\count < 65536/\ScAt w0 wd sb B a2 b2/\At wd W.heap.size 84 [.int .i64 (n:Int),.slice none 0 0]/\Same [sb] W wd)->Code.wp Tryz.prog (dropSeq 12 (Tryz.f65.body.getD .skip)) (bodyPost Tryz.prog Tryz.f65 R) { tmps:=#[u0,u1,u2,u3,u4,u5,.pointer (some ⟨sb,0,none⟩),u7,u8,.pointer (some ⟨W.heap.size,0,none⟩),.int .i64 (count:Int),.slice none 0 0,.slice none 0 0,Jd,Je,Jf,Jg,Jh,Ji,Jj,Jk,Jl,Jm,Jn,Jo,Jp,Jq,Jr,Js,Jt,Ju,Jv,Jw,Jx,Jy,Jz,Ka,Kb,Kc,Kd,Ke,Kf,Kg,Kh,Ki,Kj,Kk,Kl,Km,Kn,Ko,Kp,Kq,Kr,Ks,Kt,Ku,Kv,Kw,Kx,Ky,Kz,Qa,Qb,Qc,Qd,Qe,Qf,Qg,Qh,Qi,Qj,Qk,Ql,Qm,Qn,Qo,Qp,Qq,Qr,Qs,Qt,Qu,Qv,Qw,Qx,Qy,Qz,Ua,Ub,Uc,Ud,Ue,Uf,Ug,Uh,Ui,Uj,Uk,Ul,Um,Un,Uo,Up,Uq,Ur,Us,Ut,Uu,Uv,Uw,Ux,Uy,Uz,Va,Vb,Vc,Vd,Ve,Vf,Vg,Vh,Vi,Vj,Vk,Vl,Vm,Vn,Vo,Vp,Vq,Vr,Vs,Vt,Vu,Vv,Vw,Vx,Vy,Vz],defers:=[] } wd) :
 Code.wp Tryz.prog (dropSeq 5 (Tryz.f65.body.getD .skip)) (bodyPost Tryz.prog Tryz.f65 R) { tmps:=#[u0,u1,u2,u3,u4,u5,.pointer (some ⟨sb,0,none⟩),u7,u8,u9,Ja,Jb,Jc,Jd,Je,Jf,Jg,Jh,Ji,Jj,Jk,Jl,Jm,Jn,Jo,Jp,Jq,Jr,Js,Jt,Ju,Jv,Jw,Jx,Jy,Jz,Ka,Kb,Kc,Kd,Ke,Kf,Kg,Kh,Ki,Kj,Kk,Kl,Km,Kn,Ko,Kp,Kq,Kr,Ks,Kt,Ku,Kv,Kw,Kx,Ky,Kz,Qa,Qb,Qc,Qd,Qe,Qf,Qg,Qh,Qi,Qj,Qk,Ql,Qm,Qn,Qo,Qp,Qq,Qr,Qs,Qt,Qu,Qv,Qw,Qx,Qy,Qz,Ua,Ub,Uc,Ud,Ue,Uf,Ug,Uh,Ui,Uj,Uk,Ul,Um,Un,Uo,Up,Uq,Ur,Us,Ut,Uu,Uv,Uw,Ux,Uy,Uz,Va,Vb,Vc,Vd,Ve,Vf,Vg,Vh,Vi,Vj,Vk,Vl,Vm,Vn,Vo,Vp,Vq,Vr,Vs,Vt,Vu,Vv,Vw,Vx,Vy,Vz],defers:=[] } W:=by
 generalize hC:dropSeq 5 (Tryz.f65.body.getD .skip)=C
 delta Tryz.f65 at hC
 dsimp only[dropSeq,Option.getD] at hC;subst hC;have HREST:=hid hrest;have hnot:=runNot;obtain⟨n,a1,d1,hX1⟩:∃n a d,numX B 2 a0 b0=(n,a,d):=⟨_,_,_,rfl⟩
 have hb1:n < 65536:=by have:=numX_lt B 2 a0 b0 (by omega);rw[hX1] at this;exact this
 obtain⟨b1,hB1⟩:∃b,mustB d1 (decide (1<=n/\n<=200)) 4=b:=⟨_,rfl⟩
 obtain⟨count,a2,d2,hX2⟩:∃n a d,numX B 1 a1 b1=(n,a,d):=⟨_,_,_,rfl⟩
 have hb2:count < 65536:=by have:=numX_lt B 1 a1 b1 (by omega);rw[hX2] at this;exact this
 obtain⟨b2,hB2⟩:∃b,mustB d2 (decide (count<=20)) 6=b:=⟨_,rfl⟩
 have HSP:Hid (sizeX B a0 b0=(n,a1,b1)/\countX B a1 b1=(count,a2,b2)):=⟨by unfold sizeX;rw[hX1,<-hB1],by unfold countX;rw[hX2,<-hB2]⟩
 have hlt:=hs.cell.lt;have S0:Same [] W (W.alloc (.cells #[.int .i64 0,.slice none 0 0] 84)):=(Same.refl _ _).alloc _;have A0:At (W.alloc (.cells #[.int .i64 0,.slice none 0 0] 84)) W.heap.size 84 [.int .i64 0,.slice none 0 0]:=At.new W _ _;have hN1:=rnumber_calls w0 _ sb B 2 a0 b0 n a1 d1 2 rfl (by omega) hl (hs.next S0 (by simp) (by simp)) hX1;have HM0:Hid (At (W.alloc (.cells #[.int .i64 0,.slice none 0 0] 84)) W.heap.size 84 [.int .i64 0,.slice none 0 0]/\Same [sb] W (W.alloc (.cells #[.int .i64 0,.slice none 0 0] 84))/\w0.heap.size<=sb):=⟨A0,S0.mono (by simp),hs.new⟩
 have hw0:w0.heap.size<=W.heap.size:=hs.same.size;clear hrest hX1 S0 A0 hs
 go_wp2_with fail
 refine hN1.mono ?_;rintro e w1 ⟨rfl,A1,S1⟩;have P1:At w1 W.heap.size 84 [.int .i64 0,.slice none 0 0]:=S1.at HM0.out.1 (by simp;omega);have S2:Same [W.heap.size] w1 (w1.setCell ⟨W.heap.size,0,none⟩ (.int .i64 (n:Int))):=(Same.refl _ _).set _ _ _ (by simp);have HM1:Hid (ScAt w0 (w1.setCell ⟨W.heap.size,0,none⟩ (.int .i64 (n:Int))) sb B a1 d1/\At (w1.setCell ⟨W.heap.size,0,none⟩ (.int .i64 (n:Int))) W.heap.size 84 [.int .i64 (n:Int),.slice none 0 0]/\Same [sb] W (w1.setCell ⟨W.heap.size,0,none⟩ (.int .i64 (n:Int)))):=
  ⟨A1.next S2 (by simp;omega) (fun k hk=>by simp at hk;omega),P1.set_same 0 _,(HM0.out.2.1.step S1 (fun k hk _=>hk)).step S2 (fun k hk hl=>by simp at hk;omega)⟩
 have c1:w1.cell? ⟨W.heap.size,0,none⟩=some (.int .i64 0):=P1.cell? 0;have f1:w1.frozen? ⟨W.heap.size,0,none⟩=false:=P1.frozen 0;clear hN1 A1 S1 P1 S2 HM0
 go_upto_region 12 with fail
 go_cut [] (fun wd=>Hid (ScAt w0 wd sb B a1 b1/\At wd W.heap.size 84 [.int .i64 (n:Int),.slice none 0 0]/\Same [sb] W wd))
 case first=>
  generalize w1.setCell ⟨W.heap.size,0,none⟩ (.int .i64 (n:Int))=w2 at *;have c2:w2.cell? ⟨W.heap.size,0,none⟩=some (.int .i64 (n:Int)):=HM1.out.2.1.cell? 0;have hM:=fun ok=>rmust_calls w0 w2 sb B a1 d1 ok 4 4 rfl HM1.out.1
  have HFF:Hid (∀ok w3,ok=decide (1<=n/\n<=200)->ScAt w0 w3 sb B a1 (mustB d1 ok 4)->Same [sb] w2 w3->ScAt w0 w3 sb B a1 b1/\At w3 W.heap.size 84 [.int .i64 (n:Int),.slice none 0 0]/\Same [sb] W w3):=fun ok w3 ho h1 h2=>⟨by rw[ho,hB1] at h1;exact h1,h2.at HM1.out.2.1 (by simp;omega),HM1.out.2.2.step h2 (fun k hk _=>hk)⟩
  clear HM1 c1 f1;by_cases g1:1<=n
  ·have g1':(1:Int)<=(n:Int):=by omega
   go_wp2_with fail
   refine (hM _).mono ?_;rintro e w3 ⟨rfl,A3,S3⟩;have HF:=hid (HFF.out _ w3 (by first|rfl|(rw[Bool.eq_iff_iff];simp<;>omega)) A3 S3);clear A3 S3 hM HFF
   go_wp2_with fail
   go_meet
   case rel=>exact HF
  ·obtain rfl:n=0:=by omega
   go_wp2_with fail
   refine (hM _).mono ?_;rintro e w3 ⟨rfl,A3,S3⟩;have HF:=hid (HFF.out _ w3 (by first|rfl|(rw[Bool.eq_iff_iff];simp<;>omega)) A3 S3);clear A3 S3 hM HFF
   go_wp2_with fail
   go_meet
   case rel=>exact HF
 case rest=>
  have hN2:=rnumber_calls w0 wc sb B 1 a1 b1 count a2 d2 1 rfl (by omega) hl hcut.out.1 hX2;have HC:Hid (At wc W.heap.size 84 [.int .i64 (n:Int),.slice none 0 0]/\Same [sb] W wc):=hcut.out.2;clear HM1 c1 f1 hcut hX2
  go_wp2_with fail
  refine hN2.mono ?_;rintro e w4 ⟨rfl,A4,S4⟩;have hM:=fun ok=>rmust_calls w0 w4 sb B a2 d2 ok 6 6 rfl A4
  have HFF:Hid (∀ok w5,ok=decide (count<=20)->ScAt w0 w5 sb B a2 (mustB d2 ok 6)->Same [sb] w4 w5->ScAt w0 w5 sb B a2 b2/\At w5 W.heap.size 84 [.int .i64 (n:Int),.slice none 0 0]/\Same [sb] W w5):=fun ok w5 ho h1 h2=>⟨by rw[ho,hB2] at h1;exact h1,h2.at (S4.at HC.out.1 (by simp;omega)) (by simp;omega),(HC.out.2.step S4 (fun k hk _=>hk)).step h2 (fun k hk _=>hk)⟩
  clear A4 S4 hN2 HC
  go_upto_region 16 with (go_at_call 109;refine (hM _).mono ?_;rintro e w5 ⟨rfl,A5,S5⟩)
  have HF:=hid (HFF.out _ w5 (by first|rfl|(rw[Bool.eq_iff_iff];simp<;>omega)) A5 S5);clear A5 S5 hM HFF
  go_cut [12] (fun uv wd=>uv=.slice none 0 0/\Hid (ScAt w0 wd sb B a2 b2/\At wd W.heap.size 84 [.int .i64 (n:Int),.slice none 0 0]/\Same [sb] W wd))
  case first=>
   go_wp2_with fail
   go_meet
   case rel=>exact⟨rfl,HF⟩
  case rest=>
   obtain⟨rfl,HC⟩:=hcut;refine ‹∀(a:Act) (w:World),Code.wp Tryz.prog _ _ a w->_› _ _ ?_;exact HREST.out _ _ _ _ _ _ _ _ _ _ _ _ _ _ _ _ _ _ _ _ _ _ _ _ _ _ _ _ _ _ _ _ _ _ _ _ _ _ _ _ _ _ _ _ _ _ _ _ _ _ _ _ _ _ _ _ _ _ _ _ _ _ _ _ _ _ _ _ _ _ _ _ _ _ _ _ _ _ _ _ _ _ _ _ _ _ _ _ _ _ _ _ _ _ _ _ _ _ _ _ _ _ _ _ _ _ _ _ _ _ _ _ _ _ _ _ _ _ _ _ _ _ _ _ _ _ _ _ _ _ _ _ _ _ _ _ n count a1 a2 b1 b2 ⟨HSP.out.1,HSP.out.2,hb1,hb2,HC.out⟩
def MRel(w0:World)(sb:Nat)(B:List UInt8)(k:Nat)(wr:World):Prop:=
 (∃q at_,rmark B 4 0=.error q/\ScAt w0 wr sb B at_ (some q))\/(rmark B (4 - k) k=rmark B 4 0/\ScAt w0 wr sb B k none)
theorem text_one(B:List UInt8)(k:Nat)(h:k+1<=B.length):textAt B k 1=⟨#[B[k]!]⟩:=by
 unfold textAt;rw[List.drop_eq_getElem_cons (by omega),getElem!_pos B k (by omega)];rfl
theorem one_eq(a b:UInt8):((⟨#[a]⟩:ByteArray)=⟨#[b]⟩)↔a=b:=by
 constructor
 ·intro h;simpa using h
 ·intro h;rw[h]
theorem text_beq1(t:ByteArray)(b:UInt8):(t.toList == [b])=decide (t=⟨#[b]⟩):=by
 have h:=text_beq t ⟨#[b]⟩;have e:(⟨#[b]⟩:ByteArray).toList=[b]:=by rw[ByteArray.toList_eq]
 rw[e] at h;exact h
theorem load_head(w:World)(t:ByteArray)(m:Nat)(B:List UInt8)(hl:B.length<=140737488355328)(hm:t.size=m+2)(hm2:m<=140737488355328)(hB:t.extract 0 m=⟨B.toArray⟩)(hE:t.extract m t.size=⟨(two (sumB B)).toArray⟩)(R:Ending->World->Prop)
 (hrest:∀(u0 u1 u2 u3 u4 u5 u7 u8 u9 Ja Jb Jc Jd Je Jf Jg Jh Ji Jj Jk Jl Jm Jn Jo Jp Jq Jr Js Jt Ju Jv Jw Jx Jy Jz Ka Kb Kc Kd Ke Kf Kg Kh Ki Kj Kk Kl Km Kn Ko Kp Kq Kr Ks Kt Ku Kv Kw Kx Ky Kz Qa Qb Qc Qd Qe Qf Qg Qh Qi Qj Qk Ql Qm Qn Qo Qp Qq Qr Qs Qt Qu Qv Qw Qx Qy Qz Ua Ub Uc Ud Ue Uf Ug Uh Ui Uj Uk Ul Um Un Uo Up Uq Ur Us Ut Uu Uv Uw Ux Uy Uz Va Vb Vc Vd Ve Vf Vg Vh Vi Vj Vk Vl Vm Vn Vo Vp Vq Vr Vs Vt Vu Vv Vw Vx Vy Vz:Value) (wd:World) (sb:Nat),Hid (MRel w sb B 4 wd)->Code.wp Tryz.prog (dropSeq 5 (Tryz.f65.body.getD .skip)) (bodyPost Tryz.prog Tryz.f65 R) { tmps:=#[u0,u1,u2,u3,u4,u5,.pointer (some ⟨sb,0,none⟩),u7,u8,u9,Ja,Jb,Jc,Jd,Je,Jf,Jg,Jh,Ji,Jj,Jk,Jl,Jm,Jn,Jo,Jp,Jq,Jr,Js,Jt,Ju,Jv,Jw,Jx,Jy,Jz,Ka,Kb,Kc,Kd,Ke,Kf,Kg,Kh,Ki,Kj,Kk,Kl,Km,Kn,Ko,Kp,Kq,Kr,Ks,Kt,Ku,Kv,Kw,Kx,Ky,Kz,Qa,Qb,Qc,Qd,Qe,Qf,Qg,Qh,Qi,Qj,Qk,Ql,Qm,Qn,Qo,Qp,Qq,Qr,Qs,Qt,Qu,Qv,Qw,Qx,Qy,Qz,Ua,Ub,Uc,Ud,Ue,Uf,Ug,Uh,Ui,Uj,Uk,Ul,Um,Un,Uo,Up,Uq,Ur,Us,Ut,Uu,Uv,Uw,Ux,Uy,Uz,Va,Vb,Vc,Vd,Ve,Vf,Vg,Vh,Vi,Vj,Vk,Vl,Vm,Vn,Vo,Vp,Vq,Vr,Vs,Vt,Vu,Vv,Vw,Vx,Vy,Vz],defers:=[] } wd) :
 Calls Tryz.prog 65 #[.string t] w R:=by
 have HREST:=hid hrest;have hnot:=runNot;have hSum:=fun W=>refSum_calls W ⟨B.toArray⟩ (by simpa [ByteArray.size] using hl)
 have hlt:sumB B < 65536:=by have:=sumB_lt B;omega
 have hTwo:=fun W=>refTwo_calls W (sumB B) hlt
 have w1:IntKind.i64.wrap ((t.size:Int) - 2)=(m:Int):=by rw[IntWalk.i64_in _ (by omega)];omega
 have l0:¬((m:Int) < 0):=by omega
 have l1:decide ((m:Int) < 0)=false:=decide_eq_false l0;have l2:(0:Int)<=(m:Int):=by omega
 have l3:(m:Int)<=(t.size:Int):=by omega
 have hEb:((t.extract m t.size).toList == two (sumB B))=true:=by rw[hE,ByteArray.toList_eq];simp
 clear hrest hm hE
 go_enter Tryz.func65,Tryz.ntmps65
 generalize two (sumB B)=tw at *
 go_wp2_with fail
 go_region_held3 (fun _=>True) (trivial) (first|(go_at_call 75;refine (hSum _).mono ?_;rintro e w' ⟨rfl,rfl⟩;dsimp only)|(go_at_call 71;refine (hTwo _).mono ?_;rintro e w2 ⟨rfl,S2⟩;dsimp only))
 have HS2:Hid (Same [] w w2):=((Same.refl [] w).drew).step S2 (by simp);have HI:Hid (MRel w w2.heap.size B 0 (w2.alloc (.cells #[.string ⟨B.toArray⟩,.int .i64 0,.int .i64 (-1)] 156))):=by
  refine Or.inr ⟨rfl,?_,HS2.out.size,HS2.out.alloc _,Nat.zero_le _⟩;exact At.new w2 _ _
 clear S2 hSum hTwo;generalize hsb:w2.heap.size=sb at *
 go_upto_block 0 with fail
 go_cut [7,8] (fun _ _ wd=>Hid (MRel w sb B 4 wd))
 case first=>
  generalize w2.alloc (.cells #[.string ⟨B.toArray⟩,.int .i64 0,.int .i64 (-1)] 156)=w3 at *;clear hsb HS2
  go_wp2_with fail
  go_loopw [7,8] (fun i _ wr=>∃k:Nat,i=.int .i64 k/\k<=4/\Hid (MRel w sb B k wr)) (fun i _ _=>4 - (intOf i).toNat)
  case atStart=>exact⟨0,rfl,by omega,HI.out⟩
  case round=>
   obtain⟨k,rfl,hk,HK⟩:=hrel;by_cases hk4:k < 4
   ·have lk:(k:Int) < 4:=by omega
    have lk0:(0:Int)<=(k:Int):=by omega
    obtain⟨a,bd,hsc,hre⟩:∃a bd,ScAt w wr sb B a bd/\((∃q,rmark B 4 0=.error q/\bd=some q)\/(rmark B (4 - k) k=rmark B 4 0/\a=k/\bd=none)):=by
     rcases HK.out with⟨q,at_,h1,h2⟩|⟨h1,h2⟩
     ·exact⟨at_,some q,h2,Or.inl ⟨q,h1,rfl⟩⟩
     ·exact⟨k,none,h2,Or.inr ⟨h1,rfl,rfl⟩⟩
    obtain⟨tx,a1,d1,hX⟩:∃t' a' d',takeX B 1 a bd=(t',a',d'):=⟨_,_,_,rfl⟩
    have hT:=rtake_calls w wr sb B 1 a bd tx a1 d1 1 rfl (by omega) hl hsc hX;have HNX:Hid (∀w5,ScAt w w5 sb B a1 (mustB d1 (decide (tx=⟨#[markB[k]!]⟩)) k)->MRel w sb B (k+1) w5):=fun w5 h5=>by
     rcases hre with⟨q,h1,rfl⟩|⟨h1,rfl,rfl⟩
     ·simp only[takeX,Prod.mk.injEq] at hX;obtain⟨_,rfl,rfl⟩:=hX;exact Or.inl ⟨q,_,h1,h5⟩
     ·have hst:rmark B (4 - a) a=if a+1<=B.length then (if B[a]! = markB[a]! then rmark B (4 - (a+1)) (a+1) else .error a) else .error B.length:=by
       rw[show 4 - a=(4 - (a+1))+1 by omega,rmark]
      rw[h1] at hst;simp only[takeX] at hX;by_cases hle:a+1<=B.length
      ·rw[if_pos hle] at hX hst;simp only[Prod.mk.injEq] at hX;obtain⟨rfl,rfl,rfl⟩:=hX;rw[text_one B a hle] at h5;by_cases he:B[a]! = markB[a]!
       ·rw[if_pos he] at hst;refine Or.inr ⟨hst.symm,?_⟩;have e:decide ((⟨#[B[a]!]⟩:ByteArray)=⟨#[markB[a]!]⟩)=true:=decide_eq_true ((one_eq _ _).2 he);rw[e] at h5;exact h5
       ·rw[if_neg he] at hst;have e:decide ((⟨#[B[a]!]⟩:ByteArray)=⟨#[markB[a]!]⟩)=false:=decide_eq_false (fun h=>he ((one_eq _ _).1 h));rw[e] at h5;exact Or.inl ⟨a,_,hst,h5⟩
      ·rw[if_neg hle] at hX hst;simp only[Prod.mk.injEq] at hX;obtain⟨rfl,rfl,rfl⟩:=hX;exact Or.inl ⟨_,_,hst,h5⟩
    have hsl:∀W,Sem.run Tryz.prog (Instr.slice 9 (.string ⟨#[83,84,82,49]⟩) (some (.int .i64 (k:Int))) (some (.int .i64 ((k:Int)+1))) none) W=.ok (.string ⟨#[markB[k]!]⟩) W:=by
     intro W
     match k,hk4 with
     | 0,_=>rfl
     | 1,_=>rfl
     | 2,_=>rfl
     | 3,_=>rfl
    have wk:IntKind.i64.wrap ((k:Int)+1)=(k:Int)+1:=IntWalk.i64_in _ (by omega);have nk:((k:Int)+1).toNat=k+1:=by omega
    have nk2:(k:Int)+1<=4:=by omega
    generalize markB[k]! = mk at *;clear HK hsc hre hX
    go_wp2_with fail
    refine hT.mono ?_;rintro e w4 ⟨rfl,A4,S4⟩;have hM:=fun ok=>rmust_calls w w4 sb B a1 d1 ok k (k:Int) rfl A4
    clear hT A4 S4;dsimp only
    go_wp2_with fail
    refine (hM _).mono ?_;rintro e w5 ⟨rfl,A5,S5⟩;have HF:=hid (HNX.out w5 (A5.must_eq (text_beq1 _ _)));clear A5 S5 hM HNX
    go_wp2
    go_roundw
    case rel=>exact⟨k+1,by go_num,by omega,HF.out⟩
    case measure=>simp[intOf];omega
   ·obtain rfl:k=4:=by omega
    go_wp2_with fail
    go_meet
    case rel=>exact HK
 case rest=>
  refine ‹∀(a:Act) (w:World),Code.wp Tryz.prog _ _ a w->_› _ _ ?_;exact HREST.out _ _ _ _ _ _ _ _ _ _ _ _ _ _ _ _ _ _ _ _ _ _ _ _ _ _ _ _ _ _ _ _ _ _ _ _ _ _ _ _ _ _ _ _ _ _ _ _ _ _ _ _ _ _ _ _ _ _ _ _ _ _ _ _ _ _ _ _ _ _ _ _ _ _ _ _ _ _ _ _ _ _ _ _ _ _ _ _ _ _ _ _ _ _ _ _ _ _ _ _ _ _ _ _ _ _ _ _ _ _ _ _ _ _ _ _ _ _ _ _ _ _ _ _ _ _ _ _ _ _ _ _ _ _ _ _ _ _ _ _ sb hcut
theorem load_other(w:World)(t:ByteArray)(m:Nat)(B:List UInt8)(hl:B.length<=140737488355328)(hm:t.size=m+2)(hm2:m<=140737488355328)(hB:t.extract 0 m=⟨B.toArray⟩)(hE:t.extract m t.size≠⟨(two (sumB B)).toArray⟩) :
 Calls Tryz.prog 65 #[.string t] w fun e w'=>e=.returned (.tuple #[.pointer none,.int .i64 11,.int .i64 0])/\Same [] w w':=by
 have hnot:=runNot;have hSum:=fun W=>refSum_calls W ⟨B.toArray⟩ (by simpa [ByteArray.size] using hl)
 have hlt:sumB B < 65536:=by have:=sumB_lt B;omega
 have hTwo:=fun W=>refTwo_calls W (sumB B) hlt
 have w1:IntKind.i64.wrap ((t.size:Int) - 2)=(m:Int):=by rw[IntWalk.i64_in _ (by omega)];omega
 have l0:¬((m:Int) < 0):=by omega
 have l1:decide ((m:Int) < 0)=false:=decide_eq_false l0;have l2:(0:Int)<=(m:Int):=by omega
 have l3:(m:Int)<=(t.size:Int):=by omega
 have hEb:((t.extract m t.size).toList == two (sumB B))=false:=by
  rw[beq_eq_false_iff_ne];intro e;apply hE;apply ByteArray.ext;apply Array.toList_inj.1;rw[ByteArray.toList_eq] at e;exact e
 clear hm hE
 go_enter Tryz.func65,Tryz.ntmps65
 generalize two (sumB B)=tw at *
 go_wp2_with fail
 go_region_held3 (fun _=>True) (trivial) (first|(go_at_call 75;refine (hSum _).mono ?_;rintro e w' ⟨rfl,rfl⟩;dsimp only)|(go_at_call 71;refine (hTwo _).mono ?_;rintro e w2 ⟨rfl,S2⟩;dsimp only))
 have HS2:Hid (Same [] w w2):=((Same.refl [] w).drew).step S2 (by simp);clear S2 hSum hTwo
 go_wp2
 go_ret3
 exact⟨rfl,HS2.out⟩
theorem load_none(w:World)(t:ByteArray)(ht:t=⟨#[]⟩\/∃a,t=⟨#[a]⟩) :
 Calls Tryz.prog 65 #[.string t] w fun e w'=>e=.returned (.tuple #[.pointer none,.int .i64 11,.int .i64 0])/\Same [] w w':=by
 have hnot:=runNot;obtain⟨z,hz,hz0⟩:∃z:Int,IntKind.i64.wrap ((t.size:Int) - 2)=z/\z < 0:=by
  rcases ht with rfl|⟨a,rfl⟩
  ·exact⟨-2,rfl,by omega⟩
  ·exact⟨-1,rfl,by omega⟩
 have l1:decide (z < 0)=true:=decide_eq_true hz0;clear ht hz0
 go_enter Tryz.func65,Tryz.ntmps65
 go_wp2_with fail
 go_quiet (fail)
 go_wp2
 go_ret3
 exact⟨rfl,(Same.refl [] w).drewN _⟩
end
end Go.Proofs.YtpddgdjocffgdaaGreat
