/- Packed: see the last text. -/
import Derived.Test.YtpddgdjocffgdaaGreatA04
import Derived.Deep.RegionLawGrows
import Derived.Test.YtpddgdjocffgdaaGreatA02
import Derived.Test.YtpddgdjocffgdaaGreatA05
namespace Go.Proofs.YtpddgdjocffgdaaGreat
open Go.Proofs.Tryz
set_option linter.unusedVariables false
set_option linter.unusedSimpArgs false
set_option linter.unusedSectionVars false
set_option maxHeartbeats 16000000
set_option maxRecDepth 100000
section
open Go.RowKit Go.Sort
variable [DecidableEq aN] [Inhabited aN] [Inhabited aF] [Inhabited ay]
theorem tK:∀(l:List ay),∀u∈l.map (fun v=>ptr v.vb),u.oneCell'=true:=fun l u hu=>by
 obtain⟨v,_,rfl⟩:=List.mem_map.1 hu;rfl
theorem KA:∀(l:List Nat),∀u∈l.map (fun x:Nat=>Value.int .i64 x),u.oneCell'=true:=fun l u hu=>by
 obtain⟨v,_,rfl⟩:=List.mem_map.1 hu;rfl
structure UR(w w':World)(s:aQ)(vb:Nat)(t bC:ByteArray)(data:List ByteArray)(xs:List Nat)(base:Nat)(B:Nat):Prop where
 ex:∃bg dg,w.heap.size<=bg/\bg<B/\base<=dg/\dg<B/\dU w' ⟨vb,dg,bg,none,t,bC,data,xs,[],false⟩
 ref:aO w' s
 same:Same [vb] w w'
theorem wQ{w w4 w5:World}{s:aQ}{vb:Nat}{t bC:ByteArray}{data:List ByteArray}{xs:List Nat}{p base:Nat}(hF:UR w w4 s vb t bC data xs base w4.heap.size)(hfew:s.af.length<20)(h5:Same [] w4 w5)(a:Option Addr)(cap m:Nat)
 (hm:m=s.af.length+1) (hown:w5.ownsRow w4.heap.size 115 1 (.slice a m cap) m ((iP p ⟨vb,0,0,none,t,bC,data,xs,[],false⟩ s.af).map (fun v=>ptr v.vb))) (hp:p<=s.af.length) :
 E5 w (w5.setCell ⟨s.rb,1,none⟩ (.slice a m cap)) s vb t bC data xs p base:=by
 obtain⟨⟨bg,dg,b1,b2,b3,b4,hV⟩,hR,hS⟩:=hF;obtain⟨pc,hp0,h1,h2⟩:=hR.pool;have hlen:(iP p ⟨vb,dg,bg,none,t,bC,data,xs,[],false⟩ s.af).length=s.af.length+1:=by simp[iP];omega
 have hmap:(iP p ⟨vb,0,0,none,t,bC,data,xs,[],false⟩ s.af).map (fun v=>ptr v.vb)=(iP p ⟨vb,dg,bg,none,t,bC,data,xs,[],false⟩ s.af).map (fun v=>ptr v.vb):=by simp[iP]
 rw[hmap]at hown;have hsz:=hS.size;have hsz5:=h5.size;obtain⟨g,cs,rfl,hg,hA,hcl,ht⟩:=iw hown (by omega);have hle:=oQ hown;have hp5:=h5.at hp0 (by simp);have S5:Same [s.rb] w4 (w5.setCell ⟨s.rb,1,none⟩ (.slice (some ⟨g,0,none⟩) m cap)):=(h5.mono (by simp)).set _ _ _ (by simp);have hpl:=hp0.lt;have noT:∀b∈[s.rb],∀cs,¬At w4 b 118 cs/\¬At w4 b 9 cs/\¬At w4 b 3 cs:=by
  intro b hb cs;simp at hb;subst hb;exact⟨fun hA=>absurd (hA.inj hp0).1 (by decide),fun hA=>absurd (hA.inj hp0).1 (by decide),fun hA=>absurd (hA.inj hp0).1 (by decide)⟩
 refine⟨⟨g,bg,dg,by omega,b1,b3,by omega,⟨⟨cap,?_,?_,fun hq=>by cases hq⟩,fun b hb=>?_,fun v hv=>?_,?_,hR.n⟩⟩,?_⟩
 ·show At _ s.rb _ [.int .i64 s.n,.slice ((some g).map fun b=>⟨b,0,none⟩) (iP p ⟨vb,dg,bg,none,t,bC,data,xs,[],false⟩ s.af).length cap];rw[hlen,<-hm];exact hp5.ax 1 _
 ·show(iP p ⟨vb,dg,bg,none,t,bC,data,xs,[],false⟩ s.af).length<=cap;rw[hlen];omega
 ·cases hb;refine⟨cs,hA.aP _ _ _ (by omega),?_,?_⟩
  ·show cs.take (iP p ⟨vb,dg,bg,none,t,bC,data,xs,[],false⟩ s.af).length=_;rw[hlen,<-hm];simpa using ht
  ·show(iP p ⟨vb,dg,bg,none,t,bC,data,xs,[],false⟩ s.af).length<=_;rw[hlen,hcl];omega
 ·have hv':v∈iP p ⟨vb,dg,bg,none,t,bC,data,xs,[],false⟩ s.af:=hv;have:v=⟨vb,dg,bg,none,t,bC,data,xs,[],false⟩\/v∈s.af:=by
   unfold iP at hv';rcases List.mem_append.1 hv' with hv'|hv'
   ·exact Or.inr (List.mem_of_mem_take hv')
   ·rcases List.mem_cons.1 hv' with hv'|hv'
    ·exact Or.inl hv'
    ·exact Or.inr (List.mem_of_mem_drop hv')
  rcases this with rfl|hv
  ·exact hV.same S5 noT
  ·exact(hR.af v hv).same S5 noT
 ·show(iP p ⟨vb,dg,bg,none,t,bC,data,xs,[],false⟩ s.af).length<=20;rw[hlen];omega
 ·exact(hS.mono (T:=[s.rb,vb]) (by simp)).step S5 (by simp)
theorem EH{w w2 w3:World}{s:aQ}{vb n:Nat}{t bC:ByteArray}{base:Nat}{data:List ByteArray}{dg dc:Nat}{fl:List Nat}(h:aO w s)(hvb:vb∉s.foot)(hbase:vb<base)(hdg:base<=dg)(hT:iK w dg dc data)(hdl:data.length<=200)
 (hA:At w vb 118 [.string t,.string bC,.slice (some ⟨dg,0,none⟩) data.length dc,.slice none 0 0,.slice none 0 0,.bool false]) (hS:Same [] w w2) (hgrow:w2.grownBy w3 none) (hn:1<=n/\n<=200) (hf:n<=fl.length) (bg bc:Nat)
 (hbg:w2.heap.size<=bg) (hN:fD w3 bg bc (fl.take n)) :
 UR w (w3.setCell ⟨vb,3,none⟩ (.slice (some ⟨bg,0,none⟩) n bc)) s vb t bC data (fl.take n) base (w3.setCell ⟨vb,3,none⟩ (.slice (some ⟨bg,0,none⟩) n bc)).heap.size:=by
 have S3:Same [] w w3:=hS.grown hgrow (by simp);have A3:=S3.at hA (by simp);have S4:Same [vb] w (w3.setCell ⟨vb,3,none⟩ (.slice (some ⟨bg,0,none⟩) n bc)):=(S3.mono (by simp)).set _ _ _ (by simp);have S34:Same [vb] w3 (w3.setCell ⟨vb,3,none⟩ (.slice (some ⟨bg,0,none⟩) n bc)):=(Same.refl _ _).set _ _ _ (by simp);have hl:(fl.take n).length=n:=by rw[List.length_take];omega
 have hsz:=hS.size;have hvl:=hA.lt;have hdl':dg<w.heap.size:=by obtain⟨cs,h1,_⟩:=hT.ex;exact h1.lt
 refine⟨⟨bg,dg,by omega,?_,hdg,?_,⟨⟨dc,bc,0,?_,?_,?_,fun _=>⟨rfl,rfl⟩,fun g hg=>by cases hg⟩,hdl,by rw[hl];omega,by simp⟩⟩,h.uy S4 (fun k hk hm=>by simp at hm;subst hm;exact hvb hk),S4⟩
 ·have:=hN.lt;have:=S34.size;omega
 ·have:=S4.size;omega
 ·have:=A3.ax 3 (.slice (some ⟨bg,0,none⟩) n bc);simp only[hl];exact this
 ·exact hT.same S4 (by simp;omega)
 ·exact hN.same S34 (by simp;omega)
theorem KC(s:aQ)(vb n b p:Nat)(t bC:ByteArray)(base:Nat)(data:List ByteArray)(w:World)(h:aO w s)(hlg:s.lg=some b)(hB:Bare w vb t bC base data)(hd:data≠[])(hdl:data.length<=200)(hm:s.af.length<20)(hf:n<=(s.dD s.n).length)(hn:1<=n/\n<=200)
 (hp:p<=s.af.length) (hlt:∀j,j<p->bW (s.af[j]!).name t<0) (hge:p<s.af.length->¬bW (s.af[p]!).name t<0) (hvb:vb∉s.foot) (hbase:vb<base) :
 Calls prog 85 #[.pointer (some ⟨s.rb,0,none⟩),.pointer (some ⟨vb,0,none⟩),.int .i64 n] w fun e w'=>e=.returned (.int .i64 0)/\E5 w w' s vb t bC data ((s.dD s.n).take n) p base:=by
 have hR:=iY s w h;obtain⟨u,hA,hown⟩:=hB.ex;obtain⟨dg,dc,rfl,hdg,hT⟩:=uZ hown hd;obtain⟨cap,hpo,h1,h2⟩:=h.pool;have hfl:=s.uf s.n;have hsn:=h.n;have c1:w.cell? ⟨s.rb,1,none⟩=some (.slice (some ⟨b,0,none⟩) s.af.length cap):=by have:=hpo.cell? 1;rw[hlg]at this;exact this
 have l1:(s.af.length:Int)<20:=by omega
 generalize s.dD s.n=fl at *;have l2:¬(fl.length:Int)<(n:Int):=by omega
 obtain⟨i0,hi,hz0,hz1,hz2⟩:=info_parts Tryz.info3;obtain⟨i1,ki,kz0,kz1,kz2⟩:=info_parts Tryz.NH
 go_enter func85,ntmps85
 go_wp2_with (first|(go_at_call 63;refine hR.mono ?_;rintro e w2 ⟨u,rfl,hownF,hS⟩;obtain⟨ua,pG,rfl⟩:=ak hownF))
 obtain⟨gf,fcs,rfl,hgf,hAf,hle,hcl,htk⟩:=jk hownF (by omega);have hsz:=hS.size;have hA2:=hS.at hA (by simp);have e3:w2.cell? ⟨vb,3,none⟩=some (.slice none 0 0):=hA2.cell? 3;have hnews:∀(W:World),W.heap=w2.heap->∀j u,((fl.take n).map (fun x:Nat=>Value.int .i64 x))[j]? = some u->W.cell? ⟨gf,j,none⟩=some u:=by
  intro W hW j u hj;have hj2:j<n:=by
   rcases Nat.lt_or_ge j n with h'|h'
   ·exact h'
   ·rw[List.getElem?_eq_none (by simp;omega)]at hj;cases hj
  have hBW:At W gf _ fcs:=hAf.of_heap (by rw[hW]);rw[hBW.cell?];have e1:(fcs.take fl.length)[j]? = fcs[j]?:=by rw[List.getElem?_take,if_pos (by omega)]
  rw[<-e1,htk,<-hj,List.map_take,List.getElem?_take,if_pos hj2]
 have k1:n<=pG:=by omega
 have k2:(0:Int)<=(n:Int):=by omega
 have k3:((n:Int)).toNat=n:=by omega
 have k4:(n:Int)<=(pG:Int):=by omega
 go_region_law (refine step_append_grows rfl (.tmp 26) (.tmp 29) 51 rfl 3 i0 (.int .i64 0) 1 8 underlying51 hi hz0 hz1 hz2 rfl (by decide) none 0 0 [] (by simp[Act.eval,Act.put]) (fun _=>⟨rfl,rfl⟩) rfl (by intro b1 hb1;cases hb1) ⟨gf,0,none⟩ n pG ((fl.take n).map (fun x:Nat=>Value.int .i64 x)) (by simp[Act.eval,Act.put]) (by simp;omega) (by intro j u hj;rw[Addr.add_lit,Nat.zero_add];exact hnews _ rfl j u hj) (KA _) (by omega) (by unfold maxLen;omega) (by omega) ?_;intro v' w3 hown3 hgrow;obtain⟨a3,cap3,rfl⟩:=ak hown3;have p3:=hA2.drew.of_heap (hgrow.block vb hA2.drew.lt (by simp));have g3:w3.cell? ⟨vb,3,none⟩=some (.slice none 0 0):=p3.cell? 3;have z3:w3.frozen? ⟨vb,3,none⟩=false:=p3.frozen 3)
 have hlt':(fl.take n).length=n:=by rw[List.length_take];omega
 have hown4:w3.ownsRow w2.heap.size 3 1 (.slice a3 n cap3) n ((fl.take n).map (fun x:Nat=>Value.int .i64 x)):=by simpa using hown3
 obtain⟨bg,bc,hv3,hbg,hN⟩:=nJ hown4 (by intro e;rw[e]at hlt';simp at hlt';omega);rw[hlt']at hv3;obtain⟨rfl,rfl⟩:a3=some ⟨bg,0,none⟩/\cap3=bc:=by simpa using hv3
 have hF:=EH h hvb hbase hdg hT hdl hA hS.drew hgrow hn hf bg cap3 hbg hN;generalize hW:w3.setCell ⟨vb,3,none⟩ (.slice (some ⟨bg,0,none⟩) n cap3)=W4 at *;have d1:W4.cell? ⟨s.rb,1,none⟩=some (.slice (some ⟨b,0,none⟩) s.af.length cap):=by
  rw[<-hW];have q:=hS.drew.grown hgrow (fun _ h=>by cases h);have q2:Same [vb] w (w3.setCell ⟨vb,3,none⟩ (.slice (some ⟨bg,0,none⟩) n cap3)):=(q.mono (by simp)).set _ _ _ (by simp);have:=(q2.at hpo (by simp;exact fun e=>hvb (by rw[<-e];exact s.iH))).cell? 1;rw[hlg]at this;exact this
 have d0:W4.cell? ⟨vb,0,none⟩=some (.string t):=by
  obtain⟨bg',dg',_,_,_,_,hV⟩:=hF.ex;obtain⟨_,_,_,q,_⟩:=hV.ex;exact q.cell? 0
 obtain⟨cs,hB4,hcs,hcsl⟩:=hF.ref.arr b hlg;clear hW hown3 hown4 hgrow hN hv3 p3 g3 z3 hnews hAf htk hownF e3 hA2 hA hT hown hB hR c1 hpo hS hi hz0 hz1 hz2
 go_wp2
 go_loopw [8] (fun i wr=>∃k:Nat,k<=p/\i=.int .i64 k/\Same [] W4 wr/\wr.heap=W4.heap) (fun i _=>p-(intOf i).toNat)
 case atStart=>exact⟨0,Nat.zero_le _,rfl,Same.refl _ _,rfl⟩
 case round=>
  obtain⟨k,hk,rfl,hS4,hhp⟩:=hrel;have r1:=hF.ref.iW hS4;have x1:wr.cell? ⟨s.rb,1,none⟩=some (.slice (some ⟨b,0,none⟩) s.af.length cap):=by rw[<-d1];simp[World.cell?,hhp]
  have x0:wr.cell? ⟨vb,0,none⟩=some (.string t):=by rw[<-d0];simp[World.cell?,hhp]
  by_cases hkp:k<p
  ·obtain⟨b',hb',y1,hm1⟩:=r1.cell k (by omega);obtain rfl:b'=b:=by rw[hlg]at hb';exact(Option.some.inj hb').symm
   obtain⟨_,_,_,hv,_⟩:=(r1.af _ hm1).ex;have y2:wr.cell? ⟨(s.af[k]!).vb,0,none⟩=some (.string (s.af[k]!).name):=hv.cell? 0;have hless:Op.bytesLess (s.af[k]!).name.toList t.toList=true:=by rw[LZ];exact decide_eq_true (hlt k hkp)
   clear hv hm1 r1;generalize (s.af[k]!).vb=ub at *;generalize (s.af[k]!).name=un at *;have l3:(k:Int)<(s.af.length:Int):=by omega
   go_wp2
   go_region
   go_wp2
   go_roundw
   case rel=>exact⟨k+1,by omega,by go_num,hS4.drew,hhp⟩
   case measure=>simp[intOf];omega
  ·have ek:k=p:=by omega
   subst ek;obtain⟨cs1,hB1,hcs1,hcl1⟩:=r1.arr b hlg;by_cases hkl:k<s.af.length
   ·obtain⟨b',hb',y1,hm1⟩:=r1.cell k hkl;obtain rfl:b'=b:=by rw[hlg]at hb';exact(Option.some.inj hb').symm
    obtain⟨_,_,_,hv,_⟩:=(r1.af _ hm1).ex;have y2:wr.cell? ⟨(s.af[k]!).vb,0,none⟩=some (.string (s.af[k]!).name):=hv.cell? 0;have hless:Op.bytesLess (s.af[k]!).name.toList t.toList=false:=by rw[LZ];exact decide_eq_false (by have:=hge hkl;omega)
    clear hv hm1;generalize (s.af[k]!).vb=ub at *;generalize (s.af[k]!).name=un at *;have l3:(k:Int)<(s.af.length:Int):=by omega
    have olds:∀(W:World),W.heap=wr.heap->∀j u,((s.af.take k).map (fun v=>ptr v.vb))[j]? = some u->W.cell? ⟨b',j,none⟩=some u:=by
     intro W hW j u hj;have hj2:j<k:=by
      rcases Nat.lt_or_ge j k with h'|h'
      ·exact h'
      ·rw[List.getElem?_eq_none (by simp;omega)]at hj;cases hj
     have hBW:At W b' _ cs1:=hB1.of_heap (by rw[hW]);rw[hBW.cell?];have e1:(cs1.take s.af.length)[j]? = cs1[j]?:=by rw[List.getElem?_take,if_pos (by omega)]
     rw[<-e1,hcs1,<-hj,List.map_take,List.getElem?_take,if_pos hj2]
    have k5:k<=cap:=by omega
    have k6:(k:Int)<=(cap:Int):=by omega
    go_wp2_with fail
    go_region
    go_wp2_with (at_builtin;refine wpList_append_own _ rfl _ _ 82 rfl W4.heap.size 115 i1 (.pointer none) 1 8 underlying82 ki kz0 kz1 kz2 rfl (by decide) _ _ _ rfl (World.ownsRow_nil _ _ _ _) ⟨b',0,none⟩ k cap ((s.af.take k).map (fun v=>ptr v.vb)) rfl ?n1 ?c1 ?c2 ?c3 ?c4 ?c5 ?_)
    case n1=>simp;omega
    case c1=>intro j u hj;rw[Addr.add_lit,Nat.zero_add];exact olds _ rfl j u hj
    case c2=>exact tK _
    case c3=>unfold maxLen;omega
    case c4=>omega
    case c5=>have:=hS4.size;simpa using this
    intro v5 w5 hown5 rC _;have S5:Same [] W4 w5:=hS4.drew.grown rC (by simp[Value.ownBlock]);obtain⟨a5,cap5,rfl⟩:=ak hown5;have x5:w5.cell? ⟨s.rb,1,none⟩=some (.slice (some ⟨b',0,none⟩) s.af.length cap):=by
     rw[<-d1];have:w5.heap[s.rb]? = W4.heap[s.rb]?:=S5.block _ (by obtain⟨c',q,_⟩:=hF.ref.pool;exact q.lt) (by simp);simp[World.cell?,this]
    have hs5:=S5.size;clear y1 y2 x1 x0 rC
    go_wp2_with (at_builtin;refine wpList_append_own _ rfl _ _ 82 rfl W4.heap.size 115 i1 (.pointer none) 1 8 underlying82 ki kz0 kz1 kz2 rfl (by decide) _ _ _ rfl (hown5.alloc _) ⟨w5.heap.size,0,none⟩ 1 1 [ptr vb] rfl rfl ?c1 ?c2 ?c3 ?c4 ?c5 ?_)
    case c1=>
     intro j u hj
     match j,hj with
     | 0,hj=>simp at hj;subst hj;simp[Addr.add,ptr]
    case c2=>intro u hu;simp at hu;subst hu;rfl
    case c3=>unfold maxLen;omega
    case c4=>omega
    case c5=>simp;omega
    intro v6 w6 hown6 hgrow6 _;have S6:Same [] W4 w6:=(S5.alloc _).grown hgrow6 (fun i hi hl=>by have:=aI hown5 i hi;omega);obtain⟨a6,cap6,rfl⟩:=ak hown6;have x6:w6.cell? ⟨s.rb,1,none⟩=some (.slice (some ⟨b',0,none⟩) s.af.length cap):=by
     rw[<-d1];have:w6.heap[s.rb]? = W4.heap[s.rb]?:=S6.block _ (by obtain⟨c',q,_⟩:=hF.ref.pool;exact q.lt) (by simp);simp[World.cell?,this]
    have hs6:=S6.size;clear x5 hown5 hgrow6;have k7:((k:Int)).toNat=k:=by omega
    go_wp2_with (at_builtin;refine wpList_append_own _ rfl _ _ 82 rfl W4.heap.size 115 i1 (.pointer none) 1 8 underlying82 ki kz0 kz1 kz2 rfl (by decide) _ _ _ rfl hown6 ⟨b',k,none⟩ (s.af.length-k) (cap-k) ((s.af.drop k).map (fun v=>ptr v.vb)) rfl ?n1 ?c1 ?c2 ?c3 ?c4 ?c5 ?_)
    case n1=>simp
    case c1=>
     intro j u hj;have hj2:k+j<s.af.length:=by
      rcases Nat.lt_or_ge (k+j) s.af.length with h'|h'
      ·exact h'
      ·rw[List.getElem?_eq_none (by simp;omega)]at hj;cases hj
     have hBW:At w6 b' _ cs:=S6.at hB4 (by simp);rw[Addr.add_lit,hBW.cell?];have e1:(cs.take s.af.length)[k+j]? = cs[k+j]?:=by rw[List.getElem?_take,if_pos (by omega)]
     rw[<-e1,hcs,<-hj,List.map_drop,List.getElem?_drop]
    case c2=>exact tK _
    case c3=>unfold maxLen;omega
    case c4=>omega
    case c5=>omega
    intro v7 w7 mM kJ _;have S7:Same [] W4 w7:=S6.grown kJ (fun i hi hl=>by have:=aI hown6 i hi;omega);have pV:w7.ownsRow W4.heap.size 115 1 v7 (k+1+(s.af.length-k)) ((iP k ⟨vb,0,0,none,t,bC,data,fl.take n,[],false⟩ s.af).map (fun v=>ptr v.vb)):=by
     simpa [iP,List.map_take,List.map_drop] using mM
    obtain⟨a7,SB,rfl⟩:=ak pV;have x7:w7.cell? ⟨s.rb,1,none⟩=some (.slice (some ⟨b',0,none⟩) s.af.length cap):=by
     rw[<-d1];have:w7.heap[s.rb]? = W4.heap[s.rb]?:=S7.block _ (by obtain⟨c',q,_⟩:=hF.ref.pool;exact q.lt) (by simp);simp[World.cell?,this]
    have f7:w7.frozen? ⟨s.rb,1,none⟩=false:=by
     obtain⟨c',q,_⟩:=hF.ref.pool;exact(S7.at q (by simp)).frozen 1
    have hD:=wQ hF hm S7 a7 SB _ (by omega) pV (Nat.le_of_lt hkl);clear mM pV kJ hown6 x6 hF hB4 hcs hB1 hcs1 r1 h olds
    go_wp2
    go_ret
    exact⟨rfl,hD⟩
   ·obtain rfl:k=s.af.length:=by omega
    by_cases hcl:cap=s.af.length
    ·have k8:(cap:Int)=(s.af.length:Int):=by omega
     subst hcl;have olds:∀(W:World),W.heap=wr.heap->∀j u,((s.af.take s.af.length).map (fun v=>ptr v.vb))[j]? = some u->W.cell? ⟨b,j,none⟩=some u:=by
      intro W hW j u hj;have hj2:j<s.af.length:=by
       rcases Nat.lt_or_ge j s.af.length with h'|h'
       ·exact h'
       ·rw[List.getElem?_eq_none (by simp;omega)]at hj;cases hj
      have hBW:At W b _ cs1:=hB1.of_heap (by rw[hW]);rw[hBW.cell?];have e1:(cs1.take s.af.length)[j]? = cs1[j]?:=by rw[List.getElem?_take,if_pos (by omega)]
      rw[<-e1,hcs1,<-hj,List.map_take,List.getElem?_take,if_pos hj2]
     have k5:s.af.length<=s.af.length:=by omega
     have k6:(s.af.length:Int)<=(s.af.length:Int):=by omega
     go_wp2_with fail
     go_region
     go_wp2_with (at_builtin;refine wpList_append_own _ rfl _ _ 82 rfl W4.heap.size 115 i1 (.pointer none) 1 8 underlying82 ki kz0 kz1 kz2 rfl (by decide) _ _ _ rfl (World.ownsRow_nil _ _ _ _) ⟨b,0,none⟩ s.af.length s.af.length ((s.af.take s.af.length).map (fun v=>ptr v.vb)) rfl ?n1 ?c1 ?c2 ?c3 ?c4 ?c5 ?_)
     case n1=>simp
     case c1=>intro j u hj;rw[Addr.add_lit,Nat.zero_add];exact olds _ rfl j u hj
     case c2=>exact tK _
     case c3=>unfold maxLen;omega
     case c4=>omega
     case c5=>have:=hS4.size;simpa using this
     intro v5 w5 hown5 rC _;have S5:Same [] W4 w5:=hS4.drew.grown rC (by simp[Value.ownBlock]);obtain⟨a5,cap5,rfl⟩:=ak hown5;have x5:w5.cell? ⟨s.rb,1,none⟩=some (.slice (some ⟨b,0,none⟩) s.af.length s.af.length):=by
      rw[<-d1];have:w5.heap[s.rb]? = W4.heap[s.rb]?:=S5.block _ (by obtain⟨c',q,_⟩:=hF.ref.pool;exact q.lt) (by simp);simp[World.cell?,this]
     have hs5:=S5.size;clear x1 x0 rC
     go_wp2_with (at_builtin;refine wpList_append_own _ rfl _ _ 82 rfl W4.heap.size 115 i1 (.pointer none) 1 8 underlying82 ki kz0 kz1 kz2 rfl (by decide) _ _ _ rfl (hown5.alloc _) ⟨w5.heap.size,0,none⟩ 1 1 [ptr vb] rfl rfl ?c1 ?c2 ?c3 ?c4 ?c5 ?_)
     case c1=>
      intro j u hj
      match j,hj with
      | 0,hj=>simp at hj;subst hj;simp[Addr.add,ptr]
     case c2=>intro u hu;simp at hu;subst hu;rfl
     case c3=>unfold maxLen;omega
     case c4=>omega
     case c5=>simp;omega
     intro v6 w6 hown6 hgrow6 _;have S6:Same [] W4 w6:=(S5.alloc _).grown hgrow6 (fun i hi hl=>by have:=aI hown5 i hi;omega);obtain⟨a6,cap6,rfl⟩:=ak hown6;have x6:w6.cell? ⟨s.rb,1,none⟩=some (.slice (some ⟨b,0,none⟩) s.af.length s.af.length):=by
      rw[<-d1];have:w6.heap[s.rb]? = W4.heap[s.rb]?:=S6.block _ (by obtain⟨c',q,_⟩:=hF.ref.pool;exact q.lt) (by simp);simp[World.cell?,this]
     have hs6:=S6.size;clear x5 hown5 hgrow6;have k7:((s.af.length:Int)).toNat=s.af.length:=by omega
     go_wp2_with (at_builtin;refine wpList_append_own _ rfl _ _ 82 rfl W4.heap.size 115 i1 (.pointer none) 1 8 underlying82 ki kz0 kz1 kz2 rfl (by decide) _ _ _ rfl hown6 ⟨b,0,none⟩ 0 0 [] rfl ?n1 ?c1 ?c2 ?c3 ?c4 ?c5 ?_)
     case n1=>simp
     case c1=>intro j u hj;simp at hj
     case c2=>intro u hu;simp at hu
     case c3=>unfold maxLen;omega
     case c4=>omega
     case c5=>omega
     intro v7 w7 mM kJ _;have S7:Same [] W4 w7:=S6.grown kJ (fun i hi hl=>by have:=aI hown6 i hi;omega);have pV:w7.ownsRow W4.heap.size 115 1 v7 (s.af.length+1) ((iP s.af.length ⟨vb,0,0,none,t,bC,data,fl.take n,[],false⟩ s.af).map (fun v=>ptr v.vb)):=by
      simpa [iP,List.map_take,List.map_drop] using mM
     obtain⟨a7,SB,rfl⟩:=ak pV;have x7:w7.cell? ⟨s.rb,1,none⟩=some (.slice (some ⟨b,0,none⟩) s.af.length s.af.length):=by
      rw[<-d1];have:w7.heap[s.rb]? = W4.heap[s.rb]?:=S7.block _ (by obtain⟨c',q,_⟩:=hF.ref.pool;exact q.lt) (by simp);simp[World.cell?,this]
     have f7:w7.frozen? ⟨s.rb,1,none⟩=false:=by
      obtain⟨c',q,_⟩:=hF.ref.pool;exact(S7.at q (by simp)).frozen 1
     have hD:=wQ hF hm S7 a7 SB _ (by omega) pV (Nat.le_refl _);clear mM pV kJ hown6 x6 hF hB4 hcs hB1 hcs1 r1 h olds
     go_wp2
     go_ret
     exact⟨rfl,hD⟩
    ·have k8:s.af.length<cap:=by omega
     have k9:¬(cap:Int)=(s.af.length:Int):=by omega
     have olds:∀(W:World),W.heap=wr.heap->∀j u,((s.af.take s.af.length).map (fun v=>ptr v.vb))[j]? = some u->W.cell? ⟨b,j,none⟩=some u:=by
      intro W hW j u hj;have hj2:j<s.af.length:=by
       rcases Nat.lt_or_ge j s.af.length with h'|h'
       ·exact h'
       ·rw[List.getElem?_eq_none (by simp;omega)]at hj;cases hj
      have hBW:At W b _ cs1:=hB1.of_heap (by rw[hW]);rw[hBW.cell?];have e1:(cs1.take s.af.length)[j]? = cs1[j]?:=by rw[List.getElem?_take,if_pos (by omega)]
      rw[<-e1,hcs1,<-hj,List.map_take,List.getElem?_take,if_pos hj2]
     have k5:s.af.length<=cap:=by omega
     have k6:(s.af.length:Int)<=(cap:Int):=by omega
     go_wp2_with fail
     go_region
     go_wp2_with (at_builtin;refine wpList_append_own _ rfl _ _ 82 rfl W4.heap.size 115 i1 (.pointer none) 1 8 underlying82 ki kz0 kz1 kz2 rfl (by decide) _ _ _ rfl (World.ownsRow_nil _ _ _ _) ⟨b,0,none⟩ s.af.length cap ((s.af.take s.af.length).map (fun v=>ptr v.vb)) rfl ?n1 ?c1 ?c2 ?c3 ?c4 ?c5 ?_)
     case n1=>simp
     case c1=>intro j u hj;rw[Addr.add_lit,Nat.zero_add];exact olds _ rfl j u hj
     case c2=>exact tK _
     case c3=>unfold maxLen;omega
     case c4=>omega
     case c5=>have:=hS4.size;simpa using this
     intro v5 w5 hown5 rC _;have S5:Same [] W4 w5:=hS4.drew.grown rC (by simp[Value.ownBlock]);obtain⟨a5,cap5,rfl⟩:=ak hown5;have x5:w5.cell? ⟨s.rb,1,none⟩=some (.slice (some ⟨b,0,none⟩) s.af.length cap):=by
      rw[<-d1];have:w5.heap[s.rb]? = W4.heap[s.rb]?:=S5.block _ (by obtain⟨c',q,_⟩:=hF.ref.pool;exact q.lt) (by simp);simp[World.cell?,this]
     have hs5:=S5.size;clear x1 x0 rC
     go_wp2_with (at_builtin;refine wpList_append_own _ rfl _ _ 82 rfl W4.heap.size 115 i1 (.pointer none) 1 8 underlying82 ki kz0 kz1 kz2 rfl (by decide) _ _ _ rfl (hown5.alloc _) ⟨w5.heap.size,0,none⟩ 1 1 [ptr vb] rfl rfl ?c1 ?c2 ?c3 ?c4 ?c5 ?_)
     case c1=>
      intro j u hj
      match j,hj with
      | 0,hj=>simp at hj;subst hj;simp[Addr.add,ptr]
     case c2=>intro u hu;simp at hu;subst hu;rfl
     case c3=>unfold maxLen;omega
     case c4=>omega
     case c5=>simp;omega
     intro v6 w6 hown6 hgrow6 _;have S6:Same [] W4 w6:=(S5.alloc _).grown hgrow6 (fun i hi hl=>by have:=aI hown5 i hi;omega);obtain⟨a6,cap6,rfl⟩:=ak hown6;have x6:w6.cell? ⟨s.rb,1,none⟩=some (.slice (some ⟨b,0,none⟩) s.af.length cap):=by
      rw[<-d1];have:w6.heap[s.rb]? = W4.heap[s.rb]?:=S6.block _ (by obtain⟨c',q,_⟩:=hF.ref.pool;exact q.lt) (by simp);simp[World.cell?,this]
     have hs6:=S6.size;clear x5 hown5 hgrow6;have k7:((s.af.length:Int)).toNat=s.af.length:=by omega
     go_wp2_with (at_builtin;refine wpList_append_own _ rfl _ _ 82 rfl W4.heap.size 115 i1 (.pointer none) 1 8 underlying82 ki kz0 kz1 kz2 rfl (by decide) _ _ _ rfl hown6 ⟨b,s.af.length,none⟩ 0 (cap-s.af.length) [] rfl ?n1 ?c1 ?c2 ?c3 ?c4 ?c5 ?_)
     case n1=>simp
     case c1=>intro j u hj;simp at hj
     case c2=>intro u hu;simp at hu
     case c3=>unfold maxLen;omega
     case c4=>omega
     case c5=>omega
     intro v7 w7 mM kJ _;have S7:Same [] W4 w7:=S6.grown kJ (fun i hi hl=>by have:=aI hown6 i hi;omega);have pV:w7.ownsRow W4.heap.size 115 1 v7 (s.af.length+1) ((iP s.af.length ⟨vb,0,0,none,t,bC,data,fl.take n,[],false⟩ s.af).map (fun v=>ptr v.vb)):=by
      simpa [iP,List.map_take,List.map_drop] using mM
     obtain⟨a7,SB,rfl⟩:=ak pV;have x7:w7.cell? ⟨s.rb,1,none⟩=some (.slice (some ⟨b,0,none⟩) s.af.length cap):=by
      rw[<-d1];have:w7.heap[s.rb]? = W4.heap[s.rb]?:=S7.block _ (by obtain⟨c',q,_⟩:=hF.ref.pool;exact q.lt) (by simp);simp[World.cell?,this]
     have f7:w7.frozen? ⟨s.rb,1,none⟩=false:=by
      obtain⟨c',q,_⟩:=hF.ref.pool;exact(S7.at q (by simp)).frozen 1
     have hD:=wQ hF hm S7 a7 SB _ (by omega) pV (Nat.le_refl _);clear mM pV kJ hown6 x6 hF hB4 hcs hB1 hcs1 r1 h olds
     go_wp2
     go_ret
     exact⟨rfl,hD⟩
theorem NC(s:aQ)(vb n:Nat)(t bC:ByteArray)(base:Nat)(data:List ByteArray)(w:World)(h:aO w s)(hlg:s.lg=none)(hB:Bare w vb t bC base data)(hd:data≠[])(hdl:data.length<=200)(hf:n<=(s.dD s.n).length)(hn:1<=n/\n<=200)
 (hvb:vb∉s.foot) (hbase:vb<base) :
 Calls prog 85 #[.pointer (some ⟨s.rb,0,none⟩),.pointer (some ⟨vb,0,none⟩),.int .i64 n] w fun e w'=>e=.returned (.int .i64 0)/\E5 w w' s vb t bC data ((s.dD s.n).take n) 0 base:=by
 have hR:=iY s w h;obtain⟨u,hA,hown⟩:=hB.ex;obtain⟨dg,dc,rfl,hdg,hT⟩:=uZ hown hd;obtain⟨cap,hpo,h1,h2⟩:=h.pool;have hfl:=s.uf s.n;have hsn:=h.n;obtain⟨hv0,rfl⟩:=h2 hlg;have c1:w.cell? ⟨s.rb,1,none⟩=some (.slice none 0 0):=by have:=hpo.cell? 1;rw[hlg,hv0]at this;exact this
 generalize s.dD s.n=fl at *;have l2:¬(fl.length:Int)<(n:Int):=by omega
 obtain⟨i0,hi,hz0,hz1,hz2⟩:=info_parts Tryz.info3;obtain⟨i1,ki,kz0,kz1,kz2⟩:=info_parts Tryz.NH
 go_enter func85,ntmps85
 go_wp2_with (first|(go_at_call 63;refine hR.mono ?_;rintro e w2 ⟨u,rfl,hownF,hS⟩;obtain⟨ua,pG,rfl⟩:=ak hownF))
 obtain⟨gf,fcs,rfl,hgf,hAf,hle,hcl,htk⟩:=jk hownF (by omega);have hsz:=hS.size;have hA2:=hS.at hA (by simp);have e3:w2.cell? ⟨vb,3,none⟩=some (.slice none 0 0):=hA2.cell? 3;have hnews:∀(W:World),W.heap=w2.heap->∀j u,((fl.take n).map (fun x:Nat=>Value.int .i64 x))[j]? = some u->W.cell? ⟨gf,j,none⟩=some u:=by
  intro W hW j u hj;have hj2:j<n:=by
   rcases Nat.lt_or_ge j n with h'|h'
   ·exact h'
   ·rw[List.getElem?_eq_none (by simp;omega)]at hj;cases hj
  have hBW:At W gf _ fcs:=hAf.of_heap (by rw[hW]);rw[hBW.cell?];have e1:(fcs.take fl.length)[j]? = fcs[j]?:=by rw[List.getElem?_take,if_pos (by omega)]
  rw[<-e1,htk,<-hj,List.map_take,List.getElem?_take,if_pos hj2]
 have k1:n<=pG:=by omega
 have k2:(0:Int)<=(n:Int):=by omega
 have k3:((n:Int)).toNat=n:=by omega
 have k4:(n:Int)<=(pG:Int):=by omega
 go_region_law (refine step_append_grows rfl (.tmp 26) (.tmp 29) 51 rfl 3 i0 (.int .i64 0) 1 8 underlying51 hi hz0 hz1 hz2 rfl (by decide) none 0 0 [] (by simp[Act.eval,Act.put]) (fun _=>⟨rfl,rfl⟩) rfl (by intro b1 hb1;cases hb1) ⟨gf,0,none⟩ n pG ((fl.take n).map (fun x:Nat=>Value.int .i64 x)) (by simp[Act.eval,Act.put]) (by simp;omega) (by intro j u hj;rw[Addr.add_lit,Nat.zero_add];exact hnews _ rfl j u hj) (KA _) (by omega) (by unfold maxLen;omega) (by omega) ?_;intro v' w3 hown3 hgrow;obtain⟨a3,cap3,rfl⟩:=ak hown3;have p3:=hA2.drew.of_heap (hgrow.block vb hA2.drew.lt (by simp));have g3:w3.cell? ⟨vb,3,none⟩=some (.slice none 0 0):=p3.cell? 3;have z3:w3.frozen? ⟨vb,3,none⟩=false:=p3.frozen 3)
 have hlt':(fl.take n).length=n:=by rw[List.length_take];omega
 have hown4:w3.ownsRow w2.heap.size 3 1 (.slice a3 n cap3) n ((fl.take n).map (fun x:Nat=>Value.int .i64 x)):=by simpa using hown3
 obtain⟨bg,bc,hv3,hbg,hN⟩:=nJ hown4 (by intro e;rw[e]at hlt';simp at hlt';omega);rw[hlt']at hv3;obtain⟨rfl,rfl⟩:a3=some ⟨bg,0,none⟩/\cap3=bc:=by simpa using hv3
 have hF:=EH h hvb hbase hdg hT hdl hA hS.drew hgrow hn hf bg cap3 hbg hN;generalize hW:w3.setCell ⟨vb,3,none⟩ (.slice (some ⟨bg,0,none⟩) n cap3)=W4 at *;have d1:W4.cell? ⟨s.rb,1,none⟩=some (.slice none 0 0):=by
  rw[<-hW];have q:=hS.drew.grown hgrow (fun _ h=>by cases h);have q2:Same [vb] w (w3.setCell ⟨vb,3,none⟩ (.slice (some ⟨bg,0,none⟩) n cap3)):=(q.mono (by simp)).set _ _ _ (by simp);have:=(q2.at hpo (by simp;exact fun e=>hvb (by rw[<-e];exact s.iH))).cell? 1;rw[hlg,hv0]at this;exact this
 have d0:W4.cell? ⟨vb,0,none⟩=some (.string t):=by
  obtain⟨bg',dg',_,_,_,_,hV⟩:=hF.ex;obtain⟨_,_,_,q,_⟩:=hV.ex;exact q.cell? 0
 clear hW hown3 hown4 hgrow hN hv3 p3 g3 z3 hnews hAf htk hownF e3 hA2 hA hT hown hB hR c1 hpo hS hi hz0 hz1 hz2
 go_wp2
 go_loopw [8] (fun i wr=>i=.int .i64 0/\Same [] W4 wr/\wr.heap=W4.heap) (fun i _=>0)
 case atStart=>exact⟨rfl,Same.refl _ _,rfl⟩
 case round=>
  obtain⟨rfl,hS4,hhp⟩:=hrel;have x1:wr.cell? ⟨s.rb,1,none⟩=some (.slice none 0 0):=by rw[<-d1];simp[World.cell?,hhp]
  have x0:wr.cell? ⟨vb,0,none⟩=some (.string t):=by rw[<-d0];simp[World.cell?,hhp]
  go_wp2_with fail
  go_region
  go_wp2_with (at_builtin;first|(refine jU _ rfl _ _ 82 rfl W4.heap.size 115 i1 1 underlying82 ki _ 0 [] rfl (World.ownsRow_nil _ _ _ _) rfl ?_)|(refine wpList_append_own _ rfl _ _ 82 rfl W4.heap.size 115 i1 (.pointer none) 1 8 underlying82 ki kz0 kz1 kz2 rfl (by decide) _ _ _ rfl (World.ownsRow_nil _ _ _ _) _ 1 1 [ptr vb] rfl rfl ?c1 ?c2 ?c3 ?c4 ?c5 ?_))
  case c1=>
   intro j u hj
   match j,hj with
   | 0,hj=>simp at hj;subst hj;simp[Addr.add,ptr,<-hhp]
  case c2=>intro u hu;simp at hu;subst hu;rfl
  case c3=>unfold maxLen;omega
  case c4=>omega
  case c5=>have:=hS4.size;simp;omega
  intro v6 w6 hown6 hgrow6 _;have S6:Same [] W4 w6:=(hS4.alloc _).drew.grown hgrow6 (by simp[Value.ownBlock]);obtain⟨a6,cap6,rfl⟩:=ak hown6;have x6:w6.cell? ⟨s.rb,1,none⟩=some (.slice none 0 0):=by
   rw[<-d1];have:w6.heap[s.rb]? = W4.heap[s.rb]?:=S6.block _ (by obtain⟨c',q,_⟩:=hF.ref.pool;exact q.lt) (by simp);simp[World.cell?,this]
  have f6:w6.frozen? ⟨s.rb,1,none⟩=false:=by
   obtain⟨c',q,_⟩:=hF.ref.pool;exact(S6.at q (by simp)).frozen 1
  have pV:w6.ownsRow W4.heap.size 115 1 (.slice a6 1 cap6) 1 ((iP 0 ⟨vb,0,0,none,t,bC,data,fl.take n,[],false⟩ s.af).map (fun v=>ptr v.vb)):=by
   simpa [iP,hv0] using hown6
  have hD:=wQ hF (by rw[hv0];simp) S6 a6 cap6 1 (by rw[hv0];rfl) pV (Nat.zero_le _);clear hgrow6 hF h x1 x0
  go_wp2_with (at_builtin;refine jU _ rfl _ _ 82 rfl W4.heap.size 115 i1 1 underlying82 ki _ _ _ rfl hown6 rfl ?_)
  go_ret
  exact⟨rfl,hD⟩
theorem gY{l:List ay}{i:Nat}(h:i<l.length):l[i]!∈l:=by
 rw[getElem!_pos l i h];exact List.getElem_mem h
theorem aQ.iI{s:aQ}(h:s.foot.Nodup):s.rb∉s.lg.toList/\(∀v∈s.af,s.rb∉v.foot)/\(∀b,s.lg=some b->∀v∈s.af,b∉v.foot)/\(s.af.flatMap ay.foot).Nodup:=by
 unfold aQ.foot at h;rw[List.nodup_cons,List.nodup_append]at h;obtain⟨h1,h2,h3,h4⟩:=h;simp only[List.mem_append,not_or,List.mem_flatMap,not_exists,not_and]at h1;refine⟨h1.1,fun v hv hk=>h1.2 v hv hk,fun b hb v hv hk=>?_,h3⟩;exact h4 b (by simp[hb]) b (List.mem_flatMap.2 ⟨v,hv,hk⟩) rfl
theorem o9{s:aQ}(h:s.foot.Nodup){i j:Nat}(hi:i<s.af.length)(hj:j<s.af.length)(hne:i≠j){k:Nat}(hk:k∈(s.af[i]!).foot):k∉(s.af[j]!).foot:=fun hk'=>
 hne ((iM ay.foot s.af (aQ.iI h).2.2.2).2 i j hi hj k ⟨_,by rw[getElem!_pos s.af i hi]at hk;exact⟨List.getElem?_eq_getElem hi,hk⟩⟩ ⟨_,by rw[getElem!_pos s.af j hj]at hk';exact⟨List.getElem?_eq_getElem hj,hk'⟩⟩)
theorem oC{l:List ay}{i:Nat}{x y:ay}(hi:i<l.length)(h:y∈l.set i x):y=x\/∃j,j<l.length/\j≠i/\l[j]! = y:=by
 obtain⟨j,hj,rfl⟩:=List.getElem_of_mem h;rw[List.length_set]at hj;rw[List.getElem_set];by_cases e:i=j
 ·rw[if_pos e];exact Or.inl rfl
 ·rw[if_neg e];exact Or.inr ⟨j,hj,fun q=>e q.symm,getElem!_pos l j hj⟩
theorem qE{w w':World}{s:aQ}(h:aO w s)(hnd:s.foot.Nodup)(i:Nat)(hi:i<s.af.length)(x:ay)(hvb:x.vb=(s.af[i]!).vb)(hV:dU w' x){S:List Nat}(hS:Same S w w')(hsub:∀k∈S,k∈(s.af[i]!).foot):aO w' { s with af:=s.af.set i x }:=by
 obtain⟨cap,hp,h1,h2⟩:=h.pool;obtain⟨p1,p2,p3,p4⟩:=aQ.iI hnd;have hm:=gY hi;refine⟨⟨cap,?_,?_,fun hq=>?_⟩,fun b hb=>?_,fun v hv=>?_,?_,h.n⟩
 ·show At w' s.rb _ [.int .i64 s.n,.slice (s.lg.map fun b=>⟨b,0,none⟩) (s.af.set i x).length cap];rw[List.length_set];exact hS.at hp fun hk=>p2 _ hm (hsub _ hk)
 ·show(s.af.set i x).length<=cap;rw[List.length_set];exact h1
 ·have:=(h2 hq).1;rw[this]at hi;simp at hi
 ·obtain⟨cs,hc,h3,h4⟩:=h.arr b hb;refine⟨cs,hS.at hc fun hk=>p3 b hb _ hm (hsub _ hk),?_,?_⟩
  ·show cs.take (s.af.set i x).length=(s.af.set i x).map fun v=>ptr v.vb
   rw[List.length_set,h3];apply List.ext_getElem
   ·simp
   ·intro j hj1 hj2;simp only[List.getElem_map,List.getElem_set];by_cases e:i=j
    ·subst e;rw[if_pos rfl,hvb,getElem!_pos s.af i hi]
    ·rw[if_neg e]
  ·show(s.af.set i x).length<=_;rw[List.length_set];exact h4
 ·rcases oC hi hv with rfl|⟨j,hj,hne,rfl⟩
  ·exact hV
  ·exact(h.af _ (gY hj)).uy hS fun k hk hk'=>o9 hnd hj hi hne hk (hsub _ hk')
 ·show(s.af.set i x).length<=20;rw[List.length_set];exact h.few
theorem nM{s:aQ}(i:Nat)(hi:i<s.af.length)(x:ay){B:Nat}(hf:∀k∈x.foot,k∈(s.af[i]!).foot\/B<=k):∀k∈aQ.foot { s with af:=s.af.set i x },k∈s.foot\/B<=k:=by
 intro k hk;rcases aQ.gm hk with h1|h1|⟨v,hv,hkv⟩
 ·exact Or.inl (by rw[h1];exact s.iH)
 ·exact Or.inl (s.zQ h1)
 ·rcases oC hi hv with rfl|⟨j,hj,hne,rfl⟩
  ·exact(hf k hkv).imp (fun h=>s.bH (gY hi) h) id
  ·exact Or.inl (s.bH (gY hj) hkv)
theorem sW(f:ay->List Nat):∀(l:List ay)(i:Nat)(x:ay),i<l.length->(l.flatMap f).Nodup->(f x).Nodup->(∀k∈f x,k∈f (l[i]!)\/k∉l.flatMap f)->((l.set i x).flatMap f).Nodup
 | [],i,x,hi,_,_,_=>by simp at hi
 | a::r,0,x,hi,hn,hx,hs=>by
  simp only[List.set_cons_zero,List.flatMap_cons,List.nodup_append]at hn ⊢;refine⟨hx,hn.2.1,fun k hk b hb e=>?_⟩;subst e;rcases hs k hk with h|h
  ·have h':k∈f a:=by simpa using h
   exact hn.2.2 k h' k hb rfl
  ·exact h (by simp[List.flatMap_cons];exact Or.inr (by simpa [List.mem_flatMap] using hb))
 | a::r,i+1,x,hi,hn,hx,hs=>by
  simp only[List.set_cons_succ,List.flatMap_cons,List.nodup_append]at hn ⊢;have hi':i<r.length:=by simpa using hi
  have e:(a::r)[i+1]! = r[i]!:=by rw[getElem!_pos _ (i+1) hi,getElem!_pos r i hi'];rfl
  rw[e]at hs;have ih:=sW f r i x hi' hn.2.1 hx fun k hk=>(hs k hk).imp id fun h h2=>h (by simp only[List.flatMap_cons,List.mem_append];exact Or.inr h2)
  refine⟨hn.1,ih,fun k hk b hb e=>?_⟩;subst e;obtain⟨v,hv,hkv⟩:=List.mem_flatMap.1 hb;rcases oC hi' hv with rfl|⟨j,hj,_,rfl⟩
  ·rcases hs k hkv with h|h
   ·exact hn.2.2 k hk k (List.mem_flatMap.2 ⟨_,gY hi',h⟩) rfl
   ·exact h (by simp only[List.flatMap_cons,List.mem_append];exact Or.inl hk)
  ·exact hn.2.2 k hk k (List.mem_flatMap.2 ⟨_,gY hj,hkv⟩) rfl
theorem jA{s:aQ}(hnd:s.foot.Nodup)(i:Nat)(hi:i<s.af.length)(x:ay)(hx:x.foot.Nodup)(hf:∀k∈x.foot,k∈(s.af[i]!).foot\/k∉s.foot):(aQ.foot { s with af:=s.af.set i x }).Nodup:=by
 obtain⟨p1,p2,p3,p4⟩:=aQ.iI hnd;have hno:∀k,k∉s.foot->k∉s.af.flatMap ay.foot:=fun k hk hm=>hk (by unfold aQ.foot;simp only[List.mem_cons,List.mem_append];exact Or.inr (Or.inr hm))
 have hfl:=sW ay.foot s.af i x hi p4 hx fun k hk=>(hf k hk).imp id (hno k)
 have hmem:∀k,k∈(s.af.set i x).flatMap ay.foot->k∈s.af.flatMap ay.foot\/k∉s.foot:=fun k hk=>by
  obtain⟨v,hv,hkv⟩:=List.mem_flatMap.1 hk;rcases oC hi hv with rfl|⟨j,hj,_,rfl⟩
  ·exact(hf k hkv).imp (fun h=>List.mem_flatMap.2 ⟨_,gY hi,h⟩) id
  ·exact Or.inl (List.mem_flatMap.2 ⟨_,gY hj,hkv⟩)
 have hnd':=hnd;unfold aQ.foot at hnd' ⊢;rw[List.nodup_cons,List.nodup_append]at hnd' ⊢;obtain⟨h1,h2,h3,h4⟩:=hnd';refine⟨fun hm=>?_,h2,hfl,fun a ha b hb e=>?_⟩
 ·rcases List.mem_append.1 hm with hm|hm
  ·exact h1 (List.mem_append.2 (Or.inl hm))
  ·rcases hmem _ hm with h|h
   ·exact h1 (List.mem_append.2 (Or.inr h))
   ·exact h s.iH
 ·subst e;rcases hmem _ hb with h|h
  ·exact h4 a ha a h rfl
  ·exact h (s.zQ (by simpa using ha))
structure bQ(w:World)(s:aQ)(w':World)(s':aQ):Prop where
 ref:aO w' s'
 nodup:s'.foot.Nodup
 same:Same s.foot w w'
 foot:∀k∈s'.foot,k∈s.foot\/w.heap.size<=k
 rb:s'.rb=s.rb
 n:s'.n=s.n
theorem bQ.still{w w':World}{s:aQ}(h:aO w s)(hnd:s.foot.Nodup)(hs:Same [] w w'):bQ w s w' s:=
 ⟨h.iW hs,hnd,hs.mono (by simp),fun k hk=>Or.inl hk,rfl,rfl⟩
theorem P5(i:Nat)(v:ay)(l:List ay):((iP i v l).flatMap ay.foot).Perm (v.foot++l.flatMap ay.foot):=by
 have h:(iP i v l).Perm (v::l):=by
  unfold iP;exact List.perm_middle.trans (List.Perm.cons _ (by rw[List.take_append_drop]))
 have:=h.flatMap_right (f:=ay.foot);simpa [List.flatMap_cons] using this
theorem dU.types{w:World}{v:ay}(h:dU w v):v.vb≠v.dg/\v.vb≠v.bg/\v.dg≠v.bg:=by
 obtain⟨dc,bc,kc,a1,a2,a3,_⟩:=h.ex;obtain⟨c2,b2,_⟩:=a2.ex;obtain⟨c3,b3,_⟩:=a3.ex;refine⟨fun e=>?_,fun e=>?_,fun e=>?_⟩
 ·rw[<-e]at b2;exact absurd (b2.inj a1).1 (by decide)
 ·rw[<-e]at b3;exact absurd (b3.inj a1).1 (by decide)
 ·rw[<-e]at b3;exact absurd (b3.inj b2).1 (by decide)
theorem aO.types{w:World}{s:aQ}(h:aO w s){b:Nat}(hb:s.lg=some b){v:ay}(hv:v∈s.af):b≠v.vb/\b≠v.dg/\b≠v.bg:=by
 obtain⟨cs,hc,_⟩:=h.arr b hb;obtain⟨dc,bc,kc,a1,a2,a3,_⟩:=(h.af v hv).ex;obtain⟨c2,b2,_⟩:=a2.ex;obtain⟨c3,b3,_⟩:=a3.ex;refine⟨fun e=>?_,fun e=>?_,fun e=>?_⟩
 ·rw[<-e]at a1;exact absurd (a1.inj hc).1 (by decide)
 ·rw[<-e]at b2;exact absurd (b2.inj hc).1 (by decide)
 ·rw[<-e]at b3;exact absurd (b3.inj hc).1 (by decide)
theorem LP{i:Nat}{v x:ay}{l:List ay}:x∈iP i v l↔x=v\/x∈l:=by
 have h:(iP i v l).Perm (v::l):=by
  unfold iP;exact List.perm_middle.trans (List.Perm.cons _ (by rw[List.take_append_drop]))
 rw[h.mem_iff,List.mem_cons]
theorem E5.after{w0 w w':World}{s:aQ}{vb:Nat}{t bC:ByteArray}{data:List ByteArray}{xs:List Nat}{p base:Nat}(hA:E5 w w' s vb t bC data xs p base)(h:aO w0 s)(hnd:s.foot.Nodup)(h0:Same [] w0 w)(hvb:w0.heap.size<=vb)(hb:w0.heap.size<=base) :
 ∃g bg dg,bQ w0 s w' { s with lg:=some g,af:=iP p ⟨vb,dg,bg,none,t,bC,data,xs,[],false⟩ s.af }:=by
 obtain⟨⟨g,bg,dg,h1,h2,h3,h4,hR⟩,hS⟩:=hA;have hs0:=h0.size;have hm:(⟨vb,dg,bg,none,t,bC,data,xs,[],false⟩:ay)∈iP p ⟨vb,dg,bg,none,t,bC,data,xs,[],false⟩ s.af:=LP.2 (Or.inl rfl);obtain⟨t1,t2,t3⟩:=(hR.af _ hm).types;obtain⟨t4,t5,t6⟩:=hR.types (b:=g) rfl hm;have hlt:=h.bn;refine⟨g,bg,dg,hR,?_,?_,?_,rfl,rfl⟩
 ·obtain⟨p1,p2,p3,p4⟩:=aQ.iI hnd;unfold aQ.foot;show(s.rb::([g]++(iP p ⟨vb,dg,bg,none,t,bC,data,xs,[],false⟩ s.af).flatMap ay.foot)).Nodup;have hp:=P5 p ⟨vb,dg,bg,none,t,bC,data,xs,[],false⟩ s.af;have hq:(s.rb::([g]++(iP p ⟨vb,dg,bg,none,t,bC,data,xs,[],false⟩ s.af).flatMap ay.foot)).Perm (s.rb::([g]++([vb,dg,bg]++s.af.flatMap ay.foot))):=
   List.Perm.cons _ (List.Perm.append_left _ (by simpa [ay.foot] using hp))
  rw[hq.nodup_iff];have hold:∀k∈s.af.flatMap ay.foot,k<w0.heap.size:=fun k hk=>by
   obtain⟨v,hv,hkv⟩:=List.mem_flatMap.1 hk;exact hlt k (s.bH hv hkv)
  have hrb:=hlt _ s.iH;have ho:∀k,w0.heap.size<=k->k∉s.af.flatMap ay.foot:=fun k hk hm=>by have:=hold k hm;omega
  have hrn:s.rb∉s.af.flatMap ay.foot:=fun hm=>by
   obtain⟨v,hv,hkv⟩:=List.mem_flatMap.1 hm;exact p2 v hv hkv
  have n1:=ho g (by omega);have n2:=ho vb hvb;have n3:=ho dg (by omega);have n4:=ho bg (by omega);simp only[List.cons_append,List.nil_append,List.nodup_cons,List.mem_cons,not_or];simp only at t1 t2 t3 t4 t5 t6;exact⟨⟨by omega,by omega,by omega,by omega,hrn⟩,⟨t4,t5,t6,n1⟩,⟨t1,t2,n2⟩,⟨t3,n3⟩,n4,p4⟩
 ·refine(h0.mono (T:=s.foot) (by simp)).step hS ?_;intro k hk hl;simp at hk;rcases hk with rfl|rfl
  ·exact s.iH
  ·omega
 ·intro k hk;rcases aQ.gm hk with e|e|⟨v,hv,hkv⟩
  ·exact Or.inl (by rw[e];exact s.iH)
  ·have:g=k:=by simpa using e
   exact Or.inr (by omega)
  ·rcases LP.1 hv with rfl|hv
   ·simp[ay.foot]at hkv;exact Or.inr (by omega)
   ·exact Or.inl (s.bH hv hkv)
structure FV(s:aQ)(t:ByteArray)(p:Nat):Prop where
 le:p<=s.af.length
 lt:∀j,j<p->bW (s.af[j]!).name t<0
 ge:p<s.af.length->¬bW (s.af[p]!).name t<0
theorem EN(s:aQ)(vb n p:Nat)(t bC:ByteArray)(base:Nat)(data:List ByteArray)(w:World)(h:aO w s)(hB:Bare w vb t bC base data)(hd:data≠[])(hdl:data.length<=200)(hm:s.af.length<20)(hf:n<=(s.dD s.n).length)(hn:1<=n/\n<=200)
 (hp:FV s t p) (hvb:vb∉s.foot) (hbase:vb<base) :
 Calls prog 85 #[.pointer (some ⟨s.rb,0,none⟩),.pointer (some ⟨vb,0,none⟩),.int .i64 n] w fun e w'=>e=.returned (.int .i64 0)/\E5 w w' s vb t bC data ((s.dD s.n).take n) p base:=by
 cases hlg:s.lg with
 | none=>
  obtain⟨cap,hpo,h1,h2⟩:=h.pool;have hv0:=(h2 hlg).1;have:p=0:=by have:=hp.le;rw[hv0]at this;simpa using this
  subst this;exact NC s vb n t bC base data w h hlg hB hd hdl hf hn hvb hbase
 | some b=>exact KC s vb n b p t bC base data w h hlg hB hd hdl hm hf hn hp.le hp.lt hp.ge hvb hbase
theorem CX(s:aQ)(t:ByteArray)(n:Nat)(w:World)(h:aO w s)(ht:t.size<=maxLen)(hc:s.dH t=0)(hn:1<=n/\n<=200)(hm:20<=s.af.length) :
 Calls prog 48 #[.pointer (some ⟨s.rb,0,none⟩),.string t,.int .i64 n] w fun e w'=>e=.returned (.int .i64 5)/\Same [] w w':=
 pO s t n w h ht hc hn _ fun w' hS hB=>(zq s _ n w' (h.iW hS) hm).mono fun e w'' ⟨h1,h2⟩=>⟨5,h1,rfl,by rw[h2];exact hS⟩
theorem Be(s:aQ)(t:ByteArray)(n:Nat)(w:World)(h:aO w s)(ht:t.size<=maxLen)(hc:s.dH t=0)(hn:1<=n/\n<=200)(hm:s.af.length<20)(hf:(s.dD s.n).length<n) :
 Calls prog 48 #[.pointer (some ⟨s.rb,0,none⟩),.string t,.int .i64 n] w fun e w'=>e=.returned (.int .i64 6)/\Same [] w w':=
 pO s t n w h ht hc hn _ fun w' hS hB=>(yZ s _ n w' (h.iW hS) hm hf hn.2).mono fun e w'' ⟨h1,h2⟩=>⟨6,h1,rfl,hS.step h2 (by simp)⟩
theorem Iw(s:aQ)(t:ByteArray)(n p:Nat)(w:World)(h:aO w s)(hnd:s.foot.Nodup)(ht:t.size<=maxLen)(hc:s.dH t=0)(hn:1<=n/\n<=200)(hm:s.af.length<20)(hf:n<=(s.dD s.n).length)(hp:FV s t p) :
 Calls prog 48 #[.pointer (some ⟨s.rb,0,none⟩),.string t,.int .i64 n] w fun e w'=>e=.returned (.int .i64 0) /\
  ∃vb g bg dg,bQ w s w' { s with lg:=some g,af:=iP p ⟨vb,dg,bg,none,t,⟨#[]⟩,List.replicate n eP,(s.dD s.n).take n,[],false⟩ s.af }:=
 pO s t n w h ht hc hn _ fun w' hS hB=>
  (EN s w.heap.size n p t ⟨#[]⟩ (w.heap.size+1) (List.replicate n eP) w' (h.iW hS) hB (by intro e;have:=congrArg List.length e;simp at this;omega) (by simp;omega) hm hf hn hp (fun hk=>by have:=h.bn _ hk;omega) (by omega)).mono
   fun e w'' ⟨h1,h2⟩=>⟨0,h1,rfl,_,h2.after h hnd hS (Nat.le_refl _) (by omega)⟩
theorem ku{x:ByteArray}(h:x≠⟨#[]⟩):x.toList.isEmpty=false:=by
 have hq:=bytes_beq x ⟨#[]⟩;rw[decide_eq_false h]at hq;rw[<-hq,Bool.eq_iff_iff,List.isEmpty_iff,beq_iff_eq];have e0:(⟨#[]⟩:ByteArray).toList=[]:=by simp
 rw[e0]
theorem qw(s:aQ)(t u:ByteArray)(k:Int)(w:World)(h:aO w s)(ht:t.size<=maxLen)(hc:s.dH t≠0) :
 Calls prog 58 #[.pointer (some ⟨s.rb,0,none⟩),.string t,.string u,.int .i64 k] w fun e w'=>e=.returned (.int .i64 (s.dH t))/\w'=w:=by
 have hF:=eU s t w h ht;generalize s.dH t=res at *;have hr:((res:Int) == 0)=false:=beq_eq_false_iff_ne.2 (by omega)
 go_enter func58,ntmps58
 go_wp2_with (first|(go_at_call 84;refine hF.mono ?_;rintro e wz ⟨rfl,rfl⟩))
 go_ret
 exact⟨rfl,rfl⟩
theorem zH(s:aQ)(t u:ByteArray)(k:Int)(w:World)(h:aO w s)(ht:t.size<=maxLen)(hc:s.dH t=0)(ha:s.oO u=none) :
 Calls prog 58 #[.pointer (some ⟨s.rb,0,none⟩),.string t,.string u,.int .i64 k] w fun e w'=>e=.returned (.int .i64 4)/\w'=w:=by
 have hF:=eU s t w h ht;have hG:=aW s u w h;rw[hc]at hF;rw[ha]at hG
 go_enter func58,ntmps58
 go_wp2_with (first|(go_at_call 84;refine hF.mono ?_;rintro e wz ⟨rfl,rfl⟩)|(go_at_call 79;refine hG.mono ?_;rintro e wz ⟨rfl,rfl⟩))
 go_ret
 exact⟨rfl,rfl⟩
theorem uQ(s:aQ)(t u:ByteArray)(k:Int)(o:ay)(w:World)(h:aO w s)(ht:t.size<=maxLen)(hc:s.dH t=0)(ha:s.oO u=some o)(ho:o.bC≠⟨#[]⟩) :
 Calls prog 58 #[.pointer (some ⟨s.rb,0,none⟩),.string t,.string u,.int .i64 k] w fun e w'=>e=.returned (.int .i64 7)/\w'=w:=by
 have hF:=eU s t w h ht;have hG:=aW s u w h;rw[hc]at hF;rw[ha]at hG;obtain⟨hm,hnm⟩:=aQ.gy ha;obtain⟨dc,bc,kc,hv,_⟩:=(h.af o hm).ex;have e1:w.cell? ⟨o.vb,1,none⟩=some (.string o.bC):=hv.cell? 1;have hbq:=ku ho;clear hv h
 go_enter func58,ntmps58
 go_wp2_with (first|(go_at_call 84;refine hF.mono ?_;rintro e wz ⟨rfl,rfl⟩)|(go_at_call 79;refine hG.mono ?_;rintro e wz ⟨rfl,rfl⟩))
 go_ret
 exact⟨rfl,rfl⟩
theorem rD(s:aQ)(t u:ByteArray)(k:Int)(o:ay)(w:World)(h:aO w s)(ht:t.size<=maxLen)(hc:s.dH t=0)(ha:s.oO u=some o)(ho:o.bC=⟨#[]⟩)(hk:k<1\/(o.data.length:Int)<k) :
 Calls prog 58 #[.pointer (some ⟨s.rb,0,none⟩),.string t,.string u,.int .i64 k] w fun e w'=>e=.returned (.int .i64 1)/\w'=w:=by
 have hF:=eU s t w h ht;have hG:=aW s u w h;rw[hc]at hF;rw[ha]at hG;obtain⟨hm,hnm⟩:=aQ.gy ha;obtain⟨dc,bc,kc,hv,_⟩:=(h.af o hm).ex;have hd:=(h.af o hm).data;have e1:w.cell? ⟨o.vb,1,none⟩=some (.string ⟨#[]⟩):=by rw[<-ho];exact hv.cell? 1
 have e2:w.cell? ⟨o.vb,2,none⟩=some (.slice (some ⟨o.dg,0,none⟩) o.data.length dc):=hv.cell? 2;clear hv h;by_cases hk1:k<1
 ·go_enter func58,ntmps58
  go_wp2_with (first|(go_at_call 84;refine hF.mono ?_;rintro e wz ⟨rfl,rfl⟩)|(go_at_call 79;refine hG.mono ?_;rintro e wz ⟨rfl,rfl⟩))
  go_ret
  exact⟨rfl,rfl⟩
 ·have hk2:(o.data.length:Int)<k:=by omega
  have hk3:1<=k:=by omega
  clear hk
  go_enter func58,ntmps58
  go_wp2_with (first|(go_at_call 84;refine hF.mono ?_;rintro e wz ⟨rfl,rfl⟩)|(go_at_call 79;refine hG.mono ?_;rintro e wz ⟨rfl,rfl⟩))
  go_ret
  exact⟨rfl,rfl⟩
theorem Py:∀(l:List ByteArray),∀u∈l.map Value.string,u.oneCell'=true:=fun l u hu=>by
 obtain⟨v,_,rfl⟩:=List.mem_map.1 hu;rfl
theorem oI(s:aQ)(t u:ByteArray)(n:Nat)(o:ay)(w:World)(h:aO w s)(ht:t.size<=maxLen)(hc:s.dH t=0)(ha:s.oO u=some o)(ho:o.bC=⟨#[]⟩)(hn:1<=n/\n<=o.data.length)(Q:Ending->World->Prop)
 (hadd:∀w',Same [] w w'->Bare w' w.heap.size t u (w.heap.size+1) o.data ->
  Calls prog 85 #[.pointer (some ⟨s.rb,0,none⟩),.pointer (some ⟨w.heap.size,0,none⟩),.int .i64 n] w' fun e w''=>∃c:Int,e=.returned (.int .i64 c)/\Q (.returned (.int .i64 c)) w'') :
 Calls prog 58 #[.pointer (some ⟨s.rb,0,none⟩),.string t,.string u,.int .i64 n] w Q:=by
 have hF:=eU s t w h ht;have hG:=aW s u w h;rw[hc]at hF;rw[ha]at hG;obtain⟨hm,hnm⟩:=aQ.gy ha;obtain⟨dc,bc,kc,hv,hdat,_⟩:=(h.af o hm).ex;have hd:=(h.af o hm).data;have e1:w.cell? ⟨o.vb,1,none⟩=some (.string ⟨#[]⟩):=by rw[<-ho];exact hv.cell? 1
 have e2:w.cell? ⟨o.vb,2,none⟩=some (.slice (some ⟨o.dg,0,none⟩) o.data.length dc):=hv.cell? 2;obtain⟨dcs,hdA,hdl,hdt,hdle,hdm⟩:=hdat.ex;have lvb:=hv.lt;have ldg:=hdA.lt;obtain⟨i0,hi,hz0,hz1,hz2⟩:=info_parts Tryz.wI;have l1:(1:Int)<=(n:Int):=by omega
 have l2:(n:Int)<=(o.data.length:Int):=by omega
 have Sv:Hid (∀w',Same [] w w'->Bare w' w.heap.size t u (w.heap.size+1) o.data ->
  Calls prog 85 #[.pointer (some ⟨s.rb,0,none⟩),.pointer (some ⟨w.heap.size,0,none⟩),.int .i64 n] w' fun e w''=>∃c:Int,e=.returned (.int .i64 c)/\Q (.returned (.int .i64 c)) w''):=hadd
 clear hadd h
 go_enter func58,ntmps58
 go_wp2_with (first|(go_at_call 84;refine hF.mono ?_;rintro e wz ⟨rfl,rfl⟩)|(go_at_call 79;refine hG.mono ?_;rintro e wz ⟨rfl,rfl⟩))
 have hA0:=At.new wz #[.string t,.string u,.slice none 0 0,.slice none 0 0,.slice none 0 0,.bool false] 118;have S0:Same [] wz (wz.alloc (.cells #[.string t,.string u,.slice none 0 0,.slice none 0 0,.slice none 0 0,.bool false] 118)):=(Same.refl _ _).alloc _;have hZ:(wz.alloc (.cells #[.string t,.string u,.slice none 0 0,.slice none 0 0,.slice none 0 0,.bool false] 118)).heap.size=wz.heap.size+1:=by simp
 generalize hW:wz.alloc (.cells #[.string t,.string u,.slice none 0 0,.slice none 0 0,.slice none 0 0,.bool false] 118)=W1 at *;have c2:W1.cell? ⟨wz.heap.size,2,none⟩=some (.slice none 0 0):=hA0.cell? 2;have d2:W1.cell? ⟨o.vb,2,none⟩=some (.slice (some ⟨o.dg,0,none⟩) o.data.length dc):=(S0.at hv (by simp)).cell? 2;have hnews:∀(W:World),W.heap=W1.heap->∀j u,(o.data.map Value.string)[j]? = some u->W.cell? ⟨o.dg,j,none⟩=some u:=by
  intro W hWW j u hj;have hj2:j<o.data.length:=by
   rcases Nat.lt_or_ge j o.data.length with h'|h'
   ·exact h'
   ·rw[List.getElem?_eq_none (by simp;omega)]at hj;cases hj
  have hBW:At W o.dg _ dcs:=(S0.at hdA (by simp)).of_heap (by rw[hWW]);rw[hBW.cell?,<-hj,<-hdt,List.getElem?_take,if_pos hj2]
 clear hW e1 e2
 go_region_law (refine step_append_grows rfl (.tmp 47) (.tmp 51) 116 rfl 9 i0 (.string ⟨#[]⟩) 1 16 underlying116 hi hz0 hz1 hz2 rfl (by decide) none 0 0 [] (by simp[Act.eval,Act.put]) (fun _=>⟨rfl,rfl⟩) rfl (by intro b1 hb1;cases hb1) ⟨o.dg,0,none⟩ o.data.length dc (o.data.map Value.string) (by simp[Act.eval,Act.put]) (by simp) (by intro j u hj;rw[Addr.add_lit,Nat.zero_add];exact hnews _ rfl j u hj) (Py _) (by omega) (by unfold maxLen;omega) (by omega) ?_;intro v' w3 hown3 hgrow;obtain⟨a3,cap3,rfl⟩:=ak hown3;have p3:=hA0.drew.of_heap (hgrow.block wz.heap.size hA0.drew.lt (by simp));have g3:w3.cell? ⟨wz.heap.size,2,none⟩=some (.slice none 0 0):=p3.cell? 2;have z3:w3.frozen? ⟨wz.heap.size,2,none⟩=false:=p3.frozen 2)
 all_goals
  have hown4:w3.ownsRow (wz.heap.size+1) 9 1 (.slice a3 o.data.length cap3) o.data.length (o.data.map Value.string):=by
   have:w3.ownsRow W1.heap.size 9 1 (.slice a3 o.data.length cap3) o.data.length (o.data.map Value.string):=by simpa using hown3
   rw[hZ]at this;exact this
  have S3:Same [] wz w3:=S0.drew.grown hgrow (by simp);have S4:Same [] wz (w3.setCell ⟨wz.heap.size,2,none⟩ (.slice a3 o.data.length cap3)):=S3.set _ _ _ (by intro h;omega);have S34:Same [wz.heap.size] w3 (w3.setCell ⟨wz.heap.size,2,none⟩ (.slice a3 o.data.length cap3)):=(Same.refl _ _).set _ _ _ (by simp);have B4:Bare (w3.setCell ⟨wz.heap.size,2,none⟩ (.slice a3 o.data.length cap3)) wz.heap.size t u (wz.heap.size+1) o.data:=
   ⟨_,p3.ax 2 _,dZ hown4 S34 (by simp)⟩
  have hAd:=Sv.out _ S4 B4;clear Sv B4 S4 S34 S3 hown4 hown3 hgrow p3 g3 z3 hnews c2 d2 hA0 S0 hv hdA hdt
  go_wp2_with (go_at_call 85;refine hAd.mono ?_;rintro e w2 ⟨c,rfl,hQ⟩)
  first
   | exact hQ
   | (go_ret;exact hQ)
theorem zA(s:aQ)(t u:ByteArray)(n:Nat)(o:ay)(w:World)(h:aO w s)(ht:t.size<=maxLen)(hc:s.dH t=0)(ha:s.oO u=some o)(ho:o.bC=⟨#[]⟩)(hn:1<=n/\n<=o.data.length)(hm:20<=s.af.length) :
 Calls prog 58 #[.pointer (some ⟨s.rb,0,none⟩),.string t,.string u,.int .i64 n] w fun e w'=>e=.returned (.int .i64 5)/\Same [] w w':=
 oI s t u n o w h ht hc ha ho hn _ fun w' hS hB=>(zq s _ n w' (h.iW hS) hm).mono fun e w'' ⟨h1,h2⟩=>⟨5,h1,rfl,by rw[h2];exact hS⟩
theorem zJ(s:aQ)(t u:ByteArray)(n:Nat)(o:ay)(w:World)(h:aO w s)(ht:t.size<=maxLen)(hc:s.dH t=0)(ha:s.oO u=some o)(ho:o.bC=⟨#[]⟩)(hn:1<=n/\n<=o.data.length)(hm:s.af.length<20)(hf:(s.dD s.n).length<n) :
 Calls prog 58 #[.pointer (some ⟨s.rb,0,none⟩),.string t,.string u,.int .i64 n] w fun e w'=>e=.returned (.int .i64 6)/\Same [] w w':=
 oI s t u n o w h ht hc ha ho hn _ fun w' hS hB=>(yZ s _ n w' (h.iW hS) hm hf (by have:=(h.af o (aQ.gy ha).1).data;omega)).mono fun e w'' ⟨h1,h2⟩=>⟨6,h1,rfl,hS.step h2 (by simp)⟩
theorem D5(s:aQ)(t u:ByteArray)(n p:Nat)(o:ay)(w:World)(h:aO w s)(hnd:s.foot.Nodup)(ht:t.size<=maxLen)(hc:s.dH t=0)(ha:s.oO u=some o)(ho:o.bC=⟨#[]⟩)(hn:1<=n/\n<=o.data.length)(hm:s.af.length<20)(hf:n<=(s.dD s.n).length)(hp:FV s t p) :
 Calls prog 58 #[.pointer (some ⟨s.rb,0,none⟩),.string t,.string u,.int .i64 n] w fun e w'=>e=.returned (.int .i64 0) /\
  ∃vb g bg dg,bQ w s w' { s with lg:=some g,af:=iP p ⟨vb,dg,bg,none,t,u,o.data,(s.dD s.n).take n,[],false⟩ s.af }:=
 oI s t u n o w h ht hc ha ho hn _ fun w' hS hB=>
  (EN s w.heap.size n p t u (w.heap.size+1) o.data w' (h.iW hS) hB (by intro e;rw[e]at hn;simp at hn;omega) (h.af o (aQ.gy ha).1).data hm hf (by have:=(h.af o (aQ.gy ha).1).data;omega) hp (fun hk=>by have:=h.bn _ hk;omega) (by omega)).mono
   fun e w'' ⟨h1,h2⟩=>⟨0,h1,rfl,_,h2.after h hnd hS (Nat.le_refl _) (by omega)⟩
theorem CB(s:aQ)(t:ByteArray)(w:World)(h:aO w s)(ha:s.oO t=none) :
 Calls prog 60 #[.pointer (some ⟨s.rb,0,none⟩),.string t] w fun e w'=>e=.returned (.int .i64 4)/\w'=w:=by
 have hF:=aW s t w h;rw[ha]at hF
 go_enter func60,ntmps60
 go_wp2_with (first|(go_at_call 79;refine hF.mono ?_;rintro e wz ⟨rfl,rfl⟩))
 go_ret
 exact⟨rfl,rfl⟩
theorem Dq(s:aQ)(t:ByteArray)(v:ay)(w:World)(h:aO w s)(ha:s.oO t=some v)(ho:v.bC=⟨#[]⟩) :
 Calls prog 60 #[.pointer (some ⟨s.rb,0,none⟩),.string t] w fun e w'=>e=.returned (.int .i64 7)/\w'=w:=by
 have hF:=aW s t w h;rw[ha]at hF;obtain⟨hm,hnm⟩:=aQ.gy ha;obtain⟨dc,bc,kc,hv,_⟩:=(h.af v hm).ex;have e1:w.cell? ⟨v.vb,1,none⟩=some (.string ⟨#[]⟩):=by rw[<-ho];exact hv.cell? 1
 clear hv h
 go_enter func60,ntmps60
 go_wp2_with (first|(go_at_call 79;refine hF.mono ?_;rintro e wz ⟨rfl,rfl⟩))
 go_ret
 exact⟨rfl,rfl⟩
theorem Bl(s:aQ)(t:ByteArray)(v:ay)(w:World)(h:aO w s)(ha:s.oO t=some v)(ho:v.bC≠⟨#[]⟩)(hl:v.lost=true) :
 Calls prog 60 #[.pointer (some ⟨s.rb,0,none⟩),.string t] w fun e w'=>e=.returned (.int .i64 9)/\w'=w:=by
 have hF:=aW s t w h;rw[ha]at hF;obtain⟨hm,hnm⟩:=aQ.gy ha;obtain⟨dc,bc,kc,hv,_⟩:=(h.af v hm).ex;have e1:w.cell? ⟨v.vb,1,none⟩=some (.string v.bC):=hv.cell? 1;have e5:w.cell? ⟨v.vb,5,none⟩=some (.bool true):=by rw[<-hl];exact hv.cell? 5
 have hbq:=ku ho;clear hv h
 go_enter func60,ntmps60
 go_wp2_with (first|(go_at_call 79;refine hF.mono ?_;rintro e wz ⟨rfl,rfl⟩))
 go_ret
 exact⟨rfl,rfl⟩
theorem AO(s:aQ)(t:ByteArray)(v:ay)(w:World)(h:aO w s)(ha:s.oO t=some v)(ho:v.bC≠⟨#[]⟩)(hl:v.lost=false)(hp:1<s.dN v.bC s.af.length) :
 Calls prog 60 #[.pointer (some ⟨s.rb,0,none⟩),.string t] w fun e w'=>e=.returned (.int .i64 8)/\w'=w:=by
 have hF:=aW s t w h;have hP:=dI s v.bC w h;rw[ha]at hF;obtain⟨hm,hnm⟩:=aQ.gy ha;obtain⟨dc,bc,kc,hv,_⟩:=(h.af v hm).ex;have e1:w.cell? ⟨v.vb,1,none⟩=some (.string v.bC):=hv.cell? 1;have e5:w.cell? ⟨v.vb,5,none⟩=some (.bool false):=by rw[<-hl];exact hv.cell? 5
 have hbq:=ku ho;generalize s.dN v.bC s.af.length=k at *;have hk:(1:Int)<(k:Int):=by omega
 clear hv h
 go_enter func60,ntmps60
 go_wp2_with (first|(go_at_call 79;refine hF.mono ?_;rintro e wz ⟨rfl,rfl⟩)|(go_at_call 99;refine hP.mono ?_;rintro e wz ⟨rfl,rfl⟩))
 go_ret
 exact⟨rfl,rfl⟩
theorem PK(f:ay->List Nat){a b:List ay}(h:a.Sublist b):(a.flatMap f).Sublist (b.flatMap f):=by
 induction h with
 | slnil=>exact List.Sublist.refl _
 | cons x _ ih=>simp only[List.flatMap_cons];exact ih.trans (List.sublist_append_right _ _)
 | cons_cons x _ ih=>simp only[List.flatMap_cons];exact List.Sublist.append (List.Sublist.refl _) ih
theorem Lh(s:aQ)(lg:Option Nat)(vs:List ay)(hs:vs.Sublist s.af){B:Nat}(hl:∀b,lg=some b->B<=b):∀k∈aQ.foot { s with lg:=lg,af:=vs },k∈s.foot\/B<=k:=by
 intro k hk;rcases aQ.gm hk with e|e|⟨v,hv,hkv⟩
 ·exact Or.inl (by rw[e];exact s.iH)
 ·exact Or.inr (hl k e)
 ·exact Or.inl (s.bH (hs.subset hv) hkv)
theorem wL(s:aQ)(lg:Option Nat)(vs:List ay)(hs:vs.Sublist s.af)(hnd:s.foot.Nodup){B:Nat}(hB:∀k∈s.foot,k<B)(hl:∀b,lg=some b->B<=b):(aQ.foot { s with lg:=lg,af:=vs }).Nodup:=by
 obtain⟨p1,p2,p3,p4⟩:=aQ.iI hnd;have hsub:(vs.flatMap ay.foot).Sublist (s.af.flatMap ay.foot):=PK _ hs;unfold aQ.foot;show(s.rb::(lg.toList++vs.flatMap ay.foot)).Nodup;have hrb:=hB _ s.iH;rw[List.nodup_cons,List.nodup_append];refine⟨fun hm=>?_,by cases lg<;>simp,p4.sublist hsub,fun a ha b hb e=>?_⟩
 ·rcases List.mem_append.1 hm with hm|hm
  ·have:=hl s.rb (by simpa using hm);omega
  ·obtain⟨v,hv,hkv⟩:=List.mem_flatMap.1 (hsub.subset hm);exact p2 v hv hkv
 ·subst e;have:=hl a (by simpa using ha);obtain⟨v,hv,hkv⟩:=List.mem_flatMap.1 (hsub.subset hb);have:=hB a (s.bH hv hkv);omega
theorem rF(s:aQ)(t:ByteArray)(k:Nat):(s.without t k).Sublist s.af:=List.filter_sublist.trans (List.take_sublist _ _)
theorem zK(s:aQ)(t:ByteArray)(v:ay)(w:World)(h:aO w s)(hnd:s.foot.Nodup)(ha:s.oO t=some v)(hb:s.dN t s.af.length=0) :
 Calls prog 56 #[.pointer (some ⟨s.rb,0,none⟩),.string t] w fun e w'=>e=.returned (.int .i64 0)/\∃lg,bQ w s w' { s with lg:=lg,af:=s.without t s.af.length }:=
 (GN s t v w h ha hb).mono fun e w' ⟨h1,hS,lg,hR,hg⟩=>⟨h1,lg,hR,wL s lg _ (rF _ _ _) hnd h.bn hg,hS.mono (by intro k hk _;simp at hk;subst hk;exact s.iH),Lh s lg _ (rF _ _ _) hg,rfl,rfl⟩
theorem qY(p:ay->Bool):∀(l:List ay)(i:Nat)(x:ay),i<l.length->p x=false->p (l[i]!)=false->(l.set i x).filter p=l.filter p
 | [],i,x,hi,_,_=>by simp at hi
 | a::r,0,x,hi,hx,ha=>by
  have ha':p a=false:=by simpa using ha
  rw[List.set_cons_zero,List.filter_cons,List.filter_cons,if_neg (by rw[hx];simp),if_neg (by rw[ha'];simp)]
 | a::r,i+1,x,hi,hx,ha=>by
  have hi':i<r.length:=by simpa using hi
  have e:(a::r)[i+1]! = r[i]!:=by rw[getElem!_pos _ (i+1) hi,getElem!_pos r i hi'];rfl
  rw[e]at ha;rw[List.set_cons_succ,List.filter_cons,List.filter_cons,qY p r i x hi' hx ha]
theorem zx{w:World}{s:aQ}{iv io:Nat}{v o:ay}(h:aO w s)(hiv:iv<s.af.length)(hio:io<s.af.length)(hv:s.af[iv]! = v)(ho:s.af[io]! = o){t:ByteArray} :
 ∀k∈(aQ.without { s with af:=s.af.set io { o with dg:=v.dg,data:=v.data } } t s.af.length).flatMap ay.foot,k∈s.foot:=by
 intro k hk;have hvm:v∈s.af:=by rw[<-hv];exact gY hiv
 have hom:o∈s.af:=by rw[<-ho];exact gY hio
 obtain⟨x,hx,hkx⟩:=List.mem_flatMap.1 hk;have hx':x∈s.af.set io { o with dg:=v.dg,data:=v.data }:=(rF _ _ _).subset hx;rcases oC hio hx' with rfl|⟨j,hj,_,rfl⟩
 ·simp only[ay.foot,List.mem_cons]at hkx;rcases hkx with e|e|e|e
  ·exact s.bH hom (by rw[e];simp[ay.foot])
  ·exact s.bH hvm (by rw[e];simp[ay.foot])
  ·exact s.bH hom (by rw[e];simp[ay.foot])
  ·exact s.bH hom (by simp only[ay.foot,List.mem_cons];exact Or.inr (Or.inr (Or.inr e)))
 ·exact s.bH (gY hj) hkx
theorem GR{w:World}{s:aQ}{iv io:Nat}{v o:ay}(h:aO w s)(hnd:s.foot.Nodup)(hiv:iv<s.af.length)(hio:io<s.af.length)(hne:iv≠io)(hv:s.af[iv]! = v)(ho:s.af[io]! = o){t:ByteArray}(hnm:v.name=t)(lg:Option Nat)(hlg:∀b,lg=some b->w.heap.size<=b) :
 (aQ.foot { s with lg:=lg,af:=aQ.without { s with af:=s.af.set io { o with dg:=v.dg,data:=v.data } } t s.af.length }).Nodup:=by
 have hlt:=h.bn;have hfresh:w.heap.size∉s.foot:=fun hm=>by have:=hlt _ hm;omega
 have hvm:v∈s.af:=by rw[<-hv];exact gY hiv
 have hom:o∈s.af:=by rw[<-ho];exact gY hio
 obtain⟨p1,p2,p3,p4⟩:=aQ.iI hnd;have hvn:v.foot.Nodup:=(iM ay.foot s.af p4).1 v hvm;have hon:o.foot.Nodup:=(iM ay.foot s.af p4).1 o hom
 -- first the YV data lie elsewhere
 have n1:(aQ.foot { s with af:=s.af.set iv { v with dg:=w.heap.size } }).Nodup:=by
  refine jA hnd iv hiv _ ?_ ?_
  ·have hvl:=(h.af v hvm).bn;simp only[ay.foot,List.nodup_cons,List.mem_cons,not_or]at hvn ⊢;have l1:=hvl v.vb (by simp[ay.foot]);have l2:=hvl v.bg (by simp[ay.foot]);refine⟨⟨by omega,hvn.1.2.1,hvn.1.2.2⟩,⟨by omega,fun hm=>?_⟩,hvn.2.2⟩;have:=hvl w.heap.size (by simp only[ay.foot,List.mem_cons];exact Or.inr (Or.inr (Or.inr hm)));omega
  ·intro k hk;rw[hv];simp only[ay.foot,List.mem_cons]at hk ⊢;rcases hk with e|e|e|e
   ·exact Or.inl (Or.inl e)
   ·exact Or.inr (by rw[e];exact hfresh)
   ·exact Or.inl (Or.inr (Or.inr (Or.inl e)))
   ·exact Or.inl (Or.inr (Or.inr (Or.inr e)))
 have Y1:io<(aQ.af { s with af:=s.af.set iv { v with dg:=w.heap.size } }).length:=by show io<(s.af.set iv _).length;rw[List.length_set];exact hio
 have ho1:(aQ.af { s with af:=s.af.set iv { v with dg:=w.heap.size } })[io]! = o:=by
  show(s.af.set iv _)[io]! = o;rw[getElem!_pos _ io (by rw[List.length_set];exact hio),List.getElem_set,if_neg hne,<-ho,getElem!_pos s.af io hio]
 have hdg:v.dg∉aQ.foot { s with af:=s.af.set iv { v with dg:=w.heap.size } }:=fun hm=>by
  rcases aQ.gm hm with e|e|⟨x,hx,hkx⟩
  ·exact p2 v hvm (by show s.rb∈_;have:v.dg=s.rb:=e;rw[<-this];simp[ay.foot])
  ·exact p3 v.dg e v hvm (by simp[ay.foot])
  ·rcases oC hiv hx with rfl|⟨j,hj,Dp,rfl⟩
   ·simp only[ay.foot,List.nodup_cons,List.mem_cons,not_or]at hvn hkx;have l1:=(h.af v hvm).bn v.dg (by simp[ay.foot]);rcases hkx with e|e|e|e
    ·exact hvn.1.1 e.symm
    ·omega
    ·exact hvn.2.1.1 e
    ·exact hvn.2.1.2 e
   ·exact o9 hnd hiv hj (fun e=>Dp e.symm) (k:=v.dg) (by rw[hv];simp[ay.foot]) hkx
 have n2:(aQ.foot { s with af:=(s.af.set iv { v with dg:=w.heap.size }).set io { o with dg:=v.dg,data:=v.data } }).Nodup:=by
  refine jA n1 io Y1 { o with dg:=v.dg,data:=v.data } ?_ ?_
  ·simp only[ay.foot,List.nodup_cons,List.mem_cons,not_or]at hon ⊢;have hap:∀k∈o.foot,k≠v.dg:=fun k hk e=>o9 hnd hio hiv (fun q=>hne q.symm) (k:=k) (by rw[ho];exact hk) (by rw[hv,e];simp[ay.foot])
   refine⟨⟨hap _ (by simp[ay.foot]),hon.1.2.1,hon.1.2.2⟩,⟨fun e=>hap o.bg (by simp[ay.foot]) e.symm,fun hm=>hap v.dg (by simp only[ay.foot,List.mem_cons];exact Or.inr (Or.inr (Or.inr hm))) rfl⟩,hon.2.2⟩
  ·intro k hk;rw[ho1];simp only[ay.foot,List.mem_cons]at hk ⊢;rcases hk with e|e|e|e
   ·exact Or.inl (Or.inl e)
   ·exact Or.inr (by rw[e];exact hdg)
   ·exact Or.inl (Or.inr (Or.inr (Or.inl e)))
   ·exact Or.inl (Or.inr (Or.inr (Or.inr e)))
 have hB2:∀k∈aQ.foot { s with af:=(s.af.set iv { v with dg:=w.heap.size }).set io { o with dg:=v.dg,data:=v.data } },k<w.heap.size+1:=by
  intro k hk;rcases aQ.gm hk with e|e|⟨x,hx,hkx⟩
  ·have:=hlt _ s.iH;have:k=s.rb:=e;omega
  ·have:=hlt _ (s.zQ e);omega
  ·rcases oC Y1 hx with rfl|⟨j,hj,Dp,rfl⟩
   ·simp only[ay.foot,List.mem_cons]at hkx;have hol:=(h.af o hom).bn;have hvl:=(h.af v hvm).bn;rcases hkx with e|e|e|e
    ·have:=hol o.vb (by simp[ay.foot]);omega
    ·have:=hvl v.dg (by simp[ay.foot]);omega
    ·have:=hol o.bg (by simp[ay.foot]);omega
    ·have:=hol k (by simp only[ay.foot,List.mem_cons];exact Or.inr (Or.inr (Or.inr e)));omega
   ·have hj':j<s.af.length:=by have:j<(s.af.set iv _).length:=hj;rw[List.length_set]at this;exact this
    have OY:k∈((s.af.set iv { v with dg:=w.heap.size })[j]!).foot:=hkx;rw[getElem!_pos _ j (by rw[List.length_set];exact hj'),List.getElem_set]at OY;by_cases e:iv=j
    ·rw[if_pos e]at OY;simp only[ay.foot,List.mem_cons]at OY;have hvl:=(h.af v hvm).bn;rcases OY with e|e|e|e
     ·have:=hvl v.vb (by simp[ay.foot]);omega
     ·omega
     ·have:=hvl v.bg (by simp[ay.foot]);omega
     ·have:=hvl k (by simp only[ay.foot,List.mem_cons];exact Or.inr (Or.inr (Or.inr e)));omega
    ·rw[if_neg e]at OY;have:=hlt k (s.bH (List.getElem_mem hj') OY);omega
 have hsub:(aQ.without { s with af:=s.af.set io { o with dg:=v.dg,data:=v.data } } t s.af.length).Sublist ((s.af.set iv { v with dg:=w.heap.size }).set io { o with dg:=v.dg,data:=v.data }):=by
  have e:aQ.without { s with af:=s.af.set io { o with dg:=v.dg,data:=v.data } } t s.af.length=((s.af.set iv { v with dg:=w.heap.size }).set io { o with dg:=v.dg,data:=v.data }).filter fun x=>decide (¬x.name=t):=by
   unfold aQ.without;show((s.af.set io _).take s.af.length).filter _=_;rw[List.take_of_length_le (by rw[List.length_set];omega),List.set_comm _ _ hne];refine(qY _ _ iv _ (by rw[List.length_set];exact hiv) (by simp[hnm]) ?_).symm;rw[getElem!_pos _ iv (by rw[List.length_set];exact hiv),List.getElem_set,if_neg (fun e=>hne e.symm)];have:s.af[iv]=v:=by rw[<-hv,getElem!_pos s.af iv hiv]
   rw[this];simp[hnm]
  rw[e];exact List.filter_sublist
 have n3:=wL { s with af:=(s.af.set iv { v with dg:=w.heap.size }).set io { o with dg:=v.dg,data:=v.data } } none _ hsub n2 hB2 (by simp);have hfl:=zx h hiv hio hv ho (t:=t);cases lg with
 | none=>exact n3
 | some b=>
  have hb:=hlg b rfl;have hrb:=hlt _ s.iH;have n4:(s.rb::([]++(aQ.without { s with af:=s.af.set io { o with dg:=v.dg,data:=v.data } } t s.af.length).flatMap ay.foot)).Nodup:=n3;show(s.rb::([b]++(aQ.without { s with af:=s.af.set io { o with dg:=v.dg,data:=v.data } } t s.af.length).flatMap ay.foot)).Nodup;simp only[List.nil_append,List.cons_append,List.nodup_cons,List.mem_cons,not_or]at n4 ⊢;exact⟨⟨by omega,n4.1⟩,fun hm=>by have:=hlt _ (hfl b hm);omega,n4.2⟩
theorem Hl(s:aQ)(t:ByteArray)(iv io:Nat)(v o:ay)(w:World)(h:aO w s)(hnd:s.foot.Nodup)(hiv:iv<s.af.length)(hio:io<s.af.length)(hne:iv≠io)(hv:s.af[iv]! = v)(ho:s.af[io]! = o)(ha:s.oO t=some v)(hof:v.bC≠⟨#[]⟩)(hl:v.lost=false)(hp:s.dN v.bC s.af.length<=1)(hao:s.oO v.bC=some o)
 (hnm:v.name=t) :
 Calls prog 60 #[.pointer (some ⟨s.rb,0,none⟩),.string t] w fun e w'=>e=.returned (.int .i64 0) /\
  ∃lg,bQ w s w' { s with lg:=lg,af:=aQ.without { s with af:=s.af.set io { o with dg:=v.dg,data:=v.data } } t s.af.length }:=by
 have hF:=aW s t w h;have hF2:=aW s v.bC w h;have hP:=dI s v.bC w h;rw[ha]at hF;rw[hao]at hF2;have hmv:v∈s.af:=by rw[<-hv];exact gY hiv
 have hmo:o∈s.af:=by rw[<-ho];exact gY hio
 have hVv:=h.af _ hmv;have hVo:=h.af _ hmo;obtain⟨dc,bc,kc,hvA,hvd,_⟩:=hVv.ex;obtain⟨dco,bco,kco,hvo,o2,o3,o4,o5⟩:=hVo.ex;have e1:w.cell? ⟨v.vb,1,none⟩=some (.string v.bC):=hvA.cell? 1;have e2:w.cell? ⟨v.vb,2,none⟩=some (.slice (some ⟨v.dg,0,none⟩) v.data.length dc):=hvA.cell? 2;have e5:w.cell? ⟨v.vb,5,none⟩=some (.bool false):=by rw[<-hl];exact hvA.cell? 5
 have g2:w.cell? ⟨o.vb,2,none⟩=some (.slice (some ⟨o.dg,0,none⟩) o.data.length dco):=hvo.cell? 2;have z2:w.frozen? ⟨o.vb,2,none⟩=false:=hvo.frozen 2;have hbq:=ku hof;obtain⟨t1,t2,t3⟩:=hVo.types;have S1:Same [o.vb] w (w.setCell ⟨o.vb,2,none⟩ (.slice (some ⟨v.dg,0,none⟩) v.data.length dc)):=(Same.refl _ _).set _ _ _ (by simp);have hdg:v.dg≠o.vb:=fun e=>o9 hnd hiv hio hne (k:=v.dg) (by rw[hv];simp[ay.foot]) (by rw[ho,e];simp[ay.foot])
 have V1:dU (w.setCell ⟨o.vb,2,none⟩ (.slice (some ⟨v.dg,0,none⟩) v.data.length dc)) { o with dg:=v.dg,data:=v.data }:=by
  refine⟨⟨dc,bco,kco,hvo.ax 2 _,hvd.same S1 (by simpa using hdg),o3.same S1 (by simpa using fun e=>t2 e.symm),o4,fun g hg=>(o5 g hg).same S1 ?_⟩,hVv.data,hVo.blocks,hVo.kept⟩;simp;intro e;rw[e]at hg;obtain⟨cs,q,_⟩:=(o5 _ hg).ex;exact absurd (q.inj hvo).1 (by decide)
 have R1:=qE h hnd io hio { o with dg:=v.dg,data:=v.data } (by rw[ho]) V1 S1 (by rw[ho];simp[ay.foot]);have hD:=uw _ t _ R1;have hres:∀w',Same [s.rb] (w.setCell ⟨o.vb,2,none⟩ (.slice (some ⟨v.dg,0,none⟩) v.data.length dc)) w'->∀lg,aO w' { s with lg:=lg,af:=aQ.without { s with af:=s.af.set io { o with dg:=v.dg,data:=v.data } } t s.af.length } ->
  (∀b,lg=some b->w.heap.size<=b)->bQ w s w' { s with lg:=lg,af:=aQ.without { s with af:=s.af.set io { o with dg:=v.dg,data:=v.data } } t s.af.length }:=by
  intro w' hS lg hR hg;refine⟨hR,GR h hnd hiv hio hne hv ho hnm lg hg,?_,?_,rfl,rfl⟩
  ·refine(S1.mono (T:=s.foot) ?_).step hS ?_
   ·intro k hk _;simp at hk;rw[hk];exact s.bH hmo (by simp[ay.foot])
   ·intro k hk _;simp at hk;rw[hk];exact s.iH
  ·intro k hk;rcases aQ.gm hk with e|e|⟨x,hx,hkx⟩
   ·exact Or.inl (by have:k=s.rb:=e;rw[this];exact s.iH)
   ·exact Or.inr (hg k e)
   ·exact Or.inl (zx h hiv hio hv ho k (List.mem_flatMap.2 ⟨x,hx,hkx⟩))
 generalize hpic:s.dN v.bC s.af.length=k at *;have hk:(k:Int)<=1:=by omega
 have hD':Calls prog 101 #[.pointer (some ⟨s.rb,0,none⟩),.string t] (w.setCell ⟨o.vb,2,none⟩ (.slice (some ⟨v.dg,0,none⟩) v.data.length dc)) fun e w'=>e=.returned (.tuple #[])/\∃lg,bQ w s w' { s with lg:=lg,af:=aQ.without { s with af:=s.af.set io { o with dg:=v.dg,data:=v.data } } t s.af.length }:=by
  refine hD.mono ?_;rintro e w' ⟨he,hS,lg,hR,hg⟩;have hlen:(s.af.set io { o with dg:=v.dg,data:=v.data }).length=s.af.length:=by rw[List.length_set]
  refine⟨he,lg,hres w' hS lg ?_ (fun b hb=>by have:=hg b hb;simpa using this)⟩;have hR':aO w' { s with lg:=lg,af:=aQ.without { s with af:=s.af.set io { o with dg:=v.dg,data:=v.data } } t (s.af.set io { o with dg:=v.dg,data:=v.data }).length }:=hR;rw[hlen]at hR';exact hR'
 clear hres hD R1 V1 S1 hVo hVv hvA hvo hvd o2 o3 o4 o5 h hnd hmv hmo
 go_enter func60,ntmps60
 go_wp2_with (first|(go_at_call 79;refine hF.mono ?_;clear hF;rintro e wz ⟨rfl,rfl⟩)|(go_at_call 79;refine hF2.mono ?_;rintro e wz ⟨rfl,rfl⟩)|(go_at_call 99;refine hP.mono ?_;rintro e wz ⟨rfl,rfl⟩)|(go_at_call 101;refine hD'.mono ?_;rintro e wy ⟨rfl,lg,hR⟩))
 go_ret
 exact⟨rfl,lg,hR⟩
theorem bQ.trans{w0 w w':World}{s s1 s2:aQ}(h:bQ w0 s w s1)(k:bQ w s1 w' s2):bQ w0 s w' s2:=by
 refine⟨k.ref,k.nodup,h.same.step k.same ?_,?_,k.rb.trans h.rb,k.n.trans h.n⟩
 ·intro x hx hl;rcases h.foot x hx with e|e
  ·exact e
  ·omega
 ·intro x hx;rcases k.foot x hx with e|e
  ·exact h.foot x e
  ·exact Or.inr (Nat.le_trans h.same.size e)
def lW(k:Nat)(x:ay):List Nat×Bool:=if k∈x.kept then (x.kept,x.lost) else if x.kept.length<x.blocks.length then (x.kept++[k],x.lost) else ([],true)
structure oJ(v v1:ay):Prop where
 vb:v1.vb=v.vb
 dg:v1.dg=v.dg
 bg:v1.bg=v.bg
 name:v1.name=v.name
 bC:v1.bC=v.bC
 data:v1.data=v.data
 blocks:v1.blocks=v.blocks
theorem oJ.refl(v:ay):oJ v v:=⟨rfl,rfl,rfl,rfl,rfl,rfl,rfl⟩
theorem Ee{l:List ay}{i:Nat}{v:ay}(hi:i<l.length)(hv:l[i]! = v):l.set i v=l:=by
 rw[<-hv,getElem!_pos l i hi,List.set_getElem_self]
theorem Cc(s:aQ)(i k:Nat)(v:ay)(w:World)(h:aO w s)(hnd:s.foot.Nodup)(hi:i<s.af.length)(hv:s.af[i]! = v)(hl:v.lost=false) :
 Calls prog 92 #[.pointer (some ⟨v.vb,0,none⟩),.int .i64 k] w fun e w'=>∃v1,e=.returned (.bool (!v1.lost))/\bQ w s w' { s with af:=s.af.set i v1 }/\oJ v v1/\(v1.kept,v1.lost)=lW k v:=by
 have hm:v∈s.af:=by rw[<-hv];exact gY hi
 have hV:=h.af v hm;have hlt:=h.bn;have hvf:v.foot.Nodup:=(iM ay.foot s.af (aQ.iI hnd).2.2.2).1 v hm;by_cases hk:k∈v.kept
 ·refine(Ls v k w hV hk).mono ?_;rintro e w' ⟨he,rfl⟩;refine⟨v,by rw[hl];exact he,?_,oJ.refl v,by rw[lW,if_pos hk]⟩;rw[Ee hi hv];exact bQ.still h hnd (Same.refl _ _)
 ·by_cases hf:v.kept.length<v.blocks.length
  ·have hbg:v.kg≠some v.bg:=fun e=>by
    simp only[ay.foot,List.nodup_cons,List.mem_cons,not_or]at hvf;exact hvf.2.2.1 (by simp[e])
   refine(FQ v k w hV hk hf hbg).mono ?_;rintro e w' ⟨he,g,hR,hS,hg⟩;have hsub:∀x∈v.vb::v.kg.toList,x∈(s.af[i]!).foot:=by
    intro x hx;rw[hv];simp only[ay.foot,List.mem_cons]at hx ⊢;exact hx.imp id fun q=>Or.inr (Or.inr q)
   have hff:∀x∈ay.foot { v with kg:=some g,kept:=v.kept++[k] },x∈v.foot\/w.heap.size<=x:=by
    intro x hx;simp only[ay.foot,List.mem_cons,Option.mem_toList]at hx ⊢;rcases hx with q|q|q|q
    ·exact Or.inl (Or.inl q)
    ·exact Or.inl (Or.inr (Or.inl q))
    ·exact Or.inl (Or.inr (Or.inr (Or.inl q)))
    ·have q':g=x:=by simpa using q
     rcases hg with hg|hg
     ·exact Or.inl (Or.inr (Or.inr (Or.inr (by rw[hg,q']))))
     ·exact Or.inr (by omega)
   refine⟨{ v with kg:=some g,kept:=v.kept++[k] },by simpa [hl] using he,⟨qE h hnd i hi _ (by rw[hv]) hR hS hsub,jA hnd i hi _ ?_ ?_,hS.mono ?_,?_,rfl,rfl⟩,⟨rfl,rfl,rfl,rfl,rfl,rfl,rfl⟩,by rw[lW,if_neg hk,if_pos hf]⟩
   ·have hvl:=hV.bn;simp only[ay.foot,List.nodup_cons,List.mem_cons,not_or]at hvf ⊢;have hgn:∀x∈[v.vb,v.dg,v.bg],x≠g:=by
     intro x hx e;rcases hg with hg|hg
     ·rw[hg]at hvf;simp at hvf hx;rcases hx with q|q|q
      ·exact hvf.1.2.2 (by rw[<-q];exact e)
      ·exact hvf.2.1.2 (by rw[<-q];exact e)
      ·exact hvf.2.2 (by rw[<-q];exact e)
     ·have:x∈v.foot:=by simp[ay.foot]at hx ⊢;rcases hx with q|q|q<;>simp[q]
      have:=hvl x this;omega
    simp only[Option.toList_some,List.mem_singleton,List.not_mem_nil,not_false_eq_true,List.nodup_nil,and_true];exact⟨⟨hvf.1.1,hvf.1.2.1,hgn v.vb (by simp)⟩,⟨hvf.2.1.1,hgn v.dg (by simp)⟩,hgn v.bg (by simp),by simp⟩
   ·intro x hx;rw[hv];exact(hff x hx).imp id fun q hm=>by have:=hlt x hm;omega
   ·intro x hx _;exact s.bH hm (by have:=hsub x hx;rw[hv]at this;exact this)
   ·exact nM i hi _ fun x hx=>by rw[hv];exact hff x hx
  ·refine(Ii v k w hV hk (by omega)).mono ?_;rintro e w' ⟨he,hR,hS⟩;have hsub:∀x∈[v.vb],x∈(s.af[i]!).foot:=by
    intro x hx;rw[hv];simp at hx;rw[hx];simp[ay.foot]
   have hff:∀x∈ay.foot { v with kg:=none,kept:=[],lost:=true },x∈v.foot:=by
    intro x hx;simp only[ay.foot,List.mem_cons,Option.toList_none,List.not_mem_nil,or_false]at hx ⊢;rcases hx with q|q|q
    ·exact Or.inl q
    ·exact Or.inr (Or.inl q)
    ·exact Or.inr (Or.inr (Or.inl q))
   refine⟨{ v with kg:=none,kept:=[],lost:=true },by simpa using he,⟨qE h hnd i hi _ (by rw[hv]) hR hS hsub,jA hnd i hi _ ?_ ?_,hS.mono ?_,?_,rfl,rfl⟩,⟨rfl,rfl,rfl,rfl,rfl,rfl,rfl⟩,by rw[lW,if_neg hk,if_neg hf]⟩
   ·simp only[ay.foot,List.nodup_cons,List.mem_cons,not_or]at hvf ⊢;simp only[Option.toList_none,List.not_mem_nil,not_false_eq_true,List.nodup_nil,and_true];exact⟨⟨hvf.1.1,hvf.1.2.1⟩,hvf.2.1.1⟩
   ·intro x hx;rw[hv];exact Or.inl (hff x hx)
   ·intro x hx _;exact s.bH hm (by have:=hsub x hx;rw[hv]at this;exact this)
   ·exact nM i hi _ fun x hx=>by rw[hv];exact Or.inl (hff x hx)
theorem iK.set{w:World}{g cap:Nat}{l:List ByteArray}(h:iK w g cap l)(k:Nat)(hk:k<l.length)(y:ByteArray):iK (w.setCell ⟨g,k,none⟩ (.string y)) g cap (l.set k y):=by
 obtain⟨cs,h1,h2,h3,h4,h5⟩:=h.ex;refine⟨cs.set k (.string y),h1.ax k _,by rw[List.length_set];exact h2,?_,by rw[List.length_set];exact h4,h5⟩;rw[List.length_set,List.take_set,h3,List.map_set]
theorem KQ{w:World}{s:aQ}{i k:Nat}{v:ay}(h:aO w s)(hnd:s.foot.Nodup)(hi:i<s.af.length)(hv:s.af[i]! = v)(hk:k<v.data.length)(y:ByteArray) :
 bQ w s (w.setCell ⟨v.dg,k,none⟩ (.string y)) { s with af:=s.af.set i { v with data:=v.data.set k y } }:=by
 have hm:v∈s.af:=by rw[<-hv];exact gY hi
 have hV:=h.af v hm;have hvf:v.foot.Nodup:=(iM ay.foot s.af (aQ.iI hnd).2.2.2).1 v hm;have S1:Same [v.dg] w (w.setCell ⟨v.dg,k,none⟩ (.string y)):=(Same.refl _ _).set _ _ _ (by simp);obtain⟨dc,bc,kc,a1,a2,a3,a4,a5⟩:=hV.ex;have VZ:=hvf;simp only[ay.foot,List.nodup_cons,List.mem_cons,not_or]at VZ;have V1:dU (w.setCell ⟨v.dg,k,none⟩ (.string y)) { v with data:=v.data.set k y }:=by
  refine⟨⟨dc,bc,kc,?_,a2.set k hk y,a3.same S1 (by simpa using fun e=>VZ.2.1.1 e.symm),a4,fun g hg=>(a5 g hg).same S1 ?_⟩,by rw[List.length_set];exact hV.data,hV.blocks,hV.kept⟩
  ·have:=S1.at a1 (by simpa using VZ.1.1);simpa using this
  ·simp;intro e;have hg':v.kg=some g:=hg;exact VZ.2.1.2 (by rw[hg',e];simp)
 refine⟨qE h hnd i hi _ (by rw[hv]) V1 S1 (by rw[hv];simp[ay.foot]),jA hnd i hi _ hvf (fun x hx=>by rw[hv];exact Or.inl hx),S1.mono ?_,nM i hi _ fun x hx=>by rw[hv];exact Or.inl hx,rfl,rfl⟩;intro x hx _;simp at hx;rw[hx];exact s.bH hm (by simp[ay.foot])
theorem BJ{l:List ay}{i:Nat}{v:ay}(hi:i<l.length):(l.set i v)[i]! = v:=by
 rw[getElem!_pos _ i (by rw[List.length_set];exact hi),List.getElem_set,if_pos rfl]
theorem aO.cells{w:World}{s:aQ}(h:aO w s){v:ay}(hv:v∈s.af):w.cell? ⟨v.vb,1,none⟩=some (.string v.bC)/\(∃dc,w.cell? ⟨v.vb,2,none⟩=some (.slice (some ⟨v.dg,0,none⟩) v.data.length dc))/\w.cell? ⟨v.vb,5,none⟩=some (.bool v.lost):=by
 obtain⟨dc,bc,kc,a1,_⟩:=(h.af v hv).ex;exact⟨a1.cell? 1,⟨dc,a1.cell? 2⟩,a1.cell? 5⟩
theorem G6 (s : aQ) (t y : ByteArray) (i k : Nat) (v : ay) (w : World) (h : aO w s) (hnd : s.foot.Nodup) (hi : i < s.af.length) (hv : s.af[i]! = v) (ha : s.oO t = some v) (hl : v.lost = false) (hk : k < v.data.length) (hy : v.data[k]! ≠ y) (hof : v.bC ≠ ⟨#[]⟩) :
    Calls prog 51 #[.pointer (some ⟨s.rb, 0, none⟩), .string t, .int .i64 k, .string y] w fun e w' => ∃ v1, oJ v v1 ∧ (v1.kept, v1.lost) = lW k v ∧
      ((v1.lost = true ∧ e = .returned (.int .i64 10) ∧ bQ w s w' { s with af := s.af.set i v1 }) ∨
       (v1.lost = false ∧ e = .returned (.int .i64 0) ∧ bQ w s w' { s with af := s.af.set i { v1 with data := v1.data.set k y } })) := by
  have hA := qO s t k v w h ha hl hk
  have hK := Cc s i k v w h hnd hi hv hl
  have hm : v ∈ s.af := by rw [← hv]; exact gY hi
  obtain ⟨dc, bc, kc, hvA, hdat, _⟩ := (h.af v hm).ex
  have hd := (h.af v hm).data
  have e1 : w.cell? ⟨v.vb, 1, none⟩ = some (.string v.bC) := hvA.cell? 1
  have e2 : w.cell? ⟨v.vb, 2, none⟩ = some (.slice (some ⟨v.dg, 0, none⟩) v.data.length dc) := hvA.cell? 2
  have ek := hdat.cell k hk
  have hbq := ku hof
  have hyq : (v.data[k]!.toList == y.toList) = false := by rw [bytes_beq]; exact decide_eq_false hy
  generalize v.data[k]! = z at *
  have l1 : (k : Int) < (v.data.length : Int) := by omega
  have hnot := zM
  clear hvA hdat
  go_enter func51, ntmps51
  go_wp2_with (first | (go_at_call 91; refine hA.mono ?_; rintro e wz ⟨rfl, rfl⟩) | (go_at_call 92; refine hK.mono ?_; rintro e w1 ⟨v1, rfl, hR, hS1, hkr⟩; cases hlo : v1.lost))
  · have hi1 : i < (s.af.set i v1).length := by rw [List.length_set]; exact hi
    have hg1 : (s.af.set i v1)[i]! = v1 := BJ hi
    have hm1 : v1 ∈ s.af.set i v1 := by have := gY hi1; rw [hg1] at this; exact this
    obtain ⟨cap1, hp1, q1, q2⟩ := hR.ref.pool
    have c1 : w1.cell? ⟨s.rb, 1, none⟩ = some (.slice (s.lg.map fun b => ⟨b, 0, none⟩) s.af.length cap1) := by
      have := hp1.cell? 1
      rw [show (aQ.af { s with af := s.af.set i v1 }).length = s.af.length from List.length_set] at this
      exact this
    obtain ⟨dc1, bc1, kc1, a1, a2, _⟩ := (hR.ref.af v1 hm1).ex
    have f1 : w1.cell? ⟨v.vb, 1, none⟩ = some (.string v.bC) := by rw [← hS1.vb, ← hS1.bC]; exact a1.cell? 1
    have f2 : w1.cell? ⟨v.vb, 2, none⟩ = some (.slice (some ⟨v.dg, 0, none⟩) v.data.length dc1) := by rw [← hS1.vb, ← hS1.dg, ← hS1.data]; exact a1.cell? 2
    have hk1 : k < v1.data.length := by rw [hS1.data]; exact hk
    have hD := KQ hR.ref hR.nodup hi1 hg1 hk1 y
    have hfin : bQ wz s (w1.setCell ⟨v.dg, k, none⟩ (.string y)) { s with af := s.af.set i { v1 with data := v1.data.set k y } } := by
      have e : w1.setCell ⟨v.dg, k, none⟩ (.string y) = w1.setCell ⟨v1.dg, k, none⟩ (.string y) := by rw [hS1.dg]
      rw [e]
      have q : (s.af.set i v1).set i { v1 with data := v1.data.set k y } = s.af.set i { v1 with data := v1.data.set k y } := List.set_set ..
      have := hR.trans hD
      rw [← q]
      exact this
    obtain ⟨tcs, tA, _⟩ := a2.ex
    have f3 : w1.cell? ⟨v.dg, k, none⟩ = some (.string v1.data[k]!) := by rw [← hS1.dg]; exact a2.cell k hk1
    have f4 : w1.frozen? ⟨v.dg, k, none⟩ = false := by rw [← hS1.dg]; exact tA.frozen k
    generalize v1.data[k]! = z1 at *
    have hfew : s.af.length ≤ 20 := by have := hR.ref.few; rw [show (aQ.af { s with af := s.af.set i v1 }).length = s.af.length from List.length_set] at this; exact this
    clear hD a1 a2 tA hp1 hR q1 q2 hm1 e1 e2 ek
    go_loopw [12] (fun i wr => i = .int .i64 0 ∧ wr = w1) (fun i _ => 0)
    case atStart => exact ⟨rfl, rfl⟩
    case round =>
      obtain ⟨rfl, hwr⟩ := hrel
      subst hwr
      go_wp2
      all_goals
        go_ret
        exact ⟨v1, hS1, hkr, Or.inr ⟨hlo, rfl, hfin⟩⟩
  · go_ret
    exact ⟨v1, hS1, hkr, Or.inl ⟨hlo, rfl, hR⟩⟩
end
end Go.Proofs.YtpddgdjocffgdaaGreat
