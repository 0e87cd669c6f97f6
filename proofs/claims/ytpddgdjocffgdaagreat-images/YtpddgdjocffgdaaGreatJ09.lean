/- The document's own answer: add, by contract. The document's own answer: add to an empty list; Create that makes, by contract. The document's own answer: one volume told otherwise; Revert, by contract. The document's own answer: what a call leaves; Create that makes. The document's own answer: Picture, by contract. -/
import Derived.Test.YtpddgdjocffgdaaGreatJ06
import Derived.Deep.RegionLawGrows
import Derived.Test.YtpddgdjocffgdaaGreatJ04
import Derived.Test.YtpddgdjocffgdaaGreatJ07
namespace Go.Proofs.YtpddgdjocffgdaaGreat
set_option linter.unusedVariables false
set_option linter.unusedSimpArgs false
set_option linter.unusedSectionVars false
set_option maxHeartbeats 16000000
set_option maxRecDepth 100000
section
open Go.RowKit Go.Sort
variable [DecidableEq Blk] [Inhabited Blk] [Inhabited Vol] [Inhabited RVol]
theorem ptrs_oneR:∀(l:List RVol),∀u∈l.map (fun v=>ptr v.vb),u.oneCell'=true:=fun l u hu=>by
 obtain⟨v,_,rfl⟩:=List.mem_map.1 hu;rfl
theorem nums_one:∀(l:List Nat),∀u∈l.map (fun x:Nat=>Value.int .i64 x),u.oneCell'=true:=fun l u hu=>by
 obtain⟨v,_,rfl⟩:=List.mem_map.1 hu;rfl
structure Filled(w w':World)(s:RSt)(vb:Nat)(t of_:ByteArray)(data:List ByteArray)(xs:List Nat)(base:Nat)(B:Nat):Prop where
 ex:∃bg dg,w.heap.size<=bg/\bg < B/\base<=dg/\dg < B/\RVolAt w' ⟨vb,dg,bg,none,t,of_,data,xs,[],false⟩
 ref:RefAt w' s
 same:Same [vb] w w'
theorem add_done{w w4 w5:World}{s:RSt}{vb:Nat}{t of_:ByteArray}{data:List ByteArray}{xs:List Nat}{p base:Nat}(hF:Filled w w4 s vb t of_ data xs base w4.heap.size)(hfew:s.vols.length < 20)(h5:Same [] w4 w5)(a:Option Addr)(cap m:Nat)
 (hm:m=s.vols.length+1) (hown:w5.ownsRow w4.heap.size 115 1 (.slice a m cap) m ((insR p ⟨vb,0,0,none,t,of_,data,xs,[],false⟩ s.vols).map (fun v=>ptr v.vb))) (hp:p<=s.vols.length) :
 AddAt w (w5.setCell ⟨s.rb,1,none⟩ (.slice a m cap)) s vb t of_ data xs p base:=by
 obtain⟨⟨bg,dg,b1,b2,b3,b4,hV⟩,hR,hS⟩:=hF;obtain⟨pc,hp0,h1,h2⟩:=hR.pool;have hlen:(insR p ⟨vb,dg,bg,none,t,of_,data,xs,[],false⟩ s.vols).length=s.vols.length+1:=by simp[insR];omega
 have hmap:(insR p ⟨vb,0,0,none,t,of_,data,xs,[],false⟩ s.vols).map (fun v=>ptr v.vb)=(insR p ⟨vb,dg,bg,none,t,of_,data,xs,[],false⟩ s.vols).map (fun v=>ptr v.vb):=by simp[insR]
 rw[hmap] at hown;have hsz:=hS.size;have hsz5:=h5.size;obtain⟨g,cs,rfl,hg,hA,hcl,ht⟩:=owns_atN hown (by omega);have hle:=owns_le hown;have hp5:=h5.at hp0 (by simp);have S5:Same [s.rb] w4 (w5.setCell ⟨s.rb,1,none⟩ (.slice (some ⟨g,0,none⟩) m cap)):=(h5.mono (by simp)).set _ _ _ (by simp);have hpl:=hp0.lt;have noT:∀b∈[s.rb],∀cs,¬At w4 b 118 cs/\¬At w4 b 9 cs/\¬At w4 b 3 cs:=by
  intro b hb cs;simp at hb;subst hb;exact⟨fun hA=>absurd (hA.inj hp0).1 (by decide),fun hA=>absurd (hA.inj hp0).1 (by decide),fun hA=>absurd (hA.inj hp0).1 (by decide)⟩
 refine⟨⟨g,bg,dg,by omega,b1,b3,by omega,⟨⟨cap,?_,?_,fun hq=>by cases hq⟩,fun b hb=>?_,fun v hv=>?_,?_,hR.n⟩⟩,?_⟩
 ·show At _ s.rb _ [.int .i64 s.n,.slice ((some g).map fun b=>⟨b,0,none⟩) (insR p ⟨vb,dg,bg,none,t,of_,data,xs,[],false⟩ s.vols).length cap];rw[hlen,<-hm];exact hp5.set_same 1 _
 ·show (insR p ⟨vb,dg,bg,none,t,of_,data,xs,[],false⟩ s.vols).length<=cap;rw[hlen];omega
 ·cases hb;refine⟨cs,hA.set_other _ _ _ (by omega),?_,?_⟩
  ·show cs.take (insR p ⟨vb,dg,bg,none,t,of_,data,xs,[],false⟩ s.vols).length=_;rw[hlen,<-hm];simpa using ht
  ·show (insR p ⟨vb,dg,bg,none,t,of_,data,xs,[],false⟩ s.vols).length<=_;rw[hlen,hcl];omega
 ·have hv':v∈insR p ⟨vb,dg,bg,none,t,of_,data,xs,[],false⟩ s.vols:=hv;have:v=⟨vb,dg,bg,none,t,of_,data,xs,[],false⟩\/v∈s.vols:=by
   unfold insR at hv';rcases List.mem_append.1 hv' with hv'|hv'
   ·exact Or.inr (List.mem_of_mem_take hv')
   ·rcases List.mem_cons.1 hv' with hv'|hv'
    ·exact Or.inl hv'
    ·exact Or.inr (List.mem_of_mem_drop hv')
  rcases this with rfl|hv
  ·exact hV.same S5 noT
  ·exact (hR.vols v hv).same S5 noT
 ·show (insR p ⟨vb,dg,bg,none,t,of_,data,xs,[],false⟩ s.vols).length<=20;rw[hlen];omega
 ·exact (hS.mono (T:=[s.rb,vb]) (by simp)).step S5 (by simp)
theorem filled_of{w w2 w3:World}{s:RSt}{vb n:Nat}{t of_:ByteArray}{base:Nat}{data:List ByteArray}{dg dc:Nat}{fl:List Nat}(h:RefAt w s)(hvb:vb∉s.foot)(hbase:vb < base)(hdg:base<=dg)(hT:TextsAt w dg dc data)(hdl:data.length<=200)
 (hA:At w vb 118 [.string t,.string of_,.slice (some ⟨dg,0,none⟩) data.length dc,.slice none 0 0,.slice none 0 0,.bool false]) (hS:Same [] w w2) (hgrow:w2.grownBy w3 none) (hn:1<=n/\n<=200) (hf:n<=fl.length) (bg bc:Nat)
 (hbg:w2.heap.size<=bg) (hN:NumsAt w3 bg bc (fl.take n)) :
 Filled w (w3.setCell ⟨vb,3,none⟩ (.slice (some ⟨bg,0,none⟩) n bc)) s vb t of_ data (fl.take n) base (w3.setCell ⟨vb,3,none⟩ (.slice (some ⟨bg,0,none⟩) n bc)).heap.size:=by
 have S3:Same [] w w3:=hS.grown hgrow (by simp);have A3:=S3.at hA (by simp);have S4:Same [vb] w (w3.setCell ⟨vb,3,none⟩ (.slice (some ⟨bg,0,none⟩) n bc)):=(S3.mono (by simp)).set _ _ _ (by simp);have S34:Same [vb] w3 (w3.setCell ⟨vb,3,none⟩ (.slice (some ⟨bg,0,none⟩) n bc)):=(Same.refl _ _).set _ _ _ (by simp);have hl:(fl.take n).length=n:=by rw[List.length_take];omega
 have hsz:=hS.size;have hvl:=hA.lt;have hdl':dg < w.heap.size:=by obtain⟨cs,h1,_⟩:=hT.ex;exact h1.lt
 refine⟨⟨bg,dg,by omega,?_,hdg,?_,⟨⟨dc,bc,0,?_,?_,?_,fun _=>⟨rfl,rfl⟩,fun g hg=>by cases hg⟩,hdl,by rw[hl];omega,by simp⟩⟩,h.sameF S4 (fun k hk hm=>by simp at hm;subst hm;exact hvb hk),S4⟩
 ·have:=hN.lt;have:=S34.size;omega
 ·have:=S4.size;omega
 ·have:=A3.set_same 3 (.slice (some ⟨bg,0,none⟩) n bc);simp only[hl];exact this
 ·exact hT.same S4 (by simp;omega)
 ·exact hN.same S34 (by simp;omega)
theorem refAdd_some(s:RSt)(vb n b p:Nat)(t of_:ByteArray)(base:Nat)(data:List ByteArray)(w:World)(h:RefAt w s)(hlg:s.lg=some b)(hB:Bare w vb t of_ base data)(hd:data≠[])(hdl:data.length<=200)(hm:s.vols.length < 20)(hf:n<=(s.freeL s.n).length)(hn:1<=n/\n<=200)
 (hp:p<=s.vols.length) (hlt:∀j,j < p->cmpB (s.vols[j]!).name t < 0) (hge:p < s.vols.length->¬cmpB (s.vols[p]!).name t < 0) (hvb:vb∉s.foot) (hbase:vb < base) :
 Calls Tryz.prog 85 #[.pointer (some ⟨s.rb,0,none⟩),.pointer (some ⟨vb,0,none⟩),.int .i64 n] w fun e w'=>e=.returned (.int .i64 0)/\AddAt w w' s vb t of_ data ((s.freeL s.n).take n) p base:=by
 have hR:=refFree_calls s w h;obtain⟨u,hA,hown⟩:=hB.ex;obtain⟨dg,dc,rfl,hdg,hT⟩:=owns_texts hown hd;obtain⟨cap,hpo,h1,h2⟩:=h.pool;have hfl:=s.freeL_len s.n;have hsn:=h.n;have c1:w.cell? ⟨s.rb,1,none⟩=some (.slice (some ⟨b,0,none⟩) s.vols.length cap):=by have:=hpo.cell? 1;rw[hlg] at this;exact this
 have l1:(s.vols.length:Int) < 20:=by omega
 generalize s.freeL s.n=fl at *;have l2:¬(fl.length:Int) < (n:Int):=by omega
 obtain⟨i0,hi,hz0,hz1,hz2⟩:=info_parts Tryz.info3;obtain⟨i1,ki,kz0,kz1,kz2⟩:=info_parts Tryz.infoRV
 go_enter Tryz.func85,Tryz.ntmps85
 go_wp2_with (first|(go_at_call 63;refine hR.mono ?_;rintro e w2 ⟨u,rfl,hownF,hS⟩;obtain⟨ua,ucap,rfl⟩:=owns_form hownF))
 obtain⟨gf,fcs,rfl,hgf,hAf,hle,hcl,htk⟩:=owns_at hownF (by omega);have hsz:=hS.size;have hA2:=hS.at hA (by simp);have e3:w2.cell? ⟨vb,3,none⟩=some (.slice none 0 0):=hA2.cell? 3;have hnews:∀(W:World),W.heap=w2.heap->∀j u,((fl.take n).map (fun x:Nat=>Value.int .i64 x))[j]? = some u->W.cell? ⟨gf,j,none⟩=some u:=by
  intro W hW j u hj;have hj2:j < n:=by
   rcases Nat.lt_or_ge j n with h'|h'
   ·exact h'
   ·rw[List.getElem?_eq_none (by simp;omega)] at hj;cases hj
  have hBW:At W gf _ fcs:=hAf.of_heap (by rw[hW]);rw[hBW.cell?];have e1:(fcs.take fl.length)[j]? = fcs[j]?:=by rw[List.getElem?_take,if_pos (by omega)]
  rw[<-e1,htk,<-hj,List.map_take,List.getElem?_take,if_pos hj2]
 have k1:n<=ucap:=by omega
 have k2:(0:Int)<=(n:Int):=by omega
 have k3:((n:Int)).toNat=n:=by omega
 have k4:(n:Int)<=(ucap:Int):=by omega
 go_region_law (refine step_append_grows rfl (.tmp 26) (.tmp 29) 51 rfl 3 i0 (.int .i64 0) 1 8 Tryz.underlying51 hi hz0 hz1 hz2 rfl (by decide) none 0 0 [] (by simp[Act.eval,Act.put]) (fun _=>⟨rfl,rfl⟩) rfl (by intro b1 hb1;cases hb1) ⟨gf,0,none⟩ n ucap ((fl.take n).map (fun x:Nat=>Value.int .i64 x)) (by simp[Act.eval,Act.put]) (by simp;omega) (by intro j u hj;rw[Addr.add_lit,Nat.zero_add];exact hnews _ rfl j u hj) (nums_one _) (by omega) (by unfold maxLen;omega) (by omega) ?_;intro v' w3 hown3 hgrow;obtain⟨a3,cap3,rfl⟩:=owns_form hown3;have p3:=hA2.drew.of_heap (hgrow.block vb hA2.drew.lt (by simp));have g3:w3.cell? ⟨vb,3,none⟩=some (.slice none 0 0):=p3.cell? 3;have z3:w3.frozen? ⟨vb,3,none⟩=false:=p3.frozen 3)
 have hlt':(fl.take n).length=n:=by rw[List.length_take];omega
 have hown4:w3.ownsRow w2.heap.size 3 1 (.slice a3 n cap3) n ((fl.take n).map (fun x:Nat=>Value.int .i64 x)):=by simpa using hown3
 obtain⟨bg,bc,hv3,hbg,hN⟩:=owns_nums hown4 (by intro e;rw[e] at hlt';simp at hlt';omega);rw[hlt'] at hv3;obtain⟨rfl,rfl⟩:a3=some ⟨bg,0,none⟩/\cap3=bc:=by simpa using hv3
 have hF:=filled_of h hvb hbase hdg hT hdl hA hS.drew hgrow hn hf bg cap3 hbg hN;generalize hW:w3.setCell ⟨vb,3,none⟩ (.slice (some ⟨bg,0,none⟩) n cap3)=W4 at *;have d1:W4.cell? ⟨s.rb,1,none⟩=some (.slice (some ⟨b,0,none⟩) s.vols.length cap):=by
  rw[<-hW];have q:=hS.drew.grown hgrow (fun _ h=>by cases h);have q2:Same [vb] w (w3.setCell ⟨vb,3,none⟩ (.slice (some ⟨bg,0,none⟩) n cap3)):=(q.mono (by simp)).set _ _ _ (by simp);have:=(q2.at hpo (by simp;exact fun e=>hvb (by rw[<-e];exact s.foot_rb))).cell? 1;rw[hlg] at this;exact this
 have d0:W4.cell? ⟨vb,0,none⟩=some (.string t):=by
  obtain⟨bg',dg',_,_,_,_,hV⟩:=hF.ex;obtain⟨_,_,_,q,_⟩:=hV.ex;exact q.cell? 0
 obtain⟨cs,hB4,hcs,hcsl⟩:=hF.ref.arr b hlg;clear hW hown3 hown4 hgrow hN hv3 p3 g3 z3 hnews hAf htk hownF e3 hA2 hA hT hown hB hR c1 hpo hS hi hz0 hz1 hz2
 go_wp2
 go_loopw [8] (fun i wr=>∃k:Nat,k<=p/\i=.int .i64 k/\Same [] W4 wr/\wr.heap=W4.heap) (fun i _=>p - (intOf i).toNat)
 case atStart=>exact⟨0,Nat.zero_le _,rfl,Same.refl _ _,rfl⟩
 case round=>
  obtain⟨k,hk,rfl,hS4,hhp⟩:=hrel;have r1:=hF.ref.same0 hS4;have x1:wr.cell? ⟨s.rb,1,none⟩=some (.slice (some ⟨b,0,none⟩) s.vols.length cap):=by rw[<-d1];simp[World.cell?,hhp]
  have x0:wr.cell? ⟨vb,0,none⟩=some (.string t):=by rw[<-d0];simp[World.cell?,hhp]
  by_cases hkp:k < p
  ·obtain⟨b',hb',y1,hm1⟩:=r1.cell k (by omega);obtain rfl:b'=b:=by rw[hlg] at hb';exact (Option.some.inj hb').symm
   obtain⟨_,_,_,hv,_⟩:=(r1.vols _ hm1).ex;have y2:wr.cell? ⟨(s.vols[k]!).vb,0,none⟩=some (.string (s.vols[k]!).name):=hv.cell? 0;have hless:Op.bytesLess (s.vols[k]!).name.toList t.toList=true:=by rw[less_cmp];exact decide_eq_true (hlt k hkp)
   clear hv hm1 r1;generalize (s.vols[k]!).vb=ub at *;generalize (s.vols[k]!).name=un at *;have l3:(k:Int) < (s.vols.length:Int):=by omega
   go_wp2
   go_region
   go_wp2
   go_roundw
   case rel=>exact⟨k+1,by omega,by go_num,hS4.drew,hhp⟩
   case measure=>simp[intOf];omega
  ·have ek:k=p:=by omega
   subst ek;obtain⟨cs1,hB1,hcs1,hcl1⟩:=r1.arr b hlg;by_cases hkl:k < s.vols.length
   ·obtain⟨b',hb',y1,hm1⟩:=r1.cell k hkl;obtain rfl:b'=b:=by rw[hlg] at hb';exact (Option.some.inj hb').symm
    obtain⟨_,_,_,hv,_⟩:=(r1.vols _ hm1).ex;have y2:wr.cell? ⟨(s.vols[k]!).vb,0,none⟩=some (.string (s.vols[k]!).name):=hv.cell? 0;have hless:Op.bytesLess (s.vols[k]!).name.toList t.toList=false:=by rw[less_cmp];exact decide_eq_false (by have:=hge hkl;omega)
    clear hv hm1;generalize (s.vols[k]!).vb=ub at *;generalize (s.vols[k]!).name=un at *;have l3:(k:Int) < (s.vols.length:Int):=by omega
    have olds:∀(W:World),W.heap=wr.heap->∀j u,((s.vols.take k).map (fun v=>ptr v.vb))[j]? = some u->W.cell? ⟨b',j,none⟩=some u:=by
     intro W hW j u hj;have hj2:j < k:=by
      rcases Nat.lt_or_ge j k with h'|h'
      ·exact h'
      ·rw[List.getElem?_eq_none (by simp;omega)] at hj;cases hj
     have hBW:At W b' _ cs1:=hB1.of_heap (by rw[hW]);rw[hBW.cell?];have e1:(cs1.take s.vols.length)[j]? = cs1[j]?:=by rw[List.getElem?_take,if_pos (by omega)]
     rw[<-e1,hcs1,<-hj,List.map_take,List.getElem?_take,if_pos hj2]
    have k5:k<=cap:=by omega
    have k6:(k:Int)<=(cap:Int):=by omega
    go_wp2_with fail
    go_region
    go_wp2_with (at_builtin;refine wpList_append_own _ rfl _ _ 82 rfl W4.heap.size 115 i1 (.pointer none) 1 8 Tryz.underlying82 ki kz0 kz1 kz2 rfl (by decide) _ _ _ rfl (World.ownsRow_nil _ _ _ _) ⟨b',0,none⟩ k cap ((s.vols.take k).map (fun v=>ptr v.vb)) rfl ?n1 ?c1 ?c2 ?c3 ?c4 ?c5 ?_)
    case n1=>simp;omega
    case c1=>intro j u hj;rw[Addr.add_lit,Nat.zero_add];exact olds _ rfl j u hj
    case c2=>exact ptrs_oneR _
    case c3=>unfold maxLen;omega
    case c4=>omega
    case c5=>have:=hS4.size;simpa using this
    intro v5 w5 hown5 hgrow5 _;have S5:Same [] W4 w5:=hS4.drew.grown hgrow5 (by simp[Value.ownBlock]);obtain⟨a5,cap5,rfl⟩:=owns_form hown5;have x5:w5.cell? ⟨s.rb,1,none⟩=some (.slice (some ⟨b',0,none⟩) s.vols.length cap):=by
     rw[<-d1];have:w5.heap[s.rb]? = W4.heap[s.rb]?:=S5.block _ (by obtain⟨c',q,_⟩:=hF.ref.pool;exact q.lt) (by simp);simp[World.cell?,this]
    have hs5:=S5.size;clear y1 y2 x1 x0 hgrow5
    go_wp2_with (at_builtin;refine wpList_append_own _ rfl _ _ 82 rfl W4.heap.size 115 i1 (.pointer none) 1 8 Tryz.underlying82 ki kz0 kz1 kz2 rfl (by decide) _ _ _ rfl (hown5.alloc _) ⟨w5.heap.size,0,none⟩ 1 1 [ptr vb] rfl rfl ?c1 ?c2 ?c3 ?c4 ?c5 ?_)
    case c1=>
     intro j u hj
     match j,hj with
     | 0,hj=>simp at hj;subst hj;simp[Addr.add,ptr]
    case c2=>intro u hu;simp at hu;subst hu;rfl
    case c3=>unfold maxLen;omega
    case c4=>omega
    case c5=>simp;omega
    intro v6 w6 hown6 hgrow6 _;have S6:Same [] W4 w6:=(S5.alloc _).grown hgrow6 (fun i hi hl=>by have:=owns_row hown5 i hi;omega);obtain⟨a6,cap6,rfl⟩:=owns_form hown6;have x6:w6.cell? ⟨s.rb,1,none⟩=some (.slice (some ⟨b',0,none⟩) s.vols.length cap):=by
     rw[<-d1];have:w6.heap[s.rb]? = W4.heap[s.rb]?:=S6.block _ (by obtain⟨c',q,_⟩:=hF.ref.pool;exact q.lt) (by simp);simp[World.cell?,this]
    have hs6:=S6.size;clear x5 hown5 hgrow6;have k7:((k:Int)).toNat=k:=by omega
    go_wp2_with (at_builtin;refine wpList_append_own _ rfl _ _ 82 rfl W4.heap.size 115 i1 (.pointer none) 1 8 Tryz.underlying82 ki kz0 kz1 kz2 rfl (by decide) _ _ _ rfl hown6 ⟨b',k,none⟩ (s.vols.length - k) (cap - k) ((s.vols.drop k).map (fun v=>ptr v.vb)) rfl ?n1 ?c1 ?c2 ?c3 ?c4 ?c5 ?_)
    case n1=>simp
    case c1=>
     intro j u hj;have hj2:k+j < s.vols.length:=by
      rcases Nat.lt_or_ge (k+j) s.vols.length with h'|h'
      ·exact h'
      ·rw[List.getElem?_eq_none (by simp;omega)] at hj;cases hj
     have hBW:At w6 b' _ cs:=S6.at hB4 (by simp);rw[Addr.add_lit,hBW.cell?];have e1:(cs.take s.vols.length)[k+j]? = cs[k+j]?:=by rw[List.getElem?_take,if_pos (by omega)]
     rw[<-e1,hcs,<-hj,List.map_drop,List.getElem?_drop]
    case c2=>exact ptrs_oneR _
    case c3=>unfold maxLen;omega
    case c4=>omega
    case c5=>omega
    intro v7 w7 hown7 hgrow7 _;have S7:Same [] W4 w7:=S6.grown hgrow7 (fun i hi hl=>by have:=owns_row hown6 i hi;omega);have hown8:w7.ownsRow W4.heap.size 115 1 v7 (k+1+(s.vols.length - k)) ((insR k ⟨vb,0,0,none,t,of_,data,fl.take n,[],false⟩ s.vols).map (fun v=>ptr v.vb)):=by
     simpa [insR,List.map_take,List.map_drop] using hown7
    obtain⟨a7,cap7,rfl⟩:=owns_form hown8;have x7:w7.cell? ⟨s.rb,1,none⟩=some (.slice (some ⟨b',0,none⟩) s.vols.length cap):=by
     rw[<-d1];have:w7.heap[s.rb]? = W4.heap[s.rb]?:=S7.block _ (by obtain⟨c',q,_⟩:=hF.ref.pool;exact q.lt) (by simp);simp[World.cell?,this]
    have f7:w7.frozen? ⟨s.rb,1,none⟩=false:=by
     obtain⟨c',q,_⟩:=hF.ref.pool;exact (S7.at q (by simp)).frozen 1
    have hD:=add_done hF hm S7 a7 cap7 _ (by omega) hown8 (Nat.le_of_lt hkl);clear hown7 hown8 hgrow7 hown6 x6 hF hB4 hcs hB1 hcs1 r1 h olds
    go_wp2
    go_ret
    exact⟨rfl,hD⟩
   ·obtain rfl:k=s.vols.length:=by omega
    by_cases hcl:cap=s.vols.length
    ·have k8:(cap:Int)=(s.vols.length:Int):=by omega
     subst hcl;have olds:∀(W:World),W.heap=wr.heap->∀j u,((s.vols.take s.vols.length).map (fun v=>ptr v.vb))[j]? = some u->W.cell? ⟨b,j,none⟩=some u:=by
      intro W hW j u hj;have hj2:j < s.vols.length:=by
       rcases Nat.lt_or_ge j s.vols.length with h'|h'
       ·exact h'
       ·rw[List.getElem?_eq_none (by simp;omega)] at hj;cases hj
      have hBW:At W b _ cs1:=hB1.of_heap (by rw[hW]);rw[hBW.cell?];have e1:(cs1.take s.vols.length)[j]? = cs1[j]?:=by rw[List.getElem?_take,if_pos (by omega)]
      rw[<-e1,hcs1,<-hj,List.map_take,List.getElem?_take,if_pos hj2]
     have k5:s.vols.length<=s.vols.length:=by omega
     have k6:(s.vols.length:Int)<=(s.vols.length:Int):=by omega
     go_wp2_with fail
     go_region
     go_wp2_with (at_builtin;refine wpList_append_own _ rfl _ _ 82 rfl W4.heap.size 115 i1 (.pointer none) 1 8 Tryz.underlying82 ki kz0 kz1 kz2 rfl (by decide) _ _ _ rfl (World.ownsRow_nil _ _ _ _) ⟨b,0,none⟩ s.vols.length s.vols.length ((s.vols.take s.vols.length).map (fun v=>ptr v.vb)) rfl ?n1 ?c1 ?c2 ?c3 ?c4 ?c5 ?_)
     case n1=>simp
     case c1=>intro j u hj;rw[Addr.add_lit,Nat.zero_add];exact olds _ rfl j u hj
     case c2=>exact ptrs_oneR _
     case c3=>unfold maxLen;omega
     case c4=>omega
     case c5=>have:=hS4.size;simpa using this
     intro v5 w5 hown5 hgrow5 _;have S5:Same [] W4 w5:=hS4.drew.grown hgrow5 (by simp[Value.ownBlock]);obtain⟨a5,cap5,rfl⟩:=owns_form hown5;have x5:w5.cell? ⟨s.rb,1,none⟩=some (.slice (some ⟨b,0,none⟩) s.vols.length s.vols.length):=by
      rw[<-d1];have:w5.heap[s.rb]? = W4.heap[s.rb]?:=S5.block _ (by obtain⟨c',q,_⟩:=hF.ref.pool;exact q.lt) (by simp);simp[World.cell?,this]
     have hs5:=S5.size;clear x1 x0 hgrow5
     go_wp2_with (at_builtin;refine wpList_append_own _ rfl _ _ 82 rfl W4.heap.size 115 i1 (.pointer none) 1 8 Tryz.underlying82 ki kz0 kz1 kz2 rfl (by decide) _ _ _ rfl (hown5.alloc _) ⟨w5.heap.size,0,none⟩ 1 1 [ptr vb] rfl rfl ?c1 ?c2 ?c3 ?c4 ?c5 ?_)
     case c1=>
      intro j u hj
      match j,hj with
      | 0,hj=>simp at hj;subst hj;simp[Addr.add,ptr]
     case c2=>intro u hu;simp at hu;subst hu;rfl
     case c3=>unfold maxLen;omega
     case c4=>omega
     case c5=>simp;omega
     intro v6 w6 hown6 hgrow6 _;have S6:Same [] W4 w6:=(S5.alloc _).grown hgrow6 (fun i hi hl=>by have:=owns_row hown5 i hi;omega);obtain⟨a6,cap6,rfl⟩:=owns_form hown6;have x6:w6.cell? ⟨s.rb,1,none⟩=some (.slice (some ⟨b,0,none⟩) s.vols.length s.vols.length):=by
      rw[<-d1];have:w6.heap[s.rb]? = W4.heap[s.rb]?:=S6.block _ (by obtain⟨c',q,_⟩:=hF.ref.pool;exact q.lt) (by simp);simp[World.cell?,this]
     have hs6:=S6.size;clear x5 hown5 hgrow6;have k7:((s.vols.length:Int)).toNat=s.vols.length:=by omega
     go_wp2_with (at_builtin;refine wpList_append_own _ rfl _ _ 82 rfl W4.heap.size 115 i1 (.pointer none) 1 8 Tryz.underlying82 ki kz0 kz1 kz2 rfl (by decide) _ _ _ rfl hown6 ⟨b,0,none⟩ 0 0 [] rfl ?n1 ?c1 ?c2 ?c3 ?c4 ?c5 ?_)
     case n1=>simp
     case c1=>intro j u hj;simp at hj
     case c2=>intro u hu;simp at hu
     case c3=>unfold maxLen;omega
     case c4=>omega
     case c5=>omega
     intro v7 w7 hown7 hgrow7 _;have S7:Same [] W4 w7:=S6.grown hgrow7 (fun i hi hl=>by have:=owns_row hown6 i hi;omega);have hown8:w7.ownsRow W4.heap.size 115 1 v7 (s.vols.length+1) ((insR s.vols.length ⟨vb,0,0,none,t,of_,data,fl.take n,[],false⟩ s.vols).map (fun v=>ptr v.vb)):=by
      simpa [insR,List.map_take,List.map_drop] using hown7
     obtain⟨a7,cap7,rfl⟩:=owns_form hown8;have x7:w7.cell? ⟨s.rb,1,none⟩=some (.slice (some ⟨b,0,none⟩) s.vols.length s.vols.length):=by
      rw[<-d1];have:w7.heap[s.rb]? = W4.heap[s.rb]?:=S7.block _ (by obtain⟨c',q,_⟩:=hF.ref.pool;exact q.lt) (by simp);simp[World.cell?,this]
     have f7:w7.frozen? ⟨s.rb,1,none⟩=false:=by
      obtain⟨c',q,_⟩:=hF.ref.pool;exact (S7.at q (by simp)).frozen 1
     have hD:=add_done hF hm S7 a7 cap7 _ (by omega) hown8 (Nat.le_refl _);clear hown7 hown8 hgrow7 hown6 x6 hF hB4 hcs hB1 hcs1 r1 h olds
     go_wp2
     go_ret
     exact⟨rfl,hD⟩
    ·have k8:s.vols.length < cap:=by omega
     have k9:¬(cap:Int)=(s.vols.length:Int):=by omega
     have olds:∀(W:World),W.heap=wr.heap->∀j u,((s.vols.take s.vols.length).map (fun v=>ptr v.vb))[j]? = some u->W.cell? ⟨b,j,none⟩=some u:=by
      intro W hW j u hj;have hj2:j < s.vols.length:=by
       rcases Nat.lt_or_ge j s.vols.length with h'|h'
       ·exact h'
       ·rw[List.getElem?_eq_none (by simp;omega)] at hj;cases hj
      have hBW:At W b _ cs1:=hB1.of_heap (by rw[hW]);rw[hBW.cell?];have e1:(cs1.take s.vols.length)[j]? = cs1[j]?:=by rw[List.getElem?_take,if_pos (by omega)]
      rw[<-e1,hcs1,<-hj,List.map_take,List.getElem?_take,if_pos hj2]
     have k5:s.vols.length<=cap:=by omega
     have k6:(s.vols.length:Int)<=(cap:Int):=by omega
     go_wp2_with fail
     go_region
     go_wp2_with (at_builtin;refine wpList_append_own _ rfl _ _ 82 rfl W4.heap.size 115 i1 (.pointer none) 1 8 Tryz.underlying82 ki kz0 kz1 kz2 rfl (by decide) _ _ _ rfl (World.ownsRow_nil _ _ _ _) ⟨b,0,none⟩ s.vols.length cap ((s.vols.take s.vols.length).map (fun v=>ptr v.vb)) rfl ?n1 ?c1 ?c2 ?c3 ?c4 ?c5 ?_)
     case n1=>simp
     case c1=>intro j u hj;rw[Addr.add_lit,Nat.zero_add];exact olds _ rfl j u hj
     case c2=>exact ptrs_oneR _
     case c3=>unfold maxLen;omega
     case c4=>omega
     case c5=>have:=hS4.size;simpa using this
     intro v5 w5 hown5 hgrow5 _;have S5:Same [] W4 w5:=hS4.drew.grown hgrow5 (by simp[Value.ownBlock]);obtain⟨a5,cap5,rfl⟩:=owns_form hown5;have x5:w5.cell? ⟨s.rb,1,none⟩=some (.slice (some ⟨b,0,none⟩) s.vols.length cap):=by
      rw[<-d1];have:w5.heap[s.rb]? = W4.heap[s.rb]?:=S5.block _ (by obtain⟨c',q,_⟩:=hF.ref.pool;exact q.lt) (by simp);simp[World.cell?,this]
     have hs5:=S5.size;clear x1 x0 hgrow5
     go_wp2_with (at_builtin;refine wpList_append_own _ rfl _ _ 82 rfl W4.heap.size 115 i1 (.pointer none) 1 8 Tryz.underlying82 ki kz0 kz1 kz2 rfl (by decide) _ _ _ rfl (hown5.alloc _) ⟨w5.heap.size,0,none⟩ 1 1 [ptr vb] rfl rfl ?c1 ?c2 ?c3 ?c4 ?c5 ?_)
     case c1=>
      intro j u hj
      match j,hj with
      | 0,hj=>simp at hj;subst hj;simp[Addr.add,ptr]
     case c2=>intro u hu;simp at hu;subst hu;rfl
     case c3=>unfold maxLen;omega
     case c4=>omega
     case c5=>simp;omega
     intro v6 w6 hown6 hgrow6 _;have S6:Same [] W4 w6:=(S5.alloc _).grown hgrow6 (fun i hi hl=>by have:=owns_row hown5 i hi;omega);obtain⟨a6,cap6,rfl⟩:=owns_form hown6;have x6:w6.cell? ⟨s.rb,1,none⟩=some (.slice (some ⟨b,0,none⟩) s.vols.length cap):=by
      rw[<-d1];have:w6.heap[s.rb]? = W4.heap[s.rb]?:=S6.block _ (by obtain⟨c',q,_⟩:=hF.ref.pool;exact q.lt) (by simp);simp[World.cell?,this]
     have hs6:=S6.size;clear x5 hown5 hgrow6;have k7:((s.vols.length:Int)).toNat=s.vols.length:=by omega
     go_wp2_with (at_builtin;refine wpList_append_own _ rfl _ _ 82 rfl W4.heap.size 115 i1 (.pointer none) 1 8 Tryz.underlying82 ki kz0 kz1 kz2 rfl (by decide) _ _ _ rfl hown6 ⟨b,s.vols.length,none⟩ 0 (cap - s.vols.length) [] rfl ?n1 ?c1 ?c2 ?c3 ?c4 ?c5 ?_)
     case n1=>simp
     case c1=>intro j u hj;simp at hj
     case c2=>intro u hu;simp at hu
     case c3=>unfold maxLen;omega
     case c4=>omega
     case c5=>omega
     intro v7 w7 hown7 hgrow7 _;have S7:Same [] W4 w7:=S6.grown hgrow7 (fun i hi hl=>by have:=owns_row hown6 i hi;omega);have hown8:w7.ownsRow W4.heap.size 115 1 v7 (s.vols.length+1) ((insR s.vols.length ⟨vb,0,0,none,t,of_,data,fl.take n,[],false⟩ s.vols).map (fun v=>ptr v.vb)):=by
      simpa [insR,List.map_take,List.map_drop] using hown7
     obtain⟨a7,cap7,rfl⟩:=owns_form hown8;have x7:w7.cell? ⟨s.rb,1,none⟩=some (.slice (some ⟨b,0,none⟩) s.vols.length cap):=by
      rw[<-d1];have:w7.heap[s.rb]? = W4.heap[s.rb]?:=S7.block _ (by obtain⟨c',q,_⟩:=hF.ref.pool;exact q.lt) (by simp);simp[World.cell?,this]
     have f7:w7.frozen? ⟨s.rb,1,none⟩=false:=by
      obtain⟨c',q,_⟩:=hF.ref.pool;exact (S7.at q (by simp)).frozen 1
     have hD:=add_done hF hm S7 a7 cap7 _ (by omega) hown8 (Nat.le_refl _);clear hown7 hown8 hgrow7 hown6 x6 hF hB4 hcs hB1 hcs1 r1 h olds
     go_wp2
     go_ret
     exact⟨rfl,hD⟩
theorem refAdd_nil(s:RSt)(vb n:Nat)(t of_:ByteArray)(base:Nat)(data:List ByteArray)(w:World)(h:RefAt w s)(hlg:s.lg=none)(hB:Bare w vb t of_ base data)(hd:data≠[])(hdl:data.length<=200)(hf:n<=(s.freeL s.n).length)(hn:1<=n/\n<=200)
 (hvb:vb∉s.foot) (hbase:vb < base) :
 Calls Tryz.prog 85 #[.pointer (some ⟨s.rb,0,none⟩),.pointer (some ⟨vb,0,none⟩),.int .i64 n] w fun e w'=>e=.returned (.int .i64 0)/\AddAt w w' s vb t of_ data ((s.freeL s.n).take n) 0 base:=by
 have hR:=refFree_calls s w h;obtain⟨u,hA,hown⟩:=hB.ex;obtain⟨dg,dc,rfl,hdg,hT⟩:=owns_texts hown hd;obtain⟨cap,hpo,h1,h2⟩:=h.pool;have hfl:=s.freeL_len s.n;have hsn:=h.n;obtain⟨hv0,rfl⟩:=h2 hlg;have c1:w.cell? ⟨s.rb,1,none⟩=some (.slice none 0 0):=by have:=hpo.cell? 1;rw[hlg,hv0] at this;exact this
 generalize s.freeL s.n=fl at *;have l2:¬(fl.length:Int) < (n:Int):=by omega
 obtain⟨i0,hi,hz0,hz1,hz2⟩:=info_parts Tryz.info3;obtain⟨i1,ki,kz0,kz1,kz2⟩:=info_parts Tryz.infoRV
 go_enter Tryz.func85,Tryz.ntmps85
 go_wp2_with (first|(go_at_call 63;refine hR.mono ?_;rintro e w2 ⟨u,rfl,hownF,hS⟩;obtain⟨ua,ucap,rfl⟩:=owns_form hownF))
 obtain⟨gf,fcs,rfl,hgf,hAf,hle,hcl,htk⟩:=owns_at hownF (by omega);have hsz:=hS.size;have hA2:=hS.at hA (by simp);have e3:w2.cell? ⟨vb,3,none⟩=some (.slice none 0 0):=hA2.cell? 3;have hnews:∀(W:World),W.heap=w2.heap->∀j u,((fl.take n).map (fun x:Nat=>Value.int .i64 x))[j]? = some u->W.cell? ⟨gf,j,none⟩=some u:=by
  intro W hW j u hj;have hj2:j < n:=by
   rcases Nat.lt_or_ge j n with h'|h'
   ·exact h'
   ·rw[List.getElem?_eq_none (by simp;omega)] at hj;cases hj
  have hBW:At W gf _ fcs:=hAf.of_heap (by rw[hW]);rw[hBW.cell?];have e1:(fcs.take fl.length)[j]? = fcs[j]?:=by rw[List.getElem?_take,if_pos (by omega)]
  rw[<-e1,htk,<-hj,List.map_take,List.getElem?_take,if_pos hj2]
 have k1:n<=ucap:=by omega
 have k2:(0:Int)<=(n:Int):=by omega
 have k3:((n:Int)).toNat=n:=by omega
 have k4:(n:Int)<=(ucap:Int):=by omega
 go_region_law (refine step_append_grows rfl (.tmp 26) (.tmp 29) 51 rfl 3 i0 (.int .i64 0) 1 8 Tryz.underlying51 hi hz0 hz1 hz2 rfl (by decide) none 0 0 [] (by simp[Act.eval,Act.put]) (fun _=>⟨rfl,rfl⟩) rfl (by intro b1 hb1;cases hb1) ⟨gf,0,none⟩ n ucap ((fl.take n).map (fun x:Nat=>Value.int .i64 x)) (by simp[Act.eval,Act.put]) (by simp;omega) (by intro j u hj;rw[Addr.add_lit,Nat.zero_add];exact hnews _ rfl j u hj) (nums_one _) (by omega) (by unfold maxLen;omega) (by omega) ?_;intro v' w3 hown3 hgrow;obtain⟨a3,cap3,rfl⟩:=owns_form hown3;have p3:=hA2.drew.of_heap (hgrow.block vb hA2.drew.lt (by simp));have g3:w3.cell? ⟨vb,3,none⟩=some (.slice none 0 0):=p3.cell? 3;have z3:w3.frozen? ⟨vb,3,none⟩=false:=p3.frozen 3)
 have hlt':(fl.take n).length=n:=by rw[List.length_take];omega
 have hown4:w3.ownsRow w2.heap.size 3 1 (.slice a3 n cap3) n ((fl.take n).map (fun x:Nat=>Value.int .i64 x)):=by simpa using hown3
 obtain⟨bg,bc,hv3,hbg,hN⟩:=owns_nums hown4 (by intro e;rw[e] at hlt';simp at hlt';omega);rw[hlt'] at hv3;obtain⟨rfl,rfl⟩:a3=some ⟨bg,0,none⟩/\cap3=bc:=by simpa using hv3
 have hF:=filled_of h hvb hbase hdg hT hdl hA hS.drew hgrow hn hf bg cap3 hbg hN;generalize hW:w3.setCell ⟨vb,3,none⟩ (.slice (some ⟨bg,0,none⟩) n cap3)=W4 at *;have d1:W4.cell? ⟨s.rb,1,none⟩=some (.slice none 0 0):=by
  rw[<-hW];have q:=hS.drew.grown hgrow (fun _ h=>by cases h);have q2:Same [vb] w (w3.setCell ⟨vb,3,none⟩ (.slice (some ⟨bg,0,none⟩) n cap3)):=(q.mono (by simp)).set _ _ _ (by simp);have:=(q2.at hpo (by simp;exact fun e=>hvb (by rw[<-e];exact s.foot_rb))).cell? 1;rw[hlg,hv0] at this;exact this
 have d0:W4.cell? ⟨vb,0,none⟩=some (.string t):=by
  obtain⟨bg',dg',_,_,_,_,hV⟩:=hF.ex;obtain⟨_,_,_,q,_⟩:=hV.ex;exact q.cell? 0
 clear hW hown3 hown4 hgrow hN hv3 p3 g3 z3 hnews hAf htk hownF e3 hA2 hA hT hown hB hR c1 hpo hS hi hz0 hz1 hz2
 go_wp2
 go_loopw [8] (fun i wr=>i=.int .i64 0/\Same [] W4 wr/\wr.heap=W4.heap) (fun i _=>0)
 case atStart=>exact⟨rfl,Same.refl _ _,rfl⟩
 case round=>
  obtain⟨rfl,hS4,hhp⟩:=hrel;have x1:wr.cell? ⟨s.rb,1,none⟩=some (.slice none 0 0):=by rw[<-d1];simp[World.cell?,hhp]
  have x0:wr.cell? ⟨vb,0,none⟩=some (.string t):=by rw[<-d0];simp[World.cell?,hhp]
  go_wp2_with fail
  go_region
  go_wp2_with (at_builtin;first|(refine wpList_append_none _ rfl _ _ 82 rfl W4.heap.size 115 i1 1 Tryz.underlying82 ki _ 0 [] rfl (World.ownsRow_nil _ _ _ _) rfl ?_)|(refine wpList_append_own _ rfl _ _ 82 rfl W4.heap.size 115 i1 (.pointer none) 1 8 Tryz.underlying82 ki kz0 kz1 kz2 rfl (by decide) _ _ _ rfl (World.ownsRow_nil _ _ _ _) _ 1 1 [ptr vb] rfl rfl ?c1 ?c2 ?c3 ?c4 ?c5 ?_))
  case c1=>
   intro j u hj
   match j,hj with
   | 0,hj=>simp at hj;subst hj;simp[Addr.add,ptr,<-hhp]
  case c2=>intro u hu;simp at hu;subst hu;rfl
  case c3=>unfold maxLen;omega
  case c4=>omega
  case c5=>have:=hS4.size;simp;omega
  intro v6 w6 hown6 hgrow6 _;have S6:Same [] W4 w6:=(hS4.alloc _).drew.grown hgrow6 (by simp[Value.ownBlock]);obtain⟨a6,cap6,rfl⟩:=owns_form hown6;have x6:w6.cell? ⟨s.rb,1,none⟩=some (.slice none 0 0):=by
   rw[<-d1];have:w6.heap[s.rb]? = W4.heap[s.rb]?:=S6.block _ (by obtain⟨c',q,_⟩:=hF.ref.pool;exact q.lt) (by simp);simp[World.cell?,this]
  have f6:w6.frozen? ⟨s.rb,1,none⟩=false:=by
   obtain⟨c',q,_⟩:=hF.ref.pool;exact (S6.at q (by simp)).frozen 1
  have hown8:w6.ownsRow W4.heap.size 115 1 (.slice a6 1 cap6) 1 ((insR 0 ⟨vb,0,0,none,t,of_,data,fl.take n,[],false⟩ s.vols).map (fun v=>ptr v.vb)):=by
   simpa [insR,hv0] using hown6
  have hD:=add_done hF (by rw[hv0];simp) S6 a6 cap6 1 (by rw[hv0];rfl) hown8 (Nat.zero_le _);clear hgrow6 hF h x1 x0
  go_wp2_with (at_builtin;refine wpList_append_none _ rfl _ _ 82 rfl W4.heap.size 115 i1 1 Tryz.underlying82 ki _ _ _ rfl hown6 rfl ?_)
  go_ret
  exact⟨rfl,hD⟩
theorem getRv{l:List RVol}{i:Nat}(h:i < l.length):l[i]!∈l:=by
 rw[getElem!_pos l i h];exact List.getElem_mem h
theorem RSt.foot_parts{s:RSt}(h:s.foot.Nodup):s.rb∉s.lg.toList/\(∀v∈s.vols,s.rb∉v.foot)/\(∀b,s.lg=some b->∀v∈s.vols,b∉v.foot)/\(s.vols.flatMap RVol.foot).Nodup:=by
 unfold RSt.foot at h;rw[List.nodup_cons,List.nodup_append] at h;obtain⟨h1,h2,h3,h4⟩:=h;simp only[List.mem_append,not_or,List.mem_flatMap,not_exists,not_and] at h1;refine⟨h1.1,fun v hv hk=>h1.2 v hv hk,fun b hb v hv hk=>?_,h3⟩;exact h4 b (by simp[hb]) b (List.mem_flatMap.2 ⟨v,hv,hk⟩) rfl
theorem rfoot_apart{s:RSt}(h:s.foot.Nodup){i j:Nat}(hi:i < s.vols.length)(hj:j < s.vols.length)(hne:i≠j){k:Nat}(hk:k∈(s.vols[i]!).foot):k∉(s.vols[j]!).foot:=fun hk'=>
 hne ((flat_apart RVol.foot s.vols (RSt.foot_parts h).2.2.2).2 i j hi hj k ⟨_,by rw[getElem!_pos s.vols i hi] at hk;exact⟨List.getElem?_eq_getElem hi,hk⟩⟩ ⟨_,by rw[getElem!_pos s.vols j hj] at hk';exact⟨List.getElem?_eq_getElem hj,hk'⟩⟩)
theorem setR_mem{l:List RVol}{i:Nat}{x y:RVol}(hi:i < l.length)(h:y∈l.set i x):y=x\/∃j,j < l.length/\j≠i/\l[j]! = y:=by
 obtain⟨j,hj,rfl⟩:=List.getElem_of_mem h;rw[List.length_set] at hj;rw[List.getElem_set];by_cases e:i=j
 ·rw[if_pos e];exact Or.inl rfl
 ·rw[if_neg e];exact Or.inr ⟨j,hj,fun q=>e q.symm,getElem!_pos l j hj⟩
theorem ref_set{w w':World}{s:RSt}(h:RefAt w s)(hnd:s.foot.Nodup)(i:Nat)(hi:i < s.vols.length)(x:RVol)(hvb:x.vb=(s.vols[i]!).vb)(hV:RVolAt w' x){S:List Nat}(hS:Same S w w')(hsub:∀k∈S,k∈(s.vols[i]!).foot):RefAt w' { s with vols:=s.vols.set i x }:=by
 obtain⟨cap,hp,h1,h2⟩:=h.pool;obtain⟨p1,p2,p3,p4⟩:=RSt.foot_parts hnd;have hm:=getRv hi;refine⟨⟨cap,?_,?_,fun hq=>?_⟩,fun b hb=>?_,fun v hv=>?_,?_,h.n⟩
 ·show At w' s.rb _ [.int .i64 s.n,.slice (s.lg.map fun b=>⟨b,0,none⟩) (s.vols.set i x).length cap];rw[List.length_set];exact hS.at hp fun hk=>p2 _ hm (hsub _ hk)
 ·show (s.vols.set i x).length<=cap;rw[List.length_set];exact h1
 ·have:=(h2 hq).1;rw[this] at hi;simp at hi
 ·obtain⟨cs,hc,h3,h4⟩:=h.arr b hb;refine⟨cs,hS.at hc fun hk=>p3 b hb _ hm (hsub _ hk),?_,?_⟩
  ·show cs.take (s.vols.set i x).length=(s.vols.set i x).map fun v=>ptr v.vb
   rw[List.length_set,h3];apply List.ext_getElem
   ·simp
   ·intro j hj1 hj2;simp only[List.getElem_map,List.getElem_set];by_cases e:i=j
    ·subst e;rw[if_pos rfl,hvb,getElem!_pos s.vols i hi]
    ·rw[if_neg e]
  ·show (s.vols.set i x).length<=_;rw[List.length_set];exact h4
 ·rcases setR_mem hi hv with rfl|⟨j,hj,hne,rfl⟩
  ·exact hV
  ·exact (h.vols _ (getRv hj)).sameF hS fun k hk hk'=>rfoot_apart hnd hj hi hne hk (hsub _ hk')
 ·show (s.vols.set i x).length<=20;rw[List.length_set];exact h.few
theorem foot_setR{s:RSt}(i:Nat)(hi:i < s.vols.length)(x:RVol){B:Nat}(hf:∀k∈x.foot,k∈(s.vols[i]!).foot\/B<=k):∀k∈RSt.foot { s with vols:=s.vols.set i x },k∈s.foot\/B<=k:=by
 intro k hk;rcases RSt.foot_cases hk with h1|h1|⟨v,hv,hkv⟩
 ·exact Or.inl (by rw[h1];exact s.foot_rb)
 ·exact Or.inl (s.foot_lg h1)
 ·rcases setR_mem hi hv with rfl|⟨j,hj,hne,rfl⟩
  ·exact (hf k hkv).imp (fun h=>s.foot_vol (getRv hi) h) id
  ·exact Or.inl (s.foot_vol (getRv hj) hkv)
theorem flat_set_nodup(f:RVol->List Nat):∀(l:List RVol) (i:Nat) (x:RVol),i < l.length->(l.flatMap f).Nodup->(f x).Nodup->(∀k∈f x,k∈f (l[i]!)\/k∉l.flatMap f)->((l.set i x).flatMap f).Nodup
 | [],i,x,hi,_,_,_=>by simp at hi
 | a :: r,0,x,hi,hn,hx,hs=>by
  simp only[List.set_cons_zero,List.flatMap_cons,List.nodup_append] at hn ⊢;refine⟨hx,hn.2.1,fun k hk b hb e=>?_⟩;subst e;rcases hs k hk with h|h
  ·have h':k∈f a:=by simpa using h
   exact hn.2.2 k h' k hb rfl
  ·exact h (by simp[List.flatMap_cons];exact Or.inr (by simpa [List.mem_flatMap] using hb))
 | a :: r,i+1,x,hi,hn,hx,hs=>by
  simp only[List.set_cons_succ,List.flatMap_cons,List.nodup_append] at hn ⊢;have hi':i < r.length:=by simpa using hi
  have e:(a :: r)[i+1]! = r[i]!:=by rw[getElem!_pos _ (i+1) hi,getElem!_pos r i hi'];rfl
  rw[e] at hs;have ih:=flat_set_nodup f r i x hi' hn.2.1 hx fun k hk=>(hs k hk).imp id fun h h2=>h (by simp only[List.flatMap_cons,List.mem_append];exact Or.inr h2)
  refine⟨hn.1,ih,fun k hk b hb e=>?_⟩;subst e;obtain⟨v,hv,hkv⟩:=List.mem_flatMap.1 hb;rcases setR_mem hi' hv with rfl|⟨j,hj,_,rfl⟩
  ·rcases hs k hkv with h|h
   ·exact hn.2.2 k hk k (List.mem_flatMap.2 ⟨_,getRv hi',h⟩) rfl
   ·exact h (by simp only[List.flatMap_cons,List.mem_append];exact Or.inl hk)
  ·exact hn.2.2 k hk k (List.mem_flatMap.2 ⟨_,getRv hj,hkv⟩) rfl
theorem nodup_setR{s:RSt}(hnd:s.foot.Nodup)(i:Nat)(hi:i < s.vols.length)(x:RVol)(hx:x.foot.Nodup)(hf:∀k∈x.foot,k∈(s.vols[i]!).foot\/k∉s.foot):(RSt.foot { s with vols:=s.vols.set i x }).Nodup:=by
 obtain⟨p1,p2,p3,p4⟩:=RSt.foot_parts hnd;have hno:∀k,k∉s.foot->k∉s.vols.flatMap RVol.foot:=fun k hk hm=>hk (by unfold RSt.foot;simp only[List.mem_cons,List.mem_append];exact Or.inr (Or.inr hm))
 have hfl:=flat_set_nodup RVol.foot s.vols i x hi p4 hx fun k hk=>(hf k hk).imp id (hno k)
 have hmem:∀k,k∈(s.vols.set i x).flatMap RVol.foot->k∈s.vols.flatMap RVol.foot\/k∉s.foot:=fun k hk=>by
  obtain⟨v,hv,hkv⟩:=List.mem_flatMap.1 hk;rcases setR_mem hi hv with rfl|⟨j,hj,_,rfl⟩
  ·exact (hf k hkv).imp (fun h=>List.mem_flatMap.2 ⟨_,getRv hi,h⟩) id
  ·exact Or.inl (List.mem_flatMap.2 ⟨_,getRv hj,hkv⟩)
 have hnd':=hnd;unfold RSt.foot at hnd' ⊢;rw[List.nodup_cons,List.nodup_append] at hnd' ⊢;obtain⟨h1,h2,h3,h4⟩:=hnd';refine⟨fun hm=>?_,h2,hfl,fun a ha b hb e=>?_⟩
 ·rcases List.mem_append.1 hm with hm|hm
  ·exact h1 (List.mem_append.2 (Or.inl hm))
  ·rcases hmem _ hm with h|h
   ·exact h1 (List.mem_append.2 (Or.inr h))
   ·exact h s.foot_rb
 ·subst e;rcases hmem _ hb with h|h
  ·exact h4 a ha a h rfl
  ·exact h (s.foot_lg (by simpa using ha))
structure RAfter(w:World)(s:RSt)(w':World)(s':RSt):Prop where
 ref:RefAt w' s'
 nodup:s'.foot.Nodup
 same:Same s.foot w w'
 foot:∀k∈s'.foot,k∈s.foot\/w.heap.size<=k
 rb:s'.rb=s.rb
 n:s'.n=s.n
theorem RAfter.still{w w':World}{s:RSt}(h:RefAt w s)(hnd:s.foot.Nodup)(hs:Same [] w w'):RAfter w s w' s:=
 ⟨h.same0 hs,hnd,hs.mono (by simp),fun k hk=>Or.inl hk,rfl,rfl⟩
theorem insR_foot(i:Nat)(v:RVol)(l:List RVol):((insR i v l).flatMap RVol.foot).Perm (v.foot++l.flatMap RVol.foot):=by
 have h:(insR i v l).Perm (v :: l):=by
  unfold insR;exact List.perm_middle.trans (List.Perm.cons _ (by rw[List.take_append_drop]))
 have:=h.flatMap_right (f:=RVol.foot);simpa [List.flatMap_cons] using this
theorem RVolAt.types{w:World}{v:RVol}(h:RVolAt w v):v.vb≠v.dg/\v.vb≠v.bg/\v.dg≠v.bg:=by
 obtain⟨dc,bc,kc,a1,a2,a3,_⟩:=h.ex;obtain⟨c2,b2,_⟩:=a2.ex;obtain⟨c3,b3,_⟩:=a3.ex;refine⟨fun e=>?_,fun e=>?_,fun e=>?_⟩
 ·rw[<-e] at b2;exact absurd (b2.inj a1).1 (by decide)
 ·rw[<-e] at b3;exact absurd (b3.inj a1).1 (by decide)
 ·rw[<-e] at b3;exact absurd (b3.inj b2).1 (by decide)
theorem RefAt.types{w:World}{s:RSt}(h:RefAt w s){b:Nat}(hb:s.lg=some b){v:RVol}(hv:v∈s.vols):b≠v.vb/\b≠v.dg/\b≠v.bg:=by
 obtain⟨cs,hc,_⟩:=h.arr b hb;obtain⟨dc,bc,kc,a1,a2,a3,_⟩:=(h.vols v hv).ex;obtain⟨c2,b2,_⟩:=a2.ex;obtain⟨c3,b3,_⟩:=a3.ex;refine⟨fun e=>?_,fun e=>?_,fun e=>?_⟩
 ·rw[<-e] at a1;exact absurd (a1.inj hc).1 (by decide)
 ·rw[<-e] at b2;exact absurd (b2.inj hc).1 (by decide)
 ·rw[<-e] at b3;exact absurd (b3.inj hc).1 (by decide)
theorem insR_mem{i:Nat}{v x:RVol}{l:List RVol}:x∈insR i v l↔x=v\/x∈l:=by
 have h:(insR i v l).Perm (v :: l):=by
  unfold insR;exact List.perm_middle.trans (List.Perm.cons _ (by rw[List.take_append_drop]))
 rw[h.mem_iff,List.mem_cons]
theorem AddAt.after{w0 w w':World}{s:RSt}{vb:Nat}{t of_:ByteArray}{data:List ByteArray}{xs:List Nat}{p base:Nat}(hA:AddAt w w' s vb t of_ data xs p base)(h:RefAt w0 s)(hnd:s.foot.Nodup)(h0:Same [] w0 w)(hvb:w0.heap.size<=vb)(hb:w0.heap.size<=base) :
 ∃g bg dg,RAfter w0 s w' { s with lg:=some g,vols:=insR p ⟨vb,dg,bg,none,t,of_,data,xs,[],false⟩ s.vols }:=by
 obtain⟨⟨g,bg,dg,h1,h2,h3,h4,hR⟩,hS⟩:=hA;have hs0:=h0.size;have hm:(⟨vb,dg,bg,none,t,of_,data,xs,[],false⟩:RVol)∈insR p ⟨vb,dg,bg,none,t,of_,data,xs,[],false⟩ s.vols:=insR_mem.2 (Or.inl rfl);obtain⟨t1,t2,t3⟩:=(hR.vols _ hm).types;obtain⟨t4,t5,t6⟩:=hR.types (b:=g) rfl hm;have hlt:=h.foot_lt;refine⟨g,bg,dg,hR,?_,?_,?_,rfl,rfl⟩
 ·obtain⟨p1,p2,p3,p4⟩:=RSt.foot_parts hnd;unfold RSt.foot;show (s.rb :: ([g]++(insR p ⟨vb,dg,bg,none,t,of_,data,xs,[],false⟩ s.vols).flatMap RVol.foot)).Nodup;have hp:=insR_foot p ⟨vb,dg,bg,none,t,of_,data,xs,[],false⟩ s.vols;have hq:(s.rb :: ([g]++(insR p ⟨vb,dg,bg,none,t,of_,data,xs,[],false⟩ s.vols).flatMap RVol.foot)).Perm (s.rb :: ([g]++([vb,dg,bg]++s.vols.flatMap RVol.foot))):=
   List.Perm.cons _ (List.Perm.append_left _ (by simpa [RVol.foot] using hp))
  rw[hq.nodup_iff];have hold:∀k∈s.vols.flatMap RVol.foot,k < w0.heap.size:=fun k hk=>by
   obtain⟨v,hv,hkv⟩:=List.mem_flatMap.1 hk;exact hlt k (s.foot_vol hv hkv)
  have hrb:=hlt _ s.foot_rb;have ho:∀k,w0.heap.size<=k->k∉s.vols.flatMap RVol.foot:=fun k hk hm=>by have:=hold k hm;omega
  have hrn:s.rb∉s.vols.flatMap RVol.foot:=fun hm=>by
   obtain⟨v,hv,hkv⟩:=List.mem_flatMap.1 hm;exact p2 v hv hkv
  have n1:=ho g (by omega);have n2:=ho vb hvb;have n3:=ho dg (by omega);have n4:=ho bg (by omega);simp only[List.cons_append,List.nil_append,List.nodup_cons,List.mem_cons,not_or];simp only at t1 t2 t3 t4 t5 t6;exact⟨⟨by omega,by omega,by omega,by omega,hrn⟩,⟨t4,t5,t6,n1⟩,⟨t1,t2,n2⟩,⟨t3,n3⟩,n4,p4⟩
 ·refine (h0.mono (T:=s.foot) (by simp)).step hS ?_;intro k hk hl;simp at hk;rcases hk with rfl|rfl
  ·exact s.foot_rb
  ·omega
 ·intro k hk;rcases RSt.foot_cases hk with e|e|⟨v,hv,hkv⟩
  ·exact Or.inl (by rw[e];exact s.foot_rb)
  ·have:g=k:=by simpa using e
   exact Or.inr (by omega)
  ·rcases insR_mem.1 hv with rfl|hv
   ·simp[RVol.foot] at hkv;exact Or.inr (by omega)
   ·exact Or.inl (s.foot_vol hv hkv)
structure PlaceR(s:RSt)(t:ByteArray)(p:Nat):Prop where
 le:p<=s.vols.length
 lt:∀j,j < p->cmpB (s.vols[j]!).name t < 0
 ge:p < s.vols.length->¬cmpB (s.vols[p]!).name t < 0
theorem refAdd_ok(s:RSt)(vb n p:Nat)(t of_:ByteArray)(base:Nat)(data:List ByteArray)(w:World)(h:RefAt w s)(hB:Bare w vb t of_ base data)(hd:data≠[])(hdl:data.length<=200)(hm:s.vols.length < 20)(hf:n<=(s.freeL s.n).length)(hn:1<=n/\n<=200)
 (hp:PlaceR s t p) (hvb:vb∉s.foot) (hbase:vb < base) :
 Calls Tryz.prog 85 #[.pointer (some ⟨s.rb,0,none⟩),.pointer (some ⟨vb,0,none⟩),.int .i64 n] w fun e w'=>e=.returned (.int .i64 0)/\AddAt w w' s vb t of_ data ((s.freeL s.n).take n) p base:=by
 cases hlg:s.lg with
 | none=>
  obtain⟨cap,hpo,h1,h2⟩:=h.pool;have hv0:=(h2 hlg).1;have:p=0:=by have:=hp.le;rw[hv0] at this;simpa using this
  subst this;exact refAdd_nil s vb n t of_ base data w h hlg hB hd hdl hf hn hvb hbase
 | some b=>exact refAdd_some s vb n b p t of_ base data w h hlg hB hd hdl hm hf hn hp.le hp.lt hp.ge hvb hbase
theorem refCreate_many(s:RSt)(t:ByteArray)(n:Nat)(w:World)(h:RefAt w s)(ht:t.size<=maxLen)(hc:s.freshC t=0)(hn:1<=n/\n<=200)(hm:20<=s.vols.length) :
 Calls Tryz.prog 48 #[.pointer (some ⟨s.rb,0,none⟩),.string t,.int .i64 n] w fun e w'=>e=.returned (.int .i64 5)/\Same [] w w':=
 refCreate_add s t n w h ht hc hn _ fun w' hS hB=>(refAdd_many s _ n w' (h.same0 hS) hm).mono fun e w'' ⟨h1,h2⟩=>⟨5,h1,rfl,by rw[h2];exact hS⟩
theorem refCreate_full(s:RSt)(t:ByteArray)(n:Nat)(w:World)(h:RefAt w s)(ht:t.size<=maxLen)(hc:s.freshC t=0)(hn:1<=n/\n<=200)(hm:s.vols.length < 20)(hf:(s.freeL s.n).length < n) :
 Calls Tryz.prog 48 #[.pointer (some ⟨s.rb,0,none⟩),.string t,.int .i64 n] w fun e w'=>e=.returned (.int .i64 6)/\Same [] w w':=
 refCreate_add s t n w h ht hc hn _ fun w' hS hB=>(refAdd_full s _ n w' (h.same0 hS) hm hf hn.2).mono fun e w'' ⟨h1,h2⟩=>⟨6,h1,rfl,hS.step h2 (by simp)⟩
theorem refCreate_ok(s:RSt)(t:ByteArray)(n p:Nat)(w:World)(h:RefAt w s)(hnd:s.foot.Nodup)(ht:t.size<=maxLen)(hc:s.freshC t=0)(hn:1<=n/\n<=200)(hm:s.vols.length < 20)(hf:n<=(s.freeL s.n).length)(hp:PlaceR s t p) :
 Calls Tryz.prog 48 #[.pointer (some ⟨s.rb,0,none⟩),.string t,.int .i64 n] w fun e w'=>e=.returned (.int .i64 0) /\
  ∃vb g bg dg,RAfter w s w' { s with lg:=some g,vols:=insR p ⟨vb,dg,bg,none,t,⟨#[]⟩,List.replicate n zero8,(s.freeL s.n).take n,[],false⟩ s.vols }:=
 refCreate_add s t n w h ht hc hn _ fun w' hS hB=>
  (refAdd_ok s w.heap.size n p t ⟨#[]⟩ (w.heap.size+1) (List.replicate n zero8) w' (h.same0 hS) hB (by intro e;have:=congrArg List.length e;simp at this;omega) (by simp;omega) hm hf hn hp (fun hk=>by have:=h.foot_lt _ hk;omega) (by omega)).mono
   fun e w'' ⟨h1,h2⟩=>⟨0,h1,rfl,_,h2.after h hnd hS (Nat.le_refl _) (by omega)⟩
theorem empty_bytes{x:ByteArray}(h:x≠⟨#[]⟩):x.toList.isEmpty=false:=by
 have hq:=bytes_beq x ⟨#[]⟩;rw[decide_eq_false h] at hq;rw[<-hq,Bool.eq_iff_iff,List.isEmpty_iff,beq_iff_eq];have e0:(⟨#[]⟩:ByteArray).toList=[]:=by simp
 rw[e0]
theorem refPicture_fresh(s:RSt)(t u:ByteArray)(k:Int)(w:World)(h:RefAt w s)(ht:t.size<=maxLen)(hc:s.freshC t≠0) :
 Calls Tryz.prog 58 #[.pointer (some ⟨s.rb,0,none⟩),.string t,.string u,.int .i64 k] w fun e w'=>e=.returned (.int .i64 (s.freshC t))/\w'=w:=by
 have hF:=refFresh_calls s t w h ht;generalize s.freshC t=res at *;have hr:((res:Int) == 0)=false:=beq_eq_false_iff_ne.2 (by omega)
 go_enter Tryz.func58,Tryz.ntmps58
 go_wp2_with (first|(go_at_call 84;refine hF.mono ?_;rintro e wz ⟨rfl,rfl⟩))
 go_ret
 exact⟨rfl,rfl⟩
theorem refPicture_none(s:RSt)(t u:ByteArray)(k:Int)(w:World)(h:RefAt w s)(ht:t.size<=maxLen)(hc:s.freshC t=0)(ha:s.at? u=none) :
 Calls Tryz.prog 58 #[.pointer (some ⟨s.rb,0,none⟩),.string t,.string u,.int .i64 k] w fun e w'=>e=.returned (.int .i64 4)/\w'=w:=by
 have hF:=refFresh_calls s t w h ht;have hG:=refFind_calls s u w h;rw[hc] at hF;rw[ha] at hG
 go_enter Tryz.func58,Tryz.ntmps58
 go_wp2_with (first|(go_at_call 84;refine hF.mono ?_;rintro e wz ⟨rfl,rfl⟩)|(go_at_call 79;refine hG.mono ?_;rintro e wz ⟨rfl,rfl⟩))
 go_ret
 exact⟨rfl,rfl⟩
theorem refPicture_picture(s:RSt)(t u:ByteArray)(k:Int)(o:RVol)(w:World)(h:RefAt w s)(ht:t.size<=maxLen)(hc:s.freshC t=0)(ha:s.at? u=some o)(ho:o.of_≠⟨#[]⟩) :
 Calls Tryz.prog 58 #[.pointer (some ⟨s.rb,0,none⟩),.string t,.string u,.int .i64 k] w fun e w'=>e=.returned (.int .i64 7)/\w'=w:=by
 have hF:=refFresh_calls s t w h ht;have hG:=refFind_calls s u w h;rw[hc] at hF;rw[ha] at hG;obtain⟨hm,hnm⟩:=RSt.at?_mem ha;obtain⟨dc,bc,kc,hv,_⟩:=(h.vols o hm).ex;have e1:w.cell? ⟨o.vb,1,none⟩=some (.string o.of_):=hv.cell? 1;have hbq:=empty_bytes ho;clear hv h
 go_enter Tryz.func58,Tryz.ntmps58
 go_wp2_with (first|(go_at_call 84;refine hF.mono ?_;rintro e wz ⟨rfl,rfl⟩)|(go_at_call 79;refine hG.mono ?_;rintro e wz ⟨rfl,rfl⟩))
 go_ret
 exact⟨rfl,rfl⟩
theorem refPicture_arg(s:RSt)(t u:ByteArray)(k:Int)(o:RVol)(w:World)(h:RefAt w s)(ht:t.size<=maxLen)(hc:s.freshC t=0)(ha:s.at? u=some o)(ho:o.of_=⟨#[]⟩)(hk:k < 1\/(o.data.length:Int) < k) :
 Calls Tryz.prog 58 #[.pointer (some ⟨s.rb,0,none⟩),.string t,.string u,.int .i64 k] w fun e w'=>e=.returned (.int .i64 1)/\w'=w:=by
 have hF:=refFresh_calls s t w h ht;have hG:=refFind_calls s u w h;rw[hc] at hF;rw[ha] at hG;obtain⟨hm,hnm⟩:=RSt.at?_mem ha;obtain⟨dc,bc,kc,hv,_⟩:=(h.vols o hm).ex;have hd:=(h.vols o hm).data;have e1:w.cell? ⟨o.vb,1,none⟩=some (.string ⟨#[]⟩):=by rw[<-ho];exact hv.cell? 1
 have e2:w.cell? ⟨o.vb,2,none⟩=some (.slice (some ⟨o.dg,0,none⟩) o.data.length dc):=hv.cell? 2;clear hv h;by_cases hk1:k < 1
 ·go_enter Tryz.func58,Tryz.ntmps58
  go_wp2_with (first|(go_at_call 84;refine hF.mono ?_;rintro e wz ⟨rfl,rfl⟩)|(go_at_call 79;refine hG.mono ?_;rintro e wz ⟨rfl,rfl⟩))
  go_ret
  exact⟨rfl,rfl⟩
 ·have hk2:(o.data.length:Int) < k:=by omega
  have hk3:1<=k:=by omega
  clear hk
  go_enter Tryz.func58,Tryz.ntmps58
  go_wp2_with (first|(go_at_call 84;refine hF.mono ?_;rintro e wz ⟨rfl,rfl⟩)|(go_at_call 79;refine hG.mono ?_;rintro e wz ⟨rfl,rfl⟩))
  go_ret
  exact⟨rfl,rfl⟩
theorem texts_one:∀(l:List ByteArray),∀u∈l.map Value.string,u.oneCell'=true:=fun l u hu=>by
 obtain⟨v,_,rfl⟩:=List.mem_map.1 hu;rfl
theorem refPicture_add(s:RSt)(t u:ByteArray)(n:Nat)(o:RVol)(w:World)(h:RefAt w s)(ht:t.size<=maxLen)(hc:s.freshC t=0)(ha:s.at? u=some o)(ho:o.of_=⟨#[]⟩)(hn:1<=n/\n<=o.data.length)(Q:Ending->World->Prop)
 (hadd:∀w',Same [] w w'->Bare w' w.heap.size t u (w.heap.size+1) o.data ->
  Calls Tryz.prog 85 #[.pointer (some ⟨s.rb,0,none⟩),.pointer (some ⟨w.heap.size,0,none⟩),.int .i64 n] w' fun e w''=>∃c:Int,e=.returned (.int .i64 c)/\Q (.returned (.int .i64 c)) w'') :
 Calls Tryz.prog 58 #[.pointer (some ⟨s.rb,0,none⟩),.string t,.string u,.int .i64 n] w Q:=by
 have hF:=refFresh_calls s t w h ht;have hG:=refFind_calls s u w h;rw[hc] at hF;rw[ha] at hG;obtain⟨hm,hnm⟩:=RSt.at?_mem ha;obtain⟨dc,bc,kc,hv,hdat,_⟩:=(h.vols o hm).ex;have hd:=(h.vols o hm).data;have e1:w.cell? ⟨o.vb,1,none⟩=some (.string ⟨#[]⟩):=by rw[<-ho];exact hv.cell? 1
 have e2:w.cell? ⟨o.vb,2,none⟩=some (.slice (some ⟨o.dg,0,none⟩) o.data.length dc):=hv.cell? 2;obtain⟨dcs,hdA,hdl,hdt,hdle,hdm⟩:=hdat.ex;have lvb:=hv.lt;have ldg:=hdA.lt;obtain⟨i0,hi,hz0,hz1,hz2⟩:=info_parts Tryz.infoStr;have l1:(1:Int)<=(n:Int):=by omega
 have l2:(n:Int)<=(o.data.length:Int):=by omega
 have HADD:Hid (∀w',Same [] w w'->Bare w' w.heap.size t u (w.heap.size+1) o.data ->
  Calls Tryz.prog 85 #[.pointer (some ⟨s.rb,0,none⟩),.pointer (some ⟨w.heap.size,0,none⟩),.int .i64 n] w' fun e w''=>∃c:Int,e=.returned (.int .i64 c)/\Q (.returned (.int .i64 c)) w''):=hadd
 clear hadd h
 go_enter Tryz.func58,Tryz.ntmps58
 go_wp2_with (first|(go_at_call 84;refine hF.mono ?_;rintro e wz ⟨rfl,rfl⟩)|(go_at_call 79;refine hG.mono ?_;rintro e wz ⟨rfl,rfl⟩))
 have hA0:=At.new wz #[.string t,.string u,.slice none 0 0,.slice none 0 0,.slice none 0 0,.bool false] 118;have S0:Same [] wz (wz.alloc (.cells #[.string t,.string u,.slice none 0 0,.slice none 0 0,.slice none 0 0,.bool false] 118)):=(Same.refl _ _).alloc _;have hZ:(wz.alloc (.cells #[.string t,.string u,.slice none 0 0,.slice none 0 0,.slice none 0 0,.bool false] 118)).heap.size=wz.heap.size+1:=by simp
 generalize hW:wz.alloc (.cells #[.string t,.string u,.slice none 0 0,.slice none 0 0,.slice none 0 0,.bool false] 118)=W1 at *;have c2:W1.cell? ⟨wz.heap.size,2,none⟩=some (.slice none 0 0):=hA0.cell? 2;have d2:W1.cell? ⟨o.vb,2,none⟩=some (.slice (some ⟨o.dg,0,none⟩) o.data.length dc):=(S0.at hv (by simp)).cell? 2;have hnews:∀(W:World),W.heap=W1.heap->∀j u,(o.data.map Value.string)[j]? = some u->W.cell? ⟨o.dg,j,none⟩=some u:=by
  intro W hWW j u hj;have hj2:j < o.data.length:=by
   rcases Nat.lt_or_ge j o.data.length with h'|h'
   ·exact h'
   ·rw[List.getElem?_eq_none (by simp;omega)] at hj;cases hj
  have hBW:At W o.dg _ dcs:=(S0.at hdA (by simp)).of_heap (by rw[hWW]);rw[hBW.cell?,<-hj,<-hdt,List.getElem?_take,if_pos hj2]
 clear hW e1 e2
 go_region_law (refine step_append_grows rfl (.tmp 47) (.tmp 51) 116 rfl 9 i0 (.string ⟨#[]⟩) 1 16 Tryz.underlying116 hi hz0 hz1 hz2 rfl (by decide) none 0 0 [] (by simp[Act.eval,Act.put]) (fun _=>⟨rfl,rfl⟩) rfl (by intro b1 hb1;cases hb1) ⟨o.dg,0,none⟩ o.data.length dc (o.data.map Value.string) (by simp[Act.eval,Act.put]) (by simp) (by intro j u hj;rw[Addr.add_lit,Nat.zero_add];exact hnews _ rfl j u hj) (texts_one _) (by omega) (by unfold maxLen;omega) (by omega) ?_;intro v' w3 hown3 hgrow;obtain⟨a3,cap3,rfl⟩:=owns_form hown3;have p3:=hA0.drew.of_heap (hgrow.block wz.heap.size hA0.drew.lt (by simp));have g3:w3.cell? ⟨wz.heap.size,2,none⟩=some (.slice none 0 0):=p3.cell? 2;have z3:w3.frozen? ⟨wz.heap.size,2,none⟩=false:=p3.frozen 2)
 all_goals
  have hown4:w3.ownsRow (wz.heap.size+1) 9 1 (.slice a3 o.data.length cap3) o.data.length (o.data.map Value.string):=by
   have:w3.ownsRow W1.heap.size 9 1 (.slice a3 o.data.length cap3) o.data.length (o.data.map Value.string):=by simpa using hown3
   rw[hZ] at this;exact this
  have S3:Same [] wz w3:=S0.drew.grown hgrow (by simp);have S4:Same [] wz (w3.setCell ⟨wz.heap.size,2,none⟩ (.slice a3 o.data.length cap3)):=S3.set _ _ _ (by intro h;omega);have S34:Same [wz.heap.size] w3 (w3.setCell ⟨wz.heap.size,2,none⟩ (.slice a3 o.data.length cap3)):=(Same.refl _ _).set _ _ _ (by simp);have B4:Bare (w3.setCell ⟨wz.heap.size,2,none⟩ (.slice a3 o.data.length cap3)) wz.heap.size t u (wz.heap.size+1) o.data:=
   ⟨_,p3.set_same 2 _,owns_same hown4 S34 (by simp)⟩
  have hAd:=HADD.out _ S4 B4;clear HADD B4 S4 S34 S3 hown4 hown3 hgrow p3 g3 z3 hnews c2 d2 hA0 S0 hv hdA hdt
  go_wp2_with (go_at_call 85;refine hAd.mono ?_;rintro e w2 ⟨c,rfl,hQ⟩)
  first
   | exact hQ
   | (go_ret;exact hQ)
theorem refPicture_many(s:RSt)(t u:ByteArray)(n:Nat)(o:RVol)(w:World)(h:RefAt w s)(ht:t.size<=maxLen)(hc:s.freshC t=0)(ha:s.at? u=some o)(ho:o.of_=⟨#[]⟩)(hn:1<=n/\n<=o.data.length)(hm:20<=s.vols.length) :
 Calls Tryz.prog 58 #[.pointer (some ⟨s.rb,0,none⟩),.string t,.string u,.int .i64 n] w fun e w'=>e=.returned (.int .i64 5)/\Same [] w w':=
 refPicture_add s t u n o w h ht hc ha ho hn _ fun w' hS hB=>(refAdd_many s _ n w' (h.same0 hS) hm).mono fun e w'' ⟨h1,h2⟩=>⟨5,h1,rfl,by rw[h2];exact hS⟩
theorem refPicture_full(s:RSt)(t u:ByteArray)(n:Nat)(o:RVol)(w:World)(h:RefAt w s)(ht:t.size<=maxLen)(hc:s.freshC t=0)(ha:s.at? u=some o)(ho:o.of_=⟨#[]⟩)(hn:1<=n/\n<=o.data.length)(hm:s.vols.length < 20)(hf:(s.freeL s.n).length < n) :
 Calls Tryz.prog 58 #[.pointer (some ⟨s.rb,0,none⟩),.string t,.string u,.int .i64 n] w fun e w'=>e=.returned (.int .i64 6)/\Same [] w w':=
 refPicture_add s t u n o w h ht hc ha ho hn _ fun w' hS hB=>(refAdd_full s _ n w' (h.same0 hS) hm hf (by have:=(h.vols o (RSt.at?_mem ha).1).data;omega)).mono fun e w'' ⟨h1,h2⟩=>⟨6,h1,rfl,hS.step h2 (by simp)⟩
theorem refPicture_ok(s:RSt)(t u:ByteArray)(n p:Nat)(o:RVol)(w:World)(h:RefAt w s)(hnd:s.foot.Nodup)(ht:t.size<=maxLen)(hc:s.freshC t=0)(ha:s.at? u=some o)(ho:o.of_=⟨#[]⟩)(hn:1<=n/\n<=o.data.length)(hm:s.vols.length < 20)(hf:n<=(s.freeL s.n).length)(hp:PlaceR s t p) :
 Calls Tryz.prog 58 #[.pointer (some ⟨s.rb,0,none⟩),.string t,.string u,.int .i64 n] w fun e w'=>e=.returned (.int .i64 0) /\
  ∃vb g bg dg,RAfter w s w' { s with lg:=some g,vols:=insR p ⟨vb,dg,bg,none,t,u,o.data,(s.freeL s.n).take n,[],false⟩ s.vols }:=
 refPicture_add s t u n o w h ht hc ha ho hn _ fun w' hS hB=>
  (refAdd_ok s w.heap.size n p t u (w.heap.size+1) o.data w' (h.same0 hS) hB (by intro e;rw[e] at hn;simp at hn;omega) (h.vols o (RSt.at?_mem ha).1).data hm hf (by have:=(h.vols o (RSt.at?_mem ha).1).data;omega) hp (fun hk=>by have:=h.foot_lt _ hk;omega) (by omega)).mono
   fun e w'' ⟨h1,h2⟩=>⟨0,h1,rfl,_,h2.after h hnd hS (Nat.le_refl _) (by omega)⟩
end
end Go.Proofs.YtpddgdjocffgdaaGreat
