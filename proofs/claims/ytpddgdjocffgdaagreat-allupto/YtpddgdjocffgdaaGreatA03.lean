/- Packed: see the last text. -/
import Derived.Test.YtpddgdjocffgdaaGreatA02
import Derived.Deep.RegionLawGrows
namespace Go.Proofs.YtpddgdjocffgdaaGreat
open Go.Proofs.Tryz
set_option linter.unusedVariables false
set_option linter.unusedSimpArgs false
set_option linter.unusedSectionVars false
set_option maxHeartbeats 16000000
set_option maxRecDepth 100000
section
open Go.RowKit Go.Sort
variable [DecidableEq aN] [Inhabited aN] [Inhabited aF]
def aZ(i:Nat)(l:List aF):List aF:=l.take i++l.drop (i+1)
theorem dY(i:Nat)(l:List aF):(aZ i l).Sublist l:=by
 have h:(l.drop (i+1)).Sublist (l.drop i):=by
  rw[<-List.drop_drop];exact List.drop_sublist _ _
 have:=List.Sublist.append (List.Sublist.refl (l.take i)) h;rw[List.take_append_drop]at this;exact this
theorem jr(i:Nat)(l:List aF)(h:i<l.length):(l[i]!::aZ i l).Perm l:=by
 have e:l=l.take i++l[i]!::l.drop (i+1):=by
  rw[getElem!_pos l i h,<-List.drop_eq_getElem_cons h,List.take_append_drop]
 unfold aZ;have:=List.perm_middle (a:=l[i]!) (l₁:=l.take i) (l₂:=l.drop (i+1));rw[<-e]at this;exact this.symm
theorem pJ(i:Nat)(l:List aF)(h:i<l.length):(aZ i l).length=l.length-1:=by
 simp[aZ];omega
theorem I8(f:aF->List Nat){a b:List aF}(h:a.Sublist b):(a.flatMap f).Sublist (b.flatMap f):=by
 induction h with
 | slnil=>exact List.Sublist.refl _
 | cons x _ ih=>rw[List.flatMap_cons];exact ih.trans (List.sublist_append_right _ _)
 | cons_cons x _ ih=>rw[List.flatMap_cons,List.flatMap_cons];exact(List.Sublist.refl _).append ih
theorem vz{i:Nat}{l:List aF}(h:i<l.length){x:aF}(hx:x∈l):x=l[i]!\/x∈aZ i l:=by
 rcases List.mem_cons.1 ((jr i l h).mem_iff.2 hx) with e|e
 ·exact Or.inl e
 ·exact Or.inr e
theorem Q7{w w':World}{s:St}(h:ai w s)(i:Nat)(hi:i<s.af.length)(hno:∀u∈s.af,u.org≠some (s.af[i]!).vb)(g cap:Nat)(cs:List Value)(hg:w.heap.size<=g\/s.ab=some g)
 (hP:At w' s.pb 87 [ptr s.pb,ptr s.db,.slice (some ⟨g,0,none⟩) (aZ i s.af).length cap]) (hle:(aZ i s.af).length<=cap) (hB:At w' g 110 cs)
 (hcs:cs.take (aZ i s.af).length=(aZ i s.af).map (fun v=>ptr v.vb)) (hcl:(aZ i s.af).length<=cs.length) (hS:Same [s.pb] w w') :
 ai w' { s with ab:=some g,af:=aZ i s.af }:=by
 have hnd:=h.nodup;have hsub:=dY i s.af;have hap:=jJ hnd;have MF:=hap.pb;refine⟨⟨cap,hP,hle,by simp⟩,fun b hb=>?_,?_,fun u hu=>?_,?_,Nat.le_trans hsub.length_le h.few,h.sorted.sublist hsub,fun u hu o ho=>?_⟩
 ·simp only[Option.some.injEq]at hb;subst hb;exact⟨cs,hB,hcs,hcl⟩
 ·refine h.disk.same hS ?_ ?_ ?_
  ·intro hm;simp at hm;exact MF (by rw[<-hm];simp)
  ·intro hm;simp at hm;exact MF (by rw[<-hm];simp)
  ·intro hm;simp at hm;exact MF (by rw[<-hm];simp)
 ·have hm:=hsub.mem hu;exact(h.af u hm).same hS (fun k hk hx=>by
   simp at hx;have:=hap.disk u hm k hk;simp only[List.mem_cons,not_or]at this;exact this.1 hx)
 ·have hvs:((aZ i s.af).flatMap aF.foot).Sublist (s.af.flatMap aF.foot):=I8 aF.foot hsub;unfold St.foot;simp only[Option.toList_some,List.singleton_append];rcases hg with hg|hg
  ·have hs2:List.Sublist (s.pb::s.db::s.bb::s.fb::(aZ i s.af).flatMap aF.foot) s.foot:=by
    unfold St.foot;refine List.Sublist.cons_cons _ (List.Sublist.cons_cons _ (List.Sublist.cons_cons _ (List.Sublist.cons_cons _ ?_)));exact hvs.trans (List.sublist_append_right _ _)
   have e2:(s.pb::s.db::s.bb::s.fb::g::(aZ i s.af).flatMap aF.foot).Perm (g::(s.pb::s.db::s.bb::s.fb::(aZ i s.af).flatMap aF.foot)):=
    (List.perm_middle (a:=g) (l₁:=[s.pb,s.db,s.bb,s.fb]))
   rw[e2.nodup_iff];refine List.nodup_cons.2 ⟨fun hm=>?_,hnd.sublist hs2⟩;have:=h.bn g (hs2.mem hm);omega
  ·have hs2:List.Sublist (s.pb::s.db::s.bb::s.fb::g::(aZ i s.af).flatMap aF.foot) s.foot:=by
    unfold St.foot;rw[hg];simp only[Option.toList_some,List.singleton_append];exact List.Sublist.cons_cons _ (List.Sublist.cons_cons _ (List.Sublist.cons_cons _ (List.Sublist.cons_cons _ (List.Sublist.cons_cons _ hvs))))
   exact hnd.sublist hs2
 ·have hm:=hsub.mem hu;obtain⟨x,hx,e1,e2⟩:=h.zD u hm o ho;rcases vz hi hx with e|e
  ·exact absurd (by rw[ho,<-e1,e]) (hno u hm)
  ·exact⟨x,e,e1,e2⟩
theorem VD(x:Nat)(l:List Nat):(ins x l).Perm (x::l):=by
 induction l with
 | nil=>exact List.Perm.refl _
 | cons y r ih=>
  simp only[ins]
  split
  ·exact List.Perm.refl _
  ·exact(List.Perm.cons y ih).trans (List.Perm.swap x y r)
theorem l9(xs:List Nat):∀(l:List Nat),(fZ xs l).Perm (xs++l):=by
 induction xs with
 | nil=>intro l;exact List.Perm.refl _
 | cons x r ih=>
  intro l;refine(ih (ins x l)).trans ?_;refine(List.Perm.append_left r (VD x l)).trans ?_;exact List.perm_middle
theorem fK(xs:List Nat):∀(bl:List aN)(x:Nat),x<bl.length->(bM xs bl)[x]! = if x∈xs then aN.zero else bl[x]!:=by
 induction xs with
 | nil=>intro bl x _;rfl
 | cons y r ih=>
  intro bl x hx;have e:bM (y::r) bl=bM r (bl.set y aN.zero):=rfl;rw[e,ih _ x (by simpa using hx)];by_cases h1:x∈r
  ·simp[h1]
  ·rw[if_neg h1];by_cases h2:x=y
   ·subst h2;rw[if_pos (by simp),getElem!_pos _ x (by simpa using hx)];simp
   ·rw[if_neg (by simp[h1,h2]),getElem!_pos _ x (by simpa using hx),getElem!_pos bl x hx];rw[List.getElem_set_ne (by omega)]
theorem Good.remove{s:St}{fr:List Nat}(h:Good s fr)(hl:s.bl.length=s.n)(hd:s.d.size=s.n)(i:Nat)(hi:i<s.af.length)(ab:Option Nat) :
 Good { s with m:=s.m+(s.af[i]!).xs.length,bl:=bM (s.af[i]!).xs s.bl,d:=fP s.m (s.af[i]!).xs s.d,ab:=ab,af:=aZ i s.af } (fZ (s.af[i]!).xs fr):=by
 have hp:=jr i s.af hi;have hfl:((s.af[i]!).xs++(aZ i s.af).flatMap (·.xs)).Perm (s.af.flatMap (·.xs)):=by
  have:=hp.flatMap_right (·.xs);simpa using this
 have hnd:=h.nodup;have hpar:(fZ (s.af[i]!).xs fr++(aZ i s.af).flatMap (·.xs)).Perm (List.range s.n):=by
  refine((List.Perm.append_right _ (l9 _ fr)).trans ?_).trans h.parts;refine(List.Perm.append_right _ List.perm_append_comm).trans ?_;rw[List.append_assoc];exact List.Perm.append_left fr hfl
 have WY:=(hpar.nodup_iff.2 List.nodup_range)
 have Sr:((s.af[i]!).xs++fr).Nodup:=((l9 _ fr).nodup_iff.1 (List.nodup_append.1 WY).1)
 have hlen:=hpar.length_eq;simp only[List.length_append,List.length_range,uF]at hlen;refine⟨?_,hpar,fun x hx=>?_,fun u hu=>h.names u ((dY i s.af).mem hu),fun v hv=>⟨(h.dN v ((dY i s.af).mem hv)).1,(h.dN v ((dY i s.af).mem hv)).2.1,fun u hu=>(h.dN v ((dY i s.af).mem hv)).2.2 u ((dY i s.af).mem hu)⟩⟩
 ·refine fU.gives (s.af[i]!).xs h.heap (List.nodup_append.1 Sr).1 (fun x hx hm=>?_) ?_
  ·exact(List.nodup_append.1 Sr).2.2 x hx x hm rfl
  ·have:=h.heap.len;omega
 ·have hxn:x<s.n:=List.mem_range.1 (hpar.mem_iff.1 (List.mem_append_left _ hx));show(bM (s.af[i]!).xs s.bl)[x]! = aN.zero;rw[fK _ _ _ (by omega)]
  split
  ·rfl
  ·rename_i hni
   rcases (qB _ _ _).1 hx with hx|hx
   ·exact absurd hx hni
   ·exact h.zero x hx
theorem OI(s:St)(fr:List Nat)(t:ByteArray)(w:World)(h:ai w s)(hG:Good s fr)(hi:s.has t=true)(hno:∀u∈s.af,u.org≠some (s.aA t).vb) :
 Calls prog 100 #[.pointer (some ⟨s.pb,0,none⟩),.pointer (some ⟨(s.aA t).vb,0,none⟩)] w fun e w'=>e=.returned (.tuple #[]) /\
  ∃g,After w s w' { s with m:=s.m+(s.aA t).xs.length,bl:=bM (s.aA t).xs s.bl,d:=fP s.m (s.aA t).xs s.d,ab:=some g,af:=aZ (posOf s.names t) s.af } (fZ (s.aA t).xs fr):=by
 obtain⟨hmem,hname,hpos⟩:=St.aT hi;obtain⟨cap,hp,hlc,_⟩:=h.pool;have hv:=h.af _ hmem;obtain⟨IG,YX,hvc,hvo,_,_⟩:=hv.aA;obtain⟨cs0,hr⟩:=hv.row;obtain⟨b,hb⟩:∃b,s.ab=some b:=by
  cases hab:s.ab with
  | none=>rw[h.wF hab]at hpos;simp at hpos
  | some b=>exact⟨b,rfl⟩
 obtain⟨cs,hB,hcs,hcl⟩:=h.arr b hb;rw[hb]at hp;have c1:w.cell? ⟨s.pb,1,none⟩=some (.pointer (some ⟨s.db,0,none⟩)):=hp.cell? 1;have d1:w.cell? ⟨(s.aA t).vb,1,none⟩=some (.slice (some ⟨(s.aA t).gb,0,none⟩) (s.aA t).xs.length IG):=hvo.cell? 1;have WZ:∀k∈(s.aA t).foot,k∉[s.db,s.bb,s.fb]:=fun k hk=>by
  have:=(jJ h.nodup).disk _ hmem k hk;simp only[List.mem_cons,not_or,List.not_mem_nil,not_false_eq_true,and_true]at this ⊢;exact⟨this.2.1,this.2.2.1,this.2.2.2⟩
 have aau:(s.aA t).gb∉[s.db,s.bb,s.fb]:=WZ _ (by simp[aF.foot]);have hml:s.m+(s.aA t).xs.length<=s.n:=by
  have h1:=hG.parts.length_eq;have h2:=hG.heap.len;have h3:(s.aA t).xs.length<=(s.af.flatMap (·.xs)).length:=by
   have:=(jr (posOf s.names t) s.af hpos).flatMap_right (·.xs);have:=this.length_eq;simp only[List.flatMap_cons,List.length_append]at this;have e:s.af[posOf s.names t]! = s.aA t:=rfl;rw[e]at this;omega
  simp only[List.length_append,List.length_range]at h1;omega
 have yL:=fun W (hW:Same [] w W)=>nS s.db s.bb s.fb s.n s.m (s.aA t).gb 0 IG s.bl s.d (s.aA t).xs (some ⟨(s.aA t).gb,0,none⟩) _ cs0 W _ _ rfl rfl (h.disk.same hW (by simp) (by simp) (by simp)) (fun _=>⟨rfl,hW.at hr.at_ (by simp),aau⟩) (fun j hj=>by rw[Nat.zero_add];exact hr.cell j hj) (fun x hx=>hG.lt.2 _ hmem x hx) hml
 have H:Hid (ai w s/\Good s fr):=⟨h,hG⟩
 have HVN:Hid (At w (s.aA t).vb 133 ((s.aA t).cells IG YX)/\(s.aA t).vb∉[s.db,s.bb,s.fb]):=⟨hvo,WZ _ (by simp[aF.foot])⟩
 have HNO:Hid (∀u∈s.af,u.org≠some (s.aA t).vb):=hno;have HB:Hid (At w b 110 cs/\cs.take s.af.length=s.af.map (fun v=>ptr v.vb)/\s.af.length<=cs.length/\s.ab=some b):=⟨hB,hcs,hcl,hb⟩
 have HP:Hid (At w s.pb 87 [ptr s.pb,ptr s.db,.slice (some ⟨b,0,none⟩) s.af.length cap]):=hp;clear h hG hp hv hvo hr hB hcs hcl hb hno WZ
 go_enter func100,ntmps100
 go_wp2_with fail
 go_region_with (go_at_call 95;refine(yL _ ((Same.refl [] _).drew)).mono ?_;rintro e w1 ⟨rfl,hD,hS⟩)
 all_goals
  obtain⟨h,hG⟩:=H.out;obtain⟨hB,hcs,hcl,hb⟩:=HB.out;have hS':Same [s.db,s.bb,s.fb] w w1:=(Same.refl _ _).drew.step hS (by simp);have hP1:=h.jO hS' (by intro k hk;simp at hk;rcases hk with e|e|e<;>simp[e]) hD;have n1:w1.cell? ⟨(s.aA t).vb,0,none⟩=some (.string t):=((hS'.at HVN.out.1 HVN.out.2).cell? 0).trans (by show some (Value.string (s.aA t).name)=_;rw[hname]);have hX:=oU _ t w1 hP1;have hnd:=h.nodup;have hap:=jJ hnd;have hbS:b∉[s.db,s.bb,s.fb]/\s.pb∉[s.db,s.bb,s.fb]/\b≠s.pb:=by
   have q0:=hap.pb;have q1:=hap.db;have q2:=hap.bb;have q3:=hap.fb;simp only[hb,Option.toList_some,List.singleton_append,List.mem_cons,not_or]at q0 q1 q2 q3;simp only[List.mem_cons,List.not_mem_nil,or_false,not_or];exact⟨⟨fun e=>q1.2.2.1 e.symm,fun e=>q2.2.1 e.symm,fun e=>q3.1 e.symm⟩,⟨q0.1,q0.2.1,q0.2.2.1⟩,fun e=>q0.2.2.2.1 e.symm⟩
  have hB1:=hS'.at hB hbS.1;have hp1:=hS'.at HP.out hbS.2.1;have c2:w1.cell? ⟨s.pb,2,none⟩=some (.slice (some ⟨b,0,none⟩) s.af.length cap):=hp1.cell? 2;have f2:w1.frozen? ⟨s.pb,2,none⟩=false:=hp1.frozen 2;have e0:St.names { s with m:=s.m+(s.aA t).xs.length,bl:=bM (s.aA t).xs s.bl,d:=fP s.m (s.aA t).xs s.d }=s.names:=rfl;rw[e0]at hX;have hi':isIn s.names t=true:=hi;rw[hi']at hX;have hGR:=hG.remove h.disk.len h.disk.size (posOf s.names t) hpos;have hfew:=h.few;have HF:Hid (∀(w2:World)(g cap2:Nat)(cs2:List Value),(w1.heap.size<=g\/s.ab=some g)->At w2 s.pb 87 [ptr s.pb,ptr s.db,.slice (some ⟨g,0,none⟩) (aZ (posOf s.names t) s.af).length cap2]->(aZ (posOf s.names t) s.af).length<=cap2->At w2 g 110 cs2->cs2.take (aZ (posOf s.names t) s.af).length=(aZ (posOf s.names t) s.af).map (fun v=>ptr v.vb)->(aZ (posOf s.names t) s.af).length<=cs2.length->Same [s.pb] w1 w2->After w s w2 { s with m:=s.m+(s.aA t).xs.length,bl:=bM (s.aA t).xs s.bl,d:=fP s.m (s.aA t).xs s.d,ab:=some g,af:=aZ (posOf s.names t) s.af } (fZ (s.aA t).xs fr)):=by
   intro w2 g cap2 cs2 hg ha1 ha2 ha3 ha4 ha5 hs2;have hp2:=Q7 hP1 (posOf s.names t) hpos HNO.out g cap2 cs2 hg ha1 ha2 ha3 ha4 ha5 hs2;refine⟨hp2,hGR (some g),(hS'.mono (T:=s.foot) (by simp[St.foot])).step hs2 (by simp[St.foot]),fun j hj=>?_,rfl,rfl⟩;have hsub:=dY (posOf s.names t) s.af;rcases St.gm hj with e|e|e|e|e|⟨u,hu,hk⟩
   ·left;rw[e];exact s.xh
   ·left;rw[e];exact s.zS
   ·left;rw[e];exact s.FM
   ·left;rw[e];exact s.zT
   ·have e':g=j:=by simpa using e
    rcases hg with hg|hg
    ·right;have:=hS'.size;omega
    ·left;exact s.F7 (by rw[hg,e'])
   ·left;exact s.bH (hsub.mem hu) hk
  clear hGR hG hi' e0 hD hS h yL HP hP1 hS' hnd hap;generalize hpo:posOf s.names t=po at *;have HPO:Hid (posOf s.names t=po):=hpo;clear hpo;obtain⟨i0,hi0,hz0,hz1,hz2⟩:=info_parts Tryz.info59;have l1:(po:Int)<(s.af.length:Int):=by omega
  have l2:(po:Int)+1<=(s.af.length:Int):=by omega
  go_wp2_with (go_at_call 115;refine hX.mono ?_;rintro e w'' ⟨rfl,rfl⟩)
  have hwr:IntKind.i64.wrap ((po:Int)+1)=(po:Int)+1:=IntWalk.i64_in _ (by omega);have hdl:=pJ po s.af hpos;by_cases hlast:po+1<s.af.length
  ·have olds:∀(W:World),W.heap=w''.heap->∀j u,((s.af.take po).map (fun v=>ptr v.vb))[j]? = some u->W.cell? ⟨b,j,none⟩=some u:=by
    intro W hW j u hj;have hj2:j<po:=by
     rcases Nat.lt_or_ge j po with h'|h'
     ·exact h'
     ·rw[List.getElem?_eq_none (by simp;omega)]at hj;cases hj
    have hBW:At W b _ cs:=hB1.of_heap (by rw[hW]);rw[hBW.cell?];have e1:(cs.take s.af.length)[j]? = cs[j]?:=by rw[List.getElem?_take,if_pos (by omega)]
    rw[<-e1,hcs,<-hj,List.map_take,List.getElem?_take,if_pos hj2]
   have news:∀(W:World),W.heap=w''.heap->∀j u,((s.af.drop (po+1)).map (fun v=>ptr v.vb))[j]? = some u->W.cell? ⟨b,po+1+j,none⟩=some u:=by
    intro W hW j u hj;have hj2:po+1+j<s.af.length:=by
     rcases Nat.lt_or_ge (po+1+j) s.af.length with h'|h'
     ·exact h'
     ·rw[List.getElem?_eq_none (by simp;omega)]at hj;cases hj
    have hBW:At W b _ cs:=hB1.of_heap (by rw[hW]);rw[hBW.cell?];have e1:(cs.take s.af.length)[po+1+j]? = cs[po+1+j]?:=by rw[List.getElem?_take,if_pos (by omega)]
    rw[<-e1,hcs,<-hj,List.map_drop,List.getElem?_drop]
   have abf:po+1<cap:=by omega
   have k1:po<=cap:=by omega
   have k2:po+1<=s.af.length:=by omega
   have k3:¬cap=po+1:=by omega
   have k4:((po:Int)+1).toNat=po+1:=by omega
   have k5:(0:Int)<=(po:Int)+1:=by omega
   have k6:s.af.length<=cap:=by omega
   go_region_law (refine step_append_grows rfl (.tmp 31) (.tmp 38) 85 rfl 110 i0 (.pointer none) 1 8 underlying85 hi0 hz0 hz1 hz2 rfl (by decide) (some ⟨b,0,none⟩) po po ((s.af.take po).map (fun v=>ptr v.vb)) (by simp[Act.eval,Act.put]) (by intro h;cases h) (by simp;omega) (by intro b1 hb1 j u hj;simp only[Option.some.injEq]at hb1;subst hb1;rw[Addr.add_lit,Nat.zero_add];exact olds _ rfl j u hj) ⟨b,po+1,none⟩ (s.af.length-(po+1)) (cap-(po+1)) ((s.af.drop (po+1)).map (fun v=>ptr v.vb)) (by simp[Act.eval,Act.put]) (by simp) (by intro j u hj;rw[Addr.add_lit];exact news _ rfl j u hj) (KX _) (by omega) (by unfold maxLen;omega) (by omega) ?_;intro v' w2 hown hgrow;obtain⟨a2,cap2,rfl⟩:=ak hown;have p2:=hp1.drew.of_heap (hgrow.block s.pb hp1.drew.lt (by simp));have g2:w2.cell? ⟨s.pb,2,none⟩=some (.slice (some ⟨b,0,none⟩) s.af.length cap):=p2.cell? 2;have z2:w2.frozen? ⟨s.pb,2,none⟩=false:=p2.frozen 2)
   all_goals
    obtain⟨g,cs2,rfl,hg,hA2,hl2,ht2⟩:=iw hown (by omega);have hle2:=oQ hown;have Dn:po+(s.af.length-(po+1))=(aZ po s.af).length:=by omega
    have hgp:g≠s.pb:=by have:=hp1.lt;simp at hg;omega
    have hhs:=hgrow.size;have A2:=p2.ax 2 (.slice (some ⟨g,0,none⟩) (po+(s.af.length-(po+1))) cap2);have S2:Same [s.pb] w'' (w2.setCell ⟨s.pb,2,none⟩ (.slice (some ⟨g,0,none⟩) (po+(s.af.length-(po+1))) cap2)):=(((Same.refl _ _).drew).grown hgrow (by simp)).set s.pb 2 _ (by simp);have jT:=HF.out _ g cap2 cs2 (Or.inl hg) (by rw[<-Dn];exact A2) (by rw[<-Dn];exact hle2) (hA2.aP s.pb 2 _ hgp) (by rw[<-Dn];simp at ht2;rw[ht2];simp[aZ,List.map_take,List.map_drop]) (by rw[<-Dn];omega) S2;clear HF A2 S2 hown hgrow p2 g2 z2 hA2 hl2 ht2
    go_wp2
    refine bodyPost_end (results_none rfl _ _ _) rfl ⟨rfl,g,?_⟩;rw[HPO.out];exact jT
  ·have elast:po+1=s.af.length:=by omega
   have k1:po<=cap:=by omega
   have k4:((po:Int)+1).toNat=po+1:=by omega
   have k5:(0:Int)<=(po:Int)+1:=by omega
   have k6:s.af.length<=cap:=by omega
   have k7:(po:Int)<=(po:Int)+1:=by omega
   have HL:Hid (po+1=s.af.length):=elast;generalize hLL:s.af.length=LL at *;subst elast;by_cases hc0:cap=po+1
   ·subst hc0
    go_region_law (refine step_append_room rfl (.tmp 31) (.tmp 38) 85 rfl 110 i0 1 underlying85 hi0 hz1 b 0 po po (by simp[Act.eval,Act.put]) ⟨b,0,none⟩ 0 0 [] (by simp[Act.eval,Act.put]) rfl (by intro j u hj;simp at hj) (by intro u hu;simp at hu) (by omega) (by intro j hj;simp at hj) ?_;rw[World.setCells])
    all_goals
     have A2:=hp1.drew.ax 2 (.slice (some ⟨b,0,none⟩) po po);have S2:Same [s.pb] w'' (w''.drew.setCell ⟨s.pb,2,none⟩ (.slice (some ⟨b,0,none⟩) po po)):=((Same.refl _ _).drew).set s.pb 2 _ (by simp);have Dn:(aZ po s.af).length=po:=by omega
     have jT:=HF.out _ b po cs (Or.inr hb) (by rw[Dn];exact A2) (by omega) (hB1.drew.aP s.pb 2 _ hbS.2.2) (by
      rw[Dn];have e3:aZ po s.af=s.af.take po:=by unfold aZ;rw[List.drop_of_length_le (by omega),List.append_nil]
      have e4:cs.take po=(cs.take (po+1)).take po:=by rw[List.take_take,Nat.min_eq_left (by omega)]
      rw[e3,e4,hcs,List.map_take]) (by omega) S2
     clear HF A2 S2
     go_wp2
     refine bodyPost_end (results_none rfl _ _ _) rfl ⟨rfl,b,?_⟩;rw[HPO.out];exact jT
   ·have hc1:po+1<cap:=by omega
    go_region_law (refine step_append_room rfl (.tmp 31) (.tmp 38) 85 rfl 110 i0 1 underlying85 hi0 hz1 b 0 po po (by simp[Act.eval,Act.put]) ⟨b,po+1,none⟩ 0 (cap-(po+1)) [] (by simp[Act.eval,Act.put]) rfl (by intro j u hj;simp at hj) (by intro u hu;simp at hu) (by omega) (by intro j hj;simp at hj) ?_;rw[World.setCells])
    all_goals
     have A2:=hp1.drew.ax 2 (.slice (some ⟨b,0,none⟩) po po);have S2:Same [s.pb] w'' (w''.drew.setCell ⟨s.pb,2,none⟩ (.slice (some ⟨b,0,none⟩) po po)):=((Same.refl _ _).drew).set s.pb 2 _ (by simp);have Dn:(aZ po s.af).length=po:=by omega
     have jT:=HF.out _ b po cs (Or.inr hb) (by rw[Dn];exact A2) (by omega) (hB1.drew.aP s.pb 2 _ hbS.2.2) (by
      rw[Dn];have e3:aZ po s.af=s.af.take po:=by unfold aZ;rw[List.drop_of_length_le (by omega),List.append_nil]
      have e4:cs.take po=(cs.take (po+1)).take po:=by rw[List.take_take,Nat.min_eq_left (by omega)]
      rw[e3,e4,hcs,List.map_take]) (by omega) S2
     clear HF A2 S2
     go_wp2
     refine bodyPost_end (results_none rfl _ _ _) rfl ⟨rfl,b,?_⟩;rw[HPO.out];exact jT
end
end Go.Proofs.YtpddgdjocffgdaaGreat
