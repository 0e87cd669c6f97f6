/- The document's own answer: Revert, by contract. The document's own answer: a place kept, a place told otherwise; Write to a picture, by contract. The document's own answer: Write to a volume, by contract. The program's state beside the document's own answer: a Write, and a Revert. The program's state beside the document's own answer: a Revert. -/
import Derived.Test.YtpddgdjocffgdaaGreatJ09
import Derived.Test.YtpddgdjocffgdaaGreatJ08
namespace Go.Proofs.YtpddgdjocffgdaaGreat
set_option linter.unusedVariables false
set_option linter.unusedSimpArgs false
set_option linter.unusedSectionVars false
set_option maxHeartbeats 16000000
set_option maxRecDepth 100000
section
open Go.RowKit Go.Sort
variable [DecidableEq Blk] [Inhabited Blk] [Inhabited Vol] [Inhabited RVol]
theorem refRevert_none(s:RSt)(t:ByteArray)(w:World)(h:RefAt w s)(ha:s.at? t=none) :
 Calls Tryz.prog 60 #[.pointer (some ⟨s.rb,0,none⟩),.string t] w fun e w'=>e=.returned (.int .i64 4)/\w'=w:=by
 have hF:=refFind_calls s t w h;rw[ha] at hF
 go_enter Tryz.func60,Tryz.ntmps60
 go_wp2_with (first|(go_at_call 79;refine hF.mono ?_;rintro e wz ⟨rfl,rfl⟩))
 go_ret
 exact⟨rfl,rfl⟩
theorem refRevert_vol(s:RSt)(t:ByteArray)(v:RVol)(w:World)(h:RefAt w s)(ha:s.at? t=some v)(ho:v.of_=⟨#[]⟩) :
 Calls Tryz.prog 60 #[.pointer (some ⟨s.rb,0,none⟩),.string t] w fun e w'=>e=.returned (.int .i64 7)/\w'=w:=by
 have hF:=refFind_calls s t w h;rw[ha] at hF;obtain⟨hm,hnm⟩:=RSt.at?_mem ha;obtain⟨dc,bc,kc,hv,_⟩:=(h.vols v hm).ex;have e1:w.cell? ⟨v.vb,1,none⟩=some (.string ⟨#[]⟩):=by rw[<-ho];exact hv.cell? 1
 clear hv h
 go_enter Tryz.func60,Tryz.ntmps60
 go_wp2_with (first|(go_at_call 79;refine hF.mono ?_;rintro e wz ⟨rfl,rfl⟩))
 go_ret
 exact⟨rfl,rfl⟩
theorem refRevert_lost(s:RSt)(t:ByteArray)(v:RVol)(w:World)(h:RefAt w s)(ha:s.at? t=some v)(ho:v.of_≠⟨#[]⟩)(hl:v.lost=true) :
 Calls Tryz.prog 60 #[.pointer (some ⟨s.rb,0,none⟩),.string t] w fun e w'=>e=.returned (.int .i64 9)/\w'=w:=by
 have hF:=refFind_calls s t w h;rw[ha] at hF;obtain⟨hm,hnm⟩:=RSt.at?_mem ha;obtain⟨dc,bc,kc,hv,_⟩:=(h.vols v hm).ex;have e1:w.cell? ⟨v.vb,1,none⟩=some (.string v.of_):=hv.cell? 1;have e5:w.cell? ⟨v.vb,5,none⟩=some (.bool true):=by rw[<-hl];exact hv.cell? 5
 have hbq:=empty_bytes ho;clear hv h
 go_enter Tryz.func60,Tryz.ntmps60
 go_wp2_with (first|(go_at_call 79;refine hF.mono ?_;rintro e wz ⟨rfl,rfl⟩))
 go_ret
 exact⟨rfl,rfl⟩
theorem refRevert_busy(s:RSt)(t:ByteArray)(v:RVol)(w:World)(h:RefAt w s)(ha:s.at? t=some v)(ho:v.of_≠⟨#[]⟩)(hl:v.lost=false)(hp:1 < s.pics v.of_ s.vols.length) :
 Calls Tryz.prog 60 #[.pointer (some ⟨s.rb,0,none⟩),.string t] w fun e w'=>e=.returned (.int .i64 8)/\w'=w:=by
 have hF:=refFind_calls s t w h;have hP:=refPictures_calls s v.of_ w h;rw[ha] at hF;obtain⟨hm,hnm⟩:=RSt.at?_mem ha;obtain⟨dc,bc,kc,hv,_⟩:=(h.vols v hm).ex;have e1:w.cell? ⟨v.vb,1,none⟩=some (.string v.of_):=hv.cell? 1;have e5:w.cell? ⟨v.vb,5,none⟩=some (.bool false):=by rw[<-hl];exact hv.cell? 5
 have hbq:=empty_bytes ho;generalize s.pics v.of_ s.vols.length=k at *;have hk:(1:Int) < (k:Int):=by omega
 clear hv h
 go_enter Tryz.func60,Tryz.ntmps60
 go_wp2_with (first|(go_at_call 79;refine hF.mono ?_;rintro e wz ⟨rfl,rfl⟩)|(go_at_call 99;refine hP.mono ?_;rintro e wz ⟨rfl,rfl⟩))
 go_ret
 exact⟨rfl,rfl⟩
theorem sub_flatR(f:RVol->List Nat){a b:List RVol}(h:a.Sublist b):(a.flatMap f).Sublist (b.flatMap f):=by
 induction h with
 | slnil=>exact List.Sublist.refl _
 | cons x _ ih=>simp only[List.flatMap_cons];exact ih.trans (List.sublist_append_right _ _)
 | cons_cons x _ ih=>simp only[List.flatMap_cons];exact List.Sublist.append (List.Sublist.refl _) ih
theorem foot_filter(s:RSt)(lg:Option Nat)(vs:List RVol)(hs:vs.Sublist s.vols){B:Nat}(hl:∀b,lg=some b->B<=b):∀k∈RSt.foot { s with lg:=lg,vols:=vs },k∈s.foot\/B<=k:=by
 intro k hk;rcases RSt.foot_cases hk with e|e|⟨v,hv,hkv⟩
 ·exact Or.inl (by rw[e];exact s.foot_rb)
 ·exact Or.inr (hl k e)
 ·exact Or.inl (s.foot_vol (hs.subset hv) hkv)
theorem nodup_filter(s:RSt)(lg:Option Nat)(vs:List RVol)(hs:vs.Sublist s.vols)(hnd:s.foot.Nodup){B:Nat}(hB:∀k∈s.foot,k < B)(hl:∀b,lg=some b->B<=b):(RSt.foot { s with lg:=lg,vols:=vs }).Nodup:=by
 obtain⟨p1,p2,p3,p4⟩:=RSt.foot_parts hnd;have hsub:(vs.flatMap RVol.foot).Sublist (s.vols.flatMap RVol.foot):=sub_flatR _ hs;unfold RSt.foot;show (s.rb :: (lg.toList++vs.flatMap RVol.foot)).Nodup;have hrb:=hB _ s.foot_rb;rw[List.nodup_cons,List.nodup_append];refine⟨fun hm=>?_,by cases lg<;>simp,p4.sublist hsub,fun a ha b hb e=>?_⟩
 ·rcases List.mem_append.1 hm with hm|hm
  ·have:=hl s.rb (by simpa using hm);omega
  ·obtain⟨v,hv,hkv⟩:=List.mem_flatMap.1 (hsub.subset hm);exact p2 v hv hkv
 ·subst e;have:=hl a (by simpa using ha);obtain⟨v,hv,hkv⟩:=List.mem_flatMap.1 (hsub.subset hb);have:=hB a (s.foot_vol hv hkv);omega
theorem without_sub(s:RSt)(t:ByteArray)(k:Nat):(s.without t k).Sublist s.vols:=List.filter_sublist.trans (List.take_sublist _ _)
theorem refRemove_after(s:RSt)(t:ByteArray)(v:RVol)(w:World)(h:RefAt w s)(hnd:s.foot.Nodup)(ha:s.at? t=some v)(hb:s.pics t s.vols.length=0) :
 Calls Tryz.prog 56 #[.pointer (some ⟨s.rb,0,none⟩),.string t] w fun e w'=>e=.returned (.int .i64 0)/\∃lg,RAfter w s w' { s with lg:=lg,vols:=s.without t s.vols.length }:=
 (refRemove_ok s t v w h ha hb).mono fun e w' ⟨h1,hS,lg,hR,hg⟩=>⟨h1,lg,hR,nodup_filter s lg _ (without_sub _ _ _) hnd h.foot_lt hg,hS.mono (by intro k hk _;simp at hk;subst hk;exact s.foot_rb),foot_filter s lg _ (without_sub _ _ _) hg,rfl,rfl⟩
theorem filter_set_skip(p:RVol->Bool):∀(l:List RVol) (i:Nat) (x:RVol),i < l.length->p x=false->p (l[i]!)=false->(l.set i x).filter p=l.filter p
 | [],i,x,hi,_,_=>by simp at hi
 | a :: r,0,x,hi,hx,ha=>by
  have ha':p a=false:=by simpa using ha
  rw[List.set_cons_zero,List.filter_cons,List.filter_cons,if_neg (by rw[hx];simp),if_neg (by rw[ha'];simp)]
 | a :: r,i+1,x,hi,hx,ha=>by
  have hi':i < r.length:=by simpa using hi
  have e:(a :: r)[i+1]! = r[i]!:=by rw[getElem!_pos _ (i+1) hi,getElem!_pos r i hi'];rfl
  rw[e] at ha;rw[List.set_cons_succ,List.filter_cons,List.filter_cons,filter_set_skip p r i x hi' hx ha]
theorem revert_foot{w:World}{s:RSt}{iv io:Nat}{v o:RVol}(h:RefAt w s)(hiv:iv < s.vols.length)(hio:io < s.vols.length)(hv:s.vols[iv]! = v)(ho:s.vols[io]! = o){t:ByteArray} :
 ∀k∈(RSt.without { s with vols:=s.vols.set io { o with dg:=v.dg,data:=v.data } } t s.vols.length).flatMap RVol.foot,k∈s.foot:=by
 intro k hk;have hvm:v∈s.vols:=by rw[<-hv];exact getRv hiv
 have hom:o∈s.vols:=by rw[<-ho];exact getRv hio
 obtain⟨x,hx,hkx⟩:=List.mem_flatMap.1 hk;have hx':x∈s.vols.set io { o with dg:=v.dg,data:=v.data }:=(without_sub _ _ _).subset hx;rcases setR_mem hio hx' with rfl|⟨j,hj,_,rfl⟩
 ·simp only[RVol.foot,List.mem_cons] at hkx;rcases hkx with e|e|e|e
  ·exact s.foot_vol hom (by rw[e];simp[RVol.foot])
  ·exact s.foot_vol hvm (by rw[e];simp[RVol.foot])
  ·exact s.foot_vol hom (by rw[e];simp[RVol.foot])
  ·exact s.foot_vol hom (by simp only[RVol.foot,List.mem_cons];exact Or.inr (Or.inr (Or.inr e)))
 ·exact s.foot_vol (getRv hj) hkx
theorem revert_nodup{w:World}{s:RSt}{iv io:Nat}{v o:RVol}(h:RefAt w s)(hnd:s.foot.Nodup)(hiv:iv < s.vols.length)(hio:io < s.vols.length)(hne:iv≠io)(hv:s.vols[iv]! = v)(ho:s.vols[io]! = o){t:ByteArray}(hnm:v.name=t)(lg:Option Nat)(hlg:∀b,lg=some b->w.heap.size<=b) :
 (RSt.foot { s with lg:=lg,vols:=RSt.without { s with vols:=s.vols.set io { o with dg:=v.dg,data:=v.data } } t s.vols.length }).Nodup:=by
 have hlt:=h.foot_lt;have hfresh:w.heap.size∉s.foot:=fun hm=>by have:=hlt _ hm;omega
 have hvm:v∈s.vols:=by rw[<-hv];exact getRv hiv
 have hom:o∈s.vols:=by rw[<-ho];exact getRv hio
 obtain⟨p1,p2,p3,p4⟩:=RSt.foot_parts hnd;have hvn:v.foot.Nodup:=(flat_apart RVol.foot s.vols p4).1 v hvm;have hon:o.foot.Nodup:=(flat_apart RVol.foot s.vols p4).1 o hom
 -- first the picture's data lie elsewhere
 have n1:(RSt.foot { s with vols:=s.vols.set iv { v with dg:=w.heap.size } }).Nodup:=by
  refine nodup_setR hnd iv hiv _ ?_ ?_
  ·have hvl:=(h.vols v hvm).foot_lt;simp only[RVol.foot,List.nodup_cons,List.mem_cons,not_or] at hvn ⊢;have l1:=hvl v.vb (by simp[RVol.foot]);have l2:=hvl v.bg (by simp[RVol.foot]);refine⟨⟨by omega,hvn.1.2.1,hvn.1.2.2⟩,⟨by omega,fun hm=>?_⟩,hvn.2.2⟩;have:=hvl w.heap.size (by simp only[RVol.foot,List.mem_cons];exact Or.inr (Or.inr (Or.inr hm)));omega
  ·intro k hk;rw[hv];simp only[RVol.foot,List.mem_cons] at hk ⊢;rcases hk with e|e|e|e
   ·exact Or.inl (Or.inl e)
   ·exact Or.inr (by rw[e];exact hfresh)
   ·exact Or.inl (Or.inr (Or.inr (Or.inl e)))
   ·exact Or.inl (Or.inr (Or.inr (Or.inr e)))
 have hio1:io < (RSt.vols { s with vols:=s.vols.set iv { v with dg:=w.heap.size } }).length:=by show io < (s.vols.set iv _).length;rw[List.length_set];exact hio
 have ho1:(RSt.vols { s with vols:=s.vols.set iv { v with dg:=w.heap.size } })[io]! = o:=by
  show (s.vols.set iv _)[io]! = o;rw[getElem!_pos _ io (by rw[List.length_set];exact hio),List.getElem_set,if_neg hne,<-ho,getElem!_pos s.vols io hio]
 have hdg:v.dg∉RSt.foot { s with vols:=s.vols.set iv { v with dg:=w.heap.size } }:=fun hm=>by
  rcases RSt.foot_cases hm with e|e|⟨x,hx,hkx⟩
  ·exact p2 v hvm (by show s.rb∈_;have:v.dg=s.rb:=e;rw[<-this];simp[RVol.foot])
  ·exact p3 v.dg e v hvm (by simp[RVol.foot])
  ·rcases setR_mem hiv hx with rfl|⟨j,hj,hjne,rfl⟩
   ·simp only[RVol.foot,List.nodup_cons,List.mem_cons,not_or] at hvn hkx;have l1:=(h.vols v hvm).foot_lt v.dg (by simp[RVol.foot]);rcases hkx with e|e|e|e
    ·exact hvn.1.1 e.symm
    ·omega
    ·exact hvn.2.1.1 e
    ·exact hvn.2.1.2 e
   ·exact rfoot_apart hnd hiv hj (fun e=>hjne e.symm) (k:=v.dg) (by rw[hv];simp[RVol.foot]) hkx
 have n2:(RSt.foot { s with vols:=(s.vols.set iv { v with dg:=w.heap.size }).set io { o with dg:=v.dg,data:=v.data } }).Nodup:=by
  refine nodup_setR n1 io hio1 { o with dg:=v.dg,data:=v.data } ?_ ?_
  ·simp only[RVol.foot,List.nodup_cons,List.mem_cons,not_or] at hon ⊢;have hap:∀k∈o.foot,k≠v.dg:=fun k hk e=>rfoot_apart hnd hio hiv (fun q=>hne q.symm) (k:=k) (by rw[ho];exact hk) (by rw[hv,e];simp[RVol.foot])
   refine⟨⟨hap _ (by simp[RVol.foot]),hon.1.2.1,hon.1.2.2⟩,⟨fun e=>hap o.bg (by simp[RVol.foot]) e.symm,fun hm=>hap v.dg (by simp only[RVol.foot,List.mem_cons];exact Or.inr (Or.inr (Or.inr hm))) rfl⟩,hon.2.2⟩
  ·intro k hk;rw[ho1];simp only[RVol.foot,List.mem_cons] at hk ⊢;rcases hk with e|e|e|e
   ·exact Or.inl (Or.inl e)
   ·exact Or.inr (by rw[e];exact hdg)
   ·exact Or.inl (Or.inr (Or.inr (Or.inl e)))
   ·exact Or.inl (Or.inr (Or.inr (Or.inr e)))
 have hB2:∀k∈RSt.foot { s with vols:=(s.vols.set iv { v with dg:=w.heap.size }).set io { o with dg:=v.dg,data:=v.data } },k < w.heap.size+1:=by
  intro k hk;rcases RSt.foot_cases hk with e|e|⟨x,hx,hkx⟩
  ·have:=hlt _ s.foot_rb;have:k=s.rb:=e;omega
  ·have:=hlt _ (s.foot_lg e);omega
  ·rcases setR_mem hio1 hx with rfl|⟨j,hj,hjne,rfl⟩
   ·simp only[RVol.foot,List.mem_cons] at hkx;have hol:=(h.vols o hom).foot_lt;have hvl:=(h.vols v hvm).foot_lt;rcases hkx with e|e|e|e
    ·have:=hol o.vb (by simp[RVol.foot]);omega
    ·have:=hvl v.dg (by simp[RVol.foot]);omega
    ·have:=hol o.bg (by simp[RVol.foot]);omega
    ·have:=hol k (by simp only[RVol.foot,List.mem_cons];exact Or.inr (Or.inr (Or.inr e)));omega
   ·have hj':j < s.vols.length:=by have:j < (s.vols.set iv _).length:=hj;rw[List.length_set] at this;exact this
    have hkx':k∈((s.vols.set iv { v with dg:=w.heap.size })[j]!).foot:=hkx;rw[getElem!_pos _ j (by rw[List.length_set];exact hj'),List.getElem_set] at hkx';by_cases e:iv=j
    ·rw[if_pos e] at hkx';simp only[RVol.foot,List.mem_cons] at hkx';have hvl:=(h.vols v hvm).foot_lt;rcases hkx' with e|e|e|e
     ·have:=hvl v.vb (by simp[RVol.foot]);omega
     ·omega
     ·have:=hvl v.bg (by simp[RVol.foot]);omega
     ·have:=hvl k (by simp only[RVol.foot,List.mem_cons];exact Or.inr (Or.inr (Or.inr e)));omega
    ·rw[if_neg e] at hkx';have:=hlt k (s.foot_vol (List.getElem_mem hj') hkx');omega
 have hsub:(RSt.without { s with vols:=s.vols.set io { o with dg:=v.dg,data:=v.data } } t s.vols.length).Sublist ((s.vols.set iv { v with dg:=w.heap.size }).set io { o with dg:=v.dg,data:=v.data }):=by
  have e:RSt.without { s with vols:=s.vols.set io { o with dg:=v.dg,data:=v.data } } t s.vols.length=((s.vols.set iv { v with dg:=w.heap.size }).set io { o with dg:=v.dg,data:=v.data }).filter fun x=>decide (¬x.name=t):=by
   unfold RSt.without;show ((s.vols.set io _).take s.vols.length).filter _=_;rw[List.take_of_length_le (by rw[List.length_set];omega),List.set_comm _ _ hne];refine (filter_set_skip _ _ iv _ (by rw[List.length_set];exact hiv) (by simp[hnm]) ?_).symm;rw[getElem!_pos _ iv (by rw[List.length_set];exact hiv),List.getElem_set,if_neg (fun e=>hne e.symm)];have:s.vols[iv]=v:=by rw[<-hv,getElem!_pos s.vols iv hiv]
   rw[this];simp[hnm]
  rw[e];exact List.filter_sublist
 have n3:=nodup_filter { s with vols:=(s.vols.set iv { v with dg:=w.heap.size }).set io { o with dg:=v.dg,data:=v.data } } none _ hsub n2 hB2 (by simp);have hfl:=revert_foot h hiv hio hv ho (t:=t);cases lg with
 | none=>exact n3
 | some b=>
  have hb:=hlg b rfl;have hrb:=hlt _ s.foot_rb;have n4:(s.rb :: ([]++(RSt.without { s with vols:=s.vols.set io { o with dg:=v.dg,data:=v.data } } t s.vols.length).flatMap RVol.foot)).Nodup:=n3;show (s.rb :: ([b]++(RSt.without { s with vols:=s.vols.set io { o with dg:=v.dg,data:=v.data } } t s.vols.length).flatMap RVol.foot)).Nodup;simp only[List.nil_append,List.cons_append,List.nodup_cons,List.mem_cons,not_or] at n4 ⊢;exact⟨⟨by omega,n4.1⟩,fun hm=>by have:=hlt _ (hfl b hm);omega,n4.2⟩
theorem refRevert_ok(s:RSt)(t:ByteArray)(iv io:Nat)(v o:RVol)(w:World)(h:RefAt w s)(hnd:s.foot.Nodup)(hiv:iv < s.vols.length)(hio:io < s.vols.length)(hne:iv≠io)(hv:s.vols[iv]! = v)(ho:s.vols[io]! = o)(ha:s.at? t=some v)(hof:v.of_≠⟨#[]⟩)(hl:v.lost=false)(hp:s.pics v.of_ s.vols.length<=1)(hao:s.at? v.of_=some o)
 (hnm:v.name=t) :
 Calls Tryz.prog 60 #[.pointer (some ⟨s.rb,0,none⟩),.string t] w fun e w'=>e=.returned (.int .i64 0) /\
  ∃lg,RAfter w s w' { s with lg:=lg,vols:=RSt.without { s with vols:=s.vols.set io { o with dg:=v.dg,data:=v.data } } t s.vols.length }:=by
 have hF:=refFind_calls s t w h;have hF2:=refFind_calls s v.of_ w h;have hP:=refPictures_calls s v.of_ w h;rw[ha] at hF;rw[hao] at hF2;have hmv:v∈s.vols:=by rw[<-hv];exact getRv hiv
 have hmo:o∈s.vols:=by rw[<-ho];exact getRv hio
 have hVv:=h.vols _ hmv;have hVo:=h.vols _ hmo;obtain⟨dc,bc,kc,hvA,hvd,_⟩:=hVv.ex;obtain⟨dco,bco,kco,hvo,o2,o3,o4,o5⟩:=hVo.ex;have e1:w.cell? ⟨v.vb,1,none⟩=some (.string v.of_):=hvA.cell? 1;have e2:w.cell? ⟨v.vb,2,none⟩=some (.slice (some ⟨v.dg,0,none⟩) v.data.length dc):=hvA.cell? 2;have e5:w.cell? ⟨v.vb,5,none⟩=some (.bool false):=by rw[<-hl];exact hvA.cell? 5
 have g2:w.cell? ⟨o.vb,2,none⟩=some (.slice (some ⟨o.dg,0,none⟩) o.data.length dco):=hvo.cell? 2;have z2:w.frozen? ⟨o.vb,2,none⟩=false:=hvo.frozen 2;have hbq:=empty_bytes hof;obtain⟨t1,t2,t3⟩:=hVo.types;have S1:Same [o.vb] w (w.setCell ⟨o.vb,2,none⟩ (.slice (some ⟨v.dg,0,none⟩) v.data.length dc)):=(Same.refl _ _).set _ _ _ (by simp);have hdg:v.dg≠o.vb:=fun e=>rfoot_apart hnd hiv hio hne (k:=v.dg) (by rw[hv];simp[RVol.foot]) (by rw[ho,e];simp[RVol.foot])
 have V1:RVolAt (w.setCell ⟨o.vb,2,none⟩ (.slice (some ⟨v.dg,0,none⟩) v.data.length dc)) { o with dg:=v.dg,data:=v.data }:=by
  refine⟨⟨dc,bco,kco,hvo.set_same 2 _,hvd.same S1 (by simpa using hdg),o3.same S1 (by simpa using fun e=>t2 e.symm),o4,fun g hg=>(o5 g hg).same S1 ?_⟩,hVv.data,hVo.blocks,hVo.kept⟩;simp;intro e;rw[e] at hg;obtain⟨cs,q,_⟩:=(o5 _ hg).ex;exact absurd (q.inj hvo).1 (by decide)
 have R1:=ref_set h hnd io hio { o with dg:=v.dg,data:=v.data } (by rw[ho]) V1 S1 (by rw[ho];simp[RVol.foot]);have hD:=refDrop_calls _ t _ R1;have hres:∀w',Same [s.rb] (w.setCell ⟨o.vb,2,none⟩ (.slice (some ⟨v.dg,0,none⟩) v.data.length dc)) w'->∀lg,RefAt w' { s with lg:=lg,vols:=RSt.without { s with vols:=s.vols.set io { o with dg:=v.dg,data:=v.data } } t s.vols.length } ->
  (∀b,lg=some b->w.heap.size<=b)->RAfter w s w' { s with lg:=lg,vols:=RSt.without { s with vols:=s.vols.set io { o with dg:=v.dg,data:=v.data } } t s.vols.length }:=by
  intro w' hS lg hR hg;refine⟨hR,revert_nodup h hnd hiv hio hne hv ho hnm lg hg,?_,?_,rfl,rfl⟩
  ·refine (S1.mono (T:=s.foot) ?_).step hS ?_
   ·intro k hk _;simp at hk;rw[hk];exact s.foot_vol hmo (by simp[RVol.foot])
   ·intro k hk _;simp at hk;rw[hk];exact s.foot_rb
  ·intro k hk;rcases RSt.foot_cases hk with e|e|⟨x,hx,hkx⟩
   ·exact Or.inl (by have:k=s.rb:=e;rw[this];exact s.foot_rb)
   ·exact Or.inr (hg k e)
   ·exact Or.inl (revert_foot h hiv hio hv ho k (List.mem_flatMap.2 ⟨x,hx,hkx⟩))
 generalize hpic:s.pics v.of_ s.vols.length=k at *;have hk:(k:Int)<=1:=by omega
 have hD':Calls Tryz.prog 101 #[.pointer (some ⟨s.rb,0,none⟩),.string t] (w.setCell ⟨o.vb,2,none⟩ (.slice (some ⟨v.dg,0,none⟩) v.data.length dc)) fun e w'=>e=.returned (.tuple #[])/\∃lg,RAfter w s w' { s with lg:=lg,vols:=RSt.without { s with vols:=s.vols.set io { o with dg:=v.dg,data:=v.data } } t s.vols.length }:=by
  refine hD.mono ?_;rintro e w' ⟨he,hS,lg,hR,hg⟩;have hlen:(s.vols.set io { o with dg:=v.dg,data:=v.data }).length=s.vols.length:=by rw[List.length_set]
  refine⟨he,lg,hres w' hS lg ?_ (fun b hb=>by have:=hg b hb;simpa using this)⟩;have hR':RefAt w' { s with lg:=lg,vols:=RSt.without { s with vols:=s.vols.set io { o with dg:=v.dg,data:=v.data } } t (s.vols.set io { o with dg:=v.dg,data:=v.data }).length }:=hR;rw[hlen] at hR';exact hR'
 clear hres hD R1 V1 S1 hVo hVv hvA hvo hvd o2 o3 o4 o5 h hnd hmv hmo
 go_enter Tryz.func60,Tryz.ntmps60
 go_wp2_with (first|(go_at_call 79;refine hF.mono ?_;clear hF;rintro e wz ⟨rfl,rfl⟩)|(go_at_call 79;refine hF2.mono ?_;rintro e wz ⟨rfl,rfl⟩)|(go_at_call 99;refine hP.mono ?_;rintro e wz ⟨rfl,rfl⟩)|(go_at_call 101;refine hD'.mono ?_;rintro e wy ⟨rfl,lg,hR⟩))
 go_ret
 exact⟨rfl,lg,hR⟩
theorem RAfter.trans{w0 w w':World}{s s1 s2:RSt}(h:RAfter w0 s w s1)(k:RAfter w s1 w' s2):RAfter w0 s w' s2:=by
 refine⟨k.ref,k.nodup,h.same.step k.same ?_,?_,k.rb.trans h.rb,k.n.trans h.n⟩
 ·intro x hx hl;rcases h.foot x hx with e|e
  ·exact e
  ·omega
 ·intro x hx;rcases k.foot x hx with e|e
  ·exact h.foot x e
  ·exact Or.inr (Nat.le_trans h.same.size e)
def rkeep(k:Nat)(x:RVol):List Nat×Bool:=if k∈x.kept then (x.kept,x.lost) else if x.kept.length < x.blocks.length then (x.kept++[k],x.lost) else ([],true)
structure RSameK(v v1:RVol):Prop where
 vb:v1.vb=v.vb
 dg:v1.dg=v.dg
 bg:v1.bg=v.bg
 name:v1.name=v.name
 of_:v1.of_=v.of_
 data:v1.data=v.data
 blocks:v1.blocks=v.blocks
theorem RSameK.refl(v:RVol):RSameK v v:=⟨rfl,rfl,rfl,rfl,rfl,rfl,rfl⟩
theorem setR_self{l:List RVol}{i:Nat}{v:RVol}(hi:i < l.length)(hv:l[i]! = v):l.set i v=l:=by
 rw[<-hv,getElem!_pos l i hi,List.set_getElem_self]
theorem refKeep_at(s:RSt)(i k:Nat)(v:RVol)(w:World)(h:RefAt w s)(hnd:s.foot.Nodup)(hi:i < s.vols.length)(hv:s.vols[i]! = v)(hl:v.lost=false) :
 Calls Tryz.prog 92 #[.pointer (some ⟨v.vb,0,none⟩),.int .i64 k] w fun e w'=>∃v1,e=.returned (.bool (!v1.lost))/\RAfter w s w' { s with vols:=s.vols.set i v1 }/\RSameK v v1/\(v1.kept,v1.lost)=rkeep k v:=by
 have hm:v∈s.vols:=by rw[<-hv];exact getRv hi
 have hV:=h.vols v hm;have hlt:=h.foot_lt;have hvf:v.foot.Nodup:=(flat_apart RVol.foot s.vols (RSt.foot_parts hnd).2.2.2).1 v hm;by_cases hk:k∈v.kept
 ·refine (refKeep_has v k w hV hk).mono ?_;rintro e w' ⟨he,rfl⟩;refine⟨v,by rw[hl];exact he,?_,RSameK.refl v,by rw[rkeep,if_pos hk]⟩;rw[setR_self hi hv];exact RAfter.still h hnd (Same.refl _ _)
 ·by_cases hf:v.kept.length < v.blocks.length
  ·have hbg:v.kg≠some v.bg:=fun e=>by
    simp only[RVol.foot,List.nodup_cons,List.mem_cons,not_or] at hvf;exact hvf.2.2.1 (by simp[e])
   refine (refKeep_more v k w hV hk hf hbg).mono ?_;rintro e w' ⟨he,g,hR,hS,hg⟩;have hsub:∀x∈v.vb :: v.kg.toList,x∈(s.vols[i]!).foot:=by
    intro x hx;rw[hv];simp only[RVol.foot,List.mem_cons] at hx ⊢;exact hx.imp id fun q=>Or.inr (Or.inr q)
   have hff:∀x∈RVol.foot { v with kg:=some g,kept:=v.kept++[k] },x∈v.foot\/w.heap.size<=x:=by
    intro x hx;simp only[RVol.foot,List.mem_cons,Option.mem_toList] at hx ⊢;rcases hx with q|q|q|q
    ·exact Or.inl (Or.inl q)
    ·exact Or.inl (Or.inr (Or.inl q))
    ·exact Or.inl (Or.inr (Or.inr (Or.inl q)))
    ·have q':g=x:=by simpa using q
     rcases hg with hg|hg
     ·exact Or.inl (Or.inr (Or.inr (Or.inr (by rw[hg,q']))))
     ·exact Or.inr (by omega)
   refine⟨{ v with kg:=some g,kept:=v.kept++[k] },by simpa [hl] using he,⟨ref_set h hnd i hi _ (by rw[hv]) hR hS hsub,nodup_setR hnd i hi _ ?_ ?_,hS.mono ?_,?_,rfl,rfl⟩,⟨rfl,rfl,rfl,rfl,rfl,rfl,rfl⟩,by rw[rkeep,if_neg hk,if_pos hf]⟩
   ·have hvl:=hV.foot_lt;simp only[RVol.foot,List.nodup_cons,List.mem_cons,not_or] at hvf ⊢;have hgn:∀x∈[v.vb,v.dg,v.bg],x≠g:=by
     intro x hx e;rcases hg with hg|hg
     ·rw[hg] at hvf;simp at hvf hx;rcases hx with q|q|q
      ·exact hvf.1.2.2 (by rw[<-q];exact e)
      ·exact hvf.2.1.2 (by rw[<-q];exact e)
      ·exact hvf.2.2 (by rw[<-q];exact e)
     ·have:x∈v.foot:=by simp[RVol.foot] at hx ⊢;rcases hx with q|q|q<;>simp[q]
      have:=hvl x this;omega
    simp only[Option.toList_some,List.mem_singleton,List.not_mem_nil,not_false_eq_true,List.nodup_nil,and_true];exact⟨⟨hvf.1.1,hvf.1.2.1,hgn v.vb (by simp)⟩,⟨hvf.2.1.1,hgn v.dg (by simp)⟩,hgn v.bg (by simp),by simp⟩
   ·intro x hx;rw[hv];exact (hff x hx).imp id fun q hm=>by have:=hlt x hm;omega
   ·intro x hx _;exact s.foot_vol hm (by have:=hsub x hx;rw[hv] at this;exact this)
   ·exact foot_setR i hi _ fun x hx=>by rw[hv];exact hff x hx
  ·refine (refKeep_lost v k w hV hk (by omega)).mono ?_;rintro e w' ⟨he,hR,hS⟩;have hsub:∀x∈[v.vb],x∈(s.vols[i]!).foot:=by
    intro x hx;rw[hv];simp at hx;rw[hx];simp[RVol.foot]
   have hff:∀x∈RVol.foot { v with kg:=none,kept:=[],lost:=true },x∈v.foot:=by
    intro x hx;simp only[RVol.foot,List.mem_cons,Option.toList_none,List.not_mem_nil,or_false] at hx ⊢;rcases hx with q|q|q
    ·exact Or.inl q
    ·exact Or.inr (Or.inl q)
    ·exact Or.inr (Or.inr (Or.inl q))
   refine⟨{ v with kg:=none,kept:=[],lost:=true },by simpa using he,⟨ref_set h hnd i hi _ (by rw[hv]) hR hS hsub,nodup_setR hnd i hi _ ?_ ?_,hS.mono ?_,?_,rfl,rfl⟩,⟨rfl,rfl,rfl,rfl,rfl,rfl,rfl⟩,by rw[rkeep,if_neg hk,if_neg hf]⟩
   ·simp only[RVol.foot,List.nodup_cons,List.mem_cons,not_or] at hvf ⊢;simp only[Option.toList_none,List.not_mem_nil,not_false_eq_true,List.nodup_nil,and_true];exact⟨⟨hvf.1.1,hvf.1.2.1⟩,hvf.2.1.1⟩
   ·intro x hx;rw[hv];exact Or.inl (hff x hx)
   ·intro x hx _;exact s.foot_vol hm (by have:=hsub x hx;rw[hv] at this;exact this)
   ·exact foot_setR i hi _ fun x hx=>by rw[hv];exact Or.inl (hff x hx)
theorem TextsAt.set{w:World}{g cap:Nat}{l:List ByteArray}(h:TextsAt w g cap l)(k:Nat)(hk:k < l.length)(y:ByteArray):TextsAt (w.setCell ⟨g,k,none⟩ (.string y)) g cap (l.set k y):=by
 obtain⟨cs,h1,h2,h3,h4,h5⟩:=h.ex;refine⟨cs.set k (.string y),h1.set_same k _,by rw[List.length_set];exact h2,?_,by rw[List.length_set];exact h4,h5⟩;rw[List.length_set,List.take_set,h3,List.map_set]
theorem ref_data{w:World}{s:RSt}{i k:Nat}{v:RVol}(h:RefAt w s)(hnd:s.foot.Nodup)(hi:i < s.vols.length)(hv:s.vols[i]! = v)(hk:k < v.data.length)(y:ByteArray) :
 RAfter w s (w.setCell ⟨v.dg,k,none⟩ (.string y)) { s with vols:=s.vols.set i { v with data:=v.data.set k y } }:=by
 have hm:v∈s.vols:=by rw[<-hv];exact getRv hi
 have hV:=h.vols v hm;have hvf:v.foot.Nodup:=(flat_apart RVol.foot s.vols (RSt.foot_parts hnd).2.2.2).1 v hm;have S1:Same [v.dg] w (w.setCell ⟨v.dg,k,none⟩ (.string y)):=(Same.refl _ _).set _ _ _ (by simp);obtain⟨dc,bc,kc,a1,a2,a3,a4,a5⟩:=hV.ex;have hvf':=hvf;simp only[RVol.foot,List.nodup_cons,List.mem_cons,not_or] at hvf';have V1:RVolAt (w.setCell ⟨v.dg,k,none⟩ (.string y)) { v with data:=v.data.set k y }:=by
  refine⟨⟨dc,bc,kc,?_,a2.set k hk y,a3.same S1 (by simpa using fun e=>hvf'.2.1.1 e.symm),a4,fun g hg=>(a5 g hg).same S1 ?_⟩,by rw[List.length_set];exact hV.data,hV.blocks,hV.kept⟩
  ·have:=S1.at a1 (by simpa using hvf'.1.1);simpa using this
  ·simp;intro e;have hg':v.kg=some g:=hg;exact hvf'.2.1.2 (by rw[hg',e];simp)
 refine⟨ref_set h hnd i hi _ (by rw[hv]) V1 S1 (by rw[hv];simp[RVol.foot]),nodup_setR hnd i hi _ hvf (fun x hx=>by rw[hv];exact Or.inl hx),S1.mono ?_,foot_setR i hi _ fun x hx=>by rw[hv];exact Or.inl hx,rfl,rfl⟩;intro x hx _;simp at hx;rw[hx];exact s.foot_vol hm (by simp[RVol.foot])
theorem set_getR{l:List RVol}{i:Nat}{v:RVol}(hi:i < l.length):(l.set i v)[i]! = v:=by
 rw[getElem!_pos _ i (by rw[List.length_set];exact hi),List.getElem_set,if_pos rfl]
theorem RefAt.cells{w:World}{s:RSt}(h:RefAt w s){v:RVol}(hv:v∈s.vols):w.cell? ⟨v.vb,1,none⟩=some (.string v.of_)/\(∃dc,w.cell? ⟨v.vb,2,none⟩=some (.slice (some ⟨v.dg,0,none⟩) v.data.length dc))/\w.cell? ⟨v.vb,5,none⟩=some (.bool v.lost):=by
 obtain⟨dc,bc,kc,a1,_⟩:=(h.vols v hv).ex;exact⟨a1.cell? 1,⟨dc,a1.cell? 2⟩,a1.cell? 5⟩
theorem refWrite_pic (s : RSt) (t y : ByteArray) (i k : Nat) (v : RVol) (w : World) (h : RefAt w s) (hnd : s.foot.Nodup) (hi : i < s.vols.length) (hv : s.vols[i]! = v) (ha : s.at? t = some v) (hl : v.lost = false) (hk : k < v.data.length) (hy : v.data[k]! ≠ y) (hof : v.of_ ≠ ⟨#[]⟩) :
    Calls Tryz.prog 51 #[.pointer (some ⟨s.rb, 0, none⟩), .string t, .int .i64 k, .string y] w fun e w' => ∃ v1, RSameK v v1 ∧ (v1.kept, v1.lost) = rkeep k v ∧
      ((v1.lost = true ∧ e = .returned (.int .i64 10) ∧ RAfter w s w' { s with vols := s.vols.set i v1 }) ∨
       (v1.lost = false ∧ e = .returned (.int .i64 0) ∧ RAfter w s w' { s with vols := s.vols.set i { v1 with data := v1.data.set k y } })) := by
  have hA := refAt_some s t k v w h ha hl hk
  have hK := refKeep_at s i k v w h hnd hi hv hl
  have hm : v ∈ s.vols := by rw [← hv]; exact getRv hi
  obtain ⟨dc, bc, kc, hvA, hdat, _⟩ := (h.vols v hm).ex
  have hd := (h.vols v hm).data
  have e1 : w.cell? ⟨v.vb, 1, none⟩ = some (.string v.of_) := hvA.cell? 1
  have e2 : w.cell? ⟨v.vb, 2, none⟩ = some (.slice (some ⟨v.dg, 0, none⟩) v.data.length dc) := hvA.cell? 2
  have ek := hdat.cell k hk
  have hbq := empty_bytes hof
  have hyq : (v.data[k]!.toList == y.toList) = false := by rw [bytes_beq]; exact decide_eq_false hy
  generalize v.data[k]! = z at *
  have l1 : (k : Int) < (v.data.length : Int) := by omega
  have hnot := runNotR
  clear hvA hdat
  go_enter Tryz.func51, Tryz.ntmps51
  go_wp2_with (first | (go_at_call 91; refine hA.mono ?_; rintro e wz ⟨rfl, rfl⟩) | (go_at_call 92; refine hK.mono ?_; rintro e w1 ⟨v1, rfl, hR, hS1, hkr⟩; cases hlo : v1.lost))
  · have hi1 : i < (s.vols.set i v1).length := by rw [List.length_set]; exact hi
    have hg1 : (s.vols.set i v1)[i]! = v1 := set_getR hi
    have hm1 : v1 ∈ s.vols.set i v1 := by have := getRv hi1; rw [hg1] at this; exact this
    obtain ⟨cap1, hp1, q1, q2⟩ := hR.ref.pool
    have c1 : w1.cell? ⟨s.rb, 1, none⟩ = some (.slice (s.lg.map fun b => ⟨b, 0, none⟩) s.vols.length cap1) := by
      have := hp1.cell? 1
      rw [show (RSt.vols { s with vols := s.vols.set i v1 }).length = s.vols.length from List.length_set] at this
      exact this
    obtain ⟨dc1, bc1, kc1, a1, a2, _⟩ := (hR.ref.vols v1 hm1).ex
    have f1 : w1.cell? ⟨v.vb, 1, none⟩ = some (.string v.of_) := by rw [← hS1.vb, ← hS1.of_]; exact a1.cell? 1
    have f2 : w1.cell? ⟨v.vb, 2, none⟩ = some (.slice (some ⟨v.dg, 0, none⟩) v.data.length dc1) := by rw [← hS1.vb, ← hS1.dg, ← hS1.data]; exact a1.cell? 2
    have hk1 : k < v1.data.length := by rw [hS1.data]; exact hk
    have hD := ref_data hR.ref hR.nodup hi1 hg1 hk1 y
    have hfin : RAfter wz s (w1.setCell ⟨v.dg, k, none⟩ (.string y)) { s with vols := s.vols.set i { v1 with data := v1.data.set k y } } := by
      have e : w1.setCell ⟨v.dg, k, none⟩ (.string y) = w1.setCell ⟨v1.dg, k, none⟩ (.string y) := by rw [hS1.dg]
      rw [e]
      have q : (s.vols.set i v1).set i { v1 with data := v1.data.set k y } = s.vols.set i { v1 with data := v1.data.set k y } := List.set_set ..
      have := hR.trans hD
      rw [← q]
      exact this
    obtain ⟨tcs, tA, _⟩ := a2.ex
    have f3 : w1.cell? ⟨v.dg, k, none⟩ = some (.string v1.data[k]!) := by rw [← hS1.dg]; exact a2.cell k hk1
    have f4 : w1.frozen? ⟨v.dg, k, none⟩ = false := by rw [← hS1.dg]; exact tA.frozen k
    generalize v1.data[k]! = z1 at *
    have hfew : s.vols.length ≤ 20 := by have := hR.ref.few; rw [show (RSt.vols { s with vols := s.vols.set i v1 }).length = s.vols.length from List.length_set] at this; exact this
    clear hD a1 a2 tA hp1 hR q1 q2 hm1 e1 e2 ek
    go_loopw [12] (fun i wr => i = .int .i64 0 ∧ wr = w1) (fun i _ => 0)
    case atStart => exact ⟨rfl, rfl⟩
    case round =>
      obtain ⟨rfl, hwr⟩ := hrel
      subst hwr
      go_wp2
      all_goals
        go_ret
        exact ⟨v1, hS1, hkr, Or.inr ⟨hlo, rfl, hfin⟩⟩
  · go_ret
    exact ⟨v1, hS1, hkr, Or.inl ⟨hlo, rfl, hR⟩⟩
structure RWrote(a b:List RVol)(iu k:Nat)(t y:ByteArray):Prop where
 len:b.length=a.length
 same:∀j,j < a.length->(b[j]!).name=(a[j]!).name/\(b[j]!).of_=(a[j]!).of_/\(b[j]!).blocks=(a[j]!).blocks
 data:∀j,j < a.length->(b[j]!).data=if j=iu then (a[j]!).data.set k y else (a[j]!).data
 kept:∀j,j < a.length->((b[j]!).kept,(b[j]!).lost)=if (a[j]!).of_=t/\(a[j]!).lost=false then rkeep k (a[j]!) else ((a[j]!).kept,(a[j]!).lost)
structure KeptUp(a b:List RVol)(t:ByteArray)(k j:Nat):Prop where
 len:b.length=a.length
 same:∀m,m < a.length->RSameK (a[m]!) (b[m]!)
 did:∀m,m < j->m < a.length->((b[m]!).kept,(b[m]!).lost)=if (a[m]!).of_=t/\(a[m]!).lost=false then rkeep k (a[m]!) else ((a[m]!).kept,(a[m]!).lost)
 rest:∀m,j<=m->m < a.length->b[m]! = a[m]!
theorem KeptUp.start(a:List RVol)(t:ByteArray)(k:Nat):KeptUp a a t k 0:=⟨rfl,fun m _=>RSameK.refl _,fun m hm=>by omega,fun m _ _=>rfl⟩
theorem KeptUp.skip{a b:List RVol}{t:ByteArray}{k j:Nat}(h:KeptUp a b t k j)(hn:j < a.length->¬((a[j]!).of_=t/\(a[j]!).lost=false)):KeptUp a b t k (j+1):=by
 refine⟨h.len,h.same,fun m hm hl=>?_,fun m hm hl=>h.rest m (by omega) hl⟩;by_cases e:m < j
 ·exact h.did m e hl
 ·have e':m=j:=by omega
  subst e';rw[if_neg (hn hl),h.rest m (Nat.le_refl _) hl]
theorem KeptUp.step{a b:List RVol}{t:ByteArray}{k j:Nat}(h:KeptUp a b t k j)(hj:j < a.length)(v1:RVol)(hs:RSameK (a[j]!) v1)(hk:(v1.kept,v1.lost)=rkeep k (a[j]!))(hy:(a[j]!).of_=t/\(a[j]!).lost=false):KeptUp a (b.set j v1) t k (j+1):=by
 have hjb:j < b.length:=by rw[h.len];exact hj
 have hg:∀m,m < a.length->(b.set j v1)[m]! = if m=j then v1 else b[m]!:=fun m hm=>by
  rw[getElem!_pos _ m (by rw[List.length_set,h.len];exact hm),List.getElem_set];by_cases e:j=m
  ·rw[if_pos e,if_pos e.symm]
  ·rw[if_neg e,if_neg (fun q=>e q.symm),getElem!_pos b m (by rw[h.len];exact hm)]
 refine⟨by rw[List.length_set];exact h.len,fun m hm=>?_,fun m hm hl=>?_,fun m hm hl=>?_⟩
 ·rw[hg m hm];by_cases e:m=j
  ·rw[if_pos e,e];exact hs
  ·rw[if_neg e];exact h.same m hm
 ·rw[hg m hl];by_cases e:m=j
  ·rw[if_pos e,e,if_pos hy];exact hk
  ·rw[if_neg e];exact h.did m (by omega) hl
 ·rw[hg m hl,if_neg (by omega)];exact h.rest m (by omega) hl
theorem KeptUp.done{a b:List RVol}{t y:ByteArray}{k iu:Nat}(h:KeptUp a b t k a.length)(hi:iu < a.length):RWrote a (b.set iu { (b[iu]!) with data:=(b[iu]!).data.set k y }) iu k t y:=by
 have hg:∀m,m < a.length->(b.set iu { (b[iu]!) with data:=(b[iu]!).data.set k y })[m]! = if m=iu then { (b[iu]!) with data:=(b[iu]!).data.set k y } else b[m]!:=fun m hm=>by
  rw[getElem!_pos _ m (by rw[List.length_set,h.len];exact hm),List.getElem_set];by_cases e:iu=m
  ·rw[if_pos e,if_pos e.symm]
  ·rw[if_neg e,if_neg (fun q=>e q.symm),getElem!_pos b m (by rw[h.len];exact hm)]
 refine⟨by rw[List.length_set];exact h.len,fun m hm=>?_,fun m hm=>?_,fun m hm=>?_⟩
 ·rw[hg m hm];have hs:=h.same m hm;by_cases e:m=iu
  ·rw[if_pos e];subst e;exact⟨hs.name,hs.of_,hs.blocks⟩
  ·rw[if_neg e];exact⟨hs.name,hs.of_,hs.blocks⟩
 ·rw[hg m hm];have hs:=h.same m hm;by_cases e:m=iu
  ·rw[if_pos e,if_pos e];subst e;show (b[m]!).data.set k y=_;rw[hs.data]
  ·rw[if_neg e,if_neg e];exact hs.data
 ·rw[hg m hm];by_cases e:m=iu
  ·rw[if_pos e];subst e;exact h.did m hm hm
  ·rw[if_neg e];exact h.did m hm hm
theorem refWrite_vol(s:RSt)(t y:ByteArray)(iu k:Nat)(v:RVol)(w:World)(h:RefAt w s)(hnd:s.foot.Nodup)(hi:iu < s.vols.length)(hv:s.vols[iu]! = v)(ha:s.at? t=some v)(hl:v.lost=false)(hk:k < v.data.length)(hy:v.data[k]!≠y)(hof:v.of_=⟨#[]⟩) :
 Calls Tryz.prog 51 #[.pointer (some ⟨s.rb,0,none⟩),.string t,.int .i64 k,.string y] w fun e w'=>e=.returned (.int .i64 0)/\∃vs,RAfter w s w' { s with vols:=vs }/\RWrote s.vols vs iu k t y:=by
 have hA:=refAt_some s t k v w h ha hl hk;have hm:v∈s.vols:=by rw[<-hv];exact getRv hi
 obtain⟨dc,bc,kc,hvA,hdat,_⟩:=(h.vols v hm).ex;have hd:=(h.vols v hm).data;have e1:w.cell? ⟨v.vb,1,none⟩=some (.string ⟨#[]⟩):=by rw[<-hof];exact hvA.cell? 1
 have e2:w.cell? ⟨v.vb,2,none⟩=some (.slice (some ⟨v.dg,0,none⟩) v.data.length dc):=hvA.cell? 2;have ek:=hdat.cell k hk;have hyq:(v.data[k]!.toList == y.toList)=false:=by rw[bytes_beq];exact decide_eq_false hy
 generalize v.data[k]! = z at *;have l1:(k:Int) < (v.data.length:Int):=by omega
 have hnot:=runNotR;have hfew:=h.few;have H0:Hid (RAfter w s w { s with vols:=s.vols }):=RAfter.still h hnd (Same.refl _ _);clear hvA hdat
 go_enter Tryz.func51,Tryz.ntmps51
 go_wp2_with (first|(go_at_call 91;refine hA.mono ?_;rintro e wz ⟨rfl,rfl⟩))
 clear e1 e2 ek hA h
 go_loopw [12] (fun i wr=>∃j:Nat,∃vs:List RVol,j<=s.vols.length/\i=.int .i64 j/\Hid (KeptUp s.vols vs t k j)/\Hid (RAfter wz s wr { s with vols:=vs })) (fun i _=>s.vols.length - (intOf i).toNat)
 case atStart=>exact⟨0,s.vols,Nat.zero_le _,rfl,KeptUp.start _ _ _,H0⟩
 case round=>
  obtain⟨j,vs,hj,rfl,HK,HR⟩:=hrel;have hlen:vs.length=s.vols.length:=HK.out.len;have hivs:iu < vs.length:=by omega
  have hsu:RSameK v (vs[iu]!):=by have:=HK.out.same iu hi;rw[hv] at this;exact this
  have hmu:=getRv hivs;obtain⟨cap1,hp1,q1,q2⟩:=HR.out.ref.pool;have c1:wr.cell? ⟨s.rb,1,none⟩=some (.slice (s.lg.map fun b=>⟨b,0,none⟩) s.vols.length cap1):=by
   have:=hp1.cell? 1;rw[show (RSt.vols { s with vols:=vs }).length=s.vols.length from hlen] at this;exact this
  obtain⟨dc1,bc1,kc1,a1,a2,_⟩:=(HR.out.ref.vols _ hmu).ex;have f1:wr.cell? ⟨v.vb,1,none⟩=some (.string ⟨#[]⟩):=by rw[<-hsu.vb,<-hof,<-hsu.of_];exact a1.cell? 1
  by_cases hjl:j < s.vols.length
  ·have hjv:j < vs.length:=by omega
   have hxe:vs[j]! = s.vols[j]!:=HK.out.rest j (Nat.le_refl _) hjl;obtain⟨b,hb,g1,hmx⟩:=HR.out.ref.cell j hjv;have hb':(s.lg.map fun b=>(⟨b,0,none⟩:Addr))=some ⟨b,0,none⟩:=by have:s.lg=some b:=hb;rw[this];rfl
   rw[hb'] at c1;have g1':wr.cell? ⟨b,j,none⟩=some (.pointer (some ⟨(vs[j]!).vb,0,none⟩)):=g1;obtain⟨x1,_,x5⟩:=HR.out.ref.cells hmx;have HX1:Hid (vs[j]! = s.vols[j]!):=hxe;have x1':wr.cell? ⟨(vs[j]!).vb,1,none⟩=some (.string (vs[j]!).of_):=x1;have x5':wr.cell? ⟨(vs[j]!).vb,5,none⟩=some (.bool (vs[j]!).lost):=x5;have HS:Hid (KeptUp s.vols vs t k j->(¬((vs[j]!).of_=t/\(vs[j]!).lost=false))->KeptUp s.vols vs t k (j+1)):=fun q hn=>q.skip fun _=>by rw[<-hxe];exact hn
   have HT:Hid (∀v1,RSameK (vs[j]!) v1->(v1.kept,v1.lost)=rkeep k (vs[j]!)->((vs[j]!).of_=t/\(vs[j]!).lost=false)->KeptUp s.vols (vs.set j v1) t k (j+1)):=fun v1 q1 q2 q3=>HK.out.step hjl v1 (by rw[<-hxe];exact q1) (by rw[<-hxe];exact q2) (by rw[<-hxe];exact q3)
   have HC:Hid ((vs[j]!).lost=false->Calls Tryz.prog 92 #[.pointer (some ⟨(vs[j]!).vb,0,none⟩),.int .i64 k] wr fun e w'=>∃v1,e=.returned (.bool (!v1.lost))/\RAfter wr { s with vols:=vs } w' { s with vols:=vs.set j v1 }/\RSameK (vs[j]!) v1/\(v1.kept,v1.lost)=rkeep k (vs[j]!)):=fun q=>refKeep_at { s with vols:=vs } j k (vs[j]!) wr HR.out.ref HR.out.nodup hjv rfl q
   generalize vs[j]! = x at *;have l3:(j:Int) < (s.vols.length:Int):=by omega
   clear a1 a2 hp1 x1 x5 g1 hmx hb' hb hxe;by_cases hof2:x.of_=t
   ·have hq1:(x.of_.toList == t.toList)=true:=by rw[hof2];simp
    have HO:Hid (x.of_=t):=hof2;clear hof2;cases hlo:x.lost with
    | false=>
     rw[hlo] at x5';have hC:=HC.out hlo;have HL:Hid (x.lost=false):=hlo;clear HC hlo
     go_wp2_with (go_at_call 92;refine hC.mono ?_;rintro e w1 ⟨v1,rfl,hR1,hs1,hk1⟩)
     go_roundw
     case rel=>exact⟨j+1,vs.set j v1,by omega,by go_num,HT.out v1 hs1 hk1 ⟨HO.out,HL.out⟩,HR.out.trans hR1⟩
     case measure=>simp[intOf];omega
    | true=>
     rw[hlo] at x5';have HL:Hid (x.lost=true):=hlo;clear HC hlo HT
     go_wp2
     go_roundw
     case rel=>exact⟨j+1,vs,by omega,by go_num,HS.out HK.out (fun q=>by have:=q.2;rw[HL.out] at this;cases this),HR.out⟩
     case measure=>simp[intOf];omega
   ·have hq1:(x.of_.toList == t.toList)=false:=by rw[bytes_beq];exact decide_eq_false hof2
    have HO:Hid (¬x.of_=t):=hof2;clear hof2 HC HT
    go_wp2
    go_roundw
    case rel=>exact⟨j+1,vs,by omega,by go_num,HS.out HK.out (fun q=>HO.out q.1),HR.out⟩
    case measure=>simp[intOf];omega
  ·have ej:j=s.vols.length:=by omega
   subst ej;have hku:k < (vs[iu]!).data.length:=by rw[hsu.data];exact hk
   have hD:=ref_data HR.out.ref HR.out.nodup hivs rfl hku y;have HF:Hid (RAfter wz s (wr.setCell ⟨v.dg,k,none⟩ (.string y)) { s with vols:=vs.set iu { (vs[iu]!) with data:=(vs[iu]!).data.set k y } }):=by
    show RAfter _ _ _ _;have e:wr.setCell ⟨v.dg,k,none⟩ (.string y)=wr.setCell ⟨(vs[iu]!).dg,k,none⟩ (.string y):=by rw[hsu.dg]
    rw[e];exact HR.out.trans hD
   have HW:Hid (RWrote s.vols (vs.set iu { (vs[iu]!) with data:=(vs[iu]!).data.set k y }) iu k t y):=HK.out.done hi;have f2:wr.cell? ⟨v.vb,2,none⟩=some (.slice (some ⟨v.dg,0,none⟩) v.data.length dc1):=by rw[<-hsu.vb,<-hsu.dg,<-hsu.data];exact a1.cell? 2
   obtain⟨tcs,tA,_⟩:=a2.ex;have f3:wr.cell? ⟨v.dg,k,none⟩=some (.string (vs[iu]!).data[k]!):=by rw[<-hsu.dg];exact a2.cell k hku
   have f4:wr.frozen? ⟨v.dg,k,none⟩=false:=by rw[<-hsu.dg];exact tA.frozen k
   generalize (vs[iu]!).data[k]! = z1 at *;clear hD a1 a2 tA hp1 q1 q2 hmu HK HR hku hsu
   go_wp2
   go_ret
   exact⟨rfl,_,HF.out,HW.out⟩
theorem set_get{α:Type}[Inhabited α](l:List α)(k q:Nat)(y:α)(hq:q < l.length):(l.set k y)[q]! = if q=k then y else l[q]!:=by
 rw[getElem!_pos _ q (by simpa using hq),List.getElem_set];by_cases h:k=q
 ·subst h;simp
 ·rw[if_neg h,if_neg (fun e=>h e.symm),getElem!_pos l q hq]
theorem rel_write_vol{w w':World}{s s1:St}{r:RSt}{fr:List Nat}{k iu:Nat}{u:Vol}{b:Blk}{rv:List RVol}(h:Rel s r)(hP:PoolAt w s)(hG:Good s fr)(hiu:iu < s.vols.length)(hu:s.vols[iu]! = u)(hu0:u.org=none)(hk:k < u.xs.length)(hbo:b.ok)
 (hK:Kept s s1 k (fun v=>v.org=some u.vb)) (h':PoolAt w' { s1 with bl:=s1.bl.set u.xs[k]! b }) (hG':Good { s1 with bl:=s1.bl.set u.xs[k]! b } fr) (hn:s1.n=s.n)
 (hrv:RWrote r.vols rv iu k u.name b.text):Rel { s1 with bl:=s1.bl.set u.xs[k]! b } { r with vols:=rv }:=by
 have hb:=hK.base.bl (s1.bl.set u.xs[k]! b);have hl:=h.len;refine⟨h.n.trans hn.symm,by rw[hrv.len,hl];exact hK.base.len.symm,fun j hj=>?_⟩;have hj':j < s.vols.length:=by have:j < s1.vols.length:=hj;rw[hK.base.len] at this;exact this
 have hjr:j < r.vols.length:=by omega
 have hm:=get_mem hj';have hr:=h.each j hj';obtain⟨s1',s2',s3',s4'⟩:=hb.same j hj';obtain⟨c1,c2,c3⟩:=hrv.same j hjr;have cd:=hrv.data j hjr;have ck:=hrv.kept j hjr;obtain⟨jo,hjo,e1,e2⟩:=hb.orgOf hP h' j hj';have hsz:=hb.size hP h' j hj';have hon:(St.orgOf { s1 with bl:=s1.bl.set u.xs[k]! b } (s1.vols[j]!)).name=(s.orgOf (s.vols[j]!)).name:=by
  show (St.orgOf _ (St.vols { s1 with bl:=s1.bl.set u.xs[k]! b })[j]!).name=_;rw[e1,e2];exact (hb.same jo hjo).2.1
 have hpc:(s.vols[j]!).org=some u.vb↔(r.vols[j]!).of_=u.name:=by
  rw[hr.of_];obtain⟨o1,o2,o3,o4⟩:=hP.orgOf hm;by_cases ho:(s.vols[j]!).org=none
  ·rw[if_pos ho,ho];refine⟨fun e=>by simp at e,fun e=>absurd e.symm (name_ne_nil hG (by rw[<-hu];exact get_mem hiu))⟩
  ·rw[if_neg ho,o4 ho]
   constructor
   ·intro e;have:(s.orgOf (s.vols[j]!)).vb=u.vb:=by simpa using e
    rw[hP.vb_inj o1 (by rw[<-hu];exact get_mem hiu) this]
   ·intro e;obtain⟨a,ha,ea⟩:=mem_index o1;by_cases hai:a=iu
    ·rw[<-ea,hai,hu]
    ·exact absurd (by rw[ea,hu];exact e) (names_ne hP ha hiu hai)
 have hkl:((s1.vols[j]!).kept,(s1.vols[j]!).lost)=((rv[j]!).kept,(rv[j]!).lost):=by
  rw[ck];by_cases hp:(s.vols[j]!).org=some u.vb
  ·rw[hK.did j hj' hp];unfold keepRes rkeep;rw[hr.kept,hr.lost,hr.blocks];by_cases hlo:(s.vols[j]!).lost=true
   ·rw[if_pos (Or.inr hlo),if_neg (fun e=>by have:=e.2;rw[hlo] at this;cases this)]
   ·have hlo':(s.vols[j]!).lost=false:=by simpa using hlo
    rw[if_pos (⟨hpc.1 hp,hlo'⟩:(r.vols[j]!).of_=u.name/\_)];by_cases hkk:k∈(s.vols[j]!).kept
    ·rw[if_pos (Or.inl hkk),if_pos hkk]
    ·rw[if_neg (fun e=>e.elim hkk (fun q=>by rw[hlo'] at q;cases q)),if_neg hkk]
  ·obtain⟨k1,k2⟩:=hK.rest j hj' hp;rw[if_neg (fun e=>hp (hpc.2 e.1)),k1,k2,hr.kept,hr.lost]
 have hk1:=congrArg Prod.fst hkl;have hk2:=congrArg Prod.snd hkl;simp only at hk1 hk2;have hlk:(s1.vols[j]!).lost=false->∀q,q < s.size (s.vols[j]!)->St.look { s1 with bl:=s1.bl.set u.xs[k]! b } (s1.vols[j]!) q=if j=iu/\q=k then b else s.look (s.vols[j]!) q:=fun hlo q hq=>vol_looks hP hiu hu hu0 hk hK h' hG' j hj' hlo q hq
 have hold:(s1.vols[j]!).lost=false->(s.vols[j]!).lost=false:=fun hlo=>by
  cases hc:(s.vols[j]!).lost with
  | false=>rfl
  | true=>have:=hb.lost j hj' hc;rw[show (St.vols { s1 with bl:=s1.bl.set u.xs[k]! b })[j]! = s1.vols[j]! from rfl,hlo] at this;cases this
 have hsz':St.size { s1 with bl:=s1.bl.set u.xs[k]! b } (s1.vols[j]!)=s.size (s.vols[j]!):=hsz;have s4:(s1.vols[j]!).org=(s.vols[j]!).org:=s4';have s2:(s1.vols[j]!).name=(s.vols[j]!).name:=s2';have s3:(s1.vols[j]!).xs=(s.vols[j]!).xs:=s3';show RelV _ (s1.vols[j]!) (rv[j]!);refine⟨by rw[c1,hr.name,s2],?_,?_,by rw[c3,hr.blocks,s3],hk1.symm,hk2.symm,fun hlo q hq=>?_,fun hlo q hq=>?_⟩
 ·rw[c2,hr.of_,s4,hon]
 ·rw[cd,hsz'];split
  ·rw[List.length_set];exact hr.size
  ·exact hr.size
 ·rw[hsz'] at hq;rw[hlk hlo q hq]
  split
  ·exact hbo
  ·exact hr.ok (hold hlo) q hq
 ·rw[hsz'] at hq;rw[hlk hlo q hq,cd];by_cases hji:j=iu
  ·rw[if_pos hji];rw[set_get _ _ _ _ (by rw[hr.size];exact hq)];by_cases hqk:q=k
   ·rw[if_pos hqk,if_pos ⟨hji,hqk⟩]
   ·rw[if_neg hqk,if_neg (fun e=>hqk e.2)];exact hr.data (hold hlo) q hq
  ·rw[if_neg hji,if_neg (fun e=>hji e.1)];exact hr.data (hold hlo) q hq
theorem rel_write_pic{w w':World}{s s':St}{r:RSt}{i:Nat}{v':Vol}{x':RVol}(h:Rel s r)(hP:PoolAt w s)(h':PoolAt w' s')(hi:i < s.vols.length)(hb:Base s s')(hn:s'.n=s.n)
 (hv:∀j,j < s.vols.length->s'.vols[j]! = if j=i then v' else s.vols[j]!)
 (hlook:∀j,j < s.vols.length->j≠i->(s.vols[j]!).lost=false->∀q,q < s.size (s.vols[j]!)->s'.look (s'.vols[j]!) q=s.look (s.vols[j]!) q)
 (h1:x'.name=(r.vols[i]!).name) (h2:x'.of_=(r.vols[i]!).of_) (h3:x'.data.length=(r.vols[i]!).data.length) (h4:x'.blocks=(r.vols[i]!).blocks) (h5:x'.kept=v'.kept) (h6:x'.lost=v'.lost)
 (h7:v'.lost=false->∀q,q < s.size (s.vols[i]!)->(s'.look v' q).ok/\x'.data[q]! = (s'.look v' q).text):Rel s' { r with vols:=r.vols.set i x' }:=by
 have hl:=h.len;refine⟨h.n.trans hn.symm,by rw[List.length_set,hl];exact hb.len.symm,fun j hj=>?_⟩;have hj':j < s.vols.length:=by rw[hb.len] at hj;exact hj
 have hr:=h.each j hj';obtain⟨s1,s2,s3,s4⟩:=hb.same j hj';obtain⟨jo,hjo,e1,e2⟩:=hb.orgOf hP h' j hj';have hsz:=hb.size hP h' j hj';have hon:(s'.orgOf (s'.vols[j]!)).name=(s.orgOf (s.vols[j]!)).name:=by rw[e1,e2];exact (hb.same jo hjo).2.1
 show RelV s' (s'.vols[j]!) ((r.vols.set i x')[j]!);rw[setL_get _ _ _ _ (by omega) (by omega)];by_cases hji:j=i
 ·subst hji;have ev:s'.vols[j]! = v':=by rw[hv j hj',if_pos rfl]
  rw[if_pos rfl];refine⟨by rw[h1,hr.name,s2],by rw[h2,hr.of_,s4,hon],by rw[h3,hr.size,hsz],by rw[h4,hr.blocks,s3],by rw[h5,ev],by rw[h6,ev],fun hlo q hq=>?_,fun hlo q hq=>?_⟩
  ·rw[hsz] at hq;rw[ev] at hlo ⊢;exact (h7 hlo q hq).1
  ·rw[hsz] at hq;rw[ev] at hlo ⊢;exact (h7 hlo q hq).2
 ·rw[if_neg hji];have ev:s'.vols[j]! = s.vols[j]!:=by rw[hv j hj',if_neg hji]
  refine hr.congr s2 (by rw[s4]) hon hsz s3 (by rw[ev]) (by rw[ev]) fun hlo q hq=>?_
  rw[ev] at hlo;exact hlook j hj' hji hlo q hq
theorem two_of{l:List Vol}{a b:Vol}(ha:a∈l)(hb:b∈l)(h:a≠b):2<=l.length:=by
 match l,ha,hb with
 | [x],ha,hb=>
  simp at ha hb;exact absurd (ha.trans hb.symm) h
 | x :: y :: r,_,_=>simp
theorem rel_revert{w w':World}{s s':St}{r:RSt}{fr:List Nat}{i iu:Nat}{u v:Vol}(h:Rel s r)(hP:PoolAt w s)(hG:Good s fr)(h':PoolAt w' s')(hi:i < s.vols.length)(hvi:s.vols[i]! = v)(hiu:iu < s.vols.length)(hu:s.vols[iu]! = u)(ho:v.org=some u.vb)(hl:v.lost=false)(hone:(s.picsOf u.vb).length<=1)
 (hv:s'.vols=delVol i s.vols) (hbl:s'.bl=giveB v.xs (revB u v s.bl v.kept.length)) (dg:Nat) (j:Nat) (hj:j < s.vols.length) (hne:j≠i):RelV s' (s.vols[j]!) ((r.vols.set iu { (r.vols[iu]!) with dg:=dg,data:=(r.vols[i]!).data })[j]!):=by
 have hlr:=h.len;have hvm:v∈s.vols:=by rw[<-hvi];exact get_mem hi
 have hum:u∈s.vols:=by rw[<-hu];exact get_mem hiu
 have hou:s.orgOf v=u:=by
  have:=(hP.orgOf hvm).2.2.2 (by rw[ho];simp);rw[ho] at this;exact hP.vb_inj (hP.orgOf hvm).1 hum (by simpa using this.symm)
 have hu0:u.org=none:=by rw[<-hou];exact (hP.orgOf hvm).2.1
 have hii:i≠iu:=fun e=>by
  rw[e,hu] at hvi;rw[<-hvi,hu0] at ho;cases ho
 have hpk:=(hG.pics v hvm).2.2 u hum ho;have hapU:∀x∈v.xs,x∉u.xs:=fun x hx=>by rw[<-hvi] at hx;rw[<-hu];exact hG.xs_apart hi hiu hii hx
 have hlt:∀z∈s.vols,∀x∈z.xs,x < s.bl.length:=fun z hz x hx=>by rw[hP.disk.len];exact hG.lt.2 z hz x hx
 rw[setL_get _ _ _ _ (by omega) (by omega)];by_cases hji:j=iu
 ·subst hji;rw[if_pos rfl,hu];have hru:=h.each j hj;have hrv:=h.each i hi;rw[hu] at hru;rw[hvi] at hrv;have e0:s.orgOf u=u:=(hP.orgOf hum).2.2.1 hu0;have e1:s'.orgOf u=u:=by unfold St.orgOf;rw[hu0]
  have hsz:s'.size u=u.xs.length:=by unfold St.size;rw[e1]
  have hszv:s.size v=u.xs.length:=by unfold St.size;rw[hou]
  have hkn:=(hP.vols u hum).kept_nil hu0;have hlook:∀q,q < u.xs.length->s'.look u q=s.look v q:=fun q hq=>by
   have hmq:u.xs[q]!∈u.xs:=mem_getElem! hq;unfold St.look St.holder;rw[e1,hkn,if_neg (by simp),hou,hbl];rw[giveB_get _ _ _ (by rw[revB_length];exact hlt u hum _ hmq),if_neg (fun hm=>hapU _ hm hmq)];rw[revB_in u v s.bl hpk.1 (hG.pics v hvm).1 (hG.xs_nodup hum) (hP.vols v hvm).room hapU (hlt u hum) (hlt v hvm) q hq _ (Nat.le_refl _),List.take_length]
   split<;>rfl
  refine⟨hru.name,by show (r.vols[j]!).of_=_;rw[hru.of_,if_pos hu0,if_pos hu0],?_,hru.blocks,hru.kept,hru.lost,fun _ q hq=>?_,fun _ q hq=>?_⟩
  ·show (r.vols[i]!).data.length=_;rw[hrv.size,hszv,hsz]
  ·rw[hlook q (by omega)];exact hrv.ok hl q (by omega)
  ·rw[hlook q (by omega)];exact hrv.data hl q (by omega)
 ·rw[if_neg hji];have hm:=get_mem hj;obtain⟨o1,o2,o3,o4⟩:=hP.orgOf hm;obtain⟨jo,hjo,ejo⟩:=mem_index o1;have hjoi:jo≠i:=fun e=>by
   have:s.orgOf (s.vols[j]!)=v:=by rw[<-ejo,e,hvi]
   rw[this,ho] at o2;cases o2
  have hjou:jo≠iu:=fun e=>by
   have eo:s.orgOf (s.vols[j]!)=u:=by rw[<-ejo,e,hu]
   by_cases hq:(s.vols[j]!).org=none
   ·rw[o3 hq] at eo;exact names_ne hP hj hiu hji (by rw[eo,hu])
   ·have e4:=o4 hq;rw[eo] at e4;have h1:s.vols[j]!∈s.picsOf u.vb:=picsOf_mem.2 ⟨hm,e4⟩;have h2:v∈s.picsOf u.vb:=picsOf_mem.2 ⟨hvm,ho⟩;have:=two_of h1 h2 (fun e=>names_ne hP hj hi hne (by rw[e,hvi]));omega
  have hout:∀a,a < s.vols.length->a≠i->a≠iu->∀x∈(s.vols[a]!).xs,s'.bl[x]! = s.bl[x]!:=fun a ha ha1 ha2 x hx=>by
   have hxl:=hlt _ (get_mem ha) x hx;rw[hbl,giveB_get _ _ _ (by rw[revB_length];exact hxl),if_neg (by rw[<-hvi];exact hG.xs_apart ha hi ha1 hx)];exact revB_out u v s.bl hpk.1 x (by rw[<-hu];exact hG.xs_apart ha hiu ha2 hx) hxl _ (Nat.le_refl _)
  refine (h.each j hj).keep hP h' hm (fun _=>?_) fun _ q hq=>?_
  ·rw[hv,<-ejo];exact del_mem hP hi hjo hjoi
  ·rcases holder_in hP hm hq with e|e
   ·exact hout j hj hne hji _ e
   ·rw[<-ejo] at e;exact hout jo hjo hjoi hjou _ e
end
end Go.Proofs.YtpddgdjocffgdaaGreat
