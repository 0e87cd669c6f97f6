/- The document's own answer: drop, Remove, by contracts. The document's own answer: keeps, keep, by contracts. The document's own answer: keep, by contracts. The document's own answer: New, by contracts. The document's own answer: List, by contracts. The statements' own small functions: num, by a contract. The statements' own small functions: text, by a contract. The statements' own small functions: block, by a contract. The document's own answer: what Write, Resize and Create refuse, by contracts. The document's own answer: Create up to add, by a contract. The document's own answer: what add refuses, by contracts. -/
import Derived.Test.YtpddgdjocffgdaaGreatJ04
import Derived.Maps.AppendAt
import Derived.Test.YtpddgdjocffgdaaGreatJ03
namespace Go.Proofs.YtpddgdjocffgdaaGreat
set_option linter.unusedVariables false
set_option linter.unusedSimpArgs false
set_option linter.unusedSectionVars false
set_option maxHeartbeats 16000000
set_option maxRecDepth 100000
section
open Go.RowKit Go.Sort
variable [DecidableEq Blk] [Inhabited Blk] [Inhabited Vol] [Inhabited RVol]
theorem RVolAt.same{w w':World}{v:RVol}(h:RVolAt w v){S:List Nat}(hs:Same S w w')
 (hb:∀b∈S,∀cs,¬At w b 118 cs/\¬At w b 9 cs/\¬At w b 3 cs):RVolAt w' v:=by
 obtain⟨dc,bc,kc,a1,a2,a3,a4,a5⟩:=h.ex;refine⟨⟨dc,bc,kc,hs.at a1 (fun hm=>(hb _ hm _).1 a1),?_,?_,a4,fun a ha=>?_⟩,h.data,h.blocks,h.kept⟩
 ·obtain⟨cs,h1,h2⟩:=a2.ex;exact a2.same hs (fun hm=>(hb _ hm _).2.1 h1)
 ·obtain⟨cs,h1,h2⟩:=a3.ex;exact a3.same hs (fun hm=>(hb _ hm _).2.2 h1)
 ·obtain⟨cs,h1,h2⟩:=(a5 a ha).ex;exact (a5 a ha).same hs (fun hm=>(hb _ hm _).2.2 h1)
theorem RVolAt.same0{w w':World}{v:RVol}(h:RVolAt w v)(hs:Same [] w w'):RVolAt w' v:=h.same hs (by simp)
theorem RefAt.same0{w w':World}{s:RSt}(h:RefAt w s)(hs:Same [] w w'):RefAt w' s:=by
 obtain⟨cap,hp,h1,h2⟩:=h.pool;refine⟨⟨cap,hs.at hp (by simp),h1,h2⟩,fun b hb=>?_,fun v hv=>(h.vols v hv).same0 hs,h.few,h.n⟩;obtain⟨cs,hc,h3⟩:=h.arr b hb;exact⟨cs,hs.at hc (by simp),h3⟩
theorem Tryz.infoRV:(Tryz.prog.info? 115).map (fun i=>(i.zero,i.size,i.bytes))=some (some (.pointer none),1,8):=by kernel_rfl
theorem owns_list{w:World}{base:Nat}{v:Value}{vs:List RVol}(h:w.ownsRow base 115 1 v vs.length (vs.map fun x=>ptr x.vb)) :
 ∃(lg:Option Nat) (cap:Nat),v=.slice (lg.map fun b=>⟨b,0,none⟩) vs.length cap/\vs.length<=cap/\(lg=none->vs=[]/\cap=0) /\
  (∀b,lg=some b->base<=b/\∃cs,At w b 115 cs/\cs.take vs.length=vs.map (fun v=>ptr v.vb)/\vs.length<=cs.length):=by
 rcases h.2 with⟨h1,h2⟩|⟨g,cap',cur,h1,h2,h3,h4,h5,h6,h7⟩
 ·refine⟨none,0,by rw[h1,h2];rfl,by omega,fun _=>⟨List.eq_nil_of_length_eq_zero h2,rfl⟩,fun b hb=>by cases hb⟩
 ·refine⟨some g,cap',h1,h4,(by intro h;cases h),fun b hb=>?_⟩;cases hb;refine⟨h2,cur.toList,?_,by simpa using h7,by simp;omega⟩;unfold At;simpa using h3
def RSt.without(s:RSt)(t:ByteArray)(k:Nat):List RVol:=(s.vols.take k).filter fun v=>decide (¬v.name=t)
theorem refDrop_calls(s:RSt)(t:ByteArray)(w:World)(h:RefAt w s) :
 Calls Tryz.prog 101 #[.pointer (some ⟨s.rb,0,none⟩),.string t] w fun e w'=>e=.returned (.tuple #[])/\Same [s.rb] w w' /\
  ∃lg,RefAt w' { s with lg:=lg,vols:=s.without t s.vols.length }/\∀b,lg=some b->w.heap.size<=b:=by
 obtain⟨cap,hp,h1,h2⟩:=h.pool;have hfew:=h.few;obtain⟨i0,hi,hz0,hz1,hz2⟩:=info_parts Tryz.infoRV
 go_enter Tryz.func101,Tryz.ntmps101
 go_wp2
 go_loopw [4,5] (fun u i wr=>∃k:Nat,k<=s.vols.length/\i=.int .i64 k/\Same [] w wr/\wr.ownsRow w.heap.size 115 1 u (s.without t k).length ((s.without t k).map fun x=>ptr x.vb))
  (fun _ i _=>s.vols.length - (intOf i).toNat)
 case atStart=>exact⟨0,Nat.zero_le _,rfl,Same.refl _ _,by simpa [RSt.without] using World.ownsRow_nil w w.heap.size 115 1⟩
 case round=>
  obtain⟨k,hk,rfl,hS,hown⟩:=hrel;have c1:wr.cell? ⟨s.rb,1,none⟩=some (.slice (s.lg.map fun b=>⟨b,0,none⟩) s.vols.length cap):=(hS.at hp (by simp)).cell? 1;have hR:=h.same0 hS;have hwl:(s.without t k).length<=k:=by
   unfold RSt.without;exact Nat.le_trans (List.length_filter_le _ _) (by simp;omega)
  by_cases hkl:k < s.vols.length
  ·obtain⟨ua,ucap,rfl⟩:=owns_form hown;obtain⟨b,hb,e1,hm⟩:=hR.cell k hkl;obtain⟨dc,bc,kc,hv,_⟩:=(hR.vols _ hm).ex;have e2:wr.cell? ⟨(s.vols[k]!).vb,0,none⟩=some (.string (s.vols[k]!).name):=hv.cell? 0;have hb':(s.lg.map fun b=>(⟨b,0,none⟩:Addr))=some ⟨b,0,none⟩:=by rw[hb];rfl
   rw[hb'] at c1;have HX:Hid (s.without t (k+1)=s.without t k++if (s.vols[k]!).name=t then [] else [s.vols[k]!]):=by
    show _=_;unfold RSt.without;rw[List.take_succ_eq_append_getElem hkl,getElem!_pos s.vols k hkl,List.filter_append]
    congr 1
    by_cases hq:(s.vols[k]).name=t<;>simp[hq]
   generalize s.vols[k]! = vv at *;have l1:(k:Int) < (s.vols.length:Int):=by omega
   have hsz:=hS.size;clear hR hv hm hb' hb;by_cases hn:vv.name=t
   ·have hbq:(vv.name.toList == t.toList)=true:=by rw[hn];simp
    generalize s.without t k=pp at *
    go_wp2
    go_roundw
    case rel=>exact⟨k+1,by omega,by go_num,hS,by rw[HX.out,if_pos hn,List.append_nil];exact hown⟩
    case measure=>simp[intOf];omega
   ·have hbq:(vv.name.toList == t.toList)=false:=by
     rw[bytes_beq];exact decide_eq_false hn
    generalize s.without t k=pp at *
    go_wp2_with (at_builtin;refine wpList_append_own _ rfl _ _ 82 rfl w.heap.size 115 i0 (.pointer none) 1 8 Tryz.underlying82 hi hz0 hz1 hz2 rfl (by decide) _ _ _ rfl (hown.alloc _) ⟨wr.heap.size,0,none⟩ 1 1 [ptr vv.vb] rfl rfl ?c1 ?c2 ?c3 ?c4 ?c5 ?_)
    case c1=>
     intro j u hj
     match j,hj with
     | 0,hj=>simp at hj;subst hj;simp[Addr.add,ptr]
    case c2=>intro u hu;simp at hu;subst hu;rfl
    case c3=>unfold maxLen;omega
    case c4=>omega
    case c5=>simp;omega
    intro v' w4 hown' hgrow _;have S4:Same [] w w4:=(hS.alloc _).grown hgrow (fun i hi hl=>by have:=(hown.lt i hi).1;omega);have O4:w4.ownsRow w.heap.size 115 1 v' (s.without t (k+1)).length ((s.without t (k+1)).map fun x=>ptr x.vb):=by
     rw[HX.out,if_neg hn,List.map_append,List.length_append];exact hown'
    clear hown' hgrow hown hS c1 e1 e2
    go_wp2
    go_roundw
    case rel=>exact⟨k+1,by omega,by go_num,S4,O4⟩
    case measure=>simp[intOf];omega
  ·have ek:k=s.vols.length:=by omega
   subst ek;obtain⟨lg,cap',rfl,hl1,hl2,hl3⟩:=owns_list hown;have hp':=hS.at hp (by simp);have f1:wr.frozen? ⟨s.rb,1,none⟩=false:=hp'.frozen 1;have hsz:=hS.size;have hpl:=hp.lt;have S5:Same [s.rb] w (wr.setCell ⟨s.rb,1,none⟩ (.slice (lg.map fun b=>⟨b,0,none⟩) (s.without t s.vols.length).length cap')):=(hS.mono (by simp)).set _ _ _ (by simp);have R5:RefAt (wr.setCell ⟨s.rb,1,none⟩ (.slice (lg.map fun b=>⟨b,0,none⟩) (s.without t s.vols.length).length cap')) { s with lg:=lg,vols:=s.without t s.vols.length }:=by
    refine⟨⟨cap',hp'.set_same 1 _,hl1,hl2⟩,fun b hb=>?_,fun v hv=>?_,?_,h.n⟩
    ·obtain⟨hge,cs,hc,h3⟩:=hl3 b hb;exact⟨cs,hc.set_other _ _ _ (by have:=hp.lt;omega),h3⟩
    ·refine (h.vols v (List.mem_of_mem_take (List.mem_filter.1 hv).1)).same S5 ?_;intro b hb cs;simp at hb;subst hb;exact⟨fun hA=>absurd (hA.inj hp).1 (by decide),fun hA=>absurd (hA.inj hp).1 (by decide),fun hA=>absurd (hA.inj hp).1 (by decide)⟩
    ·show (s.without t s.vols.length).length<=20;omega
   have G5:∀b,lg=some b->w.heap.size<=b:=fun b hb=>(hl3 b hb).1
   generalize hpp:s.without t s.vols.length=pp at *;clear hown h hp' hp hR hS
   go_wp2
   refine bodyPost_end (results_none rfl _ _ _) rfl ⟨rfl,S5,lg,by rw[hpp];exact R5,G5⟩
theorem refRemove_none(s:RSt)(t:ByteArray)(w:World)(h:RefAt w s)(ha:s.at? t=none) :
 Calls Tryz.prog 56 #[.pointer (some ⟨s.rb,0,none⟩),.string t] w fun e w'=>e=.returned (.int .i64 4)/\w'=w:=by
 have hF:=refFind_calls s t w h;rw[ha] at hF
 go_enter Tryz.func56,Tryz.ntmps56
 go_wp2_with (first|(go_at_call 79;refine hF.mono ?_;rintro e wz ⟨rfl,rfl⟩))
 go_ret
 exact⟨rfl,rfl⟩
theorem refRemove_busy(s:RSt)(t:ByteArray)(v:RVol)(w:World)(h:RefAt w s)(ha:s.at? t=some v)(hb:0 < s.pics t s.vols.length) :
 Calls Tryz.prog 56 #[.pointer (some ⟨s.rb,0,none⟩),.string t] w fun e w'=>e=.returned (.int .i64 8)/\w'=w:=by
 have hF:=refFind_calls s t w h;have hP:=refPictures_calls s t w h;rw[ha] at hF;generalize s.pics t s.vols.length=k at *;have hk:(0:Int) < (k:Int):=by omega
 go_enter Tryz.func56,Tryz.ntmps56
 go_wp2_with (first|(go_at_call 79;refine hF.mono ?_;rintro e wz ⟨rfl,rfl⟩)|(go_at_call 99;refine hP.mono ?_;rintro e wz ⟨rfl,rfl⟩))
 go_ret
 exact⟨rfl,rfl⟩
theorem refRemove_ok(s:RSt)(t:ByteArray)(v:RVol)(w:World)(h:RefAt w s)(ha:s.at? t=some v)(hb:s.pics t s.vols.length=0) :
 Calls Tryz.prog 56 #[.pointer (some ⟨s.rb,0,none⟩),.string t] w fun e w'=>e=.returned (.int .i64 0)/\Same [s.rb] w w' /\
  ∃lg,RefAt w' { s with lg:=lg,vols:=s.without t s.vols.length }/\∀b,lg=some b->w.heap.size<=b:=by
 have hF:=refFind_calls s t w h;have hP:=refPictures_calls s t w h;have hD:=refDrop_calls s t w h;rw[ha] at hF;rw[hb] at hP
 go_enter Tryz.func56,Tryz.ntmps56
 go_wp2_with (first|(go_at_call 79;refine hF.mono ?_;rintro e wz ⟨rfl,rfl⟩)|(go_at_call 99;refine hP.mono ?_;rintro e wz ⟨rfl,rfl⟩)|(go_at_call 101;refine hD.mono ?_;rintro e wy ⟨rfl,hS,lg,hR,hg⟩))
 go_ret
 exact⟨rfl,hS,lg,hR,hg⟩
theorem refFreeN_calls(s:RSt)(w:World)(h:RefAt w s) :
 Calls Tryz.prog 30 #[.pointer (some ⟨s.rb,0,none⟩)] w fun e w'=>e=.returned (.int .i64 (s.freeL s.n).length)/\Same [] w w':=by
 have hF:=refFree_calls s w h
 go_enter Tryz.func30,Tryz.ntmps30
 go_wp2_with (first|(go_at_call 63;refine hF.mono ?_;rintro e wz ⟨v,rfl,hown,hS⟩;obtain⟨ua,ucap,rfl⟩:=owns_form hown))
 go_ret
 exact⟨rfl,hS⟩
theorem texts_owns{w:World}{g cap:Nat}{l:List ByteArray}(h:TextsAt w g cap l){n:Nat}(hn:n=l.length):w.ownsRow 0 9 1 (.slice (some ⟨g,0,none⟩) n cap) n (l.map Value.string):=by
 obtain⟨cs,h1,h2,h3,h4,h5⟩:=h.ex;subst hn;refine⟨by simp,.inr ⟨g,cap,cs.toArray,rfl,Nat.zero_le _,h1,h4,h5,by simpa using h2,by simpa using h3⟩⟩
theorem owns_texts{w:World}{base:Nat}{v:Value}{n:Nat}{l:List ByteArray}(h:w.ownsRow base 9 1 v n (l.map Value.string))(hl:l≠[]) :
 ∃g cap,v=.slice (some ⟨g,0,none⟩) l.length cap/\base<=g/\TextsAt w g cap l:=by
 have hn:l.length=n:=by simpa using h.1
 rcases h.2 with⟨h1,h2⟩|⟨g,cap',cur,h1,h2,h3,h4,h5,h6,h7⟩
 ·exact absurd (List.eq_nil_of_length_eq_zero (hn.trans h2)) hl
 ·refine⟨g,cap',by rw[hn];exact h1,h2,⟨cur.toList,?_,by simpa using h6,by simpa [hn] using h7,by omega,h5⟩⟩;unfold At;simpa using h3
theorem refKeeps_calls(v:RVol)(k:Nat)(w:World)(h:RVolAt w v) :
 Calls Tryz.prog 124 #[.pointer (some ⟨v.vb,0,none⟩),.int .i64 k] w fun e w'=>e=.returned (.bool (decide (k∈v.kept)))/\w'=w:=by
 obtain⟨dc,bc,kc,a1,a2,a3,a4,a5⟩:=h.ex;have e4:w.cell? ⟨v.vb,4,none⟩=some (.slice (v.kg.map fun g=>⟨g,0,none⟩) v.kept.length kc):=a1.cell? 4;have hkl:=h.kept;generalize hres:decide (k∈v.kept)=res at *;have HRES:Hid (decide (k∈v.kept)=res):=hres;clear hres h a1 a2 a3
 go_enter Tryz.func124,Tryz.ntmps124
 go_wp2
 go_loopw [5] (fun i wr=>∃j:Nat,j<=v.kept.length/\i=.int .i64 j/\wr=w/\Hid (k∉v.kept.take j)) (fun i _=>v.kept.length - (intOf i).toNat)
 case atStart=>exact⟨0,Nat.zero_le _,rfl,rfl,by show _∉_;simp⟩
 case round=>
  obtain⟨j,hj,rfl,rfl,HJ⟩:=hrel;by_cases hjl:j < v.kept.length
  ·obtain⟨g,hg⟩:∃g,v.kg=some g:=by
    cases hgk:v.kg with
    | none=>rw[(a4 hgk).1] at hjl;simp at hjl
    | some g=>exact⟨g,rfl⟩
   have cj:=(a5 g hg).cell j hjl;have hg':(v.kg.map fun g=>(⟨g,0,none⟩:Addr))=some ⟨g,0,none⟩:=by rw[hg];rfl
   rw[hg'] at e4;have HTJ:Hid (v.kept.take (j+1)=v.kept.take j++[v.kept[j]!]):=by show _=_;rw[List.take_succ_eq_append_getElem hjl,getElem!_pos v.kept j hjl]
   have HMJ:Hid (v.kept[j]!∈v.kept):=by show _∈_;rw[getElem!_pos v.kept j hjl];exact List.getElem_mem hjl
   generalize v.kept[j]! = y at *;have l2:(j:Int) < (v.kept.length:Int):=by omega
   clear a4 a5 hg hg';by_cases hy:y=k
   ·subst hy;have HF:Hid (res=true):=by show _=_;rw[<-HRES.out];exact decide_eq_true HMJ.out
    go_wp2
    go_ret
    rw[HF.out];exact⟨rfl,rfl⟩
   ·have hy':((y:Int) == (k:Int))=false:=beq_eq_false_iff_ne.2 (by omega)
    go_wp2
    go_roundw
    case rel=>exact⟨j+1,by omega,by go_num,by first|rfl|trivial,by show _∉_;rw[HTJ.out];simp[HJ.out];exact fun e=>hy e.symm⟩
    case measure=>simp[intOf];omega
  ·have ej:j=v.kept.length:=by omega
   have HF:Hid (res=false):=by
    show _=_;rw[<-HRES.out];have:=HJ.out;rw[ej,List.take_length] at this;exact decide_eq_false this
   subst ej;clear HJ a4 a5
   go_wp2
   go_ret
   rw[HF.out];exact⟨rfl,rfl⟩
theorem refKeep_has(v:RVol)(k:Nat)(w:World)(h:RVolAt w v)(hk:k∈v.kept) :
 Calls Tryz.prog 92 #[.pointer (some ⟨v.vb,0,none⟩),.int .i64 k] w fun e w'=>e=.returned (.bool true)/\w'=w:=by
 have hK:=refKeeps_calls v k w h;rw[decide_eq_true hk] at hK
 go_enter Tryz.func92,Tryz.ntmps92
 go_wp2_with (go_at_call 124;refine hK.mono ?_;rintro e wz ⟨rfl,rfl⟩)
 go_ret
 exact⟨rfl,rfl⟩
theorem refKeep_lost(v:RVol)(k:Nat)(w:World)(h:RVolAt w v)(hk:k∉v.kept)(hf:v.blocks.length<=v.kept.length) :
 Calls Tryz.prog 92 #[.pointer (some ⟨v.vb,0,none⟩),.int .i64 k] w fun e w'=>e=.returned (.bool false) /\
  RVolAt w' { v with kg:=none,kept:=[],lost:=true }/\Same [v.vb] w w':=by
 have hK:=refKeeps_calls v k w h;rw[decide_eq_false hk] at hK;obtain⟨dc,bc,kc,a1,a2,a3,a4,a5⟩:=h.ex;have e3:w.cell? ⟨v.vb,3,none⟩=some (.slice (some ⟨v.bg,0,none⟩) v.blocks.length bc):=a1.cell? 3;have e4:w.cell? ⟨v.vb,4,none⟩=some (.slice (v.kg.map fun g=>⟨g,0,none⟩) v.kept.length kc):=a1.cell? 4;have e5:w.cell? ⟨v.vb,5,none⟩=some (.bool v.lost):=a1.cell? 5;have f5:w.frozen? ⟨v.vb,5,none⟩=false:=a1.frozen 5;have f4:w.frozen? ⟨v.vb,4,none⟩=false:=a1.frozen 4;have b2:=((a1.set_same 5 (.bool true)).set_same 4 (.slice none 0 0)).drew;have S2:Same [v.vb] w (((w.setCell ⟨v.vb,5,none⟩ (.bool true)).setCell ⟨v.vb,4,none⟩ (.slice none 0 0))).drew:=(((Same.refl _ _).set _ _ _ (by simp)).set _ _ _ (by simp)).drew;have n1:v.dg∉[v.vb]:=by
  obtain⟨cs,h1,_⟩:=a2.ex;intro hm;simp at hm;rw[hm] at h1;exact absurd (h1.inj a1).1 (by decide)
 have n2:v.bg∉[v.vb]:=by
  obtain⟨cs,h1,_⟩:=a3.ex;intro hm;simp at hm;rw[hm] at h1;exact absurd (h1.inj a1).1 (by decide)
 have R2:RVolAt ((w.setCell ⟨v.vb,5,none⟩ (.bool true)).setCell ⟨v.vb,4,none⟩ (.slice none 0 0)).drew { v with kg:=none,kept:=[],lost:=true }:=
  ⟨⟨dc,bc,0,b2,a2.same S2 n1,a3.same S2 n2,fun _=>⟨rfl,rfl⟩,fun g hg=>by cases hg⟩,h.data,h.blocks,by simp⟩
 have l1:(v.blocks.length:Int)<=(v.kept.length:Int):=by omega
 have hk2:=h.kept;clear h a1 a2 a3 a4 a5 b2 n1 n2
 go_enter Tryz.func92,Tryz.ntmps92
 go_wp2_with (go_at_call 124;refine hK.mono ?_;rintro e wz ⟨rfl,rfl⟩)
 go_region
 go_wp2
 go_ret
 exact⟨rfl,R2,S2⟩
theorem refKeep_more(v:RVol)(k:Nat)(w:World)(h:RVolAt w v)(hk:k∉v.kept)(hf:v.kept.length < v.blocks.length)(hbg:v.kg≠some v.bg) :
 Calls Tryz.prog 92 #[.pointer (some ⟨v.vb,0,none⟩),.int .i64 k] w fun e w'=>e=.returned (.bool true) /\
  ∃g,RVolAt w' { v with kg:=some g,kept:=v.kept++[k] }/\Same (v.vb :: v.kg.toList) w w'/\(v.kg=some g\/w.heap.size<=g):=by
 have hK:=refKeeps_calls v k w h;rw[decide_eq_false hk] at hK;obtain⟨dc,bc,kc,a1,a2,a3,a4,a5⟩:=h.ex;have e3:w.cell? ⟨v.vb,3,none⟩=some (.slice (some ⟨v.bg,0,none⟩) v.blocks.length bc):=a1.cell? 3;have e4:w.cell? ⟨v.vb,4,none⟩=some (.slice (v.kg.map fun g=>⟨g,0,none⟩) v.kept.length kc):=a1.cell? 4;have l1:(v.kept.length:Int) < (v.blocks.length:Int):=by omega
 have hk2:=h.kept;have hb2:=h.blocks;have hown:w.ownsRow 0 3 1 (.slice (v.kg.map fun g=>⟨g,0,none⟩) v.kept.length kc) v.kept.length (v.kept.map (fun x:Nat=>Value.int .i64 x)):=by
  cases hg:v.kg with
  | none=>
   obtain⟨q1,q2⟩:=a4 hg;rw[q1,q2];exact World.ownsRow_nil _ _ _ _
  | some g=>exact nums_owns (a5 g hg) rfl
 have hob:(Value.slice (v.kg.map fun g=>(⟨g,0,none⟩:Addr)) v.kept.length kc).ownBlock=v.kg:=by
  cases hg:v.kg<;>rfl
 obtain⟨i0,hi,hz0,hz1,hz2⟩:=info_parts Tryz.info3;have n1:v.vb≠v.dg:=by
  obtain⟨cs,h1,_⟩:=a2.ex;intro hm;rw[<-hm] at h1;exact absurd (h1.inj a1).1 (by decide)
 have n2:v.vb≠v.bg:=by
  obtain⟨cs,h1,_⟩:=a3.ex;intro hm;rw[<-hm] at h1;exact absurd (h1.inj a1).1 (by decide)
 have n3:v.kg≠some v.vb:=by
  intro hm;obtain⟨cs,h1,_⟩:=(a5 _ hm).ex;exact absurd (h1.inj a1).1 (by decide)
 have n4:v.kg≠some v.dg:=by
  intro hm;obtain⟨cs,h1,_⟩:=(a5 _ hm).ex;obtain⟨cs',h2,_⟩:=a2.ex;exact absurd (h1.inj h2).1 (by decide)
 go_enter Tryz.func92,Tryz.ntmps92
 go_wp2_with (go_at_call 124;refine hK.mono ?_;rintro e wz ⟨rfl,rfl⟩)
 go_region
 go_wp2_with (first|(at_builtin;refine wpList_append_own_at _ rfl _ _ 51 rfl 0 3 i0 (.int .i64 0) 1 8 Tryz.underlying51 hi hz0 hz1 hz2 rfl (by decide) _ _ _ rfl (hown.alloc _) ⟨wz.heap.size,0,none⟩ 1 1 [.int .i64 (k:Nat)] rfl rfl ?c1 ?c2 ?c3 ?c4 ?c5 ?_))
 case c1=>
  intro j u hj
  match j,hj with
  | 0,hj=>simp at hj;subst hj;simp[Addr.add]
 case c2=>intro u hu;simp at hu;subst hu;rfl
 case c3=>unfold maxLen;omega
 case c4=>omega
 case c5=>omega
 intro v' w4 hown' hgrow _ hblk
 try rw[hob] at hgrow
 try rw[hob] at hblk
 have S4:Same v.kg.toList wz w4:=((Same.refl _ _).alloc _).drew.grown hgrow (fun i hi hl=>by rw[hi];simp);have hown2:w4.ownsRow 0 3 1 v' (v.kept.length+1) ((v.kept++[k]).map (fun x:Nat=>Value.int .i64 x)):=by
  rw[List.map_append];exact hown'
 obtain⟨g,cap,rfl,_,hN⟩:=owns_nums hown2 (by simp);have hgo:v.kg=some g\/wz.heap.size<=g:=by
  rcases hblk with hq|hq
  ·exact .inl hq.symm
  ·have:g=(wz.alloc (.cells #[.int .i64 (k:Nat)] 3)).heap.size:=by
    simpa [Value.ownBlock] using hq
   right;rw[this];simp
 have b1:=S4.at a1 (by simpa using n3);have f4:=b1.frozen 4;have hvl:=a1.lt;have S5:Same (v.vb :: v.kg.toList) wz (w4.setCell ⟨v.vb,4,none⟩ (.slice (some ⟨g,0,none⟩) (v.kept++[k]).length cap)):=
  (S4.mono (by intro b hb _;exact List.mem_cons_of_mem _ hb)).set _ _ _ (by simp)
 have ng:g≠v.vb:=by
  rcases hgo with hq|hq
  ·intro e;exact n3 (by rw[hq,e])
  ·omega
 have R5:RVolAt (w4.setCell ⟨v.vb,4,none⟩ (.slice (some ⟨g,0,none⟩) (v.kept++[k]).length cap)) { v with kg:=some g,kept:=v.kept++[k] }:=by
  refine⟨⟨dc,bc,cap,b1.set_same 4 _,a2.same S5 ?_,a3.same S5 ?_,fun hq=>(by cases hq),fun g' hg'=>?_⟩,h.data,h.blocks,by simp;omega⟩
  ·simp;exact⟨fun e=>n1 e.symm,n4⟩
  ·simp;exact⟨fun e=>n2 e.symm,hbg⟩
  ·cases hg';obtain⟨cs,h1,h2⟩:=hN.ex;exact⟨cs,h1.set_other _ _ _ ng,h2⟩
 have g4:w4.cell? ⟨v.vb,4,none⟩=some (.slice (v.kg.map fun g=>⟨g,0,none⟩) v.kept.length kc):=b1.cell? 4;rw[List.length_append,List.length_singleton] at R5 S5;clear hown hown' hown2 hgrow h a1 a2 a3 a4 a5 hK b1
 go_wp2
 go_ret
 exact⟨rfl,g,R5,S5,hgo⟩
theorem refNew_no(n:Int)(w:World)(hn:n < 1\/200 < n) :
 Calls Tryz.prog 25 #[.int .i64 n] w fun e w'=>e=.returned (.tuple #[.pointer none,.int .i64 1])/\w'=w:=by
 rcases hn with hn|hn
 ·go_enter Tryz.func25,Tryz.ntmps25
  go_wp2
  go_ret2
  exact⟨rfl,rfl⟩
 ·have h1:1<=n:=by omega
  go_enter Tryz.func25,Tryz.ntmps25
  go_wp2
  go_ret2
  exact⟨rfl,rfl⟩
theorem refNew_ok(n:Nat)(w:World)(h1:1<=n)(h2:n<=200) :
 Calls Tryz.prog 25 #[.int .i64 n] w fun e w'=>e=.returned (.tuple #[.pointer (some ⟨w.heap.size,0,none⟩),.int .i64 0]) /\
  RefAt w' ⟨w.heap.size,none,n,[]⟩/\Same [] w w':=by
 have l1:(1:Int)<=(n:Int):=by omega
 have l2:(n:Int)<=200:=by omega
 have R:RefAt (w.alloc (.cells #[.int .i64 (n:Nat),.slice none 0 0] 84)) ⟨w.heap.size,none,n,[]⟩:=
  ⟨⟨0,At.new w _ _,by simp,fun _=>⟨rfl,rfl⟩⟩,fun b hb=>(by cases hb),fun v hv=>by simp at hv,by simp,h2⟩
 have S:Same [] w (w.alloc (.cells #[.int .i64 (n:Nat),.slice none 0 0] 84)):=(Same.refl _ _).alloc _
 go_enter Tryz.func25,Tryz.ntmps25
 go_wp2
 go_ret2
 exact⟨rfl,R,S⟩
def RVol.told(v:RVol):List Value:=
 if v.of_=⟨#[]⟩ then [.string v.name,.int .i64 v.data.length,.string ⟨#[]⟩,.int .i64 0,.int .i64 0,.bool false]
 else [.string v.name,.int .i64 v.data.length,.string v.of_,.int .i64 v.blocks.length,.int .i64 v.kept.length,.bool v.lost]
def rtoldAll:List RVol->List Value
 | []=>[]
 | v :: r=>v.told++rtoldAll r
theorem rtoldAll_append(a b:List RVol):rtoldAll (a++b)=rtoldAll a++rtoldAll b:=by
 induction a with
 | nil=>rfl
 | cons v r ih=>simp[rtoldAll,ih]
theorem refList_calls(s:RSt)(w:World)(h:RefAt w s) :
 Calls Tryz.prog 37 #[.pointer (some ⟨s.rb,0,none⟩)] w fun e w'=>∃a cap,e=.returned (.slice a s.vols.length cap)/\Same [] w w' /\
  (s.vols≠[]->∃g cs,a=some ⟨g,0,none⟩/\w.heap.size<=g/\At w' g 57 cs/\cs.take (s.vols.length * 6)=rtoldAll s.vols):=by
 obtain⟨cap,hp,h1,h2⟩:=h.pool;have hfew:=h.few;obtain⟨i0,hi,hz0,hz1,hz2⟩:=info_parts Tryz.info57
 go_enter Tryz.func37,Tryz.ntmps37
 go_wp2
 go_loopw [3,4] (fun u i wr=>∃k:Nat,k<=s.vols.length/\i=.int .i64 k/\Same [] w wr/\wr.ownsRow w.heap.size 57 6 u k (rtoldAll (s.vols.take k)))
  (fun _ i _=>s.vols.length - (intOf i).toNat)
 case atStart=>exact⟨0,Nat.zero_le _,rfl,Same.refl _ _,World.ownsRow_nil _ _ _ _⟩
 case round=>
  obtain⟨k,hk,rfl,hS,hown⟩:=hrel;have c1:wr.cell? ⟨s.rb,1,none⟩=some (.slice (s.lg.map fun b=>⟨b,0,none⟩) s.vols.length cap):=(hS.at hp (by simp)).cell? 1;have hR:=h.same0 hS;obtain⟨ua,ucap,rfl⟩:=owns_form hown;by_cases hkl:k < s.vols.length
  ·obtain⟨b,hb,e1,hm⟩:=hR.cell k hkl;have hRV:=hR.vols _ hm;obtain⟨dc,bc,kc,hv,_⟩:=hRV.ex;have q0:wr.cell? ⟨(s.vols[k]!).vb,0,none⟩=some (.string (s.vols[k]!).name):=hv.cell? 0;have q1:wr.cell? ⟨(s.vols[k]!).vb,1,none⟩=some (.string (s.vols[k]!).of_):=hv.cell? 1;have q2:wr.cell? ⟨(s.vols[k]!).vb,2,none⟩=some (.slice (some ⟨(s.vols[k]!).dg,0,none⟩) (s.vols[k]!).data.length dc):=hv.cell? 2;have q3:wr.cell? ⟨(s.vols[k]!).vb,3,none⟩=some (.slice (some ⟨(s.vols[k]!).bg,0,none⟩) (s.vols[k]!).blocks.length bc):=hv.cell? 3;have q4:wr.cell? ⟨(s.vols[k]!).vb,4,none⟩=some (.slice ((s.vols[k]!).kg.map fun g=>⟨g,0,none⟩) (s.vols[k]!).kept.length kc):=hv.cell? 4;have q5:wr.cell? ⟨(s.vols[k]!).vb,5,none⟩=some (.bool (s.vols[k]!).lost):=hv.cell? 5;have z0:=hv.lt;have z1:=hRV.data;have z2:=hRV.blocks;have z3:=hRV.kept;have hb':(s.lg.map fun b=>(⟨b,0,none⟩:Addr))=some ⟨b,0,none⟩:=by rw[hb];rfl
   rw[hb'] at c1;have HV:Hid (s.vols.take (k+1)=s.vols.take k++[s.vols[k]!]):=by show _=_;rw[List.take_succ_eq_append_getElem hkl,getElem!_pos s.vols k hkl]
   generalize s.vols[k]! = vv at *;have l1:(k:Int) < (s.vols.length:Int):=by omega
   have hsz:=hS.size;clear hR hRV hv hm hb' hb;by_cases hn:vv.of_=⟨#[]⟩
   ·have HTD:Hid (vv.told=[.string vv.name,.int .i64 vv.data.length,.string ⟨#[]⟩,.int .i64 0,.int .i64 0,.bool false]):=by show _=_;rw[RVol.told,if_pos hn]
    rw[hn] at q1
    go_wp2_with (first|(at_builtin;fail))
    go_region
    go_wp2_with (at_builtin;refine wpList_append_own _ rfl _ _ 47 rfl w.heap.size 57 i0 (.agg #[.string ⟨#[]⟩,.int .i64 0,.string ⟨#[]⟩,.int .i64 0,.int .i64 0,.bool false]) 6 64 Tryz.underlying47 hi hz0 hz1 hz2 rfl (by decide) _ _ _ rfl ((hown.alloc _).alloc _) ⟨wr.heap.size+1,0,none⟩ 1 1 [.string vv.name,.int .i64 vv.data.length,.string ⟨#[]⟩,.int .i64 0,.int .i64 0,.bool false] rfl rfl ?c1 ?c2 ?c3 ?c4 ?c5 ?_)
    case c1=>
     intro j u hj;rw[Addr.add_lit,Nat.zero_add];refine Eq.trans (World.cell?_alloc_at _ _ _ _ (by simp)) ?_;rw[<-hj];simp
    case c2=>intro u hu;simp at hu;rcases hu with rfl|rfl|rfl|rfl|rfl<;>rfl
    case c3=>unfold maxLen;omega
    case c4=>omega
    case c5=>simp;omega
    intro v' w2 hown' hgrow _;have S2:Same [] w w2:=((hS.alloc _).alloc _).drew.grown hgrow (fun j hj hl=>by have:=(hown.lt j hj).1;omega);have O2:w2.ownsRow w.heap.size 57 6 v' (k+1) (rtoldAll (s.vols.take (k+1))):=by
     rw[HV.out,rtoldAll_append];simpa [rtoldAll,HTD.out] using hown'
    clear hown' hgrow hown hS c1 e1 q0 q1 q2 q3 q4 q5
    go_wp2
    go_roundw
    case rel=>exact⟨k+1,by omega,by go_num,S2,O2⟩
    case measure=>simp[intOf];omega
   ·have HTD:Hid (vv.told=[.string vv.name,.int .i64 vv.data.length,.string vv.of_,.int .i64 vv.blocks.length,.int .i64 vv.kept.length,.bool vv.lost]):=by show _=_;rw[RVol.told,if_neg hn]
    have hbq:vv.of_.toList.isEmpty=false:=by
     have hq:(vv.of_.toList == (⟨#[]⟩:ByteArray).toList)=false:=by rw[bytes_beq];exact decide_eq_false hn
     rw[<-hq,Bool.eq_iff_iff,List.isEmpty_iff,beq_iff_eq];have e0:(⟨#[]⟩:ByteArray).toList=[]:=by simp
     rw[e0]
    go_wp2_with (first|(at_builtin;fail))
    go_region
    go_wp2_with (at_builtin;refine wpList_append_own _ rfl _ _ 47 rfl w.heap.size 57 i0 (.agg #[.string ⟨#[]⟩,.int .i64 0,.string ⟨#[]⟩,.int .i64 0,.int .i64 0,.bool false]) 6 64 Tryz.underlying47 hi hz0 hz1 hz2 rfl (by decide) _ _ _ rfl ((hown.alloc _).alloc _) ⟨wr.heap.size+1,0,none⟩ 1 1 [.string vv.name,.int .i64 vv.data.length,.string vv.of_,.int .i64 vv.blocks.length,.int .i64 vv.kept.length,.bool vv.lost] rfl rfl ?c1 ?c2 ?c3 ?c4 ?c5 ?_)
    case c1=>
     intro j u hj;rw[Addr.add_lit,Nat.zero_add];refine Eq.trans (World.cell?_alloc_at _ _ _ _ (by simp)) ?_;rw[<-hj];simp
    case c2=>intro u hu;simp at hu;rcases hu with rfl|rfl|rfl|rfl|rfl|rfl<;>rfl
    case c3=>unfold maxLen;omega
    case c4=>omega
    case c5=>simp;omega
    intro v' w2 hown' hgrow _;have S2:Same [] w w2:=((hS.alloc _).alloc _).drew.grown hgrow (fun j hj hl=>by have:=(hown.lt j hj).1;omega);have O2:w2.ownsRow w.heap.size 57 6 v' (k+1) (rtoldAll (s.vols.take (k+1))):=by
     rw[HV.out,rtoldAll_append];simpa [rtoldAll,HTD.out] using hown'
    clear hown' hgrow hown hS c1 e1 q0 q1 q2 q3 q4 q5
    go_wp2
    go_roundw
    case rel=>exact⟨k+1,by omega,by go_num,S2,O2⟩
    case measure=>simp[intOf];omega
  ·have ek:k=s.vols.length:=by omega
   subst ek;rw[List.take_length] at hown;clear hR
   go_wp2
   go_ret
   refine⟨ua,ucap,rfl,hS,fun hne=>?_⟩;obtain⟨g,cs,h1,h2,h3,_,h5⟩:=owns_atN hown (by cases hv:s.vols<;>simp_all);exact⟨g,cs,h1,h2,h3,h5⟩
theorem num_calls(n:Nat)(w:World)(h:n<=13):Calls Tryz.prog 26 #[.int .i64 n] w fun e w'=>e=.returned (.int .i64 n)/\w'=w:=by
 go_enter Tryz.func26,Tryz.ntmps26
 go_wp2
 go_ret
 exact⟨rfl,rfl⟩
def Blk.ints(b:Blk):List Int:=[b.b0,b.b1,b.b2,b.b3,b.b4,b.b5,b.b6,b.b7]
def Blk.text(b:Blk):ByteArray:=b.ints.foldl (fun r n=>r.push (UInt8.ofNat n.toNat)) ByteArray.empty
theorem Blk.cells_ints(b:Blk):b.cells=b.ints.map (Value.int .u8):=rfl
theorem Blk.ints_length(b:Blk):b.ints.length=8:=rfl
theorem text_calls(b:Blk)(w:World):Calls Tryz.prog 52 #[b.val] w fun e w'=>e=.returned (.string b.text)/\Same [] w w':=by
 obtain⟨i0,hi,hz0,hz1,hz2⟩:=info_parts Tryz.info5;have A0:At (w.alloc (.cells #[.int .u8 b.b0,.int .u8 b.b1,.int .u8 b.b2,.int .u8 b.b3,.int .u8 b.b4,.int .u8 b.b5,.int .u8 b.b6,.int .u8 b.b7] 91)) w.heap.size 91 b.cells:=At.new w _ _;have S0:Same [] w (w.alloc (.cells #[.int .u8 b.b0,.int .u8 b.b1,.int .u8 b.b2,.int .u8 b.b3,.int .u8 b.b4,.int .u8 b.b5,.int .u8 b.b6,.int .u8 b.b7] 91)):=(Same.refl _ _).alloc _;have HT:Hid (b.ints.foldl (fun r n=>r.push (UInt8.ofNat n.toNat)) ByteArray.empty=b.text):=rfl;have hlen:=b.ints_length;rw[b.cells_ints] at A0;generalize hbi:b.ints=bi at *;generalize b.text=bt at *;unfold Blk.val
 go_enter Tryz.func52,Tryz.ntmps52
 go_wp2_with fail
 go_loopw [3,4] (fun u i wr=>∃k:Nat,k<=8/\i=.int .i64 k/\Same [] w wr/\At wr w.heap.size 91 (bi.map (Value.int .u8))/\w.heap.size+1<=wr.heap.size/\wr.ownsRow (w.heap.size+1) 5 1 u k ((bi.take k).map (Value.int .u8)))
  (fun _ i _=>8 - (intOf i).toNat)
 case atStart=>exact⟨0,Nat.zero_le _,rfl,S0,A0,by simp,World.ownsRow_nil _ _ _ _⟩
 case round=>
  obtain⟨k,hk,rfl,hS,hA,hsz,hown⟩:=hrel;obtain⟨ua,ucap,rfl⟩:=owns_form hown;by_cases hkl:k < 8
  ·have e1:wr.cell? ⟨w.heap.size,k,none⟩=some (.int .u8 bi[k]!):=by
    rw[hA.cell?,List.getElem?_map,List.getElem?_eq_getElem (by omega)];rw[getElem!_pos bi k (by omega)];rfl
   have HX:Hid (bi.take (k+1)=bi.take k++[bi[k]!]):=by show _=_;rw[List.take_succ_eq_append_getElem (by omega),getElem!_pos bi k (by omega)]
   generalize bi[k]! = x at *;have l1:(k:Int) < 8:=by omega
   go_wp2_with (at_builtin;refine wpList_append_own _ rfl _ _ 41 rfl (w.heap.size+1) 5 i0 (.int .u8 0) 1 1 Tryz.underlying41 hi hz0 hz1 hz2 rfl (by decide) _ _ _ rfl (hown.alloc _) ⟨wr.heap.size,0,none⟩ 1 1 [.int .u8 x] rfl rfl ?c1 ?c2 ?c3 ?c4 ?c5 ?_)
   case c1=>
    intro j u hj
    match j,hj with
    | 0,hj=>simp at hj;subst hj;simp[Addr.add]
   case c2=>intro u hu;simp at hu;subst hu;rfl
   case c3=>unfold maxLen;omega
   case c4=>omega
   case c5=>simp;omega
   intro v' w4 hown' hgrow _;have S4:Same [] w w4:=(hS.alloc _).grown hgrow (fun i hi hl=>by have:=(hown.lt i hi).1;omega);have A4:At w4 w.heap.size 91 (bi.map (Value.int .u8)):=(hA.alloc _).of_heap (hgrow.block _ (hA.alloc _).lt (fun e=>by have:=(hown.lt _ e.symm).1;omega));have Z4:w.heap.size+1<=w4.heap.size:=by have:=hgrow.size;simp at this;omega
   have O4:w4.ownsRow (w.heap.size+1) 5 1 v' (k+1) ((bi.take (k+1)).map (Value.int .u8)):=by
    rw[HX.out,List.map_append];simpa [List.map_take] using hown'
   clear hown' hgrow hown hS hA e1
   go_wp2
   go_roundw
   case rel=>exact⟨k+1,by omega,by go_num,S4,A4,Z4,O4⟩
   case measure=>simp[intOf];omega
  ·have ek:k=8:=by omega
   subst ek;obtain⟨g,cs,rfl,hge,hC,_,hcs⟩:=owns_atN hown (by omega);have hb8:bi.take 8=bi:=List.take_of_length_le (by rw[hlen];exact Nat.le_refl _);rw[hb8] at hcs;have hconv:(convert 41 9 (.slice (some ⟨g,0,none⟩) 8 ucap)).run Tryz.prog wr=.ok (.string bt) wr:=by
    rw[run_convert_bytes_string _ _ _ 5 _ _ _ Tryz.underlying41 Tryz.underlying5 Tryz.underlying9];have hl:=run_loadCells_list (P:=Tryz.prog) (w:=wr) ⟨g,0,none⟩ (bi.map (Value.int .u8)) (fun j v hj=>by
     rw[Addr.add_lit,Nat.zero_add,hC.cell?,<-hj,<-hcs,List.getElem?_take];have:j < 8:=by
      rcases Nat.lt_or_ge j 8 with h'|h'
      ·exact h'
      ·rw[List.getElem?_eq_none (by simp;omega)] at hj;cases hj
     rw[if_pos (by omega)])
    rw[show (bi.map (Value.int .u8)).length=8 by simpa using hlen] at hl;rw[run_bytesToString _ _ _ _ bi hl,HT.out]
   clear hown hA hC hcs
   go_wp2
   go_ret
   exact⟨rfl,hS⟩
def byteAt(s:ByteArray)(k i:Nat):Int:=if i < k then ((s.data[i]!).toNat:Int) else 0
def blkUp(s:ByteArray)(k:Nat):Blk:=⟨byteAt s k 0,byteAt s k 1,byteAt s k 2,byteAt s k 3,byteAt s k 4,byteAt s k 5,byteAt s k 6,byteAt s k 7⟩
theorem blkUp_zero(s:ByteArray):blkUp s 0=Blk.zero:=by simp[blkUp,byteAt,Blk.zero]
theorem byteAt_succ(s:ByteArray)(k i:Nat):byteAt s (k+1) i=if i=k then ((s.data[k]!).toNat:Int) else byteAt s k i:=by
 unfold byteAt;by_cases h:i=k
 ·subst h;simp
 ·by_cases h2:i < k
  ·simp[h,h2,show i < k+1 by omega]
  ·simp[h,h2,show ¬i < k+1 by omega]
theorem blkUp_succ(s:ByteArray)(k:Nat)(hk:k < 8):(blkUp s (k+1)).cells=(blkUp s k).cells.set k (.int .u8 ((s.data[k]!).toNat:Int)):=by
 have:k=0\/k=1\/k=2\/k=3\/k=4\/k=5\/k=6\/k=7:=by omega
 rcases this with rfl|rfl|rfl|rfl|rfl|rfl|rfl|rfl<;>simp[blkUp,Blk.cells,byteAt_succ]
theorem blk_new2(w:World):At ((w.alloc (.cells #[.int .u8 0,.int .u8 0,.int .u8 0,.int .u8 0,.int .u8 0,.int .u8 0,.int .u8 0,.int .u8 0] 91)).alloc (.cells #[.int .u8 0,.int .u8 0,.int .u8 0,.int .u8 0,.int .u8 0,.int .u8 0,.int .u8 0,.int .u8 0] 91)) (w.heap.size+1) 91 Blk.zero.cells:=by
 have h:=At.new (w.alloc (.cells #[.int .u8 0,.int .u8 0,.int .u8 0,.int .u8 0,.int .u8 0,.int .u8 0,.int .u8 0,.int .u8 0] 91)) #[.int .u8 0,.int .u8 0,.int .u8 0,.int .u8 0,.int .u8 0,.int .u8 0,.int .u8 0,.int .u8 0] 91;rw[show (w.alloc (.cells #[.int .u8 0,.int .u8 0,.int .u8 0,.int .u8 0,.int .u8 0,.int .u8 0,.int .u8 0,.int .u8 0] 91)).heap.size=w.heap.size+1 by simp] at h;exact h
theorem block_calls(s:ByteArray)(w:World)(hs:s.size<=maxLen):Calls Tryz.prog 49 #[.string s] w fun e w'=>e=.returned (blkUp s (min s.size 8)).val/\Same [] w w':=by
 unfold maxLen at hs;generalize hres:blkUp s (min s.size 8)=res;have HR:Hid (blkUp s (min s.size 8)=res):=hres;clear hres;unfold Blk.val
 go_enter Tryz.func49,Tryz.ntmps49
 go_wp2_with fail
 go_loopw [4] (fun i wr=>∃k:Nat,k<=s.size/\k<=8/\i=.int .i64 k/\Same [] w wr/\At wr (w.heap.size+1) 91 (blkUp s k).cells/\At wr w.heap.size 91 Blk.zero.cells)
  (fun i _=>8 - (intOf i).toNat)
 case atStart=>exact⟨0,Nat.zero_le _,Nat.zero_le _,rfl,((Same.refl _ _).alloc _).alloc _,by rw[blkUp_zero];exact blk_new2 w,(At.new w _ _).alloc _⟩
 case round=>
  obtain⟨k,hk,hk8,rfl,hS,hA,hZ⟩:=hrel;by_cases hkl:k < s.size
  ·have l1:(k:Int) < (s.size:Int):=by omega
   by_cases hk9:k < 8
   ·have l2:(k:Int) < 8:=by omega
    have fk:wr.frozen? ⟨(w.heap.size+1),k,none⟩=false:=hA.frozen k;obtain⟨x,hx⟩:∃x,wr.cell? ⟨(w.heap.size+1),k,none⟩=some x:=by
     rw[hA.cell?,List.getElem?_eq_getElem (by simpa [Blk.cells] using hk9)];exact⟨_,rfl⟩
    have e0:s[k]=s.data[k]!:=by
     rw[getElem!_pos s.data k hkl];rfl
    have A4:=hA.set_same k (.int .u8 ((s.data[k]!).toNat:Int));rw[<-blkUp_succ s k hk9,<-e0] at A4;have S4:Same [] w (wr.setCell ⟨(w.heap.size+1),k,none⟩ (.int .u8 ((s[k]).toNat:Int))):=hS.set _ _ _ (by intro h;omega);have Z4:=hZ.set_other (w.heap.size+1) k (.int .u8 ((s[k]).toNat:Int)) (by omega);clear hA hS hZ
    go_wp2
    go_roundw
    case rel=>exact⟨k+1,by omega,by omega,by go_num,S4,A4,Z4⟩
    case measure=>simp[intOf];omega
   ·have ek:k=8:=by omega
    subst ek;have hmin:min s.size 8=8:=by omega
    have er:blkUp s 8=res:=by rw[<-HR.out,hmin]
    have c0:wr.cell? ⟨(w.heap.size+1),0,none⟩=some (.int .u8 (blkUp s 8).b0):=hA.cell? 0;have c1:wr.cell? ⟨(w.heap.size+1),1,none⟩=some (.int .u8 (blkUp s 8).b1):=hA.cell? 1;have c2:wr.cell? ⟨(w.heap.size+1),2,none⟩=some (.int .u8 (blkUp s 8).b2):=hA.cell? 2;have c3:wr.cell? ⟨(w.heap.size+1),3,none⟩=some (.int .u8 (blkUp s 8).b3):=hA.cell? 3;have c4:wr.cell? ⟨(w.heap.size+1),4,none⟩=some (.int .u8 (blkUp s 8).b4):=hA.cell? 4;have c5:wr.cell? ⟨(w.heap.size+1),5,none⟩=some (.int .u8 (blkUp s 8).b5):=hA.cell? 5;have c6:wr.cell? ⟨(w.heap.size+1),6,none⟩=some (.int .u8 (blkUp s 8).b6):=hA.cell? 6;have c7:wr.cell? ⟨(w.heap.size+1),7,none⟩=some (.int .u8 (blkUp s 8).b7):=hA.cell? 7;rw[er] at c0 c1 c2 c3 c4 c5 c6 c7;have y0:wr.cell? ⟨w.heap.size,0,none⟩=some (.int .u8 0):=hZ.cell? 0;have y1:wr.cell? ⟨w.heap.size,1,none⟩=some (.int .u8 0):=hZ.cell? 1;have y2:wr.cell? ⟨w.heap.size,2,none⟩=some (.int .u8 0):=hZ.cell? 2;have y3:wr.cell? ⟨w.heap.size,3,none⟩=some (.int .u8 0):=hZ.cell? 3;have y4:wr.cell? ⟨w.heap.size,4,none⟩=some (.int .u8 0):=hZ.cell? 4;have y5:wr.cell? ⟨w.heap.size,5,none⟩=some (.int .u8 0):=hZ.cell? 5;have y6:wr.cell? ⟨w.heap.size,6,none⟩=some (.int .u8 0):=hZ.cell? 6;have y7:wr.cell? ⟨w.heap.size,7,none⟩=some (.int .u8 0):=hZ.cell? 7;have fz:=hZ.frozen;have SF:Same [] w ((((((((wr.setCell ⟨w.heap.size,0,none⟩ (.int .u8 res.b0)).setCell ⟨w.heap.size,1,none⟩ (.int .u8 res.b1)).setCell ⟨w.heap.size,2,none⟩ (.int .u8 res.b2)).setCell ⟨w.heap.size,3,none⟩ (.int .u8 res.b3)).setCell ⟨w.heap.size,4,none⟩ (.int .u8 res.b4)).setCell ⟨w.heap.size,5,none⟩ (.int .u8 res.b5)).setCell ⟨w.heap.size,6,none⟩ (.int .u8 res.b6)).setCell ⟨w.heap.size,7,none⟩ (.int .u8 res.b7)):=by
     have hx:w.heap.size < w.heap.size->w.heap.size∈([]:List Nat):=fun h=>absurd h (by omega)
     exact (((((((hS.set _ _ _ hx).set _ _ _ hx).set _ _ _ hx).set _ _ _ hx).set _ _ _ hx).set _ _ _ hx).set _ _ _ hx).set _ _ _ hx
    clear hA hZ
    go_wp2
    exact bodyPost_ret (v:=.agg #[.int .u8 res.b0,.int .u8 res.b1,.int .u8 res.b2,.int .u8 res.b3,.int .u8 res.b4,.int .u8 res.b5,.int .u8 res.b6,.int .u8 res.b7]) (by simp[results,Tryz.results49,go_sem,y0,y1,y2,y3,y4,y5,y6,y7]) rfl ⟨rfl,SF⟩
  ·have ek:k=s.size:=by omega
   have hmin:min s.size 8=k:=by omega
   have er:blkUp s k=res:=by rw[<-HR.out,hmin]
   have c0:wr.cell? ⟨(w.heap.size+1),0,none⟩=some (.int .u8 (blkUp s k).b0):=hA.cell? 0;have c1:wr.cell? ⟨(w.heap.size+1),1,none⟩=some (.int .u8 (blkUp s k).b1):=hA.cell? 1;have c2:wr.cell? ⟨(w.heap.size+1),2,none⟩=some (.int .u8 (blkUp s k).b2):=hA.cell? 2;have c3:wr.cell? ⟨(w.heap.size+1),3,none⟩=some (.int .u8 (blkUp s k).b3):=hA.cell? 3;have c4:wr.cell? ⟨(w.heap.size+1),4,none⟩=some (.int .u8 (blkUp s k).b4):=hA.cell? 4;have c5:wr.cell? ⟨(w.heap.size+1),5,none⟩=some (.int .u8 (blkUp s k).b5):=hA.cell? 5;have c6:wr.cell? ⟨(w.heap.size+1),6,none⟩=some (.int .u8 (blkUp s k).b6):=hA.cell? 6;have c7:wr.cell? ⟨(w.heap.size+1),7,none⟩=some (.int .u8 (blkUp s k).b7):=hA.cell? 7;have l3:(s.size:Int)<=(k:Int):=by omega
   rw[er] at c0 c1 c2 c3 c4 c5 c6 c7;have y0:wr.cell? ⟨w.heap.size,0,none⟩=some (.int .u8 0):=hZ.cell? 0;have y1:wr.cell? ⟨w.heap.size,1,none⟩=some (.int .u8 0):=hZ.cell? 1;have y2:wr.cell? ⟨w.heap.size,2,none⟩=some (.int .u8 0):=hZ.cell? 2;have y3:wr.cell? ⟨w.heap.size,3,none⟩=some (.int .u8 0):=hZ.cell? 3;have y4:wr.cell? ⟨w.heap.size,4,none⟩=some (.int .u8 0):=hZ.cell? 4;have y5:wr.cell? ⟨w.heap.size,5,none⟩=some (.int .u8 0):=hZ.cell? 5;have y6:wr.cell? ⟨w.heap.size,6,none⟩=some (.int .u8 0):=hZ.cell? 6;have y7:wr.cell? ⟨w.heap.size,7,none⟩=some (.int .u8 0):=hZ.cell? 7;have fz:=hZ.frozen;have SF:Same [] w ((((((((wr.setCell ⟨w.heap.size,0,none⟩ (.int .u8 res.b0)).setCell ⟨w.heap.size,1,none⟩ (.int .u8 res.b1)).setCell ⟨w.heap.size,2,none⟩ (.int .u8 res.b2)).setCell ⟨w.heap.size,3,none⟩ (.int .u8 res.b3)).setCell ⟨w.heap.size,4,none⟩ (.int .u8 res.b4)).setCell ⟨w.heap.size,5,none⟩ (.int .u8 res.b5)).setCell ⟨w.heap.size,6,none⟩ (.int .u8 res.b6)).setCell ⟨w.heap.size,7,none⟩ (.int .u8 res.b7)):=by
    have hx:w.heap.size < w.heap.size->w.heap.size∈([]:List Nat):=fun h=>absurd h (by omega)
    exact (((((((hS.set _ _ _ hx).set _ _ _ hx).set _ _ _ hx).set _ _ _ hx).set _ _ _ hx).set _ _ _ hx).set _ _ _ hx).set _ _ _ hx
   clear hA hZ
   go_wp2
   exact bodyPost_ret (v:=.agg #[.int .u8 res.b0,.int .u8 res.b1,.int .u8 res.b2,.int .u8 res.b3,.int .u8 res.b4,.int .u8 res.b5,.int .u8 res.b6,.int .u8 res.b7]) (by simp[results,Tryz.results49,go_sem,y0,y1,y2,y3,y4,y5,y6,y7]) rfl ⟨rfl,SF⟩
theorem refWrite_none(s:RSt)(t x:ByteArray)(k:Int)(w:World)(h:RefAt w s)(hc:s.atC t k≠0) :
 Calls Tryz.prog 51 #[.pointer (some ⟨s.rb,0,none⟩),.string t,.int .i64 k,.string x] w fun e w'=>e=.returned (.int .i64 (s.atC t k))/\w'=w:=by
 have hA:=refAt_none s t k w h hc;generalize s.atC t k=res at *;have hr:((res:Int) == 0)=false:=beq_eq_false_iff_ne.2 (by omega)
 go_enter Tryz.func51,Tryz.ntmps51
 go_wp2_with (first|(go_at_call 91;refine hA.mono ?_;rintro e wz ⟨rfl,rfl⟩))
 go_ret
 exact⟨rfl,rfl⟩
theorem refWrite_same(s:RSt)(t x:ByteArray)(k:Nat)(v:RVol)(w:World)(h:RefAt w s)(ha:s.at? t=some v)(hl:v.lost=false)(hk:k < v.data.length)(hx:v.data[k]! = x) :
 Calls Tryz.prog 51 #[.pointer (some ⟨s.rb,0,none⟩),.string t,.int .i64 k,.string x] w fun e w'=>e=.returned (.int .i64 0)/\w'=w:=by
 have hA:=refAt_some s t k v w h ha hl hk;obtain⟨hm,hnm⟩:=RSt.at?_mem ha;obtain⟨dc,bc,kc,hv,hdat,_⟩:=(h.vols v hm).ex;have hd:=(h.vols v hm).data;have e2:w.cell? ⟨v.vb,2,none⟩=some (.slice (some ⟨v.dg,0,none⟩) v.data.length dc):=hv.cell? 2;have ek:=hdat.cell k hk;rw[hx] at ek;have l1:(k:Int) < (v.data.length:Int):=by omega
 clear hv h hdat
 go_enter Tryz.func51,Tryz.ntmps51
 go_wp2_with (first|(go_at_call 91;refine hA.mono ?_;rintro e wz ⟨rfl,rfl⟩))
 go_ret
 exact⟨rfl,rfl⟩
theorem refResize_none(s:RSt)(t:ByteArray)(k:Int)(w:World)(h:RefAt w s)(ha:s.at? t=none) :
 Calls Tryz.prog 54 #[.pointer (some ⟨s.rb,0,none⟩),.string t,.int .i64 k] w fun e w'=>e=.returned (.int .i64 4)/\w'=w:=by
 have hF:=refFind_calls s t w h;rw[ha] at hF
 go_enter Tryz.func54,Tryz.ntmps54
 go_wp2_with (first|(go_at_call 79;refine hF.mono ?_;rintro e wz ⟨rfl,rfl⟩))
 go_ret
 exact⟨rfl,rfl⟩
theorem refResize_arg(s:RSt)(t:ByteArray)(k:Int)(v:RVol)(w:World)(h:RefAt w s)(ha:s.at? t=some v)(ho:v.of_=⟨#[]⟩)(hp:s.pics t s.vols.length=0)(hk:k < 1\/200 < k) :
 Calls Tryz.prog 54 #[.pointer (some ⟨s.rb,0,none⟩),.string t,.int .i64 k] w fun e w'=>e=.returned (.int .i64 1)/\w'=w:=by
 have hF:=refFind_calls s t w h;have hP:=refPictures_calls s t w h;rw[ha] at hF;rw[hp] at hP;obtain⟨hm,hnm⟩:=RSt.at?_mem ha;obtain⟨dc,bc,kc,hv,_⟩:=(h.vols v hm).ex;have e1:w.cell? ⟨v.vb,1,none⟩=some (.string ⟨#[]⟩):=by rw[<-ho];exact hv.cell? 1
 clear hv h;rcases hk with hk|hk
 ·go_enter Tryz.func54,Tryz.ntmps54
  go_wp2_with (first|(go_at_call 79;refine hF.mono ?_;rintro e wz ⟨rfl,rfl⟩)|(go_at_call 99;refine hP.mono ?_;rintro e wz ⟨rfl,rfl⟩))
  go_ret
  exact⟨rfl,rfl⟩
 ·have hk1:1<=k:=by omega
  go_enter Tryz.func54,Tryz.ntmps54
  go_wp2_with (first|(go_at_call 79;refine hF.mono ?_;rintro e wz ⟨rfl,rfl⟩)|(go_at_call 99;refine hP.mono ?_;rintro e wz ⟨rfl,rfl⟩))
  go_ret
  exact⟨rfl,rfl⟩
theorem refResize_full(s:RSt)(t:ByteArray)(k:Nat)(v:RVol)(w:World)(h:RefAt w s)(ha:s.at? t=some v)(ho:v.of_=⟨#[]⟩)(hp:s.pics t s.vols.length=0)(hk:1<=k/\k<=200)(hf:v.data.length+(s.freeL s.n).length < k) :
 Calls Tryz.prog 54 #[.pointer (some ⟨s.rb,0,none⟩),.string t,.int .i64 k] w fun e w'=>e=.returned (.int .i64 6)/\Same [] w w':=by
 have hF:=refFind_calls s t w h;have hP:=refPictures_calls s t w h;have hR:=refFree_calls s w h;rw[ha] at hF;rw[hp] at hP;obtain⟨hm,hnm⟩:=RSt.at?_mem ha;obtain⟨dc,bc,kc,hv,_⟩:=(h.vols v hm).ex;have hd:=(h.vols v hm).data;have e1:w.cell? ⟨v.vb,1,none⟩=some (.string ⟨#[]⟩):=by rw[<-ho];exact hv.cell? 1
 generalize s.freeL s.n=fl at *;have l1:(1:Int)<=(k:Int):=by omega
 have l2:(k:Int)<=200:=by omega
 have l3:(v.data.length:Int)+(fl.length:Int) < (k:Int):=by omega
 clear h
 go_enter Tryz.func54,Tryz.ntmps54
 go_wp2_with (first|(go_at_call 79;refine hF.mono ?_;rintro e wz ⟨rfl,rfl⟩)|(go_at_call 99;refine hP.mono ?_;rintro e wz ⟨rfl,rfl⟩)|(go_at_call 63;refine hR.mono ?_;rintro e w2 ⟨u,rfl,hown,hS⟩;obtain⟨ua,ucap,rfl⟩:=owns_form hown;have e2:w2.cell? ⟨v.vb,2,none⟩=some (.slice (some ⟨v.dg,0,none⟩) v.data.length dc):=(hS.at hv (by simp)).cell? 2))
 go_ret
 exact⟨rfl,hS⟩
theorem refCreate_name(s:RSt)(t:ByteArray)(k:Int)(w:World)(h:RefAt w s)(ht:t.size<=maxLen)(hc:s.freshC t≠0) :
 Calls Tryz.prog 48 #[.pointer (some ⟨s.rb,0,none⟩),.string t,.int .i64 k] w fun e w'=>e=.returned (.int .i64 (s.freshC t))/\w'=w:=by
 have hF:=refFresh_calls s t w h ht;generalize s.freshC t=res at *;have hr:((res:Int) == 0)=false:=beq_eq_false_iff_ne.2 (by omega)
 go_enter Tryz.func48,Tryz.ntmps48
 go_wp2_with (first|(go_at_call 84;refine hF.mono ?_;rintro e wz ⟨rfl,rfl⟩))
 go_ret
 exact⟨rfl,rfl⟩
theorem refCreate_arg(s:RSt)(t:ByteArray)(k:Int)(w:World)(h:RefAt w s)(ht:t.size<=maxLen)(hc:s.freshC t=0)(hk:k < 1\/200 < k) :
 Calls Tryz.prog 48 #[.pointer (some ⟨s.rb,0,none⟩),.string t,.int .i64 k] w fun e w'=>e=.returned (.int .i64 1)/\w'=w:=by
 have hF:=refFresh_calls s t w h ht;rw[hc] at hF;rcases hk with hk|hk
 ·go_enter Tryz.func48,Tryz.ntmps48
  go_wp2_with (first|(go_at_call 84;refine hF.mono ?_;rintro e wz ⟨rfl,rfl⟩))
  go_ret
  exact⟨rfl,rfl⟩
 ·have hk1:1<=k:=by omega
  go_enter Tryz.func48,Tryz.ntmps48
  go_wp2_with (first|(go_at_call 84;refine hF.mono ?_;rintro e wz ⟨rfl,rfl⟩))
  go_ret
  exact⟨rfl,rfl⟩
theorem Tryz.infoStr:(Tryz.prog.info? 9).map (fun i=>(i.zero,i.size,i.bytes))=some (some (.string ⟨#[]⟩),1,16):=by kernel_rfl
structure Bare(w:World)(vb:Nat)(t of_:ByteArray)(base:Nat)(data:List ByteArray):Prop where
 ex:∃u,At w vb 118 [.string t,.string of_,u,.slice none 0 0,.slice none 0 0,.bool false]/\w.ownsRow base 9 1 u data.length (data.map Value.string)
theorem refCreate_add(s:RSt)(t:ByteArray)(n:Nat)(w:World)(h:RefAt w s)(ht:t.size<=maxLen)(hc:s.freshC t=0)(hn:1<=n/\n<=200)(Q:Ending->World->Prop)
 (hadd:∀w',Same [] w w'->Bare w' w.heap.size t ⟨#[]⟩ (w.heap.size+1) (List.replicate n zero8) ->
  Calls Tryz.prog 85 #[.pointer (some ⟨s.rb,0,none⟩),.pointer (some ⟨w.heap.size,0,none⟩),.int .i64 n] w' fun e w''=>∃c:Int,e=.returned (.int .i64 c)/\Q (.returned (.int .i64 c)) w'') :
 Calls Tryz.prog 48 #[.pointer (some ⟨s.rb,0,none⟩),.string t,.int .i64 n] w Q:=by
 have hF:=refFresh_calls s t w h ht;rw[hc] at hF;have l1:(1:Int)<=(n:Int):=by omega
 have l2:(n:Int)<=200:=by omega
 obtain⟨i0,hi,hz0,hz1,hz2⟩:=info_parts Tryz.infoStr;have HADD:Hid (∀w',Same [] w w'->Bare w' w.heap.size t ⟨#[]⟩ (w.heap.size+1) (List.replicate n zero8) ->
  Calls Tryz.prog 85 #[.pointer (some ⟨s.rb,0,none⟩),.pointer (some ⟨w.heap.size,0,none⟩),.int .i64 n] w' fun e w''=>∃c:Int,e=.returned (.int .i64 c)/\Q (.returned (.int .i64 c)) w''):=hadd
 clear hadd
 go_enter Tryz.func48,Tryz.ntmps48
 go_wp2_with (first|(go_at_call 84;refine hF.mono ?_;rintro e wz ⟨rfl,rfl⟩))
 clear hF h
 go_loopw [9] (fun i wr=>∃k:Nat,k<=n/\i=.int .i64 k/\Same [] wz wr/\wz.heap.size+1<=wr.heap.size/\Bare wr wz.heap.size t ⟨#[]⟩ (wz.heap.size+1) (List.replicate k zero8))
  (fun i _=>n - (intOf i).toNat)
 case atStart=>exact⟨0,Nat.zero_le _,rfl,(Same.refl _ _).alloc _,by simp,⟨_,At.new wz _ _,World.ownsRow_nil _ _ _ _⟩⟩
 case round=>
  obtain⟨k,hk,rfl,hS,hsz,hB⟩:=hrel;by_cases hkl:k < n
  ·obtain⟨u,hA,hown⟩:=hB.ex;obtain⟨ua,ucap,rfl⟩:=owns_form hown;rw[List.length_replicate] at hown hA;have e2:wr.cell? ⟨wz.heap.size,2,none⟩=some (.slice ua k ucap):=hA.cell? 2;have l3:(k:Int) < (n:Int):=by omega
   clear hB
   go_wp2_with (at_builtin;refine wpList_append_own _ rfl _ _ 116 rfl (wz.heap.size+1) 9 i0 (.string ⟨#[]⟩) 1 16 Tryz.underlying116 hi hz0 hz1 hz2 rfl (by decide) _ _ _ rfl (hown.alloc _) ⟨wr.heap.size,0,none⟩ 1 1 [.string zero8] rfl rfl ?c1 ?c2 ?c3 ?c4 ?c5 ?_)
   case c1=>
    intro j u hj
    match j,hj with
    | 0,hj=>simp at hj;subst hj;simp[Addr.add,zero8]
   case c2=>intro u hu;simp at hu;subst hu;rfl
   case c3=>unfold maxLen;omega
   case c4=>omega
   case c5=>simp;omega
   intro v' w4 hown' hgrow _;have S4:Same [] wz w4:=(hS.alloc _).grown hgrow (fun i hi hl=>by have:=(hown.lt i hi).1;omega);have A4:=(hA.alloc (.cells #[.string zero8] 9)).of_heap (hgrow.block _ (hA.alloc _).lt (fun e=>by have:=(hown.lt _ e.symm).1;omega));have Z4:wz.heap.size+1<=w4.heap.size:=by have:=hgrow.size;simp at this;omega
   have f4:=A4.frozen 2;have g4:w4.cell? ⟨wz.heap.size,2,none⟩=some (.slice ua k ucap):=A4.cell? 2;have hown2:w4.ownsRow (wz.heap.size+1) 9 1 v' (List.replicate (k+1) zero8).length ((List.replicate (k+1) zero8).map Value.string):=by
    rw[List.length_replicate,List.replicate_succ',List.map_append];simpa [List.map_replicate] using hown'
   obtain⟨va,vcap,rfl⟩:=owns_form hown';have S5:Same [] wz (w4.setCell ⟨wz.heap.size,2,none⟩ (.slice va (k+1) vcap)):=S4.set _ _ _ (by intro h;omega);have S6:Same [wz.heap.size] w4 (w4.setCell ⟨wz.heap.size,2,none⟩ (.slice va (k+1) vcap)):=(Same.refl _ _).set _ _ _ (by simp);have B5:Bare (w4.setCell ⟨wz.heap.size,2,none⟩ (.slice va (k+1) vcap)) wz.heap.size t ⟨#[]⟩ (wz.heap.size+1) (List.replicate (k+1) zero8):=
    ⟨_,A4.set_same 2 _,owns_same hown2 S6 (by simp)⟩
   have Z5:wz.heap.size+1<=(w4.setCell ⟨wz.heap.size,2,none⟩ (.slice va (k+1) vcap)).heap.size:=by have:=S6.size;omega
   clear hown hown' hown2 hgrow hA A4 S4 S6 hS e2
   go_wp2
   go_roundw
   case rel=>exact⟨k+1,by omega,by go_num,S5,Z5,B5⟩
   case measure=>simp[intOf];omega
  ·have ek:k=n:=by omega
   subst ek;have hAd:=HADD.out wr hS hB;clear HADD hB
   go_wp2_with (go_at_call 85;refine hAd.mono ?_;rintro e w2 ⟨c,rfl,hQ⟩)
   first
    | exact hQ
    | (go_ret;exact hQ)
theorem refAdd_many(s:RSt)(vb n:Nat)(w:World)(h:RefAt w s)(hm:20<=s.vols.length) :
 Calls Tryz.prog 85 #[.pointer (some ⟨s.rb,0,none⟩),.pointer (some ⟨vb,0,none⟩),.int .i64 n] w fun e w'=>e=.returned (.int .i64 5)/\w'=w:=by
 obtain⟨cap,hp,h1,h2⟩:=h.pool;have c1:w.cell? ⟨s.rb,1,none⟩=some (.slice (s.lg.map fun b=>⟨b,0,none⟩) s.vols.length cap):=hp.cell? 1;have hfew:=h.few;have l1:(20:Int)<=(s.vols.length:Int):=by omega
 clear h hp
 go_enter Tryz.func85,Tryz.ntmps85
 go_wp2
 go_ret
 exact⟨rfl,rfl⟩
theorem refAdd_full(s:RSt)(vb n:Nat)(w:World)(h:RefAt w s)(hm:s.vols.length < 20)(hf:(s.freeL s.n).length < n)(hn:n<=200) :
 Calls Tryz.prog 85 #[.pointer (some ⟨s.rb,0,none⟩),.pointer (some ⟨vb,0,none⟩),.int .i64 n] w fun e w'=>e=.returned (.int .i64 6)/\Same [] w w':=by
 have hR:=refFree_calls s w h;obtain⟨cap,hp,h1,h2⟩:=h.pool;have c1:w.cell? ⟨s.rb,1,none⟩=some (.slice (s.lg.map fun b=>⟨b,0,none⟩) s.vols.length cap):=hp.cell? 1;have l1:(s.vols.length:Int) < 20:=by omega
 generalize s.freeL s.n=fl at *;have l2:(fl.length:Int) < (n:Int):=by omega
 clear h hp
 go_enter Tryz.func85,Tryz.ntmps85
 go_wp2_with (first|(go_at_call 63;refine hR.mono ?_;rintro e w2 ⟨u,rfl,hown,hS⟩;obtain⟨ua,ucap,rfl⟩:=owns_form hown))
 go_ret
 exact⟨rfl,hS⟩
end
end Go.Proofs.YtpddgdjocffgdaaGreat
