/- A Pool: insert, by a contract. A Pool: its state in order, and how it changes when a volume comes. Of a Pool's names and what is told of it; a row appended to a row. The document's own answer (package strataref): its state in memory; IsName, find, taken, free, by contracts. The document's own answer: IsName, taken, free, by contracts. The document's own answer: fresh, at, Read, Map, keeps, pictures, by contracts. -/
import Derived.Test.YtpddgdjocffgdaaGreatJ03
import Derived.Test.YtpddgdjocffgdaaGreatJ02
namespace Go.Proofs.YtpddgdjocffgdaaGreat
set_option linter.unusedVariables false
set_option linter.unusedSimpArgs false
set_option linter.unusedSectionVars false
set_option maxHeartbeats 16000000
set_option maxRecDepth 100000
section
open Go.RowKit Go.Sort
variable [DecidableEq Blk] [Inhabited Blk] [Inhabited Vol]
theorem wpList_append_none{P:Program}(w:World){ops:Array Oper}{rest:List Oper}{o:Oper}{a:Act}{Q:Exit->Act->World->Prop}
 (hg:o.guard=none) (s x:Operand) (t:TypeId) (hop:o.op=Op.call { callee:=Callee.builtin Builtin.append,args:=#[s,x],argTypes:=#[t,t] })
 (base:Nat) (e:TypeId) (i:TypeInfo) (size:Nat) (h1:P.underlying t=some (.slice e)) (h2:P.info? e=some i)
 (v:Value) (n:Nat) (xs:List Value) (hs:a.eval s=v) (hown:w.ownsRow base e size v n xs) (hx:a.eval x=.slice none 0 0)
 (hK:wpList P ops Q rest (a.put o.dst v) w):wpList P ops Q (o :: rest) a w:=by
 refine wpList_plain hg fun K hK'=>?_
 have hrun:=run_append_owned_none (P:=P) w base t o.type e i size h1 h2 v n xs hown;unfold Oper.wp;simp[execOp,hop,resolve,invoke,builtin,hs,hx,hrun,Result.andThen];exact hK' _ _ hK
theorem Tryz.info59:(Tryz.prog.info? 110).map (fun i=>(i.zero,i.size,i.bytes))=some (some (.pointer none),1,8):=by kernel_rfl
theorem ptrs_one(vs:List Vol):∀u∈vs.map (fun v=>ptr v.vb),u.oneCell'=true:=by
 intro u hu;obtain⟨x,_,rfl⟩:=List.mem_map.1 hu;rfl
structure ArrAt(w w':World)(s:St)(ps:List Value):Prop where
 ex:∃g cap cs,w.heap.size<=g/\At w' s.pb 87 [ptr s.pb,ptr s.db,.slice (some ⟨g,0,none⟩) ps.length cap]/\ps.length<=cap/\At w' g 110 cs/\cs.take ps.length=ps/\ps.length<=cs.length
 same:Same [s.pb] w w'
theorem arrAt_of(s:St)(w w1:World)(ps:List Value)(a:Option Addr)(cap base:Nat)(v0:Value)(P1:At w1 s.pb 87 [ptr s.pb,ptr s.db,v0])(S1:Same [s.pb] w w1)
 (hown:w1.ownsRow base 110 1 (.slice a ps.length cap) ps.length ps) (hne:ps.length≠0) (hb:w.heap.size<=base):ArrAt w (w1.setCell ⟨s.pb,2,none⟩ (.slice a ps.length cap)) s ps:=by
 obtain⟨g,cs,rfl,hg,hA,hcl,ht⟩:=owns_atN hown hne;have hle:=owns_le hown;have hlt:s.pb < w.heap.size\/w.heap.size<=s.pb:=by omega
 have hgp:g≠s.pb:=by
  intro e;subst e;obtain⟨_,e2⟩:=P1.inj hA;have:(cs.take (ps.length * 1)).length=ps.length:=by rw[ht]
  rw[<-e2] at ht hcl;cases ps with
  | nil=>exact hne rfl
  | cons p r=>
   have e3:=P1.inj hA;simp at e3
 refine⟨⟨g,cap,cs,by omega,P1.set_same 2 _,hle,hA.set_other s.pb 2 _ hgp,by simpa using ht,by omega⟩,S1.set s.pb 2 _ (by simp)⟩
theorem insert_nil(s:St)(vb:Nat)(w:World)(h:PoolAt w s)(hab:s.ab=none) :
 Calls Tryz.prog 118 #[.pointer (some ⟨s.pb,0,none⟩),.int .i64 0,.pointer (some ⟨vb,0,none⟩)] w fun e w'=>e=.returned (.tuple #[])/\ArrAt w w' s [ptr vb]:=by
 have hv0:=h.none_nil hab;obtain⟨cap,hp,hl,hc⟩:=h.pool;rw[hab,hv0] at hp;have ec:=hc hab;subst ec;have c2:w.cell? ⟨s.pb,2,none⟩=some (.slice none 0 0):=hp.cell? 2;have lp:=hp.lt;obtain⟨i0,hi,hz0,hz1,hz2⟩:=info_parts Tryz.info59;clear h hc hl
 go_enter Tryz.func118,Tryz.ntmps118
 go_wp2_with (at_builtin;refine wpList_append_own _ rfl (.tmp 13) (.tmp 15) 85 rfl w.heap.size 110 i0 (.pointer none) 1 8 Tryz.underlying85 hi hz0 hz1 hz2 rfl (by decide) _ _ _ rfl (World.ownsRow_nil _ _ _ _) ⟨w.heap.size,0,none⟩ 1 1 [ptr vb] rfl rfl ?c1 ?c2 ?c3 ?c4 ?c5 ?_)
 case c1=>
  intro j u hj
  match j,hj with
  | 0,hj=>simp at hj;subst hj;simp[Addr.add,ptr]
 case c2=>intro u hu;simp at hu;subst hu;rfl
 case c3=>unfold maxLen;omega
 case c4=>omega
 case c5=>simp
 intro v' w1 hown hgrow _;have P1:At w1 s.pb _ _:=(hp.alloc _).of_heap (hgrow.block s.pb (hp.alloc _).lt (by simp[Value.ownBlock]));have S1:Same [s.pb] w w1:=((Same.refl _ _).alloc _).grown hgrow (by simp[Value.ownBlock]);have d2:w1.cell? ⟨s.pb,2,none⟩=some (.slice none 0 0):=P1.cell? 2;have f2:w1.frozen? ⟨s.pb,2,none⟩=false:=P1.frozen 2;obtain⟨a',cap',rfl⟩:=owns_form hown;have hA:=arrAt_of s w w1 [ptr vb] a' cap' _ _ P1 S1 (by simpa using hown) (by simp) (Nat.le_refl _);clear hgrow c2 hp
 go_wp2_with (at_builtin;refine wpList_append_none _ rfl (.tmp 18) (.tmp 24) 85 rfl w.heap.size 110 i0 1 Tryz.underlying85 hi _ _ _ rfl hown rfl ?_)
 refine bodyPost_end (results_none rfl _ _ _) rfl ⟨rfl,hA⟩
theorem insert_some(s:St)(vb b i:Nat)(w:World)(h:PoolAt w s)(hab:s.ab=some b)(hil:i<=s.vols.length) :
 Calls Tryz.prog 118 #[.pointer (some ⟨s.pb,0,none⟩),.int .i64 i,.pointer (some ⟨vb,0,none⟩)] w fun e w'=>e=.returned (.tuple #[])/\ArrAt w w' s ((s.vols.take i).map (fun v=>ptr v.vb)++[ptr vb]++(s.vols.drop i).map (fun v=>ptr v.vb)):=by
 obtain⟨cap,hp,hl,hc⟩:=h.pool;rw[hab] at hp;obtain⟨cs,hB,hcs,hcl⟩:=h.arr b hab;have c2:w.cell? ⟨s.pb,2,none⟩=some (.slice (some ⟨b,0,none⟩) s.vols.length cap):=hp.cell? 2;have lp:=hp.lt;have lbb:=hB.lt;have hfew:=h.few;obtain⟨i0,hi,hz0,hz1,hz2⟩:=info_parts Tryz.info59;clear hc
 go_enter Tryz.func118,Tryz.ntmps118
 go_wp2_with (at_builtin;refine wpList_append_grows _ rfl (.tmp 13) (.tmp 15) 85 rfl 110 i0 (.pointer none) 1 8 Tryz.underlying85 hi hz0 hz1 hz2 rfl (by decide) (some ⟨b,0,none⟩) i i ((s.vols.take i).map (fun v=>ptr v.vb)) rfl (by intro h;cases h) ?lo ?olds ⟨w.heap.size,0,none⟩ 1 1 [ptr vb] rfl rfl ?c1 ?c2 ?full ?c3 ?c4 ?_)
 case lo=>simp;omega
 case olds=>
  intro b1 hb1 j u hj;simp only[Option.some.injEq] at hb1;subst hb1;have hj2:j < i:=by
   rcases Nat.lt_or_ge j i with h'|h'
   ·exact h'
   ·rw[List.getElem?_eq_none (by simp;omega)] at hj;cases hj
  rw[Addr.add_lit,Nat.zero_add,(hB.alloc _).cell?];have e1:(cs.take s.vols.length)[j]? = cs[j]?:=by rw[List.getElem?_take,if_pos (by omega)]
  rw[<-e1,hcs,<-hj,List.map_take,List.getElem?_take,if_pos hj2]
 case c1=>
  intro j u hj
  match j,hj with
  | 0,hj=>simp at hj;subst hj;simp[Addr.add,ptr]
 case c2=>intro u hu;simp at hu;subst hu;rfl
 case full=>omega
 case c3=>unfold maxLen;omega
 case c4=>omega
 intro v' w1 hown hgrow;have P1:At w1 s.pb _ _:=(hp.alloc _).of_heap (hgrow.block s.pb (hp.alloc _).lt (by simp));have B1:At w1 b _ _:=(hB.alloc _).of_heap (hgrow.block b (hB.alloc _).lt (by simp));have S1:Same [s.pb] w w1:=((Same.refl _ _).alloc _).grown hgrow (by simp);have d2:w1.cell? ⟨s.pb,2,none⟩=some (.slice (some ⟨b,0,none⟩) s.vols.length cap):=P1.cell? 2;obtain⟨a',cap',rfl⟩:=owns_form hown;have hsz1:=P1.lt;have hsz2:=hgrow.size;simp at hsz2;clear hgrow c2;by_cases hlt:i < s.vols.length
 ·have l1:(i:Int) < (s.vols.length:Int):=by omega
  go_wp2_with (at_builtin;refine wpList_append_own _ rfl (.tmp 18) (.tmp 24) 85 rfl (w.heap.size+1) 110 i0 (.pointer none) 1 8 Tryz.underlying85 hi hz0 hz1 hz2 rfl (by decide) _ _ _ rfl hown ⟨b,i,none⟩ (s.vols.length - i) (cap - i) ((s.vols.drop i).map (fun v=>ptr v.vb)) rfl ?n1 ?c1 ?c2 ?c3 ?c4 ?c5 ?_)
  case n1=>simp
  case c1=>
   intro j u hj;have hj2:i+j < s.vols.length:=by
    rcases Nat.lt_or_ge (i+j) s.vols.length with h'|h'
    ·exact h'
    ·rw[List.getElem?_eq_none (by simp;omega)] at hj;cases hj
   rw[Addr.add_lit,B1.cell?];have e1:(cs.take s.vols.length)[i+j]? = cs[i+j]?:=by rw[List.getElem?_take,if_pos (by omega)]
   rw[<-e1,hcs,<-hj,List.map_drop,List.getElem?_drop]
  case c2=>exact ptrs_one _
  case c3=>unfold maxLen;omega
  case c4=>omega
  case c5=>omega
  intro v'' w2 hown2 hgrow2 _;have hr:=owns_row hown;have P2:At w2 s.pb _ _:=P1.of_heap (hgrow2.block s.pb hsz1 (fun e=>by have:=hr s.pb e.symm;omega));have S2:Same [s.pb] w w2:=S1.grown hgrow2 (fun j hj hl=>by have:=hr j hj;omega);have f2:w2.frozen? ⟨s.pb,2,none⟩=false:=P2.frozen 2;have e2:w2.cell? ⟨s.pb,2,none⟩=some (.slice (some ⟨b,0,none⟩) s.vols.length cap):=P2.cell? 2;have hl2:((s.vols.take i).map (fun v=>ptr v.vb)++[ptr vb]++(s.vols.drop i).map (fun v=>ptr v.vb)).length=i+1+(s.vols.length - i):=by simp;omega
  have hown3:w2.ownsRow (w.heap.size+1) 110 1 v'' (i+1+(s.vols.length - i)) ((s.vols.take i).map (fun v=>ptr v.vb)++[ptr vb]++(s.vols.drop i).map (fun v=>ptr v.vb)):=by
   simpa [List.map_take,List.map_drop] using hown2
  obtain⟨a2,cap2,rfl⟩:=owns_form hown3;rw[<-hl2] at hown3;have hA:=arrAt_of s w w2 _ a2 cap2 _ _ P2 S2 hown3 (by rw[hl2];omega) (by omega);rw[hl2] at hA;clear hown hown2 hown3 hgrow2 P1 B1 S1 d2 P2 S2 hr hcs hB h
  go_wp2
  refine bodyPost_end (results_none rfl _ _ _) rfl ⟨rfl,hA⟩
 ·have e:i=s.vols.length:=by omega
  subst e;obtain⟨g',cs',rfl,_,_,_,_⟩:=owns_atN hown (by omega);by_cases hc0:cap=s.vols.length
  ·subst hc0
   go_wp2_with (at_builtin;refine wpList_append_own _ rfl (.tmp 18) (.tmp 24) 85 rfl (w.heap.size+1) 110 i0 (.pointer none) 1 8 Tryz.underlying85 hi hz0 hz1 hz2 rfl (by decide) _ _ _ rfl hown ⟨b,0,none⟩ 0 0 [] rfl ?n1 ?c1 ?c2 ?c3 ?c4 ?c5 ?_)
   case n1=>simp
   case c1=>intro j u hj;simp at hj
   case c2=>intro u hu;simp at hu
   case c3=>unfold maxLen;omega
   case c4=>omega
   case c5=>omega
   intro v'' w2 hown2 hgrow2 _;have hr:=owns_row hown;have P2:At w2 s.pb _ _:=P1.of_heap (hgrow2.block s.pb hsz1 (fun e=>by have:=hr s.pb e.symm;omega));have S2:Same [s.pb] w w2:=S1.grown hgrow2 (fun j hj hl=>by have:=hr j hj;omega);have f2:w2.frozen? ⟨s.pb,2,none⟩=false:=P2.frozen 2;have e2:w2.cell? ⟨s.pb,2,none⟩=some (.slice (some ⟨b,0,none⟩) s.vols.length s.vols.length):=P2.cell? 2;have hl2:((s.vols.take s.vols.length).map (fun v=>ptr v.vb)++[ptr vb]++(s.vols.drop s.vols.length).map (fun v=>ptr v.vb)).length=s.vols.length+1:=by simp
   have hown3:w2.ownsRow (w.heap.size+1) 110 1 v'' (s.vols.length+1) ((s.vols.take s.vols.length).map (fun v=>ptr v.vb)++[ptr vb]++(s.vols.drop s.vols.length).map (fun v=>ptr v.vb)):=by
    rw[<-List.map_take,List.take_length] at hown2;simpa using hown2
   obtain⟨a2,cap2,rfl⟩:=owns_form hown3;rw[<-hl2] at hown3;have hA:=arrAt_of s w w2 _ a2 cap2 _ _ P2 S2 hown3 (by rw[hl2];omega) (by omega);rw[hl2] at hA;clear hown hown2 hown3 hgrow2 P1 B1 S1 d2 P2 S2 hr hcs hB h
   go_wp2
   refine bodyPost_end (results_none rfl _ _ _) rfl ⟨rfl,hA⟩
  ·have hc1:s.vols.length < cap:=by omega
   go_wp2_with (at_builtin;refine wpList_append_own _ rfl (.tmp 18) (.tmp 24) 85 rfl (w.heap.size+1) 110 i0 (.pointer none) 1 8 Tryz.underlying85 hi hz0 hz1 hz2 rfl (by decide) _ _ _ rfl hown ⟨b,s.vols.length,none⟩ 0 (cap - s.vols.length) [] rfl ?n1 ?c1 ?c2 ?c3 ?c4 ?c5 ?_)
   case n1=>simp
   case c1=>intro j u hj;simp at hj
   case c2=>intro u hu;simp at hu
   case c3=>unfold maxLen;omega
   case c4=>omega
   case c5=>omega
   intro v'' w2 hown2 hgrow2 _;have hr:=owns_row hown;have P2:At w2 s.pb _ _:=P1.of_heap (hgrow2.block s.pb hsz1 (fun e=>by have:=hr s.pb e.symm;omega));have S2:Same [s.pb] w w2:=S1.grown hgrow2 (fun j hj hl=>by have:=hr j hj;omega);have f2:w2.frozen? ⟨s.pb,2,none⟩=false:=P2.frozen 2;have e2:w2.cell? ⟨s.pb,2,none⟩=some (.slice (some ⟨b,0,none⟩) s.vols.length cap):=P2.cell? 2;have hl2:((s.vols.take s.vols.length).map (fun v=>ptr v.vb)++[ptr vb]++(s.vols.drop s.vols.length).map (fun v=>ptr v.vb)).length=s.vols.length+1:=by simp
   have hown3:w2.ownsRow (w.heap.size+1) 110 1 v'' (s.vols.length+1) ((s.vols.take s.vols.length).map (fun v=>ptr v.vb)++[ptr vb]++(s.vols.drop s.vols.length).map (fun v=>ptr v.vb)):=by
    rw[<-List.map_take,List.take_length] at hown2;simpa using hown2
   obtain⟨a2,cap2,rfl⟩:=owns_form hown3;rw[<-hl2] at hown3;have hA:=arrAt_of s w w2 _ a2 cap2 _ _ P2 S2 hown3 (by rw[hl2];omega) (by omega);rw[hl2] at hA;clear hown hown2 hown3 hgrow2 P1 B1 S1 d2 P2 S2 hr hcs hB h
   go_wp2
   refine bodyPost_end (results_none rfl _ _ _) rfl ⟨rfl,hA⟩
theorem countP_split{α:Type}(p:α->Bool):∀(l:List α),l.Pairwise (fun a b=>p b=true->p a=true)->(∀x∈l.take (l.countP p),p x=true)/\(∀x∈l.drop (l.countP p),p x=false)
 | [],_=>by simp
 | a :: r,h=>by
  obtain⟨h1,h2⟩:=List.pairwise_cons.1 h;obtain⟨i1,i2⟩:=countP_split p r h2;cases ha:p a with
  | true=>
   rw[List.countP_cons_of_pos ha];simp only[List.take_succ_cons,List.drop_succ_cons,List.mem_cons];exact⟨fun x hx=>by
    rcases hx with rfl|hx
    ·exact ha
    ·exact i1 x hx,i2⟩
  | false=>
   have hr:∀x∈r,p x=false:=fun x hx=>by
    cases hx':p x with
    | false=>rfl
    | true=>have:=h1 x hx hx';rw[ha] at this;cases this
   have e:(a :: r).countP p=0:=by
    rw[List.countP_eq_zero];intro x hx;rcases List.mem_cons.1 hx with rfl|hx
    ·simp[ha]
    ·simp[hr x hx]
   rw[e];simp only[List.take_zero,List.drop_zero,List.mem_cons];exact⟨fun x hx=>by simp at hx,fun x hx=>by
    rcases hx with rfl|hx
    ·exact ha
    ·exact hr x hx⟩
theorem cmpL_neg:∀(a b:List UInt8),Lib.compareBytes b a=- Lib.compareBytes a b
 | [],[]=>rfl
 | [],_ :: _=>rfl
 | _ :: _,[]=>rfl
 | x :: a,y :: b=>by
  have ih:=cmpL_neg a b;unfold Lib.compareBytes;by_cases hxy:x < y
  ·have:¬y < x:=fun h=>UInt8.lt_irrefl _ (UInt8.lt_trans hxy h)
   rw[if_pos hxy,if_neg this,if_pos hxy];rfl
  ·by_cases hyx:y < x
   ·rw[if_pos hyx,if_neg hxy,if_pos hyx]
   ·rw[if_neg hyx,if_neg hxy,if_neg hxy,if_neg hyx,ih]
theorem cmpB_neg(a b:ByteArray):cmpB b a=- cmpB a b:=cmpL_neg _ _
theorem cmpB_self(a:ByteArray):cmpB a a=0:=(cmpB_zero a a).2 rfl
theorem names_mono{ns:List ByteArray}(t:ByteArray)(h:ns.Pairwise fun a b=>cmpB a b < 0):ns.Pairwise fun a b=>decide (cmpB b t < 0)=true->decide (cmpB a t < 0)=true:=
 h.imp fun {a b} hab hb=>by simp at hb ⊢;exact cmpB_trans a b t hab hb
theorem isIn_iff{ns:List ByteArray}(h:ns.Pairwise fun a b=>cmpB a b < 0)(t:ByteArray):isIn ns t=true↔t∈ns:=by
 obtain⟨s1,s2⟩:=countP_split (fun n=>decide (cmpB n t < 0)) ns (names_mono t h);have hp:ns.countP (fun n=>decide (cmpB n t < 0))=posOf ns t:=rfl;rw[hp] at s1 s2;unfold isIn;simp only[Bool.and_eq_true,decide_eq_true_eq]
 constructor
 ·rintro ⟨hl,he⟩;rw[getElem!_pos ns _ hl] at he;rw[<-(cmpB_zero _ _).1 he];exact List.getElem_mem hl
 ·intro ht;have hd:t∈ns.drop (posOf ns t):=by
   have:=List.take_append_drop (posOf ns t) ns;rw[<-this] at ht;rcases List.mem_append.1 ht with ht|ht
   ·have:=s1 t ht;rw[cmpB_self] at this;simp at this
   ·exact ht
  have hl:posOf ns t < ns.length:=by
   have:=List.length_pos_of_mem hd;simp at this;omega
  refine⟨hl,?_⟩;rw[getElem!_pos ns _ hl];rw[List.drop_eq_getElem_cons hl] at hd;rcases List.mem_cons.1 hd with e|hd
  ·rw[<-e];exact cmpB_self t
  ·have hpw:(ns.drop (posOf ns t)).Pairwise fun a b=>cmpB a b < 0:=h.sublist (List.drop_sublist _ _)
   rw[List.drop_eq_getElem_cons hl] at hpw;have h1:=(List.pairwise_cons.1 hpw).1 t hd;have h2:=s2 (ns[posOf ns t]) (by rw[List.drop_eq_getElem_cons hl];exact List.mem_cons_self);simp at h2;omega
def insVol(i:Nat)(v:Vol)(l:List Vol):List Vol:=l.take i++v :: l.drop i
theorem insVol_sorted(s:List Vol)(v:Vol)(h:s.Pairwise fun a b=>cmpB a.name b.name < 0)(hn:isIn (s.map (·.name)) v.name=false):(insVol (posOf (s.map (·.name)) v.name) v s).Pairwise fun a b=>cmpB a.name b.name < 0:=by
 have hpn:(s.map (·.name)).Pairwise fun a b=>cmpB a b < 0:=by rw[List.pairwise_map];exact h
 obtain⟨s1,s2⟩:=countP_split (fun n=>decide (cmpB n v.name < 0)) (s.map (·.name)) (names_mono v.name hpn);have hp:(s.map (·.name)).countP (fun n=>decide (cmpB n v.name < 0))=posOf (s.map (·.name)) v.name:=rfl;rw[hp] at s1 s2;have hni:v.name∉s.map (·.name):=fun hm=>by rw[(isIn_iff hpn v.name).2 hm] at hn;cases hn
 generalize posOf (s.map (·.name)) v.name=i at *;have t1:∀x∈s.take i,cmpB x.name v.name < 0:=fun x hx=>by
  have:=s1 x.name (by rw[<-List.map_take];exact List.mem_map_of_mem hx);simpa using this
 have t2:∀x∈s.drop i,cmpB v.name x.name < 0:=fun x hx=>by
  have h1:=s2 x.name (by rw[<-List.map_drop];exact List.mem_map_of_mem hx);have h2:cmpB x.name v.name≠0:=fun e=>hni (by
   rw[<-(cmpB_zero _ _).1 e];exact List.mem_map_of_mem (List.mem_of_mem_drop hx))
  simp at h1;rw[cmpB_neg x.name v.name];omega
 unfold insVol;have hw:=h;rw[<-List.take_append_drop i s,List.pairwise_append] at hw;obtain⟨a1,a2,a3⟩:=hw;rw[List.pairwise_append];refine⟨a1,List.pairwise_cons.2 ⟨t2,a2⟩,fun a ha b hb=>?_⟩;rcases List.mem_cons.1 hb with rfl|hb
 ·exact t1 a ha
 ·exact a3 a ha b hb
def Pics(l:List Vol):Prop:=∀v∈l,v.kept.Nodup/\(v.lost=true->v.kept=[])/\∀u∈l,v.org=some u.vb->(∀k∈v.kept,k < u.xs.length)/\v.xs.length<=u.xs.length
structure Good(s:St)(fr:List Nat):Prop where
 heap:HeapIs s.m s.d fr
 parts:(fr++s.vols.flatMap (·.xs)).Perm (List.range s.n)
 zero:∀x∈fr,s.bl[x]! = Blk.zero
 names:∀v∈s.vols,nameB v.name=true
 pics:Pics s.vols
structure After(w:World)(s:St)(w':World)(s':St)(fr':List Nat):Prop where
 pool:PoolAt w' s'
 good:Good s' fr'
 same:Same s.foot w w'
 foot:∀k∈s'.foot,k∈s.foot\/w.heap.size<=k
 pb:s'.pb=s.pb
 n:s'.n=s.n
theorem Good.lt{s:St}{fr:List Nat}(h:Good s fr):(∀x∈fr,x < s.n)/\(∀v∈s.vols,∀x∈v.xs,x < s.n):=by
 refine⟨fun x hx=>?_,fun v hv x hx=>?_⟩
 ·exact List.mem_range.1 (h.parts.mem_iff.1 (List.mem_append_left _ hx))
 ·exact List.mem_range.1 (h.parts.mem_iff.1 (List.mem_append_right _ (List.mem_flatMap.2 ⟨v,hv,hx⟩)))
theorem Good.nodup{s:St}{fr:List Nat}(h:Good s fr):(fr++s.vols.flatMap (·.xs)).Nodup:=h.parts.nodup_iff.2 List.nodup_range
theorem mem_getElem!{xs:List Nat}{k:Nat}(h:k < xs.length):xs[k]!∈xs:=by rw[getElem!_pos xs k h];exact List.getElem_mem h
theorem holder_mem{w:World}{s:St}(h:PoolAt w s){v:Vol}(hv:v∈s.vols){k:Nat}(hk:k < s.size v):∃u∈s.vols,s.holder v k∈u.xs:=by
 unfold St.holder
 split
 ·rename_i hm
  exact⟨v,hv,mem_getElem! (Nat.lt_of_lt_of_le (idxOf_lt hm) (h.vols v hv).room)⟩
 ·exact⟨s.orgOf v,(h.orgOf hv).1,mem_getElem! hk⟩
theorem holder_lt{w:World}{s:St}(h:PoolAt w s){fr:List Nat}(hG:Good s fr){v:Vol}(hv:v∈s.vols){k:Nat}(hk:k < s.size v):s.holder v k < s.n:=by
 obtain⟨u,hu,hm⟩:=holder_mem h hv hk;exact hG.lt.2 u hu _ hm
theorem giveB_zero(xs:List Nat):∀(bl:List Blk),(∀x∈xs,x < bl.length/\bl[x]! = Blk.zero)->giveB xs bl=bl:=by
 induction xs with
 | nil=>intro bl _;rfl
 | cons x r ih=>
  intro bl h;obtain⟨hl,hx⟩:=h x (by simp);have e:bl.set x Blk.zero=bl:=by
   rw[<-hx,getElem!_pos bl x hl];simp
  have e2:giveB (x :: r) bl=giveB r (bl.set x Blk.zero):=rfl;rw[e2,e];exact ih bl fun y hy=>h y (by simp[hy])
theorem insVol_perm(i:Nat)(v:Vol)(l:List Vol):(insVol i v l).Perm (v :: l):=by
 unfold insVol;have:=List.perm_middle (a:=v) (l₁:=l.take i) (l₂:=l.drop i);rw[List.take_append_drop] at this;exact this
theorem insVol_mem{i:Nat}{v:Vol}{l:List Vol}{u:Vol}:u∈insVol i v l↔u=v\/u∈l:=by
 rw[(insVol_perm i v l).mem_iff,List.mem_cons]
theorem footV_ins(i:Nat)(v:Vol)(l:List Vol):((insVol i v l).flatMap Vol.foot).Perm (v.foot++l.flatMap Vol.foot):=by
 have:=(insVol_perm i v l).flatMap_right Vol.foot
 rwa [List.flatMap_cons] at this
theorem foot_perm(a b c d:Nat)(o:Option Nat)(x y:List Nat):(a :: b :: c :: d :: (o.toList++(x++y))).Perm (x++(a :: b :: c :: d :: (o.toList++y))):=by
 have h1:(o.toList++(x++y)).Perm (x++(o.toList++y)):=by
  rw[<-List.append_assoc,<-List.append_assoc];exact (List.perm_append_comm).append_right y
 have h2:(a :: b :: c :: d :: (x++(o.toList++y))).Perm (x++(a :: b :: c :: d :: (o.toList++y))):=by
  have:=List.perm_append_comm (l₁:=[a,b,c,d]) (l₂:=x);have:=this.append_right (o.toList++y);simpa using this
 exact (((((h1.cons d).cons c).cons b).cons a)).trans h2
theorem insert_state{w w':World}{s:St}(h:PoolAt w s)(v:Vol)(hv:VolAt w v)(h1:∀k∈v.foot,k∉s.foot)(hfew:s.vols.length < 20)(hn:isIn s.names v.name=false)
 (hvo:∀o,v.org=some o->∃u∈s.vols,u.vb=o/\u.org=none)
 (hA:ArrAt w w' s ((s.vols.take (posOf s.names v.name)).map (fun v=>ptr v.vb)++[ptr v.vb]++(s.vols.drop (posOf s.names v.name)).map (fun v=>ptr v.vb))) :
 ∃g,w.heap.size<=g/\PoolAt w' { s with ab:=some g,vols:=insVol (posOf s.names v.name) v s.vols }:=by
 obtain⟨g,cap,cs,hg,hP,hle,hB,hcs,hcl⟩:=hA.ex;refine⟨g,hg,?_⟩;have hps:((s.vols.take (posOf s.names v.name)).map (fun v=>ptr v.vb)++[ptr v.vb]++(s.vols.drop (posOf s.names v.name)).map (fun v=>ptr v.vb))=(insVol (posOf s.names v.name) v s.vols).map (fun v=>ptr v.vb):=by
  simp[insVol]
 have hlen:(insVol (posOf s.names v.name) v s.vols).length=s.vols.length+1:=by
  simpa using (insVol_perm (posOf s.names v.name) v s.vols).length_eq
 rw[hps] at hP hle hcs hcl;rw[List.length_map] at hP hle hcs hcl;have hnd:=h.nodup;have hap:=apart_of hnd;have hpb:∀k∈s.foot,k≠s.pb->k∉[s.pb]:=fun k _ hne=>by simpa using hne
 have hpbn:=hap.pb;refine⟨⟨cap,hP,hle,by simp⟩,fun b hb=>?_,?_,fun u hu=>?_,?_,by rw[hlen];omega,insVol_sorted s.vols v h.sorted hn,fun u hu o ho=>?_⟩
 ·simp only[Option.some.injEq] at hb;subst hb;exact⟨cs,hB,hcs,hcl⟩
 ·refine h.disk.same hA.same ?_ ?_ ?_
  ·intro hm;simp at hm;exact hpbn (by rw[<-hm];simp)
  ·intro hm;simp at hm;exact hpbn (by rw[<-hm];simp)
  ·intro hm;simp at hm;exact hpbn (by rw[<-hm];simp)
 ·rcases insVol_mem.1 hu with rfl|hm
  ·exact hv.same hA.same (fun k hk hx=>h1 k hk (by simp at hx;rw[hx];exact s.foot_pb))
  ·exact (h.vols u hm).same hA.same (fun k hk hx=>by
    simp at hx;have:=hap.disk u hm k hk;simp only[List.mem_cons,not_or] at this;exact this.1 hx)
 ·have hlt:=h.foot_lt;have hvlt:=hv.foot_lt;have hsub:List.Sublist (s.pb :: s.db :: s.bb :: s.fb :: s.vols.flatMap Vol.foot) s.foot:=by
   unfold St.foot;exact List.Sublist.cons_cons _ (List.Sublist.cons_cons _ (List.Sublist.cons_cons _ (List.Sublist.cons_cons _ (List.sublist_append_right _ _))))
  have hp:(St.foot { s with ab:=some g,vols:=insVol (posOf s.names v.name) v s.vols }).Perm (g :: (v.foot++(s.pb :: s.db :: s.bb :: s.fb :: s.vols.flatMap Vol.foot))):=by
   unfold St.foot;have e1:=footV_ins (posOf s.names v.name) v s.vols;simp only[Option.toList_some,List.singleton_append];have e2:∀(a b c d:Nat) (l:List Nat),(a :: b :: c :: d :: g :: l).Perm (g :: a :: b :: c :: d :: l):=fun a b c d l=>
    (List.perm_middle (a:=g) (l₁:=[a,b,c,d]) (l₂:=l))
   refine (e2 _ _ _ _ _).trans (List.Perm.cons _ ?_);refine (List.Perm.append_left [s.pb,s.db,s.bb,s.fb] e1).trans ?_;have:=(List.perm_append_comm (l₁:=[s.pb,s.db,s.bb,s.fb]) (l₂:=v.foot)).append_right (s.vols.flatMap Vol.foot);simpa using this
  rw[hp.nodup_iff];refine List.nodup_cons.2 ⟨fun hm=>?_,List.nodup_append.2 ⟨hv.nodup,hnd.sublist hsub,fun a ha b hb e=>?_⟩⟩
  ·rcases List.mem_append.1 hm with hm|hm
   ·have:=hvlt g hm;omega
   ·have:=hlt g (hsub.mem hm);omega
  ·subst e;exact h1 a ha (hsub.mem hb)
 ·rcases insVol_mem.1 hu with rfl|hm
  ·obtain⟨x,hx,hx2⟩:=hvo o ho;exact⟨x,insVol_mem.2 (Or.inr hx),hx2⟩
  ·obtain⟨x,hx,hx2⟩:=h.orgs u hm o ho;exact⟨x,insVol_mem.2 (Or.inr hx),hx2⟩
theorem posOf_get{ns:List ByteArray}(h:ns.Pairwise fun a b=>cmpB a b < 0)(i:Nat)(hi:i < ns.length):posOf ns ns[i]! = i:=by
 rw[getElem!_pos ns i hi];refine countP_bound _ ns i (Nat.le_of_lt hi) (fun t ht=>?_) (fun t h1 h2=>?_)
 ·rw[getElem!_pos ns t (by omega)];exact decide_eq_true (List.pairwise_iff_getElem.1 h t i (by omega) hi ht)
 ·rw[getElem!_pos ns t h2];rcases Nat.lt_or_ge i t with h'|h'
  ·have:=List.pairwise_iff_getElem.1 h i t hi h2 h';exact decide_eq_false (by rw[cmpB_neg ns[i] ns[t]];omega)
  ·have e:t=i:=by omega
   subst e;exact decide_eq_false (by rw[cmpB_self];omega)
theorem toldAll_get(s:St)(l:List Vol):∀(i j:Nat),i < l.length->j < 6->(s.toldAll l)[i * 6+j]? = (s.told (l[i]!))[j]?:=by
 induction l with
 | nil=>intro i j h;simp at h
 | cons b r ih=>
  intro i j hi hj;cases i with
  | zero=>
   have:(b :: r)[0]! = b:=rfl;rw[this,St.toldAll,Nat.zero_mul,Nat.zero_add,List.getElem?_append_left (by rw[St.told_length];exact hj)]
  | succ i=>
   have e:(b :: r)[i+1]! = r[i]!:=by simp
   rw[e,<-ih i j (by simpa using hi) hj,St.toldAll,List.getElem?_append_right (by rw[St.told_length];omega)]
   congr 1
   rw[St.told_length];omega
structure RVol where
 vb:Nat
 dg:Nat
 bg:Nat
 kg:Option Nat
 name:ByteArray
 of_:ByteArray
 data:List ByteArray
 blocks:List Nat
 kept:List Nat
 lost:Bool
end
section
open Go.RowKit Go.Sort
variable [DecidableEq Blk] [Inhabited Blk] [Inhabited Vol] [Inhabited RVol]
theorem runNotR(x:Bool)(w:World):(Op.unary .not (.bool x)).run Tryz.prog w=.ok (.bool (!x)) w:=rfl
structure TextsAt(w:World)(g:Nat)(cap:Nat)(l:List ByteArray):Prop where
 ex:∃cs,At w g 9 cs/\cs.length=cap/\cs.take l.length=l.map Value.string/\l.length<=cap/\cap<=maxLen
theorem TextsAt.same{w w':World}{g cap:Nat}{l:List ByteArray}(h:TextsAt w g cap l){S:List Nat}(hs:Same S w w')(hn:g∉S):TextsAt w' g cap l:=by
 obtain⟨cs,h1,h2⟩:=h.ex;exact⟨cs,hs.at h1 hn,h2⟩
theorem TextsAt.cell{w:World}{g cap:Nat}{l:List ByteArray}(h:TextsAt w g cap l)(i:Nat)(hi:i < l.length):w.cell? ⟨g,i,none⟩=some (.string l[i]!):=by
 obtain⟨cs,h1,h2,h3,h4⟩:=h.ex;have e:(cs.take l.length)[i]? = cs[i]?:=by rw[List.getElem?_take,if_pos hi]
 rw[h1.cell?,<-e,h3];simp[List.getElem?_map,List.getElem?_eq_getElem hi,getElem!_pos l i hi]
structure RVolAt(w:World)(v:RVol):Prop where
 ex:∃dc bc kc,At w v.vb 118 [.string v.name,.string v.of_,.slice (some ⟨v.dg,0,none⟩) v.data.length dc,.slice (some ⟨v.bg,0,none⟩) v.blocks.length bc,.slice (v.kg.map fun g=>⟨g,0,none⟩) v.kept.length kc,.bool v.lost] /\
  TextsAt w v.dg dc v.data/\NumsAt w v.bg bc v.blocks/\(v.kg=none->v.kept=[]/\kc=0)/\(∀g,v.kg=some g->NumsAt w g kc v.kept)
 data:v.data.length<=200
 blocks:v.blocks.length<=200
 kept:v.kept.length<=200
structure RSt where
 rb:Nat
 lg:Option Nat
 n:Nat
 vols:List RVol
structure RefAt(w:World)(s:RSt):Prop where
 pool:∃cap,At w s.rb 84 [.int .i64 s.n,.slice (s.lg.map fun b=>⟨b,0,none⟩) s.vols.length cap]/\s.vols.length<=cap/\(s.lg=none->s.vols=[]/\cap=0)
 arr:∀b,s.lg=some b->∃cs,At w b 115 cs/\cs.take s.vols.length=s.vols.map (fun v=>ptr v.vb)/\s.vols.length<=cs.length
 vols:∀v∈s.vols,RVolAt w v
 few:s.vols.length<=20
 n:s.n<=200
theorem RefAt.cell{w:World}{s:RSt}(h:RefAt w s)(i:Nat)(hi:i < s.vols.length) :
 ∃b,s.lg=some b/\w.cell? ⟨b,i,none⟩=some (.pointer (some ⟨(s.vols[i]!).vb,0,none⟩))/\s.vols[i]!∈s.vols:=by
 obtain⟨cap,hp,h1,h2⟩:=h.pool;cases hab:s.lg with
 | none=>rw[(h2 hab).1] at hi;simp at hi
 | some b=>
  obtain⟨cs,hc,h3,h4⟩:=h.arr b hab;refine⟨b,rfl,?_,?_⟩
  ·have:(cs.take s.vols.length)[i]? = cs[i]?:=by rw[List.getElem?_take,if_pos hi]
   rw[hc.cell?,<-this,h3];simp[List.getElem?_map,List.getElem?_eq_getElem hi,getElem!_pos s.vols i hi,ptr]
  ·rw[getElem!_pos s.vols i hi];exact List.getElem_mem hi
theorem bytes_beq(a b:ByteArray):(a.toList == b.toList)=decide (a=b):=by
 rw[<-beq_toListBytes];show (a.data == b.data)=decide (a=b);rw[Bool.eq_iff_iff,beq_iff_eq,decide_eq_true_iff];exact⟨fun h=>ByteArray.ext h,fun h=>by rw[h]⟩
def RSt.at?(s:RSt)(t:ByteArray):Option RVol:=s.vols.find? fun v=>decide (v.name=t)
theorem refFind_calls(s:RSt)(t:ByteArray)(w:World)(h:RefAt w s) :
 Calls Tryz.prog 79 #[.pointer (some ⟨s.rb,0,none⟩),.string t] w fun e w'=>e=.returned (.pointer ((s.at? t).map fun v=>⟨v.vb,0,none⟩))/\w'=w:=by
 obtain⟨cap,hp,h1,h2⟩:=h.pool;have c1:w.cell? ⟨s.rb,1,none⟩=some (.slice (s.lg.map fun b=>⟨b,0,none⟩) s.vols.length cap):=hp.cell? 1;have hfew:=h.few;have HR:Hid (s.at? t=s.vols.find? fun v=>decide (v.name=t)):=rfl;generalize s.at? t=res at *
 go_enter Tryz.func79,Tryz.ntmps79
 go_wp2
 go_loopw [5] (fun i wr=>∃k:Nat,k<=s.vols.length/\i=.int .i64 k/\wr=w/\Hid (∀v∈s.vols.take k,¬v.name=t)) (fun i _=>s.vols.length - (intOf i).toNat)
 case atStart=>exact⟨0,Nat.zero_le _,rfl,rfl,by show ∀v∈_,_;simp⟩
 case round=>
  obtain⟨k,hk,rfl,rfl,HN⟩:=hrel;by_cases hkl:k < s.vols.length
  ·obtain⟨b,hb,e1,hm⟩:=h.cell k hkl;obtain⟨dc,bc,kc,hv,_⟩:=(h.vols _ hm).ex;have e2:wr.cell? ⟨(s.vols[k]!).vb,0,none⟩=some (.string (s.vols[k]!).name):=hv.cell? 0;have hb':(s.lg.map fun b=>(⟨b,0,none⟩:Addr))=some ⟨b,0,none⟩:=by rw[hb];rfl
   rw[hb'] at c1;have HT:Hid (s.vols.take (k+1)=s.vols.take k++[s.vols[k]!]):=by show _=_;rw[List.take_succ_eq_append_getElem hkl,getElem!_pos s.vols k hkl]
   have HD:Hid (s.vols=s.vols.take k++s.vols[k]! :: s.vols.drop (k+1)):=by
    show _=_;rw[getElem!_pos s.vols k hkl,<-List.drop_eq_getElem_cons hkl,List.take_append_drop]
   generalize s.vols[k]! = vv at *;have l1:(k:Int) < (s.vols.length:Int):=by omega
   clear h hv hp hm hb' hb;by_cases hn:vv.name=t
   ·have hbq:(vv.name.toList == t.toList)=true:=by rw[hn];simp
    have HF:Hid (res=some vv):=by
     show _=_;rw[HR.out,HD.out,List.find?_append];have:(s.vols.take k).find? (fun v=>decide (v.name=t))=none:=by
      rw[List.find?_eq_none];intro v hv;simpa using HN.out v hv
     rw[this];simp[hn]
    go_wp2
    go_ret
    rw[HF.out];exact⟨rfl,rfl⟩
   ·have hbq:(vv.name.toList == t.toList)=false:=by
     rw[bytes_beq];exact decide_eq_false hn
    go_wp2
    go_roundw
    case rel=>exact⟨k+1,by omega,by go_num,by first|rfl|trivial,by
     show ∀v∈_,_;rw[HT.out];intro v hv;rcases List.mem_append.1 hv with hv|hv
     ·exact HN.out v hv
     ·simp at hv;subst hv;exact hn⟩
    case measure=>simp[intOf];omega
  ·have ek:k=s.vols.length:=by omega
   subst ek;have HF:Hid (res=none):=by
    show _=_;rw[HR.out,List.find?_eq_none];intro v hv;have:=HN.out v (by rw[List.take_length];exact hv);simpa using this
   clear HN h hp
   go_wp2
   go_ret
   rw[HF.out];exact⟨rfl,rfl⟩
theorem refIsName_calls (s : ByteArray) (w : World) (hs : s.size ≤ maxLen) :
    Calls Tryz.prog 120 #[.string s] w fun e w' => e = .returned (.bool (nameB s)) ∧ w' = w := by
  unfold maxLen at hs
  go_enter Tryz.func120, Tryz.ntmps120
  go_wp2
  go_loop [3] (fun i => ∃ k : Nat, k ≤ s.size ∧ i = .int .i64 k ∧ Hid ((s.data.toList.take k).all lowerB = true)) (fun i => s.size - (intOf i).toNat)
  case atStart => exact ⟨0, Nat.zero_le _, rfl, rfl⟩
  case round =>
    obtain ⟨k, hk, rfl, HA⟩ := hrel
    by_cases hlt : k < s.size
    · have hlt' : (k : Int) < (s.size : Int) := by omega
      have HT' : Hid (s.data.toList.take (k + 1) = s.data.toList.take k ++ [s[k]]) := take_snoc s k hlt
      have HN : Hid (lowerB s[k] = false → nameB s = false) := nameB_no s k hlt
      go_wp2
      · have hb : (s[k].toNat : Int) < 97 ∨ 122 < (s[k].toNat : Int) := by assumption
        have hl : lowerB s[k] = false := by simp [lowerB]; omega
        go_ret
        rw [HN.out hl]
        simp
      · have hb : 97 ≤ (s[k].toNat : Int) ∧ (s[k].toNat : Int) ≤ 122 := by assumption
        have hl : lowerB s[k] = true := by simp [lowerB]; omega
        go_round
        case rel => exact ⟨k + 1, by omega, by go_num, by show _ = true; rw [HT'.out, List.all_append, HA.out]; simp [hl]⟩
        case measure => simp [intOf]; omega
      · have hb : (s[k].toNat : Int) < 97 := by assumption
        have hl : lowerB s[k] = false := by simp [lowerB]; omega
        go_ret
        rw [HN.out hl]
        simp
    · have ek : k = s.size := by omega
      subst ek
      by_cases h1 : 1 ≤ s.size
      · have h1' : (1 : Int) ≤ (s.size : Int) := by omega
        by_cases h2 : s.size ≤ 10
        · have HY : Hid (nameB s = true) := nameB_yes s h1 h2 HA.out
          go_wp2
          all_goals first
            | omega
            | (go_ret
               rw [HY.out]
               simp [h1, h2]
               omega)
        · have HY : Hid (nameB s = false) := by show _ = _; simp [nameB, h2]
          go_wp2
          all_goals first
            | omega
            | (go_ret
               rw [HY.out]
               simp [h1, h2]
               omega)
      · have HY : Hid (nameB s = false) := by show _ = _; simp [nameB, h1]
        have h1' : decide (1 ≤ (s.size : Int)) = false := decide_eq_false (by omega)
        go_wp2
        go_ret
        rw [HY.out]
        simp [h1]
def RSt.all(s:RSt):List Nat:=s.vols.flatMap (·.blocks)
theorem refTaken_calls(s:RSt)(n:Nat)(w:World)(h:RefAt w s) :
 Calls Tryz.prog 103 #[.pointer (some ⟨s.rb,0,none⟩),.int .i64 n] w fun e w'=>e=.returned (.bool (decide (n∈s.all)))/\w'=w:=by
 obtain⟨cap,hp,h1,h2⟩:=h.pool;have c1:w.cell? ⟨s.rb,1,none⟩=some (.slice (s.lg.map fun b=>⟨b,0,none⟩) s.vols.length cap):=hp.cell? 1;have hfew:=h.few;have HR:Hid (n∈s.all↔∃v∈s.vols,n∈v.blocks):=by show _↔_;simp[RSt.all,List.mem_flatMap]
 generalize hres:decide (n∈s.all)=res at *;have HRES:Hid (decide (n∈s.all)=res):=hres;clear hres
 go_enter Tryz.func103,Tryz.ntmps103
 go_wp2
 go_loopw [5] (fun i wr=>∃k:Nat,k<=s.vols.length/\i=.int .i64 k/\wr=w/\Hid (∀v∈s.vols.take k,n∉v.blocks)) (fun i _=>s.vols.length - (intOf i).toNat)
 case atStart=>exact⟨0,Nat.zero_le _,rfl,rfl,by show ∀v∈_,_;simp⟩
 case round=>
  obtain⟨k,hk,rfl,rfl,HN⟩:=hrel;by_cases hkl:k < s.vols.length
  ·obtain⟨b,hb,e1,hm⟩:=h.cell k hkl;have hvv:=h.vols _ hm;obtain⟨dc,bc,kc,hv,_,hbl,_⟩:=hvv.ex;have hbs:=hvv.blocks;have e3:wr.cell? ⟨(s.vols[k]!).vb,3,none⟩=some (.slice (some ⟨(s.vols[k]!).bg,0,none⟩) (s.vols[k]!).blocks.length bc):=hv.cell? 3;have hb':(s.lg.map fun b=>(⟨b,0,none⟩:Addr))=some ⟨b,0,none⟩:=by rw[hb];rfl
   rw[hb'] at c1;have HT:Hid (s.vols.take (k+1)=s.vols.take k++[s.vols[k]!]):=by show _=_;rw[List.take_succ_eq_append_getElem hkl,getElem!_pos s.vols k hkl]
   have HM:Hid (s.vols[k]!∈s.vols):=hm;generalize s.vols[k]! = vv at *;have l1:(k:Int) < (s.vols.length:Int):=by omega
   clear h hv hp hm hb' hb hvv
   go_wp2_with fail
   go_loop [6] (fun i=>∃j:Nat,j<=vv.blocks.length/\i=.int .i64 j/\Hid (n∉vv.blocks.take j)) (fun i=>vv.blocks.length - (intOf i).toNat)
   case atStart=>exact⟨0,Nat.zero_le _,rfl,by show _∉_;simp⟩
   case round=>
    obtain⟨j,hj,rfl,HJ⟩:=hrel;by_cases hjl:j < vv.blocks.length
    ·have cj:=hbl.cell j hjl;have HTJ:Hid (vv.blocks.take (j+1)=vv.blocks.take j++[vv.blocks[j]!]):=by show _=_;rw[List.take_succ_eq_append_getElem hjl,getElem!_pos vv.blocks j hjl]
     have HMJ:Hid (vv.blocks[j]!∈vv.blocks):=by show _∈_;rw[getElem!_pos vv.blocks j hjl];exact List.getElem_mem hjl
     generalize vv.blocks[j]! = y at *;have l2:(j:Int) < (vv.blocks.length:Int):=by omega
     by_cases hy:y=n
     ·subst hy;have HF:Hid (res=true):=by show _=_;rw[<-HRES.out];exact decide_eq_true (HR.out.2 ⟨vv,HM.out,HMJ.out⟩)
      go_wp2
      go_ret
      rw[HF.out];exact⟨rfl,rfl⟩
     ·have hy':((y:Int) == (n:Int))=false:=beq_eq_false_iff_ne.2 (by omega)
      go_wp2
      go_round
      case rel=>exact⟨j+1,by omega,by go_num,by show _∉_;rw[HTJ.out];simp[HJ.out];exact fun e=>hy e.symm⟩
      case measure=>simp[intOf];omega
    ·have ej:j=vv.blocks.length:=by omega
     have HB:Hid (n∉vv.blocks):=by have:=HJ.out;rw[ej,List.take_length] at this;exact this
     clear HJ
     go_wp2_with fail
     go_roundw
     case rel=>exact⟨k+1,by omega,by go_num,by first|rfl|trivial,by
      show ∀v∈_,_;rw[HT.out];intro v hv;rcases List.mem_append.1 hv with hv|hv
      ·exact HN.out v hv
      ·simp at hv;subst hv;exact HB.out⟩
     case measure=>simp[intOf];omega
  ·have ek:k=s.vols.length:=by omega
   subst ek;have HF:Hid (res=false):=by
    show _=_;rw[<-HRES.out];refine decide_eq_false fun hm=>?_
    obtain⟨v,hv,hb⟩:=HR.out.1 hm;exact HN.out v (by rw[List.take_length];exact hv) hb
   clear HN h hp
   go_wp2
   go_ret
   rw[HF.out];exact⟨rfl,rfl⟩
def RSt.freeL(s:RSt)(k:Nat):List Nat:=(List.range k).filter fun x=>decide (x∉s.all)
theorem RSt.freeL_succ(s:RSt)(k:Nat):s.freeL (k+1)=s.freeL k++(if k∈s.all then [] else [k]):=by
 unfold RSt.freeL;rw[List.range_succ,List.filter_append]
 congr 1
 by_cases h:k∈s.all
 ·simp[h]
 ·simp[h]
theorem RSt.freeL_len(s:RSt)(k:Nat):(s.freeL k).length<=k:=by
 have:=List.length_filter_le (fun x=>decide (x∉s.all)) (List.range k);simpa [RSt.freeL] using this
theorem refFree_calls(s:RSt)(w:World)(h:RefAt w s) :
 Calls Tryz.prog 63 #[.pointer (some ⟨s.rb,0,none⟩)] w fun e w'=>∃v,e=.returned v/\w'.ownsRow w.heap.size 3 1 v (s.freeL s.n).length ((s.freeL s.n).map (fun x:Nat=>Value.int .i64 x))/\Same [] w w':=by
 obtain⟨cap,hp,h1,h2⟩:=h.pool;have hnot:=runNotR;have hn:=h.n;obtain⟨i0,hi,hz0,hz1,hz2⟩:=info_parts Tryz.info3
 go_enter Tryz.func63,Tryz.ntmps63
 go_wp2
 go_loopw [3,4] (fun u i wr=>∃k:Nat,k<=s.n/\i=.int .i64 k/\Same [] w wr/\wr.ownsRow w.heap.size 3 1 u (s.freeL k).length ((s.freeL k).map (fun x:Nat=>Value.int .i64 x)))
  (fun _ i _=>s.n - (intOf i).toNat)
 case atStart=>exact⟨0,Nat.zero_le _,rfl,Same.refl _ _,by simpa [RSt.freeL] using World.ownsRow_nil w w.heap.size 3 1⟩
 case round=>
  obtain⟨k,hk,rfl,hS,hown⟩:=hrel;obtain⟨ua,ucap,rfl⟩:=owns_form hown;have c0:wr.cell? ⟨s.rb,0,none⟩=some (.int .i64 s.n):=(hS.at hp (by simp)).cell? 0;by_cases hkl:k < s.n
  ·have hR:RefAt wr s:=by
    refine⟨⟨cap,hS.at hp (by simp),h1,h2⟩,fun b hb=>?_,fun v hv=>?_,h.few,h.n⟩
    ·obtain⟨cs,hc,h3⟩:=h.arr b hb;exact⟨cs,hS.at hc (by simp),h3⟩
    ·obtain⟨dc,bc,kc,a1,a2,a3,a4,a5⟩:=(h.vols v hv).ex;exact⟨⟨dc,bc,kc,hS.at a1 (by simp),a2.same hS (by simp),a3.same hS (by simp),a4,fun a ha=>(a5 a ha).same hS (by simp)⟩,(h.vols v hv).data,(h.vols v hv).blocks,(h.vols v hv).kept⟩
   have hT:=refTaken_calls s k wr hR;have l1:(k:Int) < (s.n:Int):=by omega
   have HX:Hid (s.freeL (k+1)=s.freeL k++(if k∈s.all then [] else [k])):=s.freeL_succ k;have hfl:=s.freeL_len k;have hsz:=hS.size;clear hR;by_cases hkt:k∈s.all
   ·rw[decide_eq_true hkt] at hT;generalize s.freeL k=pp at *
    go_wp2_with (go_at_call 103;refine hT.mono ?_;rintro e wz ⟨rfl,rfl⟩)
    go_roundw
    case rel=>exact⟨k+1,by omega,by go_num,hS,by rw[HX.out,if_pos hkt,List.append_nil];exact hown⟩
    case measure=>simp[intOf];omega
   ·rw[decide_eq_false hkt] at hT;generalize s.freeL k=pp at *
    go_wp2_with (first|(go_at_call 103;refine hT.mono ?_;rintro e wz ⟨rfl,rfl⟩)|(at_builtin;refine wpList_append_own _ rfl _ _ 51 rfl w.heap.size 3 i0 (.int .i64 0) 1 8 Tryz.underlying51 hi hz0 hz1 hz2 rfl (by decide) _ _ _ rfl (hown.alloc _) ⟨wz.heap.size,0,none⟩ 1 1 [.int .i64 (k:Nat)] rfl rfl ?c1 ?c2 ?c3 ?c4 ?c5 ?_))
    case c1=>
     intro j u hj
     match j,hj with
     | 0,hj=>simp at hj;subst hj;simp[Addr.add]
    case c2=>intro u hu;simp at hu;subst hu;rfl
    case c3=>unfold maxLen;omega
    case c4=>omega
    case c5=>simp;omega
    intro v' w4 hown' hgrow _;have S4:Same [] w w4:=(hS.alloc _).grown hgrow (fun i hi hl=>by have:=(hown.lt i hi).1;omega);have O4:w4.ownsRow w.heap.size 3 1 v' (s.freeL (k+1)).length ((s.freeL (k+1)).map (fun x:Nat=>Value.int .i64 x)):=by
     rw[HX.out,if_neg hkt,List.map_append,List.length_append];exact hown'
    clear hown' hgrow hown hS hT c0
    go_wp2
    go_roundw
    case rel=>exact⟨k+1,by omega,by go_num,S4,O4⟩
    case measure=>simp[intOf];omega
  ·have ek:k=s.n:=by omega
   subst ek
   go_wp2
   go_ret
   exact⟨_,rfl,hown,hS⟩
theorem RSt.at?_mem{s:RSt}{t:ByteArray}{v:RVol}(h:s.at? t=some v):v∈s.vols/\v.name=t:=by
 unfold RSt.at? at h;exact⟨List.mem_of_find?_eq_some h,by simpa using List.find?_some h⟩
def RSt.freshC(s:RSt)(t:ByteArray):Nat:=if nameB t=false then 2 else if (s.at? t).isSome then 3 else 0
theorem refFresh_calls(s:RSt)(t:ByteArray)(w:World)(h:RefAt w s)(ht:t.size<=maxLen) :
 Calls Tryz.prog 84 #[.pointer (some ⟨s.rb,0,none⟩),.string t] w fun e w'=>e=.returned (.int .i64 (s.freshC t))/\w'=w:=by
 have hI:=refIsName_calls t w ht;have hF:=refFind_calls s t w h;have HC:Hid (s.freshC t=if nameB t=false then 2 else if (s.at? t).isSome then 3 else 0):=rfl;generalize s.freshC t=res at *;by_cases hn:nameB t=true
 ·rw[hn] at hI;cases ha:s.at? t with
  | none=>
   rw[ha] at hF;have HF:Hid (res=0):=by show _=_;rw[HC.out,ha,hn];simp
   clear HC
   go_enter Tryz.func84,Tryz.ntmps84
   go_wp2_with (first|(go_at_call 120;refine hI.mono ?_;rintro e wz ⟨rfl,rfl⟩)|(go_at_call 79;refine hF.mono ?_;rintro e wz ⟨rfl,rfl⟩))
   go_ret
   rw[HF.out];exact⟨rfl,rfl⟩
  | some v=>
   rw[ha] at hF;have HF:Hid (res=3):=by show _=_;rw[HC.out,ha,hn];simp
   clear HC
   go_enter Tryz.func84,Tryz.ntmps84
   go_wp2_with (first|(go_at_call 120;refine hI.mono ?_;rintro e wz ⟨rfl,rfl⟩)|(go_at_call 79;refine hF.mono ?_;rintro e wz ⟨rfl,rfl⟩))
   go_ret
   rw[HF.out];exact⟨rfl,rfl⟩
 ·have hn':nameB t=false:=by simpa using hn
  rw[hn'] at hI;have HF:Hid (res=2):=by show _=_;rw[HC.out,if_pos hn']
  clear HC
  go_enter Tryz.func84,Tryz.ntmps84
  go_wp2_with (first|(go_at_call 120;refine hI.mono ?_;rintro e wz ⟨rfl,rfl⟩))
  go_ret
  rw[HF.out];exact⟨rfl,rfl⟩
def RSt.atC(s:RSt)(t:ByteArray)(k:Int):Nat:=
 match s.at? t with
 | none=>4
 | some v=>if v.lost then 9 else if k < 0\/(v.data.length:Int)<=k then 1 else 0
theorem refAt_none(s:RSt)(t:ByteArray)(k:Int)(w:World)(h:RefAt w s)(hc:s.atC t k≠0) :
 Calls Tryz.prog 91 #[.pointer (some ⟨s.rb,0,none⟩),.string t,.int .i64 k] w fun e w'=>e=.returned (.tuple #[.pointer none,.int .i64 (s.atC t k)])/\w'=w:=by
 have hF:=refFind_calls s t w h;have HC:Hid (s.atC t k=match s.at? t with
  | none=>4
  | some v=>if v.lost then 9 else if k < 0\/(v.data.length:Int)<=k then 1 else 0):=rfl
 generalize s.atC t k=res at *;cases ha:s.at? t with
 | none=>
  rw[ha] at hF;have HF:Hid (res=4):=by show _=_;rw[HC.out,ha]
  clear HC
  go_enter Tryz.func91,Tryz.ntmps91
  go_wp2_with (first|(go_at_call 79;refine hF.mono ?_;rintro e wz ⟨rfl,rfl⟩))
  go_ret2
  rw[HF.out];exact⟨rfl,rfl⟩
 | some v=>
  rw[ha] at hF;obtain⟨hm,hnm⟩:=RSt.at?_mem ha;obtain⟨dc,bc,kc,hv,_⟩:=(h.vols v hm).ex;have hd:=(h.vols v hm).data;have e2:w.cell? ⟨v.vb,2,none⟩=some (.slice (some ⟨v.dg,0,none⟩) v.data.length dc):=hv.cell? 2;have e5:w.cell? ⟨v.vb,5,none⟩=some (.bool v.lost):=hv.cell? 5;clear hv h;cases hl:v.lost with
  | true=>
   rw[hl] at e5;have HF:Hid (res=9):=by show _=_;rw[HC.out,ha];simp[hl]
   clear HC
   go_enter Tryz.func91,Tryz.ntmps91
   go_wp2_with (first|(go_at_call 79;refine hF.mono ?_;rintro e wz ⟨rfl,rfl⟩))
   go_ret2
   rw[HF.out];exact⟨rfl,rfl⟩
  | false=>
   rw[hl] at e5;by_cases hk:k < 0
   ·have HF:Hid (res=1):=by show _=_;rw[HC.out,ha];simp[hl,hk]
    clear HC
    go_enter Tryz.func91,Tryz.ntmps91
    go_wp2_with (first|(go_at_call 79;refine hF.mono ?_;rintro e wz ⟨rfl,rfl⟩))
    go_ret2
    rw[HF.out];exact⟨rfl,rfl⟩
   ·by_cases hk2:(v.data.length:Int)<=k
    ·have HF:Hid (res=1):=by show _=_;rw[HC.out,ha];simp[hl,hk2]
     clear HC;have hk':0<=k:=by omega
     go_enter Tryz.func91,Tryz.ntmps91
     go_wp2_with (first|(go_at_call 79;refine hF.mono ?_;rintro e wz ⟨rfl,rfl⟩))
     go_ret2
     rw[HF.out];exact⟨rfl,rfl⟩
    ·exact absurd (by rw[HC.out,ha];simp[hl,hk2];omega) hc
theorem refAt_some(s:RSt)(t:ByteArray)(k:Nat)(v:RVol)(w:World)(h:RefAt w s)(ha:s.at? t=some v)(hl:v.lost=false)(hk:k < v.data.length) :
 Calls Tryz.prog 91 #[.pointer (some ⟨s.rb,0,none⟩),.string t,.int .i64 k] w fun e w'=>e=.returned (.tuple #[.pointer (some ⟨v.vb,0,none⟩),.int .i64 0])/\w'=w:=by
 have hF:=refFind_calls s t w h;rw[ha] at hF;obtain⟨hm,hnm⟩:=RSt.at?_mem ha;obtain⟨dc,bc,kc,hv,_⟩:=(h.vols v hm).ex;have hd:=(h.vols v hm).data;have e2:w.cell? ⟨v.vb,2,none⟩=some (.slice (some ⟨v.dg,0,none⟩) v.data.length dc):=hv.cell? 2;have e5:w.cell? ⟨v.vb,5,none⟩=some (.bool v.lost):=hv.cell? 5;rw[hl] at e5;clear hv h;have l1:(k:Int) < (v.data.length:Int):=by omega
 have l0:(0:Int)<=(k:Int):=by omega
 go_enter Tryz.func91,Tryz.ntmps91
 go_wp2_with (first|(go_at_call 79;refine hF.mono ?_;rintro e wz ⟨rfl,rfl⟩))
 go_ret2
 exact⟨rfl,rfl⟩
def zero8:ByteArray:=⟨#[0,0,0,0,0,0,0,0]⟩
theorem refRead_none(s:RSt)(t:ByteArray)(k:Int)(w:World)(h:RefAt w s)(hc:s.atC t k≠0) :
 Calls Tryz.prog 62 #[.pointer (some ⟨s.rb,0,none⟩),.string t,.int .i64 k] w fun e w'=>e=.returned (.tuple #[.string zero8,.int .i64 (s.atC t k)])/\w'=w:=by
 have hA:=refAt_none s t k w h hc;generalize s.atC t k=res at *;have hr:((res:Int) == 0)=false:=beq_eq_false_iff_ne.2 (by omega)
 go_enter Tryz.func62,Tryz.ntmps62
 go_wp2_with (first|(go_at_call 91;refine hA.mono ?_;rintro e wz ⟨rfl,rfl⟩))
 go_ret2
 exact⟨rfl,rfl⟩
theorem refRead_some(s:RSt)(t:ByteArray)(k:Nat)(v:RVol)(w:World)(h:RefAt w s)(ha:s.at? t=some v)(hl:v.lost=false)(hk:k < v.data.length) :
 Calls Tryz.prog 62 #[.pointer (some ⟨s.rb,0,none⟩),.string t,.int .i64 k] w fun e w'=>e=.returned (.tuple #[.string v.data[k]!,.int .i64 0])/\w'=w:=by
 have hA:=refAt_some s t k v w h ha hl hk;obtain⟨hm,hnm⟩:=RSt.at?_mem ha;obtain⟨dc,bc,kc,hv,hdat,_⟩:=(h.vols v hm).ex;have hd:=(h.vols v hm).data;have e2:w.cell? ⟨v.vb,2,none⟩=some (.slice (some ⟨v.dg,0,none⟩) v.data.length dc):=hv.cell? 2;have ek:=hdat.cell k hk;generalize v.data[k]! = y at *;have l1:(k:Int) < (v.data.length:Int):=by omega
 clear hv h hdat
 go_enter Tryz.func62,Tryz.ntmps62
 go_wp2_with (first|(go_at_call 91;refine hA.mono ?_;rintro e wz ⟨rfl,rfl⟩))
 go_ret2
 exact⟨rfl,rfl⟩
theorem refMap_none(s:RSt)(t:ByteArray)(w:World)(h:RefAt w s)(ha:s.at? t=none) :
 Calls Tryz.prog 40 #[.pointer (some ⟨s.rb,0,none⟩),.string t] w fun e w'=>e=.returned (.tuple #[.slice none 0 0,.int .i64 4])/\w'=w:=by
 have hF:=refFind_calls s t w h;rw[ha] at hF
 go_enter Tryz.func40,Tryz.ntmps40
 go_wp2_with (first|(go_at_call 79;refine hF.mono ?_;rintro e wz ⟨rfl,rfl⟩))
 go_ret2
 exact⟨rfl,rfl⟩
theorem refMap_some(s:RSt)(t:ByteArray)(v:RVol)(w:World)(h:RefAt w s)(ha:s.at? t=some v) :
 Calls Tryz.prog 40 #[.pointer (some ⟨s.rb,0,none⟩),.string t] w fun e w'=>∃bc,e=.returned (.tuple #[.slice (some ⟨v.bg,0,none⟩) v.blocks.length bc,.int .i64 0])/\NumsAt w v.bg bc v.blocks/\w'=w:=by
 have hF:=refFind_calls s t w h;rw[ha] at hF;obtain⟨hm,hnm⟩:=RSt.at?_mem ha;obtain⟨dc,bc,kc,hv,_,hbl,_⟩:=(h.vols v hm).ex;have e3:w.cell? ⟨v.vb,3,none⟩=some (.slice (some ⟨v.bg,0,none⟩) v.blocks.length bc):=hv.cell? 3;clear hv h
 go_enter Tryz.func40,Tryz.ntmps40
 go_wp2_with (first|(go_at_call 79;refine hF.mono ?_;rintro e wz ⟨rfl,rfl⟩))
 go_ret2
 exact⟨bc,rfl,hbl,rfl⟩
def RSt.pics(s:RSt)(t:ByteArray)(k:Nat):Nat:=((s.vols.take k).filter fun v=>decide (v.of_=t)).length
theorem refPictures_calls(s:RSt)(t:ByteArray)(w:World)(h:RefAt w s) :
 Calls Tryz.prog 99 #[.pointer (some ⟨s.rb,0,none⟩),.string t] w fun e w'=>e=.returned (.int .i64 (s.pics t s.vols.length))/\w'=w:=by
 obtain⟨cap,hp,h1,h2⟩:=h.pool;have c1:w.cell? ⟨s.rb,1,none⟩=some (.slice (s.lg.map fun b=>⟨b,0,none⟩) s.vols.length cap):=hp.cell? 1;have hfew:=h.few
 go_enter Tryz.func99,Tryz.ntmps99
 go_wp2
 go_loopw [5,6] (fun u i wr=>∃k:Nat,k<=s.vols.length/\i=.int .i64 k/\u=.int .i64 (s.pics t k)/\wr=w) (fun _ i _=>s.vols.length - (intOf i).toNat)
 case atStart=>exact⟨0,Nat.zero_le _,rfl,by simp[RSt.pics],rfl⟩
 case round=>
  obtain⟨k,hk,rfl,rfl,rfl⟩:=hrel;have HL:Hid (s.pics t k<=k):=by
   show _<=_;unfold RSt.pics;exact Nat.le_trans (List.length_filter_le _ _) (by simp;omega)
  have hle:=HL.out;by_cases hkl:k < s.vols.length
  ·obtain⟨b,hb,e1,hm⟩:=h.cell k hkl;obtain⟨dc,bc,kc,hv,_⟩:=(h.vols _ hm).ex;have e2:wr.cell? ⟨(s.vols[k]!).vb,1,none⟩=some (.string (s.vols[k]!).of_):=hv.cell? 1;have hb':(s.lg.map fun b=>(⟨b,0,none⟩:Addr))=some ⟨b,0,none⟩:=by rw[hb];rfl
   rw[hb'] at c1;have HT:Hid (s.pics t (k+1)=s.pics t k+if (s.vols[k]!).of_=t then 1 else 0):=by
    show _=_;unfold RSt.pics;rw[List.take_succ_eq_append_getElem hkl,getElem!_pos s.vols k hkl,List.filter_append,List.length_append]
    congr 1
    by_cases hq:(s.vols[k]).of_=t<;>simp[hq]
   generalize s.vols[k]! = vv at *;generalize s.pics t k=pk at *;have l1:(k:Int) < (s.vols.length:Int):=by omega
   clear h hv hp hm hb' hb;by_cases hn:vv.of_=t
   ·have hbq:(vv.of_.toList == t.toList)=true:=by rw[hn];simp
    go_wp2
    go_roundw
    case rel=>exact⟨k+1,by omega,by go_num,by rw[HT.out,if_pos hn];go_num,by first|rfl|trivial⟩
    case measure=>simp[intOf];omega
   ·have hbq:(vv.of_.toList == t.toList)=false:=by
     rw[bytes_beq];exact decide_eq_false hn
    go_wp2
    go_roundw
    case rel=>exact⟨k+1,by omega,by go_num,by rw[HT.out,if_neg hn];rfl,by first|rfl|trivial⟩
    case measure=>simp[intOf];omega
  ·have ek:k=s.vols.length:=by omega
   subst ek;clear h hp
   go_wp2
   go_ret
   exact⟨rfl,rfl⟩
end
end Go.Proofs.YtpddgdjocffgdaaGreat
