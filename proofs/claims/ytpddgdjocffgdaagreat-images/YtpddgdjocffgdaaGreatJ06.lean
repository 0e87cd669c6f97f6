/- The document's own answer: what it has in memory; names compared; a volume put in its place. A Pool: findNew, add, by contracts. A Pool: drop, by a contract. A Pool: Resize, by contracts; what a Write leaves. A Pool: lose, by a contract. A Pool: add makes a volume or a picture. -/
import Derived.Test.YtpddgdjocffgdaaGreatJ05
import Derived.Test.YtpddgdjocffgdaaGreatJ04
import Derived.Deep.RegionLawGrows
namespace Go.Proofs.YtpddgdjocffgdaaGreat
set_option linter.unusedVariables false
set_option linter.unusedSimpArgs false
set_option linter.unusedSectionVars false
set_option maxHeartbeats 16000000
set_option maxRecDepth 100000
section
open Go.RowKit Go.Sort
variable [DecidableEq Blk] [Inhabited Blk] [Inhabited Vol] [Inhabited RVol]
def RVol.foot(v:RVol):List Nat:=v.vb :: v.dg :: v.bg :: v.kg.toList
def RSt.foot(s:RSt):List Nat:=s.rb :: (s.lg.toList++s.vols.flatMap RVol.foot)
theorem RSt.foot_rb(s:RSt):s.rb∈s.foot:=by simp[RSt.foot]
theorem RSt.foot_lg(s:RSt){b:Nat}(h:s.lg=some b):b∈s.foot:=by simp[RSt.foot,h]
theorem RSt.foot_vol(s:RSt){v:RVol}(hv:v∈s.vols){k:Nat}(hk:k∈v.foot):k∈s.foot:=by
 simp only[RSt.foot,List.mem_cons,List.mem_append,List.mem_flatMap];exact Or.inr (Or.inr ⟨v,hv,hk⟩)
theorem RSt.foot_cases{s:RSt}{k:Nat}(h:k∈s.foot):k=s.rb\/s.lg=some k\/∃v∈s.vols,k∈v.foot:=by
 simp only[RSt.foot,List.mem_cons,List.mem_append,List.mem_flatMap,Option.mem_toList] at h;rcases h with h|h|h
 ·exact Or.inl h
 ·exact Or.inr (Or.inl (by simpa using h))
 ·exact Or.inr (Or.inr h)
theorem RVolAt.sameF{w w':World}{v:RVol}(h:RVolAt w v){S:List Nat}(hs:Same S w w')(hd:∀k∈v.foot,k∉S):RVolAt w' v:=by
 obtain⟨dc,bc,kc,a1,a2,a3,a4,a5⟩:=h.ex;refine⟨⟨dc,bc,kc,hs.at a1 (hd _ (by simp[RVol.foot])),a2.same hs (hd _ (by simp[RVol.foot])),a3.same hs (hd _ (by simp[RVol.foot])),a4,fun g hg=>(a5 g hg).same hs (hd _ (by simp[RVol.foot,hg]))⟩,h.data,h.blocks,h.kept⟩
theorem RVolAt.foot_lt{w:World}{v:RVol}(h:RVolAt w v):∀k∈v.foot,k < w.heap.size:=by
 obtain⟨dc,bc,kc,a1,a2,a3,a4,a5⟩:=h.ex;intro k hk;simp only[RVol.foot,List.mem_cons,Option.mem_toList] at hk;rcases hk with rfl|rfl|rfl|hk
 ·exact a1.lt
 ·obtain⟨cs,h1,_⟩:=a2.ex;exact h1.lt
 ·exact a3.lt
 ·exact (a5 k (by simpa using hk)).lt
theorem RefAt.sameF{w w':World}{s:RSt}(h:RefAt w s){S:List Nat}(hs:Same S w w')(hd:∀k∈s.foot,k∉S):RefAt w' s:=by
 obtain⟨cap,hp,h1,h2⟩:=h.pool;refine⟨⟨cap,hs.at hp (hd _ s.foot_rb),h1,h2⟩,fun b hb=>?_,fun v hv=>(h.vols v hv).sameF hs fun k hk=>hd k (s.foot_vol hv hk),h.few,h.n⟩;obtain⟨cs,hc,h3⟩:=h.arr b hb;exact⟨cs,hs.at hc (hd _ (s.foot_lg hb)),h3⟩
theorem RefAt.foot_lt{w:World}{s:RSt}(h:RefAt w s):∀k∈s.foot,k < w.heap.size:=by
 intro k hk;rcases RSt.foot_cases hk with rfl|hb|⟨v,hv,hk⟩
 ·obtain⟨cap,hp,_⟩:=h.pool;exact hp.lt
 ·obtain⟨cs,hc,_⟩:=h.arr k hb;exact hc.lt
 ·exact (h.vols v hv).foot_lt k hk
theorem bytesLess_cmp:∀(a b:List UInt8),Op.bytesLess a b=decide (Lib.compareBytes a b < 0)
 | [],[]=>by simp[Op.bytesLess,Lib.compareBytes]
 | [],_ :: _=>by simp[Op.bytesLess,Lib.compareBytes]
 | _ :: _,[]=>by simp[Op.bytesLess,Lib.compareBytes]
 | x :: a,y :: b=>by
  have ih:=bytesLess_cmp a b;unfold Op.bytesLess Lib.compareBytes;by_cases hxy:x < y
  ·simp[hxy]
  ·by_cases hyx:y < x
   ·have hne:x≠y:=fun e=>by subst e;exact UInt8.lt_irrefl _ hyx
    simp[hxy,hyx,hne]
   ·have e:x=y:=UInt8.le_antisymm (UInt8.not_lt.1 hyx) (UInt8.not_lt.1 hxy);subst e;simp[ih,UInt8.lt_irrefl]
theorem less_cmp(a b:ByteArray):Op.bytesLess a.toList b.toList=decide (cmpB a b < 0):=by
 rw[ByteArray.toList_eq,ByteArray.toList_eq];exact bytesLess_cmp _ _
def insR(i:Nat)(v:RVol)(l:List RVol):List RVol:=l.take i++v :: l.drop i
structure AddAt(w w':World)(s:RSt)(vb:Nat)(t of_:ByteArray)(data:List ByteArray)(xs:List Nat)(p base:Nat):Prop where
 ex:∃g bg dg,w.heap.size<=g/\w.heap.size<=bg/\base<=dg/\g≠bg/\RefAt w' { s with lg:=some g,vols:=insR p ⟨vb,dg,bg,none,t,of_,data,xs,[],false⟩ s.vols }
 same:Same [s.rb,vb] w w'
end
section
open Go.RowKit Go.Sort
variable [DecidableEq Blk] [Inhabited Blk] [Inhabited Vol]
theorem made_plain(s:St)(w:World)(h:PoolAt w s) :
 Calls Tryz.prog 45 #[.pointer (some ⟨s.pb,0,none⟩)] w fun e w'=>e=.returned (.bool true)/\w'=w:=made_calls s w h
theorem index_plain(s:St)(t:ByteArray)(w:World)(h:PoolAt w s) :
 Calls Tryz.prog 115 #[.pointer (some ⟨s.pb,0,none⟩),.string t] w fun e w'=>e=.returned (.tuple #[.int .i64 (posOf s.names t:Nat),.bool (isIn s.names t)])/\w'=w:=index_calls s t w h
theorem runNot(x:Bool)(w:World):(Op.unary .not (.bool x)).run Tryz.prog w=.ok (.bool (!x)) w:=rfl
theorem findNew_name(s:St)(t:ByteArray)(w:World)(h:PoolAt w s)(ht:t.size<=maxLen)(hn:nameB t=false) :
 Calls Tryz.prog 81 #[.pointer (some ⟨s.pb,0,none⟩),.string t] w fun e w'=>e=.returned (.tuple #[.int .i64 0,.int .i64 2])/\w'=w:=by
 have hm:=made_plain s w h;have hI:=isName_calls t w ht;rw[hn] at hI;have hnot:=runNot;clear h ht;generalize posOf s.names t=po at *
 go_enter Tryz.func81,Tryz.ntmps81
 go_wp2_with (first|(go_at_call 45;refine hm.mono ?_;rintro e w' ⟨rfl,rfl⟩)|(go_at_call 117;refine hI.mono ?_;rintro e w' ⟨rfl,rfl⟩))
 go_ret2
 exact⟨rfl,rfl⟩
theorem findNew_exists(s:St)(t:ByteArray)(w:World)(h:PoolAt w s)(ht:t.size<=maxLen)(hn:nameB t=true)(hx:s.has t=true) :
 Calls Tryz.prog 81 #[.pointer (some ⟨s.pb,0,none⟩),.string t] w fun e w'=>e=.returned (.tuple #[.int .i64 0,.int .i64 3])/\w'=w:=by
 have hm:=made_plain s w h;have hI:=isName_calls t w ht;rw[hn] at hI;have hX:=index_plain s t w h;unfold St.has at hx;rw[hx] at hX;have hnot:=runNot;clear h ht;generalize posOf s.names t=po at *
 go_enter Tryz.func81,Tryz.ntmps81
 go_wp2_with (first|(go_at_call 45;refine hm.mono ?_;rintro e w' ⟨rfl,rfl⟩)|(go_at_call 117;refine hI.mono ?_;rintro e w' ⟨rfl,rfl⟩)|(go_at_call 115;refine hX.mono ?_;rintro e w' ⟨rfl,rfl⟩))
 go_ret2
 exact⟨rfl,rfl⟩
theorem findNew_ok(s:St)(t:ByteArray)(w:World)(h:PoolAt w s)(ht:t.size<=maxLen)(hn:nameB t=true)(hx:s.has t=false) :
 Calls Tryz.prog 81 #[.pointer (some ⟨s.pb,0,none⟩),.string t] w fun e w'=>e=.returned (.tuple #[.int .i64 (posOf s.names t:Nat),.int .i64 0])/\w'=w:=by
 have hm:=made_plain s w h;have hI:=isName_calls t w ht;rw[hn] at hI;have hX:=index_plain s t w h;unfold St.has at hx;rw[hx] at hX;have hnot:=runNot;clear h ht;generalize posOf s.names t=po at *
 go_enter Tryz.func81,Tryz.ntmps81
 go_wp2_with (first|(go_at_call 45;refine hm.mono ?_;rintro e w' ⟨rfl,rfl⟩)|(go_at_call 117;refine hI.mono ?_;rintro e w' ⟨rfl,rfl⟩)|(go_at_call 115;refine hX.mono ?_;rintro e w' ⟨rfl,rfl⟩))
 go_ret2
 exact⟨rfl,rfl⟩
theorem Good.all{s:St}{fr:List Nat}(h:Good s fr):popsL s.m s.m s.d=fr.map (fun x:Nat=>(x:Int)):=by
 have:=(h.heap.pops s.m (Nat.le_refl _)).1;rw[this,List.take_of_length_le (by rw[h.heap.len];exact Nat.le_refl _)]
theorem Good.back{s:St}{fr:List Nat}(h:Good s fr):HeapIs s.m (giveD 0 fr (popsD s.m s.m s.d)) fr:=by
 have h1:=(h.heap.pops s.m (Nat.le_refl _)).2;rw[Nat.sub_self,List.drop_of_length_le (by rw[h.heap.len];exact Nat.le_refl _)] at h1;have hnd:fr.Nodup:=(List.nodup_append.1 h.nodup).1;have h2:=HeapIs.gives fr h1 hnd (by simp) (by rw[popsD_size,Nat.zero_add,h.heap.len];exact h.heap.size);rw[Nat.zero_add,h.heap.len] at h2;have e:insAll fr []=fr:=sorted_ext _ _ h2.sorted h.heap.sorted (fun z=>by rw[insAll_mem];simp);rw[e] at h2;exact h2
theorem PoolAt.withDisk{w w':World}{s:St}(h:PoolAt w s){S:List Nat}(hs:Same S w w')(hS:∀k∈S,k=s.db\/k=s.bb\/k=s.fb\/k∉s.foot){m':Nat}{bl':List Blk}{d':Array Int}(hd:DiskAt w' s.db s.bb s.fb s.n m' bl' d'):PoolAt w' { s with m:=m',bl:=bl',d:=d' }:=by
 have hap:=apart_of h.nodup;obtain⟨cap,hp,h1,h2⟩:=h.pool;have hne:∀k,k∈s.foot->k∉[s.db,s.bb,s.fb]->k∉S:=fun k hk hd hm=>by
  simp only[List.mem_cons,List.not_mem_nil,or_false,not_or] at hd;rcases hS k hm with e|e|e|e
  ·exact hd.1 e
  ·exact hd.2.1 e
  ·exact hd.2.2 e
  ·exact e hk
 refine⟨⟨cap,hs.at hp (hne _ s.foot_pb ?_),h1,h2⟩,fun b hb=>?_,hd,fun v hv=>?_,h.nodup,h.few,h.sorted,h.orgs⟩
 ·have:=hap.pb;simp only[List.mem_cons,not_or,List.not_mem_nil,not_false_eq_true,and_true] at this ⊢;exact⟨this.1,this.2.1,this.2.2.1⟩
 ·obtain⟨cs,hc,h3⟩:=h.arr b hb;have hb':s.ab=some b:=hb;have q1:=hap.db;have q2:=hap.bb;have q3:=hap.fb;simp only[hb',Option.toList_some,List.singleton_append,List.mem_cons,not_or] at q1 q2 q3;refine⟨cs,hs.at hc (hne b (s.foot_ab hb') ?_),h3⟩;simp only[List.mem_cons,not_or,List.not_mem_nil,not_false_eq_true,and_true];exact⟨fun e=>q1.2.2.1 e.symm,fun e=>q2.2.1 e.symm,fun e=>q3.1 e.symm⟩
 ·refine (h.vols v hv).same hs (fun k hk=>hne k (s.foot_vol hv hk) ?_);have:=hap.disk v hv k hk;simp only[List.mem_cons,not_or,List.not_mem_nil,not_false_eq_true,and_true] at this ⊢;exact⟨this.2.1,this.2.2.1,this.2.2.2⟩
theorem add_many(s:St)(i k:Int)(vb:Nat)(w:World)(h:PoolAt w s)(hv:20<=s.vols.length) :
 Calls Tryz.prog 82 #[.pointer (some ⟨s.pb,0,none⟩),.int .i64 i,.pointer (some ⟨vb,0,none⟩),.int .i64 k] w fun e w'=>e=.returned (.int .i64 5)/\w'=w:=by
 obtain⟨cap,hp,_,_⟩:=h.pool;have c2:w.cell? ⟨s.pb,2,none⟩=some (.slice (s.ab.map fun b=>⟨b,0,none⟩) s.vols.length cap):=hp.cell? 2;have hf:=h.few;clear h hp
 go_enter Tryz.func82,Tryz.ntmps82
 go_wp2
 go_ret
 exact⟨rfl,rfl⟩
theorem add_full(s:St)(fr:List Nat)(i:Int)(k vb:Nat)(w:World)(h:PoolAt w s)(hG:Good s fr)(hk:1<=k/\k<=200)(hv:s.vols.length < 20)(hf:fr.length < k) :
 Calls Tryz.prog 82 #[.pointer (some ⟨s.pb,0,none⟩),.int .i64 i,.pointer (some ⟨vb,0,none⟩),.int .i64 k] w fun e w'=>e=.returned (.int .i64 6)/\∃d',After w s w' { s with d:=d' } fr:=by
 have hT:=take_calls s.db s.bb s.fb s.n s.m k s.bl s.d fr w _ _ rfl rfl (by omega) h.disk hG.all hG.lt.1;obtain⟨cap,hp,_,_⟩:=h.pool;have c1:w.cell? ⟨s.pb,1,none⟩=some (.pointer (some ⟨s.db,0,none⟩)):=hp.cell? 1;have c2:w.cell? ⟨s.pb,2,none⟩=some (.slice (s.ab.map fun b=>⟨b,0,none⟩) s.vols.length cap):=hp.cell? 2;have H:Hid (PoolAt w s/\Good s fr):=⟨h,hG⟩
 have hml:=hG.heap.len;clear h hG hp;have l0:(s.vols.length:Int) < 20:=by omega
 go_enter Tryz.func82,Tryz.ntmps82
 go_wp2_with fail
 refine hT.mono ?_;rintro e w1 (⟨h1,_⟩|⟨_,rfl,hD,hS⟩)
 ·omega
 go_wp2
 go_ret
 obtain⟨h,hG⟩:=H.out;have e0:giveB fr s.bl=s.bl:=giveB_zero fr s.bl fun x hx=>⟨by rw[h.disk.len];exact hG.lt.1 x hx,hG.zero x hx⟩
 rw[e0] at hD;refine⟨rfl,_,⟨h.withDisk hS (by intro k hk;simp at hk;rcases hk with e|e|e<;>simp[e]) hD,⟨hG.back,hG.parts,hG.zero,hG.names,hG.pics⟩,hS.mono (by simp[St.foot]),fun k hk=>Or.inl hk,rfl,rfl⟩⟩
def delVol(i:Nat)(l:List Vol):List Vol:=l.take i++l.drop (i+1)
theorem delVol_sub(i:Nat)(l:List Vol):(delVol i l).Sublist l:=by
 have h:(l.drop (i+1)).Sublist (l.drop i):=by
  rw[<-List.drop_drop];exact List.drop_sublist _ _
 have:=List.Sublist.append (List.Sublist.refl (l.take i)) h;rw[List.take_append_drop] at this;exact this
theorem delVol_perm(i:Nat)(l:List Vol)(h:i < l.length):(l[i]! :: delVol i l).Perm l:=by
 have e:l=l.take i++l[i]! :: l.drop (i+1):=by
  rw[getElem!_pos l i h,<-List.drop_eq_getElem_cons h,List.take_append_drop]
 unfold delVol;have:=List.perm_middle (a:=l[i]!) (l₁:=l.take i) (l₂:=l.drop (i+1));rw[<-e] at this;exact this.symm
theorem delVol_length(i:Nat)(l:List Vol)(h:i < l.length):(delVol i l).length=l.length - 1:=by
 simp[delVol];omega
theorem sub_flatMap(f:Vol->List Nat){a b:List Vol}(h:a.Sublist b):(a.flatMap f).Sublist (b.flatMap f):=by
 induction h with
 | slnil=>exact List.Sublist.refl _
 | cons x _ ih=>rw[List.flatMap_cons];exact ih.trans (List.sublist_append_right _ _)
 | cons_cons x _ ih=>rw[List.flatMap_cons,List.flatMap_cons];exact (List.Sublist.refl _).append ih
theorem delVol_mem{i:Nat}{l:List Vol}(h:i < l.length){x:Vol}(hx:x∈l):x=l[i]!\/x∈delVol i l:=by
 rcases List.mem_cons.1 ((delVol_perm i l h).mem_iff.2 hx) with e|e
 ·exact Or.inl e
 ·exact Or.inr e
theorem del_state{w w':World}{s:St}(h:PoolAt w s)(i:Nat)(hi:i < s.vols.length)(hno:∀u∈s.vols,u.org≠some (s.vols[i]!).vb)(g cap:Nat)(cs:List Value)(hg:w.heap.size<=g\/s.ab=some g)
 (hP:At w' s.pb 87 [ptr s.pb,ptr s.db,.slice (some ⟨g,0,none⟩) (delVol i s.vols).length cap]) (hle:(delVol i s.vols).length<=cap) (hB:At w' g 110 cs)
 (hcs:cs.take (delVol i s.vols).length=(delVol i s.vols).map (fun v=>ptr v.vb)) (hcl:(delVol i s.vols).length<=cs.length) (hS:Same [s.pb] w w') :
 PoolAt w' { s with ab:=some g,vols:=delVol i s.vols }:=by
 have hnd:=h.nodup;have hsub:=delVol_sub i s.vols;have hap:=apart_of hnd;have hpbn:=hap.pb;refine⟨⟨cap,hP,hle,by simp⟩,fun b hb=>?_,?_,fun u hu=>?_,?_,Nat.le_trans hsub.length_le h.few,h.sorted.sublist hsub,fun u hu o ho=>?_⟩
 ·simp only[Option.some.injEq] at hb;subst hb;exact⟨cs,hB,hcs,hcl⟩
 ·refine h.disk.same hS ?_ ?_ ?_
  ·intro hm;simp at hm;exact hpbn (by rw[<-hm];simp)
  ·intro hm;simp at hm;exact hpbn (by rw[<-hm];simp)
  ·intro hm;simp at hm;exact hpbn (by rw[<-hm];simp)
 ·have hm:=hsub.mem hu;exact (h.vols u hm).same hS (fun k hk hx=>by
   simp at hx;have:=hap.disk u hm k hk;simp only[List.mem_cons,not_or] at this;exact this.1 hx)
 ·have hvs:((delVol i s.vols).flatMap Vol.foot).Sublist (s.vols.flatMap Vol.foot):=sub_flatMap Vol.foot hsub;unfold St.foot;simp only[Option.toList_some,List.singleton_append];rcases hg with hg|hg
  ·have hs2:List.Sublist (s.pb :: s.db :: s.bb :: s.fb :: (delVol i s.vols).flatMap Vol.foot) s.foot:=by
    unfold St.foot;refine List.Sublist.cons_cons _ (List.Sublist.cons_cons _ (List.Sublist.cons_cons _ (List.Sublist.cons_cons _ ?_)));exact hvs.trans (List.sublist_append_right _ _)
   have e2:(s.pb :: s.db :: s.bb :: s.fb :: g :: (delVol i s.vols).flatMap Vol.foot).Perm (g :: (s.pb :: s.db :: s.bb :: s.fb :: (delVol i s.vols).flatMap Vol.foot)):=
    (List.perm_middle (a:=g) (l₁:=[s.pb,s.db,s.bb,s.fb]))
   rw[e2.nodup_iff];refine List.nodup_cons.2 ⟨fun hm=>?_,hnd.sublist hs2⟩;have:=h.foot_lt g (hs2.mem hm);omega
  ·have hs2:List.Sublist (s.pb :: s.db :: s.bb :: s.fb :: g :: (delVol i s.vols).flatMap Vol.foot) s.foot:=by
    unfold St.foot;rw[hg];simp only[Option.toList_some,List.singleton_append];exact List.Sublist.cons_cons _ (List.Sublist.cons_cons _ (List.Sublist.cons_cons _ (List.Sublist.cons_cons _ (List.Sublist.cons_cons _ hvs))))
   exact hnd.sublist hs2
 ·have hm:=hsub.mem hu;obtain⟨x,hx,e1,e2⟩:=h.orgs u hm o ho;rcases delVol_mem hi hx with e|e
  ·exact absurd (by rw[ho,<-e1,e]) (hno u hm)
  ·exact⟨x,e,e1,e2⟩
theorem ins_perm(x:Nat)(l:List Nat):(ins x l).Perm (x :: l):=by
 induction l with
 | nil=>exact List.Perm.refl _
 | cons y r ih=>
  simp only[ins]
  split
  ·exact List.Perm.refl _
  ·exact (List.Perm.cons y ih).trans (List.Perm.swap x y r)
theorem insAll_perm(xs:List Nat):∀(l:List Nat),(insAll xs l).Perm (xs++l):=by
 induction xs with
 | nil=>intro l;exact List.Perm.refl _
 | cons x r ih=>
  intro l;refine (ih (ins x l)).trans ?_;refine (List.Perm.append_left r (ins_perm x l)).trans ?_;exact List.perm_middle
theorem giveB_get(xs:List Nat):∀(bl:List Blk) (x:Nat),x < bl.length->(giveB xs bl)[x]! = if x∈xs then Blk.zero else bl[x]!:=by
 induction xs with
 | nil=>intro bl x _;rfl
 | cons y r ih=>
  intro bl x hx;have e:giveB (y :: r) bl=giveB r (bl.set y Blk.zero):=rfl;rw[e,ih _ x (by simpa using hx)];by_cases h1:x∈r
  ·simp[h1]
  ·rw[if_neg h1];by_cases h2:x=y
   ·subst h2;rw[if_pos (by simp),getElem!_pos _ x (by simpa using hx)];simp
   ·rw[if_neg (by simp[h1,h2]),getElem!_pos _ x (by simpa using hx),getElem!_pos bl x hx];rw[List.getElem_set_ne (by omega)]
theorem Good.remove{s:St}{fr:List Nat}(h:Good s fr)(hl:s.bl.length=s.n)(hd:s.d.size=s.n)(i:Nat)(hi:i < s.vols.length)(ab:Option Nat) :
 Good { s with m:=s.m+(s.vols[i]!).xs.length,bl:=giveB (s.vols[i]!).xs s.bl,d:=giveD s.m (s.vols[i]!).xs s.d,ab:=ab,vols:=delVol i s.vols } (insAll (s.vols[i]!).xs fr):=by
 have hp:=delVol_perm i s.vols hi;have hfl:((s.vols[i]!).xs++(delVol i s.vols).flatMap (·.xs)).Perm (s.vols.flatMap (·.xs)):=by
  have:=hp.flatMap_right (·.xs);simpa using this
 have hnd:=h.nodup;have hpar:(insAll (s.vols[i]!).xs fr++(delVol i s.vols).flatMap (·.xs)).Perm (List.range s.n):=by
  refine ((List.Perm.append_right _ (insAll_perm _ fr)).trans ?_).trans h.parts;refine (List.Perm.append_right _ List.perm_append_comm).trans ?_;rw[List.append_assoc];exact List.Perm.append_left fr hfl
 have hnd2:=(hpar.nodup_iff.2 List.nodup_range)
 have hnd3:((s.vols[i]!).xs++fr).Nodup:=((insAll_perm _ fr).nodup_iff.1 (List.nodup_append.1 hnd2).1)
 have hlen:=hpar.length_eq;simp only[List.length_append,List.length_range,insAll_length] at hlen;refine⟨?_,hpar,fun x hx=>?_,fun u hu=>h.names u ((delVol_sub i s.vols).mem hu),fun v hv=>⟨(h.pics v ((delVol_sub i s.vols).mem hv)).1,(h.pics v ((delVol_sub i s.vols).mem hv)).2.1,fun u hu=>(h.pics v ((delVol_sub i s.vols).mem hv)).2.2 u ((delVol_sub i s.vols).mem hu)⟩⟩
 ·refine HeapIs.gives (s.vols[i]!).xs h.heap (List.nodup_append.1 hnd3).1 (fun x hx hm=>?_) ?_
  ·exact (List.nodup_append.1 hnd3).2.2 x hx x hm rfl
  ·have:=h.heap.len;omega
 ·have hxn:x < s.n:=List.mem_range.1 (hpar.mem_iff.1 (List.mem_append_left _ hx));show (giveB (s.vols[i]!).xs s.bl)[x]! = Blk.zero;rw[giveB_get _ _ _ (by omega)]
  split
  ·rfl
  ·rename_i hni
   rcases (insAll_mem _ _ _).1 hx with hx|hx
   ·exact absurd hx hni
   ·exact h.zero x hx
theorem drop_ok(s:St)(fr:List Nat)(t:ByteArray)(w:World)(h:PoolAt w s)(hG:Good s fr)(hi:s.has t=true)(hno:∀u∈s.vols,u.org≠some (s.vol t).vb) :
 Calls Tryz.prog 100 #[.pointer (some ⟨s.pb,0,none⟩),.pointer (some ⟨(s.vol t).vb,0,none⟩)] w fun e w'=>e=.returned (.tuple #[]) /\
  ∃g,After w s w' { s with m:=s.m+(s.vol t).xs.length,bl:=giveB (s.vol t).xs s.bl,d:=giveD s.m (s.vol t).xs s.d,ab:=some g,vols:=delVol (posOf s.names t) s.vols } (insAll (s.vol t).xs fr):=by
 obtain⟨hmem,hname,hpos⟩:=St.has_mem hi;obtain⟨cap,hp,hlc,_⟩:=h.pool;have hv:=h.vols _ hmem;obtain⟨vcap,vkcap,hvc,hvo,_,_⟩:=hv.vol;obtain⟨cs0,hr⟩:=hv.row;obtain⟨b,hb⟩:∃b,s.ab=some b:=by
  cases hab:s.ab with
  | none=>rw[h.none_nil hab] at hpos;simp at hpos
  | some b=>exact⟨b,rfl⟩
 obtain⟨cs,hB,hcs,hcl⟩:=h.arr b hb;rw[hb] at hp;have c1:w.cell? ⟨s.pb,1,none⟩=some (.pointer (some ⟨s.db,0,none⟩)):=hp.cell? 1;have d1:w.cell? ⟨(s.vol t).vb,1,none⟩=some (.slice (some ⟨(s.vol t).gb,0,none⟩) (s.vol t).xs.length vcap):=hvo.cell? 1;have hvfS:∀k∈(s.vol t).foot,k∉[s.db,s.bb,s.fb]:=fun k hk=>by
  have:=(apart_of h.nodup).disk _ hmem k hk;simp only[List.mem_cons,not_or,List.not_mem_nil,not_false_eq_true,and_true] at this ⊢;exact⟨this.2.1,this.2.2.1,this.2.2.2⟩
 have hgbS:(s.vol t).gb∉[s.db,s.bb,s.fb]:=hvfS _ (by simp[Vol.foot]);have hml:s.m+(s.vol t).xs.length<=s.n:=by
  have h1:=hG.parts.length_eq;have h2:=hG.heap.len;have h3:(s.vol t).xs.length<=(s.vols.flatMap (·.xs)).length:=by
   have:=(delVol_perm (posOf s.names t) s.vols hpos).flatMap_right (·.xs);have:=this.length_eq;simp only[List.flatMap_cons,List.length_append] at this;have e:s.vols[posOf s.names t]! = s.vol t:=rfl;rw[e] at this;omega
  simp only[List.length_append,List.length_range] at h1;omega
 have hGive:=fun W (hW:Same [] w W)=>give_calls s.db s.bb s.fb s.n s.m (s.vol t).gb 0 vcap s.bl s.d (s.vol t).xs (some ⟨(s.vol t).gb,0,none⟩) _ cs0 W _ _ rfl rfl (h.disk.same hW (by simp) (by simp) (by simp)) (fun _=>⟨rfl,hW.at hr.at_ (by simp),hgbS⟩) (fun j hj=>by rw[Nat.zero_add];exact hr.cell j hj) (fun x hx=>hG.lt.2 _ hmem x hx) hml
 have H:Hid (PoolAt w s/\Good s fr):=⟨h,hG⟩
 have HVN:Hid (At w (s.vol t).vb 133 ((s.vol t).cells vcap vkcap)/\(s.vol t).vb∉[s.db,s.bb,s.fb]):=⟨hvo,hvfS _ (by simp[Vol.foot])⟩
 have HNO:Hid (∀u∈s.vols,u.org≠some (s.vol t).vb):=hno;have HB:Hid (At w b 110 cs/\cs.take s.vols.length=s.vols.map (fun v=>ptr v.vb)/\s.vols.length<=cs.length/\s.ab=some b):=⟨hB,hcs,hcl,hb⟩
 have HP:Hid (At w s.pb 87 [ptr s.pb,ptr s.db,.slice (some ⟨b,0,none⟩) s.vols.length cap]):=hp;clear h hG hp hv hvo hr hB hcs hcl hb hno hvfS
 go_enter Tryz.func100,Tryz.ntmps100
 go_wp2_with fail
 go_region_with (go_at_call 95;refine (hGive _ ((Same.refl [] _).drew)).mono ?_;rintro e w1 ⟨rfl,hD,hS⟩)
 all_goals
  obtain⟨h,hG⟩:=H.out;obtain⟨hB,hcs,hcl,hb⟩:=HB.out;have hS':Same [s.db,s.bb,s.fb] w w1:=(Same.refl _ _).drew.step hS (by simp);have hP1:=h.withDisk hS' (by intro k hk;simp at hk;rcases hk with e|e|e<;>simp[e]) hD;have n1:w1.cell? ⟨(s.vol t).vb,0,none⟩=some (.string t):=((hS'.at HVN.out.1 HVN.out.2).cell? 0).trans (by show some (Value.string (s.vol t).name)=_;rw[hname]);have hX:=index_plain _ t w1 hP1;have hnd:=h.nodup;have hap:=apart_of hnd;have hbS:b∉[s.db,s.bb,s.fb]/\s.pb∉[s.db,s.bb,s.fb]/\b≠s.pb:=by
   have q0:=hap.pb;have q1:=hap.db;have q2:=hap.bb;have q3:=hap.fb;simp only[hb,Option.toList_some,List.singleton_append,List.mem_cons,not_or] at q0 q1 q2 q3;simp only[List.mem_cons,List.not_mem_nil,or_false,not_or];exact⟨⟨fun e=>q1.2.2.1 e.symm,fun e=>q2.2.1 e.symm,fun e=>q3.1 e.symm⟩,⟨q0.1,q0.2.1,q0.2.2.1⟩,fun e=>q0.2.2.2.1 e.symm⟩
  have hB1:=hS'.at hB hbS.1;have hp1:=hS'.at HP.out hbS.2.1;have c2:w1.cell? ⟨s.pb,2,none⟩=some (.slice (some ⟨b,0,none⟩) s.vols.length cap):=hp1.cell? 2;have f2:w1.frozen? ⟨s.pb,2,none⟩=false:=hp1.frozen 2;have e0:St.names { s with m:=s.m+(s.vol t).xs.length,bl:=giveB (s.vol t).xs s.bl,d:=giveD s.m (s.vol t).xs s.d }=s.names:=rfl;rw[e0] at hX;have hi':isIn s.names t=true:=hi;rw[hi'] at hX;have hGR:=hG.remove h.disk.len h.disk.size (posOf s.names t) hpos;have hfew:=h.few;have HF:Hid (∀(w2:World) (g cap2:Nat) (cs2:List Value),(w1.heap.size<=g\/s.ab=some g)->At w2 s.pb 87 [ptr s.pb,ptr s.db,.slice (some ⟨g,0,none⟩) (delVol (posOf s.names t) s.vols).length cap2]->(delVol (posOf s.names t) s.vols).length<=cap2->At w2 g 110 cs2->cs2.take (delVol (posOf s.names t) s.vols).length=(delVol (posOf s.names t) s.vols).map (fun v=>ptr v.vb)->(delVol (posOf s.names t) s.vols).length<=cs2.length->Same [s.pb] w1 w2->After w s w2 { s with m:=s.m+(s.vol t).xs.length,bl:=giveB (s.vol t).xs s.bl,d:=giveD s.m (s.vol t).xs s.d,ab:=some g,vols:=delVol (posOf s.names t) s.vols } (insAll (s.vol t).xs fr)):=by
   intro w2 g cap2 cs2 hg ha1 ha2 ha3 ha4 ha5 hs2;have hp2:=del_state hP1 (posOf s.names t) hpos HNO.out g cap2 cs2 hg ha1 ha2 ha3 ha4 ha5 hs2;refine⟨hp2,hGR (some g),(hS'.mono (T:=s.foot) (by simp[St.foot])).step hs2 (by simp[St.foot]),fun j hj=>?_,rfl,rfl⟩;have hsub:=delVol_sub (posOf s.names t) s.vols;rcases St.foot_cases hj with e|e|e|e|e|⟨u,hu,hk⟩
   ·left;rw[e];exact s.foot_pb
   ·left;rw[e];exact s.foot_db
   ·left;rw[e];exact s.foot_bb
   ·left;rw[e];exact s.foot_fb
   ·have e':g=j:=by simpa using e
    rcases hg with hg|hg
    ·right;have:=hS'.size;omega
    ·left;exact s.foot_ab (by rw[hg,e'])
   ·left;exact s.foot_vol (hsub.mem hu) hk
  clear hGR hG hi' e0 hD hS h hGive HP hP1 hS' hnd hap;generalize hpo:posOf s.names t=po at *;have HPO:Hid (posOf s.names t=po):=hpo;clear hpo;obtain⟨i0,hi0,hz0,hz1,hz2⟩:=info_parts Tryz.info59;have l1:(po:Int) < (s.vols.length:Int):=by omega
  have l2:(po:Int)+1<=(s.vols.length:Int):=by omega
  go_wp2_with (go_at_call 115;refine hX.mono ?_;rintro e w'' ⟨rfl,rfl⟩)
  have hwr:IntKind.i64.wrap ((po:Int)+1)=(po:Int)+1:=IntWalk.i64_in _ (by omega);have hdl:=delVol_length po s.vols hpos;by_cases hlast:po+1 < s.vols.length
  ·have olds:∀(W:World),W.heap=w''.heap->∀j u,((s.vols.take po).map (fun v=>ptr v.vb))[j]? = some u->W.cell? ⟨b,j,none⟩=some u:=by
    intro W hW j u hj;have hj2:j < po:=by
     rcases Nat.lt_or_ge j po with h'|h'
     ·exact h'
     ·rw[List.getElem?_eq_none (by simp;omega)] at hj;cases hj
    have hBW:At W b _ cs:=hB1.of_heap (by rw[hW]);rw[hBW.cell?];have e1:(cs.take s.vols.length)[j]? = cs[j]?:=by rw[List.getElem?_take,if_pos (by omega)]
    rw[<-e1,hcs,<-hj,List.map_take,List.getElem?_take,if_pos hj2]
   have news:∀(W:World),W.heap=w''.heap->∀j u,((s.vols.drop (po+1)).map (fun v=>ptr v.vb))[j]? = some u->W.cell? ⟨b,po+1+j,none⟩=some u:=by
    intro W hW j u hj;have hj2:po+1+j < s.vols.length:=by
     rcases Nat.lt_or_ge (po+1+j) s.vols.length with h'|h'
     ·exact h'
     ·rw[List.getElem?_eq_none (by simp;omega)] at hj;cases hj
    have hBW:At W b _ cs:=hB1.of_heap (by rw[hW]);rw[hBW.cell?];have e1:(cs.take s.vols.length)[po+1+j]? = cs[po+1+j]?:=by rw[List.getElem?_take,if_pos (by omega)]
    rw[<-e1,hcs,<-hj,List.map_drop,List.getElem?_drop]
   have hcapp:po+1 < cap:=by omega
   have k1:po<=cap:=by omega
   have k2:po+1<=s.vols.length:=by omega
   have k3:¬cap=po+1:=by omega
   have k4:((po:Int)+1).toNat=po+1:=by omega
   have k5:(0:Int)<=(po:Int)+1:=by omega
   have k6:s.vols.length<=cap:=by omega
   go_region_law (refine step_append_grows rfl (.tmp 31) (.tmp 38) 85 rfl 110 i0 (.pointer none) 1 8 Tryz.underlying85 hi0 hz0 hz1 hz2 rfl (by decide) (some ⟨b,0,none⟩) po po ((s.vols.take po).map (fun v=>ptr v.vb)) (by simp[Act.eval,Act.put]) (by intro h;cases h) (by simp;omega) (by intro b1 hb1 j u hj;simp only[Option.some.injEq] at hb1;subst hb1;rw[Addr.add_lit,Nat.zero_add];exact olds _ rfl j u hj) ⟨b,po+1,none⟩ (s.vols.length - (po+1)) (cap - (po+1)) ((s.vols.drop (po+1)).map (fun v=>ptr v.vb)) (by simp[Act.eval,Act.put]) (by simp) (by intro j u hj;rw[Addr.add_lit];exact news _ rfl j u hj) (ptrs_one _) (by omega) (by unfold maxLen;omega) (by omega) ?_;intro v' w2 hown hgrow;obtain⟨a2,cap2,rfl⟩:=owns_form hown;have p2:=hp1.drew.of_heap (hgrow.block s.pb hp1.drew.lt (by simp));have g2:w2.cell? ⟨s.pb,2,none⟩=some (.slice (some ⟨b,0,none⟩) s.vols.length cap):=p2.cell? 2;have z2:w2.frozen? ⟨s.pb,2,none⟩=false:=p2.frozen 2)
   all_goals
    obtain⟨g,cs2,rfl,hg,hA2,hl2,ht2⟩:=owns_atN hown (by omega);have hle2:=owns_le hown;have hdl2:po+(s.vols.length - (po+1))=(delVol po s.vols).length:=by omega
    have hgp:g≠s.pb:=by have:=hp1.lt;simp at hg;omega
    have hhs:=hgrow.size;have A2:=p2.set_same 2 (.slice (some ⟨g,0,none⟩) (po+(s.vols.length - (po+1))) cap2);have S2:Same [s.pb] w'' (w2.setCell ⟨s.pb,2,none⟩ (.slice (some ⟨g,0,none⟩) (po+(s.vols.length - (po+1))) cap2)):=(((Same.refl _ _).drew).grown hgrow (by simp)).set s.pb 2 _ (by simp);have hFin:=HF.out _ g cap2 cs2 (Or.inl hg) (by rw[<-hdl2];exact A2) (by rw[<-hdl2];exact hle2) (hA2.set_other s.pb 2 _ hgp) (by rw[<-hdl2];simp at ht2;rw[ht2];simp[delVol,List.map_take,List.map_drop]) (by rw[<-hdl2];omega) S2;clear HF A2 S2 hown hgrow p2 g2 z2 hA2 hl2 ht2
    go_wp2
    refine bodyPost_end (results_none rfl _ _ _) rfl ⟨rfl,g,?_⟩;rw[HPO.out];exact hFin
  ·have elast:po+1=s.vols.length:=by omega
   have k1:po<=cap:=by omega
   have k4:((po:Int)+1).toNat=po+1:=by omega
   have k5:(0:Int)<=(po:Int)+1:=by omega
   have k6:s.vols.length<=cap:=by omega
   have k7:(po:Int)<=(po:Int)+1:=by omega
   have HL:Hid (po+1=s.vols.length):=elast;generalize hLL:s.vols.length=LL at *;subst elast;by_cases hc0:cap=po+1
   ·subst hc0
    go_region_law (refine step_append_room rfl (.tmp 31) (.tmp 38) 85 rfl 110 i0 1 Tryz.underlying85 hi0 hz1 b 0 po po (by simp[Act.eval,Act.put]) ⟨b,0,none⟩ 0 0 [] (by simp[Act.eval,Act.put]) rfl (by intro j u hj;simp at hj) (by intro u hu;simp at hu) (by omega) (by intro j hj;simp at hj) ?_;rw[World.setCells])
    all_goals
     have A2:=hp1.drew.set_same 2 (.slice (some ⟨b,0,none⟩) po po);have S2:Same [s.pb] w'' (w''.drew.setCell ⟨s.pb,2,none⟩ (.slice (some ⟨b,0,none⟩) po po)):=((Same.refl _ _).drew).set s.pb 2 _ (by simp);have hdl2:(delVol po s.vols).length=po:=by omega
     have hFin:=HF.out _ b po cs (Or.inr hb) (by rw[hdl2];exact A2) (by omega) (hB1.drew.set_other s.pb 2 _ hbS.2.2) (by
      rw[hdl2];have e3:delVol po s.vols=s.vols.take po:=by unfold delVol;rw[List.drop_of_length_le (by omega),List.append_nil]
      have e4:cs.take po=(cs.take (po+1)).take po:=by rw[List.take_take,Nat.min_eq_left (by omega)]
      rw[e3,e4,hcs,List.map_take]) (by omega) S2
     clear HF A2 S2
     go_wp2
     refine bodyPost_end (results_none rfl _ _ _) rfl ⟨rfl,b,?_⟩;rw[HPO.out];exact hFin
   ·have hc1:po+1 < cap:=by omega
    go_region_law (refine step_append_room rfl (.tmp 31) (.tmp 38) 85 rfl 110 i0 1 Tryz.underlying85 hi0 hz1 b 0 po po (by simp[Act.eval,Act.put]) ⟨b,po+1,none⟩ 0 (cap - (po+1)) [] (by simp[Act.eval,Act.put]) rfl (by intro j u hj;simp at hj) (by intro u hu;simp at hu) (by omega) (by intro j hj;simp at hj) ?_;rw[World.setCells])
    all_goals
     have A2:=hp1.drew.set_same 2 (.slice (some ⟨b,0,none⟩) po po);have S2:Same [s.pb] w'' (w''.drew.setCell ⟨s.pb,2,none⟩ (.slice (some ⟨b,0,none⟩) po po)):=((Same.refl _ _).drew).set s.pb 2 _ (by simp);have hdl2:(delVol po s.vols).length=po:=by omega
     have hFin:=HF.out _ b po cs (Or.inr hb) (by rw[hdl2];exact A2) (by omega) (hB1.drew.set_other s.pb 2 _ hbS.2.2) (by
      rw[hdl2];have e3:delVol po s.vols=s.vols.take po:=by unfold delVol;rw[List.drop_of_length_le (by omega),List.append_nil]
      have e4:cs.take po=(cs.take (po+1)).take po:=by rw[List.take_take,Nat.min_eq_left (by omega)]
      rw[e3,e4,hcs,List.map_take]) (by omega) S2
     clear HF A2 S2
     go_wp2
     refine bodyPost_end (results_none rfl _ _ _) rfl ⟨rfl,b,?_⟩;rw[HPO.out];exact hFin
def setVol(i:Nat)(v:Vol)(l:List Vol):List Vol:=l.take i++v :: l.drop (i+1)
theorem setVol_perm(i:Nat)(v:Vol)(l:List Vol):(setVol i v l).Perm (v :: delVol i l):=List.perm_middle
theorem setVol_map{β:Type}(f:Vol->β)(i:Nat)(v:Vol)(l:List Vol)(h:i < l.length)(hf:f v=f l[i]!):(setVol i v l).map f=l.map f:=by
 have e:l=l.take i++l[i]! :: l.drop (i+1):=by
  rw[getElem!_pos l i h,<-List.drop_eq_getElem_cons h,List.take_append_drop]
 unfold setVol;rw[List.map_append,List.map_cons,hf]
 conv=>rhs;rw[e]
 rw[List.map_append,List.map_cons]
theorem setVol_length(i:Nat)(v:Vol)(l:List Vol)(h:i < l.length):(setVol i v l).length=l.length:=by
 simp[setVol];omega
theorem setVol_mem{i:Nat}{v:Vol}{l:List Vol}{x:Vol}:x∈setVol i v l↔x=v\/x∈delVol i l:=by
 rw[(setVol_perm i v l).mem_iff,List.mem_cons]
theorem get_mem{l:List Vol}{i:Nat}(hi:i < l.length):l[i]!∈l:=by rw[getElem!_pos l i hi];exact List.getElem_mem hi
theorem foot_del(s:St)(i:Nat)(hi:i < s.vols.length):s.foot.Perm ((s.vols[i]!).foot++(s.pb :: s.db :: s.bb :: s.fb :: (s.ab.toList++(delVol i s.vols).flatMap Vol.foot))):=by
 have h1:=((delVol_perm i s.vols hi).flatMap_right Vol.foot).symm;rw[List.flatMap_cons] at h1;unfold St.foot;refine (List.Perm.cons _ (List.Perm.cons _ (List.Perm.cons _ (List.Perm.cons _ (List.Perm.append_left _ h1))))).trans ?_;exact foot_perm _ _ _ _ _ _ _
theorem foot_set(s:St)(i:Nat)(v:Vol):(St.foot { s with vols:=setVol i v s.vols }).Perm (v.foot++(s.pb :: s.db :: s.bb :: s.fb :: (s.ab.toList++(delVol i s.vols).flatMap Vol.foot))):=by
 have h1:=(setVol_perm i v s.vols).flatMap_right Vol.foot;rw[List.flatMap_cons] at h1;unfold St.foot;refine (List.Perm.cons _ (List.Perm.cons _ (List.Perm.cons _ (List.Perm.cons _ (List.Perm.append_left _ h1))))).trans ?_;exact foot_perm _ _ _ _ _ _ _
theorem set_state{w w':World}{s:St}(h:PoolAt w s)(i:Nat)(hi:i < s.vols.length)(v:Vol)(hvb:v.vb=(s.vols[i]!).vb)(hnm:v.name=(s.vols[i]!).name)(horg:v.org=(s.vols[i]!).org)
 (hfoot:∀k∈v.foot,k∈(s.vols[i]!).foot\/w.heap.size<=k)
 (hV:VolAt w' v) (hS:Same (s.vols[i]!).foot w w'):PoolAt w' { s with vols:=setVol i v s.vols }:=by
 have hmem:=get_mem hi;obtain⟨cap,hp,h1,h2⟩:=h.pool;have hlen:=setVol_length i v s.vols hi;have hptr:=setVol_map (fun v=>ptr v.vb) i v s.vols hi (by simp[hvb]);have hnd:=(foot_del s i hi).nodup_iff.1 h.nodup;obtain⟨n1,n2,n3⟩:=List.nodup_append.1 hnd;have hout:∀k,k∈(s.pb :: s.db :: s.bb :: s.fb :: (s.ab.toList++(delVol i s.vols).flatMap Vol.foot))->k∉(s.vols[i]!).foot:=fun k hk hm=>n3 k hm k hk rfl
 refine⟨⟨cap,?_,by rw[hlen];exact h1,h2⟩,fun b hb=>?_,?_,fun u hu=>?_,?_,by rw[hlen];exact h.few,?_,fun u hu o ho=>?_⟩
 ·rw[show (setVol i v s.vols).length=s.vols.length from hlen];exact hS.at hp (hout _ (by simp))
 ·obtain⟨cs,hc,h3,h4⟩:=h.arr b hb;refine⟨cs,hS.at hc (hout b ?_),by rw[hlen,hptr];exact h3,by rw[hlen];exact h4⟩;simp[show s.ab=some b from hb]
 ·exact h.disk.same hS (hout _ (by simp)) (hout _ (by simp)) (hout _ (by simp))
 ·rcases setVol_mem.1 hu with rfl|hu
  ·exact hV
  ·refine (h.vols u ((delVol_sub i s.vols).mem hu)).same hS (fun k hk=>hout k ?_);simp only[List.mem_cons,List.mem_append,List.mem_flatMap];exact Or.inr (Or.inr (Or.inr (Or.inr (Or.inr ⟨u,hu,hk⟩))))
 ·rw[(foot_set s i v).nodup_iff];refine List.nodup_append.2 ⟨hV.nodup,n2,fun a ha b hb e=>?_⟩;subst e;rcases hfoot a ha with hm|hm
  ·exact n3 a hm a hb rfl
  ·have:=h.foot_lt a ((foot_del s i hi).mem_iff.2 (List.mem_append_right _ hb));omega
 ·have hs:=h.names_sorted;have e:=setVol_map (·.name) i v s.vols hi hnm;unfold St.names at hs;rw[<-e,List.pairwise_map] at hs;exact hs
 ·have key:∀x∈s.vols,x.vb=o->x.org=none->∃y∈setVol i v s.vols,y.vb=o/\y.org=none:=fun x hx e1 e2=>by
   rcases delVol_mem hi hx with e|e
   ·exact⟨v,setVol_mem.2 (Or.inl rfl),by rw[hvb,<-e];exact e1,by rw[horg,<-e];exact e2⟩
   ·exact⟨x,setVol_mem.2 (Or.inr e),e1,e2⟩
  rcases setVol_mem.1 hu with rfl|hu
  ·obtain⟨x,hx,e1,e2⟩:=h.orgs _ hmem o (by rw[<-horg];exact ho);exact key x hx e1 e2
  ·obtain⟨x,hx,e1,e2⟩:=h.orgs u ((delVol_sub i s.vols).mem hu) o ho;exact key x hx e1 e2
theorem set_foot{s:St}{i:Nat}(hi:i < s.vols.length){v:Vol}{B:Nat}(hf:∀k∈v.foot,k∈(s.vols[i]!).foot\/B<=k):∀k∈St.foot { s with vols:=setVol i v s.vols },k∈s.foot\/B<=k:=by
 intro k hk;rcases List.mem_append.1 ((foot_set s i v).mem_iff.1 hk) with hk|hk
 ·rcases hf k hk with e|e
  ·exact Or.inl (s.foot_vol (get_mem hi) e)
  ·exact Or.inr e
 ·exact Or.inl ((foot_del s i hi).mem_iff.2 (List.mem_append_right _ hk))
theorem PoolAt.org_ne{w:World}{s:St}(h:PoolAt w s){v:Vol}(hv:v∈s.vols):v.org≠some v.vb:=by
 intro e;obtain⟨x,hx,e1,e2⟩:=h.orgs v hv _ e;have:=h.vb_inj hx hv e1;rw[this] at e2;rw[e2] at e;cases e
theorem pics_set{w:World}{s:St}(h:PoolAt w s)(hp:Pics s.vols)(i:Nat)(hi:i < s.vols.length)(v:Vol)(hvb:v.vb=(s.vols[i]!).vb)(horg:v.org=(s.vols[i]!).org)(hk:v.kept.Nodup)(hl:v.lost=true->v.kept=[])
 (h1:∀u∈s.vols,v.org=some u.vb->(∀k∈v.kept,k < u.xs.length)/\v.xs.length<=u.xs.length)
 (h2:∀u∈s.vols,u.org=some v.vb->(∀k∈u.kept,k < v.xs.length)/\u.xs.length<=v.xs.length):Pics (setVol i v s.vols):=by
 have hsub:=delVol_sub i s.vols;intro x hx;rcases setVol_mem.1 hx with rfl|hxo
 ·refine⟨hk,hl,fun u hu ho=>?_⟩;rcases setVol_mem.1 hu with rfl|hu
  ·exact absurd (by rw[<-horg,<-hvb];exact ho) (h.org_ne (get_mem hi))
  ·exact h1 u (hsub.mem hu) ho
 ·have hxs:=hsub.mem hxo;refine⟨(hp x hxs).1,(hp x hxs).2.1,fun u hu ho=>?_⟩;rcases setVol_mem.1 hu with rfl|hu
  ·exact h2 x hxs ho
  ·exact (hp x hxs).2.2 u (hsub.mem hu) ho
theorem Good.cut{w:World}{s:St}{fr:List Nat}(hP:PoolAt w s)(h:Good s fr)(hl:s.bl.length=s.n)(hd:s.d.size=s.n)(i:Nat)(hi:i < s.vols.length)(k:Nat)(v:Vol)(hx:v.xs=(s.vols[i]!).xs.take k)(hn:v.name=(s.vols[i]!).name)(hpc:Pics (setVol i v s.vols)) :
 Good { s with m:=s.m+((s.vols[i]!).xs.drop k).length,bl:=giveB ((s.vols[i]!).xs.drop k) s.bl,d:=giveD s.m ((s.vols[i]!).xs.drop k) s.d,vols:=setVol i v s.vols } (insAll ((s.vols[i]!).xs.drop k) fr):=by
 have hp:=delVol_perm i s.vols hi;have hmem:s.vols[i]!∈s.vols:=by rw[getElem!_pos s.vols i hi];exact List.getElem_mem hi
 generalize hxs:(s.vols[i]!).xs=xs at *;have hfl:(xs++(delVol i s.vols).flatMap (·.xs)).Perm (s.vols.flatMap (·.xs)):=by
  have:=hp.flatMap_right (·.xs);rw[List.flatMap_cons,hxs] at this;exact this
 have hfl2:((setVol i v s.vols).flatMap (·.xs)).Perm (xs.take k++(delVol i s.vols).flatMap (·.xs)):=by
  have:=(setVol_perm i v s.vols).flatMap_right (·.xs);rw[List.flatMap_cons,hx] at this;exact this
 have hpar:(insAll (xs.drop k) fr++(setVol i v s.vols).flatMap (·.xs)).Perm (List.range s.n):=by
  refine (((insAll_perm _ fr).append hfl2).trans ?_).trans h.parts;have e1:((xs.drop k++fr)++(xs.take k++(delVol i s.vols).flatMap (·.xs))).Perm (fr++(xs++(delVol i s.vols).flatMap (·.xs))):=by
   refine (List.Perm.append_right _ List.perm_append_comm).trans ?_;rw[List.append_assoc];refine List.Perm.append_left fr ?_;rw[<-List.append_assoc];refine List.Perm.append_right _ ?_;have:=List.perm_append_comm (l₁:=xs.drop k) (l₂:=xs.take k);rw[List.take_append_drop] at this;exact this
  exact e1.trans (List.Perm.append_left fr hfl)
 have hnd2:=(hpar.nodup_iff.2 List.nodup_range)
 have hnd3:(xs.drop k++fr).Nodup:=((insAll_perm _ fr).nodup_iff.1 (List.nodup_append.1 hnd2).1)
 have hlen:=hpar.length_eq;simp only[List.length_append,List.length_range,insAll_length] at hlen;refine⟨?_,hpar,fun x hx'=>?_,fun u hu=>?_,hpc⟩
 ·refine HeapIs.gives (xs.drop k) h.heap (List.nodup_append.1 hnd3).1 (fun x hx hm=>?_) ?_
  ·exact (List.nodup_append.1 hnd3).2.2 x hx x hm rfl
  ·have:=h.heap.len;omega
 ·have hxn:x < s.n:=List.mem_range.1 (hpar.mem_iff.1 (List.mem_append_left _ hx'));show (giveB (xs.drop k) s.bl)[x]! = Blk.zero;rw[giveB_get _ _ _ (by omega)]
  split
  ·rfl
  ·rename_i hni
   rcases (insAll_mem _ _ _).1 hx' with hx'|hx'
   ·exact absurd hx' hni
   ·exact h.zero x hx'
 ·rcases List.mem_cons.1 ((setVol_perm i v s.vols).mem_iff.1 hu) with rfl|hu
  ·rw[hn];exact h.names _ hmem
  ·exact h.names u ((delVol_sub i s.vols).mem hu)
theorem Good.grow{s:St}{fr:List Nat}(h:Good s fr)(i:Nat)(hi:i < s.vols.length)(k:Nat)(hk:k<=fr.length)(v:Vol)(hx:v.xs=(s.vols[i]!).xs++fr.take k)(hn:v.name=(s.vols[i]!).name)(hpc:Pics (setVol i v s.vols)) :
 Good { s with m:=s.m - k,d:=popsD s.m k s.d,vols:=setVol i v s.vols } (fr.drop k):=by
 have hp:=delVol_perm i s.vols hi;have hmem:s.vols[i]!∈s.vols:=by rw[getElem!_pos s.vols i hi];exact List.getElem_mem hi
 obtain⟨_,h2⟩:=h.heap.pops k (by rw[<-h.heap.len];exact hk);refine⟨h2,?_,fun x hx=>h.zero x (List.mem_of_mem_drop hx),fun u hu=>?_,hpc⟩
 ·have hfl:((s.vols[i]!).xs++(delVol i s.vols).flatMap (·.xs)).Perm (s.vols.flatMap (·.xs)):=by
   have:=hp.flatMap_right (·.xs);simpa using this
  have hfl2:((setVol i v s.vols).flatMap (·.xs)).Perm (((s.vols[i]!).xs++fr.take k)++(delVol i s.vols).flatMap (·.xs)):=by
   have:=(setVol_perm i v s.vols).flatMap_right (·.xs);rw[List.flatMap_cons,hx] at this;exact this
  refine ((List.Perm.append_left (fr.drop k) hfl2).trans ?_).trans h.parts;have e1:(fr.drop k++((s.vols[i]!).xs++fr.take k++(delVol i s.vols).flatMap (·.xs))).Perm ((fr.take k++fr.drop k)++((s.vols[i]!).xs++(delVol i s.vols).flatMap (·.xs))):=by
   have a1:(fr.drop k++((s.vols[i]!).xs++fr.take k++(delVol i s.vols).flatMap (·.xs))).Perm (fr.drop k++(fr.take k++(s.vols[i]!).xs++(delVol i s.vols).flatMap (·.xs))):=
    List.Perm.append_left _ (List.Perm.append_right _ List.perm_append_comm)
   refine a1.trans ?_;rw[List.append_assoc,<-List.append_assoc (fr.drop k)];exact List.Perm.append_right _ List.perm_append_comm
  rw[List.take_append_drop] at e1;exact e1.trans (List.Perm.append_left fr hfl)
 ·rcases List.mem_cons.1 ((setVol_perm i v s.vols).mem_iff.1 hu) with rfl|hu
  ·rw[hn];exact h.names _ hmem
  ·exact h.names u ((delVol_sub i s.vols).mem hu)
theorem write_after{w w':World}{s:St}{fr:List Nat}(h:PoolAt w s)(hG:Good s fr)(y:Nat)(b:Blk)(hy:y∉fr)(hA:At w' s.bb 91 (flat (s.bl.set y b)))(hS:Same [s.bb] w w'):After w s w' { s with bl:=s.bl.set y b } fr:=by
 have hD:DiskAt w' s.db s.bb s.fb s.n s.m (s.bl.set y b) s.d:=
  ⟨hS.at h.disk.disk (by simp;exact h.disk.ne1),hA,hS.at h.disk.free (by simp;exact h.disk.ne3.symm),h.disk.ne1,h.disk.ne2,h.disk.ne3,by simp[h.disk.len],h.disk.size,h.disk.le,h.disk.small⟩
 refine⟨h.withDisk hS (by intro k hk;simp at hk;simp[hk]) hD,⟨hG.heap,hG.parts,fun x hx=>?_,hG.names,hG.pics⟩,hS.mono (by simp[St.foot]),fun k hk=>Or.inl hk,rfl,rfl⟩;show (s.bl.set y b)[x]! = Blk.zero;have hxl:x < s.bl.length:=by rw[h.disk.len];exact hG.lt.1 x hx
 have hne:y≠x:=fun e=>hy (by rw[e];exact hx)
 rw[getElem!_pos _ x (by simpa using hxl),List.getElem_set_ne hne,<-getElem!_pos s.bl x hxl];exact hG.zero x hx
theorem setVol_xs(i:Nat)(v:Vol)(l:List Vol)(hi:i < l.length)(hx:v.xs=(l[i]!).xs):(setVol i v l).flatMap (·.xs)=l.flatMap (·.xs):=by
 have:=setVol_map (·.xs) i v l hi hx;rw[List.flatMap_def,List.flatMap_def,this]
theorem Good.set{s:St}{fr:List Nat}(h:Good s fr)(i:Nat)(hi:i < s.vols.length)(v:Vol)(hx:v.xs=(s.vols[i]!).xs)(hn:v.name=(s.vols[i]!).name)(bl:List Blk)(hz:∀x∈fr,bl[x]! = Blk.zero)(hpc:Pics (setVol i v s.vols)) :
 Good { s with bl:=bl,vols:=setVol i v s.vols } fr:=by
 refine⟨h.heap,?_,hz,fun u hu=>?_,hpc⟩
 ·show (fr++(setVol i v s.vols).flatMap (·.xs)).Perm _;rw[setVol_xs i v s.vols hi hx];exact h.parts
 ·rcases setVol_mem.1 hu with rfl|hu
  ·rw[hn];exact h.names _ (get_mem hi)
  ·exact h.names u ((delVol_sub i s.vols).mem hu)
theorem Good.apart_fr{s:St}{fr:List Nat}(h:Good s fr){v:Vol}(hv:v∈s.vols){x:Nat}(hx:x∈v.xs):x∉fr:=fun hm=>
 (List.nodup_append.1 h.nodup).2.2 x hm x (List.mem_flatMap.2 ⟨v,hv,hx⟩) rfl
theorem zero_give{s:St}{fr:List Nat}(h:Good s fr)(hl:s.bl.length=s.n)(xs:List Nat):∀x∈fr,(giveB xs s.bl)[x]! = Blk.zero:=fun x hx=>by
 rw[giveB_get xs s.bl x (by rw[hl];exact h.lt.1 x hx)]
 split
 ·rfl
 ·exact h.zero x hx
theorem zero_set{s:St}{fr:List Nat}(h:Good s fr)(hl:s.bl.length=s.n)(y:Nat)(hy:y∉fr)(b:Blk):∀x∈fr,(s.bl.set y b)[x]! = Blk.zero:=fun x hx=>by
 have hxl:x < s.bl.length:=by rw[hl];exact h.lt.1 x hx
 have hne:y≠x:=fun e=>hy (by rw[e];exact hx)
 rw[getElem!_pos _ x (by simpa using hxl),List.getElem_set_ne hne,<-getElem!_pos s.bl x hxl];exact h.zero x hx
def Vol.losing(v:Vol):Vol:={ v with kg:=none,kept:=[],lost:=true }
theorem lose_calls(s:St)(fr:List Nat)(i:Nat)(v:Vol)(w:World)(h:PoolAt w s)(hG:Good s fr)(hi:i < s.vols.length)(hv:s.vols[i]! = v)(ho:v.org≠none) :
 Calls Tryz.prog 139 #[.pointer (some ⟨s.pb,0,none⟩),.pointer (some ⟨v.vb,0,none⟩)] w fun e w'=>e=.returned (.tuple #[]) /\
  After w s w' { s with bl:=giveB v.xs s.bl,vols:=setVol i v.losing s.vols } fr:=by
 have hmem:v∈s.vols:=by rw[<-hv];exact get_mem hi
 have hV:=h.vols v hmem;obtain⟨cap,kcap,hcap,hvo,hk1,hk2⟩:=hV.vol;obtain⟨cs,hr⟩:=hV.row;obtain⟨pcap,hp,_,_⟩:=h.pool;have c1:w.cell? ⟨v.vb,1,none⟩=some (.slice (some ⟨v.gb,0,none⟩) v.xs.length cap):=hvo.cell? 1;have c3:w.cell? ⟨v.vb,3,none⟩=some (.slice (adr v.kg) v.kept.length kcap):=hvo.cell? 3;have c4:w.cell? ⟨v.vb,4,none⟩=some (.bool v.lost):=hvo.cell? 4;have f3:w.frozen? ⟨v.vb,3,none⟩=false:=hvo.frozen 3;have f4:w.frozen? ⟨v.vb,4,none⟩=false:=hvo.frozen 4;have p1:w.cell? ⟨s.pb,1,none⟩=some (.pointer (some ⟨s.db,0,none⟩)):=hp.cell? 1;have hap:=(apart_of h.nodup).disk v hmem;have npb:v.vb≠s.pb:=by have:=hap v.vb (by simp[Vol.foot]);simp only[List.mem_cons,not_or] at this;exact this.1
 have npb':s.pb≠v.vb:=fun e=>npb e.symm
 have A1:=(hvo.set_same 3 (.slice none 0 0)).set_same 4 (.bool true);have S1:Same [v.vb] w ((w.setCell ⟨v.vb,3,none⟩ (.slice none 0 0)).setCell ⟨v.vb,4,none⟩ (.bool true)):=((Same.refl _ _).set _ _ _ (by simp)).set _ _ _ (by simp);have hnd:=hV.nodup;have hgv:v.gb∉[v.vb]:=by
  simp only[Vol.foot,List.nodup_cons,List.mem_cons,not_or] at hnd;simp;exact fun e=>hnd.1.1 e.symm
 have V1:VolAt ((w.setCell ⟨v.vb,3,none⟩ (.slice none 0 0)).setCell ⟨v.vb,4,none⟩ (.bool true)) v.losing:=by
  refine⟨⟨cap,0,hcap,A1,fun _=>⟨rfl,rfl⟩,fun g hg=>by cases hg⟩,⟨cs,hr.same S1 hgv⟩,?_,hV.pos,hV.small,by simp[Vol.losing],fun e=>absurd e ho⟩;simp only[Vol.losing,Vol.foot,Option.toList_none];simp only[Vol.foot,List.nodup_cons,List.mem_cons,not_or] at hnd;simp[hnd.1.1]
 have hP1:=set_state h i hi v.losing (by rw[hv];rfl) (by rw[hv];rfl) (by rw[hv];rfl) (by intro k hk;rw[hv];left;simp[Vol.losing,Vol.foot] at hk ⊢;rcases hk with e|e<;>simp[e]) V1 (S1.mono (by intro k hk _;rw[hv];simp at hk;simp[Vol.foot,hk]));have hpc:Pics (setVol i v.losing s.vols):=pics_set h hG.pics i hi v.losing (by rw[hv];rfl) (by rw[hv];rfl) (by simp[Vol.losing]) (fun _=>rfl) (fun u hu e=>⟨by simp[Vol.losing],((hG.pics v hmem).2.2 u hu e).2⟩) (fun u hu e=>(hG.pics u hu).2.2 v hmem e);have hG2:=hG.set i hi v.losing (by rw[hv];rfl) (by rw[hv];rfl) (giveB v.xs s.bl) (zero_give hG h.disk.len v.xs) hpc;have hgS:v.gb≠s.bb:=by have:=hap v.gb (by simp[Vol.foot]);simp only[List.mem_cons,not_or] at this;exact this.2.2.1
 have hlt:=hG.lt.2 v hmem;have hsm:=hV.small;have hW:=fun W (hW:Same [] ((w.setCell ⟨v.vb,3,none⟩ (.slice none 0 0)).setCell ⟨v.vb,4,none⟩ (.bool true)) W)=>wipe_calls s.db s.bb s.fb s.n s.m v.gb 0 cap s.bl s.d v.xs (some ⟨v.gb,0,none⟩) _ cs W _ _ rfl rfl (hP1.disk.same hW (by simp) (by simp) (by simp)) (fun _=>⟨rfl,(hr.same (S1.trans hW) (by simpa using hgv)).at_,hgS⟩) (fun j hj=>by rw[Nat.zero_add];exact hr.cell j hj) hlt (by omega)
 have q1:((w.setCell ⟨v.vb,3,none⟩ (.slice none 0 0)).setCell ⟨v.vb,4,none⟩ (.bool true)).cell? ⟨s.pb,1,none⟩=some (.pointer (some ⟨s.db,0,none⟩)):=(S1.at hp (by simp[npb'])).cell? 1;have q2:((w.setCell ⟨v.vb,3,none⟩ (.slice none 0 0)).setCell ⟨v.vb,4,none⟩ (.bool true)).cell? ⟨v.vb,1,none⟩=some (.slice (some ⟨v.gb,0,none⟩) v.xs.length cap):=A1.cell? 1;have hvf:v.vb∈s.foot:=s.foot_vol hmem (by simp[Vol.foot]);have HF:Hid (∀w3,DiskAt w3 s.db s.bb s.fb s.n s.m (giveB v.xs s.bl) s.d->Same [s.bb] ((w.setCell ⟨v.vb,3,none⟩ (.slice none 0 0)).setCell ⟨v.vb,4,none⟩ (.bool true)) w3->After w s w3 { s with bl:=giveB v.xs s.bl,vols:=setVol i v.losing s.vols } fr):=by
  intro w3 D3 S3;refine⟨hP1.withDisk S3 (by intro k hk;simp at hk;simp[hk]) D3,hG2,(S1.mono (T:=s.foot) (by simp;exact fun _=>hvf)).step S3 (by simp[St.foot]),?_,rfl,rfl⟩;exact set_foot (s:=s) (v:=v.losing) hi (by intro k hk;rw[hv];left;simp[Vol.losing,Vol.foot] at hk ⊢;rcases hk with e|e<;>simp[e])
 clear h hG hp hvo hV hr hk1 hk2 hap A1 V1 hP1 hG2 hpc S1
 go_enter Tryz.func139,Tryz.ntmps139
 go_wp2_with fail
 generalize ((w.setCell ⟨v.vb,3,none⟩ (.slice none 0 0)).setCell ⟨v.vb,4,none⟩ (.bool true))=W1 at *;refine region_tail 8 (by kernel_rfl) (by kernel_rfl) ?_;simp only[List.take_succ_cons,List.take_zero,List.drop_succ_cons,List.drop_zero]
 repeat still_step
 refine wpStill_nil ?_
 go_wp2_with (go_at_call 125;refine (hW _ ((Same.refl _ _).drew)).mono ?_;rintro e w3 ⟨rfl,D3,S3⟩)
 have hFin:=HF.out w3 D3 ((Same.refl _ _).drew.step S3 (by simp));clear HF D3 S3 hW;refine bodyPost_end (results_none rfl _ _ _) rfl ⟨rfl,hFin⟩
theorem pics_ins{w:World}{s:St}(h:PoolAt w s)(hp:Pics s.vols)(i:Nat)(v:Vol)(hvb:v.vb∉s.foot)(hk:v.kept=[])(hl:v.lost=false)
 (hvo:∀o,v.org=some o->∃u∈s.vols,u.vb=o/\v.xs.length<=u.xs.length):Pics (insVol i v s.vols):=by
 have hin:∀u∈s.vols,u.vb∈s.foot:=fun u hu=>s.foot_vol hu (by simp[Vol.foot])
 intro x hx;rcases insVol_mem.1 hx with rfl|hxo
 ·refine⟨by rw[hk];exact List.nodup_nil,fun _=>hk,fun u hu ho=>⟨by rw[hk];simp,?_⟩⟩;obtain⟨y,hy,e1,e2⟩:=hvo _ ho;rcases insVol_mem.1 hu with rfl|hu
  ·exact absurd (by rw[<-e1];exact hin y hy) hvb
  ·have:=h.vb_inj hy hu e1;rw[<-this];exact e2
 ·obtain⟨p1,p2,p3⟩:=hp x hxo;refine⟨p1,p2,fun u hu ho=>?_⟩;rcases insVol_mem.1 hu with rfl|hu
  ·obtain⟨y,hy,e1,_⟩:=h.orgs x hxo _ ho;exact absurd (by rw[<-e1];exact hin y hy) hvb
  ·exact p3 u hu ho
theorem Good.create{w:World}{s:St}{fr:List Nat}(hP:PoolAt w s)(h:Good s fr)(k i:Nat)(hk:k<=fr.length)(v:Vol)(hv:v.xs=fr.take k)(hn:nameB v.name=true)(hvb:v.vb∉s.foot)(hkp:v.kept=[])(hl:v.lost=false)
 (hvo:∀o,v.org=some o->∃u∈s.vols,u.vb=o/\v.xs.length<=u.xs.length) (ab:Option Nat) :
 Good { s with m:=s.m - k,d:=popsD s.m k s.d,ab:=ab,vols:=insVol i v s.vols } (fr.drop k):=by
 obtain⟨_,h2⟩:=h.heap.pops k (by rw[<-h.heap.len];exact hk);refine⟨h2,?_,fun x hx=>h.zero x (List.mem_of_mem_drop hx),fun u hu=>?_,pics_ins hP h.pics i v hvb hkp hl hvo⟩
 ·have e1:((insVol i v s.vols).flatMap (·.xs)).Perm (v.xs++s.vols.flatMap (·.xs)):=by
   have:=(insVol_perm i v s.vols).flatMap_right (·.xs);simpa using this
  refine ((List.Perm.append_left (fr.drop k) e1).trans ?_).trans h.parts;rw[hv,<-List.append_assoc];refine List.Perm.append_right _ ?_;have:=List.perm_append_comm (l₁:=fr.drop k) (l₂:=fr.take k);rw[List.take_append_drop] at this;exact this
 ·rcases List.mem_cons.1 ((insVol_perm i v s.vols).mem_iff.1 hu) with rfl|hu
  ·exact hn
  ·exact h.names u hu
structure AfterB(w:World)(s:St)(vb:Nat)(w':World)(s':St)(fr':List Nat):Prop where
 pool:PoolAt w' s'
 good:Good s' fr'
 same:Same (vb :: s.foot) w w'
 foot:∀k∈s'.foot,k∈s.foot\/k=vb\/w.heap.size<=k
 pb:s'.pb=s.pb
 n:s'.n=s.n
theorem AfterB.after{w0 w:World}{s:St}{vb:Nat}{w':World}{s':St}{fr':List Nat}(h:AfterB w s vb w' s' fr')(h0:Same [] w0 w)(hvb:w0.heap.size<=vb):After w0 s w' s' fr':=by
 have hz:=h0.size;refine⟨h.pool,h.good,(h0.mono (T:=s.foot) (by simp)).step h.same ?_,fun k hk=>?_,h.pb,h.n⟩
 ·intro k hk hl;rcases List.mem_cons.1 hk with e|e
  ·omega
  ·exact e
 ·rcases h.foot k hk with e|e|e
  ·exact Or.inl e
  ·right;omega
  ·right;omega
theorem add_ok(s:St)(fr:List Nat)(t:ByteArray)(k vb:Nat)(org:Option Nat)(w:World)(h:PoolAt w s)(hG:Good s fr)(hV:At w vb 133 [.string t,.slice none 0 0,.pointer (adr org),.slice none 0 0,.bool false])(hvb:vb∉s.foot)
 (hn:nameB t=true) (hx:s.has t=false) (hk:1<=k/\k<=200) (hv:s.vols.length < 20) (hf:k<=fr.length) (hvo:∀o,org=some o->∃u∈s.vols,u.vb=o/\u.org=none/\k<=u.xs.length) :
 Calls Tryz.prog 82 #[.pointer (some ⟨s.pb,0,none⟩),.int .i64 (posOf s.names t:Nat),.pointer (some ⟨vb,0,none⟩),.int .i64 k] w fun e w'=>e=.returned (.int .i64 0) /\
  ∃g gb,AfterB w s vb w' { s with m:=s.m - k,d:=popsD s.m k s.d,ab:=some g,vols:=insVol (posOf s.names t) ⟨vb,gb,t,fr.take k,org,none,[],false⟩ s.vols } (fr.drop k):=by
 have hT:=take_calls s.db s.bb s.fb s.n s.m k s.bl s.d fr w _ _ rfl rfl (by omega) h.disk hG.all hG.lt.1;obtain⟨cap,hp,_,_⟩:=h.pool;have c1:w.cell? ⟨s.pb,1,none⟩=some (.pointer (some ⟨s.db,0,none⟩)):=hp.cell? 1;have c2:w.cell? ⟨s.pb,2,none⟩=some (.slice (s.ab.map fun b=>⟨b,0,none⟩) s.vols.length cap):=hp.cell? 2;have H:Hid (PoolAt w s/\Good s fr):=⟨h,hG⟩
 have hml:=hG.heap.len;have hpos:posOf s.names t<=s.vols.length:=by
  have:=List.countP_le_length (p:=fun n=>decide (cmpB n t < 0)) (l:=s.names);simpa [St.names,posOf] using this
 have hIns:∀(W:World) (s1:St),PoolAt W s1->s1.pb=s.pb->s1.ab=s.ab->s1.vols=s.vols->∀vb,Calls Tryz.prog 118 #[.pointer (some ⟨s.pb,0,none⟩),.int .i64 (posOf s.names t:Nat),.pointer (some ⟨vb,0,none⟩)] W fun e w'=>e=.returned (.tuple #[])/\ArrAt W w' s1 ((s1.vols.take (posOf s.names t)).map (fun v=>ptr v.vb)++[ptr vb]++(s1.vols.drop (posOf s.names t)).map (fun v=>ptr v.vb)):=by
  intro W s1 hP e1 e2 e3 vb;cases hab:s.ab with
  | none=>
   have hv0:=hP.none_nil (e2.trans hab);have hp0:posOf s.names t=0:=by
    have:s.vols=[]:=by rw[<-e3];exact hv0
    have hl:s.vols.length=0:=by rw[this];rfl
    omega
   have:=insert_nil s1 vb W hP (e2.trans hab);rw[e1] at this;rw[hp0,hv0];exact this
  | some b=>
   have:=insert_some s1 vb b (posOf s.names t) W hP (e2.trans hab) (by rw[e3];exact hpos);rw[e1] at this;exact this
 have HVO:Hid (∀o,org=some o->∃u∈s.vols,u.vb=o/\u.org=none/\k<=u.xs.length):=hvo;clear h hG hp hvo;generalize hpo:posOf s.names t=po at *;have HPO:Hid (posOf s.names t=po):=hpo;clear hpo;have l0:(s.vols.length:Int) < 20:=by omega
 go_enter Tryz.func82,Tryz.ntmps82
 go_wp2_with fail
 refine hT.mono ?_;rintro e w1 (⟨_,v',rfl,hD,hown,hS⟩|⟨h1,_⟩)
 case inr=>omega
 obtain⟨h,hG⟩:=H.out;obtain⟨a',cap',rfl⟩:=owns_form hown;have hpops:=(hG.heap.pops k (by omega)).1;rw[hpops,List.map_map] at hown;have hxsl:(fr.take k).length=k:=by simp;omega
 obtain⟨gb,cs,rfl,hgb,hR,hle⟩:=owns_row_at (xs:=fr.take k) hown hxsl.symm (by intro e;rw[e] at hxsl;simp at hxsl;omega);have hP1:=h.withDisk hS (by intro k hk;simp at hk;rcases hk with e|e<;>simp[e]) hD;have hvS:vb∉[s.db,s.fb]:=by
  simp only[List.mem_cons,List.not_mem_nil,or_false,not_or];exact⟨fun e=>hvb (by rw[e];exact s.foot_db),fun e=>hvb (by rw[e];exact s.foot_fb)⟩
 have hV1:=hS.at hV hvS;have lvb:=hV.lt;have d1:w1.cell? ⟨vb,1,none⟩=some (.slice none 0 0):=hV1.cell? 1;have f1:w1.frozen? ⟨vb,1,none⟩=false:=hV1.frozen 1;have A3:=hV1.set_same 1 (.slice (some ⟨gb,0,none⟩) k cap');simp only[List.set_cons_succ,List.set_cons_zero] at A3;have S3:Same [vb] w1 (w1.setCell ⟨vb,1,none⟩ (.slice (some ⟨gb,0,none⟩) k cap')):=(Same.refl _ _).set vb 1 _ (by simp);have hP3:=hP1.same S3 (by intro j hj hm;simp at hm;rw[hm] at hj;exact hvb hj);have hgne:vb≠gb:=by omega
 have hR3:=hR.same S3 (by simpa using fun e=>hgne e.symm);have V3:VolAt (w1.setCell ⟨vb,1,none⟩ (.slice (some ⟨gb,0,none⟩) k cap')) ⟨vb,gb,t,fr.take k,org,none,[],false⟩:=
  ⟨⟨cap',0,hle,by simp only[Vol.cells,hxsl];exact A3,fun _=>⟨rfl,rfl⟩,fun g hg=>by cases hg⟩,⟨cs,hR3⟩,by simp[Vol.foot,hgne],by intro e;have e2:(fr.take k).length=0:=by { rw[show fr.take k=[] from e];rfl };omega,by show (fr.take k).length<=200;omega,by simp,fun _=>⟨rfl,rfl⟩⟩
 have hlt:=h.foot_lt;have hgl:=hR.at_.lt;have hz1:=hS.size;clear hT hown hD c1 c2 hV1 A3
 go_wp2_with fail
 generalize w1.setCell ⟨vb,1,none⟩ (.slice (some ⟨gb,0,none⟩) k cap')=W3 at *;refine (hIns W3 _ hP3 rfl rfl rfl vb).mono ?_;rintro e w4 ⟨rfl,hA⟩;have hfo:∀j∈Vol.foot ⟨vb,gb,t,fr.take k,org,none,[],false⟩,j∉St.foot { s with m:=s.m - k,bl:=s.bl,d:=popsD s.m k s.d }:=by
  intro j hj hm;simp only[Vol.foot,Option.toList_none,List.mem_cons,List.not_mem_nil,or_false] at hj;rcases hj with e|e
  ·exact hvb (e▸hm)
  ·have:=hlt j hm;omega
 rw[<-HPO.out] at hA;obtain⟨g,hg,hP4⟩:=insert_state hP3 ⟨vb,gb,t,fr.take k,org,none,[],false⟩ V3 hfo hv hx (fun o ho=>by obtain⟨u,h1,h2,h3,_⟩:=HVO.out o ho;exact⟨u,h1,h2,h3⟩) hA;have hGn:=Good.create h hG k (posOf s.names t) hf ⟨vb,gb,t,fr.take k,org,none,[],false⟩ rfl hn hvb rfl rfl (fun o ho=>by obtain⟨u,h1,h2,h3,h4⟩:=HVO.out o ho;exact⟨u,h1,h2,by rw[hxsl];exact h4⟩) (some g);have hsame:Same (vb :: s.foot) w w4:=((hS.mono (T:=vb :: s.foot) (by simp[St.foot])).step S3 (by simp)).step hA.same (by simp[St.foot]);have hg5:=S3.size;have hfoot:∀j∈St.foot { s with m:=s.m - k,d:=popsD s.m k s.d,ab:=some g,vols:=insVol (posOf s.names t) ⟨vb,gb,t,fr.take k,org,none,[],false⟩ s.vols },j∈s.foot\/j=vb\/w.heap.size<=j:=by
  intro j hj;rcases St.foot_cases hj with e|e|e|e|e|⟨u,hu,hk⟩
  ·left;rw[e];exact s.foot_pb
  ·left;rw[e];exact s.foot_db
  ·left;rw[e];exact s.foot_bb
  ·left;rw[e];exact s.foot_fb
  ·right;right;simp at e;omega
  ·rcases insVol_mem.1 hu with rfl|hu
   ·simp only[Vol.foot,Option.toList_none,List.mem_cons,List.not_mem_nil,or_false] at hk;rcases hk with e|e
    ·right;left;exact e
    ·right;right;omega
   ·left;exact s.foot_vol hu hk
 have hFin:AfterB w s vb w4 { s with m:=s.m - k,d:=popsD s.m k s.d,ab:=some g,vols:=insVol (posOf s.names t) ⟨vb,gb,t,fr.take k,org,none,[],false⟩ s.vols } (fr.drop k):=⟨hP4,hGn,hsame,hfoot,rfl,rfl⟩
 clear hP4 hGn hsame hfoot hA hP3 hR3 V3 S3 hIns hR hS hP1 h hG;rw[HPO.out] at hFin
 go_wp2
 go_ret
 exact⟨rfl,g,gb,hFin⟩
end
end Go.Proofs.YtpddgdjocffgdaaGreat
