/- A Pool in memory; what finds a volume, by contracts. A Pool: findPlace, Free, Map, Read, by contracts. Volumes and pictures: told, keptIn, holder, by contracts. Pictures: told, by a contract. A Pool: List, by a contract. The heap of free blocks: what pops and pushes come to, in plain numbers. -/
import Derived.Test.YtpddgdjocffgdaaGreatJ02
import Derived.LaidEqlPtr
import Derived.Test.YtpddgdjocffgdaaGreatJ01
namespace Go.Proofs.YtpddgdjocffgdaaGreat
set_option linter.unusedVariables false
set_option linter.unusedSimpArgs false
set_option linter.unusedSectionVars false
set_option maxHeartbeats 16000000
set_option maxRecDepth 100000
section
open Go.RowKit Go.Sort
variable [DecidableEq Blk] [Inhabited Blk] [Inhabited Vol]
structure St where
 pb:Nat
 db:Nat
 bb:Nat
 fb:Nat
 ab:Option Nat
 n:Nat
 m:Nat
 bl:List Blk
 d:Array Int
 vols:List Vol
def St.foot(s:St):List Nat:=s.pb :: s.db :: s.bb :: s.fb :: (s.ab.toList++s.vols.flatMap Vol.foot)
def ptr(b:Nat):Value:=.pointer (some ⟨b,0,none⟩)
def St.names(s:St):List ByteArray:=s.vols.map (·.name)
structure PoolAt(w:World)(s:St):Prop where
 pool:∃cap,At w s.pb 87 [ptr s.pb,ptr s.db,.slice (s.ab.map fun b=>⟨b,0,none⟩) s.vols.length cap]/\s.vols.length<=cap/\(s.ab=none->cap=0)
 arr:∀b,s.ab=some b->∃cs,At w b 110 cs/\cs.take s.vols.length=s.vols.map (fun v=>ptr v.vb)/\s.vols.length<=cs.length
 disk:DiskAt w s.db s.bb s.fb s.n s.m s.bl s.d
 vols:∀v∈s.vols,VolAt w v
 nodup:s.foot.Nodup
 few:s.vols.length<=20
 sorted:s.vols.Pairwise fun a b=>cmpB a.name b.name < 0
 orgs:∀v∈s.vols,∀o,v.org=some o->∃u∈s.vols,u.vb=o/\u.org=none
theorem St.foot_pb(s:St):s.pb∈s.foot:=by simp[St.foot]
theorem St.foot_db(s:St):s.db∈s.foot:=by simp[St.foot]
theorem St.foot_bb(s:St):s.bb∈s.foot:=by simp[St.foot]
theorem St.foot_fb(s:St):s.fb∈s.foot:=by simp[St.foot]
theorem St.foot_ab(s:St){b:Nat}(h:s.ab=some b):b∈s.foot:=by simp[St.foot,h]
theorem St.foot_vol(s:St){v:Vol}(h:v∈s.vols){k:Nat}(hk:k∈v.foot):k∈s.foot:=by
 simp only[St.foot,List.mem_cons,List.mem_append,List.mem_flatMap];exact Or.inr (Or.inr (Or.inr (Or.inr (Or.inr ⟨v,h,hk⟩))))
theorem St.foot_cases{s:St}{k:Nat}(h:k∈s.foot):k=s.pb\/k=s.db\/k=s.bb\/k=s.fb\/s.ab=some k\/∃v∈s.vols,k∈v.foot:=by
 simpa only[St.foot,List.mem_cons,List.mem_append,List.mem_flatMap,Option.mem_toList,Option.mem_def] using h
structure Apart(s:St):Prop where
 pb:s.pb∉s.db :: s.bb :: s.fb :: (s.ab.toList++s.vols.flatMap Vol.foot)
 db:s.db∉s.bb :: s.fb :: (s.ab.toList++s.vols.flatMap Vol.foot)
 bb:s.bb∉s.fb :: (s.ab.toList++s.vols.flatMap Vol.foot)
 fb:s.fb∉s.ab.toList++s.vols.flatMap Vol.foot
 ab:∀b,s.ab=some b->∀v∈s.vols,b∉v.foot
 disk:∀v∈s.vols,∀k∈v.foot,k∉[s.pb,s.db,s.bb,s.fb]
theorem apart_of{s:St}(h:s.foot.Nodup):Apart s:=by
 unfold St.foot at h;obtain⟨h1,h⟩:=List.nodup_cons.1 h;obtain⟨h2,h⟩:=List.nodup_cons.1 h;obtain⟨h3,h⟩:=List.nodup_cons.1 h;obtain⟨h4,h⟩:=List.nodup_cons.1 h;refine⟨h1,h2,h3,h4,fun b hb v hv hk=>?_,fun v hv k hk=>?_⟩
 ·exact (List.nodup_append.1 h).2.2 b (by simp[hb]) b (List.mem_flatMap.2 ⟨v,hv,hk⟩) rfl
 ·have hm:k∈s.vols.flatMap Vol.foot:=List.mem_flatMap.2 ⟨v,hv,hk⟩;simp only[List.mem_cons,List.not_mem_nil,or_false,not_or];refine⟨fun e=>h1 ?_,fun e=>h2 ?_,fun e=>h3 ?_,fun e=>h4 ?_⟩
  all_goals (rw[<-e];simp only[List.mem_cons,List.mem_append];simp only[hm,or_true])
theorem PoolAt.none_nil{w:World}{s:St}(h:PoolAt w s)(hn:s.ab=none):s.vols=[]:=by
 obtain⟨cap,_,h1,h2⟩:=h.pool;have:=h2 hn;exact List.eq_nil_of_length_eq_zero (by omega)
theorem PoolAt.foot_lt{w:World}{s:St}(h:PoolAt w s):∀k∈s.foot,k < w.heap.size:=by
 intro k hk;obtain⟨cap,hp,_,_⟩:=h.pool;rcases St.foot_cases hk with rfl|rfl|rfl|rfl|hk|⟨v,hv,hk⟩
 ·exact hp.lt
 ·exact h.disk.disk.lt
 ·exact h.disk.data.lt
 ·exact h.disk.free.lt
 ·obtain⟨cs,hc,_⟩:=h.arr k hk;exact hc.lt
 ·exact (h.vols v hv).foot_lt k hk
theorem PoolAt.same{w w':World}{s:St}(h:PoolAt w s){S:List Nat}(hs:Same S w w')(hd:∀k∈s.foot,k∉S):PoolAt w' s:=by
 obtain⟨cap,hp,h1,h2⟩:=h.pool;refine⟨⟨cap,hs.at hp (hd _ s.foot_pb),h1,h2⟩,fun b hb=>?_,h.disk.same hs (hd _ s.foot_db) (hd _ s.foot_bb) (hd _ s.foot_fb),fun v hv=>(h.vols v hv).same hs (fun k hk=>hd k (s.foot_vol hv hk)),h.nodup,h.few,h.sorted,h.orgs⟩;obtain⟨cs,hc,h3⟩:=h.arr b hb;exact⟨cs,hs.at hc (hd _ (s.foot_ab hb)),h3⟩
theorem PoolAt.new{w w':World}{s:St}(h:PoolAt w s)(hs:Same [] w w'):PoolAt w' s:=h.same hs (by simp)
theorem PoolAt.cell{w:World}{s:St}(h:PoolAt w s)(i:Nat)(hi:i < s.vols.length) :
 ∃b,s.ab=some b/\w.cell? ⟨b,i,none⟩=some (.pointer (some ⟨(s.vols[i]!).vb,0,none⟩))/\w.cell? ⟨(s.vols[i]!).vb,0,none⟩=some (.string (s.vols[i]!).name):=by
 cases hab:s.ab with
 | none=>rw[h.none_nil hab] at hi;simp at hi
 | some b=>
  obtain⟨cs,hc,h1,h2⟩:=h.arr b hab;refine⟨b,rfl,?_,?_⟩
  ·have:(cs.take s.vols.length)[i]? = cs[i]?:=by rw[List.getElem?_take,if_pos hi]
   rw[hc.cell?,<-this,h1];simp[List.getElem?_map,List.getElem?_eq_getElem hi,getElem!_pos s.vols i hi,ptr]
  ·have hm:s.vols[i]!∈s.vols:=by rw[getElem!_pos s.vols i hi];exact List.getElem_mem hi
   obtain⟨_,_,_,hv,_⟩:=(h.vols _ hm).vol;exact hv.cell? 0
theorem flatMap_foot_vb:∀(l:List Vol),(l.flatMap Vol.foot).Nodup->l.Pairwise fun a b=>a.vb≠b.vb
 | [],_=>List.Pairwise.nil
 | a :: r,h=>by
  rw[List.flatMap_cons,List.nodup_append] at h;refine List.pairwise_cons.2 ⟨fun b hb e=>?_,flatMap_foot_vb r h.2.1⟩;exact h.2.2 a.vb (by simp[Vol.foot]) b.vb (List.mem_flatMap.2 ⟨b,hb,by simp[Vol.foot]⟩) e
theorem PoolAt.flat_nodup{w:World}{s:St}(h:PoolAt w s):(s.vols.flatMap Vol.foot).Nodup:=by
 have hn:=h.nodup;unfold St.foot at hn;obtain⟨_,hn⟩:=List.nodup_cons.1 hn;obtain⟨_,hn⟩:=List.nodup_cons.1 hn;obtain⟨_,hn⟩:=List.nodup_cons.1 hn;obtain⟨_,hn⟩:=List.nodup_cons.1 hn;exact (List.nodup_append.1 hn).2.1
theorem pairwise_inj{l:List Vol}(h:l.Pairwise fun a b=>a.vb≠b.vb){a b:Vol}(ha:a∈l)(hb:b∈l)(e:a.vb=b.vb):a=b:=by
 induction l with
 | nil=>simp at ha
 | cons x r ih=>
  obtain⟨h1,h2⟩:=List.pairwise_cons.1 h;rcases List.mem_cons.1 ha with rfl|ha'
  ·rcases List.mem_cons.1 hb with rfl|hb'
   ·rfl
   ·exact absurd e (h1 b hb')
  ·rcases List.mem_cons.1 hb with rfl|hb'
   ·exact absurd e.symm (h1 a ha')
   ·exact ih h2 ha' hb'
theorem PoolAt.vb_inj{w:World}{s:St}(h:PoolAt w s){a b:Vol}(ha:a∈s.vols)(hb:b∈s.vols)(e:a.vb=b.vb):a=b:=
 pairwise_inj (flatMap_foot_vb _ h.flat_nodup) ha hb e
def St.volAt(s:St)(b:Nat):Vol:=(s.vols.find? fun u=>u.vb == b).getD default
def St.orgOf(s:St)(v:Vol):Vol:=
 match v.org with
 | none=>v
 | some b=>s.volAt b
theorem PoolAt.volAt{w:World}{s:St}(h:PoolAt w s){u:Vol}(hu:u∈s.vols):s.volAt u.vb=u:=by
 unfold St.volAt;cases hf:s.vols.find? (fun x=>x.vb == u.vb) with
 | none=>have:=List.find?_eq_none.1 hf u hu;simp at this
 | some x=>
  have h1:=List.find?_some hf;have h2:=List.mem_of_find?_eq_some hf;exact h.vb_inj h2 hu (by simpa using h1)
theorem PoolAt.orgOf{w:World}{s:St}(h:PoolAt w s){v:Vol}(hv:v∈s.vols):s.orgOf v∈s.vols/\(s.orgOf v).org=none/\(v.org=none->s.orgOf v=v)/\(v.org≠none->v.org=some (s.orgOf v).vb):=by
 cases ho:v.org with
 | none=>
  have e:s.orgOf v=v:=by unfold St.orgOf;rw[ho]
  rw[e];exact⟨hv,ho,fun _=>rfl,fun h=>absurd rfl h⟩
 | some b=>
  obtain⟨u,hu,rfl,hu0⟩:=h.orgs v hv b ho;have e:s.orgOf v=u:=by unfold St.orgOf;rw[ho];exact h.volAt hu
  rw[e];exact⟨hu,hu0,fun h=>absurd h (by simp),fun _=>rfl⟩
theorem made_calls(s:St)(w:World)(h:PoolAt w s) :
 Calls Tryz.prog 45 #[ptr s.pb] w fun e w'=>e=.returned (.bool true)/\w'=w:=by
 obtain⟨cap,hp,_,_⟩:=h.pool;have c0:w.cell? ⟨s.pb,0,none⟩=some (.pointer (some ⟨s.pb,0,none⟩)):=hp.cell? 0;clear h hp;unfold ptr;obtain⟨i0,hi⟩:∃i,Tryz.prog.info? 87=some i:=Option.isSome_iff_exists.1 (by kernel_rfl);have heq:=run_eql_ptr_same (P:=Tryz.prog) (w:=w) ⟨s.pb,0,none⟩ Tryz.underlying58 hi
 go_enter Tryz.func45,Tryz.ntmps45
 go_wp2
 go_ret
 simp
theorem mono_of_sorted(ns:List ByteArray)(t:ByteArray)(hs:ns.Pairwise fun a b=>cmpB a b < 0)(htr:∀a b,cmpB a b < 0->cmpB b t < 0->cmpB a t < 0):∀i j,i<=j->j < ns.length->cmpB ns[j]! t < 0->cmpB ns[i]! t < 0:=by
 intro i j hij hj h;rcases Nat.lt_or_ge i j with h'|h'
 ·rw[getElem!_pos ns j hj] at h;rw[getElem!_pos ns i (by omega)];exact htr _ _ (List.pairwise_iff_getElem.1 hs i j (by omega) hj h') h
 ·have:i=j:=by omega
  subst this;exact h
theorem cmpL_trans:∀(a b c:List UInt8),Lib.compareBytes a b < 0->Lib.compareBytes b c < 0->Lib.compareBytes a c < 0
 | [],[],_=>by intro h;simp[Lib.compareBytes] at h
 | [],_ :: _,[]=>by intro _ h;simp[Lib.compareBytes] at h
 | [],_ :: _,_ :: _=>by intro _ _;simp[Lib.compareBytes]
 | _ :: _,[],_=>by intro h;simp[Lib.compareBytes] at h
 | _ :: _,_ :: _,[]=>by intro _ h;simp[Lib.compareBytes] at h
 | x :: a,y :: b,z :: c=>by
  intro h1 h2;have ih:=cmpL_trans a b c;unfold Lib.compareBytes at h1 h2 ⊢;by_cases hxy:x < y
  ·by_cases hyz:y < z
   ·rw[if_pos (UInt8.lt_trans hxy hyz)];decide
   ·rw[if_neg hyz] at h2;by_cases hzy:z < y
    ·rw[if_pos hzy] at h2;simp at h2
    ·have e:y=z:=UInt8.le_antisymm (UInt8.not_lt.1 hzy) (UInt8.not_lt.1 hyz);rw[<-e,if_pos hxy];decide
  ·rw[if_neg hxy] at h1;by_cases hyx:y < x
   ·rw[if_pos hyx] at h1;simp at h1
   ·rw[if_neg hyx] at h1;have e:x=y:=UInt8.le_antisymm (UInt8.not_lt.1 hyx) (UInt8.not_lt.1 hxy);subst e;by_cases hyz:x < z
    ·rw[if_pos hyz];decide
    ·rw[if_neg hyz] at h2 ⊢;by_cases hzy:z < x
     ·rw[if_pos hzy] at h2;simp at h2
     ·rw[if_neg hzy] at h2 ⊢;exact ih h1 h2
theorem cmpB_trans(a b c:ByteArray):cmpB a b < 0->cmpB b c < 0->cmpB a c < 0:=cmpL_trans _ _ _
theorem cmpL_zero:∀(a b:List UInt8),Lib.compareBytes a b=0↔a=b
 | [],[]=>by simp[Lib.compareBytes]
 | [],_ :: _=>by simp[Lib.compareBytes]
 | _ :: _,[]=>by simp[Lib.compareBytes]
 | x :: a,y :: b=>by
  have ih:=cmpL_zero a b;unfold Lib.compareBytes;by_cases hxy:x < y
  ·rw[if_pos hxy];have:x≠y:=fun e=>by subst e;exact UInt8.lt_irrefl _ hxy
   simp[this]
  ·rw[if_neg hxy];by_cases hyx:y < x
   ·rw[if_pos hyx];have:x≠y:=fun e=>by subst e;exact UInt8.lt_irrefl _ hyx
    simp[this]
   ·rw[if_neg hyx,ih];have e:x=y:=UInt8.le_antisymm (UInt8.not_lt.1 hyx) (UInt8.not_lt.1 hxy);simp[e]
theorem cmpB_zero(a b:ByteArray):cmpB a b=0↔a=b:=by
 unfold cmpB;rw[cmpL_zero]
 constructor
 ·intro h;apply ByteArray.ext;exact Array.toList_inj.1 h
 ·intro h;rw[h]
theorem PoolAt.names_sorted{w:World}{s:St}(h:PoolAt w s):s.names.Pairwise fun a b=>cmpB a b < 0:=by
 unfold St.names;rw[List.pairwise_map];exact h.sorted
theorem index_calls(s:St)(t:ByteArray)(w:World)(h:PoolAt w s) :
 Calls Tryz.prog 115 #[ptr s.pb,.string t] w fun e w'=>e=.returned (.tuple #[.int .i64 (posOf s.names t:Nat),.bool (isIn s.names t)])/\w'=w:=by
 obtain⟨cap,hp,h1,h2⟩:=h.pool;have c2:w.cell? ⟨s.pb,2,none⟩=some (.slice (s.ab.map fun b=>⟨b,0,none⟩) s.vols.length cap):=hp.cell? 2;have hl:s.names.length=s.vols.length:=by simp[St.names]
 have hS:∀S,S=Value.slice (s.ab.map fun b=>⟨b,0,none⟩) s.vols.length cap->Calls Tryz.prog 136 #[S,.string t,.func (.func 137) #[] #[]] w fun e w'=>e=.returned (.tuple #[.int .i64 (posOf s.names t:Nat),.bool (isIn s.names t)])/\w'=w:=fun S hS=>
  search_calls (s.ab.getD 0) cap (s.ab.map fun b=>⟨b,0,none⟩) (s.vols.map (·.vb)) s.names t w S (by rw[hl];exact hS) (by have:=h.few;omega) (by
   intro i hi;obtain⟨b,hb,e1,e2⟩:=h.cell i (by omega);have g1:(s.vols.map (·.vb))[i]! = (s.vols[i]!).vb:=by rw[getElem!_pos _ i (by simp;omega),getElem!_pos s.vols i (by omega)];simp
   have g2:s.names[i]! = (s.vols[i]!).name:=by rw[getElem!_pos _ i hi,getElem!_pos s.vols i (by omega)];simp[St.names]
   rw[g1,g2,hb];exact⟨rfl,e1,e2⟩) (mono_of_sorted s.names t h.names_sorted (fun a b=>cmpB_trans a b t))
 clear hp h1 h2 h;generalize posOf s.names t=po at *;generalize isIn s.names t=fo at *;generalize Value.slice (s.ab.map fun b=>⟨b,0,none⟩) s.vols.length cap=V at *;unfold ptr
 go_enter Tryz.func115,Tryz.ntmps115
 go_wp2_with (go_at_call 136;refine (hS _ rfl).mono ?_;rintro e w' ⟨rfl,rfl⟩)
 go_ret2
 exact⟨rfl,rfl⟩
theorem find_calls(s:St)(t:ByteArray)(w:World)(h:PoolAt w s) :
 Calls Tryz.prog 77 #[ptr s.pb,.string t] w fun e w'=>
  (e=if isIn s.names t=true then .returned (.tuple #[ptr (s.vols[posOf s.names t]!).vb,.int .i64 0]) else .returned (.tuple #[.pointer none,.int .i64 4]))/\w'=w:=by
 have hm:=made_calls s w h;have hI:=index_calls s t w h;have hnot:∀(x:Bool) (w:World),(Op.unary .not (.bool x)).run Tryz.prog w=.ok (.bool (!x)) w:=fun _ _=>rfl
 obtain⟨cap,hp,h1,h2⟩:=h.pool;have hf:=h.few;cases hi:isIn s.names t with
 | true=>
  rw[hi] at hI;have hpos:posOf s.names t < s.vols.length:=by
   simp[isIn,St.names] at hi ⊢;exact hi.1
  obtain⟨b,hb,e1,e2⟩:=h.cell (posOf s.names t) hpos;have c2:w.cell? ⟨s.pb,2,none⟩=some (.slice (some ⟨b,0,none⟩) s.vols.length cap):=by have:=hp.cell? 2;rw[hb] at this;exact this
  clear hp h1 h2 h;generalize posOf s.names t=po at *;unfold ptr at *;have l1:(po:Int) < (s.vols.length:Int):=by omega
  go_enter Tryz.func77,Tryz.ntmps77
  go_wp2_with (first|(go_at_call 45;refine hm.mono ?_;rintro e w' ⟨rfl,rfl⟩)|(go_at_call 115;refine hI.mono ?_;rintro e w' ⟨rfl,rfl⟩))
  go_ret2
  simp
 | false=>
  rw[hi] at hI;clear hp h1 h2 h;generalize posOf s.names t=po at *;unfold ptr at *
  go_enter Tryz.func77,Tryz.ntmps77
  go_wp2_with (first|(go_at_call 45;refine hm.mono ?_;rintro e w' ⟨rfl,rfl⟩)|(go_at_call 115;refine hI.mono ?_;rintro e w' ⟨rfl,rfl⟩))
  go_ret2
  simp
def St.vol(s:St)(t:ByteArray):Vol:=s.vols[posOf s.names t]!
def St.has(s:St)(t:ByteArray):Bool:=isIn s.names t
theorem St.has_mem{s:St}{t:ByteArray}(h:s.has t=true):s.vol t∈s.vols/\(s.vol t).name=t/\posOf s.names t < s.vols.length:=by
 unfold St.has isIn at h;simp only[Bool.and_eq_true,decide_eq_true_eq] at h;have hl:posOf s.names t < s.vols.length:=by simpa [St.names] using h.1
 refine⟨?_,?_,hl⟩
 ·unfold St.vol;rw[getElem!_pos s.vols _ hl];exact List.getElem_mem hl
 ·have:=(cmpB_zero _ _).1 h.2;rw[getElem!_pos s.names _ h.1] at this;unfold St.vol;rw[getElem!_pos s.vols _ hl];simpa [St.names] using this
theorem find_has(s:St)(t:ByteArray)(w:World)(h:PoolAt w s)(hi:s.has t=true) :
 Calls Tryz.prog 77 #[.pointer (some ⟨s.pb,0,none⟩),.string t] w fun e w'=>e=.returned (.tuple #[.pointer (some ⟨(s.vol t).vb,0,none⟩),.int .i64 0])/\w'=w:=by
 have:=find_calls s t w h;unfold St.has at hi;simp only[hi,if_true] at this;exact this
theorem find_not(s:St)(t:ByteArray)(w:World)(h:PoolAt w s)(hi:s.has t=false) :
 Calls Tryz.prog 77 #[.pointer (some ⟨s.pb,0,none⟩),.string t] w fun e w'=>e=.returned (.tuple #[.pointer none,.int .i64 4])/\w'=w:=by
 have:=find_calls s t w h;unfold St.has at hi;simp only[hi,Bool.false_eq_true,if_false] at this;exact this
def St.size(s:St)(v:Vol):Nat:=(s.orgOf v).xs.length
def St.holder(s:St)(v:Vol)(k:Nat):Nat:=if k∈v.kept then v.xs[v.kept.idxOf k]! else (s.orgOf v).xs[k]!
def St.look(s:St)(v:Vol)(k:Nat):Blk:=s.bl[s.holder v k]!
theorem size_at{s:St}{w:World}(h:PoolAt w s){v:Vol}(hv:v∈s.vols) :
 Calls Tryz.prog 94 #[.pointer (some ⟨v.vb,0,none⟩)] w fun e w'=>e=.returned (.int .i64 (s.size v))/\w'=w:=by
 obtain⟨h1,h2,h3,h4⟩:=h.orgOf hv;by_cases ho:v.org=none
 ·unfold St.size;rw[h3 ho];exact size_vol v w (h.vols v hv) ho
 ·exact size_pic v (s.orgOf v) w (h.vols v hv) (h.vols _ h1) (h4 ho) h2
theorem holder_at{s:St}{w:World}(h:PoolAt w s){v:Vol}(hv:v∈s.vols){k:Nat}(hk:k < s.size v) :
 Calls Tryz.prog 87 #[.pointer (some ⟨v.vb,0,none⟩),.int .i64 k] w fun e w'=>e=.returned (.int .i64 (s.holder v k:Nat))/\w'=w:=by
 obtain⟨h1,h2,h3,h4⟩:=h.orgOf hv;by_cases ho:v.org=none
 ·have e:s.orgOf v=v:=h3 ho;have e2:s.holder v k=v.xs[k]!:=by unfold St.holder;rw[(h.vols v hv).kept_nil ho,e];simp
  rw[e2];exact holder_vol v k w (h.vols v hv) ho (by have:s.size v=v.xs.length:=by { unfold St.size;rw[e] };omega)
 ·by_cases hm:k∈v.kept
  ·have e2:s.holder v k=v.xs[v.kept.idxOf k]!:=by unfold St.holder;rw[if_pos hm]
   rw[e2];exact holder_kept v k w (h.vols v hv) ho hm
  ·have e2:s.holder v k=(s.orgOf v).xs[k]!:=by unfold St.holder;rw[if_neg hm]
   rw[e2];exact holder_through v (s.orgOf v) k w (h.vols v hv) (h.vols _ h1) (h4 ho) h2 hm hk
theorem size_small{s:St}{w:World}(h:PoolAt w s){v:Vol}(hv:v∈s.vols):s.size v<=200:=(h.vols _ (h.orgOf hv).1).small
theorem lost_cell{s:St}{w:World}(h:PoolAt w s){v:Vol}(hv:v∈s.vols):w.cell? ⟨v.vb,4,none⟩=some (.bool v.lost):=by
 obtain⟨cap,kcap,_,hvo,_,_⟩:=(h.vols v hv).vol;exact hvo.cell? 4
theorem findPlace_none(s:St)(t:ByteArray)(k:Int)(w:World)(h:PoolAt w s)(hi:s.has t=false) :
 Calls Tryz.prog 86 #[.pointer (some ⟨s.pb,0,none⟩),.string t,.int .i64 k] w fun e w'=>e=.returned (.tuple #[.pointer none,.int .i64 4])/\w'=w:=by
 have hf:=find_not s t w h hi;clear h
 go_enter Tryz.func86,Tryz.ntmps86
 go_wp2_with (go_at_call 77;refine hf.mono ?_;rintro e w' ⟨rfl,rfl⟩)
 go_ret2
 exact⟨rfl,rfl⟩
theorem findPlace_lost(s:St)(t:ByteArray)(k:Int)(w:World)(h:PoolAt w s)(hi:s.has t=true)(hl:(s.vol t).lost=true) :
 Calls Tryz.prog 86 #[.pointer (some ⟨s.pb,0,none⟩),.string t,.int .i64 k] w fun e w'=>e=.returned (.tuple #[.pointer none,.int .i64 9])/\w'=w:=by
 have hf:=find_has s t w h hi;have c4:=lost_cell h (St.has_mem hi).1;rw[hl] at c4;clear h
 go_enter Tryz.func86,Tryz.ntmps86
 go_wp2_with (go_at_call 77;refine hf.mono ?_;rintro e w' ⟨rfl,rfl⟩)
 go_ret2
 exact⟨rfl,rfl⟩
theorem findPlace_out(s:St)(t:ByteArray)(k:Int)(w:World)(h:PoolAt w s)(hi:s.has t=true)(hl:(s.vol t).lost=false)(hk:¬(0<=k/\k < s.size (s.vol t))) :
 Calls Tryz.prog 86 #[.pointer (some ⟨s.pb,0,none⟩),.string t,.int .i64 k] w fun e w'=>e=.returned (.tuple #[.pointer none,.int .i64 1])/\w'=w:=by
 have hf:=find_has s t w h hi;have hm:=(St.has_mem hi).1;have hp:=hasPlace_calls (s.vol t).vb (s.size (s.vol t)) k w (by have:=size_small h hm;omega) (size_at h hm);rw[decide_eq_false hk] at hp;have c4:=lost_cell h hm;rw[hl] at c4;have hnot:∀(x:Bool) (w:World),(Op.unary .not (.bool x)).run Tryz.prog w=.ok (.bool (!x)) w:=fun _ _=>rfl
 clear h hk
 go_enter Tryz.func86,Tryz.ntmps86
 go_wp2_with (first|(go_at_call 77;refine hf.mono ?_;rintro e w' ⟨rfl,rfl⟩)|(go_at_call 121;refine hp.mono ?_;rintro e w' ⟨rfl,rfl⟩))
 go_ret2
 exact⟨rfl,rfl⟩
theorem findPlace_in(s:St)(t:ByteArray)(k:Nat)(w:World)(h:PoolAt w s)(hi:s.has t=true)(hl:(s.vol t).lost=false)(hk:k < s.size (s.vol t)) :
 Calls Tryz.prog 86 #[.pointer (some ⟨s.pb,0,none⟩),.string t,.int .i64 k] w fun e w'=>e=.returned (.tuple #[.pointer (some ⟨(s.vol t).vb,0,none⟩),.int .i64 0])/\w'=w:=by
 have hf:=find_has s t w h hi;have hm:=(St.has_mem hi).1;have hp:=hasPlace_calls (s.vol t).vb (s.size (s.vol t)) k w (by have:=size_small h hm;omega) (size_at h hm);rw[decide_eq_true (show (0:Int)<=k/\(k:Int) < (s.size (s.vol t):Nat) by omega)] at hp;have c4:=lost_cell h hm;rw[hl] at c4;have hnot:∀(x:Bool) (w:World),(Op.unary .not (.bool x)).run Tryz.prog w=.ok (.bool (!x)) w:=fun _ _=>rfl
 clear h hk;generalize (s.vol t).vb=vb at *
 go_enter Tryz.func86,Tryz.ntmps86
 go_wp2_with (first|(go_at_call 77;refine hf.mono ?_;rintro e w' ⟨rfl,rfl⟩)|(go_at_call 121;refine hp.mono ?_;rintro e w' ⟨rfl,rfl⟩))
 go_ret2
 exact⟨rfl,rfl⟩
theorem free_calls(s:St)(w:World)(h:PoolAt w s) :
 Calls Tryz.prog 27 #[.pointer (some ⟨s.pb,0,none⟩)] w fun e w'=>e=.returned (.int .i64 s.m)/\w'=w:=by
 have hm:=made_calls s w h;obtain⟨cap,hp,_,_⟩:=h.pool;have c1:w.cell? ⟨s.pb,1,none⟩=some (.pointer (some ⟨s.db,0,none⟩)):=hp.cell? 1;have hf:=diskFree_calls s.db s.n s.m _ _ _ w _ rfl h.disk.disk (by have:=h.disk.le;have:=h.disk.small;omega);have hnot:∀(x:Bool) (w:World),(Op.unary .not (.bool x)).run Tryz.prog w=.ok (.bool (!x)) w:=fun _ _=>rfl
 unfold ptr at hm;clear h hp
 go_enter Tryz.func27,Tryz.ntmps27
 go_wp2_with (first|(go_at_call 45;refine hm.mono ?_;rintro e w' ⟨rfl,rfl⟩)|(go_at_call 46;refine hf.mono ?_;rintro e w' ⟨rfl,rfl⟩))
 go_ret
 exact⟨rfl,rfl⟩
theorem map_none(s:St)(t:ByteArray)(w:World)(h:PoolAt w s)(hi:s.has t=false) :
 Calls Tryz.prog 39 #[.pointer (some ⟨s.pb,0,none⟩),.string t] w fun e w'=>e=.returned (.tuple #[.slice none 0 0,.int .i64 4])/\w'=w:=by
 have hf:=find_not s t w h hi;clear h
 go_enter Tryz.func39,Tryz.ntmps39
 go_wp2_with (go_at_call 77;refine hf.mono ?_;rintro e w' ⟨rfl,rfl⟩)
 go_ret2
 exact⟨rfl,rfl⟩
theorem map_some(s:St)(t:ByteArray)(w:World)(h:PoolAt w s)(hi:s.has t=true) :
 Calls Tryz.prog 39 #[.pointer (some ⟨s.pb,0,none⟩),.string t] w fun e w'=>∃g cs,e=.returned (.tuple #[.slice (some ⟨g,0,none⟩) (s.vol t).xs.length (s.vol t).xs.length,.int .i64 0])/\w.heap.size<=g/\RowAt w' g (s.vol t).xs cs/\Same [] w w':=by
 have hf:=find_has s t w h hi;have hn:=numbers_calls _ w (h.vols _ (St.has_mem hi).1);clear h
 go_enter Tryz.func39,Tryz.ntmps39
 go_wp2_with (first|(go_at_call 77;refine hf.mono ?_;rintro e w' ⟨rfl,rfl⟩)|(go_at_call 78;refine hn.mono ?_;rintro e w1 ⟨g,cs,rfl,hg,hR,S1⟩))
 go_ret2
 exact⟨g,cs,rfl,hg,hR,S1⟩
theorem read_err(s:St)(t:ByteArray)(k e0:Int)(w:World)(he:e0≠0)(hf:∀w',Same [] w w'->Calls Tryz.prog 86 #[.pointer (some ⟨s.pb,0,none⟩),.string t,.int .i64 k] w' fun e w''=>e=.returned (.tuple #[.pointer none,.int .i64 e0])/\w''=w') :
 Calls Tryz.prog 61 #[.pointer (some ⟨s.pb,0,none⟩),.string t,.int .i64 k] w fun e w'=>e=.returned (.tuple #[Blk.zero.val,.int .i64 e0])/\Same [] w w':=by
 have hf':=hf _ ((Same.refl [] w).alloc (Obj.cells #[.int .u8 0,.int .u8 0,.int .u8 0,.int .u8 0,.int .u8 0,.int .u8 0,.int .u8 0,.int .u8 0] 91));clear hf;have he':(e0 != 0)=true:=by simpa using he
 unfold Blk.val Blk.zero
 go_enter Tryz.func61,Tryz.ntmps61
 go_wp2_with (go_at_call 86;refine hf'.mono ?_;rintro e w' ⟨rfl,rfl⟩)
 exact bodyPost_ret (v:=.tuple #[.agg #[.int .u8 0,.int .u8 0,.int .u8 0,.int .u8 0,.int .u8 0,.int .u8 0,.int .u8 0,.int .u8 0],.int .i64 e0]) (by simp[results,Tryz.results61,go_sem]) rfl ⟨rfl,(Same.refl _ _).alloc _⟩
theorem read_some(s:St)(t:ByteArray)(k:Nat)(w:World)(h:PoolAt w s)(hi:s.has t=true)(hl:(s.vol t).lost=false)(hk:k < s.size (s.vol t))(hn:s.holder (s.vol t) k < s.n) :
 Calls Tryz.prog 61 #[.pointer (some ⟨s.pb,0,none⟩),.string t,.int .i64 k] w fun e w'=>e=.returned (.tuple #[(s.look (s.vol t) k).val,.int .i64 0])/\Same [] w w':=by
 have S0:=(Same.refl [] w).alloc (Obj.cells #[.int .u8 0,.int .u8 0,.int .u8 0,.int .u8 0,.int .u8 0,.int .u8 0,.int .u8 0,.int .u8 0] 91);have h1:=h.new S0;have N0:=At.new w #[.int .u8 0,.int .u8 0,.int .u8 0,.int .u8 0,.int .u8 0,.int .u8 0,.int .u8 0,.int .u8 0] 91;have hf:=findPlace_in s t k _ h1 hi hl hk;have hH:=fun W (hW:Same [] w W)=>holder_at (h.new hW) (St.has_mem hi).1 hk
 obtain⟨cap,hp,_,_⟩:=h.pool;have c1:=hp.cell? 1;simp only[List.getElem?_cons_succ,List.getElem?_cons_zero,ptr] at c1;have lp:=hp.lt;have hR:=fun W (hW:Same [] w W)=>diskRead_calls s.db s.bb s.n (s.holder (s.vol t) k) _ _ _ s.bl W _ _ rfl rfl (h.new hW).disk.disk (h.new hW).disk.data h.disk.len hn (by have:=h.disk.small;omega)
 unfold St.look;generalize s.holder (s.vol t) k=yy at *;generalize s.bl[yy]! = y at *;have HS0:Hid (Same [] w (w.alloc (Obj.cells #[.int .u8 0,.int .u8 0,.int .u8 0,.int .u8 0,.int .u8 0,.int .u8 0,.int .u8 0,.int .u8 0] 91))):=S0;have HN:Hid (At (w.alloc (Obj.cells #[.int .u8 0,.int .u8 0,.int .u8 0,.int .u8 0,.int .u8 0,.int .u8 0,.int .u8 0,.int .u8 0] 91)) w.heap.size 91 [.int .u8 0,.int .u8 0,.int .u8 0,.int .u8 0,.int .u8 0,.int .u8 0,.int .u8 0,.int .u8 0]):=N0;clear h h1 hp S0 N0
 go_enter Tryz.func61,Tryz.ntmps61
 go_wp2_with (go_at_call 86;refine hf.mono ?_;rintro e w' ⟨rfl,rfl⟩)
 unfold Blk.val at *;obtain⟨x0,x1,x2,x3,x4,x5,x6,x7⟩:=y
 go_region_with (first|(go_at_call 87;refine (hH _ (HS0.out.drew)).mono ?_;rintro e w' ⟨rfl,rfl⟩)|(go_at_call 69;refine (hR _ (HS0.out.drew)).mono ?_;rintro e w2 ⟨rfl,S2⟩;have z0:w2.cell? ⟨w.heap.size,0,none⟩=some (.int .u8 0):=(S2.at HN.out.drew (by simp)).cell? 0;have z1:w2.cell? ⟨w.heap.size,1,none⟩=some (.int .u8 0):=(S2.at HN.out.drew (by simp)).cell? 1;have z2:w2.cell? ⟨w.heap.size,2,none⟩=some (.int .u8 0):=(S2.at HN.out.drew (by simp)).cell? 2;have z3:w2.cell? ⟨w.heap.size,3,none⟩=some (.int .u8 0):=(S2.at HN.out.drew (by simp)).cell? 3;have z4:w2.cell? ⟨w.heap.size,4,none⟩=some (.int .u8 0):=(S2.at HN.out.drew (by simp)).cell? 4;have z5:w2.cell? ⟨w.heap.size,5,none⟩=some (.int .u8 0):=(S2.at HN.out.drew (by simp)).cell? 5;have z6:w2.cell? ⟨w.heap.size,6,none⟩=some (.int .u8 0):=(S2.at HN.out.drew (by simp)).cell? 6;have z7:w2.cell? ⟨w.heap.size,7,none⟩=some (.int .u8 0):=(S2.at HN.out.drew (by simp)).cell? 7;have fz:=(S2.at HN.out.drew (by simp)).frozen;have SA:Same [] w w2:=HS0.out.drew.step S2 (by simp)))
 all_goals
  clear hf hH hR c1 HN HS0
  go_wp2
  refine bodyPost_ret (v:=.tuple #[.agg #[.int .u8 x0,.int .u8 x1,.int .u8 x2,.int .u8 x3,.int .u8 x4,.int .u8 x5,.int .u8 x6,.int .u8 x7],.int .i64 0]) (by simp[results,Tryz.results61,go_sem,z0,z1,z2,z3,z4,z5,z6,z7]) rfl ⟨rfl,?_⟩;exact ((((((((SA.set w.heap.size _ _ (by simp)).set w.heap.size _ _ (by simp)).set w.heap.size _ _ (by simp)).set w.heap.size _ _ (by simp)).set w.heap.size _ _ (by simp)).set w.heap.size _ _ (by simp)).set w.heap.size _ _ (by simp)).set w.heap.size _ _ (by simp))
theorem told_vol(v:Vol)(w:World)(h:VolAt w v)(ho:v.org=none) :
 Calls Tryz.prog 76 #[.pointer (some ⟨v.vb,0,none⟩)] w fun e w'=>e=.returned (.agg #[.string v.name,.int .i64 v.xs.length,.string ⟨#[]⟩,.int .i64 0,.int .i64 0,.bool false])/\Same [] w w':=by
 obtain⟨cap,kcap,hcap,hv,hk1,hk2⟩:=h.vol;have hs:=h.small;have lv:=hv.lt;have hI:∀W,Same [] w W->Calls Tryz.prog 88 #[.pointer (some ⟨v.vb,0,none⟩)] W fun e w'=>e=.returned (.bool false)/\w'=W:=fun W hW=>by
  have:=isPicture_calls v W (h.new hW);rw[ho] at this;exact this
 have hc:∀W,Same [] w W->Calls Tryz.prog 94 #[.pointer (some ⟨v.vb,0,none⟩)] W fun e w'=>e=.returned (.int .i64 v.xs.length)/\w'=W:=fun W hW=>size_vol v W (h.new hW) ho
 have c0:w.cell? ⟨v.vb,0,none⟩=some (.string v.name):=hv.cell? 0;have hnot:∀(x:Bool) (w:World),(Op.unary .not (.bool x)).run Tryz.prog w=.ok (.bool (!x)) w:=fun _ _=>rfl
 clear h hv hk1 hk2
 go_enter Tryz.func76,Tryz.ntmps76
 go_wp2_with (go_at_call 88;refine (hI _ ((Same.refl _ _).alloc _)).mono ?_;rintro e w' ⟨rfl,rfl⟩)
 go_region_with (go_at_call 94;refine (hc _ ((Same.refl _ _).alloc _).drew).mono ?_;rintro e w' ⟨rfl,rfl⟩)
 all_goals
  go_wp2
  exact bodyPost_ret (v:=.agg #[.string v.name,.int .i64 v.xs.length,.string ⟨#[]⟩,.int .i64 0,.int .i64 0,.bool false]) (by simp[results,Tryz.results76,go_sem]) rfl ⟨rfl,((Same.refl _ _).alloc _).drew⟩
theorem told_pic(v u:Vol)(w:World)(h:VolAt w v)(hu:VolAt w u)(ho:v.org=some u.vb)(hu0:u.org=none) :
 Calls Tryz.prog 76 #[.pointer (some ⟨v.vb,0,none⟩)] w fun e w'=>e=.returned (.agg #[.string v.name,.int .i64 u.xs.length,.string u.name,.int .i64 v.xs.length,.int .i64 v.kept.length,.bool v.lost])/\Same [] w w':=by
 obtain⟨cap,kcap,hcap,hv,hk1,hk2⟩:=h.vol;obtain⟨ucap,ukcap,hucap,huv,_,_⟩:=hu.vol;have hs:=h.small;have hr:=h.room;have hsu:=hu.small;have lv:=hv.lt;have lu:=huv.lt;have hI:∀W,Same [] w W->Calls Tryz.prog 88 #[.pointer (some ⟨v.vb,0,none⟩)] W fun e w'=>e=.returned (.bool true)/\w'=W:=fun W hW=>by
  have:=isPicture_calls v W (h.new hW);rw[ho] at this;exact this
 have hc:∀W,Same [] w W->Calls Tryz.prog 94 #[.pointer (some ⟨v.vb,0,none⟩)] W fun e w'=>e=.returned (.int .i64 u.xs.length)/\w'=W:=fun W hW=>size_pic v u W (h.new hW) (hu.new hW) ho hu0
 have c0:w.cell? ⟨v.vb,0,none⟩=some (.string v.name):=hv.cell? 0;have c1:w.cell? ⟨v.vb,1,none⟩=some (.slice (some ⟨v.gb,0,none⟩) v.xs.length cap):=hv.cell? 1;have c2:w.cell? ⟨v.vb,2,none⟩=some (.pointer (adr v.org)):=hv.cell? 2;rw[ho] at c2;simp only[adr,Option.map_some] at c2;have c3:w.cell? ⟨v.vb,3,none⟩=some (.slice (adr v.kg) v.kept.length kcap):=hv.cell? 3;have c4:w.cell? ⟨v.vb,4,none⟩=some (.bool v.lost):=hv.cell? 4;have d0:w.cell? ⟨u.vb,0,none⟩=some (.string u.name):=huv.cell? 0;have hnot:∀(x:Bool) (w:World),(Op.unary .not (.bool x)).run Tryz.prog w=.ok (.bool (!x)) w:=fun _ _=>rfl
 clear h hv hk1 hk2 huv hu
 go_enter Tryz.func76,Tryz.ntmps76
 go_wp2_with (go_at_call 88;refine (hI _ ((Same.refl _ _).alloc _)).mono ?_;rintro e w' ⟨rfl,rfl⟩)
 refine region_tail 28 (by kernel_rfl) (by kernel_rfl) ?_;simp only[List.take_succ_cons,List.take_zero,List.drop_succ_cons,List.drop_zero]
 repeat still_step
 still_call (hc _ ((Same.refl _ _).alloc _).drew)
 repeat still_step
 refine wpStill_nil ?_
 go_wp2
 exact bodyPost_ret (v:=.agg #[.string v.name,.int .i64 u.xs.length,.string u.name,.int .i64 v.xs.length,.int .i64 v.kept.length,.bool v.lost]) (by simp[results,Tryz.results76,go_sem]) rfl ⟨rfl,((Same.refl _ _).alloc _).drew⟩
def St.told(s:St)(v:Vol):List Value:=
 match v.org with
 | none=>[.string v.name,.int .i64 v.xs.length,.string ⟨#[]⟩,.int .i64 0,.int .i64 0,.bool false]
 | some _=>[.string v.name,.int .i64 (s.size v),.string (s.orgOf v).name,.int .i64 v.xs.length,.int .i64 v.kept.length,.bool v.lost]
theorem St.told_length(s:St)(v:Vol):(s.told v).length=6:=by unfold St.told;split<;>rfl
theorem St.told_one(s:St)(v:Vol):∀u∈s.told v,u.oneCell'=true:=by
 intro u hu;unfold St.told at hu
 split at hu
 all_goals
  simp only[List.mem_cons,List.not_mem_nil,or_false] at hu;rcases hu with rfl|rfl|rfl|rfl|rfl|rfl<;>rfl
theorem told_at{s:St}{w:World}(h:PoolAt w s){v:Vol}(hv:v∈s.vols) :
 Calls Tryz.prog 76 #[.pointer (some ⟨v.vb,0,none⟩)] w fun e w'=>e=.returned (.agg (s.told v).toArray)/\Same [] w w':=by
 obtain⟨h1,h2,h3,h4⟩:=h.orgOf hv;cases ho:v.org with
 | none=>
  have e:s.told v=[.string v.name,.int .i64 v.xs.length,.string ⟨#[]⟩,.int .i64 0,.int .i64 0,.bool false]:=by unfold St.told;rw[ho]
  rw[e];exact told_vol v w (h.vols v hv) ho
 | some b=>
  have e:s.told v=[.string v.name,.int .i64 (s.size v),.string (s.orgOf v).name,.int .i64 v.xs.length,.int .i64 v.kept.length,.bool v.lost]:=by unfold St.told;rw[ho]
  rw[e];exact told_pic v (s.orgOf v) w (h.vols v hv) (h.vols _ h1) (h4 (by rw[ho];simp)) h2
def St.toldAll(s:St):List Vol->List Value
 | []=>[]
 | v :: r=>s.told v++s.toldAll r
theorem toldAll_append(s:St)(a b:List Vol):s.toldAll (a++b)=s.toldAll a++s.toldAll b:=by
 induction a with
 | nil=>rfl
 | cons v r ih=>simp[St.toldAll,ih]
theorem owns_le{w:World}{base:Nat}{e:TypeId}{size:Nat}{a:Option Addr}{cap n:Nat}{xs:List Value}(h:w.ownsRow base e size (.slice a n cap) n xs):n<=cap:=by
 rcases h.2 with⟨h1,rfl⟩|⟨g,cap',cur,h1,h2,h3,h4,h5⟩
 ·omega
 ·simp only[Value.slice.injEq] at h1;omega
theorem owns_atN{w:World}{base:Nat}{e:TypeId}{size:Nat}{a:Option Addr}{cap n:Nat}{xs:List Value}(h:w.ownsRow base e size (.slice a n cap) n xs)(hn:n≠0) :
 ∃g cs,a=some ⟨g,0,none⟩/\base<=g/\At w g e cs/\cs.length=cap * size/\cs.take (n * size)=xs:=by
 rcases h.2 with⟨h1,rfl⟩|⟨g,cap',cur,h1,h2,h3,h4,h5,h6,h7⟩
 ·exact absurd rfl hn
 ·simp only[Value.slice.injEq] at h1;obtain⟨rfl,_,rfl⟩:=h1;refine⟨g,cur.toList,rfl,h2,?_,by simpa using h6,by simpa using h7⟩;unfold At;simpa using h3
theorem Tryz.info57:(Tryz.prog.info? 57).map (fun i=>(i.zero,i.size,i.bytes))=some (some (.agg #[.string ⟨#[]⟩,.int .i64 0,.string ⟨#[]⟩,.int .i64 0,.int .i64 0,.bool false]),6,64):=by kernel_rfl
theorem list_calls(s:St)(w:World)(h:PoolAt w s) :
 Calls Tryz.prog 36 #[.pointer (some ⟨s.pb,0,none⟩)] w fun e w'=>∃a,e=.returned (.slice a s.vols.length s.vols.length)/\Same [] w w' /\
  (s.vols≠[]->∃g cs,a=some ⟨g,0,none⟩/\w.heap.size<=g/\At w' g 57 cs/\cs.take (s.vols.length * 6)=s.toldAll s.vols):=by
 have hm:=made_calls s w h;unfold ptr at hm;obtain⟨cap,hp,_,_⟩:=h.pool;have c2:w.cell? ⟨s.pb,2,none⟩=some (.slice (s.ab.map fun b=>⟨b,0,none⟩) s.vols.length cap):=hp.cell? 2;have hnot:∀(x:Bool) (w:World),(Op.unary .not (.bool x)).run Tryz.prog w=.ok (.bool (!x)) w:=fun _ _=>rfl
 have hfew:=h.few;clear hp;obtain⟨i0,hi,hz0,hz1,hz2⟩:=info_parts Tryz.info57
 go_enter Tryz.func36,Tryz.ntmps36
 go_wp2_with (go_at_call 45;refine hm.mono ?_;rintro e w' ⟨rfl,rfl⟩)
 rename_i w0
 go_loopw [3,14] (fun v i wr=>∃k:Nat,k<=s.vols.length/\i=.int .i64 k/\Same [] w' wr/\wr.ownsRow w'.heap.size 57 6 v k (s.toldAll (s.vols.take k)))
  (fun _ i _=>s.vols.length - (intOf i).toNat)
 case atStart=>exact⟨0,Nat.zero_le _,rfl,Same.refl _ _,World.ownsRow_nil _ _ _ _⟩
 case round=>
  obtain⟨k,hk,rfl,hS,hown⟩:=hrel;obtain⟨a,cp,rfl⟩:=owns_form hown;by_cases hkl:k < s.vols.length
  ·obtain⟨b,hb,e1,e2⟩:=(h.new hS).cell k hkl;have hvm:s.vols[k]!∈s.vols:=by rw[getElem!_pos s.vols k hkl];exact List.getElem_mem hkl
   have hT:=told_at (h.new hS) hvm;have hb':(s.ab.map fun b=>(⟨b,0,none⟩:Addr))=some ⟨b,0,none⟩:=by rw[hb];rfl
   have HV:Hid (s.vols.take (k+1)=s.vols.take k++[s.vols[k]!]):=by show _=_;rw[List.take_succ_eq_append_getElem hkl,getElem!_pos s.vols k hkl]
   generalize s.vols[k]! = vv at *;obtain⟨y0,y1,y2,y3,y4,y5,hy,o0,o1,o2,o3,o4,o5⟩:∃y0 y1 y2 y3 y4 y5:Value,s.told vv=[y0,y1,y2,y3,y4,y5]/\y0.oneCell'=true/\y1.oneCell'=true/\y2.oneCell'=true/\y3.oneCell'=true/\y4.oneCell'=true/\y5.oneCell'=true:=by
    have ho:=s.told_one vv;unfold St.told at ho ⊢
    split
    all_goals exact⟨_,_,_,_,_,_,rfl,rfl,rfl,rfl,rfl,rfl,rfl⟩
   rw[hy] at hT;have HY:Hid (s.told vv=[y0,y1,y2,y3,y4,y5]):=hy;clear hy;rw[hb'];have l2:(k:Int) < (s.vols.length:Int):=by omega
   clear h c2 hm hb'
   go_wp2_with fail
   refine hT.mono ?_;rintro e w1 ⟨rfl,S1⟩;have hown1:=owns_same hown S1 (by simp);have hS1:=hS.step S1 (by simp);have hsz:=hS1.size;clear hown hS hT e1 e2
   go_wp2_with (at_builtin;refine wpList_append_own _ rfl _ _ 47 rfl w'.heap.size 57 i0 (.agg #[.string ⟨#[]⟩,.int .i64 0,.string ⟨#[]⟩,.int .i64 0,.int .i64 0,.bool false]) 6 64 Tryz.underlying47 hi hz0 hz1 hz2 rfl (by decide) _ _ _ rfl (hown1.alloc _) ⟨w1.heap.size,0,none⟩ 1 1 [y0,y1,y2,y3,y4,y5] rfl rfl ?c1 ?c2 ?c3 ?c4 ?c5 ?_)
   case c1=>
    intro j u hj;rw[Addr.add_lit,Nat.zero_add,World.cell?_alloc_at _ _ _ _ rfl,<-hj];simp
   case c2=>intro u hu;simp only[List.mem_cons,List.not_mem_nil,or_false] at hu;rcases hu with rfl|rfl|rfl|rfl|rfl|rfl<;>assumption
   case c3=>unfold maxLen;omega
   case c4=>omega
   case c5=>simp;omega
   intro v' w2 hown' hgrow _;have S2:Same [] w' w2:=(hS1.alloc _).grown hgrow (fun j hj hl=>by have:=(hown1.lt j hj).1;omega);have O2:w2.ownsRow w'.heap.size 57 6 v' (k+1) (s.toldAll (s.vols.take (k+1))):=by
    rw[HV.out,toldAll_append];simpa [St.toldAll,HY.out] using hown'
   clear hown' hgrow hown1 hS1 S1
   go_wp2
   go_roundw
   case rel=>exact⟨k+1,by omega,by go_num,S2,O2⟩
   case measure=>simp[intOf];omega
  ·have hkc:=owns_le hown;have ek:k=s.vols.length:=by omega
   subst ek;rw[List.take_length] at hown
   go_wp2
   go_ret
   refine⟨a,rfl,hS,fun hne=>?_⟩;obtain⟨g,cs,h1,h2,h3,_,h5⟩:=owns_atN hown (by cases hv:s.vols<;>simp_all);exact⟨g,cs,h1,h2,h3,h5⟩
end
section
open Go.RowKit Go.Sort
theorem swp_get(d:Array Int)(a b:Nat)(ha:a < d.size)(hb:b < d.size)(j:Nat):(swp d a b)[j]! = if j=b then d[a]! else if j=a then d[b]! else d[j]!:=by
 unfold swp;by_cases h1:j=b
 ·subst h1;rw[if_pos rfl,getElem!_set_same _ _ _ (by simpa using hb)]
 ·rw[if_neg h1,getElem!_set_other _ _ _ _ h1];by_cases h2:j=a
  ·subst h2;rw[if_pos rfl,getElem!_set_same _ _ _ ha]
  ·rw[if_neg h2,getElem!_set_other _ _ _ _ h2]
def Re(m:Nat)(d d':Array Int):Prop:=∃σ τ:Nat->Nat,∀i,i < m->σ i < m/\τ i < m/\σ (τ i)=i/\τ (σ i)=i/\d'[i]! = d[σ i]!
theorem Re.refl(m:Nat)(d:Array Int):Re m d d:=⟨id,id,fun i hi=>⟨hi,hi,rfl,rfl,rfl⟩⟩
theorem Re.trans{m:Nat}{a b c:Array Int}(h:Re m a b)(k:Re m b c):Re m a c:=by
 obtain⟨σ,τ,h⟩:=h;obtain⟨σ',τ',k⟩:=k;refine⟨fun i=>σ (σ' i),fun i=>τ' (τ i),fun i hi=>?_⟩;obtain⟨k1,k2,k3,k4,k5⟩:=k i hi;obtain⟨h1,h2,h3,h4,h5⟩:=h i hi;obtain⟨a1,a2,a3,a4,a5⟩:=h (σ' i) k1;obtain⟨b1,b2,b3,b4,b5⟩:=k (τ i) h2;exact⟨a1,b2,by show σ (σ' (τ' (τ i)))=i;rw[b3,h3],by show τ' (τ (σ (σ' i)))=i;rw[a4,k4],by rw[k5,a5]⟩
theorem Re.swp(m:Nat)(d:Array Int)(a b:Nat)(ha:a < m)(hb:b < m)(hm:m<=d.size):Re m d (swp d a b):=by
 refine⟨fun i=>if i=b then a else if i=a then b else i,fun i=>if i=b then a else if i=a then b else i,fun i hi=>?_⟩;refine⟨by dsimp only;split<;>(try split)<;>omega,by dsimp only;split<;>(try split)<;>omega,?_,?_,?_⟩
 ·dsimp only;split<;>(try split)<;>(try split)<;>(try split)<;>omega
 ·dsimp only;split<;>(try split)<;>(try split)<;>(try split)<;>omega
 ·rw[swp_get d a b (by omega) (by omega)];dsimp only
  split
  ·rfl
  ·split<;>rfl
def HeapOk(m:Nat)(d:Array Int):Prop:=∀j,0 < j->j < m->d[(j - 1) / 2]!<=d[j]!
def HeapBut(m i:Nat)(d:Array Int):Prop:=(∀j,0 < j->j < m->(j - 1) / 2≠i->d[(j - 1) / 2]!<=d[j]!)/\(∀j,0 < j->j < m->(j - 1) / 2=i->0 < i->d[(i - 1) / 2]!<=d[j]!)
theorem low_spec(m i:Nat)(d:Array Int):d[low m i d]!<=d[i]!/\(2 * i+1 < m->d[low m i d]!<=d[2 * i+1]!)/\(2 * i+2 < m->d[low m i d]!<=d[2 * i+2]!) /\
 (low m i d=i\/((low m i d=2 * i+1\/low m i d=2 * i+2)/\low m i d < m)):=by
 unfold low;by_cases h1:2 * i+1 < m/\d[2 * i+1]! < d[i]!
 ·have e:low1 m i d=2 * i+1:=by unfold low1;rw[if_pos h1]
  rw[e];by_cases h2:2 * i+2 < m/\d[2 * i+2]! < d[2 * i+1]!
  ·rw[if_pos h2];omega
  ·rw[if_neg h2];omega
 ·have e:low1 m i d=i:=by unfold low1;rw[if_neg h1]
  rw[e];by_cases h2:2 * i+2 < m/\d[2 * i+2]! < d[i]!
  ·rw[if_pos h2];omega
  ·rw[if_neg h2];omega
theorem sift_ok(m:Nat):∀(f i:Nat) (d:Array Int),m<=d.size->m - i<=f->HeapBut m i d->HeapOk m (sift m f i d)/\Re m d (sift m f i d):=by
 intro f
 induction f with
 | zero=>
  intro i d hm hf hb;refine⟨fun j h1 h2=>?_,Re.refl _ _⟩;show d[(j - 1) / 2]!<=d[j]!;exact hb.1 j h1 h2 (by omega)
 | succ f ih=>
  intro i d hm hf hb;obtain⟨l1,l2,l3,l4⟩:=low_spec m i d;simp only[sift];by_cases hl:low m i d=i
  ·rw[if_pos hl];refine⟨fun j h1 h2=>?_,Re.refl _ _⟩;by_cases hp:(j - 1) / 2=i
   ·rw[hl] at l2 l3;have:j=2 * i+1\/j=2 * i+2:=by omega
    rcases this with rfl|rfl
    ·rw[hp];exact l2 h2
    ·rw[hp];exact l3 h2
   ·exact hb.1 j h1 h2 hp
  ·rw[if_neg hl];obtain⟨l5,l6⟩:(low m i d=2 * i+1\/low m i d=2 * i+2)/\low m i d < m:=by
    rcases l4 with h|h
    ·exact absurd h hl
    ·exact h
   generalize low m i d=l at *;have hG:=swp_get d l i (by omega) (by omega);have B:HeapBut m l (swp d l i):=by
    refine⟨fun j h1 h2 h3=>?_,fun j h1 h2 h3 h4=>?_⟩
    ·rw[hG,hG];by_cases hjl:j=l
     ·subst hjl;have e1:(j - 1) / 2=i:=by omega
      rw[if_pos e1,if_neg (by omega),if_pos rfl];exact l1
     ·by_cases hji:j=i
      ·subst hji;rw[if_neg (by omega),if_neg h3,if_pos rfl];exact hb.2 l (by omega) l6 (by omega) h1
      ·rw[if_neg hji,if_neg hjl];by_cases hp:(j - 1) / 2=i
       ·rw[if_pos hp];have:j=2 * i+1\/j=2 * i+2:=by omega
        rcases this with rfl|rfl
        ·exact l2 h2
        ·exact l3 h2
       ·rw[if_neg hp,if_neg h3];exact hb.1 j h1 h2 hp
    ·have e1:(l - 1) / 2=i:=by omega
     rw[hG,hG,e1,if_pos rfl,if_neg (by omega),if_neg (by omega)];have:=hb.1 j h1 h2 (by omega);rw[h3] at this;exact this
   obtain⟨r1,r2⟩:=ih l (swp d l i) (by rw[swp_size];exact hm) (by omega) B;exact⟨r1,(Re.swp m d l i l6 (by omega) hm).trans r2⟩
def HeapUp(m i:Nat)(d:Array Int):Prop:=(∀j,0 < j->j < m->j≠i->d[(j - 1) / 2]!<=d[j]!)/\(∀j,0 < j->j < m->(j - 1) / 2=i->0 < i->d[(i - 1) / 2]!<=d[j]!)
theorem lift_ok(m:Nat):∀(f i:Nat) (d:Array Int),m<=d.size->i < m->i<=f->HeapUp m i d->HeapOk m (lift f i d)/\Re m d (lift f i d):=by
 intro f
 induction f with
 | zero=>
  intro i d hm hi hf hb;refine⟨fun j h1 h2=>?_,Re.refl _ _⟩;show d[(j - 1) / 2]!<=d[j]!;exact hb.1 j h1 h2 (by omega)
 | succ f ih=>
  intro i d hm hi hf hb;simp only[lift];by_cases hl:i=0\/d[(i - 1) / 2]!<=d[i]!
  ·rw[if_pos hl];refine⟨fun j h1 h2=>?_,Re.refl _ _⟩;by_cases hp:j=i
   ·subst hp;rcases hl with h|h
    ·omega
    ·exact h
   ·exact hb.1 j h1 h2 hp
  ·rw[if_neg hl];have hlt:d[i]! < d[(i - 1) / 2]!:=by omega
   have hi0:0 < i:=by omega
   obtain⟨u,hu⟩:∃u,(i - 1) / 2=u:=⟨_,rfl⟩
   rw[hu] at hlt ⊢;have hG:=swp_get d u i (by omega) (by omega);have B:HeapUp m u (swp d u i):=by
    refine⟨fun j h1 h2 h3=>?_,fun j h1 h2 h3 h4=>?_⟩
    ·rw[hG,hG];by_cases hji:j=i
     ·subst hji;rw[hu,if_neg (by omega),if_pos rfl,if_pos rfl];omega
     ·rw[if_neg hji,if_neg h3];by_cases hp:(j - 1) / 2=i
      ·rw[if_pos hp];have:=hb.2 j h1 h2 hp hi0;rw[hu] at this;exact this
      ·rw[if_neg hp];by_cases hp2:(j - 1) / 2=u
       ·rw[if_pos hp2];have:=hb.1 j h1 h2 hji;rw[hp2] at this;omega
       ·rw[if_neg hp2];exact hb.1 j h1 h2 hji
    ·have hq:=hb.1 u h4 (by omega) (by omega);rw[hG,hG,if_neg (by omega),if_neg (by omega)];by_cases hji:j=i
     ·rw[if_pos hji];exact hq
     ·rw[if_neg hji,if_neg (by omega)];have:=hb.1 j h1 h2 hji;rw[h3] at this;omega
   obtain⟨r1,r2⟩:=ih u (swp d u i) (by rw[swp_size];exact hm) (by omega) (by omega) B;exact⟨r1,(Re.swp m d u i (by omega) hi hm).trans r2⟩
structure HeapIs(m:Nat)(d:Array Int)(fr:List Nat):Prop where
 size:m<=d.size
 ok:HeapOk m d
 inj:∀i j,i < m->j < m->d[i]! = d[j]!->i=j
 mem:∀i,i < m->∃x∈fr,d[i]! = (x:Int)
 hit:∀x∈fr,∃i,i < m/\d[i]! = (x:Int)
 sorted:fr.Pairwise (· < ·)
 len:fr.length=m
theorem heap_min{m:Nat}{d:Array Int}(h:HeapOk m d):∀i,i < m->d[0]!<=d[i]!:=by
 intro i
 induction i using Nat.strongRecOn with
 | _ i ih=>
  intro hi;by_cases h0:i=0
  ·subst h0;exact Int.le_refl _
  ·have:=h i (by omega) hi;have:=ih ((i - 1) / 2) (by omega) (by omega);omega
theorem HeapIs.re{m:Nat}{d d':Array Int}{fr:List Nat}(hs:m<=d'.size)(ho:HeapOk m d')(hr:Re m d d')
 (inj:∀i j,i < m->j < m->d[i]! = d[j]!->i=j) (mem:∀i,i < m->∃x∈fr,d[i]! = (x:Int)) (hit:∀x∈fr,∃i,i < m/\d[i]! = (x:Int)) (sorted:fr.Pairwise (· < ·)) (len:fr.length=m):HeapIs m d' fr:=by
 obtain⟨σ,τ,h⟩:=hr;refine⟨hs,ho,fun i j hi hj e=>?_,fun i hi=>?_,fun x hx=>?_,sorted,len⟩
 ·obtain⟨a1,a2,a3,a4,a5⟩:=h i hi;obtain⟨b1,b2,b3,b4,b5⟩:=h j hj;rw[a5,b5] at e;have:=inj _ _ a1 b1 e;rw[<-a4,<-b4,this]
 ·obtain⟨a1,a2,a3,a4,a5⟩:=h i hi;rw[a5];exact mem _ a1
 ·obtain⟨i,hi,e⟩:=hit x hx;obtain⟨a1,a2,a3,a4,a5⟩:=h i hi;obtain⟨b1,b2,b3,b4,b5⟩:=h (τ i) a2;exact⟨τ i,a2,by rw[b5,a3,e]⟩
theorem HeapIs.pop{m:Nat}{d:Array Int}{x:Nat}{fr:List Nat}(h:HeapIs (m+1) d (x :: fr)):d[0]! = (x:Int)/\HeapIs m (popD m d) fr:=by
 have hsz:=h.size;have hmin:=heap_min h.ok;have hx:d[0]! = (x:Int):=by
  obtain⟨y,hy,e⟩:=h.mem 0 (by omega);obtain⟨i,hi,e'⟩:=h.hit x (by simp);have:=hmin i hi;rcases List.mem_cons.1 hy with rfl|hy
  ·exact e
  ·have:=(List.pairwise_cons.1 h.sorted).1 y hy;omega
 refine⟨hx,?_⟩;have hg:∀j,(d.setIfInBounds 0 d[m]!)[j]! = if j=0 then d[m]! else d[j]!:=by
  intro j;by_cases hj:j=0
  ·subst hj;rw[if_pos rfl,getElem!_set_same _ _ _ (by omega)]
  ·rw[if_neg hj,getElem!_set_other _ _ _ _ hj]
 have B:HeapBut m 0 (d.setIfInBounds 0 d[m]!):=by
  refine⟨fun j h1 h2 h3=>?_,fun j h1 h2 h3 h4=>by omega⟩;rw[hg,hg,if_neg h3,if_neg (by omega)];exact h.ok j h1 (by omega)
 obtain⟨r1,r2⟩:=sift_ok m m 0 (d.setIfInBounds 0 d[m]!) (by simp;omega) (by omega) B;have hl:=h.len;simp only[List.length_cons,Nat.add_right_cancel_iff] at hl;refine HeapIs.re (by rw[popD_size];omega) r1 r2 (fun i j hi hj e=>?_) (fun i hi=>?_) (fun y hy=>?_) (List.pairwise_cons.1 h.sorted).2 hl
 ·rw[hg,hg] at e
  split at e<;>split at e
  ·omega
  ·have:=h.inj m j (by omega) (by omega) e;omega
  ·have:=h.inj i m (by omega) (by omega) e;omega
  ·exact h.inj i j (by omega) (by omega) e
 ·rw[hg];have key:∀k,0 < k->k < m+1->∃x∈fr,d[k]! = (x:Int):=by
   intro k hk0 hk;obtain⟨y,hy,e⟩:=h.mem k hk;rcases List.mem_cons.1 hy with rfl|hy
   ·have:=h.inj 0 k (by omega) hk (by rw[hx,e]);omega
   ·exact⟨y,hy,e⟩
  split
  ·exact key m (by omega) (by omega)
  ·exact key i (by omega) (by omega)
 ·obtain⟨i,hi,e⟩:=h.hit y (by simp[hy]);have hne:i≠0:=by
   intro h0;subst h0;have:=(List.pairwise_cons.1 h.sorted).1 y hy;omega
  by_cases him:i=m
  ·subst him;exact⟨0,by omega,by rw[hg,if_pos rfl,e]⟩
  ·exact⟨i,by omega,by rw[hg,if_neg hne,e]⟩
def ins(x:Nat):List Nat->List Nat
 | []=>[x]
 | y :: r=>if x < y then x :: y :: r else y :: ins x r
theorem ins_mem(x:Nat)(l:List Nat)(z:Nat):z∈ins x l↔z=x\/z∈l:=by
 induction l with
 | nil=>simp[ins]
 | cons y r ih=>
  simp only[ins]
  split
  ·simp
  ·simp only[List.mem_cons,ih]
   constructor
   ·rintro (h|h|h)
    ·exact Or.inr (Or.inl h)
    ·exact Or.inl h
    ·exact Or.inr (Or.inr h)
   ·rintro (h|h|h)
    ·exact Or.inr (Or.inl h)
    ·exact Or.inl h
    ·exact Or.inr (Or.inr h)
theorem ins_length(x:Nat)(l:List Nat):(ins x l).length=l.length+1:=by
 induction l with
 | nil=>rfl
 | cons y r ih=>simp only[ins];split<;>simp[ih]
theorem ins_sorted(x:Nat)(l:List Nat)(h:l.Pairwise (· < ·))(hx:x∉l):(ins x l).Pairwise (· < ·):=by
 induction l with
 | nil=>simp[ins]
 | cons y r ih=>
  obtain⟨h1,h2⟩:=List.pairwise_cons.1 h;simp only[List.mem_cons,not_or] at hx;simp only[ins]
  split
  ·refine List.pairwise_cons.2 ⟨fun z hz=>?_,h⟩;rcases List.mem_cons.1 hz with rfl|hz
   ·assumption
   ·have:=h1 z hz;omega
  ·refine List.pairwise_cons.2 ⟨fun z hz=>?_,ih h2 hx.2⟩;rcases (ins_mem x r z).1 hz with rfl|hz
   ·omega
   ·exact h1 z hz
theorem HeapIs.push {m : Nat} {d : Array Int} {fr : List Nat} (h : HeapIs m d fr) (x : Nat) (hx : x ∉ fr) (hm : m < d.size) : HeapIs (m + 1) (pushD m x d) (ins x fr) := by
  have hg : ∀ j, (d.setIfInBounds m (x : Int))[j]! = if j = m then (x : Int) else d[j]! := by
    intro j
    by_cases hj : j = m
    · subst hj; rw [if_pos rfl, getElem!_set_same _ _ _ hm]
    · rw [if_neg hj, getElem!_set_other _ _ _ _ hj]
  have B : HeapUp (m + 1) m (d.setIfInBounds m (x : Int)) := by
    refine ⟨fun j h1 h2 h3 => ?_, fun j h1 h2 h3 h4 => by omega⟩
    rw [hg, hg, if_neg (by omega), if_neg h3]
    exact h.ok j h1 (by omega)
  obtain ⟨r1, r2⟩ := lift_ok (m + 1) m m (d.setIfInBounds m (x : Int)) (by simp; omega) (by omega) (by omega) B
  refine HeapIs.re (by simp [lift_size, pushD]; omega) r1 r2 (fun i j hi hj e => ?_) (fun i hi => ?_) (fun y hy => ?_) (ins_sorted x fr h.sorted hx) (by rw [ins_length, h.len])
  · rw [hg, hg] at e
    split at e <;> split at e
    · omega
    · obtain ⟨y, hy, e'⟩ := h.mem j (by omega)
      rw [e'] at e
      exact absurd (by have : x = y := by omega
                       rw [this]; exact hy) hx
    · obtain ⟨y, hy, e'⟩ := h.mem i (by omega)
      rw [e'] at e
      exact absurd (by have : x = y := by omega
                       rw [this]; exact hy) hx
    · exact h.inj i j (by omega) (by omega) e
  · rw [hg]
    split
    · exact ⟨x, (ins_mem x fr x).2 (Or.inl rfl), rfl⟩
    · obtain ⟨y, hy, e⟩ := h.mem i (by omega)
      exact ⟨y, (ins_mem x fr y).2 (Or.inr hy), e⟩
  · rcases (ins_mem x fr y).1 hy with rfl | hy
    · exact ⟨m, by omega, by rw [hg, if_pos rfl]⟩
    · obtain ⟨i, hi, e⟩ := h.hit y hy
      exact ⟨i, by omega, by rw [hg, if_neg (by omega), e]⟩
theorem HeapIs.pops{m:Nat}{d:Array Int}{fr:List Nat}(h:HeapIs m d fr):∀k,k<=m->popsL m k d=(fr.take k).map (fun x:Nat=>(x:Int))/\HeapIs (m - k) (popsD m k d) (fr.drop k):=by
 intro k
 induction k with
 | zero=>intro _;exact⟨rfl,h⟩
 | succ k ih=>
  intro hk;obtain⟨e1,h1⟩:=ih (by omega);have hl:=h.len;obtain⟨x,r,hd⟩:∃x r,fr.drop k=x :: r:=by
   cases hdr:fr.drop k with
   | nil=>have:=congrArg List.length hdr;simp at this;omega
   | cons x r=>exact⟨x,r,rfl⟩
  rw[hd] at h1;have hm1:m - k=(m - k - 1)+1:=by omega
  rw[hm1] at h1;obtain⟨p1,p2⟩:=h1.pop;have et:fr.take (k+1)=fr.take k++[x]:=by
   have hkl:k < fr.length:=by omega
   have hx:fr[k]=x:=by
    have:=List.drop_eq_getElem_cons hkl;rw[hd] at this;exact (List.cons.inj this).1.symm
   rw[List.take_succ_eq_append_getElem hkl,hx]
  refine⟨by rw[popsL,e1,et,p1];simp,?_⟩;have er:fr.drop (k+1)=r:=by
   rw[<-List.drop_drop,hd];rfl
  rw[er,show m - (k+1)=m - k - 1 by omega];exact p2
def insAll:List Nat->List Nat->List Nat
 | [],l=>l
 | x :: r,l=>insAll r (ins x l)
theorem insAll_mem(xs:List Nat):∀(l:List Nat) (z:Nat),z∈insAll xs l↔z∈xs\/z∈l:=by
 induction xs with
 | nil=>intro l z;simp[insAll]
 | cons x r ih=>
  intro l z;simp only[insAll,ih,ins_mem,List.mem_cons]
  constructor
  ·rintro (h|h|h)
   ·exact Or.inl (Or.inr h)
   ·exact Or.inl (Or.inl h)
   ·exact Or.inr h
  ·rintro ((h|h)|h)
   ·exact Or.inr (Or.inl h)
   ·exact Or.inl h
   ·exact Or.inr (Or.inr h)
theorem insAll_length(xs:List Nat):∀(l:List Nat),(insAll xs l).length=xs.length+l.length:=by
 induction xs with
 | nil=>intro l;simp[insAll]
 | cons x r ih=>intro l;simp only[insAll,ih,ins_length,List.length_cons];omega
theorem HeapIs.gives(xs:List Nat):∀{m:Nat} {d:Array Int} {fr:List Nat},HeapIs m d fr->xs.Nodup->(∀x∈xs,x∉fr)->m+xs.length<=d.size->HeapIs (m+xs.length) (giveD m xs d) (insAll xs fr):=by
 induction xs with
 | nil=>intro m d fr h _ _ _;exact h
 | cons x r ih=>
  intro m d fr h hn hx hs;obtain⟨hn1,hn2⟩:=List.nodup_cons.1 hn;have h1:=h.push x (hx x (by simp)) (by simp at hs;omega);have:=ih h1 hn2 (fun z hz=>by
   rw[ins_mem];rintro (e|e)
   ·exact hn1 (e▸hz)
   ·exact hx z (by simp[hz]) e) (by rw[pushD_size];simp at hs;omega)
  simp only[giveD,insAll,List.length_cons];rw[show m+(r.length+1)=m+1+r.length by omega];exact this
theorem sorted_ext:∀(a b:List Nat),a.Pairwise (· < ·)->b.Pairwise (· < ·)->(∀z,z∈a↔z∈b)->a=b
 | [],[],_,_,_=>rfl
 | [],y :: b,_,_,h=>by have:=(h y).2 (by simp);simp at this
 | x :: a,[],_,_,h=>by have:=(h x).1 (by simp);simp at this
 | x :: a,y :: b,ha,hb,h=>by
  obtain⟨a1,a2⟩:=List.pairwise_cons.1 ha;obtain⟨b1,b2⟩:=List.pairwise_cons.1 hb;have e:x=y:=by
   rcases List.mem_cons.1 ((h x).1 (by simp)) with e|e
   ·exact e
   ·rcases List.mem_cons.1 ((h y).2 (by simp)) with e'|e'
    ·exact e'.symm
    ·have:=a1 y e';have:=b1 x e;omega
  subst e
  congr 1
  refine sorted_ext a b a2 b2 fun z=>⟨fun hz=>?_,fun hz=>?_⟩
  ·rcases List.mem_cons.1 ((h z).1 (by simp[hz])) with e|e
   ·have:=a1 z hz;omega
   ·exact e
  ·rcases List.mem_cons.1 ((h z).2 (by simp[hz])) with e|e
   ·have:=b1 z hz;omega
   ·exact e
end
end Go.Proofs.YtpddgdjocffgdaaGreat
