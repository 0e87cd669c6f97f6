/- Packed: see the last text. -/
import Derived.Test.YtpddgdjocffgdaaGreatA01
import Derived.LaidEqlPtr
namespace Go.Proofs.YtpddgdjocffgdaaGreat
open Go.Proofs.Tryz
set_option linter.unusedVariables false
set_option linter.unusedSimpArgs false
set_option linter.unusedSectionVars false
set_option maxHeartbeats 16000000
set_option maxRecDepth 100000
section
open Go.RowKit Go.Sort
variable [DecidableEq aN] [Inhabited aN] [Inhabited aF]
theorem AQ:∀(l:List Nat)(j k:Nat),j<l.length->l[j]! = k->k∉l.take j->l.idxOf k=j
 | [],j,k,h,_,_=>by simp at h
 | a::r,0,k,_,e,_=>by simp at e;simp[e]
 | a::r,j+1,k,h,e,hn=>by
  simp only[List.take_succ_cons,List.mem_cons,not_or]at hn;have:=AQ r j k (by simpa using h) (by simpa using e) hn.2;rw[List.idxOf_cons,this];have:(a == k)=false:=beq_eq_false_iff_ne.2 (fun e=>hn.1 e.symm);simp[this]
theorem jB{l:List Nat}{k:Nat}(h:k∈l):l.idxOf k<l.length:=List.idxOf_lt_length_of_mem h
theorem EU{l:List Nat}{k:Nat}(h:k∈l):l[l.idxOf k]! = k:=by
 rw[getElem!_pos l _ (jB h)];exact List.getElem_idxOf (jB h)
def placeOf(l:List Nat)(k:Nat):Int:=if k∈l then ((l.idxOf k:Nat):Int) else -1
theorem Bh(l:List Nat)(og:Option Nat)(cap k:Nat)(w:World)(s:Value)(hs:s=.slice (mO og) l.length cap)(hk1:og=none->l=[]/\cap=0)(hk2:∀g,og=some g->fD w g cap l)(hl:l.length<=200) :
 Calls prog 138 #[s,.int .i64 k] w fun e w'=>e=.returned (.int .i64 (placeOf l k))/\w'=w:=by
 subst hs;generalize hres:placeOf l k=res at *;have zW:Hid (placeOf l k=res):=hres;clear hres
 go_enter func138,ntmps138
 go_wp2
 go_loopw [8] (fun i wr=>∃j:Nat,j<=l.length/\i=.int .i64 j/\wr=w/\Hid (k∉l.take j)) (fun i _=>l.length-(intOf i).toNat)
 case atStart=>exact⟨0,Nat.zero_le _,rfl,rfl,by show _∉_;simp⟩
 case round=>
  obtain⟨j,hj,rfl,rfl,HJ⟩:=hrel;by_cases hjl:j<l.length
  ·obtain⟨g,hg⟩:∃g,og=some g:=by
    cases hgk:og with
    | none=>rw[(hk1 hgk).1]at hjl;simp at hjl
    | some g=>exact⟨g,rfl⟩
   have cj:=(hk2 g hg).cell j hjl;subst hg;simp only[mO,Option.map_some];have HTJ:Hid (l.take (j+1)=l.take j++[l[j]!]):=by show _=_;rw[List.take_succ_eq_append_getElem hjl,getElem!_pos l j hjl]
   have HMJ:Hid (l[j]!∈l):=by show _∈_;rw[getElem!_pos l j hjl];exact List.getElem_mem hjl
   have HI:Hid (l[j]! = k->l.idxOf k=j):=fun e=>AQ l j k hjl e HJ.out
   generalize l[j]! = y at *;have l2:(j:Int)<(l.length:Int):=by omega
   clear hk1 hk2;by_cases hy:y=k
   ·subst hy;have HF:Hid (res=(j:Int)):=by show _=_;rw[<-zW.out,placeOf,if_pos HMJ.out,HI.out rfl]
    go_wp2
    go_ret
    rw[HF.out];exact⟨rfl,rfl⟩
   ·have hy':((k:Int) == (y:Int))=false:=beq_eq_false_iff_ne.2 (by omega)
    go_wp2
    go_roundw
    case rel=>exact⟨j+1,by omega,by go_num,by first|rfl|trivial,by show _∉_;rw[HTJ.out];simp[HJ.out];exact fun e=>hy e.symm⟩
    case measure=>simp[intOf];omega
  ·have ej:j=l.length:=by omega
   have HF:Hid (res=-1):=by
    show _=_;have:=HJ.out;rw[ej,List.take_length]at this;rw[<-zW.out,placeOf,if_neg this]
   subst ej;clear HJ hk1 hk2
   go_wp2
   go_ret
   rw[HF.out];exact⟨rfl,rfl⟩
theorem uS(v:aF)(k:Nat)(w:World)(h:dG w v)(hk:k∉v.kept) :
 Calls prog 122 #[.pointer (some ⟨v.vb,0,none⟩),.int .i64 k] w fun e w'=>e=.returned (.tuple #[.int .i64 0,.bool false])/\w'=w:=by
 obtain⟨cap,dW,hcap,hv,hk1,hk2⟩:=h.aA;have hX:=fun s hs=>Bh v.kept v.kg dW k w s hs hk1 hk2 (by have:=h.small;have:=h.room;omega)
 rw[placeOf,if_neg hk]at hX;have c3:w.cell? ⟨v.vb,3,none⟩=some (.slice (mO v.kg) v.kept.length dW):=hv.cell? 3;clear h hv hk1 hk2
 go_enter func122,ntmps122
 go_wp2_with (go_at_call 138;refine(hX _ rfl).mono ?_;rintro e w' ⟨rfl,rfl⟩)
 go_ret2
 exact⟨rfl,rfl⟩
theorem uV(v:aF)(k:Nat)(w:World)(h:dG w v)(hk:k∈v.kept) :
 Calls prog 122 #[.pointer (some ⟨v.vb,0,none⟩),.int .i64 k] w fun e w'=>e=.returned (.tuple #[.int .i64 (v.xs[v.kept.idxOf k]!:Nat),.bool true])/\w'=w:=by
 obtain⟨cap,dW,hcap,hv,hk1,hk2⟩:=h.aA;have hX:=fun s hs=>Bh v.kept v.kg dW k w s hs hk1 hk2 (by have:=h.small;have:=h.room;omega)
 rw[placeOf,if_pos hk]at hX;have c3:w.cell? ⟨v.vb,3,none⟩=some (.slice (mO v.kg) v.kept.length dW):=hv.cell? 3;have c1:w.cell? ⟨v.vb,1,none⟩=some (.slice (some ⟨v.gb,0,none⟩) v.xs.length cap):=hv.cell? 1;obtain⟨cs,hr⟩:=h.row;have hlt:v.kept.idxOf k<v.xs.length:=Nat.lt_of_lt_of_le (jB hk) h.room;have cx:w.cell? ⟨v.gb,v.kept.idxOf k,none⟩=some (.int .i64 (v.xs[v.kept.idxOf k]!:Nat)):=by rw[hr.at_.cell?];exact hr.cell _ hlt
 have hs:=h.small;clear h hv hk1 hk2 hr;generalize v.xs[v.kept.idxOf k]! = y at *;generalize v.kept.idxOf k=i at *;have l1:(i:Int)<(v.xs.length:Int):=by omega
 have l2:¬((i:Int)<0):=by omega
 go_enter func122,ntmps122
 go_wp2_with (go_at_call 138;refine(hX _ rfl).mono ?_;rintro e w' ⟨rfl,rfl⟩)
 go_ret2
 exact⟨rfl,rfl⟩
theorem qG(v:aF)(k:Nat)(w:World)(h:dG w v)(ho:v.org=none)(hk:k<v.xs.length) :
 Calls prog 87 #[.pointer (some ⟨v.vb,0,none⟩),.int .i64 k] w fun e w'=>e=.returned (.int .i64 (v.xs[k]!:Nat))/\w'=w:=by
 have hI:=aJ v w h;rw[ho]at hI;obtain⟨cap,dW,hcap,hv,hk1,hk2⟩:=h.aA;have c1:w.cell? ⟨v.vb,1,none⟩=some (.slice (some ⟨v.gb,0,none⟩) v.xs.length cap):=hv.cell? 1;obtain⟨cs,hr⟩:=h.row;have cx:w.cell? ⟨v.gb,k,none⟩=some (.int .i64 (v.xs[k]!:Nat)):=by rw[hr.at_.cell?];exact hr.cell _ hk
 have hs:=h.small;have hnot:∀(x:Bool)(w:World),(Op.unary .not (.bool x)).run prog w=.ok (.bool (!x)) w:=fun _ _=>rfl
 clear h hv hk1 hk2 hr;generalize v.xs[k]! = y at *;have l1:(k:Int)<(v.xs.length:Int):=by omega
 go_enter func87,ntmps87
 go_wp2_with (go_at_call 88;refine hI.mono ?_;rintro e w' ⟨rfl,rfl⟩)
 go_ret
 exact⟨rfl,rfl⟩
theorem Lm(v:aF)(k:Nat)(w:World)(h:dG w v)(ho:v.org≠none)(hk:k∈v.kept) :
 Calls prog 87 #[.pointer (some ⟨v.vb,0,none⟩),.int .i64 k] w fun e w'=>e=.returned (.int .i64 (v.xs[v.kept.idxOf k]!:Nat))/\w'=w:=by
 have hI:=aJ v w h;have ho':v.org.isSome=true:=by cases hq:v.org<;>simp_all
 rw[ho']at hI;have hK:=uV v k w h hk;have hnot:∀(x:Bool)(w:World),(Op.unary .not (.bool x)).run prog w=.ok (.bool (!x)) w:=fun _ _=>rfl
 clear h;generalize v.xs[v.kept.idxOf k]! = y at *
 go_enter func87,ntmps87
 go_wp2_with (first|(go_at_call 88;refine hI.mono ?_;rintro e w' ⟨rfl,rfl⟩)|(go_at_call 122;refine hK.mono ?_;rintro e w' ⟨rfl,rfl⟩))
 go_ret
 exact⟨rfl,rfl⟩
theorem Ar(v u:aF)(k:Nat)(w:World)(h:dG w v)(hu:dG w u)(ho:v.org=some u.vb)(hu0:u.org=none)(hk:k∉v.kept)(hku:k<u.xs.length) :
 Calls prog 87 #[.pointer (some ⟨v.vb,0,none⟩),.int .i64 k] w fun e w'=>e=.returned (.int .i64 (u.xs[k]!:Nat))/\w'=w:=by
 have hI:=aJ v w h;rw[ho]at hI;have hK:=uS v k w h hk;have hH:=qG u k w hu hu0 hku;obtain⟨cap,dW,hcap,hv,hk1,hk2⟩:=h.aA;have c2:w.cell? ⟨v.vb,2,none⟩=some (.pointer (mO v.org)):=hv.cell? 2;rw[ho]at c2;simp only[mO,Option.map_some]at c2;have hnot:∀(x:Bool)(w:World),(Op.unary .not (.bool x)).run prog w=.ok (.bool (!x)) w:=fun _ _=>rfl
 clear h hv hk1 hk2 hu;generalize u.xs[k]! = y at *
 go_enter func87,ntmps87
 go_wp2_with (first|(go_at_call 88;refine hI.mono ?_;rintro e w' ⟨rfl,rfl⟩)|(go_at_call 122;refine hK.mono ?_;rintro e w' ⟨rfl,rfl⟩)|(go_at_call 87;refine hH.mono ?_;rintro e w' ⟨rfl,rfl⟩))
 go_ret
 exact⟨rfl,rfl⟩
structure St where
 pb:Nat
 db:Nat
 bb:Nat
 fb:Nat
 ab:Option Nat
 n:Nat
 m:Nat
 bl:List aN
 d:Array Int
 af:List aF
def St.foot(s:St):List Nat:=s.pb::s.db::s.bb::s.fb::(s.ab.toList++s.af.flatMap aF.foot)
def ptr(b:Nat):Value:=.pointer (some ⟨b,0,none⟩)
def St.names(s:St):List ByteArray:=s.af.map (·.name)
structure ai(w:World)(s:St):Prop where
 pool:∃cap,At w s.pb 87 [ptr s.pb,ptr s.db,.slice (s.ab.map fun b=>⟨b,0,none⟩) s.af.length cap]/\s.af.length<=cap/\(s.ab=none->cap=0)
 arr:∀b,s.ab=some b->∃cs,At w b 110 cs/\cs.take s.af.length=s.af.map (fun v=>ptr v.vb)/\s.af.length<=cs.length
 disk:dX w s.db s.bb s.fb s.n s.m s.bl s.d
 af:∀v∈s.af,dG w v
 nodup:s.foot.Nodup
 few:s.af.length<=20
 sorted:s.af.Pairwise fun a b=>bW a.name b.name<0
 zD:∀v∈s.af,∀o,v.org=some o->∃u∈s.af,u.vb=o/\u.org=none
theorem St.xh(s:St):s.pb∈s.foot:=by simp[St.foot]
theorem St.zS(s:St):s.db∈s.foot:=by simp[St.foot]
theorem St.FM(s:St):s.bb∈s.foot:=by simp[St.foot]
theorem St.zT(s:St):s.fb∈s.foot:=by simp[St.foot]
theorem St.F7(s:St){b:Nat}(h:s.ab=some b):b∈s.foot:=by simp[St.foot,h]
theorem St.bH(s:St){v:aF}(h:v∈s.af){k:Nat}(hk:k∈v.foot):k∈s.foot:=by
 simp only[St.foot,List.mem_cons,List.mem_append,List.mem_flatMap];exact Or.inr (Or.inr (Or.inr (Or.inr (Or.inr ⟨v,h,hk⟩))))
theorem St.gm{s:St}{k:Nat}(h:k∈s.foot):k=s.pb\/k=s.db\/k=s.bb\/k=s.fb\/s.ab=some k\/∃v∈s.af,k∈v.foot:=by
 simpa only[St.foot,List.mem_cons,List.mem_append,List.mem_flatMap,Option.mem_toList,Option.mem_def] using h
structure Apart(s:St):Prop where
 pb:s.pb∉s.db::s.bb::s.fb::(s.ab.toList++s.af.flatMap aF.foot)
 db:s.db∉s.bb::s.fb::(s.ab.toList++s.af.flatMap aF.foot)
 bb:s.bb∉s.fb::(s.ab.toList++s.af.flatMap aF.foot)
 fb:s.fb∉s.ab.toList++s.af.flatMap aF.foot
 ab:∀b,s.ab=some b->∀v∈s.af,b∉v.foot
 disk:∀v∈s.af,∀k∈v.foot,k∉[s.pb,s.db,s.bb,s.fb]
theorem jJ{s:St}(h:s.foot.Nodup):Apart s:=by
 unfold St.foot at h;obtain⟨h1,h⟩:=List.nodup_cons.1 h;obtain⟨h2,h⟩:=List.nodup_cons.1 h;obtain⟨h3,h⟩:=List.nodup_cons.1 h;obtain⟨h4,h⟩:=List.nodup_cons.1 h;refine⟨h1,h2,h3,h4,fun b hb v hv hk=>?_,fun v hv k hk=>?_⟩
 ·exact(List.nodup_append.1 h).2.2 b (by simp[hb]) b (List.mem_flatMap.2 ⟨v,hv,hk⟩) rfl
 ·have hm:k∈s.af.flatMap aF.foot:=List.mem_flatMap.2 ⟨v,hv,hk⟩;simp only[List.mem_cons,List.not_mem_nil,or_false,not_or];refine⟨fun e=>h1 ?_,fun e=>h2 ?_,fun e=>h3 ?_,fun e=>h4 ?_⟩
  all_goals (rw[<-e];simp only[List.mem_cons,List.mem_append];simp only[hm,or_true])
theorem ai.wF{w:World}{s:St}(h:ai w s)(hn:s.ab=none):s.af=[]:=by
 obtain⟨cap,_,h1,h2⟩:=h.pool;have:=h2 hn;exact List.eq_nil_of_length_eq_zero (by omega)
theorem ai.bn{w:World}{s:St}(h:ai w s):∀k∈s.foot,k<w.heap.size:=by
 intro k hk;obtain⟨cap,hp,_,_⟩:=h.pool;rcases St.gm hk with rfl|rfl|rfl|rfl|hk|⟨v,hv,hk⟩
 ·exact hp.lt
 ·exact h.disk.disk.lt
 ·exact h.disk.data.lt
 ·exact h.disk.free.lt
 ·obtain⟨cs,hc,_⟩:=h.arr k hk;exact hc.lt
 ·exact(h.af v hv).bn k hk
theorem ai.same{w w':World}{s:St}(h:ai w s){S:List Nat}(hs:Same S w w')(hd:∀k∈s.foot,k∉S):ai w' s:=by
 obtain⟨cap,hp,h1,h2⟩:=h.pool;refine⟨⟨cap,hs.at hp (hd _ s.xh),h1,h2⟩,fun b hb=>?_,h.disk.same hs (hd _ s.zS) (hd _ s.FM) (hd _ s.zT),fun v hv=>(h.af v hv).same hs (fun k hk=>hd k (s.bH hv hk)),h.nodup,h.few,h.sorted,h.zD⟩;obtain⟨cs,hc,h3⟩:=h.arr b hb;exact⟨cs,hs.at hc (hd _ (s.F7 hb)),h3⟩
theorem ai.new{w w':World}{s:St}(h:ai w s)(hs:Same [] w w'):ai w' s:=h.same hs (by simp)
theorem ai.cell{w:World}{s:St}(h:ai w s)(i:Nat)(hi:i<s.af.length) :
 ∃b,s.ab=some b/\w.cell? ⟨b,i,none⟩=some (.pointer (some ⟨(s.af[i]!).vb,0,none⟩))/\w.cell? ⟨(s.af[i]!).vb,0,none⟩=some (.string (s.af[i]!).name):=by
 cases hab:s.ab with
 | none=>rw[h.wF hab]at hi;simp at hi
 | some b=>
  obtain⟨cs,hc,h1,h2⟩:=h.arr b hab;refine⟨b,rfl,?_,?_⟩
  ·have:(cs.take s.af.length)[i]? = cs[i]?:=by rw[List.getElem?_take,if_pos hi]
   rw[hc.cell?,<-this,h1];simp[List.getElem?_map,List.getElem?_eq_getElem hi,getElem!_pos s.af i hi,ptr]
  ·have hm:s.af[i]!∈s.af:=by rw[getElem!_pos s.af i hi];exact List.getElem_mem hi
   obtain⟨_,_,_,hv,_⟩:=(h.af _ hm).aA;exact hv.cell? 0
theorem jS:∀(l:List aF),(l.flatMap aF.foot).Nodup->l.Pairwise fun a b=>a.vb≠b.vb
 | [],_=>List.Pairwise.nil
 | a::r,h=>by
  rw[List.flatMap_cons,List.nodup_append]at h;refine List.pairwise_cons.2 ⟨fun b hb e=>?_,jS r h.2.1⟩;exact h.2.2 a.vb (by simp[aF.foot]) b.vb (List.mem_flatMap.2 ⟨b,hb,by simp[aF.foot]⟩) e
theorem ai.uP{w:World}{s:St}(h:ai w s):(s.af.flatMap aF.foot).Nodup:=by
 have hn:=h.nodup;unfold St.foot at hn;obtain⟨_,hn⟩:=List.nodup_cons.1 hn;obtain⟨_,hn⟩:=List.nodup_cons.1 hn;obtain⟨_,hn⟩:=List.nodup_cons.1 hn;obtain⟨_,hn⟩:=List.nodup_cons.1 hn;exact(List.nodup_append.1 hn).2.1
theorem Hu{l:List aF}(h:l.Pairwise fun a b=>a.vb≠b.vb){a b:aF}(ha:a∈l)(hb:b∈l)(e:a.vb=b.vb):a=b:=by
 induction l with
 | nil=>simp at ha
 | cons x r ih=>
  obtain⟨h1,h2⟩:=List.pairwise_cons.1 h;rcases List.mem_cons.1 ha with rfl|ha'
  ·rcases List.mem_cons.1 hb with rfl|hb'
   ·rfl
   ·exact absurd e (h1 b hb')
  ·rcases List.mem_cons.1 hb with rfl|hb'
   ·exact absurd e.symm (h1 a ha')
   ·exact ih h2 ha' hb'
theorem ai.mF{w:World}{s:St}(h:ai w s){a b:aF}(ha:a∈s.af)(hb:b∈s.af)(e:a.vb=b.vb):a=b:=
 Hu (jS _ h.uP) ha hb e
def St.tq(s:St)(b:Nat):aF:=(s.af.find? fun u=>u.vb == b).getD default
def St.aB(s:St)(v:aF):aF:=
 match v.org with
 | none=>v
 | some b=>s.tq b
theorem ai.tq{w:World}{s:St}(h:ai w s){u:aF}(hu:u∈s.af):s.tq u.vb=u:=by
 unfold St.tq;cases hf:s.af.find? (fun x=>x.vb == u.vb) with
 | none=>have:=List.find?_eq_none.1 hf u hu;simp at this
 | some x=>
  have h1:=List.find?_some hf;have h2:=List.mem_of_find?_eq_some hf;exact h.mF h2 hu (by simpa using h1)
theorem ai.aB{w:World}{s:St}(h:ai w s){v:aF}(hv:v∈s.af):s.aB v∈s.af/\(s.aB v).org=none/\(v.org=none->s.aB v=v)/\(v.org≠none->v.org=some (s.aB v).vb):=by
 cases ho:v.org with
 | none=>
  have e:s.aB v=v:=by unfold St.aB;rw[ho]
  rw[e];exact⟨hv,ho,fun _=>rfl,fun h=>absurd rfl h⟩
 | some b=>
  obtain⟨u,hu,rfl,hu0⟩:=h.zD v hv b ho;have e:s.aB v=u:=by unfold St.aB;rw[ho];exact h.tq hu
  rw[e];exact⟨hu,hu0,fun h=>absurd h (by simp),fun _=>rfl⟩
theorem qH(s:St)(w:World)(h:ai w s) :
 Calls prog 45 #[ptr s.pb] w fun e w'=>e=.returned (.bool true)/\w'=w:=by
 obtain⟨cap,hp,_,_⟩:=h.pool;have c0:w.cell? ⟨s.pb,0,none⟩=some (.pointer (some ⟨s.pb,0,none⟩)):=hp.cell? 0;clear h hp;unfold ptr;obtain⟨i0,hi⟩:∃i,prog.info? 87=some i:=Option.isSome_iff_exists.1 (by kernel_rfl);have heq:=run_eql_ptr_same (P:=prog) (w:=w) ⟨s.pb,0,none⟩ underlying58 hi
 go_enter func45,ntmps45
 go_wp2
 go_ret
 simp
theorem Ah(ns:List ByteArray)(t:ByteArray)(hs:ns.Pairwise fun a b=>bW a b<0)(htr:∀a b,bW a b<0->bW b t<0->bW a t<0):∀i j,i<=j->j<ns.length->bW ns[j]! t<0->bW ns[i]! t<0:=by
 intro i j hij hj h;rcases Nat.lt_or_ge i j with h'|h'
 ·rw[getElem!_pos ns j hj]at h;rw[getElem!_pos ns i (by omega)];exact htr _ _ (List.pairwise_iff_getElem.1 hs i j (by omega) hj h') h
 ·have:i=j:=by omega
  subst this;exact h
theorem AL:∀(a b c:List UInt8),Lib.compareBytes a b<0->Lib.compareBytes b c<0->Lib.compareBytes a c<0
 | [],[],_=>by intro h;simp[Lib.compareBytes]at h
 | [],_::_,[]=>by intro _ h;simp[Lib.compareBytes]at h
 | [],_::_,_::_=>by intro _ _;simp[Lib.compareBytes]
 | _::_,[],_=>by intro h;simp[Lib.compareBytes]at h
 | _::_,_::_,[]=>by intro _ h;simp[Lib.compareBytes]at h
 | x::a,y::b,z::c=>by
  intro h1 h2;have ih:=AL a b c;unfold Lib.compareBytes at h1 h2 ⊢;by_cases hxy:x<y
  ·by_cases hyz:y<z
   ·rw[if_pos (UInt8.lt_trans hxy hyz)];decide
   ·rw[if_neg hyz]at h2;by_cases hzy:z<y
    ·rw[if_pos hzy]at h2;simp at h2
    ·have e:y=z:=UInt8.le_antisymm (UInt8.not_lt.1 hzy) (UInt8.not_lt.1 hyz);rw[<-e,if_pos hxy];decide
  ·rw[if_neg hxy]at h1;by_cases hyx:y<x
   ·rw[if_pos hyx]at h1;simp at h1
   ·rw[if_neg hyx]at h1;have e:x=y:=UInt8.le_antisymm (UInt8.not_lt.1 hyx) (UInt8.not_lt.1 hxy);subst e;by_cases hyz:x<z
    ·rw[if_pos hyz];decide
    ·rw[if_neg hyz]at h2 ⊢;by_cases hzy:z<x
     ·rw[if_pos hzy]at h2;simp at h2
     ·rw[if_neg hzy]at h2 ⊢;exact ih h1 h2
theorem uU(a b c:ByteArray):bW a b<0->bW b c<0->bW a c<0:=AL _ _ _
theorem EY:∀(a b:List UInt8),Lib.compareBytes a b=0↔a=b
 | [],[]=>by simp[Lib.compareBytes]
 | [],_::_=>by simp[Lib.compareBytes]
 | _::_,[]=>by simp[Lib.compareBytes]
 | x::a,y::b=>by
  have ih:=EY a b;unfold Lib.compareBytes;by_cases hxy:x<y
  ·rw[if_pos hxy];have:x≠y:=fun e=>by subst e;exact UInt8.lt_irrefl _ hxy
   simp[this]
  ·rw[if_neg hxy];by_cases hyx:y<x
   ·rw[if_pos hyx];have:x≠y:=fun e=>by subst e;exact UInt8.lt_irrefl _ hyx
    simp[this]
   ·rw[if_neg hyx,ih];have e:x=y:=UInt8.le_antisymm (UInt8.not_lt.1 hyx) (UInt8.not_lt.1 hxy);simp[e]
theorem qm(a b:ByteArray):bW a b=0↔a=b:=by
 unfold bW;rw[EY]
 constructor
 ·intro h;apply ByteArray.ext;exact Array.toList_inj.1 h
 ·intro h;rw[h]
theorem ai.iG{w:World}{s:St}(h:ai w s):s.names.Pairwise fun a b=>bW a b<0:=by
 unfold St.names;rw[List.pairwise_map];exact h.sorted
theorem zi(s:St)(t:ByteArray)(w:World)(h:ai w s) :
 Calls prog 115 #[ptr s.pb,.string t] w fun e w'=>e=.returned (.tuple #[.int .i64 (posOf s.names t:Nat),.bool (isIn s.names t)])/\w'=w:=by
 obtain⟨cap,hp,h1,h2⟩:=h.pool;have c2:w.cell? ⟨s.pb,2,none⟩=some (.slice (s.ab.map fun b=>⟨b,0,none⟩) s.af.length cap):=hp.cell? 2;have hl:s.names.length=s.af.length:=by simp[St.names]
 have hS:∀S,S=Value.slice (s.ab.map fun b=>⟨b,0,none⟩) s.af.length cap->Calls prog 136 #[S,.string t,.func (.func 137) #[] #[]] w fun e w'=>e=.returned (.tuple #[.int .i64 (posOf s.names t:Nat),.bool (isIn s.names t)])/\w'=w:=fun S hS=>
  Iy (s.ab.getD 0) cap (s.ab.map fun b=>⟨b,0,none⟩) (s.af.map (·.vb)) s.names t w S (by rw[hl];exact hS) (by have:=h.few;omega) (by
   intro i hi;obtain⟨b,hb,e1,e2⟩:=h.cell i (by omega);have g1:(s.af.map (·.vb))[i]! = (s.af[i]!).vb:=by rw[getElem!_pos _ i (by simp;omega),getElem!_pos s.af i (by omega)];simp
   have g2:s.names[i]! = (s.af[i]!).name:=by rw[getElem!_pos _ i hi,getElem!_pos s.af i (by omega)];simp[St.names]
   rw[g1,g2,hb];exact⟨rfl,e1,e2⟩) (Ah s.names t h.iG (fun a b=>uU a b t))
 clear hp h1 h2 h;generalize posOf s.names t=po at *;generalize isIn s.names t=fo at *;generalize Value.slice (s.ab.map fun b=>⟨b,0,none⟩) s.af.length cap=V at *;unfold ptr
 go_enter func115,ntmps115
 go_wp2_with (go_at_call 136;refine(hS _ rfl).mono ?_;rintro e w' ⟨rfl,rfl⟩)
 go_ret2
 exact⟨rfl,rfl⟩
theorem Aj(s:St)(t:ByteArray)(w:World)(h:ai w s) :
 Calls prog 77 #[ptr s.pb,.string t] w fun e w'=>
  (e=if isIn s.names t=true then .returned (.tuple #[ptr (s.af[posOf s.names t]!).vb,.int .i64 0]) else .returned (.tuple #[.pointer none,.int .i64 4]))/\w'=w:=by
 have hm:=qH s w h;have hI:=zi s t w h;have hnot:∀(x:Bool)(w:World),(Op.unary .not (.bool x)).run prog w=.ok (.bool (!x)) w:=fun _ _=>rfl
 obtain⟨cap,hp,h1,h2⟩:=h.pool;have hf:=h.few;cases hi:isIn s.names t with
 | true=>
  rw[hi]at hI;have hpos:posOf s.names t<s.af.length:=by
   simp[isIn,St.names]at hi ⊢;exact hi.1
  obtain⟨b,hb,e1,e2⟩:=h.cell (posOf s.names t) hpos;have c2:w.cell? ⟨s.pb,2,none⟩=some (.slice (some ⟨b,0,none⟩) s.af.length cap):=by have:=hp.cell? 2;rw[hb]at this;exact this
  clear hp h1 h2 h;generalize posOf s.names t=po at *;unfold ptr at *;have l1:(po:Int)<(s.af.length:Int):=by omega
  go_enter func77,ntmps77
  go_wp2_with (first|(go_at_call 45;refine hm.mono ?_;rintro e w' ⟨rfl,rfl⟩)|(go_at_call 115;refine hI.mono ?_;rintro e w' ⟨rfl,rfl⟩))
  go_ret2
  simp
 | false=>
  rw[hi]at hI;clear hp h1 h2 h;generalize posOf s.names t=po at *;unfold ptr at *
  go_enter func77,ntmps77
  go_wp2_with (first|(go_at_call 45;refine hm.mono ?_;rintro e w' ⟨rfl,rfl⟩)|(go_at_call 115;refine hI.mono ?_;rintro e w' ⟨rfl,rfl⟩))
  go_ret2
  simp
def St.aA(s:St)(t:ByteArray):aF:=s.af[posOf s.names t]!
def St.has(s:St)(t:ByteArray):Bool:=isIn s.names t
theorem St.aT{s:St}{t:ByteArray}(h:s.has t=true):s.aA t∈s.af/\(s.aA t).name=t/\posOf s.names t<s.af.length:=by
 unfold St.has isIn at h;simp only[Bool.and_eq_true,decide_eq_true_eq]at h;have hl:posOf s.names t<s.af.length:=by simpa [St.names] using h.1
 refine⟨?_,?_,hl⟩
 ·unfold St.aA;rw[getElem!_pos s.af _ hl];exact List.getElem_mem hl
 ·have:=(qm _ _).1 h.2;rw[getElem!_pos s.names _ h.1]at this;unfold St.aA;rw[getElem!_pos s.af _ hl];simpa [St.names] using this
theorem dM(s:St)(t:ByteArray)(w:World)(h:ai w s)(hi:s.has t=true) :
 Calls prog 77 #[.pointer (some ⟨s.pb,0,none⟩),.string t] w fun e w'=>e=.returned (.tuple #[.pointer (some ⟨(s.aA t).vb,0,none⟩),.int .i64 0])/\w'=w:=by
 have:=Aj s t w h;unfold St.has at hi;simp only[hi,if_true]at this;exact this
theorem qf(s:St)(t:ByteArray)(w:World)(h:ai w s)(hi:s.has t=false) :
 Calls prog 77 #[.pointer (some ⟨s.pb,0,none⟩),.string t] w fun e w'=>e=.returned (.tuple #[.pointer none,.int .i64 4])/\w'=w:=by
 have:=Aj s t w h;unfold St.has at hi;simp only[hi,Bool.false_eq_true,if_false]at this;exact this
def St.size(s:St)(v:aF):Nat:=(s.aB v).xs.length
def St.holder(s:St)(v:aF)(k:Nat):Nat:=if k∈v.kept then v.xs[v.kept.idxOf k]! else (s.aB v).xs[k]!
def St.look(s:St)(v:aF)(k:Nat):aN:=s.bl[s.holder v k]!
theorem size_at{s:St}{w:World}(h:ai w s){v:aF}(hv:v∈s.af) :
 Calls prog 94 #[.pointer (some ⟨v.vb,0,none⟩)] w fun e w'=>e=.returned (.int .i64 (s.size v))/\w'=w:=by
 obtain⟨h1,h2,h3,h4⟩:=h.aB hv;by_cases ho:v.org=none
 ·unfold St.size;rw[h3 ho];exact kV v w (h.af v hv) ho
 ·exact LG v (s.aB v) w (h.af v hv) (h.af _ h1) (h4 ho) h2
theorem tX{s:St}{w:World}(h:ai w s){v:aF}(hv:v∈s.af){k:Nat}(hk:k<s.size v) :
 Calls prog 87 #[.pointer (some ⟨v.vb,0,none⟩),.int .i64 k] w fun e w'=>e=.returned (.int .i64 (s.holder v k:Nat))/\w'=w:=by
 obtain⟨h1,h2,h3,h4⟩:=h.aB hv;by_cases ho:v.org=none
 ·have e:s.aB v=v:=h3 ho;have e2:s.holder v k=v.xs[k]!:=by unfold St.holder;rw[(h.af v hv).fE ho,e];simp
  rw[e2];exact qG v k w (h.af v hv) ho (by have:s.size v=v.xs.length:=by { unfold St.size;rw[e] };omega)
 ·by_cases hm:k∈v.kept
  ·have e2:s.holder v k=v.xs[v.kept.idxOf k]!:=by unfold St.holder;rw[if_pos hm]
   rw[e2];exact Lm v k w (h.af v hv) ho hm
  ·have e2:s.holder v k=(s.aB v).xs[k]!:=by unfold St.holder;rw[if_neg hm]
   rw[e2];exact Ar v (s.aB v) k w (h.af v hv) (h.af _ h1) (h4 ho) h2 hm hk
theorem BO{s:St}{w:World}(h:ai w s){v:aF}(hv:v∈s.af):s.size v<=200:=(h.af _ (h.aB hv).1).small
theorem lH{s:St}{w:World}(h:ai w s){v:aF}(hv:v∈s.af):w.cell? ⟨v.vb,4,none⟩=some (.bool v.lost):=by
 obtain⟨cap,dW,_,hvo,_,_⟩:=(h.af v hv).aA;exact hvo.cell? 4
theorem sV(s:St)(t:ByteArray)(k:Int)(w:World)(h:ai w s)(hi:s.has t=false) :
 Calls prog 86 #[.pointer (some ⟨s.pb,0,none⟩),.string t,.int .i64 k] w fun e w'=>e=.returned (.tuple #[.pointer none,.int .i64 4])/\w'=w:=by
 have hf:=qf s t w h hi;clear h
 go_enter func86,ntmps86
 go_wp2_with (go_at_call 77;refine hf.mono ?_;rintro e w' ⟨rfl,rfl⟩)
 go_ret2
 exact⟨rfl,rfl⟩
theorem rJ(s:St)(t:ByteArray)(k:Int)(w:World)(h:ai w s)(hi:s.has t=true)(hl:(s.aA t).lost=true) :
 Calls prog 86 #[.pointer (some ⟨s.pb,0,none⟩),.string t,.int .i64 k] w fun e w'=>e=.returned (.tuple #[.pointer none,.int .i64 9])/\w'=w:=by
 have hf:=dM s t w h hi;have c4:=lH h (St.aT hi).1;rw[hl]at c4;clear h
 go_enter func86,ntmps86
 go_wp2_with (go_at_call 77;refine hf.mono ?_;rintro e w' ⟨rfl,rfl⟩)
 go_ret2
 exact⟨rfl,rfl⟩
theorem uI(s:St)(t:ByteArray)(k:Int)(w:World)(h:ai w s)(hi:s.has t=true)(hl:(s.aA t).lost=false)(hk:¬(0<=k/\k<s.size (s.aA t))) :
 Calls prog 86 #[.pointer (some ⟨s.pb,0,none⟩),.string t,.int .i64 k] w fun e w'=>e=.returned (.tuple #[.pointer none,.int .i64 1])/\w'=w:=by
 have hf:=dM s t w h hi;have hm:=(St.aT hi).1;have hp:=sF (s.aA t).vb (s.size (s.aA t)) k w (by have:=BO h hm;omega) (size_at h hm);rw[decide_eq_false hk]at hp;have c4:=lH h hm;rw[hl]at c4;have hnot:∀(x:Bool)(w:World),(Op.unary .not (.bool x)).run prog w=.ok (.bool (!x)) w:=fun _ _=>rfl
 clear h hk
 go_enter func86,ntmps86
 go_wp2_with (first|(go_at_call 77;refine hf.mono ?_;rintro e w' ⟨rfl,rfl⟩)|(go_at_call 121;refine hp.mono ?_;rintro e w' ⟨rfl,rfl⟩))
 go_ret2
 exact⟨rfl,rfl⟩
theorem mZ(s:St)(t:ByteArray)(k:Nat)(w:World)(h:ai w s)(hi:s.has t=true)(hl:(s.aA t).lost=false)(hk:k<s.size (s.aA t)) :
 Calls prog 86 #[.pointer (some ⟨s.pb,0,none⟩),.string t,.int .i64 k] w fun e w'=>e=.returned (.tuple #[.pointer (some ⟨(s.aA t).vb,0,none⟩),.int .i64 0])/\w'=w:=by
 have hf:=dM s t w h hi;have hm:=(St.aT hi).1;have hp:=sF (s.aA t).vb (s.size (s.aA t)) k w (by have:=BO h hm;omega) (size_at h hm);rw[decide_eq_true (show(0:Int)<=k/\(k:Int)<(s.size (s.aA t):Nat) by omega)]at hp;have c4:=lH h hm;rw[hl]at c4;have hnot:∀(x:Bool)(w:World),(Op.unary .not (.bool x)).run prog w=.ok (.bool (!x)) w:=fun _ _=>rfl
 clear h hk;generalize (s.aA t).vb=vb at *
 go_enter func86,ntmps86
 go_wp2_with (first|(go_at_call 77;refine hf.mono ?_;rintro e w' ⟨rfl,rfl⟩)|(go_at_call 121;refine hp.mono ?_;rintro e w' ⟨rfl,rfl⟩))
 go_ret2
 exact⟨rfl,rfl⟩
theorem C9(s:St)(w:World)(h:ai w s) :
 Calls prog 27 #[.pointer (some ⟨s.pb,0,none⟩)] w fun e w'=>e=.returned (.int .i64 s.m)/\w'=w:=by
 have hm:=qH s w h;obtain⟨cap,hp,_,_⟩:=h.pool;have c1:w.cell? ⟨s.pb,1,none⟩=some (.pointer (some ⟨s.db,0,none⟩)):=hp.cell? 1;have hf:=BU s.db s.n s.m _ _ _ w _ rfl h.disk.disk (by have:=h.disk.le;have:=h.disk.small;omega);have hnot:∀(x:Bool)(w:World),(Op.unary .not (.bool x)).run prog w=.ok (.bool (!x)) w:=fun _ _=>rfl
 unfold ptr at hm;clear h hp
 go_enter func27,ntmps27
 go_wp2_with (first|(go_at_call 45;refine hm.mono ?_;rintro e w' ⟨rfl,rfl⟩)|(go_at_call 46;refine hf.mono ?_;rintro e w' ⟨rfl,rfl⟩))
 go_ret
 exact⟨rfl,rfl⟩
theorem map_none(s:St)(t:ByteArray)(w:World)(h:ai w s)(hi:s.has t=false) :
 Calls prog 39 #[.pointer (some ⟨s.pb,0,none⟩),.string t] w fun e w'=>e=.returned (.tuple #[.slice none 0 0,.int .i64 4])/\w'=w:=by
 have hf:=qf s t w h hi;clear h
 go_enter func39,ntmps39
 go_wp2_with (go_at_call 77;refine hf.mono ?_;rintro e w' ⟨rfl,rfl⟩)
 go_ret2
 exact⟨rfl,rfl⟩
theorem map_some(s:St)(t:ByteArray)(w:World)(h:ai w s)(hi:s.has t=true) :
 Calls prog 39 #[.pointer (some ⟨s.pb,0,none⟩),.string t] w fun e w'=>∃g cs,e=.returned (.tuple #[.slice (some ⟨g,0,none⟩) (s.aA t).xs.length (s.aA t).xs.length,.int .i64 0])/\w.heap.size<=g/\jd w' g (s.aA t).xs cs/\Same [] w w':=by
 have hf:=dM s t w h hi;have hn:=DT _ w (h.af _ (St.aT hi).1);clear h
 go_enter func39,ntmps39
 go_wp2_with (first|(go_at_call 77;refine hf.mono ?_;rintro e w' ⟨rfl,rfl⟩)|(go_at_call 78;refine hn.mono ?_;rintro e w1 ⟨g,cs,rfl,hg,hR,S1⟩))
 go_ret2
 exact⟨g,cs,rfl,hg,hR,S1⟩
theorem Cf(s:St)(t:ByteArray)(k e0:Int)(w:World)(he:e0≠0)(hf:∀w',Same [] w w'->Calls prog 86 #[.pointer (some ⟨s.pb,0,none⟩),.string t,.int .i64 k] w' fun e w''=>e=.returned (.tuple #[.pointer none,.int .i64 e0])/\w''=w') :
 Calls prog 61 #[.pointer (some ⟨s.pb,0,none⟩),.string t,.int .i64 k] w fun e w'=>e=.returned (.tuple #[aN.zero.val,.int .i64 e0])/\Same [] w w':=by
 have hf':=hf _ ((Same.refl [] w).alloc (Obj.cells #[.int .u8 0,.int .u8 0,.int .u8 0,.int .u8 0,.int .u8 0,.int .u8 0,.int .u8 0,.int .u8 0] 91));clear hf;have he':(e0 != 0)=true:=by simpa using he
 unfold aN.val aN.zero
 go_enter func61,ntmps61
 go_wp2_with (go_at_call 86;refine hf'.mono ?_;rintro e w' ⟨rfl,rfl⟩)
 exact bodyPost_ret (v:=.tuple #[.agg #[.int .u8 0,.int .u8 0,.int .u8 0,.int .u8 0,.int .u8 0,.int .u8 0,.int .u8 0,.int .u8 0],.int .i64 e0]) (by simp[results,results61,go_sem]) rfl ⟨rfl,(Same.refl _ _).alloc _⟩
theorem QF(s:St)(t:ByteArray)(k:Nat)(w:World)(h:ai w s)(hi:s.has t=true)(hl:(s.aA t).lost=false)(hk:k<s.size (s.aA t))(hn:s.holder (s.aA t) k<s.n) :
 Calls prog 61 #[.pointer (some ⟨s.pb,0,none⟩),.string t,.int .i64 k] w fun e w'=>e=.returned (.tuple #[(s.look (s.aA t) k).val,.int .i64 0])/\Same [] w w':=by
 have S0:=(Same.refl [] w).alloc (Obj.cells #[.int .u8 0,.int .u8 0,.int .u8 0,.int .u8 0,.int .u8 0,.int .u8 0,.int .u8 0,.int .u8 0] 91);have h1:=h.new S0;have N0:=At.new w #[.int .u8 0,.int .u8 0,.int .u8 0,.int .u8 0,.int .u8 0,.int .u8 0,.int .u8 0,.int .u8 0] 91;have hf:=mZ s t k _ h1 hi hl hk;have hH:=fun W (hW:Same [] w W)=>tX (h.new hW) (St.aT hi).1 hk
 obtain⟨cap,hp,_,_⟩:=h.pool;have c1:=hp.cell? 1;simp only[List.getElem?_cons_succ,List.getElem?_cons_zero,ptr]at c1;have lp:=hp.lt;have hR:=fun W (hW:Same [] w W)=>gu s.db s.bb s.n (s.holder (s.aA t) k) _ _ _ s.bl W _ _ rfl rfl (h.new hW).disk.disk (h.new hW).disk.data h.disk.len hn (by have:=h.disk.small;omega)
 unfold St.look;generalize s.holder (s.aA t) k=yy at *;generalize s.bl[yy]! = y at *;have HS0:Hid (Same [] w (w.alloc (Obj.cells #[.int .u8 0,.int .u8 0,.int .u8 0,.int .u8 0,.int .u8 0,.int .u8 0,.int .u8 0,.int .u8 0] 91))):=S0;have HN:Hid (At (w.alloc (Obj.cells #[.int .u8 0,.int .u8 0,.int .u8 0,.int .u8 0,.int .u8 0,.int .u8 0,.int .u8 0,.int .u8 0] 91)) w.heap.size 91 [.int .u8 0,.int .u8 0,.int .u8 0,.int .u8 0,.int .u8 0,.int .u8 0,.int .u8 0,.int .u8 0]):=N0;clear h h1 hp S0 N0
 go_enter func61,ntmps61
 go_wp2_with (go_at_call 86;refine hf.mono ?_;rintro e w' ⟨rfl,rfl⟩)
 unfold aN.val at *;obtain⟨x0,x1,x2,x3,x4,x5,x6,x7⟩:=y
 go_region_with (first|(go_at_call 87;refine(hH _ (HS0.out.drew)).mono ?_;rintro e w' ⟨rfl,rfl⟩)|(go_at_call 69;refine(hR _ (HS0.out.drew)).mono ?_;rintro e w2 ⟨rfl,S2⟩;have z0:w2.cell? ⟨w.heap.size,0,none⟩=some (.int .u8 0):=(S2.at HN.out.drew (by simp)).cell? 0;have z1:w2.cell? ⟨w.heap.size,1,none⟩=some (.int .u8 0):=(S2.at HN.out.drew (by simp)).cell? 1;have z2:w2.cell? ⟨w.heap.size,2,none⟩=some (.int .u8 0):=(S2.at HN.out.drew (by simp)).cell? 2;have z3:w2.cell? ⟨w.heap.size,3,none⟩=some (.int .u8 0):=(S2.at HN.out.drew (by simp)).cell? 3;have z4:w2.cell? ⟨w.heap.size,4,none⟩=some (.int .u8 0):=(S2.at HN.out.drew (by simp)).cell? 4;have z5:w2.cell? ⟨w.heap.size,5,none⟩=some (.int .u8 0):=(S2.at HN.out.drew (by simp)).cell? 5;have z6:w2.cell? ⟨w.heap.size,6,none⟩=some (.int .u8 0):=(S2.at HN.out.drew (by simp)).cell? 6;have z7:w2.cell? ⟨w.heap.size,7,none⟩=some (.int .u8 0):=(S2.at HN.out.drew (by simp)).cell? 7;have fz:=(S2.at HN.out.drew (by simp)).frozen;have SA:Same [] w w2:=HS0.out.drew.step S2 (by simp)))
 all_goals
  clear hf hH hR c1 HN HS0
  go_wp2
  refine bodyPost_ret (v:=.tuple #[.agg #[.int .u8 x0,.int .u8 x1,.int .u8 x2,.int .u8 x3,.int .u8 x4,.int .u8 x5,.int .u8 x6,.int .u8 x7],.int .i64 0]) (by simp[results,results61,go_sem,z0,z1,z2,z3,z4,z5,z6,z7]) rfl ⟨rfl,?_⟩;exact((((((((SA.set w.heap.size _ _ (by simp)).set w.heap.size _ _ (by simp)).set w.heap.size _ _ (by simp)).set w.heap.size _ _ (by simp)).set w.heap.size _ _ (by simp)).set w.heap.size _ _ (by simp)).set w.heap.size _ _ (by simp)).set w.heap.size _ _ (by simp))
theorem TN(v:aF)(w:World)(h:dG w v)(ho:v.org=none) :
 Calls prog 76 #[.pointer (some ⟨v.vb,0,none⟩)] w fun e w'=>e=.returned (.agg #[.string v.name,.int .i64 v.xs.length,.string ⟨#[]⟩,.int .i64 0,.int .i64 0,.bool false])/\Same [] w w':=by
 obtain⟨cap,dW,hcap,hv,hk1,hk2⟩:=h.aA;have hs:=h.small;have lv:=hv.lt;have hI:∀W,Same [] w W->Calls prog 88 #[.pointer (some ⟨v.vb,0,none⟩)] W fun e w'=>e=.returned (.bool false)/\w'=W:=fun W hW=>by
  have:=aJ v W (h.new hW);rw[ho]at this;exact this
 have hc:∀W,Same [] w W->Calls prog 94 #[.pointer (some ⟨v.vb,0,none⟩)] W fun e w'=>e=.returned (.int .i64 v.xs.length)/\w'=W:=fun W hW=>kV v W (h.new hW) ho
 have c0:w.cell? ⟨v.vb,0,none⟩=some (.string v.name):=hv.cell? 0;have hnot:∀(x:Bool)(w:World),(Op.unary .not (.bool x)).run prog w=.ok (.bool (!x)) w:=fun _ _=>rfl
 clear h hv hk1 hk2
 go_enter func76,ntmps76
 go_wp2_with (go_at_call 88;refine(hI _ ((Same.refl _ _).alloc _)).mono ?_;rintro e w' ⟨rfl,rfl⟩)
 go_region_with (go_at_call 94;refine(hc _ ((Same.refl _ _).alloc _).drew).mono ?_;rintro e w' ⟨rfl,rfl⟩)
 all_goals
  go_wp2
  exact bodyPost_ret (v:=.agg #[.string v.name,.int .i64 v.xs.length,.string ⟨#[]⟩,.int .i64 0,.int .i64 0,.bool false]) (by simp[results,results76,go_sem]) rfl ⟨rfl,((Same.refl _ _).alloc _).drew⟩
theorem U9(v u:aF)(w:World)(h:dG w v)(hu:dG w u)(ho:v.org=some u.vb)(hu0:u.org=none) :
 Calls prog 76 #[.pointer (some ⟨v.vb,0,none⟩)] w fun e w'=>e=.returned (.agg #[.string v.name,.int .i64 u.xs.length,.string u.name,.int .i64 v.xs.length,.int .i64 v.kept.length,.bool v.lost])/\Same [] w w':=by
 obtain⟨cap,dW,hcap,hv,hk1,hk2⟩:=h.aA;obtain⟨pG,abd,abe,huv,_,_⟩:=hu.aA;have hs:=h.small;have hr:=h.room;have hsu:=hu.small;have lv:=hv.lt;have lu:=huv.lt;have hI:∀W,Same [] w W->Calls prog 88 #[.pointer (some ⟨v.vb,0,none⟩)] W fun e w'=>e=.returned (.bool true)/\w'=W:=fun W hW=>by
  have:=aJ v W (h.new hW);rw[ho]at this;exact this
 have hc:∀W,Same [] w W->Calls prog 94 #[.pointer (some ⟨v.vb,0,none⟩)] W fun e w'=>e=.returned (.int .i64 u.xs.length)/\w'=W:=fun W hW=>LG v u W (h.new hW) (hu.new hW) ho hu0
 have c0:w.cell? ⟨v.vb,0,none⟩=some (.string v.name):=hv.cell? 0;have c1:w.cell? ⟨v.vb,1,none⟩=some (.slice (some ⟨v.gb,0,none⟩) v.xs.length cap):=hv.cell? 1;have c2:w.cell? ⟨v.vb,2,none⟩=some (.pointer (mO v.org)):=hv.cell? 2;rw[ho]at c2;simp only[mO,Option.map_some]at c2;have c3:w.cell? ⟨v.vb,3,none⟩=some (.slice (mO v.kg) v.kept.length dW):=hv.cell? 3;have c4:w.cell? ⟨v.vb,4,none⟩=some (.bool v.lost):=hv.cell? 4;have d0:w.cell? ⟨u.vb,0,none⟩=some (.string u.name):=huv.cell? 0;have hnot:∀(x:Bool)(w:World),(Op.unary .not (.bool x)).run prog w=.ok (.bool (!x)) w:=fun _ _=>rfl
 clear h hv hk1 hk2 huv hu
 go_enter func76,ntmps76
 go_wp2_with (go_at_call 88;refine(hI _ ((Same.refl _ _).alloc _)).mono ?_;rintro e w' ⟨rfl,rfl⟩)
 refine aU 28 (by kernel_rfl) (by kernel_rfl) ?_;simp only[List.take_succ_cons,List.take_zero,List.drop_succ_cons,List.drop_zero]
 repeat still_step
 still_call (hc _ ((Same.refl _ _).alloc _).drew)
 repeat still_step
 refine wpStill_nil ?_
 go_wp2
 exact bodyPost_ret (v:=.agg #[.string v.name,.int .i64 u.xs.length,.string u.name,.int .i64 v.xs.length,.int .i64 v.kept.length,.bool v.lost]) (by simp[results,results76,go_sem]) rfl ⟨rfl,((Same.refl _ _).alloc _).drew⟩
def St.told(s:St)(v:aF):List Value:=
 match v.org with
 | none=>[.string v.name,.int .i64 v.xs.length,.string ⟨#[]⟩,.int .i64 0,.int .i64 0,.bool false]
 | some _=>[.string v.name,.int .i64 (s.size v),.string (s.aB v).name,.int .i64 v.xs.length,.int .i64 v.kept.length,.bool v.lost]
theorem St.pq(s:St)(v:aF):(s.told v).length=6:=by unfold St.told;split<;>rfl
theorem St.U0(s:St)(v:aF):∀u∈s.told v,u.oneCell'=true:=by
 intro u hu;unfold St.told at hu
 split at hu
 all_goals
  simp only[List.mem_cons,List.not_mem_nil,or_false]at hu;rcases hu with rfl|rfl|rfl|rfl|rfl|rfl<;>rfl
theorem Ws{s:St}{w:World}(h:ai w s){v:aF}(hv:v∈s.af) :
 Calls prog 76 #[.pointer (some ⟨v.vb,0,none⟩)] w fun e w'=>e=.returned (.agg (s.told v).toArray)/\Same [] w w':=by
 obtain⟨h1,h2,h3,h4⟩:=h.aB hv;cases ho:v.org with
 | none=>
  have e:s.told v=[.string v.name,.int .i64 v.xs.length,.string ⟨#[]⟩,.int .i64 0,.int .i64 0,.bool false]:=by unfold St.told;rw[ho]
  rw[e];exact TN v w (h.af v hv) ho
 | some b=>
  have e:s.told v=[.string v.name,.int .i64 (s.size v),.string (s.aB v).name,.int .i64 v.xs.length,.int .i64 v.kept.length,.bool v.lost]:=by unfold St.told;rw[ho]
  rw[e];exact U9 v (s.aB v) w (h.af v hv) (h.af _ h1) (h4 (by rw[ho];simp)) h2
def St.toldAll(s:St):List aF->List Value
 | []=>[]
 | v::r=>s.told v++s.toldAll r
theorem CW(s:St)(a b:List aF):s.toldAll (a++b)=s.toldAll a++s.toldAll b:=by
 induction a with
 | nil=>rfl
 | cons v r ih=>simp[St.toldAll,ih]
theorem Az(s:St)(a:List aF):(s.toldAll a).length=a.length*6:=by
 induction a with
 | nil=>rfl
 | cons v r ih=>simp[St.toldAll,ih,St.pq];omega
theorem oQ{w:World}{base:Nat}{e:TypeId}{size:Nat}{a:Option Addr}{cap n:Nat}{xs:List Value}(h:w.ownsRow base e size (.slice a n cap) n xs):n<=cap:=by
 rcases h.2 with⟨h1,rfl⟩|⟨g,cap',cur,h1,h2,h3,h4,h5⟩
 ·omega
 ·simp only[Value.slice.injEq]at h1;omega
theorem iw{w:World}{base:Nat}{e:TypeId}{size:Nat}{a:Option Addr}{cap n:Nat}{xs:List Value}(h:w.ownsRow base e size (.slice a n cap) n xs)(hn:n≠0) :
 ∃g cs,a=some ⟨g,0,none⟩/\base<=g/\At w g e cs/\cs.length=cap*size/\cs.take (n*size)=xs:=by
 rcases h.2 with⟨h1,rfl⟩|⟨g,cap',cur,h1,h2,h3,h4,h5,h6,h7⟩
 ·exact absurd rfl hn
 ·simp only[Value.slice.injEq]at h1;obtain⟨rfl,_,rfl⟩:=h1;refine⟨g,cur.toList,rfl,h2,?_,by simpa using h6,by simpa using h7⟩;unfold At;simpa using h3
theorem Tryz.info57:(prog.info? 57).map (fun i=>(i.zero,i.size,i.bytes))=some (some (.agg #[.string ⟨#[]⟩,.int .i64 0,.string ⟨#[]⟩,.int .i64 0,.int .i64 0,.bool false]),6,64):=by kernel_rfl
theorem Oh(s:St)(w:World)(h:ai w s) :
 Calls prog 36 #[.pointer (some ⟨s.pb,0,none⟩)] w fun e w'=>∃a,e=.returned (.slice a s.af.length s.af.length)/\Same [] w w' /\
  (s.af≠[]->∃g cs,a=some ⟨g,0,none⟩/\w.heap.size<=g/\At w' g 57 cs/\cs.take (s.af.length*6)=s.toldAll s.af):=by
 have hm:=qH s w h;unfold ptr at hm;obtain⟨cap,hp,_,_⟩:=h.pool;have c2:w.cell? ⟨s.pb,2,none⟩=some (.slice (s.ab.map fun b=>⟨b,0,none⟩) s.af.length cap):=hp.cell? 2;have hnot:∀(x:Bool)(w:World),(Op.unary .not (.bool x)).run prog w=.ok (.bool (!x)) w:=fun _ _=>rfl
 have hfew:=h.few;clear hp;obtain⟨i0,hi,hz0,hz1,hz2⟩:=info_parts Tryz.info57
 go_enter func36,ntmps36
 go_wp2_with (go_at_call 45;refine hm.mono ?_;rintro e w' ⟨rfl,rfl⟩)
 rename_i w0
 go_loopw [3,14] (fun v i wr=>∃k:Nat,k<=s.af.length/\i=.int .i64 k/\Same [] w' wr/\wr.ownsRow w'.heap.size 57 6 v k (s.toldAll (s.af.take k)))
  (fun _ i _=>s.af.length-(intOf i).toNat)
 case atStart=>exact⟨0,Nat.zero_le _,rfl,Same.refl _ _,World.ownsRow_nil _ _ _ _⟩
 case round=>
  obtain⟨k,hk,rfl,hS,hown⟩:=hrel;obtain⟨a,cp,rfl⟩:=ak hown;by_cases hkl:k<s.af.length
  ·obtain⟨b,hb,e1,e2⟩:=(h.new hS).cell k hkl;have hvm:s.af[k]!∈s.af:=by rw[getElem!_pos s.af k hkl];exact List.getElem_mem hkl
   have hT:=Ws (h.new hS) hvm;have hb':(s.ab.map fun b=>(⟨b,0,none⟩:Addr))=some ⟨b,0,none⟩:=by rw[hb];rfl
   have HV:Hid (s.af.take (k+1)=s.af.take k++[s.af[k]!]):=by show _=_;rw[List.take_succ_eq_append_getElem hkl,getElem!_pos s.af k hkl]
   generalize s.af[k]! = vv at *;obtain⟨y0,y1,y2,y3,y4,y5,hy,o0,o1,o2,o3,o4,o5⟩:∃y0 y1 y2 y3 y4 y5:Value,s.told vv=[y0,y1,y2,y3,y4,y5]/\y0.oneCell'=true/\y1.oneCell'=true/\y2.oneCell'=true/\y3.oneCell'=true/\y4.oneCell'=true/\y5.oneCell'=true:=by
    have ho:=s.U0 vv;unfold St.told at ho ⊢
    split
    all_goals exact⟨_,_,_,_,_,_,rfl,rfl,rfl,rfl,rfl,rfl,rfl⟩
   rw[hy]at hT;have HY:Hid (s.told vv=[y0,y1,y2,y3,y4,y5]):=hy;clear hy;rw[hb'];have l2:(k:Int)<(s.af.length:Int):=by omega
   clear h c2 hm hb'
   go_wp2_with fail
   refine hT.mono ?_;rintro e w1 ⟨rfl,S1⟩;have hown1:=dZ hown S1 (by simp);have hS1:=hS.step S1 (by simp);have hsz:=hS1.size;clear hown hS hT e1 e2
   go_wp2_with (at_builtin;refine wpList_append_own _ rfl _ _ 47 rfl w'.heap.size 57 i0 (.agg #[.string ⟨#[]⟩,.int .i64 0,.string ⟨#[]⟩,.int .i64 0,.int .i64 0,.bool false]) 6 64 underlying47 hi hz0 hz1 hz2 rfl (by decide) _ _ _ rfl (hown1.alloc _) ⟨w1.heap.size,0,none⟩ 1 1 [y0,y1,y2,y3,y4,y5] rfl rfl ?c1 ?c2 ?c3 ?c4 ?c5 ?_)
   case c1=>
    intro j u hj;rw[Addr.add_lit,Nat.zero_add,World.cell?_alloc_at _ _ _ _ rfl,<-hj];simp
   case c2=>intro u hu;simp only[List.mem_cons,List.not_mem_nil,or_false]at hu;rcases hu with rfl|rfl|rfl|rfl|rfl|rfl<;>assumption
   case c3=>unfold maxLen;omega
   case c4=>omega
   case c5=>simp;omega
   intro v' w2 hown' hgrow _;have S2:Same [] w' w2:=(hS1.alloc _).grown hgrow (fun j hj hl=>by have:=(hown1.lt j hj).1;omega);have O2:w2.ownsRow w'.heap.size 57 6 v' (k+1) (s.toldAll (s.af.take (k+1))):=by
    rw[HV.out,CW];simpa [St.toldAll,HY.out] using hown'
   clear hown' hgrow hown1 hS1 S1
   go_wp2
   go_roundw
   case rel=>exact⟨k+1,by omega,by go_num,S2,O2⟩
   case measure=>simp[intOf];omega
  ·have hkc:=oQ hown;have ek:k=s.af.length:=by omega
   subst ek;rw[List.take_length]at hown
   go_wp2
   go_ret
   refine⟨a,rfl,hS,fun hne=>?_⟩;obtain⟨g,cs,h1,h2,h3,_,h5⟩:=iw hown (by cases hv:s.af<;>simp_all);exact⟨g,cs,h1,h2,h3,h5⟩
end
section
open Go.RowKit Go.Sort
theorem swp_get(d:Array Int)(a b:Nat)(ha:a<d.size)(hb:b<d.size)(j:Nat):(swp d a b)[j]! = if j=b then d[a]! else if j=a then d[b]! else d[j]!:=by
 unfold swp;by_cases h1:j=b
 ·subst h1;rw[if_pos rfl,getElem!_set_same _ _ _ (by simpa using hb)]
 ·rw[if_neg h1,getElem!_set_other _ _ _ _ h1];by_cases h2:j=a
  ·subst h2;rw[if_pos rfl,getElem!_set_same _ _ _ ha]
  ·rw[if_neg h2,getElem!_set_other _ _ _ _ h2]
def Re(m:Nat)(d d':Array Int):Prop:=∃σ τ:Nat->Nat,∀i,i<m->σ i<m/\τ i<m/\σ (τ i)=i/\τ (σ i)=i/\d'[i]! = d[σ i]!
theorem Re.refl(m:Nat)(d:Array Int):Re m d d:=⟨id,id,fun i hi=>⟨hi,hi,rfl,rfl,rfl⟩⟩
theorem Re.trans{m:Nat}{a b c:Array Int}(h:Re m a b)(k:Re m b c):Re m a c:=by
 obtain⟨σ,τ,h⟩:=h;obtain⟨σ',τ',k⟩:=k;refine⟨fun i=>σ (σ' i),fun i=>τ' (τ i),fun i hi=>?_⟩;obtain⟨k1,k2,k3,k4,k5⟩:=k i hi;obtain⟨h1,h2,h3,h4,h5⟩:=h i hi;obtain⟨a1,a2,a3,a4,a5⟩:=h (σ' i) k1;obtain⟨b1,b2,b3,b4,b5⟩:=k (τ i) h2;exact⟨a1,b2,by show σ (σ' (τ' (τ i)))=i;rw[b3,h3],by show τ' (τ (σ (σ' i)))=i;rw[a4,k4],by rw[k5,a5]⟩
theorem Re.swp(m:Nat)(d:Array Int)(a b:Nat)(ha:a<m)(hb:b<m)(hm:m<=d.size):Re m d (swp d a b):=by
 refine⟨fun i=>if i=b then a else if i=a then b else i,fun i=>if i=b then a else if i=a then b else i,fun i hi=>?_⟩;refine⟨by dsimp only;split<;>(try split)<;>omega,by dsimp only;split<;>(try split)<;>omega,?_,?_,?_⟩
 ·dsimp only;split<;>(try split)<;>(try split)<;>(try split)<;>omega
 ·dsimp only;split<;>(try split)<;>(try split)<;>(try split)<;>omega
 ·rw[swp_get d a b (by omega) (by omega)];dsimp only
  split
  ·rfl
  ·split<;>rfl
def BB(m:Nat)(d:Array Int):Prop:=∀j,0<j->j<m->d[(j-1) / 2]!<=d[j]!
def Ik(m i:Nat)(d:Array Int):Prop:=(∀j,0<j->j<m->(j-1) / 2≠i->d[(j-1) / 2]!<=d[j]!)/\(∀j,0<j->j<m->(j-1) / 2=i->0<i->d[(i-1) / 2]!<=d[j]!)
theorem VH(m i:Nat)(d:Array Int):d[low m i d]!<=d[i]!/\(2*i+1<m->d[low m i d]!<=d[2*i+1]!)/\(2*i+2<m->d[low m i d]!<=d[2*i+2]!) /\
 (low m i d=i\/((low m i d=2*i+1\/low m i d=2*i+2)/\low m i d<m)):=by
 unfold low;by_cases h1:2*i+1<m/\d[2*i+1]!<d[i]!
 ·have e:wE m i d=2*i+1:=by unfold wE;rw[if_pos h1]
  rw[e];by_cases h2:2*i+2<m/\d[2*i+2]!<d[2*i+1]!
  ·rw[if_pos h2];omega
  ·rw[if_neg h2];omega
 ·have e:wE m i d=i:=by unfold wE;rw[if_neg h1]
  rw[e];by_cases h2:2*i+2<m/\d[2*i+2]!<d[i]!
  ·rw[if_pos h2];omega
  ·rw[if_neg h2];omega
theorem WE(m:Nat):∀(f i:Nat)(d:Array Int),m<=d.size->m-i<=f->Ik m i d->BB m (sift m f i d)/\Re m d (sift m f i d):=by
 intro f
 induction f with
 | zero=>
  intro i d hm hf hb;refine⟨fun j h1 h2=>?_,Re.refl _ _⟩;show d[(j-1) / 2]!<=d[j]!;exact hb.1 j h1 h2 (by omega)
 | succ f ih=>
  intro i d hm hf hb;obtain⟨l1,l2,l3,l4⟩:=VH m i d;simp only[sift];by_cases hl:low m i d=i
  ·rw[if_pos hl];refine⟨fun j h1 h2=>?_,Re.refl _ _⟩;by_cases hp:(j-1) / 2=i
   ·rw[hl]at l2 l3;have:j=2*i+1\/j=2*i+2:=by omega
    rcases this with rfl|rfl
    ·rw[hp];exact l2 h2
    ·rw[hp];exact l3 h2
   ·exact hb.1 j h1 h2 hp
  ·rw[if_neg hl];obtain⟨l5,l6⟩:(low m i d=2*i+1\/low m i d=2*i+2)/\low m i d<m:=by
    rcases l4 with h|h
    ·exact absurd h hl
    ·exact h
   generalize low m i d=l at *;have hG:=swp_get d l i (by omega) (by omega);have B:Ik m l (swp d l i):=by
    refine⟨fun j h1 h2 h3=>?_,fun j h1 h2 h3 h4=>?_⟩
    ·rw[hG,hG];by_cases hjl:j=l
     ·subst hjl;have e1:(j-1) / 2=i:=by omega
      rw[if_pos e1,if_neg (by omega),if_pos rfl];exact l1
     ·by_cases hji:j=i
      ·subst hji;rw[if_neg (by omega),if_neg h3,if_pos rfl];exact hb.2 l (by omega) l6 (by omega) h1
      ·rw[if_neg hji,if_neg hjl];by_cases hp:(j-1) / 2=i
       ·rw[if_pos hp];have:j=2*i+1\/j=2*i+2:=by omega
        rcases this with rfl|rfl
        ·exact l2 h2
        ·exact l3 h2
       ·rw[if_neg hp,if_neg h3];exact hb.1 j h1 h2 hp
    ·have e1:(l-1) / 2=i:=by omega
     rw[hG,hG,e1,if_pos rfl,if_neg (by omega),if_neg (by omega)];have:=hb.1 j h1 h2 (by omega);rw[h3]at this;exact this
   obtain⟨r1,r2⟩:=ih l (swp d l i) (by rw[swp_size];exact hm) (by omega) B;exact⟨r1,(Re.swp m d l i l6 (by omega) hm).trans r2⟩
def Oo(m i:Nat)(d:Array Int):Prop:=(∀j,0<j->j<m->j≠i->d[(j-1) / 2]!<=d[j]!)/\(∀j,0<j->j<m->(j-1) / 2=i->0<i->d[(i-1) / 2]!<=d[j]!)
theorem WI(m:Nat):∀(f i:Nat)(d:Array Int),m<=d.size->i<m->i<=f->Oo m i d->BB m (lift f i d)/\Re m d (lift f i d):=by
 intro f
 induction f with
 | zero=>
  intro i d hm hi hf hb;refine⟨fun j h1 h2=>?_,Re.refl _ _⟩;show d[(j-1) / 2]!<=d[j]!;exact hb.1 j h1 h2 (by omega)
 | succ f ih=>
  intro i d hm hi hf hb;simp only[lift];by_cases hl:i=0\/d[(i-1) / 2]!<=d[i]!
  ·rw[if_pos hl];refine⟨fun j h1 h2=>?_,Re.refl _ _⟩;by_cases hp:j=i
   ·subst hp;rcases hl with h|h
    ·omega
    ·exact h
   ·exact hb.1 j h1 h2 hp
  ·rw[if_neg hl];have hlt:d[i]!<d[(i-1) / 2]!:=by omega
   have hi0:0<i:=by omega
   obtain⟨u,hu⟩:∃u,(i-1) / 2=u:=⟨_,rfl⟩
   rw[hu]at hlt ⊢;have hG:=swp_get d u i (by omega) (by omega);have B:Oo m u (swp d u i):=by
    refine⟨fun j h1 h2 h3=>?_,fun j h1 h2 h3 h4=>?_⟩
    ·rw[hG,hG];by_cases hji:j=i
     ·subst hji;rw[hu,if_neg (by omega),if_pos rfl,if_pos rfl];omega
     ·rw[if_neg hji,if_neg h3];by_cases hp:(j-1) / 2=i
      ·rw[if_pos hp];have:=hb.2 j h1 h2 hp hi0;rw[hu]at this;exact this
      ·rw[if_neg hp];by_cases hp2:(j-1) / 2=u
       ·rw[if_pos hp2];have:=hb.1 j h1 h2 hji;rw[hp2]at this;omega
       ·rw[if_neg hp2];exact hb.1 j h1 h2 hji
    ·have hq:=hb.1 u h4 (by omega) (by omega);rw[hG,hG,if_neg (by omega),if_neg (by omega)];by_cases hji:j=i
     ·rw[if_pos hji];exact hq
     ·rw[if_neg hji,if_neg (by omega)];have:=hb.1 j h1 h2 hji;rw[h3]at this;omega
   obtain⟨r1,r2⟩:=ih u (swp d u i) (by rw[swp_size];exact hm) (by omega) (by omega) B;exact⟨r1,(Re.swp m d u i (by omega) hi hm).trans r2⟩
structure fU(m:Nat)(d:Array Int)(fr:List Nat):Prop where
 size:m<=d.size
 ok:BB m d
 inj:∀i j,i<m->j<m->d[i]! = d[j]!->i=j
 mem:∀i,i<m->∃x∈fr,d[i]! = (x:Int)
 hit:∀x∈fr,∃i,i<m/\d[i]! = (x:Int)
 sorted:fr.Pairwise (·<·)
 len:fr.length=m
theorem UF{m:Nat}{d:Array Int}(h:BB m d):∀i,i<m->d[0]!<=d[i]!:=by
 intro i
 induction i using Nat.strongRecOn with
 | _ i ih=>
  intro hi;by_cases h0:i=0
  ·subst h0;exact Int.le_refl _
  ·have:=h i (by omega) hi;have:=ih ((i-1) / 2) (by omega) (by omega);omega
theorem fU.re{m:Nat}{d d':Array Int}{fr:List Nat}(hs:m<=d'.size)(ho:BB m d')(hr:Re m d d')
 (inj:∀i j,i<m->j<m->d[i]! = d[j]!->i=j) (mem:∀i,i<m->∃x∈fr,d[i]! = (x:Int)) (hit:∀x∈fr,∃i,i<m/\d[i]! = (x:Int)) (sorted:fr.Pairwise (·<·)) (len:fr.length=m):fU m d' fr:=by
 obtain⟨σ,τ,h⟩:=hr;refine⟨hs,ho,fun i j hi hj e=>?_,fun i hi=>?_,fun x hx=>?_,sorted,len⟩
 ·obtain⟨a1,a2,a3,a4,a5⟩:=h i hi;obtain⟨b1,b2,b3,b4,b5⟩:=h j hj;rw[a5,b5]at e;have:=inj _ _ a1 b1 e;rw[<-a4,<-b4,this]
 ·obtain⟨a1,a2,a3,a4,a5⟩:=h i hi;rw[a5];exact mem _ a1
 ·obtain⟨i,hi,e⟩:=hit x hx;obtain⟨a1,a2,a3,a4,a5⟩:=h i hi;obtain⟨b1,b2,b3,b4,b5⟩:=h (τ i) a2;exact⟨τ i,a2,by rw[b5,a3,e]⟩
theorem fU.pop{m:Nat}{d:Array Int}{x:Nat}{fr:List Nat}(h:fU (m+1) d (x::fr)):d[0]! = (x:Int)/\fU m (Oc m d) fr:=by
 have hsz:=h.size;have hmin:=UF h.ok;have hx:d[0]! = (x:Int):=by
  obtain⟨y,hy,e⟩:=h.mem 0 (by omega);obtain⟨i,hi,e'⟩:=h.hit x (by simp);have:=hmin i hi;rcases List.mem_cons.1 hy with rfl|hy
  ·exact e
  ·have:=(List.pairwise_cons.1 h.sorted).1 y hy;omega
 refine⟨hx,?_⟩;have hg:∀j,(d.setIfInBounds 0 d[m]!)[j]! = if j=0 then d[m]! else d[j]!:=by
  intro j;by_cases hj:j=0
  ·subst hj;rw[if_pos rfl,getElem!_set_same _ _ _ (by omega)]
  ·rw[if_neg hj,getElem!_set_other _ _ _ _ hj]
 have B:Ik m 0 (d.setIfInBounds 0 d[m]!):=by
  refine⟨fun j h1 h2 h3=>?_,fun j h1 h2 h3 h4=>by omega⟩;rw[hg,hg,if_neg h3,if_neg (by omega)];exact h.ok j h1 (by omega)
 obtain⟨r1,r2⟩:=WE m m 0 (d.setIfInBounds 0 d[m]!) (by simp;omega) (by omega) B;have hl:=h.len;simp only[List.length_cons,Nat.add_right_cancel_iff]at hl;refine fU.re (by rw[yI];omega) r1 r2 (fun i j hi hj e=>?_) (fun i hi=>?_) (fun y hy=>?_) (List.pairwise_cons.1 h.sorted).2 hl
 ·rw[hg,hg]at e
  split at e<;>split at e
  ·omega
  ·have:=h.inj m j (by omega) (by omega) e;omega
  ·have:=h.inj i m (by omega) (by omega) e;omega
  ·exact h.inj i j (by omega) (by omega) e
 ·rw[hg];have key:∀k,0<k->k<m+1->∃x∈fr,d[k]! = (x:Int):=by
   intro k hk0 hk;obtain⟨y,hy,e⟩:=h.mem k hk;rcases List.mem_cons.1 hy with rfl|hy
   ·have:=h.inj 0 k (by omega) hk (by rw[hx,e]);omega
   ·exact⟨y,hy,e⟩
  split
  ·exact key m (by omega) (by omega)
  ·exact key i (by omega) (by omega)
 ·obtain⟨i,hi,e⟩:=h.hit y (by simp[hy]);have hne:i≠0:=by
   intro h0;subst h0;have:=(List.pairwise_cons.1 h.sorted).1 y hy;omega
  by_cases him:i=m
  ·subst him;exact⟨0,by omega,by rw[hg,if_pos rfl,e]⟩
  ·exact⟨i,by omega,by rw[hg,if_neg hne,e]⟩
def ins(x:Nat):List Nat->List Nat
 | []=>[x]
 | y::r=>if x<y then x::y::r else y::ins x r
theorem tY(x:Nat)(l:List Nat)(z:Nat):z∈ins x l↔z=x\/z∈l:=by
 induction l with
 | nil=>simp[ins]
 | cons y r ih=>
  simp only[ins]
  split
  ·simp
  ·simp only[List.mem_cons,ih]
   constructor
   ·rintro (h|h|h)
    ·exact Or.inr (Or.inl h)
    ·exact Or.inl h
    ·exact Or.inr (Or.inr h)
   ·rintro (h|h|h)
    ·exact Or.inr (Or.inl h)
    ·exact Or.inl h
    ·exact Or.inr (Or.inr h)
theorem CP(x:Nat)(l:List Nat):(ins x l).length=l.length+1:=by
 induction l with
 | nil=>rfl
 | cons y r ih=>simp only[ins];split<;>simp[ih]
theorem MK(x:Nat)(l:List Nat)(h:l.Pairwise (·<·))(hx:x∉l):(ins x l).Pairwise (·<·):=by
 induction l with
 | nil=>simp[ins]
 | cons y r ih=>
  obtain⟨h1,h2⟩:=List.pairwise_cons.1 h;simp only[List.mem_cons,not_or]at hx;simp only[ins]
  split
  ·refine List.pairwise_cons.2 ⟨fun z hz=>?_,h⟩;rcases List.mem_cons.1 hz with rfl|hz
   ·assumption
   ·have:=h1 z hz;omega
  ·refine List.pairwise_cons.2 ⟨fun z hz=>?_,ih h2 hx.2⟩;rcases (tY x r z).1 hz with rfl|hz
   ·omega
   ·exact h1 z hz
theorem fU.push {m : Nat} {d : Array Int} {fr : List Nat} (h : fU m d fr) (x : Nat) (hx : x ∉ fr) (hm : m < d.size) : fU (m + 1) (BR m x d) (ins x fr) := by
  have hg : ∀ j, (d.setIfInBounds m (x : Int))[j]! = if j = m then (x : Int) else d[j]! := by
    intro j
    by_cases hj : j = m
    · subst hj; rw [if_pos rfl, getElem!_set_same _ _ _ hm]
    · rw [if_neg hj, getElem!_set_other _ _ _ _ hj]
  have B : Oo (m + 1) m (d.setIfInBounds m (x : Int)) := by
    refine ⟨fun j h1 h2 h3 => ?_, fun j h1 h2 h3 h4 => by omega⟩
    rw [hg, hg, if_neg (by omega), if_neg h3]
    exact h.ok j h1 (by omega)
  obtain ⟨r1, r2⟩ := WI (m + 1) m m (d.setIfInBounds m (x : Int)) (by simp; omega) (by omega) (by omega) B
  refine fU.re (by simp [xR, BR]; omega) r1 r2 (fun i j hi hj e => ?_) (fun i hi => ?_) (fun y hy => ?_) (MK x fr h.sorted hx) (by rw [CP, h.len])
  · rw [hg, hg] at e
    split at e <;> split at e
    · omega
    · obtain ⟨y, hy, e'⟩ := h.mem j (by omega)
      rw [e'] at e
      exact absurd (by have : x = y := by omega
                       rw [this]; exact hy) hx
    · obtain ⟨y, hy, e'⟩ := h.mem i (by omega)
      rw [e'] at e
      exact absurd (by have : x = y := by omega
                       rw [this]; exact hy) hx
    · exact h.inj i j (by omega) (by omega) e
  · rw [hg]
    split
    · exact ⟨x, (tY x fr x).2 (Or.inl rfl), rfl⟩
    · obtain ⟨y, hy, e⟩ := h.mem i (by omega)
      exact ⟨y, (tY x fr y).2 (Or.inr hy), e⟩
  · rcases (tY x fr y).1 hy with rfl | hy
    · exact ⟨m, by omega, by rw [hg, if_pos rfl]⟩
    · obtain ⟨i, hi, e⟩ := h.hit y hy
      exact ⟨i, by omega, by rw [hg, if_neg (by omega), e]⟩
theorem fU.pops{m:Nat}{d:Array Int}{fr:List Nat}(h:fU m d fr):∀k,k<=m->qV m k d=(fr.take k).map (fun x:Nat=>(x:Int))/\fU (m-k) (eY m k d) (fr.drop k):=by
 intro k
 induction k with
 | zero=>intro _;exact⟨rfl,h⟩
 | succ k ih=>
  intro hk;obtain⟨e1,h1⟩:=ih (by omega);have hl:=h.len;obtain⟨x,r,hd⟩:∃x r,fr.drop k=x::r:=by
   cases hdr:fr.drop k with
   | nil=>have:=congrArg List.length hdr;simp at this;omega
   | cons x r=>exact⟨x,r,rfl⟩
  rw[hd]at h1;have hm1:m-k=(m-k-1)+1:=by omega
  rw[hm1]at h1;obtain⟨p1,p2⟩:=h1.pop;have et:fr.take (k+1)=fr.take k++[x]:=by
   have hkl:k<fr.length:=by omega
   have hx:fr[k]=x:=by
    have:=List.drop_eq_getElem_cons hkl;rw[hd]at this;exact(List.cons.inj this).1.symm
   rw[List.take_succ_eq_append_getElem hkl,hx]
  refine⟨by rw[qV,e1,et,p1];simp,?_⟩;have er:fr.drop (k+1)=r:=by
   rw[<-List.drop_drop,hd];rfl
  rw[er,show m-(k+1)=m-k-1 by omega];exact p2
def fZ:List Nat->List Nat->List Nat
 | [],l=>l
 | x::r,l=>fZ r (ins x l)
theorem qB(xs:List Nat):∀(l:List Nat)(z:Nat),z∈fZ xs l↔z∈xs\/z∈l:=by
 induction xs with
 | nil=>intro l z;simp[fZ]
 | cons x r ih=>
  intro l z;simp only[fZ,ih,tY,List.mem_cons]
  constructor
  ·rintro (h|h|h)
   ·exact Or.inl (Or.inr h)
   ·exact Or.inl (Or.inl h)
   ·exact Or.inr h
  ·rintro ((h|h)|h)
   ·exact Or.inr (Or.inl h)
   ·exact Or.inl h
   ·exact Or.inr (Or.inr h)
theorem uF(xs:List Nat):∀(l:List Nat),(fZ xs l).length=xs.length+l.length:=by
 induction xs with
 | nil=>intro l;simp[fZ]
 | cons x r ih=>intro l;simp only[fZ,ih,CP,List.length_cons];omega
theorem fU.gives(xs:List Nat):∀{m:Nat} {d:Array Int} {fr:List Nat},fU m d fr->xs.Nodup->(∀x∈xs,x∉fr)->m+xs.length<=d.size->fU (m+xs.length) (fP m xs d) (fZ xs fr):=by
 induction xs with
 | nil=>intro m d fr h _ _ _;exact h
 | cons x r ih=>
  intro m d fr h hn hx hs;obtain⟨hn1,hn2⟩:=List.nodup_cons.1 hn;have h1:=h.push x (hx x (by simp)) (by simp at hs;omega);have:=ih h1 hn2 (fun z hz=>by
   rw[tY];rintro (e|e)
   ·exact hn1 (e▸hz)
   ·exact hx z (by simp[hz]) e) (by rw[Bc];simp at hs;omega)
  simp only[fP,fZ,List.length_cons];rw[show m+(r.length+1)=m+1+r.length by omega];exact this
theorem uT:∀(a b:List Nat),a.Pairwise (·<·)->b.Pairwise (·<·)->(∀z,z∈a↔z∈b)->a=b
 | [],[],_,_,_=>rfl
 | [],y::b,_,_,h=>by have:=(h y).2 (by simp);simp at this
 | x::a,[],_,_,h=>by have:=(h x).1 (by simp);simp at this
 | x::a,y::b,ha,hb,h=>by
  obtain⟨a1,a2⟩:=List.pairwise_cons.1 ha;obtain⟨b1,b2⟩:=List.pairwise_cons.1 hb;have e:x=y:=by
   rcases List.mem_cons.1 ((h x).1 (by simp)) with e|e
   ·exact e
   ·rcases List.mem_cons.1 ((h y).2 (by simp)) with e'|e'
    ·exact e'.symm
    ·have:=a1 y e';have:=b1 x e;omega
  subst e
  congr 1
  refine uT a b a2 b2 fun z=>⟨fun hz=>?_,fun hz=>?_⟩
  ·rcases List.mem_cons.1 ((h z).1 (by simp[hz])) with e|e
   ·have:=a1 z hz;omega
   ·exact e
  ·rcases List.mem_cons.1 ((h z).2 (by simp[hz])) with e|e
   ·have:=b1 z hz;omega
   ·exact e
end
section
open Go.RowKit Go.Sort
variable [DecidableEq aN] [Inhabited aN] [Inhabited aF]
theorem jU{P:Program}(w:World){ops:Array Oper}{rest:List Oper}{o:Oper}{a:Act}{Q:Exit->Act->World->Prop}
 (hg:o.guard=none) (s x:Operand) (t:TypeId) (hop:o.op=Op.call { callee:=Callee.builtin Builtin.append,args:=#[s,x],argTypes:=#[t,t] })
 (base:Nat) (e:TypeId) (i:TypeInfo) (size:Nat) (h1:P.underlying t=some (.slice e)) (h2:P.info? e=some i)
 (v:Value) (n:Nat) (xs:List Value) (hs:a.eval s=v) (hown:w.ownsRow base e size v n xs) (hx:a.eval x=.slice none 0 0)
 (hK:wpList P ops Q rest (a.put o.dst v) w):wpList P ops Q (o::rest) a w:=by
 refine wpList_plain hg fun K hK'=>?_
 have hrun:=run_append_owned_none (P:=P) w base t o.type e i size h1 h2 v n xs hown;unfold Oper.wp;simp[execOp,hop,resolve,invoke,builtin,hs,hx,hrun,Result.andThen];exact hK' _ _ hK
theorem Tryz.info59:(prog.info? 110).map (fun i=>(i.zero,i.size,i.bytes))=some (some (.pointer none),1,8):=by kernel_rfl
theorem KX(vs:List aF):∀u∈vs.map (fun v=>ptr v.vb),u.oneCell'=true:=by
 intro u hu;obtain⟨x,_,rfl⟩:=List.mem_map.1 hu;rfl
structure JD(w w':World)(s:St)(ps:List Value):Prop where
 ex:∃g cap cs,w.heap.size<=g/\At w' s.pb 87 [ptr s.pb,ptr s.db,.slice (some ⟨g,0,none⟩) ps.length cap]/\ps.length<=cap/\At w' g 110 cs/\cs.take ps.length=ps/\ps.length<=cs.length
 same:Same [s.pb] w w'
theorem xw(s:St)(w w1:World)(ps:List Value)(a:Option Addr)(cap base:Nat)(v0:Value)(P1:At w1 s.pb 87 [ptr s.pb,ptr s.db,v0])(S1:Same [s.pb] w w1)
 (hown:w1.ownsRow base 110 1 (.slice a ps.length cap) ps.length ps) (hne:ps.length≠0) (hb:w.heap.size<=base):JD w (w1.setCell ⟨s.pb,2,none⟩ (.slice a ps.length cap)) s ps:=by
 obtain⟨g,cs,rfl,hg,hA,hcl,ht⟩:=iw hown hne;have hle:=oQ hown;have hlt:s.pb<w.heap.size\/w.heap.size<=s.pb:=by omega
 have hgp:g≠s.pb:=by
  intro e;subst e;obtain⟨_,e2⟩:=P1.inj hA;have:(cs.take (ps.length*1)).length=ps.length:=by rw[ht]
  rw[<-e2]at ht hcl;cases ps with
  | nil=>exact hne rfl
  | cons p r=>
   have e3:=P1.inj hA;simp at e3
 refine⟨⟨g,cap,cs,by omega,P1.ax 2 _,hle,hA.aP s.pb 2 _ hgp,by simpa using ht,by omega⟩,S1.set s.pb 2 _ (by simp)⟩
theorem insert_nil(s:St)(vb:Nat)(w:World)(h:ai w s)(hab:s.ab=none) :
 Calls prog 118 #[.pointer (some ⟨s.pb,0,none⟩),.int .i64 0,.pointer (some ⟨vb,0,none⟩)] w fun e w'=>e=.returned (.tuple #[])/\JD w w' s [ptr vb]:=by
 have hv0:=h.wF hab;obtain⟨cap,hp,hl,hc⟩:=h.pool;rw[hab,hv0]at hp;have ec:=hc hab;subst ec;have c2:w.cell? ⟨s.pb,2,none⟩=some (.slice none 0 0):=hp.cell? 2;have lp:=hp.lt;obtain⟨i0,hi,hz0,hz1,hz2⟩:=info_parts Tryz.info59;clear h hc hl
 go_enter func118,ntmps118
 go_wp2_with (at_builtin;refine wpList_append_own _ rfl (.tmp 13) (.tmp 15) 85 rfl w.heap.size 110 i0 (.pointer none) 1 8 underlying85 hi hz0 hz1 hz2 rfl (by decide) _ _ _ rfl (World.ownsRow_nil _ _ _ _) ⟨w.heap.size,0,none⟩ 1 1 [ptr vb] rfl rfl ?c1 ?c2 ?c3 ?c4 ?c5 ?_)
 case c1=>
  intro j u hj
  match j,hj with
  | 0,hj=>simp at hj;subst hj;simp[Addr.add,ptr]
 case c2=>intro u hu;simp at hu;subst hu;rfl
 case c3=>unfold maxLen;omega
 case c4=>omega
 case c5=>simp
 intro v' w1 hown hgrow _;have P1:At w1 s.pb _ _:=(hp.alloc _).of_heap (hgrow.block s.pb (hp.alloc _).lt (by simp[Value.ownBlock]));have S1:Same [s.pb] w w1:=((Same.refl _ _).alloc _).grown hgrow (by simp[Value.ownBlock]);have d2:w1.cell? ⟨s.pb,2,none⟩=some (.slice none 0 0):=P1.cell? 2;have f2:w1.frozen? ⟨s.pb,2,none⟩=false:=P1.frozen 2;obtain⟨a',cap',rfl⟩:=ak hown;have hA:=xw s w w1 [ptr vb] a' cap' _ _ P1 S1 (by simpa using hown) (by simp) (Nat.le_refl _);clear hgrow c2 hp
 go_wp2_with (at_builtin;refine jU _ rfl (.tmp 18) (.tmp 24) 85 rfl w.heap.size 110 i0 1 underlying85 hi _ _ _ rfl hown rfl ?_)
 refine bodyPost_end (results_none rfl _ _ _) rfl ⟨rfl,hA⟩
theorem JE(s:St)(vb b i:Nat)(w:World)(h:ai w s)(hab:s.ab=some b)(hil:i<=s.af.length) :
 Calls prog 118 #[.pointer (some ⟨s.pb,0,none⟩),.int .i64 i,.pointer (some ⟨vb,0,none⟩)] w fun e w'=>e=.returned (.tuple #[])/\JD w w' s ((s.af.take i).map (fun v=>ptr v.vb)++[ptr vb]++(s.af.drop i).map (fun v=>ptr v.vb)):=by
 obtain⟨cap,hp,hl,hc⟩:=h.pool;rw[hab]at hp;obtain⟨cs,hB,hcs,hcl⟩:=h.arr b hab;have c2:w.cell? ⟨s.pb,2,none⟩=some (.slice (some ⟨b,0,none⟩) s.af.length cap):=hp.cell? 2;have lp:=hp.lt;have lbb:=hB.lt;have hfew:=h.few;obtain⟨i0,hi,hz0,hz1,hz2⟩:=info_parts Tryz.info59;clear hc
 go_enter func118,ntmps118
 go_wp2_with (at_builtin;refine wpList_append_grows _ rfl (.tmp 13) (.tmp 15) 85 rfl 110 i0 (.pointer none) 1 8 underlying85 hi hz0 hz1 hz2 rfl (by decide) (some ⟨b,0,none⟩) i i ((s.af.take i).map (fun v=>ptr v.vb)) rfl (by intro h;cases h) ?lo ?olds ⟨w.heap.size,0,none⟩ 1 1 [ptr vb] rfl rfl ?c1 ?c2 ?full ?c3 ?c4 ?_)
 case lo=>simp;omega
 case olds=>
  intro b1 hb1 j u hj;simp only[Option.some.injEq]at hb1;subst hb1;have hj2:j<i:=by
   rcases Nat.lt_or_ge j i with h'|h'
   ·exact h'
   ·rw[List.getElem?_eq_none (by simp;omega)]at hj;cases hj
  rw[Addr.add_lit,Nat.zero_add,(hB.alloc _).cell?];have e1:(cs.take s.af.length)[j]? = cs[j]?:=by rw[List.getElem?_take,if_pos (by omega)]
  rw[<-e1,hcs,<-hj,List.map_take,List.getElem?_take,if_pos hj2]
 case c1=>
  intro j u hj
  match j,hj with
  | 0,hj=>simp at hj;subst hj;simp[Addr.add,ptr]
 case c2=>intro u hu;simp at hu;subst hu;rfl
 case full=>omega
 case c3=>unfold maxLen;omega
 case c4=>omega
 intro v' w1 hown hgrow;have P1:At w1 s.pb _ _:=(hp.alloc _).of_heap (hgrow.block s.pb (hp.alloc _).lt (by simp));have B1:At w1 b _ _:=(hB.alloc _).of_heap (hgrow.block b (hB.alloc _).lt (by simp));have S1:Same [s.pb] w w1:=((Same.refl _ _).alloc _).grown hgrow (by simp);have d2:w1.cell? ⟨s.pb,2,none⟩=some (.slice (some ⟨b,0,none⟩) s.af.length cap):=P1.cell? 2;obtain⟨a',cap',rfl⟩:=ak hown;have hsz1:=P1.lt;have hsz2:=hgrow.size;simp at hsz2;clear hgrow c2;by_cases hlt:i<s.af.length
 ·have l1:(i:Int)<(s.af.length:Int):=by omega
  go_wp2_with (at_builtin;refine wpList_append_own _ rfl (.tmp 18) (.tmp 24) 85 rfl (w.heap.size+1) 110 i0 (.pointer none) 1 8 underlying85 hi hz0 hz1 hz2 rfl (by decide) _ _ _ rfl hown ⟨b,i,none⟩ (s.af.length-i) (cap-i) ((s.af.drop i).map (fun v=>ptr v.vb)) rfl ?n1 ?c1 ?c2 ?c3 ?c4 ?c5 ?_)
  case n1=>simp
  case c1=>
   intro j u hj;have hj2:i+j<s.af.length:=by
    rcases Nat.lt_or_ge (i+j) s.af.length with h'|h'
    ·exact h'
    ·rw[List.getElem?_eq_none (by simp;omega)]at hj;cases hj
   rw[Addr.add_lit,B1.cell?];have e1:(cs.take s.af.length)[i+j]? = cs[i+j]?:=by rw[List.getElem?_take,if_pos (by omega)]
   rw[<-e1,hcs,<-hj,List.map_drop,List.getElem?_drop]
  case c2=>exact KX _
  case c3=>unfold maxLen;omega
  case c4=>omega
  case c5=>omega
  intro v'' w2 hown2 hgrow2 _;have hr:=aI hown;have P2:At w2 s.pb _ _:=P1.of_heap (hgrow2.block s.pb hsz1 (fun e=>by have:=hr s.pb e.symm;omega));have S2:Same [s.pb] w w2:=S1.grown hgrow2 (fun j hj hl=>by have:=hr j hj;omega);have f2:w2.frozen? ⟨s.pb,2,none⟩=false:=P2.frozen 2;have e2:w2.cell? ⟨s.pb,2,none⟩=some (.slice (some ⟨b,0,none⟩) s.af.length cap):=P2.cell? 2;have hl2:((s.af.take i).map (fun v=>ptr v.vb)++[ptr vb]++(s.af.drop i).map (fun v=>ptr v.vb)).length=i+1+(s.af.length-i):=by simp;omega
  have hown3:w2.ownsRow (w.heap.size+1) 110 1 v'' (i+1+(s.af.length-i)) ((s.af.take i).map (fun v=>ptr v.vb)++[ptr vb]++(s.af.drop i).map (fun v=>ptr v.vb)):=by
   simpa [List.map_take,List.map_drop] using hown2
  obtain⟨a2,cap2,rfl⟩:=ak hown3;rw[<-hl2]at hown3;have hA:=xw s w w2 _ a2 cap2 _ _ P2 S2 hown3 (by rw[hl2];omega) (by omega);rw[hl2]at hA;clear hown hown2 hown3 hgrow2 P1 B1 S1 d2 P2 S2 hr hcs hB h
  go_wp2
  refine bodyPost_end (results_none rfl _ _ _) rfl ⟨rfl,hA⟩
 ·have e:i=s.af.length:=by omega
  subst e;obtain⟨g',cs',rfl,_,_,_,_⟩:=iw hown (by omega);by_cases hc0:cap=s.af.length
  ·subst hc0
   go_wp2_with (at_builtin;refine wpList_append_own _ rfl (.tmp 18) (.tmp 24) 85 rfl (w.heap.size+1) 110 i0 (.pointer none) 1 8 underlying85 hi hz0 hz1 hz2 rfl (by decide) _ _ _ rfl hown ⟨b,0,none⟩ 0 0 [] rfl ?n1 ?c1 ?c2 ?c3 ?c4 ?c5 ?_)
   case n1=>simp
   case c1=>intro j u hj;simp at hj
   case c2=>intro u hu;simp at hu
   case c3=>unfold maxLen;omega
   case c4=>omega
   case c5=>omega
   intro v'' w2 hown2 hgrow2 _;have hr:=aI hown;have P2:At w2 s.pb _ _:=P1.of_heap (hgrow2.block s.pb hsz1 (fun e=>by have:=hr s.pb e.symm;omega));have S2:Same [s.pb] w w2:=S1.grown hgrow2 (fun j hj hl=>by have:=hr j hj;omega);have f2:w2.frozen? ⟨s.pb,2,none⟩=false:=P2.frozen 2;have e2:w2.cell? ⟨s.pb,2,none⟩=some (.slice (some ⟨b,0,none⟩) s.af.length s.af.length):=P2.cell? 2;have hl2:((s.af.take s.af.length).map (fun v=>ptr v.vb)++[ptr vb]++(s.af.drop s.af.length).map (fun v=>ptr v.vb)).length=s.af.length+1:=by simp
   have hown3:w2.ownsRow (w.heap.size+1) 110 1 v'' (s.af.length+1) ((s.af.take s.af.length).map (fun v=>ptr v.vb)++[ptr vb]++(s.af.drop s.af.length).map (fun v=>ptr v.vb)):=by
    rw[<-List.map_take,List.take_length]at hown2;simpa using hown2
   obtain⟨a2,cap2,rfl⟩:=ak hown3;rw[<-hl2]at hown3;have hA:=xw s w w2 _ a2 cap2 _ _ P2 S2 hown3 (by rw[hl2];omega) (by omega);rw[hl2]at hA;clear hown hown2 hown3 hgrow2 P1 B1 S1 d2 P2 S2 hr hcs hB h
   go_wp2
   refine bodyPost_end (results_none rfl _ _ _) rfl ⟨rfl,hA⟩
  ·have hc1:s.af.length<cap:=by omega
   go_wp2_with (at_builtin;refine wpList_append_own _ rfl (.tmp 18) (.tmp 24) 85 rfl (w.heap.size+1) 110 i0 (.pointer none) 1 8 underlying85 hi hz0 hz1 hz2 rfl (by decide) _ _ _ rfl hown ⟨b,s.af.length,none⟩ 0 (cap-s.af.length) [] rfl ?n1 ?c1 ?c2 ?c3 ?c4 ?c5 ?_)
   case n1=>simp
   case c1=>intro j u hj;simp at hj
   case c2=>intro u hu;simp at hu
   case c3=>unfold maxLen;omega
   case c4=>omega
   case c5=>omega
   intro v'' w2 hown2 hgrow2 _;have hr:=aI hown;have P2:At w2 s.pb _ _:=P1.of_heap (hgrow2.block s.pb hsz1 (fun e=>by have:=hr s.pb e.symm;omega));have S2:Same [s.pb] w w2:=S1.grown hgrow2 (fun j hj hl=>by have:=hr j hj;omega);have f2:w2.frozen? ⟨s.pb,2,none⟩=false:=P2.frozen 2;have e2:w2.cell? ⟨s.pb,2,none⟩=some (.slice (some ⟨b,0,none⟩) s.af.length cap):=P2.cell? 2;have hl2:((s.af.take s.af.length).map (fun v=>ptr v.vb)++[ptr vb]++(s.af.drop s.af.length).map (fun v=>ptr v.vb)).length=s.af.length+1:=by simp
   have hown3:w2.ownsRow (w.heap.size+1) 110 1 v'' (s.af.length+1) ((s.af.take s.af.length).map (fun v=>ptr v.vb)++[ptr vb]++(s.af.drop s.af.length).map (fun v=>ptr v.vb)):=by
    rw[<-List.map_take,List.take_length]at hown2;simpa using hown2
   obtain⟨a2,cap2,rfl⟩:=ak hown3;rw[<-hl2]at hown3;have hA:=xw s w w2 _ a2 cap2 _ _ P2 S2 hown3 (by rw[hl2];omega) (by omega);rw[hl2]at hA;clear hown hown2 hown3 hgrow2 P1 B1 S1 d2 P2 S2 hr hcs hB h
   go_wp2
   refine bodyPost_end (results_none rfl _ _ _) rfl ⟨rfl,hA⟩
theorem countP_split{α:Type}(p:α->Bool):∀(l:List α),l.Pairwise (fun a b=>p b=true->p a=true)->(∀x∈l.take (l.countP p),p x=true)/\(∀x∈l.drop (l.countP p),p x=false)
 | [],_=>by simp
 | a::r,h=>by
  obtain⟨h1,h2⟩:=List.pairwise_cons.1 h;obtain⟨i1,i2⟩:=countP_split p r h2;cases ha:p a with
  | true=>
   rw[List.countP_cons_of_pos ha];simp only[List.take_succ_cons,List.drop_succ_cons,List.mem_cons];exact⟨fun x hx=>by
    rcases hx with rfl|hx
    ·exact ha
    ·exact i1 x hx,i2⟩
  | false=>
   have hr:∀x∈r,p x=false:=fun x hx=>by
    cases hx':p x with
    | false=>rfl
    | true=>have:=h1 x hx hx';rw[ha]at this;cases this
   have e:(a::r).countP p=0:=by
    rw[List.countP_eq_zero];intro x hx;rcases List.mem_cons.1 hx with rfl|hx
    ·simp[ha]
    ·simp[hr x hx]
   rw[e];simp only[List.take_zero,List.drop_zero,List.mem_cons];exact⟨fun x hx=>by simp at hx,fun x hx=>by
    rcases hx with rfl|hx
    ·exact ha
    ·exact hr x hx⟩
theorem JB:∀(a b:List UInt8),Lib.compareBytes b a=- Lib.compareBytes a b
 | [],[]=>rfl
 | [],_::_=>rfl
 | _::_,[]=>rfl
 | x::a,y::b=>by
  have ih:=JB a b;unfold Lib.compareBytes;by_cases hxy:x<y
  ·have:¬y<x:=fun h=>UInt8.lt_irrefl _ (UInt8.lt_trans hxy h)
   rw[if_pos hxy,if_neg this,if_pos hxy];rfl
  ·by_cases hyx:y<x
   ·rw[if_pos hyx,if_neg hxy,if_pos hyx]
   ·rw[if_neg hyx,if_neg hxy,if_neg hxy,if_neg hyx,ih]
theorem CQ(a b:ByteArray):bW b a=- bW a b:=JB _ _
theorem nH(a:ByteArray):bW a a=0:=(qm a a).2 rfl
theorem vN{ns:List ByteArray}(t:ByteArray)(h:ns.Pairwise fun a b=>bW a b<0):ns.Pairwise fun a b=>decide (bW b t<0)=true->decide (bW a t<0)=true:=
 h.imp fun {a b} hab hb=>by simp at hb ⊢;exact uU a b t hab hb
theorem AB{ns:List ByteArray}(h:ns.Pairwise fun a b=>bW a b<0)(t:ByteArray):isIn ns t=true↔t∈ns:=by
 obtain⟨s1,s2⟩:=countP_split (fun n=>decide (bW n t<0)) ns (vN t h);have hp:ns.countP (fun n=>decide (bW n t<0))=posOf ns t:=rfl;rw[hp]at s1 s2;unfold isIn;simp only[Bool.and_eq_true,decide_eq_true_eq]
 constructor
 ·rintro ⟨hl,he⟩;rw[getElem!_pos ns _ hl]at he;rw[<-(qm _ _).1 he];exact List.getElem_mem hl
 ·intro ht;have hd:t∈ns.drop (posOf ns t):=by
   have:=List.take_append_drop (posOf ns t) ns;rw[<-this]at ht;rcases List.mem_append.1 ht with ht|ht
   ·have:=s1 t ht;rw[nH]at this;simp at this
   ·exact ht
  have hl:posOf ns t<ns.length:=by
   have:=List.length_pos_of_mem hd;simp at this;omega
  refine⟨hl,?_⟩;rw[getElem!_pos ns _ hl];rw[List.drop_eq_getElem_cons hl]at hd;rcases List.mem_cons.1 hd with e|hd
  ·rw[<-e];exact nH t
  ·have hpw:(ns.drop (posOf ns t)).Pairwise fun a b=>bW a b<0:=h.sublist (List.drop_sublist _ _)
   rw[List.drop_eq_getElem_cons hl]at hpw;have h1:=(List.pairwise_cons.1 hpw).1 t hd;have h2:=s2 (ns[posOf ns t]) (by rw[List.drop_eq_getElem_cons hl];exact List.mem_cons_self);simp at h2;omega
def dS(i:Nat)(v:aF)(l:List aF):List aF:=l.take i++v::l.drop i
theorem D7(s:List aF)(v:aF)(h:s.Pairwise fun a b=>bW a.name b.name<0)(hn:isIn (s.map (·.name)) v.name=false):(dS (posOf (s.map (·.name)) v.name) v s).Pairwise fun a b=>bW a.name b.name<0:=by
 have hpn:(s.map (·.name)).Pairwise fun a b=>bW a b<0:=by rw[List.pairwise_map];exact h
 obtain⟨s1,s2⟩:=countP_split (fun n=>decide (bW n v.name<0)) (s.map (·.name)) (vN v.name hpn);have hp:(s.map (·.name)).countP (fun n=>decide (bW n v.name<0))=posOf (s.map (·.name)) v.name:=rfl;rw[hp]at s1 s2;have hni:v.name∉s.map (·.name):=fun hm=>by rw[(AB hpn v.name).2 hm]at hn;cases hn
 generalize posOf (s.map (·.name)) v.name=i at *;have t1:∀x∈s.take i,bW x.name v.name<0:=fun x hx=>by
  have:=s1 x.name (by rw[<-List.map_take];exact List.mem_map_of_mem hx);simpa using this
 have t2:∀x∈s.drop i,bW v.name x.name<0:=fun x hx=>by
  have h1:=s2 x.name (by rw[<-List.map_drop];exact List.mem_map_of_mem hx);have h2:bW x.name v.name≠0:=fun e=>hni (by
   rw[<-(qm _ _).1 e];exact List.mem_map_of_mem (List.mem_of_mem_drop hx))
  simp at h1;rw[CQ x.name v.name];omega
 unfold dS;have hw:=h;rw[<-List.take_append_drop i s,List.pairwise_append]at hw;obtain⟨a1,a2,a3⟩:=hw;rw[List.pairwise_append];refine⟨a1,List.pairwise_cons.2 ⟨t2,a2⟩,fun a ha b hb=>?_⟩;rcases List.mem_cons.1 hb with rfl|hb
 ·exact t1 a ha
 ·exact a3 a ha b hb
def CO(l:List aF):Prop:=∀v∈l,v.kept.Nodup/\(v.lost=true->v.kept=[])/\∀u∈l,v.org=some u.vb->(∀k∈v.kept,k<u.xs.length)/\v.xs.length<=u.xs.length
structure Good(s:St)(fr:List Nat):Prop where
 heap:fU s.m s.d fr
 parts:(fr++s.af.flatMap (·.xs)).Perm (List.range s.n)
 zero:∀x∈fr,s.bl[x]! = aN.zero
 names:∀v∈s.af,nameB v.name=true
 dN:CO s.af
structure After(w:World)(s:St)(w':World)(s':St)(fr':List Nat):Prop where
 pool:ai w' s'
 good:Good s' fr'
 same:Same s.foot w w'
 foot:∀k∈s'.foot,k∈s.foot\/w.heap.size<=k
 pb:s'.pb=s.pb
 n:s'.n=s.n
theorem Good.lt{s:St}{fr:List Nat}(h:Good s fr):(∀x∈fr,x<s.n)/\(∀v∈s.af,∀x∈v.xs,x<s.n):=by
 refine⟨fun x hx=>?_,fun v hv x hx=>?_⟩
 ·exact List.mem_range.1 (h.parts.mem_iff.1 (List.mem_append_left _ hx))
 ·exact List.mem_range.1 (h.parts.mem_iff.1 (List.mem_append_right _ (List.mem_flatMap.2 ⟨v,hv,hx⟩)))
theorem Good.nodup{s:St}{fr:List Nat}(h:Good s fr):(fr++s.af.flatMap (·.xs)).Nodup:=h.parts.nodup_iff.2 List.nodup_range
theorem aK{xs:List Nat}{k:Nat}(h:k<xs.length):xs[k]!∈xs:=by rw[getElem!_pos xs k h];exact List.getElem_mem h
theorem Oi{w:World}{s:St}(h:ai w s){v:aF}(hv:v∈s.af){k:Nat}(hk:k<s.size v):∃u∈s.af,s.holder v k∈u.xs:=by
 unfold St.holder
 split
 ·rename_i hm
  exact⟨v,hv,aK (Nat.lt_of_lt_of_le (jB hm) (h.af v hv).room)⟩
 ·exact⟨s.aB v,(h.aB hv).1,aK hk⟩
theorem iC{w:World}{s:St}(h:ai w s){fr:List Nat}(hG:Good s fr){v:aF}(hv:v∈s.af){k:Nat}(hk:k<s.size v):s.holder v k<s.n:=by
 obtain⟨u,hu,hm⟩:=Oi h hv hk;exact hG.lt.2 u hu _ hm
theorem vG(xs:List Nat):∀(bl:List aN),(∀x∈xs,x<bl.length/\bl[x]! = aN.zero)->bM xs bl=bl:=by
 induction xs with
 | nil=>intro bl _;rfl
 | cons x r ih=>
  intro bl h;obtain⟨hl,hx⟩:=h x (by simp);have e:bl.set x aN.zero=bl:=by
   rw[<-hx,getElem!_pos bl x hl];simp
  have e2:bM (x::r) bl=bM r (bl.set x aN.zero):=rfl;rw[e2,e];exact ih bl fun y hy=>h y (by simp[hy])
theorem lT(i:Nat)(v:aF)(l:List aF):(dS i v l).Perm (v::l):=by
 unfold dS;have:=List.perm_middle (a:=v) (l₁:=l.take i) (l₂:=l.drop i);rw[List.take_append_drop]at this;exact this
theorem fC{i:Nat}{v:aF}{l:List aF}{u:aF}:u∈dS i v l↔u=v\/u∈l:=by
 rw[(lT i v l).mem_iff,List.mem_cons]
theorem Pg(i:Nat)(v:aF)(l:List aF):((dS i v l).flatMap aF.foot).Perm (v.foot++l.flatMap aF.foot):=by
 have:=(lT i v l).flatMap_right aF.foot
 rwa [List.flatMap_cons]at this
theorem Eh(a b c d:Nat)(o:Option Nat)(x y:List Nat):(a::b::c::d::(o.toList++(x++y))).Perm (x++(a::b::c::d::(o.toList++y))):=by
 have h1:(o.toList++(x++y)).Perm (x++(o.toList++y)):=by
  rw[<-List.append_assoc,<-List.append_assoc];exact(List.perm_append_comm).append_right y
 have h2:(a::b::c::d::(x++(o.toList++y))).Perm (x++(a::b::c::d::(o.toList++y))):=by
  have:=List.perm_append_comm (l₁:=[a,b,c,d]) (l₂:=x);have:=this.append_right (o.toList++y);simpa using this
 exact(((((h1.cons d).cons c).cons b).cons a)).trans h2
theorem GL{w w':World}{s:St}(h:ai w s)(v:aF)(hv:dG w v)(h1:∀k∈v.foot,k∉s.foot)(hfew:s.af.length<20)(hn:isIn s.names v.name=false)
 (hvo:∀o,v.org=some o->∃u∈s.af,u.vb=o/\u.org=none)
 (hA:JD w w' s ((s.af.take (posOf s.names v.name)).map (fun v=>ptr v.vb)++[ptr v.vb]++(s.af.drop (posOf s.names v.name)).map (fun v=>ptr v.vb))) :
 ∃g,w.heap.size<=g/\ai w' { s with ab:=some g,af:=dS (posOf s.names v.name) v s.af }:=by
 obtain⟨g,cap,cs,hg,hP,hle,hB,hcs,hcl⟩:=hA.ex;refine⟨g,hg,?_⟩;have hps:((s.af.take (posOf s.names v.name)).map (fun v=>ptr v.vb)++[ptr v.vb]++(s.af.drop (posOf s.names v.name)).map (fun v=>ptr v.vb))=(dS (posOf s.names v.name) v s.af).map (fun v=>ptr v.vb):=by
  simp[dS]
 have hlen:(dS (posOf s.names v.name) v s.af).length=s.af.length+1:=by
  simpa using (lT (posOf s.names v.name) v s.af).length_eq
 rw[hps]at hP hle hcs hcl;rw[List.length_map]at hP hle hcs hcl;have hnd:=h.nodup;have hap:=jJ hnd;have hpb:∀k∈s.foot,k≠s.pb->k∉[s.pb]:=fun k _ hne=>by simpa using hne
 have MF:=hap.pb;refine⟨⟨cap,hP,hle,by simp⟩,fun b hb=>?_,?_,fun u hu=>?_,?_,by rw[hlen];omega,D7 s.af v h.sorted hn,fun u hu o ho=>?_⟩
 ·simp only[Option.some.injEq]at hb;subst hb;exact⟨cs,hB,hcs,hcl⟩
 ·refine h.disk.same hA.same ?_ ?_ ?_
  ·intro hm;simp at hm;exact MF (by rw[<-hm];simp)
  ·intro hm;simp at hm;exact MF (by rw[<-hm];simp)
  ·intro hm;simp at hm;exact MF (by rw[<-hm];simp)
 ·rcases fC.1 hu with rfl|hm
  ·exact hv.same hA.same (fun k hk hx=>h1 k hk (by simp at hx;rw[hx];exact s.xh))
  ·exact(h.af u hm).same hA.same (fun k hk hx=>by
    simp at hx;have:=hap.disk u hm k hk;simp only[List.mem_cons,not_or]at this;exact this.1 hx)
 ·have hlt:=h.bn;have aat:=hv.bn;have hsub:List.Sublist (s.pb::s.db::s.bb::s.fb::s.af.flatMap aF.foot) s.foot:=by
   unfold St.foot;exact List.Sublist.cons_cons _ (List.Sublist.cons_cons _ (List.Sublist.cons_cons _ (List.Sublist.cons_cons _ (List.sublist_append_right _ _))))
  have hp:(St.foot { s with ab:=some g,af:=dS (posOf s.names v.name) v s.af }).Perm (g::(v.foot++(s.pb::s.db::s.bb::s.fb::s.af.flatMap aF.foot))):=by
   unfold St.foot;have e1:=Pg (posOf s.names v.name) v s.af;simp only[Option.toList_some,List.singleton_append];have e2:∀(a b c d:Nat)(l:List Nat),(a::b::c::d::g::l).Perm (g::a::b::c::d::l):=fun a b c d l=>
    (List.perm_middle (a:=g) (l₁:=[a,b,c,d]) (l₂:=l))
   refine(e2 _ _ _ _ _).trans (List.Perm.cons _ ?_);refine(List.Perm.append_left [s.pb,s.db,s.bb,s.fb] e1).trans ?_;have:=(List.perm_append_comm (l₁:=[s.pb,s.db,s.bb,s.fb]) (l₂:=v.foot)).append_right (s.af.flatMap aF.foot);simpa using this
  rw[hp.nodup_iff];refine List.nodup_cons.2 ⟨fun hm=>?_,List.nodup_append.2 ⟨hv.nodup,hnd.sublist hsub,fun a ha b hb e=>?_⟩⟩
  ·rcases List.mem_append.1 hm with hm|hm
   ·have:=aat g hm;omega
   ·have:=hlt g (hsub.mem hm);omega
  ·subst e;exact h1 a ha (hsub.mem hb)
 ·rcases fC.1 hu with rfl|hm
  ·obtain⟨x,hx,hx2⟩:=hvo o ho;exact⟨x,fC.2 (Or.inr hx),hx2⟩
  ·obtain⟨x,hx,hx2⟩:=h.zD u hm o ho;exact⟨x,fC.2 (Or.inr hx),hx2⟩
theorem xU{ns:List ByteArray}(h:ns.Pairwise fun a b=>bW a b<0)(i:Nat)(hi:i<ns.length):posOf ns ns[i]! = i:=by
 rw[getElem!_pos ns i hi];refine qI _ ns i (Nat.le_of_lt hi) (fun t ht=>?_) (fun t h1 h2=>?_)
 ·rw[getElem!_pos ns t (by omega)];exact decide_eq_true (List.pairwise_iff_getElem.1 h t i (by omega) hi ht)
 ·rw[getElem!_pos ns t h2];rcases Nat.lt_or_ge i t with h'|h'
  ·have:=List.pairwise_iff_getElem.1 h i t hi h2 h';exact decide_eq_false (by rw[CQ ns[i] ns[t]];omega)
  ·have e:t=i:=by omega
   subst e;exact decide_eq_false (by rw[nH];omega)
theorem I4(s:St)(l:List aF):∀(i j:Nat),i<l.length->j<6->(s.toldAll l)[i*6+j]? = (s.told (l[i]!))[j]?:=by
 induction l with
 | nil=>intro i j h;simp at h
 | cons b r ih=>
  intro i j hi hj;cases i with
  | zero=>
   have:(b::r)[0]! = b:=rfl;rw[this,St.toldAll,Nat.zero_mul,Nat.zero_add,List.getElem?_append_left (by rw[St.pq];exact hj)]
  | succ i=>
   have e:(b::r)[i+1]! = r[i]!:=by simp
   rw[e,<-ih i j (by simpa using hi) hj,St.toldAll,List.getElem?_append_right (by rw[St.pq];omega)]
   congr 1
   rw[St.pq];omega
structure ay where
 vb:Nat
 dg:Nat
 bg:Nat
 kg:Option Nat
 name:ByteArray
 bC:ByteArray
 data:List ByteArray
 blocks:List Nat
 kept:List Nat
 lost:Bool
end
section
open Go.RowKit Go.Sort
variable [DecidableEq aN] [Inhabited aN] [Inhabited aF] [Inhabited ay]
theorem zM(x:Bool)(w:World):(Op.unary .not (.bool x)).run prog w=.ok (.bool (!x)) w:=rfl
structure iK(w:World)(g:Nat)(cap:Nat)(l:List ByteArray):Prop where
 ex:∃cs,At w g 9 cs/\cs.length=cap/\cs.take l.length=l.map Value.string/\l.length<=cap/\cap<=maxLen
theorem iK.same{w w':World}{g cap:Nat}{l:List ByteArray}(h:iK w g cap l){S:List Nat}(hs:Same S w w')(hn:g∉S):iK w' g cap l:=by
 obtain⟨cs,h1,h2⟩:=h.ex;exact⟨cs,hs.at h1 hn,h2⟩
theorem iK.cell{w:World}{g cap:Nat}{l:List ByteArray}(h:iK w g cap l)(i:Nat)(hi:i<l.length):w.cell? ⟨g,i,none⟩=some (.string l[i]!):=by
 obtain⟨cs,h1,h2,h3,h4⟩:=h.ex;have e:(cs.take l.length)[i]? = cs[i]?:=by rw[List.getElem?_take,if_pos hi]
 rw[h1.cell?,<-e,h3];simp[List.getElem?_map,List.getElem?_eq_getElem hi,getElem!_pos l i hi]
structure dU(w:World)(v:ay):Prop where
 ex:∃dc bc kc,At w v.vb 118 [.string v.name,.string v.bC,.slice (some ⟨v.dg,0,none⟩) v.data.length dc,.slice (some ⟨v.bg,0,none⟩) v.blocks.length bc,.slice (v.kg.map fun g=>⟨g,0,none⟩) v.kept.length kc,.bool v.lost] /\
  iK w v.dg dc v.data/\fD w v.bg bc v.blocks/\(v.kg=none->v.kept=[]/\kc=0)/\(∀g,v.kg=some g->fD w g kc v.kept)
 data:v.data.length<=200
 blocks:v.blocks.length<=200
 kept:v.kept.length<=200
structure aQ where
 rb:Nat
 lg:Option Nat
 n:Nat
 af:List ay
structure aO(w:World)(s:aQ):Prop where
 pool:∃cap,At w s.rb 84 [.int .i64 s.n,.slice (s.lg.map fun b=>⟨b,0,none⟩) s.af.length cap]/\s.af.length<=cap/\(s.lg=none->s.af=[]/\cap=0)
 arr:∀b,s.lg=some b->∃cs,At w b 115 cs/\cs.take s.af.length=s.af.map (fun v=>ptr v.vb)/\s.af.length<=cs.length
 af:∀v∈s.af,dU w v
 few:s.af.length<=20
 n:s.n<=200
theorem aO.cell{w:World}{s:aQ}(h:aO w s)(i:Nat)(hi:i<s.af.length) :
 ∃b,s.lg=some b/\w.cell? ⟨b,i,none⟩=some (.pointer (some ⟨(s.af[i]!).vb,0,none⟩))/\s.af[i]!∈s.af:=by
 obtain⟨cap,hp,h1,h2⟩:=h.pool;cases hab:s.lg with
 | none=>rw[(h2 hab).1]at hi;simp at hi
 | some b=>
  obtain⟨cs,hc,h3,h4⟩:=h.arr b hab;refine⟨b,rfl,?_,?_⟩
  ·have:(cs.take s.af.length)[i]? = cs[i]?:=by rw[List.getElem?_take,if_pos hi]
   rw[hc.cell?,<-this,h3];simp[List.getElem?_map,List.getElem?_eq_getElem hi,getElem!_pos s.af i hi,ptr]
  ·rw[getElem!_pos s.af i hi];exact List.getElem_mem hi
theorem bytes_beq(a b:ByteArray):(a.toList == b.toList)=decide (a=b):=by
 rw[<-beq_toListBytes];show(a.data == b.data)=decide (a=b);rw[Bool.eq_iff_iff,beq_iff_eq,decide_eq_true_iff];exact⟨fun h=>ByteArray.ext h,fun h=>by rw[h]⟩
def aQ.oO(s:aQ)(t:ByteArray):Option ay:=s.af.find? fun v=>decide (v.name=t)
theorem aW(s:aQ)(t:ByteArray)(w:World)(h:aO w s) :
 Calls prog 79 #[.pointer (some ⟨s.rb,0,none⟩),.string t] w fun e w'=>e=.returned (.pointer ((s.oO t).map fun v=>⟨v.vb,0,none⟩))/\w'=w:=by
 obtain⟨cap,hp,h1,h2⟩:=h.pool;have c1:w.cell? ⟨s.rb,1,none⟩=some (.slice (s.lg.map fun b=>⟨b,0,none⟩) s.af.length cap):=hp.cell? 1;have hfew:=h.few;have HR:Hid (s.oO t=s.af.find? fun v=>decide (v.name=t)):=rfl;generalize s.oO t=res at *
 go_enter func79,ntmps79
 go_wp2
 go_loopw [5] (fun i wr=>∃k:Nat,k<=s.af.length/\i=.int .i64 k/\wr=w/\Hid (∀v∈s.af.take k,¬v.name=t)) (fun i _=>s.af.length-(intOf i).toNat)
 case atStart=>exact⟨0,Nat.zero_le _,rfl,rfl,by show ∀v∈_,_;simp⟩
 case round=>
  obtain⟨k,hk,rfl,rfl,HN⟩:=hrel;by_cases hkl:k<s.af.length
  ·obtain⟨b,hb,e1,hm⟩:=h.cell k hkl;obtain⟨dc,bc,kc,hv,_⟩:=(h.af _ hm).ex;have e2:wr.cell? ⟨(s.af[k]!).vb,0,none⟩=some (.string (s.af[k]!).name):=hv.cell? 0;have hb':(s.lg.map fun b=>(⟨b,0,none⟩:Addr))=some ⟨b,0,none⟩:=by rw[hb];rfl
   rw[hb']at c1;have HT:Hid (s.af.take (k+1)=s.af.take k++[s.af[k]!]):=by show _=_;rw[List.take_succ_eq_append_getElem hkl,getElem!_pos s.af k hkl]
   have HD:Hid (s.af=s.af.take k++s.af[k]!::s.af.drop (k+1)):=by
    show _=_;rw[getElem!_pos s.af k hkl,<-List.drop_eq_getElem_cons hkl,List.take_append_drop]
   generalize s.af[k]! = vv at *;have l1:(k:Int)<(s.af.length:Int):=by omega
   clear h hv hp hm hb' hb;by_cases hn:vv.name=t
   ·have hbq:(vv.name.toList == t.toList)=true:=by rw[hn];simp
    have HF:Hid (res=some vv):=by
     show _=_;rw[HR.out,HD.out,List.find?_append];have:(s.af.take k).find? (fun v=>decide (v.name=t))=none:=by
      rw[List.find?_eq_none];intro v hv;simpa using HN.out v hv
     rw[this];simp[hn]
    go_wp2
    go_ret
    rw[HF.out];exact⟨rfl,rfl⟩
   ·have hbq:(vv.name.toList == t.toList)=false:=by
     rw[bytes_beq];exact decide_eq_false hn
    go_wp2
    go_roundw
    case rel=>exact⟨k+1,by omega,by go_num,by first|rfl|trivial,by
     show ∀v∈_,_;rw[HT.out];intro v hv;rcases List.mem_append.1 hv with hv|hv
     ·exact HN.out v hv
     ·simp at hv;subst hv;exact hn⟩
    case measure=>simp[intOf];omega
  ·have ek:k=s.af.length:=by omega
   subst ek;have HF:Hid (res=none):=by
    show _=_;rw[HR.out,List.find?_eq_none];intro v hv;have:=HN.out v (by rw[List.take_length];exact hv);simpa using this
   clear HN h hp
   go_wp2
   go_ret
   rw[HF.out];exact⟨rfl,rfl⟩
end
section
open Go.RowKit Go.Sort
variable [DecidableEq aN] [Inhabited aN] [Inhabited aF]
theorem qC(s:St)(w:World)(h:ai w s) :
 Calls prog 45 #[.pointer (some ⟨s.pb,0,none⟩)] w fun e w'=>e=.returned (.bool true)/\w'=w:=qH s w h
theorem oU(s:St)(t:ByteArray)(w:World)(h:ai w s) :
 Calls prog 115 #[.pointer (some ⟨s.pb,0,none⟩),.string t] w fun e w'=>e=.returned (.tuple #[.int .i64 (posOf s.names t:Nat),.bool (isIn s.names t)])/\w'=w:=zi s t w h
theorem bP(x:Bool)(w:World):(Op.unary .not (.bool x)).run prog w=.ok (.bool (!x)) w:=rfl
theorem wG(s:St)(t:ByteArray)(w:World)(h:ai w s)(ht:t.size<=maxLen)(hn:nameB t=false) :
 Calls prog 81 #[.pointer (some ⟨s.pb,0,none⟩),.string t] w fun e w'=>e=.returned (.tuple #[.int .i64 0,.int .i64 2])/\w'=w:=by
 have hm:=qC s w h;have hI:=ni t w ht;rw[hn]at hI;have hnot:=bP;clear h ht;generalize posOf s.names t=po at *
 go_enter func81,ntmps81
 go_wp2_with (first|(go_at_call 45;refine hm.mono ?_;rintro e w' ⟨rfl,rfl⟩)|(go_at_call 117;refine hI.mono ?_;rintro e w' ⟨rfl,rfl⟩))
 go_ret2
 exact⟨rfl,rfl⟩
theorem rH(s:St)(t:ByteArray)(w:World)(h:ai w s)(ht:t.size<=maxLen)(hn:nameB t=true)(hx:s.has t=true) :
 Calls prog 81 #[.pointer (some ⟨s.pb,0,none⟩),.string t] w fun e w'=>e=.returned (.tuple #[.int .i64 0,.int .i64 3])/\w'=w:=by
 have hm:=qC s w h;have hI:=ni t w ht;rw[hn]at hI;have hX:=oU s t w h;unfold St.has at hx;rw[hx]at hX;have hnot:=bP;clear h ht;generalize posOf s.names t=po at *
 go_enter func81,ntmps81
 go_wp2_with (first|(go_at_call 45;refine hm.mono ?_;rintro e w' ⟨rfl,rfl⟩)|(go_at_call 117;refine hI.mono ?_;rintro e w' ⟨rfl,rfl⟩)|(go_at_call 115;refine hX.mono ?_;rintro e w' ⟨rfl,rfl⟩))
 go_ret2
 exact⟨rfl,rfl⟩
theorem jX(s:St)(t:ByteArray)(w:World)(h:ai w s)(ht:t.size<=maxLen)(hn:nameB t=true)(hx:s.has t=false) :
 Calls prog 81 #[.pointer (some ⟨s.pb,0,none⟩),.string t] w fun e w'=>e=.returned (.tuple #[.int .i64 (posOf s.names t:Nat),.int .i64 0])/\w'=w:=by
 have hm:=qC s w h;have hI:=ni t w ht;rw[hn]at hI;have hX:=oU s t w h;unfold St.has at hx;rw[hx]at hX;have hnot:=bP;clear h ht;generalize posOf s.names t=po at *
 go_enter func81,ntmps81
 go_wp2_with (first|(go_at_call 45;refine hm.mono ?_;rintro e w' ⟨rfl,rfl⟩)|(go_at_call 117;refine hI.mono ?_;rintro e w' ⟨rfl,rfl⟩)|(go_at_call 115;refine hX.mono ?_;rintro e w' ⟨rfl,rfl⟩))
 go_ret2
 exact⟨rfl,rfl⟩
theorem Good.all{s:St}{fr:List Nat}(h:Good s fr):qV s.m s.m s.d=fr.map (fun x:Nat=>(x:Int)):=by
 have:=(h.heap.pops s.m (Nat.le_refl _)).1;rw[this,List.take_of_length_le (by rw[h.heap.len];exact Nat.le_refl _)]
theorem Good.back{s:St}{fr:List Nat}(h:Good s fr):fU s.m (fP 0 fr (eY s.m s.m s.d)) fr:=by
 have h1:=(h.heap.pops s.m (Nat.le_refl _)).2;rw[Nat.sub_self,List.drop_of_length_le (by rw[h.heap.len];exact Nat.le_refl _)]at h1;have hnd:fr.Nodup:=(List.nodup_append.1 h.nodup).1;have h2:=fU.gives fr h1 hnd (by simp) (by rw[AV,Nat.zero_add,h.heap.len];exact h.heap.size);rw[Nat.zero_add,h.heap.len]at h2;have e:fZ fr []=fr:=uT _ _ h2.sorted h.heap.sorted (fun z=>by rw[qB];simp);rw[e]at h2;exact h2
theorem ai.jO{w w':World}{s:St}(h:ai w s){S:List Nat}(hs:Same S w w')(hS:∀k∈S,k=s.db\/k=s.bb\/k=s.fb\/k∉s.foot){m':Nat}{bl':List aN}{d':Array Int}(hd:dX w' s.db s.bb s.fb s.n m' bl' d'):ai w' { s with m:=m',bl:=bl',d:=d' }:=by
 have hap:=jJ h.nodup;obtain⟨cap,hp,h1,h2⟩:=h.pool;have hne:∀k,k∈s.foot->k∉[s.db,s.bb,s.fb]->k∉S:=fun k hk hd hm=>by
  simp only[List.mem_cons,List.not_mem_nil,or_false,not_or]at hd;rcases hS k hm with e|e|e|e
  ·exact hd.1 e
  ·exact hd.2.1 e
  ·exact hd.2.2 e
  ·exact e hk
 refine⟨⟨cap,hs.at hp (hne _ s.xh ?_),h1,h2⟩,fun b hb=>?_,hd,fun v hv=>?_,h.nodup,h.few,h.sorted,h.zD⟩
 ·have:=hap.pb;simp only[List.mem_cons,not_or,List.not_mem_nil,not_false_eq_true,and_true]at this ⊢;exact⟨this.1,this.2.1,this.2.2.1⟩
 ·obtain⟨cs,hc,h3⟩:=h.arr b hb;have hb':s.ab=some b:=hb;have q1:=hap.db;have q2:=hap.bb;have q3:=hap.fb;simp only[hb',Option.toList_some,List.singleton_append,List.mem_cons,not_or]at q1 q2 q3;refine⟨cs,hs.at hc (hne b (s.F7 hb') ?_),h3⟩;simp only[List.mem_cons,not_or,List.not_mem_nil,not_false_eq_true,and_true];exact⟨fun e=>q1.2.2.1 e.symm,fun e=>q2.2.1 e.symm,fun e=>q3.1 e.symm⟩
 ·refine(h.af v hv).same hs (fun k hk=>hne k (s.bH hv hk) ?_);have:=hap.disk v hv k hk;simp only[List.mem_cons,not_or,List.not_mem_nil,not_false_eq_true,and_true]at this ⊢;exact⟨this.2.1,this.2.2.1,this.2.2.2⟩
theorem JG(s:St)(i k:Int)(vb:Nat)(w:World)(h:ai w s)(hv:20<=s.af.length) :
 Calls prog 82 #[.pointer (some ⟨s.pb,0,none⟩),.int .i64 i,.pointer (some ⟨vb,0,none⟩),.int .i64 k] w fun e w'=>e=.returned (.int .i64 5)/\w'=w:=by
 obtain⟨cap,hp,_,_⟩:=h.pool;have c2:w.cell? ⟨s.pb,2,none⟩=some (.slice (s.ab.map fun b=>⟨b,0,none⟩) s.af.length cap):=hp.cell? 2;have hf:=h.few;clear h hp
 go_enter func82,ntmps82
 go_wp2
 go_ret
 exact⟨rfl,rfl⟩
theorem J9(s:St)(fr:List Nat)(i:Int)(k vb:Nat)(w:World)(h:ai w s)(hG:Good s fr)(hk:1<=k/\k<=200)(hv:s.af.length<20)(hf:fr.length<k) :
 Calls prog 82 #[.pointer (some ⟨s.pb,0,none⟩),.int .i64 i,.pointer (some ⟨vb,0,none⟩),.int .i64 k] w fun e w'=>e=.returned (.int .i64 6)/\∃d',After w s w' { s with d:=d' } fr:=by
 have hT:=nU s.db s.bb s.fb s.n s.m k s.bl s.d fr w _ _ rfl rfl (by omega) h.disk hG.all hG.lt.1;obtain⟨cap,hp,_,_⟩:=h.pool;have c1:w.cell? ⟨s.pb,1,none⟩=some (.pointer (some ⟨s.db,0,none⟩)):=hp.cell? 1;have c2:w.cell? ⟨s.pb,2,none⟩=some (.slice (s.ab.map fun b=>⟨b,0,none⟩) s.af.length cap):=hp.cell? 2;have H:Hid (ai w s/\Good s fr):=⟨h,hG⟩
 have hml:=hG.heap.len;clear h hG hp;have l0:(s.af.length:Int)<20:=by omega
 go_enter func82,ntmps82
 go_wp2_with fail
 refine hT.mono ?_;rintro e w1 (⟨h1,_⟩|⟨_,rfl,hD,hS⟩)
 ·omega
 go_wp2
 go_ret
 obtain⟨h,hG⟩:=H.out;have e0:bM fr s.bl=s.bl:=vG fr s.bl fun x hx=>⟨by rw[h.disk.len];exact hG.lt.1 x hx,hG.zero x hx⟩
 rw[e0]at hD;refine⟨rfl,_,⟨h.jO hS (by intro k hk;simp at hk;rcases hk with e|e|e<;>simp[e]) hD,⟨hG.back,hG.parts,hG.zero,hG.names,hG.dN⟩,hS.mono (by simp[St.foot]),fun k hk=>Or.inl hk,rfl,rfl⟩⟩
end
end Go.Proofs.YtpddgdjocffgdaaGreat
