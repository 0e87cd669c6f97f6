/- Packed: see the last text. -/
import Derived.Test.YtpddgdjocffgdaaGreatA04
import Derived.Test.YtpddgdjocffgdaaGreatA02
import Derived.Maps.AppendAt
import Derived.Test.YtpddgdjocffgdaaGreatA03
import Derived.Deep.RegionHeld3
namespace Go.Proofs.YtpddgdjocffgdaaGreat
open Go.Proofs.Tryz
set_option linter.unusedVariables false
set_option linter.unusedSimpArgs false
set_option linter.unusedSectionVars false
set_option maxHeartbeats 16000000
set_option maxRecDepth 100000
section
open Go.RowKit Go.Sort
variable [DecidableEq aN] [Inhabited aN] [Inhabited aF]
theorem RN(i:Nat)(v:aF)(l:List aF)(hi:i<l.length)(hx:v.xs=(l[i]!).xs):(aC i v l).flatMap (·.xs)=l.flatMap (·.xs):=by
 have:=uO (·.xs) i v l hi hx;rw[List.flatMap_def,List.flatMap_def,this]
theorem Good.set{s:St}{fr:List Nat}(h:Good s fr)(i:Nat)(hi:i<s.af.length)(v:aF)(hx:v.xs=(s.af[i]!).xs)(hn:v.name=(s.af[i]!).name)(bl:List aN)(hz:∀x∈fr,bl[x]! = aN.zero)(hpc:CO (aC i v s.af)) :
 Good { s with bl:=bl,af:=aC i v s.af } fr:=by
 refine⟨h.heap,?_,hz,fun u hu=>?_,hpc⟩
 ·show(fr++(aC i v s.af).flatMap (·.xs)).Perm _;rw[RN i v s.af hi hx];exact h.parts
 ·rcases iL.1 hu with rfl|hu
  ·rw[hn];exact h.names _ (get_mem hi)
  ·exact h.names u ((dY i s.af).mem hu)
theorem Good.wY{s:St}{fr:List Nat}(h:Good s fr){v:aF}(hv:v∈s.af){x:Nat}(hx:x∈v.xs):x∉fr:=fun hm=>
 (List.nodup_append.1 h.nodup).2.2 x hm x (List.mem_flatMap.2 ⟨v,hv,hx⟩) rfl
theorem QE{s:St}{fr:List Nat}(h:Good s fr)(hl:s.bl.length=s.n)(xs:List Nat):∀x∈fr,(bM xs s.bl)[x]! = aN.zero:=fun x hx=>by
 rw[fK xs s.bl x (by rw[hl];exact h.lt.1 x hx)]
 split
 ·rfl
 ·exact h.zero x hx
theorem Tt{s:St}{fr:List Nat}(h:Good s fr)(hl:s.bl.length=s.n)(y:Nat)(hy:y∉fr)(b:aN):∀x∈fr,(s.bl.set y b)[x]! = aN.zero:=fun x hx=>by
 have hxl:x<s.bl.length:=by rw[hl];exact h.lt.1 x hx
 have hne:y≠x:=fun e=>hy (by rw[e];exact hx)
 rw[getElem!_pos _ x (by simpa using hxl),List.getElem_set_ne hne,<-getElem!_pos s.bl x hxl];exact h.zero x hx
def aF.losing(v:aF):aF:={ v with kg:=none,kept:=[],lost:=true }
theorem NS(s:St)(fr:List Nat)(i:Nat)(v:aF)(w:World)(h:ai w s)(hG:Good s fr)(hi:i<s.af.length)(hv:s.af[i]! = v)(ho:v.org≠none) :
 Calls prog 139 #[.pointer (some ⟨s.pb,0,none⟩),.pointer (some ⟨v.vb,0,none⟩)] w fun e w'=>e=.returned (.tuple #[]) /\
  After w s w' { s with bl:=bM v.xs s.bl,af:=aC i v.losing s.af } fr:=by
 have hmem:v∈s.af:=by rw[<-hv];exact get_mem hi
 have hV:=h.af v hmem;obtain⟨cap,dW,hcap,hvo,hk1,hk2⟩:=hV.aA;obtain⟨cs,hr⟩:=hV.row;obtain⟨pU,hp,_,_⟩:=h.pool;have c1:w.cell? ⟨v.vb,1,none⟩=some (.slice (some ⟨v.gb,0,none⟩) v.xs.length cap):=hvo.cell? 1;have c3:w.cell? ⟨v.vb,3,none⟩=some (.slice (mO v.kg) v.kept.length dW):=hvo.cell? 3;have c4:w.cell? ⟨v.vb,4,none⟩=some (.bool v.lost):=hvo.cell? 4;have f3:w.frozen? ⟨v.vb,3,none⟩=false:=hvo.frozen 3;have f4:w.frozen? ⟨v.vb,4,none⟩=false:=hvo.frozen 4;have p1:w.cell? ⟨s.pb,1,none⟩=some (.pointer (some ⟨s.db,0,none⟩)):=hp.cell? 1;have hap:=(jJ h.nodup).disk v hmem;have npb:v.vb≠s.pb:=by have:=hap v.vb (by simp[aF.foot]);simp only[List.mem_cons,not_or]at this;exact this.1
 have aaw:s.pb≠v.vb:=fun e=>npb e.symm
 have A1:=(hvo.ax 3 (.slice none 0 0)).ax 4 (.bool true);have S1:Same [v.vb] w ((w.setCell ⟨v.vb,3,none⟩ (.slice none 0 0)).setCell ⟨v.vb,4,none⟩ (.bool true)):=((Same.refl _ _).set _ _ _ (by simp)).set _ _ _ (by simp);have hnd:=hV.nodup;have hgv:v.gb∉[v.vb]:=by
  simp only[aF.foot,List.nodup_cons,List.mem_cons,not_or]at hnd;simp;exact fun e=>hnd.1.1 e.symm
 have V1:dG ((w.setCell ⟨v.vb,3,none⟩ (.slice none 0 0)).setCell ⟨v.vb,4,none⟩ (.bool true)) v.losing:=by
  refine⟨⟨cap,0,hcap,A1,fun _=>⟨rfl,rfl⟩,fun g hg=>by cases hg⟩,⟨cs,hr.same S1 hgv⟩,?_,hV.pos,hV.small,by simp[aF.losing],fun e=>absurd e ho⟩;simp only[aF.losing,aF.foot,Option.toList_none];simp only[aF.foot,List.nodup_cons,List.mem_cons,not_or]at hnd;simp[hnd.1.1]
 have hP1:=pX h i hi v.losing (by rw[hv];rfl) (by rw[hv];rfl) (by rw[hv];rfl) (by intro k hk;rw[hv];left;simp[aF.losing,aF.foot]at hk ⊢;rcases hk with e|e<;>simp[e]) V1 (S1.mono (by intro k hk _;rw[hv];simp at hk;simp[aF.foot,hk]));have hpc:CO (aC i v.losing s.af):=CZ h hG.dN i hi v.losing (by rw[hv];rfl) (by rw[hv];rfl) (by simp[aF.losing]) (fun _=>rfl) (fun u hu e=>⟨by simp[aF.losing],((hG.dN v hmem).2.2 u hu e).2⟩) (fun u hu e=>(hG.dN u hu).2.2 v hmem e);have hG2:=hG.set i hi v.losing (by rw[hv];rfl) (by rw[hv];rfl) (bM v.xs s.bl) (QE hG h.disk.len v.xs) hpc;have hgS:v.gb≠s.bb:=by have:=hap v.gb (by simp[aF.foot]);simp only[List.mem_cons,not_or]at this;exact this.2.2.1
 have hlt:=hG.lt.2 v hmem;have hsm:=hV.small;have hW:=fun W (hW:Same [] ((w.setCell ⟨v.vb,3,none⟩ (.slice none 0 0)).setCell ⟨v.vb,4,none⟩ (.bool true)) W)=>BA s.db s.bb s.fb s.n s.m v.gb 0 cap s.bl s.d v.xs (some ⟨v.gb,0,none⟩) _ cs W _ _ rfl rfl (hP1.disk.same hW (by simp) (by simp) (by simp)) (fun _=>⟨rfl,(hr.same (S1.trans hW) (by simpa using hgv)).at_,hgS⟩) (fun j hj=>by rw[Nat.zero_add];exact hr.cell j hj) hlt (by omega)
 have q1:((w.setCell ⟨v.vb,3,none⟩ (.slice none 0 0)).setCell ⟨v.vb,4,none⟩ (.bool true)).cell? ⟨s.pb,1,none⟩=some (.pointer (some ⟨s.db,0,none⟩)):=(S1.at hp (by simp[aaw])).cell? 1;have q2:((w.setCell ⟨v.vb,3,none⟩ (.slice none 0 0)).setCell ⟨v.vb,4,none⟩ (.bool true)).cell? ⟨v.vb,1,none⟩=some (.slice (some ⟨v.gb,0,none⟩) v.xs.length cap):=A1.cell? 1;have hvf:v.vb∈s.foot:=s.bH hmem (by simp[aF.foot]);have HF:Hid (∀w3,dX w3 s.db s.bb s.fb s.n s.m (bM v.xs s.bl) s.d->Same [s.bb] ((w.setCell ⟨v.vb,3,none⟩ (.slice none 0 0)).setCell ⟨v.vb,4,none⟩ (.bool true)) w3->After w s w3 { s with bl:=bM v.xs s.bl,af:=aC i v.losing s.af } fr):=by
  intro w3 D3 S3;refine⟨hP1.jO S3 (by intro k hk;simp at hk;simp[hk]) D3,hG2,(S1.mono (T:=s.foot) (by simp;exact fun _=>hvf)).step S3 (by simp[St.foot]),?_,rfl,rfl⟩;exact wP (s:=s) (v:=v.losing) hi (by intro k hk;rw[hv];left;simp[aF.losing,aF.foot]at hk ⊢;rcases hk with e|e<;>simp[e])
 clear h hG hp hvo hV hr hk1 hk2 hap A1 V1 hP1 hG2 hpc S1
 go_enter func139,ntmps139
 go_wp2_with fail
 generalize ((w.setCell ⟨v.vb,3,none⟩ (.slice none 0 0)).setCell ⟨v.vb,4,none⟩ (.bool true))=W1 at *;refine aU 8 (by kernel_rfl) (by kernel_rfl) ?_;simp only[List.take_succ_cons,List.take_zero,List.drop_succ_cons,List.drop_zero]
 repeat still_step
 refine wpStill_nil ?_
 go_wp2_with (go_at_call 125;refine(hW _ ((Same.refl _ _).drew)).mono ?_;rintro e w3 ⟨rfl,D3,S3⟩)
 have jT:=HF.out w3 D3 ((Same.refl _ _).drew.step S3 (by simp));clear HF D3 S3 hW;refine bodyPost_end (results_none rfl _ _ _) rfl ⟨rfl,jT⟩
theorem VF{w:World}{s:St}(h:ai w s)(hp:CO s.af)(i:Nat)(v:aF)(hvb:v.vb∉s.foot)(hk:v.kept=[])(hl:v.lost=false)
 (hvo:∀o,v.org=some o->∃u∈s.af,u.vb=o/\v.xs.length<=u.xs.length):CO (dS i v s.af):=by
 have hin:∀u∈s.af,u.vb∈s.foot:=fun u hu=>s.bH hu (by simp[aF.foot])
 intro x hx;rcases fC.1 hx with rfl|hxo
 ·refine⟨by rw[hk];exact List.nodup_nil,fun _=>hk,fun u hu ho=>⟨by rw[hk];simp,?_⟩⟩;obtain⟨y,hy,e1,e2⟩:=hvo _ ho;rcases fC.1 hu with rfl|hu
  ·exact absurd (by rw[<-e1];exact hin y hy) hvb
  ·have:=h.mF hy hu e1;rw[<-this];exact e2
 ·obtain⟨p1,p2,p3⟩:=hp x hxo;refine⟨p1,p2,fun u hu ho=>?_⟩;rcases fC.1 hu with rfl|hu
  ·obtain⟨y,hy,e1,_⟩:=h.zD x hxo _ ho;exact absurd (by rw[<-e1];exact hin y hy) hvb
  ·exact p3 u hu ho
theorem Good.create{w:World}{s:St}{fr:List Nat}(hP:ai w s)(h:Good s fr)(k i:Nat)(hk:k<=fr.length)(v:aF)(hv:v.xs=fr.take k)(hn:nameB v.name=true)(hvb:v.vb∉s.foot)(hkp:v.kept=[])(hl:v.lost=false)
 (hvo:∀o,v.org=some o->∃u∈s.af,u.vb=o/\v.xs.length<=u.xs.length) (ab:Option Nat) :
 Good { s with m:=s.m-k,d:=eY s.m k s.d,ab:=ab,af:=dS i v s.af } (fr.drop k):=by
 obtain⟨_,h2⟩:=h.heap.pops k (by rw[<-h.heap.len];exact hk);refine⟨h2,?_,fun x hx=>h.zero x (List.mem_of_mem_drop hx),fun u hu=>?_,VF hP h.dN i v hvb hkp hl hvo⟩
 ·have e1:((dS i v s.af).flatMap (·.xs)).Perm (v.xs++s.af.flatMap (·.xs)):=by
   have:=(lT i v s.af).flatMap_right (·.xs);simpa using this
  refine((List.Perm.append_left (fr.drop k) e1).trans ?_).trans h.parts;rw[hv,<-List.append_assoc];refine List.Perm.append_right _ ?_;have:=List.perm_append_comm (l₁:=fr.drop k) (l₂:=fr.take k);rw[List.take_append_drop]at this;exact this
 ·rcases List.mem_cons.1 ((lT i v s.af).mem_iff.1 hu) with rfl|hu
  ·exact hn
  ·exact h.names u hu
structure Hf(w:World)(s:St)(vb:Nat)(w':World)(s':St)(fr':List Nat):Prop where
 pool:ai w' s'
 good:Good s' fr'
 same:Same (vb::s.foot) w w'
 foot:∀k∈s'.foot,k∈s.foot\/k=vb\/w.heap.size<=k
 pb:s'.pb=s.pb
 n:s'.n=s.n
theorem Hf.after{w0 w:World}{s:St}{vb:Nat}{w':World}{s':St}{fr':List Nat}(h:Hf w s vb w' s' fr')(h0:Same [] w0 w)(hvb:w0.heap.size<=vb):After w0 s w' s' fr':=by
 have hz:=h0.size;refine⟨h.pool,h.good,(h0.mono (T:=s.foot) (by simp)).step h.same ?_,fun k hk=>?_,h.pb,h.n⟩
 ·intro k hk hl;rcases List.mem_cons.1 hk with e|e
  ·omega
  ·exact e
 ·rcases h.foot k hk with e|e|e
  ·exact Or.inl e
  ·right;omega
  ·right;omega
theorem TB(s:St)(fr:List Nat)(t:ByteArray)(k vb:Nat)(org:Option Nat)(w:World)(h:ai w s)(hG:Good s fr)(hV:At w vb 133 [.string t,.slice none 0 0,.pointer (mO org),.slice none 0 0,.bool false])(hvb:vb∉s.foot)
 (hn:nameB t=true) (hx:s.has t=false) (hk:1<=k/\k<=200) (hv:s.af.length<20) (hf:k<=fr.length) (hvo:∀o,org=some o->∃u∈s.af,u.vb=o/\u.org=none/\k<=u.xs.length) :
 Calls prog 82 #[.pointer (some ⟨s.pb,0,none⟩),.int .i64 (posOf s.names t:Nat),.pointer (some ⟨vb,0,none⟩),.int .i64 k] w fun e w'=>e=.returned (.int .i64 0) /\
  ∃g gb,Hf w s vb w' { s with m:=s.m-k,d:=eY s.m k s.d,ab:=some g,af:=dS (posOf s.names t) ⟨vb,gb,t,fr.take k,org,none,[],false⟩ s.af } (fr.drop k):=by
 have hT:=nU s.db s.bb s.fb s.n s.m k s.bl s.d fr w _ _ rfl rfl (by omega) h.disk hG.all hG.lt.1;obtain⟨cap,hp,_,_⟩:=h.pool;have c1:w.cell? ⟨s.pb,1,none⟩=some (.pointer (some ⟨s.db,0,none⟩)):=hp.cell? 1;have c2:w.cell? ⟨s.pb,2,none⟩=some (.slice (s.ab.map fun b=>⟨b,0,none⟩) s.af.length cap):=hp.cell? 2;have H:Hid (ai w s/\Good s fr):=⟨h,hG⟩
 have hml:=hG.heap.len;have hpos:posOf s.names t<=s.af.length:=by
  have:=List.countP_le_length (p:=fun n=>decide (bW n t<0)) (l:=s.names);simpa [St.names,posOf] using this
 have YZ:∀(W:World)(s1:St),ai W s1->s1.pb=s.pb->s1.ab=s.ab->s1.af=s.af->∀vb,Calls prog 118 #[.pointer (some ⟨s.pb,0,none⟩),.int .i64 (posOf s.names t:Nat),.pointer (some ⟨vb,0,none⟩)] W fun e w'=>e=.returned (.tuple #[])/\JD W w' s1 ((s1.af.take (posOf s.names t)).map (fun v=>ptr v.vb)++[ptr vb]++(s1.af.drop (posOf s.names t)).map (fun v=>ptr v.vb)):=by
  intro W s1 hP e1 e2 e3 vb;cases hab:s.ab with
  | none=>
   have hv0:=hP.wF (e2.trans hab);have hp0:posOf s.names t=0:=by
    have:s.af=[]:=by rw[<-e3];exact hv0
    have hl:s.af.length=0:=by rw[this];rfl
    omega
   have:=insert_nil s1 vb W hP (e2.trans hab);rw[e1]at this;rw[hp0,hv0];exact this
  | some b=>
   have:=JE s1 vb b (posOf s.names t) W hP (e2.trans hab) (by rw[e3];exact hpos);rw[e1]at this;exact this
 have HVO:Hid (∀o,org=some o->∃u∈s.af,u.vb=o/\u.org=none/\k<=u.xs.length):=hvo;clear h hG hp hvo;generalize hpo:posOf s.names t=po at *;have HPO:Hid (posOf s.names t=po):=hpo;clear hpo;have l0:(s.af.length:Int)<20:=by omega
 go_enter func82,ntmps82
 go_wp2_with fail
 refine hT.mono ?_;rintro e w1 (⟨_,v',rfl,hD,hown,hS⟩|⟨h1,_⟩)
 case inr=>omega
 obtain⟨h,hG⟩:=H.out;obtain⟨a',cap',rfl⟩:=ak hown;have zX:=(hG.heap.pops k (by omega)).1;rw[zX,List.map_map]at hown;have zY:(fr.take k).length=k:=by simp;omega
 obtain⟨gb,cs,rfl,hgb,hR,hle⟩:=oV (xs:=fr.take k) hown zY.symm (by intro e;rw[e]at zY;simp at zY;omega);have hP1:=h.jO hS (by intro k hk;simp at hk;rcases hk with e|e<;>simp[e]) hD;have hvS:vb∉[s.db,s.fb]:=by
  simp only[List.mem_cons,List.not_mem_nil,or_false,not_or];exact⟨fun e=>hvb (by rw[e];exact s.zS),fun e=>hvb (by rw[e];exact s.zT)⟩
 have hV1:=hS.at hV hvS;have lvb:=hV.lt;have d1:w1.cell? ⟨vb,1,none⟩=some (.slice none 0 0):=hV1.cell? 1;have f1:w1.frozen? ⟨vb,1,none⟩=false:=hV1.frozen 1;have A3:=hV1.ax 1 (.slice (some ⟨gb,0,none⟩) k cap');simp only[List.set_cons_succ,List.set_cons_zero]at A3;have S3:Same [vb] w1 (w1.setCell ⟨vb,1,none⟩ (.slice (some ⟨gb,0,none⟩) k cap')):=(Same.refl _ _).set vb 1 _ (by simp);have hP3:=hP1.same S3 (by intro j hj hm;simp at hm;rw[hm]at hj;exact hvb hj);have OU:vb≠gb:=by omega
 have hR3:=hR.same S3 (by simpa using fun e=>OU e.symm);have V3:dG (w1.setCell ⟨vb,1,none⟩ (.slice (some ⟨gb,0,none⟩) k cap')) ⟨vb,gb,t,fr.take k,org,none,[],false⟩:=
  ⟨⟨cap',0,hle,by simp only[aF.cells,zY];exact A3,fun _=>⟨rfl,rfl⟩,fun g hg=>by cases hg⟩,⟨cs,hR3⟩,by simp[aF.foot,OU],by intro e;have e2:(fr.take k).length=0:=by { rw[show fr.take k=[] from e];rfl };omega,by show(fr.take k).length<=200;omega,by simp,fun _=>⟨rfl,rfl⟩⟩
 have hlt:=h.bn;have hgl:=hR.at_.lt;have hz1:=hS.size;clear hT hown hD c1 c2 hV1 A3
 go_wp2_with fail
 generalize w1.setCell ⟨vb,1,none⟩ (.slice (some ⟨gb,0,none⟩) k cap')=W3 at *;refine(YZ W3 _ hP3 rfl rfl rfl vb).mono ?_;rintro e w4 ⟨rfl,hA⟩;have hfo:∀j∈aF.foot ⟨vb,gb,t,fr.take k,org,none,[],false⟩,j∉St.foot { s with m:=s.m-k,bl:=s.bl,d:=eY s.m k s.d }:=by
  intro j hj hm;simp only[aF.foot,Option.toList_none,List.mem_cons,List.not_mem_nil,or_false]at hj;rcases hj with e|e
  ·exact hvb (e▸hm)
  ·have:=hlt j hm;omega
 rw[<-HPO.out]at hA;obtain⟨g,hg,hP4⟩:=GL hP3 ⟨vb,gb,t,fr.take k,org,none,[],false⟩ V3 hfo hv hx (fun o ho=>by obtain⟨u,h1,h2,h3,_⟩:=HVO.out o ho;exact⟨u,h1,h2,h3⟩) hA;have hGn:=Good.create h hG k (posOf s.names t) hf ⟨vb,gb,t,fr.take k,org,none,[],false⟩ rfl hn hvb rfl rfl (fun o ho=>by obtain⟨u,h1,h2,h3,h4⟩:=HVO.out o ho;exact⟨u,h1,h2,by rw[zY];exact h4⟩) (some g);have hsame:Same (vb::s.foot) w w4:=((hS.mono (T:=vb::s.foot) (by simp[St.foot])).step S3 (by simp)).step hA.same (by simp[St.foot]);have hg5:=S3.size;have kW:∀j∈St.foot { s with m:=s.m-k,d:=eY s.m k s.d,ab:=some g,af:=dS (posOf s.names t) ⟨vb,gb,t,fr.take k,org,none,[],false⟩ s.af },j∈s.foot\/j=vb\/w.heap.size<=j:=by
  intro j hj;rcases St.gm hj with e|e|e|e|e|⟨u,hu,hk⟩
  ·left;rw[e];exact s.xh
  ·left;rw[e];exact s.zS
  ·left;rw[e];exact s.FM
  ·left;rw[e];exact s.zT
  ·right;right;simp at e;omega
  ·rcases fC.1 hu with rfl|hu
   ·simp only[aF.foot,Option.toList_none,List.mem_cons,List.not_mem_nil,or_false]at hk;rcases hk with e|e
    ·right;left;exact e
    ·right;right;omega
   ·left;exact s.bH hu hk
 have jT:Hf w s vb w4 { s with m:=s.m-k,d:=eY s.m k s.d,ab:=some g,af:=dS (posOf s.names t) ⟨vb,gb,t,fr.take k,org,none,[],false⟩ s.af } (fr.drop k):=⟨hP4,hGn,hsame,kW,rfl,rfl⟩
 clear hP4 hGn hsame kW hA hP3 hR3 V3 S3 YZ hR hS hP1 h hG;rw[HPO.out]at jT
 go_wp2
 go_ret
 exact⟨rfl,g,gb,jT⟩
theorem JR(s:St)(t:ByteArray)(k:Int)(w:World)(h:ai w s)(ht:t.size<=maxLen)(hn:nameB t=false) :
 Calls prog 47 #[.pointer (some ⟨s.pb,0,none⟩),.string t,.int .i64 k] w fun e w'=>e=.returned (.int .i64 2)/\w'=w:=by
 have hF:=wG s t w h ht hn;have hnot:=bP;clear h ht;generalize posOf s.names t=po at *
 go_enter func47,ntmps47
 go_wp2_with (first|(go_at_call 81;refine hF.mono ?_;rintro e w' ⟨rfl,rfl⟩))
 go_ret
 exact⟨rfl,rfl⟩
theorem Dt(s:St)(t:ByteArray)(k:Int)(w:World)(h:ai w s)(ht:t.size<=maxLen)(hn:nameB t=true)(hx:s.has t=true) :
 Calls prog 47 #[.pointer (some ⟨s.pb,0,none⟩),.string t,.int .i64 k] w fun e w'=>e=.returned (.int .i64 3)/\w'=w:=by
 have hF:=rH s t w h ht hn hx;have hnot:=bP;clear h ht;generalize posOf s.names t=po at *
 go_enter func47,ntmps47
 go_wp2_with (first|(go_at_call 81;refine hF.mono ?_;rintro e w' ⟨rfl,rfl⟩))
 go_ret
 exact⟨rfl,rfl⟩
theorem ND(s:St)(t:ByteArray)(k:Int)(w:World)(h:ai w s)(ht:t.size<=maxLen)(hn:nameB t=true)(hx:s.has t=false)(hk:¬(1<=k/\k<=200)) :
 Calls prog 47 #[.pointer (some ⟨s.pb,0,none⟩),.string t,.int .i64 k] w fun e w'=>e=.returned (.int .i64 1)/\w'=w:=by
 have hF:=jX s t w h ht hn hx;have hC:=eH k w;rw[decide_eq_false hk]at hC;clear hk;have hnot:=bP;clear h ht;generalize posOf s.names t=po at *
 go_enter func47,ntmps47
 go_wp2_with (first|(go_at_call 81;refine hF.mono ?_;rintro e w' ⟨rfl,rfl⟩)|(go_at_call 42;refine hC.mono ?_;rintro e w' ⟨rfl,rfl⟩))
 go_ret
 exact⟨rfl,rfl⟩
theorem uN(s:St)(t:ByteArray)(k:Nat)(w:World)(Q:Ending->World->Prop)(h:ai w s)(ht:t.size<=maxLen)(hn:nameB t=true)(hx:s.has t=false)(hk:1<=k/\k<=200)
 (hA:∀W vb,Same [] w W->w.heap.size<=vb->At W vb 133 [.string t,.slice none 0 0,.pointer none,.slice none 0 0,.bool false] ->
  Calls prog 82 #[.pointer (some ⟨s.pb,0,none⟩),.int .i64 (posOf s.names t:Nat),.pointer (some ⟨vb,0,none⟩),.int .i64 k] W fun e w'=>∃x,e=.returned (.int .i64 x)/\Q (.returned (.int .i64 x)) w') :
 Calls prog 47 #[.pointer (some ⟨s.pb,0,none⟩),.string t,.int .i64 k] w Q:=by
 have hF:=jX s t w h ht hn hx;have hC:=eH k w;rw[decide_eq_true (by omega:(1:Int)<=k/\(k:Int)<=200)]at hC;have hts:t.size<=10:=by simp[nameB]at hn;exact hn.1.2
 have hnot:=bP;clear h ht;generalize posOf s.names t=po at *
 go_enter func47,ntmps47
 go_wp2_with (first|(go_at_call 81;refine hF.mono ?_;rintro e w' ⟨rfl,rfl⟩)|(go_at_call 42;refine hC.mono ?_;rintro e w' ⟨rfl,rfl⟩))
 refine(yO t _ (by omega)).mono ?_;rintro e w2 ⟨rfl,S2⟩
 go_wp2_with fail
 have A0:=At.new w2 #[Value.string t,Value.slice none 0 0,Value.pointer none,Value.slice none 0 0,Value.bool false] 133;have hz:=S2.size;refine(hA _ _ (S2.alloc _) hz A0).mono ?_;rintro e w3 ⟨x,rfl,hQ⟩;clear hA A0
 go_wp2
 exact hQ
theorem KO(s:St)(t:ByteArray)(k:Nat)(w:World)(h:ai w s)(ht:t.size<=maxLen)(hn:nameB t=true)(hx:s.has t=false)(hk:1<=k/\k<=200)(hv:20<=s.af.length) :
 Calls prog 47 #[.pointer (some ⟨s.pb,0,none⟩),.string t,.int .i64 k] w fun e w'=>e=.returned (.int .i64 5)/\Same [] w w':=
 uN s t k w _ h ht hn hx hk fun W vb hW _ _=>(JG s _ _ vb W (h.new hW) hv).mono fun e w' ⟨h1,h2⟩=>⟨5,h1,rfl,by rw[h2];exact hW⟩
theorem After.old{w0 w w':World}{s s':St}{fr:List Nat}(h:After w s w' s' fr)(h0:Same [] w0 w):After w0 s w' s' fr:=
 ⟨h.pool,h.good,(h0.mono (T:=s.foot) (by simp)).step h.same (fun k hk _=>hk),fun k hk=>(h.foot k hk).imp id fun e=>Nat.le_trans h0.size e,h.pb,h.n⟩
theorem KW(s:St)(fr:List Nat)(t:ByteArray)(k:Nat)(w:World)(h:ai w s)(hG:Good s fr)(ht:t.size<=maxLen)(hn:nameB t=true)(hx:s.has t=false)(hk:1<=k/\k<=200)(hv:s.af.length<20)(hf:fr.length<k) :
 Calls prog 47 #[.pointer (some ⟨s.pb,0,none⟩),.string t,.int .i64 k] w fun e w'=>e=.returned (.int .i64 6)/\∃d',After w s w' { s with d:=d' } fr:=
 uN s t k w _ h ht hn hx hk fun W vb hW _ _=>(J9 s fr _ k vb W (h.new hW) hG hk hv hf).mono fun e w' ⟨h1,d',h2⟩=>⟨6,h1,rfl,d',h2.old hW⟩
theorem QU(s:St)(fr:List Nat)(t:ByteArray)(k:Nat)(w:World)(h:ai w s)(hG:Good s fr)(ht:t.size<=maxLen)(hn:nameB t=true)(hx:s.has t=false)(hk:1<=k/\k<=200)(hv:s.af.length<20)(hf:k<=fr.length) :
 Calls prog 47 #[.pointer (some ⟨s.pb,0,none⟩),.string t,.int .i64 k] w fun e w'=>e=.returned (.int .i64 0) /\
  ∃g vb gb,After w s w' { s with m:=s.m-k,d:=eY s.m k s.d,ab:=some g,af:=dS (posOf s.names t) ⟨vb,gb,t,fr.take k,none,none,[],false⟩ s.af } (fr.drop k)/\w.heap.size<=vb:=
 uN s t k w _ h ht hn hx hk fun W vb hW hvb hA=>
  (TB s fr t k vb none W (h.new hW) hG hA (fun hm=>by have:=h.bn _ hm;omega) hn hx hk hv hf (by simp)).mono fun e w' ⟨h1,g,gb,h2⟩=>⟨0,h1,rfl,g,vb,gb,h2.after hW hvb,hvb⟩
theorem F5(s:St)(t u:ByteArray)(k:Int)(w:World)(h:ai w s)(ht:t.size<=maxLen)(hn:nameB t=false) :
 Calls prog 57 #[.pointer (some ⟨s.pb,0,none⟩),.string t,.string u,.int .i64 k] w fun e w'=>e=.returned (.int .i64 2)/\w'=w:=by
 have hF:=wG s t w h ht hn;have hnot:=bP;clear h ht;generalize posOf s.names t=po at *
 go_enter func57,ntmps57
 go_wp2_with (first|(go_at_call 81;refine hF.mono ?_;rintro e w' ⟨rfl,rfl⟩))
 go_ret
 exact⟨rfl,rfl⟩
theorem Bv(s:St)(t u:ByteArray)(k:Int)(w:World)(h:ai w s)(ht:t.size<=maxLen)(hn:nameB t=true)(hx:s.has t=true) :
 Calls prog 57 #[.pointer (some ⟨s.pb,0,none⟩),.string t,.string u,.int .i64 k] w fun e w'=>e=.returned (.int .i64 3)/\w'=w:=by
 have hF:=rH s t w h ht hn hx;have hnot:=bP;clear h ht;generalize posOf s.names t=po at *
 go_enter func57,ntmps57
 go_wp2_with (first|(go_at_call 81;refine hF.mono ?_;rintro e w' ⟨rfl,rfl⟩))
 go_ret
 exact⟨rfl,rfl⟩
theorem F6(s:St)(t u:ByteArray)(k:Int)(w:World)(h:ai w s)(ht:t.size<=maxLen)(hn:nameB t=true)(hx:s.has t=false)(hu:s.has u=false) :
 Calls prog 57 #[.pointer (some ⟨s.pb,0,none⟩),.string t,.string u,.int .i64 k] w fun e w'=>e=.returned (.int .i64 4)/\w'=w:=by
 have hF:=jX s t w h ht hn hx;have hD:=qf s u w h hu;have hnot:=bP;clear h ht;generalize posOf s.names t=po at *
 go_enter func57,ntmps57
 go_wp2_with (first|(go_at_call 81;refine hF.mono ?_;rintro e w' ⟨rfl,rfl⟩)|(go_at_call 77;refine hD.mono ?_;rintro e w' ⟨rfl,rfl⟩))
 go_ret
 exact⟨rfl,rfl⟩
theorem zI(s:St)(t u:ByteArray)(k:Int)(w:World)(h:ai w s)(ht:t.size<=maxLen)(hn:nameB t=true)(hx:s.has t=false)(hu:s.has u=true)(ho:(s.aA u).org≠none) :
 Calls prog 57 #[.pointer (some ⟨s.pb,0,none⟩),.string t,.string u,.int .i64 k] w fun e w'=>e=.returned (.int .i64 7)/\w'=w:=by
 have hF:=jX s t w h ht hn hx;have hD:=dM s u w h hu;have hm:=(St.aT hu).1;have hI:=aJ (s.aA u) w (h.af _ hm);have ho':(s.aA u).org.isSome=true:=by cases hq:(s.aA u).org<;>simp_all
 rw[ho']at hI;generalize (s.aA u).vb=ub at *;have hnot:=bP;clear h ht;generalize posOf s.names t=po at *
 go_enter func57,ntmps57
 go_wp2_with (first|(go_at_call 81;refine hF.mono ?_;rintro e w' ⟨rfl,rfl⟩)|(go_at_call 77;refine hD.mono ?_;rintro e w' ⟨rfl,rfl⟩)|(go_at_call 88;refine hI.mono ?_;rintro e w' ⟨rfl,rfl⟩))
 go_ret
 exact⟨rfl,rfl⟩
theorem Lj(s:St)(t u:ByteArray)(k:Int)(w:World)(h:ai w s)(ht:t.size<=maxLen)(hn:nameB t=true)(hx:s.has t=false)(hu:s.has u=true)(ho:(s.aA u).org=none)(hk:k<1) :
 Calls prog 57 #[.pointer (some ⟨s.pb,0,none⟩),.string t,.string u,.int .i64 k] w fun e w'=>e=.returned (.int .i64 1)/\w'=w:=by
 have hF:=jX s t w h ht hn hx;have hD:=dM s u w h hu;have hm:=(St.aT hu).1;have hI:=aJ (s.aA u) w (h.af _ hm);rw[ho]at hI;generalize (s.aA u).vb=ub at *;have hnot:=bP;clear h ht;generalize posOf s.names t=po at *
 go_enter func57,ntmps57
 go_wp2_with (first|(go_at_call 81;refine hF.mono ?_;rintro e w' ⟨rfl,rfl⟩)|(go_at_call 77;refine hD.mono ?_;rintro e w' ⟨rfl,rfl⟩)|(go_at_call 88;refine hI.mono ?_;rintro e w' ⟨rfl,rfl⟩))
 go_ret
 exact⟨rfl,rfl⟩
theorem Ig(s:St)(t u:ByteArray)(k:Int)(w:World)(h:ai w s)(ht:t.size<=maxLen)(hn:nameB t=true)(hx:s.has t=false)(hu:s.has u=true)(ho:(s.aA u).org=none)(hk0:1<=k)(hk:(s.aA u).xs.length<k) :
 Calls prog 57 #[.pointer (some ⟨s.pb,0,none⟩),.string t,.string u,.int .i64 k] w fun e w'=>e=.returned (.int .i64 1)/\w'=w:=by
 have hF:=jX s t w h ht hn hx;have hD:=dM s u w h hu;have hm:=(St.aT hu).1;have hI:=aJ (s.aA u) w (h.af _ hm);rw[ho]at hI;have hZ:=kV (s.aA u) w (h.af _ hm) ho;have hsm:=(h.af _ hm).small;generalize (s.aA u).vb=ub at *;generalize (s.aA u).xs.length=ul at *;have hnot:=bP;clear h ht;generalize posOf s.names t=po at *
 go_enter func57,ntmps57
 go_wp2_with (first|(go_at_call 81;refine hF.mono ?_;rintro e w' ⟨rfl,rfl⟩)|(go_at_call 77;refine hD.mono ?_;rintro e w' ⟨rfl,rfl⟩)|(go_at_call 88;refine hI.mono ?_;rintro e w' ⟨rfl,rfl⟩)|(go_at_call 94;refine hZ.mono ?_;rintro e w' ⟨rfl,rfl⟩))
 go_ret
 exact⟨rfl,rfl⟩
theorem rP(s:St)(t u:ByteArray)(k:Nat)(w:World)(Q:Ending->World->Prop)(h:ai w s)(ht:t.size<=maxLen)(hn:nameB t=true)(hx:s.has t=false)(hu:s.has u=true)(ho:(s.aA u).org=none)(hk:1<=k/\k<=(s.aA u).xs.length)
 (hA:∀W vb,Same [] w W->w.heap.size<=vb->At W vb 133 [.string t,.slice none 0 0,.pointer (some ⟨(s.aA u).vb,0,none⟩),.slice none 0 0,.bool false] ->
  Calls prog 82 #[.pointer (some ⟨s.pb,0,none⟩),.int .i64 (posOf s.names t:Nat),.pointer (some ⟨vb,0,none⟩),.int .i64 k] W fun e w'=>∃x,e=.returned (.int .i64 x)/\Q (.returned (.int .i64 x)) w') :
 Calls prog 57 #[.pointer (some ⟨s.pb,0,none⟩),.string t,.string u,.int .i64 k] w Q:=by
 have hF:=jX s t w h ht hn hx;have hD:=dM s u w h hu;have hm:=(St.aT hu).1;have hI:=aJ (s.aA u) w (h.af _ hm);rw[ho]at hI;have hZ:=kV (s.aA u) w (h.af _ hm) ho;have hsm:=(h.af _ hm).small;have hts:t.size<=10:=by simp[nameB]at hn;exact hn.1.2
 have hnot:=bP;clear h ht hm;generalize posOf s.names t=po at *;generalize (s.aA u).vb=ub at *;generalize (s.aA u).xs.length=ul at *;have l1:(1:Int)<=(k:Int):=by omega
 have l2:(k:Int)<=(ul:Int):=by omega
 go_enter func57,ntmps57
 go_wp2_with (first|(go_at_call 81;refine hF.mono ?_;rintro e w' ⟨rfl,rfl⟩)|(go_at_call 77;refine hD.mono ?_;rintro e w' ⟨rfl,rfl⟩)|(go_at_call 88;refine hI.mono ?_;rintro e w' ⟨rfl,rfl⟩)|(go_at_call 94;refine hZ.mono ?_;rintro e w' ⟨rfl,rfl⟩))
 refine(yO t _ (by omega)).mono ?_;rintro e w2 ⟨rfl,S2⟩
 go_wp2_with fail
 have A0:=At.new w2 #[Value.string t,Value.slice none 0 0,Value.pointer (some ⟨ub,0,none⟩),Value.slice none 0 0,Value.bool false] 133;have hz:=S2.size;refine(hA _ _ (S2.alloc _) hz A0).mono ?_;rintro e w3 ⟨x,rfl,hQ⟩;clear hA A0
 go_wp2
 exact hQ
theorem GU(s:St)(t u:ByteArray)(k:Nat)(w:World)(h:ai w s)(ht:t.size<=maxLen)(hn:nameB t=true)(hx:s.has t=false)(hu:s.has u=true)(ho:(s.aA u).org=none)(hk:1<=k/\k<=(s.aA u).xs.length)(hv:20<=s.af.length) :
 Calls prog 57 #[.pointer (some ⟨s.pb,0,none⟩),.string t,.string u,.int .i64 k] w fun e w'=>e=.returned (.int .i64 5)/\Same [] w w':=
 rP s t u k w _ h ht hn hx hu ho hk fun W vb hW _ _=>(JG s _ _ vb W (h.new hW) hv).mono fun e w' ⟨h1,h2⟩=>⟨5,h1,rfl,by rw[h2];exact hW⟩
theorem FN(s:St)(fr:List Nat)(t u:ByteArray)(k:Nat)(w:World)(h:ai w s)(hG:Good s fr)(ht:t.size<=maxLen)(hn:nameB t=true)(hx:s.has t=false)(hu:s.has u=true)(ho:(s.aA u).org=none)(hk:1<=k/\k<=(s.aA u).xs.length)(hv:s.af.length<20)(hf:fr.length<k) :
 Calls prog 57 #[.pointer (some ⟨s.pb,0,none⟩),.string t,.string u,.int .i64 k] w fun e w'=>e=.returned (.int .i64 6)/\∃d',After w s w' { s with d:=d' } fr:=
 rP s t u k w _ h ht hn hx hu ho hk fun W vb hW _ _=>(J9 s fr _ k vb W (h.new hW) hG ⟨hk.1,by have:=(h.af _ (St.aT hu).1).small;omega⟩ hv hf).mono fun e w' ⟨h1,d',h2⟩=>⟨6,h1,rfl,d',h2.old hW⟩
theorem Nh(s:St)(fr:List Nat)(t u:ByteArray)(k:Nat)(w:World)(h:ai w s)(hG:Good s fr)(ht:t.size<=maxLen)(hn:nameB t=true)(hx:s.has t=false)(hu:s.has u=true)(ho:(s.aA u).org=none)(hk:1<=k/\k<=(s.aA u).xs.length)(hv:s.af.length<20)(hf:k<=fr.length) :
 Calls prog 57 #[.pointer (some ⟨s.pb,0,none⟩),.string t,.string u,.int .i64 k] w fun e w'=>e=.returned (.int .i64 0) /\
  ∃g vb gb,After w s w' { s with m:=s.m-k,d:=eY s.m k s.d,ab:=some g,af:=dS (posOf s.names t) ⟨vb,gb,t,fr.take k,some (s.aA u).vb,none,[],false⟩ s.af } (fr.drop k)/\w.heap.size<=vb:=
 rP s t u k w _ h ht hn hx hu ho hk fun W vb hW hvb hA=>
  (TB s fr t k vb (some (s.aA u).vb) W (h.new hW) hG hA (fun hm=>by have:=h.bn _ hm;omega) hn hx ⟨hk.1,by have:=(h.af _ (St.aT hu).1).small;omega⟩ hv hf (fun o ho2=>⟨s.aA u,(St.aT hu).1,by simpa using ho2,ho,hk.2⟩)).mono fun e w' ⟨h1,g,gb,h2⟩=>⟨0,h1,rfl,g,vb,gb,h2.after hW hvb,hvb⟩
theorem Ep(s:St)(fr:List Nat)(i:Nat)(v:aF)(k:Nat)(b:aN)(w:World)(u:Value)(hu:u=b.val)(h:ai w s)(hG:Good s fr)(hi:i<s.af.length)(hv:s.af[i]! = v)(ho:v.org≠none)(hf:v.kept.length=v.xs.length) :
 Calls prog 123 #[.pointer (some ⟨s.pb,0,none⟩),.pointer (some ⟨v.vb,0,none⟩),.int .i64 k,u] w fun e w'=>e=.returned (.int .i64 10) /\
  After w s w' { s with bl:=bM v.xs s.bl,af:=aC i v.losing s.af } fr:=by
 subst hu;obtain⟨x0,x1,x2,x3,x4,x5,x6,x7⟩:=b;have hmem:v∈s.af:=by rw[<-hv];exact get_mem hi
 have hV:=h.af v hmem;obtain⟨cap,dW,hcap,hvo,hk1,hk2⟩:=hV.aA;have hsm:=hV.small;have lv:=hvo.lt;have c1:w.cell? ⟨v.vb,1,none⟩=some (.slice (some ⟨v.gb,0,none⟩) v.xs.length cap):=hvo.cell? 1;have c3:w.cell? ⟨v.vb,3,none⟩=some (.slice (mO v.kg) v.kept.length dW):=hvo.cell? 3;have hL:=fun W (hW:Same [] w W)=>NS s fr i v W (h.new hW) hG hi hv ho
 clear h hG hvo hV hk1 hk2;unfold aN.val
 go_enter func123,ntmps123
 go_wp2_with (go_at_call 139;refine(hL _ ((Same.refl _ _).alloc _)).mono ?_;rintro e w2 ⟨rfl,hA⟩)
 have jT:=hA.old ((Same.refl [] w).alloc (Obj.cells #[.int .u8 x0,.int .u8 x1,.int .u8 x2,.int .u8 x3,.int .u8 x4,.int .u8 x5,.int .u8 x6,.int .u8 x7] 91));clear hA hL
 go_ret
 exact⟨rfl,jT⟩
def aF.keeping(v:aF)(g k:Nat):aF:={ v with kg:=some g,kept:=v.kept++[k] }
theorem Eg(s:St)(fr:List Nat)(i:Nat)(v:aF)(k:Nat)(b:aN)(w:World)(u:Value)(hu:u=b.val)(h:ai w s)(hG:Good s fr)(hi:i<s.af.length)(hv:s.af[i]! = v)(ho:v.org≠none)(hl:v.lost=false)(hf:v.kept.length<v.xs.length)(hk:k∉v.kept)(hks:k<s.size v) :
 Calls prog 123 #[.pointer (some ⟨s.pb,0,none⟩),.pointer (some ⟨v.vb,0,none⟩),.int .i64 k,u] w fun e w'=>e=.returned (.int .i64 0) /\
  ∃g,After w s w' { s with bl:=s.bl.set v.xs[v.kept.length]! b,af:=aC i (v.keeping g k) s.af } fr:=by
 subst hu;obtain⟨x0,x1,x2,x3,x4,x5,x6,x7⟩:=b;have hmem:v∈s.af:=by rw[<-hv];exact get_mem hi
 have hV:=h.af v hmem;obtain⟨cap,dW,hcap,hvo,hk1,hk2⟩:=hV.aA;obtain⟨cs,hr⟩:=hV.row;have hsm:=hV.small;have lv:=hvo.lt;have hown:w.ownsRow 0 3 1 (.slice (mO v.kg) v.kept.length dW) v.kept.length (v.kept.map (fun x:Nat=>Value.int .i64 x)):=by
  cases hg:v.kg with
  | none=>
   obtain⟨q1,q2⟩:=hk1 hg;rw[q1,q2];exact World.ownsRow_nil _ _ _ _
  | some g=>exact yK (hk2 g hg) rfl
 have hob:(Value.slice (mO v.kg) v.kept.length dW).ownBlock=v.kg:=by
  cases hg:v.kg<;>rfl
 have lb:∀q,v.kg=some q->q<w.heap.size:=fun q hq=>(hk2 q hq).lt
 obtain⟨i0,hi0,hz0,hz1,hz2⟩:=info_parts Tryz.info3;have c1:w.cell? ⟨v.vb,1,none⟩=some (.slice (some ⟨v.gb,0,none⟩) v.xs.length cap):=hvo.cell? 1;have c3:w.cell? ⟨v.vb,3,none⟩=some (.slice (mO v.kg) v.kept.length dW):=hvo.cell? 3;have hne:((v.kept.length:Int) == (v.xs.length:Int))=false:=beq_eq_false_iff_ne.2 (by omega);have H:Hid (ai w s/\Good s fr/\dG w v):=⟨h,hG,hV⟩
 have HV:Hid (At w v.vb 133 (v.cells cap dW)/\jd w v.gb v.xs cs):=⟨hvo,hr⟩
 clear h hG hvo hV hk1 hk2 hr;unfold aN.val
 go_enter func123,ntmps123
 go_wp2_with (first|(at_builtin;refine wpList_append_own_at _ rfl _ _ 51 rfl 0 3 i0 (.int .i64 0) 1 8 underlying51 hi0 hz0 hz1 hz2 rfl (by decide) _ _ _ rfl ((hown.alloc _).alloc _) ⟨w.heap.size+1,0,none⟩ 1 1 [.int .i64 (k:Nat)] rfl rfl ?c1 ?c2 ?c3 ?c4 ?c5 ?_))
 case c1=>
  intro j u hj
  match j,hj with
  | 0,hj=>simp at hj;subst hj;simp[Addr.add]
 case c2=>intro u hu;simp at hu;subst hu;rfl
 case c3=>unfold maxLen;omega
 case c4=>omega
 case c5=>first|omega|(simp;done)|(simp;omega)
 intro v' w4 hown' hgrow _ hblk
 try rw[hob]at hgrow
 try rw[hob]at hblk
 obtain⟨hvo,hr⟩:=HV.out;obtain⟨h,hG,hV⟩:=H.out;have S4:Same v.kg.toList w w4:=(((Same.refl _ _).alloc _).alloc _).grown hgrow (fun i hi hl=>by rw[hi];simp);have hown2:w4.ownsRow 0 3 1 v' (v.kept.length+1) ((v.kept++[k]).map (fun x:Nat=>Value.int .i64 x)):=by
  rw[List.map_append];exact hown'
 obtain⟨g,kc2,rfl,_,hN⟩:=nJ hown2 (by simp);have hgo:v.kg=some g\/w.heap.size+2<=g:=by
  rcases hblk with hq|hq
  ·exact .inl hq.symm
  ·right
   have:=hq;simp[Value.ownBlock]at this;omega
 have Y0:=hV.nodup;simp only[aF.foot,List.nodup_cons,List.mem_cons,not_or,Option.mem_toList,Option.mem_def]at Y0;obtain⟨⟨nv1,nv2⟩,nv3,_⟩:=Y0;have b1:=S4.at hvo (by simpa using nv2);have f3:w4.frozen? ⟨v.vb,3,none⟩=false:=b1.frozen 3;have g3:w4.cell? ⟨v.vb,3,none⟩=some (.slice (mO v.kg) v.kept.length dW):=b1.cell? 3;have ng:g≠v.vb:=by
  rcases hgo with hq|hq
  ·intro e;exact nv2 (by rw[hq,e])
  ·omega
 have ng2:g≠v.gb:=by
  rcases hgo with hq|hq
  ·intro e;exact nv3 (by rw[hq,e])
  ·have:=hr.at_.lt;omega
 have S5:Same (v.vb::v.kg.toList) w (w4.setCell ⟨v.vb,3,none⟩ (.slice (some ⟨g,0,none⟩) (v.kept++[k]).length kc2)):=
  (S4.mono (by intro b hb _;exact List.mem_cons_of_mem _ hb)).set _ _ _ (by simp)
 have A5:=b1.ax 3 (.slice (some ⟨g,0,none⟩) (v.kept++[k]).length kc2);have V5:dG (w4.setCell ⟨v.vb,3,none⟩ (.slice (some ⟨g,0,none⟩) (v.kept++[k]).length kc2)) (v.keeping g k):=by
  refine⟨⟨cap,kc2,hcap,A5,(fun e=>by cases e),fun g' hg'=>?_⟩,⟨cs,hr.same S5 ?_⟩,?_,hV.pos,hV.small,by simp[aF.keeping];omega,fun e=>absurd e ho⟩
  ·cases hg';obtain⟨cs',h1,h2⟩:=hN.ex;exact⟨cs',h1.aP _ _ _ ng,h2⟩
  ·simp only[List.mem_cons,not_or,Option.mem_toList,Option.mem_def];exact⟨fun e=>nv1 e.symm,nv3⟩
  ·simp only[aF.keeping,aF.foot,Option.toList_some];simp only[List.nodup_cons,List.mem_cons,List.not_mem_nil,or_false,not_or,not_false_eq_true,and_true,List.nodup_nil];exact⟨⟨nv1,fun e=>ng e.symm⟩,fun e=>ng2 e.symm⟩
 have hft:∀q∈(v.keeping g k).foot,q∈(s.af[i]!).foot\/w.heap.size<=q:=by
  intro q hq;rw[hv];simp only[aF.keeping,aF.foot,Option.toList_some,List.mem_cons,List.not_mem_nil,or_false,Option.mem_toList,Option.mem_def]at hq ⊢;rcases hq with e|e|e
  ·left;left;exact e
  ·left;right;left;exact e
  ·rcases hgo with hq|hq
   ·left;right;right;rw[e];exact hq
   ·right;omega
 have hP5:=pX h i hi (v.keeping g k) (by rw[hv];rfl) (by rw[hv];rfl) (by rw[hv];rfl) hft V5 (S5.mono (by
  intro q hq _;rw[hv];simp only[List.mem_cons,Option.mem_toList,Option.mem_def,aF.foot]at hq ⊢;rcases hq with e|e
  ·exact Or.inl e
  ·exact Or.inr (Or.inr e)))
 have hpc:CO (aC i (v.keeping g k) s.af):=by
  refine CZ h hG.dN i hi (v.keeping g k) (by rw[hv];rfl) (by rw[hv];rfl) ?_ ?_ ?_ (fun u hu e=>(hG.dN u hu).2.2 v hmem e)
  ·show(v.kept++[k]).Nodup;exact List.nodup_append.2 ⟨(hG.dN v hmem).1,by simp,by intro a ha b hb e;simp at hb;subst hb;subst e;exact hk ha⟩
  ·intro e;have e':v.lost=true:=e;rw[hl]at e';cases e'
  ·intro u hu e;have hp:=(hG.dN v hmem).2.2 u hu e;refine⟨fun q hq=>?_,hp.2⟩;have hq':q∈v.kept++[k]:=hq;rcases List.mem_append.1 hq' with hq'|hq'
   ·exact hp.1 q hq'
   ·simp at hq';subst hq';have e1:=(h.aB hmem).2.2.2 ho;have e2:s.aB v=u:=h.mF (h.aB hmem).1 hu (by
     have e':v.org=some u.vb:=e;rw[e']at e1;simpa using e1.symm)
    have:s.size v=u.xs.length:=by unfold St.size;rw[e2]
    omega
 have hyx:v.xs[v.kept.length]!∈v.xs:=aK hf;have hyn:=hG.lt.2 v hmem _ hyx;have hG2:=hG.set i hi (v.keeping g k) (by rw[hv];rfl) (by rw[hv];rfl) (s.bl.set v.xs[v.kept.length]! ⟨x0,x1,x2,x3,x4,x5,x6,x7⟩) (Tt hG h.disk.len _ (hG.wY hmem hyx) _) hpc;have cx:w4.cell? ⟨v.gb,v.kept.length,none⟩=some (.int .i64 (v.xs[v.kept.length]!:Nat)):=by
  rw[(S4.at hr.at_ (by simpa using nv3)).cell?];exact hr.cell _ hf
 obtain⟨pU,hp,_,_⟩:=h.pool;have OV:=(jJ h.nodup).disk v hmem;have npb:s.pb≠v.vb:=by have:=OV v.vb (by simp[aF.foot]);simp only[List.mem_cons,not_or]at this;exact fun e=>this.1 e.symm
 have npk:v.kg≠some s.pb:=fun e=>by have:=OV s.pb (by simp[aF.foot,e]);simp at this
 have p1:w4.cell? ⟨s.pb,1,none⟩=some (.pointer (some ⟨s.db,0,none⟩)):=(S4.at hp (by simpa using npk)).cell? 1;have d1:w4.cell? ⟨v.vb,1,none⟩=some (.slice (some ⟨v.gb,0,none⟩) v.xs.length cap):=b1.cell? 1;have B0:At ((w.alloc (Obj.cells #[.int .u8 x0,.int .u8 x1,.int .u8 x2,.int .u8 x3,.int .u8 x4,.int .u8 x5,.int .u8 x6,.int .u8 x7] 91)).alloc (Obj.cells #[.int .i64 (k:Nat)] 3)) w.heap.size 91 [.int .u8 x0,.int .u8 x1,.int .u8 x2,.int .u8 x3,.int .u8 x4,.int .u8 x5,.int .u8 x6,.int .u8 x7]:=(At.new w _ _).alloc _;have B4:=B0.of_heap (hgrow.block w.heap.size B0.lt (fun e=>by have:=lb _ e.symm;omega));have B5:=B4.aP v.vb 3 (.slice (some ⟨g,0,none⟩) (v.kept++[k]).length kc2) (by omega);have z0:(w4.setCell ⟨v.vb,3,none⟩ (.slice (some ⟨g,0,none⟩) (v.kept++[k]).length kc2)).cell? ⟨w.heap.size,0,none⟩=some (.int .u8 x0):=B5.cell? 0;have z1:(w4.setCell ⟨v.vb,3,none⟩ (.slice (some ⟨g,0,none⟩) (v.kept++[k]).length kc2)).cell? ⟨w.heap.size,1,none⟩=some (.int .u8 x1):=B5.cell? 1;have z2:(w4.setCell ⟨v.vb,3,none⟩ (.slice (some ⟨g,0,none⟩) (v.kept++[k]).length kc2)).cell? ⟨w.heap.size,2,none⟩=some (.int .u8 x2):=B5.cell? 2;have z3:(w4.setCell ⟨v.vb,3,none⟩ (.slice (some ⟨g,0,none⟩) (v.kept++[k]).length kc2)).cell? ⟨w.heap.size,3,none⟩=some (.int .u8 x3):=B5.cell? 3;have z4:(w4.setCell ⟨v.vb,3,none⟩ (.slice (some ⟨g,0,none⟩) (v.kept++[k]).length kc2)).cell? ⟨w.heap.size,4,none⟩=some (.int .u8 x4):=B5.cell? 4;have z5:(w4.setCell ⟨v.vb,3,none⟩ (.slice (some ⟨g,0,none⟩) (v.kept++[k]).length kc2)).cell? ⟨w.heap.size,5,none⟩=some (.int .u8 x5):=B5.cell? 5;have z6:(w4.setCell ⟨v.vb,3,none⟩ (.slice (some ⟨g,0,none⟩) (v.kept++[k]).length kc2)).cell? ⟨w.heap.size,6,none⟩=some (.int .u8 x6):=B5.cell? 6;have z7:(w4.setCell ⟨v.vb,3,none⟩ (.slice (some ⟨g,0,none⟩) (v.kept++[k]).length kc2)).cell? ⟨w.heap.size,7,none⟩=some (.int .u8 x7):=B5.cell? 7;have e1:(w4.setCell ⟨v.vb,3,none⟩ (.slice (some ⟨g,0,none⟩) (v.kept++[k]).length kc2)).cell? ⟨s.pb,1,none⟩=some (.pointer (some ⟨s.db,0,none⟩)):=((S4.at hp (by simpa using npk)).aP v.vb 3 _ npb).cell? 1;have e2:(w4.setCell ⟨v.vb,3,none⟩ (.slice (some ⟨g,0,none⟩) (v.kept++[k]).length kc2)).cell? ⟨v.vb,1,none⟩=some (.slice (some ⟨v.gb,0,none⟩) v.xs.length cap):=A5.cell? 1;have e3:(w4.setCell ⟨v.vb,3,none⟩ (.slice (some ⟨g,0,none⟩) (v.kept++[k]).length kc2)).cell? ⟨v.gb,v.kept.length,none⟩=some (.int .i64 (v.xs[v.kept.length]!:Nat)):=by
  rw[((S4.at hr.at_ (by simpa using nv3)).aP v.vb 3 _ (fun e=>nv1 e.symm)).cell?];exact hr.cell _ hf
 have hW:=fun W (hW:Same [] (w4.setCell ⟨v.vb,3,none⟩ (.slice (some ⟨g,0,none⟩) (v.kept++[k]).length kc2)) W) u (hu:u=aN.val ⟨x0,x1,x2,x3,x4,x5,x6,x7⟩)=>iR s.db s.bb s.n v.xs[v.kept.length]! _ _ _ s.bl ⟨x0,x1,x2,x3,x4,x5,x6,x7⟩ W _ u _ rfl rfl hu (hW.at hP5.disk.disk (by simp)) (hW.at hP5.disk.data (by simp)) h.disk.len hyn (by have:=h.disk.small;omega)
 have HF:Hid (∀w6,At w6 s.bb 91 (flat (s.bl.set v.xs[v.kept.length]! ⟨x0,x1,x2,x3,x4,x5,x6,x7⟩))->Same [s.bb] (w4.setCell ⟨v.vb,3,none⟩ (.slice (some ⟨g,0,none⟩) (v.kept++[k]).length kc2)) w6->After w s w6 { s with bl:=s.bl.set v.xs[v.kept.length]! ⟨x0,x1,x2,x3,x4,x5,x6,x7⟩,af:=aC i (v.keeping g k) s.af } fr):=by
  intro w6 A6 S6;have hD:=hP5.disk;have D6:dX w6 s.db s.bb s.fb s.n s.m (s.bl.set v.xs[v.kept.length]! ⟨x0,x1,x2,x3,x4,x5,x6,x7⟩) s.d:=
   ⟨S6.at hD.disk (by simp;exact hD.ne1),A6,S6.at hD.free (by simp;exact hD.MC.symm),hD.ne1,hD.Sm,hD.MC,by simp[hD.len],hD.size,hD.le,hD.small⟩
  refine⟨hP5.jO S6 (by intro q hq;simp at hq;simp[hq]) D6,hG2,(S5.mono (T:=s.foot) ?_).step S6 (by simp[St.foot]),wP (s:=s) (v:=v.keeping g k) hi hft,rfl,rfl⟩;intro q hq _;refine s.bH hmem ?_;simp only[List.mem_cons,Option.mem_toList,Option.mem_def,aF.foot]at hq ⊢;rcases hq with e|e
  ·exact Or.inl e
  ·exact Or.inr (Or.inr e)
 have HL:Hid (v.kept.length+1=(v.kept++[k]).length):=by show _=_;simp
 rw[show(v.kept++[k]).length=v.kept.length+1 by simp]at e1 e2 e3 hW HF z0 z1 z2 z3 z4 z5 z6 z7;clear hown hown' hown2 hgrow h hG hV hvo hr hP5 V5 S5 A5 b1 S4 hpc hG2 hft B0 B4 B5 hN hp cx p1 d1 H HV c1 c3 hob lb;generalize hyy:v.xs[v.kept.length]! = yy at *;have HYY:Hid (v.xs[v.kept.length]! = yy):=hyy;clear hyy;have l1:(v.kept.length:Int)<(v.xs.length:Int):=by omega
 go_wp2_with fail
 rw[show(v.kept++[k]).length=v.kept.length+1 by simp];generalize (w4.setCell ⟨v.vb,3,none⟩ (.slice (some ⟨g,0,none⟩) (v.kept.length+1) kc2))=W5 at *;refine aU 12 (by kernel_rfl) (by kernel_rfl) ?_;simp only[List.take_succ_cons,List.take_zero,List.drop_succ_cons,List.drop_zero]
 repeat still_step
 refine wpStill_nil ?_
 go_wp2_with (go_at_call 102;refine(hW _ ((Same.refl _ _).drew) _ rfl).mono ?_;rintro e w6 ⟨rfl,A6,S6⟩)
 have jT:=HF.out w6 A6 ((Same.refl _ _).drew.step S6 (by simp));clear HF A6 S6 hW
 go_ret
 exact⟨rfl,g,by rw[HYY.out];exact jT⟩
theorem dh(i j:Nat)(v:aF)(l:List aF)(hi:i<l.length)(hj:j<l.length):(aC i v l)[j]! = if j=i then v else l[j]!:=by
 have e:aC i v l=l.set i v:=by
  unfold aC;rw[List.set_eq_take_append_cons_drop,if_pos hi]
 rw[e,getElem!_pos _ j (by simpa using hj),getElem!_pos l j hj,List.getElem_set];by_cases h:i=j
 ·subst h;simp
 ·rw[if_neg h,if_neg (fun e=>h e.symm)]
theorem iM{α:Type}(f:α->List Nat):∀(l:List α),(l.flatMap f).Nodup->(∀a∈l,(f a).Nodup)/\∀i j,i<l.length->j<l.length->∀x,(∃a,l[i]? = some a/\x∈f a)->(∃b,l[j]? = some b/\x∈f b)->i=j
 | [],_=>⟨by simp,fun i j h=>by simp at h⟩
 | a::r,h=>by
  rw[List.flatMap_cons,List.nodup_append]at h;obtain⟨h1,h2,h3⟩:=h;obtain⟨i1,i2⟩:=iM f r h2;refine⟨fun x hx=>?_,fun i j hi hj x hx hy=>?_⟩
  ·rcases List.mem_cons.1 hx with rfl|hx
   ·exact h1
   ·exact i1 x hx
  ·obtain⟨p,hp,hpx⟩:=hx;obtain⟨q,hq,hqx⟩:=hy;cases i with
   | zero=>
    cases j with
    | zero=>rfl
    | succ j=>
     simp at hp hq;subst hp;exact absurd rfl (h3 x hpx x (List.mem_flatMap.2 ⟨q,List.mem_of_getElem? hq,hqx⟩))
   | succ i=>
    cases j with
    | zero=>
     simp at hp hq;subst hq;exact absurd rfl (h3 x hqx x (List.mem_flatMap.2 ⟨p,List.mem_of_getElem? hp,hpx⟩))
    | succ j=>
     simp at hp hq hi hj;rw[i2 i j hi hj x ⟨p,hp,hpx⟩ ⟨q,hq,hqx⟩]
theorem Good.oq{s:St}{fr:List Nat}(h:Good s fr){v:aF}(hv:v∈s.af):v.xs.Nodup:=
 (iM (·.xs) s.af (List.nodup_append.1 h.nodup).2.1).1 v hv
theorem Good.dP{s:St}{fr:List Nat}(h:Good s fr){i j:Nat}(hi:i<s.af.length)(hj:j<s.af.length)(hne:i≠j){x:Nat}(hx:x∈(s.af[i]!).xs):x∉(s.af[j]!).xs:=fun hy=>
 hne ((iM (·.xs) s.af (List.nodup_append.1 h.nodup).2.1).2 i j hi hj x ⟨_,by rw[getElem!_pos s.af i hi]at hx;exact⟨List.getElem?_eq_getElem hi,hx⟩⟩ ⟨_,by rw[getElem!_pos s.af j hj]at hy;exact⟨List.getElem?_eq_getElem hj,hy⟩⟩)
theorem dO{l:List aF}{v:aF}(h:v∈l):∃i,i<l.length/\l[i]! = v:=by
 obtain⟨i,hi,e⟩:=List.getElem_of_mem h;exact⟨i,hi,by rw[getElem!_pos l i hi];exact e⟩
structure Base(s s':St):Prop where
 len:s'.af.length=s.af.length
 same:∀i,i<s.af.length->(s'.af[i]!).vb=(s.af[i]!).vb/\(s'.af[i]!).name=(s.af[i]!).name/\(s'.af[i]!).xs=(s.af[i]!).xs/\(s'.af[i]!).org=(s.af[i]!).org
 lost:∀i,i<s.af.length->(s.af[i]!).lost=true->(s'.af[i]!).lost=true
theorem Base.refl(s:St):Base s s:=⟨rfl,fun _ _=>⟨rfl,rfl,rfl,rfl⟩,fun _ _ h=>h⟩
theorem Base.trans{a b c:St}(h:Base a b)(k:Base b c):Base a c:=by
 refine⟨k.len.trans h.len,fun i hi=>?_,fun i hi hl=>k.lost i (by rw[h.len];exact hi) (h.lost i hi hl)⟩;obtain⟨a1,a2,a3,a4⟩:=h.same i hi;obtain⟨b1,b2,b3,b4⟩:=k.same i (by rw[h.len];exact hi);exact⟨b1.trans a1,b2.trans a2,b3.trans a3,b4.trans a4⟩
theorem Base.aB{w w':World}{s s':St}(hb:Base s s')(h:ai w s)(h':ai w' s')(i:Nat)(hi:i<s.af.length):∃j,j<s.af.length/\s.aB (s.af[i]!)=s.af[j]!/\s'.aB (s'.af[i]!)=s'.af[j]!:=by
 obtain⟨o1,o2,o3,o4⟩:=h.aB (get_mem hi);have hi':i<s'.af.length:=by rw[hb.len];exact hi
 obtain⟨p1,p2,p3,p4⟩:=h'.aB (get_mem hi');obtain⟨q1,q2,q3,q4⟩:=hb.same i hi;by_cases ho:(s.af[i]!).org=none
 ·exact⟨i,hi,o3 ho,p3 (by rw[q4];exact ho)⟩
 ·obtain⟨j,hj,e⟩:=dO o1;refine⟨j,hj,e.symm,?_⟩;have hj':j<s'.af.length:=by rw[hb.len];exact hj
  refine h'.mF p1 (get_mem hj') ?_;have e1:=o4 ho;have e2:=p4 (by rw[q4];exact ho);rw[q4,e1]at e2;have e3:(s.aB (s.af[i]!)).vb=(s'.aB (s'.af[i]!)).vb:=by simpa using e2
  rw[<-e3,<-e,(hb.same j hj).1]
theorem Base.size{w w':World}{s s':St}(hb:Base s s')(h:ai w s)(h':ai w' s')(i:Nat)(hi:i<s.af.length):s'.size (s'.af[i]!)=s.size (s.af[i]!):=by
 obtain⟨j,hj,e1,e2⟩:=hb.aB h h' i hi;unfold St.size;rw[e1,e2,(hb.same j hj).2.2.1]
theorem vZ{w:World}{s:St}{fr:List Nat}(h:ai w s)(hG:Good s fr){i:Nat}(hi:i<s.af.length)(ho:(s.af[i]!).org≠none){j:Nat}(hj:j<s.af.length)(hne:j≠i){q:Nat}(hq:q<s.size (s.af[j]!)):s.holder (s.af[j]!) q∉(s.af[i]!).xs:=by
 unfold St.holder
 split
 ·rename_i hm
  exact hG.dP hj hi hne (aK (Nat.lt_of_lt_of_le (jB hm) (h.af _ (get_mem hj)).room))
 ·obtain⟨o1,o2,o3,o4⟩:=h.aB (get_mem hj);obtain⟨m,hm,e⟩:=dO o1;have hmi:m≠i:=fun e2=>ho (by rw[<-e2,e];exact o2)
  have hq':q<(s.aB (s.af[j]!)).xs.length:=hq;rw[<-e]at hq' ⊢;exact hG.dP hm hi hmi (aK hq')
theorem qc{s:St}(bl:List aN)(i:Nat)(hi:i<s.af.length)(v:aF)(h1:v.vb=(s.af[i]!).vb)(h2:v.name=(s.af[i]!).name)(h3:v.xs=(s.af[i]!).xs)(h4:v.org=(s.af[i]!).org)(h5:(s.af[i]!).lost=true->v.lost=true):Base s { s with bl:=bl,af:=aC i v s.af }:=by
 refine⟨gW i v s.af hi,fun j hj=>?_,fun j hj=>?_⟩
 ·show(aC i v s.af)[j]!.vb=_/\_;rw[dh i j v s.af hi hj]
  split
  ·rename_i e;subst e;exact⟨h1,h2,h3,h4⟩
  ·exact⟨rfl,rfl,rfl,rfl⟩
 ·show _->(aC i v s.af)[j]!.lost=true;rw[dh i j v s.af hi hj]
  split
  ·rename_i e;subst e;exact h5
  ·exact id
theorem wZ{w w':World}{s:St}(h:ai w s)(bl:List aN)(i:Nat)(hi:i<s.af.length)(v:aF)(hb:Base s { s with bl:=bl,af:=aC i v s.af })(h':ai w' { s with bl:=bl,af:=aC i v s.af })
 (j:Nat) (hj:j<s.af.length) (hne:j≠i) (q:Nat):St.holder { s with bl:=bl,af:=aC i v s.af } (s.af[j]!) q=s.holder (s.af[j]!) q:=by
 obtain⟨m,hm,e1,e2⟩:=hb.aB h h' j hj;have e3:(aC i v s.af)[j]! = s.af[j]!:=by rw[dh i j v s.af hi hj,if_neg hne]
 have e4:St.aB { s with bl:=bl,af:=aC i v s.af } (s.af[j]!)=(aC i v s.af)[m]!:=by rw[<-e3];exact e2
 unfold St.holder;rw[e1,e4,(hb.same m hm).2.2.1]
theorem jW{bl:List aN}{x y:Nat}(b:aN)(h:x≠y)(hx:x<bl.length):(bl.set y b)[x]! = bl[x]!:=by
 rw[getElem!_pos _ x (by simpa using hx),getElem!_pos bl x hx,List.getElem_set_ne (fun e=>h e.symm)]
theorem qA{bl:List aN}{y:Nat}(b:aN)(hy:y<bl.length):(bl.set y b)[y]! = b:=by
 rw[getElem!_pos _ y (by simpa using hy)];simp
theorem zB{l:List Nat}{k:Nat}(h:k∉l):(l++[k]).idxOf k=l.length:=by
 rw[List.idxOf_append,if_neg h];simp
theorem DI{l:List Nat}{k q:Nat}(h:q∈l):(l++[k]).idxOf q=l.idxOf q:=by
 rw[List.idxOf_append,if_pos h]
theorem Au{w w':World}{s:St}{fr:List Nat}(h:ai w s)(hG:Good s fr)(i:Nat)(v:aF)(g k:Nat)(b:aN)(hi:i<s.af.length)(hv:s.af[i]! = v)(ho:v.org≠none)(hf:v.kept.length<v.xs.length)(hk:k∉v.kept)(hks:k<s.size v)
 (h':ai w' { s with bl:=s.bl.set v.xs[v.kept.length]! b,af:=aC i { v with kg:=some g,kept:=v.kept++[k] } s.af }) (j:Nat) (hj:j<s.af.length) (q:Nat) (hq:q<s.size (s.af[j]!)) :
 St.look { s with bl:=s.bl.set v.xs[v.kept.length]! b,af:=aC i { v with kg:=some g,kept:=v.kept++[k] } s.af } (aC i { v with kg:=some g,kept:=v.kept++[k] } s.af)[j]! q=if j=i/\q=k then b else s.look (s.af[j]!) q:=by
 have hb:Base s { s with bl:=s.bl.set v.xs[v.kept.length]! b,af:=aC i { v with kg:=some g,kept:=v.kept++[k] } s.af }:=qc _ i hi _ (by rw[hv]) (by rw[hv]) (by rw[hv]) (by rw[hv]) (by rw[hv];exact id);have hmem:v∈s.af:=by rw[<-hv];exact get_mem hi
 have hy:v.xs[v.kept.length]!∈v.xs:=aK hf;have hyl:v.xs[v.kept.length]!<s.bl.length:=by rw[h.disk.len];exact hG.lt.2 v hmem _ hy
 by_cases hji:j=i
 ·subst hji;rw[dh j j _ s.af hi hi,if_pos rfl];rw[hv]at hq ⊢;obtain⟨m,hm,e1,e2⟩:=hb.aB h h' j hi;rw[hv]at e1;have e3:St.aB { s with bl:=s.bl.set v.xs[v.kept.length]! b,af:=aC j { v with kg:=some g,kept:=v.kept++[k] } s.af } { v with kg:=some g,kept:=v.kept++[k] }=(aC j { v with kg:=some g,kept:=v.kept++[k] } s.af)[m]!:=by
   have:(aC j { v with kg:=some g,kept:=v.kept++[k] } s.af)[j]! = { v with kg:=some g,kept:=v.kept++[k] }:=by rw[dh j j _ s.af hi hi,if_pos rfl]
   have e2':St.aB { s with bl:=s.bl.set v.xs[v.kept.length]! b,af:=aC j { v with kg:=some g,kept:=v.kept++[k] } s.af } (aC j { v with kg:=some g,kept:=v.kept++[k] } s.af)[j]! = (aC j { v with kg:=some g,kept:=v.kept++[k] } s.af)[m]!:=e2;rw[this]at e2';exact e2'
  unfold St.look St.holder;rw[e3,(hb.same m hm).2.2.1,e1];show(s.bl.set v.xs[v.kept.length]! b)[if q∈v.kept++[k] then v.xs[(v.kept++[k]).idxOf q]! else (s.af[m]!).xs[q]!]! = if j=j/\q=k then b else s.bl[if q∈v.kept then v.xs[v.kept.idxOf q]! else (s.af[m]!).xs[q]!]!
  by_cases hqk:q=k
  ·subst hqk;rw[if_pos (show q∈v.kept++[q] by simp),if_pos (show j=j/\q=q from ⟨rfl,rfl⟩),zB hk,qA b hyl]
  ·rw[if_neg (show ¬(j=j/\q=k) from fun e=>hqk e.2)];by_cases hqm:q∈v.kept
   ·rw[if_pos (show q∈v.kept++[k] from List.mem_append_left _ hqm),if_pos hqm,DI hqm];have hl1:=jB hqm;refine jW b ?_ ?_
    ·intro e;have hnd:=hG.oq hmem;rw[getElem!_pos v.xs _ (by omega),getElem!_pos v.xs _ hf]at e;have:=(List.getElem_inj (h₀:=by omega) (h₁:=hf) hnd).1 e;omega
    ·rw[h.disk.len];exact hG.lt.2 v hmem _ (aK (by omega))
   ·rw[if_neg (show ¬q∈v.kept++[k] by simp[hqm,hqk]),if_neg hqm];have hqo:q<(s.aB v).xs.length:=hq;have hom:=(h.aB hmem).1;refine jW b ?_ ?_
    ·intro e;have hmj:m≠j:=by
      intro e2;subst e2;have:=(h.aB hmem).2.1;rw[e1,hv]at this;exact ho this
     rw[e1]at hqo;have hx:=hG.dP hm hi hmj (aK hqo);rw[e,hv]at hx;exact hx hy
    ·rw[h.disk.len,<-e1];exact hG.lt.2 _ hom _ (aK hqo)
 ·rw[dh i j _ s.af hi hj,if_neg hji,if_neg (by simp[hji])];unfold St.look;rw[wZ h _ i hi _ hb h' j hj hji q];refine jW b ?_ ?_
  ·intro e;have:=vZ h hG hi (by rw[hv];exact ho) hj hji hq;rw[e,hv]at this;exact this hy
  ·rw[h.disk.len];exact iC h hG (get_mem hj) hq
theorem Bg{w w':World}{s:St}{fr:List Nat}(h:ai w s)(hG:Good s fr)(i:Nat)(v:aF)(hi:i<s.af.length)(hv:s.af[i]! = v)(ho:v.org≠none)
 (h':ai w' { s with bl:=bM v.xs s.bl,af:=aC i v.losing s.af }) (j:Nat) (hj:j<s.af.length) (hji:j≠i) (q:Nat) (hq:q<s.size (s.af[j]!)) :
 St.look { s with bl:=bM v.xs s.bl,af:=aC i v.losing s.af } (aC i v.losing s.af)[j]! q=s.look (s.af[j]!) q:=by
 have hb:Base s { s with bl:=bM v.xs s.bl,af:=aC i v.losing s.af }:=qc _ i hi _ (by rw[hv];rfl) (by rw[hv];rfl) (by rw[hv];rfl) (by rw[hv];rfl) (fun _=>rfl);rw[dh i j _ s.af hi hj,if_neg hji];unfold St.look;rw[wZ h _ i hi _ hb h' j hj hji q,fK _ _ _ (by rw[h.disk.len];exact iC h hG (get_mem hj) hq),if_neg];have:=vZ h hG hi (by rw[hv];exact ho) hj hji hq;rw[hv]at this;exact this
def St.aY(s:St)(ub:Nat):List aF:=s.af.filter fun v=>decide (v.org=some ub)
theorem yB(l:List aF)(p:aF->Bool)(k:Nat)(hk:k<l.length):(l.take (k+1)).filter p=(l.take k).filter p++(if p l[k]! then [l[k]!] else []):=by
 rw[List.take_succ_eq_append_getElem hk,List.filter_append,getElem!_pos l k hk]
 congr 1
 simp[List.filter_cons]
theorem VS:∃i,prog.info? 133=some i/\i.size≠0:=by
 have h:(prog.info? 133).map (fun i=>i.size)=some 5:=by kernel_rfl
 obtain⟨i,hi,e⟩:=Option.map_eq_some_iff.1 h;exact⟨i,hi,by omega⟩
theorem bZ(s:St)(u:aF)(w:World)(h:ai w s)(hu:u∈s.af) :
 Calls prog 93 #[.pointer (some ⟨s.pb,0,none⟩),.pointer (some ⟨u.vb,0,none⟩)] w fun e w'=>∃v,e=.returned v/\w'.ownsRow w.heap.size 110 1 v (s.aY u.vb).length ((s.aY u.vb).map fun v=>ptr v.vb)/\Same [] w w':=by
 obtain⟨cap,hp,_,_⟩:=h.pool;have c2:w.cell? ⟨s.pb,2,none⟩=some (.slice (s.ab.map fun b=>⟨b,0,none⟩) s.af.length cap):=hp.cell? 2;have hfew:=h.few;clear hp;obtain⟨i0,hi,hz0,hz1,hz2⟩:=info_parts Tryz.info59;obtain⟨iv,hiv,aax⟩:=VS
 go_enter func93,ntmps93
 go_wp2
 go_loopw [5,13] (fun v i wr=>∃k:Nat,k<=s.af.length/\i=.int .i64 k/\Same [] w wr/\wr.ownsRow w.heap.size 110 1 v ((s.af.take k).filter fun v=>decide (v.org=some u.vb)).length (((s.af.take k).filter fun v=>decide (v.org=some u.vb)).map fun v=>ptr v.vb))
  (fun _ i _=>s.af.length-(intOf i).toNat)
 case atStart=>exact⟨0,Nat.zero_le _,rfl,Same.refl _ _,World.ownsRow_nil _ _ _ _⟩
 case round=>
  obtain⟨k,hk,rfl,hS,hown⟩:=hrel;by_cases hkl:k<s.af.length
  ·have hP:=h.new hS;obtain⟨b,hb,e1,e2⟩:=hP.cell k hkl;have hvm:s.af[k]!∈s.af:=by rw[getElem!_pos s.af k hkl];exact List.getElem_mem hkl
   have hb':(s.ab.map fun b=>(⟨b,0,none⟩:Addr))=some ⟨b,0,none⟩:=by rw[hb];rfl
   have HV:Hid ((s.af.take (k+1)).filter (fun v=>decide (v.org=some u.vb))=(s.af.take k).filter (fun v=>decide (v.org=some u.vb))++(if decide ((s.af[k]!).org=some u.vb) then [s.af[k]!] else [])):=yB s.af _ k hkl;obtain⟨vc,vk,_,hvo,_,_⟩:=(hP.af _ hvm).aA;have c3:wr.cell? ⟨(s.af[k]!).vb,2,none⟩=some (.pointer (mO (s.af[k]!).org)):=hvo.cell? 2;have HO:Hid (∀o,(s.af[k]!).org=some o->∃x∈s.af,x.vb=o/\x.org=none):=hP.zD _ hvm;generalize s.af[k]! = vv at *;rw[hb'];have l2:(k:Int)<(s.af.length:Int):=by omega
   have HH:Hid (ai wr s):=hP;clear h c2 hb' hvo hP;have hsz:=hS.size;by_cases hq:vv.org=some u.vb
   ·have HV2:Hid ((s.af.take (k+1)).filter (fun v=>decide (v.org=some u.vb))=(s.af.take k).filter (fun v=>decide (v.org=some u.vb))++[vv]):=by
     show _=_;rw[HV.out,if_pos (decide_eq_true hq)]
    rw[hq]at c3;simp only[mO,Option.map_some]at c3;have heq:=run_eql_ptr_same (P:=prog) (w:=wr) ⟨u.vb,0,none⟩ underlying110 hiv;generalize ((s.af.take k).filter (fun v=>decide (v.org=some u.vb)))=fl at *;obtain⟨a,cp,rfl⟩:=ak hown;have hfl:fl.length<=20:=by
     have h1:=congrArg List.length HV2.out;have h2:=List.length_filter_le (fun v=>decide (v.org=some u.vb)) (s.af.take (k+1));have h3:=List.length_take_le (k+1) s.af;simp at h1;omega
    clear HV
    go_wp2_with (at_builtin;refine wpList_append_own _ rfl _ _ 85 rfl w.heap.size 110 i0 (.pointer none) 1 8 underlying85 hi hz0 hz1 hz2 rfl (by decide) _ _ _ rfl (hown.alloc _) ⟨wr.heap.size,0,none⟩ 1 1 [ptr vv.vb] rfl rfl ?c1 ?c2 ?c3 ?c4 ?c5 ?_)
    case c1=>
     intro j u hj
     match j,hj with
     | 0,hj=>simp at hj;subst hj;simp[Addr.add,ptr]
    case c2=>intro u hu;simp at hu;subst hu;rfl
    case c3=>unfold maxLen;omega
    case c4=>omega
    case c5=>simp;omega
    intro v' w2 hown' hgrow _;have S2:Same [] w w2:=(hS.alloc _).grown hgrow (fun j hj hl=>by have:=(hown.lt j hj).1;omega);have O2:w2.ownsRow w.heap.size 110 1 v' (((s.af.take (k+1)).filter (fun v=>decide (v.org=some u.vb))).length) (((s.af.take (k+1)).filter (fun v=>decide (v.org=some u.vb))).map fun v=>ptr v.vb):=by
     rw[HV2.out,List.length_append,List.map_append];exact hown'
    clear hown' hgrow hown hS
    go_wp2
    go_roundw
    case rel=>exact⟨k+1,by omega,by go_num,S2,O2⟩
    case measure=>simp[intOf];omega
   ·have heq:(binOp .eql 110 (.pointer (mO vv.org)) (.pointer (some ⟨u.vb,0,none⟩))).run prog wr=.ok (.bool false) wr:=by
     cases ho:vv.org with
     | none=>exact FP _ _ underlying110
     | some o=>
      obtain⟨x,hx,rfl,_⟩:=HO.out o ho;obtain⟨_,_,_,hxo,_,_⟩:=(HH.out.af x hx).aA;obtain⟨_,_,_,huo,_,_⟩:=(HH.out.af u hu).aA;refine run_eql_ptr_other (P:=prog) (w:=wr) underlying110 hiv aax ?_ hxo huo;intro e;exact hq (by rw[ho];simpa using e)
    have HV2:Hid ((s.af.take (k+1)).filter (fun v=>decide (v.org=some u.vb))=(s.af.take k).filter (fun v=>decide (v.org=some u.vb))):=by
     show _=_;rw[HV.out,if_neg (by simpa using hq),List.append_nil]
    clear HV
    go_wp2
    go_roundw
    case rel=>exact⟨k+1,by omega,by go_num,hS,by rw[HV2.out];exact hown⟩
    case measure=>simp[intOf];omega
  ·have ek:k=s.af.length:=by omega
   subst ek;rw[List.take_length]at hown;have HW:Hid (wr.ownsRow w.heap.size 110 1 u5 (s.aY u.vb).length ((s.aY u.vb).map fun v=>ptr v.vb)):=hown;clear hown
   go_wp2
   go_ret
   exact⟨_,rfl,HW.out,hS⟩
def lN(k:Nat)(v:aF):List Nat×Bool:=if k∈v.kept\/v.lost=true then (v.kept,v.lost) else if v.kept.length<v.xs.length then (v.kept++[k],v.lost) else ([],true)
def fJ(s:St):Prop:=∀i,i<s.af.length->(s.af[i]!).org≠none->∀x∈(s.af[i]!).xs.drop (s.af[i]!).kept.length,s.bl[x]! = aN.zero
theorem GH(l:List aN)(k q:Nat)(y:aN)(hq:q<l.length):(l.set k y)[q]! = if q=k then y else l[q]!:=by
 rw[getElem!_pos _ q (by simpa using hq),List.getElem_set];by_cases h:k=q
 ·subst h;simp
 ·rw[if_neg h,if_neg (fun e=>h e.symm),getElem!_pos l q hq]
theorem WL{xs:List Nat}(hn:xs.Nodup){k:Nat}(hk:k<xs.length){x:Nat}(hx:x∈xs.drop (k+1)):x≠xs[k]!:=fun e=>by
 have h1:xs.drop k=xs[k]!::xs.drop (k+1):=by rw[getElem!_pos xs k hk];exact List.drop_eq_getElem_cons hk
 have h2:(xs.drop k).Nodup:=hn.sublist (List.drop_sublist _ _);rw[h1,List.nodup_cons]at h2;exact h2.1 (e▸hx)
theorem TS{xs:List Nat}{k x:Nat}(hx:x∈xs.drop (k+1)):x∈xs.drop k:=by
 have:xs.drop (k+1)=(xs.drop k).drop 1:=by rw[List.drop_drop]
 rw[this]at hx;exact List.mem_of_mem_drop hx
theorem Bz{w:World}{s:St}{fr:List Nat}(h:ai w s)(hG:Good s fr)(i:Nat)(v:aF)(g k:Nat)(b:aN)(hi:i<s.af.length)(hv:s.af[i]! = v)(hf:v.kept.length<v.xs.length)(sp:fJ s) :
 fJ { s with bl:=s.bl.set v.xs[v.kept.length]! b,af:=aC i (v.keeping g k) s.af }:=by
 intro j hj ho x hx;have hj':j<s.af.length:=by have:j<(aC i (v.keeping g k) s.af).length:=hj;rw[gW i _ _ hi]at this;exact this
 have hvm:v∈s.af:=by rw[<-hv];exact get_mem hi
 have hlt:∀a,a<s.af.length->∀y∈(s.af[a]!).xs,y<s.bl.length:=fun a ha y hy=>by rw[h.disk.len];exact hG.lt.2 _ (get_mem ha) y hy
 have hin:v.xs[v.kept.length]!∈v.xs:=aK hf;have ho':((aC i (v.keeping g k) s.af)[j]!).org≠none:=ho;have hx':x∈((aC i (v.keeping g k) s.af)[j]!).xs.drop ((aC i (v.keeping g k) s.af)[j]!).kept.length:=hx;show(s.bl.set v.xs[v.kept.length]! b)[x]! = _;rw[dh i j _ s.af hi hj']at ho' hx';by_cases e:j=i
 ·subst e;rw[if_pos rfl]at ho' hx';have hx2:x∈v.xs.drop (v.kept.length+1):=by simpa [aF.keeping] using hx'
  rw[GH _ _ _ _ (hlt j hj' x (by rw[hv];exact List.mem_of_mem_drop hx2)),if_neg (WL (hG.oq hvm) hf hx2)];exact sp j hj' (by rw[hv];exact ho') x (by rw[hv];exact TS hx2)
 ·rw[if_neg e]at ho' hx';have hxm:=List.mem_of_mem_drop hx';rw[GH _ _ _ _ (hlt j hj' x hxm),if_neg (fun q=>hG.dP hj' hi e hxm (by rw[hv,q];exact hin))];exact sp j hj' ho' x hx'
theorem BM{w:World}{s:St}{fr:List Nat}(h:ai w s)(hG:Good s fr)(i:Nat)(v:aF)(hi:i<s.af.length)(hv:s.af[i]! = v)(sp:fJ s) :
 fJ { s with bl:=bM v.xs s.bl,af:=aC i v.losing s.af }:=by
 intro j hj ho x hx;have hj':j<s.af.length:=by have:j<(aC i v.losing s.af).length:=hj;rw[gW i _ _ hi]at this;exact this
 have hvm:v∈s.af:=by rw[<-hv];exact get_mem hi
 have hlt:∀a,a<s.af.length->∀y∈(s.af[a]!).xs,y<s.bl.length:=fun a ha y hy=>by rw[h.disk.len];exact hG.lt.2 _ (get_mem ha) y hy
 have ho':((aC i v.losing s.af)[j]!).org≠none:=ho;have hx':x∈((aC i v.losing s.af)[j]!).xs.drop ((aC i v.losing s.af)[j]!).kept.length:=hx;show(bM v.xs s.bl)[x]! = _;rw[dh i j _ s.af hi hj']at ho' hx';by_cases e:j=i
 ·subst e;rw[if_pos rfl]at hx';have hx2:x∈v.xs:=List.mem_of_mem_drop hx';rw[fK _ _ _ (hlt j hj' x (by rw[hv];exact hx2)),if_pos hx2]
 ·rw[if_neg e]at ho' hx';have hxm:=List.mem_of_mem_drop hx';rw[fK _ _ _ (hlt j hj' x hxm),if_neg (by rw[<-hv];exact hG.dP hj' hi e hxm)];exact sp j hj' ho' x hx'
theorem RX{w:World}{s:St}{fr:List Nat}{y:Nat}{b:aN}(h:ai w { s with bl:=s.bl.set y b })(hG:Good { s with bl:=s.bl.set y b } fr)(iu:Nat)(hiu:iu<s.af.length)(hu0:(s.af[iu]!).org=none)(hy:y∈(s.af[iu]!).xs)(sp:fJ s):fJ { s with bl:=s.bl.set y b }:=by
 intro j hj ho x hx;have hxm:=List.mem_of_mem_drop hx;have e:j≠iu:=fun e=>by subst e;exact ho hu0
 have hlen:(s.bl.set y b).length=s.n:=h.disk.len;rw[List.length_set]at hlen;show(s.bl.set y b)[x]! = _;rw[GH _ _ _ _ (by rw[hlen];exact hG.lt.2 _ (get_mem hj) x hxm),if_neg (fun(q:x=y)=>hG.dP hj hiu e hxm (by rw[q];exact hy))];exact sp j hj ho x hx
theorem Nu{w:World}{s:St}{fr:List Nat}(h:ai w s)(hG:Good s fr)(i:Nat)(hi:i<s.af.length)(m:Nat)(hm:m<(s.af[i]!).kept.length)(hr:(s.af[i]!).kept.length<=(s.af[i]!).xs.length)(b:aN)(sp:fJ s):fJ { s with bl:=s.bl.set (s.af[i]!).xs[m]! b }:=by
 intro j hj ho x hx;have hxm:=List.mem_of_mem_drop hx;have hin:(s.af[i]!).xs[m]!∈(s.af[i]!).xs:=aK (by omega);show(s.bl.set (s.af[i]!).xs[m]! b)[x]! = _;rw[GH _ _ _ _ (by rw[h.disk.len];exact hG.lt.2 _ (get_mem hj) x hxm),if_neg]
 ·exact sp j hj ho x hx
 ·intro q;by_cases e:j=i
  ·subst e;have hx':x∈(s.af[j]!).xs.drop (s.af[j]!).kept.length:=hx;have hnd:=hG.oq (get_mem hj);rw[<-List.take_append_drop (s.af[j]!).kept.length (s.af[j]!).xs,List.nodup_append]at hnd;refine hnd.2.2 x ?_ x hx' rfl;rw[q,getElem!_pos _ m (by omega)];exact List.mem_take_iff_getElem.2 ⟨m,by omega,rfl⟩
  ·exact hG.dP hj hi e hxm (by rw[q];exact hin)
structure Kept(s s':St)(k:Nat)(P:aF->Prop):Prop where
 base:Base s s'
 did:∀i,i<s.af.length->P (s.af[i]!)->((s'.af[i]!).kept,(s'.af[i]!).lost)=lN k (s.af[i]!)
 rest:∀i,i<s.af.length->¬P (s.af[i]!)->(s'.af[i]!).kept=(s.af[i]!).kept/\(s'.af[i]!).lost=(s.af[i]!).lost
 look:∀i,i<s.af.length->(s'.af[i]!).lost=false->∀q,q<s.size (s.af[i]!)->s'.look (s'.af[i]!) q=s.look (s.af[i]!) q
 spare:fJ s->fJ s'
theorem After.step{w0 w w':World}{s s1 s2:St}{f1 f2:List Nat}(h:After w0 s w s1 f1)(k:After w s1 w' s2 f2):After w0 s w' s2 f2:=by
 have hz:=h.same.size;refine⟨k.pool,k.good,h.same.step k.same ?_,fun q hq=>?_,k.pb.trans h.pb,k.n.trans h.n⟩
 ·intro q hq hl;rcases h.foot q hq with e|e
  ·exact e
  ·omega
 ·rcases k.foot q hq with e|e
  ·exact h.foot q e
  ·right;omega
theorem Kept.congr{s s':St}{k:Nat}{P Q:aF->Prop}(h:Kept s s' k P)(e:∀i,i<s.af.length->(P (s.af[i]!)↔Q (s.af[i]!))):Kept s s' k Q:=
 ⟨h.base,fun i hi hq=>h.did i hi ((e i hi).2 hq),fun i hi hq=>h.rest i hi (fun hp=>hq ((e i hi).1 hp)),h.look,h.spare⟩
theorem Kept.start(s:St)(k:Nat):Kept s s k (fun v=>v∈([]:List aF)):=
 ⟨Base.refl s,fun i hi hp=>by simp at hp,fun i hi _=>⟨rfl,rfl⟩,fun i hi _ q _=>rfl,id⟩
structure Step(s s':St)(k i:Nat):Prop where
 base:Base s s'
 did:((s'.af[i]!).kept,(s'.af[i]!).lost)=lN k (s.af[i]!)
 rest:∀j,j<s.af.length->j≠i->(s'.af[j]!).kept=(s.af[j]!).kept/\(s'.af[j]!).lost=(s.af[j]!).lost
 look:∀j,j<s.af.length->(s'.af[j]!).lost=false->∀q,q<s.size (s.af[j]!)->s'.look (s'.af[j]!) q=s.look (s.af[j]!) q
 spare:fJ s->fJ s'
theorem Step.none(s:St)(k i:Nat)(h:k∈(s.af[i]!).kept\/(s.af[i]!).lost=true):Step s s k i:=
 ⟨Base.refl s,by rw[lN,if_pos h],fun j _ _=>⟨rfl,rfl⟩,fun j _ _ q _=>rfl,id⟩
theorem tH{w:World}{s:St}(h:ai w s){i j:Nat}(hi:i<s.af.length)(hj:j<s.af.length)(e:(s.af[i]!).vb=(s.af[j]!).vb):i=j:=by
 have hp:=jS _ h.uP;rw[List.pairwise_iff_getElem]at hp;rw[getElem!_pos s.af i hi,getElem!_pos s.af j hj]at e;rcases Nat.lt_trichotomy i j with h1|h1|h1
 ·exact absurd e (hp i j hi hj h1)
 ·exact h1
 ·exact absurd e.symm (hp j i hj hi h1)
theorem Kept.one{w w':World}{s sj s2:St}{k:Nat}{P:aF->Prop}(hK:Kept s sj k P)(h:ai w s)(hj:ai w' sj)(i:Nat)(hi:i<s.af.length)(hn:¬P (s.af[i]!))(hS:Step sj s2 k i):Kept s s2 k (fun v=>P v\/v=s.af[i]!):=by
 have hlen:=hK.base.len;refine⟨hK.base.trans hS.base,fun m hm hp=>?_,fun m hm hp=>?_,fun m hm hl q hq=>?_,fun sp=>hS.spare (hK.spare sp)⟩
 ·by_cases e:m=i
  ·subst e;obtain⟨r1,r2⟩:=hK.rest m hm hn;rw[hS.did];unfold lN;rw[r1,r2,(hK.base.same m hm).2.2.1]
  ·obtain⟨r1,r2⟩:=hS.rest m (by rw[hlen];exact hm) e;rw[r1,r2];refine hK.did m hm ?_;rcases hp with hp|hp
   ·exact hp
   ·exact absurd (tH h hm hi (by rw[hp])) e
 ·have e:m≠i:=fun e=>hp (Or.inr (by rw[e]))
  obtain⟨r1,r2⟩:=hS.rest m (by rw[hlen];exact hm) e;obtain⟨q1,q2⟩:=hK.rest m hm (fun hq=>hp (Or.inl hq));exact⟨r1.trans q1,r2.trans q2⟩
 ·have hm':m<sj.af.length:=by rw[hlen];exact hm
  have hlj:(sj.af[m]!).lost=false:=by
   cases hx:(sj.af[m]!).lost with
   | false=>rfl
   | true=>rw[hS.base.lost m hm' hx]at hl;cases hl
  rw[hS.look m hm' hl q (by rw[hK.base.size h hj m hm];exact hq)];exact hK.look m hm hlj q hq
theorem step_more{w w':World}{s:St}{fr:List Nat}(h:ai w s)(hG:Good s fr)(i:Nat)(v:aF)(g k:Nat)(b:aN)(hi:i<s.af.length)(hv:s.af[i]! = v)(ho:v.org≠none)(hl:v.lost=false)(hf:v.kept.length<v.xs.length)(hk:k∉v.kept)(hks:k<s.size v)(hb:b=s.look v k)
 (h':ai w' { s with bl:=s.bl.set v.xs[v.kept.length]! b,af:=aC i (v.keeping g k) s.af }):Step s { s with bl:=s.bl.set v.xs[v.kept.length]! b,af:=aC i (v.keeping g k) s.af } k i:=by
 refine⟨qc _ i hi _ (by rw[hv];rfl) (by rw[hv];rfl) (by rw[hv];rfl) (by rw[hv];rfl) (by rw[hv];exact id),?_,fun j hj hne=>?_,fun j hj _ q hq=>?_,Bz h hG i v g k b hi hv hf⟩
 ·show((aC i (v.keeping g k) s.af)[i]!.kept,(aC i (v.keeping g k) s.af)[i]!.lost)=_;rw[dh i i _ s.af hi hi,if_pos rfl,hv,lN,if_neg (by simp[hk,hl]),if_pos hf];rfl
 ·show(aC i (v.keeping g k) s.af)[j]!.kept=_/\(aC i (v.keeping g k) s.af)[j]!.lost=_;rw[dh i j _ s.af hi hj,if_neg hne];exact⟨rfl,rfl⟩
 ·have:=Au h hG i v g k b hi hv ho hf hk hks h' j hj q hq;refine this.trans ?_
  split
  ·rename_i e;obtain⟨e1,e2⟩:=e;subst e1;subst e2;rw[hv];exact hb
  ·rfl
theorem Ph{w w':World}{s:St}{fr:List Nat}(h:ai w s)(hG:Good s fr)(i:Nat)(v:aF)(k:Nat)(hi:i<s.af.length)(hv:s.af[i]! = v)(ho:v.org≠none)(hl:v.lost=false)(hf:v.kept.length=v.xs.length)(hk:k∉v.kept)
 (h':ai w' { s with bl:=bM v.xs s.bl,af:=aC i v.losing s.af }):Step s { s with bl:=bM v.xs s.bl,af:=aC i v.losing s.af } k i:=by
 refine⟨qc _ i hi _ (by rw[hv];rfl) (by rw[hv];rfl) (by rw[hv];rfl) (by rw[hv];rfl) (fun _=>rfl),?_,fun j hj hne=>?_,fun j hj hlj q hq=>?_,BM h hG i v hi hv⟩
 ·show((aC i v.losing s.af)[i]!.kept,(aC i v.losing s.af)[i]!.lost)=_;rw[dh i i _ s.af hi hi,if_pos rfl,hv,lN,if_neg (by simp[hk,hl]),if_neg (by omega)];rfl
 ·show(aC i v.losing s.af)[j]!.kept=_/\(aC i v.losing s.af)[j]!.lost=_;rw[dh i j _ s.af hi hj,if_neg hne];exact⟨rfl,rfl⟩
 ·have hji:j≠i:=by
   intro e;subst e;have:(aC j v.losing s.af)[j]!.lost=false:=hlj;rw[dh j j _ s.af hi hi,if_pos rfl]at this;cases this
  exact Bg h hG i v hi hv ho h' j hj hji q hq
theorem lG{s:St}{ub:Nat}{v:aF}:v∈s.aY ub↔v∈s.af/\v.org=some ub:=by
 simp[St.aY]
theorem Ic{w:World}{s:St}(h:ai w s)(ub:Nat):(s.aY ub).Pairwise fun a b=>a.vb≠b.vb:=
 (jS _ h.uP).sublist List.filter_sublist
theorem yH(s:St)(bl:List aN)(v:aF)(q:Nat):St.holder { s with bl:=bl } v q=s.holder v q:=rfl
theorem Base.bl{s s':St}(h:Base s s')(bl:List aN):Base s { s' with bl:=bl }:=⟨h.len,h.same,h.lost⟩
theorem RY{w w':World}{s s1:St}{fr:List Nat}{k iu:Nat}{u:aF}{b:aN}(h:ai w s)(hiu:iu<s.af.length)(hu:s.af[iu]! = u)(hu0:u.org=none)(hk:k<u.xs.length)
 (hK:Kept s s1 k (fun v=>v.org=some u.vb)) (h':ai w' { s1 with bl:=s1.bl.set u.xs[k]! b }) (hG':Good { s1 with bl:=s1.bl.set u.xs[k]! b } fr) (j:Nat) (hj:j<s.af.length) (hl:(s1.af[j]!).lost=false) (q:Nat) (hq:q<s.size (s.af[j]!)) :
 St.look { s1 with bl:=s1.bl.set u.xs[k]! b } (s1.af[j]!) q=if j=iu/\q=k then b else s.look (s.af[j]!) q:=by
 have hlen:=hK.base.len;have OX:iu<s1.af.length:=by rw[hlen];exact hiu
 have hj1:j<s1.af.length:=by rw[hlen];exact hj
 obtain⟨e1,e2,e3,e4⟩:=hK.base.same iu hiu;rw[hu]at e1 e2 e3 e4;have hu1:(s1.af[iu]!).org=none:=by rw[e4];exact hu0
 have hk1:(s1.af[iu]!).kept=[]:=(h'.af _ (get_mem (l:=s1.af) OX)).fE hu1;have hyl:u.xs[k]!<s1.bl.length:=by
  have:u.xs[k]!<s1.n:=hG'.lt.2 _ (get_mem (l:=s1.af) OX) _ (by rw[e3];exact aK hk);have hl':=h'.disk.len;simp at hl';omega
 have hb:=hK.base.bl (s1.bl.set u.xs[k]! b);have hsz:St.size { s1 with bl:=s1.bl.set u.xs[k]! b } (s1.af[j]!)=s.size (s.af[j]!):=hb.size h h' j hj;unfold St.look;rw[yH];by_cases hh:s1.holder (s1.af[j]!) q=u.xs[k]!
 ·rw[hh];show(s1.bl.set u.xs[k]! b)[u.xs[k]!]! = _;rw[qA b hyl]
  suffices hs:j=iu/\q=k by rw[if_pos hs]
  have hnd:(s1.af[iu]!).xs.Nodup:=hG'.oq (get_mem (l:=s1.af) OX);have hyu:u.xs[k]!∈(s1.af[iu]!).xs:=by rw[e3];exact aK hk
  by_cases hm:q∈(s1.af[j]!).kept
  ·have e:s1.holder (s1.af[j]!) q=(s1.af[j]!).xs[(s1.af[j]!).kept.idxOf q]!:=by unfold St.holder;rw[if_pos hm]
   have hin:u.xs[k]!∈(s1.af[j]!).xs:=by
    rw[<-hh,e];exact aK (Nat.lt_of_lt_of_le (jB hm) (h'.af _ (get_mem (l:=s1.af) hj1)).room)
   by_cases hji:j=iu
   ·rw[hji,hk1]at hm;simp at hm
   ·exact absurd hyu (hG'.dP (s:={ s1 with bl:=s1.bl.set u.xs[k]! b }) hj1 OX hji hin)
  ·have e:s1.holder (s1.af[j]!) q=(s1.aB (s1.af[j]!)).xs[q]!:=by unfold St.holder;rw[if_neg hm]
   obtain⟨o1,o2,o3,o4⟩:=h'.aB (get_mem (l:=s1.af) hj1);obtain⟨m,hm2,em⟩:=dO o1;have hm3:m<s1.af.length:=hm2;have em':s1.af[m]! = s1.aB (s1.af[j]!):=em;have hqm:q<(s1.af[m]!).xs.length:=by
    rw[em'];have:q<St.size { s1 with bl:=s1.bl.set u.xs[k]! b } (s1.af[j]!):=by rw[hsz];exact hq
    exact this
   have hin:u.xs[k]!∈(s1.af[m]!).xs:=by
    rw[<-hh,e,<-em'];exact aK hqm
   have hmi:m=iu:=by
    by_cases hmi:m=iu
    ·exact hmi
    ·exact absurd hyu (hG'.dP (s:={ s1 with bl:=s1.bl.set u.xs[k]! b }) hm3 OX hmi hin)
   subst hmi;have hqk:q=k:=by
    rw[e,<-em',e3]at hh;rw[e3]at hqm hnd;rw[getElem!_pos u.xs q hqm,getElem!_pos u.xs k hk]at hh;exact(List.getElem_inj (h₀:=hqm) (h₁:=hk) hnd).1 hh
   subst hqk;refine⟨?_,rfl⟩;by_cases hjo:(s1.af[j]!).org=none
   ·have e5:=o3 hjo;have e6:s1.af[m]! = s1.af[j]!:=em'.trans e5;exact(tH (s:={ s1 with bl:=s1.bl.set u.xs[q]! b }) h' OX hj1 (by rw[show({ s1 with bl:=s1.bl.set u.xs[q]! b }:St).af=s1.af from rfl,e6])).symm
   ·exfalso
    have e5:=o4 hjo;have e6:(s1.af[j]!).org=some (s1.af[m]!).vb:=by rw[em'];exact e5
    have e7:(s.af[j]!).org=some u.vb:=by rw[<-(hK.base.same j hj).2.2.2,e6,e1]
    have hd:=hK.did j hj e7;have hd1:(s1.af[j]!).kept=(lN q (s.af[j]!)).1:=congrArg Prod.fst hd;have hd2:(s1.af[j]!).lost=(lN q (s.af[j]!)).2:=congrArg Prod.snd hd;rw[hd1]at hm;rw[hd2]at hl;unfold lN at hm hl
    split at hm
    ·rename_i hc
     rw[if_pos hc]at hl;rcases hc with hc|hc
     ·exact hm hc
     ·simp only at hl;rw[hc]at hl;cases hl
    ·rename_i hc
     rw[if_neg hc]at hl
     split at hm
     ·simp at hm
     ·rename_i hr
      rw[if_neg hr]at hl;cases hl
 ·have hlt:s1.holder (s1.af[j]!) q<s1.bl.length:=by
   have:=iC h' hG' (get_mem (l:=s1.af) hj1) (k:=q) (by rw[hsz];exact hq);have hl':=h'.disk.len;simp at hl';rw[yH]at this;have h2:s1.holder (s1.af[j]!) q<s1.n:=this;omega
  show(s1.bl.set u.xs[k]! b)[s1.holder (s1.af[j]!) q]! = _;rw[jW b hh hlt];have hne:¬(j=iu/\q=k):=by
   rintro ⟨rfl,rfl⟩;apply hh;unfold St.holder;rw[hk1,if_neg (by simp)];have:=(h'.aB (get_mem (l:=s1.af) hj1)).2.2.1 hu1;have e5:s1.aB (s1.af[j]!)=s1.af[j]!:=this;rw[e5,e3]
  rw[if_neg hne];exact hK.look j hj hl q hq
theorem Nz{w:World}{s:St}{fr:List Nat}(h:ai w s)(hG:Good s fr)(i:Nat)(v:aF)(k:Nat)(b:aN)(hi:i<s.af.length)(hv:s.af[i]! = v)(hk:k∈v.kept)(j:Nat)(hj:j<s.af.length)(q:Nat)(hq:q<s.size (s.af[j]!)) :
 St.look { s with bl:=s.bl.set v.xs[v.kept.idxOf k]! b } (s.af[j]!) q=if j=i/\q=k then b else s.look (s.af[j]!) q:=by
 have hmem:v∈s.af:=by rw[<-hv];exact get_mem hi
 have hil:v.kept.idxOf k<v.xs.length:=Nat.lt_of_lt_of_le (jB hk) (h.af v hmem).room;have hy:v.xs[v.kept.idxOf k]!∈v.xs:=aK hil;have hyl:v.xs[v.kept.idxOf k]!<s.bl.length:=by rw[h.disk.len];exact hG.lt.2 v hmem _ hy
 have ho:v.org≠none:=fun e=>by rw[(h.af v hmem).fE e]at hk;simp at hk
 unfold St.look;rw[yH];by_cases hh:s.holder (s.af[j]!) q=v.xs[v.kept.idxOf k]!
 ·rw[hh];show(s.bl.set v.xs[v.kept.idxOf k]! b)[v.xs[v.kept.idxOf k]!]! = _;rw[qA b hyl]
  suffices hs:j=i/\q=k by rw[if_pos hs]
  by_cases hm:q∈(s.af[j]!).kept
  ·have e:s.holder (s.af[j]!) q=(s.af[j]!).xs[(s.af[j]!).kept.idxOf q]!:=by unfold St.holder;rw[if_pos hm]
   have hjl:(s.af[j]!).kept.idxOf q<(s.af[j]!).xs.length:=Nat.lt_of_lt_of_le (jB hm) (h.af _ (get_mem hj)).room;have hin:v.xs[v.kept.idxOf k]!∈(s.af[j]!).xs:=by rw[<-hh,e];exact aK hjl
   have hji:j=i:=by
    by_cases hji:j=i
    ·exact hji
    ·exact absurd (by rw[hv];exact hy) (hG.dP hj hi hji hin)
   subst hji;refine⟨rfl,?_⟩;rw[hv]at e hm hjl;rw[hv,e]at hh;have hnd:=hG.oq hmem;rw[getElem!_pos v.xs _ hjl,getElem!_pos v.xs _ hil]at hh;have hidx:=(List.getElem_inj (h₀:=hjl) (h₁:=hil) hnd).1 hh;have a:=EU hm;have c:=EU hk;rw[hidx]at a;exact a.symm.trans c
  ·exfalso
   have e:s.holder (s.af[j]!) q=(s.aB (s.af[j]!)).xs[q]!:=by unfold St.holder;rw[if_neg hm]
   obtain⟨o1,o2,o3,o4⟩:=h.aB (get_mem hj);obtain⟨m,hm2,em⟩:=dO o1;have hqm:q<(s.af[m]!).xs.length:=by rw[em];exact hq
   have hin:v.xs[v.kept.idxOf k]!∈(s.af[m]!).xs:=by rw[<-hh,e,<-em];exact aK hqm
   have hmi:m≠i:=fun e2=>ho (by rw[<-hv,<-e2,em];exact o2)
   exact hG.dP hm2 hi hmi hin (by rw[hv];exact hy)
 ·have hlt:s.holder (s.af[j]!) q<s.bl.length:=by rw[h.disk.len];exact iC h hG (get_mem hj) hq
  show(s.bl.set v.xs[v.kept.idxOf k]! b)[s.holder (s.af[j]!) q]! = _;rw[jW b hh hlt,if_neg];rintro ⟨rfl,rfl⟩;apply hh;unfold St.holder;rw[hv,if_pos hk]
theorem UU{w w':World}{s s':St}(h:ai w s)(h':ai w' s')(hsub:∀v∈s.af,v∈s'.af)(hbl:s'.bl=s.bl){u v:aF}(hu:u∈s.af)(hu0:u.org=none)(hv:v∈s'.af)(ho:v.org=some u.vb)(hk:v.kept=[])(q:Nat):s'.look v q=s.look u q/\s'.size v=s.size u:=by
 have e:s'.aB v=u:=by unfold St.aB;rw[ho];exact h'.tq (hsub u hu)
 have e2:s.aB u=u:=(h.aB hu).2.2.1 hu0;have e3:=(h.af u hu).fE hu0;refine⟨?_,?_⟩
 ·unfold St.look St.holder;rw[e,e2,hk,e3,hbl];simp
 ·unfold St.size;rw[e,e2]
theorem Ob(m j:Nat)(v:aF)(l:List aF)(hm:m<=l.length)(hj:j<=l.length):(dS m v l)[j]! = if j<m then l[j]! else if j=m then v else l[j-1]!:=by
 have hlen:(dS m v l).length=l.length+1:=by unfold dS;simp;omega
 rw[getElem!_pos _ j (by omega)];unfold dS;by_cases h1:j<m
 ·rw[if_pos h1,List.getElem_append_left (by simp;omega),List.getElem_take,getElem!_pos l j (by omega)]
 ·rw[if_neg h1];have ht:(l.take m).length=m:=by simp;omega
  by_cases h2:j=m
  ·subst h2;rw[if_pos rfl,List.getElem_append_right (by omega)];simp[ht]
  ·rw[if_neg h2,List.getElem_append_right (by omega),getElem!_pos l (j-1) (by omega)];obtain⟨d,rfl⟩:∃d,j=m+1+d:=⟨j-m-1,by omega⟩
   simp only[ht,show m+1+d-m=d+1 by omega,List.getElem_cons_succ,List.getElem_drop]
   congr 1
   omega
end
section
open Go.RowKit Go.Sort
variable [DecidableEq aN] [Inhabited aN] [Inhabited aF] [Inhabited ay]
def aN.ok(b:aN):Prop:=∀n∈b.ints,0<=n/\n<=255
theorem aN.Hg:aN.zero.ok:=by
 intro n hn;simp[aN.ints,aN.zero]at hn;omega
theorem aN.text_eq(b:aN):b.text=⟨#[UInt8.ofNat b.b0.toNat,UInt8.ofNat b.b1.toNat,UInt8.ofNat b.b2.toNat,UInt8.ofNat b.b3.toNat,UInt8.ofNat b.b4.toNat,UInt8.ofNat b.b5.toNat,UInt8.ofNat b.b6.toNat,UInt8.ofNat b.b7.toNat]⟩:=rfl
theorem aN.tV:aN.zero.text=eP:=rfl
theorem lS{a b:Int}(ha:0<=a/\a<=255)(hb:0<=b/\b<=255)(h:UInt8.ofNat a.toNat=UInt8.ofNat b.toNat):a=b:=by
 have:=congrArg UInt8.toNat h;simp at this;omega
theorem aN.KU{a b:aN}(ha:a.ok)(hb:b.ok)(h:a.text=b.text):a=b:=by
 rw[aN.text_eq,aN.text_eq]at h;simp only[ByteArray.mk.injEq,Array.mk.injEq,List.cons.injEq,and_true]at h;obtain⟨h0,h1,h2,h3,h4,h5,h6,h7⟩:=h;cases a;cases b;simp only[aN.ok,aN.ints,List.mem_cons,List.mem_nil_iff,or_false,forall_eq_or_imp,forall_eq]at ha hb;obtain⟨a0,a1,a2,a3,a4,a5,a6,a7⟩:=ha;obtain⟨b0,b1,b2,b3,b4,b5,b6,b7⟩:=hb;rw[lS a0 b0 h0,lS a1 b1 h1,lS a2 b2 h2,lS a3 b3 h3,lS a4 b4 h4,lS a5 b5 h5,lS a6 b6 h6,lS a7 b7 h7]
structure jq(s:St)(v:aF)(x:ay):Prop where
 name:x.name=v.name
 bC:x.bC=if v.org=none then ⟨#[]⟩ else (s.aB v).name
 size:x.data.length=s.size v
 blocks:x.blocks=v.xs
 kept:x.kept=v.kept
 lost:x.lost=v.lost
 ok:v.lost=false->∀q,q<s.size v->(s.look v q).ok
 data:v.lost=false->∀q,q<s.size v->x.data[q]! = (s.look v q).text
structure Rel(s:St)(r:aQ):Prop where
 n:r.n=s.n
 len:r.af.length=s.af.length
 each:∀i,i<s.af.length->jq s (s.af[i]!) (r.af[i]!)
theorem jq.congr{s s':St}{v v':aF}{x:ay}(h:jq s v x)(hn:v'.name=v.name)(ho:v'.org=none↔v.org=none)(hon:(s'.aB v').name=(s.aB v).name)(hz:s'.size v'=s.size v)(hx:v'.xs=v.xs)(hk:v'.kept=v.kept)(hl:v'.lost=v.lost)
 (hq:v'.lost=false->∀q,q<s.size v->s'.look v' q=s.look v q):jq s' v' x where
 name:=by rw[h.name,hn]
 bC:=by rw[h.bC,hon];simp[ho]
 size:=by rw[h.size,hz]
 blocks:=by rw[h.blocks,hx]
 kept:=by rw[h.kept,hk]
 lost:=by rw[h.lost,hl]
 ok:=fun hv q hlt=>by rw[hq hv q (by omega)];exact h.ok (by rw[<-hl];exact hv) q (by omega)
 data:=fun hv q hlt=>by rw[hq hv q (by omega)];exact h.data (by rw[<-hl];exact hv) q (by omega)
theorem Rel.names{s:St}{r:aQ}(h:Rel s r):r.af.map (·.name)=s.names:=by
 apply List.ext_getElem
 ·simp[St.names,h.len]
 ·intro i h1 h2;have hi:i<s.af.length:=by simpa [St.names] using h2
  have hi':i<r.af.length:=by rw[h.len];exact hi
  have e:=(h.each i hi).name;rw[getElem!_pos _ i hi',getElem!_pos _ i hi]at e;simpa [St.names] using e
theorem Rel.all{s:St}{r:aQ}(h:Rel s r):r.all=s.af.flatMap (·.xs):=by
 unfold aQ.all;have e:r.af.map (·.blocks)=s.af.map (·.xs):=by
  apply List.ext_getElem
  ·simp[h.len]
  ·intro i h1 h2;have hi:i<s.af.length:=by simpa using h2
   have hi':i<r.af.length:=by rw[h.len];exact hi
   have e:=(h.each i hi).blocks;rw[getElem!_pos _ i hi',getElem!_pos _ i hi]at e;simpa using e
 rw[List.flatMap_def,List.flatMap_def,e]
theorem Rel.free{s:St}{r:aQ}{fr:List Nat}(h:Rel s r)(hG:Good s fr):r.dD r.n=fr:=by
 refine uT _ _ (List.Pairwise.filter _ List.pairwise_lt_range) hG.heap.sorted fun z=>?_
 unfold aQ.dD;rw[List.mem_filter,h.all,h.n];have hp:z∈List.range s.n↔z∈fr++s.af.flatMap (·.xs):=hG.parts.mem_iff.symm;have hnd:=List.nodup_append.1 hG.nodup
 constructor
 ·rintro ⟨h1,h2⟩;rcases List.mem_append.1 (hp.1 h1) with h3|h3
  ·exact h3
  ·exact absurd h3 (by simpa using h2)
 ·intro hz;refine⟨hp.2 (List.mem_append.2 (Or.inl hz)),?_⟩;simp only[decide_eq_true_eq];intro h3;exact hnd.2.2 z hz z h3 rfl
theorem find_index{l:List ay}(t:ByteArray)(i:Nat)(hi:i<l.length)(hn:(l[i]!).name=t)(hd:∀j,j<i->(l[j]!).name≠t):l.find? (fun v=>decide (v.name=t))=some l[i]!:=by
 have e:l=l.take i++l[i]!::l.drop (i+1):=by rw[getElem!_pos l i hi,<-List.drop_eq_getElem_cons hi,List.take_append_drop]
 conv=>lhs;rw[e]
 rw[List.find?_append];have:(l.take i).find? (fun v=>decide (v.name=t))=none:=by
  rw[List.find?_eq_none];intro v hv;obtain⟨j,hj,rfl⟩:=List.getElem_of_mem hv;have hj':j<i:=by simp at hj;omega
  have:=hd j hj';rw[getElem!_pos l j (by omega)]at this;simpa using this
 rw[this,Option.none_or];exact List.find?_cons_of_pos (p:=fun v:ay=>decide (v.name=t)) (decide_eq_true hn)
theorem jP{w:World}{s:St}(h:ai w s){i j:Nat}(hi:i<s.af.length)(hj:j<s.af.length)(hne:i≠j):(s.af[i]!).name≠(s.af[j]!).name:=fun e=>by
 have hs:=h.sorted;rw[List.pairwise_iff_getElem]at hs;rw[getElem!_pos s.af i hi,getElem!_pos s.af j hj]at e;rcases Nat.lt_or_ge i j with hl|hl
 ·have:=hs i j hi hj hl;rw[e,nH]at this;omega
 ·have:=hs j i hj hi (by omega);rw[e,nH]at this;omega
theorem Rel.oG{w:World}{s:St}{r:aQ}(h:Rel s r)(hP:ai w s){t:ByteArray}(ht:s.has t=true):r.oO t=some (r.af[posOf s.names t]!):=by
 obtain⟨h1,h2,h3⟩:=St.aT ht;refine find_index t _ (by rw[h.len];exact h3) ?_ fun j hj=>?_
 ·rw[(h.each _ h3).name];exact h2
 ·rw[(h.each j (by omega)).name];intro e;exact jP hP (by omega) h3 (by omega:j≠posOf s.names t) (e.trans h2.symm)
theorem Rel.rX{w:World}{s:St}{r:aQ}(h:Rel s r)(hP:ai w s){t:ByteArray}(ht:s.has t=false):r.oO t=none:=by
 unfold aQ.oO;rw[List.find?_eq_none];intro v hv hn;have hn':v.name=t:=by simpa using hn
 have:t∈s.names:=by rw[<-h.names,<-hn'];exact List.mem_map_of_mem hv
 have:=(AB hP.iG t).2 this;unfold St.has at ht;rw[this]at ht;cases ht
theorem Rel.aA{s:St}{r:aQ}(h:Rel s r){t:ByteArray}(ht:s.has t=true):jq s (s.aA t) (r.af[posOf s.names t]!):=h.each _ (St.aT ht).2.2
theorem AP{α β:Type}(p:α->Bool)(q:β->Bool):∀(a:List α)(b:List β),a.length=b.length->(∀i (h1:i<a.length) (h2:i<b.length),p a[i]=q b[i])->(a.filter p).length=(b.filter q).length
 | [],[],_,_=>rfl
 | [],_::_,h,_=>by simp at h
 | _::_,[],h,_=>by simp at h
 | x::a,y::b,h,e=>by
  have ih:=AP p q a b (by simpa using h) (fun i h1 h2=>e (i+1) (by simpa using h1) (by simpa using h2));have e0:p x=q y:=e 0 (by simp) (by simp);rw[List.filter_cons,List.filter_cons,e0]
  split<;>simp[ih]
theorem pz{s:St}{fr:List Nat}(hG:Good s fr){v:aF}(hv:v∈s.af):v.name≠⟨#[]⟩:=fun e=>by
 have:=hG.names v hv;rw[e]at this;simp[nameB]at this;exact absurd this.1 (by decide)
theorem Rel.dN{w:World}{s:St}{r:aQ}{fr:List Nat}(h:Rel s r)(hP:ai w s)(hG:Good s fr){u:aF}(hu:u∈s.af):r.dN u.name r.af.length=(s.aY u.vb).length:=by
 unfold aQ.dN St.aY;rw[List.take_length];refine AP _ _ _ _ h.len fun i h1 h2=>?_
 have e:=(h.each i h2).bC;rw[getElem!_pos _ i h1,getElem!_pos _ i h2]at e;have hm:s.af[i]∈s.af:=List.getElem_mem h2;rw[e];obtain⟨o1,o2,o3,o4⟩:=hP.aB hm;by_cases ho:(s.af[i]).org=none
 ·rw[if_pos ho,ho];have:¬((⟨#[]⟩:ByteArray)=u.name):=fun e=>pz hG hu e.symm
  simp[this]
 ·rw[if_neg ho];have e4:=o4 ho;rw[e4];by_cases hq:s.aB s.af[i]=u
  ·rw[hq];simp
  ·have hne:¬(s.aB s.af[i]).vb=u.vb:=fun e=>hq (hP.mF o1 hu e)
   have hnn:¬(s.aB s.af[i]).name=u.name:=fun e=>by
    obtain⟨a,ha,ea⟩:=dO o1;obtain⟨b,hb,eb⟩:=dO hu;by_cases hab:a=b
    ·subst hab;exact hq (ea.symm.trans eb)
    ·exact jP hP ha hb hab (by rw[ea,eb];exact e)
   simp[hne,hnn]
theorem UC{α:Type}[Inhabited α](m j:Nat)(v:α)(l:List α)(hm:m<=l.length)(hj:j<=l.length):(l.take m++v::l.drop m)[j]! = if j<m then l[j]! else if j=m then v else l[j-1]!:=by
 have hlen:(l.take m++v::l.drop m).length=l.length+1:=by simp;omega
 rw[getElem!_pos _ j (by omega)];by_cases h1:j<m
 ·rw[if_pos h1,List.getElem_append_left (by simp;omega),List.getElem_take,getElem!_pos l j (by omega)]
 ·rw[if_neg h1];have ht:(l.take m).length=m:=by simp;omega
  by_cases h2:j=m
  ·subst h2;rw[if_pos rfl,List.getElem_append_right (by omega)];simp[ht]
  ·rw[if_neg h2,List.getElem_append_right (by omega),getElem!_pos l (j-1) (by omega)];obtain⟨d,rfl⟩:∃d,j=m+1+d:=⟨j-m-1,by omega⟩
   simp only[ht,show m+1+d-m=d+1 by omega,List.getElem_cons_succ,List.getElem_drop]
   congr 1
   omega
theorem CV{α:Type}[Inhabited α](i j:Nat)(l:List α)(hi:i<l.length)(hj:j<l.length-1):(l.take i++l.drop (i+1))[j]! = if j<i then l[j]! else l[j+1]!:=by
 have hlen:(l.take i++l.drop (i+1)).length=l.length-1:=by simp;omega
 rw[getElem!_pos _ j (by omega)];by_cases h1:j<i
 ·rw[if_pos h1,List.getElem_append_left (by simp;omega),List.getElem_take,getElem!_pos l j (by omega)]
 ·rw[if_neg h1];have ht:(l.take i).length=i:=by simp;omega
  rw[List.getElem_append_right (by omega),getElem!_pos l (j+1) (by omega)];simp only[ht,List.getElem_drop]
  congr 1
  omega
def JW(i:Nat)(l:List ay):List ay:=l.take i++l.drop (i+1)
theorem Lr{w w':World}{s s':St}(h:ai w s)(h':ai w' s'){u:aF}(hu:u∈s.af)(hz:u.org≠none->s.aB u∈s'.af):s'.aB u=s.aB u:=by
 obtain⟨o1,o2,o3,o4⟩:=h.aB hu;cases ho:u.org with
 | none=>rw[o3 ho];unfold St.aB;rw[ho]
 | some b=>
  have e:=o4 (by rw[ho];simp);rw[ho]at e;have e2:b=(s.aB u).vb:=by simpa using e
  have:=h'.tq (hz (by rw[ho];simp));rw[<-e2]at this;rw[<-this]
  conv=>lhs;unfold St.aB
  rw[ho]
theorem jq.keep{w w':World}{s s':St}{u:aF}{x:ay}(hr:jq s u x)(h:ai w s)(h':ai w' s')(hu:u∈s.af)(hz:u.org≠none->s.aB u∈s'.af)(hq:u.lost=false->∀q,q<s.size u->s'.bl[s.holder u q]! = s.bl[s.holder u q]!):jq s' u x:=by
 have e:=Lr h h' hu hz;refine hr.congr rfl Iff.rfl (by rw[e]) (by unfold St.size;rw[e]) rfl rfl rfl fun hl q hlt=>?_
 have:=hq hl q hlt;unfold St.look;rw[<-this]
 congr 1
 unfold St.holder;rw[e]
theorem OH{w w':World}{s s':St}{r:aQ}{p:Nat}{v0:aF}{x0:ay}(h:Rel s r)(hP:ai w s)(h':ai w' s')(hv:s'.af=dS p v0 s.af)(hbl:s'.bl=s.bl)(hn:s'.n=s.n)(hp:p<=s.af.length)(hx:jq s' v0 x0)(lg:Option Nat):Rel s' { r with lg:=lg,af:=iP p x0 r.af }:=by
 have hl:=h.len;have old:∀j,j<s.af.length->jq s' (s.af[j]!) (r.af[j]!):=fun j hj=>
  (h.each j hj).keep hP h' (get_mem hj) (fun _=>by rw[hv];exact fC.2 (Or.inr (hP.aB (get_mem hj)).1)) (fun _ q _=>by rw[hbl])
 refine⟨h.n.trans hn.symm,?_,fun i hi=>?_⟩
 ·rw[hv];simp[iP,dS];omega
 ·have hlen:s'.af.length=s.af.length+1:=by rw[hv];simp[dS];omega
  show jq s' (s'.af[i]!) ((iP p x0 r.af)[i]!);rw[hv,Ob p i v0 s.af hp (by omega)];unfold iP;rw[UC p i x0 r.af (by omega) (by omega)];by_cases h1:i<p
  ·rw[if_pos h1,if_pos h1];exact old i (by omega)
  ·rw[if_neg h1,if_neg h1];by_cases h2:i=p
   ·rw[if_pos h2,if_pos h2];exact hx
   ·rw[if_neg h2,if_neg h2];exact old (i-1) (by omega)
theorem OG{s s':St}{r:aQ}{i:Nat}(rv:List ay)(hlen:rv.length=s.af.length)(hi:i<s.af.length)(hv:s'.af=aZ i s.af)(hn:r.n=s'.n)(hx:∀j,j<s.af.length->j≠i->jq s' (s.af[j]!) (rv[j]!))(lg:Option Nat):Rel s' { r with lg:=lg,af:=JW i rv }:=by
 have hl':s'.af.length=s.af.length-1:=by rw[hv];exact pJ i _ hi
 refine⟨hn,?_,fun j hj=>?_⟩
 ·show(JW i rv).length=_;rw[hl'];simp[JW];omega
 ·show jq s' (s'.af[j]!) ((JW i rv)[j]!);rw[hv];unfold aZ JW;rw[CV i j s.af hi (by omega),CV i j rv (by omega) (by omega)];by_cases h1:j<i
  ·rw[if_pos h1,if_pos h1];exact hx j (by omega) (by omega)
  ·rw[if_neg h1,if_neg h1];exact hx (j+1) (by omega) (by omega)
theorem filter_all{α:Type}(p:α->Bool):∀(l:List α),(∀x∈l,p x=true)->l.filter p=l:=fun l h=>List.filter_eq_self.2 h
theorem Ai{w:World}{s:St}{r:aQ}(h:Rel s r)(hP:ai w s){t:ByteArray}(ht:s.has t=true)(rv:List ay)(hlen:rv.length=s.af.length)(hnm:∀j,j<s.af.length->(rv[j]!).name=(s.af[j]!).name)(rb:Nat)(lg:Option Nat)(n:Nat) :
 aQ.without ⟨rb,lg,n,rv⟩ t rv.length=JW (posOf s.names t) rv:=by
 obtain⟨h1,h2,h3⟩:=St.aT ht;have hi:posOf s.names t<rv.length:=by omega
 have hne:∀j,j<rv.length->j≠posOf s.names t->¬(rv[j]!).name=t:=fun j hj Dp e=>by
  rw[hnm j (by omega)]at e;exact jP hP (by omega) h3 Dp (e.trans h2.symm)
 have hself:(rv[posOf s.names t]!).name=t:=by rw[hnm _ h3];exact h2
 generalize posOf s.names t=i at *;unfold aQ.without JW;show(rv.take rv.length).filter _=_;rw[List.take_length];have e:rv=rv.take i++rv[i]!::rv.drop (i+1):=by rw[getElem!_pos rv i hi,<-List.drop_eq_getElem_cons hi,List.take_append_drop]
 conv=>lhs;rw[e]
 rw[List.filter_append,List.filter_cons,if_neg (by rw[decide_eq_true_eq];exact fun hc=>hc hself)]
 congr 1
 ·refine filter_all _ _ fun v hv=>?_
  obtain⟨j,hj,rfl⟩:=List.getElem_of_mem hv;have hj':j<i:=by simp at hj;omega
  have:=hne j (by omega) (by omega);rw[getElem!_pos rv j (by omega)]at this;simpa using this
 ·refine filter_all _ _ fun v hv=>?_
  obtain⟨j,hj,rfl⟩:=List.getElem_of_mem hv;have hj':i+1+j<rv.length:=by simp at hj;omega
  have:=hne (i+1+j) hj' (by omega);rw[getElem!_pos rv _ hj']at this;simpa using this
theorem PX{s:St}{i:Nat}(hi:i<s.af.length){z:aF}(hz:z∈aZ i s.af):∃j,j<s.af.length/\j≠i/\s.af[j]! = z:=by
 obtain⟨k,hk,e⟩:=dO hz;rw[pJ i _ hi]at hk;unfold aZ at e;rw[CV i k s.af hi hk]at e;by_cases h1:k<i
 ·rw[if_pos h1]at e;exact⟨k,by omega,by omega,e⟩
 ·rw[if_neg h1]at e;exact⟨k+1,by omega,by omega,e⟩
theorem GY{w:World}{s:St}(h:ai w s){i j:Nat}(hi:i<s.af.length)(hj:j<s.af.length)(hne:j≠i):s.af[j]!∈aZ i s.af:=by
 rcases vz hi (get_mem hj) with e|e
 ·exact absurd (congrArg aF.name e) (jP h hj hi hne)
 ·exact e
theorem yC{w:World}{s:St}(h:ai w s){v:aF}(hv:v∈s.af){k:Nat}(hk:k<s.size v):s.holder v k∈v.xs\/s.holder v k∈(s.aB v).xs:=by
 unfold St.holder
 split
 ·rename_i hm
  refine Or.inl (aK ?_);have:=List.idxOf_lt_length_iff.2 hm;have:=(h.af v hv).room;omega
 ·exact Or.inr (aK hk)
theorem U6{w w':World}{s s':St}{r:aQ}{fr:List Nat}{i:Nat}(h:Rel s r)(hP:ai w s)(hG:Good s fr)(h':ai w' s')(hi:i<s.af.length)(hv:s'.af=aZ i s.af)(hbl:s'.bl=bM (s.af[i]!).xs s.bl)(hno:s.aY (s.af[i]!).vb=[])(j:Nat)(hj:j<s.af.length)(hne:j≠i):jq s' (s.af[j]!) (r.af[j]!):=by
 have hm:=get_mem hj;obtain⟨o1,o2,o3,o4⟩:=hP.aB hm;have ho:s.aB (s.af[j]!)≠s.af[i]!:=fun e=>by
  by_cases hq:(s.af[j]!).org=none
  ·rw[o3 hq]at e;exact jP hP hj hi hne (congrArg aF.name e)
  ·have e4:=o4 hq;rw[e]at e4;have:s.af[j]!∈s.aY (s.af[i]!).vb:=lG.2 ⟨hm,e4⟩;rw[hno]at this;simp at this
 obtain⟨jo,hjo,ejo⟩:=dO o1;have Dp:jo≠i:=fun e=>ho (by rw[<-e];exact ejo.symm)
 refine(h.each j hj).keep hP h' hm (fun _=>?_) fun _ q hq=>?_
 ·rw[hv,<-ejo];exact GY hP hi hjo Dp
 ·have hlt:=iC hP hG hm hq;rw[hbl,fK _ _ _ (by rw[hP.disk.len];exact hlt),if_neg];rcases yC hP hm hq with e|e
  ·exact hG.dP hj hi hne e
  ·rw[<-ejo]at e;exact hG.dP hjo hi Dp e
theorem uJ{α:Type}[Inhabited α](n q:Nat)(a:α)(h:q<n):(List.replicate n a)[q]! = a:=by
 rw[getElem!_pos _ q (by simpa using h)];simp
theorem UI{w:World}{s s':St}{fr:List Nat}{v0:aF}{x0:ay}(hG:Good s fr)(hbl:s'.bl=s.bl){k:Nat}(hk:k<=fr.length)(hxs:v0.xs=fr.take k)(ho:v0.org=none)(hkp:v0.kept=[])(hl:v0.lost=false)
 (h1:x0.name=v0.name) (h2:x0.bC=⟨#[]⟩) (h3:x0.data=List.replicate k eP) (h4:x0.blocks=fr.take k) (h5:x0.kept=[]) (h6:x0.lost=false):jq s' v0 x0:=by
 have e:s'.aB v0=v0:=by unfold St.aB;rw[ho]
 have hsz:s'.size v0=k:=by unfold St.size;rw[e,hxs,List.length_take];omega
 have hlook:∀q,q<k->s'.look v0 q=aN.zero:=fun q hq=>by
  unfold St.look St.holder;rw[e,hkp,if_neg (by simp),hbl];refine hG.zero _ ?_;rw[hxs];exact List.mem_of_mem_take (aK (by rw[List.length_take];omega))
 refine⟨h1,by rw[h2,if_pos ho],by rw[h3,hsz];simp,by rw[h4,hxs],by rw[h5,hkp],by rw[h6,hl],fun _ q hq=>?_,fun _ q hq=>?_⟩
 ·rw[hlook q (by omega)];exact aN.Hg
 ·rw[hlook q (by omega),h3,uJ _ _ _ (by omega),aN.tV]
theorem FK{w w':World}{s s':St}{v0 u:aF}{x0 xu:ay}(hP:ai w s)(h':ai w' s')(hsub:∀v∈s.af,v∈s'.af)(hbl:s'.bl=s.bl)(hu:u∈s.af)(hu0:u.org=none)(hru:jq s u xu)(hv0:v0∈s'.af)(ho:v0.org=some u.vb)(hkp:v0.kept=[])(hl:v0.lost=false)
 (h1:x0.name=v0.name) (h2:x0.bC=u.name) (h3:x0.data=xu.data) (h4:x0.blocks=v0.xs) (h5:x0.kept=[]) (h6:x0.lost=false):jq s' v0 x0:=by
 have hul:u.lost=false:=((hP.af u hu).plain hu0).2;have e:s'.aB v0=u:=by unfold St.aB;rw[ho];exact h'.tq (hsub u hu)
 have hn:=UU hP h' hsub hbl hu hu0 hv0 ho hkp;have hsz:=(hn 0).2;refine⟨h1,by rw[h2,if_neg (by rw[ho];simp),e],by rw[h3,hsz];exact hru.size,h4,by rw[h5,hkp],by rw[h6,hl],fun _ q hq=>?_,fun _ q hq=>?_⟩
 ·rw[(hn q).1];exact hru.ok hul q (by omega)
 ·rw[(hn q).1,h3];exact hru.data hul q (by omega)
theorem Ba{w w':World}{s s':St}{r:aQ}{i:Nat}{v':aF}(h:Rel s r)(hP:ai w s)(h':ai w' s')(hi:i<s.af.length)(hv:s'.af=aC i v' s.af)(hno:s.aY (s.af[i]!).vb=[])
 (hb:∀j,j<s.af.length->j≠i->∀q∈(s.af[j]!).xs,s'.bl[q]! = s.bl[q]!) (j:Nat) (hj:j<s.af.length) (hne:j≠i):jq s' (s.af[j]!) (r.af[j]!):=by
 have hm:=get_mem hj;obtain⟨o1,o2,o3,o4⟩:=hP.aB hm;have ho:s.aB (s.af[j]!)≠s.af[i]!:=fun e=>by
  by_cases hq:(s.af[j]!).org=none
  ·rw[o3 hq]at e;exact jP hP hj hi hne (congrArg aF.name e)
  ·have e4:=o4 hq;rw[e]at e4;have:s.af[j]!∈s.aY (s.af[i]!).vb:=lG.2 ⟨hm,e4⟩;rw[hno]at this;simp at this
 obtain⟨jo,hjo,ejo⟩:=dO o1;have Dp:jo≠i:=fun e=>ho (by rw[<-e];exact ejo.symm)
 refine(h.each j hj).keep hP h' hm (fun _=>?_) fun _ q hq=>?_
 ·rw[hv,<-ejo];exact iL.2 (Or.inr (GY hP hi hjo Dp))
 ·rcases yC hP hm hq with e|e
  ·exact hb j hj hne _ e
  ·rw[<-ejo]at e;exact hb jo hjo Dp _ e
theorem vT{α:Type}[Inhabited α](l:List α)(i j:Nat)(v:α)(hi:i<l.length)(hj:j<l.length):(l.set i v)[j]! = if j=i then v else l[j]!:=by
 rw[getElem!_pos _ j (by simpa using hj),List.getElem_set];by_cases h:i=j
 ·subst h;simp
 ·rw[if_neg h,if_neg (fun e=>h e.symm),getElem!_pos l j hj]
theorem He{s s':St}{r:aQ}{i:Nat}{v':aF}{x':ay}(h:Rel s r)(hi:i<s.af.length)(hv:s'.af=aC i v' s.af)(hn:s'.n=s.n)(hx:jq s' v' x')(ho:∀j,j<s.af.length->j≠i->jq s' (s.af[j]!) (r.af[j]!)):Rel s' { r with af:=r.af.set i x' }:=by
 refine⟨h.n.trans hn.symm,?_,fun j hj=>?_⟩
 ·show(r.af.set i x').length=_;rw[hv,gW i v' s.af hi,List.length_set];exact h.len
 ·have hj':j<s.af.length:=by rw[hv,gW i v' s.af hi]at hj;exact hj
  show jq s' (s'.af[j]!) ((r.af.set i x')[j]!);rw[hv,dh i j v' s.af hi hj',vT _ _ _ _ (by rw[h.len];exact hi) (by rw[h.len];exact hj')];by_cases e:j=i
  ·rw[if_pos e,if_pos e];exact hx
  ·rw[if_neg e,if_neg e];exact ho j hj' e
theorem BG{α:Type}[Inhabited α](l:List α)(k q:Nat)(h:q<k)(hl:q<l.length):(l.take k)[q]! = l[q]!:=by
 rw[getElem!_pos _ q (by simp;omega),getElem!_pos l q hl];simp
theorem xC{α:Type}[Inhabited α](a b:List α)(q:Nat)(h:q<a.length):(a++b)[q]! = a[q]!:=by
 rw[getElem!_pos _ q (by simp;omega),getElem!_pos a q h,List.getElem_append_left h]
theorem uH{α:Type}[Inhabited α](a b:List α)(q:Nat)(h:a.length<=q)(hb:q<a.length+b.length):(a++b)[q]! = b[q-a.length]!:=by
 rw[getElem!_pos _ q (by simp;omega),getElem!_pos b _ (by omega),List.getElem_append_right h]
theorem TY{w:World}{s s':St}{fr:List Nat}{v v':aF}{x x':ay}{k:Nat}(hP:ai w s)(hG:Good s fr)(hv:v∈s.af)(hr:jq s v x)(ho:v.org=none)(hk:k<=v.xs.length)(hbl:s'.bl=bM (v.xs.drop k) s.bl)(hv':v'={ v with xs:=v.xs.take k })(hn:v.xs.Nodup)
 (h1:x'.name=x.name) (h2:x'.bC=x.bC) (h3:x'.data=x.data.take k) (h4:x'.blocks=x.blocks.take k) (h5:x'.kept=x.kept) (h6:x'.lost=x.lost):jq s' v' x':=by
 have e0:s.aB v=v:=(hP.aB hv).2.2.1 ho;have hsz0:s.size v=v.xs.length:=by unfold St.size;rw[e0]
 have hkn:=(hP.af v hv).fE ho;have hl:=((hP.af v hv).plain ho).2;have ho':v'.org=none:=by rw[hv'];exact ho
 have hx':v'.xs=v.xs.take k:=by rw[hv']
 have hk':v'.kept=[]:=by rw[hv'];exact hkn
 have e:s'.aB v'=v':=by unfold St.aB;rw[ho']
 have hsz:s'.size v'=k:=by unfold St.size;rw[e,hx',List.length_take];omega
 have hlook:∀q,q<k->s'.look v' q=s.look v q:=fun q hq=>by
  unfold St.look St.holder;rw[e,e0,hk',hkn,if_neg (by simp),if_neg (by simp),hx',BG _ _ _ hq (by omega),hbl];have hm:v.xs[q]!∈v.xs:=aK (by omega);rw[fK _ _ _ (by rw[hP.disk.len];exact hG.lt.2 v hv _ hm),if_neg];intro hd;rw[<-List.take_append_drop k v.xs,List.nodup_append]at hn;refine hn.2.2 v.xs[q]! ?_ _ hd rfl;rw[<-BG v.xs k q hq (by omega)];exact aK (by rw[List.length_take];omega)
 have hd0:=hr.size;refine⟨by rw[h1,hr.name,hv'],by rw[h2,hr.bC,if_pos ho,if_pos ho'],by rw[h3,hsz,List.length_take];omega,by rw[h4,hr.blocks,hx'],by rw[h5,hr.kept,hv'],by rw[h6,hr.lost,hv'],fun _ q hq=>?_,fun _ q hq=>?_⟩
 ·rw[hlook q (by omega)];exact hr.ok hl q (by omega)
 ·rw[hlook q (by omega),h3,BG _ _ _ (by omega) (by omega)];exact hr.data hl q (by omega)
theorem PN{w:World}{s s':St}{fr:List Nat}{v v':aF}{x x':ay}{m g:Nat}(hP:ai w s)(hG:Good s fr)(hv:v∈s.af)(hr:jq s v x)(ho:v.org=none)(hm:m<=fr.length)(hbl:s'.bl=s.bl)(hv':v'={ v with gb:=g,xs:=v.xs++fr.take m })
 (h1:x'.name=x.name) (h2:x'.bC=x.bC) (h3:x'.data=x.data++List.replicate m eP) (h4:x'.blocks=x.blocks++fr.take m) (h5:x'.kept=x.kept) (h6:x'.lost=x.lost):jq s' v' x':=by
 have e0:s.aB v=v:=(hP.aB hv).2.2.1 ho;have hsz0:s.size v=v.xs.length:=by unfold St.size;rw[e0]
 have hkn:=(hP.af v hv).fE ho;have hl:=((hP.af v hv).plain ho).2;have ho':v'.org=none:=by rw[hv'];exact ho
 have hx':v'.xs=v.xs++fr.take m:=by rw[hv']
 have hk':v'.kept=[]:=by rw[hv'];exact hkn
 have e:s'.aB v'=v':=by unfold St.aB;rw[ho']
 have hft:(fr.take m).length=m:=by rw[List.length_take];omega
 have hsz:s'.size v'=v.xs.length+m:=by unfold St.size;rw[e,hx',List.length_append,hft]
 have hd0:=hr.size;have hlook:∀q,q<v.xs.length->s'.look v' q=s.look v q:=fun q hq=>by
  unfold St.look St.holder;rw[e,e0,hk',hkn,if_neg (by simp),if_neg (by simp),hx',xC _ _ _ hq,hbl]
 have Sz:∀q,v.xs.length<=q->q<v.xs.length+m->s'.look v' q=aN.zero:=fun q hq1 hq2=>by
  unfold St.look St.holder;rw[e,hk',if_neg (by simp),hx',uH _ _ _ hq1 (by omega),hbl];exact hG.zero _ (List.mem_of_mem_take (aK (by omega)))
 refine⟨by rw[h1,hr.name,hv'],by rw[h2,hr.bC,if_pos ho,if_pos ho'],by rw[h3,hsz,List.length_append,List.length_replicate];omega,by rw[h4,hr.blocks,hx'],by rw[h5,hr.kept,hv'],by rw[h6,hr.lost,hv'],fun _ q hq=>?_,fun _ q hq=>?_⟩
 ·by_cases hq1:q<v.xs.length
  ·rw[hlook q hq1];exact hr.ok hl q (by omega)
  ·rw[Sz q (by omega) (by omega)];exact aN.Hg
 ·by_cases hq1:q<v.xs.length
  ·rw[hlook q hq1,h3,xC _ _ _ (by omega)];exact hr.data hl q (by omega)
  ·rw[Sz q (by omega) (by omega),h3,uH _ _ _ (by omega) (by rw[List.length_replicate];omega),uJ _ _ _ (by omega),aN.tV]
end
section
open Go.RowKit Go.Sort
variable [DecidableEq aN] [Inhabited aN] [Inhabited aF]
theorem JI(s:St)(t:ByteArray)(w:World)(h:ai w s)(hi:s.has t=false) :
 Calls prog 55 #[.pointer (some ⟨s.pb,0,none⟩),.string t] w fun e w'=>e=.returned (.int .i64 4)/\w'=w:=by
 have hf:=qf s t w h hi;clear h
 go_enter func55,ntmps55
 go_wp2_with (go_at_call 77;refine hf.mono ?_;rintro e w' ⟨rfl,rfl⟩)
 go_ret
 exact⟨rfl,rfl⟩
theorem LV(s:St)(t:ByteArray)(w:World)(h:ai w s)(hi:s.has t=true)(hb:s.aY (s.aA t).vb≠[]) :
 Calls prog 55 #[.pointer (some ⟨s.pb,0,none⟩),.string t] w fun e w'=>e=.returned (.int .i64 8)/\Same [] w w':=by
 have hf:=dM s t w h hi;have hP:=bZ s (s.aA t) w h (St.aT hi).1;have hl:0<(s.aY (s.aA t).vb).length:=by cases hq:s.aY (s.aA t).vb<;>simp_all
 have hl2:(s.aY (s.aA t).vb).length<=20:=Nat.le_trans (List.length_filter_le _ _) h.few;clear h
 go_enter func55,ntmps55
 go_wp2_with (first|(go_at_call 77;refine hf.mono ?_;rintro e w' ⟨rfl,rfl⟩)|(go_at_call 93;refine hP.mono ?_;rintro e w1 ⟨sl,rfl,hown,S1⟩;obtain⟨ag,zZ,rfl⟩:=ak hown))
 go_ret
 exact⟨rfl,S1⟩
theorem P9(s:St)(fr:List Nat)(t:ByteArray)(w:World)(h:ai w s)(hG:Good s fr)(hi:s.has t=true)(hb:s.aY (s.aA t).vb=[]) :
 Calls prog 55 #[.pointer (some ⟨s.pb,0,none⟩),.string t] w fun e w'=>e=.returned (.int .i64 0) /\
  ∃g,After w s w' { s with m:=s.m+(s.aA t).xs.length,bl:=bM (s.aA t).xs s.bl,d:=fP s.m (s.aA t).xs s.d,ab:=some g,af:=aZ (posOf s.names t) s.af } (fZ (s.aA t).xs fr):=by
 have hf:=dM s t w h hi;have hP:=bZ s (s.aA t) w h (St.aT hi).1;rw[hb]at hP;have hno:∀u∈s.af,u.org≠some (s.aA t).vb:=fun u hu e=>by
  have:u∈s.aY (s.aA t).vb:=by simp[St.aY,hu,e]
  rw[hb]at this;simp at this
 have hD:=fun W (hW:Same [] w W)=>OI s fr t W (h.new hW) hG hi hno
 clear h hG
 go_enter func55,ntmps55
 go_wp2_with (first|(go_at_call 77;refine hf.mono ?_;rintro e w' ⟨rfl,rfl⟩)|(go_at_call 93;refine hP.mono ?_;rintro e w1 ⟨sl,rfl,hown,S1⟩;obtain⟨ag,zZ,rfl⟩:=ak hown)|(go_at_call 100;refine(hD _ S1).mono ?_;rintro e w3 ⟨rfl,g,hA⟩))
 have jT:=hA.old S1;clear hA hD hown
 go_ret
 exact⟨rfl,g,jT⟩
theorem KI(s:St)(t:ByteArray)(w:World)(h:ai w s)(hi:s.has t=false) :
 Calls prog 59 #[.pointer (some ⟨s.pb,0,none⟩),.string t] w fun e w'=>e=.returned (.int .i64 4)/\w'=w:=by
 have hf:=qf s t w h hi;clear h
 go_enter func59,ntmps59
 go_wp2_with (go_at_call 77;refine hf.mono ?_;rintro e w' ⟨rfl,rfl⟩)
 go_ret
 exact⟨rfl,rfl⟩
theorem Ny(s:St)(t:ByteArray)(w:World)(h:ai w s)(hi:s.has t=true)(ho:(s.aA t).org=none) :
 Calls prog 59 #[.pointer (some ⟨s.pb,0,none⟩),.string t] w fun e w'=>e=.returned (.int .i64 7)/\w'=w:=by
 have hf:=dM s t w h hi;have hI:=aJ (s.aA t) w (h.af _ (St.aT hi).1);rw[ho]at hI;have hnot:=bP;clear h
 go_enter func59,ntmps59
 go_wp2_with (first|(go_at_call 77;refine hf.mono ?_;rintro e w' ⟨rfl,rfl⟩)|(go_at_call 88;refine hI.mono ?_;rintro e w' ⟨rfl,rfl⟩))
 go_ret
 exact⟨rfl,rfl⟩
theorem JQ(s:St)(t:ByteArray)(w:World)(h:ai w s)(hi:s.has t=true)(ho:(s.aA t).org≠none)(hl:(s.aA t).lost=true) :
 Calls prog 59 #[.pointer (some ⟨s.pb,0,none⟩),.string t] w fun e w'=>e=.returned (.int .i64 9)/\w'=w:=by
 have hf:=dM s t w h hi;have hI:=aJ (s.aA t) w (h.af _ (St.aT hi).1);have ho':(s.aA t).org.isSome=true:=by cases hq:(s.aA t).org<;>simp_all
 rw[ho']at hI;have c4:=lH h (St.aT hi).1;rw[hl]at c4;have hnot:=bP;clear h
 go_enter func59,ntmps59
 go_wp2_with (first|(go_at_call 77;refine hf.mono ?_;rintro e w' ⟨rfl,rfl⟩)|(go_at_call 88;refine hI.mono ?_;rintro e w' ⟨rfl,rfl⟩))
 go_ret
 exact⟨rfl,rfl⟩
theorem J5(s:St)(t:ByteArray)(w:World)(h:ai w s)(hi:s.has t=true)(ho:(s.aA t).org≠none)(hl:(s.aA t).lost=false)(hb:1<(s.aY (s.aB (s.aA t)).vb).length) :
 Calls prog 59 #[.pointer (some ⟨s.pb,0,none⟩),.string t] w fun e w'=>e=.returned (.int .i64 8)/\Same [] w w':=by
 have hf:=dM s t w h hi;have hmem:=(St.aT hi).1;have hI:=aJ (s.aA t) w (h.af _ hmem);have ho':(s.aA t).org.isSome=true:=by cases hq:(s.aA t).org<;>simp_all
 rw[ho']at hI;have c4:=lH h hmem;rw[hl]at c4;obtain⟨o1,o2,o3,o4⟩:=h.aB hmem;obtain⟨_,_,_,hvo,_,_⟩:=(h.af _ hmem).aA;have c2:w.cell? ⟨(s.aA t).vb,2,none⟩=some (.pointer (mO (s.aA t).org)):=hvo.cell? 2;rw[o4 ho]at c2;simp only[mO,Option.map_some]at c2;have hP:=bZ s (s.aB (s.aA t)) w h o1;have hl2:(s.aY (s.aB (s.aA t)).vb).length<=20:=Nat.le_trans (List.length_filter_le _ _) h.few;have hnot:=bP;clear h hvo;generalize (s.aB (s.aA t)).vb=ub at *
 go_enter func59,ntmps59
 go_wp2_with (first|(go_at_call 77;refine hf.mono ?_;rintro e w' ⟨rfl,rfl⟩)|(go_at_call 88;refine hI.mono ?_;rintro e w' ⟨rfl,rfl⟩)|(go_at_call 93;refine hP.mono ?_;rintro e w1 ⟨sl,rfl,hown,S1⟩;obtain⟨ag,zZ,rfl⟩:=ak hown))
 go_ret
 exact⟨rfl,S1⟩
def jI(u v:aF)(bl:List aN):Nat->List aN
 | 0=>bl
 | j+1=>(jI u v bl j).set u.xs[v.kept[j]!]! ((jI u v bl j)[v.xs[j]!]!)
theorem kF(u v:aF)(bl:List aN)(j:Nat):(jI u v bl j).length=bl.length:=by
 induction j with
 | zero=>rfl
 | succ j ih=>simp[jI,ih]
theorem QI(s:St)(fr:List Nat)(t:ByteArray)(u v:aF)(w:World)(h:ai w s)(hG:Good s fr)(hi:s.has t=true)(hv:s.aA t=v)(ho:v.org=some u.vb)(hu:u∈s.af)(hl:v.lost=false)(hb:(s.aY u.vb).length<=1) :
 Calls prog 59 #[.pointer (some ⟨s.pb,0,none⟩),.string t] w fun e w'=>e=.returned (.int .i64 0) /\
  ∃g,After w s w' { s with m:=s.m+v.xs.length,bl:=bM v.xs (jI u v s.bl v.kept.length),d:=fP s.m v.xs s.d,ab:=some g,af:=aZ (posOf s.names t) s.af } (fZ v.xs fr):=by
 have hf:=dM s t w h hi;have hmem:v∈s.af:=by rw[<-hv];exact(St.aT hi).1
 have hI:=aJ v w (h.af _ hmem);rw[ho]at hI;have c4:=lH h hmem;rw[hl]at c4;obtain⟨cap,dW,hcap,hvo,hk1,hk2⟩:=(h.af _ hmem).aA;have c2:w.cell? ⟨v.vb,2,none⟩=some (.pointer (mO v.org)):=hvo.cell? 2;rw[ho]at c2;simp only[mO,Option.map_some]at c2;have c3:w.cell? ⟨v.vb,3,none⟩=some (.slice (mO v.kg) v.kept.length dW):=hvo.cell? 3;have hP:=bZ s u w h hu;have hnot:=bP;rw[hv]at hf;have hsm:=(h.af _ hmem).small;have hrm:=(h.af _ hmem).room;have HS:Hid (∀W,Same [] w W->W.cell? ⟨v.vb,3,none⟩=some (.slice (mO v.kg) v.kept.length dW)):=fun W hW=>(hW.at hvo (by simp)).cell? 3
 clear hvo
 go_enter func59,ntmps59
 go_wp2_with (first|(go_at_call 77;refine hf.mono ?_;rintro e w' ⟨rfl,hw⟩;obtain rfl:=hw.symm)|(go_at_call 88;refine hI.mono ?_;rintro e w' ⟨rfl,hw⟩;obtain rfl:=hw.symm)|(go_at_call 93;refine hP.mono ?_;rintro e w1 ⟨sl,rfl,hown,S1⟩;obtain⟨ag,zZ,rfl⟩:=ak hown;have d3:=HS.out w1 S1))
 have hP1:=h.new S1;have hA1:After w1 s w1 { s with bl:=jI u v s.bl 0 } fr:=⟨hP1,hG,Same.refl _ _,fun k hk=>Or.inl hk,rfl,rfl⟩
 have hu0:u.org=none:=by
  obtain⟨x,hx,e1,e2⟩:=h.zD v hmem _ ho;rw[<-h.mF hx hu e1];exact e2
 have hpk:=(hG.dN v hmem).2.2 u hu ho;have hul:=(h.af u hu).small;have HH:Hid (ai w s/\Good s fr/\Same [] w w1):=⟨h,hG,S1⟩
 have HL:Hid (∀(x:Nat),x∈u.xs->x<s.n/\x∉fr):=fun x hx=>⟨hG.lt.2 u hu x hx,hG.wY hu hx⟩
 have HM:Hid (∀(x:Nat),x∈v.xs->x<s.n):=fun x hx=>hG.lt.2 v hmem x hx
 have HKX:Hid (∀k∈v.kept,k<u.xs.length):=hpk.1;clear hown hP hI hf hk1 hk2 c2 c3 c4 d3 h hG hP1 S1 HS
 go_loopw [38] (fun i wr=>∃j:Nat,j<=v.kept.length/\i=.int .i64 j/\After w1 s wr { s with bl:=jI u v s.bl j } fr) (fun i _=>v.kept.length-(intOf i).toNat)
 case atStart=>exact⟨0,Nat.zero_le _,rfl,hA1⟩
 case round=>
  obtain⟨j,hj,rfl,hA⟩:=hrel;have hPj:=hA.pool;have hVv:=hPj.af v hmem;have hVu:=hPj.af u hu;by_cases hjl:j<v.kept.length
  ·obtain⟨cap',abg,_,hvo,hk1,hk2⟩:=hVv.aA;obtain⟨cs,hr⟩:=hVv.row;obtain⟨g,hg⟩:∃g,v.kg=some g:=by
    cases hgk:v.kg with
    | none=>rw[(hk1 hgk).1]at hjl;simp at hjl
    | some g=>exact⟨g,rfl⟩
   have cj:=(hk2 g hg).cell j hjl;have hkm:v.kept[j]!∈v.kept:=by rw[getElem!_pos v.kept j hjl];exact List.getElem_mem hjl
   have hku:=HKX.out _ hkm;have hH:=fun W (hW:Same [] wr W)=>qG u v.kept[j]! W ((hPj.new hW).af u hu) hu0 hku
   have hyu:u.xs[v.kept[j]!]!∈u.xs:=aK hku;have hxj:j<v.xs.length:=by omega
   have hxm:v.xs[j]!∈v.xs:=aK hxj;have e2:wr.cell? ⟨v.vb,2,none⟩=some (.pointer (some ⟨u.vb,0,none⟩)):=by have:=hvo.cell? 2;simp only[aF.cells,ho,mO]at this;exact this
   have e1:wr.cell? ⟨v.vb,1,none⟩=some (.slice (some ⟨v.gb,0,none⟩) v.xs.length cap'):=hvo.cell? 1;have ex:wr.cell? ⟨v.gb,j,none⟩=some (.int .i64 (v.xs[j]!:Nat)):=by rw[hr.at_.cell?];exact hr.cell j hxj
   obtain⟨pc,hpp,_,_⟩:=hPj.pool;have p1:wr.cell? ⟨s.pb,1,none⟩=some (.pointer (some ⟨s.db,0,none⟩)):=hpp.cell? 1;have hbl:=hPj.disk.len;have hR:=fun W (hW:Same [] wr W)=>gu s.db s.bb s.n v.xs[j]! _ _ _ (jI u v s.bl j) W _ _ rfl rfl (hPj.new hW).disk.disk (hPj.new hW).disk.data hbl (HM.out _ hxm) (by have:=hPj.disk.small;simp at this;omega)
   have hW:=fun W (hW:Same [] wr W) bv (hbv:bv=((jI u v s.bl j)[v.xs[j]!]!).val)=>iR s.db s.bb s.n u.xs[v.kept[j]!]! _ _ _ (jI u v s.bl j) ((jI u v s.bl j)[v.xs[j]!]!) W _ bv _ rfl rfl hbv (hPj.new hW).disk.disk (hPj.new hW).disk.data hbl (HL.out _ hyu).1 (by have:=hPj.disk.small;simp at this;omega)
   have HF:Hid (∀w6,At w6 s.bb 91 (flat (jI u v s.bl (j+1)))->Same [s.bb] wr w6->After w1 s w6 { s with bl:=jI u v s.bl (j+1) } fr):=fun w6 A6 S6=>
    hA.step (su hPj hA.good u.xs[v.kept[j]!]! ((jI u v s.bl j)[v.xs[j]!]!) (HL.out _ hyu).2 A6 S6)
   have HRB:Hid (jI u v s.bl (j+1)=(jI u v s.bl j).set u.xs[v.kept[j]!]! ((jI u v s.bl j)[v.xs[j]!]!)):=rfl;have l2:(j:Int)<(v.kept.length:Int):=by omega
   have l3:(j:Int)<(v.xs.length:Int):=by omega
   have HPB:Hid (∀W,Same [] wr W->W.cell? ⟨s.pb,1,none⟩=some (.pointer (some ⟨s.db,0,none⟩))):=fun W hW=>(hW.at hpp (by simp)).cell? 1
   have OV:=(jJ hPj.nodup).disk v hmem;have nb1:v.vb≠s.bb:=by have:=OV v.vb (by simp[aF.foot]);simp only[List.mem_cons,not_or]at this;exact this.2.2.1
   have nb2:v.gb≠s.bb:=by have:=OV v.gb (by simp[aF.foot]);simp only[List.mem_cons,not_or]at this;exact this.2.2.1
   have nb3:s.pb≠s.bb:=by have:=(jJ hPj.nodup).pb;simp only[List.mem_cons,not_or]at this;exact this.2.1
   have HSS:Hid (∀W,Same [s.bb] wr W->W.cell? ⟨s.pb,1,none⟩=some (.pointer (some ⟨s.db,0,none⟩))/\W.cell? ⟨v.vb,2,none⟩=some (.pointer (some ⟨u.vb,0,none⟩))/\W.cell? ⟨v.vb,1,none⟩=some (.slice (some ⟨v.gb,0,none⟩) v.xs.length cap')/\W.cell? ⟨v.gb,j,none⟩=some (.int .i64 (v.xs[j]!:Nat))):=fun W hW=>by
    refine⟨(hW.at hpp (by simpa using nb3)).cell? 1,?_,(hW.at hvo (by simpa using nb1)).cell? 1,?_⟩
    ·have:=(hW.at hvo (by simpa using nb1)).cell? 2;simp only[aF.cells,ho,mO]at this;exact this
    ·rw[(hW.at hr.at_ (by simpa using nb2)).cell?];exact hr.cell j hxj
   rw[hg];simp only[mO,Option.map_some];clear OV hA hPj hVv hVu hvo hr hk1 hk2 hpp hkm hku hyu hxm hbl;generalize u.xs[v.kept[j]!]! = yy at *;generalize v.kept[j]! = kk at *;generalize v.xs[j]! = xx at *;generalize (jI u v s.bl j)[xx]! = old at *
   go_wp2_with fail
   go_region_held3 (fun w'=>w'.cell? ⟨s.pb,1,none⟩=some (.pointer (some ⟨s.db,0,none⟩))/\w'.cell? ⟨v.vb,2,none⟩=some (.pointer (some ⟨u.vb,0,none⟩))/\w'.cell? ⟨v.vb,1,none⟩=some (.slice (some ⟨v.gb,0,none⟩) v.xs.length cap')/\w'.cell? ⟨v.gb,j,none⟩=some (.int .i64 (xx:Nat))) (first|assumption|exact⟨p1,e2,e1,ex⟩|exact HSS.out _ (by assumption)) (first|(go_at_call 87;refine(hH _ ((Same.refl _ _).drew)).mono ?_;rintro e w' ⟨rfl,rfl⟩)|(go_at_call 69;refine(hR _ ((Same.refl _ _).drew)).mono ?_;rintro e w3 ⟨rfl,S3⟩;have S4:=((Same.refl [] wr).drew).step S3 (by simp);have hk3:=HSS.out w3 (S4.mono (T:=[s.bb]) (by simp)))|(go_at_call 102;refine(hW w3 S4 _ rfl).mono ?_;rintro e w5 ⟨rfl,A5,S5⟩;have hk5:=HSS.out w5 ((S4.mono (T:=[s.bb]) (by simp)).step S5 (by simp))))
   all_goals
    have jT:=HF.out w5 (by rw[HRB.out];exact A5) ((S4.mono (T:=[s.bb]) (by simp)).step S5 (by simp));clear HF A5 S5 hW hR hH HPB S3 S4
    go_wp2
    go_roundw
    case rel=>exact⟨j+1,by omega,by go_num,jT⟩
    case measure=>simp[intOf];omega
  ·have ej:j=v.kept.length:=by omega
   subst ej;obtain⟨h,hG,S1⟩:=HH.out;have hno:∀x∈s.af,x.org≠some v.vb:=fun x hx e=>by
    obtain⟨y,hy,e1,e2⟩:=h.zD x hx _ e;rw[h.mF hy hmem e1]at e2;rw[e2]at ho;cases ho
   have hD:=OI { s with bl:=jI u v s.bl v.kept.length } fr t wr hPj hA.good hi (by rw[show St.aA { s with bl:=jI u v s.bl v.kept.length } t=s.aA t from rfl,hv];exact hno);rw[show St.aA { s with bl:=jI u v s.bl v.kept.length } t=s.aA t from rfl,hv]at hD;have HF:Hid (∀w5 s5 f5,After wr { s with bl:=jI u v s.bl v.kept.length } w5 s5 f5->After w s w5 s5 f5):=fun w5 s5 f5 h5=>(hA.step h5).old S1
   clear hA hPj hVv hVu h hG
   go_wp2_with (go_at_call 100;refine hD.mono ?_;rintro e w5 ⟨rfl,g,hA5⟩)
   have jT:=HF.out _ _ _ hA5;clear hA5 HF hD
   go_ret
   exact⟨rfl,g,jT⟩
theorem wu(u v:aF)(bl:List aN)(hk:∀k∈v.kept,k<u.xs.length)(x:Nat)(hx:x∉u.xs)(hl:x<bl.length):∀j,j<=v.kept.length->(jI u v bl j)[x]! = bl[x]!
 | 0,_=>rfl
 | j+1,hj=>by
  have ih:=wu u v bl hk x hx hl j (by omega);have hm:v.kept[j]!∈v.kept:=by rw[getElem!_pos v.kept j (by omega)];exact List.getElem_mem _
  have hne:x≠u.xs[v.kept[j]!]!:=fun e=>hx (by rw[e];exact aK (hk _ hm))
  show((jI u v bl j).set u.xs[v.kept[j]!]! ((jI u v bl j)[v.xs[j]!]!))[x]! = _;rw[jW _ hne (by rw[kF];exact hl)];exact ih
theorem OC(u v:aF)(bl:List aN)(hk:∀k∈v.kept,k<u.xs.length)(hkn:v.kept.Nodup)(hun:u.xs.Nodup)(hr:v.kept.length<=v.xs.length)(hd:∀x∈v.xs,x∉u.xs)(hub:∀x∈u.xs,x<bl.length)(hvb:∀x∈v.xs,x<bl.length)(q:Nat)(hq:q<u.xs.length) :
 ∀j,j<=v.kept.length->(jI u v bl j)[u.xs[q]!]! = if q∈v.kept.take j then bl[v.xs[v.kept.idxOf q]!]! else bl[u.xs[q]!]!
 | 0,_=>by simp[jI]
 | j+1,hj=>by
  have ih:=OC u v bl hk hkn hun hr hd hub hvb q hq j (by omega);have hjl:j<v.kept.length:=by omega
  have hm:v.kept[j]!∈v.kept:=by rw[getElem!_pos v.kept j hjl];exact List.getElem_mem _
  have hxm:v.xs[j]!∈v.xs:=aK (by omega);have hval:(jI u v bl j)[v.xs[j]!]! = bl[v.xs[j]!]!:=wu u v bl hk _ (hd _ hxm) (hvb _ hxm) j (by omega);have htk:v.kept.take (j+1)=v.kept.take j++[v.kept[j]!]:=by rw[List.take_succ_eq_append_getElem hjl,getElem!_pos v.kept j hjl]
  show((jI u v bl j).set u.xs[v.kept[j]!]! ((jI u v bl j)[v.xs[j]!]!))[u.xs[q]!]! = _;rw[hval];by_cases hqk:q=v.kept[j]!
  ·have aay:q∉v.kept.take j:=by
    intro hmq;obtain⟨i,hi,e⟩:=List.getElem_of_mem hmq;have hi':i<j:=by simp at hi;omega
    rw[List.getElem_take]at e;have e2:v.kept[i]'(by omega)=v.kept[j]'hjl:=by rw[e,hqk,getElem!_pos v.kept j hjl]
    have:=(List.getElem_inj (h₀:=by omega) (h₁:=hjl) hkn).1 e2;omega
   have hidx:v.kept.idxOf q=j:=AQ v.kept j q hjl hqk.symm aay;rw[<-hqk,qA _ (by rw[kF];exact hub _ (aK hq)),htk,if_pos (by rw[<-hqk];simp),hidx]
  ·have hne:u.xs[q]!≠u.xs[v.kept[j]!]!:=fun e=>by
    rw[getElem!_pos u.xs q hq,getElem!_pos u.xs _ (hk _ hm)]at e;exact hqk ((List.getElem_inj (h₀:=hq) (h₁:=hk _ hm) hun).1 e)
   rw[jW _ hne (by rw[kF];exact hub _ (aK hq)),ih,htk];by_cases hin:q∈v.kept.take j
   ·rw[if_pos hin,if_pos (List.mem_append_left _ hin)]
   ·rw[if_neg hin,if_neg (fun hm2=>(List.mem_append.1 hm2).elim hin (fun e=>hqk (by simpa only[List.mem_singleton] using e)))]
end
end Go.Proofs.YtpddgdjocffgdaaGreat
