/- A reader of an image: the mark, the list of entries, by contracts. A reader of an image: the mark, by contract. A reader of an image: the pictures get their origins, by contract. A reader of an image: which blocks are used, by contracts. -/
import Derived.Test.YtpddgdjocffgdaaGreatJ27
namespace Go.Proofs.YtpddgdjocffgdaaGreat
set_option linter.unusedVariables false
set_option linter.unusedSimpArgs false
set_option linter.unusedSectionVars false
set_option maxHeartbeats 16000000
set_option maxRecDepth 100000
section
open Go.RowKit Go.Sort
variable [DecidableEq Blk] [Inhabited Blk] [Inhabited Vol]
def entZ:List Value:=[.pointer none,.int .i64 0,.int .i64 0,.int .i64 0,.int .i64 0]
def zeros5(n:Nat):List Value:=(List.replicate n entZ).flatten
theorem zeros5_succ(n:Nat):zeros5 (n+1)=entZ++zeros5 n:=by simp[zeros5,List.replicate_succ]
def pvCells(l:List (PEnt×Vol)):List Value:=l.flatMap fun x=>x.1.cells x.2.vb
theorem pvCells_length(l:List (PEnt×Vol)):(pvCells l).length=5 * l.length:=by
 induction l with
 | nil=>rfl
 | cons a r ih=>unfold pvCells at *;rw[List.flatMap_cons,List.length_append,ih,List.length_cons];show 5+_=_;omega
theorem pvCells_snoc(l:List (PEnt×Vol))(x:PEnt×Vol):pvCells (l++[x])=pvCells l++x.1.cells x.2.vb:=by
 unfold pvCells;rw[List.flatMap_append];simp
structure PV(x:PEnt×Vol):Prop where
 eq:x.2=x.1.vol x.2.vb x.2.gb x.2.kg
 plain:x.1.kind=0->x.2.kg=none
theorem set_five(A R:List Value)(m:Nat)(hm:A.length=m)(z0 z1 z2 z3 z4 x0 x1 x2 x3 x4:Value):(((((A++([z0,z1,z2,z3,z4]++R)).set m x0).set (m+1) x1).set (m+2) x2).set (m+3) x3).set (m+4) x4=A++([x0,x1,x2,x3,x4]++R):=by
 subst hm;rw[List.set_append_right _ _ (Nat.le_refl _),Nat.sub_self];rw[List.set_append_right _ _ (by omega),show A.length+1 - A.length=1 by omega];rw[List.set_append_right _ _ (by omega),show A.length+2 - A.length=2 by omega];rw[List.set_append_right _ _ (by omega),show A.length+3 - A.length=3 by omega];rw[List.set_append_right _ _ (by omega),show A.length+4 - A.length=4 by omega];rfl
structure ListGot(w0 w w':World)(a:Option Addr)(B:List UInt8)(rd tk bound:Nat)(pv:List (PEnt×Vol))(at1 lg:Nat):Prop where
 rdr:RdAt w0 w' a B rd at1
 row:At w' lg 191 (pvCells pv)
 vols:∀x∈pv,RawAt w' x.2
 ent:∀x∈pv,PV x
 seen:At w' tk 4 (seenCells bound ((pv.map (·.1)).flatMap (·.xs)))
 new:w.heap.size<=lg/\∀x∈pv,∀k∈x.2.foot,lg < k
 nodup:(pv.flatMap fun x=>x.2.foot).Nodup
 same:Same [rd,tk] w w'
def rlist(B:List UInt8)(bound at_:Nat):Except Nat (List PEnt×Nat):=
 match rnum B 1 0 20 at_ with
 | .error q=>.error q
 | .ok (count,at1)=>rents B count bound count [] at1
def ListPost(w0 w:World)(a:Option Addr)(B:List UInt8)(rd tk bound:Nat)(spec:Except Nat (List PEnt×Nat))(e:Ending)(w':World):Prop:=
 match spec with
 | .ok (ps,at1)=>∃lg pv,e=.returned (.slice (some ⟨lg,0,none⟩) ps.length ps.length)/\pv.map (·.1)=ps/\ListGot w0 w w' a B rd tk bound pv at1 lg
 | .error q=>e=bad q/\Same [] w0 w'
theorem Tryz.infoEntry:(Tryz.prog.info? 191).map (fun i=>(i.zero,i.size,i.bytes))=some (some (.agg #[.pointer none,.int .i64 0,.int .i64 0,.int .i64 0,.int .i64 0]),5,40):=by kernel_rfl
theorem zeros5_length(n:Nat):(zeros5 n).length=5 * n:=by
 induction n with
 | zero=>rfl
 | succ n ih=>rw[zeros5_succ,List.length_append,ih];show 5+_=_;omega
theorem zeros5_get(n:Nat):∀j,j < 5 * n->(zeros5 n)[j]? = entZ[j % 5]?:=by
 induction n with
 | zero=>intro j hj;omega
 | succ n ih=>
  intro j hj;rw[zeros5_succ];by_cases h:j < 5
  ·rw[List.getElem?_append_left (by show j < 5;exact h),Nat.mod_eq_of_lt h]
  ·rw[List.getElem?_append_right (by show 5<=j;omega)];show (zeros5 n)[j - 5]? = _;rw[ih (j - 5) (by omega),show j % 5=(j - 5) % 5 by omega]
theorem made_entries(n:Nat):madeCells (Value.agg #[.pointer none,.int .i64 0,.int .i64 0,.int .i64 0,.int .i64 0]).cells (n * 5)=(zeros5 n).toArray:=by
 apply Array.toList_inj.1;have hc:(Value.agg #[.pointer none,.int .i64 0,.int .i64 0,.int .i64 0,.int .i64 0]).cells=#[.pointer none,.int .i64 0,.int .i64 0,.int .i64 0,.int .i64 0]:=rfl;rw[hc];apply List.ext_getElem?;intro j;by_cases hj:j < n * 5
 ·have hz:=zeros5_get n j (by omega);simp only[madeCells,Array.toList_map,List.getElem?_map];rw[hz];have hm:j % 5 < 5:=Nat.mod_lt _ (by omega);rw[Array.toList_range,List.getElem?_range hj];simp only[Option.map_some];generalize j % 5=m at *
  match m,hm with
  | 0,_=>rfl
  | 1,_=>rfl
  | 2,_=>rfl
  | 3,_=>rfl
  | 4,_=>rfl
 ·have h1:(zeros5 n)[j]? = none:=List.getElem?_eq_none (by rw[zeros5_length];omega);simp[madeCells,hj,h1]
theorem run_make_entries(n:Nat)(hn:n<=1000):∃LB:Array Value,LB.toList=zeros5 n/\∀W:World,(Instr.makeSlice 179 (.int .i64 (n:Int)) (.int .i64 (n:Int))).run Tryz.prog W=.ok (.slice (some ⟨W.heap.size,0,none⟩) n n) (W.alloc (.cells LB 191)):=by
 obtain⟨i0,hi,hz0,hz1,hz2⟩:=info_parts Tryz.infoEntry;refine⟨(zeros5 n).toArray,by simp,fun W=>?_⟩;have h:=run_make (P:=Tryz.prog) W 179 191 i0 _ Tryz.underlying179 hi hz0 .i64 .i64 (n:Int) (n:Int) (by omega) (by omega) (by rw[hz2];omega) (by omega);rw[hz1] at h;have e:((n:Int).toNat * 5)=n * 5:=by simp
 rw[e,made_entries] at h;simpa using h
def lgOk(w0:World)(lg:Nat):Prop:=w0.heap.size<=lg
theorem list_step{w0 w wr w2:World}{a:Option Addr}{B:List UInt8}{rd tk bound at2 vb gb lg k count:Nat}{kg:Option Nat}{p:PEnt}{pv:List (PEnt×Vol)}
 (HI:Same [rd,tk] w wr/\(∀x∈pv,RawAt wr x.2)/\(∀x∈pv,PV x)/\(∀x∈pv,∀q∈x.2.foot,lg < q)/\(pv.flatMap fun x=>x.2.foot).Nodup)
 (HFL:∀x∈pv,∀q∈x.2.foot,q < wr.heap.size) (hlw:lg < wr.heap.size)
 (HG:EntGot w0 wr w2 a B rd tk bound ((pv.map (·.1)).flatMap (·.xs)) p at2 vb gb kg)
 (HB:At w2 lg 191 (pvCells pv++(entZ++zeros5 (count - (k+1))))) (hpl:pv.length=k) (hlr:lg≠rd) (hlt:lg≠tk) (hlg:lgOk w0 lg) (hwl:w.heap.size<=lg) (hrt:∀x∈pv,∀q∈x.2.foot,q≠rd/\q≠tk) :
 let W:=((((w2.setCell ⟨lg,k * 5,none⟩ (.pointer (some ⟨vb,0,none⟩))).setCell ⟨lg,k * 5+1,none⟩ (.int .i64 p.kind)).setCell ⟨lg,k * 5+2,none⟩ (.int .i64 p.size)).setCell ⟨lg,k * 5+3,none⟩ (.int .i64 p.origin)).setCell ⟨lg,k * 5+4,none⟩ (.int .i64 p.originAt)
 RdAt w0 W a B rd at2/\At W tk 4 (seenCells bound (((pv++[(p,p.vol vb gb kg)]).map (·.1)).flatMap (·.xs)))/\At W lg 191 (pvCells (pv++[(p,p.vol vb gb kg)])++zeros5 (count - (k+1)))/\Same [rd,tk] w W/\(∀x∈pv++[(p,p.vol vb gb kg)],RawAt W x.2)/\(∀x∈pv++[(p,p.vol vb gb kg)],PV x)/\(∀x∈pv++[(p,p.vol vb gb kg)],∀q∈x.2.foot,lg < q)/\((pv++[(p,p.vol vb gb kg)]).flatMap fun x=>x.2.foot).Nodup:=by
 intro W;obtain⟨hS,hV,hP,hf,hn⟩:=HI;have SW:Same [lg] w2 W:=(((((Same.refl _ _).set _ _ _ (by simp)).set _ _ _ (by simp)).set _ _ _ (by simp)).set _ _ _ (by simp)).set _ _ _ (by simp);have hnf:∀q∈(p.vol vb gb kg).foot,lg < q:=fun q hq=>by have:=HG.new q hq;omega
 have hpc:=pvCells_length pv;refine⟨HG.rdr.next SW (by simpa using fun e=>hlr e.symm) (by intro q hq;simp only[List.mem_singleton] at hq;subst hq;exact hlg),?_,?_,?_,?_,?_,?_,?_⟩
 ·have:=SW.at HG.seen (by simpa using fun e=>hlt e.symm);simpa using this
 ·have:=((((HB.set_same (k * 5) (.pointer (some ⟨vb,0,none⟩))).set_same (k * 5+1) (.int .i64 p.kind)).set_same (k * 5+2) (.int .i64 p.size)).set_same (k * 5+3) (.int .i64 p.origin)).set_same (k * 5+4) (.int .i64 p.originAt);rw[pvCells_snoc,List.append_assoc];have e:=set_five (pvCells pv) (zeros5 (count - (k+1))) (k * 5) (by rw[hpc,hpl];omega) (.pointer none) (.int .i64 0) (.int .i64 0) (.int .i64 0) (.int .i64 0) (.pointer (some ⟨vb,0,none⟩)) (.int .i64 p.kind) (.int .i64 p.size) (.int .i64 p.origin) (.int .i64 p.originAt);have e2:entZ=[.pointer none,.int .i64 0,.int .i64 0,.int .i64 0,.int .i64 0]:=rfl;rw[e2,e] at this;exact this
 ·exact (hS.step HG.same (fun q hq _=>hq)).step SW (by simp;omega)
 ·intro x hx;rcases List.mem_append.1 hx with hx|hx
  ·exact ((hV x hx).same HG.same (fun q hq=>by have:=hrt x hx q hq;simp[this.1,this.2])).same SW (fun q hq=>by have:=hf x hx q hq;simp;omega)
  ·simp only[List.mem_singleton] at hx;subst hx;exact HG.vol.same SW (fun q hq=>by have:=hnf q hq;simp;omega)
 ·intro x hx;rcases List.mem_append.1 hx with hx|hx
  ·exact hP x hx
  ·simp only[List.mem_singleton] at hx;subst hx;exact⟨rfl,HG.plain⟩
 ·intro x hx;rcases List.mem_append.1 hx with hx|hx
  ·exact hf x hx
  ·simp only[List.mem_singleton] at hx;subst hx;exact hnf
 ·rw[List.flatMap_append,List.nodup_append];refine⟨hn,by simpa using HG.nodup,fun q hq r hr e=>?_⟩;obtain⟨x,hx,hq⟩:=List.mem_flatMap.1 hq;have h1:=HFL x hx q hq;have h2:=HG.new r (by simpa using hr);omega
theorem rlist_calls(w0 w:World)(a:Option Addr)(B:List UInt8)(rd tk at_ bound:Nat)(hB:BytesOld w0 a B)(h:RdAt w0 w a B rd at_)(hT:At w tk 4 (seenCells bound []))(htk:w0.heap.size<=tk)(hne:tk≠rd)(hb:1<=bound/\bound<=200) :
 Calls Tryz.prog 131 #[.pointer (some ⟨rd,0,none⟩),.slice (some ⟨tk,0,none⟩) bound bound] w (ListPost w0 w a B rd tk bound (rlist B bound at_)):=by
 have hnew:=h.new;have hrl:=h.cell.lt;have htl:=hT.lt;generalize hspec:rlist B bound at_=spec;unfold rlist at hspec;cases hs:rnum B 1 0 20 at_ with
 | error q=>
  rw[hs] at hspec;have HE:Hid (spec=.error q):=hspec.symm;have hN:=number_gave w0 w a B rd at_ 1 0 20 q 1 0 20 hB h (by omega) hs rfl rfl rfl;clear hspec h hT hs
  go_enter Tryz.func131,Tryz.ntmps131
  go_wp2_with (go_at_call 130;refine hN.mono ?_;rintro e w1 ⟨rfl,S1⟩;unfold bad)
  refine⟨rfl,?_⟩;show ListPost _ _ _ _ _ _ _ _ _ _;rw[HE.out];exact⟨rfl,S1⟩
 | ok pr=>
  obtain⟨count,at1⟩:=pr;rw[hs] at hspec;have HSP:Hid (rents B count bound count [] at1=spec):=hspec;have hN:=number_got w0 w a B rd at_ 1 0 20 count at1 1 0 20 hB h (by omega) hs rfl rfl rfl;have hc20:count<=20:=(rnum_ok hs).2.2.1;obtain⟨LB,hLB,hmk⟩:=run_make_entries count (by omega);have HT:Hid (At w tk 4 (seenCells bound [])):=hT;have HBO:Hid (BytesOld w0 a B):=hB;clear hspec h hT hs hB
  go_enter Tryz.func131,Tryz.ntmps131
  go_wp2_with (go_at_call 130;refine hN.mono ?_;rintro e w1 ⟨rfl,hR1,S1⟩)
  have S2:Same [] w1 (w1.alloc (.cells LB 191)):=(Same.refl _ _).alloc _;have N2:=At.new w1 LB 191;rw[hLB] at N2;have hz1:=S1.size;have HI0:Hid (RdAt w0 (w1.alloc (.cells LB 191)) a B rd at1/\At (w1.alloc (.cells LB 191)) tk 4 (seenCells bound [])/\At (w1.alloc (.cells LB 191)) w1.heap.size 191 (zeros5 count)/\Same [rd,tk] w (w1.alloc (.cells LB 191))):=⟨hR1.next S2 (by simp) (by simp),S2.at (S1.at HT.out (by simpa using hne)) (by simp),N2,(S1.mono (T:=[rd,tk]) (by intro k hk _;simp at hk;simp[hk])).step S2 (by simp)⟩
  clear hN hR1 S1 S2 N2 HT
  go_loopw [6,13] (fun ah i wr=>∃(k ati:Nat) (pv:List (PEnt×Vol)),k<=count/\i=.int .i64 k/\pv.length=k/\ah=.string (((pv.map (·.1)).getLast?.map (·.name)).getD ⟨#[]⟩)/\RdAt w0 wr a B rd ati/\At wr tk 4 (seenCells bound ((pv.map (·.1)).flatMap (·.xs)))/\At wr w1.heap.size 191 (pvCells pv++zeros5 (count - k))/\Same [rd,tk] w wr/\(∀x∈pv,RawAt wr x.2)/\(∀x∈pv,PV x)/\(∀x∈pv,∀q∈x.2.foot,w1.heap.size < q)/\(pv.flatMap fun x=>x.2.foot).Nodup/\Hid (rents B count bound (count - k) (pv.map (·.1)) ati=spec)) (fun _ i _=>count - (intOf i).toNat)
  case atStart=>exact⟨0,at1,[],Nat.zero_le _,rfl,rfl,rfl,HI0.out.1,HI0.out.2.1,by simpa [pvCells] using HI0.out.2.2.1,HI0.out.2.2.2,by simp,by simp,by simp,by simp,HSP.out⟩
  case round=>
   obtain⟨k,ati,pv,hk,rfl,hpl,rfl,hR,hTk,hA,hS,hV,hPV,hft,hnd,HQ⟩:=hrel;by_cases hkl:k < count
   ·have eck:count - k=(count - k - 1)+1:=by omega
    have l1:(k:Int) < (count:Int):=by omega
    have hEC:=rentry_calls w0 wr a B rd tk ati bound count ((pv.map (·.1)).flatMap (·.xs)) (((pv.map (·.1)).getLast?.map (·.name)).getD ⟨#[]⟩) HBO.out hR hTk htk hne hb ⟨by omega,hc20⟩;have q0:=HQ.out;rw[eck] at q0;unfold rents at q0;cases hs:rentry B count bound ((pv.map (·.1)).flatMap (·.xs)) (((pv.map (·.1)).getLast?.map (·.name)).getD ⟨#[]⟩) ati with
    | error q=>
     rw[hs] at q0 hEC;have HE:Hid (spec=.error q):=q0.symm;generalize ((pv.map (·.1)).getLast?.map (·.name)).getD ⟨#[]⟩=ah at *;clear hR hTk hA q0 HQ hV hPV hft hnd hS hs
     go_wp2_with (go_at_call 143;refine hEC.mono ?_;rintro e w2 ⟨rfl,S2⟩;unfold bad)
     refine⟨rfl,?_⟩;show ListPost _ _ _ _ _ _ _ _ _ _;rw[HE.out];exact⟨rfl,S2⟩
    | ok pr=>
     obtain⟨p,at2⟩:=pr;rw[hs] at q0 hEC;have HE:Hid (rents B count bound (count - (k+1)) (pv.map (·.1)++[p]) at2=spec):=q0;have HI:Hid (At wr w1.heap.size 191 (pvCells pv++(entZ++zeros5 (count - (k+1))))/\Same [rd,tk] w wr/\(∀x∈pv,RawAt wr x.2)/\(∀x∈pv,PV x)/\(∀x∈pv,∀q∈x.2.foot,w1.heap.size < q)/\(pv.flatMap fun x=>x.2.foot).Nodup):=by
      refine⟨?_,hS,hV,hPV,hft,hnd⟩;rw[<-zeros5_succ,show count - (k+1)+1=count - k by omega];exact hA
     have HFL:Hid (∀x∈pv,∀q∈x.2.foot,q < wr.heap.size):=fun x hx q hq=>by
      have hr:=hV x hx;simp only[Vol.foot,List.mem_cons,Option.mem_toList,Option.mem_def] at hq;rcases hq with rfl|rfl|hq
      ·exact hr.vol.lt
      ·exact hr.row.lt
      ·exact (hr.kept1 q hq).lt
     have hlw:w1.heap.size < wr.heap.size:=hA.lt;have hzr:=hS.size;have hpc:=pvCells_length pv;generalize ((pv.map (·.1)).getLast?.map (·.name)).getD ⟨#[]⟩=ah at *;clear hR hTk hA q0 HQ hV hPV hft hnd hS hs;have hlr:w1.heap.size≠rd:=by omega
     have hlt':w1.heap.size≠tk:=by omega
     go_wp2_with fail
     refine hEC.mono ?_;rintro e w2 ⟨vb,gb,kg,he,hG⟩;have he2:e=.returned (.agg #[.pointer (some ⟨vb,0,none⟩),.int .i64 p.kind,.int .i64 p.size,.int .i64 p.origin,.int .i64 p.originAt]):=he;subst he2;clear he;have B2:=hG.same.at HI.out.1 (by simp;exact⟨hlr,hlt'⟩);have key:∀j,j < 5->w2.cell? ⟨w1.heap.size,k * 5+j,none⟩=entZ[j]?:=fun j hj=>by
      rw[B2.cell?,List.getElem?_append_right (by rw[hpc,hpl];omega),hpc,hpl,show k * 5+j - 5 * k=j by omega,List.getElem?_append_left (by show j < 5;exact hj)]
     have a0:w2.cell? ⟨w1.heap.size,k * 5,none⟩=some (.pointer none):=key 0 (by omega);have a1:w2.cell? ⟨w1.heap.size,k * 5+1,none⟩=some (.int .i64 0):=key 1 (by omega);have a2:w2.cell? ⟨w1.heap.size,k * 5+2,none⟩=some (.int .i64 0):=key 2 (by omega);have a3:w2.cell? ⟨w1.heap.size,k * 5+3,none⟩=some (.int .i64 0):=key 3 (by omega);have a4:w2.cell? ⟨w1.heap.size,k * 5+4,none⟩=some (.int .i64 0):=key 4 (by omega);have fz:=B2.frozen;have hvn:w2.cell? ⟨vb,0,none⟩=some (.string p.name):=hG.vol.vol.cell? 0;have hvl:=hG.new vb (by simp[Vol.foot,PEnt.vol]);have hvne:vb≠w1.heap.size:=by omega
     have hvne2:w1.heap.size≠vb:=by omega
     have HG:Hid (EntGot w0 wr w2 a B rd tk bound ((pv.map (·.1)).flatMap (·.xs)) p at2 vb gb kg):=hG;have HB2:Hid (At w2 w1.heap.size 191 (pvCells pv++(entZ++zeros5 (count - (k+1))))):=B2;clear hG B2 key hEC
     go_wp2
     have hlg:lgOk w0 w1.heap.size:=by show w0.heap.size<=w1.heap.size;omega
     have hstep:=list_step (count:=count) HI.out.2 HFL.out hlw HG.out HB2.out hpl hlr hlt' hlg hz1 (fun x hx q hq=>by have:=HI.out.2.2.2.2.1 x hx q hq;constructor<;>omega);generalize ((((w2.setCell ⟨w1.heap.size,k * 5,none⟩ (.pointer (some ⟨vb,0,none⟩))).setCell ⟨w1.heap.size,k * 5+1,none⟩ (.int .i64 p.kind)).setCell ⟨w1.heap.size,k * 5+2,none⟩ (.int .i64 p.size)).setCell ⟨w1.heap.size,k * 5+3,none⟩ (.int .i64 p.origin)).setCell ⟨w1.heap.size,k * 5+4,none⟩ (.int .i64 p.originAt)=W at *;obtain⟨s1,s2,s3,s4,s5,s6,s7,s8⟩:=hstep;refine⟨⟨k+1,at2,pv++[(p,p.vol vb gb kg)],by omega,by rw[Int.natCast_add];rfl,by simp[hpl],by simp,s1,s2,s3,s4,s5,s6,s7,s8,?_⟩,?_⟩
     ·rw[List.map_append];exact HE
     ·show count - ((k:Int)+1).toNat < count - ((k:Int)).toNat;omega
   ·have ek:k=count:=by omega
    subst ek;have q0:=HQ.out;rw[Nat.sub_self] at q0 hA;have HE:Hid (spec=.ok (pv.map (·.1),ati)):=q0.symm;have HF:Hid (ListGot w0 w wr a B rd tk bound pv ati w1.heap.size):=⟨hR,by simpa [zeros5] using hA,hV,hPV,hTk,⟨hz1,hft⟩,hnd,hS⟩
    have hpl2:(pv.map (·.1)).length=k:=by rw[List.length_map];exact hpl
    generalize ((pv.map (·.1)).getLast?.map (·.name)).getD ⟨#[]⟩=ah at *;clear hR hTk hA hS HQ q0 hV hPV hft hnd
    go_wp2
    first
     | (show ListPost _ _ _ _ _ _ _ _ _ _;rw[HE.out];exact⟨_,pv,by rw[hpl2];rfl,rfl,HF.out⟩)
     | (go_ret;show ListPost _ _ _ _ _ _ _ _ _ _;rw[HE.out];exact⟨_,pv,by rw[hpl2];rfl,rfl,HF.out⟩)
def rmark(B:List UInt8):Nat->Nat->Except Nat Nat
 | 0,k=>.ok k
 | n+1,k=>if k+1<=B.length then (if B[k]! = markB[k]! then rmark B n (k+1) else .error k) else .error B.length
def MarkPost(w0 w:World)(a:Option Addr)(B:List UInt8)(rd:Nat)(spec:Except Nat Nat)(e:Ending)(w':World):Prop:=
 match spec with
 | .ok at1=>e=.returned (.tuple #[])/\RdAt w0 w' a B rd at1/\Same [rd] w w'
 | .error q=>e=bad q/\Same [] w0 w'
theorem mark_byte(k:Nat)(hk:k < 4)(h:k < (ByteArray.mk #[83,84,82,49]).size):(ByteArray.mk #[83,84,82,49])[k].toNat=markB[k]!.toNat:=by
 match k,hk with
 | 0,_=>rfl
 | 1,_=>rfl
 | 2,_=>rfl
 | 3,_=>rfl
theorem mark_calls(w0 w:World)(a:Option Addr)(B:List UInt8)(rd:Nat)(hB:BytesOld w0 a B)(h:RdAt w0 w a B rd 0) :
 Calls Tryz.prog 129 #[.pointer (some ⟨rd,0,none⟩)] w (MarkPost w0 w a B rd (rmark B 4 0)):=by
 have hnew:=h.new;have HBO:Hid (BytesOld w0 a B):=hB;have HI0:Hid (RdAt w0 w a B rd 0/\Same [rd] w w):=⟨h,Same.refl _ _⟩
 generalize hspec:rmark B 4 0=spec;have HSP:Hid (rmark B 4 0=spec):=hspec;clear hspec h hB
 go_enter Tryz.func129,Tryz.ntmps129
 go_wp2_with fail
 go_loopw [4] (fun i wr=>∃k:Nat,k<=4/\i=.int .i64 k/\RdAt w0 wr a B rd k/\Same [rd] w wr/\Hid (rmark B (4 - k) k=spec)) (fun i _=>4 - (intOf i).toNat)
 case atStart=>exact⟨0,Nat.zero_le _,rfl,HI0.out.1,HI0.out.2,HSP⟩
 case round=>
  obtain⟨k,hk,rfl,hR,hS,HQ⟩:=hrel;by_cases hkl:k < 4
  ·have l1:(k:Int) < 4:=by omega
   have r1:wr.cell? ⟨rd,1,none⟩=some (.int .i64 k):=hR.cell.cell? 1;have q0:=HQ.out;rw[show 4 - k=(4 - k - 1)+1 by omega] at q0;unfold rmark at q0;have hmb:=mark_byte k hkl;obtain⟨x,hx⟩:∃x,B[k]!.toNat=x:=⟨_,rfl⟩
   obtain⟨m,hm⟩:∃m,markB[k]!.toNat=m:=⟨_,rfl⟩
   rw[hm] at hmb;by_cases hl:k+1<=B.length
   ·rw[if_pos hl] at q0;obtain⟨b,off,ha,hb0,hcell⟩:=HBO.out.at hR.same (by intro e;rw[e] at hl;simp at hl);have HN:Hid (∀W',RdAt w0 W' a B rd k->Calls Tryz.prog 142 #[.pointer (some ⟨rd,0,none⟩),.int .i64 1] W' fun e w'=>e=.returned (.slice (some ⟨b,off+k,none⟩) 1 1)/\RdAt w0 w' a B rd (k+1)/\Same [rd] W' w'):=fun W' hW=>next_ok w0 W' a B rd k 1 b off HBO.out hW ha (by omega) hl
    have HRW:Hid (RdAt w0 wr a B rd k/\Same [rd] w wr):=⟨hR,hS⟩
    have hbr:b≠rd:=by omega
    have hb1:=hb0;have HC:Hid (∀W',Same [] w0 W'->W'.cell? ⟨b,off+k,none⟩=some (.int .u8 (x:Nat))):=fun W' hW=>by
     obtain⟨b',off',ha',_,hc'⟩:=HBO.out.at hW (by intro e;rw[e] at hl;simp at hl);have e1:=ha.symm.trans ha';simp only[Option.some.injEq,Addr.mk.injEq] at e1;obtain⟨rfl,rfl,_⟩:=e1;rw[<-hx];exact hc' k (by omega)
    by_cases hbe:B[k]! = markB[k]!
    ·rw[if_pos hbe] at q0;have HE:Hid (rmark B (4 - (k+1)) (k+1)=spec):=q0;have exm:x=m:=by rw[<-hx,<-hm,hbe]
     subst exm;clear q0 HQ hR hS hcell hbe hx hm
     go_wp2_with fail
     go_region_with (first|(go_at_call 142;go_fit (HN.out _ (HRW.out.1.next ((Same.refl [] _).drew) (by simp) (by simp)));rintro e w2 ⟨rfl,hR2,S2⟩;have hc2:=HC.out _ hR2.same;have HR2:Hid (RdAt w0 w2 a B rd (k+1)/\Same [rd] w w2):=⟨hR2,HRW.out.2.step (T:=[rd]) ((Same.refl [rd] _).drew.step S2 (fun q hq _=>hq)) (fun q hq _=>hq)⟩;clear hR2 S2)|(go_at_call 134;go_fit (must_ok _ _);rintro e w3 ⟨rfl,hw⟩;obtain rfl:=hw.symm))
     all_goals
      go_wp2
      refine⟨⟨k+1,by omega,by rw[Int.natCast_add];rfl,HR2.out.1,HR2.out.2,HE⟩,?_⟩;show 4 - ((k:Int)+1).toNat < 4 - ((k:Int)).toNat;omega
    ·rw[if_neg hbe] at q0;have HE:Hid (spec=.error k):=q0.symm;have hxm:((x:Int) == (m:Int))=false:=beq_eq_false_iff_ne.2 (fun e=>hbe (UInt8.toNat_inj.1 (by rw[hx,hm];omega)));clear q0 HQ hR hS hcell hbe hx hm
     go_wp2_with fail
     go_region_with (first|(go_at_call 142;go_fit (HN.out _ (HRW.out.1.next ((Same.refl [] _).drew) (by simp) (by simp)));rintro e w2 ⟨rfl,hR2,S2⟩;have hc2:=HC.out _ hR2.same;have HR2:Hid (Same [] w0 w2):=hR2.same;clear hR2 S2)|(go_at_call 134;go_fit (must_bad _ _);rintro e w3 ⟨rfl,hw⟩;obtain rfl:=hw.symm;unfold bad;refine left_region w ⟨rfl,(by show MarkPost _ _ _ _ _ _ _ _;rw[HE.out];exact⟨rfl,HR2.out⟩)⟩ ?_))
     all_goals trivial
   ·rw[if_neg hl] at q0;have HE:Hid (spec=.error B.length):=q0.symm;have HN:Hid (∀W',RdAt w0 W' a B rd k->Calls Tryz.prog 142 #[.pointer (some ⟨rd,0,none⟩),.int .i64 1] W' fun e w'=>e=bad B.length/\Same [] W' w'):=fun W' hW=>next_bad w0 W' a B rd k 1 HBO.out hW (by omega) (by omega)
    have HRW:Hid (RdAt w0 wr a B rd k):=hR;clear q0 HQ hR hS hx hm
    go_wp2_with fail
    go_region_with (go_at_call 142;go_fit (HN.out _ (HRW.out.next ((Same.refl [] _).drew) (by simp) (by simp)));rintro e w2 ⟨rfl,S2⟩;unfold bad;refine left_region w ⟨rfl,(by show MarkPost _ _ _ _ _ _ _ _;rw[HE.out];exact⟨rfl,HRW.out.same.step (T:=[]) ((Same.refl [] _).drew.step S2 (fun q hq _=>hq)) (fun q hq _=>hq)⟩)⟩ ?_)
    all_goals trivial
  ·have ek:k=4:=by omega
   subst ek;have HE:Hid (spec=.ok 4):=HQ.out.symm;have HRW:Hid (RdAt w0 wr a B rd 4/\Same [rd] w wr):=⟨hR,hS⟩
   clear HQ hR hS
   go_wp2
   go_end0
   show MarkPost _ _ _ _ _ _ _ _;rw[HE.out];exact⟨rfl,HRW.out⟩
end
section
open Go.RowKit Go.Sort
variable [DecidableEq Blk] [Inhabited Blk] [Inhabited Vol] [Inhabited PEnt]
def rjoin(ps:List PEnt):List PEnt->Except Nat Unit
 | []=>.ok ()
 | p :: r=>if p.kind=0 then rjoin ps r else if ps[p.origin]!.kind=0/\ps[p.origin]!.size=p.size then rjoin ps r else .error p.originAt
def joinV(pv:List (PEnt×Vol))(x:PEnt×Vol):Vol:=if x.1.kind=0 then x.2 else { x.2 with org:=some pv[x.1.origin]!.2.vb }
theorem joinV_len(pv:List (PEnt×Vol))(x:PEnt×Vol):(joinV pv x).xs=x.2.xs/\(joinV pv x).kept=x.2.kept/\(joinV pv x).vb=x.2.vb/\(joinV pv x).gb=x.2.gb/\(joinV pv x).kg=x.2.kg/\(joinV pv x).foot=x.2.foot:=by
 unfold joinV;split<;>simp[Vol.foot]
def JoinPost(w:World)(pv:List (PEnt×Vol))(spec:Except Nat Unit)(e:Ending)(w':World):Prop:=
 match spec with
 | .ok _=>∃jg,e=.returned (.slice (some ⟨jg,0,none⟩) pv.length pv.length)/\w.heap.size<=jg/\At w' jg 110 (pv.map fun x=>ptr x.2.vb)/\(∀x∈pv,RawAt w' (joinV pv x))/\Same (pv.map (·.2.vb)) w w'
 | .error q=>e=bad q/\Same (pv.map (·.2.vb)) w w'
theorem pvCells_at(pv:List (PEnt×Vol))(k:Nat)(x:PEnt×Vol)(h:pv[k]? = some x)(j:Nat)(hj:j < 5):(pvCells pv)[k * 5+j]? = (x.1.cells x.2.vb)[j]?:=by
 induction pv generalizing k with
 | nil=>simp at h
 | cons a r ih=>
  unfold pvCells;rw[List.flatMap_cons]
  match k with
  | 0=>
   simp at h;subst h;rw[List.getElem?_append_left (by show 0 * 5+j < 5;omega)];simp
  | k+1=>
   rw[List.getElem?_append_right (by show 5<=(k+1) * 5+j;omega)];have:=ih k (by simpa using h);rw[show (k+1) * 5+j - (a.1.cells a.2.vb).length=k * 5+j by show (k+1) * 5+j - 5=_;omega];exact this
theorem Tryz.infoPtrVol:(Tryz.prog.info? 110).map (fun i=>(i.zero,i.size,i.bytes))=some (some (.pointer none),1,8):=by kernel_rfl
def JInv(w:World)(pv:List (PEnt×Vol))(lg jg k:Nat)(wr:World):Prop:=
 At wr lg 191 (pvCells pv)/\At wr jg 110 ((pv.take k).map (fun x=>ptr x.2.vb)++List.replicate (pv.length - k) (.pointer none))/\(∀j x,pv[j]? = some x->At wr x.2.vb 133 ((if j < k then joinV pv x else x.2).cells x.2.xs.length x.2.kept.length))/\Same (pv.map (·.2.vb)) w wr
theorem vbs_nodup(pv:List (PEnt×Vol))(h:(pv.flatMap fun x=>x.2.foot).Nodup):(pv.map fun x=>x.2.vb).Nodup:=by
 refine h.sublist ?_
 induction pv with
 | nil=>simp
 | cons a r ih=>
  rw[List.flatMap_cons,List.map_cons];have ih':=ih (by rw[List.flatMap_cons,List.nodup_append] at h;exact h.2.1);show List.Sublist (a.2.vb :: _) ((a.2.vb :: (a.2.gb :: a.2.kg.toList))++_);exact List.Sublist.cons_cons _ (ih'.trans (List.sublist_append_right _ _))
theorem vbs_ne{pv:List (PEnt×Vol)}(h:(pv.flatMap fun x=>x.2.foot).Nodup){i j:Nat}{x y:PEnt×Vol}(hx:pv[i]? = some x)(hy:pv[j]? = some y)(hne:i≠j):x.2.vb≠y.2.vb:=fun e=>by
 have hl:i < (pv.map fun x=>x.2.vb).length:=by rw[List.length_map];exact (List.getElem?_eq_some_iff.1 hx).1
 exact hne ((List.getElem?_inj hl (vbs_nodup pv h)).1 (by rw[List.getElem?_map,List.getElem?_map,hx,hy,Option.map_some,Option.map_some,e]))
theorem drop_fst{pv:List (PEnt×Vol)}{k:Nat}{x:PEnt×Vol}(h:pv[k]? = some x):(pv.map (·.1)).drop k=x.1 :: (pv.map (·.1)).drop (k+1):=by
 obtain⟨hl,rfl⟩:=List.getElem?_eq_some_iff.1 h;rw[List.drop_eq_getElem_cons (by rw[List.length_map];exact hl)];simp
theorem JInv.step{w wr W:World}{pv:List (PEnt×Vol)}{lg jg k:Nat}{x:PEnt×Vol}(h:JInv w pv lg jg k wr)(hx:pv[k]? = some x)(hnd:(pv.flatMap fun x=>x.2.foot).Nodup)(hl:lg < w.heap.size)(hj:w.heap.size<=jg)(hV:∀x∈pv,RawAt w x.2)(hf:∀x∈pv,∀k∈x.2.foot,lg < k)
 (hS:Same [jg,x.2.vb] wr W) (h1:At W jg 110 (((pv.take k).map (fun x:PEnt×Vol=>ptr x.2.vb)++List.replicate (pv.length - k) (Value.pointer none)).set k (ptr x.2.vb))) (h2:At W x.2.vb 133 ((joinV pv x).cells x.2.xs.length x.2.kept.length)):JInv w pv lg jg (k+1) W:=by
 have hkl:=(List.getElem?_eq_some_iff.1 hx).1;have hvl:∀y∈pv,y.2.vb < w.heap.size:=fun y hy=>(hV y hy).vol.lt
 have hxm:=List.mem_of_getElem? hx;refine⟨hS.at h.1 ?_,?_,fun j y hy=>?_,h.2.2.2.step hS ?_⟩
 ·have:=hf x hxm x.2.vb (by simp[Vol.foot]);simp;omega
 ·have e:((pv.take k).map (fun x=>ptr x.2.vb)++List.replicate (pv.length - k) (Value.pointer none)).set k (ptr x.2.vb)=(pv.take (k+1)).map (fun x=>ptr x.2.vb)++List.replicate (pv.length - (k+1)) (.pointer none):=by
   rw[List.set_append_right _ _ (by simp;omega),show pv.length - k=(pv.length - (k+1))+1 by omega,List.replicate_succ];have e1:k - (List.map (fun x:PEnt×Vol=>ptr x.2.vb) (List.take k pv)).length=0:=by simp;omega
   rw[e1,List.set_cons_zero];rw[List.take_add_one,hx];simp
  rw[<-e];exact h1
 ·by_cases hjk:j=k
  ·subst hjk;have:x=y:=by rw[hx] at hy;exact Option.some.inj hy
   subst this;rw[if_pos (by omega)];exact h2
  ·have hym:=List.mem_of_getElem? hy;have hne:=vbs_ne hnd hy hx hjk;have hlt:=hvl y hym;have:=hS.at (h.2.2.1 j y hy) (by simp;omega);have e:(j < k+1)=(j < k):=by apply propext;omega
   simp only[e];exact this
 ·intro q hq hql;simp only[List.mem_cons,List.not_mem_nil,or_false] at hq;rcases hq with rfl|rfl
  ·omega
  ·exact List.mem_map.2 ⟨x,hxm,rfl⟩
theorem JInv.done{w wr:World}{pv:List (PEnt×Vol)}{lg jg:Nat}(h:JInv w pv lg jg pv.length wr)(hnd:(pv.flatMap fun x=>x.2.foot).Nodup)(hV:∀x∈pv,RawAt w x.2):At wr jg 110 (pv.map fun x=>ptr x.2.vb)/\(∀x∈pv,RawAt wr (joinV pv x))/\Same (pv.map (·.2.vb)) w wr:=by
 refine⟨by simpa using h.2.1,fun x hx=>?_,h.2.2.2⟩;obtain⟨j,hj⟩:=List.mem_iff_getElem?.1 hx;have hjl:=(List.getElem?_eq_some_iff.1 hj).1;have h3:=h.2.2.1 j x hj;rw[if_pos hjl] at h3;obtain⟨e1,e2,e3,e4,e5,e6⟩:=joinV_len pv x;have far:∀q∈x.2.foot,q≠x.2.vb->q∉pv.map (·.2.vb):=fun q hq hne hm=>by
  obtain⟨y,hy,hyq⟩:=List.mem_map.1 hm;obtain⟨i,hi⟩:=List.mem_iff_getElem?.1 hy;by_cases hij:i=j
  ·subst hij;rw[hi] at hj;cases hj;exact hne hyq.symm
  ·have hp:=hnd;rw[List.Nodup,List.pairwise_flatMap] at hp;have hpw:=List.pairwise_iff_getElem.1 hp.2;have hil:=(List.getElem?_eq_some_iff.1 hi).1;have ei:=(List.getElem?_eq_some_iff.1 hi).2;have ej:=(List.getElem?_eq_some_iff.1 hj).2;have hqy:q∈y.2.foot:=by rw[<-hyq];simp[Vol.foot]
   rcases Nat.lt_or_gt_of_ne hij with hlt|hlt
   ·have:=hpw i j hil hjl hlt;rw[ei,ej] at this;exact this q hqy q hq rfl
   ·have:=hpw j i hjl hil hlt;rw[ei,ej] at this;exact this q hq q hqy rfl
 have hr:=hV x hx;have hnf:x.2.foot.Nodup:=by
  have hp:=hnd;rw[List.Nodup,List.pairwise_flatMap] at hp;exact hp.1 x hx
 simp only[Vol.foot,List.nodup_cons,List.mem_cons,not_or] at hnf;refine⟨?_,?_,?_,?_⟩
 ·rw[e3,e1,e2];exact h3
 ·rw[e4,e1];exact h.2.2.2.at hr.row (far _ (by simp[Vol.foot]) (fun e=>hnf.1.1 e.symm))
 ·rw[e5,e2];exact hr.kept0
 ·rw[e5,e2];intro g hg;exact h.2.2.2.at (hr.kept1 g hg) (far _ (by simp[Vol.foot,hg]) (fun e=>hnf.1.2 (by rw[<-e];simp[hg])))
theorem joined_calls(w:World)(pv:List (PEnt×Vol))(lg:Nat)(hn:pv.length<=20)(hA:At w lg 191 (pvCells pv))(hV:∀x∈pv,RawAt w x.2)(hP:∀x∈pv,x.2.org=none)(hor:∀x∈pv,x.1.kind≠0->x.1.origin < pv.length)(hf:∀x∈pv,∀k∈x.2.foot,lg < k)(hnd:(pv.flatMap fun x=>x.2.foot).Nodup) :
 Calls Tryz.prog 132 #[.slice (some ⟨lg,0,none⟩) pv.length pv.length] w (JoinPost w pv (rjoin (pv.map (·.1)) (pv.map (·.1)))):=by
 have hlw:=hA.lt;obtain⟨LB,hLB,hmk⟩:=run_make_same 85 110 (.pointer none) 8 pv.length Tryz.underlying85 Tryz.infoPtrVol rfl (by omega) (by omega);generalize hspec:rjoin (pv.map (·.1)) (pv.map (·.1))=spec;have HSP:Hid (rjoin (pv.map (·.1)) ((pv.map (·.1)).drop 0)=spec):=hspec;have HI0:Hid (JInv w pv lg w.heap.size 0 (w.alloc (.cells LB 110))):=by
  have S:Same (pv.map (·.2.vb)) w (w.alloc (.cells LB 110)):=(Same.refl _ _).alloc _;refine⟨hA.alloc _,?_,fun j x hx=>?_,S⟩
  ·have:=At.new w LB 110;rw[hLB] at this;simpa using this
  ·have:=(hV x (List.mem_of_getElem? hx)).vol.alloc (.cells LB 110);simpa using this
 have HV:Hid (∀x∈pv,RawAt w x.2):=hV;have HOR:Hid (∀x∈pv,x.1.kind≠0->x.1.origin < pv.length):=hor;have HF:Hid (∀x∈pv,∀k∈x.2.foot,lg < k):=hf;have HND:Hid ((pv.flatMap fun x=>x.2.foot).Nodup):=hnd;have HP:Hid (∀x∈pv,x.2.org=none):=hP;clear hspec hA hV hP hor hf hnd
 go_enter Tryz.func132,Tryz.ntmps132
 go_wp2_with fail
 go_loopw [12] (fun i wr=>∃k:Nat,k<=pv.length/\i=.int .i64 k/\JInv w pv lg w.heap.size k wr/\Hid (rjoin (pv.map (·.1)) ((pv.map (·.1)).drop k)=spec)) (fun i _=>pv.length - (intOf i).toNat)
 case atStart=>exact⟨0,Nat.zero_le _,rfl,HI0.out,HSP⟩
 case round=>
  obtain⟨k,hk,rfl,hJ,HQ⟩:=hrel;by_cases hkl:k < pv.length
  ·have l1:(k:Int) < (pv.length:Int):=by omega
   obtain⟨x,hx⟩:∃x,pv[k]? = some x:=⟨_,List.getElem?_eq_getElem hkl⟩
   have hxm:=List.mem_of_getElem? hx;have cc:=fun j hj=>(hJ.1.cell? (k * 5+j)).trans (pvCells_at pv k x hx j hj)
   have a0:wr.cell? ⟨lg,k * 5,none⟩=some (.pointer (some ⟨x.2.vb,0,none⟩)):=cc 0 (by omega);have a1:wr.cell? ⟨lg,k * 5+1,none⟩=some (.int .i64 x.1.kind):=cc 1 (by omega);have a2:wr.cell? ⟨lg,k * 5+2,none⟩=some (.int .i64 x.1.size):=cc 2 (by omega);have a3:wr.cell? ⟨lg,k * 5+3,none⟩=some (.int .i64 x.1.origin):=cc 3 (by omega);have a4:wr.cell? ⟨lg,k * 5+4,none⟩=some (.int .i64 x.1.originAt):=cc 4 (by omega);have j0:wr.cell? ⟨w.heap.size,k,none⟩=some (.pointer none):=by
    rw[hJ.2.1.cell?,List.getElem?_append_right (by simp;omega)];simp only[List.length_map,List.length_take];rw[List.getElem?_replicate,if_pos (by omega)]
   have fj:=hJ.2.1.frozen;have hsz:=hJ.2.1.lt;have hvbl:=(hJ.2.2.1 k x hx).lt;have HJ:Hid (JInv w pv lg w.heap.size k wr):=hJ;clear hJ cc;have hjS:=HJ.out.2.1.set_same k (ptr x.2.vb);have hvS:=HJ.out.2.2.1 k x hx;rw[if_neg (by omega)] at hvS;have hvm:=(HV.out x hxm).vol.lt;have hjv:w.heap.size≠x.2.vb:=by omega
   have HST:=fun W=>JInv.step (W:=W) HJ.out hx HND.out hlw (Nat.le_refl _) HV.out HF.out
   have hqd:=HQ.out;rw[drop_fst hx,rjoin] at hqd;by_cases hk0:x.1.kind=0
   ·have e1:(x.1.kind:Int)=0:=by omega
    rw[e1] at a1;rw[if_pos hk0] at hqd;have HE:Hid (rjoin (pv.map (·.1)) ((pv.map (·.1)).drop (k+1))=spec):=hqd;have HSJ:Hid (∀o,JInv w pv lg w.heap.size (k+1) ((wr.setCell ⟨w.heap.size,k,none⟩ (ptr x.2.vb)).alloc o)):=fun o=>by
     refine HST _ (((Same.refl _ _).set _ _ _ (by simp)).alloc o) (hjS.alloc o) ?_;unfold joinV;rw[if_pos hk0];exact (hvS.set_other _ _ _ (Ne.symm hjv)).alloc o
    clear HST hjS hvS hqd HQ
    go_wp2
    refine⟨⟨k+1,by omega,by rw[Int.natCast_add];rfl,HSJ.out _,HE⟩,?_⟩;show pv.length - ((k:Int)+1).toNat < pv.length - ((k:Int)).toNat;omega
   ·rw[if_neg hk0] at hqd;have e1:((x.1.kind:Int) == 0)=false:=beq_eq_false_iff_ne.2 (by omega);have hol:=HOR.out x hxm hk0;obtain⟨y,hy⟩:∃y,pv[x.1.origin]? = some y:=⟨_,List.getElem?_eq_getElem hol⟩
    have ey:pv[x.1.origin]! = y:=by rw[List.getElem!_eq_getElem?_getD,hy];rfl
    have ey1:(pv.map (·.1))[x.1.origin]! = y.1:=by rw[List.getElem!_eq_getElem?_getD,List.getElem?_map,hy];rfl
    rw[ey1] at hqd;obtain⟨o,ho⟩:∃o,x.1.origin=o:=⟨_,rfl⟩
    rw[ho] at a3 hol hy;have l2:(o:Int) < (pv.length:Int):=by omega
    have cc:=fun j hj=>(HJ.out.1.cell? (o * 5+j)).trans (pvCells_at pv o y hy j hj)
    have b0:wr.cell? ⟨lg,o * 5,none⟩=some (.pointer (some ⟨y.2.vb,0,none⟩)):=cc 0 (by omega);have b1:wr.cell? ⟨lg,o * 5+1,none⟩=some (.int .i64 y.1.kind):=cc 1 (by omega);have b2:wr.cell? ⟨lg,o * 5+2,none⟩=some (.int .i64 y.1.size):=cc 2 (by omega);have b3:wr.cell? ⟨lg,o * 5+3,none⟩=some (.int .i64 y.1.origin):=cc 3 (by omega);have b4:wr.cell? ⟨lg,o * 5+4,none⟩=some (.int .i64 y.1.originAt):=cc 4 (by omega);have hlj:lg≠w.heap.size:=by omega
    have hlr:lg < wr.heap.size:=HJ.out.1.lt;have hljn:¬lg=w.heap.size:=by omega
    clear cc;by_cases hok:y.1.kind=0/\y.1.size=x.1.size
    ·rw[if_pos hok] at hqd;have HE:Hid (rjoin (pv.map (·.1)) ((pv.map (·.1)).drop (k+1))=spec):=hqd;have e2:(y.1.kind:Int)=0:=by omega
     have e3:(y.1.size:Int)=x.1.size:=by omega
     rw[e2] at b1;rw[e3] at b2;have v2:wr.cell? ⟨x.2.vb,2,none⟩=some (.pointer none):=by
      rw[hvS.cell?];show some (Value.pointer (adr x.2.org))=_;rw[HP.out x hxm];rfl
     have fv:=hvS.frozen;have hvj:x.2.vb≠w.heap.size:=Ne.symm hjv;have HSJ:Hid (∀o1 o2,JInv w pv lg w.heap.size (k+1) ((((wr.setCell ⟨w.heap.size,k,none⟩ (ptr x.2.vb)).setCell ⟨x.2.vb,2,none⟩ (ptr y.2.vb)).alloc o1).alloc o2)):=fun o1 o2=>by
      refine HST _ (((((Same.refl _ _).set _ _ _ (by simp)).set _ _ _ (by simp)).alloc o1).alloc o2) (((hjS.set_other _ _ _ hjv).alloc o1).alloc o2) ?_;have e:(joinV pv x).cells x.2.xs.length x.2.kept.length=(x.2.cells x.2.xs.length x.2.kept.length).set 2 (ptr y.2.vb):=by
       unfold joinV;rw[if_neg hk0,ey];rfl
      rw[e];exact (((hvS.set_other _ _ _ hvj).set_same 2 _).alloc o1).alloc o2
     clear HQ hqd hok HST hjS hvS
     go_wp2_with (go_at_call 134;go_fit (must_ok _ _);rintro e w3 ⟨rfl,hw⟩;obtain rfl:=hw.symm)
     refine⟨⟨k+1,by omega,by rw[Int.natCast_add];rfl,HSJ.out _ _,HE⟩,?_⟩;show pv.length - ((k:Int)+1).toNat < pv.length - ((k:Int)).toNat;omega
    ·rw[if_neg hok] at hqd;have HE:Hid (spec=.error x.1.originAt):=hqd.symm;have HSE:Hid (∀o1 o2,Same (pv.map (·.2.vb)) w (((wr.setCell ⟨w.heap.size,k,none⟩ (ptr x.2.vb)).alloc o1).alloc o2)):=fun o1 o2=>((HJ.out.2.2.2.set _ _ _ (by omega)).alloc o1).alloc o2
     clear HST hjS hvS HQ hqd;by_cases hyk:y.1.kind=0
     ·have e2:(y.1.kind:Int)=0:=by omega
      rw[e2] at b1;have e3:((y.1.size:Int) == (x.1.size:Int))=false:=beq_eq_false_iff_ne.2 (by omega)
      go_wp2_with (go_at_call 134;go_fit (must_bad _ _);rintro e w3 ⟨rfl,hw⟩;obtain rfl:=hw.symm;unfold bad)
      refine⟨rfl,?_⟩;show JoinPost _ _ _ _ _;rw[HE.out];exact⟨rfl,HSE.out _ _⟩
     ·have e2:((y.1.kind:Int) == 0)=false:=beq_eq_false_iff_ne.2 (by omega)
      go_wp2_with (go_at_call 134;go_fit (must_bad _ _);rintro e w3 ⟨rfl,hw⟩;obtain rfl:=hw.symm;unfold bad)
      refine⟨rfl,?_⟩;show JoinPost _ _ _ _ _;rw[HE.out];exact⟨rfl,HSE.out _ _⟩
  ·have ek:k=pv.length:=by omega
   subst ek;have HE:Hid (spec=.ok ()):=by
    have:=HQ.out;rw[List.drop_eq_nil_of_le (by simp)] at this;exact this.symm
   have HFI:Hid (At wr w.heap.size 110 (pv.map fun x=>ptr x.2.vb)/\(∀x∈pv,RawAt wr (joinV pv x))/\Same (pv.map (·.2.vb)) w wr):=hJ.done HND.out HV.out;clear HQ hJ
   go_wp2
   first
    | (show JoinPost _ _ _ _ _;rw[HE.out];exact⟨_,rfl,Nat.le_refl _,HFI.out⟩)
    | (go_ret;show JoinPost _ _ _ _ _;rw[HE.out];exact⟨_,rfl,Nat.le_refl _,HFI.out⟩)
theorem isPic_raw(v:Vol)(w:World)(h:RawAt w v) :
 Calls Tryz.prog 88 #[.pointer (some ⟨v.vb,0,none⟩)] w fun e w'=>e=.returned (.bool v.org.isSome)/\w'=w:=by
 have c2:w.cell? ⟨v.vb,2,none⟩=some (.pointer (adr v.org)):=h.vol.cell? 2;clear h;cases ho:v.org with
 | none=>
  rw[ho] at c2;have hq:=neq_nil_nil (P:=Tryz.prog) w Tryz.underlying110;simp only[adr,Option.map_none] at c2
  go_enter Tryz.func88,Tryz.ntmps88
  go_wp2
  go_ret
  exact⟨rfl,rfl⟩
 | some o=>
  rw[ho] at c2;have hq:=neq_some_nil (P:=Tryz.prog) w ⟨o,0,none⟩ Tryz.underlying110;simp only[adr,Option.map_some] at c2
  go_enter Tryz.func88,Tryz.ntmps88
  go_wp2
  go_ret
  exact⟨rfl,rfl⟩
def usedN(v:Vol):Nat:=if v.org.isSome then v.kept.length else v.xs.length
def usedL(v:Vol):List Nat:=v.xs.take (usedN v)
theorem usedL_length(v:Vol)(h:v.kept.length<=v.xs.length):(usedL v).length=usedN v:=by
 unfold usedL usedN;split<;>simp<;>omega
theorem used_calls(v:Vol)(w:World)(h:RawAt w v)(hk:v.kept.length<=v.xs.length)(hx:v.xs.length<=200) :
 Calls Tryz.prog 149 #[.pointer (some ⟨v.vb,0,none⟩)] w fun e w'=>e=.returned (.slice (some ⟨v.gb,0,none⟩) (usedN v) (usedN v))/\w'=w:=by
 have hP:=isPic_raw v w h;have c1:w.cell? ⟨v.vb,1,none⟩=some (.slice (some ⟨v.gb,0,none⟩) v.xs.length v.xs.length):=h.vol.cell? 1;have c3:w.cell? ⟨v.vb,3,none⟩=some (.slice (adr v.kg) v.kept.length v.kept.length):=h.vol.cell? 3;clear h;unfold usedN;generalize v.vb=vb at *;generalize v.gb=gb at *;generalize v.xs.length=n at *;generalize v.kept.length=k at *;cases ho:v.org.isSome with
 | false=>
  rw[ho] at hP;simp only[Bool.false_eq_true,if_false]
  go_enter Tryz.func149,Tryz.ntmps149
  go_wp2_with (go_at_call 88;refine hP.mono ?_;rintro e w' ⟨rfl,hw⟩;obtain rfl:=hw.symm)
  go_ret
  exact⟨rfl,rfl⟩
 | true=>
  rw[ho] at hP;simp only[if_true]
  go_enter Tryz.func149,Tryz.ntmps149
  go_wp2_with (go_at_call 88;refine hP.mono ?_;rintro e w' ⟨rfl,hw⟩;obtain rfl:=hw.symm)
  go_ret
  exact⟨rfl,rfl⟩
theorem usedBlocks_calls(w:World)(count jg:Nat)(vs:List Vol)(hc:count<=200)(hn:vs.length<=20)(hJ:At w jg 110 (vs.map fun v=>ptr v.vb))(hV:∀v∈vs,RawAt w v)(hk:∀v∈vs,v.kept.length<=v.xs.length/\v.xs.length<=200)(hx:∀v∈vs,∀x∈v.xs,x < count) :
 Calls Tryz.prog 144 #[.int .i64 count,.slice (some ⟨jg,0,none⟩) vs.length vs.length] w fun e w'=>∃ug,e=.returned (.slice (some ⟨ug,0,none⟩) count count)/\w.heap.size<=ug/\At w' ug 4 (seenCells count (vs.flatMap usedL))/\Same [] w w':=by
 obtain⟨LB,hLB,hmk⟩:=run_make_same 177 4 (.bool false) 1 count Tryz.underlying177 Tryz.infoBoolL rfl (by omega) (by omega);have HI0:Hid (At (w.alloc (.cells LB 4)) w.heap.size 4 (seenCells count [])/\Same [] w (w.alloc (.cells LB 4))):=by
  refine⟨?_,(Same.refl _ _).alloc _⟩;have:=At.new w LB 4;rw[hLB,<-seen_nil] at this;exact this
 have HJ:Hid (At w jg 110 (vs.map fun v=>ptr v.vb)):=hJ;have HV:Hid (∀v∈vs,RawAt w v/\(v.kept.length<=v.xs.length/\v.xs.length<=200)/\(∀x∈v.xs,x < count)):=fun v hv=>⟨hV v hv,hk v hv,hx v hv⟩
 clear hJ hV hk hx
 go_enter Tryz.func144,Tryz.ntmps144
 go_wp2_with fail
 go_loopw [14] (fun i wr=>∃k:Nat,k<=vs.length/\i=.int .i64 k/\At wr w.heap.size 4 (seenCells count ((vs.take k).flatMap usedL))/\Same [] w wr) (fun i _=>vs.length - (intOf i).toNat)
 case atStart=>exact⟨0,Nat.zero_le _,rfl,by simpa using HI0.out.1,HI0.out.2⟩
 case round=>
  obtain⟨k,hk,rfl,hA,hS⟩:=hrel;by_cases hkl:k < vs.length
  ·have l1:(k:Int) < (vs.length:Int):=by omega
   obtain⟨v,hv⟩:∃v,vs[k]? = some v:=⟨_,List.getElem?_eq_getElem hkl⟩
   have hvm:=List.mem_of_getElem? hv;have j0:wr.cell? ⟨jg,k,none⟩=some (.pointer (some ⟨v.vb,0,none⟩)):=by
    rw[(hS.at HJ.out (by simp)).cell?,List.getElem?_map,hv];rfl
   have hU:=used_calls v wr ((HV.out v hvm).1.same hS (by simp)) (HV.out v hvm).2.1.1 (HV.out v hvm).2.1.2;have hul:=usedL_length v (HV.out v hvm).2.1.1;have hu2:usedN v<=200:=by have:=(HV.out v hvm).2.1;unfold usedN;split<;>omega
   have HRow:Hid (At w v.gb 3 (v.xs.map fun x:Nat=>Value.int .i64 x)):=(HV.out v hvm).1.row;have HUX:Hid (∀x∈usedL v,x < count):=fun x hx=>(HV.out v hvm).2.2 x (List.mem_of_mem_take hx)
   have hgl:=HRow.out.lt;have HA:Hid (At wr w.heap.size 4 (seenCells count ((vs.take k).flatMap usedL))/\Same [] w wr):=⟨hA,hS⟩
   have HUG:Hid (∀j,j < usedN v->∃x,(usedL v)[j]? = some x/\(v.xs.map fun x:Nat=>Value.int .i64 x)[j]? = some (.int .i64 x)):=fun j hj=>by
    have hj':j < (usedL v).length:=by omega
    refine⟨_,List.getElem?_eq_getElem hj',?_⟩;have e:=List.getElem?_eq_getElem hj';unfold usedL at e ⊢;rw[List.getElem?_take,if_pos hj] at e;rw[List.getElem?_map,e];rfl
   have HTK:Hid (vs.take (k+1)=vs.take k++[v]):=by show _=_;rw[List.take_add_one,hv];rfl
   clear hA hS;generalize usedN v=un at *
   go_wp2_with (go_at_call 149;refine hU.mono ?_;rintro e w' ⟨rfl,hw⟩;obtain rfl:=hw.symm)
   go_loopw [21] (fun i wq=>∃q:Nat,q<=un/\i=.int .i64 q/\At wq w.heap.size 4 (seenCells count ((vs.take k).flatMap usedL++(usedL v).take q))/\Same [] w wq) (fun i _=>un - (intOf i).toNat)
   case atStart=>exact⟨0,Nat.zero_le _,rfl,by simpa using HA.out.1,HA.out.2⟩
   case round=>
    obtain⟨q,hq,rfl,hA,hS⟩:=hrel;by_cases hql:q < un
    ·have l2:(q:Int) < (un:Int):=by omega
     obtain⟨x,hx1,hx2⟩:=HUG.out q hql;have hxc:=HUX.out x (List.mem_of_getElem? hx1);have g0:wr.cell? ⟨v.gb,q,none⟩=some (.int .i64 x):=by rw[(hS.at HRow.out (by simp)).cell?,hx2]
     have u0:wr.cell? ⟨w.heap.size,x,none⟩=some (.bool (decide (x∈(vs.take k).flatMap usedL++(usedL v).take q))):=by rw[hA.cell?,seen_get count _ x hxc]
     generalize decide (x∈(vs.take k).flatMap usedL++(usedL v).take q)=ub at u0;have fu:=hA.frozen;have hxl:(x:Int) < (count:Int):=by omega
     have HN:Hid (At (wr.setCell ⟨w.heap.size,x,none⟩ (.bool true)) w.heap.size 4 (seenCells count ((vs.take k).flatMap usedL++(usedL v).take (q+1)))/\Same [] w (wr.setCell ⟨w.heap.size,x,none⟩ (.bool true))):=by
      refine⟨?_,hS.set _ _ _ (by omega)⟩;have:=hA.set_same x (.bool true);rw[seen_set count _ x hxc,List.append_assoc] at this;have e:(usedL v).take (q+1)=(usedL v).take q++[x]:=by rw[List.take_add_one,hx1];rfl
      rw[e];exact this
     clear hA hS hU HA hx1 hx2
     go_wp2
     refine⟨⟨q+1,by omega,by rw[Int.natCast_add];rfl,HN.out.1,HN.out.2⟩,?_⟩;show un - ((q:Int)+1).toNat < un - ((q:Int)).toNat;omega
    ·have eq:q=un:=by omega
     subst eq;have HN:Hid (At wr w.heap.size 4 (seenCells count ((vs.take (k+1)).flatMap usedL))/\Same [] w wr):=by
      refine⟨?_,hS⟩;rw[HTK.out,List.flatMap_append];rw[<-hul,List.take_length] at hA;simpa using hA
     clear hA hS hU HA
     go_wp2
     refine⟨⟨k+1,by omega,by rw[Int.natCast_add];rfl,HN.out.1,HN.out.2⟩,?_⟩;show vs.length - ((k:Int)+1).toNat < vs.length - ((k:Int)).toNat;omega
  ·have ek:k=vs.length:=by omega
   subst ek;rw[List.take_length] at hA;have HN:Hid (At wr w.heap.size 4 (seenCells count (vs.flatMap usedL))/\Same [] w wr):=⟨hA,hS⟩
   clear hA hS
   go_wp2
   first
    | exact⟨_,rfl,Nat.le_refl _,HN.out⟩
    | (go_ret;exact⟨_,rfl,Nat.le_refl _,HN.out⟩)
end
end Go.Proofs.YtpddgdjocffgdaaGreat
