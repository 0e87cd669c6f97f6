/- Packed: see the last text. -/
import Derived.Test.YtpddgdjocffgdaaGreatA08
import Derived.Maps.AppendAt
namespace Go.Proofs.YtpddgdjocffgdaaGreat
open Go.Proofs.Tryz
set_option linter.unusedVariables false
set_option linter.unusedSimpArgs false
set_option linter.unusedSectionVars false
set_option maxHeartbeats 16000000
set_option maxRecDepth 100000
section
open Go.RowKit Go.Sort
variable [DecidableEq aN] [Inhabited aN] [Inhabited aF] [Inhabited ay]
theorem xg(s:aQ)(t:ByteArray)(k:Int)(v:ay)(w:World)(h:aO w s)(ha:s.oO t=some v)(ho:v.bC≠⟨#[]⟩) :
 Calls prog 54 #[.pointer (some ⟨s.rb,0,none⟩),.string t,.int .i64 k] w fun e w'=>e=.returned (.int .i64 7)/\w'=w:=by
 have hF:=aW s t w h;rw[ha]at hF;obtain⟨hm,hnm⟩:=aQ.gy ha;obtain⟨dc,bc,kc,hv,_⟩:=(h.af v hm).ex;have e1:w.cell? ⟨v.vb,1,none⟩=some (.string v.bC):=hv.cell? 1;have hbq:=ku ho;clear hv h
 go_enter func54,ntmps54
 go_wp2_with (first|(go_at_call 79;refine hF.mono ?_;rintro e wz ⟨rfl,rfl⟩))
 go_ret
 exact⟨rfl,rfl⟩
theorem Bo(s:aQ)(t:ByteArray)(k:Int)(v:ay)(w:World)(h:aO w s)(ha:s.oO t=some v)(ho:v.bC=⟨#[]⟩)(hp:0<s.dN t s.af.length) :
 Calls prog 54 #[.pointer (some ⟨s.rb,0,none⟩),.string t,.int .i64 k] w fun e w'=>e=.returned (.int .i64 8)/\w'=w:=by
 have hF:=aW s t w h;have hP:=dI s t w h;rw[ha]at hF;obtain⟨hm,hnm⟩:=aQ.gy ha;obtain⟨dc,bc,kc,hv,_⟩:=(h.af v hm).ex;have e1:w.cell? ⟨v.vb,1,none⟩=some (.string ⟨#[]⟩):=by rw[<-ho];exact hv.cell? 1
 generalize s.dN t s.af.length=m at *;have hk:(0:Int)<(m:Int):=by omega
 clear hv h
 go_enter func54,ntmps54
 go_wp2_with (first|(go_at_call 79;refine hF.mono ?_;rintro e wz ⟨rfl,rfl⟩)|(go_at_call 99;refine hP.mono ?_;rintro e wz ⟨rfl,rfl⟩))
 go_ret
 exact⟨rfl,rfl⟩
theorem ay.parts{v:ay}(h:v.foot.Nodup):v.vb≠v.dg/\v.vb≠v.bg/\(∀g,v.kg=some g->v.vb≠g/\v.dg≠g/\v.bg≠g)/\v.dg≠v.bg:=by
 simp only[ay.foot,List.nodup_cons,List.mem_cons,not_or]at h;refine⟨h.1.1,h.1.2.1,fun g hg=>?_,h.2.1.1⟩;rw[hg]at h;simp at h;exact⟨h.1.2.2,h.2.1.2,h.2.2⟩
theorem lI{s:aQ}(hnd:s.foot.Nodup){v:ay}(hm:v∈s.af):v.foot.Nodup:=(iM ay.foot s.af (aQ.iI hnd).2.2.2).1 v hm
theorem Dy{w w4:World}{s:aQ}{i:Nat}{v:ay}(h:aO w s)(hnd:s.foot.Nodup)(hi:i<s.af.length)(hv:s.af[i]! = v)(g cap:Nat)(y:ByteArray)(hS:Same [v.dg] w w4)(hT:iK w4 g cap (v.data++[y]))(hg:g=v.dg\/w.heap.size<=g)(hl:v.data.length+1<=200) :
 bQ w s (w4.setCell ⟨v.vb,2,none⟩ (.slice (some ⟨g,0,none⟩) (v.data.length+1) cap)) { s with af:=s.af.set i { v with dg:=g,data:=v.data++[y] } }:=by
 have hm:v∈s.af:=by rw[<-hv];exact gY hi
 have hV:=h.af v hm;have hvl:=hV.bn;have hlt:=h.bn;obtain⟨n1,n2,n3,n4⟩:=ay.parts (lI hnd hm);obtain⟨dc,bc,kc,a1,a2,a3,a4,a5⟩:=hV.ex;have S5:Same [v.vb,v.dg] w (w4.setCell ⟨v.vb,2,none⟩ (.slice (some ⟨g,0,none⟩) (v.data.length+1) cap)):=(hS.mono (T:=[v.vb,v.dg]) (by simp)).set _ _ _ (by simp);have l1:=hvl v.vb (by simp[ay.foot]);have l2:=hvl v.bg (by simp[ay.foot]);have l3:=hvl v.dg (by simp[ay.foot]);have hgv:v.vb≠g:=by rcases hg with e|e<;>omega
 have hgb:g≠v.bg:=by rcases hg with e|e<;>omega
 have S45:Same [v.vb] w4 (w4.setCell ⟨v.vb,2,none⟩ (.slice (some ⟨g,0,none⟩) (v.data.length+1) cap)):=(Same.refl _ _).set _ _ _ (by simp);have A4:=hS.at a1 (by simpa using n1);have V5:dU (w4.setCell ⟨v.vb,2,none⟩ (.slice (some ⟨g,0,none⟩) (v.data.length+1) cap)) { v with dg:=g,data:=v.data++[y] }:=by
  refine⟨⟨cap,bc,kc,?_,hT.same S45 (by simpa using fun e=>hgv e.symm),a3.same S5 ?_,a4,fun g' hg'=>(a5 g' hg').same S5 ?_⟩,by simpa using hl,hV.blocks,hV.kept⟩
  ·have:=A4.ax 2 (.slice (some ⟨g,0,none⟩) (v.data.length+1) cap);simpa using this
  ·simp;exact⟨fun e=>n2 e.symm,fun e=>n4 e.symm⟩
  ·simp;exact⟨fun e=>(n3 g' hg').1 e.symm,fun e=>(n3 g' hg').2.1 e.symm⟩
 have hff:∀x∈ay.foot { v with dg:=g,data:=v.data++[y] },x∈v.foot\/w.heap.size<=x:=by
  intro x hx;simp only[ay.foot,List.mem_cons]at hx ⊢;rcases hx with q|q|q|q
  ·exact Or.inl (Or.inl q)
  ·rcases hg with e|e
   ·exact Or.inl (Or.inr (Or.inl (q.trans e)))
   ·exact Or.inr (by omega)
  ·exact Or.inl (Or.inr (Or.inr (Or.inl q)))
  ·exact Or.inl (Or.inr (Or.inr (Or.inr q)))
 have hsub:∀x∈[v.vb,v.dg],x∈v.foot:=by
  intro x hx;simp at hx;rcases hx with q|q<;>rw[q]<;>simp[ay.foot]
 refine⟨qE h hnd i hi _ (by rw[hv]) V5 S5 (by rw[hv];exact hsub),jA hnd i hi _ ?_ (fun x hx=>by rw[hv];exact(hff x hx).imp id fun q hm=>by have:=hlt x hm;omega),S5.mono (fun x hx _=>s.bH hm (hsub x hx)),nM i hi _ (fun x hx=>by rw[hv];exact hff x hx),rfl,rfl⟩;have hvf:=lI hnd hm;simp only[ay.foot,List.nodup_cons,List.mem_cons,not_or]at hvf ⊢;refine⟨⟨hgv,hvf.1.2⟩,⟨hgb,fun hk=>?_⟩,hvf.2.2⟩;rcases hg with e|e
 ·rw[e]at hk;exact hvf.2.1.2 hk
 ·have:=hvl g (by simp only[ay.foot,List.mem_cons];exact Or.inr (Or.inr (Or.inr hk)));omega
theorem zF{w w4:World}{s:aQ}{i:Nat}{v:ay}(h:aO w s)(hnd:s.foot.Nodup)(hi:i<s.af.length)(hv:s.af[i]! = v)(g cap:Nat)(y:Nat)(hS:Same [v.bg] w w4)(hT:fD w4 g cap (v.blocks++[y]))(hg:g=v.bg\/w.heap.size<=g)(hl:v.blocks.length+1<=200) :
 bQ w s (w4.setCell ⟨v.vb,3,none⟩ (.slice (some ⟨g,0,none⟩) (v.blocks.length+1) cap)) { s with af:=s.af.set i { v with bg:=g,blocks:=v.blocks++[y] } }:=by
 have hm:v∈s.af:=by rw[<-hv];exact gY hi
 have hV:=h.af v hm;have hvl:=hV.bn;have hlt:=h.bn;obtain⟨n1,n2,n3,n4⟩:=ay.parts (lI hnd hm);obtain⟨dc,bc,kc,a1,a2,a3,a4,a5⟩:=hV.ex;have S5:Same [v.vb,v.bg] w (w4.setCell ⟨v.vb,3,none⟩ (.slice (some ⟨g,0,none⟩) (v.blocks.length+1) cap)):=(hS.mono (T:=[v.vb,v.bg]) (by simp)).set _ _ _ (by simp);have l1:=hvl v.vb (by simp[ay.foot]);have l2:=hvl v.bg (by simp[ay.foot]);have l3:=hvl v.dg (by simp[ay.foot]);have hgv:v.vb≠g:=by rcases hg with e|e<;>omega
 have hgb:v.dg≠g:=by rcases hg with e|e<;>omega
 have S45:Same [v.vb] w4 (w4.setCell ⟨v.vb,3,none⟩ (.slice (some ⟨g,0,none⟩) (v.blocks.length+1) cap)):=(Same.refl _ _).set _ _ _ (by simp);have A4:=hS.at a1 (by simpa using n2);have V5:dU (w4.setCell ⟨v.vb,3,none⟩ (.slice (some ⟨g,0,none⟩) (v.blocks.length+1) cap)) { v with bg:=g,blocks:=v.blocks++[y] }:=by
  refine⟨⟨dc,cap,kc,?_,a2.same S5 ?_,hT.same S45 (by simpa using fun e=>hgv e.symm),a4,fun g' hg'=>(a5 g' hg').same S5 ?_⟩,hV.data,by simpa using hl,hV.kept⟩
  ·have:=A4.ax 3 (.slice (some ⟨g,0,none⟩) (v.blocks.length+1) cap);simpa using this
  ·simp;exact⟨fun e=>n1 e.symm,fun e=>n4 e⟩
  ·simp;exact⟨fun e=>(n3 g' hg').1 e.symm,fun e=>(n3 g' hg').2.2 e.symm⟩
 have hff:∀x∈ay.foot { v with bg:=g,blocks:=v.blocks++[y] },x∈v.foot\/w.heap.size<=x:=by
  intro x hx;simp only[ay.foot,List.mem_cons]at hx ⊢;rcases hx with q|q|q|q
  ·exact Or.inl (Or.inl q)
  ·exact Or.inl (Or.inr (Or.inl q))
  ·rcases hg with e|e
   ·exact Or.inl (Or.inr (Or.inr (Or.inl (q.trans e))))
   ·exact Or.inr (by omega)
  ·exact Or.inl (Or.inr (Or.inr (Or.inr q)))
 have hsub:∀x∈[v.vb,v.bg],x∈v.foot:=by
  intro x hx;simp at hx;rcases hx with q|q<;>rw[q]<;>simp[ay.foot]
 refine⟨qE h hnd i hi _ (by rw[hv]) V5 S5 (by rw[hv];exact hsub),jA hnd i hi _ ?_ (fun x hx=>by rw[hv];exact(hff x hx).imp id fun q hm=>by have:=hlt x hm;omega),S5.mono (fun x hx _=>s.bH hm (hsub x hx)),nM i hi _ (fun x hx=>by rw[hv];exact hff x hx),rfl,rfl⟩;have hvf:=lI hnd hm;simp only[ay.foot,List.nodup_cons,List.mem_cons,not_or]at hvf ⊢;refine⟨⟨hvf.1.1,hgv,hvf.1.2.2⟩,⟨hgb,hvf.2.1.2⟩,fun hk=>?_,hvf.2.2.2⟩;rcases hg with e|e
 ·rw[e]at hk;exact hvf.2.2.1 hk
 ·have:=hvl g (by simp only[ay.foot,List.mem_cons];exact Or.inr (Or.inr (Or.inr hk)));omega
theorem Wu{w:World}{s:aQ}{i n:Nat}{v:ay}(h:aO w s)(hnd:s.foot.Nodup)(hi:i<s.af.length)(hv:s.af[i]! = v)(hn:n<=v.data.length)(hb:n<=v.blocks.length)(dc bc:Nat)
 (hd2:w.cell? ⟨v.vb,2,none⟩=some (.slice (some ⟨v.dg,0,none⟩) v.data.length dc)) (hb2:w.cell? ⟨v.vb,3,none⟩=some (.slice (some ⟨v.bg,0,none⟩) v.blocks.length bc)) :
 bQ w s ((w.setCell ⟨v.vb,2,none⟩ (.slice (some ⟨v.dg,0,none⟩) n dc)).setCell ⟨v.vb,3,none⟩ (.slice (some ⟨v.bg,0,none⟩) n bc)) { s with af:=s.af.set i { v with data:=v.data.take n,blocks:=v.blocks.take n } }:=by
 have hm:v∈s.af:=by rw[<-hv];exact gY hi
 have hV:=h.af v hm;obtain⟨n1,n2,n3,n4⟩:=ay.parts (lI hnd hm);obtain⟨dc',bc',kc,a1,a2,a3,a4,a5⟩:=hV.ex;have ZA:=a1.cell? 2;rw[hd2]at ZA;obtain rfl:dc=dc':=by simpa using ZA
 have hb2':=a1.cell? 3;rw[hb2]at hb2';obtain rfl:bc=bc':=by simpa using hb2'
 have S5:Same [v.vb] w ((w.setCell ⟨v.vb,2,none⟩ (.slice (some ⟨v.dg,0,none⟩) n dc)).setCell ⟨v.vb,3,none⟩ (.slice (some ⟨v.bg,0,none⟩) n bc)):=((Same.refl _ _).set _ _ _ (by simp)).set _ _ _ (by simp);have hdl:(v.data.take n).length=n:=by rw[List.length_take];omega
 have hbl:(v.blocks.take n).length=n:=by rw[List.length_take];omega
 have T2:iK w v.dg dc (v.data.take n):=by
  obtain⟨cs,q1,q2,q3,q4,q5⟩:=a2.ex;refine⟨cs,q1,q2,?_,by rw[hdl];omega,q5⟩;rw[hdl,List.map_take,<-q3,List.take_take,Nat.min_eq_left hn]
 have T3:fD w v.bg bc (v.blocks.take n):=by
  obtain⟨cs,q1,q2,q3,q4,q5⟩:=a3.ex;refine⟨cs,q1,q2,?_,by rw[hbl];omega,q5⟩;rw[hbl,List.map_take,<-q3,List.take_take,Nat.min_eq_left hb]
 have V5:dU ((w.setCell ⟨v.vb,2,none⟩ (.slice (some ⟨v.dg,0,none⟩) n dc)).setCell ⟨v.vb,3,none⟩ (.slice (some ⟨v.bg,0,none⟩) n bc)) { v with data:=v.data.take n,blocks:=v.blocks.take n }:=by
  refine⟨⟨dc,bc,kc,?_,T2.same S5 (by simpa using fun e=>n1 e.symm),T3.same S5 (by simpa using fun e=>n2 e.symm),a4,fun g' hg'=>(a5 g' hg').same S5 (by simpa using fun e=>(n3 g' hg').1 e.symm)⟩,by rw[hdl];have:=hV.data;omega,by rw[hbl];have:=hV.blocks;omega,hV.kept⟩;have:=(a1.ax 2 (.slice (some ⟨v.dg,0,none⟩) n dc)).ax 3 (.slice (some ⟨v.bg,0,none⟩) n bc);simp only[hdl,hbl];exact this
 refine⟨qE h hnd i hi _ (by rw[hv]) V5 S5 (by rw[hv];simp[ay.foot]),jA hnd i hi _ (show v.foot.Nodup from lI hnd hm) (fun x hx=>by rw[hv];exact Or.inl hx),S5.mono ?_,nM i hi _ (fun x hx=>by rw[hv];exact Or.inl hx),rfl,rfl⟩;intro x hx _;simp at hx;rw[hx];exact s.bH hm (by simp[ay.foot])
theorem bQ.old{w0 w w':World}{s s':aQ}(h:bQ w s w' s')(h0:Same [] w0 w):bQ w0 s w' s':=
 ⟨h.ref,h.nodup,(h0.mono (T:=s.foot) (by simp)).step h.same (fun k hk _=>hk),fun k hk=>(h.foot k hk).imp id fun e=>Nat.le_trans h0.size e,h.rb,h.n⟩
def ay.grown(v:ay)(g bg:Nat)(fl:List Nat)(j:Nat):ay:={ v with dg:=g,bg:=bg,data:=v.data++List.replicate j eP,blocks:=v.blocks++fl.take j }
theorem fV{P:Program}{ops:Array Oper}{o:Oper}{a:Act}{w:World}{K:Act->World->Prop}{Q:Exit->Act->World->Prop}{E:Prop}
 (hg:o.guard=none) (s x:Operand) (t:TypeId) (hop:o.op=Op.call { callee:=Callee.builtin Builtin.append,args:=#[s,x],argTypes:=#[t,t] })
 (base:Nat) (e:TypeId) (i:TypeInfo) (z:Value) (size bytes:Nat) (h1:P.underlying t=some (.slice e)) (h2:P.info? e=some i) (h3:i.zero=some z) (h4:i.size=size) (h5:i.bytes=bytes) (h6:z.cells.size=size) (h7:0<size)
 (v:Value) (n:Nat) (xs:List Value) (hs:a.eval s=v) (hown:w.ownsRow base e size v n xs)
 (ad:Addr) (m c:Nat) (news:List Value) (hx:a.eval x=.slice (some ad) m c) (hn:news.length=m*size) (hc:∀j u,news[j]? = some u->w.cell? (ad.add j)=some u) (h1c:∀u∈news,u.oneCell'=true)
 (b1:n+m<=maxLen) (b2:(n+m)*bytes<=140737488355328) (b3:base<=w.heap.size)
 (hK:∀v' w',w'.ownsRow base e size v' (n+m) (xs++news)->w.grownBy w' v.ownBlock->(v'.ownBlock=v.ownBlock\/v'.ownBlock=some w.heap.size)->K (a.put o.dst v') w') :
 if Region.wanted o (yielded ops a.tmps)=true then Oper.wp P o a w K Q else E:=by
 have hw:Region.wanted o (yielded ops a.tmps)=true:=by simp[Region.wanted,hg]
 rw[if_pos hw];obtain⟨v',w',hrun,r1,r2,_,r3⟩:=run_append_own_at (P:=P) w base t o.type e i z size bytes h1 h2 h3 h4 h5 h6 h7 v n xs hown ad m c news hn hc h1c b1 b2 b3;unfold Oper.wp;simp[execOp,hop,resolve,invoke,builtin,hs,hx,hrun,Result.andThen];exact hK v' w' r1 r2 r3
theorem H9(s:aQ)(t:ByteArray)(n iv:Nat)(v:ay)(w:World)(h:aO w s)(hnd:s.foot.Nodup)(hi:iv<s.af.length)(hv:s.af[iv]! = v)(ha:s.oO t=some v)(ho:v.bC=⟨#[]⟩)(hp:s.dN t s.af.length=0)(hn:1<=n/\n<=200)(hf:n<=v.data.length+(s.dD s.n).length)(hbl:v.blocks.length=v.data.length) :
 Calls prog 54 #[.pointer (some ⟨s.rb,0,none⟩),.string t,.int .i64 n] w fun e w'=>e=.returned (.int .i64 0) /\
  ∃g bg,bQ w s w' { s with af:=s.af.set iv { (v.grown g bg (s.dD s.n) (n-v.data.length)) with data:=(v.data++List.replicate (n-v.data.length) eP).take n,blocks:=(v.blocks++(s.dD s.n).take (n-v.data.length)).take n } }:=by
 have hF:=aW s t w h;have hP:=dI s t w h;have hR:=iY s w h;rw[ha]at hF;rw[hp]at hP;have hm:v∈s.af:=by rw[<-hv];exact gY hi
 obtain⟨dc,bc,kc,a1,_⟩:=(h.af v hm).ex;have hd:=(h.af v hm).data;have e1:w.cell? ⟨v.vb,1,none⟩=some (.string ⟨#[]⟩):=by rw[<-ho];exact a1.cell? 1
 have hfl:=s.uf s.n;have hsn:=h.n;generalize s.dD s.n=fl at *;obtain⟨i0,hi0,hz0,hz1,hz2⟩:=info_parts Tryz.wI;obtain⟨i1,ki,kz0,kz1,kz2⟩:=info_parts Tryz.info3;have l1:(1:Int)<=(n:Int):=by omega
 have l2:(n:Int)<=200:=by omega
 have l3:(n:Int)<=(v.data.length:Int)+(fl.length:Int):=by omega
 go_enter func54,ntmps54
 go_wp2_with (first|(go_at_call 79;refine hF.mono ?_;rintro e wz ⟨rfl,rfl⟩)|(go_at_call 99;refine hP.mono ?_;rintro e wz ⟨rfl,rfl⟩)|(go_at_call 63;refine hR.mono ?_;rintro e w2 ⟨u,rfl,hownF,hS⟩;obtain⟨ua,pG,rfl⟩:=ak hownF;have e2:=(hS.at a1 (by simp)).cell? 2;simp only[List.getElem?_cons_succ,List.getElem?_cons_zero]at e2))
 have kW:=h.bn;have hsz2:=hS.size;have A0:bQ w2 s w2 { s with af:=s.af.set iv (v.grown v.dg v.bg fl 0) }:=by
  have e0:v.grown v.dg v.bg fl 0=v:=by simp[ay.grown]
  rw[e0,Ee hi hv];exact bQ.still (h.iW hS) hnd (Same.refl _ _)
 have hblk:∀j,j<fl.length->∃fb,ua=some ⟨fb,0,none⟩/\wz.heap.size<=fb/\fb<w2.heap.size/\w2.cell? ⟨fb,j,none⟩=some (.int .i64 (fl[j]!:Nat)):=fun j hj=>by
  obtain⟨g,cap,e,hb,hN⟩:=nJ hownF (by intro e;rw[e]at hj;simp at hj);obtain⟨cs,hA,_⟩:=hN.ex;simp only[Value.slice.injEq]at e;exact⟨g,e.1,hb,hA.lt,hN.cell j hj⟩
 have aaB:Hid (∀j,j<fl.length->∃fb,ua=some ⟨fb,0,none⟩/\wz.heap.size<=fb/\fb<w2.heap.size/\w2.cell? ⟨fb,j,none⟩=some (.int .i64 (fl[j]!:Nat))):=hblk;have HOLD:Hid (Same [] wz w2):=hS;have HH:Hid (aO wz s):=h;clear hblk hownF hF hP hR
 go_loopw [10] (fun i wr=>∃(j g bg:Nat),v.data.length+j<=max n v.data.length/\i=.int .i64 (v.data.length+j:Nat)/\bQ w2 s wr { s with af:=s.af.set iv (v.grown g bg fl j) })
  (fun i _=>n-(intOf i).toNat)
 case atStart=>exact⟨0,v.dg,v.bg,by omega,by simp,A0⟩
 case round=>
  obtain⟨j,g,bg,hj,rfl,hA⟩:=hrel;generalize hs1:({ s with af:=s.af.set iv (v.grown g bg fl j) }:aQ)=s1 at *;have hi1:iv<s1.af.length:=by rw[<-hs1];show iv<(s.af.set iv _).length;rw[List.length_set];exact hi
  have hv1:s1.af[iv]! = v.grown g bg fl j:=by rw[<-hs1];exact BJ hi
  have hm1:v.grown g bg fl j∈s1.af:=by rw[<-hv1];exact gY hi1
  have hV1:=hA.ref.af _ hm1;obtain⟨dc1,bc1,kc1,b1,b2,b3,b4,b5⟩:=hV1.ex;have hdl:(v.grown g bg fl j).data.length=v.data.length+j:=by simp[ay.grown]
  have XD:(v.grown g bg fl j).vb=v.vb:=rfl;by_cases hjn:v.data.length+j<n
  ·have hjf:j<fl.length:=by omega
   obtain⟨fb,rfl,hfb1,aaC,hfc⟩:=aaB.out j hjf;have SH:(v.grown g bg fl j).blocks.length=v.data.length+j:=by
    show(v.blocks++fl.take j).length=_;rw[List.length_append,List.length_take,hbl];omega
   have e2:wr.cell? ⟨v.vb,2,none⟩=some (.slice (some ⟨g,0,none⟩) (v.data.length+j) dc1):=by rw[<-hdl];exact b1.cell? 2
   have o2:wr.ownsRow 0 9 1 (.slice (some ⟨g,0,none⟩) (v.data.length+j) dc1) (v.data.length+j) ((v.grown g bg fl j).data.map Value.string):=Nl b2 hdl.symm;have l4:((v.data.length+j:Nat):Int)<(n:Int):=by omega
   have hnd1:=hA.nodup;obtain⟨p1,p2,p3,p4⟩:=ay.parts (lI hnd1 hm1);have q1:v.vb≠g:=p1;have q2:v.vb≠bg:=p2;have HA:Hid (bQ w2 s wr s1):=hA;have HB:Hid (At wr v.vb 118 _/\iK wr g dc1 (v.grown g bg fl j).data/\fD wr bg bc1 (v.grown g bg fl j).blocks):=⟨b1,b2,b3⟩
   clear hA b1 b2 b3 b4 b5 hV1 A0
   go_wp2_with (first|(at_builtin;refine wpList_append_own_at _ rfl _ _ 116 rfl 0 9 i0 (.string ⟨#[]⟩) 1 16 underlying116 hi0 hz0 hz1 hz2 rfl (by decide) _ _ _ rfl (o2.alloc _) ⟨wr.heap.size,0,none⟩ 1 1 [.string eP] rfl rfl ?c1 ?c2 ?c3 ?c4 ?c5 ?_))
   case c1=>
    intro j u hj
    match j,hj with
    | 0,hj=>simp at hj;subst hj;simp[Addr.add,eP]
   case c2=>intro u hu;simp at hu;subst hu;rfl
   case c3=>unfold maxLen;omega
   case c4=>omega
   case c5=>omega
   intro v' w4 hown' hgrow _ hblk;have hown2:w4.ownsRow 0 9 1 v' (v.data.length+j+1) (((v.grown g bg fl j).data++[eP]).map Value.string):=by rw[List.map_append];exact hown'
   have S4:Same [g] wr w4:=((Same.refl _ _).alloc _).grown hgrow (fun i hi hl=>by simp[Value.ownBlock]at hi;simp[hi]);obtain⟨g2,cap2,rfl,_,hT⟩:=uZ hown2 (by simp);have hg2:g2=g\/wr.heap.size<=g2:=by
    rcases hblk with hq|hq
    ·left;simpa [Value.ownBlock] using hq
    ·right
     have:g2=(wr.alloc (.cells #[.string eP] 9)).heap.size:=by simpa [Value.ownBlock] using hq
     rw[this];simp
   have hlen2:((v.grown g bg fl j).data++[eP]).length=v.data.length+j+1:=by rw[List.length_append,hdl];rfl
   have R5:=Dy HA.out.ref hnd1 hi1 hv1 g2 cap2 eP S4 hT hg2 (by omega);rw[hdl,XD]at R5;have b4:=S4.at HB.out.1 (by simpa using q1);have f4:=b4.frozen 2;have g4:w4.cell? ⟨v.vb,2,none⟩=some (.slice (some ⟨g,0,none⟩) (v.data.length+j) dc1):=by rw[<-hdl];exact b4.cell? 2
   have S5:Same [v.vb] w4 (w4.setCell ⟨v.vb,2,none⟩ (.slice (some ⟨g2,0,none⟩) (v.data.length+j+1) cap2)):=(Same.refl _ _).set _ _ _ (by simp);rw[hlen2];have HR5:Hid (∃s2 v2,bQ wr s1 (w4.setCell ⟨v.vb,2,none⟩ (.slice (some ⟨g2,0,none⟩) (v.data.length+j+1) cap2)) s2/\v2={ (v.grown g2 bg fl j) with data:=v.data++List.replicate (j+1) eP }/\s2={ s1 with af:=s1.af.set iv v2 }):=by
    refine⟨_,_,R5,?_,rfl⟩;simp[ay.grown,List.replicate_succ']
   have hx5:=S5.at b4;clear hown' hown2 hgrow hblk o2 e2 R5 hT
   go_wp2
   generalize hW5:w4.setCell ⟨v.vb,2,none⟩ (.slice (some ⟨g2,0,none⟩) (v.data.length+j+1) cap2)=w5 at *;obtain⟨s2,v2,R5,hv2,hs2⟩:=HR5.out;have hi2:iv<s2.af.length:=by rw[hs2];show iv<(s1.af.set iv _).length;rw[List.length_set];exact hi1
   have ZB:s2.af[iv]! = v2:=by rw[hs2];exact BJ hi1
   have hm2:v2∈s2.af:=by rw[<-ZB];exact gY hi2
   have hV2:=R5.ref.af _ hm2;obtain⟨dc2,bc2,kc2,c1,c2,c3,c4,c5⟩:=hV2.ex;have XF:v2.vb=v.vb:=by rw[hv2];rfl
   have V4:v2.bg=bg:=by rw[hv2];rfl
   have V6:v2.blocks.length=v.data.length+j:=by rw[hv2];exact SH
   have e3:w5.cell? ⟨v.vb,3,none⟩=some (.slice (some ⟨bg,0,none⟩) (v.data.length+j) bc2):=by rw[<-XF,<-V4,<-V6];exact c1.cell? 3
   have o3:w5.ownsRow 0 3 1 (.slice (some ⟨bg,0,none⟩) (v.data.length+j) bc2) (v.data.length+j) (v2.blocks.map (fun x:Nat=>Value.int .i64 x)):=by rw[<-V4];exact yK c3 V6.symm
   have hfo:fb∉s.foot:=fun hm=>by have:=kW _ hm;omega
   have aaD:fb∉s1.foot:=fun hm=>by
    rcases HA.out.foot _ hm with q|q
    ·exact hfo q
    ·omega
   have ef:w5.cell? ⟨fb,j,none⟩=some (.int .i64 (fl[j]!:Nat)):=by
    have h1:=HA.out.same.block fb aaC hfo;have h2:=R5.same.block fb (by have:=HA.out.same.size;omega) aaD;rw[<-hfc];simp[World.cell?,h1,h2]
   obtain⟨cs5,h5⟩:∃cs,At w5 v.vb 118 cs:=⟨_,by rw[<-XF];exact c1⟩
   have h53:cs5[3]? = some (.slice (some ⟨bg,0,none⟩) (v.data.length+j) bc2):=by rw[<-h5.cell?];exact e3
   have HT:Hid (v2.blocks++[fl[j]!]=v.blocks++fl.take (j+1)):=by
    show _=_;rw[hv2,List.take_succ_eq_append_getElem hjf,getElem!_pos fl j hjf];simp[ay.grown]
   have q2b:v.vb≠bg:=q2;have lvb:v.vb<w5.heap.size:=h5.lt;have hsub:IntKind.i64.wrap ((v.data.length:Int)+(j:Int)-(v.data.length:Int))=((j:Nat):Int):=by rw[IntWalk.i64_in _ (by omega)];omega
   have l5:(j:Int)<(fl.length:Int):=by omega
   generalize fl[j]! = y at *;clear hW5 c1 c2 c3 c4 c5 hV2
   go_region_law (refine fV rfl (.tmp 65) (.tmp 72) 51 rfl 0 3 i1 (.int .i64 0) 1 8 underlying51 ki kz0 kz1 kz2 rfl (by decide) (.slice (some ⟨bg,0,none⟩) (v.data.length+j) bc2) (v.data.length+j) (v2.blocks.map (fun x:Nat=>Value.int .i64 x)) (by simp[Act.eval,Act.put]) (o3.alloc _) ⟨w5.heap.size,0,none⟩ 1 1 [.int .i64 (y:Nat)] (by simp[Act.eval,Act.put]) rfl (by intro q u hq;match q,hq with|0,hq=>simp at hq;subst hq;simp[Addr.add]) (by intro u hu;simp at hu;subst hu;rfl) (by unfold maxLen;omega) (by omega) (by omega) ?_;intro v6 w6 hown6 hgrow6 hblk6;obtain⟨a6,cap6,rfl⟩:=ak hown6;have p6:At w6 v.vb 118 cs5:=(h5.alloc (.cells #[.int .i64 (y:Nat)] 3)).of_heap (hgrow6.block v.vb (h5.alloc (.cells #[.int .i64 (y:Nat)] 3)).lt (fun hq=>q2b (Option.some.inj hq)));have g6:w6.cell? ⟨v.vb,3,none⟩=some (.slice (some ⟨bg,0,none⟩) (v.data.length+j) bc2):=(p6.cell? 3).trans h53;have z6:w6.frozen? ⟨v.vb,3,none⟩=false:=p6.frozen 3)
   all_goals
    have ZC:(v2.blocks.map (fun x:Nat=>Value.int .i64 x)++[.int .i64 (y:Nat)])=(v2.blocks++[y]).map (fun x:Nat=>Value.int .i64 x):=by rw[List.map_append];rfl
    rw[ZC]at hown6;obtain⟨g3,cap3,he3,_,hN3⟩:=nJ hown6 (by simp);have hl3:(v2.blocks++[y]).length=v.data.length+j+1:=by rw[List.length_append,V6];rfl
    rw[hl3]at he3;obtain⟨rfl,hcap⟩:a6=some ⟨g3,0,none⟩/\cap6=cap3:=by simpa using he3
    subst hcap;have S6:Same [v2.bg] w5 w6:=by
     rw[V4];exact((Same.refl _ _).drew.alloc _).grown hgrow6 (fun i hi hl=>by have e:bg=i:=Option.some.inj hi;simp[e])
    have hg3:g3=v2.bg\/w5.heap.size<=g3:=by
     rcases hblk6 with hq|hq
     ·left;rw[V4];exact Option.some.inj hq
     ·right
      have:some g3=some (w5.alloc (.cells #[.int .i64 (y:Nat)] 3)).heap.size:=hq;have:=Option.some.inj this;rw[this];simp
    have R6:=zF R5.ref R5.nodup hi2 ZB g3 cap6 y S6 hN3 hg3 (by omega);rw[V6,XF,HT.out]at R6;have R7:=(HA.out.trans R5).trans R6;have e7:({ s2 with af:=s2.af.set iv { v2 with vb:=v.vb,bg:=g3,blocks:=v.blocks++fl.take (j+1) } }:aQ)={ s with af:=s.af.set iv (v.grown g2 g3 fl (j+1)) }:=by
     rw[hs2,hv2,<-hs1];simp[ay.grown]
    have HR7:Hid (bQ w2 s (w6.setCell ⟨v.vb,3,none⟩ (.slice (some ⟨g3,0,none⟩) (v.data.length+j+1) cap6)) { s with af:=s.af.set iv (v.grown g2 g3 fl (j+1)) }):=by
     show bQ _ _ _ _;rw[<-e7];exact R7
    clear hown6 hgrow6 hblk6 R6 R7 R5 hN3 S6
    go_wp2
    go_roundw
    case rel=>exact⟨j+1,g2,g3,by omega,by go_num,HR7.out⟩
    case measure=>simp[intOf];omega
  ·have ej:j=n-v.data.length:=by omega
   subst ej;have SH:(v.grown g bg fl (n-v.data.length)).blocks.length=v.data.length+(n-v.data.length):=by
    show(v.blocks++fl.take (n-v.data.length)).length=_;rw[List.length_append,List.length_take,hbl];omega
   have e2:wr.cell? ⟨v.vb,2,none⟩=some (.slice (some ⟨g,0,none⟩) (v.data.length+(n-v.data.length)) dc1):=by rw[<-hdl];exact b1.cell? 2
   have e3:wr.cell? ⟨v.vb,3,none⟩=some (.slice (some ⟨bg,0,none⟩) (v.data.length+(n-v.data.length)) bc1):=by rw[<-SH];exact b1.cell? 3
   have f2:=b1.frozen 2;have f3:=b1.frozen 3;rw[XD]at f2 f3;have RC:=Wu hA.ref hA.nodup hi1 hv1 (n:=n) (by rw[hdl];omega) (by rw[SH];omega) dc1 bc1 (b1.cell? 2) (b1.cell? 3);rw[XD]at RC;have R7:=hA.trans RC;have hd1:n<=dc1:=by obtain⟨cs,_,_,_,q,_⟩:=b2.ex;rw[hdl]at q;omega
   have hb1:n<=bc1:=by obtain⟨cs,_,_,_,q,_⟩:=b3.ex;rw[SH]at q;omega
   have e7:({ s1 with af:=s1.af.set iv { (v.grown g bg fl (n-v.data.length)) with vb:=v.vb,data:=(v.grown g bg fl (n-v.data.length)).data.take n,blocks:=(v.grown g bg fl (n-v.data.length)).blocks.take n } }:aQ)={ s with af:=s.af.set iv { (v.grown g bg fl (n-v.data.length)) with data:=(v.data++List.replicate (n-v.data.length) eP).take n,blocks:=(v.blocks++fl.take (n-v.data.length)).take n } }:=by
    rw[<-hs1];simp[ay.grown]
   have HR7:Hid (bQ wz s ((wr.setCell ⟨v.vb,2,none⟩ (.slice (some ⟨g,0,none⟩) n dc1)).setCell ⟨v.vb,3,none⟩ (.slice (some ⟨bg,0,none⟩) n bc1)) { s with af:=s.af.set iv { (v.grown g bg fl (n-v.data.length)) with data:=(v.data++List.replicate (n-v.data.length) eP).take n,blocks:=(v.blocks++fl.take (n-v.data.length)).take n } }):=by
    show bQ _ _ _ _;rw[<-e7];exact R7.old HOLD.out
   have m1:(n:Int)<=(dc1:Int):=by omega
   have m2:(n:Int)<=(bc1:Int):=by omega
   have m3:(0:Int)<=(n:Int):=by omega
   have m4:((n:Int)).toNat=n:=by omega
   have m5:¬((v.data.length:Int)+((n-v.data.length:Nat):Int)<(n:Int)):=by omega
   clear hA b1 b2 b3 b4 b5 hV1 A0 RC R7 e7
   go_wp2
   go_ret
   exact⟨rfl,g,bg,HR7.out⟩
end
end Go.Proofs.YtpddgdjocffgdaaGreat
