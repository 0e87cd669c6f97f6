/- Packed: see the last text. -/
import Derived.Test.YtpddgdjocffgdaaGreatA13
import Derived.Test.YtpddgdjocffgdaaGreatA23
import Derived.Test.YtpddgdjocffgdaaGreatA11
import Derived.Test.YtpddgdjocffgdaaGreatA14
import Derived.Deep.CutBlock
import Derived.Deep.DeepCutAuto
import Derived.ArgAppend
import Derived.Deep.RegionHeld3
namespace Go.Proofs.YtpddgdjocffgdaaGreat
open Go.Proofs.Tryz
set_option linter.unusedVariables false
set_option linter.unusedSimpArgs false
set_option linter.unusedSectionVars false
set_option maxHeartbeats 16000000
set_option maxRecDepth 100000
section
open Go.RowKit Go.Sort
variable [DecidableEq aN] [Inhabited aN] [Inhabited aF] [Inhabited aS] [Inhabited ay] [Inhabited aV]
theorem xM{s:St}{w:World}(h:mD s w):(kT s).length<=30000:=by
 have h1:=qL s s.af (fun v hv=>h.entry hv);have h2:=h.pool.few;have h3:=h.pool.disk.len;have h4:=h.pool.disk.small;unfold kT qh;simp only[List.length_append,di,zl,List.length_cons,List.length_nil];have:gq.length=4:=rfl;omega
theorem UX{w:World}{s:St}{fr:List Nat}{r:aQ}(h:kD w s fr r):∀x,x<s.n->(s.bl[x]!).fits:=
 fits_all h.pool h.good h.spare fun i hi hl q hq=>fun n hn=>(h.rel.each i hi).ok hl q hq n hn
theorem qN{w:World}{s:St}{fr:List Nat}{r:aQ}(h:kD w s fr r)(hn:1<=s.n):mD s w:=EQ h.pool h.good hn (UX h)
theorem WN{ns:List ByteArray}(h:ns.Pairwise fun a b=>bW a b<0)(i j:Nat)(hj:j<i)(hi:i<ns.length):ns[j]!≠ns[i]!:=fun e=>by
 have h1:=List.pairwise_iff_getElem.1 h j i (by omega) hi hj;rw[getElem!_pos ns j (by omega),getElem!_pos ns i hi]at e;rw[e,nH]at h1;omega
theorem UA{w:World}{s:St}{fr:List Nat}{r:aQ}(h:kD w s fr r):YI r:=by
 have hv:∀v∈r.af,∃i,i<s.af.length/\v=r.af[i]!/\s.af[i]!∈s.af:=fun v hv=>by
  obtain⟨i,hi,e⟩:=List.getElem_of_mem hv;have:=h.rel.len;have hi':i<s.af.length:=by omega
  exact⟨i,hi',by rw[getElem!_pos _ i hi];exact e.symm,by rw[getElem!_pos s.af i hi'];exact List.getElem_mem hi'⟩
 have hsm:=h.pool.disk.small;refine⟨fun v hvm=>?_,fun v hvm x hx=>?_,fun v hvm x hx=>?_,fun v hvm hne=>?_,fun v hvm=>?_⟩
 all_goals obtain⟨i,hi,rfl,hm⟩:=hv v hvm
 all_goals have hr:=h.rel.each i hi
 all_goals obtain⟨g1,g2,g3,g4⟩:=h.pool.aB hm
 ·have h1:=h.good.names _ hm;rw[hr.name];unfold nameB at h1;simp only[Bool.and_eq_true,decide_eq_true_eq]at h1;exact h1.1.2
 ·rw[hr.blocks]at hx;have:=h.good.lt.2 _ hm x hx;omega
 ·rw[hr.kept]at hx;by_cases ho:(s.af[i]!).org=none
  ·rw[(h.pool.af _ hm).fE ho]at hx;simp at hx
  ·have h1:=((h.good.dN _ hm).2.2 _ g1 (g4 ho)).1 x hx;have h2:=(h.pool.af _ g1).small;omega
 ·have ho:(s.af[i]!).org≠none:=fun e=>hne ((BN h hi).2 e)
  obtain⟨k,hk,ek⟩:=List.getElem_of_mem g1;have hkr:k<r.af.length:=by rw[h.rel.len];exact hk
  have hname:∀q,q<s.af.length->(r.af[q]!).name=s.names[q]!:=fun q hq=>by
   rw[(h.rel.each q hq).name];unfold St.names;rw[getElem!_pos (List.map _ _) q (by simpa using hq),List.getElem_map,getElem!_pos s.af q hq]
  have hof:(r.af[i]!).bC=s.names[k]!:=by
   rw[hr.bC,if_neg ho];unfold St.names;rw[getElem!_pos (List.map _ _) k (by simpa using hk),List.getElem_map,ek]
  have hlen:s.names.length=s.af.length:=by simp[St.names]
  refine⟨k,hkr,by rw[hof,hname k hk],fun q hq=>?_,?_⟩
  ·rw[hof,hname q (by omega)];exact WN h.pool.iG k q hq (by omega)
  ·rw[hof,h.rel.names];exact xU h.pool.iG k (by omega)
 ·have hsz:(r.af[i]!).data.length=(s.aB (s.af[i]!)).xs.length:=hr.size;refine⟨fun he=>?_,fun hne x hx=>?_⟩
  ·have ho:=(BN h hi).1 he;rw[hsz,g3 ho,hr.blocks];exact Nat.le_refl _
  ·have ho:(s.af[i]!).org≠none:=fun e=>hne ((BN h hi).2 e)
   rw[hr.kept]at hx;rw[hsz];exact((h.good.dN _ hm).2.2 _ g1 (g4 ho)).1 x hx
theorem G8{w:World}{s:St}{fr:List Nat}{r:aQ}(h:kD w s fr r)(hn:1<=s.n):Calls prog 35 #[.pointer (some ⟨r.rb,0,none⟩)] w fun e w'=>e=.returned (.string ⟨(kT s).toArray⟩)/\Same [] w w':=by
 have e:=UB h;have hs:=xM (qN h hn);have hb:(jC r).length<=140737488355328:=by
  rw[e];have:(kT s).length=(qh s).length+2:=by unfold kT;rw[List.length_append,di]
  omega
 have:=BX r w h.ref (UA h) hb;rw[e]at this;exact this
theorem wO(bb:Nat)(s:St)(fr:List Nat)(r:aQ)(w:World)(h:dA w bb s fr r)(hn:1<=s.n) :
 Calls prog 17 #[.pointer (some ⟨bb,0,none⟩)] w fun e w'=>∃g,e=.returned (.tuple #[.slice (some ⟨g,0,none⟩) (kT s).length (kT s).length,.bool true])/\l7 w w' g (kT s):=by
 have h1:=J7 s w (qN h.two hn);have HR:Hid (∀W,Same [] w W->Calls prog 35 #[.pointer (some ⟨r.rb,0,none⟩)] W fun e w'=>e=.returned (.string ⟨(kT s).toArray⟩)/\Same [] W w'):=fun W hW=>G8 (h.two.new hW) hn
 have c0:w.cell? ⟨bb,0,none⟩=some (.pointer (some ⟨s.pb,0,none⟩)):=h.both.cell? 0;have HC1:Hid (∀W,Same [] w W->W.cell? ⟨bb,1,none⟩=some (.pointer (some ⟨r.rb,0,none⟩))):=fun W hW=>(h.new hW).both.cell? 1
 clear h;generalize kT s=J at *
 go_enter func17,ntmps17
 go_wp2_with fail
 refine h1.mono ?_;rintro e w1 ⟨g,rfl,hN⟩;have c1:=HC1.out w1 hN.same;have h2:=HR.out w1 hN.same;have HN:Hid (l7 w w1 g J):=hN;clear hN h1 c0 HR HC1;dsimp only
 go_wp2_with fail
 refine h2.mono ?_;rintro e w2 ⟨rfl,S2⟩;have hx:Sem.run prog (convert 41 9 (.slice (some ⟨g,0,none⟩) J.length J.length)) w2.drew=.ok (.string ⟨J.toArray⟩) w2.drew:=jF w2.drew g 0 J.length J rfl (fun i hi=>by
  obtain⟨cs,hA,hc⟩:=HN.out.ex;have e:(cs.take J.length)[i]? = cs[i]?:=by rw[List.getElem?_take,if_pos hi]
  have hA2:At w2.drew g 5 cs:=(S2.at hA (by simp)).drew;rw[Nat.zero_add,hA2.cell?,<-e,hc,List.getElem?_map,List.getElem?_eq_getElem hi,getElem!_pos J i hi];rfl) J.length
 have HF:Hid (l7 w w2.drew g J):=by
  obtain⟨cs,hA,hc⟩:=HN.out.ex;exact⟨HN.out.new,⟨cs,(S2.at hA (by simp)).drew,hc⟩,(HN.out.same.step S2 (by simp)).drew⟩
 clear S2 HN h2;generalize (⟨J.toArray⟩:ByteArray)=tj at *;dsimp only
 go_wp2_with fail
 go_region_held3 (fun w'=>Sem.run prog (convert 41 9 (.slice (some ⟨g,0,none⟩) J.length J.length)) w'=.ok (.string tj) w') (first|assumption|exact hx) (fail)
 go_wp2
 go_ret2
 exact⟨g,by simp,HF.out⟩
def sO(c n:Int):Int:=(if c<0 then -(c+1) else c).tmod n
theorem Lc(c n:Int)(h:0<n):0<=sO c n/\sO c n<n:=by
 unfold sO;have h0:0<=(if c<0 then -(c+1) else c):=by split<;>omega
 exact⟨Int.tmod_nonneg n h0,Int.tmod_lt_of_pos _ h⟩
theorem kz(c n:Int)(w:World)(h1:-9223372036854775808<=c)(h2:c<=9223372036854775807)(hn:0<n)(hn2:n<=10000000) :
 Calls prog 16 #[.int .i64 c,.int .i64 n] w fun e w'=>e=.returned (.int .i64 (sO c n))/\w'=w:=by
 have hne:¬n=0:=by omega
 have hb:=Lc c n hn;by_cases hc:c<0
 ·have HP:Hid (sO c n=-((c+1).tmod n)):=by show _=_;unfold sO;rw[if_pos hc,Int.neg_tmod]
  go_enter func16,ntmps16
  go_wp2
  go_ret
  rw[HP.out];exact⟨rfl,rfl⟩
 ·have HP:Hid (sO c n=c % n):=by show _=_;unfold sO;rw[if_neg hc,Int.tmod_eq_emod_of_nonneg (by omega)]
  go_enter func16,ntmps16
  go_wp2
  go_ret
  rw[HP.out];exact⟨rfl,rfl⟩
def JU(n:Nat):Nat->Nat
 | 0=>n
 | k+1=>JU (n / 250) k
def kL(n i:Nat):Nat:=1+JU n (i % 3) % 250
theorem FB(n i:Nat):kL n i<256:=by
 unfold kL;have:=Nat.mod_lt (JU n (i % 3)) (show 0<250 by omega);omega
theorem zu(n i:Nat)(w:World)(hn:n<=1000000000000)(hi:i<=140737488355328) :
 Calls prog 23 #[.int .i64 n,.int .i64 i] w fun e w'=>e=.returned (.int .u8 (kL n i:Nat))/\w'=w:=by
 have m1:((i:Int)).tmod 3=((i % 3:Nat):Int):=by rw[Int.tmod_eq_emod_of_nonneg (by omega)];omega
 have m1':(i:Int) % 3=((i % 3:Nat):Int):=by omega
 have hk3:i % 3<3:=Nat.mod_lt _ (by omega);have HD:Hid (1+JU n (i % 3) % 250=kL n i):=rfl
 go_enter func23,ntmps23
 generalize i % 3=k0 at *
 go_wp2
 go_loopw [0,5] (fun a k wr=>∃(x j:Nat),a=.int .i64 x/\k=.int .i64 j/\j<=3/\x<=1000000000000/\wr=w/\Hid (JU x j=JU n k0)) (fun _ k _=>(intOf k).toNat)
 case atStart=>exact⟨n,k0,rfl,rfl,by omega,hn,rfl,rfl⟩
 case round=>
  obtain⟨x,j,rfl,rfl,hj,hx,rfl,HX⟩:=hrel;rcases Nat.eq_zero_or_pos j with rfl|hjp
  ·have HE:Hid (1+x % 250=kL n i):=by show _=_;rw[<-HD.out,<-HX.out];rfl
   have q1:(x:Int).tmod 250=((x % 250:Nat):Int):=by rw[Int.tmod_eq_emod_of_nonneg (by omega)];omega
   have q1':(x:Int) % 250=((x % 250:Nat):Int):=by omega
   have q2:x % 250<250:=Nat.mod_lt _ (by omega);clear HX HD;generalize x % 250=y at *
   go_wp2
   go_ret
   rw[<-HE.out];refine⟨?_,by first|rfl|trivial⟩
   first|rfl|(simp[IntKind.wrap,IntKind.signed,IntKind.bits];done)|(simp[IntKind.wrap,IntKind.signed,IntKind.bits];omega)
  ·have lj:(0:Int)<(j:Int):=by omega
   have q1:(x:Int).tdiv 250=((x / 250:Nat):Int):=by rw[Int.tdiv_eq_ediv_of_nonneg (by omega)];omega
   have q1':(x:Int) / 250=((x / 250:Nat):Int):=by omega
   have q3:x / 250<=x:=Nat.div_le_self _ _;obtain⟨j',rfl⟩:∃j',j=j'+1:=⟨j-1,by omega⟩
   have HE:Hid (JU (x / 250) j'=JU n k0):=by show _=_;rw[<-HX.out];rfl
   clear HX;generalize x / 250=y at *
   go_wp2
   go_roundw
   case rel=>exact⟨y,j',by first|rfl|(simp;done),by first|rfl|go_num|(simp;done),by omega,by omega,by first|rfl|trivial,HE.out⟩
   case measure=>simp[intOf]
theorem Tryz.Q5:(prog.info? 41).map (fun i=>(i.zero,i.size,i.bytes))=some (some (.slice none 0 0),1,24):=by kernel_rfl
def oK(w:World)(g off k:Nat):Nat->World
 | 0=>w
 | m+1=>(oK w g off k m).setCell ⟨g,off+m,none⟩ (.int .u8 (kL k m:Nat))
theorem qp(w:World)(g off k:Nat):∀m,Same [g] w (oK w g off k m)
 | 0=>Same.refl _ _
 | m+1=>(qp w g off k m).set _ _ _ (by simp)
def Mine(w:World)(g off n:Nat):Prop:=∃t cs,At w g t cs/\off+n<=cs.length
theorem wH{w:World}{g:Nat}{t:TypeId}{cs:List Value}(h:At w g t cs)(off k:Nat):∀m,∃cs',At (oK w g off k m) g t cs'/\cs'.length=cs.length/\(∀i,i<m->off+i<cs.length->cs'[off+i]? = some (.int .u8 (kL k i:Nat)))/\∀i,(i<off\/off+m<=i)->cs'[i]? = cs[i]?
 | 0=>⟨cs,h,rfl,fun i hi=>by omega,fun i _=>rfl⟩
 | m+1=>by
  obtain⟨cs',h1,h2,h3,h4⟩:=wH h off k m;refine⟨cs'.set (off+m) (.int .u8 (kL k m:Nat)),h1.ax _ _,by rw[List.length_set,h2],fun i hi hl=>?_,fun i hi=>?_⟩
  ·rw[List.getElem?_set];by_cases e:i=m
   ·subst e;rw[if_pos rfl,if_pos (by omega)]
   ·rw[if_neg (by omega)];exact h3 i (by omega) hl
  ·rw[List.getElem?_set,if_neg (by omega)];exact h4 i (by omega)
theorem yS(w:World)(wb base:Nat)(xa xc xd:Value)(ba:Option Addr)(bc k:Nat)(L:List Value)(la:Option Addr)(g off n lc:Nat)(hw:At w wb 31 [xa,.slice ba k bc,xc,xd])(ho:w.ownsRow base 41 1 (.slice ba k bc) k L)(hb:base<=w.heap.size)(hk:k<=100000000)(hwb:wb<base)(hla:0<n->la=some ⟨g,off,none⟩/\Mine w g off n/\g≠wb/\(Value.slice ba k bc).ownBlock≠some g)(hn:n<=140737488355328) :
 Calls prog 33 #[.pointer (some ⟨wb,0,none⟩),.slice la n lc] w fun e w'=>∃ba' bc',e=.returned (.tuple #[])/\Same (wb::(Value.slice ba k bc).ownBlock.toList) (oK w g off k n) w'/\At w' wb 31 [xa,.slice ba' (k+1) bc',xc,xd]/\w'.ownsRow base 41 1 (.slice ba' (k+1) bc') (k+1) (L++[.slice la n lc])/\((Value.slice ba' (k+1) bc').ownBlock=(Value.slice ba k bc).ownBlock\/∃q,(Value.slice ba' (k+1) bc').ownBlock=some q/\w.heap.size<=q):=by
 obtain⟨i0,hi,hz0,hz1,hz2⟩:=info_parts Tryz.Q5;have hdig:=fun i W (h:i<=140737488355328)=>zu k i W (by omega) h
 have HW:Hid (∀m,m<=n->At (oK w g off k m) wb 31 [xa,.slice ba k bc,xc,xd]/\(oK w g off k m).ownsRow base 41 1 (.slice ba k bc) k L):=fun m hm=>by
  by_cases h0:m=0
  ·subst h0;exact⟨hw,ho⟩
  ·obtain⟨_,_,h1,h2⟩:=hla (by omega);exact⟨(qp w g off k m).at hw (by simp;exact fun e=>h1 e.symm),aG ho (qp w g off k m) (fun q hq hm'=>by simp at hm';exact h2 (by rw[<-hm'];exact hq))⟩
 have HZ:Hid (∀m,(oK w g off k m).heap.size=w.heap.size):=fun m=>by
  induction m with
  | zero=>rfl
  | succ m ih=>show((oK w g off k m).setCell _ _).heap.size=_;rw[<-ih];simp
 have HM:Hid (∀m,m<n->la=some ⟨g,off,none⟩/\(∃u,(oK w g off k m).cell? ⟨g,off+m,none⟩=some u)/\(oK w g off k m).frozen? ⟨g,off+m,none⟩=false):=fun m hm=>by
  obtain⟨h1,⟨t,cs,hA,hl⟩,_,_⟩:=hla (by omega);obtain⟨cs',h2,h3,_,_⟩:=wH hA off k m;exact⟨h1,⟨cs'[off+m]'(by omega),by rw[h2.cell?];exact List.getElem?_eq_getElem (by omega)⟩,h2.frozen _⟩
 have HB:Hid (w.heap.size<=w.heap.size/\base<=w.heap.size/\wb<base):=⟨Nat.le_refl _,hb,hwb⟩
 clear hw ho hla hb hwb
 go_enter func33,ntmps33
 go_wp2_with fail
 go_loopw [4] (fun i wr=>∃m:Nat,i=.int .i64 m/\m<=n/\Hid (wr=oK w g off k m)) (fun i _=>n-(intOf i).toNat)
 case atStart=>exact⟨0,rfl,Nat.zero_le _,rfl⟩
 case round=>
  obtain⟨m,rfl,hm,HE⟩:=hrel;obtain⟨h1,h2⟩:=HW.out m hm;by_cases hml:m<n
  ·have lm:(m:Int)<(n:Int):=by omega
   obtain⟨rfl,⟨u,c1⟩,c2⟩:=HM.out m hml;have c0:(oK w g off k m).cell? ⟨wb,1,none⟩=some (.slice ba k bc):=h1.cell? 1;have hd:=hdig m (oK w g off k m) (by omega);rw[<-HE.out]at c0 c1 c2 hd;have HN:Hid (wr.setCell ⟨g,off+m,none⟩ (.int .u8 (kL k m:Nat))=oK w g off k (m+1)):=by show _=_;rw[HE.out];rfl
   have hdl:=FB k m;generalize kL k m=dg at *;clear h1 h2 HE hdig
   go_wp2_with fail
   refine hd.mono ?_;rintro e w1 ⟨rfl,hw1⟩;obtain rfl:=hw1.symm;dsimp only
   go_wp2
   go_roundw
   case rel=>exact⟨m+1,by go_num,by omega,HN.out⟩
   case measure=>simp[intOf];omega
  ·have lm:(n:Int)<=(m:Int):=by omega
   obtain rfl:m=n:=by omega
   have hz:=HZ.out m;rw[<-HE.out]at h1 h2 hz;have c0:wr.cell? ⟨wb,1,none⟩=some (.slice ba k bc):=h1.cell? 1;have HH:Hid (At wr wb 31 [xa,.slice ba k bc,xc,xd]):=h1;have hwl:=h1.lt;have hbw:base<=wr.heap.size:=by have:=HB.out;omega
   have HNB:Hid (∀q,(Value.slice ba k bc).ownBlock=some q->q≠wb):=fun q hq=>by have:=aI h2 q hq;have:=HB.out;omega
   have HZZ:Hid (wr.heap.size=w.heap.size):=hz;clear h1 hz
   go_wp2_with (at_builtin;refine wpList_append_own_at _ rfl _ _ 27 rfl base 41 i0 (.slice none 0 0) 1 24 underlying27 hi hz0 hz1 hz2 rfl (by decide) _ _ _ rfl (h2.alloc _) ⟨wr.heap.size,0,none⟩ 1 1 [.slice la m lc] rfl rfl ?c1 ?c2 ?c3 ?c4 ?c5 ?_)
   case c1=>
    intro j u hj
    match j,hj with
    | 0,hj=>simp at hj;subst hj;simp[Addr.add]
   case c2=>intro u hu;simp at hu;subst hu;rfl
   case c3=>unfold maxLen;omega
   case c4=>omega
   case c5=>first|omega|(simp;omega)
   intro pv2 w3 hown3 hgrow3 _ hblk3;obtain⟨pa3,pc3,rfl⟩:=ak hown3;have S3:Same (Value.slice ba k bc).ownBlock.toList wr w3:=((Same.refl _ _).alloc _).grown hgrow3 (fun q hq _=>by simp[hq]);have p63:At w3 wb 31 [xa,.slice ba k bc,xc,xd]:=S3.at HH.out (fun hq=>HNB.out wb (by simpa using hq) rfl);have g6:w3.cell? ⟨wb,1,none⟩=some (.slice ba k bc):=p63.cell? 1;have z6:w3.frozen? ⟨wb,1,none⟩=false:=p63.frozen 1;have HF:Hid (∃ba' bc',Same (wb::(Value.slice ba k bc).ownBlock.toList) wr (w3.setCell ⟨wb,1,none⟩ (.slice pa3 (k+1) pc3))/\At (w3.setCell ⟨wb,1,none⟩ (.slice pa3 (k+1) pc3)) wb 31 [xa,.slice ba' (k+1) bc',xc,xd]/\(w3.setCell ⟨wb,1,none⟩ (.slice pa3 (k+1) pc3)).ownsRow base 41 1 (.slice ba' (k+1) bc') (k+1) (L++[.slice la m lc])/\((Value.slice ba' (k+1) bc').ownBlock=(Value.slice ba k bc).ownBlock\/∃q,(Value.slice ba' (k+1) bc').ownBlock=some q/\w.heap.size<=q)):=by
    refine⟨pa3,pc3,(S3.mono (T:=wb::(Value.slice ba k bc).ownBlock.toList) (fun q hq _=>List.mem_cons_of_mem _ hq)).set _ _ _ (fun _=>by simp),p63.ax 1 _,?_,?_⟩
    ·exact aG hown3 ((Same.refl [wb] w3).set wb 1 (.slice pa3 (k+1) pc3) (fun _=>by simp)) (fun q hq hm'=>by
      simp at hm';subst hm';have:=aI hown3 q hq;have:=HB.out;omega)
    ·rcases hblk3 with e|e
     ·exact Or.inl e
     ·exact Or.inr ⟨_,e,by have:=HZZ.out;simp;omega⟩
   clear S3 hown3 hgrow3 hblk3 p63;have HEE:Hid (wr=oK w g off k m):=HE.out;clear HE
   go_wp2
   go_end0
   obtain⟨ba',bc',f1,f2,f3,f4⟩:=HF.out;exact⟨ba',bc',rfl,by rw[<-HEE.out];exact f1,f2,f3,f4⟩
def Uses(v:Value)(q:Nat):Prop:=∃off n c,v=.slice (some ⟨q,off,none⟩) n c/\0<n
def sJ(w:World)(k:Nat)(v:Value):Prop:=∃la n c,v=.slice la n c/\n<=140737488355328/\(0<n->∃g off t cs,la=some ⟨g,off,none⟩/\At w g t cs/\off+n<=cs.length/\∀i,i<n->cs[off+i]? = some (.int .u8 (kL k i:Nat)))
structure BK(w:World)(L:List Value):Prop where
 each:∀k v,L[k]? = some v->sJ w k v
def oL(L:List Value)(g e:Nat):Prop:=∀v∈L,∀off n c,v=.slice (some ⟨g,off,none⟩) n c->0<n->off+n<=e
theorem sJ.same{w w':World}{k:Nat}{v:Value}(h:sJ w k v){S:List Nat}(hS:Same S w w')(hn:∀q,Uses v q->q∉S):sJ w' k v:=by
 obtain⟨la,n,c,rfl,h1,h2⟩:=h;refine⟨la,n,c,rfl,h1,fun hp=>?_⟩;obtain⟨g,off,t,cs,rfl,h3,h4,h5⟩:=h2 hp;exact⟨g,off,t,cs,rfl,hS.at h3 (hn g ⟨off,n,c,rfl,hp⟩),h4,h5⟩
theorem BK.same{w w':World}{L:List Value}(h:BK w L){S:List Nat}(hS:Same S w w')(hn:∀v∈L,∀q,Uses v q->q∉S):BK w' L:=
 ⟨fun k v hk=>(h.each k v hk).same hS (hn v (List.mem_of_getElem? hk))⟩
theorem sJ.mark{w:World}{k:Nat}{v:Value}(h:sJ w k v){g off m k':Nat}(he:∀o n c,v=.slice (some ⟨g,o,none⟩) n c->0<n->o+n<=off):sJ (oK w g off k' m) k v:=by
 obtain⟨la,n,c,rfl,h1,h2⟩:=h;refine⟨la,n,c,rfl,h1,fun hp=>?_⟩;obtain⟨g',off',t,cs,rfl,h3,h4,h5⟩:=h2 hp;by_cases e:g'=g
 ·subst e;have hend:=he off' n c rfl hp;obtain⟨cs',a1,a2,_,a4⟩:=wH h3 off k' m;exact⟨g',off',t,cs',rfl,a1,by omega,fun i hi=>by rw[a4 _ (Or.inl (by omega))];exact h5 i hi⟩
 ·exact⟨g',off',t,cs,rfl,(qp w g off k' m).at h3 (by simpa using e),h4,h5⟩
theorem BK.mark{w:World}{L:List Value}(h:BK w L){g off n c:Nat}(hm:0<n->Mine w g off n)(he:0<n->oL L g off)(hn:n<=140737488355328)(la:Option Addr)(hla:0<n->la=some ⟨g,off,none⟩):BK (oK w g off L.length n) (L++[.slice la n c]):=by
 refine⟨fun k v hk=>?_⟩;rcases Nat.lt_or_ge k L.length with hl|hl
 ·rw[List.getElem?_append_left hl]at hk;rcases Nat.eq_zero_or_pos n with h0|h0
  ·subst h0;exact h.each k v hk
  ·exact(h.each k v hk).mark (fun o n' c' e hp=>he h0 v (List.mem_of_getElem? hk) o n' c' e hp)
 ·rw[List.getElem?_append_right hl]at hk;have hk0:k=L.length:=by
   rcases Nat.eq_or_lt_of_le hl with e|e
   ·exact e.symm
   ·rw[List.getElem?_eq_none (by simp;omega)]at hk;cases hk
  subst hk0;simp only[Nat.sub_self,List.getElem?_cons_zero,Option.some.injEq]at hk;subst hk;refine⟨la,n,c,rfl,hn,fun hp=>?_⟩;obtain⟨t,cs,hA,hl2⟩:=hm hp;obtain⟨cs',a1,a2,a3,_⟩:=wH hA off L.length n;exact⟨g,off,t,cs',hla hp,a1,by omega,fun i hi=>a3 i hi (by omega)⟩
theorem ET(w:World)(g off k:Nat):∀m,(oK w g off k m).heap.size=w.heap.size
 | 0=>rfl
 | m+1=>by show((oK w g off k m).setCell _ _).heap.size=_;rw[<-ET w g off k m];simp
theorem sJ.set{w:World}{k:Nat}{v:Value}(h:sJ w k v){g off:Nat}(u:Value)(he:∀o n c,v=.slice (some ⟨g,o,none⟩) n c->0<n->o+n<=off):sJ (w.setCell ⟨g,off,none⟩ u) k v:=by
 obtain⟨la,n,c,rfl,h1,h2⟩:=h;refine⟨la,n,c,rfl,h1,fun hp=>?_⟩;obtain⟨g',off',t,cs,rfl,h3,h4,h5⟩:=h2 hp;by_cases e:g'=g
 ·subst e;have hend:=he off' n c rfl hp;exact⟨g',off',t,_,rfl,h3.ax off u,by rw[List.length_set];exact h4,fun i hi=>by rw[List.getElem?_set,if_neg (by omega)];exact h5 i hi⟩
 ·exact⟨g',off',t,cs,rfl,h3.aP _ _ _ e,h4,h5⟩
structure qy(w wr:World)(S X:List Nat)(wb base:Nat)(xa xc xd:Value)(k:Nat)(L:List Value)(bv:Value):Prop where
 st:At wr wb 31 [xa,bv,xc,xd]
 row:wr.ownsRow base 41 1 bv k L
 kept:BK wr L
 cnt:L.length=k
 sep:∀v∈L,∀q,Uses v q->q≠wb/\bv.ownBlock≠some q/\q<wr.heap.size
 same:Same S w wr
 kH:base<=wr.heap.size/\wb<base
 zO:(wb<w.heap.size->wb∈S)/\∀q,bv.ownBlock=some q->q<w.heap.size->q∈S
 els:(∀x∈X,x<w.heap.size/\x∉S)/\∀v∈L,∀q,Uses v q->q∉X
structure OwnB(w wr:World)(S X:List Nat)(wb base:Nat)(xa xc xd:Value)(k:Nat)(L:List Value)(bv:Value)(gl len cap:Nat):Prop where
 own:qy w wr S X wb base xa xc xd k L bv
 ends:oL L gl len
 l:∃cs,At wr gl 5 cs/\len<=cs.length/\cap<=cs.length
 le:len<=cap
 o8:gl≠wb/\bv.ownBlock≠some gl/\(gl<w.heap.size->gl∈S)
theorem OwnB.room{w wr:World}{S X:List Nat}{wb base:Nat}{xa xc xd:Value}{k:Nat}{L:List Value}{bv:Value}{gl len cap:Nat}(h:OwnB w wr S X wb base xa xc xd k L bv gl len cap)(o:Obj)(hr:len+1<=cap)(u:Value):OwnB w ((wr.alloc o).setCell ⟨gl,len,none⟩ u) S X wb base xa xc xd k L bv gl (len+1) cap/\oL L gl len:=by
 obtain⟨cs,hA,h1,h2⟩:=h.l;have S1:Same [gl] wr ((wr.alloc o).setCell ⟨gl,len,none⟩ u):=((Same.refl [gl] wr).alloc _).set _ _ _ (by simp);have hz:((wr.alloc o).setCell ⟨gl,len,none⟩ u).heap.size=wr.heap.size+1:=by simp
 refine⟨⟨⟨S1.at h.own.st (by simp;exact fun e=>h.o8.1 e.symm),aG h.own.row S1 (fun q hq hm=>by simp at hm;exact h.o8.2.1 (by rw[<-hm];exact hq)),⟨fun i v hv=>?_⟩,h.own.cnt,fun v hv q hq=>?_,h.own.same.step S1 (fun q hq hl=>by simp at hq;rw[hq];exact h.o8.2.2 (by omega)),⟨by have:=h.own.kH.1;omega,h.own.kH.2⟩,h.own.zO,h.own.els⟩,fun v hv o' n c e hp=>?_,⟨_,(hA.alloc _).ax len u,by rw[List.length_set];omega,by rw[List.length_set];exact h2⟩,hr,h.o8⟩,h.ends⟩
 ·have h3:sJ (wr.alloc o) i v:=(h.own.kept.each i v hv).same ((Same.refl [] wr).alloc o) (fun q _=>by simp);exact h3.set u (fun o' n c e hp=>h.ends v (List.mem_of_getElem? hv) o' n c e hp)
 ·have:=h.own.sep v hv q hq;exact⟨this.1,this.2.1,by omega⟩
 ·have:=h.ends v hv o' n c e hp;omega
theorem qy.more{w wr w':World}{S X:List Nat}{wb base:Nat}{xa xc xd:Value}{k:Nat}{L:List Value}{bv:Value}(h:qy w wr S X wb base xa xc xd k L bv)(hS:Same [] wr w'):qy w w' S X wb base xa xc xd k L bv:=
 ⟨hS.at h.st (by simp),aG h.row hS (fun _ _=>by simp),h.kept.same hS (fun _ _ _ _=>by simp),h.cnt,fun v hv q hq=>by
  have h1:=h.sep v hv q hq;have:=hS.size;exact⟨h1.1,h1.2.1,by omega⟩,h.same.step hS (by simp),⟨by have:=h.kH.1;have:=hS.size;omega,h.kH.2⟩,h.zO,h.els⟩
theorem qy.grow{w wr w':World}{S X:List Nat}{wb base:Nat}{xa xc xd:Value}{k:Nat}{L:List Value}{bv:Value}{len:Nat}(h:qy w wr S X wb base xa xc xd k L bv){g' cap':Nat}{cs':List Value}(hS:Same [] wr w')(hg:wr.heap.size<=g')(hA:At w' g' 5 cs')(hc:len+1<=cap')(hl:cs'.length=cap'):OwnB w w' S X wb base xa xc xd k L bv g' (len+1) cap'/\oL L g' len:=by
 have hwb:=h.st.lt;have hbl:∀q,bv.ownBlock=some q->q<wr.heap.size:=fun q hq=>(h.row.lt q hq).2
 have hno:∀v∈L,∀o' n c,v=.slice (some ⟨g',o',none⟩) n c->0<n->False:=fun v hv o' n c e hp=>by
  have:=(h.sep v hv g' ⟨o',n,c,e,hp⟩).2.2;omega
 have hw:=h.same.size;exact⟨⟨h.more hS,fun v hv o' n c e hp=>(hno v hv o' n c e hp).elim,⟨cs',hA,by omega,by omega⟩,hc,⟨by omega,fun e=>by have:=hbl g' e;omega,fun hx=>by omega⟩⟩,fun v hv o' n c e hp=>(hno v hv o' n c e hp).elim⟩
theorem qy.keep{w wr w':World}{S X:List Nat}{wb base:Nat}{xa xc xd:Value}{k:Nat}{L:List Value}{bv bv':Value}{la:Option Addr}{gl off n c:Nat}(h:qy w wr S X wb base xa xc xd k L bv)(hg:0<n->la=some ⟨gl,off,none⟩/\Mine wr gl off n/\gl≠wb/\bv.ownBlock≠some gl/\(gl<w.heap.size->gl∈S)/\oL L gl off)(hn2:n<=140737488355328)
 (hS:Same (wb::bv.ownBlock.toList) (oK wr gl off k n) w') (h1:At w' wb 31 [xa,bv',xc,xd]) (h2:w'.ownsRow base 41 1 bv' (k+1) (L++[.slice la n c])) (h3:bv'.ownBlock=bv.ownBlock\/∃q,bv'.ownBlock=some q/\wr.heap.size<=q) :
 qy w w' S X wb base xa xc xd (k+1) (L++[.slice la n c]) bv'/\(∀q,q<wr.heap.size->bv.ownBlock≠some q->bv'.ownBlock≠some q):=by
 have hz:=ET wr gl off k n;have hsz:=hS.size;have hbl:∀q,bv.ownBlock=some q->q<wr.heap.size:=fun q hq=>(h.row.lt q hq).2
 have hmS:∀q∈wb::bv.ownBlock.toList,q=wb\/bv.ownBlock=some q:=fun q hq=>by
  rcases List.mem_cons.1 hq with e|e
  ·exact Or.inl e
  ·exact Or.inr (by simpa using e)
 have hk:BK (oK wr gl off k n) (L++[.slice la n c]):=by
  have:=h.kept.mark (g:=gl) (off:=off) (n:=n) (c:=c) (fun hp=>(hg hp).2.1) (fun hp=>(hg hp).2.2.2.2.2) hn2 la (fun hp=>(hg hp).1);rw[h.cnt]at this;exact this
 have hnb:∀v∈L++[.slice la n c],∀q,Uses v q->q≠wb/\bv.ownBlock≠some q/\q<wr.heap.size/\q∉X:=fun v hv q hq=>by
  rcases List.mem_append.1 hv with hv|hv
  ·have:=h.sep v hv q hq;exact⟨this.1,this.2.1,this.2.2,h.els.2 v hv q hq⟩
  ·rw[List.mem_singleton.1 hv]at hq;obtain⟨o,n',c',e,hp⟩:=hq;cases e;obtain⟨e1,⟨t,cs,hA,_⟩,e3,e4,e5,_⟩:=hg hp;cases e1;exact⟨e3,e4,hA.lt,fun hx=>(h.els.1 _ hx).2 (e5 (h.els.1 _ hx).1)⟩
 have hne:∀q,q<wr.heap.size->bv.ownBlock≠some q->bv'.ownBlock≠some q:=fun q hq hb e=>by
  rcases h3 with e'|⟨q',e',hq'⟩
  ·rw[e']at e;exact hb e
  ·rw[e']at e;cases e;omega
 refine⟨⟨h1,h2,hk.same hS (fun v hv q hq hm=>?_),by rw[List.length_append,h.cnt];rfl,fun v hv q hq=>?_,?_,⟨by have:=h.kH.1;omega,h.kH.2⟩,⟨h.zO.1,fun q hq hl=>?_⟩,h.els.1,fun v hv q hq=>(hnb v hv q hq).2.2.2⟩,hne⟩
 ·have:=hnb v hv q hq;rcases hmS q hm with e|e
  ·exact this.1 e
  ·exact this.2.1 e
 ·have:=hnb v hv q hq;exact⟨this.1,hne q this.2.2.1 this.2.1,by omega⟩
 ·have hfirst:Same S w (oK wr gl off k n):=by
   rcases Nat.eq_zero_or_pos n with h0|h0
   ·subst h0;exact h.same
   ·exact h.same.step (qp wr gl off k n) (fun q hq hl=>by rw[List.mem_singleton.1 hq];exact(hg h0).2.2.2.2.1 (by rw[<-List.mem_singleton.1 hq];exact hl))
  refine hfirst.step hS (fun q hq hl=>?_);rcases hmS q hq with e|e
  ·rw[e];exact h.zO.1 (by rw[<-e];exact hl)
  ·exact h.zO.2 q e hl
 ·rcases h3 with e'|⟨q',e',hq'⟩
  ·rw[e']at hq;exact h.zO.2 q hq hl
  ·rw[e']at hq;cases hq;have:=h.same.size;omega
theorem OwnB.kept'{w wr w':World}{S X:List Nat}{wb base:Nat}{xa xc xd:Value}{k:Nat}{L:List Value}{bv bv':Value}{gl len cap off n c:Nat}(h:OwnB w wr S X wb base xa xc xd k L bv gl len cap)(he:oL L gl off)(hn:off+n=len)(hn2:n<=140737488355328)
 (hS:Same (wb::bv.ownBlock.toList) (oK wr gl off k n) w') (h1:At w' wb 31 [xa,bv',xc,xd]) (h2:w'.ownsRow base 41 1 bv' (k+1) (L++[.slice (some ⟨gl,off,none⟩) n c])) (h3:bv'.ownBlock=bv.ownBlock\/∃q,bv'.ownBlock=some q/\wr.heap.size<=q) :
 OwnB w w' S X wb base xa xc xd (k+1) (L++[.slice (some ⟨gl,off,none⟩) n c]) bv' gl len cap:=by
 obtain⟨cs,hA,hl1,hl2⟩:=h.l;obtain⟨hO,hne⟩:=h.own.keep (fun _=>⟨rfl,⟨_,cs,hA,by omega⟩,h.o8.1,h.o8.2.1,h.o8.2.2,he⟩) hn2 hS h1 h2 h3;obtain⟨cs',a1,a2,_,_⟩:=wH hA off k n;refine⟨hO,fun v hv o' n' c' e hp=>?_,⟨cs',hS.at a1 (fun hm=>?_),by omega,by omega⟩,h.le,⟨h.o8.1,hne gl hA.lt h.o8.2.1,h.o8.2.2⟩⟩
 ·rcases List.mem_append.1 hv with hv|hv
  ·have:=h.ends v hv o' n' c' e hp;omega
  ·rw[List.mem_singleton.1 hv]at e;cases e;omega
 ·rcases List.mem_cons.1 hm with e|e
  ·exact h.o8.1 e
  ·exact h.o8.2.1 (by simpa using e)
theorem qy.mark{w wr:World}{S X:List Nat}{wb base:Nat}{xa xc xd:Value}{k:Nat}{L:List Value}{ba:Option Addr}{bc:Nat}(h:qy w wr S X wb base xa xc xd k L (.slice ba k bc))(la:Option Addr)(gl off n c:Nat)(hg:0<n->la=some ⟨gl,off,none⟩/\Mine wr gl off n/\gl≠wb/\(Value.slice ba k bc).ownBlock≠some gl/\(gl<w.heap.size->gl∈S)/\oL L gl off)(hn2:n<=140737488355328)(hk:k<=100000000) :
 Calls prog 33 #[.pointer (some ⟨wb,0,none⟩),.slice la n c] wr fun e w'=>e=.returned (.tuple #[])/\∃ba' bc',qy w w' S X wb base xa xc xd (k+1) (L++[.slice la n c]) (.slice ba' (k+1) bc'):=by
 refine(yS wr wb base xa xc xd ba bc k L la gl off n c h.st h.row h.kH.1 hk h.kH.2 (fun hp=>⟨(hg hp).1,(hg hp).2.1,(hg hp).2.2.1,(hg hp).2.2.2.1⟩) hn2).mono ?_;rintro e w' ⟨ba',bc',rfl,hS,q1,q2,q3⟩;exact⟨rfl,ba',bc',(h.keep hg hn2 hS q1 q2 q3).1⟩
theorem OwnB.mark{w wr:World}{S X:List Nat}{wb base:Nat}{xa xc xd:Value}{k:Nat}{L:List Value}{ba:Option Addr}{bc gl len cap:Nat}(h:OwnB w wr S X wb base xa xc xd k L (.slice ba k bc) gl len cap)(off n c:Nat)(he:oL L gl off)(hn:off+n=len)(hn2:n<=140737488355328)(hk:k<=100000000) :
 Calls prog 33 #[.pointer (some ⟨wb,0,none⟩),.slice (some ⟨gl,off,none⟩) n c] wr fun e w'=>e=.returned (.tuple #[])/\∃ba' bc',OwnB w w' S X wb base xa xc xd (k+1) (L++[.slice (some ⟨gl,off,none⟩) n c]) (.slice ba' (k+1) bc') gl len cap:=by
 obtain⟨cs,hA,h1,h2⟩:=h.l;refine(yS wr wb base xa xc xd ba bc k L (some ⟨gl,off,none⟩) gl off n c h.own.st h.own.row h.own.kH.1 hk h.own.kH.2 (fun _=>⟨rfl,⟨_,cs,hA,by omega⟩,h.o8.1,h.o8.2.1⟩) hn2).mono ?_;rintro e w' ⟨ba',bc',rfl,hS,q1,q2,q3⟩;exact⟨rfl,ba',bc',h.kept' he hn hn2 hS q1 q2 q3⟩
def J4(w wr:World)(S X:List Nat)(wb base:Nat)(xa xc xd:Value)(k:Nat)(L:List Value)(bv:Value)(la:Option Addr)(len cap:Nat):Prop:=
 (∃gl,la=some ⟨gl,0,none⟩/\OwnB w wr S X wb base xa xc xd k L bv gl len cap)\/(len=0/\cap=0/\qy w wr S X wb base xa xc xd k L bv)
theorem J4.mark{w wr:World}{S X:List Nat}{wb base:Nat}{xa xc xd:Value}{k:Nat}{L:List Value}{ba:Option Addr}{bc:Nat}{la:Option Addr}{n cap:Nat}(h:J4 w wr S X wb base xa xc xd k L (.slice ba k bc) la n cap)(he:∀gl,la=some ⟨gl,0,none⟩->0<n->oL L gl 0)(hn2:n<=140737488355328)(hk:k<=100000000) :
 Calls prog 33 #[.pointer (some ⟨wb,0,none⟩),.slice la n cap] wr fun e w'=>e=.returned (.tuple #[])/\∃ba' bc',J4 w w' S X wb base xa xc xd (k+1) (L++[.slice la n cap]) (.slice ba' (k+1) bc') la n cap:=by
 rcases h with⟨gl,rfl,h⟩|⟨rfl,rfl,h⟩
 ·refine(h.mark 0 n cap ?_ (by omega) hn2 hk).mono ?_
  ·intro v hv o n' c e hp;rcases Nat.eq_zero_or_pos n with h0|h0
   ·have:=h.ends v hv o n' c e hp;omega
   ·exact he gl rfl h0 v hv o n' c e hp
  ·rintro e w' ⟨rfl,ba',bc',h'⟩;exact⟨rfl,ba',bc',Or.inl ⟨gl,rfl,h'⟩⟩
 ·refine(h.mark la 0 0 0 0 (fun hp=>absurd hp (by omega)) hn2 hk).mono ?_;rintro e w' ⟨rfl,ba',bc',h'⟩;exact⟨rfl,ba',bc',Or.inr ⟨rfl,rfl,h'⟩⟩
theorem J4.own{w wr:World}{S X:List Nat}{wb base:Nat}{xa xc xd:Value}{k:Nat}{L:List Value}{bv:Value}{la:Option Addr}{n cap:Nat}(h:J4 w wr S X wb base xa xc xd k L bv la n cap):qy w wr S X wb base xa xc xd k L bv:=by
 rcases h with⟨_,_,h⟩|⟨_,_,h⟩
 ·exact h.own
 ·exact h
theorem QA(w:World)(S X:List Nat)(wb base:Nat)(xa xc xd:Value)(ba:Option Addr)(bc k:Nat)(L:List Value)(la:Option Addr)(n:Nat)(h:J4 w w S X wb base xa xc xd k L (.slice ba k bc) la n n)(he:∀gl,la=some ⟨gl,0,none⟩->0<n->oL L gl 0)(hn:n<=100000000)(hk:k<=50000000) :
 Calls prog 18 #[.pointer (some ⟨wb,0,none⟩),.slice la n n] w fun e w'=>e=.returned (.tuple #[])/\∃L' ba' bc',qy w w' S X wb base xa xc xd (k+9) (L++L') (.slice ba' (k+9) bc'):=by
 obtain⟨i0,hi,hz0,hz1,hz2⟩:=info_parts Tryz.info5;have hM:=h.mark he (by omega) (by omega);clear h he
 go_enter func18,ntmps18
 go_wp2_with fail
 refine hM.mono ?_;rintro e w1 ⟨rfl,ba1,bc1,hO⟩;have HO:Hid (J4 w w1 S X wb base xa xc xd (k+1) (L++[.slice la n n]) (.slice ba1 (k+1) bc1) la n n):=hO;clear hM hO;dsimp only
 go_wp2_with fail
 go_loopw [1,4,5] (fun lv i _ wr=>∃(j p cap:Nat)(la:Option Addr)(L':List Value)(ba':Option Addr)(bc':Nat),lv=.slice la p cap/\i=.int .i64 j/\j<=8/\p<=100000008/\Hid (p=n+j)/\Hid (J4 w wr S X wb base xa xc xd (k+1+j) (L++L') (.slice ba' (k+1+j) bc') la p cap)) (fun _ i _ _=>8-(intOf i).toNat)
 case atStart=>exact⟨0,n,n,la,_,ba1,bc1,rfl,rfl,by omega,by omega,rfl,HO.out⟩
 case round=>
  obtain⟨j,p,cap,la,L',ba2,bc2,rfl,rfl,hj,hp,HP,HI⟩:=hrel;by_cases hj8:j<8
  ·have lj:(j:Int)<8:=by omega
   have HPL:Hid (p+1<=100000008):=by have:=HP.out;show _<=_;omega
   clear HO
   go_upto_region 5 with fail
   go_cut [1] (fun lv wd=>∃gl' cap',lv=.slice (some ⟨gl',0,none⟩) (p+1) cap'/\Hid (OwnB w wd S X wb base xa xc xd (k+1+j) (L++L') (.slice ba2 (k+1+j) bc2) gl' (p+1) cap'/\oL (L++L') gl' p))
   case first=>
    as_aux_lemma=>
    rcases HI.out with⟨gl,rfl,hI⟩|⟨rfl,rfl,hI⟩
    ·obtain⟨cs,hA,q1,q2⟩:=hI.l;have hle:=hI.le;have HA:Hid (At wr gl 5 cs/\p<=cs.length/\cap<=cs.length):=⟨hA,q1,q2⟩
     have HI2:Hid (OwnB w wr S X wb base xa xc xd (k+1+j) (L++L') (.slice ba2 (k+1+j) bc2) gl p cap):=hI;clear hA q1 q2 hI HI
     go_wp2_with (at_builtin;refine wpList_append_arg _ rfl _ _ 41 rfl 5 i0 (.int .u8 0) 1 1 underlying41 hi hz0 hz1 hz2 rfl (by decide) gl 0 p cap (cs.take p) rfl ?n0 ?n1 ⟨wr.heap.size,0,none⟩ 1 1 [.int .u8 0] rfl rfl ?n2 ?c2 ?c3 ?c4 ?c5 ?r1 ?r2)
     case n0=>rw[List.length_take,Nat.mul_one];have:=HA.out.2.1;omega
     case n1=>
      intro i u hi';rw[Nat.zero_add,(HA.out.1.alloc _).cell?];rw[List.getElem?_take]at hi';by_cases e:i<p
      ·rw[if_pos e]at hi';exact hi'
      ·rw[if_neg e]at hi';cases hi'
     case n2=>
      intro i u hi'
      match i,hi' with
      | 0,hi'=>simp at hi';subst hi';simp[Addr.add]
     case c2=>intro u hu;simp at hu;subst hu;rfl
     case c3=>
      intro hr i hi';have h0:i=0:=by simp at hi';exact hi'
      subst h0;have hlt:0+p*1+0<cs.length:=by have:=HA.out.2.2;omega
      rw[(HA.out.1.alloc _).cell?,List.getElem?_eq_getElem hlt];exact⟨rfl,(HA.out.1.alloc _).frozen _⟩
     case c4=>unfold maxLen;omega
     case c5=>omega
     case r1=>
      intro hr;have HF2:Hid (OwnB w ((wr.alloc (.cells #[.int .u8 0] 5)).setCell ⟨gl,p,none⟩ (.int .u8 0)) S X wb base xa xc xd (k+1+j) (L++L') (.slice ba2 (k+1+j) bc2) gl (p+1) cap/\oL (L++L') gl p):=HI2.out.room (.cells #[.int .u8 0] 5) hr (.int .u8 0);clear HA;simp only[World.setCells,Nat.mul_one,Nat.zero_add]
      go_wp2_with fail
      go_meet
      case rel=>exact⟨gl,cap,rfl,HF2⟩
     case r2=>
      intro hr v' w' hown hgr;obtain⟨a6,c6,rfl⟩:=ak hown;obtain⟨g',cs',rfl,b1,b2,b3,b4,b5⟩:=jk hown (by omega);have hg':wr.heap.size<=g':=by
       have:wr.heap.size+1<=g':=by simpa using b1
       omega
      have HF:Hid (OwnB w w' S X wb base xa xc xd (k+1+j) (L++L') (.slice ba2 (k+1+j) bc2) g' (p+1) c6/\oL (L++L') g' p):=HI2.out.own.grow (((Same.refl [] wr).alloc _).grown hgr (fun q hq _=>by cases hq)) hg' b2 b3 b4;clear hown hgr b1 b2 b3 b4 b5 HA hg'
      go_wp2_with fail
      go_meet
      case rel=>exact⟨g',c6,rfl,HF⟩
    ·have HI2:Hid (qy w wr S X wb base xa xc xd (k+1+j) (L++L') (.slice ba2 (k+1+j) bc2)):=hI;clear hI HI
     go_wp2_with (at_builtin;refine wpList_append_grows _ rfl _ _ 41 rfl 5 i0 (.int .u8 0) 1 1 underlying41 hi hz0 hz1 hz2 rfl (by decide) la 0 0 [] rfl (fun _=>⟨rfl,rfl⟩) rfl (fun _ _ i u hi'=>by simp at hi') ⟨wr.heap.size,0,none⟩ 1 1 [.int .u8 0] rfl rfl ?n2 ?c2 (by omega) ?c4 ?c5 ?r2)
     case n2=>
      intro i u hi'
      match i,hi' with
      | 0,hi'=>simp at hi';subst hi';simp[Addr.add]
     case c2=>intro u hu;simp at hu;subst hu;rfl
     case c4=>unfold maxLen;omega
     case c5=>omega
     case r2=>
      intro v' w' hown hgr;obtain⟨a6,c6,rfl⟩:=ak hown;obtain⟨g',cs',rfl,b1,b2,b3,b4,b5⟩:=jk hown (by omega);have hg':wr.heap.size<=g':=by
       have:wr.heap.size+1<=g':=by simpa using b1
       omega
      have HF:Hid (OwnB w w' S X wb base xa xc xd (k+1+j) (L++L') (.slice ba2 (k+1+j) bc2) g' (0+1) c6/\oL (L++L') g' 0):=HI2.out.grow (((Same.refl [] wr).alloc _).grown hgr (fun q hq _=>by cases hq)) hg' b2 b3 b4;clear hown hgr b1 b2 b3 b4 b5 hg'
      go_wp2_with fail
      go_meet
      case rel=>exact⟨g',c6,rfl,HF⟩
   case rest=>
    obtain⟨gl',cap',rfl,HC⟩:=hcut;have hM:=HC.out.1.mark p 1 (cap'-p) HC.out.2 rfl (by omega) (by omega);have hlc:=HC.out.1.le;have s1:(p:Int)<=((p+1:Nat):Int):=by omega
    have s2:(0:Int)<=(p:Int):=by omega
    have s3:p+1-p=1:=by omega
    have s4:¬(cap'=p):=by omega
    have s5:(p:Int)<=(p:Int)+1:=by omega
    clear HI HC
    go_wp2_with fail
    refine hM.mono ?_;rintro e w5 ⟨rfl,ba5,bc5,hO⟩;have HF:Hid (OwnB w w5 S X wb base xa xc xd (k+1+(j+1)) (L++(L'++[.slice (some ⟨gl',p,none⟩) 1 (cap'-p)])) (.slice ba5 (k+1+(j+1)) bc5) gl' (p+1) cap'):=by
     rw[<-List.append_assoc];exact hO
    have HP1:Hid (p+1=n+(j+1)):=by have:=HP.out;show _=_;omega
    have hpl:=HPL.out;clear hO hM HP;dsimp only
    go_wp2
    go_roundw
    case rel=>exact⟨j+1,p+1,cap',some ⟨gl',0,none⟩,_,ba5,bc5,by first|rfl|(simp;done),by go_num,by omega,hpl,HP1.out,Or.inl ⟨gl',rfl,HF.out⟩⟩
    case measure=>simp[intOf];omega
  ·obtain rfl:j=8:=by omega
   have HF:Hid (qy w wr S X wb base xa xc xd (k+9) (L++L') (.slice ba2 (k+9) bc2)):=HI.out.own;clear HI HO
   go_wp2_with fail
   go_end0
   exact⟨rfl,L',ba2,bc2,HF.out⟩
theorem Tryz.TG:(prog.info? 51).map (fun i=>(i.zero,i.size,i.bytes))=some (some (.slice none 0 0),1,24):=by kernel_rfl
def oN(w:World)(g off k:Nat):Nat->World
 | 0=>w
 | m+1=>(oN w g off k m).setCell ⟨g,off+m,none⟩ (.int .i64 (-1-(k:Int)))
theorem pY(w:World)(g off k:Nat):∀m,Same [g] w (oN w g off k m)
 | 0=>Same.refl _ _
 | m+1=>(pY w g off k m).set _ _ _ (by simp)
theorem vY{w:World}{g:Nat}{t:TypeId}{cs:List Value}(h:At w g t cs)(off k:Nat):∀m,∃cs',At (oN w g off k m) g t cs'/\cs'.length=cs.length/\(∀i,i<m->off+i<cs.length->cs'[off+i]? = some (.int .i64 (-1-(k:Int))))/\∀i,(i<off\/off+m<=i)->cs'[i]? = cs[i]?
 | 0=>⟨cs,h,rfl,fun i hi=>by omega,fun i _=>rfl⟩
 | m+1=>by
  obtain⟨cs',h1,h2,h3,h4⟩:=vY h off k m;refine⟨cs'.set (off+m) (.int .i64 (-1-(k:Int))),h1.ax _ _,by rw[List.length_set,h2],fun i hi hl=>?_,fun i hi=>?_⟩
  ·rw[List.getElem?_set];by_cases e:i=m
   ·subst e;rw[if_pos rfl,if_pos (by omega)]
   ·rw[if_neg (by omega)];exact h3 i (by omega) hl
  ·rw[List.getElem?_set,if_neg (by omega)];exact h4 i (by omega)
theorem zk(w:World)(wb base:Nat)(xa xc xd:Value)(ba:Option Addr)(bc k:Nat)(L:List Value)(la:Option Addr)(g off n lc:Nat)(hw:At w wb 31 [xa,xc,.slice ba k bc,xd])(ho:w.ownsRow base 51 1 (.slice ba k bc) k L)(hb:base<=w.heap.size)(hk:k<=100000000)(hwb:wb<base)(hla:0<n->la=some ⟨g,off,none⟩/\Mine w g off n/\g≠wb/\(Value.slice ba k bc).ownBlock≠some g)(hn:n<=140737488355328) :
 Calls prog 41 #[.pointer (some ⟨wb,0,none⟩),.slice la n lc] w fun e w'=>∃ba' bc',e=.returned (.tuple #[])/\Same (wb::(Value.slice ba k bc).ownBlock.toList) (oN w g off k n) w'/\At w' wb 31 [xa,xc,.slice ba' (k+1) bc',xd]/\w'.ownsRow base 51 1 (.slice ba' (k+1) bc') (k+1) (L++[.slice la n lc])/\((Value.slice ba' (k+1) bc').ownBlock=(Value.slice ba k bc).ownBlock\/∃q,(Value.slice ba' (k+1) bc').ownBlock=some q/\w.heap.size<=q):=by
 obtain⟨i0,hi,hz0,hz1,hz2⟩:=info_parts Tryz.TG;have hw1:IntKind.i64.wrap (-1-(k:Int))=-1-(k:Int):=IntWalk.i64_in _ (by omega);have HW:Hid (∀m,m<=n->At (oN w g off k m) wb 31 [xa,xc,.slice ba k bc,xd]/\(oN w g off k m).ownsRow base 51 1 (.slice ba k bc) k L):=fun m hm=>by
  by_cases h0:m=0
  ·subst h0;exact⟨hw,ho⟩
  ·obtain⟨_,_,h1,h2⟩:=hla (by omega);exact⟨(pY w g off k m).at hw (by simp;exact fun e=>h1 e.symm),aG ho (pY w g off k m) (fun q hq hm'=>by simp at hm';exact h2 (by rw[<-hm'];exact hq))⟩
 have HZ:Hid (∀m,(oN w g off k m).heap.size=w.heap.size):=fun m=>by
  induction m with
  | zero=>rfl
  | succ m ih=>show((oN w g off k m).setCell _ _).heap.size=_;rw[<-ih];simp
 have HM:Hid (∀m,m<n->la=some ⟨g,off,none⟩/\(∃u,(oN w g off k m).cell? ⟨g,off+m,none⟩=some u)/\(oN w g off k m).frozen? ⟨g,off+m,none⟩=false):=fun m hm=>by
  obtain⟨h1,⟨t,cs,hA,hl⟩,_,_⟩:=hla (by omega);obtain⟨cs',h2,h3,_,_⟩:=vY hA off k m;exact⟨h1,⟨cs'[off+m]'(by omega),by rw[h2.cell?];exact List.getElem?_eq_getElem (by omega)⟩,h2.frozen _⟩
 have HB:Hid (w.heap.size<=w.heap.size/\base<=w.heap.size/\wb<base):=⟨Nat.le_refl _,hb,hwb⟩
 clear hw ho hla hb hwb
 go_enter func41,ntmps41
 go_wp2_with fail
 go_loopw [4] (fun i wr=>∃m:Nat,i=.int .i64 m/\m<=n/\Hid (wr=oN w g off k m)) (fun i _=>n-(intOf i).toNat)
 case atStart=>exact⟨0,rfl,Nat.zero_le _,rfl⟩
 case round=>
  obtain⟨m,rfl,hm,HE⟩:=hrel;obtain⟨h1,h2⟩:=HW.out m hm;by_cases hml:m<n
  ·have lm:(m:Int)<(n:Int):=by omega
   obtain⟨rfl,⟨u,c1⟩,c2⟩:=HM.out m hml;have c0:(oN w g off k m).cell? ⟨wb,2,none⟩=some (.slice ba k bc):=h1.cell? 2;rw[<-HE.out]at c0 c1 c2;have HN:Hid (wr.setCell ⟨g,off+m,none⟩ (.int .i64 (-1-(k:Int)))=oN w g off k (m+1)):=by show _=_;rw[HE.out];rfl
   clear h1 h2 HE
   go_wp2
   go_roundw
   case rel=>exact⟨m+1,by go_num,by omega,HN.out⟩
   case measure=>simp[intOf];omega
  ·have lm:(n:Int)<=(m:Int):=by omega
   obtain rfl:m=n:=by omega
   have hz:=HZ.out m;rw[<-HE.out]at h1 h2 hz;have c0:wr.cell? ⟨wb,2,none⟩=some (.slice ba k bc):=h1.cell? 2;have HH:Hid (At wr wb 31 [xa,xc,.slice ba k bc,xd]):=h1;have hwl:=h1.lt;have hbw:base<=wr.heap.size:=by have:=HB.out;omega
   have HNB:Hid (∀q,(Value.slice ba k bc).ownBlock=some q->q≠wb):=fun q hq=>by have:=aI h2 q hq;have:=HB.out;omega
   have HZZ:Hid (wr.heap.size=w.heap.size):=hz;clear h1 hz
   go_wp2_with (at_builtin;refine wpList_append_own_at _ rfl _ _ 28 rfl base 51 i0 (.slice none 0 0) 1 24 underlying28 hi hz0 hz1 hz2 rfl (by decide) _ _ _ rfl (h2.alloc _) ⟨wr.heap.size,0,none⟩ 1 1 [.slice la m lc] rfl rfl ?c1 ?c2 ?c3 ?c4 ?c5 ?_)
   case c1=>
    intro j u hj
    match j,hj with
    | 0,hj=>simp at hj;subst hj;simp[Addr.add]
   case c2=>intro u hu;simp at hu;subst hu;rfl
   case c3=>unfold maxLen;omega
   case c4=>omega
   case c5=>first|omega|(simp;omega)
   intro pv2 w3 hown3 hgrow3 _ hblk3;obtain⟨pa3,pc3,rfl⟩:=ak hown3;have S3:Same (Value.slice ba k bc).ownBlock.toList wr w3:=((Same.refl _ _).alloc _).grown hgrow3 (fun q hq _=>by simp[hq]);have p63:At w3 wb 31 [xa,xc,.slice ba k bc,xd]:=S3.at HH.out (fun hq=>HNB.out wb (by simpa using hq) rfl);have g6:w3.cell? ⟨wb,2,none⟩=some (.slice ba k bc):=p63.cell? 2;have z6:w3.frozen? ⟨wb,2,none⟩=false:=p63.frozen 2;have HF:Hid (∃ba' bc',Same (wb::(Value.slice ba k bc).ownBlock.toList) wr (w3.setCell ⟨wb,2,none⟩ (.slice pa3 (k+1) pc3))/\At (w3.setCell ⟨wb,2,none⟩ (.slice pa3 (k+1) pc3)) wb 31 [xa,xc,.slice ba' (k+1) bc',xd]/\(w3.setCell ⟨wb,2,none⟩ (.slice pa3 (k+1) pc3)).ownsRow base 51 1 (.slice ba' (k+1) bc') (k+1) (L++[.slice la m lc])/\((Value.slice ba' (k+1) bc').ownBlock=(Value.slice ba k bc).ownBlock\/∃q,(Value.slice ba' (k+1) bc').ownBlock=some q/\w.heap.size<=q)):=by
    refine⟨pa3,pc3,(S3.mono (T:=wb::(Value.slice ba k bc).ownBlock.toList) (fun q hq _=>List.mem_cons_of_mem _ hq)).set _ _ _ (fun _=>by simp),p63.ax 2 _,?_,?_⟩
    ·exact aG hown3 ((Same.refl [wb] w3).set wb 2 (.slice pa3 (k+1) pc3) (fun _=>by simp)) (fun q hq hm'=>by
      simp at hm';subst hm';have:=aI hown3 q hq;have:=HB.out;omega)
    ·rcases hblk3 with e|e
     ·exact Or.inl e
     ·exact Or.inr ⟨_,e,by have:=HZZ.out;simp;omega⟩
   clear S3 hown3 hgrow3 hblk3 p63;have HEE:Hid (wr=oN w g off k m):=HE.out;clear HE
   go_wp2
   go_end0
   obtain⟨ba',bc',f1,f2,f3,f4⟩:=HF.out;exact⟨ba',bc',rfl,by rw[<-HEE.out];exact f1,f2,f3,f4⟩
def sG(w:World)(k:Nat)(v:Value):Prop:=∃la n c,v=.slice la n c/\n<=140737488355328/\(0<n->∃g off t cs,la=some ⟨g,off,none⟩/\At w g t cs/\off+n<=cs.length/\∀i,i<n->cs[off+i]? = some (.int .i64 (-1-(k:Int))))
structure NK(w:World)(L:List Value):Prop where
 each:∀k v,L[k]? = some v->sG w k v
def nO(L:List Value)(g e:Nat):Prop:=∀v∈L,∀off n c,v=.slice (some ⟨g,off,none⟩) n c->0<n->off+n<=e
theorem sG.same{w w':World}{k:Nat}{v:Value}(h:sG w k v){S:List Nat}(hS:Same S w w')(hn:∀q,Uses v q->q∉S):sG w' k v:=by
 obtain⟨la,n,c,rfl,h1,h2⟩:=h;refine⟨la,n,c,rfl,h1,fun hp=>?_⟩;obtain⟨g,off,t,cs,rfl,h3,h4,h5⟩:=h2 hp;exact⟨g,off,t,cs,rfl,hS.at h3 (hn g ⟨off,n,c,rfl,hp⟩),h4,h5⟩
theorem NK.same{w w':World}{L:List Value}(h:NK w L){S:List Nat}(hS:Same S w w')(hn:∀v∈L,∀q,Uses v q->q∉S):NK w' L:=
 ⟨fun k v hk=>(h.each k v hk).same hS (hn v (List.mem_of_getElem? hk))⟩
theorem sG.mark{w:World}{k:Nat}{v:Value}(h:sG w k v){g off m k':Nat}(he:∀o n c,v=.slice (some ⟨g,o,none⟩) n c->0<n->o+n<=off):sG (oN w g off k' m) k v:=by
 obtain⟨la,n,c,rfl,h1,h2⟩:=h;refine⟨la,n,c,rfl,h1,fun hp=>?_⟩;obtain⟨g',off',t,cs,rfl,h3,h4,h5⟩:=h2 hp;by_cases e:g'=g
 ·subst e;have hend:=he off' n c rfl hp;obtain⟨cs',a1,a2,_,a4⟩:=vY h3 off k' m;exact⟨g',off',t,cs',rfl,a1,by omega,fun i hi=>by rw[a4 _ (Or.inl (by omega))];exact h5 i hi⟩
 ·exact⟨g',off',t,cs,rfl,(pY w g off k' m).at h3 (by simpa using e),h4,h5⟩
theorem NK.mark{w:World}{L:List Value}(h:NK w L){g off n c:Nat}(hm:0<n->Mine w g off n)(he:0<n->nO L g off)(hn:n<=140737488355328)(la:Option Addr)(hla:0<n->la=some ⟨g,off,none⟩):NK (oN w g off L.length n) (L++[.slice la n c]):=by
 refine⟨fun k v hk=>?_⟩;rcases Nat.lt_or_ge k L.length with hl|hl
 ·rw[List.getElem?_append_left hl]at hk;rcases Nat.eq_zero_or_pos n with h0|h0
  ·subst h0;exact h.each k v hk
  ·exact(h.each k v hk).mark (fun o n' c' e hp=>he h0 v (List.mem_of_getElem? hk) o n' c' e hp)
 ·rw[List.getElem?_append_right hl]at hk;have hk0:k=L.length:=by
   rcases Nat.eq_or_lt_of_le hl with e|e
   ·exact e.symm
   ·rw[List.getElem?_eq_none (by simp;omega)]at hk;cases hk
  subst hk0;simp only[Nat.sub_self,List.getElem?_cons_zero,Option.some.injEq]at hk;subst hk;refine⟨la,n,c,rfl,hn,fun hp=>?_⟩;obtain⟨t,cs,hA,hl2⟩:=hm hp;obtain⟨cs',a1,a2,a3,_⟩:=vY hA off L.length n;exact⟨g,off,t,cs',hla hp,a1,by omega,fun i hi=>a3 i hi (by omega)⟩
theorem En(w:World)(g off k:Nat):∀m,(oN w g off k m).heap.size=w.heap.size
 | 0=>rfl
 | m+1=>by show((oN w g off k m).setCell _ _).heap.size=_;rw[<-En w g off k m];simp
theorem sG.set{w:World}{k:Nat}{v:Value}(h:sG w k v){g off:Nat}(u:Value)(he:∀o n c,v=.slice (some ⟨g,o,none⟩) n c->0<n->o+n<=off):sG (w.setCell ⟨g,off,none⟩ u) k v:=by
 obtain⟨la,n,c,rfl,h1,h2⟩:=h;refine⟨la,n,c,rfl,h1,fun hp=>?_⟩;obtain⟨g',off',t,cs,rfl,h3,h4,h5⟩:=h2 hp;by_cases e:g'=g
 ·subst e;have hend:=he off' n c rfl hp;exact⟨g',off',t,_,rfl,h3.ax off u,by rw[List.length_set];exact h4,fun i hi=>by rw[List.getElem?_set,if_neg (by omega)];exact h5 i hi⟩
 ·exact⟨g',off',t,cs,rfl,h3.aP _ _ _ e,h4,h5⟩
structure kM(w wr:World)(S X:List Nat)(wb base:Nat)(xa xc xd:Value)(k:Nat)(L:List Value)(bv:Value):Prop where
 st:At wr wb 31 [xa,xc,bv,xd]
 row:wr.ownsRow base 51 1 bv k L
 kept:NK wr L
 cnt:L.length=k
 sep:∀v∈L,∀q,Uses v q->q≠wb/\bv.ownBlock≠some q/\q<wr.heap.size
 same:Same S w wr
 kH:base<=wr.heap.size/\wb<base
 zO:(wb<w.heap.size->wb∈S)/\∀q,bv.ownBlock=some q->q<w.heap.size->q∈S
 els:(∀x∈X,x<w.heap.size/\x∉S)/\∀v∈L,∀q,Uses v q->q∉X
structure tu(w wr:World)(S X:List Nat)(wb base:Nat)(xa xc xd:Value)(k:Nat)(L:List Value)(bv:Value)(gl len cap:Nat):Prop where
 own:kM w wr S X wb base xa xc xd k L bv
 ends:nO L gl len
 l:∃cs,At wr gl 3 cs/\len<=cs.length/\cap<=cs.length
 le:len<=cap
 o8:gl≠wb/\bv.ownBlock≠some gl/\(gl<w.heap.size->gl∈S)
theorem tu.room{w wr:World}{S X:List Nat}{wb base:Nat}{xa xc xd:Value}{k:Nat}{L:List Value}{bv:Value}{gl len cap:Nat}(h:tu w wr S X wb base xa xc xd k L bv gl len cap)(o:Obj)(hr:len+1<=cap)(u:Value):tu w ((wr.alloc o).setCell ⟨gl,len,none⟩ u) S X wb base xa xc xd k L bv gl (len+1) cap/\nO L gl len:=by
 obtain⟨cs,hA,h1,h2⟩:=h.l;have S1:Same [gl] wr ((wr.alloc o).setCell ⟨gl,len,none⟩ u):=((Same.refl [gl] wr).alloc _).set _ _ _ (by simp);have hz:((wr.alloc o).setCell ⟨gl,len,none⟩ u).heap.size=wr.heap.size+1:=by simp
 refine⟨⟨⟨S1.at h.own.st (by simp;exact fun e=>h.o8.1 e.symm),aG h.own.row S1 (fun q hq hm=>by simp at hm;exact h.o8.2.1 (by rw[<-hm];exact hq)),⟨fun i v hv=>?_⟩,h.own.cnt,fun v hv q hq=>?_,h.own.same.step S1 (fun q hq hl=>by simp at hq;rw[hq];exact h.o8.2.2 (by omega)),⟨by have:=h.own.kH.1;omega,h.own.kH.2⟩,h.own.zO,h.own.els⟩,fun v hv o' n c e hp=>?_,⟨_,(hA.alloc _).ax len u,by rw[List.length_set];omega,by rw[List.length_set];exact h2⟩,hr,h.o8⟩,h.ends⟩
 ·have h3:sG (wr.alloc o) i v:=(h.own.kept.each i v hv).same ((Same.refl [] wr).alloc o) (fun q _=>by simp);exact h3.set u (fun o' n c e hp=>h.ends v (List.mem_of_getElem? hv) o' n c e hp)
 ·have:=h.own.sep v hv q hq;exact⟨this.1,this.2.1,by omega⟩
 ·have:=h.ends v hv o' n c e hp;omega
theorem kM.more{w wr w':World}{S X:List Nat}{wb base:Nat}{xa xc xd:Value}{k:Nat}{L:List Value}{bv:Value}(h:kM w wr S X wb base xa xc xd k L bv)(hS:Same [] wr w'):kM w w' S X wb base xa xc xd k L bv:=
 ⟨hS.at h.st (by simp),aG h.row hS (fun _ _=>by simp),h.kept.same hS (fun _ _ _ _=>by simp),h.cnt,fun v hv q hq=>by
  have h1:=h.sep v hv q hq;have:=hS.size;exact⟨h1.1,h1.2.1,by omega⟩,h.same.step hS (by simp),⟨by have:=h.kH.1;have:=hS.size;omega,h.kH.2⟩,h.zO,h.els⟩
theorem kM.grow{w wr w':World}{S X:List Nat}{wb base:Nat}{xa xc xd:Value}{k:Nat}{L:List Value}{bv:Value}{len:Nat}(h:kM w wr S X wb base xa xc xd k L bv){g' cap':Nat}{cs':List Value}(hS:Same [] wr w')(hg:wr.heap.size<=g')(hA:At w' g' 3 cs')(hc:len+1<=cap')(hl:cs'.length=cap'):tu w w' S X wb base xa xc xd k L bv g' (len+1) cap'/\nO L g' len:=by
 have hwb:=h.st.lt;have hbl:∀q,bv.ownBlock=some q->q<wr.heap.size:=fun q hq=>(h.row.lt q hq).2
 have hno:∀v∈L,∀o' n c,v=.slice (some ⟨g',o',none⟩) n c->0<n->False:=fun v hv o' n c e hp=>by
  have:=(h.sep v hv g' ⟨o',n,c,e,hp⟩).2.2;omega
 have hw:=h.same.size;exact⟨⟨h.more hS,fun v hv o' n c e hp=>(hno v hv o' n c e hp).elim,⟨cs',hA,by omega,by omega⟩,hc,⟨by omega,fun e=>by have:=hbl g' e;omega,fun hx=>by omega⟩⟩,fun v hv o' n c e hp=>(hno v hv o' n c e hp).elim⟩
theorem kM.keep{w wr w':World}{S X:List Nat}{wb base:Nat}{xa xc xd:Value}{k:Nat}{L:List Value}{bv bv':Value}{la:Option Addr}{gl off n c:Nat}(h:kM w wr S X wb base xa xc xd k L bv)(hg:0<n->la=some ⟨gl,off,none⟩/\Mine wr gl off n/\gl≠wb/\bv.ownBlock≠some gl/\(gl<w.heap.size->gl∈S)/\nO L gl off)(hn2:n<=140737488355328)
 (hS:Same (wb::bv.ownBlock.toList) (oN wr gl off k n) w') (h1:At w' wb 31 [xa,xc,bv',xd]) (h2:w'.ownsRow base 51 1 bv' (k+1) (L++[.slice la n c])) (h3:bv'.ownBlock=bv.ownBlock\/∃q,bv'.ownBlock=some q/\wr.heap.size<=q) :
 kM w w' S X wb base xa xc xd (k+1) (L++[.slice la n c]) bv'/\(∀q,q<wr.heap.size->bv.ownBlock≠some q->bv'.ownBlock≠some q):=by
 have hz:=En wr gl off k n;have hsz:=hS.size;have hbl:∀q,bv.ownBlock=some q->q<wr.heap.size:=fun q hq=>(h.row.lt q hq).2
 have hmS:∀q∈wb::bv.ownBlock.toList,q=wb\/bv.ownBlock=some q:=fun q hq=>by
  rcases List.mem_cons.1 hq with e|e
  ·exact Or.inl e
  ·exact Or.inr (by simpa using e)
 have hk:NK (oN wr gl off k n) (L++[.slice la n c]):=by
  have:=h.kept.mark (g:=gl) (off:=off) (n:=n) (c:=c) (fun hp=>(hg hp).2.1) (fun hp=>(hg hp).2.2.2.2.2) hn2 la (fun hp=>(hg hp).1);rw[h.cnt]at this;exact this
 have hnb:∀v∈L++[.slice la n c],∀q,Uses v q->q≠wb/\bv.ownBlock≠some q/\q<wr.heap.size/\q∉X:=fun v hv q hq=>by
  rcases List.mem_append.1 hv with hv|hv
  ·have:=h.sep v hv q hq;exact⟨this.1,this.2.1,this.2.2,h.els.2 v hv q hq⟩
  ·rw[List.mem_singleton.1 hv]at hq;obtain⟨o,n',c',e,hp⟩:=hq;cases e;obtain⟨e1,⟨t,cs,hA,_⟩,e3,e4,e5,_⟩:=hg hp;cases e1;exact⟨e3,e4,hA.lt,fun hx=>(h.els.1 _ hx).2 (e5 (h.els.1 _ hx).1)⟩
 have hne:∀q,q<wr.heap.size->bv.ownBlock≠some q->bv'.ownBlock≠some q:=fun q hq hb e=>by
  rcases h3 with e'|⟨q',e',hq'⟩
  ·rw[e']at e;exact hb e
  ·rw[e']at e;cases e;omega
 refine⟨⟨h1,h2,hk.same hS (fun v hv q hq hm=>?_),by rw[List.length_append,h.cnt];rfl,fun v hv q hq=>?_,?_,⟨by have:=h.kH.1;omega,h.kH.2⟩,⟨h.zO.1,fun q hq hl=>?_⟩,h.els.1,fun v hv q hq=>(hnb v hv q hq).2.2.2⟩,hne⟩
 ·have:=hnb v hv q hq;rcases hmS q hm with e|e
  ·exact this.1 e
  ·exact this.2.1 e
 ·have:=hnb v hv q hq;exact⟨this.1,hne q this.2.2.1 this.2.1,by omega⟩
 ·have hfirst:Same S w (oN wr gl off k n):=by
   rcases Nat.eq_zero_or_pos n with h0|h0
   ·subst h0;exact h.same
   ·exact h.same.step (pY wr gl off k n) (fun q hq hl=>by rw[List.mem_singleton.1 hq];exact(hg h0).2.2.2.2.1 (by rw[<-List.mem_singleton.1 hq];exact hl))
  refine hfirst.step hS (fun q hq hl=>?_);rcases hmS q hq with e|e
  ·rw[e];exact h.zO.1 (by rw[<-e];exact hl)
  ·exact h.zO.2 q e hl
 ·rcases h3 with e'|⟨q',e',hq'⟩
  ·rw[e']at hq;exact h.zO.2 q hq hl
  ·rw[e']at hq;cases hq;have:=h.same.size;omega
theorem tu.kept'{w wr w':World}{S X:List Nat}{wb base:Nat}{xa xc xd:Value}{k:Nat}{L:List Value}{bv bv':Value}{gl len cap off n c:Nat}(h:tu w wr S X wb base xa xc xd k L bv gl len cap)(he:nO L gl off)(hn:off+n=len)(hn2:n<=140737488355328)
 (hS:Same (wb::bv.ownBlock.toList) (oN wr gl off k n) w') (h1:At w' wb 31 [xa,xc,bv',xd]) (h2:w'.ownsRow base 51 1 bv' (k+1) (L++[.slice (some ⟨gl,off,none⟩) n c])) (h3:bv'.ownBlock=bv.ownBlock\/∃q,bv'.ownBlock=some q/\wr.heap.size<=q) :
 tu w w' S X wb base xa xc xd (k+1) (L++[.slice (some ⟨gl,off,none⟩) n c]) bv' gl len cap:=by
 obtain⟨cs,hA,hl1,hl2⟩:=h.l;obtain⟨hO,hne⟩:=h.own.keep (fun _=>⟨rfl,⟨_,cs,hA,by omega⟩,h.o8.1,h.o8.2.1,h.o8.2.2,he⟩) hn2 hS h1 h2 h3;obtain⟨cs',a1,a2,_,_⟩:=vY hA off k n;refine⟨hO,fun v hv o' n' c' e hp=>?_,⟨cs',hS.at a1 (fun hm=>?_),by omega,by omega⟩,h.le,⟨h.o8.1,hne gl hA.lt h.o8.2.1,h.o8.2.2⟩⟩
 ·rcases List.mem_append.1 hv with hv|hv
  ·have:=h.ends v hv o' n' c' e hp;omega
  ·rw[List.mem_singleton.1 hv]at e;cases e;omega
 ·rcases List.mem_cons.1 hm with e|e
  ·exact h.o8.1 e
  ·exact h.o8.2.1 (by simpa using e)
theorem kM.mark{w wr:World}{S X:List Nat}{wb base:Nat}{xa xc xd:Value}{k:Nat}{L:List Value}{ba:Option Addr}{bc:Nat}(h:kM w wr S X wb base xa xc xd k L (.slice ba k bc))(la:Option Addr)(gl off n c:Nat)(hg:0<n->la=some ⟨gl,off,none⟩/\Mine wr gl off n/\gl≠wb/\(Value.slice ba k bc).ownBlock≠some gl/\(gl<w.heap.size->gl∈S)/\nO L gl off)(hn2:n<=140737488355328)(hk:k<=100000000) :
 Calls prog 41 #[.pointer (some ⟨wb,0,none⟩),.slice la n c] wr fun e w'=>e=.returned (.tuple #[])/\∃ba' bc',kM w w' S X wb base xa xc xd (k+1) (L++[.slice la n c]) (.slice ba' (k+1) bc'):=by
 refine(zk wr wb base xa xc xd ba bc k L la gl off n c h.st h.row h.kH.1 hk h.kH.2 (fun hp=>⟨(hg hp).1,(hg hp).2.1,(hg hp).2.2.1,(hg hp).2.2.2.1⟩) hn2).mono ?_;rintro e w' ⟨ba',bc',rfl,hS,q1,q2,q3⟩;exact⟨rfl,ba',bc',(h.keep hg hn2 hS q1 q2 q3).1⟩
theorem tu.mark{w wr:World}{S X:List Nat}{wb base:Nat}{xa xc xd:Value}{k:Nat}{L:List Value}{ba:Option Addr}{bc gl len cap:Nat}(h:tu w wr S X wb base xa xc xd k L (.slice ba k bc) gl len cap)(off n c:Nat)(he:nO L gl off)(hn:off+n=len)(hn2:n<=140737488355328)(hk:k<=100000000) :
 Calls prog 41 #[.pointer (some ⟨wb,0,none⟩),.slice (some ⟨gl,off,none⟩) n c] wr fun e w'=>e=.returned (.tuple #[])/\∃ba' bc',tu w w' S X wb base xa xc xd (k+1) (L++[.slice (some ⟨gl,off,none⟩) n c]) (.slice ba' (k+1) bc') gl len cap:=by
 obtain⟨cs,hA,h1,h2⟩:=h.l;refine(zk wr wb base xa xc xd ba bc k L (some ⟨gl,off,none⟩) gl off n c h.own.st h.own.row h.own.kH.1 hk h.own.kH.2 (fun _=>⟨rfl,⟨_,cs,hA,by omega⟩,h.o8.1,h.o8.2.1⟩) hn2).mono ?_;rintro e w' ⟨ba',bc',rfl,hS,q1,q2,q3⟩;exact⟨rfl,ba',bc',h.kept' he hn hn2 hS q1 q2 q3⟩
def J3(w wr:World)(S X:List Nat)(wb base:Nat)(xa xc xd:Value)(k:Nat)(L:List Value)(bv:Value)(la:Option Addr)(len cap:Nat):Prop:=
 (∃gl,la=some ⟨gl,0,none⟩/\tu w wr S X wb base xa xc xd k L bv gl len cap)\/(len=0/\cap=0/\kM w wr S X wb base xa xc xd k L bv)
theorem J3.mark{w wr:World}{S X:List Nat}{wb base:Nat}{xa xc xd:Value}{k:Nat}{L:List Value}{ba:Option Addr}{bc:Nat}{la:Option Addr}{n cap:Nat}(h:J3 w wr S X wb base xa xc xd k L (.slice ba k bc) la n cap)(he:∀gl,la=some ⟨gl,0,none⟩->0<n->nO L gl 0)(hn2:n<=140737488355328)(hk:k<=100000000) :
 Calls prog 41 #[.pointer (some ⟨wb,0,none⟩),.slice la n cap] wr fun e w'=>e=.returned (.tuple #[])/\∃ba' bc',J3 w w' S X wb base xa xc xd (k+1) (L++[.slice la n cap]) (.slice ba' (k+1) bc') la n cap:=by
 rcases h with⟨gl,rfl,h⟩|⟨rfl,rfl,h⟩
 ·refine(h.mark 0 n cap ?_ (by omega) hn2 hk).mono ?_
  ·intro v hv o n' c e hp;rcases Nat.eq_zero_or_pos n with h0|h0
   ·have:=h.ends v hv o n' c e hp;omega
   ·exact he gl rfl h0 v hv o n' c e hp
  ·rintro e w' ⟨rfl,ba',bc',h'⟩;exact⟨rfl,ba',bc',Or.inl ⟨gl,rfl,h'⟩⟩
 ·refine(h.mark la 0 0 0 0 (fun hp=>absurd hp (by omega)) hn2 hk).mono ?_;rintro e w' ⟨rfl,ba',bc',h'⟩;exact⟨rfl,ba',bc',Or.inr ⟨rfl,rfl,h'⟩⟩
theorem J3.own{w wr:World}{S X:List Nat}{wb base:Nat}{xa xc xd:Value}{k:Nat}{L:List Value}{bv:Value}{la:Option Addr}{n cap:Nat}(h:J3 w wr S X wb base xa xc xd k L bv la n cap):kM w wr S X wb base xa xc xd k L bv:=by
 rcases h with⟨_,_,h⟩|⟨_,_,h⟩
 ·exact h.own
 ·exact h
theorem BH(w:World)(S X:List Nat)(wb base:Nat)(xa xc xd:Value)(ba:Option Addr)(bc k:Nat)(L:List Value)(la:Option Addr)(n:Nat)(h:J3 w w S X wb base xa xc xd k L (.slice ba k bc) la n n)(he:∀gl,la=some ⟨gl,0,none⟩->0<n->nO L gl 0)(hn:n<=100000000)(hk:k<=50000000) :
 Calls prog 22 #[.pointer (some ⟨wb,0,none⟩),.slice la n n] w fun e w'=>e=.returned (.tuple #[])/\∃L' ba' bc',kM w w' S X wb base xa xc xd (k+5) (L++L') (.slice ba' (k+5) bc'):=by
 obtain⟨i0,hi,hz0,hz1,hz2⟩:=info_parts Tryz.info3;have hM:=h.mark he (by omega) (by omega);clear h he
 go_enter func22,ntmps22
 go_wp2_with fail
 refine hM.mono ?_;rintro e w1 ⟨rfl,ba1,bc1,hO⟩;have HO:Hid (J3 w w1 S X wb base xa xc xd (k+1) (L++[.slice la n n]) (.slice ba1 (k+1) bc1) la n n):=hO;clear hM hO;dsimp only
 go_wp2_with fail
 go_loopw [1,4,5] (fun lv i _ wr=>∃(j p cap:Nat)(la:Option Addr)(L':List Value)(ba':Option Addr)(bc':Nat),lv=.slice la p cap/\i=.int .i64 j/\j<=4/\p<=100000004/\Hid (p=n+j)/\Hid (J3 w wr S X wb base xa xc xd (k+1+j) (L++L') (.slice ba' (k+1+j) bc') la p cap)) (fun _ i _ _=>4-(intOf i).toNat)
 case atStart=>exact⟨0,n,n,la,_,ba1,bc1,rfl,rfl,by omega,by omega,rfl,HO.out⟩
 case round=>
  obtain⟨j,p,cap,la,L',ba2,bc2,rfl,rfl,hj,hp,HP,HI⟩:=hrel;by_cases hj8:j<4
  ·have lj:(j:Int)<4:=by omega
   have HPL:Hid (p+1<=100000004):=by have:=HP.out;show _<=_;omega
   clear HO
   go_upto_region 5 with fail
   go_cut [1] (fun lv wd=>∃gl' cap',lv=.slice (some ⟨gl',0,none⟩) (p+1) cap'/\Hid (tu w wd S X wb base xa xc xd (k+1+j) (L++L') (.slice ba2 (k+1+j) bc2) gl' (p+1) cap'/\nO (L++L') gl' p))
   case first=>
    as_aux_lemma=>
    rcases HI.out with⟨gl,rfl,hI⟩|⟨rfl,rfl,hI⟩
    ·obtain⟨cs,hA,q1,q2⟩:=hI.l;have hle:=hI.le;have HA:Hid (At wr gl 3 cs/\p<=cs.length/\cap<=cs.length):=⟨hA,q1,q2⟩
     have HI2:Hid (tu w wr S X wb base xa xc xd (k+1+j) (L++L') (.slice ba2 (k+1+j) bc2) gl p cap):=hI;clear hA q1 q2 hI HI
     go_wp2_with (at_builtin;refine wpList_append_arg _ rfl _ _ 51 rfl 3 i0 (.int .i64 0) 1 8 underlying51 hi hz0 hz1 hz2 rfl (by decide) gl 0 p cap (cs.take p) rfl ?n0 ?n1 ⟨wr.heap.size,0,none⟩ 1 1 [.int .i64 0] rfl rfl ?n2 ?c2 ?c3 ?c4 ?c5 ?r1 ?r2)
     case n0=>rw[List.length_take,Nat.mul_one];have:=HA.out.2.1;omega
     case n1=>
      intro i u hi';rw[Nat.zero_add,(HA.out.1.alloc _).cell?];rw[List.getElem?_take]at hi';by_cases e:i<p
      ·rw[if_pos e]at hi';exact hi'
      ·rw[if_neg e]at hi';cases hi'
     case n2=>
      intro i u hi'
      match i,hi' with
      | 0,hi'=>simp at hi';subst hi';simp[Addr.add]
     case c2=>intro u hu;simp at hu;subst hu;rfl
     case c3=>
      intro hr i hi';have h0:i=0:=by simp at hi';exact hi'
      subst h0;have hlt:0+p*1+0<cs.length:=by have:=HA.out.2.2;omega
      rw[(HA.out.1.alloc _).cell?,List.getElem?_eq_getElem hlt];exact⟨rfl,(HA.out.1.alloc _).frozen _⟩
     case c4=>unfold maxLen;omega
     case c5=>omega
     case r1=>
      intro hr;have HF2:Hid (tu w ((wr.alloc (.cells #[.int .i64 0] 3)).setCell ⟨gl,p,none⟩ (.int .i64 0)) S X wb base xa xc xd (k+1+j) (L++L') (.slice ba2 (k+1+j) bc2) gl (p+1) cap/\nO (L++L') gl p):=HI2.out.room (.cells #[.int .i64 0] 3) hr (.int .i64 0);clear HA;simp only[World.setCells,Nat.mul_one,Nat.zero_add]
      go_wp2_with fail
      go_meet
      case rel=>exact⟨gl,cap,rfl,HF2⟩
     case r2=>
      intro hr v' w' hown hgr;obtain⟨a6,c6,rfl⟩:=ak hown;obtain⟨g',cs',rfl,b1,b2,b3,b4,b5⟩:=jk hown (by omega);have hg':wr.heap.size<=g':=by
       have:wr.heap.size+1<=g':=by simpa using b1
       omega
      have HF:Hid (tu w w' S X wb base xa xc xd (k+1+j) (L++L') (.slice ba2 (k+1+j) bc2) g' (p+1) c6/\nO (L++L') g' p):=HI2.out.own.grow (((Same.refl [] wr).alloc _).grown hgr (fun q hq _=>by cases hq)) hg' b2 b3 b4;clear hown hgr b1 b2 b3 b4 b5 HA hg'
      go_wp2_with fail
      go_meet
      case rel=>exact⟨g',c6,rfl,HF⟩
    ·have HI2:Hid (kM w wr S X wb base xa xc xd (k+1+j) (L++L') (.slice ba2 (k+1+j) bc2)):=hI;clear hI HI
     go_wp2_with (at_builtin;refine wpList_append_grows _ rfl _ _ 51 rfl 3 i0 (.int .i64 0) 1 8 underlying51 hi hz0 hz1 hz2 rfl (by decide) la 0 0 [] rfl (fun _=>⟨rfl,rfl⟩) rfl (fun _ _ i u hi'=>by simp at hi') ⟨wr.heap.size,0,none⟩ 1 1 [.int .i64 0] rfl rfl ?n2 ?c2 (by omega) ?c4 ?c5 ?r2)
     case n2=>
      intro i u hi'
      match i,hi' with
      | 0,hi'=>simp at hi';subst hi';simp[Addr.add]
     case c2=>intro u hu;simp at hu;subst hu;rfl
     case c4=>unfold maxLen;omega
     case c5=>omega
     case r2=>
      intro v' w' hown hgr;obtain⟨a6,c6,rfl⟩:=ak hown;obtain⟨g',cs',rfl,b1,b2,b3,b4,b5⟩:=jk hown (by omega);have hg':wr.heap.size<=g':=by
       have:wr.heap.size+1<=g':=by simpa using b1
       omega
      have HF:Hid (tu w w' S X wb base xa xc xd (k+1+j) (L++L') (.slice ba2 (k+1+j) bc2) g' (0+1) c6/\nO (L++L') g' 0):=HI2.out.grow (((Same.refl [] wr).alloc _).grown hgr (fun q hq _=>by cases hq)) hg' b2 b3 b4;clear hown hgr b1 b2 b3 b4 b5 hg'
      go_wp2_with fail
      go_meet
      case rel=>exact⟨g',c6,rfl,HF⟩
   case rest=>
    obtain⟨gl',cap',rfl,HC⟩:=hcut;have hM:=HC.out.1.mark p 1 (cap'-p) HC.out.2 rfl (by omega) (by omega);have hlc:=HC.out.1.le;have s1:(p:Int)<=((p+1:Nat):Int):=by omega
    have s2:(0:Int)<=(p:Int):=by omega
    have s3:p+1-p=1:=by omega
    have s4:¬(cap'=p):=by omega
    have s5:(p:Int)<=(p:Int)+1:=by omega
    clear HI HC
    go_wp2_with fail
    refine hM.mono ?_;rintro e w5 ⟨rfl,ba5,bc5,hO⟩;have HF:Hid (tu w w5 S X wb base xa xc xd (k+1+(j+1)) (L++(L'++[.slice (some ⟨gl',p,none⟩) 1 (cap'-p)])) (.slice ba5 (k+1+(j+1)) bc5) gl' (p+1) cap'):=by
     rw[<-List.append_assoc];exact hO
    have HP1:Hid (p+1=n+(j+1)):=by have:=HP.out;show _=_;omega
    have hpl:=HPL.out;clear hO hM HP;dsimp only
    go_wp2
    go_roundw
    case rel=>exact⟨j+1,p+1,cap',some ⟨gl',0,none⟩,_,ba5,bc5,by first|rfl|(simp;done),by go_num,by omega,hpl,HP1.out,Or.inl ⟨gl',rfl,HF.out⟩⟩
    case measure=>simp[intOf];omega
  ·obtain rfl:j=4:=by omega
   have HF:Hid (kM w wr S X wb base xa xc xd (k+5) (L++L') (.slice ba2 (k+5) bc2)):=HI.out.own;clear HI HO
   go_wp2_with fail
   go_end0
   exact⟨rfl,L',ba2,bc2,HF.out⟩
theorem Tryz.TU:(prog.info? 47).map (fun i=>(i.zero,i.size,i.bytes))=some (some (.slice none 0 0),1,24):=by kernel_rfl
def Hq(k:Nat):List Value:=[.string ⟨#[]⟩,.int .i64 (-1-(k:Int)),.string ⟨#[]⟩,.int .i64 0,.int .i64 0,.bool false]
theorem qg(g:Nat):∀(us:List Value)(o:Nat)(w:World),Same [g] w (w.setCells g o us)
 | [],_,_=>Same.refl _ _
 | u::us,o,w=>((Same.refl [g] w).set g o u (by simp)).step (qg g us (o+1) _) (fun _ h _=>h)
theorem uh(g:Nat):∀(us:List Value)(o:Nat)(w:World),(w.setCells g o us).heap.size=w.heap.size
 | [],_,_=>rfl
 | u::us,o,w=>by show((w.setCell ⟨g,o,none⟩ u).setCells g (o+1) us).heap.size=_;rw[uh g us];simp
theorem vS(g:Nat)(t:TypeId):∀(us:List Value)(o:Nat)(w:World)(cs:List Value),At w g t cs->∃cs',At (w.setCells g o us) g t cs'/\cs'.length=cs.length/\(∀j,j<us.length->o+j<cs.length->cs'[o+j]? = us[j]?)/\∀i,(i<o\/o+us.length<=i)->cs'[i]? = cs[i]?
 | [],o,w,cs,h=>⟨cs,h,rfl,fun j hj=>by simp at hj,fun i _=>rfl⟩
 | u::us,o,w,cs,h=>by
  obtain⟨cs',h1,h2,h3,h4⟩:=vS g t us (o+1) _ _ (h.ax o u);rw[List.length_set]at h2 h3;refine⟨cs',h1,h2,fun j hj hl=>?_,fun i hi=>?_⟩
  ·cases j with
   | zero=>rw[Nat.add_zero,h4 o (Or.inl (by omega)),List.getElem?_set,if_pos rfl,if_pos (by omega)];rfl
   | succ j=>rw[show o+(j+1)=o+1+j by omega,h3 j (by simpa using hj) (by omega)];rfl
  ·rw[List.length_cons]at hi;rw[h4 i (by omega),List.getElem?_set,if_neg (by omega)]
def jE(w:World)(g off k:Nat):Nat->World
 | 0=>w
 | m+1=>(jE w g off k m).setCells g (off+m*6) (Hq k)
theorem pW(w:World)(g off k:Nat):∀m,Same [g] w (jE w g off k m)
 | 0=>Same.refl _ _
 | m+1=>(pW w g off k m).step (qg g _ _ _) (fun _ h _=>h)
def OQ(w:World)(g off n:Nat):Prop:=∃t cs,At w g t cs/\off+n*6<=cs.length
theorem wW{w:World}{g:Nat}{t:TypeId}{cs:List Value}(h:At w g t cs)(off k:Nat):∀m,∃cs',At (jE w g off k m) g t cs'/\cs'.length=cs.length/\(∀i,i<m->off+i*6+6<=cs.length->∀j,j<6->cs'[off+i*6+j]? = (Hq k)[j]?)/\∀i,(i<off\/off+m*6<=i)->cs'[i]? = cs[i]?
 | 0=>⟨cs,h,rfl,fun i hi=>by omega,fun i _=>rfl⟩
 | m+1=>by
  obtain⟨cs1,h1,h2,h3,h4⟩:=wW h off k m;obtain⟨cs',g1,g2,g3,g4⟩:=vS g t (Hq k) (off+m*6) _ _ h1;have h6:(Hq k).length=6:=rfl;refine⟨cs',g1,by omega,fun i hi hl j hj=>?_,fun i hi=>?_⟩
  ·by_cases e:i=m
   ·subst e;exact g3 j (by omega) (by omega)
   ·rw[g4 _ (Or.inl (by omega))];exact h3 i (by omega) hl j hj
  ·rw[g4 i (by omega)];exact h4 i (by omega)
theorem y8(w:World)(wb base:Nat)(xa xc xd:Value)(ba:Option Addr)(bc k:Nat)(L:List Value)(la:Option Addr)(g off n lc:Nat)(hw:At w wb 31 [xa,xc,xd,.slice ba k bc])(ho:w.ownsRow base 47 1 (.slice ba k bc) k L)(hb:base<=w.heap.size)(hk:k<=100000000)(hwb:wb<base)(hla:0<n->la=some ⟨g,off,none⟩/\OQ w g off n/\g≠wb/\(Value.slice ba k bc).ownBlock≠some g)(hn:n<=140737488355328) :
 Calls prog 38 #[.pointer (some ⟨wb,0,none⟩),.slice la n lc] w fun e w'=>∃ba' bc',e=.returned (.tuple #[])/\Same (wb::(Value.slice ba k bc).ownBlock.toList) (jE w g off k n) w'/\At w' wb 31 [xa,xc,xd,.slice ba' (k+1) bc']/\w'.ownsRow base 47 1 (.slice ba' (k+1) bc') (k+1) (L++[.slice la n lc])/\((Value.slice ba' (k+1) bc').ownBlock=(Value.slice ba k bc).ownBlock\/∃q,(Value.slice ba' (k+1) bc').ownBlock=some q/\w.heap.size<=q):=by
 obtain⟨i0,hi,hz0,hz1,hz2⟩:=info_parts Tryz.TU;have hw1:IntKind.i64.wrap (-1-(k:Int))=-1-(k:Int):=IntWalk.i64_in _ (by omega);have HW:Hid (∀m,m<=n->At (jE w g off k m) wb 31 [xa,xc,xd,.slice ba k bc]/\(jE w g off k m).ownsRow base 47 1 (.slice ba k bc) k L):=fun m hm=>by
  by_cases h0:m=0
  ·subst h0;exact⟨hw,ho⟩
  ·obtain⟨_,_,h1,h2⟩:=hla (by omega);exact⟨(pW w g off k m).at hw (by simp;exact fun e=>h1 e.symm),aG ho (pW w g off k m) (fun q hq hm'=>by simp at hm';exact h2 (by rw[<-hm'];exact hq))⟩
 have HZ:Hid (∀m,(jE w g off k m).heap.size=w.heap.size):=fun m=>by
  induction m with
  | zero=>rfl
  | succ m ih=>show((jE w g off k m).setCells g _ _).heap.size=_;rw[uh];exact ih
 have HM:Hid (∀m,m<n->la=some ⟨g,off,none⟩/\(∀j,j<6->∃u,(jE w g off k m).cell? ⟨g,off+m*6+j,none⟩=some u)/\∀i,(jE w g off k m).frozen? ⟨g,i,none⟩=false):=fun m hm=>by
  obtain⟨h1,⟨t,cs,hA,hl⟩,_,_⟩:=hla (by omega);obtain⟨cs',h2,h3,_,_⟩:=wW hA off k m;exact⟨h1,fun j hj=>⟨cs'[off+m*6+j]'(by omega),by rw[h2.cell?];exact List.getElem?_eq_getElem (by omega)⟩,fun i=>h2.frozen i⟩
 have HB:Hid (w.heap.size<=w.heap.size/\base<=w.heap.size/\wb<base):=⟨Nat.le_refl _,hb,hwb⟩
 clear hw ho hla hb hwb
 go_enter func38,ntmps38
 go_wp2_with fail
 go_loopw [4] (fun i wr=>∃m:Nat,i=.int .i64 m/\m<=n/\Hid (wr=jE w g off k m)) (fun i _=>n-(intOf i).toNat)
 case atStart=>exact⟨0,rfl,Nat.zero_le _,rfl⟩
 case round=>
  obtain⟨m,rfl,hm,HE⟩:=hrel;obtain⟨h1,h2⟩:=HW.out m hm;by_cases hml:m<n
  ·have lm:(m:Int)<(n:Int):=by omega
   obtain⟨rfl,cc,fz⟩:=HM.out m hml;have c0:(jE w g off k m).cell? ⟨wb,3,none⟩=some (.slice ba k bc):=h1.cell? 3;rw[<-HE.out]at c0 cc fz;obtain⟨u0,a0⟩:=cc 0 (by omega);obtain⟨u1,a1⟩:=cc 1 (by omega);obtain⟨u2,a2⟩:=cc 2 (by omega);obtain⟨u3,a3⟩:=cc 3 (by omega);obtain⟨u4,a4⟩:=cc 4 (by omega);obtain⟨u5,a5⟩:=cc 5 (by omega);rw[Nat.add_zero]at a0;have HN:Hid ((((((wr.setCell ⟨g,off+m*6,none⟩ (.string ⟨#[]⟩)).setCell ⟨g,off+m*6+1,none⟩ (.int .i64 (-1-(k:Int)))).setCell ⟨g,off+m*6+2,none⟩ (.string ⟨#[]⟩)).setCell ⟨g,off+m*6+3,none⟩ (.int .i64 0)).setCell ⟨g,off+m*6+4,none⟩ (.int .i64 0)).setCell ⟨g,off+m*6+5,none⟩ (.bool false)=jE w g off k (m+1)):=by show _=_;rw[HE.out];rfl
   clear h1 h2 HE cc
   go_wp2
   go_roundw
   case rel=>exact⟨m+1,by go_num,by omega,HN.out⟩
   case measure=>simp[intOf];omega
  ·have lm:(n:Int)<=(m:Int):=by omega
   obtain rfl:m=n:=by omega
   have hz:=HZ.out m;rw[<-HE.out]at h1 h2 hz;have c0:wr.cell? ⟨wb,3,none⟩=some (.slice ba k bc):=h1.cell? 3;have HH:Hid (At wr wb 31 [xa,xc,xd,.slice ba k bc]):=h1;have hwl:=h1.lt;have hbw:base<=wr.heap.size:=by have:=HB.out;omega
   have HNB:Hid (∀q,(Value.slice ba k bc).ownBlock=some q->q≠wb):=fun q hq=>by have:=aI h2 q hq;have:=HB.out;omega
   have HZZ:Hid (wr.heap.size=w.heap.size):=hz;clear h1 hz
   go_wp2_with (at_builtin;refine wpList_append_own_at _ rfl _ _ 29 rfl base 47 i0 (.slice none 0 0) 1 24 underlying29 hi hz0 hz1 hz2 rfl (by decide) _ _ _ rfl (h2.alloc _) ⟨wr.heap.size,0,none⟩ 1 1 [.slice la m lc] rfl rfl ?c1 ?c2 ?c3 ?c4 ?c5 ?_)
   case c1=>
    intro j u hj
    match j,hj with
    | 0,hj=>simp at hj;subst hj;simp[Addr.add]
   case c2=>intro u hu;simp at hu;subst hu;rfl
   case c3=>unfold maxLen;omega
   case c4=>omega
   case c5=>first|omega|(simp;omega)
   intro pv2 w3 hown3 hgrow3 _ hblk3;obtain⟨pa3,pc3,rfl⟩:=ak hown3;have S3:Same (Value.slice ba k bc).ownBlock.toList wr w3:=((Same.refl _ _).alloc _).grown hgrow3 (fun q hq _=>by simp[hq]);have p63:At w3 wb 31 [xa,xc,xd,.slice ba k bc]:=S3.at HH.out (fun hq=>HNB.out wb (by simpa using hq) rfl);have g6:w3.cell? ⟨wb,3,none⟩=some (.slice ba k bc):=p63.cell? 3;have z6:w3.frozen? ⟨wb,3,none⟩=false:=p63.frozen 3;have HF:Hid (∃ba' bc',Same (wb::(Value.slice ba k bc).ownBlock.toList) wr (w3.setCell ⟨wb,3,none⟩ (.slice pa3 (k+1) pc3))/\At (w3.setCell ⟨wb,3,none⟩ (.slice pa3 (k+1) pc3)) wb 31 [xa,xc,xd,.slice ba' (k+1) bc']/\(w3.setCell ⟨wb,3,none⟩ (.slice pa3 (k+1) pc3)).ownsRow base 47 1 (.slice ba' (k+1) bc') (k+1) (L++[.slice la m lc])/\((Value.slice ba' (k+1) bc').ownBlock=(Value.slice ba k bc).ownBlock\/∃q,(Value.slice ba' (k+1) bc').ownBlock=some q/\w.heap.size<=q)):=by
    refine⟨pa3,pc3,(S3.mono (T:=wb::(Value.slice ba k bc).ownBlock.toList) (fun q hq _=>List.mem_cons_of_mem _ hq)).set _ _ _ (fun _=>by simp),p63.ax 3 _,?_,?_⟩
    ·exact aG hown3 ((Same.refl [wb] w3).set wb 3 (.slice pa3 (k+1) pc3) (fun _=>by simp)) (fun q hq hm'=>by
      simp at hm';subst hm';have:=aI hown3 q hq;have:=HB.out;omega)
    ·rcases hblk3 with e|e
     ·exact Or.inl e
     ·exact Or.inr ⟨_,e,by have:=HZZ.out;simp;omega⟩
   clear S3 hown3 hgrow3 hblk3 p63;have HEE:Hid (wr=jE w g off k m):=HE.out;clear HE
   go_wp2
   go_end0
   obtain⟨ba',bc',f1,f2,f3,f4⟩:=HF.out;exact⟨ba',bc',rfl,by rw[<-HEE.out];exact f1,f2,f3,f4⟩
def sU(w:World)(k:Nat)(v:Value):Prop:=∃la n c,v=.slice la n c/\n<=140737488355328/\(0<n->∃g off t cs,la=some ⟨g,off,none⟩/\At w g t cs/\off+n*6<=cs.length/\∀i,i<n->∀j,j<6->cs[off+i*6+j]? = (Hq k)[j]?)
structure VK(w:World)(L:List Value):Prop where
 each:∀k v,L[k]? = some v->sU w k v
def nT(L:List Value)(g e:Nat):Prop:=∀v∈L,∀off n c,v=.slice (some ⟨g,off,none⟩) n c->0<n->off+n*6<=e
theorem sU.same{w w':World}{k:Nat}{v:Value}(h:sU w k v){S:List Nat}(hS:Same S w w')(hn:∀q,Uses v q->q∉S):sU w' k v:=by
 obtain⟨la,n,c,rfl,h1,h2⟩:=h;refine⟨la,n,c,rfl,h1,fun hp=>?_⟩;obtain⟨g,off,t,cs,rfl,h3,h4,h5⟩:=h2 hp;exact⟨g,off,t,cs,rfl,hS.at h3 (hn g ⟨off,n,c,rfl,hp⟩),h4,h5⟩
theorem VK.same{w w':World}{L:List Value}(h:VK w L){S:List Nat}(hS:Same S w w')(hn:∀v∈L,∀q,Uses v q->q∉S):VK w' L:=
 ⟨fun k v hk=>(h.each k v hk).same hS (hn v (List.mem_of_getElem? hk))⟩
theorem sU.mark{w:World}{k:Nat}{v:Value}(h:sU w k v){g off m k':Nat}(he:∀o n c,v=.slice (some ⟨g,o,none⟩) n c->0<n->o+n*6<=off):sU (jE w g off k' m) k v:=by
 obtain⟨la,n,c,rfl,h1,h2⟩:=h;refine⟨la,n,c,rfl,h1,fun hp=>?_⟩;obtain⟨g',off',t,cs,rfl,h3,h4,h5⟩:=h2 hp;by_cases e:g'=g
 ·subst e;have hend:=he off' n c rfl hp;obtain⟨cs',a1,a2,_,a4⟩:=wW h3 off k' m;exact⟨g',off',t,cs',rfl,a1,by omega,fun i hi j hj=>by rw[a4 _ (Or.inl (by omega))];exact h5 i hi j hj⟩
 ·exact⟨g',off',t,cs,rfl,(pW w g off k' m).at h3 (by simpa using e),h4,h5⟩
theorem VK.mark{w:World}{L:List Value}(h:VK w L){g off n c:Nat}(hm:0<n->OQ w g off n)(he:0<n->nT L g off)(hn:n<=140737488355328)(la:Option Addr)(hla:0<n->la=some ⟨g,off,none⟩):VK (jE w g off L.length n) (L++[.slice la n c]):=by
 refine⟨fun k v hk=>?_⟩;rcases Nat.lt_or_ge k L.length with hl|hl
 ·rw[List.getElem?_append_left hl]at hk;rcases Nat.eq_zero_or_pos n with h0|h0
  ·subst h0;exact h.each k v hk
  ·exact(h.each k v hk).mark (fun o n' c' e hp=>he h0 v (List.mem_of_getElem? hk) o n' c' e hp)
 ·rw[List.getElem?_append_right hl]at hk;have hk0:k=L.length:=by
   rcases Nat.eq_or_lt_of_le hl with e|e
   ·exact e.symm
   ·rw[List.getElem?_eq_none (by simp;omega)]at hk;cases hk
  subst hk0;simp only[Nat.sub_self,List.getElem?_cons_zero,Option.some.injEq]at hk;subst hk;refine⟨la,n,c,rfl,hn,fun hp=>?_⟩;obtain⟨t,cs,hA,hl2⟩:=hm hp;obtain⟨cs',a1,a2,a3,_⟩:=wW hA off L.length n;exact⟨g,off,t,cs',hla hp,a1,by omega,fun i hi j hj=>a3 i hi (by omega) j hj⟩
theorem EC(w:World)(g off k:Nat):∀m,(jE w g off k m).heap.size=w.heap.size
 | 0=>rfl
 | m+1=>by show((jE w g off k m).setCells g _ _).heap.size=_;rw[uh];exact EC w g off k m
theorem sU.set{w:World}{k:Nat}{v:Value}(h:sU w k v){g off:Nat}(us:List Value)(he:∀o n c,v=.slice (some ⟨g,o,none⟩) n c->0<n->o+n*6<=off):sU (w.setCells g off us) k v:=by
 obtain⟨la,n,c,rfl,h1,h2⟩:=h;refine⟨la,n,c,rfl,h1,fun hp=>?_⟩;obtain⟨g',off',t,cs,rfl,h3,h4,h5⟩:=h2 hp;by_cases e:g'=g
 ·subst e;have hend:=he off' n c rfl hp;obtain⟨cs',a1,a2,_,a4⟩:=vS g' t us off _ _ h3;exact⟨g',off',t,cs',rfl,a1,by omega,fun i hi j hj=>by rw[a4 _ (Or.inl (by omega))];exact h5 i hi j hj⟩
 ·exact⟨g',off',t,cs,rfl,(qg g us off w).at h3 (by simpa using e),h4,h5⟩
structure kQ(w wr:World)(S X:List Nat)(wb base:Nat)(xa xc xd:Value)(k:Nat)(L:List Value)(bv:Value):Prop where
 st:At wr wb 31 [xa,xc,xd,bv]
 row:wr.ownsRow base 47 1 bv k L
 kept:VK wr L
 cnt:L.length=k
 sep:∀v∈L,∀q,Uses v q->q≠wb/\bv.ownBlock≠some q/\q<wr.heap.size
 same:Same S w wr
 kH:base<=wr.heap.size/\wb<base
 zO:(wb<w.heap.size->wb∈S)/\∀q,bv.ownBlock=some q->q<w.heap.size->q∈S
 els:(∀x∈X,x<w.heap.size/\x∉S)/\∀v∈L,∀q,Uses v q->q∉X
structure tC(w wr:World)(S X:List Nat)(wb base:Nat)(xa xc xd:Value)(k:Nat)(L:List Value)(bv:Value)(gl len cap:Nat):Prop where
 own:kQ w wr S X wb base xa xc xd k L bv
 ends:nT L gl (len*6)
 l:∃cs,At wr gl 57 cs/\len*6<=cs.length/\cap*6<=cs.length
 le:len<=cap
 o8:gl≠wb/\bv.ownBlock≠some gl/\(gl<w.heap.size->gl∈S)
theorem tC.room{w wr:World}{S X:List Nat}{wb base:Nat}{xa xc xd:Value}{k:Nat}{L:List Value}{bv:Value}{gl len cap:Nat}(h:tC w wr S X wb base xa xc xd k L bv gl len cap)(o:Obj)(hr:len+1<=cap)(us:List Value):tC w ((wr.alloc o).setCells gl (len*6) us) S X wb base xa xc xd k L bv gl (len+1) cap/\nT L gl (len*6):=by
 obtain⟨cs,hA,h1,h2⟩:=h.l;have S1:Same [gl] wr ((wr.alloc o).setCells gl (len*6) us):=((Same.refl [gl] wr).alloc _).step (qg _ _ _ _) (fun _ h _=>h);have hz:((wr.alloc o).setCells gl (len*6) us).heap.size=wr.heap.size+1:=by rw[uh];simp
 obtain⟨cs',a1,a2,_,_⟩:=vS gl _ us (len*6) _ _ (hA.alloc o);refine⟨⟨⟨S1.at h.own.st (by simp;exact fun e=>h.o8.1 e.symm),aG h.own.row S1 (fun q hq hm=>by simp at hm;exact h.o8.2.1 (by rw[<-hm];exact hq)),⟨fun i v hv=>?_⟩,h.own.cnt,fun v hv q hq=>?_,h.own.same.step S1 (fun q hq hl=>by simp at hq;rw[hq];exact h.o8.2.2 (by omega)),⟨by have:=h.own.kH.1;omega,h.own.kH.2⟩,h.own.zO,h.own.els⟩,fun v hv o' n c e hp=>?_,⟨_,a1,by omega,by omega⟩,hr,h.o8⟩,h.ends⟩
 ·have h3:sU (wr.alloc o) i v:=(h.own.kept.each i v hv).same ((Same.refl [] wr).alloc o) (fun q _=>by simp);exact h3.set us (fun o' n c e hp=>h.ends v (List.mem_of_getElem? hv) o' n c e hp)
 ·have:=h.own.sep v hv q hq;exact⟨this.1,this.2.1,by omega⟩
 ·have:=h.ends v hv o' n c e hp;omega
theorem kQ.more{w wr w':World}{S X:List Nat}{wb base:Nat}{xa xc xd:Value}{k:Nat}{L:List Value}{bv:Value}(h:kQ w wr S X wb base xa xc xd k L bv)(hS:Same [] wr w'):kQ w w' S X wb base xa xc xd k L bv:=
 ⟨hS.at h.st (by simp),aG h.row hS (fun _ _=>by simp),h.kept.same hS (fun _ _ _ _=>by simp),h.cnt,fun v hv q hq=>by
  have h1:=h.sep v hv q hq;have:=hS.size;exact⟨h1.1,h1.2.1,by omega⟩,h.same.step hS (by simp),⟨by have:=h.kH.1;have:=hS.size;omega,h.kH.2⟩,h.zO,h.els⟩
theorem kQ.grow{w wr w':World}{S X:List Nat}{wb base:Nat}{xa xc xd:Value}{k:Nat}{L:List Value}{bv:Value}{len:Nat}(h:kQ w wr S X wb base xa xc xd k L bv){g' cap':Nat}{cs':List Value}(hS:Same [] wr w')(hg:wr.heap.size<=g')(hA:At w' g' 57 cs')(hc:len+1<=cap')(hl:cs'.length=cap'*6):tC w w' S X wb base xa xc xd k L bv g' (len+1) cap'/\nT L g' (len*6):=by
 have hwb:=h.st.lt;have hbl:∀q,bv.ownBlock=some q->q<wr.heap.size:=fun q hq=>(h.row.lt q hq).2
 have hno:∀v∈L,∀o' n c,v=.slice (some ⟨g',o',none⟩) n c->0<n->False:=fun v hv o' n c e hp=>by
  have:=(h.sep v hv g' ⟨o',n,c,e,hp⟩).2.2;omega
 have hw:=h.same.size;exact⟨⟨h.more hS,fun v hv o' n c e hp=>(hno v hv o' n c e hp).elim,⟨cs',hA,by omega,by omega⟩,hc,⟨by omega,fun e=>by have:=hbl g' e;omega,fun hx=>by omega⟩⟩,fun v hv o' n c e hp=>(hno v hv o' n c e hp).elim⟩
theorem kQ.keep{w wr w':World}{S X:List Nat}{wb base:Nat}{xa xc xd:Value}{k:Nat}{L:List Value}{bv bv':Value}{la:Option Addr}{gl off n c:Nat}(h:kQ w wr S X wb base xa xc xd k L bv)(hg:0<n->la=some ⟨gl,off,none⟩/\OQ wr gl off n/\gl≠wb/\bv.ownBlock≠some gl/\(gl<w.heap.size->gl∈S)/\nT L gl off)(hn2:n<=140737488355328)
 (hS:Same (wb::bv.ownBlock.toList) (jE wr gl off k n) w') (h1:At w' wb 31 [xa,xc,xd,bv']) (h2:w'.ownsRow base 47 1 bv' (k+1) (L++[.slice la n c])) (h3:bv'.ownBlock=bv.ownBlock\/∃q,bv'.ownBlock=some q/\wr.heap.size<=q) :
 kQ w w' S X wb base xa xc xd (k+1) (L++[.slice la n c]) bv'/\(∀q,q<wr.heap.size->bv.ownBlock≠some q->bv'.ownBlock≠some q):=by
 have hz:=EC wr gl off k n;have hsz:=hS.size;have hbl:∀q,bv.ownBlock=some q->q<wr.heap.size:=fun q hq=>(h.row.lt q hq).2
 have hmS:∀q∈wb::bv.ownBlock.toList,q=wb\/bv.ownBlock=some q:=fun q hq=>by
  rcases List.mem_cons.1 hq with e|e
  ·exact Or.inl e
  ·exact Or.inr (by simpa using e)
 have hk:VK (jE wr gl off k n) (L++[.slice la n c]):=by
  have:=h.kept.mark (g:=gl) (off:=off) (n:=n) (c:=c) (fun hp=>(hg hp).2.1) (fun hp=>(hg hp).2.2.2.2.2) hn2 la (fun hp=>(hg hp).1);rw[h.cnt]at this;exact this
 have hnb:∀v∈L++[.slice la n c],∀q,Uses v q->q≠wb/\bv.ownBlock≠some q/\q<wr.heap.size/\q∉X:=fun v hv q hq=>by
  rcases List.mem_append.1 hv with hv|hv
  ·have:=h.sep v hv q hq;exact⟨this.1,this.2.1,this.2.2,h.els.2 v hv q hq⟩
  ·rw[List.mem_singleton.1 hv]at hq;obtain⟨o,n',c',e,hp⟩:=hq;cases e;obtain⟨e1,⟨t,cs,hA,_⟩,e3,e4,e5,_⟩:=hg hp;cases e1;exact⟨e3,e4,hA.lt,fun hx=>(h.els.1 _ hx).2 (e5 (h.els.1 _ hx).1)⟩
 have hne:∀q,q<wr.heap.size->bv.ownBlock≠some q->bv'.ownBlock≠some q:=fun q hq hb e=>by
  rcases h3 with e'|⟨q',e',hq'⟩
  ·rw[e']at e;exact hb e
  ·rw[e']at e;cases e;omega
 refine⟨⟨h1,h2,hk.same hS (fun v hv q hq hm=>?_),by rw[List.length_append,h.cnt];rfl,fun v hv q hq=>?_,?_,⟨by have:=h.kH.1;omega,h.kH.2⟩,⟨h.zO.1,fun q hq hl=>?_⟩,h.els.1,fun v hv q hq=>(hnb v hv q hq).2.2.2⟩,hne⟩
 ·have:=hnb v hv q hq;rcases hmS q hm with e|e
  ·exact this.1 e
  ·exact this.2.1 e
 ·have:=hnb v hv q hq;exact⟨this.1,hne q this.2.2.1 this.2.1,by omega⟩
 ·have hfirst:Same S w (jE wr gl off k n):=by
   rcases Nat.eq_zero_or_pos n with h0|h0
   ·subst h0;exact h.same
   ·exact h.same.step (pW wr gl off k n) (fun q hq hl=>by rw[List.mem_singleton.1 hq];exact(hg h0).2.2.2.2.1 (by rw[<-List.mem_singleton.1 hq];exact hl))
  refine hfirst.step hS (fun q hq hl=>?_);rcases hmS q hq with e|e
  ·rw[e];exact h.zO.1 (by rw[<-e];exact hl)
  ·exact h.zO.2 q e hl
 ·rcases h3 with e'|⟨q',e',hq'⟩
  ·rw[e']at hq;exact h.zO.2 q hq hl
  ·rw[e']at hq;cases hq;have:=h.same.size;omega
theorem tC.kept'{w wr w':World}{S X:List Nat}{wb base:Nat}{xa xc xd:Value}{k:Nat}{L:List Value}{bv bv':Value}{gl len cap off n c:Nat}(h:tC w wr S X wb base xa xc xd k L bv gl len cap)(he:nT L gl off)(hn:off+n*6=len*6)(hn2:n<=140737488355328)
 (hS:Same (wb::bv.ownBlock.toList) (jE wr gl off k n) w') (h1:At w' wb 31 [xa,xc,xd,bv']) (h2:w'.ownsRow base 47 1 bv' (k+1) (L++[.slice (some ⟨gl,off,none⟩) n c])) (h3:bv'.ownBlock=bv.ownBlock\/∃q,bv'.ownBlock=some q/\wr.heap.size<=q) :
 tC w w' S X wb base xa xc xd (k+1) (L++[.slice (some ⟨gl,off,none⟩) n c]) bv' gl len cap:=by
 obtain⟨cs,hA,hl1,hl2⟩:=h.l;obtain⟨hO,hne⟩:=h.own.keep (fun _=>⟨rfl,⟨_,cs,hA,by omega⟩,h.o8.1,h.o8.2.1,h.o8.2.2,he⟩) hn2 hS h1 h2 h3;obtain⟨cs',a1,a2,_,_⟩:=wW hA off k n;refine⟨hO,fun v hv o' n' c' e hp=>?_,⟨cs',hS.at a1 (fun hm=>?_),by omega,by omega⟩,h.le,⟨h.o8.1,hne gl hA.lt h.o8.2.1,h.o8.2.2⟩⟩
 ·rcases List.mem_append.1 hv with hv|hv
  ·have:=h.ends v hv o' n' c' e hp;omega
  ·rw[List.mem_singleton.1 hv]at e;cases e;omega
 ·rcases List.mem_cons.1 hm with e|e
  ·exact h.o8.1 e
  ·exact h.o8.2.1 (by simpa using e)
theorem kQ.mark{w wr:World}{S X:List Nat}{wb base:Nat}{xa xc xd:Value}{k:Nat}{L:List Value}{ba:Option Addr}{bc:Nat}(h:kQ w wr S X wb base xa xc xd k L (.slice ba k bc))(la:Option Addr)(gl off n c:Nat)(hg:0<n->la=some ⟨gl,off,none⟩/\OQ wr gl off n/\gl≠wb/\(Value.slice ba k bc).ownBlock≠some gl/\(gl<w.heap.size->gl∈S)/\nT L gl off)(hn2:n<=140737488355328)(hk:k<=100000000) :
 Calls prog 38 #[.pointer (some ⟨wb,0,none⟩),.slice la n c] wr fun e w'=>e=.returned (.tuple #[])/\∃ba' bc',kQ w w' S X wb base xa xc xd (k+1) (L++[.slice la n c]) (.slice ba' (k+1) bc'):=by
 refine(y8 wr wb base xa xc xd ba bc k L la gl off n c h.st h.row h.kH.1 hk h.kH.2 (fun hp=>⟨(hg hp).1,(hg hp).2.1,(hg hp).2.2.1,(hg hp).2.2.2.1⟩) hn2).mono ?_;rintro e w' ⟨ba',bc',rfl,hS,q1,q2,q3⟩;exact⟨rfl,ba',bc',(h.keep hg hn2 hS q1 q2 q3).1⟩
theorem tC.mark{w wr:World}{S X:List Nat}{wb base:Nat}{xa xc xd:Value}{k:Nat}{L:List Value}{ba:Option Addr}{bc gl len cap:Nat}(h:tC w wr S X wb base xa xc xd k L (.slice ba k bc) gl len cap)(off n c:Nat)(he:nT L gl off)(hn:off+n*6=len*6)(hn2:n<=140737488355328)(hk:k<=100000000) :
 Calls prog 38 #[.pointer (some ⟨wb,0,none⟩),.slice (some ⟨gl,off,none⟩) n c] wr fun e w'=>e=.returned (.tuple #[])/\∃ba' bc',tC w w' S X wb base xa xc xd (k+1) (L++[.slice (some ⟨gl,off,none⟩) n c]) (.slice ba' (k+1) bc') gl len cap:=by
 obtain⟨cs,hA,h1,h2⟩:=h.l;refine(y8 wr wb base xa xc xd ba bc k L (some ⟨gl,off,none⟩) gl off n c h.own.st h.own.row h.own.kH.1 hk h.own.kH.2 (fun _=>⟨rfl,⟨_,cs,hA,by omega⟩,h.o8.1,h.o8.2.1⟩) hn2).mono ?_;rintro e w' ⟨ba',bc',rfl,hS,q1,q2,q3⟩;exact⟨rfl,ba',bc',h.kept' he hn hn2 hS q1 q2 q3⟩
def La(w wr:World)(S X:List Nat)(wb base:Nat)(xa xc xd:Value)(k:Nat)(L:List Value)(bv:Value)(la:Option Addr)(len cap:Nat):Prop:=
 (∃gl,la=some ⟨gl,0,none⟩/\tC w wr S X wb base xa xc xd k L bv gl len cap)\/(len=0/\cap=0/\kQ w wr S X wb base xa xc xd k L bv)
theorem La.mark{w wr:World}{S X:List Nat}{wb base:Nat}{xa xc xd:Value}{k:Nat}{L:List Value}{ba:Option Addr}{bc:Nat}{la:Option Addr}{n cap:Nat}(h:La w wr S X wb base xa xc xd k L (.slice ba k bc) la n cap)(he:∀gl,la=some ⟨gl,0,none⟩->0<n->nT L gl 0)(hn2:n<=140737488355328)(hk:k<=100000000) :
 Calls prog 38 #[.pointer (some ⟨wb,0,none⟩),.slice la n cap] wr fun e w'=>e=.returned (.tuple #[])/\∃ba' bc',La w w' S X wb base xa xc xd (k+1) (L++[.slice la n cap]) (.slice ba' (k+1) bc') la n cap:=by
 rcases h with⟨gl,rfl,h⟩|⟨rfl,rfl,h⟩
 ·refine(h.mark 0 n cap ?_ (by omega) hn2 hk).mono ?_
  ·intro v hv o n' c e hp;rcases Nat.eq_zero_or_pos n with h0|h0
   ·have:=h.ends v hv o n' c e hp;omega
   ·exact he gl rfl h0 v hv o n' c e hp
  ·rintro e w' ⟨rfl,ba',bc',h'⟩;exact⟨rfl,ba',bc',Or.inl ⟨gl,rfl,h'⟩⟩
 ·refine(h.mark la 0 0 0 0 (fun hp=>absurd hp (by omega)) hn2 hk).mono ?_;rintro e w' ⟨rfl,ba',bc',h'⟩;exact⟨rfl,ba',bc',Or.inr ⟨rfl,rfl,h'⟩⟩
theorem La.own{w wr:World}{S X:List Nat}{wb base:Nat}{xa xc xd:Value}{k:Nat}{L:List Value}{bv:Value}{la:Option Addr}{n cap:Nat}(h:La w wr S X wb base xa xc xd k L bv la n cap):kQ w wr S X wb base xa xc xd k L bv:=by
 rcases h with⟨_,_,h⟩|⟨_,_,h⟩
 ·exact h.own
 ·exact h
theorem Ci(w:World)(S X:List Nat)(wb base:Nat)(xa xc xd:Value)(ba:Option Addr)(bc k:Nat)(L:List Value)(la:Option Addr)(n:Nat)(h:La w w S X wb base xa xc xd k L (.slice ba k bc) la n n)(he:∀gl,la=some ⟨gl,0,none⟩->0<n->nT L gl 0)(hn:n<=100000000)(hk:k<=50000000) :
 Calls prog 20 #[.pointer (some ⟨wb,0,none⟩),.slice la n n] w fun e w'=>e=.returned (.tuple #[])/\∃L' ba' bc',kQ w w' S X wb base xa xc xd (k+5) (L++L') (.slice ba' (k+5) bc'):=by
 obtain⟨i0,hi,hz0,hz1,hz2⟩:=info_parts Tryz.info57;have hM:=h.mark he (by omega) (by omega);clear h he
 go_enter func20,ntmps20
 go_wp2_with fail
 refine hM.mono ?_;rintro e w1 ⟨rfl,ba1,bc1,hO⟩;have HO:Hid (La w w1 S X wb base xa xc xd (k+1) (L++[.slice la n n]) (.slice ba1 (k+1) bc1) la n n):=hO;clear hM hO;dsimp only
 go_wp2_with fail
 go_loopw [1,4,5] (fun lv i _ wr=>∃(j p cap:Nat)(la:Option Addr)(L':List Value)(ba':Option Addr)(bc':Nat),lv=.slice la p cap/\i=.int .i64 j/\j<=4/\p<=100000004/\Hid (p=n+j)/\Hid (La w wr S X wb base xa xc xd (k+1+j) (L++L') (.slice ba' (k+1+j) bc') la p cap)) (fun _ i _ _=>4-(intOf i).toNat)
 case atStart=>exact⟨0,n,n,la,_,ba1,bc1,rfl,rfl,by omega,by omega,rfl,HO.out⟩
 case round=>
  obtain⟨j,p,cap,la,L',ba2,bc2,rfl,rfl,hj,hp,HP,HI⟩:=hrel;by_cases hj8:j<4
  ·have lj:(j:Int)<4:=by omega
   have HPL:Hid (p+1<=100000004):=by have:=HP.out;show _<=_;omega
   clear HO
   go_upto_region 5 with fail
   go_cut [1] (fun lv wd=>∃gl' cap',lv=.slice (some ⟨gl',0,none⟩) (p+1) cap'/\Hid (tC w wd S X wb base xa xc xd (k+1+j) (L++L') (.slice ba2 (k+1+j) bc2) gl' (p+1) cap'/\nT (L++L') gl' (p*6)))
   case first=>
    rcases HI.out with⟨gl,rfl,hI⟩|⟨rfl,rfl,hI⟩
    ·obtain⟨cs,hA,q1,q2⟩:=hI.l;have hle:=hI.le;have HA:Hid (At wr gl 57 cs/\p*6<=cs.length/\cap*6<=cs.length):=⟨hA,q1,q2⟩
     have HI2:Hid (tC w wr S X wb base xa xc xd (k+1+j) (L++L') (.slice ba2 (k+1+j) bc2) gl p cap):=hI;clear hA q1 q2 hI HI
     go_wp2_with (at_builtin;refine wpList_append_arg _ rfl _ _ 47 rfl 57 i0 (.agg #[.string ⟨#[]⟩,.int .i64 0,.string ⟨#[]⟩,.int .i64 0,.int .i64 0,.bool false]) 6 64 underlying47 hi hz0 hz1 hz2 rfl (by decide) gl 0 p cap (cs.take (p*6)) rfl ?n0 ?n1 ⟨wr.heap.size,0,none⟩ 1 1 [.string ⟨#[]⟩,.int .i64 0,.string ⟨#[]⟩,.int .i64 0,.int .i64 0,.bool false] rfl rfl ?n2 ?c2 ?c3 ?c4 ?c5 ?r1 ?r2)
     case n0=>rw[List.length_take];have:=HA.out.2.1;omega
     case n1=>
      intro i u hi';rw[Nat.zero_add,(HA.out.1.alloc _).cell?];rw[List.getElem?_take]at hi';by_cases e:i<p*6
      ·rw[if_pos e]at hi';exact hi'
      ·rw[if_neg e]at hi';cases hi'
     case n2=>
      intro i u hi';rw[Addr.add_lit,Nat.zero_add,World.cell?_alloc_at _ _ _ _ rfl,<-hi'];simp
     case c2=>intro u hu;simp only[List.mem_cons,List.not_mem_nil,or_false]at hu;rcases hu with rfl|rfl|rfl|rfl|rfl|rfl<;>rfl
     case c3=>
      intro hr i hi';have h0:i<6:=hi';have hlt:0+p*6+i<cs.length:=by have:=HA.out.2.2;omega
      rw[(HA.out.1.alloc _).cell?,List.getElem?_eq_getElem hlt];exact⟨rfl,(HA.out.1.alloc _).frozen _⟩
     case c4=>unfold maxLen;omega
     case c5=>omega
     case r1=>
      intro hr;have HF2:Hid (tC w ((wr.alloc (.cells #[.string ⟨#[]⟩,.int .i64 0,.string ⟨#[]⟩,.int .i64 0,.int .i64 0,.bool false] 57)).setCells gl (p*6) [.string ⟨#[]⟩,.int .i64 0,.string ⟨#[]⟩,.int .i64 0,.int .i64 0,.bool false]) S X wb base xa xc xd (k+1+j) (L++L') (.slice ba2 (k+1+j) bc2) gl (p+1) cap/\nT (L++L') gl (p*6)):=HI2.out.room (.cells #[.string ⟨#[]⟩,.int .i64 0,.string ⟨#[]⟩,.int .i64 0,.int .i64 0,.bool false] 57) hr [.string ⟨#[]⟩,.int .i64 0,.string ⟨#[]⟩,.int .i64 0,.int .i64 0,.bool false];clear HA
      go_wp2_with fail
      go_meet
      case rel=>exact⟨gl,cap,rfl,HF2⟩
     case r2=>
      intro hr v' w' hown hgr;obtain⟨a6,c6,rfl⟩:=ak hown;have b3:=oQ hown;obtain⟨g',cs',rfl,b1,b2,b4,b5⟩:=iw hown (by omega);have hg':wr.heap.size<=g':=by
       have:wr.heap.size+1<=g':=by simpa using b1
       omega
      have HF:Hid (tC w w' S X wb base xa xc xd (k+1+j) (L++L') (.slice ba2 (k+1+j) bc2) g' (p+1) c6/\nT (L++L') g' (p*6)):=HI2.out.own.grow (((Same.refl [] wr).alloc _).grown hgr (fun q hq _=>by cases hq)) hg' b2 b3 b4;clear hown hgr b1 b2 b3 b4 b5 HA hg'
      go_wp2_with fail
      go_meet
      case rel=>exact⟨g',c6,rfl,HF⟩
    ·have HI2:Hid (kQ w wr S X wb base xa xc xd (k+1+j) (L++L') (.slice ba2 (k+1+j) bc2)):=hI;clear hI HI
     go_wp2_with (at_builtin;refine wpList_append_grows _ rfl _ _ 47 rfl 57 i0 (.agg #[.string ⟨#[]⟩,.int .i64 0,.string ⟨#[]⟩,.int .i64 0,.int .i64 0,.bool false]) 6 64 underlying47 hi hz0 hz1 hz2 rfl (by decide) la 0 0 [] rfl (fun _=>⟨rfl,rfl⟩) rfl (fun _ _ i u hi'=>by simp at hi') ⟨wr.heap.size,0,none⟩ 1 1 [.string ⟨#[]⟩,.int .i64 0,.string ⟨#[]⟩,.int .i64 0,.int .i64 0,.bool false] rfl rfl ?n2 ?c2 (by omega) ?c4 ?c5 ?r2)
     case n2=>
      intro i u hi';rw[Addr.add_lit,Nat.zero_add,World.cell?_alloc_at _ _ _ _ rfl,<-hi'];simp
     case c2=>intro u hu;simp only[List.mem_cons,List.not_mem_nil,or_false]at hu;rcases hu with rfl|rfl|rfl|rfl|rfl|rfl<;>rfl
     case c4=>unfold maxLen;omega
     case c5=>omega
     case r2=>
      intro v' w' hown hgr;obtain⟨a6,c6,rfl⟩:=ak hown;have b3:=oQ hown;obtain⟨g',cs',rfl,b1,b2,b4,b5⟩:=iw hown (by omega);have hg':wr.heap.size<=g':=by
       have:wr.heap.size+1<=g':=by simpa using b1
       omega
      have HF:Hid (tC w w' S X wb base xa xc xd (k+1+j) (L++L') (.slice ba2 (k+1+j) bc2) g' (0+1) c6/\nT (L++L') g' (0*6)):=HI2.out.grow (((Same.refl [] wr).alloc _).grown hgr (fun q hq _=>by cases hq)) hg' b2 b3 b4;clear hown hgr b1 b2 b3 b4 b5 hg'
      go_wp2_with fail
      go_meet
      case rel=>exact⟨g',c6,rfl,HF⟩
   case rest=>
    obtain⟨gl',cap',rfl,HC⟩:=hcut;have hM:=HC.out.1.mark (p*6) 1 (cap'-p) HC.out.2 (by omega) (by omega) (by omega);have hlc:=HC.out.1.le;have s1:(p:Int)<=((p+1:Nat):Int):=by omega
    have s2:(0:Int)<=(p:Int):=by omega
    have s3:p+1-p=1:=by omega
    have s4:¬(cap'=p):=by omega
    have s5:(p:Int)<=(p:Int)+1:=by omega
    clear HI HC
    go_wp2_with fail
    refine hM.mono ?_;rintro e w5 ⟨rfl,ba5,bc5,hO⟩;have HF:Hid (tC w w5 S X wb base xa xc xd (k+1+(j+1)) (L++(L'++[.slice (some ⟨gl',p*6,none⟩) 1 (cap'-p)])) (.slice ba5 (k+1+(j+1)) bc5) gl' (p+1) cap'):=by
     rw[<-List.append_assoc];exact hO
    have HP1:Hid (p+1=n+(j+1)):=by have:=HP.out;show _=_;omega
    have hpl:=HPL.out;clear hO hM HP;dsimp only
    go_wp2
    go_roundw
    case rel=>exact⟨j+1,p+1,cap',some ⟨gl',0,none⟩,_,ba5,bc5,by first|rfl|(simp;done),by go_num,by omega,hpl,HP1.out,Or.inl ⟨gl',rfl,HF.out⟩⟩
    case measure=>simp[intOf];omega
  ·obtain rfl:j=4:=by omega
   have HF:Hid (kQ w wr S X wb base xa xc xd (k+5) (L++L') (.slice ba2 (k+5) bc2)):=HI.out.own;clear HI HO
   go_wp2_with fail
   go_end0
   exact⟨rfl,L',ba2,bc2,HF.out⟩
structure jR(w:World)(wb:Nat)(xa bv nv vv:Value)(kb kn kv:Nat)(Lb Ln Lv:List Value):Prop where
 st:At w wb 31 [xa,bv,nv,vv]
 rb:∃base,w.ownsRow base 41 1 bv kb Lb
 rn:∃base,w.ownsRow base 51 1 nv kn Ln
 rv:∃base,w.ownsRow base 47 1 vv kv Lv
 bk:BK w Lb
 nk:NK w Ln
 vk:VK w Lv
theorem jR.new{w w':World}{wb:Nat}{xa bv nv vv:Value}{kb kn kv:Nat}{Lb Ln Lv:List Value}(h:jR w wb xa bv nv vv kb kn kv Lb Ln Lv)(hS:Same [] w w'):jR w' wb xa bv nv vv kb kn kv Lb Ln Lv:=by
 obtain⟨b1,r1⟩:=h.rb;obtain⟨b2,r2⟩:=h.rn;obtain⟨b3,r3⟩:=h.rv;exact⟨hS.at h.st (by simp),⟨b1,aG r1 hS (by simp)⟩,⟨b2,aG r2 hS (by simp)⟩,⟨b3,aG r3 hS (by simp)⟩,h.bk.same hS (by simp),h.nk.same hS (by simp),h.vk.same hS (by simp)⟩
theorem vV{w:World}{base:Nat}{e:TypeId}{a:Option Addr}{cap n:Nat}{L:List Value}(h:w.ownsRow base e 1 (.slice a n cap) n L)(k:Nat)(hk:k<n):∃g v,a=some ⟨g,0,none⟩/\L[k]? = some v/\w.cell? ⟨g,k,none⟩=some v:=by
 obtain⟨g,cs,rfl,h1,h2,h3,h4,h5⟩:=jk h (by omega);have hl:k<cs.length:=by omega
 refine⟨g,cs[k],rfl,?_,by rw[h2.cell?,List.getElem?_eq_getElem hl]⟩;rw[<-h5,List.getElem?_take,if_pos hk,List.getElem?_eq_getElem hl]
theorem jR.bytes{w:World}{wb:Nat}{xa nv vv:Value}{ba:Option Addr}{bc kb kn kv:Nat}{Lb Ln Lv:List Value}(h:jR w wb xa (.slice ba kb bc) nv vv kb kn kv Lb Ln Lv)(k:Nat)(hk:k<kb) :
 ∃g la n c,ba=some ⟨g,0,none⟩/\w.cell? ⟨g,k,none⟩=some (.slice la n c)/\n<=140737488355328/\∀i,i<n->∃ge off,la=some ⟨ge,off,none⟩/\w.cell? ⟨ge,off+i,none⟩=some (.int .u8 (kL k i:Nat)):=by
 obtain⟨b1,r1⟩:=h.rb;obtain⟨g,v,h1,h2,h3⟩:=vV r1 k hk;obtain⟨la,n,c,rfl,h4,h5⟩:=h.bk.each k v h2;refine⟨g,la,n,c,h1,h3,h4,fun i hi=>?_⟩;obtain⟨ge,off,t,cs,q1,q2,q3,q4⟩:=h5 (by omega);exact⟨ge,off,q1,by rw[q2.cell?];exact q4 i hi⟩
theorem jR.numbers{w:World}{wb:Nat}{xa bv vv:Value}{ba:Option Addr}{bc kb kn kv:Nat}{Lb Ln Lv:List Value}(h:jR w wb xa bv (.slice ba kn bc) vv kb kn kv Lb Ln Lv)(k:Nat)(hk:k<kn) :
 ∃g la n c,ba=some ⟨g,0,none⟩/\w.cell? ⟨g,k,none⟩=some (.slice la n c)/\n<=140737488355328/\∀i,i<n->∃ge off,la=some ⟨ge,off,none⟩/\w.cell? ⟨ge,off+i,none⟩=some (.int .i64 (-1-(k:Int))):=by
 obtain⟨b1,r1⟩:=h.rn;obtain⟨g,v,h1,h2,h3⟩:=vV r1 k hk;obtain⟨la,n,c,rfl,h4,h5⟩:=h.nk.each k v h2;refine⟨g,la,n,c,h1,h3,h4,fun i hi=>?_⟩;obtain⟨ge,off,t,cs,q1,q2,q3,q4⟩:=h5 (by omega);exact⟨ge,off,q1,by rw[q2.cell?];exact q4 i hi⟩
theorem jR.WB{w:World}{wb:Nat}{xa bv nv:Value}{ba:Option Addr}{bc kb kn kv:Nat}{Lb Ln Lv:List Value}(h:jR w wb xa bv nv (.slice ba kv bc) kb kn kv Lb Ln Lv)(k:Nat)(hk:k<kv) :
 ∃g la n c,ba=some ⟨g,0,none⟩/\w.cell? ⟨g,k,none⟩=some (.slice la n c)/\n<=140737488355328/\∀i,i<n->∃ge off,la=some ⟨ge,off,none⟩/\∀j,j<6->w.cell? ⟨ge,off+i*6+j,none⟩=(Hq k)[j]?:=by
 obtain⟨b1,r1⟩:=h.rv;obtain⟨g,v,h1,h2,h3⟩:=vV r1 k hk;obtain⟨la,n,c,rfl,h4,h5⟩:=h.vk.each k v h2;refine⟨g,la,n,c,h1,h3,h4,fun i hi=>?_⟩;obtain⟨ge,off,t,cs,q1,q2,q3,q4⟩:=h5 (by omega);exact⟨ge,off,q1,fun j hj=>by rw[q2.cell?];exact q4 i hi j hj⟩
theorem jm{w W:World}(h:Same [] w W){a:Addr}{u:Value}(hu:w.cell? a=some u):W.cell? a=some u:=by
 have hb:=h.below (Nat.le_refl _) (by simp);rw[hb.cell (World.block_lt_of_cell? w _ hu)];exact hu
theorem KP(w:World)(wb:Nat)(xa:Value)(ba na va:Option Addr)(bc nc vc kb kn kv:Nat)(Lb Ln Lv:List Value)(h:jR w wb xa (.slice ba kb bc) (.slice na kn nc) (.slice va kv vc) kb kn kv Lb Ln Lv)(hb:kb<=100000000)(hn:kn<=100000000)(hv:kv<=100000000) :
 Calls prog 10 #[.pointer (some ⟨wb,0,none⟩)] w fun e w'=>e=.returned (.bool true)/\Same [] w w':=by
 have HS:Hid (∀W,Same [] w W->jR W wb xa (.slice ba kb bc) (.slice na kn nc) (.slice va kv vc) kb kn kv Lb Ln Lv):=fun W hW=>h.new hW
 clear h
 go_enter func10,ntmps10
 go_wp2_with fail
 go_loopw [3,4] (fun kk _ wr=>∃k:Nat,kk=.int .i64 k/\k<=kb/\Hid (Same [] w wr)) (fun kk _ _=>kb-(intOf kk).toNat)
 case atStart=>exact⟨0,rfl,Nat.zero_le _,Same.refl _ _⟩
 case round=>
  obtain⟨k,rfl,hk,HW⟩:=hrel;have hA:=HS.out wr HW.out;have c0:wr.cell? ⟨wb,1,none⟩=some (.slice ba kb bc):=hA.st.cell? 1;by_cases hkl:k<kb
  ·obtain⟨g,la,n,c,rfl,c1,hn1,hcell⟩:=hA.bytes k hkl;have lk:(k:Int)<(kb:Int):=by omega
   have HC:Hid (∀W,Same [] wr W->W.cell? ⟨wb,1,none⟩=some (.slice (some ⟨g,0,none⟩) kb bc)/\W.cell? ⟨g,k,none⟩=some (.slice la n c)/\∀i,i<n->∃ge off,la=some ⟨ge,off,none⟩/\W.cell? ⟨ge,off+i,none⟩=some (.int .u8 (kL k i:Nat))):=fun W hW=>
    ⟨jm hW c0,jm hW c1,fun i hi=>by obtain⟨ge,off,e1,e2⟩:=hcell i hi;exact⟨ge,off,e1,jm hW e2⟩⟩
   clear hA hcell
   go_wp2_with fail
   go_loopw [4] (fun ii wr2=>∃m:Nat,ii=.int .i64 m/\m<=n/\Hid (Same [] wr wr2)) (fun ii _=>n-(intOf ii).toNat)
   case atStart=>exact⟨0,rfl,Nat.zero_le _,Same.refl _ _⟩
   case round=>
    obtain⟨m,rfl,hm,HW2⟩:=hrel;obtain⟨d0,d1,dc⟩:=HC.out wr HW2.out;by_cases hml:m<n
    ·obtain⟨ge,off,rfl,d2⟩:=dc m hml;have lm:(m:Int)<(n:Int):=by omega
     have hd:=fun W=>zu k m W (by omega) (by omega)
     have hdl:=FB k m;generalize kL k m=dg at *;clear dc HC c0 c1;have hK:wr.cell? ⟨wb,1,none⟩=some (.slice (some ⟨g,0,none⟩) kb bc)/\wr.cell? ⟨g,k,none⟩=some (.slice (some ⟨ge,off,none⟩) n c)/\wr.cell? ⟨ge,off+m,none⟩=some (.int .u8 (dg:Nat)):=⟨d0,d1,d2⟩
     go_wp2_with fail
     go_region_held3 (fun w'=>w'.cell? ⟨wb,1,none⟩=some (.slice (some ⟨g,0,none⟩) kb bc)/\w'.cell? ⟨g,k,none⟩=some (.slice (some ⟨ge,off,none⟩) n c)/\w'.cell? ⟨ge,off+m,none⟩=some (.int .u8 (dg:Nat))) (first|assumption|exact hK) (first|(go_at_call 23;refine(hd _).mono ?_;rintro e w3 ⟨rfl,hw⟩;obtain rfl:=hw.symm))
     go_wp2
     go_roundw
     case rel=>exact⟨m+1,by go_num,by omega,HW2.out.drew⟩
     case measure=>simp[intOf];omega
    ·have lm:(n:Int)<=(m:Int):=by omega
     obtain rfl:m=n:=by omega
     clear dc HC c0 c1
     go_wp2
     go_roundw
     case rel=>exact⟨k+1,by go_num,by omega,HW.out.step HW2.out (by simp)⟩
     case measure=>simp[intOf];omega
  ·have lk:(kb:Int)<=(k:Int):=by omega
   obtain rfl:k=kb:=by omega
   clear hA;have HW0:Hid (Same [] w wr):=HW.out;clear HW
   go_wp2_with fail
   clear c0
   go_loopw [5,6] (fun kk _ wr=>∃k:Nat,kk=.int .i64 k/\k<=kn/\Hid (Same [] w wr)) (fun kk _ _=>kn-(intOf kk).toNat)
   case atStart=>exact⟨0,rfl,Nat.zero_le _,HW0.out⟩
   case round=>
    obtain⟨k,rfl,hk,HW⟩:=hrel;have hA:=HS.out wr HW.out;have c0:wr.cell? ⟨wb,2,none⟩=some (.slice na kn nc):=hA.st.cell? 2;by_cases hkl:k<kn
    ·obtain⟨g,la,n,c,rfl,c1,hn1,hcell⟩:=hA.numbers k hkl;have lk:(k:Int)<(kn:Int):=by omega
     have HC:Hid (∀W,Same [] wr W->W.cell? ⟨wb,2,none⟩=some (.slice (some ⟨g,0,none⟩) kn nc)/\W.cell? ⟨g,k,none⟩=some (.slice la n c)/\∀i,i<n->∃ge off,la=some ⟨ge,off,none⟩/\W.cell? ⟨ge,off+i,none⟩=some (.int .i64 (-1-(k:Int)))):=fun W hW=>
      ⟨jm hW c0,jm hW c1,fun i hi=>by obtain⟨ge,off,e1,e2⟩:=hcell i hi;exact⟨ge,off,e1,jm hW e2⟩⟩
     have hw1:IntKind.i64.wrap (-1-(k:Int))=-1-(k:Int):=IntWalk.i64_in _ (by omega);clear hA hcell
     go_wp2_with fail
     go_loopw [6] (fun ii wr2=>∃m:Nat,ii=.int .i64 m/\m<=n/\Hid (Same [] wr wr2)) (fun ii _=>n-(intOf ii).toNat)
     case atStart=>exact⟨0,rfl,Nat.zero_le _,Same.refl _ _⟩
     case round=>
      obtain⟨m,rfl,hm,HW2⟩:=hrel;obtain⟨d0,d1,dc⟩:=HC.out wr HW2.out;by_cases hml:m<n
      ·obtain⟨ge,off,rfl,d2⟩:=dc m hml;have lm:(m:Int)<(n:Int):=by omega
       clear dc HC c0 c1
       go_wp2
       go_roundw
       case rel=>exact⟨m+1,by go_num,by omega,HW2.out⟩
       case measure=>simp[intOf];omega
      ·have lm:(n:Int)<=(m:Int):=by omega
       obtain rfl:m=n:=by omega
       clear dc HC c0 c1
       go_wp2
       go_roundw
       case rel=>exact⟨k+1,by go_num,by omega,HW.out.step HW2.out (by simp)⟩
       case measure=>simp[intOf];omega
    ·have lk:(kn:Int)<=(k:Int):=by omega
     obtain rfl:k=kn:=by omega
     clear hA;have HW0:Hid (Same [] w wr):=HW.out;clear HW
     go_wp2_with fail
     clear c0
     go_loopw [7,8,9] (fun kk _ _ wr=>∃k:Nat,kk=.int .i64 k/\k<=kv/\Hid (Same [] w wr)) (fun kk _ _ _=>kv-(intOf kk).toNat)
     case atStart=>exact⟨0,rfl,Nat.zero_le _,HW0.out⟩
     case round=>
      obtain⟨k,rfl,hk,HW⟩:=hrel;have hA:=HS.out wr HW.out;have c0:wr.cell? ⟨wb,3,none⟩=some (.slice va kv vc):=hA.st.cell? 3;by_cases hkl:k<kv
      ·obtain⟨g,la,n,c,rfl,c1,hn1,hcell⟩:=hA.WB k hkl;have lk:(k:Int)<(kv:Int):=by omega
       have HC:Hid (∀W,Same [] wr W->W.cell? ⟨wb,3,none⟩=some (.slice (some ⟨g,0,none⟩) kv vc)/\W.cell? ⟨g,k,none⟩=some (.slice la n c)/\∀i,i<n->∃ge off,la=some ⟨ge,off,none⟩/\∀j,j<6->W.cell? ⟨ge,off+i*6+j,none⟩=(Hq k)[j]?):=fun W hW=>
        ⟨jm hW c0,jm hW c1,fun i hi=>by
         obtain⟨ge,off,e1,e2⟩:=hcell i hi;refine⟨ge,off,e1,fun j hj=>?_⟩;have hl:(Hq k)[j]? = some ((Hq k)[j]'(by exact hj)):=List.getElem?_eq_getElem _;rw[hl];exact jm hW ((e2 j hj).trans hl)⟩
       have hw1:IntKind.i64.wrap (-1-(k:Int))=-1-(k:Int):=IntWalk.i64_in _ (by omega);clear hA hcell
       go_wp2_with fail
       go_loopw [8,9] (fun ii _ wr2=>∃m:Nat,ii=.int .i64 m/\m<=n/\Hid (Same [] wr wr2)) (fun ii _ _=>n-(intOf ii).toNat)
       case atStart=>exact⟨0,rfl,Nat.zero_le _,Same.refl _ _⟩
       case round=>
        obtain⟨m,rfl,hm,HW2⟩:=hrel;obtain⟨d0,d1,dc⟩:=HC.out wr HW2.out;by_cases hml:m<n
        ·obtain⟨ge,off,rfl,d2⟩:=dc m hml;have lm:(m:Int)<(n:Int):=by omega
         have a0:wr.cell? ⟨ge,off+m*6,none⟩=some (.string ⟨#[]⟩):=d2 0 (by omega);have a1:wr.cell? ⟨ge,off+m*6+1,none⟩=some (.int .i64 (-1-(k:Int))):=d2 1 (by omega);have a2:wr.cell? ⟨ge,off+m*6+2,none⟩=some (.string ⟨#[]⟩):=d2 2 (by omega);have a3:wr.cell? ⟨ge,off+m*6+3,none⟩=some (.int .i64 0):=d2 3 (by omega);have a4:wr.cell? ⟨ge,off+m*6+4,none⟩=some (.int .i64 0):=d2 4 (by omega);have a5:wr.cell? ⟨ge,off+m*6+5,none⟩=some (.bool false):=d2 5 (by omega);clear dc HC c0 c1 d2
         go_wp2
         go_roundw
         case rel=>exact⟨m+1,by go_num,by omega,HW2.out.alloc _⟩
         case measure=>simp[intOf];omega
        ·have lm:(n:Int)<=(m:Int):=by omega
         obtain rfl:m=n:=by omega
         clear dc HC c0 c1
         go_wp2
         go_roundw
         case rel=>exact⟨k+1,by go_num,by omega,HW.out.step HW2.out (by simp)⟩
         case measure=>simp[intOf];omega
      ·have lk:(kv:Int)<=(k:Int):=by omega
       obtain rfl:k=kv:=by omega
       clear hA;have HW0:Hid (Same [] w wr):=HW.out;clear HW
       go_wp2
       go_ret
       exact⟨rfl,HW0.out⟩
end
end Go.Proofs.YtpddgdjocffgdaaGreat
