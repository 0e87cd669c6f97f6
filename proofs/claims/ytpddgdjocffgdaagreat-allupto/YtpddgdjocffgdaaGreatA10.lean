/- Packed: see the last text. -/
import Derived.Test.YtpddgdjocffgdaaGreatA08
import Derived.Test.YtpddgdjocffgdaaGreatA09
import Derived.Test.YtpddgdjocffgdaaGreatA02
import Derived.Test.YtpddgdjocffgdaaGreatA04
import Derived.Lib.AppendStr
import Derived.ArgAppend
import Derived.Lib.SmallJoins
namespace Go.Proofs.YtpddgdjocffgdaaGreat
open Go.Proofs.Tryz
set_option linter.unusedVariables false
set_option linter.unusedSimpArgs false
set_option linter.unusedSectionVars false
set_option maxHeartbeats 16000000
set_option maxRecDepth 100000
section
open Go.RowKit Go.Sort
variable [DecidableEq aN] [Inhabited aN] [Inhabited aF]
theorem yU(i:Nat)(l:List aF)(h:i<l.length):aC i l[i]! l=l:=by
 unfold aC;rw[getElem!_pos l i h,<-List.drop_eq_getElem_cons h,List.take_append_drop]
theorem IY(s:St)(fr:List Nat)(t:ByteArray)(k:Nat)(w:World)(h:ai w s)(hG:Good s fr)(hd:Head s t w)(hk:k=(s.aA t).xs.length) :
 Calls prog 53 #[.pointer (some ⟨s.pb,0,none⟩),.string t,.int .i64 k] w fun e w'=>e=.returned (.int .i64 0)/\After w s w' s fr:=by
 have hs0:=(h.af _ (St.aT hd.has).1).small;have hxp:1<=(s.aA t).xs.length:=by have:=(h.af _ (St.aT hd.has).1).pos;cases hx:(s.aA t).xs<;>simp_all
 have hi:=hd.has;have hf:=dM s t w h hi;have hmem:=(St.aT hi).1;have hpos:=(St.aT hi).2.2;have hv:=h.af _ hmem;have hs:=hv.small;obtain⟨cs,hr⟩:=hv.row;have hI:=aJ (s.aA t) w hv;rw[hd.org]at hI;have hPc:=bZ s (s.aA t) w h hmem;rw[hd.dN]at hPc;have hC:=fun W=>eH k W
 rw[decide_eq_true (by omega:(1:Int)<=k/\(k:Int)<=200)]at hC;have hZ:=fun W (hW:Same [] w W)=>kV (s.aA t) W (hv.new hW) hd.org
 have hnot:=bP;obtain⟨cap,hp,_,_⟩:=h.pool;obtain⟨ap1,ap2,ap3,ap4⟩:=h.apart hmem;have SC:=fun W (hW:Same [] w W)=>PW (s.aA t) k W (hv.new hW) hd.org (by omega) hk
 have yL:=fun W (hW:Same [(s.aA t).vb] w W) u hu=>nS s.db s.bb s.fb s.n s.m (s.aA t).gb 0 0 s.bl s.d [] (some ⟨(s.aA t).gb,0,none⟩) 3 cs W _ u rfl hu
  (h.disk.same hW (by simp at ap2 ⊢;exact fun e=>ap2.1 e.symm) (by simp at ap2 ⊢;exact fun e=>ap2.2.1 e.symm) (by simp at ap2 ⊢;exact fun e=>ap2.2.2 e.symm)) (fun hne=>absurd rfl hne)
  (fun j hj=>by simp at hj) (fun x hx=>by simp at hx) (by simp;exact h.disk.le)
 have hpd:∀W,Same [(s.aA t).vb] w W->W.cell? ⟨s.pb,1,none⟩=some (.pointer (some ⟨s.db,0,none⟩)):=fun W hW=>(hW.at hp (by simp[ap3])).cell? 1
 have HC1:Hid (∀W,Same [] w W->W.cell? ⟨s.pb,1,none⟩=some (.pointer (some ⟨s.db,0,none⟩))):=fun W hW=>(hW.at hp (by simp)).cell? 1
 have H:Hid (ai w s/\Good s fr):=⟨h,hG⟩
 have HK:Hid (k=(s.aA t).xs.length):=hk;clear h hG hv hr hp hd;have l1:(k:Int)<=((s.aA t).xs.length:Int):=by omega
 clear hk
 go_enter func53,ntmps53
 go_wp2_with (first|(go_at_call 77;refine hf.mono ?_;rintro e w' ⟨rfl,hw⟩;obtain rfl:=hw.symm)|(go_at_call 88;refine hI.mono ?_;rintro e w' ⟨rfl,hw⟩;obtain rfl:=hw.symm)|(go_at_call 93;refine hPc.mono ?_;rintro e wp ⟨sl,rfl,hown,S0⟩;obtain⟨ag,zZ,rfl⟩:=ak hown)|(go_at_call 42;refine(hC _).mono ?_;rintro e w' ⟨rfl,hw⟩;obtain rfl:=hw.symm)|(go_at_call 94;refine(hZ _ (by assumption)).mono ?_;rintro e w' ⟨rfl,hw⟩;obtain rfl:=hw.symm))
 have p0:=HC1.out _ S0
 go_region_with (first|(go_at_call 96;refine(SC _ (S0.drew)).mono ?_;rintro e w2 ⟨rfl,V2,S2⟩;have SS:Same [(s.aA t).vb] w w2:=(S0.drew.mono (T:=[(s.aA t).vb]) (by simp)).step S2 (by simp);have p2:=hpd w2 SS)|(go_at_call 95;refine(yL w2 SS _ (by rfl)).mono ?_;rintro e w3 ⟨rfl,D3,S3⟩))
 all_goals
  obtain⟨h,hG⟩:=H.out;have ev:({ (s.aA t) with xs:=(s.aA t).xs.take k }:aF)=s.aA t:=by rw[HK.out,List.take_length]
  rw[ev]at V2;have hP2:=pX h (posOf s.names t) hpos (s.aA t) rfl rfl rfl (fun q hq=>Or.inl hq) V2 (SS.mono (by intro q hq _;simp at hq;rw[hq];exact List.mem_cons_self));have es:aC (posOf s.names t) (s.aA t) s.af=s.af:=yU _ _ hpos;rw[es]at hP2;have hP3:=hP2.jO S3 (by intro q hq;simp at hq;rcases hq with e|e|e<;>simp[e]) D3;have hvf:(s.aA t).vb∈s.foot:=s.bH hmem (by simp[aF.foot]);have jT:After w s w3 s fr:=
   ⟨hP3,hG,(SS.mono (T:=s.foot) (by simp;exact fun _=>hvf)).step S3 (by simp[St.foot]),fun j hj=>Or.inl hj,rfl,rfl⟩
  clear hP3 hP2 V2 D3 S3 S2 SS h hG yL SC hpd
  go_wp2
  go_ret
  exact⟨rfl,jT⟩
theorem IX(s:St)(fr:List Nat)(t:ByteArray)(k:Nat)(w:World)(h:ai w s)(hG:Good s fr)(hd:Head s t w)(hk:(s.aA t).xs.length<k/\k<=200)(hf':fr.length<k-(s.aA t).xs.length) :
 Calls prog 53 #[.pointer (some ⟨s.pb,0,none⟩),.string t,.int .i64 k] w fun e w'=>e=.returned (.int .i64 6)/\∃d',After w s w' { s with d:=d' } fr:=by
 have hi:=hd.has;have hf:=dM s t w h hi;have hmem:=(St.aT hi).1;have hpos:=(St.aT hi).2.2;have hv:=h.af _ hmem;have hs:=hv.small;obtain⟨cs,hr⟩:=hv.row;have hI:=aJ (s.aA t) w hv;rw[hd.org]at hI;have hPc:=bZ s (s.aA t) w h hmem;rw[hd.dN]at hPc;have hC:=fun W=>eH k W
 rw[decide_eq_true (by omega:(1:Int)<=k/\(k:Int)<=200)]at hC;have hZ:=fun W (hW:Same [] w W)=>kV (s.aA t) W (hv.new hW) hd.org
 have hnot:=bP;obtain⟨cap,hp,_,_⟩:=h.pool;have hml:=hG.heap.len;have hT:=fun W (hW:Same [] w W) v (hv:v=((k-(s.aA t).xs.length:Nat):Int))=>nU s.db s.bb s.fb s.n s.m (k-(s.aA t).xs.length) s.bl s.d fr W _ v rfl hv (by omega) (h.disk.same hW (by simp) (by simp) (by simp)) hG.all hG.lt.1
 have HC1:Hid (∀W,Same [] w W->W.cell? ⟨s.pb,1,none⟩=some (.pointer (some ⟨s.db,0,none⟩))):=fun W hW=>(hW.at hp (by simp)).cell? 1
 have H:Hid (ai w s/\Good s fr):=⟨h,hG⟩
 clear h hG hv hr hp hd;have l1:((s.aA t).xs.length:Int)<(k:Int):=by omega
 generalize hL:(s.aA t).xs.length=L at *;clear hL;have hsub:IntKind.i64.wrap ((k:Int)-(L:Int))=(k:Int)-(L:Int):=IntWalk.i64_in _ (by omega)
 go_enter func53,ntmps53
 go_wp2_with (first|(go_at_call 77;refine hf.mono ?_;rintro e w' ⟨rfl,hw⟩;obtain rfl:=hw.symm)|(go_at_call 88;refine hI.mono ?_;rintro e w' ⟨rfl,hw⟩;obtain rfl:=hw.symm)|(go_at_call 93;refine hPc.mono ?_;rintro e wp ⟨sl,rfl,hown,S0⟩;obtain⟨ag,zZ,rfl⟩:=ak hown)|(go_at_call 42;refine(hC _).mono ?_;rintro e w' ⟨rfl,hw⟩;obtain rfl:=hw.symm)|(go_at_call 94;refine(hZ _ (by assumption)).mono ?_;rintro e w' ⟨rfl,hw⟩;obtain rfl:=hw.symm))
 have p0:=HC1.out _ S0
 go_region_with (first|(go_at_call 94;refine(hZ _ (S0.drew)).mono ?_;rintro e w2 ⟨rfl,rfl⟩)|(go_at_call 97;refine(hT _ (S0.drew) _ (by omega)).mono ?_;rintro e w3 (⟨hbad,_⟩|⟨_,rfl,D3,S3⟩);(omega)))
 all_goals
  obtain⟨h,hG⟩:=H.out;have e0:bM fr s.bl=s.bl:=vG fr s.bl fun x hx=>⟨by rw[h.disk.len];exact hG.lt.1 x hx,hG.zero x hx⟩
  rw[e0]at D3;have hS3:Same [s.db,s.bb,s.fb] w w3:=(S0.drew.mono (T:=[s.db,s.bb,s.fb]) (by simp)).step S3 (by simp);have jT:After w s w3 { s with d:=fP 0 fr (eY s.m s.m s.d) } fr:=⟨h.jO hS3 (by intro q hq;simp at hq;rcases hq with e|e|e<;>simp[e]) D3,⟨hG.back,hG.parts,hG.zero,hG.names,hG.dN⟩,hS3.mono (by simp[St.foot]),fun k hk=>Or.inl hk,rfl,rfl⟩
  clear D3 S3 hS3 h hG hT hZ
  go_wp2
  go_ret
  exact⟨rfl,_,jT⟩
end
section
open Go.RowKit Go.Sort
variable [DecidableEq aN] [Inhabited aN] [Inhabited aF] [Inhabited ay]
theorem Eu{s s':St}{i:Nat}{v':aF}(sp:fJ s)(hi:i<s.af.length)(hv:s'.af=aC i v' s.af)(ho:v'.org=none)
 (hb:∀j,j<s.af.length->j≠i->∀x∈(s.af[j]!).xs,s'.bl[x]! = s.bl[x]!):fJ s':=by
 intro j hj hoj x hx;rw[hv]at hj hoj hx;rw[gW i v' s.af hi]at hj;rw[dh i j v' s.af hi hj]at hoj hx;by_cases e:j=i
 ·rw[if_pos e]at hoj;exact absurd ho hoj
 ·rw[if_neg e]at hoj hx;rw[hb j hj e x (List.mem_of_mem_drop hx)];exact sp j hj hoj x hx
theorem KD{w:World}{s:St}{fr:List Nat}{r:aQ}(hP:ai w s)(hG:Good s fr)(hsp:fJ s)(hrel:Rel s r)(hnd:r.foot.Nodup)(t:ByteArray)(k:Int) :
 Pair w s fr r 53 #[.pointer (some ⟨s.pb,0,none⟩),.string t,.int .i64 k] 54 #[.pointer (some ⟨r.rb,0,none⟩),.string t,.int .i64 k]:=by
 by_cases h1:s.has t=true
 case neg=>
  have h1':s.has t=false:=by simpa using h1
  exact Pair.no 4 (by omega) hP hG hsp hrel hnd (dn (L8 s t k w hP h1')) fun w1 hR=>dn (Af r t k w1 hR (hrel.rX hP h1'))
 obtain⟨hm,hnm,hp⟩:=St.aT h1;have hra:=hrel.oG hP h1;have hrv:jq s (s.aA t) (r.af[posOf s.names t]!):=hrel.aA h1;by_cases ho:(s.aA t).org=none
 case neg=>
  exact Pair.no 7 (by omega) hP hG hsp hrel hnd (dn (BF s t k w hP h1 ho)) fun w1 hR=>dn (xg r t k _ w1 hR hra (hrel.Io hP hG hp ho).2)
 have hof:=hrel.F9 hp ho;have hpc:=hrel.dN hP hG hm;rw[hnm]at hpc;by_cases hb:s.aY (s.aA t).vb=[]
 case neg=>
  exact Pair.no 8 (by omega) hP hG hsp hrel hnd (KG s t k w hP h1 ho hb) fun w1 hR=>dn (Bo r t k _ w1 hR hra hof (by rw[hpc];exact List.length_pos_iff.2 hb))
 have SE:r.dN t r.af.length=0:=by rw[hpc,hb];rfl
 by_cases hk:1<=k/\k<=200
 case neg=>
  exact Pair.no 1 (by omega) hP hG hsp hrel hnd (Oe s t k w hP h1 ho hb hk) fun w1 hR=>dn (DU r t k _ w1 hR hra hof SE (by omega))
 obtain⟨n,rfl⟩:∃n:Nat,k=n:=⟨k.toNat,by omega⟩
 have hk':1<=n/\n<=200:=by omega
 have hd:Head s t w:=⟨h1,ho,hb⟩
 have hfree:=hrel.free hG;have hsz:(r.af[posOf s.names t]!).data.length=(s.aA t).xs.length:=by
  rw[hrv.size];unfold St.size;rw[(hP.aB hm).2.2.1 ho]
 have hbl:(r.af[posOf s.names t]!).blocks.length=(r.af[posOf s.names t]!).data.length:=by rw[hrv.blocks,hsz]
 have hrp:posOf s.names t<r.af.length:=by rw[hrel.len];exact hp
 by_cases hfull:(s.aA t).xs.length+fr.length<n
 ·exact Pair.noD 6 (by omega) hsp hrel hnd (IX s fr t n w hP hG hd (by omega) (by omega)) fun w1 hR=>Ag r t n _ w1 hR hra hof SE hk' (by rw[hfree];omega)
 have V7:=fun w1 hR=>H9 r t n (posOf s.names t) _ w1 hR hnd hrp rfl hra hof SE hk' (by rw[hfree];omega) hbl
 rw[hfree]at V7;have hlt:∀j,j<s.af.length->∀x∈(s.af[j]!).xs,x<s.bl.length:=fun j hj x hx=>by rw[hP.disk.len];exact hG.lt.2 _ (get_mem hj) x hx
 rcases Nat.lt_trichotomy n (s.aA t).xs.length with hlt'|heq|hgt
 ·have WQ:∀j,j<s.af.length->j≠posOf s.names t->∀x∈(s.af[j]!).xs,(bM ((s.aA t).xs.drop n) s.bl)[x]! = s.bl[x]!:=fun j hj hne x hx=>by
   rw[fK _ _ _ (hlt j hj x hx),if_neg (fun(hd:x∈(s.aA t).xs.drop n)=>hG.dP hj hp hne hx (List.mem_of_mem_drop hd))]
  refine⟨0,fun s' _=>s'={ s with m:=s.m+((s.aA t).xs.drop n).length,bl:=bM ((s.aA t).xs.drop n) s.bl,d:=fP s.m ((s.aA t).xs.drop n) s.d,af:=aC (posOf s.names t) { (s.aA t) with xs:=(s.aA t).xs.take n } s.af },by omega,by omega,(Om s fr t n w hP hG hd ⟨hk'.1,hlt'⟩).mono ?_,fun w1 hR=>(V7 w1 hR).mono ?_⟩
  ·rintro e w1 ⟨rfl,hA⟩;exact⟨rfl,_,_,hA,Eu hsp hp rfl ho WQ,rfl⟩
  ·rintro e w2 ⟨rfl,g,bg,hA⟩;refine⟨rfl,_,hA,?_⟩;rintro W s' fr' h' hG' rfl;have e0:n-(r.af[posOf s.names t]!).data.length=0:=by omega
   refine He hrel hp rfl rfl (TY (w:=w) (fr:=fr) (x:=r.af[posOf s.names t]!) (k:=n) hP hG hm hrv ho (by omega) rfl rfl (hG.oq hm) rfl rfl ?_ ?_ rfl rfl) (fun j hj hne=>Ba hrel hP h' hp rfl hb WQ j hj hne)
   ·show((r.af[posOf s.names t]!).data++List.replicate (n-(r.af[posOf s.names t]!).data.length) eP).take n=_;rw[e0];simp
   ·show((r.af[posOf s.names t]!).blocks++fr.take (n-(r.af[posOf s.names t]!).data.length)).take n=_;rw[e0];simp
 ·refine⟨0,fun s' _=>s'=s,by omega,by omega,(IY s fr t n w hP hG hd heq).mono ?_,fun w1 hR=>(V7 w1 hR).mono ?_⟩
  ·rintro e w1 ⟨rfl,hA⟩;exact⟨rfl,_,_,hA,hsp,rfl⟩
  ·rintro e w2 ⟨rfl,g,bg,hA⟩;refine⟨rfl,_,hA,?_⟩;intro W s' fr' h' hG' hss;rw[hss];have e0:n-(r.af[posOf s.names t]!).data.length=0:=by omega
   have d0:((r.af[posOf s.names t]!).data++List.replicate (n-(r.af[posOf s.names t]!).data.length) eP).take n=(r.af[posOf s.names t]!).data:=by
    rw[e0,List.replicate_zero,List.append_nil,List.take_of_length_le (by omega)]
   have b0:((r.af[posOf s.names t]!).blocks++fr.take (n-(r.af[posOf s.names t]!).data.length)).take n=(r.af[posOf s.names t]!).blocks:=by
    rw[e0,List.take_zero,List.append_nil,List.take_of_length_le (by omega)]
   rw[d0,b0];refine He hrel hp (yU _ _ hp).symm rfl (?_:jq s (s.aA t) _) (fun j hj hne=>hrel.each j hj);exact⟨hrv.name,hrv.bC,hrv.size,hrv.blocks,hrv.kept,hrv.lost,hrv.ok,hrv.data⟩
 ·refine⟨0,fun s' _=>∃g,s'={ s with m:=s.m-(n-(s.aA t).xs.length),d:=eY s.m (n-(s.aA t).xs.length) s.d,af:=aC (posOf s.names t) { (s.aA t) with gb:=g,xs:=(s.aA t).xs++fr.take (n-(s.aA t).xs.length) } s.af },by omega,by omega,(LJ s fr t n w hP hG hd ⟨hgt,hk'.2⟩ (by omega)).mono ?_,fun w1 hR=>(V7 w1 hR).mono ?_⟩
  ·rintro e w1 ⟨rfl,g,hA⟩;exact⟨rfl,_,_,hA,Eu hsp hp rfl ho (fun _ _ _ _ _=>rfl),g,rfl⟩
  ·rintro e w2 ⟨rfl,g,bg,hA⟩;refine⟨rfl,_,hA,?_⟩;rintro W s' fr' h' hG' ⟨g',rfl⟩;have hft:(fr.take (n-(s.aA t).xs.length)).length=n-(s.aA t).xs.length:=by rw[List.length_take];omega
   refine He hrel hp rfl rfl (PN (w:=w) (fr:=fr) (x:=r.af[posOf s.names t]!) (m:=n-(s.aA t).xs.length) (g:=g') hP hG hm hrv ho (by omega) rfl rfl rfl rfl ?_ ?_ rfl rfl) (fun j hj hne=>Ba hrel hP h' hp rfl hb (fun _ _ _ _ _=>rfl) j hj hne)
   ·show((r.af[posOf s.names t]!).data++List.replicate (n-(r.af[posOf s.names t]!).data.length) eP).take n=_;rw[hsz,List.take_of_length_le (by rw[List.length_append,List.length_replicate];omega)]
   ·show((r.af[posOf s.names t]!).blocks++fr.take (n-(r.af[posOf s.names t]!).data.length)).take n=_;rw[hsz,List.take_of_length_le (by rw[List.length_append,hft,hbl];omega)]
theorem WC(s:St)(bl:List aN):Base s { s with bl:=bl }:=⟨rfl,fun _ _=>⟨rfl,rfl,rfl,rfl⟩,fun _ _ h=>h⟩
theorem JH{w:World}{s:St}{r:aQ}(h:Rel s r)(hP:ai w s){t:ByteArray}(ht:s.has t=false)(k:Int):r.Oz t k=4:=by
 unfold aQ.Oz;rw[h.rX hP ht]
theorem OE{w:World}{s:St}{r:aQ}(h:Rel s r)(hP:ai w s){t:ByteArray}(ht:s.has t=true)(k:Int):r.Oz t k=if (s.aA t).lost then 9 else if k<0\/(s.size (s.aA t):Int)<=k then 1 else 0:=by
 unfold aQ.Oz;rw[h.oG hP ht];simp only;have hrv:=h.aA ht;rw[hrv.lost,hrv.size]
theorem NZ{w:World}{s:St}{fr:List Nat}{r:aQ}(hP:ai w s)(hG:Good s fr)(hsp:fJ s)(hrel:Rel s r)(hnd:r.foot.Nodup)(t:ByteArray)(k:Int)(b:aN)(hbo:b.ok) :
 Pair w s fr r 50 #[.pointer (some ⟨s.pb,0,none⟩),.string t,.int .i64 k,b.val] 51 #[.pointer (some ⟨r.rb,0,none⟩),.string t,.int .i64 k,.string b.text]:=by
 by_cases h1:s.has t=true
 case neg=>
  have h1':s.has t=false:=by simpa using h1
  have hc:=JH hrel hP h1' k;refine Pair.no 4 (by omega) hP hG hsp hrel hnd (yD s t k 4 b w (by decide) fun w' hS=>sV s t k w' (hP.new hS) h1') fun w1 hR=>dn ?_
  have:=pI r t b.text k w1 hR (by omega);rw[hc]at this;exact this
 obtain⟨hm,hnm,hp⟩:=St.aT h1;have hra:=hrel.oG hP h1;have hrv:jq s (s.aA t) (r.af[posOf s.names t]!):=hrel.aA h1;have hac:=OE hrel hP h1 k;by_cases hl:(s.aA t).lost=true
 ·rw[if_pos hl]at hac;refine Pair.no 9 (by omega) hP hG hsp hrel hnd (yD s t k 9 b w (by decide) fun w' hS=>rJ s t k w' (hP.new hS) h1 hl) fun w1 hR=>dn ?_
  have:=pI r t b.text k w1 hR (by omega);rw[hac]at this;exact this
 have hl':(s.aA t).lost=false:=by simpa using hl
 rw[if_neg hl]at hac;by_cases hk:0<=k/\k<s.size (s.aA t)
 case neg=>
  rw[if_pos (by omega)]at hac;refine Pair.no 1 (by omega) hP hG hsp hrel hnd (yD s t k 1 b w (by decide) fun w' hS=>uI s t k w' (hP.new hS) h1 hl' hk) fun w1 hR=>dn ?_
  have:=pI r t b.text k w1 hR (by omega);rw[hac]at this;exact this
 obtain⟨n,rfl⟩:∃n:Nat,k=n:=⟨k.toNat,by omega⟩
 have hn:n<s.size (s.aA t):=by omega
 have hnr:n<(r.af[posOf s.names t]!).data.length:=by rw[hrv.size];exact hn
 have hho:=iC hP hG hm hn;have hlr:(r.af[posOf s.names t]!).lost=false:=by rw[hrv.lost];exact hl'
 have hrp:posOf s.names t<r.af.length:=by rw[hrel.len];exact hp
 by_cases hsame:s.look (s.aA t) n=b
 ·exact Pair.no 0 (by omega) hP hG hsp hrel hnd (MN s t n b w hP h1 hl' hn hho hsame) fun w1 hR=>dn (DJ r t b.text n _ w1 hR hra hlr hnr (by rw[hrv.data hl' n hn,hsame]))
 have ZE:(r.af[posOf s.names t]!).data[n]!≠b.text:=fun e=>by
  rw[hrv.data hl' n hn]at e;exact hsame (aN.KU (hrv.ok hl' n hn) hbo e)
 by_cases ho:(s.aA t).org=none
 ·have hof:=hrel.F9 hp ho;have hnx:n<(s.aA t).xs.length:=by unfold St.size at hn;rw[(hP.aB hm).2.2.1 ho]at hn;exact hn
  refine⟨0,fun s' fr'=>fr'=fr/\∃s1,Kept s s1 n (fun v=>v.org=some (s.aA t).vb)/\s1.n=s.n/\s'={ s1 with bl:=s1.bl.set (s.aA t).xs[n]! b },by omega,by omega,(Ij s fr t n b w hP hG h1 ho hnx hsame).mono ?_,fun w1 hR=>(Ie r t b.text (posOf s.names t) n _ w1 hR hnd hrp rfl hra hlr hnr ZE hof).mono ?_⟩
  ·rintro e w1 ⟨rfl,s1,hK,hA⟩;refine⟨rfl,_,_,hA,?_,rfl,s1,hK,hA.n,rfl⟩;obtain⟨b1,b2,b3,b4⟩:=hK.base.same _ hp;refine RX hA.pool hA.good (posOf s.names t) (by rw[hK.base.len];exact hp) (by rw[b4];exact ho) (by rw[b3];exact aK hnx) (hK.spare hsp)
  ·rintro e w2 ⟨rfl,vs,hA,hW⟩;refine⟨rfl,_,hA,?_⟩;rintro W s' fr' h' hG' ⟨rfl,s1,hK,hn1,rfl⟩;have hnm':t=(s.aA t).name:=hnm.symm;refine DN hrel hP hG hp rfl ho hnx hbo hK h' hG' hn1 ?_;show CG r.af vs (posOf s.names t) n (s.af[posOf s.names t]!).name b.text;rw[show(s.af[posOf s.names t]!).name=t from hnm];exact hW
 ·obtain⟨hofe,SG⟩:=hrel.Io hP hG hp ho;have hrw:=fun w1 hR=>G6 r t b.text (posOf s.names t) n _ w1 hR hnd hrp rfl hra hlr hnr ZE SG
  by_cases hkk:n∈(s.aA t).kept
  ·have hrk:lW n (r.af[posOf s.names t]!)=((s.aA t).kept,false):=by
    unfold lW;rw[hrv.kept,hrv.lost,if_pos hkk,hl']
   refine⟨0,fun s' _=>s'={ s with bl:=s.bl.set (s.aA t).xs[(s.aA t).kept.idxOf n]! b },by omega,by omega,(vF s fr t n b w hP hG h1 ho hl' hn hsame hkk).mono ?_,fun w1 hR=>(hrw w1 hR).mono ?_⟩
   ·rintro e w1 ⟨rfl,hA⟩;exact⟨rfl,_,_,hA,Nu hP hG (posOf s.names t) hp ((s.aA t).kept.idxOf n) (jB hkk) (hP.af _ hm).room b hsp,rfl⟩
   ·rintro e w2 ⟨v1,hV,hkl,hcase⟩;rw[hrk]at hkl;obtain⟨k1,k2⟩:=Prod.mk.inj hkl;rcases hcase with⟨q,_⟩|⟨_,rfl,hA⟩
    ·rw[k2]at q;cases q
    refine⟨rfl,_,hA,?_⟩;rintro W s' fr' h' hG' rfl;have hlk:=Nz hP hG (posOf s.names t) (s.aA t) n b hp rfl hkk;refine pR (v':=s.aA t) hrel hP h' hp (WC s _) rfl (fun j hj=>by
     by_cases e:j=posOf s.names t
     ·rw[e];exact(if_pos rfl).symm
     ·exact(if_neg e).symm) (fun j hj hne _ q hq=>by rw[hlk j hj q hq,if_neg (fun e=>hne e.1)]) hV.name hV.bC ?_ hV.blocks k1 ?_ ?_
    ·show(v1.data.set n b.text).length=_;rw[List.length_set,hV.data]
    ·show v1.lost=_;rw[k2,hl']
    ·intro _ q hq;have e1:=hlk (posOf s.names t) hp q hq;have e2:St.look { s with bl:=s.bl.set (s.aA t).xs[(s.aA t).kept.idxOf n]! b } (s.aA t) q=_:=e1;rw[e2];have hd:(v1.data.set n b.text)[q]! = if q=n then b.text else (r.af[posOf s.names t]!).data[q]!:=by
      rw[Ir _ _ _ _ (by rw[hV.data,hrv.size];exact hq),hV.data]
     by_cases hqn:q=n
     ·rw[if_pos ⟨rfl,hqn⟩];refine⟨hbo,?_⟩;show(v1.data.set n b.text)[q]! = _;rw[hd,if_pos hqn]
     ·rw[if_neg (fun e=>hqn e.2)];refine⟨hrv.ok hl' q hq,?_⟩;show(v1.data.set n b.text)[q]! = _;rw[hd,if_neg hqn];exact hrv.data hl' q hq
  ·by_cases hf:(s.aA t).kept.length<(s.aA t).xs.length
   ·have hrk:lW n (r.af[posOf s.names t]!)=((s.aA t).kept++[n],false):=by
     unfold lW;rw[hrv.kept,hrv.lost,hrv.blocks,if_neg hkk,if_pos hf,hl']
    refine⟨0,fun s' _=>∃g,s'={ s with bl:=s.bl.set (s.aA t).xs[(s.aA t).kept.length]! b,af:=aC (posOf s.names t) ((s.aA t).keeping g n) s.af },by omega,by omega,(vg s fr t n b w hP hG h1 ho hl' hn hsame hkk hf).mono ?_,fun w1 hR=>(hrw w1 hR).mono ?_⟩
    ·rintro e w1 ⟨rfl,i,g,hi,hvi,hA⟩;obtain rfl:i=posOf s.names t:=tH hP hi hp (by rw[hvi];rfl);exact⟨rfl,_,_,hA,Bz hP hG (posOf s.names t) (s.aA t) g n b hp rfl hf hsp,g,rfl⟩
    ·rintro e w2 ⟨v1,hV,hkl,hcase⟩;rw[hrk]at hkl;obtain⟨k1,k2⟩:=Prod.mk.inj hkl;rcases hcase with⟨q,_⟩|⟨_,rfl,hA⟩
     ·rw[k2]at q;cases q
     refine⟨rfl,_,hA,?_⟩;rintro W s' fr' h' hG' ⟨g,rfl⟩;have hlk:∀j,j<s.af.length->∀q,q<s.size (s.af[j]!)->St.look { s with bl:=s.bl.set (s.aA t).xs[(s.aA t).kept.length]! b,af:=aC (posOf s.names t) ((s.aA t).keeping g n) s.af } (aC (posOf s.names t) ((s.aA t).keeping g n) s.af)[j]! q=if j=posOf s.names t/\q=n then b else s.look (s.af[j]!) q:=fun j hj q hq=>Au hP hG (posOf s.names t) (s.aA t) g n b hp rfl ho hf hkk hn h' j hj q hq
     refine pR (v':=(s.aA t).keeping g n) hrel hP h' hp (qc _ _ hp _ rfl rfl rfl rfl id) rfl (fun j hj=>dh _ _ _ _ hp hj) (fun j hj hne _ q hq=>(hlk j hj q hq).trans (if_neg (fun e=>hne e.1))) hV.name hV.bC ?_ hV.blocks k1 ?_ ?_
     ·show(v1.data.set n b.text).length=_;rw[List.length_set,hV.data]
     ·show v1.lost=_;rw[k2];exact hl'.symm
     ·intro _ q hq;have e1:=hlk (posOf s.names t) hp q hq;rw[dh _ _ _ _ hp hp,if_pos rfl]at e1;rw[e1];have hd:(v1.data.set n b.text)[q]! = if q=n then b.text else (r.af[posOf s.names t]!).data[q]!:=by
       rw[Ir _ _ _ _ (by rw[hV.data,hrv.size];exact hq),hV.data]
      by_cases hqn:q=n
      ·rw[if_pos ⟨rfl,hqn⟩];refine⟨hbo,?_⟩;show(v1.data.set n b.text)[q]! = _;rw[hd,if_pos hqn]
      ·rw[if_neg (fun e=>hqn e.2)];refine⟨hrv.ok hl' q hq,?_⟩;show(v1.data.set n b.text)[q]! = _;rw[hd,if_neg hqn];exact hrv.data hl' q hq
   ·have hroom:=(hP.af _ hm).room;have hf':(s.aA t).kept.length=(s.aA t).xs.length:=by omega
    have hrk:lW n (r.af[posOf s.names t]!)=([],true):=by
     unfold lW;rw[hrv.kept,hrv.lost,hrv.blocks,if_neg hkk,if_neg hf]
    refine⟨10,fun s' _=>s'={ s with bl:=bM (s.aA t).xs s.bl,af:=aC (posOf s.names t) (s.aA t).losing s.af },by omega,by omega,(ve s fr t n b w hP hG h1 ho hl' hn hsame hkk hf').mono ?_,fun w1 hR=>(hrw w1 hR).mono ?_⟩
    ·rintro e w1 ⟨rfl,i,hi,hvi,hA⟩;obtain rfl:i=posOf s.names t:=tH hP hi hp (by rw[hvi];rfl);exact⟨rfl,_,_,hA,BM hP hG (posOf s.names t) (s.aA t) hp rfl hsp,rfl⟩
    ·rintro e w2 ⟨v1,hV,hkl,hcase⟩;rw[hrk]at hkl;obtain⟨k1,k2⟩:=Prod.mk.inj hkl;rcases hcase with⟨_,rfl,hA⟩|⟨q,_⟩
     rotate_left
     ·rw[k2]at q;cases q
     refine⟨rfl,_,hA,?_⟩;rintro W s' fr' h' hG' rfl;refine pR (v':=(s.aA t).losing) hrel hP h' hp (qc _ _ hp _ rfl rfl rfl rfl (fun _=>rfl)) rfl (fun j hj=>dh _ _ _ _ hp hj) (fun j hj hne _ q hq=>Bg hP hG (posOf s.names t) (s.aA t) hp rfl ho h' j hj hne q hq) hV.name hV.bC (by rw[hV.data]) hV.blocks k1 k2 (fun q=>by cases q)
end
section
open Go.RowKit Go.Sort
variable [DecidableEq aN] [Inhabited aN] [Inhabited aF]
def uz(n k:Nat):List Value:=(List.range n).map fun j=>Value.int .i64 (if j<k then (j:Int) else 0)
theorem QN(n k:Nat)(h:k<n):(uz n k).set k (.int .i64 k)=uz n (k+1):=by
 apply List.ext_getElem?;intro j;unfold uz;rw[List.getElem?_set];simp only[List.length_map,List.length_range,List.getElem?_map];by_cases hj:k=j
 ·subst hj;rw[if_pos rfl,if_pos h,List.getElem?_range h];simp
 ·rw[if_neg hj];by_cases hjn:j<n
  ·rw[List.getElem?_range hjn];simp only[Option.map_some,Option.some.injEq,Value.int.injEq,true_and];by_cases h1:j<k
   ·rw[if_pos h1,if_pos (by omega)]
   ·rw[if_neg h1,if_neg (by omega)]
  ·rw[List.getElem?_eq_none (by simpa using hjn)];rfl
theorem MZ(n:Nat):uz n 0=List.replicate n (.int .i64 0):=by
 unfold uz;rw[List.eq_replicate_iff];refine⟨by simp,fun b hb=>?_⟩;obtain⟨j,_,rfl⟩:=List.mem_map.1 hb;simp
theorem Oa(n:Nat)(w:World)(hn:n<=200) :
 Calls prog 80 #[.int .i64 n] w fun e w'=>∃g,e=.returned (.slice (some ⟨g,0,none⟩) n n)/\w.heap.size<=g/\At w' g 3 (uz n n)/\Same [] w w':=by
 obtain⟨i0,hi,hz0,hz1,hz2⟩:=info_parts Tryz.info3;have hmk:(Instr.makeSlice 124 (.int .i64 (n:Int)) (.int .i64 (n:Int))).run prog w=.ok (.slice (some ⟨w.heap.size,0,none⟩) n n) (w.alloc (.cells (List.replicate n (Value.int .i64 0)).toArray 3)):=by
  have h:=run_make (P:=prog) w 124 3 i0 (.int .i64 0) underlying124 hi hz0 .i64 .i64 (n:Int) (n:Int) (by omega) (by omega) (by rw[hz2];omega) (by omega);rw[hz1]at h;have e:(madeCells (Value.int .i64 0).cells ((n:Int).toNat*1))=(List.replicate n (Value.int .i64 0)).toArray:=by
   apply Array.toList_inj.1;have:=toList_madeCells_one (.int .i64 0) n;simpa [Value.cells] using this
  rw[e]at h;simpa using h
 have A0:=At.new w (List.replicate n (Value.int .i64 0)).toArray 3;have S0:Same [] w (w.alloc (.cells (List.replicate n (Value.int .i64 0)).toArray 3)):=(Same.refl _ _).alloc _
 go_enter func80,ntmps80
 generalize hL:(List.replicate n (Value.int .i64 0)).toArray=L at *
 go_wp2
 go_loopw [9] (fun i wr=>∃k:Nat,k<=n/\i=.int .i64 k/\At wr w.heap.size 3 (uz n k)/\Same [] w wr) (fun i _=>n-(intOf i).toNat)
 case atStart=>exact⟨0,Nat.zero_le _,rfl,by rw[MZ];rw[<-hL]at A0 ⊢;simpa using A0,S0⟩
 case round=>
  obtain⟨k,hk,rfl,hA,hS⟩:=hrel;by_cases hkl:k<n
  ·have ck:∃v,wr.cell? ⟨w.heap.size,k,none⟩=some (.int .i64 v):=by
    refine⟨0,?_⟩;rw[hA.cell?];unfold uz;rw[List.getElem?_map,List.getElem?_range hkl];simp
   obtain⟨v,ck⟩:=ck;have fk:=hA.frozen k;have A1:=hA.ax k (.int .i64 k);rw[QN n k hkl]at A1;have S1:Same [] w (wr.setCell ⟨w.heap.size,k,none⟩ (.int .i64 k)):=hS.set w.heap.size k _ (by simp);have l1:(k:Int)<(n:Int):=by omega
   clear hA hS hmk
   go_wp2
   go_roundw
   case rel=>exact⟨k+1,by omega,by go_num,A1,S1⟩
   case measure=>simp[intOf];omega
  ·have ek:k=n:=by omega
   subst ek;clear hmk
   go_wp2
   go_ret
   exact⟨w.heap.size,rfl,Nat.le_refl _,hA,hS⟩
theorem Tryz.info51:(prog.info? 91).map (fun i=>(i.zero,i.size,i.bytes))=some (some (.agg #[.int .u8 0,.int .u8 0,.int .u8 0,.int .u8 0,.int .u8 0,.int .u8 0,.int .u8 0,.int .u8 0]),8,8):=by kernel_rfl
theorem RG(n:Nat):flat (List.replicate n aN.zero)=List.replicate (n*8) (.int .u8 0):=by
 induction n with
 | zero=>rfl
 | succ n ih=>
  rw[List.replicate_succ,flat,ih,show(n+1)*8=8+n*8 by omega,<-List.replicate_append_replicate];rfl
theorem JS(n:Nat):madeCells (Value.agg #[.int .u8 0,.int .u8 0,.int .u8 0,.int .u8 0,.int .u8 0,.int .u8 0,.int .u8 0,.int .u8 0]).cells (n*8)=(flat (List.replicate n aN.zero)).toArray:=by
 apply Array.toList_inj.1;rw[RG];have hc:(Value.agg #[.int .u8 0,.int .u8 0,.int .u8 0,.int .u8 0,.int .u8 0,.int .u8 0,.int .u8 0,.int .u8 0]).cells=Array.replicate 8 (.int .u8 0):=rfl;rw[hc];apply List.ext_getElem?;intro j;by_cases hj:j<n*8
 ·have hm:j % 8<8:=Nat.mod_lt _ (by omega);simp[madeCells,hj,hm]
 ·simp[madeCells,hj]
def lY(n:Nat):Array Int:=((List.range n).map fun j:Nat=>(j:Int)).toArray
theorem E8(n:Nat):(lY n).toList.map (Value.int .i64)=uz n n:=by
 unfold lY uz;simp only[List.map_map];apply List.map_congr_left;intro j hj;simp at hj;simp[hj]
structure NewAt(w w':World)(n db:Nat):Prop where
 ex:∃bb fb,w.heap.size<=db/\w.heap.size<=bb/\w.heap.size<=fb/\dX w' db bb fb n n (List.replicate n aN.zero) (lY n)
 same:Same [] w w'
theorem Eb(n:Nat)(w:World)(hn:n<=200) :
 Calls prog 44 #[.int .i64 n] w fun e w'=>∃db,e=.returned (.pointer (some ⟨db,0,none⟩))/\NewAt w w' n db:=by
 obtain⟨i0,hi,hz0,hz1,hz2⟩:=info_parts Tryz.info51;have hmk:∀W:World,(Instr.makeSlice 123 (.int .i64 (n:Int)) (.int .i64 (n:Int))).run prog W=.ok (.slice (some ⟨W.heap.size,0,none⟩) n n) (W.alloc (.cells (flat (List.replicate n aN.zero)).toArray 91)):=fun W=>by
  have h:=run_make (P:=prog) W 123 91 i0 _ underlying123 hi hz0 .i64 .i64 (n:Int) (n:Int) (by omega) (by omega) (by rw[hz2];omega) (by omega);rw[hz1]at h;have e:((n:Int).toNat*8)=n*8:=by simp
  rw[e,JS]at h;simpa using h
 generalize hL:(flat (List.replicate n aN.zero)).toArray=L at *
 go_enter func44,ntmps44
 go_wp2
 go_region_with (go_at_call 80;refine(Oa n _ hn).mono ?_;rintro e w2 ⟨fb,rfl,hfb,hA2,hS2⟩)
 ·have B1:=hS2.at (At.new w L 91).drew (by simp);have N1:=At.new w2 #[Value.slice (some ⟨w.heap.size,0,none⟩) n n,Value.slice (some ⟨fb,0,none⟩) n n] 127;have hsz:=hS2.size;have lb1:=B1.lt;have lf1:=hA2.lt;simp at hsz hfb
  go_wp2
  go_ret
  refine⟨w2.heap.size,rfl,⟨w.heap.size,fb,by omega,Nat.le_refl _,by omega,⟨N1,?_,?_,by omega,by omega,by omega,by simp,by simp[lY],Nat.le_refl _,hn⟩⟩,((((Same.refl _ _).alloc _).drew).step hS2 (by simp)).alloc _⟩
  ·have:=B1.alloc (.cells #[Value.slice (some ⟨w.heap.size,0,none⟩) n n,Value.slice (some ⟨fb,0,none⟩) n n] 127);rw[<-hL]at this;simpa using this
  ·rw[E8];exact hA2.alloc _
 ·have B1:=(At.new w2 L 91).alloc (.cells #[Value.slice (some ⟨w2.heap.size,0,none⟩) n n,Value.slice (some ⟨fb,0,none⟩) n n] 127);have N1:=At.new (w2.alloc (.cells L 91)) #[Value.slice (some ⟨w2.heap.size,0,none⟩) n n,Value.slice (some ⟨fb,0,none⟩) n n] 127;have hsz:=hS2.size;have lf1:=hA2.lt;simp at hsz hfb
  go_wp2
  go_ret
  refine⟨w2.heap.size+1,rfl,⟨w2.heap.size,fb,by omega,by omega,by omega,⟨?_,?_,?_,by omega,by omega,by omega,by simp,by simp[lY],Nat.le_refl _,hn⟩⟩,((((Same.refl _ _).drew).step hS2 (by simp)).alloc _).alloc _⟩
  ·simpa using N1
  ·rw[<-hL]at B1 ⊢;simpa using B1
  ·rw[E8];exact(hA2.alloc _).alloc _
theorem nK(n j:Nat)(h:j<n):(lY n)[j]! = (j:Int):=by
 unfold lY;rw[getElem!_pos _ j (by simpa using h)];simp
theorem vH(n:Nat):fU n (lY n) (List.range n):=by
 refine⟨by simp[lY],fun j h1 h2=>?_,fun i j hi hj e=>?_,fun i hi=>?_,fun x hx=>?_,List.pairwise_lt_range,by simp⟩
 ·rw[nK n _ (by omega),nK n j h2];omega
 ·rw[nK n i hi,nK n j hj]at e;omega
 ·exact⟨i,List.mem_range.2 hi,nK n i hi⟩
 ·exact⟨x,List.mem_range.1 hx,nK n x (List.mem_range.1 hx)⟩
def kG(pb db bb fb n:Nat):St:=⟨pb,db,bb,fb,none,n,n,List.replicate n aN.zero,lY n,[]⟩
theorem Nv(pb db bb fb n:Nat):Good (kG pb db bb fb n) (List.range n):=
 ⟨vH n,by simp[kG],fun x hx=>by
  have hx':x<n:=List.mem_range.1 hx;show(List.replicate n aN.zero)[x]! = aN.zero;rw[getElem!_pos _ x (by simpa using hx')];simp,by simp[kG],fun v hv=>by simp[kG]at hv⟩
theorem Na(n:Int)(w:World)(hn:¬(1<=n/\n<=200)) :
 Calls prog 24 #[.int .i64 n] w fun e w'=>e=.returned (.tuple #[.pointer none,.int .i64 1])/\w'=w:=by
 have hC:=eH n w;rw[decide_eq_false hn]at hC;have hnot:∀(x:Bool)(w:World),(Op.unary .not (.bool x)).run prog w=.ok (.bool (!x)) w:=fun _ _=>rfl
 clear hn
 go_enter func24,ntmps24
 go_wp2_with (go_at_call 42;refine hC.mono ?_;rintro e w' ⟨rfl,rfl⟩)
 go_ret2
 exact⟨rfl,rfl⟩
structure Wq(w w':World)(n pb:Nat):Prop where
 ex:∃db bb fb,ai w' (kG pb db bb fb n)/\(∀k∈(kG pb db bb fb n).foot,w.heap.size<=k)
 same:Same [] w w'
theorem qW(db:Nat)(a:Option Addr)(n c:Nat)(w:World) :
 Calls prog 43 #[.pointer (some ⟨db,0,none⟩),.slice a n c] w fun e w'=>e=.returned (.pointer (some ⟨w.heap.size,0,none⟩)) /\
  At w' w.heap.size 87 [ptr w.heap.size,ptr db,.slice a n c]/\Same [] w w':=by
 have N1:=At.new w #[.pointer (some ⟨w.heap.size,0,none⟩),.pointer (some ⟨db,0,none⟩),.slice a n c] 87;have S1:Same [] w (w.alloc (.cells #[.pointer (some ⟨w.heap.size,0,none⟩),.pointer (some ⟨db,0,none⟩),.slice a n c] 87)):=(Same.refl _ _).alloc _
 go_enter func43,ntmps43
 go_wp2
 go_ret
 exact⟨rfl,N1,S1⟩
theorem Nk(n:Nat)(w:World)(hn:1<=n/\n<=200) :
 Calls prog 24 #[.int .i64 n] w fun e w'=>∃pb,e=.returned (.tuple #[.pointer (some ⟨pb,0,none⟩),.int .i64 0])/\Wq w w' n pb:=by
 have hC:=eH n w;rw[decide_eq_true (by omega:(1:Int)<=n/\(n:Int)<=200)]at hC;have hnot:∀(x:Bool)(w:World),(Op.unary .not (.bool x)).run prog w=.ok (.bool (!x)) w:=fun _ _=>rfl
 go_enter func24,ntmps24
 go_wp2_with (first|(go_at_call 42;refine hC.mono ?_;rintro e w' ⟨rfl,rfl⟩)|(go_at_call 44;refine(Eb n _ hn.2).mono ?_;rintro e w1 ⟨db,rfl,hN⟩)|(go_at_call 43;refine(qW db none 0 0 _).mono ?_;rintro e w2 ⟨rfl,N1,S1⟩))
 go_ret2
 obtain⟨⟨bb,fb,h1,h2,h3,hD⟩,hS⟩:=hN;have ld:=hD.disk.lt;have lb:=hD.data.lt;have lf:=hD.free.lt;have hne1:=hD.ne1;have hne2:=hD.Sm;have ZF:=hD.MC;have hsz:=hS.size;refine⟨w1.heap.size,rfl,⟨db,bb,fb,⟨⟨0,N1,Nat.le_refl _,fun _=>rfl⟩,by simp[kG],hD.same S1 (by simp) (by simp) (by simp),by simp[kG],?_,by simp[kG],by simp[kG],by simp[kG]⟩,?_⟩,hS.step S1 (by simp)⟩
 ·simp[kG,St.foot];omega
 ·simp[kG,St.foot];omega
end
section
open Go.RowKit Go.Sort
variable [DecidableEq aN] [Inhabited aN] [Inhabited aF] [Inhabited ay]
structure kD(w:World)(s:St)(fr:List Nat)(r:aQ):Prop where
 pool:ai w s
 good:Good s fr
 spare:fJ s
 ref:aO w r
 nodup:r.foot.Nodup
 rel:Rel s r
 apart:∀k∈s.foot,k∉r.foot
structure dA(w:World)(bb:Nat)(s:St)(fr:List Nat)(r:aQ):Prop where
 both:At w bb 67 [.pointer (some ⟨s.pb,0,none⟩),.pointer (some ⟨r.rb,0,none⟩)]
 two:kD w s fr r
 out:bb∉s.foot++r.foot
theorem kD.same{w w':World}{s:St}{fr:List Nat}{r:aQ}(h:kD w s fr r){S:List Nat}(hs:Same S w w')(hd:∀k∈s.foot++r.foot,k∉S):kD w' s fr r:=
 ⟨h.pool.same hs (fun k hk=>hd k (List.mem_append_left _ hk)),h.good,h.spare,h.ref.uy hs (fun k hk=>hd k (List.mem_append_right _ hk)),h.nodup,h.rel,h.apart⟩
theorem kD.new{w w':World}{s:St}{fr:List Nat}{r:aQ}(h:kD w s fr r)(hs:Same [] w w'):kD w' s fr r:=h.same hs (by simp)
theorem dA.same{w w':World}{bb:Nat}{s:St}{fr:List Nat}{r:aQ}(h:dA w bb s fr r){S:List Nat}(hs:Same S w w')(hd:∀k∈bb::(s.foot++r.foot),k∉S):dA w' bb s fr r:=
 ⟨hs.at h.both (hd bb (by simp)),h.two.same hs (fun k hk=>hd k (List.mem_cons_of_mem _ hk)),h.out⟩
theorem dA.new{w w':World}{bb:Nat}{s:St}{fr:List Nat}{r:aQ}(h:dA w bb s fr r)(hs:Same [] w w'):dA w' bb s fr r:=h.same hs (by simp)
theorem kD.bn{w:World}{s:St}{fr:List Nat}{r:aQ}(h:kD w s fr r):∀k∈s.foot++r.foot,k<w.heap.size:=fun k hk=>by
 rcases List.mem_append.1 hk with hk|hk
 ·exact h.pool.bn k hk
 ·exact h.ref.bn k hk
structure dQ(w:World)(bb:Nat)(s:St)(r:aQ)(w':World):Prop where
 ex:∃s' fr' r',dA w' bb s' fr' r'/\s'.n=s.n/\∀k∈s'.foot++r'.foot,k∈s.foot++r.foot\/w.heap.size<=k
 same:Same (s.foot++r.foot) w w'
theorem dQ.still{w w':World}{bb:Nat}{s:St}{fr:List Nat}{r:aQ}(h:dA w bb s fr r)(hs:Same [] w w'):dQ w bb s r w':=
 ⟨⟨s,fr,r,h.new hs,rfl,fun k hk=>Or.inl hk⟩,hs.mono (by simp)⟩
theorem dQ.old{w0 w w':World}{bb:Nat}{s:St}{r:aQ}(h:dQ w bb s r w')(h0:Same [] w0 w):dQ w0 bb s r w':=by
 obtain⟨⟨s',fr',r',a,hn,b⟩,c⟩:=h;have:=h0.size;exact⟨⟨s',fr',r',a,hn,fun k hk=>(b k hk).imp id fun e=>by omega⟩,(h0.mono (T:=s.foot++r.foot) (by simp)).step c (fun k hk _=>hk)⟩
theorem dA.next{w w1 w2:World}{bb:Nat}{s s':St}{fr fr':List Nat}{r r':aQ}(h:dA w bb s fr r)(hA:After w s w1 s' fr')(hsp:fJ s')(hR:bQ w1 r w2 r')(hrel:Rel s' r'):dQ w bb s r w2:=by
 have hz1:=hA.same.size;have hrl:=h.two.ref.bn;have aaE:=hA.pool.bn;have hap:∀k∈s'.foot,k∉r.foot:=fun k hk hr=>by
  rcases hA.foot k hk with e|e
  ·exact h.two.apart k e hr
  ·have:=hrl k hr;omega
 have P2:ai w2 s':=hA.pool.same hR.same hap;have ap2:∀k∈s'.foot,k∉r'.foot:=fun k hk hr=>by
  rcases hR.foot k hr with e|e
  ·exact hap k hk e
  ·have:=aaE k hk;omega
 have hbl:=h.both.lt;have hbs:bb∉s.foot:=fun hm=>h.out (List.mem_append_left _ hm)
 have hbr:bb∉r.foot:=fun hm=>h.out (List.mem_append_right _ hm)
 have hb2:=hR.same.at (hA.same.at h.both hbs) hbr;rw[<-hA.pb,<-hR.rb]at hb2;refine⟨⟨s',fr',r',⟨hb2,⟨P2,hA.good,hsp,hR.ref,hR.nodup,hrel,ap2⟩,fun hm=>?_⟩,hA.n,fun k hk=>?_⟩,?_⟩
 ·rcases List.mem_append.1 hm with hm|hm
  ·rcases hA.foot _ hm with e|e
   ·exact hbs e
   ·omega
  ·rcases hR.foot _ hm with e|e
   ·exact hbr e
   ·omega
 ·rcases List.mem_append.1 hk with hk|hk
  ·exact(hA.foot k hk).imp (List.mem_append_left _) id
  ·rcases hR.foot k hk with e|e
   ·exact Or.inl (List.mem_append_right _ e)
   ·exact Or.inr (by omega)
 ·exact(hA.same.mono (T:=s.foot++r.foot) (fun k hk _=>List.mem_append_left _ hk)).step hR.same (fun k hk _=>List.mem_append_right _ hk)
theorem dA.mid{w w1:World}{bb:Nat}{s s':St}{fr fr':List Nat}{r:aQ}(h:dA w bb s fr r)(hA:After w s w1 s' fr'):aO w1 r/\At w1 bb 67 [.pointer (some ⟨s.pb,0,none⟩),.pointer (some ⟨r.rb,0,none⟩)]:=
 ⟨h.two.ref.uy hA.same (fun k hk hs=>h.two.apart k hs hk),hA.same.at h.both (fun hm=>h.out (List.mem_append_left _ hm))⟩
theorem num_int(c:Int)(w:World)(h0:0<=c)(h:c<=13):Calls prog 26 #[.int .i64 c] w fun e w'=>e=.returned (.int .i64 c)/\w'=w:=by
 obtain⟨n,rfl⟩:∃n:Nat,c=n:=⟨c.toNat,by omega⟩
 exact QC n w (by omega)
theorem U7(s:ByteArray)(k:Nat):(gI s k).ok:=by
 have h:∀i,0<=byteAt s k i/\byteAt s k i<=255:=fun i=>by
  unfold byteAt
  split
  ·have:=(s.data[i]!).toNat_lt;omega
  ·omega
 intro n hn;simp only[aN.ints,gI,List.mem_cons,List.mem_nil_iff,or_false]at hn;rcases hn with rfl|rfl|rfl|rfl|rfl|rfl|rfl|rfl<;>exact h _
end
section
open Go.RowKit Go.Sort
variable [DecidableEq aN] [Inhabited aN] [Inhabited aF]
def bT(b:UInt8):Value:=.int .u8 (b.toNat:Int)
structure Buf(w0 w:World)(v:Value)(bs:List UInt8):Prop where
 own:w.ownsRow w0.heap.size 5 1 v bs.length (bs.map bT)
 same:Same [] w0 w
theorem Buf.new{w0 w w':World}{v:Value}{bs:List UInt8}(h:Buf w0 w v bs)(hs:Same [] w w'):Buf w0 w' v bs:=⟨dZ h.own hs (by simp),h.same.step hs (by simp)⟩
theorem Buf.form{w0 w:World}{v:Value}{bs:List UInt8}(h:Buf w0 w v bs):∃a cap,v=.slice a bs.length cap:=ak h.own
theorem Buf.app{w0 w w1 w2:World}{v v':Value}{bs ns:List UInt8}{n:Nat}(h:Buf w0 w v bs)(hs:Same [] w w1)(hn:n=bs.length+ns.length)(ho:w2.ownsRow w0.heap.size 5 1 v' n (bs.map bT++ns.map bT))(hg:w1.grownBy w2 v.ownBlock):Buf w0 w2 v' (bs++ns):=by
 refine⟨by rw[List.length_append,List.map_append,<-hn];exact ho,(h.same.step hs (by simp)).grown hg fun k hk hl=>?_⟩;have:=(h.own.lt k hk).1;omega
def two(n:Nat):List UInt8:=[UInt8.ofNat (n / 256),UInt8.ofNat n]
def nums(l:List Nat):List UInt8:=two l.length++l.flatMap two
theorem di(n:Nat):(two n).length=2:=rfl
theorem yQ(l:List Nat):(l.flatMap two).length=2*l.length:=by
 induction l with
 | nil=>rfl
 | cons a r ih=>rw[List.flatMap_cons,List.length_append,ih,di,List.length_cons];omega
theorem nums_length(l:List Nat):(nums l).length=2+2*l.length:=by rw[nums,List.length_append,di,yQ]
theorem EO(n:Nat)(hn:n<=65535):(two n).map bT=[.int .u8 ((n:Int) / 256),.int .u8 ((n:Int) % 256)]:=by
 simp[two,bT,UInt8.toNat_ofNat'];omega
theorem RF:∀(l:List UInt8),∀u∈l.map bT,u.oneCell'=true:=fun l u hu=>by
 obtain⟨x,_,rfl⟩:=List.mem_map.1 hu;rfl
theorem yu{w:World}{l:List Value}{t:TypeId}:∀j u,l[j]? = some u->(w.alloc (.cells l.toArray t)).cell? ((⟨w.heap.size,0,none⟩:Addr).add j)=some u:=by
 intro j u hj;rw[Addr.add_lit,Nat.zero_add,(At.new w l.toArray t).cell?];simpa using hj
theorem iU(w0 w:World)(v:Value)(bs:List UInt8)(n:Nat)(h:Buf w0 w v bs)(hl:bs.length<=100000)(hn:n<=65535) :
 Calls prog 66 #[v,.int .i64 n] w fun e w'=>∃v',e=.returned v'/\Buf w0 w' v' (bs++two n):=by
 obtain⟨a,cap,rfl⟩:=h.form;obtain⟨i0,hi,hz0,hz1,hz2⟩:=info_parts Tryz.info5;have HT:Hid ((two n).map bT=[.int .u8 ((n:Int) / 256),.int .u8 ((n:Int) % 256)]):=EO n hn;have hz:=h.same.size;have HH:Hid (Buf w0 w (.slice a bs.length cap) bs):=h;have hown:=h.own;clear h
 go_enter func66,ntmps66
 go_wp2_with (at_builtin;refine wpList_append_own _ rfl _ _ 41 rfl w0.heap.size 5 i0 (.int .u8 0) 1 1 underlying41 hi hz0 hz1 hz2 rfl (by decide) _ _ _ rfl (hown.alloc _) ⟨w.heap.size,0,none⟩ 2 2 [.int .u8 ((n:Int) / 256),.int .u8 ((n:Int) % 256)] rfl rfl ?c1 ?c2 ?c3 ?c4 ?c5 ?_)
 case c1=>exact yu
 case c2=>intro u hu;simp at hu;rcases hu with rfl|rfl<;>rfl
 case c3=>unfold maxLen;omega
 case c4=>omega
 case c5=>simp;omega
 intro v' w4 hown' hgrow _;have HB:Hid (Buf w0 w4 v' (bs++two n)):=HH.out.app ((Same.refl _ _).alloc _) rfl (by rw[HT.out];exact hown') hgrow;clear hown' hgrow hown
 go_wp2
 go_ret
 exact⟨_,rfl,HB.out⟩
structure uX(w:World)(a:Option Addr)(l:List Nat):Prop where
 nil:a=none->l=[]
 at_:∀x,a=some x->∃g cs,x=⟨g,0,none⟩/\jd w g l cs
theorem uX.of{w:World}{og:Option Nat}{cap:Nat}{l:List Nat}(h1:og=none->l=[]/\cap=0)(h2:∀g,og=some g->fD w g cap l):uX w (mO og) l:=by
 refine⟨fun e=>?_,fun x hx=>?_⟩
 ·cases og with
  | none=>exact(h1 rfl).1
  | some g=>simp[mO]at e
 ·cases og with
  | none=>simp[mO]at hx
  | some g=>
   simp[mO]at hx;obtain⟨cs,q1,q2,q3,q4,q5⟩:=(h2 g rfl).ex;exact⟨g,cs,hx.symm,q1,q3,by omega⟩
theorem jd.cellAt{w:World}{g:Nat}{xs:List Nat}{cs:List Value}(h:jd w g xs cs)(i:Nat)(hi:i<xs.length):w.cell? ⟨g,i,none⟩=some (.int .i64 (xs[i]!:Nat)):=by
 rw[h.at_.cell?];exact h.cell i hi
theorem Sj(l:List Nat)(k:Nat)(hk:k<l.length):(l.take (k+1)).flatMap two=(l.take k).flatMap two++two l[k]!:=by
 rw[List.take_succ_eq_append_getElem hk,List.flatMap_append,getElem!_pos l k hk];simp
theorem lD(w0 w:World)(v:Value)(bs:List UInt8)(an:Option Addr)(cap:Nat)(l:List Nat)(h:Buf w0 w v bs)(hl:bs.length<=50000)(hN:uX w0 an l)(hll:l.length<=200)(hx:∀x∈l,x<=65535) :
 Calls prog 114 #[v,.slice an l.length cap] w fun e w'=>∃v',e=.returned v'/\Buf w0 w' v' (bs++nums l):=by
 have hP:=iU w0 w v bs l.length h (by omega) (by omega);have HN:Hid (uX w0 an l):=hN;have HX:Hid (∀x∈l,x<=65535):=hx;have HPN:Hid (∀(W:World)(v:Value)(bs:List UInt8)(n:Nat),Buf w0 W v bs->bs.length<=100000->n<=65535->Calls prog 66 #[v,.int .i64 n] W fun e w'=>∃v',e=.returned v'/\Buf w0 w' v' (bs++two n)):=fun W v bs n h1 h2 h3=>iU w0 W v bs n h1 h2 h3
 clear h hN hx
 go_enter func114,ntmps114
 go_wp2_with (go_at_call 66;refine hP.mono ?_;rintro e w1 ⟨v1,rfl,hB1⟩)
 clear hP
 go_loopw [0,13] (fun u i wr=>∃k:Nat,k<=l.length/\i=.int .i64 k/\Buf w0 wr u (bs++two l.length++(l.take k).flatMap two)) (fun _ i _=>l.length-(intOf i).toNat)
 case atStart=>exact⟨0,Nat.zero_le _,rfl,by simpa using hB1⟩
 case round=>
  clear hB1;obtain⟨k,hk,rfl,hB⟩:=hrel;by_cases hkl:k<l.length
  ·obtain⟨xa,hxa⟩:∃xa,an=some xa:=by
    cases an with
    | none=>rw[HN.out.nil rfl]at hkl;simp at hkl
    | some g=>exact⟨g,rfl⟩
   obtain⟨g,cs,rfl,hNg⟩:=HN.out.at_ xa hxa;subst hxa;have c1:=(hNg.same hB.same (by simp)).cellAt k hkl;have hxk:=HX.out (l[k]!) (by rw[getElem!_pos l k hkl];exact List.getElem_mem hkl);have HT:Hid ((l.take (k+1)).flatMap two=(l.take k).flatMap two++two l[k]!):=Sj l k hkl;have hlen:(bs++two l.length++(l.take k).flatMap two).length<=100000:=by
    rw[List.length_append,List.length_append,yQ,di,List.length_take];omega
   have hP:=HPN.out wr _ _ (l[k]!) hB hlen hxk;generalize l[k]! = x at *;have l1:(k:Int)<(l.length:Int):=by omega
   clear hB hNg
   go_wp2_with (go_at_call 66;refine hP.mono ?_;rintro e w2 ⟨v2,rfl,hB2⟩)
   go_roundw
   case rel=>exact⟨k+1,by omega,by go_num,by rw[HT.out,<-List.append_assoc];exact hB2⟩
   case measure=>simp[intOf];omega
  ·have ek:k=l.length:=by omega
   subst ek;have hE:bs++two l.length++(l.take l.length).flatMap two=bs++nums l:=by rw[List.take_length,nums,List.append_assoc]
   rw[hE]at hB;have HB:Hid _:=hB;clear hB
   go_wp2
   go_ret
   exact⟨_,rfl,HB.out⟩
def aF.jv(v:aF):Nat:=if v.lost then 2 else if v.org.isSome then 1 else 0
theorem BD(v:aF)(w:World)(h:dG w v):Calls prog 113 #[.pointer (some ⟨v.vb,0,none⟩)] w fun e w'=>e=.returned (.int .i64 v.jv)/\w'=w:=by
 have hI:=aJ v w h;obtain⟨cap,dW,_,hv,_⟩:=h.aA;have c4:w.cell? ⟨v.vb,4,none⟩=some (.bool v.lost):=hv.cell? 4;unfold aF.jv;cases hl:v.lost with
 | true=>
  rw[hl]at c4;clear hI hv h
  go_enter func113,ntmps113
  go_wp2
  go_ret
  exact⟨rfl,rfl⟩
 | false=>
  rw[hl]at c4;cases ho:v.org.isSome with
  | true=>
   rw[ho]at hI;clear hv h
   go_enter func113,ntmps113
   go_wp2_with (go_at_call 88;refine hI.mono ?_;rintro e w1 ⟨rfl,hw⟩;obtain rfl:=hw.symm)
   go_ret
   exact⟨rfl,rfl⟩
  | false=>
   rw[ho]at hI;clear hv h
   go_enter func113,ntmps113
   go_wp2_with (go_at_call 88;refine hI.mono ?_;rintro e w1 ⟨rfl,hw⟩;obtain rfl:=hw.symm)
   go_ret
   exact⟨rfl,rfl⟩
def dF(l:List UInt8):Nat:=l.foldl (fun n b=>(n*31+b.toNat) % 65521) 1
theorem lM(l:List UInt8):dF l<65521:=by
 unfold dF;have:∀(l:List UInt8)(n:Nat),n<65521->l.foldl (fun n b=>(n*31+b.toNat) % 65521) n<65521:=by
  intro l
  induction l with
  | nil=>intro n h;exact h
  | cons a r ih=>intro n _;exact ih _ (Nat.mod_lt _ (by omega))
 exact this l 1 (by omega)
theorem yt(l:List UInt8)(b:UInt8):dF (l++[b])=(dF l*31+b.toNat) % 65521:=by
 unfold dF;rw[List.foldl_append];rfl
structure BytesAt(w:World)(a:Option Addr)(bs:List UInt8):Prop where
 ex:bs≠[]->∃b off,a=some ⟨b,off,none⟩/\∀i,i<bs.length->w.cell? ⟨b,off+i,none⟩=some (bT bs[i]!)
theorem ER(w:World)(a:Option Addr)(cap:Nat)(bs:List UInt8)(h:BytesAt w a bs)(hl:bs.length<=maxLen) :
 Calls prog 70 #[.slice a bs.length cap] w fun e w'=>e=.returned (.int .i64 (dF bs))/\w'=w:=by
 unfold maxLen at hl;have HH:Hid (BytesAt w a bs):=h;have HTK:Hid (∀k,k<bs.length->bs.take (k+1)=bs.take k++[bs[k]!]):=fun k hk=>by rw[List.take_succ_eq_append_getElem hk,getElem!_pos bs k hk]
 clear h
 go_enter func70,ntmps70
 go_wp2
 go_loopw [3,8] (fun n i wr=>∃k:Nat,k<=bs.length/\i=.int .i64 k/\n=.int .i64 (dF (bs.take k))/\wr=w) (fun _ i _=>bs.length-(intOf i).toNat)
 case atStart=>exact⟨0,Nat.zero_le _,rfl,rfl,rfl⟩
 case round=>
  obtain⟨k,hk,rfl,rfl,rfl⟩:=hrel;by_cases hkl:k<bs.length
  ·obtain⟨b,off,rfl,hc⟩:=HH.out.ex (by intro e;rw[e]at hkl;simp at hkl);have c1:=hc k hkl;unfold bT at c1;have HS:Hid (dF (bs.take (k+1))=(dF (bs.take k)*31+(bs[k]!).toNat) % 65521):=by show _=_;rw[HTK.out k hkl,yt]
   have hlt:=lM (bs.take k);have hbt:=(bs[k]!).toNat_lt;generalize dF (bs.take k)=m at *;generalize (bs[k]!).toNat=x at *;have l1:(k:Int)<(bs.length:Int):=by omega
   have hx1:((m:Int)*31+(x:Int)).tmod 65521=(((m*31+x) % 65521:Nat):Int):=by
    rw[Int.tmod_eq_emod_of_nonneg (by omega)];omega
   clear HH hc
   go_wp2
   go_roundw
   case rel=>exact⟨k+1,by omega,by go_num,by rw[HS.out];first|rfl|(simp;done)|(congr 1;omega),by first|rfl|trivial⟩
   case measure=>simp[intOf];omega
  ·have ek:k=bs.length:=by omega
   subst ek;have HE:Hid (dF (bs.take bs.length)=dF bs):=by show _=_;rw[List.take_length]
   clear HH
   go_wp2
   go_ret
   rw[HE.out];exact⟨rfl,rfl⟩
def headB(s:St)(v:aF):List UInt8:=[UInt8.ofNat v.name.size]++v.name.data.toList++[UInt8.ofNat v.jv]++two (s.size v)
def iD(s:St)(v:aF):List UInt8:=
 headB s v++(match v.org with
 | none=>nums v.xs
 | some _=>[UInt8.ofNat (posOf s.names (s.aB v).name)]++nums v.xs++nums v.kept)
theorem Hr(s:St)(v:aF):(headB s v).length=v.name.size+4:=by
 simp only[headB,List.length_append,di,List.length_cons,List.length_nil];have:v.name.data.toList.length=v.name.size:=Array.length_toList;omega
theorem DX(s:St)(v:aF):(iD s v).length<=v.name.size+9+2*v.xs.length+2*v.kept.length:=by
 unfold iD;rw[List.length_append,Hr]
 split
 ·rw[nums_length];omega
 ·rw[List.length_append,List.length_append,nums_length,nums_length];simp only[List.length_cons,List.length_nil];omega
theorem gJ{ops:Array Oper}{rest:List Oper}{o:Oper}{a:Act}{Q:Exit->Act->World->Prop}(hgd:o.guard=none)(s x:Operand)
 (ho:o.op=.call { callee:=.builtin .append,args:=#[s,x],argTypes:=#[41,41] }) (w0 w:World) (u:Value) (bs:List UInt8) (hB:Buf w0 w u bs) (hs:a.eval s=u) (n:Nat) (c:Int) (hx:a.eval x=.slice (some ⟨w.heap.size,0,none⟩) 1 1)
 (hc:c=((UInt8.ofNat n).toNat:Int)) (hl:bs.length<=1000000)
 (h:∀u' w',Buf w0 w' u' (bs++[UInt8.ofNat n])->wpList prog ops Q rest (a.put o.dst u') w'):wpList prog ops Q (o::rest) a (w.alloc (.cells #[.int .u8 c] 5)):=by
 obtain⟨i0,hi,hz0,hz1,hz2⟩:=info_parts Tryz.info5;have hz:=hB.same.size;refine wpList_append_own _ hgd s x 41 ho w0.heap.size 5 i0 (.int .u8 0) 1 1 underlying41 hi hz0 hz1 hz2 rfl (by decide) u bs.length (bs.map bT) hs (hB.own.alloc _) ⟨w.heap.size,0,none⟩ 1 1 [.int .u8 c] hx rfl yu (by intro u hu;simp at hu;subst hu;rfl) (by unfold maxLen;omega) (by omega) (by simp;omega) ?_;intro v' w4 hown' hgrow _;refine h v' w4 (hB.app ((Same.refl _ _).alloc _) rfl ?_ hgrow);rw[show [UInt8.ofNat n].map bT=[.int .u8 c] by rw[hc];rfl];exact hown'
theorem qU{ops:Array Oper}{rest:List Oper}{o:Oper}{a:Act}{Q:Exit->Act->World->Prop}(hgd:o.guard=none)(s x:Operand)
 (ho:o.op=.call { callee:=.builtin .append,args:=#[s,x],argTypes:=#[41,9] }) (w0 w:World) (u:Value) (bs:List UInt8) (hB:Buf w0 w u bs) (hs:a.eval s=u) (t:ByteArray) (hx:a.eval x=.string t)
 (hl:bs.length+t.size<=1000000)
 (h:∀u' w',Buf w0 w' u' (bs++t.data.toList)->wpList prog ops Q rest (a.put o.dst u') w'):wpList prog ops Q (o::rest) a w:=by
 obtain⟨i0,hi,hz0,hz1,hz2⟩:=info_parts Tryz.info5;have hz:=hB.same.size;refine Lib.wpList_append_own_string _ hgd s x 41 9 ho w0.heap.size 5 i0 underlying41 underlying9 hi hz0 hz1 hz2 u bs.length (bs.map bT) hs hB.own t hx (by unfold maxLen;omega) (by omega) hz ?_;intro v' w4 hown' hgrow _;exact h v' w4 (hB.app (n:=bs.length+t.size) (Same.refl _ _) (by rw[show t.data.toList.length=t.size from Array.length_toList]) hown' hgrow)
theorem Ce{ops:Array Oper}{rest:List Oper}{o:Oper}{a:Act}{Q:Exit->Act->World->Prop}(hgd:o.guard=none)(s x:Operand)
 (ho:o.op=.call { callee:=.builtin .append,args:=#[s,x],argTypes:=#[41,41] }) (w0 w:World) (u:Value) (bs ns:List UInt8) (hB:Buf w0 w u bs) (hs:a.eval s=u) (g off cap:Nat) (hx:a.eval x=.slice (some ⟨g,off,none⟩) ns.length cap)
 (hc:∀j,j<ns.length->w.cell? ⟨g,off+j,none⟩=some (bT ns[j]!)) (hl:bs.length+ns.length<=1000000)
 (h:∀u' w',Buf w0 w' u' (bs++ns)->wpList prog ops Q rest (a.put o.dst u') w'):wpList prog ops Q (o::rest) a w:=by
 obtain⟨i0,hi,hz0,hz1,hz2⟩:=info_parts Tryz.info5;have hz:=hB.same.size;refine wpList_append_own _ hgd s x 41 ho w0.heap.size 5 i0 (.int .u8 0) 1 1 underlying41 hi hz0 hz1 hz2 rfl (by decide) u bs.length (bs.map bT) hs hB.own ⟨g,off,none⟩ ns.length cap (ns.map bT) hx (by simp) ?_ (RF ns) (by unfold maxLen;omega) (by omega) (by omega) ?_
 ·intro j u hj;have hj':j<ns.length:=by
   rcases Nat.lt_or_ge j ns.length with h'|h'
   ·exact h'
   ·rw[List.getElem?_eq_none (by simpa using h')]at hj;cases hj
  rw[Addr.add_lit,hc j hj',<-hj,List.getElem?_map,List.getElem?_eq_getElem hj',getElem!_pos ns j hj'];rfl
 ·intro v' w4 hown' hgrow _;exact h v' w4 (hB.app (Same.refl _ _) rfl hown' hgrow)
theorem qi(n:Nat)(h:n<=255):((UInt8.ofNat n).toNat:Int)=(n:Int):=by
 rw[UInt8.toNat_ofNat'];omega
structure OJ(w0:World)(v:aF)(cap dW:Nat):Prop where
 xs:uX w0 (some ⟨v.gb,0,none⟩) v.xs
 kept:uX w0 (mO v.kg) v.kept
 name:∀W,Same [] w0 W->W.cell? ⟨v.vb,0,none⟩=some (.string v.name)
 blocks:∀W,Same [] w0 W->W.cell? ⟨v.vb,1,none⟩=some (.slice (some ⟨v.gb,0,none⟩) v.xs.length cap)
 org:∀W,Same [] w0 W->W.cell? ⟨v.vb,2,none⟩=some (.pointer (mO v.org))
 places:∀W,Same [] w0 W->W.cell? ⟨v.vb,3,none⟩=some (.slice (mO v.kg) v.kept.length dW)
theorem dG.in_{w0:World}{v:aF}(h:dG w0 v):∃cap dW,OJ w0 v cap dW:=by
 obtain⟨cap,dW,_,hv,h1,h2⟩:=h.aA;obtain⟨cs,hr⟩:=h.row;refine⟨cap,dW,⟨(fun e=>by cases e),fun x hx=>?_⟩,uX.of h1 h2,fun W hW=>(hW.at hv (by simp)).cell? 0,fun W hW=>(hW.at hv (by simp)).cell? 1,fun W hW=>(hW.at hv (by simp)).cell? 2,fun W hW=>(hW.at hv (by simp)).cell? 3⟩;cases hx;exact⟨v.gb,cs,rfl,hr⟩
structure Tv(s:St)(v:aF)(w0:World):Prop where
 pool:ai w0 s
 mem:v∈s.af
 name:v.name.size<=10
 size:s.size v<=200
 xs:∀x∈v.xs,x<=65535
 kept:∀x∈v.kept,x<=65535
theorem Du(s:St)(v:aF)(w0 w:World)(u:Value)(bs:List UInt8)(hH:Tv s v w0)(ho:v.org=none)(h:Buf w0 w u bs)(hl:bs.length<=40000) :
 Calls prog 68 #[.pointer (some ⟨s.pb,0,none⟩),u,.pointer (some ⟨v.vb,0,none⟩)] w fun e w'=>∃u',e=.returned u'/\Buf w0 w' u' (bs++iD s v):=by
 have hnot:=bP;obtain⟨h0,hv,hn,hsz,hx,hkx⟩:=hH;have hV:=fun W (hW:Same [] w0 W)=>(h0.new hW).af v hv
 have hK:=fun W (hW:Same [] w0 W)=>BD v W (hV W hW)
 have hZ:=fun W (hW:Same [] w0 W)=>size_at (h0.new hW) hv
 have hI:=fun W (hW:Same [] w0 W)=>aJ v W (hV W hW)
 have HPN:Hid (∀(W:World)(v:Value)(bs:List UInt8)(n:Nat),Buf w0 W v bs->bs.length<=100000->n<=65535->Calls prog 66 #[v,.int .i64 n] W fun e w'=>∃v',e=.returned v'/\Buf w0 w' v' (bs++two n)):=fun W v bs n h1 h2 h3=>iU w0 W v bs n h1 h2 h3
 rw[ho]at hI;have hkn:v.jv<=2:=by unfold aF.jv;split<;>(try split)<;>omega
 have HE:Hid (bs++[UInt8.ofNat v.name.size]++v.name.data.toList++[UInt8.ofNat v.jv]++two (s.size v)++nums v.xs=bs++iD s v):=by
  show _=_;unfold iD headB;rw[ho];simp[List.append_assoc]
 have hsm:=(h0.af v hv).small;obtain⟨cap,dW,hvi⟩:=(h0.af v hv).in_;have HPS:Hid (∀(W:World)(u:Value)(bs:List UInt8),Buf w0 W u bs->bs.length<=50000->Calls prog 114 #[u,.slice (some ⟨v.gb,0,none⟩) v.xs.length cap] W fun e w'=>∃v',e=.returned v'/\Buf w0 w' v' (bs++nums v.xs)):=fun W u bs h1 h2=>lD w0 W u bs _ cap v.xs h1 h2 hvi.xs hsm hx
 have HVI:Hid (OJ w0 v cap dW):=hvi;have HB:Hid (Buf w0 w u bs):=h;have c0:=hvi.name w h.same;have hts:v.name.data.toList.length=v.name.size:=Array.length_toList;have ht2:=di (s.size v);clear hV hvi h hx hkx
 go_enter func68,ntmps68
 go_wp2_with (at_builtin;refine gJ rfl _ _ rfl w0 w u bs HB.out rfl v.name.size _ rfl (by rw[qi _ (by omega)]) (by omega) ?_)
 intro u1 w1 hB1;have d0:=HVI.out.name w1 hB1.same;obtain⟨b1,q1⟩:∃b1,bs++[UInt8.ofNat v.name.size]=b1:=⟨_,rfl⟩
 rw[q1]at hB1;have hl1:b1.length<=40001:=by rw[<-q1,List.length_append,List.length_singleton];omega
 have H1:Hid (bs++[UInt8.ofNat v.name.size]=b1):=q1;have HB1:Hid (Buf w0 w1 u1 b1):=hB1;clear hB1 c0 q1
 go_wp2_with (at_builtin;refine qU rfl _ _ rfl w0 w1 u1 _ HB1.out rfl v.name rfl (by omega) ?_)
 intro u2 w2 hB2;obtain⟨b2,q2⟩:∃b2,b1++v.name.data.toList=b2:=⟨_,rfl⟩
 rw[q2]at hB2;have hl2:b2.length<=40011:=by rw[<-q2,List.length_append];omega
 have H2:Hid (b1++v.name.data.toList=b2):=q2;have HB2:Hid (Buf w0 w2 u2 b2):=hB2;have hK2:=hK w2 hB2.same;clear hB2 d0 q2
 go_wp2_with (first|(go_at_call 113;refine hK2.mono ?_;rintro e w' ⟨rfl,hw⟩;obtain rfl:=hw.symm)|(at_builtin;refine gJ rfl _ _ rfl w0 w2 u2 _ HB2.out rfl v.jv _ rfl (by rw[qi _ (by omega)]) (by omega) ?_))
 intro u3 w3 hB3;obtain⟨b3,q3⟩:∃b3,b2++[UInt8.ofNat v.jv]=b3:=⟨_,rfl⟩
 rw[q3]at hB3;have hl3:b3.length<=40012:=by rw[<-q3,List.length_append,List.length_singleton];omega
 have H3:Hid (b2++[UInt8.ofNat v.jv]=b3):=q3;clear q3;have hZ3:=hZ w3 hB3.same;have hP3:=HPN.out w3 u3 _ (s.size v) hB3 (by omega) (by omega);clear hB3
 go_wp2_with (first|(go_at_call 94;refine hZ3.mono ?_;rintro e w' ⟨rfl,hw⟩;obtain rfl:=hw.symm)|(go_at_call 66;refine hP3.mono ?_;rintro e w4 ⟨u4,rfl,hB4⟩))
 have hI4:=hI w4 hB4.same;have e1:=HVI.out.blocks w4 hB4.same;obtain⟨b4,q4⟩:∃b4,b3++two (s.size v)=b4:=⟨_,rfl⟩
 rw[q4]at hB4;have hl4:b4.length<=40014:=by rw[<-q4,List.length_append,ht2];omega
 have H4:Hid (b3++two (s.size v)=b4):=q4;have hS4:=HPS.out w4 u4 _ hB4 (by omega);clear hB4 hP3 q4
 go_wp2_with (first|(go_at_call 88;refine hI4.mono ?_;rintro e w' ⟨rfl,hw⟩;obtain rfl:=hw.symm)|(go_at_call 114;refine hS4.mono ?_;rintro e w5 ⟨u5,rfl,hB5⟩))
 go_ret
 exact⟨_,rfl,by rw[<-HE.out,H1.out,H2.out,H3.out,H4.out];exact hB5⟩
theorem Ea(s:St)(v o:aF)(w0 w:World)(u:Value)(bs:List UInt8)(hH:Tv s v w0)(hom:o∈s.af)(ho:v.org=some o.vb)(hoo:s.aB v=o)(h:Buf w0 w u bs)(hl:bs.length<=40000) :
 Calls prog 68 #[.pointer (some ⟨s.pb,0,none⟩),u,.pointer (some ⟨v.vb,0,none⟩)] w fun e w'=>∃u',e=.returned u'/\Buf w0 w' u' (bs++iD s v):=by
 have hnot:=bP;obtain⟨h0,hv,hn,hsz,hx,hkx⟩:=hH;have hV:=fun W (hW:Same [] w0 W)=>(h0.new hW).af v hv
 have hK:=fun W (hW:Same [] w0 W)=>BD v W (hV W hW)
 have hZ:=fun W (hW:Same [] w0 W)=>size_at (h0.new hW) hv
 have hI:=fun W (hW:Same [] w0 W)=>aJ v W (hV W hW)
 have hIX:=fun W (hW:Same [] w0 W)=>oU s o.name W (h0.new hW)
 have hpos:posOf s.names o.name<=20:=by
  have:=List.countP_le_length (p:=fun n=>decide (bW n o.name<0)) (l:=s.names);have h2:s.names.length=s.af.length:=by simp[St.names]
  have h3:=h0.few;have h4:s.names.countP (fun n=>decide (bW n o.name<0))=posOf s.names o.name:=rfl;omega
 have HPN:Hid (∀(W:World)(v:Value)(bs:List UInt8)(n:Nat),Buf w0 W v bs->bs.length<=100000->n<=65535->Calls prog 66 #[v,.int .i64 n] W fun e w'=>∃v',e=.returned v'/\Buf w0 w' v' (bs++two n)):=fun W v bs n h1 h2 h3=>iU w0 W v bs n h1 h2 h3
 rw[ho]at hI;have hkn:v.jv<=2:=by unfold aF.jv;split<;>(try split)<;>omega
 have HE:Hid (bs++[UInt8.ofNat v.name.size]++v.name.data.toList++[UInt8.ofNat v.jv]++two (s.size v)++[UInt8.ofNat (posOf s.names o.name)]++nums v.xs++nums v.kept=bs++iD s v):=by
  show _=_;unfold iD headB;rw[ho,hoo];simp[List.append_assoc]
 have hsm:=(h0.af v hv).small;have hrm:=(h0.af v hv).room;obtain⟨cap,dW,hvi⟩:=(h0.af v hv).in_;obtain⟨aaF,ZG,hoi⟩:=(h0.af o hom).in_;have HPS:Hid (∀(W:World)(u:Value)(bs:List UInt8),Buf w0 W u bs->bs.length<=50000->Calls prog 114 #[u,.slice (some ⟨v.gb,0,none⟩) v.xs.length cap] W fun e w'=>∃v',e=.returned v'/\Buf w0 w' v' (bs++nums v.xs)):=fun W u bs h1 h2=>lD w0 W u bs _ cap v.xs h1 h2 hvi.xs hsm hx
 have HPK:Hid (∀(W:World)(u:Value)(bs:List UInt8),Buf w0 W u bs->bs.length<=50000->Calls prog 114 #[u,.slice (mO v.kg) v.kept.length dW] W fun e w'=>∃v',e=.returned v'/\Buf w0 w' v' (bs++nums v.kept)):=fun W u bs h1 h2=>lD w0 W u bs _ dW v.kept h1 h2 hvi.kept (by omega) hkx
 have rq:=hvi.org;rw[ho]at rq;have aaG:Hid (∀W,Same [] w0 W->W.cell? ⟨v.vb,2,none⟩=some (.pointer (some ⟨o.vb,0,none⟩))):=rq;have HVI:Hid (OJ w0 v cap dW):=hvi;have HOI:Hid (OJ w0 o aaF ZG):=hoi;have HB:Hid (Buf w0 w u bs):=h;have c0:=hvi.name w h.same;have hts:v.name.data.toList.length=v.name.size:=Array.length_toList;have ht2:=di (s.size v);have hnx:=nums_length v.xs;have hsome:(some o.vb).isSome=true:=rfl;rw[hsome]at hI;clear hV hvi hoi h hx hkx rq hsome
 go_enter func68,ntmps68
 go_wp2_with (at_builtin;refine gJ rfl _ _ rfl w0 w u bs HB.out rfl v.name.size _ rfl (by rw[qi _ (by omega)]) (by omega) ?_)
 intro u1 w1 hB1;have d0:=HVI.out.name w1 hB1.same;obtain⟨b1,q1⟩:∃b1,bs++[UInt8.ofNat v.name.size]=b1:=⟨_,rfl⟩
 rw[q1]at hB1;have hl1:b1.length<=40001:=by rw[<-q1,List.length_append,List.length_singleton];omega
 have H1:Hid (bs++[UInt8.ofNat v.name.size]=b1):=q1;have HB1:Hid (Buf w0 w1 u1 b1):=hB1;clear hB1 c0 q1
 go_wp2_with (at_builtin;refine qU rfl _ _ rfl w0 w1 u1 _ HB1.out rfl v.name rfl (by omega) ?_)
 intro u2 w2 hB2;obtain⟨b2,q2⟩:∃b2,b1++v.name.data.toList=b2:=⟨_,rfl⟩
 rw[q2]at hB2;have hl2:b2.length<=40011:=by rw[<-q2,List.length_append];omega
 have H2:Hid (b1++v.name.data.toList=b2):=q2;have HB2:Hid (Buf w0 w2 u2 b2):=hB2;have hK2:=hK w2 hB2.same;clear hB2 d0 q2
 go_wp2_with (first|(go_at_call 113;refine hK2.mono ?_;rintro e w' ⟨rfl,hw⟩;obtain rfl:=hw.symm)|(at_builtin;refine gJ rfl _ _ rfl w0 w2 u2 _ HB2.out rfl v.jv _ rfl (by rw[qi _ (by omega)]) (by omega) ?_))
 intro u3 w3 hB3;obtain⟨b3,q3⟩:∃b3,b2++[UInt8.ofNat v.jv]=b3:=⟨_,rfl⟩
 rw[q3]at hB3;have hl3:b3.length<=40012:=by rw[<-q3,List.length_append,List.length_singleton];omega
 have H3:Hid (b2++[UInt8.ofNat v.jv]=b3):=q3;clear q3;have hZ3:=hZ w3 hB3.same;have hP3:=HPN.out w3 u3 _ (s.size v) hB3 (by omega) (by omega);clear hB3
 go_wp2_with (first|(go_at_call 94;refine hZ3.mono ?_;rintro e w' ⟨rfl,hw⟩;obtain rfl:=hw.symm)|(go_at_call 66;refine hP3.mono ?_;rintro e w4 ⟨u4,rfl,hB4⟩))
 have hI4:=hI w4 hB4.same;have e2:=aaG.out w4 hB4.same;have f0:=HOI.out.name w4 hB4.same;have hX4:=hIX w4 hB4.same;obtain⟨b4,q4⟩:∃b4,b3++two (s.size v)=b4:=⟨_,rfl⟩
 rw[q4]at hB4;have hl4:b4.length<=40014:=by rw[<-q4,List.length_append,ht2];omega
 have H4:Hid (b3++two (s.size v)=b4):=q4;have HB4:Hid (Buf w0 w4 u4 b4):=hB4;clear hB4 hP3 q4;generalize posOf s.names o.name=po at *
 go_wp2_with (first|(go_at_call 88;refine hI4.mono ?_;rintro e w' ⟨rfl,hw⟩;obtain rfl:=hw.symm)|(go_at_call 115;refine hX4.mono ?_;rintro e w' ⟨rfl,hw⟩;obtain rfl:=hw.symm)|(at_builtin;refine gJ rfl _ _ rfl w0 w4 u4 _ HB4.out rfl po _ rfl (by rw[qi _ (by omega)]) (by omega) ?_))
 intro u5 w5 hB5;have e1:=HVI.out.blocks w5 hB5.same;obtain⟨b5,q5⟩:∃b5,b4++[UInt8.ofNat po]=b5:=⟨_,rfl⟩
 rw[q5]at hB5;have hl5:b5.length<=40015:=by rw[<-q5,List.length_append,List.length_singleton];omega
 have H5:Hid (b4++[UInt8.ofNat po]=b5):=q5;have hS5:=HPS.out w5 u5 _ hB5 (by omega);clear hB5 q5
 go_wp2_with fail
 refine hS5.mono ?_;rintro e w6 ⟨u6,rfl,hB6⟩;have e3:=HVI.out.places w6 hB6.same;obtain⟨b6,q6⟩:∃b6,b5++nums v.xs=b6:=⟨_,rfl⟩
 rw[q6]at hB6;have hl6:b6.length<=40500:=by rw[<-q6,List.length_append,hnx];omega
 have H6:Hid (b5++nums v.xs=b6):=q6;have hS6:=HPK.out w6 u6 _ hB6 (by omega);clear hB6 hS5 q6
 go_wp2_with fail
 refine hS6.mono ?_;rintro e w7 ⟨u7,rfl,hB7⟩
 go_wp2_with fail
 go_ret
 exact⟨_,rfl,by rw[<-HE.out,H1.out,H2.out,H3.out,H4.out,H5.out,H6.out];exact hB7⟩
def aN.Ei(b:aN):List Int:=[b.b0,b.b1,b.b2,b.b3,b.b4,b.b5,b.b6,b.b7]
def aN.bytes(b:aN):List UInt8:=b.Ei.map fun n=>UInt8.ofNat n.toNat
def aN.fits(b:aN):Prop:=∀n∈b.Ei,0<=n/\n<=255
theorem aN.wV(b:aN):b.bytes.length=8:=rfl
theorem aN.JK(b:aN)(h:b.fits):b.bytes.map bT=b.cells:=by
 have key:∀n∈b.Ei,bT (UInt8.ofNat n.toNat)=Value.int .u8 n:=fun n hn=>by
  have:=h n hn;unfold bT;rw[UInt8.toNat_ofNat']
  congr 1
  omega
 unfold aN.bytes;rw[List.map_map];show b.Ei.map _=b.Ei.map (Value.int .u8);exact List.map_congr_left fun n hn=>key n hn
def gq:List UInt8:=[83,84,82,49]
def mQ(s:St)(l:List aF):List UInt8:=l.flatMap (iD s)
def qh(s:St):List UInt8:=gq++two s.n++[UInt8.ofNat s.af.length]++mQ s s.af++s.bl.flatMap aN.bytes
def kT(s:St):List UInt8:=qh s++two (dF (qh s))
theorem zl(l:List aN):(l.flatMap aN.bytes).length=8*l.length:=by
 induction l with
 | nil=>rfl
 | cons a r ih=>rw[List.flatMap_cons,List.length_append,ih,aN.wV,List.length_cons];omega
theorem Pz(l:List aN)(k:Nat)(hk:k<l.length):(l.take (k+1)).flatMap aN.bytes=(l.take k).flatMap aN.bytes++(l[k]!).bytes:=by
 rw[List.take_succ_eq_append_getElem hk,List.flatMap_append,getElem!_pos l k hk];simp
theorem RP(s:St)(l:List aF)(k:Nat)(hk:k<l.length):mQ s (l.take (k+1))=mQ s (l.take k)++iD s l[k]!:=by
 unfold mQ;rw[List.take_succ_eq_append_getElem hk,List.flatMap_append,getElem!_pos l k hk];simp
theorem qL(s:St)(l:List aF)(h:∀v∈l,(iD s v).length<=1000):(mQ s l).length<=1000*l.length:=by
 induction l with
 | nil=>simp[mQ]
 | cons a r ih=>
  have h1:=h a (by simp);have h2:=ih (fun v hv=>h v (List.mem_cons_of_mem _ hv));unfold mQ at *;rw[List.flatMap_cons,List.length_append,List.length_cons];omega
structure l7(w w':World)(g:Nat)(bs:List UInt8):Prop where
 new:w.heap.size<=g
 ex:∃cs,At w' g 5 cs/\cs.take bs.length=bs.map bT
 same:Same [] w w'
theorem RZ{w0 w:World}{u:Value}{bs:List UInt8}(h:Buf w0 w u bs):∃a cap,u=.slice a bs.length cap/\BytesAt w a bs:=by
 obtain⟨a,cap,rfl⟩:=h.form;refine⟨a,cap,rfl,⟨fun hne=>?_⟩⟩;have hn:bs.length≠0:=fun e=>hne (List.eq_nil_of_length_eq_zero e)
 obtain⟨g,cs,rfl,_,hA,_,ht⟩:=iw h.own hn;refine⟨g,0,rfl,fun i hi=>?_⟩;rw[Nat.zero_add,hA.cell?];have e:(cs.take (bs.length*1))[i]? = cs[i]?:=by rw[List.getElem?_take,if_pos (by omega)]
 rw[<-e,ht,List.getElem?_map,List.getElem?_eq_getElem hi,getElem!_pos bs i hi];rfl
theorem BV(db:Nat)(n:Nat)(t:TypeId)(a:Option Addr)(c:Nat)(v1:Value)(w:World)(h0:At w db t [.slice a n c,v1])(hn:n<=1000) :
 Calls prog 67 #[.pointer (some ⟨db,0,none⟩)] w fun e w'=>e=.returned (.int .i64 n)/\w'=w:=by
 have h0':w.cell? ⟨db,0,none⟩=some (.slice a n c):=h0.cell? 0;clear h0
 go_enter func67,ntmps67
 go_wp2
 go_ret
 exact⟨rfl,rfl⟩
structure mD(s:St)(w:World):Prop where
 pool:ai w s
 name:∀v∈s.af,v.name.size<=10
 xs:∀v∈s.af,∀x∈v.xs,x<200
 kept:∀v∈s.af,∀x∈v.kept,x<200
 fits:∀x,x<s.n->(s.bl[x]!).fits
theorem mD.size{s:St}{w:World}(h:mD s w){v:aF}(hv:v∈s.af):s.size v<=200:=by
 unfold St.size;exact(h.pool.af _ (h.pool.aB hv).1).small
theorem mD.entry{s:St}{w:World}(h:mD s w){v:aF}(hv:v∈s.af):(iD s v).length<=1000:=by
 have h1:=DX s v;have h2:=h.name v hv;have h3:=(h.pool.af v hv).small;have h4:=(h.pool.af v hv).room;omega
theorem mD.put{s:St}{w:World}(h:mD s w){v:aF}(hv:v∈s.af)(w1:World)(u:Value)(bs:List UInt8)(hB:Buf w w1 u bs)(hl:bs.length<=40000) :
 Calls prog 68 #[.pointer (some ⟨s.pb,0,none⟩),u,.pointer (some ⟨v.vb,0,none⟩)] w1 fun e w'=>∃u',e=.returned u'/\Buf w w' u' (bs++iD s v):=by
 have hH:Tv s v w:=⟨h.pool,hv,h.name v hv,h.size hv,fun x hx=>by have:=h.xs v hv x hx;omega,fun x hx=>by have:=h.kept v hv x hx;omega⟩
 by_cases ho:v.org=none
 ·exact Du s v w w1 u bs hH ho hB hl
 ·exact Ea s v (s.aB v) w w1 u bs hH (h.pool.aB hv).1 ((h.pool.aB hv).2.2.2 ho) rfl hB hl
theorem Bq(w0 w:World)(g:Nat)(bs:List UInt8)(n:Nat)(hS:Same [] w0 w)(hc:∀j,j<bs.length->w.cell? ⟨g,j,none⟩=some (bT bs[j]!))(hg:g<w.heap.size)(hl:bs.length<=100000)(hn:n<=65535) :
 Calls prog 66 #[.slice (some ⟨g,0,none⟩) bs.length bs.length,.int .i64 n] w fun e w'=>∃v',e=.returned v'/\Buf w0 w' v' (bs++two n):=by
 obtain⟨i0,hi,hz0,hz1,hz2⟩:=info_parts Tryz.info5;have HT:Hid ((two n).map bT=[.int .u8 ((n:Int) / 256),.int .u8 ((n:Int) % 256)]):=EO n hn;have hz:=hS.size;have HC:Hid (∀j u,(bs.map bT)[j]? = some u->(w.alloc (.cells #[.int .u8 ((n:Int) / 256),.int .u8 ((n:Int) % 256)] 5)).cell? ⟨g,j,none⟩=some u):=fun j u hj=>by
  have hj':j<bs.length:=by
   rcases Nat.lt_or_ge j bs.length with h'|h'
   ·exact h'
   ·rw[List.getElem?_eq_none (by simpa using h')]at hj;cases hj
  have e:(w.alloc (.cells #[.int .u8 ((n:Int) / 256),.int .u8 ((n:Int) % 256)] 5)).cell? ⟨g,j,none⟩=w.cell? ⟨g,j,none⟩:=by
   simp[World.cell?,Below.heap_alloc w _ g hg]
  rw[e,hc j hj',<-hj,List.getElem?_map,List.getElem?_eq_getElem hj',getElem!_pos bs j hj'];rfl
 clear hc
 go_enter func66,ntmps66
 go_wp2_with (at_builtin;refine wpList_append_grows _ rfl _ _ 41 rfl 5 i0 (.int .u8 0) 1 1 underlying41 hi hz0 hz1 hz2 rfl (by decide) (some ⟨g,0,none⟩) bs.length bs.length (bs.map bT) rfl (fun e=>by cases e) (by simp) ?c0 ⟨w.heap.size,0,none⟩ 2 2 [.int .u8 ((n:Int) / 256),.int .u8 ((n:Int) % 256)] rfl rfl ?c1 ?c2 (by omega) ?c3 ?c4 ?_)
 case c0=>intro b hb j u hj;cases hb;rw[Addr.add_lit,Nat.zero_add];exact HC.out j u hj
 case c1=>exact yu
 case c2=>intro u hu;simp at hu;rcases hu with rfl|rfl<;>rfl
 case c3=>unfold maxLen;omega
 case c4=>omega
 intro v' w4 hown' hgrow;have HB:Hid (Buf w0 w4 v' (bs++two n)):=by
  refine⟨?_,(hS.alloc _).grown hgrow (by simp)⟩;rw[List.length_append,List.map_append,HT.out,di];exact EG hown' (by first|omega|(simp;omega))
 clear hown' hgrow
 go_wp2
 go_ret
 exact⟨_,rfl,HB.out⟩
theorem J7(s:St)(w:World)(h:mD s w) :
 Calls prog 34 #[.pointer (some ⟨s.pb,0,none⟩)] w fun e w'=>∃g,e=.returned (.slice (some ⟨g,0,none⟩) (kT s).length (kT s).length)/\l7 w w' g (kT s):=by
 have hnot:=bP;have hcv:=Joins.run_convert_bytes_const_at (P:=prog) w 41 5 #[.int .u8 83,.int .u8 84,.int .u8 82,.int .u8 49] 4 4 w.heap.size rfl underlying41 underlying5;have hm:=qC s w h.pool;obtain⟨cap,hp,hp1,hp2⟩:=h.pool.pool;have hns:=h.pool.disk.small;have hbl:=h.pool.disk.len;have hfew:=h.pool.few;have HCP:Hid (∀W,Same [] w W->W.cell? ⟨s.pb,1,none⟩=some (.pointer (some ⟨s.db,0,none⟩))/\W.cell? ⟨s.pb,2,none⟩=some (.slice (s.ab.map fun b=>⟨b,0,none⟩) s.af.length cap)):=fun W hW=>⟨(hW.at hp (by simp)).cell? 1,(hW.at hp (by simp)).cell? 2⟩
 have hSZ:=fun W (hW:Same [] w W)=>BV s.db s.n _ _ _ _ W (hW.at h.pool.disk.disk (by simp)) (by omega)
 have hRD:=fun W (hW:Same [] w W) (k:Nat) (hk:k<s.n)=>gu s.db s.bb s.n k _ _ _ s.bl W (.pointer (some ⟨s.db,0,none⟩)) k rfl rfl (hW.at h.pool.disk.disk (by simp)) (hW.at h.pool.disk.data (by simp)) hbl hk (by omega)
 have HRD:Hid _:=hRD;have HIM:Hid (mD s w):=h;have HPN:Hid (∀(W:World)(v:Value)(bs:List UInt8)(n:Nat),Buf w W v bs->bs.length<=100000->n<=65535->Calls prog 66 #[v,.int .i64 n] W fun e w'=>∃v',e=.returned v'/\Buf w w' v' (bs++two n)):=fun W v bs n h1 h2 h3=>iU w W v bs n h1 h2 h3
 have SM:Same [] w (w.alloc (.cells #[.int .u8 83,.int .u8 84,.int .u8 82,.int .u8 49] 5 (4,5))):=(Same.refl _ _).alloc _;have ZH:(#[.int .u8 83,.int .u8 84,.int .u8 82,.int .u8 49]:Array Value).size=4:=rfl;rw[ZH]at hcv;obtain⟨c1,c2⟩:=HCP.out _ SM;have hz0:=hSZ _ SM;have hP0:=Bq w _ w.heap.size gq s.n SM (by
  intro j hj;have hj4:j<4:=hj;simp only[World.cell?,World.alloc]
  match j,hj4 with
  | 0,_=>simp[gq,bT]
  | 1,_=>simp[gq,bT]
  | 2,_=>simp[gq,bT]
  | 3,_=>simp[gq,bT]) (by simp) (by decide) (by omega)
 have hmk:gq.length=4:=rfl;rw[hmk]at hP0;have lt1:=hp.lt;have HAB:Hid (∀W,Same [] w W->∀k,k<s.af.length->∃b,(s.ab.map fun b=>(⟨b,0,none⟩:Addr))=some ⟨b,0,none⟩/\W.cell? ⟨b,k,none⟩=some (.pointer (some ⟨(s.af[k]!).vb,0,none⟩))):=fun W hW k hk=>by
  obtain⟨b,q1,q2,_⟩:=(h.pool.new hW).cell k hk;exact⟨b,by rw[q1];rfl,q2⟩
 generalize (s.ab.map fun b=>(⟨b,0,none⟩:Addr))=aa at *;clear SM hRD h hp ZH hmk hp2
 go_enter func34,ntmps34
 go_wp2_with (first|(go_at_call 45;refine hm.mono ?_;rintro e w' ⟨rfl,hw⟩;obtain rfl:=hw.symm)|(go_at_call 67;refine hz0.mono ?_;rintro e w' ⟨rfl,hw⟩;obtain rfl:=hw.symm)|(go_at_call 66;refine hP0.mono ?_;rintro e w1 ⟨u1,rfl,hB1⟩;obtain⟨b1,q1⟩:∃b1,gq++two s.n=b1:=⟨_,rfl⟩;rw[q1]at hB1;have H1:Hid (gq++two s.n=b1):=q1;have hl1:b1.length=6:=(by rw[<-q1];rfl);clear q1;obtain⟨d1,d2⟩:=HCP.out w1 hB1.same;have HB1:Hid (Buf w w1 u1 b1):=hB1;clear hB1)|(at_builtin;refine gJ rfl _ _ rfl w w1 u1 _ HB1.out rfl s.af.length _ rfl (by rw[qi _ (by omega)]) (by omega) ?_))
 intro u2 w2 hB2;obtain⟨b2,q2⟩:∃b2,b1++[UInt8.ofNat s.af.length]=b2:=⟨_,rfl⟩
 rw[q2]at hB2;have H2:Hid (b1++[UInt8.ofNat s.af.length]=b2):=q2;have hl2:b2.length=7:=by rw[<-q2,List.length_append,hl1];rfl
 obtain⟨e1,e2⟩:=HCP.out w2 hB2.same;have HB2:Hid (Buf w w2 u2 b2):=hB2;clear hB2 q2 hP0 hz0 c1 c2 d1 d2
 go_wp2_with fail
 go_loopw [3,33] (fun u i wr=>∃(k:Nat)(bs:List UInt8),k<=s.af.length/\i=.int .i64 k/\Buf w wr u bs/\Hid (bs=b2++mQ s (s.af.take k))) (fun _ i _=>s.af.length-(intOf i).toNat)
 case atStart=>exact⟨0,b2,Nat.zero_le _,rfl,HB2.out,by show _=_;simp[mQ]⟩
 case round=>
  obtain⟨k,bs,hk,rfl,hB,HQ⟩:=hrel;by_cases hkl:k<s.af.length
  ·obtain⟨b,rfl,hcell⟩:=HAB.out wr hB.same k hkl;have hmem:s.af[k]!∈s.af:=by rw[getElem!_pos s.af k hkl];exact List.getElem_mem hkl
   have hlen:bs.length<=40000:=by
    rw[HQ.out,List.length_append,hl2];have:=qL s (s.af.take k) (fun v hv=>HIM.out.entry (List.mem_of_mem_take hv));rw[List.length_take]at this;omega
   have hPV:=HIM.out.put hmem wr _ bs hB hlen;have HL:Hid (b2++mQ s (s.af.take (k+1))=bs++iD s (s.af[k]!)):=by show _=_;rw[RP s s.af k hkl,HQ.out,List.append_assoc]
   generalize s.af[k]! = v at *;have l1:(k:Int)<(s.af.length:Int):=by omega
   clear hB HQ hmem hlen
   go_wp2_with (go_at_call 68;refine hPV.mono ?_;rintro e w3 ⟨u3',rfl,hB3⟩)
   go_roundw
   case rel=>exact⟨k+1,_,by omega,by go_num,hB3,HL.out.symm⟩
   case measure=>simp[intOf];omega
  ·have ek:k=s.af.length:=by omega
   subst ek;obtain⟨f1,_⟩:=HCP.out wr hB.same;have hz3:=hSZ wr hB.same;have hlen:bs.length<=21000:=by
    rw[HQ.out,List.length_append,hl2];have:=qL s (s.af.take s.af.length) (fun v hv=>HIM.out.entry (List.mem_of_mem_take hv));rw[List.length_take]at this;omega
   have HL:Hid (bs=gq++two s.n++[UInt8.ofNat s.af.length]++mQ s s.af):=by
    show _=_;rw[HQ.out,List.take_length,<-H2.out,<-H1.out]
   have HB3:Hid (Buf w wr _ bs):=hB;clear hB HQ e1 e2
   go_wp2_with (go_at_call 67;refine hz3.mono ?_;rintro e w' ⟨rfl,hw⟩;obtain rfl:=hw.symm)
   go_loopw [3,47] (fun u i wi=>∃(j:Nat)(cs:List UInt8),j<=s.n/\i=.int .i64 j/\Buf w wi u cs/\Hid (cs=bs++(s.bl.take j).flatMap aN.bytes)) (fun _ i _=>s.n-(intOf i).toNat)
   case atStart=>exact⟨0,bs,Nat.zero_le _,rfl,HB3.out,by show _=_;simp⟩
   case round=>
    obtain⟨j,cs,hj,rfl,hC,HQ⟩:=hrel;have hcl:cs.length<=30000:=by
     rw[HQ.out,List.length_append,zl,List.length_take];omega
    by_cases hjl:j<s.n
    ·have hR:=HRD.out wr hC.same j hjl;obtain⟨g1,_⟩:=HCP.out wr hC.same;have hft:=aN.JK _ (HIM.out.fits j hjl);have HT:Hid (bs++(s.bl.take (j+1)).flatMap aN.bytes=cs++(s.bl[j]!).bytes):=by show _=_;rw[Pz s.bl j (by omega),HQ.out,List.append_assoc]
     generalize s.bl[j]! = y at *;have hyb:=y.wV;have HFT:Hid (y.bytes.map bT=y.cells):=hft;generalize y.bytes=yb at *;have hyl:y.cells.length=8:=rfl;obtain⟨y0,y1,y2,y3,y4,y5,y6,y7⟩:=y;unfold aN.val at hR;have l2:(j:Int)<(s.n:Int):=by omega
     have HC:Hid (Buf w wr _ cs):=hC;clear hC HQ hft
     go_wp2_with (first|(go_at_call 69;refine hR.mono ?_;rintro e w4 ⟨rfl,S4⟩;have N4:=At.new w4 #[.int .u8 y0,.int .u8 y1,.int .u8 y2,.int .u8 y3,.int .u8 y4,.int .u8 y5,.int .u8 y6,.int .u8 y7] 91;have HN4:Hid (∀j,j<yb.length->(w4.alloc (.cells #[.int .u8 y0,.int .u8 y1,.int .u8 y2,.int .u8 y3,.int .u8 y4,.int .u8 y5,.int .u8 y6,.int .u8 y7] 91)).cell? ⟨w4.heap.size,0+j,none⟩=some (bT yb[j]!)):=(fun j hj=>(by rw[N4.cell?,Nat.zero_add];show(aN.cells ⟨y0,y1,y2,y3,y4,y5,y6,y7⟩)[j]? = _;rw[<-HFT.out,List.getElem?_map,List.getElem?_eq_getElem hj,getElem!_pos yb j hj];rfl));have HC4:=(HC.out.new S4).new ((Same.refl [] _).alloc (.cells #[.int .u8 y0,.int .u8 y1,.int .u8 y2,.int .u8 y3,.int .u8 y4,.int .u8 y5,.int .u8 y6,.int .u8 y7] 91));have HCC:Hid (Buf w (w4.alloc (.cells #[.int .u8 y0,.int .u8 y1,.int .u8 y2,.int .u8 y3,.int .u8 y4,.int .u8 y5,.int .u8 y6,.int .u8 y7] 91)) _ cs):=HC4;clear HC4 N4)|(at_builtin;refine Ce rfl _ _ rfl w _ _ cs yb HCC.out rfl w4.heap.size 0 8 (by rw[hyb];rfl) HN4.out (by omega) ?_))
     intro u5 w5 hB5
     go_wp2
     go_roundw
     case rel=>exact⟨j+1,_,by omega,by go_num,hB5,HT.out.symm⟩
     case measure=>simp[intOf];omega
    ·have ej:j=s.n:=by omega
     subst ej;have hbody:cs=qh s:=by
      rw[HQ.out,HL.out,qh,<-hbl,List.take_length]
     subst hbody;have aaH:Hid (kT s=qh s++two (dF (qh s))):=rfl;generalize qh s=bo at *;have hsl:=lM bo;have hPx:=HPN.out wr _ bo (dF bo) hC (by omega) (by omega);obtain⟨a,c0,rfl,hBA⟩:=RZ hC;have hSm:=ER wr a c0 bo hBA (by unfold maxLen;omega);clear hC HQ hBA HL
     go_wp2_with (first|(go_at_call 70;refine hSm.mono ?_;rintro e w' ⟨rfl,hw⟩;obtain rfl:=hw.symm)|(go_at_call 66;refine hPx.mono ?_;rintro e w5 ⟨u5,rfl,hB5⟩;obtain⟨bt,q5⟩:∃bt,bo++two (dF bo)=bt:=⟨_,rfl⟩;rw[q5]at hB5;have hbt:bt.length=bo.length+2:=(by rw[<-q5,List.length_append,di]);have HBT:Hid (kT s=bt):=(aaH.out.trans q5);have hsame:=hB5.same;obtain⟨a5,c5,rfl⟩:=hB5.form;obtain⟨g5,cs5,rfl,hg5,hA5,aaI,ht5⟩:=iw hB5.own (by omega);have hc5:bt.length<=c5:=(by have:=congrArg List.length ht5;rw[List.length_take,List.length_map]at this;omega);have m1:(bt.length:Int)<=(c5:Int):=(by omega);have m2:(0:Int)<=(bt.length:Int):=(by omega);have m3:((bt.length:Int)).toNat=bt.length:=(by omega);have HFN:Hid (l7 w w5 g5 bt):=⟨hg5,⟨cs5,hA5,(by rw[<-Nat.mul_one bt.length];exact ht5)⟩,hsame⟩;clear hB5 q5 hA5 ht5 aaI hsame))
     go_ret
     rw[HBT.out];refine⟨g5,?_,HFN.out⟩;rw[hbt];rfl
end
end Go.Proofs.YtpddgdjocffgdaaGreat
