/- Both sides of a call, side by side: what Resize and Write answer and leave. A new disk and a new Pool, by contracts. A Pool of the program beside the document's: what both are in memory, and what a pair of calls leaves. The calls that answer an error alone, of both: by contracts. -/
import Derived.Test.YtpddgdjocffgdaaGreatJ12
import Derived.Test.YtpddgdjocffgdaaGreatJ04
import Derived.Test.YtpddgdjocffgdaaGreatJ05
namespace Go.Proofs.YtpddgdjocffgdaaGreat
set_option linter.unusedVariables false
set_option linter.unusedSimpArgs false
set_option linter.unusedSectionVars false
set_option maxHeartbeats 16000000
set_option maxRecDepth 100000
section
open Go.RowKit Go.Sort
variable [DecidableEq Blk] [Inhabited Blk] [Inhabited Vol] [Inhabited RVol]
theorem spare_vol{s s':St}{i:Nat}{v':Vol}(sp:Spare s)(hi:i < s.vols.length)(hv:s'.vols=setVol i v' s.vols)(ho:v'.org=none)
 (hb:∀j,j < s.vols.length->j≠i->∀x∈(s.vols[j]!).xs,s'.bl[x]! = s.bl[x]!):Spare s':=by
 intro j hj hoj x hx;rw[hv] at hj hoj hx;rw[setVol_length i v' s.vols hi] at hj;rw[setVol_get i j v' s.vols hi hj] at hoj hx;by_cases e:j=i
 ·rw[if_pos e] at hoj;exact absurd ho hoj
 ·rw[if_neg e] at hoj hx;rw[hb j hj e x (List.mem_of_mem_drop hx)];exact sp j hj hoj x hx
theorem pair_resize{w:World}{s:St}{fr:List Nat}{r:RSt}(hP:PoolAt w s)(hG:Good s fr)(hsp:Spare s)(hrel:Rel s r)(hnd:r.foot.Nodup)(t:ByteArray)(k:Int) :
 Pair w s fr r 53 #[.pointer (some ⟨s.pb,0,none⟩),.string t,.int .i64 k] 54 #[.pointer (some ⟨r.rb,0,none⟩),.string t,.int .i64 k]:=by
 by_cases h1:s.has t=true
 case neg=>
  have h1':s.has t=false:=by simpa using h1
  exact Pair.no 4 (by omega) hP hG hsp hrel hnd (toSame (resize_none s t k w hP h1')) fun w1 hR=>toSame (refResize_none r t k w1 hR (hrel.at_not hP h1'))
 obtain⟨hm,hnm,hp⟩:=St.has_mem h1;have hra:=hrel.at_has hP h1;have hrv:RelV s (s.vol t) (r.vols[posOf s.names t]!):=hrel.vol h1;by_cases ho:(s.vol t).org=none
 case neg=>
  exact Pair.no 7 (by omega) hP hG hsp hrel hnd (toSame (resize_picture s t k w hP h1 ho)) fun w1 hR=>toSame (refResize_picture r t k _ w1 hR hra (hrel.of_pic hP hG hp ho).2)
 have hof:=hrel.of_vol hp ho;have hpc:=hrel.pics hP hG hm;rw[hnm] at hpc;by_cases hb:s.picsOf (s.vol t).vb=[]
 case neg=>
  exact Pair.no 8 (by omega) hP hG hsp hrel hnd (resize_busy s t k w hP h1 ho hb) fun w1 hR=>toSame (refResize_busy r t k _ w1 hR hra hof (by rw[hpc];exact List.length_pos_iff.2 hb))
 have hpc0:r.pics t r.vols.length=0:=by rw[hpc,hb];rfl
 by_cases hk:1<=k/\k<=200
 case neg=>
  exact Pair.no 1 (by omega) hP hG hsp hrel hnd (resize_arg s t k w hP h1 ho hb hk) fun w1 hR=>toSame (refResize_arg r t k _ w1 hR hra hof hpc0 (by omega))
 obtain⟨n,rfl⟩:∃n:Nat,k=n:=⟨k.toNat,by omega⟩
 have hk':1<=n/\n<=200:=by omega
 have hd:Head s t w:=⟨h1,ho,hb⟩
 have hfree:=hrel.free hG;have hsz:(r.vols[posOf s.names t]!).data.length=(s.vol t).xs.length:=by
  rw[hrv.size];unfold St.size;rw[(hP.orgOf hm).2.2.1 ho]
 have hbl:(r.vols[posOf s.names t]!).blocks.length=(r.vols[posOf s.names t]!).data.length:=by rw[hrv.blocks,hsz]
 have hrp:posOf s.names t < r.vols.length:=by rw[hrel.len];exact hp
 by_cases hfull:(s.vol t).xs.length+fr.length < n
 ·exact Pair.noD 6 (by omega) hsp hrel hnd (resize_full s fr t n w hP hG hd (by omega) (by omega)) fun w1 hR=>refResize_full r t n _ w1 hR hra hof hpc0 hk' (by rw[hfree];omega)
 have hrok:=fun w1 hR=>refResize_ok r t n (posOf s.names t) _ w1 hR hnd hrp rfl hra hof hpc0 hk' (by rw[hfree];omega) hbl
 rw[hfree] at hrok;have hlt:∀j,j < s.vols.length->∀x∈(s.vols[j]!).xs,x < s.bl.length:=fun j hj x hx=>by rw[hP.disk.len];exact hG.lt.2 _ (get_mem hj) x hx
 rcases Nat.lt_trichotomy n (s.vol t).xs.length with hlt'|heq|hgt
 ·have hcutb:∀j,j < s.vols.length->j≠posOf s.names t->∀x∈(s.vols[j]!).xs,(giveB ((s.vol t).xs.drop n) s.bl)[x]! = s.bl[x]!:=fun j hj hne x hx=>by
   rw[giveB_get _ _ _ (hlt j hj x hx),if_neg (fun (hd:x∈(s.vol t).xs.drop n)=>hG.xs_apart hj hp hne hx (List.mem_of_mem_drop hd))]
  refine⟨0,fun s' _=>s'={ s with m:=s.m+((s.vol t).xs.drop n).length,bl:=giveB ((s.vol t).xs.drop n) s.bl,d:=giveD s.m ((s.vol t).xs.drop n) s.d,vols:=setVol (posOf s.names t) { (s.vol t) with xs:=(s.vol t).xs.take n } s.vols },by omega,by omega,(resize_cut s fr t n w hP hG hd ⟨hk'.1,hlt'⟩).mono ?_,fun w1 hR=>(hrok w1 hR).mono ?_⟩
  ·rintro e w1 ⟨rfl,hA⟩;exact⟨rfl,_,_,hA,spare_vol hsp hp rfl ho hcutb,rfl⟩
  ·rintro e w2 ⟨rfl,g,bg,hA⟩;refine⟨rfl,_,hA,?_⟩;rintro W s' fr' h' hG' rfl;have e0:n - (r.vols[posOf s.names t]!).data.length=0:=by omega
   refine rel_set hrel hp rfl rfl (relV_cut (w:=w) (fr:=fr) (x:=r.vols[posOf s.names t]!) (k:=n) hP hG hm hrv ho (by omega) rfl rfl (hG.xs_nodup hm) rfl rfl ?_ ?_ rfl rfl) (fun j hj hne=>rel_others hrel hP h' hp rfl hb hcutb j hj hne)
   ·show ((r.vols[posOf s.names t]!).data++List.replicate (n - (r.vols[posOf s.names t]!).data.length) zero8).take n=_;rw[e0];simp
   ·show ((r.vols[posOf s.names t]!).blocks++fr.take (n - (r.vols[posOf s.names t]!).data.length)).take n=_;rw[e0];simp
 ·refine⟨0,fun s' _=>s'=s,by omega,by omega,(resize_same s fr t n w hP hG hd heq).mono ?_,fun w1 hR=>(hrok w1 hR).mono ?_⟩
  ·rintro e w1 ⟨rfl,hA⟩;exact⟨rfl,_,_,hA,hsp,rfl⟩
  ·rintro e w2 ⟨rfl,g,bg,hA⟩;refine⟨rfl,_,hA,?_⟩;intro W s' fr' h' hG' hss;rw[hss];have e0:n - (r.vols[posOf s.names t]!).data.length=0:=by omega
   have d0:((r.vols[posOf s.names t]!).data++List.replicate (n - (r.vols[posOf s.names t]!).data.length) zero8).take n=(r.vols[posOf s.names t]!).data:=by
    rw[e0,List.replicate_zero,List.append_nil,List.take_of_length_le (by omega)]
   have b0:((r.vols[posOf s.names t]!).blocks++fr.take (n - (r.vols[posOf s.names t]!).data.length)).take n=(r.vols[posOf s.names t]!).blocks:=by
    rw[e0,List.take_zero,List.append_nil,List.take_of_length_le (by omega)]
   rw[d0,b0];refine rel_set hrel hp (setVol_self _ _ hp).symm rfl (?_:RelV s (s.vol t) _) (fun j hj hne=>hrel.each j hj);exact⟨hrv.name,hrv.of_,hrv.size,hrv.blocks,hrv.kept,hrv.lost,hrv.ok,hrv.data⟩
 ·refine⟨0,fun s' _=>∃g,s'={ s with m:=s.m - (n - (s.vol t).xs.length),d:=popsD s.m (n - (s.vol t).xs.length) s.d,vols:=setVol (posOf s.names t) { (s.vol t) with gb:=g,xs:=(s.vol t).xs++fr.take (n - (s.vol t).xs.length) } s.vols },by omega,by omega,(resize_grow s fr t n w hP hG hd ⟨hgt,hk'.2⟩ (by omega)).mono ?_,fun w1 hR=>(hrok w1 hR).mono ?_⟩
  ·rintro e w1 ⟨rfl,g,hA⟩;exact⟨rfl,_,_,hA,spare_vol hsp hp rfl ho (fun _ _ _ _ _=>rfl),g,rfl⟩
  ·rintro e w2 ⟨rfl,g,bg,hA⟩;refine⟨rfl,_,hA,?_⟩;rintro W s' fr' h' hG' ⟨g',rfl⟩;have hft:(fr.take (n - (s.vol t).xs.length)).length=n - (s.vol t).xs.length:=by rw[List.length_take];omega
   refine rel_set hrel hp rfl rfl (relV_grow (w:=w) (fr:=fr) (x:=r.vols[posOf s.names t]!) (m:=n - (s.vol t).xs.length) (g:=g') hP hG hm hrv ho (by omega) rfl rfl rfl rfl ?_ ?_ rfl rfl) (fun j hj hne=>rel_others hrel hP h' hp rfl hb (fun _ _ _ _ _=>rfl) j hj hne)
   ·show ((r.vols[posOf s.names t]!).data++List.replicate (n - (r.vols[posOf s.names t]!).data.length) zero8).take n=_;rw[hsz,List.take_of_length_le (by rw[List.length_append,List.length_replicate];omega)]
   ·show ((r.vols[posOf s.names t]!).blocks++fr.take (n - (r.vols[posOf s.names t]!).data.length)).take n=_;rw[hsz,List.take_of_length_le (by rw[List.length_append,hft,hbl];omega)]
theorem base_bl(s:St)(bl:List Blk):Base s { s with bl:=bl }:=⟨rfl,fun _ _=>⟨rfl,rfl,rfl,rfl⟩,fun _ _ h=>h⟩
theorem atC_none{w:World}{s:St}{r:RSt}(h:Rel s r)(hP:PoolAt w s){t:ByteArray}(ht:s.has t=false)(k:Int):r.atC t k=4:=by
 unfold RSt.atC;rw[h.at_not hP ht]
theorem atC_has{w:World}{s:St}{r:RSt}(h:Rel s r)(hP:PoolAt w s){t:ByteArray}(ht:s.has t=true)(k:Int):r.atC t k=if (s.vol t).lost then 9 else if k < 0\/(s.size (s.vol t):Int)<=k then 1 else 0:=by
 unfold RSt.atC;rw[h.at_has hP ht];simp only;have hrv:=h.vol ht;rw[hrv.lost,hrv.size]
theorem pair_write{w:World}{s:St}{fr:List Nat}{r:RSt}(hP:PoolAt w s)(hG:Good s fr)(hsp:Spare s)(hrel:Rel s r)(hnd:r.foot.Nodup)(t:ByteArray)(k:Int)(b:Blk)(hbo:b.ok) :
 Pair w s fr r 50 #[.pointer (some ⟨s.pb,0,none⟩),.string t,.int .i64 k,b.val] 51 #[.pointer (some ⟨r.rb,0,none⟩),.string t,.int .i64 k,.string b.text]:=by
 by_cases h1:s.has t=true
 case neg=>
  have h1':s.has t=false:=by simpa using h1
  have hc:=atC_none hrel hP h1' k;refine Pair.no 4 (by omega) hP hG hsp hrel hnd (write_err s t k 4 b w (by decide) fun w' hS=>findPlace_none s t k w' (hP.new hS) h1') fun w1 hR=>toSame ?_
  have:=refWrite_none r t b.text k w1 hR (by omega);rw[hc] at this;exact this
 obtain⟨hm,hnm,hp⟩:=St.has_mem h1;have hra:=hrel.at_has hP h1;have hrv:RelV s (s.vol t) (r.vols[posOf s.names t]!):=hrel.vol h1;have hac:=atC_has hrel hP h1 k;by_cases hl:(s.vol t).lost=true
 ·rw[if_pos hl] at hac;refine Pair.no 9 (by omega) hP hG hsp hrel hnd (write_err s t k 9 b w (by decide) fun w' hS=>findPlace_lost s t k w' (hP.new hS) h1 hl) fun w1 hR=>toSame ?_
  have:=refWrite_none r t b.text k w1 hR (by omega);rw[hac] at this;exact this
 have hl':(s.vol t).lost=false:=by simpa using hl
 rw[if_neg hl] at hac;by_cases hk:0<=k/\k < s.size (s.vol t)
 case neg=>
  rw[if_pos (by omega)] at hac;refine Pair.no 1 (by omega) hP hG hsp hrel hnd (write_err s t k 1 b w (by decide) fun w' hS=>findPlace_out s t k w' (hP.new hS) h1 hl' hk) fun w1 hR=>toSame ?_
  have:=refWrite_none r t b.text k w1 hR (by omega);rw[hac] at this;exact this
 obtain⟨n,rfl⟩:∃n:Nat,k=n:=⟨k.toNat,by omega⟩
 have hn:n < s.size (s.vol t):=by omega
 have hnr:n < (r.vols[posOf s.names t]!).data.length:=by rw[hrv.size];exact hn
 have hho:=holder_lt hP hG hm hn;have hlr:(r.vols[posOf s.names t]!).lost=false:=by rw[hrv.lost];exact hl'
 have hrp:posOf s.names t < r.vols.length:=by rw[hrel.len];exact hp
 by_cases hsame:s.look (s.vol t) n=b
 ·exact Pair.no 0 (by omega) hP hG hsp hrel hnd (write_same s t n b w hP h1 hl' hn hho hsame) fun w1 hR=>toSame (refWrite_same r t b.text n _ w1 hR hra hlr hnr (by rw[hrv.data hl' n hn,hsame]))
 have hdif:(r.vols[posOf s.names t]!).data[n]!≠b.text:=fun e=>by
  rw[hrv.data hl' n hn] at e;exact hsame (Blk.text_inj (hrv.ok hl' n hn) hbo e)
 by_cases ho:(s.vol t).org=none
 ·have hof:=hrel.of_vol hp ho;have hnx:n < (s.vol t).xs.length:=by unfold St.size at hn;rw[(hP.orgOf hm).2.2.1 ho] at hn;exact hn
  refine⟨0,fun s' fr'=>fr'=fr/\∃s1,Kept s s1 n (fun v=>v.org=some (s.vol t).vb)/\s1.n=s.n/\s'={ s1 with bl:=s1.bl.set (s.vol t).xs[n]! b },by omega,by omega,(write_volume s fr t n b w hP hG h1 ho hnx hsame).mono ?_,fun w1 hR=>(refWrite_vol r t b.text (posOf s.names t) n _ w1 hR hnd hrp rfl hra hlr hnr hdif hof).mono ?_⟩
  ·rintro e w1 ⟨rfl,s1,hK,hA⟩;refine⟨rfl,_,_,hA,?_,rfl,s1,hK,hA.n,rfl⟩;obtain⟨b1,b2,b3,b4⟩:=hK.base.same _ hp;refine spare_set hA.pool hA.good (posOf s.names t) (by rw[hK.base.len];exact hp) (by rw[b4];exact ho) (by rw[b3];exact mem_getElem! hnx) (hK.spare hsp)
  ·rintro e w2 ⟨rfl,vs,hA,hW⟩;refine⟨rfl,_,hA,?_⟩;rintro W s' fr' h' hG' ⟨rfl,s1,hK,hn1,rfl⟩;have hnm':t=(s.vol t).name:=hnm.symm;refine rel_write_vol hrel hP hG hp rfl ho hnx hbo hK h' hG' hn1 ?_;show RWrote r.vols vs (posOf s.names t) n (s.vols[posOf s.names t]!).name b.text;rw[show (s.vols[posOf s.names t]!).name=t from hnm];exact hW
 ·obtain⟨hofe,hofn⟩:=hrel.of_pic hP hG hp ho;have hrw:=fun w1 hR=>refWrite_pic r t b.text (posOf s.names t) n _ w1 hR hnd hrp rfl hra hlr hnr hdif hofn
  by_cases hkk:n∈(s.vol t).kept
  ·have hrk:rkeep n (r.vols[posOf s.names t]!)=((s.vol t).kept,false):=by
    unfold rkeep;rw[hrv.kept,hrv.lost,if_pos hkk,hl']
   refine⟨0,fun s' _=>s'={ s with bl:=s.bl.set (s.vol t).xs[(s.vol t).kept.idxOf n]! b },by omega,by omega,(write_picture_kept s fr t n b w hP hG h1 ho hl' hn hsame hkk).mono ?_,fun w1 hR=>(hrw w1 hR).mono ?_⟩
   ·rintro e w1 ⟨rfl,hA⟩;exact⟨rfl,_,_,hA,spare_used hP hG (posOf s.names t) hp ((s.vol t).kept.idxOf n) (idxOf_lt hkk) (hP.vols _ hm).room b hsp,rfl⟩
   ·rintro e w2 ⟨v1,hV,hkl,hcase⟩;rw[hrk] at hkl;obtain⟨k1,k2⟩:=Prod.mk.inj hkl;rcases hcase with⟨q,_⟩|⟨_,rfl,hA⟩
    ·rw[k2] at q;cases q
    refine⟨rfl,_,hA,?_⟩;rintro W s' fr' h' hG' rfl;have hlk:=kept_looks hP hG (posOf s.names t) (s.vol t) n b hp rfl hkk;refine rel_write_pic (v':=s.vol t) hrel hP h' hp (base_bl s _) rfl (fun j hj=>by
     by_cases e:j=posOf s.names t
     ·rw[e];exact (if_pos rfl).symm
     ·exact (if_neg e).symm) (fun j hj hne _ q hq=>by rw[hlk j hj q hq,if_neg (fun e=>hne e.1)]) hV.name hV.of_ ?_ hV.blocks k1 ?_ ?_
    ·show (v1.data.set n b.text).length=_;rw[List.length_set,hV.data]
    ·show v1.lost=_;rw[k2,hl']
    ·intro _ q hq;have e1:=hlk (posOf s.names t) hp q hq;have e2:St.look { s with bl:=s.bl.set (s.vol t).xs[(s.vol t).kept.idxOf n]! b } (s.vol t) q=_:=e1;rw[e2];have hd:(v1.data.set n b.text)[q]! = if q=n then b.text else (r.vols[posOf s.names t]!).data[q]!:=by
      rw[set_get _ _ _ _ (by rw[hV.data,hrv.size];exact hq),hV.data]
     by_cases hqn:q=n
     ·rw[if_pos ⟨rfl,hqn⟩];refine⟨hbo,?_⟩;show (v1.data.set n b.text)[q]! = _;rw[hd,if_pos hqn]
     ·rw[if_neg (fun e=>hqn e.2)];refine⟨hrv.ok hl' q hq,?_⟩;show (v1.data.set n b.text)[q]! = _;rw[hd,if_neg hqn];exact hrv.data hl' q hq
  ·by_cases hf:(s.vol t).kept.length < (s.vol t).xs.length
   ·have hrk:rkeep n (r.vols[posOf s.names t]!)=((s.vol t).kept++[n],false):=by
     unfold rkeep;rw[hrv.kept,hrv.lost,hrv.blocks,if_neg hkk,if_pos hf,hl']
    refine⟨0,fun s' _=>∃g,s'={ s with bl:=s.bl.set (s.vol t).xs[(s.vol t).kept.length]! b,vols:=setVol (posOf s.names t) ((s.vol t).keeping g n) s.vols },by omega,by omega,(write_picture_more s fr t n b w hP hG h1 ho hl' hn hsame hkk hf).mono ?_,fun w1 hR=>(hrw w1 hR).mono ?_⟩
    ·rintro e w1 ⟨rfl,i,g,hi,hvi,hA⟩;obtain rfl:i=posOf s.names t:=index_inj hP hi hp (by rw[hvi];rfl);exact⟨rfl,_,_,hA,spare_more hP hG (posOf s.names t) (s.vol t) g n b hp rfl hf hsp,g,rfl⟩
    ·rintro e w2 ⟨v1,hV,hkl,hcase⟩;rw[hrk] at hkl;obtain⟨k1,k2⟩:=Prod.mk.inj hkl;rcases hcase with⟨q,_⟩|⟨_,rfl,hA⟩
     ·rw[k2] at q;cases q
     refine⟨rfl,_,hA,?_⟩;rintro W s' fr' h' hG' ⟨g,rfl⟩;have hlk:∀j,j < s.vols.length->∀q,q < s.size (s.vols[j]!)->St.look { s with bl:=s.bl.set (s.vol t).xs[(s.vol t).kept.length]! b,vols:=setVol (posOf s.names t) ((s.vol t).keeping g n) s.vols } (setVol (posOf s.names t) ((s.vol t).keeping g n) s.vols)[j]! q=if j=posOf s.names t/\q=n then b else s.look (s.vols[j]!) q:=fun j hj q hq=>keep_looks hP hG (posOf s.names t) (s.vol t) g n b hp rfl ho hf hkk hn h' j hj q hq
     refine rel_write_pic (v':=(s.vol t).keeping g n) hrel hP h' hp (base_set _ _ hp _ rfl rfl rfl rfl id) rfl (fun j hj=>setVol_get _ _ _ _ hp hj) (fun j hj hne _ q hq=>(hlk j hj q hq).trans (if_neg (fun e=>hne e.1))) hV.name hV.of_ ?_ hV.blocks k1 ?_ ?_
     ·show (v1.data.set n b.text).length=_;rw[List.length_set,hV.data]
     ·show v1.lost=_;rw[k2];exact hl'.symm
     ·intro _ q hq;have e1:=hlk (posOf s.names t) hp q hq;rw[setVol_get _ _ _ _ hp hp,if_pos rfl] at e1;rw[e1];have hd:(v1.data.set n b.text)[q]! = if q=n then b.text else (r.vols[posOf s.names t]!).data[q]!:=by
       rw[set_get _ _ _ _ (by rw[hV.data,hrv.size];exact hq),hV.data]
      by_cases hqn:q=n
      ·rw[if_pos ⟨rfl,hqn⟩];refine⟨hbo,?_⟩;show (v1.data.set n b.text)[q]! = _;rw[hd,if_pos hqn]
      ·rw[if_neg (fun e=>hqn e.2)];refine⟨hrv.ok hl' q hq,?_⟩;show (v1.data.set n b.text)[q]! = _;rw[hd,if_neg hqn];exact hrv.data hl' q hq
   ·have hroom:=(hP.vols _ hm).room;have hf':(s.vol t).kept.length=(s.vol t).xs.length:=by omega
    have hrk:rkeep n (r.vols[posOf s.names t]!)=([],true):=by
     unfold rkeep;rw[hrv.kept,hrv.lost,hrv.blocks,if_neg hkk,if_neg hf]
    refine⟨10,fun s' _=>s'={ s with bl:=giveB (s.vol t).xs s.bl,vols:=setVol (posOf s.names t) (s.vol t).losing s.vols },by omega,by omega,(write_picture_lost s fr t n b w hP hG h1 ho hl' hn hsame hkk hf').mono ?_,fun w1 hR=>(hrw w1 hR).mono ?_⟩
    ·rintro e w1 ⟨rfl,i,hi,hvi,hA⟩;obtain rfl:i=posOf s.names t:=index_inj hP hi hp (by rw[hvi];rfl);exact⟨rfl,_,_,hA,spare_lost hP hG (posOf s.names t) (s.vol t) hp rfl hsp,rfl⟩
    ·rintro e w2 ⟨v1,hV,hkl,hcase⟩;rw[hrk] at hkl;obtain⟨k1,k2⟩:=Prod.mk.inj hkl;rcases hcase with⟨_,rfl,hA⟩|⟨q,_⟩
     rotate_left
     ·rw[k2] at q;cases q
     refine⟨rfl,_,hA,?_⟩;rintro W s' fr' h' hG' rfl;refine rel_write_pic (v':=(s.vol t).losing) hrel hP h' hp (base_set _ _ hp _ rfl rfl rfl rfl (fun _=>rfl)) rfl (fun j hj=>setVol_get _ _ _ _ hp hj) (fun j hj hne _ q hq=>lose_looks hP hG (posOf s.names t) (s.vol t) hp rfl ho h' j hj hne q hq) hV.name hV.of_ (by rw[hV.data]) hV.blocks k1 k2 (fun q=>by cases q)
end
section
open Go.RowKit Go.Sort
variable [DecidableEq Blk] [Inhabited Blk] [Inhabited Vol]
def upRow(n k:Nat):List Value:=(List.range n).map fun j=>Value.int .i64 (if j < k then (j:Int) else 0)
theorem upRow_set(n k:Nat)(h:k < n):(upRow n k).set k (.int .i64 k)=upRow n (k+1):=by
 apply List.ext_getElem?;intro j;unfold upRow;rw[List.getElem?_set];simp only[List.length_map,List.length_range,List.getElem?_map];by_cases hj:k=j
 ·subst hj;rw[if_pos rfl,if_pos h,List.getElem?_range h];simp
 ·rw[if_neg hj];by_cases hjn:j < n
  ·rw[List.getElem?_range hjn];simp only[Option.map_some,Option.some.injEq,Value.int.injEq,true_and];by_cases h1:j < k
   ·rw[if_pos h1,if_pos (by omega)]
   ·rw[if_neg h1,if_neg (by omega)]
  ·rw[List.getElem?_eq_none (by simpa using hjn)];rfl
theorem upRow_zero(n:Nat):upRow n 0=List.replicate n (.int .i64 0):=by
 unfold upRow;rw[List.eq_replicate_iff];refine⟨by simp,fun b hb=>?_⟩;obtain⟨j,_,rfl⟩:=List.mem_map.1 hb;simp
theorem upTo_calls(n:Nat)(w:World)(hn:n<=200) :
 Calls Tryz.prog 80 #[.int .i64 n] w fun e w'=>∃g,e=.returned (.slice (some ⟨g,0,none⟩) n n)/\w.heap.size<=g/\At w' g 3 (upRow n n)/\Same [] w w':=by
 obtain⟨i0,hi,hz0,hz1,hz2⟩:=info_parts Tryz.info3;have hmk:(Instr.makeSlice 124 (.int .i64 (n:Int)) (.int .i64 (n:Int))).run Tryz.prog w=.ok (.slice (some ⟨w.heap.size,0,none⟩) n n) (w.alloc (.cells (List.replicate n (Value.int .i64 0)).toArray 3)):=by
  have h:=run_make (P:=Tryz.prog) w 124 3 i0 (.int .i64 0) Tryz.underlying124 hi hz0 .i64 .i64 (n:Int) (n:Int) (by omega) (by omega) (by rw[hz2];omega) (by omega);rw[hz1] at h;have e:(madeCells (Value.int .i64 0).cells ((n:Int).toNat * 1))=(List.replicate n (Value.int .i64 0)).toArray:=by
   apply Array.toList_inj.1;have:=toList_madeCells_one (.int .i64 0) n;simpa [Value.cells] using this
  rw[e] at h;simpa using h
 have A0:=At.new w (List.replicate n (Value.int .i64 0)).toArray 3;have S0:Same [] w (w.alloc (.cells (List.replicate n (Value.int .i64 0)).toArray 3)):=(Same.refl _ _).alloc _
 go_enter Tryz.func80,Tryz.ntmps80
 generalize hL:(List.replicate n (Value.int .i64 0)).toArray=L at *
 go_wp2
 go_loopw [9] (fun i wr=>∃k:Nat,k<=n/\i=.int .i64 k/\At wr w.heap.size 3 (upRow n k)/\Same [] w wr) (fun i _=>n - (intOf i).toNat)
 case atStart=>exact⟨0,Nat.zero_le _,rfl,by rw[upRow_zero];rw[<-hL] at A0 ⊢;simpa using A0,S0⟩
 case round=>
  obtain⟨k,hk,rfl,hA,hS⟩:=hrel;by_cases hkl:k < n
  ·have ck:∃v,wr.cell? ⟨w.heap.size,k,none⟩=some (.int .i64 v):=by
    refine⟨0,?_⟩;rw[hA.cell?];unfold upRow;rw[List.getElem?_map,List.getElem?_range hkl];simp
   obtain⟨v,ck⟩:=ck;have fk:=hA.frozen k;have A1:=hA.set_same k (.int .i64 k);rw[upRow_set n k hkl] at A1;have S1:Same [] w (wr.setCell ⟨w.heap.size,k,none⟩ (.int .i64 k)):=hS.set w.heap.size k _ (by simp);have l1:(k:Int) < (n:Int):=by omega
   clear hA hS hmk
   go_wp2
   go_roundw
   case rel=>exact⟨k+1,by omega,by go_num,A1,S1⟩
   case measure=>simp[intOf];omega
  ·have ek:k=n:=by omega
   subst ek;clear hmk
   go_wp2
   go_ret
   exact⟨w.heap.size,rfl,Nat.le_refl _,hA,hS⟩
theorem Tryz.info51:(Tryz.prog.info? 91).map (fun i=>(i.zero,i.size,i.bytes))=some (some (.agg #[.int .u8 0,.int .u8 0,.int .u8 0,.int .u8 0,.int .u8 0,.int .u8 0,.int .u8 0,.int .u8 0]),8,8):=by kernel_rfl
theorem flat_zero(n:Nat):flat (List.replicate n Blk.zero)=List.replicate (n * 8) (.int .u8 0):=by
 induction n with
 | zero=>rfl
 | succ n ih=>
  rw[List.replicate_succ,flat,ih,show (n+1) * 8=8+n * 8 by omega,<-List.replicate_append_replicate];rfl
theorem made_blocks(n:Nat):madeCells (Value.agg #[.int .u8 0,.int .u8 0,.int .u8 0,.int .u8 0,.int .u8 0,.int .u8 0,.int .u8 0,.int .u8 0]).cells (n * 8)=(flat (List.replicate n Blk.zero)).toArray:=by
 apply Array.toList_inj.1;rw[flat_zero];have hc:(Value.agg #[.int .u8 0,.int .u8 0,.int .u8 0,.int .u8 0,.int .u8 0,.int .u8 0,.int .u8 0,.int .u8 0]).cells=Array.replicate 8 (.int .u8 0):=rfl;rw[hc];apply List.ext_getElem?;intro j;by_cases hj:j < n * 8
 ·have hm:j % 8 < 8:=Nat.mod_lt _ (by omega);simp[madeCells,hj,hm]
 ·simp[madeCells,hj]
def upArr(n:Nat):Array Int:=((List.range n).map fun j:Nat=>(j:Int)).toArray
theorem upArr_row(n:Nat):(upArr n).toList.map (Value.int .i64)=upRow n n:=by
 unfold upArr upRow;simp only[List.map_map];apply List.map_congr_left;intro j hj;simp at hj;simp[hj]
structure NewAt(w w':World)(n db:Nat):Prop where
 ex:∃bb fb,w.heap.size<=db/\w.heap.size<=bb/\w.heap.size<=fb/\DiskAt w' db bb fb n n (List.replicate n Blk.zero) (upArr n)
 same:Same [] w w'
theorem new_calls(n:Nat)(w:World)(hn:n<=200) :
 Calls Tryz.prog 44 #[.int .i64 n] w fun e w'=>∃db,e=.returned (.pointer (some ⟨db,0,none⟩))/\NewAt w w' n db:=by
 obtain⟨i0,hi,hz0,hz1,hz2⟩:=info_parts Tryz.info51;have hmk:∀W:World,(Instr.makeSlice 123 (.int .i64 (n:Int)) (.int .i64 (n:Int))).run Tryz.prog W=.ok (.slice (some ⟨W.heap.size,0,none⟩) n n) (W.alloc (.cells (flat (List.replicate n Blk.zero)).toArray 91)):=fun W=>by
  have h:=run_make (P:=Tryz.prog) W 123 91 i0 _ Tryz.underlying123 hi hz0 .i64 .i64 (n:Int) (n:Int) (by omega) (by omega) (by rw[hz2];omega) (by omega);rw[hz1] at h;have e:((n:Int).toNat * 8)=n * 8:=by simp
  rw[e,made_blocks] at h;simpa using h
 generalize hL:(flat (List.replicate n Blk.zero)).toArray=L at *
 go_enter Tryz.func44,Tryz.ntmps44
 go_wp2
 go_region_with (go_at_call 80;refine (upTo_calls n _ hn).mono ?_;rintro e w2 ⟨fb,rfl,hfb,hA2,hS2⟩)
 ·have B1:=hS2.at (At.new w L 91).drew (by simp);have N1:=At.new w2 #[Value.slice (some ⟨w.heap.size,0,none⟩) n n,Value.slice (some ⟨fb,0,none⟩) n n] 127;have hsz:=hS2.size;have lb1:=B1.lt;have lf1:=hA2.lt;simp at hsz hfb
  go_wp2
  go_ret
  refine⟨w2.heap.size,rfl,⟨w.heap.size,fb,by omega,Nat.le_refl _,by omega,⟨N1,?_,?_,by omega,by omega,by omega,by simp,by simp[upArr],Nat.le_refl _,hn⟩⟩,((((Same.refl _ _).alloc _).drew).step hS2 (by simp)).alloc _⟩
  ·have:=B1.alloc (.cells #[Value.slice (some ⟨w.heap.size,0,none⟩) n n,Value.slice (some ⟨fb,0,none⟩) n n] 127);rw[<-hL] at this;simpa using this
  ·rw[upArr_row];exact hA2.alloc _
 ·have B1:=(At.new w2 L 91).alloc (.cells #[Value.slice (some ⟨w2.heap.size,0,none⟩) n n,Value.slice (some ⟨fb,0,none⟩) n n] 127);have N1:=At.new (w2.alloc (.cells L 91)) #[Value.slice (some ⟨w2.heap.size,0,none⟩) n n,Value.slice (some ⟨fb,0,none⟩) n n] 127;have hsz:=hS2.size;have lf1:=hA2.lt;simp at hsz hfb
  go_wp2
  go_ret
  refine⟨w2.heap.size+1,rfl,⟨w2.heap.size,fb,by omega,by omega,by omega,⟨?_,?_,?_,by omega,by omega,by omega,by simp,by simp[upArr],Nat.le_refl _,hn⟩⟩,((((Same.refl _ _).drew).step hS2 (by simp)).alloc _).alloc _⟩
  ·simpa using N1
  ·rw[<-hL] at B1 ⊢;simpa using B1
  ·rw[upArr_row];exact (hA2.alloc _).alloc _
theorem upArr_get(n j:Nat)(h:j < n):(upArr n)[j]! = (j:Int):=by
 unfold upArr;rw[getElem!_pos _ j (by simpa using h)];simp
theorem upArr_heap(n:Nat):HeapIs n (upArr n) (List.range n):=by
 refine⟨by simp[upArr],fun j h1 h2=>?_,fun i j hi hj e=>?_,fun i hi=>?_,fun x hx=>?_,List.pairwise_lt_range,by simp⟩
 ·rw[upArr_get n _ (by omega),upArr_get n j h2];omega
 ·rw[upArr_get n i hi,upArr_get n j hj] at e;omega
 ·exact⟨i,List.mem_range.2 hi,upArr_get n i hi⟩
 ·exact⟨x,List.mem_range.1 hx,upArr_get n x (List.mem_range.1 hx)⟩
def newSt(pb db bb fb n:Nat):St:=⟨pb,db,bb,fb,none,n,n,List.replicate n Blk.zero,upArr n,[]⟩
theorem newSt_good(pb db bb fb n:Nat):Good (newSt pb db bb fb n) (List.range n):=
 ⟨upArr_heap n,by simp[newSt],fun x hx=>by
  have hx':x < n:=List.mem_range.1 hx;show (List.replicate n Blk.zero)[x]! = Blk.zero;rw[getElem!_pos _ x (by simpa using hx')];simp,by simp[newSt],fun v hv=>by simp[newSt] at hv⟩
theorem newPool_no(n:Int)(w:World)(hn:¬(1<=n/\n<=200)) :
 Calls Tryz.prog 24 #[.int .i64 n] w fun e w'=>e=.returned (.tuple #[.pointer none,.int .i64 1])/\w'=w:=by
 have hC:=isCount_calls n w;rw[decide_eq_false hn] at hC;have hnot:∀(x:Bool) (w:World),(Op.unary .not (.bool x)).run Tryz.prog w=.ok (.bool (!x)) w:=fun _ _=>rfl
 clear hn
 go_enter Tryz.func24,Tryz.ntmps24
 go_wp2_with (go_at_call 42;refine hC.mono ?_;rintro e w' ⟨rfl,rfl⟩)
 go_ret2
 exact⟨rfl,rfl⟩
structure PoolNew(w w':World)(n pb:Nat):Prop where
 ex:∃db bb fb,PoolAt w' (newSt pb db bb fb n)/\(∀k∈(newSt pb db bb fb n).foot,w.heap.size<=k)
 same:Same [] w w'
theorem newPoolOf_calls(db:Nat)(a:Option Addr)(n c:Nat)(w:World) :
 Calls Tryz.prog 43 #[.pointer (some ⟨db,0,none⟩),.slice a n c] w fun e w'=>e=.returned (.pointer (some ⟨w.heap.size,0,none⟩)) /\
  At w' w.heap.size 87 [ptr w.heap.size,ptr db,.slice a n c]/\Same [] w w':=by
 have N1:=At.new w #[.pointer (some ⟨w.heap.size,0,none⟩),.pointer (some ⟨db,0,none⟩),.slice a n c] 87;have S1:Same [] w (w.alloc (.cells #[.pointer (some ⟨w.heap.size,0,none⟩),.pointer (some ⟨db,0,none⟩),.slice a n c] 87)):=(Same.refl _ _).alloc _
 go_enter Tryz.func43,Tryz.ntmps43
 go_wp2
 go_ret
 exact⟨rfl,N1,S1⟩
theorem newPool_ok(n:Nat)(w:World)(hn:1<=n/\n<=200) :
 Calls Tryz.prog 24 #[.int .i64 n] w fun e w'=>∃pb,e=.returned (.tuple #[.pointer (some ⟨pb,0,none⟩),.int .i64 0])/\PoolNew w w' n pb:=by
 have hC:=isCount_calls n w;rw[decide_eq_true (by omega:(1:Int)<=n/\(n:Int)<=200)] at hC;have hnot:∀(x:Bool) (w:World),(Op.unary .not (.bool x)).run Tryz.prog w=.ok (.bool (!x)) w:=fun _ _=>rfl
 go_enter Tryz.func24,Tryz.ntmps24
 go_wp2_with (first|(go_at_call 42;refine hC.mono ?_;rintro e w' ⟨rfl,rfl⟩)|(go_at_call 44;refine (new_calls n _ hn.2).mono ?_;rintro e w1 ⟨db,rfl,hN⟩)|(go_at_call 43;refine (newPoolOf_calls db none 0 0 _).mono ?_;rintro e w2 ⟨rfl,N1,S1⟩))
 go_ret2
 obtain⟨⟨bb,fb,h1,h2,h3,hD⟩,hS⟩:=hN;have ld:=hD.disk.lt;have lb:=hD.data.lt;have lf:=hD.free.lt;have hne1:=hD.ne1;have hne2:=hD.ne2;have hne3:=hD.ne3;have hsz:=hS.size;refine⟨w1.heap.size,rfl,⟨db,bb,fb,⟨⟨0,N1,Nat.le_refl _,fun _=>rfl⟩,by simp[newSt],hD.same S1 (by simp) (by simp) (by simp),by simp[newSt],?_,by simp[newSt],by simp[newSt],by simp[newSt]⟩,?_⟩,hS.step S1 (by simp)⟩
 ·simp[newSt,St.foot];omega
 ·simp[newSt,St.foot];omega
end
section
open Go.RowKit Go.Sort
variable [DecidableEq Blk] [Inhabited Blk] [Inhabited Vol] [Inhabited RVol]
structure TwoAt(w:World)(s:St)(fr:List Nat)(r:RSt):Prop where
 pool:PoolAt w s
 good:Good s fr
 spare:Spare s
 ref:RefAt w r
 nodup:r.foot.Nodup
 rel:Rel s r
 apart:∀k∈s.foot,k∉r.foot
structure BothAt(w:World)(bb:Nat)(s:St)(fr:List Nat)(r:RSt):Prop where
 both:At w bb 67 [.pointer (some ⟨s.pb,0,none⟩),.pointer (some ⟨r.rb,0,none⟩)]
 two:TwoAt w s fr r
 out:bb∉s.foot++r.foot
theorem TwoAt.same{w w':World}{s:St}{fr:List Nat}{r:RSt}(h:TwoAt w s fr r){S:List Nat}(hs:Same S w w')(hd:∀k∈s.foot++r.foot,k∉S):TwoAt w' s fr r:=
 ⟨h.pool.same hs (fun k hk=>hd k (List.mem_append_left _ hk)),h.good,h.spare,h.ref.sameF hs (fun k hk=>hd k (List.mem_append_right _ hk)),h.nodup,h.rel,h.apart⟩
theorem TwoAt.new{w w':World}{s:St}{fr:List Nat}{r:RSt}(h:TwoAt w s fr r)(hs:Same [] w w'):TwoAt w' s fr r:=h.same hs (by simp)
theorem BothAt.same{w w':World}{bb:Nat}{s:St}{fr:List Nat}{r:RSt}(h:BothAt w bb s fr r){S:List Nat}(hs:Same S w w')(hd:∀k∈bb :: (s.foot++r.foot),k∉S):BothAt w' bb s fr r:=
 ⟨hs.at h.both (hd bb (by simp)),h.two.same hs (fun k hk=>hd k (List.mem_cons_of_mem _ hk)),h.out⟩
theorem BothAt.new{w w':World}{bb:Nat}{s:St}{fr:List Nat}{r:RSt}(h:BothAt w bb s fr r)(hs:Same [] w w'):BothAt w' bb s fr r:=h.same hs (by simp)
theorem TwoAt.foot_lt{w:World}{s:St}{fr:List Nat}{r:RSt}(h:TwoAt w s fr r):∀k∈s.foot++r.foot,k < w.heap.size:=fun k hk=>by
 rcases List.mem_append.1 hk with hk|hk
 ·exact h.pool.foot_lt k hk
 ·exact h.ref.foot_lt k hk
structure BothNext(w:World)(bb:Nat)(s:St)(r:RSt)(w':World):Prop where
 ex:∃s' fr' r',BothAt w' bb s' fr' r'/\s'.n=s.n/\∀k∈s'.foot++r'.foot,k∈s.foot++r.foot\/w.heap.size<=k
 same:Same (s.foot++r.foot) w w'
theorem BothNext.still{w w':World}{bb:Nat}{s:St}{fr:List Nat}{r:RSt}(h:BothAt w bb s fr r)(hs:Same [] w w'):BothNext w bb s r w':=
 ⟨⟨s,fr,r,h.new hs,rfl,fun k hk=>Or.inl hk⟩,hs.mono (by simp)⟩
theorem BothNext.old{w0 w w':World}{bb:Nat}{s:St}{r:RSt}(h:BothNext w bb s r w')(h0:Same [] w0 w):BothNext w0 bb s r w':=by
 obtain⟨⟨s',fr',r',a,hn,b⟩,c⟩:=h;have:=h0.size;exact⟨⟨s',fr',r',a,hn,fun k hk=>(b k hk).imp id fun e=>by omega⟩,(h0.mono (T:=s.foot++r.foot) (by simp)).step c (fun k hk _=>hk)⟩
theorem BothAt.next{w w1 w2:World}{bb:Nat}{s s':St}{fr fr':List Nat}{r r':RSt}(h:BothAt w bb s fr r)(hA:After w s w1 s' fr')(hsp:Spare s')(hR:RAfter w1 r w2 r')(hrel:Rel s' r'):BothNext w bb s r w2:=by
 have hz1:=hA.same.size;have hrl:=h.two.ref.foot_lt;have hsl':=hA.pool.foot_lt;have hap:∀k∈s'.foot,k∉r.foot:=fun k hk hr=>by
  rcases hA.foot k hk with e|e
  ·exact h.two.apart k e hr
  ·have:=hrl k hr;omega
 have P2:PoolAt w2 s':=hA.pool.same hR.same hap;have ap2:∀k∈s'.foot,k∉r'.foot:=fun k hk hr=>by
  rcases hR.foot k hr with e|e
  ·exact hap k hk e
  ·have:=hsl' k hk;omega
 have hbl:=h.both.lt;have hbs:bb∉s.foot:=fun hm=>h.out (List.mem_append_left _ hm)
 have hbr:bb∉r.foot:=fun hm=>h.out (List.mem_append_right _ hm)
 have hb2:=hR.same.at (hA.same.at h.both hbs) hbr;rw[<-hA.pb,<-hR.rb] at hb2;refine⟨⟨s',fr',r',⟨hb2,⟨P2,hA.good,hsp,hR.ref,hR.nodup,hrel,ap2⟩,fun hm=>?_⟩,hA.n,fun k hk=>?_⟩,?_⟩
 ·rcases List.mem_append.1 hm with hm|hm
  ·rcases hA.foot _ hm with e|e
   ·exact hbs e
   ·omega
  ·rcases hR.foot _ hm with e|e
   ·exact hbr e
   ·omega
 ·rcases List.mem_append.1 hk with hk|hk
  ·exact (hA.foot k hk).imp (List.mem_append_left _) id
  ·rcases hR.foot k hk with e|e
   ·exact Or.inl (List.mem_append_right _ e)
   ·exact Or.inr (by omega)
 ·exact (hA.same.mono (T:=s.foot++r.foot) (fun k hk _=>List.mem_append_left _ hk)).step hR.same (fun k hk _=>List.mem_append_right _ hk)
theorem BothAt.mid{w w1:World}{bb:Nat}{s s':St}{fr fr':List Nat}{r:RSt}(h:BothAt w bb s fr r)(hA:After w s w1 s' fr'):RefAt w1 r/\At w1 bb 67 [.pointer (some ⟨s.pb,0,none⟩),.pointer (some ⟨r.rb,0,none⟩)]:=
 ⟨h.two.ref.sameF hA.same (fun k hk hs=>h.two.apart k hs hk),hA.same.at h.both (fun hm=>h.out (List.mem_append_left _ hm))⟩
theorem num_int(c:Int)(w:World)(h0:0<=c)(h:c<=13):Calls Tryz.prog 26 #[.int .i64 c] w fun e w'=>e=.returned (.int .i64 c)/\w'=w:=by
 obtain⟨n,rfl⟩:∃n:Nat,c=n:=⟨c.toNat,by omega⟩
 exact num_calls n w (by omega)
theorem blkUp_ok(s:ByteArray)(k:Nat):(blkUp s k).ok:=by
 have h:∀i,0<=byteAt s k i/\byteAt s k i<=255:=fun i=>by
  unfold byteAt
  split
  ·have:=(s.data[i]!).toNat_lt;omega
  ·omega
 intro n hn;simp only[Blk.ints,blkUp,List.mem_cons,List.mem_nil_iff,or_false] at hn;rcases hn with rfl|rfl|rfl|rfl|rfl|rfl|rfl|rfl<;>exact h _
def opVal(k kk a:Int)(t u x:ByteArray):Value:=.agg #[.int .i64 k,.int .i64 kk,.int .i64 a,.string t,.string u,.string x]
theorem op_at(w:World)(k kk a:Int)(t u x:ByteArray):At (w.alloc (.cells #[.int .i64 k,.int .i64 kk,.int .i64 a,.string t,.string u,.string x] 34)) w.heap.size 34 [.int .i64 k,.int .i64 kk,.int .i64 a,.string t,.string u,.string x]:=At.new w _ _
theorem turned_create(bb:Nat)(s:St)(fr:List Nat)(r:RSt)(w:World)(h:BothAt w bb s fr r)(kk a:Int)(t u x:ByteArray)(ht:t.size<=maxLen) :
 Calls Tryz.prog 28 #[.pointer (some ⟨bb,0,none⟩),opVal 1 kk a t u x] w fun e w'=>e=.returned (.bool true)/\BothNext w bb s r w':=by
 unfold opVal;have O0:=op_at w 1 kk a t u x;have S0:Same [] w (w.alloc (.cells #[.int .i64 1,.int .i64 kk,.int .i64 a,.string t,.string u,.string x] 34)):=(Same.refl _ _).alloc _;have hB0:=(h.new S0).new ((Same.refl [] _).drew);have hlt:=h.both.lt;have hnf:w.heap.size∉s.foot++r.foot:=fun hm=>by have:=h.two.foot_lt _ hm;omega
 have d0:(w.alloc (.cells #[.int .i64 1,.int .i64 kk,.int .i64 a,.string t,.string u,.string x] 34)).cell? ⟨bb,0,none⟩=some (.pointer (some ⟨s.pb,0,none⟩)):=(h.new S0).both.cell? 0;have HO:Hid (At (w.alloc (.cells #[.int .i64 1,.int .i64 kk,.int .i64 a,.string t,.string u,.string x] 34)) w.heap.size 34 [.int .i64 1,.int .i64 kk,.int .i64 a,.string t,.string u,.string x]):=O0;have HS0:Hid (Same [] w (w.alloc (.cells #[.int .i64 1,.int .i64 kk,.int .i64 a,.string t,.string u,.string x] 34))):=S0;have HB:Hid _:=hB0;clear S0 O0 h hB0
 go_enter Tryz.func28,Tryz.ntmps28
 go_wp2_with fail
 refine region_tail 8 (by kernel_rfl) (by kernel_rfl) ?_;simp only[List.take_succ_cons,List.take_zero,List.drop_succ_cons,List.drop_zero]
 repeat still_step
 refine wpStill_nil ?_;have h:=HB.out;obtain⟨c,P,c0,c13,hp1,hp2⟩:=(pair_create h.two.pool h.two.good h.two.spare h.two.rel h.two.nodup t a ht).ex;have HP2:Hid _:=hp2;clear hp2 h
 go_wp2_with (go_at_call 47;refine hp1.mono ?_;rintro e w1 ⟨rfl,s',fr',hA,hsp,hPs⟩)
 obtain⟨hR1,hB1⟩:=HB.out.mid hA;have O1:=hA.same.at HO.out.drew (fun hm=>hnf (List.mem_append_left _ hm));have x0:=O1.cell? 0;have x2:=O1.cell? 2;have x3:=O1.cell? 3;have x4:=O1.cell? 4;have x1:=hB1.cell? 1;simp only[List.getElem?_cons_succ,List.getElem?_cons_zero] at x0 x1 x2 x3 x4;refine region_tail 8 (by kernel_rfl) (by kernel_rfl) ?_;simp only[List.take_succ_cons,List.take_zero,List.drop_succ_cons,List.drop_zero]
 repeat still_step
 refine wpStill_nil ?_;have hp2:=HP2.out w1.drew (hR1.same0 ((Same.refl [] _).drew));have hnum:=fun W=>num_int c W c0 c13
 go_wp2_with (first|(go_at_call 48;refine hp2.mono ?_;rintro e w2 ⟨rfl,r',hR,hRel⟩)|(go_at_call 26;refine (hnum _).mono ?_;rintro e w3 ⟨rfl,rfl⟩))
 go_ret
 refine⟨by simp,?_⟩;have hnx:=HB.out.next hA hsp (hR.old ((Same.refl [] _).drew)) (hRel _ _ _ hA.pool hA.good hPs);exact hnx.old (HS0.out.step ((Same.refl [] _).drew) (by simp))
theorem turned_resize(bb:Nat)(s:St)(fr:List Nat)(r:RSt)(w:World)(h:BothAt w bb s fr r)(kk a:Int)(t u x:ByteArray)(ht:t.size<=maxLen) :
 Calls Tryz.prog 28 #[.pointer (some ⟨bb,0,none⟩),opVal 4 kk a t u x] w fun e w'=>e=.returned (.bool true)/\BothNext w bb s r w':=by
 unfold opVal;have O0:=op_at w 4 kk a t u x;have S0:Same [] w (w.alloc (.cells #[.int .i64 4,.int .i64 kk,.int .i64 a,.string t,.string u,.string x] 34)):=(Same.refl _ _).alloc _;have hB0:=(h.new S0).new ((Same.refl [] _).drew);have hlt:=h.both.lt;have hnf:w.heap.size∉s.foot++r.foot:=fun hm=>by have:=h.two.foot_lt _ hm;omega
 have d0:(w.alloc (.cells #[.int .i64 4,.int .i64 kk,.int .i64 a,.string t,.string u,.string x] 34)).cell? ⟨bb,0,none⟩=some (.pointer (some ⟨s.pb,0,none⟩)):=(h.new S0).both.cell? 0;have HO:Hid (At (w.alloc (.cells #[.int .i64 4,.int .i64 kk,.int .i64 a,.string t,.string u,.string x] 34)) w.heap.size 34 [.int .i64 4,.int .i64 kk,.int .i64 a,.string t,.string u,.string x]):=O0;have HS0:Hid (Same [] w (w.alloc (.cells #[.int .i64 4,.int .i64 kk,.int .i64 a,.string t,.string u,.string x] 34))):=S0;have HB:Hid _:=hB0;clear S0 O0 h hB0
 go_enter Tryz.func28,Tryz.ntmps28
 go_wp2_with fail
 refine region_tail 8 (by kernel_rfl) (by kernel_rfl) ?_;simp only[List.take_succ_cons,List.take_zero,List.drop_succ_cons,List.drop_zero]
 repeat still_step
 refine wpStill_nil ?_;have h:=HB.out;obtain⟨c,P,c0,c13,hp1,hp2⟩:=(pair_resize h.two.pool h.two.good h.two.spare h.two.rel h.two.nodup t a).ex;have HP2:Hid _:=hp2;clear hp2 h
 go_wp2_with (go_at_call 53;refine hp1.mono ?_;rintro e w1 ⟨rfl,s',fr',hA,hsp,hPs⟩)
 obtain⟨hR1,hB1⟩:=HB.out.mid hA;have O1:=hA.same.at HO.out.drew (fun hm=>hnf (List.mem_append_left _ hm));have x0:=O1.cell? 0;have x2:=O1.cell? 2;have x3:=O1.cell? 3;have x4:=O1.cell? 4;have x1:=hB1.cell? 1;simp only[List.getElem?_cons_succ,List.getElem?_cons_zero] at x0 x1 x2 x3 x4;refine region_tail 8 (by kernel_rfl) (by kernel_rfl) ?_;simp only[List.take_succ_cons,List.take_zero,List.drop_succ_cons,List.drop_zero]
 repeat still_step
 refine wpStill_nil ?_;have hp2:=HP2.out w1.drew (hR1.same0 ((Same.refl [] _).drew));have hnum:=fun W=>num_int c W c0 c13
 go_wp2_with (first|(go_at_call 54;refine hp2.mono ?_;rintro e w2 ⟨rfl,r',hR,hRel⟩)|(go_at_call 26;refine (hnum _).mono ?_;rintro e w3 ⟨rfl,rfl⟩))
 go_ret
 refine⟨by simp,?_⟩;have hnx:=HB.out.next hA hsp (hR.old ((Same.refl [] _).drew)) (hRel _ _ _ hA.pool hA.good hPs);exact hnx.old (HS0.out.step ((Same.refl [] _).drew) (by simp))
theorem turned_remove(bb:Nat)(s:St)(fr:List Nat)(r:RSt)(w:World)(h:BothAt w bb s fr r)(kk a:Int)(t u x:ByteArray)(ht:t.size<=maxLen) :
 Calls Tryz.prog 28 #[.pointer (some ⟨bb,0,none⟩),opVal 5 kk a t u x] w fun e w'=>e=.returned (.bool true)/\BothNext w bb s r w':=by
 unfold opVal;have O0:=op_at w 5 kk a t u x;have S0:Same [] w (w.alloc (.cells #[.int .i64 5,.int .i64 kk,.int .i64 a,.string t,.string u,.string x] 34)):=(Same.refl _ _).alloc _;have hB0:=(h.new S0).new ((Same.refl [] _).drew);have hlt:=h.both.lt;have hnf:w.heap.size∉s.foot++r.foot:=fun hm=>by have:=h.two.foot_lt _ hm;omega
 have d0:(w.alloc (.cells #[.int .i64 5,.int .i64 kk,.int .i64 a,.string t,.string u,.string x] 34)).cell? ⟨bb,0,none⟩=some (.pointer (some ⟨s.pb,0,none⟩)):=(h.new S0).both.cell? 0;have HO:Hid (At (w.alloc (.cells #[.int .i64 5,.int .i64 kk,.int .i64 a,.string t,.string u,.string x] 34)) w.heap.size 34 [.int .i64 5,.int .i64 kk,.int .i64 a,.string t,.string u,.string x]):=O0;have HS0:Hid (Same [] w (w.alloc (.cells #[.int .i64 5,.int .i64 kk,.int .i64 a,.string t,.string u,.string x] 34))):=S0;have HB:Hid _:=hB0;clear S0 O0 h hB0
 go_enter Tryz.func28,Tryz.ntmps28
 go_wp2_with fail
 refine region_tail 6 (by kernel_rfl) (by kernel_rfl) ?_;simp only[List.take_succ_cons,List.take_zero,List.drop_succ_cons,List.drop_zero]
 repeat still_step
 refine wpStill_nil ?_;have h:=HB.out;obtain⟨c,P,c0,c13,hp1,hp2⟩:=(pair_remove h.two.pool h.two.good h.two.spare h.two.rel h.two.nodup t).ex;have HP2:Hid _:=hp2;clear hp2 h
 go_wp2_with (go_at_call 55;refine hp1.mono ?_;rintro e w1 ⟨rfl,s',fr',hA,hsp,hPs⟩)
 obtain⟨hR1,hB1⟩:=HB.out.mid hA;have O1:=hA.same.at HO.out.drew (fun hm=>hnf (List.mem_append_left _ hm));have x0:=O1.cell? 0;have x2:=O1.cell? 2;have x3:=O1.cell? 3;have x4:=O1.cell? 4;have x1:=hB1.cell? 1;simp only[List.getElem?_cons_succ,List.getElem?_cons_zero] at x0 x1 x2 x3 x4;refine region_tail 6 (by kernel_rfl) (by kernel_rfl) ?_;simp only[List.take_succ_cons,List.take_zero,List.drop_succ_cons,List.drop_zero]
 repeat still_step
 refine wpStill_nil ?_;have hp2:=HP2.out w1.drew (hR1.same0 ((Same.refl [] _).drew));have hnum:=fun W=>num_int c W c0 c13
 go_wp2_with (first|(go_at_call 56;refine hp2.mono ?_;rintro e w2 ⟨rfl,r',hR,hRel⟩)|(go_at_call 26;refine (hnum _).mono ?_;rintro e w3 ⟨rfl,rfl⟩))
 go_ret
 refine⟨by simp,?_⟩;have hnx:=HB.out.next hA hsp (hR.old ((Same.refl [] _).drew)) (hRel _ _ _ hA.pool hA.good hPs);exact hnx.old (HS0.out.step ((Same.refl [] _).drew) (by simp))
theorem turned_picture(bb:Nat)(s:St)(fr:List Nat)(r:RSt)(w:World)(h:BothAt w bb s fr r)(kk a:Int)(t u x:ByteArray)(ht:t.size<=maxLen) :
 Calls Tryz.prog 28 #[.pointer (some ⟨bb,0,none⟩),opVal 9 kk a t u x] w fun e w'=>e=.returned (.bool true)/\BothNext w bb s r w':=by
 unfold opVal;have O0:=op_at w 9 kk a t u x;have S0:Same [] w (w.alloc (.cells #[.int .i64 9,.int .i64 kk,.int .i64 a,.string t,.string u,.string x] 34)):=(Same.refl _ _).alloc _;have hB0:=(h.new S0).new ((Same.refl [] _).drew);have hlt:=h.both.lt;have hnf:w.heap.size∉s.foot++r.foot:=fun hm=>by have:=h.two.foot_lt _ hm;omega
 have d0:(w.alloc (.cells #[.int .i64 9,.int .i64 kk,.int .i64 a,.string t,.string u,.string x] 34)).cell? ⟨bb,0,none⟩=some (.pointer (some ⟨s.pb,0,none⟩)):=(h.new S0).both.cell? 0;have HO:Hid (At (w.alloc (.cells #[.int .i64 9,.int .i64 kk,.int .i64 a,.string t,.string u,.string x] 34)) w.heap.size 34 [.int .i64 9,.int .i64 kk,.int .i64 a,.string t,.string u,.string x]):=O0;have HS0:Hid (Same [] w (w.alloc (.cells #[.int .i64 9,.int .i64 kk,.int .i64 a,.string t,.string u,.string x] 34))):=S0;have HB:Hid _:=hB0;clear S0 O0 h hB0
 go_enter Tryz.func28,Tryz.ntmps28
 go_wp2_with fail
 refine region_tail 10 (by kernel_rfl) (by kernel_rfl) ?_;simp only[List.take_succ_cons,List.take_zero,List.drop_succ_cons,List.drop_zero]
 repeat still_step
 refine wpStill_nil ?_;have h:=HB.out;obtain⟨c,P,c0,c13,hp1,hp2⟩:=(pair_picture h.two.pool h.two.good h.two.spare h.two.rel h.two.nodup t u a ht).ex;have HP2:Hid _:=hp2;clear hp2 h
 go_wp2_with (go_at_call 57;refine hp1.mono ?_;rintro e w1 ⟨rfl,s',fr',hA,hsp,hPs⟩)
 obtain⟨hR1,hB1⟩:=HB.out.mid hA;have O1:=hA.same.at HO.out.drew (fun hm=>hnf (List.mem_append_left _ hm));have x0:=O1.cell? 0;have x2:=O1.cell? 2;have x3:=O1.cell? 3;have x4:=O1.cell? 4;have x1:=hB1.cell? 1;simp only[List.getElem?_cons_succ,List.getElem?_cons_zero] at x0 x1 x2 x3 x4;refine region_tail 10 (by kernel_rfl) (by kernel_rfl) ?_;simp only[List.take_succ_cons,List.take_zero,List.drop_succ_cons,List.drop_zero]
 repeat still_step
 refine wpStill_nil ?_;have hp2:=HP2.out w1.drew (hR1.same0 ((Same.refl [] _).drew));have hnum:=fun W=>num_int c W c0 c13
 go_wp2_with (first|(go_at_call 58;refine hp2.mono ?_;rintro e w2 ⟨rfl,r',hR,hRel⟩)|(go_at_call 26;refine (hnum _).mono ?_;rintro e w3 ⟨rfl,rfl⟩))
 go_ret
 refine⟨by simp,?_⟩;have hnx:=HB.out.next hA hsp (hR.old ((Same.refl [] _).drew)) (hRel _ _ _ hA.pool hA.good hPs);exact hnx.old (HS0.out.step ((Same.refl [] _).drew) (by simp))
theorem turned_revert(bb:Nat)(s:St)(fr:List Nat)(r:RSt)(w:World)(h:BothAt w bb s fr r)(kk a:Int)(t u x:ByteArray)(ht:t.size<=maxLen) :
 Calls Tryz.prog 28 #[.pointer (some ⟨bb,0,none⟩),opVal 10 kk a t u x] w fun e w'=>e=.returned (.bool true)/\BothNext w bb s r w':=by
 unfold opVal;have O0:=op_at w 10 kk a t u x;have S0:Same [] w (w.alloc (.cells #[.int .i64 10,.int .i64 kk,.int .i64 a,.string t,.string u,.string x] 34)):=(Same.refl _ _).alloc _;have hB0:=(h.new S0).new ((Same.refl [] _).drew);have hlt:=h.both.lt;have hnf:w.heap.size∉s.foot++r.foot:=fun hm=>by have:=h.two.foot_lt _ hm;omega
 have d0:(w.alloc (.cells #[.int .i64 10,.int .i64 kk,.int .i64 a,.string t,.string u,.string x] 34)).cell? ⟨bb,0,none⟩=some (.pointer (some ⟨s.pb,0,none⟩)):=(h.new S0).both.cell? 0;have HO:Hid (At (w.alloc (.cells #[.int .i64 10,.int .i64 kk,.int .i64 a,.string t,.string u,.string x] 34)) w.heap.size 34 [.int .i64 10,.int .i64 kk,.int .i64 a,.string t,.string u,.string x]):=O0;have HS0:Hid (Same [] w (w.alloc (.cells #[.int .i64 10,.int .i64 kk,.int .i64 a,.string t,.string u,.string x] 34))):=S0;have HB:Hid _:=hB0;clear S0 O0 h hB0
 go_enter Tryz.func28,Tryz.ntmps28
 go_wp2_with fail
 refine region_tail 6 (by kernel_rfl) (by kernel_rfl) ?_;simp only[List.take_succ_cons,List.take_zero,List.drop_succ_cons,List.drop_zero]
 repeat still_step
 refine wpStill_nil ?_;have h:=HB.out;obtain⟨c,P,c0,c13,hp1,hp2⟩:=(pair_revert h.two.pool h.two.good h.two.spare h.two.rel h.two.nodup t).ex;have HP2:Hid _:=hp2;clear hp2 h
 go_wp2_with (go_at_call 59;refine hp1.mono ?_;rintro e w1 ⟨rfl,s',fr',hA,hsp,hPs⟩)
 obtain⟨hR1,hB1⟩:=HB.out.mid hA;have O1:=hA.same.at HO.out.drew (fun hm=>hnf (List.mem_append_left _ hm));have x0:=O1.cell? 0;have x2:=O1.cell? 2;have x3:=O1.cell? 3;have x4:=O1.cell? 4;have x1:=hB1.cell? 1;simp only[List.getElem?_cons_succ,List.getElem?_cons_zero] at x0 x1 x2 x3 x4;refine region_tail 6 (by kernel_rfl) (by kernel_rfl) ?_;simp only[List.take_succ_cons,List.take_zero,List.drop_succ_cons,List.drop_zero]
 repeat still_step
 refine wpStill_nil ?_;have hp2:=HP2.out w1.drew (hR1.same0 ((Same.refl [] _).drew));have hnum:=fun W=>num_int c W c0 c13
 go_wp2_with (first|(go_at_call 60;refine hp2.mono ?_;rintro e w2 ⟨rfl,r',hR,hRel⟩)|(go_at_call 26;refine (hnum _).mono ?_;rintro e w3 ⟨rfl,rfl⟩))
 go_ret
 refine⟨by simp,?_⟩;have hnx:=HB.out.next hA hsp (hR.old ((Same.refl [] _).drew)) (hRel _ _ _ hA.pool hA.good hPs);exact hnx.old (HS0.out.step ((Same.refl [] _).drew) (by simp))
end
end Go.Proofs.YtpddgdjocffgdaaGreat
