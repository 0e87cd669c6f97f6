/- A Pool: what a Write of a volume leaves, in what stands everywhere. What stands everywhere: when a picture is written at a place that it keeps; when something comes. The program's state beside the document's own answer: what both hold in common. The program's state beside the document's own answer: one more, one less, one told otherwise. The program's state beside the document's own answer: what is new, and what is made longer or shorter. A Pool: Remove, and what Revert refuses, by contracts. A Pool: Revert, by a contract. -/
import Derived.Test.YtpddgdjocffgdaaGreatJ07
import Derived.Test.YtpddgdjocffgdaaGreatJ05
import Derived.Test.YtpddgdjocffgdaaGreatJ06
import Derived.Deep.RegionHeld3
namespace Go.Proofs.YtpddgdjocffgdaaGreat
set_option linter.unusedVariables false
set_option linter.unusedSimpArgs false
set_option linter.unusedSectionVars false
set_option maxHeartbeats 16000000
set_option maxRecDepth 100000
section
open Go.RowKit Go.Sort
variable [DecidableEq Blk] [Inhabited Blk] [Inhabited Vol]
theorem holder_bl(s:St)(bl:List Blk)(v:Vol)(q:Nat):St.holder { s with bl:=bl } v q=s.holder v q:=rfl
theorem Base.bl{s s':St}(h:Base s s')(bl:List Blk):Base s { s' with bl:=bl }:=⟨h.len,h.same,h.lost⟩
theorem vol_looks{w w':World}{s s1:St}{fr:List Nat}{k iu:Nat}{u:Vol}{b:Blk}(h:PoolAt w s)(hiu:iu < s.vols.length)(hu:s.vols[iu]! = u)(hu0:u.org=none)(hk:k < u.xs.length)
 (hK:Kept s s1 k (fun v=>v.org=some u.vb)) (h':PoolAt w' { s1 with bl:=s1.bl.set u.xs[k]! b }) (hG':Good { s1 with bl:=s1.bl.set u.xs[k]! b } fr) (j:Nat) (hj:j < s.vols.length) (hl:(s1.vols[j]!).lost=false) (q:Nat) (hq:q < s.size (s.vols[j]!)) :
 St.look { s1 with bl:=s1.bl.set u.xs[k]! b } (s1.vols[j]!) q=if j=iu/\q=k then b else s.look (s.vols[j]!) q:=by
 have hlen:=hK.base.len;have hiu1:iu < s1.vols.length:=by rw[hlen];exact hiu
 have hj1:j < s1.vols.length:=by rw[hlen];exact hj
 obtain⟨e1,e2,e3,e4⟩:=hK.base.same iu hiu;rw[hu] at e1 e2 e3 e4;have hu1:(s1.vols[iu]!).org=none:=by rw[e4];exact hu0
 have hk1:(s1.vols[iu]!).kept=[]:=(h'.vols _ (get_mem (l:=s1.vols) hiu1)).kept_nil hu1;have hyl:u.xs[k]! < s1.bl.length:=by
  have:u.xs[k]! < s1.n:=hG'.lt.2 _ (get_mem (l:=s1.vols) hiu1) _ (by rw[e3];exact mem_getElem! hk);have hl':=h'.disk.len;simp at hl';omega
 have hb:=hK.base.bl (s1.bl.set u.xs[k]! b);have hsz:St.size { s1 with bl:=s1.bl.set u.xs[k]! b } (s1.vols[j]!)=s.size (s.vols[j]!):=hb.size h h' j hj;unfold St.look;rw[holder_bl];by_cases hh:s1.holder (s1.vols[j]!) q=u.xs[k]!
 ·rw[hh];show (s1.bl.set u.xs[k]! b)[u.xs[k]!]! = _;rw[get_set_eq b hyl]
  suffices hs:j=iu/\q=k by rw[if_pos hs]
  have hnd:(s1.vols[iu]!).xs.Nodup:=hG'.xs_nodup (get_mem (l:=s1.vols) hiu1);have hyu:u.xs[k]!∈(s1.vols[iu]!).xs:=by rw[e3];exact mem_getElem! hk
  by_cases hm:q∈(s1.vols[j]!).kept
  ·have e:s1.holder (s1.vols[j]!) q=(s1.vols[j]!).xs[(s1.vols[j]!).kept.idxOf q]!:=by unfold St.holder;rw[if_pos hm]
   have hin:u.xs[k]!∈(s1.vols[j]!).xs:=by
    rw[<-hh,e];exact mem_getElem! (Nat.lt_of_lt_of_le (idxOf_lt hm) (h'.vols _ (get_mem (l:=s1.vols) hj1)).room)
   by_cases hji:j=iu
   ·rw[hji,hk1] at hm;simp at hm
   ·exact absurd hyu (hG'.xs_apart (s:={ s1 with bl:=s1.bl.set u.xs[k]! b }) hj1 hiu1 hji hin)
  ·have e:s1.holder (s1.vols[j]!) q=(s1.orgOf (s1.vols[j]!)).xs[q]!:=by unfold St.holder;rw[if_neg hm]
   obtain⟨o1,o2,o3,o4⟩:=h'.orgOf (get_mem (l:=s1.vols) hj1);obtain⟨m,hm2,em⟩:=mem_index o1;have hm3:m < s1.vols.length:=hm2;have em':s1.vols[m]! = s1.orgOf (s1.vols[j]!):=em;have hqm:q < (s1.vols[m]!).xs.length:=by
    rw[em'];have:q < St.size { s1 with bl:=s1.bl.set u.xs[k]! b } (s1.vols[j]!):=by rw[hsz];exact hq
    exact this
   have hin:u.xs[k]!∈(s1.vols[m]!).xs:=by
    rw[<-hh,e,<-em'];exact mem_getElem! hqm
   have hmi:m=iu:=by
    by_cases hmi:m=iu
    ·exact hmi
    ·exact absurd hyu (hG'.xs_apart (s:={ s1 with bl:=s1.bl.set u.xs[k]! b }) hm3 hiu1 hmi hin)
   subst hmi;have hqk:q=k:=by
    rw[e,<-em',e3] at hh;rw[e3] at hqm hnd;rw[getElem!_pos u.xs q hqm,getElem!_pos u.xs k hk] at hh;exact (List.getElem_inj (h₀:=hqm) (h₁:=hk) hnd).1 hh
   subst hqk;refine⟨?_,rfl⟩;by_cases hjo:(s1.vols[j]!).org=none
   ·have e5:=o3 hjo;have e6:s1.vols[m]! = s1.vols[j]!:=em'.trans e5;exact (index_inj (s:={ s1 with bl:=s1.bl.set u.xs[q]! b }) h' hiu1 hj1 (by rw[show ({ s1 with bl:=s1.bl.set u.xs[q]! b }:St).vols=s1.vols from rfl,e6])).symm
   ·exfalso
    have e5:=o4 hjo;have e6:(s1.vols[j]!).org=some (s1.vols[m]!).vb:=by rw[em'];exact e5
    have e7:(s.vols[j]!).org=some u.vb:=by rw[<-(hK.base.same j hj).2.2.2,e6,e1]
    have hd:=hK.did j hj e7;have hd1:(s1.vols[j]!).kept=(keepRes q (s.vols[j]!)).1:=congrArg Prod.fst hd;have hd2:(s1.vols[j]!).lost=(keepRes q (s.vols[j]!)).2:=congrArg Prod.snd hd;rw[hd1] at hm;rw[hd2] at hl;unfold keepRes at hm hl
    split at hm
    ·rename_i hc
     rw[if_pos hc] at hl;rcases hc with hc|hc
     ·exact hm hc
     ·simp only at hl;rw[hc] at hl;cases hl
    ·rename_i hc
     rw[if_neg hc] at hl
     split at hm
     ·simp at hm
     ·rename_i hr
      rw[if_neg hr] at hl;cases hl
 ·have hlt:s1.holder (s1.vols[j]!) q < s1.bl.length:=by
   have:=holder_lt h' hG' (get_mem (l:=s1.vols) hj1) (k:=q) (by rw[hsz];exact hq);have hl':=h'.disk.len;simp at hl';rw[holder_bl] at this;have h2:s1.holder (s1.vols[j]!) q < s1.n:=this;omega
  show (s1.bl.set u.xs[k]! b)[s1.holder (s1.vols[j]!) q]! = _;rw[get_set_ne b hh hlt];have hne:¬(j=iu/\q=k):=by
   rintro ⟨rfl,rfl⟩;apply hh;unfold St.holder;rw[hk1,if_neg (by simp)];have:=(h'.orgOf (get_mem (l:=s1.vols) hj1)).2.2.1 hu1;have e5:s1.orgOf (s1.vols[j]!)=s1.vols[j]!:=this;rw[e5,e3]
  rw[if_neg hne];exact hK.look j hj hl q hq
theorem kept_looks{w:World}{s:St}{fr:List Nat}(h:PoolAt w s)(hG:Good s fr)(i:Nat)(v:Vol)(k:Nat)(b:Blk)(hi:i < s.vols.length)(hv:s.vols[i]! = v)(hk:k∈v.kept)(j:Nat)(hj:j < s.vols.length)(q:Nat)(hq:q < s.size (s.vols[j]!)) :
 St.look { s with bl:=s.bl.set v.xs[v.kept.idxOf k]! b } (s.vols[j]!) q=if j=i/\q=k then b else s.look (s.vols[j]!) q:=by
 have hmem:v∈s.vols:=by rw[<-hv];exact get_mem hi
 have hil:v.kept.idxOf k < v.xs.length:=Nat.lt_of_lt_of_le (idxOf_lt hk) (h.vols v hmem).room;have hy:v.xs[v.kept.idxOf k]!∈v.xs:=mem_getElem! hil;have hyl:v.xs[v.kept.idxOf k]! < s.bl.length:=by rw[h.disk.len];exact hG.lt.2 v hmem _ hy
 have ho:v.org≠none:=fun e=>by rw[(h.vols v hmem).kept_nil e] at hk;simp at hk
 unfold St.look;rw[holder_bl];by_cases hh:s.holder (s.vols[j]!) q=v.xs[v.kept.idxOf k]!
 ·rw[hh];show (s.bl.set v.xs[v.kept.idxOf k]! b)[v.xs[v.kept.idxOf k]!]! = _;rw[get_set_eq b hyl]
  suffices hs:j=i/\q=k by rw[if_pos hs]
  by_cases hm:q∈(s.vols[j]!).kept
  ·have e:s.holder (s.vols[j]!) q=(s.vols[j]!).xs[(s.vols[j]!).kept.idxOf q]!:=by unfold St.holder;rw[if_pos hm]
   have hjl:(s.vols[j]!).kept.idxOf q < (s.vols[j]!).xs.length:=Nat.lt_of_lt_of_le (idxOf_lt hm) (h.vols _ (get_mem hj)).room;have hin:v.xs[v.kept.idxOf k]!∈(s.vols[j]!).xs:=by rw[<-hh,e];exact mem_getElem! hjl
   have hji:j=i:=by
    by_cases hji:j=i
    ·exact hji
    ·exact absurd (by rw[hv];exact hy) (hG.xs_apart hj hi hji hin)
   subst hji;refine⟨rfl,?_⟩;rw[hv] at e hm hjl;rw[hv,e] at hh;have hnd:=hG.xs_nodup hmem;rw[getElem!_pos v.xs _ hjl,getElem!_pos v.xs _ hil] at hh;have hidx:=(List.getElem_inj (h₀:=hjl) (h₁:=hil) hnd).1 hh;have a:=idxOf_get hm;have c:=idxOf_get hk;rw[hidx] at a;exact a.symm.trans c
  ·exfalso
   have e:s.holder (s.vols[j]!) q=(s.orgOf (s.vols[j]!)).xs[q]!:=by unfold St.holder;rw[if_neg hm]
   obtain⟨o1,o2,o3,o4⟩:=h.orgOf (get_mem hj);obtain⟨m,hm2,em⟩:=mem_index o1;have hqm:q < (s.vols[m]!).xs.length:=by rw[em];exact hq
   have hin:v.xs[v.kept.idxOf k]!∈(s.vols[m]!).xs:=by rw[<-hh,e,<-em];exact mem_getElem! hqm
   have hmi:m≠i:=fun e2=>ho (by rw[<-hv,<-e2,em];exact o2)
   exact hG.xs_apart hm2 hi hmi hin (by rw[hv];exact hy)
 ·have hlt:s.holder (s.vols[j]!) q < s.bl.length:=by rw[h.disk.len];exact holder_lt h hG (get_mem hj) hq
  show (s.bl.set v.xs[v.kept.idxOf k]! b)[s.holder (s.vols[j]!) q]! = _;rw[get_set_ne b hh hlt,if_neg];rintro ⟨rfl,rfl⟩;apply hh;unfold St.holder;rw[hv,if_pos hk]
theorem look_new{w w':World}{s s':St}(h:PoolAt w s)(h':PoolAt w' s')(hsub:∀v∈s.vols,v∈s'.vols)(hbl:s'.bl=s.bl){u v:Vol}(hu:u∈s.vols)(hu0:u.org=none)(hv:v∈s'.vols)(ho:v.org=some u.vb)(hk:v.kept=[])(q:Nat):s'.look v q=s.look u q/\s'.size v=s.size u:=by
 have e:s'.orgOf v=u:=by unfold St.orgOf;rw[ho];exact h'.volAt (hsub u hu)
 have e2:s.orgOf u=u:=(h.orgOf hu).2.2.1 hu0;have e3:=(h.vols u hu).kept_nil hu0;refine⟨?_,?_⟩
 ·unfold St.look St.holder;rw[e,e2,hk,e3,hbl];simp
 ·unfold St.size;rw[e,e2]
theorem insVol_get(m j:Nat)(v:Vol)(l:List Vol)(hm:m<=l.length)(hj:j<=l.length):(insVol m v l)[j]! = if j < m then l[j]! else if j=m then v else l[j - 1]!:=by
 have hlen:(insVol m v l).length=l.length+1:=by unfold insVol;simp;omega
 rw[getElem!_pos _ j (by omega)];unfold insVol;by_cases h1:j < m
 ·rw[if_pos h1,List.getElem_append_left (by simp;omega),List.getElem_take,getElem!_pos l j (by omega)]
 ·rw[if_neg h1];have ht:(l.take m).length=m:=by simp;omega
  by_cases h2:j=m
  ·subst h2;rw[if_pos rfl,List.getElem_append_right (by omega)];simp[ht]
  ·rw[if_neg h2,List.getElem_append_right (by omega),getElem!_pos l (j - 1) (by omega)];obtain⟨d,rfl⟩:∃d,j=m+1+d:=⟨j - m - 1,by omega⟩
   simp only[ht,show m+1+d - m=d+1 by omega,List.getElem_cons_succ,List.getElem_drop]
   congr 1
   omega
end
section
open Go.RowKit Go.Sort
variable [DecidableEq Blk] [Inhabited Blk] [Inhabited Vol] [Inhabited RVol]
def Blk.ok(b:Blk):Prop:=∀n∈b.ints,0<=n/\n<=255
theorem Blk.zero_ok:Blk.zero.ok:=by
 intro n hn;simp[Blk.ints,Blk.zero] at hn;omega
theorem Blk.text_eq(b:Blk):b.text=⟨#[UInt8.ofNat b.b0.toNat,UInt8.ofNat b.b1.toNat,UInt8.ofNat b.b2.toNat,UInt8.ofNat b.b3.toNat,UInt8.ofNat b.b4.toNat,UInt8.ofNat b.b5.toNat,UInt8.ofNat b.b6.toNat,UInt8.ofNat b.b7.toNat]⟩:=rfl
theorem Blk.zero_text:Blk.zero.text=zero8:=rfl
theorem byte_inj{a b:Int}(ha:0<=a/\a<=255)(hb:0<=b/\b<=255)(h:UInt8.ofNat a.toNat=UInt8.ofNat b.toNat):a=b:=by
 have:=congrArg UInt8.toNat h;simp at this;omega
theorem Blk.text_inj{a b:Blk}(ha:a.ok)(hb:b.ok)(h:a.text=b.text):a=b:=by
 rw[Blk.text_eq,Blk.text_eq] at h;simp only[ByteArray.mk.injEq,Array.mk.injEq,List.cons.injEq,and_true] at h;obtain⟨h0,h1,h2,h3,h4,h5,h6,h7⟩:=h;cases a;cases b;simp only[Blk.ok,Blk.ints,List.mem_cons,List.mem_nil_iff,or_false,forall_eq_or_imp,forall_eq] at ha hb;obtain⟨a0,a1,a2,a3,a4,a5,a6,a7⟩:=ha;obtain⟨b0,b1,b2,b3,b4,b5,b6,b7⟩:=hb;rw[byte_inj a0 b0 h0,byte_inj a1 b1 h1,byte_inj a2 b2 h2,byte_inj a3 b3 h3,byte_inj a4 b4 h4,byte_inj a5 b5 h5,byte_inj a6 b6 h6,byte_inj a7 b7 h7]
structure RelV(s:St)(v:Vol)(x:RVol):Prop where
 name:x.name=v.name
 of_:x.of_=if v.org=none then ⟨#[]⟩ else (s.orgOf v).name
 size:x.data.length=s.size v
 blocks:x.blocks=v.xs
 kept:x.kept=v.kept
 lost:x.lost=v.lost
 ok:v.lost=false->∀q,q < s.size v->(s.look v q).ok
 data:v.lost=false->∀q,q < s.size v->x.data[q]! = (s.look v q).text
structure Rel(s:St)(r:RSt):Prop where
 n:r.n=s.n
 len:r.vols.length=s.vols.length
 each:∀i,i < s.vols.length->RelV s (s.vols[i]!) (r.vols[i]!)
theorem RelV.congr{s s':St}{v v':Vol}{x:RVol}(h:RelV s v x)(hn:v'.name=v.name)(ho:v'.org=none↔v.org=none)(hon:(s'.orgOf v').name=(s.orgOf v).name)(hz:s'.size v'=s.size v)(hx:v'.xs=v.xs)(hk:v'.kept=v.kept)(hl:v'.lost=v.lost)
 (hq:v'.lost=false->∀q,q < s.size v->s'.look v' q=s.look v q):RelV s' v' x where
 name:=by rw[h.name,hn]
 of_:=by rw[h.of_,hon];simp[ho]
 size:=by rw[h.size,hz]
 blocks:=by rw[h.blocks,hx]
 kept:=by rw[h.kept,hk]
 lost:=by rw[h.lost,hl]
 ok:=fun hv q hlt=>by rw[hq hv q (by omega)];exact h.ok (by rw[<-hl];exact hv) q (by omega)
 data:=fun hv q hlt=>by rw[hq hv q (by omega)];exact h.data (by rw[<-hl];exact hv) q (by omega)
theorem Rel.names{s:St}{r:RSt}(h:Rel s r):r.vols.map (·.name)=s.names:=by
 apply List.ext_getElem
 ·simp[St.names,h.len]
 ·intro i h1 h2;have hi:i < s.vols.length:=by simpa [St.names] using h2
  have hi':i < r.vols.length:=by rw[h.len];exact hi
  have e:=(h.each i hi).name;rw[getElem!_pos _ i hi',getElem!_pos _ i hi] at e;simpa [St.names] using e
theorem Rel.all{s:St}{r:RSt}(h:Rel s r):r.all=s.vols.flatMap (·.xs):=by
 unfold RSt.all;have e:r.vols.map (·.blocks)=s.vols.map (·.xs):=by
  apply List.ext_getElem
  ·simp[h.len]
  ·intro i h1 h2;have hi:i < s.vols.length:=by simpa using h2
   have hi':i < r.vols.length:=by rw[h.len];exact hi
   have e:=(h.each i hi).blocks;rw[getElem!_pos _ i hi',getElem!_pos _ i hi] at e;simpa using e
 rw[List.flatMap_def,List.flatMap_def,e]
theorem Rel.free{s:St}{r:RSt}{fr:List Nat}(h:Rel s r)(hG:Good s fr):r.freeL r.n=fr:=by
 refine sorted_ext _ _ (List.Pairwise.filter _ List.pairwise_lt_range) hG.heap.sorted fun z=>?_
 unfold RSt.freeL;rw[List.mem_filter,h.all,h.n];have hp:z∈List.range s.n↔z∈fr++s.vols.flatMap (·.xs):=hG.parts.mem_iff.symm;have hnd:=List.nodup_append.1 hG.nodup
 constructor
 ·rintro ⟨h1,h2⟩;rcases List.mem_append.1 (hp.1 h1) with h3|h3
  ·exact h3
  ·exact absurd h3 (by simpa using h2)
 ·intro hz;refine⟨hp.2 (List.mem_append.2 (Or.inl hz)),?_⟩;simp only[decide_eq_true_eq];intro h3;exact hnd.2.2 z hz z h3 rfl
theorem find_index{l:List RVol}(t:ByteArray)(i:Nat)(hi:i < l.length)(hn:(l[i]!).name=t)(hd:∀j,j < i->(l[j]!).name≠t):l.find? (fun v=>decide (v.name=t))=some l[i]!:=by
 have e:l=l.take i++l[i]! :: l.drop (i+1):=by rw[getElem!_pos l i hi,<-List.drop_eq_getElem_cons hi,List.take_append_drop]
 conv=>lhs;rw[e]
 rw[List.find?_append];have:(l.take i).find? (fun v=>decide (v.name=t))=none:=by
  rw[List.find?_eq_none];intro v hv;obtain⟨j,hj,rfl⟩:=List.getElem_of_mem hv;have hj':j < i:=by simp at hj;omega
  have:=hd j hj';rw[getElem!_pos l j (by omega)] at this;simpa using this
 rw[this,Option.none_or];exact List.find?_cons_of_pos (p:=fun v:RVol=>decide (v.name=t)) (decide_eq_true hn)
theorem names_ne{w:World}{s:St}(h:PoolAt w s){i j:Nat}(hi:i < s.vols.length)(hj:j < s.vols.length)(hne:i≠j):(s.vols[i]!).name≠(s.vols[j]!).name:=fun e=>by
 have hs:=h.sorted;rw[List.pairwise_iff_getElem] at hs;rw[getElem!_pos s.vols i hi,getElem!_pos s.vols j hj] at e;rcases Nat.lt_or_ge i j with hl|hl
 ·have:=hs i j hi hj hl;rw[e,cmpB_self] at this;omega
 ·have:=hs j i hj hi (by omega);rw[e,cmpB_self] at this;omega
theorem Rel.at_has{w:World}{s:St}{r:RSt}(h:Rel s r)(hP:PoolAt w s){t:ByteArray}(ht:s.has t=true):r.at? t=some (r.vols[posOf s.names t]!):=by
 obtain⟨h1,h2,h3⟩:=St.has_mem ht;refine find_index t _ (by rw[h.len];exact h3) ?_ fun j hj=>?_
 ·rw[(h.each _ h3).name];exact h2
 ·rw[(h.each j (by omega)).name];intro e;exact names_ne hP (by omega) h3 (by omega:j≠posOf s.names t) (e.trans h2.symm)
theorem Rel.at_not{w:World}{s:St}{r:RSt}(h:Rel s r)(hP:PoolAt w s){t:ByteArray}(ht:s.has t=false):r.at? t=none:=by
 unfold RSt.at?;rw[List.find?_eq_none];intro v hv hn;have hn':v.name=t:=by simpa using hn
 have:t∈s.names:=by rw[<-h.names,<-hn'];exact List.mem_map_of_mem hv
 have:=(isIn_iff hP.names_sorted t).2 this;unfold St.has at ht;rw[this] at ht;cases ht
theorem Rel.vol{s:St}{r:RSt}(h:Rel s r){t:ByteArray}(ht:s.has t=true):RelV s (s.vol t) (r.vols[posOf s.names t]!):=h.each _ (St.has_mem ht).2.2
theorem filter_len{α β:Type}(p:α->Bool)(q:β->Bool):∀(a:List α) (b:List β),a.length=b.length->(∀i (h1:i < a.length) (h2:i < b.length),p a[i]=q b[i])->(a.filter p).length=(b.filter q).length
 | [],[],_,_=>rfl
 | [],_ :: _,h,_=>by simp at h
 | _ :: _,[],h,_=>by simp at h
 | x :: a,y :: b,h,e=>by
  have ih:=filter_len p q a b (by simpa using h) (fun i h1 h2=>e (i+1) (by simpa using h1) (by simpa using h2));have e0:p x=q y:=e 0 (by simp) (by simp);rw[List.filter_cons,List.filter_cons,e0]
  split<;>simp[ih]
theorem name_ne_nil{s:St}{fr:List Nat}(hG:Good s fr){v:Vol}(hv:v∈s.vols):v.name≠⟨#[]⟩:=fun e=>by
 have:=hG.names v hv;rw[e] at this;simp[nameB] at this;exact absurd this.1 (by decide)
theorem Rel.pics{w:World}{s:St}{r:RSt}{fr:List Nat}(h:Rel s r)(hP:PoolAt w s)(hG:Good s fr){u:Vol}(hu:u∈s.vols):r.pics u.name r.vols.length=(s.picsOf u.vb).length:=by
 unfold RSt.pics St.picsOf;rw[List.take_length];refine filter_len _ _ _ _ h.len fun i h1 h2=>?_
 have e:=(h.each i h2).of_;rw[getElem!_pos _ i h1,getElem!_pos _ i h2] at e;have hm:s.vols[i]∈s.vols:=List.getElem_mem h2;rw[e];obtain⟨o1,o2,o3,o4⟩:=hP.orgOf hm;by_cases ho:(s.vols[i]).org=none
 ·rw[if_pos ho,ho];have:¬((⟨#[]⟩:ByteArray)=u.name):=fun e=>name_ne_nil hG hu e.symm
  simp[this]
 ·rw[if_neg ho];have e4:=o4 ho;rw[e4];by_cases hq:s.orgOf s.vols[i]=u
  ·rw[hq];simp
  ·have hne:¬(s.orgOf s.vols[i]).vb=u.vb:=fun e=>hq (hP.vb_inj o1 hu e)
   have hnn:¬(s.orgOf s.vols[i]).name=u.name:=fun e=>by
    obtain⟨a,ha,ea⟩:=mem_index o1;obtain⟨b,hb,eb⟩:=mem_index hu;by_cases hab:a=b
    ·subst hab;exact hq (ea.symm.trans eb)
    ·exact names_ne hP ha hb hab (by rw[ea,eb];exact e)
   simp[hne,hnn]
theorem insL_get{α:Type}[Inhabited α](m j:Nat)(v:α)(l:List α)(hm:m<=l.length)(hj:j<=l.length):(l.take m++v :: l.drop m)[j]! = if j < m then l[j]! else if j=m then v else l[j - 1]!:=by
 have hlen:(l.take m++v :: l.drop m).length=l.length+1:=by simp;omega
 rw[getElem!_pos _ j (by omega)];by_cases h1:j < m
 ·rw[if_pos h1,List.getElem_append_left (by simp;omega),List.getElem_take,getElem!_pos l j (by omega)]
 ·rw[if_neg h1];have ht:(l.take m).length=m:=by simp;omega
  by_cases h2:j=m
  ·subst h2;rw[if_pos rfl,List.getElem_append_right (by omega)];simp[ht]
  ·rw[if_neg h2,List.getElem_append_right (by omega),getElem!_pos l (j - 1) (by omega)];obtain⟨d,rfl⟩:∃d,j=m+1+d:=⟨j - m - 1,by omega⟩
   simp only[ht,show m+1+d - m=d+1 by omega,List.getElem_cons_succ,List.getElem_drop]
   congr 1
   omega
theorem delL_get{α:Type}[Inhabited α](i j:Nat)(l:List α)(hi:i < l.length)(hj:j < l.length - 1):(l.take i++l.drop (i+1))[j]! = if j < i then l[j]! else l[j+1]!:=by
 have hlen:(l.take i++l.drop (i+1)).length=l.length - 1:=by simp;omega
 rw[getElem!_pos _ j (by omega)];by_cases h1:j < i
 ·rw[if_pos h1,List.getElem_append_left (by simp;omega),List.getElem_take,getElem!_pos l j (by omega)]
 ·rw[if_neg h1];have ht:(l.take i).length=i:=by simp;omega
  rw[List.getElem_append_right (by omega),getElem!_pos l (j+1) (by omega)];simp only[ht,List.getElem_drop]
  congr 1
  omega
def delR(i:Nat)(l:List RVol):List RVol:=l.take i++l.drop (i+1)
theorem orgOf_other{w w':World}{s s':St}(h:PoolAt w s)(h':PoolAt w' s'){u:Vol}(hu:u∈s.vols)(hz:u.org≠none->s.orgOf u∈s'.vols):s'.orgOf u=s.orgOf u:=by
 obtain⟨o1,o2,o3,o4⟩:=h.orgOf hu;cases ho:u.org with
 | none=>rw[o3 ho];unfold St.orgOf;rw[ho]
 | some b=>
  have e:=o4 (by rw[ho];simp);rw[ho] at e;have e2:b=(s.orgOf u).vb:=by simpa using e
  have:=h'.volAt (hz (by rw[ho];simp));rw[<-e2] at this;rw[<-this]
  conv=>lhs;unfold St.orgOf
  rw[ho]
theorem RelV.keep{w w':World}{s s':St}{u:Vol}{x:RVol}(hr:RelV s u x)(h:PoolAt w s)(h':PoolAt w' s')(hu:u∈s.vols)(hz:u.org≠none->s.orgOf u∈s'.vols)(hq:u.lost=false->∀q,q < s.size u->s'.bl[s.holder u q]! = s.bl[s.holder u q]!):RelV s' u x:=by
 have e:=orgOf_other h h' hu hz;refine hr.congr rfl Iff.rfl (by rw[e]) (by unfold St.size;rw[e]) rfl rfl rfl fun hl q hlt=>?_
 have:=hq hl q hlt;unfold St.look;rw[<-this]
 congr 1
 unfold St.holder;rw[e]
theorem rel_ins{w w':World}{s s':St}{r:RSt}{p:Nat}{v0:Vol}{x0:RVol}(h:Rel s r)(hP:PoolAt w s)(h':PoolAt w' s')(hv:s'.vols=insVol p v0 s.vols)(hbl:s'.bl=s.bl)(hn:s'.n=s.n)(hp:p<=s.vols.length)(hx:RelV s' v0 x0)(lg:Option Nat):Rel s' { r with lg:=lg,vols:=insR p x0 r.vols }:=by
 have hl:=h.len;have old:∀j,j < s.vols.length->RelV s' (s.vols[j]!) (r.vols[j]!):=fun j hj=>
  (h.each j hj).keep hP h' (get_mem hj) (fun _=>by rw[hv];exact insVol_mem.2 (Or.inr (hP.orgOf (get_mem hj)).1)) (fun _ q _=>by rw[hbl])
 refine⟨h.n.trans hn.symm,?_,fun i hi=>?_⟩
 ·rw[hv];simp[insR,insVol];omega
 ·have hlen:s'.vols.length=s.vols.length+1:=by rw[hv];simp[insVol];omega
  show RelV s' (s'.vols[i]!) ((insR p x0 r.vols)[i]!);rw[hv,insVol_get p i v0 s.vols hp (by omega)];unfold insR;rw[insL_get p i x0 r.vols (by omega) (by omega)];by_cases h1:i < p
  ·rw[if_pos h1,if_pos h1];exact old i (by omega)
  ·rw[if_neg h1,if_neg h1];by_cases h2:i=p
   ·rw[if_pos h2,if_pos h2];exact hx
   ·rw[if_neg h2,if_neg h2];exact old (i - 1) (by omega)
theorem rel_del{s s':St}{r:RSt}{i:Nat}(rv:List RVol)(hlen:rv.length=s.vols.length)(hi:i < s.vols.length)(hv:s'.vols=delVol i s.vols)(hn:r.n=s'.n)(hx:∀j,j < s.vols.length->j≠i->RelV s' (s.vols[j]!) (rv[j]!))(lg:Option Nat):Rel s' { r with lg:=lg,vols:=delR i rv }:=by
 have hl':s'.vols.length=s.vols.length - 1:=by rw[hv];exact delVol_length i _ hi
 refine⟨hn,?_,fun j hj=>?_⟩
 ·show (delR i rv).length=_;rw[hl'];simp[delR];omega
 ·show RelV s' (s'.vols[j]!) ((delR i rv)[j]!);rw[hv];unfold delVol delR;rw[delL_get i j s.vols hi (by omega),delL_get i j rv (by omega) (by omega)];by_cases h1:j < i
  ·rw[if_pos h1,if_pos h1];exact hx j (by omega) (by omega)
  ·rw[if_neg h1,if_neg h1];exact hx (j+1) (by omega) (by omega)
theorem filter_all{α:Type}(p:α->Bool):∀(l:List α),(∀x∈l,p x=true)->l.filter p=l:=fun l h=>List.filter_eq_self.2 h
theorem without_eq{w:World}{s:St}{r:RSt}(h:Rel s r)(hP:PoolAt w s){t:ByteArray}(ht:s.has t=true)(rv:List RVol)(hlen:rv.length=s.vols.length)(hnm:∀j,j < s.vols.length->(rv[j]!).name=(s.vols[j]!).name)(rb:Nat)(lg:Option Nat)(n:Nat) :
 RSt.without ⟨rb,lg,n,rv⟩ t rv.length=delR (posOf s.names t) rv:=by
 obtain⟨h1,h2,h3⟩:=St.has_mem ht;have hi:posOf s.names t < rv.length:=by omega
 have hne:∀j,j < rv.length->j≠posOf s.names t->¬(rv[j]!).name=t:=fun j hj hjne e=>by
  rw[hnm j (by omega)] at e;exact names_ne hP (by omega) h3 hjne (e.trans h2.symm)
 have hself:(rv[posOf s.names t]!).name=t:=by rw[hnm _ h3];exact h2
 generalize posOf s.names t=i at *;unfold RSt.without delR;show (rv.take rv.length).filter _=_;rw[List.take_length];have e:rv=rv.take i++rv[i]! :: rv.drop (i+1):=by rw[getElem!_pos rv i hi,<-List.drop_eq_getElem_cons hi,List.take_append_drop]
 conv=>lhs;rw[e]
 rw[List.filter_append,List.filter_cons,if_neg (by rw[decide_eq_true_eq];exact fun hc=>hc hself)]
 congr 1
 ·refine filter_all _ _ fun v hv=>?_
  obtain⟨j,hj,rfl⟩:=List.getElem_of_mem hv;have hj':j < i:=by simp at hj;omega
  have:=hne j (by omega) (by omega);rw[getElem!_pos rv j (by omega)] at this;simpa using this
 ·refine filter_all _ _ fun v hv=>?_
  obtain⟨j,hj,rfl⟩:=List.getElem_of_mem hv;have hj':i+1+j < rv.length:=by simp at hj;omega
  have:=hne (i+1+j) hj' (by omega);rw[getElem!_pos rv _ hj'] at this;simpa using this
theorem del_index{s:St}{i:Nat}(hi:i < s.vols.length){z:Vol}(hz:z∈delVol i s.vols):∃j,j < s.vols.length/\j≠i/\s.vols[j]! = z:=by
 obtain⟨k,hk,e⟩:=mem_index hz;rw[delVol_length i _ hi] at hk;unfold delVol at e;rw[delL_get i k s.vols hi hk] at e;by_cases h1:k < i
 ·rw[if_pos h1] at e;exact⟨k,by omega,by omega,e⟩
 ·rw[if_neg h1] at e;exact⟨k+1,by omega,by omega,e⟩
theorem del_mem{w:World}{s:St}(h:PoolAt w s){i j:Nat}(hi:i < s.vols.length)(hj:j < s.vols.length)(hne:j≠i):s.vols[j]!∈delVol i s.vols:=by
 rcases delVol_mem hi (get_mem hj) with e|e
 ·exact absurd (congrArg Vol.name e) (names_ne h hj hi hne)
 ·exact e
theorem holder_in{w:World}{s:St}(h:PoolAt w s){v:Vol}(hv:v∈s.vols){k:Nat}(hk:k < s.size v):s.holder v k∈v.xs\/s.holder v k∈(s.orgOf v).xs:=by
 unfold St.holder
 split
 ·rename_i hm
  refine Or.inl (mem_getElem! ?_);have:=List.idxOf_lt_length_iff.2 hm;have:=(h.vols v hv).room;omega
 ·exact Or.inr (mem_getElem! hk)
theorem rel_rest{w w':World}{s s':St}{r:RSt}{fr:List Nat}{i:Nat}(h:Rel s r)(hP:PoolAt w s)(hG:Good s fr)(h':PoolAt w' s')(hi:i < s.vols.length)(hv:s'.vols=delVol i s.vols)(hbl:s'.bl=giveB (s.vols[i]!).xs s.bl)(hno:s.picsOf (s.vols[i]!).vb=[])(j:Nat)(hj:j < s.vols.length)(hne:j≠i):RelV s' (s.vols[j]!) (r.vols[j]!):=by
 have hm:=get_mem hj;obtain⟨o1,o2,o3,o4⟩:=hP.orgOf hm;have ho:s.orgOf (s.vols[j]!)≠s.vols[i]!:=fun e=>by
  by_cases hq:(s.vols[j]!).org=none
  ·rw[o3 hq] at e;exact names_ne hP hj hi hne (congrArg Vol.name e)
  ·have e4:=o4 hq;rw[e] at e4;have:s.vols[j]!∈s.picsOf (s.vols[i]!).vb:=picsOf_mem.2 ⟨hm,e4⟩;rw[hno] at this;simp at this
 obtain⟨jo,hjo,ejo⟩:=mem_index o1;have hjne:jo≠i:=fun e=>ho (by rw[<-e];exact ejo.symm)
 refine (h.each j hj).keep hP h' hm (fun _=>?_) fun _ q hq=>?_
 ·rw[hv,<-ejo];exact del_mem hP hi hjo hjne
 ·have hlt:=holder_lt hP hG hm hq;rw[hbl,giveB_get _ _ _ (by rw[hP.disk.len];exact hlt),if_neg];rcases holder_in hP hm hq with e|e
  ·exact hG.xs_apart hj hi hne e
  ·rw[<-ejo] at e;exact hG.xs_apart hjo hi hjne e
theorem get_replicate{α:Type}[Inhabited α](n q:Nat)(a:α)(h:q < n):(List.replicate n a)[q]! = a:=by
 rw[getElem!_pos _ q (by simpa using h)];simp
theorem relV_new{w:World}{s s':St}{fr:List Nat}{v0:Vol}{x0:RVol}(hG:Good s fr)(hbl:s'.bl=s.bl){k:Nat}(hk:k<=fr.length)(hxs:v0.xs=fr.take k)(ho:v0.org=none)(hkp:v0.kept=[])(hl:v0.lost=false)
 (h1:x0.name=v0.name) (h2:x0.of_=⟨#[]⟩) (h3:x0.data=List.replicate k zero8) (h4:x0.blocks=fr.take k) (h5:x0.kept=[]) (h6:x0.lost=false):RelV s' v0 x0:=by
 have e:s'.orgOf v0=v0:=by unfold St.orgOf;rw[ho]
 have hsz:s'.size v0=k:=by unfold St.size;rw[e,hxs,List.length_take];omega
 have hlook:∀q,q < k->s'.look v0 q=Blk.zero:=fun q hq=>by
  unfold St.look St.holder;rw[e,hkp,if_neg (by simp),hbl];refine hG.zero _ ?_;rw[hxs];exact List.mem_of_mem_take (mem_getElem! (by rw[List.length_take];omega))
 refine⟨h1,by rw[h2,if_pos ho],by rw[h3,hsz];simp,by rw[h4,hxs],by rw[h5,hkp],by rw[h6,hl],fun _ q hq=>?_,fun _ q hq=>?_⟩
 ·rw[hlook q (by omega)];exact Blk.zero_ok
 ·rw[hlook q (by omega),h3,get_replicate _ _ _ (by omega),Blk.zero_text]
theorem relV_picture{w w':World}{s s':St}{v0 u:Vol}{x0 xu:RVol}(hP:PoolAt w s)(h':PoolAt w' s')(hsub:∀v∈s.vols,v∈s'.vols)(hbl:s'.bl=s.bl)(hu:u∈s.vols)(hu0:u.org=none)(hru:RelV s u xu)(hv0:v0∈s'.vols)(ho:v0.org=some u.vb)(hkp:v0.kept=[])(hl:v0.lost=false)
 (h1:x0.name=v0.name) (h2:x0.of_=u.name) (h3:x0.data=xu.data) (h4:x0.blocks=v0.xs) (h5:x0.kept=[]) (h6:x0.lost=false):RelV s' v0 x0:=by
 have hul:u.lost=false:=((hP.vols u hu).plain hu0).2;have e:s'.orgOf v0=u:=by unfold St.orgOf;rw[ho];exact h'.volAt (hsub u hu)
 have hn:=look_new hP h' hsub hbl hu hu0 hv0 ho hkp;have hsz:=(hn 0).2;refine⟨h1,by rw[h2,if_neg (by rw[ho];simp),e],by rw[h3,hsz];exact hru.size,h4,by rw[h5,hkp],by rw[h6,hl],fun _ q hq=>?_,fun _ q hq=>?_⟩
 ·rw[(hn q).1];exact hru.ok hul q (by omega)
 ·rw[(hn q).1,h3];exact hru.data hul q (by omega)
theorem rel_others{w w':World}{s s':St}{r:RSt}{i:Nat}{v':Vol}(h:Rel s r)(hP:PoolAt w s)(h':PoolAt w' s')(hi:i < s.vols.length)(hv:s'.vols=setVol i v' s.vols)(hno:s.picsOf (s.vols[i]!).vb=[])
 (hb:∀j,j < s.vols.length->j≠i->∀q∈(s.vols[j]!).xs,s'.bl[q]! = s.bl[q]!) (j:Nat) (hj:j < s.vols.length) (hne:j≠i):RelV s' (s.vols[j]!) (r.vols[j]!):=by
 have hm:=get_mem hj;obtain⟨o1,o2,o3,o4⟩:=hP.orgOf hm;have ho:s.orgOf (s.vols[j]!)≠s.vols[i]!:=fun e=>by
  by_cases hq:(s.vols[j]!).org=none
  ·rw[o3 hq] at e;exact names_ne hP hj hi hne (congrArg Vol.name e)
  ·have e4:=o4 hq;rw[e] at e4;have:s.vols[j]!∈s.picsOf (s.vols[i]!).vb:=picsOf_mem.2 ⟨hm,e4⟩;rw[hno] at this;simp at this
 obtain⟨jo,hjo,ejo⟩:=mem_index o1;have hjne:jo≠i:=fun e=>ho (by rw[<-e];exact ejo.symm)
 refine (h.each j hj).keep hP h' hm (fun _=>?_) fun _ q hq=>?_
 ·rw[hv,<-ejo];exact setVol_mem.2 (Or.inr (del_mem hP hi hjo hjne))
 ·rcases holder_in hP hm hq with e|e
  ·exact hb j hj hne _ e
  ·rw[<-ejo] at e;exact hb jo hjo hjne _ e
theorem setL_get{α:Type}[Inhabited α](l:List α)(i j:Nat)(v:α)(hi:i < l.length)(hj:j < l.length):(l.set i v)[j]! = if j=i then v else l[j]!:=by
 rw[getElem!_pos _ j (by simpa using hj),List.getElem_set];by_cases h:i=j
 ·subst h;simp
 ·rw[if_neg h,if_neg (fun e=>h e.symm),getElem!_pos l j hj]
theorem rel_set{s s':St}{r:RSt}{i:Nat}{v':Vol}{x':RVol}(h:Rel s r)(hi:i < s.vols.length)(hv:s'.vols=setVol i v' s.vols)(hn:s'.n=s.n)(hx:RelV s' v' x')(ho:∀j,j < s.vols.length->j≠i->RelV s' (s.vols[j]!) (r.vols[j]!)):Rel s' { r with vols:=r.vols.set i x' }:=by
 refine⟨h.n.trans hn.symm,?_,fun j hj=>?_⟩
 ·show (r.vols.set i x').length=_;rw[hv,setVol_length i v' s.vols hi,List.length_set];exact h.len
 ·have hj':j < s.vols.length:=by rw[hv,setVol_length i v' s.vols hi] at hj;exact hj
  show RelV s' (s'.vols[j]!) ((r.vols.set i x')[j]!);rw[hv,setVol_get i j v' s.vols hi hj',setL_get _ _ _ _ (by rw[h.len];exact hi) (by rw[h.len];exact hj')];by_cases e:j=i
  ·rw[if_pos e,if_pos e];exact hx
  ·rw[if_neg e,if_neg e];exact ho j hj' e
theorem take_get{α:Type}[Inhabited α](l:List α)(k q:Nat)(h:q < k)(hl:q < l.length):(l.take k)[q]! = l[q]!:=by
 rw[getElem!_pos _ q (by simp;omega),getElem!_pos l q hl];simp
theorem app_get_left{α:Type}[Inhabited α](a b:List α)(q:Nat)(h:q < a.length):(a++b)[q]! = a[q]!:=by
 rw[getElem!_pos _ q (by simp;omega),getElem!_pos a q h,List.getElem_append_left h]
theorem app_get_right{α:Type}[Inhabited α](a b:List α)(q:Nat)(h:a.length<=q)(hb:q < a.length+b.length):(a++b)[q]! = b[q - a.length]!:=by
 rw[getElem!_pos _ q (by simp;omega),getElem!_pos b _ (by omega),List.getElem_append_right h]
theorem relV_cut{w:World}{s s':St}{fr:List Nat}{v v':Vol}{x x':RVol}{k:Nat}(hP:PoolAt w s)(hG:Good s fr)(hv:v∈s.vols)(hr:RelV s v x)(ho:v.org=none)(hk:k<=v.xs.length)(hbl:s'.bl=giveB (v.xs.drop k) s.bl)(hv':v'={ v with xs:=v.xs.take k })(hn:v.xs.Nodup)
 (h1:x'.name=x.name) (h2:x'.of_=x.of_) (h3:x'.data=x.data.take k) (h4:x'.blocks=x.blocks.take k) (h5:x'.kept=x.kept) (h6:x'.lost=x.lost):RelV s' v' x':=by
 have e0:s.orgOf v=v:=(hP.orgOf hv).2.2.1 ho;have hsz0:s.size v=v.xs.length:=by unfold St.size;rw[e0]
 have hkn:=(hP.vols v hv).kept_nil ho;have hl:=((hP.vols v hv).plain ho).2;have ho':v'.org=none:=by rw[hv'];exact ho
 have hx':v'.xs=v.xs.take k:=by rw[hv']
 have hk':v'.kept=[]:=by rw[hv'];exact hkn
 have e:s'.orgOf v'=v':=by unfold St.orgOf;rw[ho']
 have hsz:s'.size v'=k:=by unfold St.size;rw[e,hx',List.length_take];omega
 have hlook:∀q,q < k->s'.look v' q=s.look v q:=fun q hq=>by
  unfold St.look St.holder;rw[e,e0,hk',hkn,if_neg (by simp),if_neg (by simp),hx',take_get _ _ _ hq (by omega),hbl];have hm:v.xs[q]!∈v.xs:=mem_getElem! (by omega);rw[giveB_get _ _ _ (by rw[hP.disk.len];exact hG.lt.2 v hv _ hm),if_neg];intro hd;rw[<-List.take_append_drop k v.xs,List.nodup_append] at hn;refine hn.2.2 v.xs[q]! ?_ _ hd rfl;rw[<-take_get v.xs k q hq (by omega)];exact mem_getElem! (by rw[List.length_take];omega)
 have hd0:=hr.size;refine⟨by rw[h1,hr.name,hv'],by rw[h2,hr.of_,if_pos ho,if_pos ho'],by rw[h3,hsz,List.length_take];omega,by rw[h4,hr.blocks,hx'],by rw[h5,hr.kept,hv'],by rw[h6,hr.lost,hv'],fun _ q hq=>?_,fun _ q hq=>?_⟩
 ·rw[hlook q (by omega)];exact hr.ok hl q (by omega)
 ·rw[hlook q (by omega),h3,take_get _ _ _ (by omega) (by omega)];exact hr.data hl q (by omega)
theorem relV_grow{w:World}{s s':St}{fr:List Nat}{v v':Vol}{x x':RVol}{m g:Nat}(hP:PoolAt w s)(hG:Good s fr)(hv:v∈s.vols)(hr:RelV s v x)(ho:v.org=none)(hm:m<=fr.length)(hbl:s'.bl=s.bl)(hv':v'={ v with gb:=g,xs:=v.xs++fr.take m })
 (h1:x'.name=x.name) (h2:x'.of_=x.of_) (h3:x'.data=x.data++List.replicate m zero8) (h4:x'.blocks=x.blocks++fr.take m) (h5:x'.kept=x.kept) (h6:x'.lost=x.lost):RelV s' v' x':=by
 have e0:s.orgOf v=v:=(hP.orgOf hv).2.2.1 ho;have hsz0:s.size v=v.xs.length:=by unfold St.size;rw[e0]
 have hkn:=(hP.vols v hv).kept_nil ho;have hl:=((hP.vols v hv).plain ho).2;have ho':v'.org=none:=by rw[hv'];exact ho
 have hx':v'.xs=v.xs++fr.take m:=by rw[hv']
 have hk':v'.kept=[]:=by rw[hv'];exact hkn
 have e:s'.orgOf v'=v':=by unfold St.orgOf;rw[ho']
 have hft:(fr.take m).length=m:=by rw[List.length_take];omega
 have hsz:s'.size v'=v.xs.length+m:=by unfold St.size;rw[e,hx',List.length_append,hft]
 have hd0:=hr.size;have hlook:∀q,q < v.xs.length->s'.look v' q=s.look v q:=fun q hq=>by
  unfold St.look St.holder;rw[e,e0,hk',hkn,if_neg (by simp),if_neg (by simp),hx',app_get_left _ _ _ hq,hbl]
 have hlook2:∀q,v.xs.length<=q->q < v.xs.length+m->s'.look v' q=Blk.zero:=fun q hq1 hq2=>by
  unfold St.look St.holder;rw[e,hk',if_neg (by simp),hx',app_get_right _ _ _ hq1 (by omega),hbl];exact hG.zero _ (List.mem_of_mem_take (mem_getElem! (by omega)))
 refine⟨by rw[h1,hr.name,hv'],by rw[h2,hr.of_,if_pos ho,if_pos ho'],by rw[h3,hsz,List.length_append,List.length_replicate];omega,by rw[h4,hr.blocks,hx'],by rw[h5,hr.kept,hv'],by rw[h6,hr.lost,hv'],fun _ q hq=>?_,fun _ q hq=>?_⟩
 ·by_cases hq1:q < v.xs.length
  ·rw[hlook q hq1];exact hr.ok hl q (by omega)
  ·rw[hlook2 q (by omega) (by omega)];exact Blk.zero_ok
 ·by_cases hq1:q < v.xs.length
  ·rw[hlook q hq1,h3,app_get_left _ _ _ (by omega)];exact hr.data hl q (by omega)
  ·rw[hlook2 q (by omega) (by omega),h3,app_get_right _ _ _ (by omega) (by rw[List.length_replicate];omega),get_replicate _ _ _ (by omega),Blk.zero_text]
end
section
open Go.RowKit Go.Sort
variable [DecidableEq Blk] [Inhabited Blk] [Inhabited Vol]
theorem remove_none(s:St)(t:ByteArray)(w:World)(h:PoolAt w s)(hi:s.has t=false) :
 Calls Tryz.prog 55 #[.pointer (some ⟨s.pb,0,none⟩),.string t] w fun e w'=>e=.returned (.int .i64 4)/\w'=w:=by
 have hf:=find_not s t w h hi;clear h
 go_enter Tryz.func55,Tryz.ntmps55
 go_wp2_with (go_at_call 77;refine hf.mono ?_;rintro e w' ⟨rfl,rfl⟩)
 go_ret
 exact⟨rfl,rfl⟩
theorem remove_busy(s:St)(t:ByteArray)(w:World)(h:PoolAt w s)(hi:s.has t=true)(hb:s.picsOf (s.vol t).vb≠[]) :
 Calls Tryz.prog 55 #[.pointer (some ⟨s.pb,0,none⟩),.string t] w fun e w'=>e=.returned (.int .i64 8)/\Same [] w w':=by
 have hf:=find_has s t w h hi;have hP:=picturesOf_calls s (s.vol t) w h (St.has_mem hi).1;have hl:0 < (s.picsOf (s.vol t).vb).length:=by cases hq:s.picsOf (s.vol t).vb<;>simp_all
 have hl2:(s.picsOf (s.vol t).vb).length<=20:=Nat.le_trans (List.length_filter_le _ _) h.few;clear h
 go_enter Tryz.func55,Tryz.ntmps55
 go_wp2_with (first|(go_at_call 77;refine hf.mono ?_;rintro e w' ⟨rfl,rfl⟩)|(go_at_call 93;refine hP.mono ?_;rintro e w1 ⟨sl,rfl,hown,S1⟩;obtain⟨ag,acap,rfl⟩:=owns_form hown))
 go_ret
 exact⟨rfl,S1⟩
theorem remove_ok(s:St)(fr:List Nat)(t:ByteArray)(w:World)(h:PoolAt w s)(hG:Good s fr)(hi:s.has t=true)(hb:s.picsOf (s.vol t).vb=[]) :
 Calls Tryz.prog 55 #[.pointer (some ⟨s.pb,0,none⟩),.string t] w fun e w'=>e=.returned (.int .i64 0) /\
  ∃g,After w s w' { s with m:=s.m+(s.vol t).xs.length,bl:=giveB (s.vol t).xs s.bl,d:=giveD s.m (s.vol t).xs s.d,ab:=some g,vols:=delVol (posOf s.names t) s.vols } (insAll (s.vol t).xs fr):=by
 have hf:=find_has s t w h hi;have hP:=picturesOf_calls s (s.vol t) w h (St.has_mem hi).1;rw[hb] at hP;have hno:∀u∈s.vols,u.org≠some (s.vol t).vb:=fun u hu e=>by
  have:u∈s.picsOf (s.vol t).vb:=by simp[St.picsOf,hu,e]
  rw[hb] at this;simp at this
 have hD:=fun W (hW:Same [] w W)=>drop_ok s fr t W (h.new hW) hG hi hno
 clear h hG
 go_enter Tryz.func55,Tryz.ntmps55
 go_wp2_with (first|(go_at_call 77;refine hf.mono ?_;rintro e w' ⟨rfl,rfl⟩)|(go_at_call 93;refine hP.mono ?_;rintro e w1 ⟨sl,rfl,hown,S1⟩;obtain⟨ag,acap,rfl⟩:=owns_form hown)|(go_at_call 100;refine (hD _ S1).mono ?_;rintro e w3 ⟨rfl,g,hA⟩))
 have hFin:=hA.old S1;clear hA hD hown
 go_ret
 exact⟨rfl,g,hFin⟩
theorem revert_none(s:St)(t:ByteArray)(w:World)(h:PoolAt w s)(hi:s.has t=false) :
 Calls Tryz.prog 59 #[.pointer (some ⟨s.pb,0,none⟩),.string t] w fun e w'=>e=.returned (.int .i64 4)/\w'=w:=by
 have hf:=find_not s t w h hi;clear h
 go_enter Tryz.func59,Tryz.ntmps59
 go_wp2_with (go_at_call 77;refine hf.mono ?_;rintro e w' ⟨rfl,rfl⟩)
 go_ret
 exact⟨rfl,rfl⟩
theorem revert_vol(s:St)(t:ByteArray)(w:World)(h:PoolAt w s)(hi:s.has t=true)(ho:(s.vol t).org=none) :
 Calls Tryz.prog 59 #[.pointer (some ⟨s.pb,0,none⟩),.string t] w fun e w'=>e=.returned (.int .i64 7)/\w'=w:=by
 have hf:=find_has s t w h hi;have hI:=isPicture_calls (s.vol t) w (h.vols _ (St.has_mem hi).1);rw[ho] at hI;have hnot:=runNot;clear h
 go_enter Tryz.func59,Tryz.ntmps59
 go_wp2_with (first|(go_at_call 77;refine hf.mono ?_;rintro e w' ⟨rfl,rfl⟩)|(go_at_call 88;refine hI.mono ?_;rintro e w' ⟨rfl,rfl⟩))
 go_ret
 exact⟨rfl,rfl⟩
theorem revert_lost(s:St)(t:ByteArray)(w:World)(h:PoolAt w s)(hi:s.has t=true)(ho:(s.vol t).org≠none)(hl:(s.vol t).lost=true) :
 Calls Tryz.prog 59 #[.pointer (some ⟨s.pb,0,none⟩),.string t] w fun e w'=>e=.returned (.int .i64 9)/\w'=w:=by
 have hf:=find_has s t w h hi;have hI:=isPicture_calls (s.vol t) w (h.vols _ (St.has_mem hi).1);have ho':(s.vol t).org.isSome=true:=by cases hq:(s.vol t).org<;>simp_all
 rw[ho'] at hI;have c4:=lost_cell h (St.has_mem hi).1;rw[hl] at c4;have hnot:=runNot;clear h
 go_enter Tryz.func59,Tryz.ntmps59
 go_wp2_with (first|(go_at_call 77;refine hf.mono ?_;rintro e w' ⟨rfl,rfl⟩)|(go_at_call 88;refine hI.mono ?_;rintro e w' ⟨rfl,rfl⟩))
 go_ret
 exact⟨rfl,rfl⟩
theorem revert_busy(s:St)(t:ByteArray)(w:World)(h:PoolAt w s)(hi:s.has t=true)(ho:(s.vol t).org≠none)(hl:(s.vol t).lost=false)(hb:1 < (s.picsOf (s.orgOf (s.vol t)).vb).length) :
 Calls Tryz.prog 59 #[.pointer (some ⟨s.pb,0,none⟩),.string t] w fun e w'=>e=.returned (.int .i64 8)/\Same [] w w':=by
 have hf:=find_has s t w h hi;have hmem:=(St.has_mem hi).1;have hI:=isPicture_calls (s.vol t) w (h.vols _ hmem);have ho':(s.vol t).org.isSome=true:=by cases hq:(s.vol t).org<;>simp_all
 rw[ho'] at hI;have c4:=lost_cell h hmem;rw[hl] at c4;obtain⟨o1,o2,o3,o4⟩:=h.orgOf hmem;obtain⟨_,_,_,hvo,_,_⟩:=(h.vols _ hmem).vol;have c2:w.cell? ⟨(s.vol t).vb,2,none⟩=some (.pointer (adr (s.vol t).org)):=hvo.cell? 2;rw[o4 ho] at c2;simp only[adr,Option.map_some] at c2;have hP:=picturesOf_calls s (s.orgOf (s.vol t)) w h o1;have hl2:(s.picsOf (s.orgOf (s.vol t)).vb).length<=20:=Nat.le_trans (List.length_filter_le _ _) h.few;have hnot:=runNot;clear h hvo;generalize (s.orgOf (s.vol t)).vb=ub at *
 go_enter Tryz.func59,Tryz.ntmps59
 go_wp2_with (first|(go_at_call 77;refine hf.mono ?_;rintro e w' ⟨rfl,rfl⟩)|(go_at_call 88;refine hI.mono ?_;rintro e w' ⟨rfl,rfl⟩)|(go_at_call 93;refine hP.mono ?_;rintro e w1 ⟨sl,rfl,hown,S1⟩;obtain⟨ag,acap,rfl⟩:=owns_form hown))
 go_ret
 exact⟨rfl,S1⟩
def revB(u v:Vol)(bl:List Blk):Nat->List Blk
 | 0=>bl
 | j+1=>(revB u v bl j).set u.xs[v.kept[j]!]! ((revB u v bl j)[v.xs[j]!]!)
theorem revB_length(u v:Vol)(bl:List Blk)(j:Nat):(revB u v bl j).length=bl.length:=by
 induction j with
 | zero=>rfl
 | succ j ih=>simp[revB,ih]
theorem revert_ok(s:St)(fr:List Nat)(t:ByteArray)(u v:Vol)(w:World)(h:PoolAt w s)(hG:Good s fr)(hi:s.has t=true)(hv:s.vol t=v)(ho:v.org=some u.vb)(hu:u∈s.vols)(hl:v.lost=false)(hb:(s.picsOf u.vb).length<=1) :
 Calls Tryz.prog 59 #[.pointer (some ⟨s.pb,0,none⟩),.string t] w fun e w'=>e=.returned (.int .i64 0) /\
  ∃g,After w s w' { s with m:=s.m+v.xs.length,bl:=giveB v.xs (revB u v s.bl v.kept.length),d:=giveD s.m v.xs s.d,ab:=some g,vols:=delVol (posOf s.names t) s.vols } (insAll v.xs fr):=by
 have hf:=find_has s t w h hi;have hmem:v∈s.vols:=by rw[<-hv];exact (St.has_mem hi).1
 have hI:=isPicture_calls v w (h.vols _ hmem);rw[ho] at hI;have c4:=lost_cell h hmem;rw[hl] at c4;obtain⟨cap,kcap,hcap,hvo,hk1,hk2⟩:=(h.vols _ hmem).vol;have c2:w.cell? ⟨v.vb,2,none⟩=some (.pointer (adr v.org)):=hvo.cell? 2;rw[ho] at c2;simp only[adr,Option.map_some] at c2;have c3:w.cell? ⟨v.vb,3,none⟩=some (.slice (adr v.kg) v.kept.length kcap):=hvo.cell? 3;have hP:=picturesOf_calls s u w h hu;have hnot:=runNot;rw[hv] at hf;have hsm:=(h.vols _ hmem).small;have hrm:=(h.vols _ hmem).room;have HS:Hid (∀W,Same [] w W->W.cell? ⟨v.vb,3,none⟩=some (.slice (adr v.kg) v.kept.length kcap)):=fun W hW=>(hW.at hvo (by simp)).cell? 3
 clear hvo
 go_enter Tryz.func59,Tryz.ntmps59
 go_wp2_with (first|(go_at_call 77;refine hf.mono ?_;rintro e w' ⟨rfl,hw⟩;obtain rfl:=hw.symm)|(go_at_call 88;refine hI.mono ?_;rintro e w' ⟨rfl,hw⟩;obtain rfl:=hw.symm)|(go_at_call 93;refine hP.mono ?_;rintro e w1 ⟨sl,rfl,hown,S1⟩;obtain⟨ag,acap,rfl⟩:=owns_form hown;have d3:=HS.out w1 S1))
 have hP1:=h.new S1;have hA1:After w1 s w1 { s with bl:=revB u v s.bl 0 } fr:=⟨hP1,hG,Same.refl _ _,fun k hk=>Or.inl hk,rfl,rfl⟩
 have hu0:u.org=none:=by
  obtain⟨x,hx,e1,e2⟩:=h.orgs v hmem _ ho;rw[<-h.vb_inj hx hu e1];exact e2
 have hpk:=(hG.pics v hmem).2.2 u hu ho;have hul:=(h.vols u hu).small;have HH:Hid (PoolAt w s/\Good s fr/\Same [] w w1):=⟨h,hG,S1⟩
 have HL:Hid (∀(x:Nat),x∈u.xs->x < s.n/\x∉fr):=fun x hx=>⟨hG.lt.2 u hu x hx,hG.apart_fr hu hx⟩
 have HM:Hid (∀(x:Nat),x∈v.xs->x < s.n):=fun x hx=>hG.lt.2 v hmem x hx
 have HKX:Hid (∀k∈v.kept,k < u.xs.length):=hpk.1;clear hown hP hI hf hk1 hk2 c2 c3 c4 d3 h hG hP1 S1 HS
 go_loopw [38] (fun i wr=>∃j:Nat,j<=v.kept.length/\i=.int .i64 j/\After w1 s wr { s with bl:=revB u v s.bl j } fr) (fun i _=>v.kept.length - (intOf i).toNat)
 case atStart=>exact⟨0,Nat.zero_le _,rfl,hA1⟩
 case round=>
  obtain⟨j,hj,rfl,hA⟩:=hrel;have hPj:=hA.pool;have hVv:=hPj.vols v hmem;have hVu:=hPj.vols u hu;by_cases hjl:j < v.kept.length
  ·obtain⟨cap',kcap',_,hvo,hk1,hk2⟩:=hVv.vol;obtain⟨cs,hr⟩:=hVv.row;obtain⟨g,hg⟩:∃g,v.kg=some g:=by
    cases hgk:v.kg with
    | none=>rw[(hk1 hgk).1] at hjl;simp at hjl
    | some g=>exact⟨g,rfl⟩
   have cj:=(hk2 g hg).cell j hjl;have hkm:v.kept[j]!∈v.kept:=by rw[getElem!_pos v.kept j hjl];exact List.getElem_mem hjl
   have hku:=HKX.out _ hkm;have hH:=fun W (hW:Same [] wr W)=>holder_vol u v.kept[j]! W ((hPj.new hW).vols u hu) hu0 hku
   have hyu:u.xs[v.kept[j]!]!∈u.xs:=mem_getElem! hku;have hxj:j < v.xs.length:=by omega
   have hxm:v.xs[j]!∈v.xs:=mem_getElem! hxj;have e2:wr.cell? ⟨v.vb,2,none⟩=some (.pointer (some ⟨u.vb,0,none⟩)):=by have:=hvo.cell? 2;simp only[Vol.cells,ho,adr] at this;exact this
   have e1:wr.cell? ⟨v.vb,1,none⟩=some (.slice (some ⟨v.gb,0,none⟩) v.xs.length cap'):=hvo.cell? 1;have ex:wr.cell? ⟨v.gb,j,none⟩=some (.int .i64 (v.xs[j]!:Nat)):=by rw[hr.at_.cell?];exact hr.cell j hxj
   obtain⟨pc,hpp,_,_⟩:=hPj.pool;have p1:wr.cell? ⟨s.pb,1,none⟩=some (.pointer (some ⟨s.db,0,none⟩)):=hpp.cell? 1;have hbl:=hPj.disk.len;have hR:=fun W (hW:Same [] wr W)=>diskRead_calls s.db s.bb s.n v.xs[j]! _ _ _ (revB u v s.bl j) W _ _ rfl rfl (hPj.new hW).disk.disk (hPj.new hW).disk.data hbl (HM.out _ hxm) (by have:=hPj.disk.small;simp at this;omega)
   have hW:=fun W (hW:Same [] wr W) bv (hbv:bv=((revB u v s.bl j)[v.xs[j]!]!).val)=>diskWrite_calls s.db s.bb s.n u.xs[v.kept[j]!]! _ _ _ (revB u v s.bl j) ((revB u v s.bl j)[v.xs[j]!]!) W _ bv _ rfl rfl hbv (hPj.new hW).disk.disk (hPj.new hW).disk.data hbl (HL.out _ hyu).1 (by have:=hPj.disk.small;simp at this;omega)
   have HF:Hid (∀w6,At w6 s.bb 91 (flat (revB u v s.bl (j+1)))->Same [s.bb] wr w6->After w1 s w6 { s with bl:=revB u v s.bl (j+1) } fr):=fun w6 A6 S6=>
    hA.step (write_after hPj hA.good u.xs[v.kept[j]!]! ((revB u v s.bl j)[v.xs[j]!]!) (HL.out _ hyu).2 A6 S6)
   have HRB:Hid (revB u v s.bl (j+1)=(revB u v s.bl j).set u.xs[v.kept[j]!]! ((revB u v s.bl j)[v.xs[j]!]!)):=rfl;have l2:(j:Int) < (v.kept.length:Int):=by omega
   have l3:(j:Int) < (v.xs.length:Int):=by omega
   have HPB:Hid (∀W,Same [] wr W->W.cell? ⟨s.pb,1,none⟩=some (.pointer (some ⟨s.db,0,none⟩))):=fun W hW=>(hW.at hpp (by simp)).cell? 1
   have hapv:=(apart_of hPj.nodup).disk v hmem;have nb1:v.vb≠s.bb:=by have:=hapv v.vb (by simp[Vol.foot]);simp only[List.mem_cons,not_or] at this;exact this.2.2.1
   have nb2:v.gb≠s.bb:=by have:=hapv v.gb (by simp[Vol.foot]);simp only[List.mem_cons,not_or] at this;exact this.2.2.1
   have nb3:s.pb≠s.bb:=by have:=(apart_of hPj.nodup).pb;simp only[List.mem_cons,not_or] at this;exact this.2.1
   have HSS:Hid (∀W,Same [s.bb] wr W->W.cell? ⟨s.pb,1,none⟩=some (.pointer (some ⟨s.db,0,none⟩))/\W.cell? ⟨v.vb,2,none⟩=some (.pointer (some ⟨u.vb,0,none⟩))/\W.cell? ⟨v.vb,1,none⟩=some (.slice (some ⟨v.gb,0,none⟩) v.xs.length cap')/\W.cell? ⟨v.gb,j,none⟩=some (.int .i64 (v.xs[j]!:Nat))):=fun W hW=>by
    refine⟨(hW.at hpp (by simpa using nb3)).cell? 1,?_,(hW.at hvo (by simpa using nb1)).cell? 1,?_⟩
    ·have:=(hW.at hvo (by simpa using nb1)).cell? 2;simp only[Vol.cells,ho,adr] at this;exact this
    ·rw[(hW.at hr.at_ (by simpa using nb2)).cell?];exact hr.cell j hxj
   rw[hg];simp only[adr,Option.map_some];clear hapv hA hPj hVv hVu hvo hr hk1 hk2 hpp hkm hku hyu hxm hbl;generalize u.xs[v.kept[j]!]! = yy at *;generalize v.kept[j]! = kk at *;generalize v.xs[j]! = xx at *;generalize (revB u v s.bl j)[xx]! = old at *
   go_wp2_with fail
   go_region_held3 (fun w'=>w'.cell? ⟨s.pb,1,none⟩=some (.pointer (some ⟨s.db,0,none⟩))/\w'.cell? ⟨v.vb,2,none⟩=some (.pointer (some ⟨u.vb,0,none⟩))/\w'.cell? ⟨v.vb,1,none⟩=some (.slice (some ⟨v.gb,0,none⟩) v.xs.length cap')/\w'.cell? ⟨v.gb,j,none⟩=some (.int .i64 (xx:Nat))) (first|assumption|exact⟨p1,e2,e1,ex⟩|exact HSS.out _ (by assumption)) (first|(go_at_call 87;refine (hH _ ((Same.refl _ _).drew)).mono ?_;rintro e w' ⟨rfl,rfl⟩)|(go_at_call 69;refine (hR _ ((Same.refl _ _).drew)).mono ?_;rintro e w3 ⟨rfl,S3⟩;have S4:=((Same.refl [] wr).drew).step S3 (by simp);have hk3:=HSS.out w3 (S4.mono (T:=[s.bb]) (by simp)))|(go_at_call 102;refine (hW w3 S4 _ rfl).mono ?_;rintro e w5 ⟨rfl,A5,S5⟩;have hk5:=HSS.out w5 ((S4.mono (T:=[s.bb]) (by simp)).step S5 (by simp))))
   all_goals
    have hFin:=HF.out w5 (by rw[HRB.out];exact A5) ((S4.mono (T:=[s.bb]) (by simp)).step S5 (by simp));clear HF A5 S5 hW hR hH HPB S3 S4
    go_wp2
    go_roundw
    case rel=>exact⟨j+1,by omega,by go_num,hFin⟩
    case measure=>simp[intOf];omega
  ·have ej:j=v.kept.length:=by omega
   subst ej;obtain⟨h,hG,S1⟩:=HH.out;have hno:∀x∈s.vols,x.org≠some v.vb:=fun x hx e=>by
    obtain⟨y,hy,e1,e2⟩:=h.orgs x hx _ e;rw[h.vb_inj hy hmem e1] at e2;rw[e2] at ho;cases ho
   have hD:=drop_ok { s with bl:=revB u v s.bl v.kept.length } fr t wr hPj hA.good hi (by rw[show St.vol { s with bl:=revB u v s.bl v.kept.length } t=s.vol t from rfl,hv];exact hno);rw[show St.vol { s with bl:=revB u v s.bl v.kept.length } t=s.vol t from rfl,hv] at hD;have HF:Hid (∀w5 s5 f5,After wr { s with bl:=revB u v s.bl v.kept.length } w5 s5 f5->After w s w5 s5 f5):=fun w5 s5 f5 h5=>(hA.step h5).old S1
   clear hA hPj hVv hVu h hG
   go_wp2_with (go_at_call 100;refine hD.mono ?_;rintro e w5 ⟨rfl,g,hA5⟩)
   have hFin:=HF.out _ _ _ hA5;clear hA5 HF hD
   go_ret
   exact⟨rfl,g,hFin⟩
theorem revB_out(u v:Vol)(bl:List Blk)(hk:∀k∈v.kept,k < u.xs.length)(x:Nat)(hx:x∉u.xs)(hl:x < bl.length):∀j,j<=v.kept.length->(revB u v bl j)[x]! = bl[x]!
 | 0,_=>rfl
 | j+1,hj=>by
  have ih:=revB_out u v bl hk x hx hl j (by omega);have hm:v.kept[j]!∈v.kept:=by rw[getElem!_pos v.kept j (by omega)];exact List.getElem_mem _
  have hne:x≠u.xs[v.kept[j]!]!:=fun e=>hx (by rw[e];exact mem_getElem! (hk _ hm))
  show ((revB u v bl j).set u.xs[v.kept[j]!]! ((revB u v bl j)[v.xs[j]!]!))[x]! = _;rw[get_set_ne _ hne (by rw[revB_length];exact hl)];exact ih
theorem revB_in(u v:Vol)(bl:List Blk)(hk:∀k∈v.kept,k < u.xs.length)(hkn:v.kept.Nodup)(hun:u.xs.Nodup)(hr:v.kept.length<=v.xs.length)(hd:∀x∈v.xs,x∉u.xs)(hub:∀x∈u.xs,x < bl.length)(hvb:∀x∈v.xs,x < bl.length)(q:Nat)(hq:q < u.xs.length) :
 ∀j,j<=v.kept.length->(revB u v bl j)[u.xs[q]!]! = if q∈v.kept.take j then bl[v.xs[v.kept.idxOf q]!]! else bl[u.xs[q]!]!
 | 0,_=>by simp[revB]
 | j+1,hj=>by
  have ih:=revB_in u v bl hk hkn hun hr hd hub hvb q hq j (by omega);have hjl:j < v.kept.length:=by omega
  have hm:v.kept[j]!∈v.kept:=by rw[getElem!_pos v.kept j hjl];exact List.getElem_mem _
  have hxm:v.xs[j]!∈v.xs:=mem_getElem! (by omega);have hval:(revB u v bl j)[v.xs[j]!]! = bl[v.xs[j]!]!:=revB_out u v bl hk _ (hd _ hxm) (hvb _ hxm) j (by omega);have htk:v.kept.take (j+1)=v.kept.take j++[v.kept[j]!]:=by rw[List.take_succ_eq_append_getElem hjl,getElem!_pos v.kept j hjl]
  show ((revB u v bl j).set u.xs[v.kept[j]!]! ((revB u v bl j)[v.xs[j]!]!))[u.xs[q]!]! = _;rw[hval];by_cases hqk:q=v.kept[j]!
  ·have hnin:q∉v.kept.take j:=by
    intro hmq;obtain⟨i,hi,e⟩:=List.getElem_of_mem hmq;have hi':i < j:=by simp at hi;omega
    rw[List.getElem_take] at e;have e2:v.kept[i]'(by omega)=v.kept[j]'hjl:=by rw[e,hqk,getElem!_pos v.kept j hjl]
    have:=(List.getElem_inj (h₀:=by omega) (h₁:=hjl) hkn).1 e2;omega
   have hidx:v.kept.idxOf q=j:=idxOf_at v.kept j q hjl hqk.symm hnin;rw[<-hqk,get_set_eq _ (by rw[revB_length];exact hub _ (mem_getElem! hq)),htk,if_pos (by rw[<-hqk];simp),hidx]
  ·have hne:u.xs[q]!≠u.xs[v.kept[j]!]!:=fun e=>by
    rw[getElem!_pos u.xs q hq,getElem!_pos u.xs _ (hk _ hm)] at e;exact hqk ((List.getElem_inj (h₀:=hq) (h₁:=hk _ hm) hun).1 e)
   rw[get_set_ne _ hne (by rw[revB_length];exact hub _ (mem_getElem! hq)),ih,htk];by_cases hin:q∈v.kept.take j
   ·rw[if_pos hin,if_pos (List.mem_append_left _ hin)]
   ·rw[if_neg hin,if_neg (fun hm2=>(List.mem_append.1 hm2).elim hin (fun e=>hqk (by simpa only[List.mem_singleton] using e)))]
end
end Go.Proofs.YtpddgdjocffgdaaGreat
