/- Read, List, Map of both, by contracts. Write of both, and one step, by contracts. Both begun; one step; everything asked: by contracts. One step of a script, and a whole script, by contracts. A script that came in, read as data: what stands in memory. -/
import Derived.Test.YtpddgdjocffgdaaGreatJ13
import Derived.Deep.RegionHeld3
import Derived.Deep.Slices
import Derived.ChangeArms
import Derived.ProofKit
import Derived.ChangeSame
namespace Go.Proofs.YtpddgdjocffgdaaGreat
set_option linter.unusedVariables false
set_option linter.unusedSimpArgs false
set_option linter.unusedSectionVars false
set_option maxHeartbeats 16000000
set_option maxRecDepth 100000
section
open Go.RowKit Go.Sort
variable [DecidableEq Blk] [Inhabited Blk] [Inhabited Vol] [Inhabited RVol]
theorem read_pair{w:World}{s:St}{fr:List Nat}{r:RSt}(h:TwoAt w s fr r)(t:ByteArray)(k:Int):∃(c:Int) (x:Blk),0<=c/\c<=13 /\
 (Calls Tryz.prog 61 #[.pointer (some ⟨s.pb,0,none⟩),.string t,.int .i64 k] w fun e w'=>e=.returned (.tuple #[x.val,.int .i64 c])/\Same [] w w') /\
 (∀W,RefAt W r->Calls Tryz.prog 62 #[.pointer (some ⟨r.rb,0,none⟩),.string t,.int .i64 k] W fun e w'=>e=.returned (.tuple #[.string x.text,.int .i64 c])/\w'=W):=by
 have hP:=h.pool;have hG:=h.good;have hrel:=h.rel;by_cases h1:s.has t=true
 case neg=>
  have h1':s.has t=false:=by simpa using h1
  have hc:=atC_none hrel hP h1' k;refine⟨4,Blk.zero,by omega,by omega,read_err s t k 4 w (by decide) fun w' hS=>findPlace_none s t k w' (hP.new hS) h1',fun W hR=>?_⟩;have:=refRead_none r t k W hR (by omega);rw[hc] at this;exact this
 obtain⟨hm,hnm,hp⟩:=St.has_mem h1;have hra:=hrel.at_has hP h1;have hrv:RelV s (s.vol t) (r.vols[posOf s.names t]!):=hrel.vol h1;have hac:=atC_has hrel hP h1 k;by_cases hl:(s.vol t).lost=true
 ·rw[if_pos hl] at hac;refine⟨9,Blk.zero,by omega,by omega,read_err s t k 9 w (by decide) fun w' hS=>findPlace_lost s t k w' (hP.new hS) h1 hl,fun W hR=>?_⟩;have:=refRead_none r t k W hR (by omega);rw[hac] at this;exact this
 have hl':(s.vol t).lost=false:=by simpa using hl
 rw[if_neg hl] at hac;by_cases hk:0<=k/\k < s.size (s.vol t)
 case neg=>
  rw[if_pos (by omega)] at hac;refine⟨1,Blk.zero,by omega,by omega,read_err s t k 1 w (by decide) fun w' hS=>findPlace_out s t k w' (hP.new hS) h1 hl' hk,fun W hR=>?_⟩;have:=refRead_none r t k W hR (by omega);rw[hac] at this;exact this
 obtain⟨n,rfl⟩:∃n:Nat,k=n:=⟨k.toNat,by omega⟩
 have hn:n < s.size (s.vol t):=by omega
 refine⟨0,s.look (s.vol t) n,by omega,by omega,read_some s t n w hP h1 hl' hn (holder_lt hP hG hm hn),fun W hR=>?_⟩;have:=refRead_some r t n _ W hR hra (by rw[hrv.lost];exact hl') (by rw[hrv.size];exact hn);rw[hrv.data hl' n hn] at this;exact this
theorem bread_calls(bb:Nat)(s:St)(fr:List Nat)(r:RSt)(w:World)(h:BothAt w bb s fr r)(t:ByteArray)(k:Int) :
 Calls Tryz.prog 29 #[.pointer (some ⟨bb,0,none⟩),.string t,.int .i64 k] w fun e w'=>e=.returned (.bool true)/\Same [] w w':=by
 obtain⟨c,x,c0,c13,h1,h2⟩:=read_pair h.two t k;have hnum:=fun W=>num_int c W c0 c13
 have htx:=fun W=>text_calls x W
 have d0:w.cell? ⟨bb,0,none⟩=some (.pointer (some ⟨s.pb,0,none⟩)):=h.both.cell? 0;have HB:Hid (BothAt w bb s fr r):=h;have H2:Hid _:=h2;generalize x.text=tx at *;obtain⟨x0,x1,x2,x3,x4,x5,x6,x7⟩:=x;unfold Blk.val at h1 htx;have hbeq:(tx.toList == tx.toList)=true:=by simp
 clear h h2
 go_enter Tryz.func29,Tryz.ntmps29
 go_wp2_with (go_at_call 61;refine h1.mono ?_;rintro e w1 ⟨rfl,S1⟩;have S2:=S1.alloc (.cells #[.int .u8 x0,.int .u8 x1,.int .u8 x2,.int .u8 x3,.int .u8 x4,.int .u8 x5,.int .u8 x6,.int .u8 x7] 91);have e1:=(HB.out.new S2).both.cell? 1;simp only[List.getElem?_cons_succ,List.getElem?_cons_zero] at e1;have hr2:=H2.out _ (HB.out.new S2).two.ref)
 go_wp2_with (first|(go_at_call 62;refine hr2.mono ?_;rintro e w2 ⟨rfl,hw2⟩;obtain rfl:=hw2.symm)|(go_at_call 26;refine (hnum _).mono ?_;rintro e w3 ⟨rfl,hw3⟩;obtain rfl:=hw3.symm)|(go_at_call 52;refine (htx _).mono ?_;rintro e w4 ⟨rfl,S4⟩))
 go_ret
 exact⟨by simp,S2.step S4 (by simp)⟩
theorem told_rel{s:St}{v:Vol}{x:RVol}(h:RelV s v x)(hn:v.org≠none->(s.orgOf v).name≠⟨#[]⟩)(ho:v.org=none->s.orgOf v=v):x.told=s.told v:=by
 have e:=h.of_;by_cases hv:v.org=none
 ·rw[if_pos hv] at e;unfold RVol.told St.told;rw[if_pos e,hv];simp only;rw[h.name,h.size];unfold St.size;rw[ho hv]
 ·rw[if_neg hv] at e;obtain⟨b,hb⟩:=Option.ne_none_iff_exists'.1 hv;unfold RVol.told St.told;rw[if_neg (by rw[e];exact hn hv),hb];simp only;rw[h.name,h.size,e,h.blocks,h.kept,h.lost]
theorem toldAll_rel(s:St):∀(a:List Vol) (b:List RVol),a.length=b.length->(∀i,i < a.length->(b[i]!).told=s.told (a[i]!))->rtoldAll b=s.toldAll a
 | [],[],_,_=>rfl
 | [],_ :: _,h,_=>by simp at h
 | _ :: _,[],h,_=>by simp at h
 | x :: a,y :: b,h,e=>by
  have e0:=e 0 (by simp);have ih:=toldAll_rel s a b (by simpa using h) (fun i hi=>by simpa using e (i+1) (by simpa using hi));simp only[List.getElem!_cons_zero] at e0;rw[rtoldAll,St.toldAll,e0,ih]
theorem Rel.told{w:World}{s:St}{r:RSt}{fr:List Nat}(h:Rel s r)(hP:PoolAt w s)(hG:Good s fr):rtoldAll r.vols=s.toldAll s.vols:=
 toldAll_rel s s.vols r.vols h.len.symm fun i hi=>told_rel (h.each i hi) (fun _=>name_ne_nil hG (hP.orgOf (get_mem hi)).1) (hP.orgOf (get_mem hi)).2.2.1
theorem told_six(s:St)(v:Vol):∃(nm of_:ByteArray) (sz rm kp:Nat) (lo:Bool),s.told v=[.string nm,.int .i64 sz,.string of_,.int .i64 rm,.int .i64 kp,.bool lo]/\nm=v.name:=by
 unfold St.told
 split
 ·exact⟨_,_,_,0,0,_,rfl,rfl⟩
 ·exact⟨_,_,_,_,_,_,rfl,rfl⟩
theorem listed_calls(bb:Nat)(s:St)(fr:List Nat)(r:RSt)(w:World)(h:BothAt w bb s fr r) :
 Calls Tryz.prog 19 #[.pointer (some ⟨bb,0,none⟩)] w fun e w'=>∃a,e=.returned (.tuple #[.slice a s.vols.length s.vols.length,.bool true])/\Same [] w w' /\
  (s.vols≠[]->∃g cs,a=some ⟨g,0,none⟩/\w.heap.size<=g/\At w' g 57 cs/\cs.take (s.vols.length * 6)=s.toldAll s.vols):=by
 have h1:=list_calls s w h.two.pool;have h2:=fun W (hW:Same [] w W)=>refList_calls r W (h.two.ref.same0 hW)
 have htd:=h.two.rel.told h.two.pool h.two.good;have hlen:=h.two.rel.len;have hfew:=h.two.pool.few;rw[htd,hlen] at h2;have hnil:r.vols≠[]↔s.vols≠[]:=by
  constructor<;>intro hn e<;>apply hn<;>apply List.eq_nil_of_length_eq_zero
  ·rw[hlen,e];rfl
  ·rw[<-hlen,e];rfl
 have d0:w.cell? ⟨bb,0,none⟩=some (.pointer (some ⟨s.pb,0,none⟩)):=h.both.cell? 0;have HB:Hid (BothAt w bb s fr r):=h;have HTL:Hid (∀i,i < s.vols.length->∀j,j < 6->(s.toldAll s.vols)[i * 6+j]? = (s.told (s.vols[i]!))[j]?):=fun i hi j hj=>toldAll_get s s.vols i j hi hj
 have HSIX:Hid (∀v,∃(nm of_:ByteArray) (sz rm kp:Nat) (lo:Bool),s.told v=[.string nm,.int .i64 sz,.string of_,.int .i64 rm,.int .i64 kp,.bool lo]/\nm=v.name):=told_six s;generalize s.toldAll s.vols=TL at *;generalize hN:s.vols.length=N at *;have HN0:Hid (N≠0->s.vols≠[]):=fun hn e=>hn (by rw[<-hN,e];rfl)
 clear h htd hlen hN
 go_enter Tryz.func19,Tryz.ntmps19
 go_wp2_with (go_at_call 36;refine h1.mono ?_;rintro e w1 ⟨a1,rfl,S1,hl1⟩;have e1:=(HB.out.new S1).both.cell? 1;simp only[List.getElem?_cons_succ,List.getElem?_cons_zero] at e1)
 go_wp2_with (go_at_call 37;refine (h2 _ S1).mono ?_;rintro e w2 ⟨a2,c2,rfl,S2,hl2⟩)
 have S3:=S1.step S2 (by simp);have HL1:Hid (s.vols≠[]->∃g cs,a1=some ⟨g,0,none⟩/\w.heap.size<=g/\At w2 g 57 cs/\cs.take (N * 6)=TL):=fun hn=>by
  obtain⟨g,cs,q1,q2,q3,q4⟩:=hl1 hn;exact⟨g,cs,q1,q2,S2.at q3 (by simp),q4⟩
 have HL2:Hid (s.vols≠[]->∃g cs,a2=some ⟨g,0,none⟩/\w1.heap.size<=g/\At w2 g 57 cs/\cs.take (N * 6)=TL):=fun hn=>hl2 (hnil.2 hn)
 clear h1 h2 hl1 hl2 hnil e1 d0
 go_loopw [6] (fun i wr=>∃k:Nat,k<=N/\i=.int .i64 k/\Same [] w2 wr) (fun i _=>N - (intOf i).toNat)
 case atStart=>exact⟨0,Nat.zero_le _,rfl,Same.refl _ _⟩
 case round=>
  obtain⟨k,hk,rfl,hS⟩:=hrel;by_cases hkl:k < N
  ·have hne:=HN0.out (by omega);obtain⟨g1,cs1,rfl,hg1,hA1,ht1⟩:=HL1.out hne;obtain⟨g2,cs2,rfl,hg2,hA2,ht2⟩:=HL2.out hne;obtain⟨nm,of_,sz,rm,kp,lo,h6,_⟩:=HSIX.out (s.vols[k]!);have B1:=hS.at hA1 (by simp);have B2:=hS.at hA2 (by simp);have key1:∀j,j < 6->wr.cell? ⟨g1,k * 6+j,none⟩=([.string nm,.int .i64 sz,.string of_,.int .i64 rm,.int .i64 kp,.bool lo]:List Value)[j]?:=fun j hj=>by
    rw[B1.cell?,<-h6,<-HTL.out k hkl j hj,<-ht1,List.getElem?_take,if_pos (by omega)]
   have key2:∀j,j < 6->wr.cell? ⟨g2,k * 6+j,none⟩=([.string nm,.int .i64 sz,.string of_,.int .i64 rm,.int .i64 kp,.bool lo]:List Value)[j]?:=fun j hj=>by
    rw[B2.cell?,<-h6,<-HTL.out k hkl j hj,<-ht2,List.getElem?_take,if_pos (by omega)]
   have a0:wr.cell? ⟨g1,k * 6,none⟩=some (.string nm):=key1 0 (by omega);have a1:wr.cell? ⟨g1,k * 6+1,none⟩=some (.int .i64 sz):=key1 1 (by omega);have a2:wr.cell? ⟨g1,k * 6+2,none⟩=some (.string of_):=key1 2 (by omega);have a3:wr.cell? ⟨g1,k * 6+3,none⟩=some (.int .i64 rm):=key1 3 (by omega);have a4:wr.cell? ⟨g1,k * 6+4,none⟩=some (.int .i64 kp):=key1 4 (by omega);have a5:wr.cell? ⟨g1,k * 6+5,none⟩=some (.bool lo):=key1 5 (by omega);have b0:wr.cell? ⟨g2,k * 6,none⟩=some (.string nm):=key2 0 (by omega);have b1:wr.cell? ⟨g2,k * 6+1,none⟩=some (.int .i64 sz):=key2 1 (by omega);have b2:wr.cell? ⟨g2,k * 6+2,none⟩=some (.string of_):=key2 2 (by omega);have b3:wr.cell? ⟨g2,k * 6+3,none⟩=some (.int .i64 rm):=key2 3 (by omega);have b4:wr.cell? ⟨g2,k * 6+4,none⟩=some (.int .i64 kp):=key2 4 (by omega);have b5:wr.cell? ⟨g2,k * 6+5,none⟩=some (.bool lo):=key2 5 (by omega);have lt2:g2 < wr.heap.size:=B2.lt;have l1:(k:Int) < (N:Int):=by omega
   have hb1:(nm.toList == nm.toList)=true:=by simp
   have hb2:(of_.toList == of_.toList)=true:=by simp
   clear key1 key2 B1 B2 hA1 hA2 ht1 ht2 h6
   go_wp2
   go_roundw
   case rel=>exact⟨k+1,by omega,by go_num,(hS.alloc _).alloc _⟩
   case measure=>simp[intOf];omega
  ·have ek:k=N:=by omega
   subst ek;have HE:Hid _:=S3.step hS (by simp);have HL:Hid (s.vols≠[]->∃g cs,a1=some ⟨g,0,none⟩/\w.heap.size<=g/\At wr g 57 cs/\cs.take (k * 6)=TL):=fun hn=>by
    obtain⟨g,cs,q1,q2,q3,q4⟩:=HL1.out hn;exact⟨g,cs,q1,q2,hS.at q3 (by simp),q4⟩
   clear HL1 HL2 HTL HSIX hS S1 S2 S3
   go_wp2
   go_ret2
   exact⟨_,rfl,HE.out,HL.out⟩
theorem RowAt.cell?{w:World}{g:Nat}{xs:List Nat}{cs:List Value}(h:RowAt w g xs cs)(i:Nat)(hi:i < xs.length):w.cell? ⟨g,i,none⟩=some (.int .i64 (xs[i]!:Nat)):=by
 rw[h.at_.cell?];exact h.cell i hi
theorem mapped_none(bb:Nat)(s:St)(fr:List Nat)(r:RSt)(w:World)(h:BothAt w bb s fr r)(t:ByteArray)(ht:s.has t=false) :
 Calls Tryz.prog 21 #[.pointer (some ⟨bb,0,none⟩),.string t] w fun e w'=>e=.returned (.tuple #[.slice none 0 0,.bool true])/\w'=w:=by
 have h1:=map_none s t w h.two.pool ht;have h2:=refMap_none r t w h.two.ref (h.two.rel.at_not h.two.pool ht);have hnum:=fun W=>num_int 4 W (by omega) (by omega)
 have d0:w.cell? ⟨bb,0,none⟩=some (.pointer (some ⟨s.pb,0,none⟩)):=h.both.cell? 0;have d1:w.cell? ⟨bb,1,none⟩=some (.pointer (some ⟨r.rb,0,none⟩)):=h.both.cell? 1;clear h
 go_enter Tryz.func21,Tryz.ntmps21
 go_wp2_with (first|(go_at_call 39;refine h1.mono ?_;rintro e w1 ⟨rfl,hw1⟩;obtain rfl:=hw1.symm)|(go_at_call 40;refine h2.mono ?_;rintro e w1 ⟨rfl,hw1⟩;obtain rfl:=hw1.symm)|(go_at_call 26;refine (hnum _).mono ?_;rintro e w1 ⟨rfl,hw1⟩;obtain rfl:=hw1.symm))
 go_loopw [10] (fun i wr=>i=.int .i64 0/\wr=w) (fun i _=>0)
 case atStart=>exact⟨rfl,rfl⟩
 case round=>
  obtain⟨rfl,rfl⟩:=hrel
  go_wp2
  go_ret2
  exact⟨rfl,rfl⟩
theorem mapped_some(bb:Nat)(s:St)(fr:List Nat)(r:RSt)(w:World)(h:BothAt w bb s fr r)(t:ByteArray)(ht:s.has t=true) :
 Calls Tryz.prog 21 #[.pointer (some ⟨bb,0,none⟩),.string t] w fun e w'=>∃g cs,e=.returned (.tuple #[.slice (some ⟨g,0,none⟩) (s.vol t).xs.length (s.vol t).xs.length,.bool true])/\w.heap.size<=g/\RowAt w' g (s.vol t).xs cs/\Same [] w w':=by
 have h1:=map_some s t w h.two.pool ht;have hrv:RelV s (s.vol t) (r.vols[posOf s.names t]!):=h.two.rel.vol ht;have hra:=h.two.rel.at_has h.two.pool ht;have h2:=fun W (hW:Same [] w W)=>refMap_some r t _ W (h.two.ref.same0 hW) hra
 have hblk:=hrv.blocks;have hm:=(St.has_mem ht).1;have hxl:(s.vol t).xs.length<=200:=by
  rw[<-hblk];refine (h.two.ref.vols _ ?_).blocks;exact getRv (by rw[h.two.rel.len];exact (St.has_mem ht).2.2)
 rw[hblk] at h2;generalize (r.vols[posOf s.names t]!).bg=bg at *;have hnum:=fun W=>num_int 0 W (by omega) (by omega)
 have d0:w.cell? ⟨bb,0,none⟩=some (.pointer (some ⟨s.pb,0,none⟩)):=h.both.cell? 0;have HB:Hid (BothAt w bb s fr r):=h;generalize (s.vol t).xs=xs at *;clear h hra hrv
 go_enter Tryz.func21,Tryz.ntmps21
 go_wp2_with (go_at_call 39;refine h1.mono ?_;rintro e w1 ⟨g,cs,rfl,hg,hR,S1⟩;have e1:=(HB.out.new S1).both.cell? 1;simp only[List.getElem?_cons_succ,List.getElem?_cons_zero] at e1)
 go_wp2_with (first|(go_at_call 40;refine (h2 _ S1).mono ?_;rintro e w2 ⟨bc,rfl,hN,hw1⟩;obtain rfl:=hw1.symm)|(go_at_call 26;refine (hnum _).mono ?_;rintro e w3 ⟨rfl,hw1⟩;obtain rfl:=hw1.symm))
 have HR:Hid (RowAt w1 g xs cs/\NumsAt w1 bg bc xs):=⟨hR,hN⟩
 clear hR hN h1 h2 d0 e1
 go_loopw [10] (fun i wr=>∃k:Nat,k<=xs.length/\i=.int .i64 k/\Same [] w1 wr) (fun i _=>xs.length - (intOf i).toNat)
 case atStart=>exact⟨0,Nat.zero_le _,rfl,Same.refl _ _⟩
 case round=>
  obtain⟨k,hk,rfl,hS⟩:=hrel;by_cases hkl:k < xs.length
  ·have c1:=(HR.out.1.same hS (by simp)).cell? k hkl;have c2:=(HR.out.2.same hS (by simp)).cell k hkl;generalize xs[k]! = y at *;have l1:(k:Int) < (xs.length:Int):=by omega
   go_wp2
   go_region
   go_wp2
   go_roundw
   case rel=>exact⟨k+1,by omega,by go_num,hS.drew⟩
   case measure=>simp[intOf];omega
  ·have ek:k=xs.length:=by omega
   subst ek;have HE:Hid (∃cs,RowAt wr g xs cs/\Same [] w wr):=⟨cs,HR.out.1.same hS (by simp),S1.step hS (by simp)⟩
   clear HR hS
   go_wp2
   go_ret2
   obtain⟨cs',q1,q2⟩:=HE.out;exact⟨g,cs',rfl,hg,q1,q2⟩
theorem At.eight1{w:World}{g:Nat}{t:TypeId}{x0 x1 x2 x3 x4 x5 x6 x7:Int}(h:At w g t [.int .u8 x0,.int .u8 x1,.int .u8 x2,.int .u8 x3,.int .u8 x4,.int .u8 x5,.int .u8 x6,.int .u8 x7]) :
 w.cell? ⟨g,0,none⟩=some (.int .u8 x0)/\w.cell? ⟨g,1,none⟩=some (.int .u8 x1)/\w.cell? ⟨g,2,none⟩=some (.int .u8 x2)/\w.cell? ⟨g,3,none⟩=some (.int .u8 x3)/\w.cell? ⟨g,4,none⟩=some (.int .u8 x4)/\w.cell? ⟨g,5,none⟩=some (.int .u8 x5)/\w.cell? ⟨g,6,none⟩=some (.int .u8 x6)/\w.cell? ⟨g,7,none⟩=some (.int .u8 x7):=
 ⟨h.cell? 0,h.cell? 1,h.cell? 2,h.cell? 3,h.cell? 4,h.cell? 5,h.cell? 6,h.cell? 7⟩
theorem turned_write(bb:Nat)(s:St)(fr:List Nat)(r:RSt)(w:World)(h:BothAt w bb s fr r)(kk a:Int)(t u x:ByteArray)(hx:x.size<=maxLen) :
 Calls Tryz.prog 28 #[.pointer (some ⟨bb,0,none⟩),opVal 2 kk a t u x] w fun e w'=>e=.returned (.bool true)/\BothNext w bb s r w':=by
 unfold opVal;have O0:=op_at w 2 kk a t u x;have S0:Same [] w (w.alloc (.cells #[.int .i64 2,.int .i64 kk,.int .i64 a,.string t,.string u,.string x] 34)):=(Same.refl _ _).alloc _;have hlt:=h.both.lt;have hnf:w.heap.size∉s.foot++r.foot:=fun hm=>by have:=h.two.foot_lt _ hm;omega
 have hbk:=fun W=>block_calls x W hx
 have hbo:=blkUp_ok x (min x.size 8);generalize blkUp x (min x.size 8)=b at *;have htx:=fun W=>text_calls b W
 have HPW:Hid (∀W s fr r,TwoAt W s fr r->Pair W s fr r 50 #[.pointer (some ⟨s.pb,0,none⟩),.string t,.int .i64 a,b.val] 51 #[.pointer (some ⟨r.rb,0,none⟩),.string t,.int .i64 a,.string b.text]):=fun W s fr r hW=>pair_write hW.pool hW.good hW.spare hW.rel hW.nodup t a b hbo
 generalize b.text=bt at *;obtain⟨x0,x1,x2,x3,x4,x5,x6,x7⟩:=b;unfold Blk.val at hbk htx HPW;have HO:Hid (At (w.alloc (.cells #[.int .i64 2,.int .i64 kk,.int .i64 a,.string t,.string u,.string x] 34)) w.heap.size 34 [.int .i64 2,.int .i64 kk,.int .i64 a,.string t,.string u,.string x]):=O0;have HS0:Hid (Same [] w (w.alloc (.cells #[.int .i64 2,.int .i64 kk,.int .i64 a,.string t,.string u,.string x] 34))):=S0;have HB:Hid _:=h;clear S0 O0 h hbo
 go_enter Tryz.func28,Tryz.ntmps28
 go_wp2_with (go_at_call 49;refine (hbk _).mono ?_;rintro e w1 ⟨rfl,S1⟩;have S2:=(HS0.out.step S1 (by simp)).alloc (.cells #[.int .u8 x0,.int .u8 x1,.int .u8 x2,.int .u8 x3,.int .u8 x4,.int .u8 x5,.int .u8 x6,.int .u8 x7] 91);have X1:=At.new w1 #[.int .u8 x0,.int .u8 x1,.int .u8 x2,.int .u8 x3,.int .u8 x4,.int .u8 x5,.int .u8 x6,.int .u8 x7] 91;have O1:=(S1.at HO.out (by simp)).alloc (.cells #[.int .u8 x0,.int .u8 x1,.int .u8 x2,.int .u8 x3,.int .u8 x4,.int .u8 x5,.int .u8 x6,.int .u8 x7] 91))
 have hB1:=HB.out.new S2;have hxnf:w1.heap.size∉s.foot++r.foot:=fun hm=>by have:=HB.out.two.foot_lt _ hm;have:=HS0.out.size;have:=S1.size;omega
 generalize w1.alloc (.cells #[.int .u8 x0,.int .u8 x1,.int .u8 x2,.int .u8 x3,.int .u8 x4,.int .u8 x5,.int .u8 x6,.int .u8 x7] 91)=wa at *;obtain⟨y0,y1,y2,y3,y4,y5,y6,y7⟩:=At.eight1 X1;have d0:=hB1.both.cell? 0;have d2:=O1.cell? 2;have d3:=O1.cell? 3;simp only[List.getElem?_cons_succ,List.getElem?_cons_zero] at d0 d2 d3;have HX:Hid (At wa w1.heap.size 91 [.int .u8 x0,.int .u8 x1,.int .u8 x2,.int .u8 x3,.int .u8 x4,.int .u8 x5,.int .u8 x6,.int .u8 x7]):=X1;have HO1:Hid (At wa w.heap.size 34 [.int .i64 2,.int .i64 kk,.int .i64 a,.string t,.string u,.string x]):=O1;have HB1:Hid _:=hB1;clear X1 O1 hB1 HO HB;refine region_tail 9 (by kernel_rfl) (by kernel_rfl) ?_;simp only[List.take_succ_cons,List.take_zero,List.drop_succ_cons,List.drop_zero]
 repeat still_step
 refine wpStill_nil ?_;have hB2:=HB1.out.new ((Same.refl [] _).drew);obtain⟨c,P,c0,c13,hp1,hp2⟩:=(HPW.out _ _ _ _ hB2.two).ex;have HP2:Hid _:=hp2;clear hp2
 go_wp2_with (go_at_call 50;refine hp1.mono ?_;rintro e w2 ⟨rfl,s',fr',hA,hsp,hPs⟩)
 obtain⟨hR1,hBB⟩:=hB2.mid hA;have O2:=hA.same.at HO1.out.drew (fun hm=>hnf (List.mem_append_left _ hm));have X2:=hA.same.at HX.out.drew (fun hm=>hxnf (List.mem_append_left _ hm));have HK:Hid (∀w',Same r.foot w2 w'->w'.cell? ⟨bb,1,none⟩=some (.pointer (some ⟨r.rb,0,none⟩))/\w'.cell? ⟨w.heap.size,2,none⟩=some (.int .i64 a)/\w'.cell? ⟨w.heap.size,3,none⟩=some (.string t)/\w'.cell? ⟨w1.heap.size,0,none⟩=some (.int .u8 x0)/\w'.cell? ⟨w1.heap.size,1,none⟩=some (.int .u8 x1)/\w'.cell? ⟨w1.heap.size,2,none⟩=some (.int .u8 x2)/\w'.cell? ⟨w1.heap.size,3,none⟩=some (.int .u8 x3)/\w'.cell? ⟨w1.heap.size,4,none⟩=some (.int .u8 x4)/\w'.cell? ⟨w1.heap.size,5,none⟩=some (.int .u8 x5)/\w'.cell? ⟨w1.heap.size,6,none⟩=some (.int .u8 x6)/\w'.cell? ⟨w1.heap.size,7,none⟩=some (.int .u8 x7)):=fun w' hw=>⟨(hw.at hBB (fun hm=>hB2.out (List.mem_append_right _ hm))).cell? 1,(hw.at O2 (fun hm=>hnf (List.mem_append_right _ hm))).cell? 2,(hw.at O2 (fun hm=>hnf (List.mem_append_right _ hm))).cell? 3,At.eight1 (hw.at X2 (fun hm=>hxnf (List.mem_append_right _ hm)))⟩
 have hK2:=HK.out w2 (Same.refl _ _);have hnum:=fun W=>num_int c W c0 c13
 go_region_held3 (fun w'=>w'.cell? ⟨bb,1,none⟩=some (.pointer (some ⟨r.rb,0,none⟩))/\w'.cell? ⟨w.heap.size,2,none⟩=some (.int .i64 a)/\w'.cell? ⟨w.heap.size,3,none⟩=some (.string t)/\w'.cell? ⟨w1.heap.size,0,none⟩=some (.int .u8 x0)/\w'.cell? ⟨w1.heap.size,1,none⟩=some (.int .u8 x1)/\w'.cell? ⟨w1.heap.size,2,none⟩=some (.int .u8 x2)/\w'.cell? ⟨w1.heap.size,3,none⟩=some (.int .u8 x3)/\w'.cell? ⟨w1.heap.size,4,none⟩=some (.int .u8 x4)/\w'.cell? ⟨w1.heap.size,5,none⟩=some (.int .u8 x5)/\w'.cell? ⟨w1.heap.size,6,none⟩=some (.int .u8 x6)/\w'.cell? ⟨w1.heap.size,7,none⟩=some (.int .u8 x7)) (first|assumption|exact hK2) (first|(go_at_call 52;refine (htx _).mono ?_;rintro e w3 ⟨rfl,S3⟩;have S23:=((Same.refl [] w2).drew).step S3 (by simp);have hk3:=HK.out _ (S23.mono (by simp));have hr3:=HP2.out w3 (hR1.same0 S23))|(go_at_call 51;refine hr3.mono ?_;rintro e w4 ⟨rfl,r',hR,hRel⟩;have hk4:=HK.out _ ((S23.mono (T:=r.foot) (by simp)).step hR.same (fun k hk _=>hk))))
 go_wp2_with (go_at_call 26;refine (hnum _).mono ?_;rintro e w5 ⟨rfl,hw⟩;obtain rfl:=hw.symm)
 go_ret
 refine⟨by simp,?_⟩;have hnx:=hB2.next hA hsp (hR.old S23) (hRel _ _ _ hA.pool hA.good hPs);exact hnx.old (S2.step ((Same.refl [] _).drew) (by simp))
theorem free_same{w:World}{s:St}{fr:List Nat}{r:RSt}(h:TwoAt w s fr r):(r.freeL r.n).length=s.m:=by
 rw[h.rel.free h.good];exact h.good.heap.len
theorem begun_no(n:Int)(w:World)(hn:¬(1<=n/\n<=200)) :
 Calls Tryz.prog 11 #[.int .i64 n] w fun e w'=>e=.returned (.tuple #[.pointer none,.bool true])/\w'=w:=by
 have h1:=newPool_no n w hn;have h2:=refNew_no n w (by omega);have hnum:=fun W=>num_int 1 W (by omega) (by omega)
 go_enter Tryz.func11,Tryz.ntmps11
 go_wp2_with (first|(go_at_call 24;refine h1.mono ?_;rintro e w1 ⟨rfl,hw⟩;obtain rfl:=hw.symm)|(go_at_call 25;refine h2.mono ?_;rintro e w1 ⟨rfl,hw⟩;obtain rfl:=hw.symm)|(go_at_call 26;refine (hnum _).mono ?_;rintro e w1 ⟨rfl,hw⟩;obtain rfl:=hw.symm))
 go_ret2
 exact⟨rfl,rfl⟩
theorem newRel(pb db bb fb n rb:Nat):Rel (newSt pb db bb fb n) ⟨rb,none,n,[]⟩:=⟨rfl,rfl,fun i hi=>by simp[newSt] at hi⟩
structure BothNew(w w':World)(n bb:Nat):Prop where
 ex:∃s fr r,BothAt w' bb s fr r/\s.n=n/\s.vols=[]/\∀k∈bb :: (s.foot++r.foot),w.heap.size<=k
 same:Same [] w w'
theorem begun_ok(n:Nat)(w:World)(hn:1<=n/\n<=200) :
 Calls Tryz.prog 11 #[.int .i64 n] w fun e w'=>∃bb,e=.returned (.tuple #[.pointer (some ⟨bb,0,none⟩),.bool true])/\BothNew w w' n bb:=by
 have h1:=newPool_ok n w hn;have h2:=fun W=>refNew_ok n W hn.1 hn.2
 have hnum:=fun W=>num_int 0 W (by omega) (by omega)
 go_enter Tryz.func11,Tryz.ntmps11
 go_wp2_with (go_at_call 24;refine h1.mono ?_;rintro e w1 ⟨pb,rfl,hN⟩)
 obtain⟨⟨db,b2,fb,hP,hf⟩,S1⟩:=hN
 go_wp2_with (first|(go_at_call 25;refine (h2 _).mono ?_;rintro e w2 ⟨rfl,hR,S2⟩)|(go_at_call 26;refine (hnum _).mono ?_;rintro e w1 ⟨rfl,hw⟩;obtain rfl:=hw.symm))
 have hP2:=hP.new S2;have S3:Same [] w2 (w2.alloc (.cells #[.pointer (some ⟨pb,0,none⟩),.pointer (some ⟨w1.heap.size,0,none⟩)] 67)):=(Same.refl _ _).alloc _;have N3:=At.new w2 #[.pointer (some ⟨pb,0,none⟩),.pointer (some ⟨w1.heap.size,0,none⟩)] 67;have hpl:=hP.foot_lt;have z1:=S1.size;have z2:=S2.size;have hrl:=hR.foot_lt;have hrf:∀k∈RSt.foot ⟨w1.heap.size,none,n,[]⟩,k=w1.heap.size:=by simp[RSt.foot]
 have hB:BothAt (w2.alloc (.cells #[.pointer (some ⟨pb,0,none⟩),.pointer (some ⟨w1.heap.size,0,none⟩)] 67)) w2.heap.size (newSt pb db b2 fb n) (List.range n) ⟨w1.heap.size,none,n,[]⟩:=by
  refine⟨N3,⟨hP2.new S3,newSt_good _ _ _ _ _,fun i hi=>by simp[newSt] at hi,hR.same0 S3,by simp[RSt.foot],newRel _ _ _ _ _ _,fun k hk hm=>?_⟩,fun hm=>?_⟩
  ·have:=hrf k hm;have:=hpl k hk;omega
  ·rcases List.mem_append.1 hm with hm|hm
   ·have:=hpl _ hm;omega
   ·have:=hrl _ hm;omega
 have hF:=free_calls (newSt pb db b2 fb n) _ hB.two.pool;have HF:Hid (BothNew w (w2.alloc (.cells #[.pointer (some ⟨pb,0,none⟩),.pointer (some ⟨w1.heap.size,0,none⟩)] 67)) n w2.heap.size):=by
  refine⟨⟨_,_,_,hB,rfl,rfl,fun k hk=>?_⟩,(S1.step S2 (by simp)).step S3 (by simp)⟩;rcases List.mem_cons.1 hk with rfl|hk
  ·omega
  ·rcases List.mem_append.1 hk with hk|hk
   ·exact hf k hk
   ·have:=hrf k hk;omega
 have hm:(newSt pb db b2 fb n).m=n:=rfl;have hpb:(newSt pb db b2 fb n).pb=pb:=rfl;rw[hm,hpb] at hF;clear hB hP hP2 N3 hR S3 hf h1 h2
 go_wp2_with (go_at_call 27;refine hF.mono ?_;rintro e w4 ⟨rfl,hw⟩;obtain rfl:=hw.symm)
 go_ret2
 exact⟨_,by simp,HF.out⟩
theorem told_six2{w:World}{s:St}{fr:List Nat}{r:RSt}(h:TwoAt w s fr r)(i:Nat)(hi:i < s.vols.length):∃(nm of_:ByteArray) (sz rm kp:Nat) (lo:Bool),s.told (s.vols[i]!)=[.string nm,.int .i64 sz,.string of_,.int .i64 rm,.int .i64 kp,.bool lo]/\nm=(s.vols[i]!).name/\sz<=200:=by
 have e:=told_rel (h.rel.each i hi) (fun _=>name_ne_nil h.good (h.pool.orgOf (get_mem hi)).1) (h.pool.orgOf (get_mem hi)).2.2.1;have hd:=(h.ref.vols _ (getRv (l:=r.vols) (i:=i) (by rw[h.rel.len];exact hi))).data;have hn:=(h.rel.each i hi).name;rw[<-e,<-hn];unfold RVol.told
 split
 ·exact⟨_,_,_,0,0,_,rfl,rfl,hd⟩
 ·exact⟨_,_,_,_,_,_,rfl,rfl,hd⟩
theorem whole_calls(bb:Nat)(s:St)(fr:List Nat)(r:RSt)(w:World)(h:BothAt w bb s fr r) :
 Calls Tryz.prog 13 #[.pointer (some ⟨bb,0,none⟩)] w fun e w'=>e=.returned (.bool true)/\Same [] w w':=by
 have h1:=listed_calls bb s fr r w h;have hnot:=runNotR;have hfew:=h.two.pool.few;have hF1:=fun W (hW:Same [] w W)=>free_calls s W (h.two.pool.new hW)
 have hF2:=fun W (hW:Same [] w W)=>refFreeN_calls r W (h.two.ref.same0 hW)
 rw[free_same h.two] at hF2;have HB:Hid (BothAt w bb s fr r):=h;have HHAS:Hid (∀i,i < s.vols.length->s.has (s.vols[i]!).name=true):=fun i hi=>by
  unfold St.has;exact (isIn_iff h.two.pool.names_sorted _).2 (List.mem_map_of_mem (get_mem hi))
 have HTL:Hid (∀i,i < s.vols.length->∀j,j < 6->(s.toldAll s.vols)[i * 6+j]? = (s.told (s.vols[i]!))[j]?):=fun i hi j hj=>toldAll_get s s.vols i j hi hj
 have HSIX:Hid (∀i,i < s.vols.length->∃(nm of_:ByteArray) (sz rm kp:Nat) (lo:Bool),s.told (s.vols[i]!)=[.string nm,.int .i64 sz,.string of_,.int .i64 rm,.int .i64 kp,.bool lo]/\nm=(s.vols[i]!).name/\sz<=200):=fun i hi=>told_six2 h.two i hi
 generalize s.toldAll s.vols=TL at *;generalize hN:s.vols.length=N at *;have HN0:Hid (N≠0->s.vols≠[]):=fun hn e=>hn (by rw[<-hN,e];rfl)
 clear h hN
 go_enter Tryz.func13,Tryz.ntmps13
 go_wp2_with (go_at_call 19;refine h1.mono ?_;rintro e w1 ⟨a1,rfl,S1,hl1⟩)
 have HK:Hid (∀w',Same [] w1 w'->w'.cell? ⟨bb,0,none⟩=some (.pointer (some ⟨s.pb,0,none⟩))/\w'.cell? ⟨bb,1,none⟩=some (.pointer (some ⟨r.rb,0,none⟩))):=fun w' hw=>⟨(HB.out.new (S1.step hw (by simp))).both.cell? 0,(HB.out.new (S1.step hw (by simp))).both.cell? 1⟩
 have hK1:=HK.out w1 (Same.refl _ _)
 go_region_held3 (fun w'=>w'.cell? ⟨bb,0,none⟩=some (.pointer (some ⟨s.pb,0,none⟩))/\w'.cell? ⟨bb,1,none⟩=some (.pointer (some ⟨r.rb,0,none⟩))) (first|assumption|exact hK1) (first|(go_at_call 27;refine (hF1 _ (S1.drew)).mono ?_;rintro e w2 ⟨rfl,hw⟩;obtain rfl:=hw.symm)|(go_at_call 30;refine (hF2 _ (S1.drew)).mono ?_;rintro e w3 ⟨rfl,S3⟩;have hk3:=HK.out w3 (((Same.refl [] w1).drew).step S3 (by simp))))
 have S4:Same [] w1 w3:=((Same.refl [] w1).drew).step S3 (by simp);have HL1:Hid (s.vols≠[]->∃g cs,a1=some ⟨g,0,none⟩/\At w3 g 57 cs/\cs.take (N * 6)=TL):=fun hn=>by
  obtain⟨g,cs,q1,q2,q3,q4⟩:=hl1 hn;exact⟨g,cs,q1,S4.at q3 (by simp),q4⟩
 have S5:Same [] w w3:=S1.step S4 (by simp);clear h1 hl1 hF1 hF2 hK1 hk3 S3
 go_wp2
 go_loopw [4,5] (fun ok i wr=>∃k:Nat,k<=N/\ok=.bool true/\i=.int .i64 k/\Same [] w3 wr) (fun _ i _=>N - (intOf i).toNat)
 case atStart=>exact⟨0,Nat.zero_le _,rfl,rfl,Same.refl _ _⟩
 case round=>
  obtain⟨k,hk,rfl,rfl,hS⟩:=hrel;by_cases hkl:k < N
  ·have hne:=HN0.out (by omega);obtain⟨g1,cs1,rfl,hA1,ht1⟩:=HL1.out hne;obtain⟨nm,of_,sz,rm,kp,lo,h6,hnm,hsz⟩:=HSIX.out k hkl;have key1:∀W,Same [] w3 W->∀j,j < 6->W.cell? ⟨g1,k * 6+j,none⟩=([.string nm,.int .i64 sz,.string of_,.int .i64 rm,.int .i64 kp,.bool lo]:List Value)[j]?:=fun W hW j hj=>by
    rw[(hW.at hA1 (by simp)).cell?,<-h6,<-HTL.out k hkl j hj,<-ht1,List.getElem?_take,if_pos (by omega)]
   have HKY:Hid (∀W,Same [] w3 W->W.cell? ⟨g1,k * 6,none⟩=some (.string nm)/\W.cell? ⟨g1,k * 6+1,none⟩=some (.int .i64 sz)):=fun W hW=>⟨key1 W hW 0 (by omega),key1 W hW 1 (by omega)⟩
   have hhas:=HHAS.out k hkl;rw[<-hnm] at hhas;have hM:=mapped_some bb s fr r wr (HB.out.new (S5.step hS (by simp))) nm hhas;obtain⟨a0,a1⟩:=HKY.out wr hS;have l1:(k:Int) < (N:Int):=by omega
   clear key1 h6 hA1 ht1 hnm
   go_wp2_with (go_at_call 21;refine hM.mono ?_;rintro e w4 ⟨gm,csm,rfl,_,_,S6⟩)
   have S7:Same [] w3 w4:=hS.step S6 (by simp);clear hM a0 a1
   go_loopw [4,6] (fun ok i wi=>∃q:Nat,q<=sz/\ok=.bool true/\i=.int .i64 q/\Same [] w3 wi) (fun _ i _=>sz - (intOf i).toNat)
   case atStart=>exact⟨0,Nat.zero_le _,rfl,rfl,S7⟩
   case round=>
    obtain⟨q,hq,rfl,rfl,hSi⟩:=hrel;obtain⟨a0,a1⟩:=HKY.out wr hSi;by_cases hql:q < sz
    ·have hR:=bread_calls bb s fr r wr (HB.out.new (S5.step hSi (by simp))) nm q;have l2:(q:Int) < (sz:Int):=by omega
     go_wp2_with (go_at_call 29;refine hR.mono ?_;rintro e w5 ⟨rfl,S8⟩)
     go_roundw
     case rel=>exact⟨q+1,by omega,rfl,by go_num,hSi.step S8 (by simp)⟩
     case measure=>simp[intOf];omega
    ·have eq:q=sz:=by omega
     subst eq
     go_wp2_with fail
     go_roundw
     case rel=>exact⟨k+1,by omega,rfl,by go_num,hSi⟩
     case measure=>simp[intOf];omega
  ·have ek:k=N:=by omega
   subst ek;have HE:Hid _:=S5.step hS (by simp);clear HL1 HTL HSIX hS S1 S4 S5 HK
   go_wp2
   go_ret
   exact⟨rfl,HE.out⟩
theorem turned_all(k:Int)(hk:k=1\/k=2\/k=4\/k=5\/k=9\/k=10)(bb:Nat)(s:St)(fr:List Nat)(r:RSt)(w:World)(h:BothAt w bb s fr r)(kk a:Int)(t u x:ByteArray)(ht:t.size<=maxLen)(hx:x.size<=maxLen) :
 Calls Tryz.prog 28 #[.pointer (some ⟨bb,0,none⟩),opVal k kk a t u x] w fun e w'=>e=.returned (.bool true)/\BothNext w bb s r w':=by
 rcases hk with rfl|rfl|rfl|rfl|rfl|rfl
 ·exact turned_create bb s fr r w h kk a t u x ht
 ·exact turned_write bb s fr r w h kk a t u x hx
 ·exact turned_resize bb s fr r w h kk a t u x ht
 ·exact turned_remove bb s fr r w h kk a t u x ht
 ·exact turned_picture bb s fr r w h kk a t u x ht
 ·exact turned_revert bb s fr r w h kk a t u x ht
theorem step_turned(k:Int)(hk:k=1\/k=2\/k=4\/k=5\/k=9\/k=10)(bb:Nat)(s:St)(fr:List Nat)(r:RSt)(w:World)(h:BothAt w bb s fr r)(kk a:Int)(t u x:ByteArray)(ht:t.size<=maxLen)(hx:x.size<=maxLen) :
 Calls Tryz.prog 12 #[.pointer (some ⟨bb,0,none⟩),opVal k kk a t u x] w fun e w'=>e=.returned (.bool true)/\BothNext w bb s r w':=by
 have hT:=turned_all k hk bb s fr r (w.alloc (.cells #[.int .i64 k,.int .i64 kk,.int .i64 a,.string t,.string u,.string x] 34)) (h.new ((Same.refl _ _).alloc _)) kk a t u x ht hx;have HO:Hid (∀w',BothNext (w.alloc (.cells #[.int .i64 k,.int .i64 kk,.int .i64 a,.string t,.string u,.string x] 34)) bb s r w'->BothNext w bb s r w'):=fun w' hn=>hn.old ((Same.refl _ _).alloc _)
 unfold opVal at hT ⊢;clear h;rcases hk with rfl|rfl|rfl|rfl|rfl|rfl
 all_goals
  go_enter Tryz.func12,Tryz.ntmps12
  go_wp2_with (go_at_call 28;refine hT.mono ?_;rintro e w1 ⟨rfl,hN⟩)
  go_ret
  exact⟨rfl,HO.out _ hN⟩
theorem step_asked(k:Int)(hk:k=3\/k=6\/k=7\/k=8)(bb:Nat)(s:St)(fr:List Nat)(r:RSt)(w:World)(h:BothAt w bb s fr r)(kk a:Int)(t u x:ByteArray) :
 Calls Tryz.prog 12 #[.pointer (some ⟨bb,0,none⟩),opVal k kk a t u x] w fun e w'=>e=.returned (.bool true)/\Same [] w w':=by
 have S0:Same [] w (w.alloc (.cells #[.int .i64 k,.int .i64 kk,.int .i64 a,.string t,.string u,.string x] 34)):=(Same.refl _ _).alloc _;have hB:=h.new S0;unfold opVal;rcases hk with rfl|rfl|rfl|rfl
 ·have hR:=bread_calls bb s fr r _ hB t a;clear h hB
  go_enter Tryz.func12,Tryz.ntmps12
  go_wp2_with (go_at_call 29;refine hR.mono ?_;rintro e w1 ⟨rfl,S1⟩)
  go_ret
  exact⟨rfl,S0.step S1 (by simp)⟩
 ·have hR:=listed_calls bb s fr r _ hB;clear h hB
  go_enter Tryz.func12,Tryz.ntmps12
  go_wp2_with (go_at_call 19;refine hR.mono ?_;rintro e w1 ⟨aa,rfl,S1,_⟩)
  go_ret
  exact⟨rfl,S0.step S1 (by simp)⟩
 ·by_cases hh:s.has t=true
  ·have hR:=mapped_some bb s fr r _ hB t hh;clear h hB
   go_enter Tryz.func12,Tryz.ntmps12
   go_wp2_with (go_at_call 21;refine hR.mono ?_;rintro e w1 ⟨g,cs,rfl,_,_,S1⟩)
   go_ret
   exact⟨rfl,S0.step S1 (by simp)⟩
  ·have hR:=mapped_none bb s fr r _ hB t (by simpa using hh);clear h hB
   go_enter Tryz.func12,Tryz.ntmps12
   go_wp2_with (go_at_call 21;refine hR.mono ?_;rintro e w1 ⟨rfl,hw⟩;obtain rfl:=hw.symm)
   go_ret
   exact⟨rfl,S0⟩
 ·have hF1:=fun W (hW:Same [] w W)=>free_calls s W (h.two.pool.new hW)
  have hF2:=fun W (hW:Same [] w W)=>refFreeN_calls r W (h.two.ref.same0 hW)
  rw[free_same h.two] at hF2;have HK:Hid (∀w',Same [] w w'->w'.cell? ⟨bb,0,none⟩=some (.pointer (some ⟨s.pb,0,none⟩))/\w'.cell? ⟨bb,1,none⟩=some (.pointer (some ⟨r.rb,0,none⟩))):=fun w' hw=>⟨(h.new hw).both.cell? 0,(h.new hw).both.cell? 1⟩
  have hK1:=HK.out _ S0;clear h hB
  go_enter Tryz.func12,Tryz.ntmps12
  go_wp2_with fail
  go_region_held3 (fun w'=>w'.cell? ⟨bb,0,none⟩=some (.pointer (some ⟨s.pb,0,none⟩))/\w'.cell? ⟨bb,1,none⟩=some (.pointer (some ⟨r.rb,0,none⟩))) (first|assumption|exact hK1) (first|(go_at_call 27;refine (hF1 _ (S0.drew)).mono ?_;rintro e w2 ⟨rfl,hw⟩;obtain rfl:=hw.symm)|(go_at_call 30;refine (hF2 _ (S0.drew)).mono ?_;rintro e w3 ⟨rfl,S3⟩;have hk3:=HK.out w3 ((S0.drew).step S3 (by simp))))
  go_wp2
  go_ret
  exact⟨by simp,(S0.drew).step S3 (by simp)⟩
theorem step_other(k:Int)(hk:¬(1<=k/\k<=12))(bb:Nat)(w:World)(kk a:Int)(t u x:ByteArray) :
 Calls Tryz.prog 12 #[.pointer (some ⟨bb,0,none⟩),opVal k kk a t u x] w fun e w'=>e=.returned (.bool true)/\Same [] w w':=by
 have S0:Same [] w (w.alloc (.cells #[.int .i64 k,.int .i64 kk,.int .i64 a,.string t,.string u,.string x] 34)):=(Same.refl _ _).alloc _;unfold opVal;have n1:(k == 1)=false:=beq_eq_false_iff_ne.2 (by omega);have n2:(k == 2)=false:=beq_eq_false_iff_ne.2 (by omega);have n3:(k == 3)=false:=beq_eq_false_iff_ne.2 (by omega);have n4:(k == 4)=false:=beq_eq_false_iff_ne.2 (by omega);have n5:(k == 5)=false:=beq_eq_false_iff_ne.2 (by omega);have n6:(k == 6)=false:=beq_eq_false_iff_ne.2 (by omega);have n7:(k == 7)=false:=beq_eq_false_iff_ne.2 (by omega);have n8:(k == 8)=false:=beq_eq_false_iff_ne.2 (by omega);have n9:(k == 9)=false:=beq_eq_false_iff_ne.2 (by omega);have n10:(k == 10)=false:=beq_eq_false_iff_ne.2 (by omega);have n11:(k == 11)=false:=beq_eq_false_iff_ne.2 (by omega);have n12:(k == 12)=false:=beq_eq_false_iff_ne.2 (by omega);clear hk
 go_enter Tryz.func12,Tryz.ntmps12
 go_wp2
 go_ret
 exact⟨rfl,S0⟩
theorem step_ten(k:Int)(hk:k<=10)(bb:Nat)(s:St)(fr:List Nat)(r:RSt)(w:World)(h:BothAt w bb s fr r)(kk a:Int)(t u x:ByteArray)(ht:t.size<=maxLen)(hx:x.size<=maxLen) :
 Calls Tryz.prog 12 #[.pointer (some ⟨bb,0,none⟩),opVal k kk a t u x] w fun e w'=>e=.returned (.bool true)/\BothNext w bb s r w':=by
 by_cases h1:k=1\/k=2\/k=4\/k=5\/k=9\/k=10
 ·exact step_turned k h1 bb s fr r w h kk a t u x ht hx
 ·by_cases h2:k=3\/k=6\/k=7\/k=8
  ·exact (step_asked k h2 bb s fr r w h kk a t u x).mono fun e w' ⟨a,b⟩=>⟨a,BothNext.still h b⟩
  ·exact (step_other k (by omega) bb w kk a t u x).mono fun e w' ⟨a,b⟩=>⟨a,BothNext.still h b⟩
structure Script(w:World)(a:Option Addr)(len:Nat)(b off:Nat):Prop where
 adr:0 < len->a=some ⟨b,off,none⟩/\b < w.heap.size
 le:len<=9223372036854775807
 cells:∀i,i < len->∃(k kk x:Int) (t u y:ByteArray),t.size<=maxLen/\y.size<=maxLen/\w.cell? ⟨b,off+i * 6,none⟩=some (.int .i64 k)/\w.cell? ⟨b,off+i * 6+1,none⟩=some (.int .i64 kk)/\w.cell? ⟨b,off+i * 6+2,none⟩=some (.int .i64 x)/\w.cell? ⟨b,off+i * 6+3,none⟩=some (.string t)/\w.cell? ⟨b,off+i * 6+4,none⟩=some (.string u)/\w.cell? ⟨b,off+i * 6+5,none⟩=some (.string y)
structure BothIn(w w':World)(bb:Nat):Prop where
 ex:∃s fr r,BothAt w' bb s fr r/\1<=s.n/\∀k∈bb :: (s.foot++r.foot),w.heap.size<=k
 same:Same [] w w'
theorem BothIn.next{w w1 w2:World}{bb:Nat}{s:St}{fr:List Nat}{r:RSt}(hB:BothAt w1 bb s fr r)(hn:1<=s.n)(hf:∀k∈bb :: (s.foot++r.foot),w.heap.size<=k)(hS:Same [] w w1)(hN:BothNext w1 bb s r w2):BothIn w w2 bb:=by
 obtain⟨⟨s',fr',r',h1,hn',h2⟩,h3⟩:=hN;have hz:=hS.size;refine⟨⟨s',fr',r',h1,by omega,fun k hk=>?_⟩,hS.step h3 (fun k hk hl=>?_)⟩
 ·rcases List.mem_cons.1 hk with rfl|hk
  ·exact hf _ (by simp)
  ·rcases h2 k hk with e|e
   ·exact hf k (List.mem_cons_of_mem _ e)
   ·omega
 ·have:=hf k (List.mem_cons_of_mem _ hk);omega
theorem play_calls(n:Int)(a:Option Addr)(len cap b off:Nat)(last:Int)(w:World)(hs:Script w a len b off)
 (hstep:∀(k:Int),k<=last->∀(bb:Nat) (w1:World) (kk x:Int) (t u y:ByteArray),t.size<=maxLen->y.size<=maxLen->BothIn w w1 bb->Calls Tryz.prog 12 #[.pointer (some ⟨bb,0,none⟩),opVal k kk x t u y] w1 fun e w'=>e=.returned (.bool true)/\BothIn w w' bb) :
 Calls Tryz.prog 7 #[.int .i64 n,.slice a len cap,.int .i64 last] w fun e w'=>e=.returned (.bool true)/\Same [] w w':=by
 have hnot:=runNotR;by_cases hn:1<=n/\n<=200
 case neg=>
  have h1:=begun_no n w hn;clear hs hstep
  go_enter Tryz.func7,Tryz.ntmps7
  go_wp2_with (go_at_call 11;refine h1.mono ?_;rintro e w1 ⟨rfl,hw⟩;obtain rfl:=hw.symm)
  go_ret
  exact⟨rfl,Same.refl _ _⟩
 obtain⟨m,rfl⟩:∃m:Nat,n=m:=⟨n.toNat,by omega⟩
 have h1:=begun_ok m w (by omega);have HS:Hid (Script w a len b off):=hs;have HST:Hid (∀(k:Int),k<=last->∀(bb:Nat) (w1:World) (kk x:Int) (t u y:ByteArray),t.size<=maxLen->y.size<=maxLen->BothIn w w1 bb->Calls Tryz.prog 12 #[.pointer (some ⟨bb,0,none⟩),opVal k kk x t u y] w1 fun e w'=>e=.returned (.bool true)/\BothIn w w' bb):=hstep;have hlen:=hs.le;clear hs hstep
 go_enter Tryz.func7,Tryz.ntmps7
 go_wp2_with (go_at_call 11;refine h1.mono ?_;rintro e w1 ⟨bb,rfl,hN⟩)
 have hI0:BothIn w w1 bb:=by
  obtain⟨⟨s,fr,r,q1,qn,_,q2⟩,q3⟩:=hN;exact⟨⟨s,fr,r,q1,by omega,q2⟩,q3⟩
 clear h1 hN
 go_loopw [8,9] (fun ok i wr=>∃k:Nat,k<=len/\ok=.bool true/\i=.int .i64 k/\BothIn w wr bb) (fun _ i _=>len - (intOf i).toNat)
 case atStart=>exact⟨0,Nat.zero_le _,rfl,rfl,hI0⟩
 case round=>
  obtain⟨k,hk,rfl,rfl,hI⟩:=hrel;by_cases hkl:k < len
  ·obtain⟨rfl,hbw⟩:=HS.out.adr (by omega);obtain⟨kd,kk,x,t,u,y,ht,hy,d0,d1,d2,d3,d4,d5⟩:=HS.out.cells k hkl;have hbe:=hI.same.below (Nat.le_refl _) (by simp);have e0:wr.cell? ⟨b,off+k * 6,none⟩=some (.int .i64 kd):=by rw[hbe.cell hbw];exact d0
   have e1:wr.cell? ⟨b,off+k * 6+1,none⟩=some (.int .i64 kk):=by rw[hbe.cell hbw];exact d1
   have e2:wr.cell? ⟨b,off+k * 6+2,none⟩=some (.int .i64 x):=by rw[hbe.cell hbw];exact d2
   have e3:wr.cell? ⟨b,off+k * 6+3,none⟩=some (.string t):=by rw[hbe.cell hbw];exact d3
   have e4:wr.cell? ⟨b,off+k * 6+4,none⟩=some (.string u):=by rw[hbe.cell hbw];exact d4
   have e5:wr.cell? ⟨b,off+k * 6+5,none⟩=some (.string y):=by rw[hbe.cell hbw];exact d5
   have l1:(k:Int) < (len:Int):=by omega
   clear d0 d1 d2 d3 d4 d5 hbe;by_cases hkd:kd<=last
   ·have hT:=HST.out kd hkd bb wr kk x t u y ht hy hI;unfold opVal at hT;clear hI hI0
    go_wp2_with (go_at_call 12;refine hT.mono ?_;rintro e w2 ⟨rfl,hI2⟩)
    go_roundw
    case rel=>exact⟨k+1,by omega,rfl,by go_num,hI2⟩
    case measure=>simp[intOf];omega
   ·have hkd':last < kd:=by omega
    go_wp2
    go_roundw
    case rel=>exact⟨k+1,by omega,rfl,by go_num,hI⟩
    case measure=>simp[intOf];omega
  ·have ek:k=len:=by omega
   subst ek;obtain⟨⟨s,fr,r,hB,_,_⟩,hSm⟩:=hI;have hW:=whole_calls bb s fr r wr hB;clear hB hI0
   go_wp2_with (go_at_call 13;refine hW.mono ?_;rintro e w2 ⟨rfl,S2⟩)
   go_ret
   exact⟨rfl,hSm.step S2 (by simp)⟩
end
section
open Go.ChangeShapes Go.WideShapes Go.ChangeAt Go.RowKit
theorem Tryz.cellsOp:Tryz.prog.cellsOf 34=6:=by kernel_rfl
theorem Tryz.cellsInt:Tryz.prog.cellsOf 3=1:=by kernel_rfl
theorem Tryz.cellsString:Tryz.prog.cellsOf 9=1:=by kernel_rfl
theorem six_of{α:Type}:∀(l:List α),l.length=6->∃a b c d e f,l=[a,b,c,d,e,f]
 | [a,b,c,d,e,f],_=>⟨a,b,c,d,e,f,rfl⟩
 | [],h=>by simp at h
 | [_],h=>by simp at h
 | [_,_],h=>by simp at h
 | [_,_,_],h=>by simp at h
 | [_,_,_,_],h=>by simp at h
 | [_,_,_,_,_],h=>by simp at h
 | _ :: _ :: _ :: _ :: _ :: _ :: _ :: _,h=>by simp at h
theorem script_open{H:Type}{enc:TypeId×Value->H}{W:World}{fuel:Nat}{a:Option Addr}{len cap:Nat}{x:DataW H×List MemPlace}
 (h:DataW.trod enc Tryz.prog W 0 (fun _=>true) true fuel 22 [.slice a len cap]=some x):∃b off,Script W a len b off:=by
 rcases Deep.open_slice Tryz.underlying22 h with⟨h0,_⟩|⟨ad,l,c,m,n,D,Pl,h0,hb,hl,hm,hmm,_,hx⟩
 ·simp only[List.cons.injEq,Value.slice.injEq,and_true] at h0;obtain⟨rfl,rfl,rfl⟩:=h0;exact⟨0,0,by omega,by omega,fun i hi=>by omega⟩
 ·simp only[List.cons.injEq,Value.slice.injEq,and_true] at h0;obtain⟨rfl,rfl,rfl⟩:=h0;have hmm':m=cap:=by simpa using hmm
  subst hmm';unfold maxLen at hm;by_cases hl0:len=0
  ·subst hl0;exact⟨0,0,by omega,by omega,fun i hi=>by omega⟩
  obtain⟨xb,xo,xs⟩:=ad;have each:∀i,i < len->∃(k kk x:Int) (t u y:ByteArray),t.size<=maxLen/\y.size<=maxLen/\W.cell? (Addr.add ⟨xb,xo,xs⟩ (i * 6))=some (.int .i64 k)/\W.cell? (Addr.add ⟨xb,xo,xs⟩ (i * 6+1))=some (.int .i64 kk)/\W.cell? (Addr.add ⟨xb,xo,xs⟩ (i * 6+2))=some (.int .i64 x)/\W.cell? (Addr.add ⟨xb,xo,xs⟩ (i * 6+3))=some (.string t)/\W.cell? (Addr.add ⟨xb,xo,xs⟩ (i * 6+4))=some (.string u)/\W.cell? (Addr.add ⟨xb,xo,xs⟩ (i * 6+5))=some (.string y):=by
   intro i hi;obtain⟨cs',h1,h2⟩:=hx i (by omega);rw[Tryz.cellsOp] at h1;obtain⟨_,hlen,hcell⟩:=World.cells?_some h1;obtain⟨ys,q,_,_,_,hyl,hf⟩:=DataW.trod_struct Tryz.underlying34 h2;obtain⟨v0,v1,v2,v3,v4,v5,rfl⟩:=six_of cs' hlen;have g0:DataW.trod enc Tryz.prog W 0 (fun _=>true) true q 3 ((([v0,v1,v2,v3,v4,v5]:List Value).drop 0).take (Tryz.prog.cellsOf 3))=ys[0]?:=hf 0 _ rfl;have g1:DataW.trod enc Tryz.prog W 0 (fun _=>true) true q 3 ((([v0,v1,v2,v3,v4,v5]:List Value).drop 1).take (Tryz.prog.cellsOf 3))=ys[1]?:=hf 1 _ rfl;have g2:DataW.trod enc Tryz.prog W 0 (fun _=>true) true q 3 ((([v0,v1,v2,v3,v4,v5]:List Value).drop 2).take (Tryz.prog.cellsOf 3))=ys[2]?:=hf 2 _ rfl;have g3:DataW.trod enc Tryz.prog W 0 (fun _=>true) true q 9 ((([v0,v1,v2,v3,v4,v5]:List Value).drop 3).take (Tryz.prog.cellsOf 9))=ys[3]?:=hf 3 _ rfl;have g4:DataW.trod enc Tryz.prog W 0 (fun _=>true) true q 9 ((([v0,v1,v2,v3,v4,v5]:List Value).drop 4).take (Tryz.prog.cellsOf 9))=ys[4]?:=hf 4 _ rfl;have g5:DataW.trod enc Tryz.prog W 0 (fun _=>true) true q 9 ((([v0,v1,v2,v3,v4,v5]:List Value).drop 5).take (Tryz.prog.cellsOf 9))=ys[5]?:=hf 5 _ rfl;rw[Tryz.cellsInt] at g0 g1 g2;rw[Tryz.cellsString] at g3 g4 g5;have hy6:ys.length=6:=by simpa using hyl
   rw[List.getElem?_eq_getElem (by omega)] at g0 g1 g2 g3 g4 g5;obtain⟨k,e0,_,_⟩:=DataW.trod_int Tryz.underlying3 g0;obtain⟨kk,e1,_,_⟩:=DataW.trod_int Tryz.underlying3 g1;obtain⟨x,e2,_,_⟩:=DataW.trod_int Tryz.underlying3 g2;obtain⟨t,e3,_,ht⟩:=DataW.trod_string Tryz.underlying9 g3;obtain⟨u,e4,_,hu⟩:=DataW.trod_string Tryz.underlying9 g4;obtain⟨y,e5,_,hy⟩:=DataW.trod_string Tryz.underlying9 g5;simp only[List.drop_succ_cons,List.drop_zero,List.take_succ_cons,List.take_zero,List.cons.injEq,and_true] at e0 e1 e2 e3 e4 e5;subst e0 e1 e2 e3 e4 e5;have c0:=hcell 0 (by omega);have c1:=hcell 1 (by omega);have c2:=hcell 2 (by omega);have c3:=hcell 3 (by omega);have c4:=hcell 4 (by omega);have c5:=hcell 5 (by omega);rw[Deep.add_add] at c0 c1 c2 c3 c4 c5;exact⟨k,kk,x,t,u,y,ht,hy,by simpa using c0,by simpa using c1,by simpa using c2,by simpa using c3,by simpa using c4,by simpa using c5⟩
  obtain⟨k0,_,_,_,_,_,_,_,h00,_⟩:=each 0 (by omega);have hxs:xs=none:=by
   cases xs with
   | none=>rfl
   | some sp=>simp[Addr.add,World.cell?] at h00;split at h00<;>simp at h00
  subst hxs;have hblt:xb < W.heap.size:=by
   have h01:W.cell? ⟨xb,xo+0,none⟩=some (.int .i64 k0):=by rw[Addr.add_lit] at h00;simpa using h00
   obtain⟨c,e,fr,hb,_⟩:=Sort.cells_of_cell? h01;rcases Nat.lt_or_ge xb W.heap.size with h'|h'
   ·exact h'
   ·rw[Array.getElem?_eq_none h'] at hb;cases hb
  refine⟨xb,xo,fun _=>⟨rfl,hblt⟩,by omega,fun i hi=>?_⟩;obtain⟨k,kk,x,t,u,y,ht,hy,c0,c1,c2,c3,c4,c5⟩:=each i hi;rw[Addr.add_lit] at c0 c1 c2 c3 c4 c5;exact⟨k,kk,x,t,u,y,ht,hy,c0,by rw[Nat.add_assoc];exact c1,by rw[Nat.add_assoc];exact c2,by rw[Nat.add_assoc];exact c3,by rw[Nat.add_assoc];exact c4,by rw[Nat.add_assoc];exact c5⟩
end
end Go.Proofs.YtpddgdjocffgdaaGreat
