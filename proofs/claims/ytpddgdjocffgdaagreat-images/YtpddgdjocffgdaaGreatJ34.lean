/- The law's 'loaded': both read the same bytes: the same error and place, or two Pools that hold the same. The law's steps Image and Load of it. The law Images, by a contract. -/
import Derived.Test.YtpddgdjocffgdaaGreatJ33
import Derived.Test.YtpddgdjocffgdaaGreatJ14
import Derived.Test.YtpddgdjocffgdaaGreatJ17
namespace Go.Proofs.YtpddgdjocffgdaaGreat
set_option linter.unusedVariables false
set_option linter.unusedSimpArgs false
set_option linter.unusedSectionVars false
set_option maxHeartbeats 16000000
set_option maxRecDepth 100000
section
open Go.RowKit Go.Sort
variable [DecidableEq Blk] [Inhabited Blk] [Inhabited Vol] [Inhabited PEnt] [Inhabited RVol] [Inhabited RRow]
structure BothLoaded(w w':World)(I:List UInt8)(bb:Nat):Prop where
 ex:∃s fr r,BothAt w' bb s fr r/\imgB s=I/\Imaged s w'/\1<=s.n/\∀k∈bb :: (s.foot++r.foot),w.heap.size<=k
 same:Same [] w w'
inductive LoadedPost (w:World) (I:List UInt8) (e:Ending) (w':World):Prop where
 | no (h:e=.returned (.tuple #[.pointer none,.bool true])) (why:¬(2<=I.length/\endN I=sumB (aheadB I))\/∃q,rpool (aheadB I)=.error q) (same:Same [] w w'):LoadedPost w I e w'
 | ok (bb:Nat) (h:e=.returned (.tuple #[.pointer (some ⟨bb,0,none⟩),.bool true])) (ok:BothLoaded w w' I bb):LoadedPost w I e w'
theorem loaded_no(w:World)(b off:Nat)(I:List UInt8)(cap:Nat)(c z:Int)(hc0:0<=c)(hc:c<=13)(hcell:∀i,i < I.length->w.cell? ⟨b,off+i,none⟩=some (byteV I[i]!))
 (h1:Calls Tryz.prog 64 #[.slice (some ⟨b,off,none⟩) I.length cap] w fun e w'=>e=.returned (.tuple #[.pointer none,.int .i64 c,.int .i64 z])/\Same [] w w')
 (h2:∀W,Calls Tryz.prog 65 #[.string ⟨I.toArray⟩] W fun e w'=>e=.returned (.tuple #[.pointer none,.int .i64 c,.int .i64 z])/\Same [] W w') :
 Calls Tryz.prog 32 #[.slice (some ⟨b,off,none⟩) I.length cap] w fun e w'=>e=.returned (.tuple #[.pointer none,.bool true])/\Same [] w w':=by
 have hcv:=text_conv w b off I.length I rfl hcell cap;have hnum:=fun W=>num_int c W hc0 hc
 generalize (⟨I.toArray⟩:ByteArray)=t at *;clear hcell
 go_enter Tryz.func32,Tryz.ntmps32
 go_wp2_with (first|(go_at_call 64;refine h1.mono ?_;rintro e w1 ⟨rfl,S1⟩;dsimp only)|(go_at_call 65;refine (h2 _).mono ?_;rintro e w2 ⟨rfl,S2⟩;dsimp only)|(go_at_call 26;refine (hnum _).mono ?_;rintro e w3 ⟨rfl,hw⟩;obtain rfl:=hw.symm;dsimp only))
 go_ret2
 exact⟨rfl,S1.step S2 (by simp)⟩
theorem loaded_yes(w:World)(b off:Nat)(I:List UInt8)(cap:Nat)(P1:Nat->World->Prop)(P2:World->Nat->World->Prop)(hcell:∀i,i < I.length->w.cell? ⟨b,off+i,none⟩=some (byteV I[i]!))
 (h1:Calls Tryz.prog 64 #[.slice (some ⟨b,off,none⟩) I.length cap] w fun e w'=>∃pb,e=.returned (.tuple #[.pointer (some ⟨pb,0,none⟩),.int .i64 0,.int .i64 0])/\P1 pb w')
 (h2:∀W,Calls Tryz.prog 65 #[.string ⟨I.toArray⟩] W fun e w'=>∃rb,e=.returned (.tuple #[.pointer (some ⟨rb,0,none⟩),.int .i64 0,.int .i64 0])/\P2 W rb w') :
 Calls Tryz.prog 32 #[.slice (some ⟨b,off,none⟩) I.length cap] w fun e w'=>∃pb rb w1 w2,e=.returned (.tuple #[.pointer (some ⟨w2.heap.size,0,none⟩),.bool true])/\Hid (P1 pb w1)/\Hid (P2 w1 rb w2)/\w'=w2.alloc (.cells #[.pointer (some ⟨pb,0,none⟩),.pointer (some ⟨rb,0,none⟩)] 67):=by
 have hcv:=text_conv w b off I.length I rfl hcell cap;have hnum:=fun W=>num_int 0 W (by omega) (by omega)
 generalize (⟨I.toArray⟩:ByteArray)=t at *;clear hcell
 go_enter Tryz.func32,Tryz.ntmps32
 go_wp2_with (go_at_call 64;refine h1.mono ?_;rintro e w1 ⟨pb,rfl,hP1⟩;dsimp only)
 have HP1:=hid hP1;clear hP1 h1
 go_wp2_with (go_at_call 65;refine (h2 _).mono ?_;rintro e w2 ⟨rb,rfl,hP2⟩;dsimp only)
 have HP2:=hid hP2;clear hP2 h2
 go_wp2_with (go_at_call 26;refine (hnum _).mono ?_;rintro e w3 ⟨rfl,hw⟩;obtain rfl:=hw.symm;dsimp only)
 go_ret2
 exact⟨pb,rb,w1,w2,rfl,HP1,HP2,rfl⟩
theorem end_bytes(I:List UInt8)(h2:2<=I.length)(hs:endN I=sumB (aheadB I)):I=aheadB I++two (sumB (aheadB I)):=by
 obtain⟨m,hm⟩:∃m,I.length=m+2:=⟨I.length - 2,by omega⟩
 have hab:aheadB I=I.take m:=by unfold aheadB;rw[hm,Nat.add_sub_cancel]
 have hlen2:(I.drop m).length=2:=by rw[List.length_drop];omega
 obtain⟨x,y,hxy⟩:∃x y,I.drop m=[x,y]:=by
  match hq:I.drop m,hlen2 with
  | [x,y],_=>exact⟨x,y,rfl⟩
 have hend:endN I=valB [x,y]:=by
  unfold endN numAt;rw[hm,Nat.add_sub_cancel,hxy];rfl
 have hlt:sumB (aheadB I) < 65536:=by have:=sumB_lt (aheadB I);omega
 have:=(end_two x y _ hlt).2 (by rw[<-hend];exact hs);rw[<-this,hab,<-hxy,List.take_append_drop]
theorem loaded_new{w w':World}{B:List UInt8}{n at_:Nat}{pv:List (PEnt×Vol)}{pb db bb fb jg:Nat}{d:Array Int}(hraw:PoolRaw w w' B n at_ pv pb db bb fb jg d):∀k∈(ldSt pv pb db bb fb jg n B at_ d).foot,w.heap.size<=k:=by
 intro k hk;have hk':k∈pb :: db :: bb :: fb :: ((some jg).toList++(pv.map (joinV pv)).flatMap Vol.foot):=hk;rw[joinV_feet] at hk';obtain⟨o1,o2,o3,o4,o5,o6,o7⟩:=hraw.ord;simp only[List.mem_cons,List.mem_append,Option.toList_some,List.not_mem_nil,or_false] at hk';rcases hk' with rfl|rfl|rfl|rfl|rfl|hk'
 ·omega
 ·omega
 ·omega
 ·omega
 ·omega
 ·obtain⟨x,hx,hk⟩:=List.mem_flatMap.1 hk';exact (hraw.new x hx k hk).1
theorem blks8_get'{w w':World}{B:List UInt8}{n at_:Nat}{pv:List (PEnt×Vol)}{pb db bb fb jg:Nat}{d:Array Int}(hraw:PoolRaw w w' B n at_ pv pb db bb fb jg d)(x:Nat)(hx:x < n):(ldSt pv pb db bb fb jg n B at_ d).bl[x]! = blk8 B (at_+x * 8):=blks8_get B at_ n x hx
theorem blk8_fits(B:List UInt8)(i:Nat):(blk8 B i).fits:=fun n hn=>blk8_ok B i n hn
theorem loaded_calls(w:World)(b off:Nat)(I:List UInt8)(cap:Nat)(h:BytesOld w (some ⟨b,off,none⟩) I)(hcell:∀i,i < I.length->w.cell? ⟨b,off+i,none⟩=some (byteV I[i]!))(hcap:I.length<=cap) :
 Calls Tryz.prog 32 #[.slice (some ⟨b,off,none⟩) I.length cap] w (LoadedPost w I):=by
 have hL:=load_calls w (some ⟨b,off,none⟩) I cap h hcap;have hR:=fun W=>refLoad_calls W ⟨I.toArray⟩ (by have:=h.len;simpa [ByteArray.size] using this)
 have hI:(⟨I.toArray⟩:ByteArray).data.toList=I:=rfl;rw[hI] at hR;by_cases hs:2<=I.length/\endN I=sumB (aheadB I)
 ·cases hp:rpool (aheadB I) with
  | error q=>
   refine (loaded_no w b off I cap 12 q (by omega) (by omega) hcell (hL.mono fun e w' hh=>?_) (fun W=>(hR W).mono fun e w' hh=>?_)).mono fun e w' hh=>.no hh.1 (Or.inr ⟨q,hp⟩) hh.2
   ·unfold LoadPost at hh;rw[if_pos hs,hp] at hh;exact hh
   ·unfold RLoadPost ROk at hh;rw[if_pos hs,hp] at hh;exact hh
  | ok pr=>
   obtain⟨n,ps,at2⟩:=pr;refine (loaded_yes w b off I cap (fun pb w'=>∃pv db bb fb jg d,pv.map (·.1)=ps/\PoolRaw w w' (aheadB I) n at2 pv pb db bb fb jg d) (fun W rb w'=>∃r xs,r.rb=rb/\AllOk (aheadB I) n at2 xs ps/\TiedOk W w' (aheadB I) at2 n xs r.rb r/\Same [] W w') hcell (hL.mono fun e w' hh=>?_) (fun W=>(hR W).mono fun e w' hh=>?_)).mono fun e w' hh=>?_
   ·unfold LoadPost at hh;rw[if_pos hs,hp] at hh;obtain⟨pv,pb,db,bb,fb,jg,d,h1,h2,h3⟩:=hh;exact⟨pb,h1,pv,db,bb,fb,jg,d,h2,h3⟩
   ·unfold RLoadPost ROk at hh;rw[if_pos hs,hp] at hh;obtain⟨r,xs,h1,h2,h3,h4⟩:=hh;exact⟨r.rb,h1,r,xs,rfl,h2,h3,h4⟩
   ·obtain⟨pb,rb,w1,w2,rfl,hP1,hP2,rfl⟩:=hh;obtain⟨pv,db,b2,fb,jg,d,hps,hraw⟩:=hP1.out;obtain⟨r,xs,rfl,hA,hT,hS2⟩:=hP2.out;have hr:RpoolOk (aheadB I) n (pv.map (·.1)) at2:=rpool_ok (by rw[hps];exact hp);have hpool:=loaded_pool hraw hr;have hgood:=loaded_good hraw hr;have hspare:=loaded_spare hraw hr;have hrel:=loaded_rel hraw hps hp hA hT;have hbody:=loaded_body hraw (by rw[hps];exact hp);have S3:Same [] w2 (w2.alloc (.cells #[.pointer (some ⟨pb,0,none⟩),.pointer (some ⟨r.rb,0,none⟩)] 67)):=(Same.refl _ _).alloc _;have hsame:Same [] w (w2.alloc (.cells #[.pointer (some ⟨pb,0,none⟩),.pointer (some ⟨r.rb,0,none⟩)] 67)):=(hraw.same.step hS2 (by simp)).step S3 (by simp);have hpl:=hpool.foot_lt;have z1:=hraw.same.size;have z2:=hS2.size;have hrl:=hT.ref.foot_lt;have hnew:∀k∈(ldSt pv pb db b2 fb jg n (aheadB I) at2 d).foot,w.heap.size<=k:=loaded_new hraw;refine .ok _ rfl ⟨⟨ldSt pv pb db b2 fb jg n (aheadB I) at2 d,_,r,⟨At.new w2 _ _,⟨(hpool.new hS2).new S3,hgood,hspare,hT.ref.same0 S3,hT.nodup,hrel,fun k hk hm=>?_⟩,fun hm=>?_⟩,?_,imaged_of ((hpool.new hS2).new S3) hgood hr.cnt.1 (fun x hx=>by rw[blks8_get' hraw x hx];exact blk8_fits _ _),hr.cnt.1,fun k hk=>?_⟩,hsame⟩
    ·have h1:=hpl k hk;have h2:=hT.new k hm;omega
    ·rcases List.mem_append.1 hm with hm|hm
     ·have:=hpl _ hm;omega
     ·have:=hrl _ hm;omega
    ·unfold imgB;rw[hbody];exact (end_bytes I hs.1 hs.2).symm
    ·rcases List.mem_cons.1 hk with rfl|hk
     ·omega
     ·rcases List.mem_append.1 hk with hk|hk
      ·exact hnew k hk
      ·have:=hT.new k hk;omega
 ·refine (loaded_no w b off I cap 11 0 (by omega) (by omega) hcell (hL.mono fun e w' hh=>?_) (fun W=>(hR W).mono fun e w' hh=>?_)).mono fun e w' hh=>.no hh.1 (Or.inl hs) hh.2
  ·unfold LoadPost at hh;rw[if_neg hs] at hh;exact hh
  ·unfold RLoadPost at hh;rw[if_neg hs] at hh;exact hh
theorem img_short{s:St}{w:World}(h:Imaged s w):(imgB s).length<=30000:=by
 have h1:=listB_length s s.vols (fun v hv=>h.entry hv);have h2:=h.pool.few;have h3:=h.pool.disk.len;have h4:=h.pool.disk.small;unfold imgB bodyB;simp only[List.length_append,two_length,blks_length,List.length_cons,List.length_nil];have:markB.length=4:=rfl;omega
theorem two_fits{w:World}{s:St}{fr:List Nat}{r:RSt}(h:TwoAt w s fr r):∀x,x < s.n->(s.bl[x]!).fits:=
 fits_all h.pool h.good h.spare fun i hi hl q hq=>fun n hn=>(h.rel.each i hi).ok hl q hq n hn
theorem two_imaged{w:World}{s:St}{fr:List Nat}{r:RSt}(h:TwoAt w s fr r)(hn:1<=s.n):Imaged s w:=imaged_of h.pool h.good hn (two_fits h)
theorem name_ne{ns:List ByteArray}(h:ns.Pairwise fun a b=>cmpB a b < 0)(i j:Nat)(hj:j < i)(hi:i < ns.length):ns[j]!≠ns[i]!:=fun e=>by
 have h1:=List.pairwise_iff_getElem.1 h j i (by omega) hi hj;rw[getElem!_pos ns j (by omega),getElem!_pos ns i hi] at e;rw[e,cmpB_self] at h1;omega
theorem two_rimg{w:World}{s:St}{fr:List Nat}{r:RSt}(h:TwoAt w s fr r):RImg r:=by
 have hv:∀v∈r.vols,∃i,i < s.vols.length/\v=r.vols[i]!/\s.vols[i]!∈s.vols:=fun v hv=>by
  obtain⟨i,hi,e⟩:=List.getElem_of_mem hv;have:=h.rel.len;have hi':i < s.vols.length:=by omega
  exact⟨i,hi',by rw[getElem!_pos _ i hi];exact e.symm,by rw[getElem!_pos s.vols i hi'];exact List.getElem_mem hi'⟩
 have hsm:=h.pool.disk.small;refine⟨fun v hvm=>?_,fun v hvm x hx=>?_,fun v hvm x hx=>?_,fun v hvm hne=>?_,fun v hvm=>?_⟩
 all_goals obtain⟨i,hi,rfl,hm⟩:=hv v hvm
 all_goals have hr:=h.rel.each i hi
 all_goals obtain⟨g1,g2,g3,g4⟩:=h.pool.orgOf hm
 ·have h1:=h.good.names _ hm;rw[hr.name];unfold nameB at h1;simp only[Bool.and_eq_true,decide_eq_true_eq] at h1;exact h1.1.2
 ·rw[hr.blocks] at hx;have:=h.good.lt.2 _ hm x hx;omega
 ·rw[hr.kept] at hx;by_cases ho:(s.vols[i]!).org=none
  ·rw[(h.pool.vols _ hm).kept_nil ho] at hx;simp at hx
  ·have h1:=((h.good.pics _ hm).2.2 _ g1 (g4 ho)).1 x hx;have h2:=(h.pool.vols _ g1).small;omega
 ·have ho:(s.vols[i]!).org≠none:=fun e=>hne ((rel_of h hi).2 e)
  obtain⟨k,hk,ek⟩:=List.getElem_of_mem g1;have hkr:k < r.vols.length:=by rw[h.rel.len];exact hk
  have hname:∀q,q < s.vols.length->(r.vols[q]!).name=s.names[q]!:=fun q hq=>by
   rw[(h.rel.each q hq).name];unfold St.names;rw[getElem!_pos (List.map _ _) q (by simpa using hq),List.getElem_map,getElem!_pos s.vols q hq]
  have hof:(r.vols[i]!).of_=s.names[k]!:=by
   rw[hr.of_,if_neg ho];unfold St.names;rw[getElem!_pos (List.map _ _) k (by simpa using hk),List.getElem_map,ek]
  have hlen:s.names.length=s.vols.length:=by simp[St.names]
  refine⟨k,hkr,by rw[hof,hname k hk],fun q hq=>?_,?_⟩
  ·rw[hof,hname q (by omega)];exact name_ne h.pool.names_sorted k q hq (by omega)
  ·rw[hof,h.rel.names];exact posOf_get h.pool.names_sorted k (by omega)
 ·have hsz:(r.vols[i]!).data.length=(s.orgOf (s.vols[i]!)).xs.length:=hr.size;refine⟨fun he=>?_,fun hne x hx=>?_⟩
  ·have ho:=(rel_of h hi).1 he;rw[hsz,g3 ho,hr.blocks];exact Nat.le_refl _
  ·have ho:(s.vols[i]!).org≠none:=fun e=>hne ((rel_of h hi).2 e)
   rw[hr.kept] at hx;rw[hsz];exact ((h.good.pics _ hm).2.2 _ g1 (g4 ho)).1 x hx
theorem refImage_two{w:World}{s:St}{fr:List Nat}{r:RSt}(h:TwoAt w s fr r)(hn:1<=s.n):Calls Tryz.prog 35 #[.pointer (some ⟨r.rb,0,none⟩)] w fun e w'=>e=.returned (.string ⟨(imgB s).toArray⟩)/\Same [] w w':=by
 have e:=rbody_eq h;have hs:=img_short (two_imaged h hn);have hb:(rbodyB r).length<=140737488355328:=by
  rw[e];have:(imgB s).length=(bodyB s).length+2:=by unfold imgB;rw[List.length_append,two_length]
  omega
 have:=refImage_calls r w h.ref (two_rimg h) hb;rw[e] at this;exact this
theorem bimage_calls(bb:Nat)(s:St)(fr:List Nat)(r:RSt)(w:World)(h:BothAt w bb s fr r)(hn:1<=s.n) :
 Calls Tryz.prog 17 #[.pointer (some ⟨bb,0,none⟩)] w fun e w'=>∃g,e=.returned (.tuple #[.slice (some ⟨g,0,none⟩) (imgB s).length (imgB s).length,.bool true])/\BytesNew w w' g (imgB s):=by
 have h1:=image_calls s w (two_imaged h.two hn);have HR:Hid (∀W,Same [] w W->Calls Tryz.prog 35 #[.pointer (some ⟨r.rb,0,none⟩)] W fun e w'=>e=.returned (.string ⟨(imgB s).toArray⟩)/\Same [] W w'):=fun W hW=>refImage_two (h.two.new hW) hn
 have c0:w.cell? ⟨bb,0,none⟩=some (.pointer (some ⟨s.pb,0,none⟩)):=h.both.cell? 0;have HC1:Hid (∀W,Same [] w W->W.cell? ⟨bb,1,none⟩=some (.pointer (some ⟨r.rb,0,none⟩))):=fun W hW=>(h.new hW).both.cell? 1
 clear h;generalize imgB s=J at *
 go_enter Tryz.func17,Tryz.ntmps17
 go_wp2_with fail
 refine h1.mono ?_;rintro e w1 ⟨g,rfl,hN⟩;have c1:=HC1.out w1 hN.same;have h2:=HR.out w1 hN.same;have HN:Hid (BytesNew w w1 g J):=hN;clear hN h1 c0 HR HC1;dsimp only
 go_wp2_with fail
 refine h2.mono ?_;rintro e w2 ⟨rfl,S2⟩;have hx:Sem.run Tryz.prog (convert 41 9 (.slice (some ⟨g,0,none⟩) J.length J.length)) w2.drew=.ok (.string ⟨J.toArray⟩) w2.drew:=text_conv w2.drew g 0 J.length J rfl (fun i hi=>by
  obtain⟨cs,hA,hc⟩:=HN.out.ex;have e:(cs.take J.length)[i]? = cs[i]?:=by rw[List.getElem?_take,if_pos hi]
  have hA2:At w2.drew g 5 cs:=(S2.at hA (by simp)).drew;rw[Nat.zero_add,hA2.cell?,<-e,hc,List.getElem?_map,List.getElem?_eq_getElem hi,getElem!_pos J i hi];rfl) J.length
 have HF:Hid (BytesNew w w2.drew g J):=by
  obtain⟨cs,hA,hc⟩:=HN.out.ex;exact⟨HN.out.new,⟨cs,(S2.at hA (by simp)).drew,hc⟩,(HN.out.same.step S2 (by simp)).drew⟩
 clear S2 HN h2;generalize (⟨J.toArray⟩:ByteArray)=tj at *;dsimp only
 go_wp2_with fail
 go_region_held3 (fun w'=>Sem.run Tryz.prog (convert 41 9 (.slice (some ⟨g,0,none⟩) J.length J.length)) w'=.ok (.string tj) w') (first|assumption|exact hx) (fail)
 go_wp2
 go_ret2
 exact⟨g,by simp,HF.out⟩
theorem back_calls(bb:Nat)(s:St)(fr:List Nat)(r:RSt)(w0 w:World)(h:BothAt w bb s fr r)(hn:1<=s.n)(hS0:Same [] w0 w)(hbb:w0.heap.size<=bb) :
 Calls Tryz.prog 31 #[.pointer (some ⟨bb,0,none⟩)] w fun e w'=>e=.returned (.bool true)/\BothIn w0 w' bb:=by
 have hnot:=runNot;have h1:=bimage_calls bb s fr r w h hn;have hsh:=img_short (two_imaged h.two hn);obtain⟨i1,i2,i3⟩:=end_img s;obtain⟨p1,p2⟩:=rpool_body h.two.pool h.two.good h.two.spare hn (two_fits h.two);have HL:Hid (∀w1 g,BytesNew w w1 g (imgB s)->Calls Tryz.prog 32 #[.slice (some ⟨g,0,none⟩) (imgB s).length (imgB s).length] w1 fun e w2=>∃bx,e=.returned (.tuple #[.pointer (some ⟨bx,0,none⟩),.bool true])/\BothLoaded w1 w2 (imgB s) bx):=fun w1 g hN=>by
  have hold:=hN.old (by omega);refine (loaded_calls w1 g 0 (imgB s) (imgB s).length hold (fun i hi=>?_) (Nat.le_refl _)).mono fun e w2 hp=>?_
  ·obtain⟨b',off',e1,_,e2⟩:=hold.ex (fun e=>by rw[e] at hi;simp at hi);cases e1;exact e2 i hi
  ·cases hp with
   | no he why hs=>
    exfalso
    rcases why with hw|⟨q,hq⟩
    ·exact hw ⟨i1,i3⟩
    ·rw[i2,p1] at hq;cases hq
   | ok bx he hk=>exact⟨bx,he,hk⟩
 have HB:Hid (BothAt w bb s fr r):=h;have hbl:=h.both.lt;clear h i1 i2 i3 p1 p2 hsh;generalize imgB s=J at *
 go_enter Tryz.func31,Tryz.ntmps31
 go_wp2_with fail
 refine h1.mono ?_;rintro e w1 ⟨g,rfl,hN⟩;have h2:=HL.out w1 g hN;have S1:=hN.same;clear hN h1 HL;dsimp only
 go_wp2_with fail
 refine h2.mono ?_;rintro e w2 ⟨bx,rfl,hk⟩;obtain⟨⟨s2,fr2,r2,hB2,_,_,hn2,hnew⟩,S2⟩:=hk;have z1:=S1.size;have z2:=S2.size;have z0:=hS0.size;have S12:Same [] w w2:=S1.step S2 (by simp);have hA:At w2 bb 67 [.pointer (some ⟨s.pb,0,none⟩),.pointer (some ⟨r.rb,0,none⟩)]:=S12.at HB.out.both (by simp);have hbx:w1.heap.size<=bx:=hnew bx (by simp);have c0:w2.cell? ⟨bx,0,none⟩=some (.pointer (some ⟨s2.pb,0,none⟩)):=hB2.both.cell? 0;have c1:w2.cell? ⟨bx,1,none⟩=some (.pointer (some ⟨r2.rb,0,none⟩)):=hB2.both.cell? 1;have e0:w2.cell? ⟨bb,0,none⟩=some (.pointer (some ⟨s.pb,0,none⟩)):=hA.cell? 0;have e1:w2.cell? ⟨bb,1,none⟩=some (.pointer (some ⟨r.rb,0,none⟩)):=hA.cell? 1;have f0:w2.frozen? ⟨bb,0,none⟩=false:=hA.frozen 0;have f1:w2.frozen? ⟨bb,1,none⟩=false:=hA.frozen 1;have hne:bx≠bb:=by omega
 have hne':bb≠bx:=by omega
 have HF:Hid (BothIn w0 ((w2.setCell ⟨bb,0,none⟩ (.pointer (some ⟨s2.pb,0,none⟩))).setCell ⟨bb,1,none⟩ (.pointer (some ⟨r2.rb,0,none⟩))) bb):=by
  have S3:Same [bb] w2 ((w2.setCell ⟨bb,0,none⟩ (.pointer (some ⟨s2.pb,0,none⟩))).setCell ⟨bb,1,none⟩ (.pointer (some ⟨r2.rb,0,none⟩))):=((Same.refl _ _).set _ _ _ (by simp)).set _ _ _ (by simp);have hout:∀k∈s2.foot++r2.foot,k∉[bb]:=fun k hk hq=>by
   have h1:=hnew k (List.mem_cons_of_mem _ hk);rw[List.mem_singleton] at hq;omega
  refine⟨⟨s2,fr2,r2,⟨(hA.set_same 0 _).set_same 1 _,hB2.two.same S3 hout,fun hm=>hout bb hm (by simp)⟩,hn2,fun k hk=>?_⟩,((hS0.step S12 (by simp)).step S3 (fun k hk hl=>?_))⟩
  ·rcases List.mem_cons.1 hk with rfl|hk
   ·exact hbb
   ·have:=hnew k (List.mem_cons_of_mem _ hk);omega
  ·rw[List.mem_singleton] at hk;omega
 clear hA hB2 hnew S12 S1 S2 HB h2 hS0;dsimp only
 go_wp2
 go_ret
 exact⟨rfl,HF.out⟩
theorem step_image(bb:Nat)(s:St)(fr:List Nat)(r:RSt)(w:World)(h:BothAt w bb s fr r)(hn:1<=s.n)(kk a:Int)(t u x:ByteArray) :
 Calls Tryz.prog 12 #[.pointer (some ⟨bb,0,none⟩),opVal 11 kk a t u x] w fun e w'=>e=.returned (.bool true)/\Same [] w w':=by
 have S0:Same [] w (w.alloc (.cells #[.int .i64 11,.int .i64 kk,.int .i64 a,.string t,.string u,.string x] 34)):=(Same.refl _ _).alloc _;have hR:=bimage_calls bb s fr r _ (h.new S0) hn;unfold opVal;clear h
 go_enter Tryz.func12,Tryz.ntmps12
 go_wp2_with (go_at_call 17;refine hR.mono ?_;rintro e w1 ⟨g,rfl,hN⟩;dsimp only)
 go_ret
 exact⟨rfl,S0.step hN.same (by simp)⟩
theorem step_back(bb:Nat)(s:St)(fr:List Nat)(r:RSt)(w0 w:World)(h:BothAt w bb s fr r)(hn:1<=s.n)(hS0:Same [] w0 w)(hbb:w0.heap.size<=bb)(kk a:Int)(t u x:ByteArray) :
 Calls Tryz.prog 12 #[.pointer (some ⟨bb,0,none⟩),opVal 12 kk a t u x] w fun e w'=>e=.returned (.bool true)/\BothIn w0 w' bb:=by
 have S0:Same [] w (w.alloc (.cells #[.int .i64 12,.int .i64 kk,.int .i64 a,.string t,.string u,.string x] 34)):=(Same.refl _ _).alloc _;have hR:=back_calls bb s fr r w0 _ (h.new S0) hn (hS0.step S0 (by simp)) hbb;unfold opVal;clear h
 go_enter Tryz.func12,Tryz.ntmps12
 go_wp2_with (go_at_call 31;refine hR.mono ?_;rintro e w1 ⟨rfl,hN⟩;dsimp only)
 go_ret
 exact⟨rfl,hN⟩
theorem play_twelve(n:Int)(a:Option Addr)(len cap b off:Nat)(w:World)(hs:Script w a len b off) :
 Calls Tryz.prog 7 #[.int .i64 n,.slice a len cap,.int .i64 12] w fun e w'=>e=.returned (.bool true)/\Same [] w w':=by
 refine play_calls n a len cap b off 12 w hs fun k hk bb w1 kk x t u y ht hy hI=>?_
 obtain⟨⟨s,fr,r,hB,hn,hf⟩,hS⟩:=hI;by_cases h10:k<=10
 ·exact (step_ten k h10 bb s fr r w1 hB kk x t u y ht hy).mono fun e w' ⟨h1,h2⟩=>⟨h1,BothIn.next hB hn hf hS h2⟩
 ·by_cases h11:k=11
  ·subst h11;exact (step_image bb s fr r w1 hB hn kk x t u y).mono fun e w' ⟨h1,h2⟩=>⟨h1,BothIn.next hB hn hf hS (BothNext.still hB h2)⟩
  ·obtain rfl:k=12:=by omega
   exact step_back bb s fr r w w1 hB hn hS (hf bb (by simp)) kk x t u y
theorem images_calls(n:Int)(a:Option Addr)(len cap b off:Nat)(w:World)(hs:Script w a len b off) :
 Calls Tryz.prog 5 #[.int .i64 n,.slice a len cap] w fun e w'=>e=.returned (.bool true)/\Same [] w w':=by
 have hP:=play_twelve n a len cap b off w hs;clear hs
 go_enter Tryz.func5,Tryz.ntmps5
 go_wp2_with (go_at_call 7;refine hP.mono ?_;rintro e w1 ⟨rfl,S1⟩)
 go_ret
 exact⟨rfl,S1⟩
end
end Go.Proofs.YtpddgdjocffgdaaGreat
