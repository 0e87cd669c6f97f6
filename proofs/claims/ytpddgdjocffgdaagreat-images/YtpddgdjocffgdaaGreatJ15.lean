/- Bytes put behind bytes: numbers, lists of numbers, by contracts. What an image tells of a volume or a picture, by contracts. The image of a Pool, by contract. -/
import Derived.Test.YtpddgdjocffgdaaGreatJ04
import Derived.Test.YtpddgdjocffgdaaGreatJ02
import Derived.Lib.AppendStr
import Derived.Test.YtpddgdjocffgdaaGreatJ06
import Derived.ArgAppend
import Derived.Lib.SmallJoins
namespace Go.Proofs.YtpddgdjocffgdaaGreat
set_option linter.unusedVariables false
set_option linter.unusedSimpArgs false
set_option linter.unusedSectionVars false
set_option maxHeartbeats 16000000
set_option maxRecDepth 100000
section
open Go.RowKit Go.Sort
variable [DecidableEq Blk] [Inhabited Blk] [Inhabited Vol]
def byteV(b:UInt8):Value:=.int .u8 (b.toNat:Int)
structure Buf(w0 w:World)(v:Value)(bs:List UInt8):Prop where
 own:w.ownsRow w0.heap.size 5 1 v bs.length (bs.map byteV)
 same:Same [] w0 w
theorem Buf.new{w0 w w':World}{v:Value}{bs:List UInt8}(h:Buf w0 w v bs)(hs:Same [] w w'):Buf w0 w' v bs:=⟨owns_same h.own hs (by simp),h.same.step hs (by simp)⟩
theorem Buf.form{w0 w:World}{v:Value}{bs:List UInt8}(h:Buf w0 w v bs):∃a cap,v=.slice a bs.length cap:=owns_form h.own
theorem Buf.app{w0 w w1 w2:World}{v v':Value}{bs ns:List UInt8}{n:Nat}(h:Buf w0 w v bs)(hs:Same [] w w1)(hn:n=bs.length+ns.length)(ho:w2.ownsRow w0.heap.size 5 1 v' n (bs.map byteV++ns.map byteV))(hg:w1.grownBy w2 v.ownBlock):Buf w0 w2 v' (bs++ns):=by
 refine⟨by rw[List.length_append,List.map_append,<-hn];exact ho,(h.same.step hs (by simp)).grown hg fun k hk hl=>?_⟩;have:=(h.own.lt k hk).1;omega
def two(n:Nat):List UInt8:=[UInt8.ofNat (n / 256),UInt8.ofNat n]
def nums(l:List Nat):List UInt8:=two l.length++l.flatMap two
theorem two_length(n:Nat):(two n).length=2:=rfl
theorem twos_length(l:List Nat):(l.flatMap two).length=2 * l.length:=by
 induction l with
 | nil=>rfl
 | cons a r ih=>rw[List.flatMap_cons,List.length_append,ih,two_length,List.length_cons];omega
theorem nums_length(l:List Nat):(nums l).length=2+2 * l.length:=by rw[nums,List.length_append,two_length,twos_length]
theorem two_cells(n:Nat)(hn:n<=65535):(two n).map byteV=[.int .u8 ((n:Int) / 256),.int .u8 ((n:Int) % 256)]:=by
 simp[two,byteV,UInt8.toNat_ofNat'];omega
theorem bytes_one:∀(l:List UInt8),∀u∈l.map byteV,u.oneCell'=true:=fun l u hu=>by
 obtain⟨x,_,rfl⟩:=List.mem_map.1 hu;rfl
theorem cells_new{w:World}{l:List Value}{t:TypeId}:∀j u,l[j]? = some u->(w.alloc (.cells l.toArray t)).cell? ((⟨w.heap.size,0,none⟩:Addr).add j)=some u:=by
 intro j u hj;rw[Addr.add_lit,Nat.zero_add,(At.new w l.toArray t).cell?];simpa using hj
theorem putNumber_calls(w0 w:World)(v:Value)(bs:List UInt8)(n:Nat)(h:Buf w0 w v bs)(hl:bs.length<=100000)(hn:n<=65535) :
 Calls Tryz.prog 66 #[v,.int .i64 n] w fun e w'=>∃v',e=.returned v'/\Buf w0 w' v' (bs++two n):=by
 obtain⟨a,cap,rfl⟩:=h.form;obtain⟨i0,hi,hz0,hz1,hz2⟩:=info_parts Tryz.info5;have HT:Hid ((two n).map byteV=[.int .u8 ((n:Int) / 256),.int .u8 ((n:Int) % 256)]):=two_cells n hn;have hz:=h.same.size;have HH:Hid (Buf w0 w (.slice a bs.length cap) bs):=h;have hown:=h.own;clear h
 go_enter Tryz.func66,Tryz.ntmps66
 go_wp2_with (at_builtin;refine wpList_append_own _ rfl _ _ 41 rfl w0.heap.size 5 i0 (.int .u8 0) 1 1 Tryz.underlying41 hi hz0 hz1 hz2 rfl (by decide) _ _ _ rfl (hown.alloc _) ⟨w.heap.size,0,none⟩ 2 2 [.int .u8 ((n:Int) / 256),.int .u8 ((n:Int) % 256)] rfl rfl ?c1 ?c2 ?c3 ?c4 ?c5 ?_)
 case c1=>exact cells_new
 case c2=>intro u hu;simp at hu;rcases hu with rfl|rfl<;>rfl
 case c3=>unfold maxLen;omega
 case c4=>omega
 case c5=>simp;omega
 intro v' w4 hown' hgrow _;have HB:Hid (Buf w0 w4 v' (bs++two n)):=HH.out.app ((Same.refl _ _).alloc _) rfl (by rw[HT.out];exact hown') hgrow;clear hown' hgrow hown
 go_wp2
 go_ret
 exact⟨_,rfl,HB.out⟩
structure NumsIn(w:World)(a:Option Addr)(l:List Nat):Prop where
 nil:a=none->l=[]
 at_:∀x,a=some x->∃g cs,x=⟨g,0,none⟩/\RowAt w g l cs
theorem NumsIn.of{w:World}{og:Option Nat}{cap:Nat}{l:List Nat}(h1:og=none->l=[]/\cap=0)(h2:∀g,og=some g->NumsAt w g cap l):NumsIn w (adr og) l:=by
 refine⟨fun e=>?_,fun x hx=>?_⟩
 ·cases og with
  | none=>exact (h1 rfl).1
  | some g=>simp[adr] at e
 ·cases og with
  | none=>simp[adr] at hx
  | some g=>
   simp[adr] at hx;obtain⟨cs,q1,q2,q3,q4,q5⟩:=(h2 g rfl).ex;exact⟨g,cs,hx.symm,q1,q3,by omega⟩
theorem RowAt.cellAt{w:World}{g:Nat}{xs:List Nat}{cs:List Value}(h:RowAt w g xs cs)(i:Nat)(hi:i < xs.length):w.cell? ⟨g,i,none⟩=some (.int .i64 (xs[i]!:Nat)):=by
 rw[h.at_.cell?];exact h.cell i hi
theorem take_twos(l:List Nat)(k:Nat)(hk:k < l.length):(l.take (k+1)).flatMap two=(l.take k).flatMap two++two l[k]!:=by
 rw[List.take_succ_eq_append_getElem hk,List.flatMap_append,getElem!_pos l k hk];simp
theorem putNumbers_calls(w0 w:World)(v:Value)(bs:List UInt8)(an:Option Addr)(cap:Nat)(l:List Nat)(h:Buf w0 w v bs)(hl:bs.length<=50000)(hN:NumsIn w0 an l)(hll:l.length<=200)(hx:∀x∈l,x<=65535) :
 Calls Tryz.prog 114 #[v,.slice an l.length cap] w fun e w'=>∃v',e=.returned v'/\Buf w0 w' v' (bs++nums l):=by
 have hP:=putNumber_calls w0 w v bs l.length h (by omega) (by omega);have HN:Hid (NumsIn w0 an l):=hN;have HX:Hid (∀x∈l,x<=65535):=hx;have HPN:Hid (∀(W:World) (v:Value) (bs:List UInt8) (n:Nat),Buf w0 W v bs->bs.length<=100000->n<=65535->Calls Tryz.prog 66 #[v,.int .i64 n] W fun e w'=>∃v',e=.returned v'/\Buf w0 w' v' (bs++two n)):=fun W v bs n h1 h2 h3=>putNumber_calls w0 W v bs n h1 h2 h3
 clear h hN hx
 go_enter Tryz.func114,Tryz.ntmps114
 go_wp2_with (go_at_call 66;refine hP.mono ?_;rintro e w1 ⟨v1,rfl,hB1⟩)
 clear hP
 go_loopw [0,13] (fun u i wr=>∃k:Nat,k<=l.length/\i=.int .i64 k/\Buf w0 wr u (bs++two l.length++(l.take k).flatMap two)) (fun _ i _=>l.length - (intOf i).toNat)
 case atStart=>exact⟨0,Nat.zero_le _,rfl,by simpa using hB1⟩
 case round=>
  clear hB1;obtain⟨k,hk,rfl,hB⟩:=hrel;by_cases hkl:k < l.length
  ·obtain⟨xa,hxa⟩:∃xa,an=some xa:=by
    cases an with
    | none=>rw[HN.out.nil rfl] at hkl;simp at hkl
    | some g=>exact⟨g,rfl⟩
   obtain⟨g,cs,rfl,hNg⟩:=HN.out.at_ xa hxa;subst hxa;have c1:=(hNg.same hB.same (by simp)).cellAt k hkl;have hxk:=HX.out (l[k]!) (by rw[getElem!_pos l k hkl];exact List.getElem_mem hkl);have HT:Hid ((l.take (k+1)).flatMap two=(l.take k).flatMap two++two l[k]!):=take_twos l k hkl;have hlen:(bs++two l.length++(l.take k).flatMap two).length<=100000:=by
    rw[List.length_append,List.length_append,twos_length,two_length,List.length_take];omega
   have hP:=HPN.out wr _ _ (l[k]!) hB hlen hxk;generalize l[k]! = x at *;have l1:(k:Int) < (l.length:Int):=by omega
   clear hB hNg
   go_wp2_with (go_at_call 66;refine hP.mono ?_;rintro e w2 ⟨v2,rfl,hB2⟩)
   go_roundw
   case rel=>exact⟨k+1,by omega,by go_num,by rw[HT.out,<-List.append_assoc];exact hB2⟩
   case measure=>simp[intOf];omega
  ·have ek:k=l.length:=by omega
   subst ek;have hE:bs++two l.length++(l.take l.length).flatMap two=bs++nums l:=by rw[List.take_length,nums,List.append_assoc]
   rw[hE] at hB;have HB:Hid _:=hB;clear hB
   go_wp2
   go_ret
   exact⟨_,rfl,HB.out⟩
def Vol.kindN(v:Vol):Nat:=if v.lost then 2 else if v.org.isSome then 1 else 0
theorem kind_calls(v:Vol)(w:World)(h:VolAt w v):Calls Tryz.prog 113 #[.pointer (some ⟨v.vb,0,none⟩)] w fun e w'=>e=.returned (.int .i64 v.kindN)/\w'=w:=by
 have hI:=isPicture_calls v w h;obtain⟨cap,kcap,_,hv,_⟩:=h.vol;have c4:w.cell? ⟨v.vb,4,none⟩=some (.bool v.lost):=hv.cell? 4;unfold Vol.kindN;cases hl:v.lost with
 | true=>
  rw[hl] at c4;clear hI hv h
  go_enter Tryz.func113,Tryz.ntmps113
  go_wp2
  go_ret
  exact⟨rfl,rfl⟩
 | false=>
  rw[hl] at c4;cases ho:v.org.isSome with
  | true=>
   rw[ho] at hI;clear hv h
   go_enter Tryz.func113,Tryz.ntmps113
   go_wp2_with (go_at_call 88;refine hI.mono ?_;rintro e w1 ⟨rfl,hw⟩;obtain rfl:=hw.symm)
   go_ret
   exact⟨rfl,rfl⟩
  | false=>
   rw[ho] at hI;clear hv h
   go_enter Tryz.func113,Tryz.ntmps113
   go_wp2_with (go_at_call 88;refine hI.mono ?_;rintro e w1 ⟨rfl,hw⟩;obtain rfl:=hw.symm)
   go_ret
   exact⟨rfl,rfl⟩
def sumB(l:List UInt8):Nat:=l.foldl (fun n b=>(n * 31+b.toNat) % 65521) 1
theorem sumB_lt(l:List UInt8):sumB l < 65521:=by
 unfold sumB;have:∀(l:List UInt8) (n:Nat),n < 65521->l.foldl (fun n b=>(n * 31+b.toNat) % 65521) n < 65521:=by
  intro l
  induction l with
  | nil=>intro n h;exact h
  | cons a r ih=>intro n _;exact ih _ (Nat.mod_lt _ (by omega))
 exact this l 1 (by omega)
theorem sumB_snoc(l:List UInt8)(b:UInt8):sumB (l++[b])=(sumB l * 31+b.toNat) % 65521:=by
 unfold sumB;rw[List.foldl_append];rfl
structure BytesAt(w:World)(a:Option Addr)(bs:List UInt8):Prop where
 ex:bs≠[]->∃b off,a=some ⟨b,off,none⟩/\∀i,i < bs.length->w.cell? ⟨b,off+i,none⟩=some (byteV bs[i]!)
theorem sum_calls(w:World)(a:Option Addr)(cap:Nat)(bs:List UInt8)(h:BytesAt w a bs)(hl:bs.length<=maxLen) :
 Calls Tryz.prog 70 #[.slice a bs.length cap] w fun e w'=>e=.returned (.int .i64 (sumB bs))/\w'=w:=by
 unfold maxLen at hl;have HH:Hid (BytesAt w a bs):=h;have HTK:Hid (∀k,k < bs.length->bs.take (k+1)=bs.take k++[bs[k]!]):=fun k hk=>by rw[List.take_succ_eq_append_getElem hk,getElem!_pos bs k hk]
 clear h
 go_enter Tryz.func70,Tryz.ntmps70
 go_wp2
 go_loopw [3,8] (fun n i wr=>∃k:Nat,k<=bs.length/\i=.int .i64 k/\n=.int .i64 (sumB (bs.take k))/\wr=w) (fun _ i _=>bs.length - (intOf i).toNat)
 case atStart=>exact⟨0,Nat.zero_le _,rfl,rfl,rfl⟩
 case round=>
  obtain⟨k,hk,rfl,rfl,rfl⟩:=hrel;by_cases hkl:k < bs.length
  ·obtain⟨b,off,rfl,hc⟩:=HH.out.ex (by intro e;rw[e] at hkl;simp at hkl);have c1:=hc k hkl;unfold byteV at c1;have HS:Hid (sumB (bs.take (k+1))=(sumB (bs.take k) * 31+(bs[k]!).toNat) % 65521):=by show _=_;rw[HTK.out k hkl,sumB_snoc]
   have hlt:=sumB_lt (bs.take k);have hbt:=(bs[k]!).toNat_lt;generalize sumB (bs.take k)=m at *;generalize (bs[k]!).toNat=x at *;have l1:(k:Int) < (bs.length:Int):=by omega
   have hx1:((m:Int) * 31+(x:Int)).tmod 65521=(((m * 31+x) % 65521:Nat):Int):=by
    rw[Int.tmod_eq_emod_of_nonneg (by omega)];omega
   clear HH hc
   go_wp2
   go_roundw
   case rel=>exact⟨k+1,by omega,by go_num,by rw[HS.out];first|rfl|(simp;done)|(congr 1;omega),by first|rfl|trivial⟩
   case measure=>simp[intOf];omega
  ·have ek:k=bs.length:=by omega
   subst ek;have HE:Hid (sumB (bs.take bs.length)=sumB bs):=by show _=_;rw[List.take_length]
   clear HH
   go_wp2
   go_ret
   rw[HE.out];exact⟨rfl,rfl⟩
def headB(s:St)(v:Vol):List UInt8:=[UInt8.ofNat v.name.size]++v.name.data.toList++[UInt8.ofNat v.kindN]++two (s.size v)
def entryB(s:St)(v:Vol):List UInt8:=
 headB s v++(match v.org with
 | none=>nums v.xs
 | some _=>[UInt8.ofNat (posOf s.names (s.orgOf v).name)]++nums v.xs++nums v.kept)
theorem headB_length(s:St)(v:Vol):(headB s v).length=v.name.size+4:=by
 simp only[headB,List.length_append,two_length,List.length_cons,List.length_nil];have:v.name.data.toList.length=v.name.size:=Array.length_toList;omega
theorem entryB_length(s:St)(v:Vol):(entryB s v).length<=v.name.size+9+2 * v.xs.length+2 * v.kept.length:=by
 unfold entryB;rw[List.length_append,headB_length]
 split
 ·rw[nums_length];omega
 ·rw[List.length_append,List.length_append,nums_length,nums_length];simp only[List.length_cons,List.length_nil];omega
theorem wpList_buf_byte{ops:Array Oper}{rest:List Oper}{o:Oper}{a:Act}{Q:Exit->Act->World->Prop}(hgd:o.guard=none)(s x:Operand)
 (ho:o.op=.call { callee:=.builtin .append,args:=#[s,x],argTypes:=#[41,41] }) (w0 w:World) (u:Value) (bs:List UInt8) (hB:Buf w0 w u bs) (hs:a.eval s=u) (n:Nat) (c:Int) (hx:a.eval x=.slice (some ⟨w.heap.size,0,none⟩) 1 1)
 (hc:c=((UInt8.ofNat n).toNat:Int)) (hl:bs.length<=1000000)
 (h:∀u' w',Buf w0 w' u' (bs++[UInt8.ofNat n])->wpList Tryz.prog ops Q rest (a.put o.dst u') w'):wpList Tryz.prog ops Q (o :: rest) a (w.alloc (.cells #[.int .u8 c] 5)):=by
 obtain⟨i0,hi,hz0,hz1,hz2⟩:=info_parts Tryz.info5;have hz:=hB.same.size;refine wpList_append_own _ hgd s x 41 ho w0.heap.size 5 i0 (.int .u8 0) 1 1 Tryz.underlying41 hi hz0 hz1 hz2 rfl (by decide) u bs.length (bs.map byteV) hs (hB.own.alloc _) ⟨w.heap.size,0,none⟩ 1 1 [.int .u8 c] hx rfl cells_new (by intro u hu;simp at hu;subst hu;rfl) (by unfold maxLen;omega) (by omega) (by simp;omega) ?_;intro v' w4 hown' hgrow _;refine h v' w4 (hB.app ((Same.refl _ _).alloc _) rfl ?_ hgrow);rw[show [UInt8.ofNat n].map byteV=[.int .u8 c] by rw[hc];rfl];exact hown'
theorem wpList_buf_text{ops:Array Oper}{rest:List Oper}{o:Oper}{a:Act}{Q:Exit->Act->World->Prop}(hgd:o.guard=none)(s x:Operand)
 (ho:o.op=.call { callee:=.builtin .append,args:=#[s,x],argTypes:=#[41,9] }) (w0 w:World) (u:Value) (bs:List UInt8) (hB:Buf w0 w u bs) (hs:a.eval s=u) (t:ByteArray) (hx:a.eval x=.string t)
 (hl:bs.length+t.size<=1000000)
 (h:∀u' w',Buf w0 w' u' (bs++t.data.toList)->wpList Tryz.prog ops Q rest (a.put o.dst u') w'):wpList Tryz.prog ops Q (o :: rest) a w:=by
 obtain⟨i0,hi,hz0,hz1,hz2⟩:=info_parts Tryz.info5;have hz:=hB.same.size;refine Lib.wpList_append_own_string _ hgd s x 41 9 ho w0.heap.size 5 i0 Tryz.underlying41 Tryz.underlying9 hi hz0 hz1 hz2 u bs.length (bs.map byteV) hs hB.own t hx (by unfold maxLen;omega) (by omega) hz ?_;intro v' w4 hown' hgrow _;exact h v' w4 (hB.app (n:=bs.length+t.size) (Same.refl _ _) (by rw[show t.data.toList.length=t.size from Array.length_toList]) hown' hgrow)
theorem wpList_buf_row{ops:Array Oper}{rest:List Oper}{o:Oper}{a:Act}{Q:Exit->Act->World->Prop}(hgd:o.guard=none)(s x:Operand)
 (ho:o.op=.call { callee:=.builtin .append,args:=#[s,x],argTypes:=#[41,41] }) (w0 w:World) (u:Value) (bs ns:List UInt8) (hB:Buf w0 w u bs) (hs:a.eval s=u) (g off cap:Nat) (hx:a.eval x=.slice (some ⟨g,off,none⟩) ns.length cap)
 (hc:∀j,j < ns.length->w.cell? ⟨g,off+j,none⟩=some (byteV ns[j]!)) (hl:bs.length+ns.length<=1000000)
 (h:∀u' w',Buf w0 w' u' (bs++ns)->wpList Tryz.prog ops Q rest (a.put o.dst u') w'):wpList Tryz.prog ops Q (o :: rest) a w:=by
 obtain⟨i0,hi,hz0,hz1,hz2⟩:=info_parts Tryz.info5;have hz:=hB.same.size;refine wpList_append_own _ hgd s x 41 ho w0.heap.size 5 i0 (.int .u8 0) 1 1 Tryz.underlying41 hi hz0 hz1 hz2 rfl (by decide) u bs.length (bs.map byteV) hs hB.own ⟨g,off,none⟩ ns.length cap (ns.map byteV) hx (by simp) ?_ (bytes_one ns) (by unfold maxLen;omega) (by omega) (by omega) ?_
 ·intro j u hj;have hj':j < ns.length:=by
   rcases Nat.lt_or_ge j ns.length with h'|h'
   ·exact h'
   ·rw[List.getElem?_eq_none (by simpa using h')] at hj;cases hj
  rw[Addr.add_lit,hc j hj',<-hj,List.getElem?_map,List.getElem?_eq_getElem hj',getElem!_pos ns j hj'];rfl
 ·intro v' w4 hown' hgrow _;exact h v' w4 (hB.app (Same.refl _ _) rfl hown' hgrow)
theorem u8_small(n:Nat)(h:n<=255):((UInt8.ofNat n).toNat:Int)=(n:Int):=by
 rw[UInt8.toNat_ofNat'];omega
structure VolIn(w0:World)(v:Vol)(cap kcap:Nat):Prop where
 xs:NumsIn w0 (some ⟨v.gb,0,none⟩) v.xs
 kept:NumsIn w0 (adr v.kg) v.kept
 name:∀W,Same [] w0 W->W.cell? ⟨v.vb,0,none⟩=some (.string v.name)
 blocks:∀W,Same [] w0 W->W.cell? ⟨v.vb,1,none⟩=some (.slice (some ⟨v.gb,0,none⟩) v.xs.length cap)
 org:∀W,Same [] w0 W->W.cell? ⟨v.vb,2,none⟩=some (.pointer (adr v.org))
 places:∀W,Same [] w0 W->W.cell? ⟨v.vb,3,none⟩=some (.slice (adr v.kg) v.kept.length kcap)
theorem VolAt.in_{w0:World}{v:Vol}(h:VolAt w0 v):∃cap kcap,VolIn w0 v cap kcap:=by
 obtain⟨cap,kcap,_,hv,h1,h2⟩:=h.vol;obtain⟨cs,hr⟩:=h.row;refine⟨cap,kcap,⟨(fun e=>by cases e),fun x hx=>?_⟩,NumsIn.of h1 h2,fun W hW=>(hW.at hv (by simp)).cell? 0,fun W hW=>(hW.at hv (by simp)).cell? 1,fun W hW=>(hW.at hv (by simp)).cell? 2,fun W hW=>(hW.at hv (by simp)).cell? 3⟩;cases hx;exact⟨v.gb,cs,rfl,hr⟩
structure Heads(s:St)(v:Vol)(w0:World):Prop where
 pool:PoolAt w0 s
 mem:v∈s.vols
 name:v.name.size<=10
 size:s.size v<=200
 xs:∀x∈v.xs,x<=65535
 kept:∀x∈v.kept,x<=65535
theorem putVolume_vol(s:St)(v:Vol)(w0 w:World)(u:Value)(bs:List UInt8)(hH:Heads s v w0)(ho:v.org=none)(h:Buf w0 w u bs)(hl:bs.length<=40000) :
 Calls Tryz.prog 68 #[.pointer (some ⟨s.pb,0,none⟩),u,.pointer (some ⟨v.vb,0,none⟩)] w fun e w'=>∃u',e=.returned u'/\Buf w0 w' u' (bs++entryB s v):=by
 have hnot:=runNot;obtain⟨h0,hv,hn,hsz,hx,hkx⟩:=hH;have hV:=fun W (hW:Same [] w0 W)=>(h0.new hW).vols v hv
 have hK:=fun W (hW:Same [] w0 W)=>kind_calls v W (hV W hW)
 have hZ:=fun W (hW:Same [] w0 W)=>size_at (h0.new hW) hv
 have hI:=fun W (hW:Same [] w0 W)=>isPicture_calls v W (hV W hW)
 have HPN:Hid (∀(W:World) (v:Value) (bs:List UInt8) (n:Nat),Buf w0 W v bs->bs.length<=100000->n<=65535->Calls Tryz.prog 66 #[v,.int .i64 n] W fun e w'=>∃v',e=.returned v'/\Buf w0 w' v' (bs++two n)):=fun W v bs n h1 h2 h3=>putNumber_calls w0 W v bs n h1 h2 h3
 rw[ho] at hI;have hkn:v.kindN<=2:=by unfold Vol.kindN;split<;>(try split)<;>omega
 have HE:Hid (bs++[UInt8.ofNat v.name.size]++v.name.data.toList++[UInt8.ofNat v.kindN]++two (s.size v)++nums v.xs=bs++entryB s v):=by
  show _=_;unfold entryB headB;rw[ho];simp[List.append_assoc]
 have hsm:=(h0.vols v hv).small;obtain⟨cap,kcap,hvi⟩:=(h0.vols v hv).in_;have HPS:Hid (∀(W:World) (u:Value) (bs:List UInt8),Buf w0 W u bs->bs.length<=50000->Calls Tryz.prog 114 #[u,.slice (some ⟨v.gb,0,none⟩) v.xs.length cap] W fun e w'=>∃v',e=.returned v'/\Buf w0 w' v' (bs++nums v.xs)):=fun W u bs h1 h2=>putNumbers_calls w0 W u bs _ cap v.xs h1 h2 hvi.xs hsm hx
 have HVI:Hid (VolIn w0 v cap kcap):=hvi;have HB:Hid (Buf w0 w u bs):=h;have c0:=hvi.name w h.same;have hts:v.name.data.toList.length=v.name.size:=Array.length_toList;have ht2:=two_length (s.size v);clear hV hvi h hx hkx
 go_enter Tryz.func68,Tryz.ntmps68
 go_wp2_with (at_builtin;refine wpList_buf_byte rfl _ _ rfl w0 w u bs HB.out rfl v.name.size _ rfl (by rw[u8_small _ (by omega)]) (by omega) ?_)
 intro u1 w1 hB1;have d0:=HVI.out.name w1 hB1.same;obtain⟨b1,q1⟩:∃b1,bs++[UInt8.ofNat v.name.size]=b1:=⟨_,rfl⟩
 rw[q1] at hB1;have hl1:b1.length<=40001:=by rw[<-q1,List.length_append,List.length_singleton];omega
 have H1:Hid (bs++[UInt8.ofNat v.name.size]=b1):=q1;have HB1:Hid (Buf w0 w1 u1 b1):=hB1;clear hB1 c0 q1
 go_wp2_with (at_builtin;refine wpList_buf_text rfl _ _ rfl w0 w1 u1 _ HB1.out rfl v.name rfl (by omega) ?_)
 intro u2 w2 hB2;obtain⟨b2,q2⟩:∃b2,b1++v.name.data.toList=b2:=⟨_,rfl⟩
 rw[q2] at hB2;have hl2:b2.length<=40011:=by rw[<-q2,List.length_append];omega
 have H2:Hid (b1++v.name.data.toList=b2):=q2;have HB2:Hid (Buf w0 w2 u2 b2):=hB2;have hK2:=hK w2 hB2.same;clear hB2 d0 q2
 go_wp2_with (first|(go_at_call 113;refine hK2.mono ?_;rintro e w' ⟨rfl,hw⟩;obtain rfl:=hw.symm)|(at_builtin;refine wpList_buf_byte rfl _ _ rfl w0 w2 u2 _ HB2.out rfl v.kindN _ rfl (by rw[u8_small _ (by omega)]) (by omega) ?_))
 intro u3 w3 hB3;obtain⟨b3,q3⟩:∃b3,b2++[UInt8.ofNat v.kindN]=b3:=⟨_,rfl⟩
 rw[q3] at hB3;have hl3:b3.length<=40012:=by rw[<-q3,List.length_append,List.length_singleton];omega
 have H3:Hid (b2++[UInt8.ofNat v.kindN]=b3):=q3;clear q3;have hZ3:=hZ w3 hB3.same;have hP3:=HPN.out w3 u3 _ (s.size v) hB3 (by omega) (by omega);clear hB3
 go_wp2_with (first|(go_at_call 94;refine hZ3.mono ?_;rintro e w' ⟨rfl,hw⟩;obtain rfl:=hw.symm)|(go_at_call 66;refine hP3.mono ?_;rintro e w4 ⟨u4,rfl,hB4⟩))
 have hI4:=hI w4 hB4.same;have e1:=HVI.out.blocks w4 hB4.same;obtain⟨b4,q4⟩:∃b4,b3++two (s.size v)=b4:=⟨_,rfl⟩
 rw[q4] at hB4;have hl4:b4.length<=40014:=by rw[<-q4,List.length_append,ht2];omega
 have H4:Hid (b3++two (s.size v)=b4):=q4;have hS4:=HPS.out w4 u4 _ hB4 (by omega);clear hB4 hP3 q4
 go_wp2_with (first|(go_at_call 88;refine hI4.mono ?_;rintro e w' ⟨rfl,hw⟩;obtain rfl:=hw.symm)|(go_at_call 114;refine hS4.mono ?_;rintro e w5 ⟨u5,rfl,hB5⟩))
 go_ret
 exact⟨_,rfl,by rw[<-HE.out,H1.out,H2.out,H3.out,H4.out];exact hB5⟩
theorem putVolume_pic(s:St)(v o:Vol)(w0 w:World)(u:Value)(bs:List UInt8)(hH:Heads s v w0)(hom:o∈s.vols)(ho:v.org=some o.vb)(hoo:s.orgOf v=o)(h:Buf w0 w u bs)(hl:bs.length<=40000) :
 Calls Tryz.prog 68 #[.pointer (some ⟨s.pb,0,none⟩),u,.pointer (some ⟨v.vb,0,none⟩)] w fun e w'=>∃u',e=.returned u'/\Buf w0 w' u' (bs++entryB s v):=by
 have hnot:=runNot;obtain⟨h0,hv,hn,hsz,hx,hkx⟩:=hH;have hV:=fun W (hW:Same [] w0 W)=>(h0.new hW).vols v hv
 have hK:=fun W (hW:Same [] w0 W)=>kind_calls v W (hV W hW)
 have hZ:=fun W (hW:Same [] w0 W)=>size_at (h0.new hW) hv
 have hI:=fun W (hW:Same [] w0 W)=>isPicture_calls v W (hV W hW)
 have hIX:=fun W (hW:Same [] w0 W)=>index_plain s o.name W (h0.new hW)
 have hpos:posOf s.names o.name<=20:=by
  have:=List.countP_le_length (p:=fun n=>decide (cmpB n o.name < 0)) (l:=s.names);have h2:s.names.length=s.vols.length:=by simp[St.names]
  have h3:=h0.few;have h4:s.names.countP (fun n=>decide (cmpB n o.name < 0))=posOf s.names o.name:=rfl;omega
 have HPN:Hid (∀(W:World) (v:Value) (bs:List UInt8) (n:Nat),Buf w0 W v bs->bs.length<=100000->n<=65535->Calls Tryz.prog 66 #[v,.int .i64 n] W fun e w'=>∃v',e=.returned v'/\Buf w0 w' v' (bs++two n)):=fun W v bs n h1 h2 h3=>putNumber_calls w0 W v bs n h1 h2 h3
 rw[ho] at hI;have hkn:v.kindN<=2:=by unfold Vol.kindN;split<;>(try split)<;>omega
 have HE:Hid (bs++[UInt8.ofNat v.name.size]++v.name.data.toList++[UInt8.ofNat v.kindN]++two (s.size v)++[UInt8.ofNat (posOf s.names o.name)]++nums v.xs++nums v.kept=bs++entryB s v):=by
  show _=_;unfold entryB headB;rw[ho,hoo];simp[List.append_assoc]
 have hsm:=(h0.vols v hv).small;have hrm:=(h0.vols v hv).room;obtain⟨cap,kcap,hvi⟩:=(h0.vols v hv).in_;obtain⟨ocap,okcap,hoi⟩:=(h0.vols o hom).in_;have HPS:Hid (∀(W:World) (u:Value) (bs:List UInt8),Buf w0 W u bs->bs.length<=50000->Calls Tryz.prog 114 #[u,.slice (some ⟨v.gb,0,none⟩) v.xs.length cap] W fun e w'=>∃v',e=.returned v'/\Buf w0 w' v' (bs++nums v.xs)):=fun W u bs h1 h2=>putNumbers_calls w0 W u bs _ cap v.xs h1 h2 hvi.xs hsm hx
 have HPK:Hid (∀(W:World) (u:Value) (bs:List UInt8),Buf w0 W u bs->bs.length<=50000->Calls Tryz.prog 114 #[u,.slice (adr v.kg) v.kept.length kcap] W fun e w'=>∃v',e=.returned v'/\Buf w0 w' v' (bs++nums v.kept)):=fun W u bs h1 h2=>putNumbers_calls w0 W u bs _ kcap v.kept h1 h2 hvi.kept (by omega) hkx
 have horg:=hvi.org;rw[ho] at horg;have HORG:Hid (∀W,Same [] w0 W->W.cell? ⟨v.vb,2,none⟩=some (.pointer (some ⟨o.vb,0,none⟩))):=horg;have HVI:Hid (VolIn w0 v cap kcap):=hvi;have HOI:Hid (VolIn w0 o ocap okcap):=hoi;have HB:Hid (Buf w0 w u bs):=h;have c0:=hvi.name w h.same;have hts:v.name.data.toList.length=v.name.size:=Array.length_toList;have ht2:=two_length (s.size v);have hnx:=nums_length v.xs;have hsome:(some o.vb).isSome=true:=rfl;rw[hsome] at hI;clear hV hvi hoi h hx hkx horg hsome
 go_enter Tryz.func68,Tryz.ntmps68
 go_wp2_with (at_builtin;refine wpList_buf_byte rfl _ _ rfl w0 w u bs HB.out rfl v.name.size _ rfl (by rw[u8_small _ (by omega)]) (by omega) ?_)
 intro u1 w1 hB1;have d0:=HVI.out.name w1 hB1.same;obtain⟨b1,q1⟩:∃b1,bs++[UInt8.ofNat v.name.size]=b1:=⟨_,rfl⟩
 rw[q1] at hB1;have hl1:b1.length<=40001:=by rw[<-q1,List.length_append,List.length_singleton];omega
 have H1:Hid (bs++[UInt8.ofNat v.name.size]=b1):=q1;have HB1:Hid (Buf w0 w1 u1 b1):=hB1;clear hB1 c0 q1
 go_wp2_with (at_builtin;refine wpList_buf_text rfl _ _ rfl w0 w1 u1 _ HB1.out rfl v.name rfl (by omega) ?_)
 intro u2 w2 hB2;obtain⟨b2,q2⟩:∃b2,b1++v.name.data.toList=b2:=⟨_,rfl⟩
 rw[q2] at hB2;have hl2:b2.length<=40011:=by rw[<-q2,List.length_append];omega
 have H2:Hid (b1++v.name.data.toList=b2):=q2;have HB2:Hid (Buf w0 w2 u2 b2):=hB2;have hK2:=hK w2 hB2.same;clear hB2 d0 q2
 go_wp2_with (first|(go_at_call 113;refine hK2.mono ?_;rintro e w' ⟨rfl,hw⟩;obtain rfl:=hw.symm)|(at_builtin;refine wpList_buf_byte rfl _ _ rfl w0 w2 u2 _ HB2.out rfl v.kindN _ rfl (by rw[u8_small _ (by omega)]) (by omega) ?_))
 intro u3 w3 hB3;obtain⟨b3,q3⟩:∃b3,b2++[UInt8.ofNat v.kindN]=b3:=⟨_,rfl⟩
 rw[q3] at hB3;have hl3:b3.length<=40012:=by rw[<-q3,List.length_append,List.length_singleton];omega
 have H3:Hid (b2++[UInt8.ofNat v.kindN]=b3):=q3;clear q3;have hZ3:=hZ w3 hB3.same;have hP3:=HPN.out w3 u3 _ (s.size v) hB3 (by omega) (by omega);clear hB3
 go_wp2_with (first|(go_at_call 94;refine hZ3.mono ?_;rintro e w' ⟨rfl,hw⟩;obtain rfl:=hw.symm)|(go_at_call 66;refine hP3.mono ?_;rintro e w4 ⟨u4,rfl,hB4⟩))
 have hI4:=hI w4 hB4.same;have e2:=HORG.out w4 hB4.same;have f0:=HOI.out.name w4 hB4.same;have hX4:=hIX w4 hB4.same;obtain⟨b4,q4⟩:∃b4,b3++two (s.size v)=b4:=⟨_,rfl⟩
 rw[q4] at hB4;have hl4:b4.length<=40014:=by rw[<-q4,List.length_append,ht2];omega
 have H4:Hid (b3++two (s.size v)=b4):=q4;have HB4:Hid (Buf w0 w4 u4 b4):=hB4;clear hB4 hP3 q4;generalize posOf s.names o.name=po at *
 go_wp2_with (first|(go_at_call 88;refine hI4.mono ?_;rintro e w' ⟨rfl,hw⟩;obtain rfl:=hw.symm)|(go_at_call 115;refine hX4.mono ?_;rintro e w' ⟨rfl,hw⟩;obtain rfl:=hw.symm)|(at_builtin;refine wpList_buf_byte rfl _ _ rfl w0 w4 u4 _ HB4.out rfl po _ rfl (by rw[u8_small _ (by omega)]) (by omega) ?_))
 intro u5 w5 hB5;have e1:=HVI.out.blocks w5 hB5.same;obtain⟨b5,q5⟩:∃b5,b4++[UInt8.ofNat po]=b5:=⟨_,rfl⟩
 rw[q5] at hB5;have hl5:b5.length<=40015:=by rw[<-q5,List.length_append,List.length_singleton];omega
 have H5:Hid (b4++[UInt8.ofNat po]=b5):=q5;have hS5:=HPS.out w5 u5 _ hB5 (by omega);clear hB5 q5
 go_wp2_with fail
 refine hS5.mono ?_;rintro e w6 ⟨u6,rfl,hB6⟩;have e3:=HVI.out.places w6 hB6.same;obtain⟨b6,q6⟩:∃b6,b5++nums v.xs=b6:=⟨_,rfl⟩
 rw[q6] at hB6;have hl6:b6.length<=40500:=by rw[<-q6,List.length_append,hnx];omega
 have H6:Hid (b5++nums v.xs=b6):=q6;have hS6:=HPK.out w6 u6 _ hB6 (by omega);clear hB6 hS5 q6
 go_wp2_with fail
 refine hS6.mono ?_;rintro e w7 ⟨u7,rfl,hB7⟩
 go_wp2_with fail
 go_ret
 exact⟨_,rfl,by rw[<-HE.out,H1.out,H2.out,H3.out,H4.out,H5.out,H6.out];exact hB7⟩
def Blk.intsI(b:Blk):List Int:=[b.b0,b.b1,b.b2,b.b3,b.b4,b.b5,b.b6,b.b7]
def Blk.bytes(b:Blk):List UInt8:=b.intsI.map fun n=>UInt8.ofNat n.toNat
def Blk.fits(b:Blk):Prop:=∀n∈b.intsI,0<=n/\n<=255
theorem Blk.bytes_length(b:Blk):b.bytes.length=8:=rfl
theorem Blk.bytes_cells(b:Blk)(h:b.fits):b.bytes.map byteV=b.cells:=by
 have key:∀n∈b.intsI,byteV (UInt8.ofNat n.toNat)=Value.int .u8 n:=fun n hn=>by
  have:=h n hn;unfold byteV;rw[UInt8.toNat_ofNat']
  congr 1
  omega
 unfold Blk.bytes;rw[List.map_map];show b.intsI.map _=b.intsI.map (Value.int .u8);exact List.map_congr_left fun n hn=>key n hn
def markB:List UInt8:=[83,84,82,49]
def listB(s:St)(l:List Vol):List UInt8:=l.flatMap (entryB s)
def bodyB(s:St):List UInt8:=markB++two s.n++[UInt8.ofNat s.vols.length]++listB s s.vols++s.bl.flatMap Blk.bytes
def imgB(s:St):List UInt8:=bodyB s++two (sumB (bodyB s))
theorem blks_length(l:List Blk):(l.flatMap Blk.bytes).length=8 * l.length:=by
 induction l with
 | nil=>rfl
 | cons a r ih=>rw[List.flatMap_cons,List.length_append,ih,Blk.bytes_length,List.length_cons];omega
theorem take_blks(l:List Blk)(k:Nat)(hk:k < l.length):(l.take (k+1)).flatMap Blk.bytes=(l.take k).flatMap Blk.bytes++(l[k]!).bytes:=by
 rw[List.take_succ_eq_append_getElem hk,List.flatMap_append,getElem!_pos l k hk];simp
theorem take_list(s:St)(l:List Vol)(k:Nat)(hk:k < l.length):listB s (l.take (k+1))=listB s (l.take k)++entryB s l[k]!:=by
 unfold listB;rw[List.take_succ_eq_append_getElem hk,List.flatMap_append,getElem!_pos l k hk];simp
theorem listB_length(s:St)(l:List Vol)(h:∀v∈l,(entryB s v).length<=1000):(listB s l).length<=1000 * l.length:=by
 induction l with
 | nil=>simp[listB]
 | cons a r ih=>
  have h1:=h a (by simp);have h2:=ih (fun v hv=>h v (List.mem_cons_of_mem _ hv));unfold listB at *;rw[List.flatMap_cons,List.length_append,List.length_cons];omega
structure BytesNew(w w':World)(g:Nat)(bs:List UInt8):Prop where
 new:w.heap.size<=g
 ex:∃cs,At w' g 5 cs/\cs.take bs.length=bs.map byteV
 same:Same [] w w'
theorem buf_bytes{w0 w:World}{u:Value}{bs:List UInt8}(h:Buf w0 w u bs):∃a cap,u=.slice a bs.length cap/\BytesAt w a bs:=by
 obtain⟨a,cap,rfl⟩:=h.form;refine⟨a,cap,rfl,⟨fun hne=>?_⟩⟩;have hn:bs.length≠0:=fun e=>hne (List.eq_nil_of_length_eq_zero e)
 obtain⟨g,cs,rfl,_,hA,_,ht⟩:=owns_atN h.own hn;refine⟨g,0,rfl,fun i hi=>?_⟩;rw[Nat.zero_add,hA.cell?];have e:(cs.take (bs.length * 1))[i]? = cs[i]?:=by rw[List.getElem?_take,if_pos (by omega)]
 rw[<-e,ht,List.getElem?_map,List.getElem?_eq_getElem hi,getElem!_pos bs i hi];rfl
theorem diskSize_calls(db:Nat)(n:Nat)(t:TypeId)(a:Option Addr)(c:Nat)(v1:Value)(w:World)(h0:At w db t [.slice a n c,v1])(hn:n<=1000) :
 Calls Tryz.prog 67 #[.pointer (some ⟨db,0,none⟩)] w fun e w'=>e=.returned (.int .i64 n)/\w'=w:=by
 have h0':w.cell? ⟨db,0,none⟩=some (.slice a n c):=h0.cell? 0;clear h0
 go_enter Tryz.func67,Tryz.ntmps67
 go_wp2
 go_ret
 exact⟨rfl,rfl⟩
structure Imaged(s:St)(w:World):Prop where
 pool:PoolAt w s
 name:∀v∈s.vols,v.name.size<=10
 xs:∀v∈s.vols,∀x∈v.xs,x < 200
 kept:∀v∈s.vols,∀x∈v.kept,x < 200
 fits:∀x,x < s.n->(s.bl[x]!).fits
theorem Imaged.size{s:St}{w:World}(h:Imaged s w){v:Vol}(hv:v∈s.vols):s.size v<=200:=by
 unfold St.size;exact (h.pool.vols _ (h.pool.orgOf hv).1).small
theorem Imaged.entry{s:St}{w:World}(h:Imaged s w){v:Vol}(hv:v∈s.vols):(entryB s v).length<=1000:=by
 have h1:=entryB_length s v;have h2:=h.name v hv;have h3:=(h.pool.vols v hv).small;have h4:=(h.pool.vols v hv).room;omega
theorem Imaged.put{s:St}{w:World}(h:Imaged s w){v:Vol}(hv:v∈s.vols)(w1:World)(u:Value)(bs:List UInt8)(hB:Buf w w1 u bs)(hl:bs.length<=40000) :
 Calls Tryz.prog 68 #[.pointer (some ⟨s.pb,0,none⟩),u,.pointer (some ⟨v.vb,0,none⟩)] w1 fun e w'=>∃u',e=.returned u'/\Buf w w' u' (bs++entryB s v):=by
 have hH:Heads s v w:=⟨h.pool,hv,h.name v hv,h.size hv,fun x hx=>by have:=h.xs v hv x hx;omega,fun x hx=>by have:=h.kept v hv x hx;omega⟩
 by_cases ho:v.org=none
 ·exact putVolume_vol s v w w1 u bs hH ho hB hl
 ·exact putVolume_pic s v (s.orgOf v) w w1 u bs hH (h.pool.orgOf hv).1 ((h.pool.orgOf hv).2.2.2 ho) rfl hB hl
theorem putNumber_full(w0 w:World)(g:Nat)(bs:List UInt8)(n:Nat)(hS:Same [] w0 w)(hc:∀j,j < bs.length->w.cell? ⟨g,j,none⟩=some (byteV bs[j]!))(hg:g < w.heap.size)(hl:bs.length<=100000)(hn:n<=65535) :
 Calls Tryz.prog 66 #[.slice (some ⟨g,0,none⟩) bs.length bs.length,.int .i64 n] w fun e w'=>∃v',e=.returned v'/\Buf w0 w' v' (bs++two n):=by
 obtain⟨i0,hi,hz0,hz1,hz2⟩:=info_parts Tryz.info5;have HT:Hid ((two n).map byteV=[.int .u8 ((n:Int) / 256),.int .u8 ((n:Int) % 256)]):=two_cells n hn;have hz:=hS.size;have HC:Hid (∀j u,(bs.map byteV)[j]? = some u->(w.alloc (.cells #[.int .u8 ((n:Int) / 256),.int .u8 ((n:Int) % 256)] 5)).cell? ⟨g,j,none⟩=some u):=fun j u hj=>by
  have hj':j < bs.length:=by
   rcases Nat.lt_or_ge j bs.length with h'|h'
   ·exact h'
   ·rw[List.getElem?_eq_none (by simpa using h')] at hj;cases hj
  have e:(w.alloc (.cells #[.int .u8 ((n:Int) / 256),.int .u8 ((n:Int) % 256)] 5)).cell? ⟨g,j,none⟩=w.cell? ⟨g,j,none⟩:=by
   simp[World.cell?,Below.heap_alloc w _ g hg]
  rw[e,hc j hj',<-hj,List.getElem?_map,List.getElem?_eq_getElem hj',getElem!_pos bs j hj'];rfl
 clear hc
 go_enter Tryz.func66,Tryz.ntmps66
 go_wp2_with (at_builtin;refine wpList_append_grows _ rfl _ _ 41 rfl 5 i0 (.int .u8 0) 1 1 Tryz.underlying41 hi hz0 hz1 hz2 rfl (by decide) (some ⟨g,0,none⟩) bs.length bs.length (bs.map byteV) rfl (fun e=>by cases e) (by simp) ?c0 ⟨w.heap.size,0,none⟩ 2 2 [.int .u8 ((n:Int) / 256),.int .u8 ((n:Int) % 256)] rfl rfl ?c1 ?c2 (by omega) ?c3 ?c4 ?_)
 case c0=>intro b hb j u hj;cases hb;rw[Addr.add_lit,Nat.zero_add];exact HC.out j u hj
 case c1=>exact cells_new
 case c2=>intro u hu;simp at hu;rcases hu with rfl|rfl<;>rfl
 case c3=>unfold maxLen;omega
 case c4=>omega
 intro v' w4 hown' hgrow;have HB:Hid (Buf w0 w4 v' (bs++two n)):=by
  refine⟨?_,(hS.alloc _).grown hgrow (by simp)⟩;rw[List.length_append,List.map_append,HT.out,two_length];exact owns_base hown' (by first|omega|(simp;omega))
 clear hown' hgrow
 go_wp2
 go_ret
 exact⟨_,rfl,HB.out⟩
theorem image_calls(s:St)(w:World)(h:Imaged s w) :
 Calls Tryz.prog 34 #[.pointer (some ⟨s.pb,0,none⟩)] w fun e w'=>∃g,e=.returned (.slice (some ⟨g,0,none⟩) (imgB s).length (imgB s).length)/\BytesNew w w' g (imgB s):=by
 have hnot:=runNot;have hcv:=Joins.run_convert_bytes_const_at (P:=Tryz.prog) w 41 5 #[.int .u8 83,.int .u8 84,.int .u8 82,.int .u8 49] 4 4 w.heap.size rfl Tryz.underlying41 Tryz.underlying5;have hm:=made_plain s w h.pool;obtain⟨cap,hp,hp1,hp2⟩:=h.pool.pool;have hns:=h.pool.disk.small;have hbl:=h.pool.disk.len;have hfew:=h.pool.few;have HCP:Hid (∀W,Same [] w W->W.cell? ⟨s.pb,1,none⟩=some (.pointer (some ⟨s.db,0,none⟩))/\W.cell? ⟨s.pb,2,none⟩=some (.slice (s.ab.map fun b=>⟨b,0,none⟩) s.vols.length cap)):=fun W hW=>⟨(hW.at hp (by simp)).cell? 1,(hW.at hp (by simp)).cell? 2⟩
 have hSZ:=fun W (hW:Same [] w W)=>diskSize_calls s.db s.n _ _ _ _ W (hW.at h.pool.disk.disk (by simp)) (by omega)
 have hRD:=fun W (hW:Same [] w W) (k:Nat) (hk:k < s.n)=>diskRead_calls s.db s.bb s.n k _ _ _ s.bl W (.pointer (some ⟨s.db,0,none⟩)) k rfl rfl (hW.at h.pool.disk.disk (by simp)) (hW.at h.pool.disk.data (by simp)) hbl hk (by omega)
 have HRD:Hid _:=hRD;have HIM:Hid (Imaged s w):=h;have HPN:Hid (∀(W:World) (v:Value) (bs:List UInt8) (n:Nat),Buf w W v bs->bs.length<=100000->n<=65535->Calls Tryz.prog 66 #[v,.int .i64 n] W fun e w'=>∃v',e=.returned v'/\Buf w w' v' (bs++two n)):=fun W v bs n h1 h2 h3=>putNumber_calls w W v bs n h1 h2 h3
 have SM:Same [] w (w.alloc (.cells #[.int .u8 83,.int .u8 84,.int .u8 82,.int .u8 49] 5 (4,5))):=(Same.refl _ _).alloc _;have hsz4:(#[.int .u8 83,.int .u8 84,.int .u8 82,.int .u8 49]:Array Value).size=4:=rfl;rw[hsz4] at hcv;obtain⟨c1,c2⟩:=HCP.out _ SM;have hz0:=hSZ _ SM;have hP0:=putNumber_full w _ w.heap.size markB s.n SM (by
  intro j hj;have hj4:j < 4:=hj;simp only[World.cell?,World.alloc]
  match j,hj4 with
  | 0,_=>simp[markB,byteV]
  | 1,_=>simp[markB,byteV]
  | 2,_=>simp[markB,byteV]
  | 3,_=>simp[markB,byteV]) (by simp) (by decide) (by omega)
 have hmk:markB.length=4:=rfl;rw[hmk] at hP0;have lt1:=hp.lt;have HAB:Hid (∀W,Same [] w W->∀k,k < s.vols.length->∃b,(s.ab.map fun b=>(⟨b,0,none⟩:Addr))=some ⟨b,0,none⟩/\W.cell? ⟨b,k,none⟩=some (.pointer (some ⟨(s.vols[k]!).vb,0,none⟩))):=fun W hW k hk=>by
  obtain⟨b,q1,q2,_⟩:=(h.pool.new hW).cell k hk;exact⟨b,by rw[q1];rfl,q2⟩
 generalize (s.ab.map fun b=>(⟨b,0,none⟩:Addr))=aa at *;clear SM hRD h hp hsz4 hmk hp2
 go_enter Tryz.func34,Tryz.ntmps34
 go_wp2_with (first|(go_at_call 45;refine hm.mono ?_;rintro e w' ⟨rfl,hw⟩;obtain rfl:=hw.symm)|(go_at_call 67;refine hz0.mono ?_;rintro e w' ⟨rfl,hw⟩;obtain rfl:=hw.symm)|(go_at_call 66;refine hP0.mono ?_;rintro e w1 ⟨u1,rfl,hB1⟩;obtain⟨b1,q1⟩:∃b1,markB++two s.n=b1:=⟨_,rfl⟩;rw[q1] at hB1;have H1:Hid (markB++two s.n=b1):=q1;have hl1:b1.length=6:=(by rw[<-q1];rfl);clear q1;obtain⟨d1,d2⟩:=HCP.out w1 hB1.same;have HB1:Hid (Buf w w1 u1 b1):=hB1;clear hB1)|(at_builtin;refine wpList_buf_byte rfl _ _ rfl w w1 u1 _ HB1.out rfl s.vols.length _ rfl (by rw[u8_small _ (by omega)]) (by omega) ?_))
 intro u2 w2 hB2;obtain⟨b2,q2⟩:∃b2,b1++[UInt8.ofNat s.vols.length]=b2:=⟨_,rfl⟩
 rw[q2] at hB2;have H2:Hid (b1++[UInt8.ofNat s.vols.length]=b2):=q2;have hl2:b2.length=7:=by rw[<-q2,List.length_append,hl1];rfl
 obtain⟨e1,e2⟩:=HCP.out w2 hB2.same;have HB2:Hid (Buf w w2 u2 b2):=hB2;clear hB2 q2 hP0 hz0 c1 c2 d1 d2
 go_wp2_with fail
 go_loopw [3,33] (fun u i wr=>∃(k:Nat) (bs:List UInt8),k<=s.vols.length/\i=.int .i64 k/\Buf w wr u bs/\Hid (bs=b2++listB s (s.vols.take k))) (fun _ i _=>s.vols.length - (intOf i).toNat)
 case atStart=>exact⟨0,b2,Nat.zero_le _,rfl,HB2.out,by show _=_;simp[listB]⟩
 case round=>
  obtain⟨k,bs,hk,rfl,hB,HQ⟩:=hrel;by_cases hkl:k < s.vols.length
  ·obtain⟨b,rfl,hcell⟩:=HAB.out wr hB.same k hkl;have hmem:s.vols[k]!∈s.vols:=by rw[getElem!_pos s.vols k hkl];exact List.getElem_mem hkl
   have hlen:bs.length<=40000:=by
    rw[HQ.out,List.length_append,hl2];have:=listB_length s (s.vols.take k) (fun v hv=>HIM.out.entry (List.mem_of_mem_take hv));rw[List.length_take] at this;omega
   have hPV:=HIM.out.put hmem wr _ bs hB hlen;have HL:Hid (b2++listB s (s.vols.take (k+1))=bs++entryB s (s.vols[k]!)):=by show _=_;rw[take_list s s.vols k hkl,HQ.out,List.append_assoc]
   generalize s.vols[k]! = v at *;have l1:(k:Int) < (s.vols.length:Int):=by omega
   clear hB HQ hmem hlen
   go_wp2_with (go_at_call 68;refine hPV.mono ?_;rintro e w3 ⟨u3',rfl,hB3⟩)
   go_roundw
   case rel=>exact⟨k+1,_,by omega,by go_num,hB3,HL.out.symm⟩
   case measure=>simp[intOf];omega
  ·have ek:k=s.vols.length:=by omega
   subst ek;obtain⟨f1,_⟩:=HCP.out wr hB.same;have hz3:=hSZ wr hB.same;have hlen:bs.length<=21000:=by
    rw[HQ.out,List.length_append,hl2];have:=listB_length s (s.vols.take s.vols.length) (fun v hv=>HIM.out.entry (List.mem_of_mem_take hv));rw[List.length_take] at this;omega
   have HL:Hid (bs=markB++two s.n++[UInt8.ofNat s.vols.length]++listB s s.vols):=by
    show _=_;rw[HQ.out,List.take_length,<-H2.out,<-H1.out]
   have HB3:Hid (Buf w wr _ bs):=hB;clear hB HQ e1 e2
   go_wp2_with (go_at_call 67;refine hz3.mono ?_;rintro e w' ⟨rfl,hw⟩;obtain rfl:=hw.symm)
   go_loopw [3,47] (fun u i wi=>∃(j:Nat) (cs:List UInt8),j<=s.n/\i=.int .i64 j/\Buf w wi u cs/\Hid (cs=bs++(s.bl.take j).flatMap Blk.bytes)) (fun _ i _=>s.n - (intOf i).toNat)
   case atStart=>exact⟨0,bs,Nat.zero_le _,rfl,HB3.out,by show _=_;simp⟩
   case round=>
    obtain⟨j,cs,hj,rfl,hC,HQ⟩:=hrel;have hcl:cs.length<=30000:=by
     rw[HQ.out,List.length_append,blks_length,List.length_take];omega
    by_cases hjl:j < s.n
    ·have hR:=HRD.out wr hC.same j hjl;obtain⟨g1,_⟩:=HCP.out wr hC.same;have hft:=Blk.bytes_cells _ (HIM.out.fits j hjl);have HT:Hid (bs++(s.bl.take (j+1)).flatMap Blk.bytes=cs++(s.bl[j]!).bytes):=by show _=_;rw[take_blks s.bl j (by omega),HQ.out,List.append_assoc]
     generalize s.bl[j]! = y at *;have hyb:=y.bytes_length;have HFT:Hid (y.bytes.map byteV=y.cells):=hft;generalize y.bytes=yb at *;have hyl:y.cells.length=8:=rfl;obtain⟨y0,y1,y2,y3,y4,y5,y6,y7⟩:=y;unfold Blk.val at hR;have l2:(j:Int) < (s.n:Int):=by omega
     have HC:Hid (Buf w wr _ cs):=hC;clear hC HQ hft
     go_wp2_with (first|(go_at_call 69;refine hR.mono ?_;rintro e w4 ⟨rfl,S4⟩;have N4:=At.new w4 #[.int .u8 y0,.int .u8 y1,.int .u8 y2,.int .u8 y3,.int .u8 y4,.int .u8 y5,.int .u8 y6,.int .u8 y7] 91;have HN4:Hid (∀j,j < yb.length->(w4.alloc (.cells #[.int .u8 y0,.int .u8 y1,.int .u8 y2,.int .u8 y3,.int .u8 y4,.int .u8 y5,.int .u8 y6,.int .u8 y7] 91)).cell? ⟨w4.heap.size,0+j,none⟩=some (byteV yb[j]!)):=(fun j hj=>(by rw[N4.cell?,Nat.zero_add];show (Blk.cells ⟨y0,y1,y2,y3,y4,y5,y6,y7⟩)[j]? = _;rw[<-HFT.out,List.getElem?_map,List.getElem?_eq_getElem hj,getElem!_pos yb j hj];rfl));have HC4:=(HC.out.new S4).new ((Same.refl [] _).alloc (.cells #[.int .u8 y0,.int .u8 y1,.int .u8 y2,.int .u8 y3,.int .u8 y4,.int .u8 y5,.int .u8 y6,.int .u8 y7] 91));have HCC:Hid (Buf w (w4.alloc (.cells #[.int .u8 y0,.int .u8 y1,.int .u8 y2,.int .u8 y3,.int .u8 y4,.int .u8 y5,.int .u8 y6,.int .u8 y7] 91)) _ cs):=HC4;clear HC4 N4)|(at_builtin;refine wpList_buf_row rfl _ _ rfl w _ _ cs yb HCC.out rfl w4.heap.size 0 8 (by rw[hyb];rfl) HN4.out (by omega) ?_))
     intro u5 w5 hB5
     go_wp2
     go_roundw
     case rel=>exact⟨j+1,_,by omega,by go_num,hB5,HT.out.symm⟩
     case measure=>simp[intOf];omega
    ·have ej:j=s.n:=by omega
     subst ej;have hbody:cs=bodyB s:=by
      rw[HQ.out,HL.out,bodyB,<-hbl,List.take_length]
     subst hbody;have HIMG:Hid (imgB s=bodyB s++two (sumB (bodyB s))):=rfl;generalize bodyB s=bo at *;have hsl:=sumB_lt bo;have hPx:=HPN.out wr _ bo (sumB bo) hC (by omega) (by omega);obtain⟨a,c0,rfl,hBA⟩:=buf_bytes hC;have hSm:=sum_calls wr a c0 bo hBA (by unfold maxLen;omega);clear hC HQ hBA HL
     go_wp2_with (first|(go_at_call 70;refine hSm.mono ?_;rintro e w' ⟨rfl,hw⟩;obtain rfl:=hw.symm)|(go_at_call 66;refine hPx.mono ?_;rintro e w5 ⟨u5,rfl,hB5⟩;obtain⟨bt,q5⟩:∃bt,bo++two (sumB bo)=bt:=⟨_,rfl⟩;rw[q5] at hB5;have hbt:bt.length=bo.length+2:=(by rw[<-q5,List.length_append,two_length]);have HBT:Hid (imgB s=bt):=(HIMG.out.trans q5);have hsame:=hB5.same;obtain⟨a5,c5,rfl⟩:=hB5.form;obtain⟨g5,cs5,rfl,hg5,hA5,hcl5,ht5⟩:=owns_atN hB5.own (by omega);have hc5:bt.length<=c5:=(by have:=congrArg List.length ht5;rw[List.length_take,List.length_map] at this;omega);have m1:(bt.length:Int)<=(c5:Int):=(by omega);have m2:(0:Int)<=(bt.length:Int):=(by omega);have m3:((bt.length:Int)).toNat=bt.length:=(by omega);have HFN:Hid (BytesNew w w5 g5 bt):=⟨hg5,⟨cs5,hA5,(by rw[<-Nat.mul_one bt.length];exact ht5)⟩,hsame⟩;clear hB5 q5 hA5 ht5 hcl5 hsame))
     go_ret
     rw[HBT.out];refine⟨g5,?_,HFN.out⟩;rw[hbt];rfl
end
end Go.Proofs.YtpddgdjocffgdaaGreat
