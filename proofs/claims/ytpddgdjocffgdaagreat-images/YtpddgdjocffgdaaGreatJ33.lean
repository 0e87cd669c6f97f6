/- The reference's Load, by a contract. A Pool that was loaded has the image that it was loaded from. The Pool that the program has loaded beside that of the reference. A byte that is another changes the sum. A Pool and the one that was loaded from its image hold the same. All blocks are bytes, where all that can be read is. Any write of bytes leaves all that can be read bytes. An image that is loaded, whole or with one byte changed. -/
import Derived.Test.YtpddgdjocffgdaaGreatJ31
import Derived.Test.YtpddgdjocffgdaaGreatJ32
import Derived.Test.YtpddgdjocffgdaaGreatJ11
import Derived.Test.YtpddgdjocffgdaaGreatJ08
namespace Go.Proofs.YtpddgdjocffgdaaGreat
set_option linter.unusedVariables false
set_option linter.unusedSimpArgs false
set_option linter.unusedSectionVars false
set_option maxHeartbeats 16000000
set_option maxRecDepth 100000
section
open Go.RowKit Go.Sort
variable [DecidableEq Blk] [Inhabited Blk] [Inhabited Vol] [Inhabited PEnt] [Inhabited RVol] [Inhabited RRow]
def ROk(w:World)(B:List UInt8)(e:Ending)(w':World):Prop:=
 match rpool B with
 | .error q=>e=.returned (.tuple #[.pointer none,.int .i64 12,.int .i64 q])/\Same [] w w'
 | .ok (n,ps,at2)=>∃r xs,e=.returned (.tuple #[.pointer (some ⟨r.rb,0,none⟩),.int .i64 0,.int .i64 0])/\AllOk B n at2 xs ps/\TiedOk w w' B at2 n xs r.rb r/\Same [] w w'
def RLoadPost(w:World)(I:List UInt8)(e:Ending)(w':World):Prop:=
 if 2<=I.length/\endN I=sumB (aheadB I) then ROk w (aheadB I) e w' else e=.returned (.tuple #[.pointer none,.int .i64 11,.int .i64 0])/\Same [] w w'
theorem ROk.bad{w w':World}{B:List UInt8}{q:Nat}(h:rpool B=.error q)(hS:Same [] w w'):ROk w B (.returned (.tuple #[.pointer none,.int .i64 12,.int .i64 (q:Int)])) w':=by
 unfold ROk;rw[h];exact⟨rfl,hS⟩
theorem size_bad(B:List UInt8)(a:Nat)(q:Nat):sizeX B a (some q)=(0,a,some q):=rfl
theorem count_bad(B:List UInt8)(a:Nat)(q:Nat):countX B a (some q)=(0,a,some q):=rfl
theorem head_spec{B:List UInt8}{n count a1 a2:Nat}{b1 b2:Option Nat}(h1:sizeX B 4 none=(n,a1,b1))(h2:countX B a1 b1=(count,a2,b2)) :
 (∀q,b2=some q->rnum B 2 1 200 4=.error q\/((1<=n/\n<=200)/\rnum B 2 1 200 4=.ok (n,a1)/\rnum B 1 0 20 a1=.error q))/\(b2=none->(1<=n/\n<=200)/\count<=20/\rnum B 2 1 200 4=.ok (n,a1)/\rnum B 1 0 20 a1=.ok (count,a2)):=by
 unfold sizeX at h1;simp only[Prod.mk.injEq] at h1;obtain⟨e1,e2,e3⟩:=h1;cases hr:rnum B 2 1 200 4 with
 | error q=>
  have:=num_err hr (decide (1<=(numX B 2 4 none).1/\(numX B 2 4 none).1<=200)) (by simp);rw[this] at e3;subst e3;rw[count_bad] at h2;simp only[Prod.mk.injEq] at h2;obtain⟨_,_,rfl⟩:=h2;exact⟨fun q' hq=>Or.inl (by cases hq;rfl),fun hn=>by cases hn⟩
 | ok pr=>
  obtain⟨v,at1⟩:=pr;obtain⟨f1,f2,f3⟩:=num_ok hr;have f4:=(rnum_ok hr).2.2.2.2;rw[f1] at e1 e2 e3;simp only at e1 e2 e3;subst e1 e2;have e:decide (1<=v/\v<=200)=true:=decide_eq_true ⟨f2,f3⟩;rw[e] at e3;have e3:none=b1:=e3;subst e3;unfold countX at h2;simp only[Prod.mk.injEq] at h2;obtain⟨g1,g2,g3⟩:=h2;have h6:at1=6:=by omega
  cases hc:rnum B 1 0 20 at1 with
  | error q=>
   have:=num_err hc (decide ((numX B 1 at1 none).1<=20)) (by simp);rw[h6] at this g3;rw[this] at g3;subst g3;exact⟨fun q' hq=>Or.inr ⟨⟨f2,f3⟩,rfl,by cases hq;rfl⟩,fun hn=>by cases hn⟩
  | ok pr=>
   obtain⟨c,at2⟩:=pr;obtain⟨k1,k2,k3⟩:=num_ok hc;rw[k1] at g1 g2 g3;simp only at g1 g2 g3;subst g1 g2;have e:decide (c<=20)=true:=decide_eq_true k3;rw[e] at g3;have g3:none=b2:=g3;subst g3;exact⟨fun q hq=>(by cases hq),fun _=>⟨⟨f2,f3⟩,k3,rfl,rfl⟩⟩
theorem ScAt.bd_inj{w0 w:World}{sb:Nat}{B:List UInt8}{a a':Nat}{bd bd':Option Nat}(h:ScAt w0 w sb B a bd)(h':ScAt w0 w sb B a' bd'):bd=bd':=by
 have h1:=h.cell.cell? 2;have h2:=h'.cell.cell? 2;rw[h1] at h2;have h3:badI bd=badI bd':=by simpa using h2
 cases bd<;>cases bd'<;>simp only[badI] at h3
 ·rfl
 ·omega
 ·omega
 ·congr 1;omega
theorem rows_nil(w:World)(base:Nat):Rows w base [] (ofsX [] 0) (List.replicate ([]:List RRow).length (.slice none 0 0,[])):=
 ⟨fun j hj=>by simp at hj,fun j hj=>by simp at hj,fun j hj=>by simp at hj,fun j k hj=>by simp at hj,by simp,fun x hx=>by simp at hx,rfl,rfl⟩
theorem end_two(x y:UInt8)(s:Nat)(hs:s < 65536):([x,y]=two s)↔valB [x,y]=s:=by
 have hx:=x.toNat_lt;have hy:=y.toNat_lt;have hv:valB [x,y]=x.toNat * 256+y.toNat:=by simp[valB]
 rw[hv];unfold two
 constructor
 ·intro h;simp only[List.cons.injEq,and_true] at h;obtain⟨h1,h2⟩:=h;have e1:=congrArg UInt8.toNat h1;have e2:=congrArg UInt8.toNat h2;simp at e1 e2;omega
 ·intro h;simp only[List.cons.injEq,and_true]
  constructor
  ·apply UInt8.toNat.inj;simp;omega
  ·apply UInt8.toNat.inj;simp;omega
theorem refLoad_good(w:World)(t:ByteArray)(m:Nat)(B:List UInt8)(hl:B.length<=140737488355328)(hm:t.size=m+2)(hm2:m<=140737488355328)(hB:t.extract 0 m=⟨B.toArray⟩)(hE:t.extract m t.size=⟨(two (sumB B)).toArray⟩) :
 Calls Tryz.prog 65 #[.string t] w (ROk w B):=by
 refine load_head w t m B hl hm hm2 hB hE (ROk w B) ?_;intro _ _ _ _ _ _ _ _ _ _ _ _ _ _ _ _ _ _ _ _ _ _ _ _ _ _ _ _ _ _ _ _ _ _ _ _ _ _ _ _ _ _ _ _ _ _ _ _ _ _ _ _ _ _ _ _ _ _ _ _ _ _ _ _ _ _ _ _ _ _ _ _ _ _ _ _ _ _ _ _ _ _ _ _ _ _ _ _ _ _ _ _ _ _ _ _ _ _ _ _ _ _ _ _ _ _ _ _ _ _ _ _ _ _ _ _ _ _ _ _ _ _ _ _ _ _ _ _ _ _ _ _ _ _ _ _ _ _ _ wd sb hM;obtain⟨a0,b0,hsc,hre⟩:∃a bd,ScAt w wd sb B a bd/\((∃q,rmark B 4 0=.error q/\bd=some q)\/(rmark B 4 0=.ok 4/\a=4/\bd=none)):=by
  rcases hM.out with⟨q,at_,h1,h2⟩|⟨h1,h2⟩
  ·exact⟨at_,some q,h2,Or.inl ⟨q,h1,rfl⟩⟩
  ·exact⟨4,none,h2,Or.inr ⟨h1.symm,rfl,rfl⟩⟩
 have hSw:∀{w1:World},Same [] w w1->∀{w2:World},Same [] w1 w2->Same [] w w2:=fun h1 _ h2=>h1.step h2 (by simp)
 refine load_mid _ _ _ _ _ _ _ _ _ _ _ _ _ _ _ _ _ _ _ _ _ _ _ _ _ _ _ _ _ _ _ _ _ _ _ _ _ _ _ _ _ _ _ _ _ _ _ _ _ _ _ _ _ _ _ _ _ _ _ _ _ _ _ _ _ _ _ _ _ _ _ _ _ _ _ _ _ _ _ _ _ _ _ _ _ _ _ _ _ _ _ _ _ _ _ _ _ _ _ _ _ _ _ _ _ _ _ _ _ _ _ _ _ _ _ _ _ _ _ _ _ _ _ _ _ _ _ _ _ _ _ _ _ _ _ _ _ _ _ w wd sb B a0 b0 hl hsc (ROk w B) ?_;intro _ _ _ _ _ _ _ _ _ _ _ _ _ _ _ _ _ _ _ _ _ _ _ _ _ _ _ _ _ _ _ _ _ _ _ _ _ _ _ _ _ _ _ _ _ _ _ _ _ _ _ _ _ _ _ _ _ _ _ _ _ _ _ _ _ _ _ _ _ _ _ _ _ _ _ _ _ _ _ _ _ _ _ _ _ _ _ _ _ _ _ _ _ _ _ _ _ _ _ _ _ _ _ _ _ _ _ _ _ _ _ _ _ _ _ _ _ _ _ _ _ _ _ _ _ _ _ _ _ _ _ _ _ _ _ wd2 n count a1 a2 b1 b2 hh;obtain⟨h1,h2,hn6,hc6,hsc2,hP,hS2⟩:=hh.out;have hsblt:=hsc.cell.lt;have hsz:=hS2.size;have hrlt:=hP.lt;have hw0:=hsc.same.size;cases b2 with
 | some q=>
  have hrp:rpool B=.error q:=by
   rcases hre with⟨q0,e1,rfl⟩|⟨e1,rfl,rfl⟩
   ·rw[size_bad] at h1;simp only[Prod.mk.injEq] at h1;obtain⟨_,_,rfl⟩:=h1;rw[count_bad] at h2;simp only[Prod.mk.injEq] at h2;obtain⟨_,_,h2⟩:=h2;cases h2;simp only[rpool,e1]
   ·rcases (head_spec h1 h2).1 q rfl with e2|⟨_,e2,e3⟩
    ·simp only[rpool,e1,e2]
    ·simp only[rpool,e1,e2,rlist,e3]
  exact load_ents_bad _ _ _ _ _ _ _ _ _ _ _ _ _ _ _ _ _ _ _ _ _ _ _ _ _ _ _ _ _ _ _ _ _ _ _ _ _ _ _ _ _ _ _ _ _ _ _ _ _ _ _ _ _ _ _ _ _ _ _ _ _ _ _ _ _ _ _ _ _ _ _ _ _ _ _ _ _ _ _ _ _ _ _ _ _ _ _ _ _ _ _ _ _ _ _ _ _ _ _ _ _ _ _ _ _ _ _ _ _ _ _ _ _ _ _ _ _ _ _ _ _ _ _ _ _ _ _ _ _ _ _ _ _ _ _ _ _ _ w wd2 sb B a2 q count hc6 hsc2 (ROk w B) (fun w' hw=>ROk.bad hrp (hSw hsc2.same hw))
 | none=>
  obtain⟨e1,rfl,rfl⟩:rmark B 4 0=.ok 4/\a0=4/\b0=none:=by
   rcases hre with⟨q0,e1,rfl⟩|h
   ·rw[size_bad] at h1;simp only[Prod.mk.injEq] at h1;obtain⟨_,_,rfl⟩:=h1;rw[count_bad] at h2;simp only[Prod.mk.injEq] at h2;obtain⟨_,_,h2⟩:=h2;cases h2
   ·exact h
  obtain⟨hn,hc,e2,e3⟩:=(head_spec h1 h2).2 rfl;have hrl:rlist B n a1=rents B count n count [] a2:=by simp only[rlist,e3]
  refine load_ents _ _ _ _ _ _ _ _ _ _ _ _ _ _ _ _ _ _ _ _ _ _ _ _ _ _ _ _ _ _ _ _ _ _ _ _ _ _ _ _ _ _ _ _ _ _ _ _ _ _ _ _ _ _ _ _ _ _ _ _ _ _ _ _ _ _ _ _ _ _ _ _ _ _ _ _ _ _ _ _ _ _ _ _ _ _ _ _ _ _ _ _ _ _ _ _ _ _ _ _ _ _ _ _ _ _ _ _ _ _ _ _ _ _ _ _ _ _ _ _ _ _ _ _ _ _ _ _ _ _ _ _ _ _ _ w wd2 sb wd.heap.size wd2.heap.size B n count a2 hl hn hc ?_ (ROk w B) ?_
  ·refine Or.inr ⟨[],[],.slice none 0 0,a2,rfl,rfl,⟨fun p hp=>by simp at hp,by simp,by simp⟩,rfl,?_⟩;refine⟨hsc2,rows_nil _ _,fun x hx=>by simp at hx,hP,World.ownsRow_nil _ _ _ _,World.ownsRow_nil _ _ _ _,World.ownsRow_nil _ _ _ _,fun g hg=>(by cases hg),fun g hg=>(by cases hg),fun g hg=>(by cases hg),by omega,⟨hrlt,by omega,hw0⟩,⟨Nat.le_refl _,by omega⟩⟩
  ·intro _ _ _ _ _ _ _ _ u11 u12 _ _ _ _ _ _ _ _ _ _ _ _ _ _ _ _ _ _ _ _ _ _ _ _ _ _ _ _ _ _ _ _ _ _ _ _ _ _ _ _ _ _ _ _ _ _ _ _ _ _ _ _ _ _ _ _ _ _ _ _ _ _ _ _ _ _ _ _ _ _ _ _ _ _ _ _ _ _ _ _ _ _ _ _ _ _ _ _ _ _ _ _ _ _ _ _ _ _ _ _ _ _ _ _ _ _ _ _ _ _ _ _ _ _ _ _ _ _ _ _ _ _ _ _ _ _ _ wd3 i hh3;obtain⟨hic,hR3,hlt3⟩:=hh3.out;have hbadR:∀q at_,rents B count n count [] a2=.error q->ScAt w wd3 sb B at_ (some q)->∀w',Same [] wd3 w'->ROk w B (.returned (.tuple #[.pointer none,.int .i64 12,.int .i64 (q:Int)])) w':=fun q at_ hq hs w' hw=>
    ROk.bad (by simp only[rpool,e1,e2,hrl,hq]) (hSw hs.same hw)
   rcases hR3 with⟨q,at_,hq,hs⟩|⟨ps,xs,pv,at_,hpl,ht,hok,hxs,hI⟩
   ·exact load_bad _ _ _ _ _ _ _ _ _ _ _ _ _ _ _ _ _ _ _ _ _ _ _ _ _ _ _ _ _ _ _ _ _ _ _ _ _ _ _ _ _ _ _ _ _ _ _ _ _ _ _ _ _ _ _ _ _ _ _ _ _ _ _ _ _ _ _ _ _ _ _ _ _ _ _ _ _ _ _ _ _ _ _ _ _ _ _ _ _ _ _ _ _ _ _ _ _ _ _ _ _ _ _ _ _ _ _ _ _ _ _ _ _ _ _ _ _ _ _ _ _ _ _ _ _ _ _ _ _ _ _ _ _ _ _ _ _ _ _ w wd3 sb B at_ q hs (ROk w B) (hbadR q at_ hq hs)
   ·have hi:i=count:=by
     rcases Nat.lt_or_ge i count with hlt|hge
     ·obtain⟨q,at',_,hs⟩:=hlt3 hlt;have:=hs.bd_inj hI.sc;cases this
     ·omega
    subst hi;rw[Nat.sub_self] at ht;have ht:rents B i n i [] a2=.ok (ps,at_):=ht.symm;have hok':=hok;rw[<-hpl] at hok';have ho:∀p∈ps,p.kind≠0->p.origin < ps.length:=fun p hp hk=>(hok'.all p hp).org hk
    obtain⟨j1,j2⟩:=join_all hxs ho;obtain⟨hX,hnm⟩:=xs_ok hxs hok hpl hc hn.2;have hrp:rpool B=(match rjoin ps ps with|.error q=>.error q|.ok _=>match rdisk B (usedP ps) n at_ with|.error q=>.error q|.ok (bl,at3)=>if at3=B.length then .ok (n,ps,at_) else .error at3):=by
     simp only[rpool,e1,e2,hrl,ht];rfl
    have hfull:∀w1 r,joinX xs xs.length=none->at_+8 * n<=B.length->TiedOk w w1 B at_ n xs wd.heap.size r->(rfree B (usedP ps) at_ n 0=.ok ()->blocksX B r at_ n none=none)/\∀q,rfree B (usedP ps) at_ n 0=.error q->blocksX B r at_ n none=some q:=fun w1 r hj hle hT=>by
     have:=blocks_spec B r (usedP ps) at_ n (fun k hk=>blk_spec ⟨hxs,hok',hj,hle⟩ hT hnm hX k hk) n 0 (by omega) rfl;rw[Nat.zero_add] at this;exact this
    refine load_good _ _ _ _ _ _ _ _ _ _ _ _ _ _ _ _ _ _ _ _ _ _ _ _ _ _ _ _ _ _ _ _ _ _ _ _ _ _ _ _ _ _ _ _ _ _ _ _ _ _ _ _ _ _ _ _ _ _ _ _ _ _ _ _ _ _ _ _ _ _ _ _ _ _ _ _ _ _ _ _ _ _ _ _ _ _ _ _ _ _ _ _ _ _ _ _ _ _ _ _ _ _ _ _ _ _ _ _ _ _ _ _ _ _ _ _ _ _ _ _ _ _ _ _ _ _ _ _ _ _ _ _ _ _ _ _ w wd3 sb wd.heap.size wd2.heap.size B n i at_ _ ps xs u11 u12 pv _ hl hn.2 hc hI hxs hok hpl (ROk w B) ?_ ?_
    ·intro w1 w' q a hPp hs hw;refine ROk.bad ?_ (hSw hs.same hw);rw[hrp];rcases hPp with⟨q',hj,hs'⟩|⟨hj,hle,hs'⟩|⟨r,hj,hle,hT,hs'⟩
     ·have:=hs.bd_inj hs';cases this;rw[j2 _ hj]
     ·have:=hs.bd_inj hs';cases this;rw[j1 hj];simp only;unfold rdisk;rw[if_neg (by omega)]
     ·have hbd:=hs.bd_inj hs';obtain⟨f1,f2⟩:=hfull w1 r hj hle hT;rw[j1 hj];simp only;unfold rdisk;rw[if_pos (by omega)];cases hf:rfree B (usedP ps) at_ n 0 with
      | error q'=>
       rw[f2 _ hf] at hbd;cases hbd;rfl
      | ok u=>
       rw[f1 hf] at hbd;simp only[mustB] at hbd;by_cases hz:at_+8 * n=B.length
       ·rw[decide_eq_true hz] at hbd;cases hbd
       ·rw[decide_eq_false hz] at hbd;simp only[Bool.false_eq_true,if_false,Option.some.injEq] at hbd;simp only;rw[if_neg (by omega),hbd,Nat.mul_comm 8 n]
    ·intro w1 a hPp hs;rcases hPp with⟨q',hj,hs'⟩|⟨hj,hle,hs'⟩|⟨r,hj,hle,hT,hs'⟩
     ·have:=hs.bd_inj hs';cases this
     ·have:=hs.bd_inj hs';cases this
     ·have hbd:=hs.bd_inj hs';obtain⟨f1,f2⟩:=hfull w1 r hj hle hT;unfold ROk;have hok2:rpool B=.ok (n,ps,at_):=by
       rw[hrp,j1 hj];simp only;unfold rdisk;rw[if_pos (by omega)];cases hf:rfree B (usedP ps) at_ n 0 with
       | error q'=>rw[f2 _ hf] at hbd;cases hbd
       | ok u=>
        rw[f1 hf] at hbd;simp only[mustB] at hbd;by_cases hz:at_+8 * n=B.length
        ·simp only;rw[if_pos (by omega)]
        ·rw[decide_eq_false hz] at hbd;cases hbd
      rw[hok2];refine⟨r,xs,by rw[hT.erb],⟨hxs,hok',hj,hle⟩,?_,hs.same⟩;rw[hT.erb];exact hT
theorem extract_take(t:ByteArray)(m:Nat):t.extract 0 m=⟨(t.data.toList.take m).toArray⟩:=by
 apply ByteArray.ext;rw[ByteArray.data_extract];apply Array.toList_inj.1;simp[Array.toList_extract,List.extract_eq_take_drop]
theorem refLoad_calls(w:World)(t:ByteArray)(hl:t.size<=140737488355328):Calls Tryz.prog 65 #[.string t] w (RLoadPost w t.data.toList):=by
 have hsz:t.data.toList.length=t.size:=by rw[Array.length_toList];rfl
 by_cases h2:2<=t.size
 ·obtain⟨m,hm⟩:∃m,t.size=m+2:=⟨t.size - 2,by omega⟩
  have hab:aheadB t.data.toList=t.data.toList.take m:=by unfold aheadB;rw[hsz,hm,Nat.add_sub_cancel]
  have hB:t.extract 0 m=⟨(aheadB t.data.toList).toArray⟩:=by rw[hab];exact extract_take t m
  have hbl:(aheadB t.data.toList).length<=140737488355328:=by rw[hab,List.length_take];omega
  have htl:t.extract m t.size=⟨((t.data.toList.drop m).take 2).toArray⟩:=by
   apply ByteArray.ext;rw[ByteArray.data_extract];apply Array.toList_inj.1;rw[hm,Array.toList_extract,List.extract_eq_take_drop,Nat.add_sub_cancel_left]
  have hlen2:(t.data.toList.drop m).length=2:=by rw[List.length_drop];omega
  obtain⟨x,y,hxy⟩:∃x y,t.data.toList.drop m=[x,y]:=by
   match hq:t.data.toList.drop m,hlen2 with
   | [x,y],_=>exact⟨x,y,rfl⟩
  have hend:endN t.data.toList=valB [x,y]:=by
   unfold endN numAt;rw[hsz,hm,Nat.add_sub_cancel,hxy];rfl
  rw[hxy] at htl;have htl:t.extract m t.size=⟨([x,y]:List UInt8).toArray⟩:=htl;have hlt:sumB (aheadB t.data.toList) < 65536:=by have:=sumB_lt (aheadB t.data.toList);omega
  have heq:=end_two x y _ hlt;by_cases hs:endN t.data.toList=sumB (aheadB t.data.toList)
  ·have hE:t.extract m t.size=⟨(two (sumB (aheadB t.data.toList))).toArray⟩:=by rw[htl,heq.2 (by rw[<-hend];exact hs)]
   refine (refLoad_good w t m _ hbl hm (by omega) hB hE).mono fun e w' h=>?_
   unfold RLoadPost;rw[if_pos ⟨by omega,hs⟩];exact h
  ·have hE:t.extract m t.size≠⟨(two (sumB (aheadB t.data.toList))).toArray⟩:=fun h=>hs (by
    rw[htl] at h;have h:[x,y]=two (sumB (aheadB t.data.toList)):=by simpa using h
    rw[hend];exact heq.1 h)
   refine (load_other w t m _ hbl hm (by omega) hB hE).mono fun e w' h=>?_
   unfold RLoadPost;rw[if_neg (fun hc=>hs hc.2)];exact h
 ·refine (load_none w t ?_).mono fun e w' h=>?_
  ·have:t.data.toList.length < 2:=by omega
   match hq:t.data.toList,this with
   | [],_=>exact Or.inl (by apply ByteArray.ext;exact Array.toList_inj.1 hq)
   | [a],_=>exact Or.inr ⟨a,by apply ByteArray.ext;exact Array.toList_inj.1 hq⟩
  ·unfold RLoadPost;rw[if_neg (fun hc=>h2 (by rw[<-hsz];exact hc.1))];exact h
end
section
open Go.RowKit Go.Sort
variable [DecidableEq Blk] [Inhabited Blk] [Inhabited Vol] [Inhabited PEnt]
theorem rmark_seg{B:List UInt8}{at0:Nat}(h:rmark B 4 0=.ok at0):Seg B 0 markB at0:=by
 have step:∀(n k a:Nat),rmark B (n+1) k=.ok a->k+1<=B.length/\B[k]! = markB[k]!/\rmark B n (k+1)=.ok a:=fun n k a h=>by
  unfold rmark at h;by_cases h1:k+1<=B.length
  ·rw[if_pos h1] at h;by_cases h2:B[k]! = markB[k]!
   ·rw[if_pos h2] at h;exact⟨h1,h2,h⟩
   ·rw[if_neg h2] at h;cases h
  ·rw[if_neg h1] at h;cases h
 obtain⟨l0,b0,h⟩:=step 3 0 at0 h;obtain⟨l1,b1,h⟩:=step 2 1 at0 h;obtain⟨l2,b2,h⟩:=step 1 2 at0 h;obtain⟨l3,b3,h⟩:=step 0 3 at0 h;have e:at0=4:=by
  simp only[rmark,Except.ok.injEq] at h;omega
 subst e;have sg:=Seg.take (B:=B) (a:=0) (n:=4) (by omega);have em:(B.drop 0).take 4=markB:=by
  rw[getElem!_pos B 0 (by omega)] at b0;rw[getElem!_pos B 1 (by omega)] at b1;rw[getElem!_pos B 2 (by omega)] at b2;rw[getElem!_pos B 3 (by omega)] at b3;rw[List.drop_eq_getElem_cons (by omega),List.drop_eq_getElem_cons (by omega),List.drop_eq_getElem_cons (by omega),List.drop_eq_getElem_cons (by omega)];simp only[List.take_succ_cons,List.take_zero,Nat.zero_add,b0,b1,b2,b3];rfl
 rw[em] at sg;exact sg
theorem rpool_seg{B:List UInt8}{count:Nat}{ps:List PEnt}{at2:Nat}(h:rpool B=.ok (count,ps,at2)):B=markB++two count++[UInt8.ofNat ps.length]++ps.flatMap PEnt.bytes++(blks8 B at2 count).flatMap Blk.bytes:=by
 have hok:=rpool_ok h;unfold rpool at h;cases hs:rmark B 4 0 with
 | error q=>rw[hs] at h;cases h
 | ok at0=>
  rw[hs] at h;simp only at h;have s1:=rmark_seg hs;cases hs:rnum B 2 1 200 at0 with
  | error q=>rw[hs] at h;cases h
  | ok pr=>
   obtain⟨c,at1⟩:=pr;rw[hs] at h;simp only at h;have s2:=rnum_two_seg hs;cases hl:rlist B c at1 with
   | error q=>rw[hl] at h;cases h
   | ok pr=>
    obtain⟨qs,a2⟩:=pr;rw[hl] at h;simp only at h;have s3:=rlist_seg hl;cases hj:rjoin qs qs with
    | error q=>rw[hj] at h;cases h
    | ok uu=>
     rw[hj] at h;simp only at h;cases hd:rdisk B (usedP qs) c a2 with
     | error q=>rw[hd] at h;cases h
     | ok pr=>
      obtain⟨bl,a3⟩:=pr;rw[hd] at h;simp only at h;by_cases he:a3=B.length
      ·rw[if_pos he] at h;simp only[Except.ok.injEq,Prod.mk.injEq] at h;obtain⟨rfl,rfl,rfl⟩:=h;have s4:=blks_seg B a2 c (by rw[hok.len];exact Nat.le_refl _);have s:=((s1.trans s2).trans s3).trans s4;have e:=s.eq;rw[List.drop_zero,hok.len,List.drop_length,List.append_nil] at e;rw[<-List.append_assoc] at e;exact e
      ·rw[if_neg he] at h;cases h
theorem loaded_org{w w':World}{B:List UInt8}{count at_:Nat}{pv:List (PEnt×Vol)}{pb db bb fb jg:Nat}{d:Array Int}(h:PoolRaw w w' B count at_ pv pb db bb fb jg d)(hr:RpoolOk B count (pv.map (·.1)) at_){x:PEnt×Vol}(hx:x∈pv) :
 (x.1.kind=0->(ldSt pv pb db bb fb jg count B at_ d).orgOf (joinV pv x)=joinV pv x)/\(x.1.kind≠0->x.1.origin < pv.length/\pv[x.1.origin]!∈pv/\(ldSt pv pb db bb fb jg count B at_ d).orgOf (joinV pv x)=joinV pv pv[x.1.origin]!/\pv[x.1.origin]!.1.kind=0/\pv[x.1.origin]!.1.size=x.1.size):=by
 have hP:=loaded_pool h hr;have j:=joinV_jv (pv:=pv) (h.ent x hx);refine⟨fun hk=>?_,fun hk=>?_⟩
 ·unfold St.orgOf;rw[j.none.2 hk]
 ·have hol:x.1.origin < pv.length:=by have:=(hr.ents.all x.1 (List.mem_map.2 ⟨x,hx,rfl⟩)).org hk;simpa using this
  obtain⟨e1,e2⟩:=fst_get pv x.1.origin hol;have hj:=hr.join x.1 (List.mem_map.2 ⟨x,hx,rfl⟩) hk;rw[e1] at hj;refine⟨hol,e2,?_,hj⟩;have jy:=joinV_jv (pv:=pv) (h.ent _ e2);have ho:(joinV pv x).org=some pv[x.1.origin]!.2.vb:=by unfold joinV;rw[if_neg hk]
  unfold St.orgOf;rw[ho];show (ldSt pv pb db bb fb jg count B at_ d).volAt pv[x.1.origin]!.2.vb=_;rw[<-jy.vb];exact hP.volAt (List.mem_map.2 ⟨_,e2,rfl⟩)
theorem loaded_entry{w w':World}{B:List UInt8}{count at_:Nat}{pv:List (PEnt×Vol)}{pb db bb fb jg:Nat}{d:Array Int}(h:PoolRaw w w' B count at_ pv pb db bb fb jg d)(hr:RpoolOk B count (pv.map (·.1)) at_){x:PEnt×Vol}(hx:x∈pv) :
 entryB (ldSt pv pb db bb fb jg count B at_ d) (joinV pv x)=x.1.bytes:=by
 have hP:=loaded_pool h hr;have j:=joinV_jv (pv:=pv) (h.ent x hx);have o:=hr.ents.all x.1 (List.mem_map.2 ⟨x,hx,rfl⟩);obtain⟨g0,g1⟩:=loaded_org h hr hx;by_cases hk:x.1.kind=0
 ·have ho:=j.none.2 hk;have hkn:(joinV pv x).kindN=x.1.kind:=by unfold Vol.kindN;rw[j.lost,ho,hk];rfl
  have hsz:(ldSt pv pb db bb fb jg count B at_ d).size (joinV pv x)=x.1.size:=by
   unfold St.size;rw[g0 hk,j.xs];exact (o.plain hk).1
  unfold entryB headB PEnt.bytes;rw[ho,hkn,hsz,j.name,j.xs,if_pos hk];simp only[List.append_assoc]
 ·obtain⟨hol,hym,horg,hyk,hys⟩:=g1 hk;have jy:=joinV_jv (pv:=pv) (h.ent _ hym);have oy:=hr.ents.all _ (List.mem_map.2 ⟨_,hym,rfl⟩);cases hq:(joinV pv x).org with
  | none=>exact absurd (j.none.1 hq) hk
  | some b=>
   have hkn:(joinV pv x).kindN=x.1.kind:=by
    unfold Vol.kindN;rw[j.lost,hq];have:=o.kind;by_cases h2:x.1.kind=2
    ·simp[h2]
    ·simp[h2];omega
   have hsz:(ldSt pv pb db bb fb jg count B at_ d).size (joinV pv x)=x.1.size:=by
    unfold St.size;rw[horg,jy.xs,(oy.plain hyk).1,hys]
   have hpos:posOf (ldSt pv pb db bb fb jg count B at_ d).names ((ldSt pv pb db bb fb jg count B at_ d).orgOf (joinV pv x)).name=x.1.origin:=by
    rw[horg];have hs:(ldSt pv pb db bb fb jg count B at_ d).names.Pairwise fun a b=>cmpB a b < 0:=by
     unfold St.names;rw[List.pairwise_map];exact hP.sorted
    have hnl:x.1.origin < (ldSt pv pb db bb fb jg count B at_ d).names.length:=by
     show x.1.origin < ((pv.map (joinV pv)).map (·.name)).length;simpa using hol
    have e:(ldSt pv pb db bb fb jg count B at_ d).names[x.1.origin]! = (joinV pv pv[x.1.origin]!).name:=by
     show ((pv.map (joinV pv)).map (·.name))[x.1.origin]! = _;rw[getElem!_pos _ _ (by simpa using hol),getElem!_pos pv _ hol];simp
    rw[<-e];exact posOf_get hs _ hnl
   unfold entryB headB PEnt.bytes;rw[hq,hkn,hsz,j.name,j.xs,j.kept,if_neg hk,hpos];simp only[List.append_assoc]
theorem loaded_body{w w':World}{B:List UInt8}{count at_:Nat}{pv:List (PEnt×Vol)}{pb db bb fb jg:Nat}{d:Array Int}(h:PoolRaw w w' B count at_ pv pb db bb fb jg d)(hp:rpool B=.ok (count,pv.map (·.1),at_)) :
 bodyB (ldSt pv pb db bb fb jg count B at_ d)=B:=by
 have hr:=rpool_ok hp;have e:=rpool_seg hp;have el:listB (ldSt pv pb db bb fb jg count B at_ d) (pv.map (joinV pv))=(pv.map (·.1)).flatMap PEnt.bytes:=by
  unfold listB;have:∀l:List (PEnt×Vol),(∀x∈l,x∈pv)->(l.map (joinV pv)).flatMap (entryB (ldSt pv pb db bb fb jg count B at_ d))=(l.map (·.1)).flatMap PEnt.bytes:=by
   intro l
   induction l with
   | nil=>intro _;rfl
   | cons x r ih=>
    intro hl;rw[List.map_cons,List.map_cons,List.flatMap_cons,List.flatMap_cons,ih (fun y hy=>hl y (by simp[hy])),loaded_entry h hr (hl x (by simp))]
  exact this pv fun x hx=>hx
 have e2:bodyB (ldSt pv pb db bb fb jg count B at_ d)=markB++two count++[UInt8.ofNat (pv.map (joinV pv)).length]++listB (ldSt pv pb db bb fb jg count B at_ d) (pv.map (joinV pv))++(blks8 B at_ count).flatMap Blk.bytes:=rfl;rw[e2,el,List.length_map];rw[List.length_map] at e;exact e.symm
end
section
open Go.RowKit Go.Sort
variable [DecidableEq Blk] [Inhabited Blk] [Inhabited Vol] [Inhabited PEnt] [Inhabited RVol] [Inhabited RRow]
theorem kept_idx{l:List Nat}{q:Nat}(h:q∈l):l.idxOf q < l.length/\l[l.idxOf q]! = q:=by
 have h1:=List.idxOf_lt_length_of_mem h;refine⟨h1,?_⟩;rw[getElem!_pos l _ h1];exact List.getElem_idxOf h1
theorem ofs_none(xs:List RRow)(i:Nat)(hi:i < xs.length)(ho:(xs[i]!).e.origin=none):(ofsX xs xs.length)[i]! = ⟨#[]⟩:=by
 unfold ofsX;rw[getElem!_pos (List.map _ _) i (by simpa using hi)];simp only[List.getElem_map,List.getElem_range,if_pos hi,ho]
theorem ofs_some(xs:List RRow)(i o:Nat)(hi:i < xs.length)(ho:(xs[i]!).e.origin=some o):(ofsX xs xs.length)[i]! = (xs[o]!).e.name:=by
 unfold ofsX;rw[getElem!_pos (List.map _ _) i (by simpa using hi)];simp only[List.getElem_map,List.getElem_range,if_pos hi,ho]
theorem loaded_rel{w w' w1 w2:World}{B:List UInt8}{n at_:Nat}{pv:List (PEnt×Vol)}{ps:List PEnt}{pb db bb fb jg:Nat}{d:Array Int}{xs:List RRow}{rb:Nat}{r:RSt}(h:PoolRaw w w' B n at_ pv pb db bb fb jg d)(hps:pv.map (·.1)=ps)(hp:rpool B=.ok (n,ps,at_))(hA:AllOk B n at_ xs ps)(hT:TiedOk w1 w2 B at_ n xs rb r):Rel (ldSt pv pb db bb fb jg n B at_ d) r:=by
 subst hps;have hr:=rpool_ok hp;obtain⟨hl,_,he⟩:=xs_ent hA.eq;have hlp:(pv.map (·.1)).length=pv.length:=by simp
 have hbl:∀k,k < n->(ldSt pv pb db bb fb jg n B at_ d).bl[k]! = blk8 B (at_+k * 8)/\(blk8 B (at_+k * 8)).text=textAt B (at_+8 * k) 8:=fun k hk=>by
  have:=hA.len;refine⟨blks8_get B at_ n k hk,?_⟩;rw[text8 B _ (by omega),Nat.mul_comm 8 k]
 refine⟨hT.en,by rw[hT.len,hl,hlp];show _=(pv.map (joinV pv)).length;simp,fun i hi=>?_⟩;have hi':i < pv.length:=by have:i < (pv.map (joinV pv)).length:=hi;simpa using this
 have ev:(ldSt pv pb db bb fb jg n B at_ d).vols[i]! = joinV pv pv[i]!:=by
  show (pv.map (joinV pv))[i]! = _;rw[getElem!_pos _ i (by simpa using hi'),List.getElem_map,getElem!_pos pv i hi']
 obtain⟨hfst,hmem⟩:=fst_get pv i hi';rw[ev];have j:=joinV_jv (pv:=pv) (h.ent _ hmem);obtain⟨o1,o2⟩:=loaded_org h hr hmem;obtain⟨t1,t2,t3,t4,t5,t6⟩:=hT.each i (by rw[hl,hlp];exact hi');have hei:(xs[i]!).e=(pv[i]!).1.ref:=by rw[he i (by rw[hlp];exact hi'),hfst]
 have hok:=hr.ents.all (pv[i]!).1 (List.mem_map.2 ⟨_,hmem,rfl⟩);rw[hei] at t1 t4 t5 t6;have hofs:((xs[i]!).e.origin=none->(ofsX xs xs.length)[i]! = ⟨#[]⟩)/\∀o,(xs[i]!).e.origin=some o->(ofsX xs xs.length)[i]! = (xs[o]!).e.name:=by
  have hix:i < xs.length:=by rw[hl,hlp];exact hi'
  exact⟨fun e=>ofs_none xs i hix e,fun o e=>ofs_some xs i o hix e⟩
 by_cases hk:(pv[i]!).1.kind=0
 ·have hn:(joinV pv pv[i]!).org=none:=j.none.2 hk;have horg:=o1 hk;have hsz:(ldSt pv pb db bb fb jg n B at_ d).size (joinV pv pv[i]!)=(pv[i]!).1.xs.length:=by unfold St.size;rw[horg,j.xs]
  have hd:(r.vols[i]!).data=dataX B at_ (pv[i]!).1.xs:=by
   rw[t3];unfold holdX;rw[hei,(ref_none _).2 hk];rfl
  have hlook:∀q,q < (pv[i]!).1.xs.length->(ldSt pv pb db bb fb jg n B at_ d).look (joinV pv pv[i]!) q=blk8 B (at_+(pv[i]!).1.xs[q]! * 8)/\(pv[i]!).1.xs[q]! < n:=fun q hq=>by
   have hx:(pv[i]!).1.xs[q]! < n:=(hok.xs.2 _ (by rw[getElem!_pos _ q hq];exact List.getElem_mem hq)).1;refine⟨?_,hx⟩;unfold St.look St.holder;rw[j.kept,(hok.plain hk).2,if_neg (by simp),horg,j.xs];exact (hbl _ hx).1
  refine⟨by rw[t1,j.name];rfl,?_,by rw[hd,hsz,dataX,List.length_map],by rw[t4,j.xs];rfl,by rw[t5,j.kept];rfl,by rw[t6,j.lost];rfl,fun _ q hq=>?_,fun _ q hq=>?_⟩
  ·rw[if_pos hn,t2];exact hofs.1 (by rw[hei];exact (ref_none _).2 hk)
  ·rw[hsz] at hq;rw[(hlook q hq).1];exact blk8_ok B _
  ·rw[hsz] at hq;obtain⟨e1,e2⟩:=hlook q hq;rw[hd,dataX_get B at_ _ q hq,e1,(hbl _ e2).2]
 ·have hn:(joinV pv pv[i]!).org≠none:=fun e=>hk (j.none.1 e)
  obtain⟨p1,p2,horg,p4,p5⟩:=o2 hk;have jo:=joinV_jv (pv:=pv) (h.ent _ p2);have hoko:=hr.ents.all _ (List.mem_map.2 ⟨_,p2,rfl⟩);obtain⟨hfo,_⟩:=fst_get pv (pv[i]!).1.origin p1;have heo:(xs[(pv[i]!).1.origin]!).e=(pv[(pv[i]!).1.origin]!).1.ref:=by rw[he _ (by rw[hlp];exact p1),hfo]
  have hsz:(ldSt pv pb db bb fb jg n B at_ d).size (joinV pv pv[i]!)=(pv[(pv[i]!).1.origin]!).1.xs.length:=by unfold St.size;rw[horg,jo.xs]
  have hso:(pv[(pv[i]!).1.origin]!).1.xs.length=(pv[i]!).1.size:=by rw[(hoko.plain p4).1,p5]
  have hd:(r.vols[i]!).data=picD B at_ xs[i]! (dataX B at_ (pv[(pv[i]!).1.origin]!).1.xs) (pv[i]!).1.kept.length:=by
   rw[t3];unfold holdX;rw[hei,ref_some _ hk];simp only;rw[heo];rfl
  have hkk:(xs[i]!).e.kept=(pv[i]!).1.kept:=by rw[hei];rfl
  have hxx:(xs[i]!).e.xs=(pv[i]!).1.xs:=by rw[hei];rfl
  have hlook:∀q,q < (pv[(pv[i]!).1.origin]!).1.xs.length->∃k,k < n/\(ldSt pv pb db bb fb jg n B at_ d).look (joinV pv pv[i]!) q=blk8 B (at_+k * 8)/\(r.vols[i]!).data[q]! = textAt B (at_+8 * k) 8:=fun q hq=>by
   unfold St.look St.holder;rw[j.kept,j.xs,horg,jo.xs,hd];by_cases hqk:q∈(pv[i]!).1.kept
   ·obtain⟨a1,a2⟩:=kept_idx hqk;have hxl:(pv[i]!).1.kept.idxOf q < (pv[i]!).1.xs.length:=by have:=hok.keptle;omega
    have hx:(pv[i]!).1.xs[(pv[i]!).1.kept.idxOf q]! < n:=(hok.xs.2 _ (by rw[getElem!_pos (pv[i]!).1.xs _ hxl];exact List.getElem_mem hxl)).1;rw[if_pos hqk];refine⟨_,hx,(hbl _ hx).1,?_⟩;have hg:=picD_get B at_ xs[i]! (dataX B at_ (pv[(pv[i]!).1.origin]!).1.xs) (by rw[hkk];exact hok.kept.1) (pv[i]!).1.kept.length (by rw[hkk];exact Nat.le_refl _) ((pv[i]!).1.kept.idxOf q) a1 (by rw[hkk,a2,dataX,List.length_map];exact hq);rw[hkk,hxx,a2] at hg;exact hg
   ·have hx:(pv[(pv[i]!).1.origin]!).1.xs[q]! < n:=(hoko.xs.2 _ (by rw[getElem!_pos _ q hq];exact List.getElem_mem hq)).1;rw[if_neg hqk];refine⟨_,hx,(hbl _ hx).1,?_⟩;rw[picD_else B at_ xs[i]! _ q (by rw[dataX,List.length_map];exact hq) _ (fun a ha e=>?_),dataX_get B at_ _ q hq];rw[hkk,getElem!_pos _ a ha] at e;exact hqk (by rw[<-e];exact List.getElem_mem ha)
  refine⟨by rw[t1,j.name];rfl,?_,by rw[hd,picD_length,hsz,dataX,List.length_map],by rw[t4,j.xs];rfl,by rw[t5,j.kept];rfl,by rw[t6,j.lost];rfl,fun _ q hq=>?_,fun _ q hq=>?_⟩
  ·rw[if_neg hn,t2,hofs.2 _ (by rw[hei];exact ref_some _ hk),horg,jo.name,heo];rfl
  ·rw[hsz] at hq;obtain⟨k,_,e2,_⟩:=hlook q hq;rw[e2];exact blk8_ok B _
  ·rw[hsz] at hq;obtain⟨k,e1,e2,e3⟩:=hlook q hq;rw[e3,e2,(hbl k e1).2]
end
section
open Go.RowKit Go.Sort
variable [DecidableEq Blk] [Inhabited Blk] [Inhabited Vol] [Inhabited PEnt]
theorem zero_fits:Blk.zero.fits:=by
 intro n hn;simp[Blk.intsI,Blk.zero] at hn;omega
theorem fits_all{w:World}{s:St}{fr:List Nat}(h:PoolAt w s)(hG:Good s fr)(hS:Spare s)(hl:∀i,i < s.vols.length->(s.vols[i]!).lost=false->∀q,q < s.size (s.vols[i]!)->(s.look (s.vols[i]!) q).fits):∀x,x < s.n->(s.bl[x]!).fits:=fun x hx=>by
 have hm:=hG.parts.mem_iff.2 (List.mem_range.2 hx);rcases List.mem_append.1 hm with hm|hm
 ·rw[hG.zero x hm];exact zero_fits
 ·obtain⟨v,hv,hxv⟩:=List.mem_flatMap.1 hm;obtain⟨i,hi⟩:=List.mem_iff_getElem?.1 hv;obtain⟨hil,hie⟩:=List.getElem?_eq_some_iff.1 hi;have ev:s.vols[i]! = v:=by rw[getElem!_pos _ i hil];exact hie
  have va:=h.vols v hv;obtain⟨om,oo,on,os⟩:=h.orgOf hv;obtain⟨p,hp⟩:=List.mem_iff_getElem?.1 hxv;obtain⟨hpl,hpe⟩:=List.getElem?_eq_some_iff.1 hp;have epx:v.xs[p]! = x:=by rw[getElem!_pos _ p hpl];exact hpe
  by_cases ho:v.org=none
  ·have:=hl i hil (by rw[ev];exact (va.plain ho).2) p (by rw[ev];unfold St.size;rw[on ho];exact hpl);rw[ev] at this;have eh:s.look v p=s.bl[x]!:=by
    unfold St.look St.holder;rw[va.kept_nil ho,on ho];simp only[List.not_mem_nil,if_false,epx]
   rw[eh] at this;exact this
  ·have hP:=hG.pics v hv;by_cases hpk:p < v.kept.length
   ·have hnl:v.lost=false:=by
     cases hlo:v.lost with
     | false=>rfl
     | true=>rw[hP.2.1 hlo] at hpk;simp at hpk
    have hkm:v.kept[p]∈v.kept:=List.getElem_mem hpk;have hks:=(hP.2.2 _ om (os ho)).1 _ hkm;have:=hl i hil (by rw[ev];exact hnl) v.kept[p] (by rw[ev];exact hks);rw[ev] at this;have eh:s.look v v.kept[p]=s.bl[x]!:=by
     unfold St.look St.holder;rw[if_pos hkm];have ei:v.kept.idxOf v.kept[p]=p:=hP.1.idxOf_getElem p hpk;rw[ei,epx]
    rw[eh] at this;exact this
   ·have hz:=hS i hil (by rw[ev];exact ho) x (by
     rw[ev];refine List.mem_iff_getElem?.2 ⟨p - v.kept.length,?_⟩;rw[List.getElem?_drop,show v.kept.length+(p - v.kept.length)=p by omega];exact hp)
    rw[hz];exact zero_fits
theorem imaged_of{w:World}{s:St}{fr:List Nat}(h:PoolAt w s)(hG:Good s fr)(hn:1<=s.n)(hf:∀x,x < s.n->(s.bl[x]!).fits):Imaged s w:=by
 have hn2:=h.disk.small;refine⟨h,fun v hv=>?_,fun v hv x hx=>?_,fun v hv x hx=>?_,hf⟩
 ·have:=hG.names v hv;simp only[nameB,Bool.and_eq_true,decide_eq_true_eq] at this;exact this.1.2
 ·have:=hG.lt.2 v hv x hx;omega
 ·have ht:=told_of h hG hn hv;have:=ht.kept.2 x hx;have:=ht.size.2;omega
theorem BytesNew.old{w w':World}{g:Nat}{bs:List UInt8}(h:BytesNew w w' g bs)(hl:bs.length<=140737488355328):BytesOld w' (some ⟨g,0,none⟩) bs:=by
 obtain⟨cs,hA,hc⟩:=h.ex;refine⟨fun _=>⟨g,0,rfl,hA.lt,fun i hi=>?_⟩,hl⟩;rw[Nat.zero_add,hA.cell?];have:(cs.take bs.length)[i]? = cs[i]?:=by rw[List.getElem?_take,if_pos hi]
 rw[<-this,hc,List.getElem?_map,List.getElem?_eq_getElem hi,getElem!_pos bs i hi];rfl
end
end Go.Proofs.YtpddgdjocffgdaaGreat
