/- The reference's reader of an image: what it reads is what the program's reads. -/
import Derived.Test.YtpddgdjocffgdaaGreatJ18
namespace Go.Proofs.YtpddgdjocffgdaaGreat
set_option linter.unusedVariables false
set_option linter.unusedSimpArgs false
set_option linter.unusedSectionVars false
set_option maxHeartbeats 16000000
set_option maxRecDepth 100000
section
open Go.RowKit Go.Sort
variable [DecidableEq Blk] [Inhabited Blk] [Inhabited Vol] [Inhabited RVol]
theorem num_ok{B:List UInt8}{n lo hi at_ v at1:Nat}(h:rnum B n lo hi at_=.ok (v,at1)):numX B n at_ none=(v,at1,none)/\lo<=v/\v<=hi:=by
 obtain⟨h1,h2,h3,h4,h5⟩:=rnum_ok h;refine⟨?_,h2,h3⟩;unfold numX;simp only;rw[if_pos h1,h4,h5]
theorem num_err{B:List UInt8}{n lo hi at_ q:Nat}(h:rnum B n lo hi at_=.error q)(ok:Bool)(hok:(lo<=(numX B n at_ none).1/\(numX B n at_ none).1<=hi)↔ok=true):mustB (numX B n at_ none).2.2 ok at_=some q:=by
 unfold rnum at h;unfold numX at hok ⊢;simp only at hok ⊢;by_cases h1:at_+n<=B.length
 ·rw[if_pos h1] at h hok ⊢;by_cases h2:lo<=numAt B at_ n/\numAt B at_ n<=hi
  ·rw[if_pos h2] at h;cases h
  ·rw[if_neg h2] at h;obtain rfl:at_=q:=by simpa using h
   have:ok=false:=by cases ok with|false=>rfl|true=>exact absurd (hok.2 rfl) h2
   subst this;rfl
 ·rw[if_neg h1] at h ⊢;obtain rfl:B.length=q:=by simpa using h
  rfl
theorem seenX_some(k at_:Nat)(q:Nat):∀l:List Nat,seenX k at_ l (some q)=some q
 | []=>rfl
 | y :: r=>by show seenX k at_ r (mustB (some q) _ at_)=some q;exact seenX_some k at_ q r
theorem seenX_none(k at_:Nat):∀l:List Nat,seenX k at_ l none=if k∈l then some at_ else none
 | []=>rfl
 | y :: r=>by
  show seenX k at_ r (mustB none (decide (y≠k)) at_)=_;by_cases h:y=k
  ·subst h;have:mustB none (decide (y≠y)) at_=some at_:=by simp[mustB]
   rw[this,seenX_some,if_pos (by simp)]
  ·have:mustB none (decide (y≠k)) at_=none:=by simp[mustB,h]
   rw[this,seenX_none k at_ r];have hk:(k∈y :: r)↔(k∈r):=by simp;intro e;exact absurd e.symm h
   by_cases hr:k∈r
   ·rw[if_pos hr,if_pos (hk.2 hr)]
   ·rw[if_neg hr,if_neg (fun e=>hr (hk.1 e))]
theorem numsX_some(B:List UInt8)(bound:Nat)(c:Nat)(l:List Nat)(a q:Nat):numsX B bound c l a (some q)=(l,a,some q):=by
 cases c<;>rfl
theorem nums_ok {B : List UInt8} {bound : Nat} (hb : 0 < bound) : ∀ {c : Nat} {seen acc : List Nat} {at_ : Nat} {xs : List Nat} {at1 : Nat}, rnums B bound c seen acc at_ = .ok (xs, at1) → numsX B bound c (seen ++ acc) at_ none = (seen ++ xs, at1, none)
  | 0, seen, acc, at_, xs, at1, h => by
    obtain ⟨rfl, rfl⟩ : acc = xs ∧ at_ = at1 := by simpa [rnums] using h
    rfl
  | c + 1, seen, acc, at_, xs, at1, h => by
    rw [rnums] at h
    cases hr : rnum B 2 0 (bound - 1) at_ with
    | error q => rw [hr] at h; cases h
    | ok p =>
      obtain ⟨k, a1⟩ := p
      rw [hr] at h
      simp only at h
      obtain ⟨e1, e2, e3⟩ := num_ok hr
      by_cases hk : k ∈ seen ++ acc
      · rw [if_pos hk] at h; cases h
      · rw [if_neg hk] at h
        rw [numsX, e1]
        simp only
        have hm : mustB none (decide (k < bound)) at_ = none := by have : k < bound := by omega
                                                                   simp [mustB, this]
        rw [hm, seenX_none, if_neg hk, List.append_assoc]
        exact nums_ok hb h
theorem nums_err {B : List UInt8} {bound : Nat} (hb : 0 < bound) : ∀ {c : Nat} {seen acc : List Nat} {at_ : Nat} {q : Nat}, rnums B bound c seen acc at_ = .error q → (numsX B bound c (seen ++ acc) at_ none).2.2 = some q
  | 0, seen, acc, at_, q, h => by simp [rnums] at h
  | c + 1, seen, acc, at_, q, h => by
    rw [rnums] at h
    rw [numsX]
    cases hr : rnum B 2 0 (bound - 1) at_ with
    | error q' =>
      rw [hr] at h
      obtain rfl : q' = q := by simpa using h
      have := num_err hr (decide ((numX B 2 at_ none).1 < bound)) (by simp; omega)
      rw [this, seenX_some, numsX_some]
    | ok p =>
      obtain ⟨k, a1⟩ := p
      rw [hr] at h
      simp only at h
      obtain ⟨e1, e2, e3⟩ := num_ok hr
      rw [e1]
      simp only
      have hm : mustB none (decide (k < bound)) at_ = none := by have : k < bound := by omega
                                                                 simp [mustB, this]
      rw [hm, seenX_none]
      by_cases hk : k ∈ seen ++ acc
      · rw [if_pos hk] at h ⊢
        obtain rfl : at_ = q := by simpa using h
        rw [numsX_some]
      · rw [if_neg hk] at h ⊢
        rw [List.append_assoc]
        exact nums_err hb h
theorem rnums_len{B:List UInt8}{bound:Nat}:∀{c:Nat} {seen acc:List Nat} {at_:Nat} {xs:List Nat} {at1:Nat},rnums B bound c seen acc at_=.ok (xs,at1)->xs.length=acc.length+c
 | 0,seen,acc,at_,xs,at1,h=>by
  obtain⟨rfl,rfl⟩:acc=xs/\at_=at1:=by simpa [rnums] using h
  rfl
 | c+1,seen,acc,at_,xs,at1,h=>by
  rw[rnums] at h;cases hr:rnum B 2 0 (bound - 1) at_ with
  | error q=>rw[hr] at h;cases h
  | ok p=>
   obtain⟨k,a1⟩:=p;rw[hr] at h;simp only at h;by_cases hk:k∈seen++acc
   ·rw[if_pos hk] at h;cases h
   ·rw[if_neg hk] at h;have:=rnums_len h;rw[List.length_append,List.length_singleton] at this;omega
theorem orgX_some(B:List UInt8)(count kind a q:Nat):(orgX B count kind a (some q)).2.2.2=some q:=by
 unfold orgX;split<;>rfl
theorem tailX_some(B:List UInt8)(bound:Nat)(used:List Nat)(kind size a q:Nat):(tailX B bound used kind size a (some q)).2.2.2=some q:=by
 unfold tailX;show (numsX B bound _ used _ (mustB (some q) _ a)).2.2=some q;rw[show ∀ok x,mustB (some q) ok x=some q from fun _ _=>rfl,numsX_some]
theorem keptX_some(B:List UInt8)(kind n size a q:Nat):(keptX B kind n size a (some q)).2.2=some q:=by
 unfold keptX;show (numsX B size _ [] _ (mustB (some q) _ a)).2.2=some q;rw[show ∀ok x,mustB (some q) ok x=some q from fun _ _=>rfl,numsX_some]
theorem entryX_head{B:List UInt8}{ahead:Option ByteArray}{bound count:Nat}{used:List Nat}{a0:Nat}{b0:Option Nat}{q:Nat}(h:(headX B ahead a0 b0).bd=some q):(entryX B ahead bound count used a0 b0).2.2.2=some q:=by
 unfold entryX;simp only;rw[h];have h1:=orgX_some B count (headX B ahead a0 b0).kind (headX B ahead a0 b0).at_ q;rw[h1];have h2:=tailX_some B bound used (headX B ahead a0 b0).kind (headX B ahead a0 b0).size (orgX B count (headX B ahead a0 b0).kind (headX B ahead a0 b0).at_ (some q)).2.2.1 q
 split
 ·exact h2
 ·rw[h2];exact keptX_some _ _ _ _ _ _
theorem ahead_first {t : ByteArray} (h : nameB t = true) : cmpB ⟨#[]⟩ t < 0 := by
  have hs : 1 ≤ t.size := by
    simp only [nameB, Bool.and_eq_true, decide_eq_true_eq] at h
    exact h.1.1
  have h1 : Op.bytesLess (⟨#[]⟩ : ByteArray).toList t.toList = decide (cmpB ⟨#[]⟩ t < 0) := text_less _ _
  have h2 : Op.bytesLess (⟨#[]⟩ : ByteArray).toList t.toList = true := by
    rw [ByteArray.toList_eq, ByteArray.toList_eq]
    cases ht : t.data.toList with
    | nil => have : t.size = 0 := by show t.data.size = 0; rw [← Array.length_toList, ht]; rfl
             omega
    | cons x r => rfl
  rw [h2] at h1
  simpa using h1.symm
def AheadIs(o:Option ByteArray)(t:ByteArray):Prop:=(o=none/\t=⟨#[]⟩)\/o=some t
theorem name_ok{B:List UInt8}{o:Option ByteArray}{ahead:ByteArray}{a0:Nat}{name:ByteArray}{at1:Nat}(ha:AheadIs o ahead)(h:rname B ahead a0=.ok (name,at1)) :
 ∃n a,numX B 1 a0 none=(n,a,none)/\(1<=n/\n<=10)/\takeX B n a none=(name,at1,none)/\nameB name=true/\aheadX o name a none=none:=by
 unfold rname at h;cases hr:rnum B 1 1 10 a0 with
 | error q=>rw[hr] at h;cases h
 | ok p=>
  obtain⟨n,a⟩:=p;rw[hr] at h;simp only at h;obtain⟨e1,e2,e3⟩:=num_ok hr;by_cases hl:a+n<=B.length
  ·rw[if_pos hl] at h;by_cases hn:nameB (textAt B a n)=true/\cmpB ahead (textAt B a n) < 0
   ·rw[if_pos hn] at h;obtain⟨rfl,rfl⟩:textAt B a n=name/\a+n=at1:=by simpa using h
    refine⟨n,a,e1,⟨e2,e3⟩,by simp only[takeX];rw[if_pos hl],hn.1,?_⟩;rcases ha with⟨rfl,rfl⟩|rfl
    ·rfl
    ·simp[aheadX,mustB,hn.2]
   ·rw[if_neg hn] at h;cases h
  ·rw[if_neg hl] at h;cases h
theorem name_err{B:List UInt8}{o:Option ByteArray}{ahead:ByteArray}{a0 q:Nat}(ha:AheadIs o ahead)(h:rname B ahead a0=.error q) :
 aheadX o (takeX B (numX B 1 a0 none).1 (numX B 1 a0 none).2.1 (mustB (numX B 1 a0 none).2.2 (decide (1<=(numX B 1 a0 none).1/\(numX B 1 a0 none).1<=10)) a0)).1 (numX B 1 a0 none).2.1 (mustB (takeX B (numX B 1 a0 none).1 (numX B 1 a0 none).2.1 (mustB (numX B 1 a0 none).2.2 (decide (1<=(numX B 1 a0 none).1/\(numX B 1 a0 none).1<=10)) a0)).2.2 (nameB (takeX B (numX B 1 a0 none).1 (numX B 1 a0 none).2.1 (mustB (numX B 1 a0 none).2.2 (decide (1<=(numX B 1 a0 none).1/\(numX B 1 a0 none).1<=10)) a0)).1) (numX B 1 a0 none).2.1)=some q:=by
 have key:∀t a q,aheadX o t a (some q)=some q:=by
  intro t a q;cases o with
  | none=>rfl
  | some u=>rfl
 unfold rname at h;cases hr:rnum B 1 1 10 a0 with
 | error q'=>
  rw[hr] at h;obtain rfl:q'=q:=by simpa using h
  have:=num_err hr (decide (1<=(numX B 1 a0 none).1/\(numX B 1 a0 none).1<=10)) (by simp);rw[this];exact key _ _ _
 | ok p=>
  obtain⟨n,a⟩:=p;rw[hr] at h;simp only at h;obtain⟨e1,e2,e3⟩:=num_ok hr;rw[e1];have hm:mustB none (decide (1<=n/\n<=10)) a0=none:=by simp[mustB,e2,e3]
  simp only[hm];by_cases hl:a+n<=B.length
  ·rw[if_pos hl] at h;have ht:takeX B n a none=(textAt B a n,a+n,none):=by simp only[takeX];rw[if_pos hl]
   rw[ht];simp only;by_cases hn:nameB (textAt B a n)=true/\cmpB ahead (textAt B a n) < 0
   ·rw[if_pos hn] at h;cases h
   ·rw[if_neg hn] at h;obtain rfl:a=q:=by simpa using h
    by_cases hnb:nameB (textAt B a n)=true
    ·have hc:¬cmpB ahead (textAt B a n) < 0:=fun e=>hn ⟨hnb,e⟩
     rcases ha with⟨rfl,rfl⟩|rfl
     ·exact absurd (ahead_first hnb) hc
     ·rw[hnb];simp[aheadX,mustB,hc]
    ·have:nameB (textAt B a n)=false:=by simpa using hnb
     rw[this];exact key _ _ _
  ·rw[if_neg hl] at h;obtain rfl:B.length=q:=by simpa using h
   have ht:takeX B n a none=(⟨#[]⟩,a,some B.length):=by simp only[takeX];rw[if_neg hl]
   rw[ht];exact key _ _ _
def PEnt.ref(p:PEnt):REnt:=⟨p.name,p.size,if p.kind=0 then none else some p.origin,p.originAt,p.xs,p.kept,decide (p.kind=2)⟩
theorem must_none{ok:Bool}(h:ok=true)(q:Nat):mustB none ok q=none:=by rw[h];rfl
theorem entry_ok{B:List UInt8}{o:Option ByteArray}{ahead:ByteArray}{count bound:Nat}{used:List Nat}{a0:Nat}{p:PEnt}{at1:Nat}(ha:AheadIs o ahead)(hb:0 < bound)(hc:0 < count)(h:rentry B count bound used ahead a0=.ok (p,at1)) :
 entryX B o bound count used a0 none=(p.ref,used++p.xs,at1,none):=by
 unfold rentry at h;cases hn:rname B ahead a0 with
 | error q=>rw[hn] at h;cases h
 | ok x=>
  obtain⟨name,a1⟩:=x;rw[hn] at h;simp only at h;obtain⟨n,a,n1,n2,n3,n4,n5⟩:=name_ok ha hn;cases hk:rnum B 1 0 2 a1 with
  | error q=>rw[hk] at h;cases h
  | ok x=>
   obtain⟨kind,a2⟩:=x;rw[hk] at h;simp only at h;obtain⟨k1,k2,k3⟩:=num_ok hk;cases hs:rnum B 2 1 200 a2 with
   | error q=>rw[hs] at h;cases h
   | ok x=>
    obtain⟨size,a3⟩:=x;rw[hs] at h;simp only at h;obtain⟨s1,s2,s3⟩:=num_ok hs;have hH:headX B o a0 none=⟨name,kind,size,a3,none⟩:=by
     unfold headX;simp only[n1,must_none (ok:=decide (1<=n/\n<=10)) (by simpa using n2),n3,must_none n4,n5,k1,must_none (ok:=decide (kind<=2)) (by simpa using k3),s1,must_none (ok:=decide (1<=size/\size<=200)) (by simp;omega)]
    unfold entryX;simp only[hH];by_cases hk0:kind=0
    ·subst hk0;rw[if_pos rfl] at h;unfold rvol at h;cases hv:rnum B 2 size size a3 with
     | error q=>rw[hv] at h;cases h
     | ok x=>
      obtain⟨c,a4⟩:=x;rw[hv] at h;simp only at h;obtain⟨c1,c2,c3⟩:=num_ok hv;obtain rfl:c=size:=by omega
      cases hx:rnums B bound c used [] a4 with
      | error q=>rw[hx] at h;cases h
      | ok x=>
       obtain⟨xs,a5⟩:=x;rw[hx] at h;obtain⟨rfl,rfl⟩:(⟨name,0,c,0,0,xs,[]⟩:PEnt)=p/\a5=at1:=by simpa using h
       have hnx:=nums_ok hb hx;rw[List.append_nil] at hnx;have hT:tailX B bound used 0 c a3 none=(c,used++xs,a5,none):=by
        unfold tailX;simp only[c1];rw[must_none,hnx];simp;omega
       simp[orgX,hT,PEnt.ref]
    ·rw[if_neg hk0] at h;unfold rpic at h;cases ho:rnum B 1 0 (count - 1) a3 with
     | error q=>rw[ho] at h;cases h
     | ok x=>
      obtain⟨og,a4⟩:=x;rw[ho] at h;simp only at h;obtain⟨o1,o2,o3⟩:=num_ok ho;cases hv:rnum B 2 1 size a4 with
      | error q=>rw[hv] at h;cases h
      | ok x=>
       obtain⟨c,a5⟩:=x;rw[hv] at h;simp only at h;obtain⟨c1,c2,c3⟩:=num_ok hv;cases hx:rnums B bound c used [] a5 with
       | error q=>rw[hx] at h;cases h
       | ok x=>
        obtain⟨xs,a6⟩:=x;rw[hx] at h;simp only at h;have hnx:=nums_ok hb hx;rw[List.append_nil] at hnx;have hxl:xs.length=c:=by have:=(rnums_len hx);simpa using this
        cases hkk:rnum B 2 0 (if kind=2 then 0 else xs.length) a6 with
        | error q=>rw[hkk] at h;cases h
        | ok x=>
         obtain⟨k,a7⟩:=x;rw[hkk] at h;simp only at h;obtain⟨q1,q2,q3⟩:=num_ok hkk;cases hkx:rnums B size k [] [] a7 with
         | error q=>rw[hkx] at h;cases h
         | ok x=>
          obtain⟨kept,a8⟩:=x;rw[hkx] at h;obtain⟨rfl,rfl⟩:(⟨name,kind,size,og,a3,xs,kept⟩:PEnt)=p/\a8=at1:=by simpa using h
          have hkq:=nums_ok (by omega) hkx;have hO:orgX B count kind a3 none=(some og,a3,a4,none):=by
           unfold orgX;rw[if_neg hk0,o1,must_none (ok:=decide (og < count)) (by simp;omega)]
          have hT:tailX B bound used kind size a4 none=(c,used++xs,a6,none):=by
           have hm:=must_none (ok:=decide (1<=c/\c<=size/\(0 < kind\/c=size))) (by simp;omega) a4;unfold tailX;simp only[c1];rw[hm,hnx]
          have hK:keptX B kind c size a6 none=(kept,a8,none):=by
           unfold keptX;have hq:k<=c/\(kind=1\/k=0):=by
            by_cases h2:kind=2
            ·rw[if_pos h2] at q3;omega
            ·rw[if_neg h2] at q3;omega
           simp only[q1,must_none (ok:=decide (k<=c/\(kind=1\/k=0))) (by simpa using hq)];simpa using hkq
          simp[hO,hT,hK,PEnt.ref,hk0]
theorem entry_err{B:List UInt8}{o:Option ByteArray}{ahead:ByteArray}{count bound:Nat}{used:List Nat}{a0 q:Nat}(ha:AheadIs o ahead)(hb:0 < bound)(hc:0 < count)(h:rentry B count bound used ahead a0=.error q) :
 (entryX B o bound count used a0 none).2.2.2=some q:=by
 unfold rentry at h;cases hn:rname B ahead a0 with
 | error q'=>
  rw[hn] at h;obtain rfl:q'=q:=by simpa using h
  refine entryX_head ?_;unfold headX;simp only;rw[name_err ha hn];rfl
 | ok x=>
  obtain⟨name,a1⟩:=x;rw[hn] at h;simp only at h;obtain⟨n,a,n1,n2,n3,n4,n5⟩:=name_ok ha hn;have hm1:=must_none (ok:=decide (1<=n/\n<=10)) (by simpa using n2) a0;cases hk:rnum B 1 0 2 a1 with
  | error q'=>
   rw[hk] at h;obtain rfl:q'=q:=by simpa using h
   refine entryX_head ?_;have:=num_err hk (decide ((numX B 1 a1 none).1<=2)) (by simp);unfold headX;simp only[n1,hm1,n3,must_none n4,n5,this];rfl
  | ok x=>
   obtain⟨kind,a2⟩:=x;rw[hk] at h;simp only at h;obtain⟨k1,k2,k3⟩:=num_ok hk;have hm2:=must_none (ok:=decide (kind<=2)) (by simpa using k3) a1;cases hs:rnum B 2 1 200 a2 with
   | error q'=>
    rw[hs] at h;obtain rfl:q'=q:=by simpa using h
    refine entryX_head ?_;have:=num_err hs (decide (1<=(numX B 2 a2 none).1/\(numX B 2 a2 none).1<=200)) (by simp);unfold headX;simp only[n1,hm1,n3,must_none n4,n5,k1,hm2,this]
   | ok x=>
    obtain⟨size,a3⟩:=x;rw[hs] at h;simp only at h;obtain⟨s1,s2,s3⟩:=num_ok hs;have hm3:=must_none (ok:=decide (1<=size/\size<=200)) (by simp;omega) a2;have hH:headX B o a0 none=⟨name,kind,size,a3,none⟩:=by
     unfold headX;simp only[n1,hm1,n3,must_none n4,n5,k1,hm2,s1,hm3]
    unfold entryX;simp only[hH];by_cases hk0:kind=0
    ·subst hk0;rw[if_pos rfl] at h;unfold rvol at h;have hO:orgX B count 0 a3 none=(none,0,a3,none):=rfl;simp only[hO,if_pos];cases hv:rnum B 2 size size a3 with
     | error q'=>
      rw[hv] at h;obtain rfl:q'=q:=by simpa using h
      have:=num_err hv (decide (1<=(numX B 2 a3 none).1/\(numX B 2 a3 none).1<=size/\(0 < 0\/(numX B 2 a3 none).1=size))) (by simp;omega);unfold tailX;simp only;rw[this,numsX_some]
     | ok x=>
      obtain⟨c,a4⟩:=x;rw[hv] at h;simp only at h;obtain⟨c1,c2,c3⟩:=num_ok hv;obtain rfl:c=size:=by omega
      cases hx:rnums B bound c used [] a4 with
      | error q'=>
       rw[hx] at h;obtain rfl:q'=q:=by simpa using h
       have hnx:=nums_err hb hx;rw[List.append_nil] at hnx;unfold tailX;simp only[c1];rw[must_none]
       ·exact hnx
       ·simp;omega
      | ok x=>rw[hx] at h;cases h
    ·rw[if_neg hk0] at h;simp only[if_neg hk0];unfold rpic at h;cases ho:rnum B 1 0 (count - 1) a3 with
     | error q'=>
      rw[ho] at h;obtain rfl:q'=q:=by simpa using h
      have:=num_err ho (decide ((numX B 1 a3 none).1 < count)) (by simp;omega);have hO:(orgX B count kind a3 none).2.2.2=some q':=by unfold orgX;rw[if_neg hk0];exact this
      rw[hO,tailX_some];exact keptX_some _ _ _ _ _ _
     | ok x=>
      obtain⟨og,a4⟩:=x;rw[ho] at h;simp only at h;obtain⟨o1,o2,o3⟩:=num_ok ho;have hO:orgX B count kind a3 none=(some og,a3,a4,none):=by
       unfold orgX;rw[if_neg hk0,o1,must_none (ok:=decide (og < count)) (by simp;omega)]
      simp only[hO];cases hv:rnum B 2 1 size a4 with
      | error q'=>
       rw[hv] at h;obtain rfl:q'=q:=by simpa using h
       have:=num_err hv (decide (1<=(numX B 2 a4 none).1/\(numX B 2 a4 none).1<=size/\(0 < kind\/(numX B 2 a4 none).1=size))) (by simp;omega);have hT:(tailX B bound used kind size a4 none).2.2.2=some q':=by
        unfold tailX;simp only;rw[this,numsX_some]
       rw[hT];exact keptX_some _ _ _ _ _ _
      | ok x=>
       obtain⟨c,a5⟩:=x;rw[hv] at h;simp only at h;obtain⟨c1,c2,c3⟩:=num_ok hv;have hm:=must_none (ok:=decide (1<=c/\c<=size/\(0 < kind\/c=size))) (by simp;omega) a4;cases hx:rnums B bound c used [] a5 with
       | error q'=>
        rw[hx] at h;obtain rfl:q'=q:=by simpa using h
        have hnx:=nums_err hb hx;rw[List.append_nil] at hnx;have hT:(tailX B bound used kind size a4 none).2.2.2=some q':=by
         unfold tailX;simp only[c1];rw[hm];exact hnx
        rw[hT];exact keptX_some _ _ _ _ _ _
       | ok x=>
        obtain⟨xs,a6⟩:=x;rw[hx] at h;simp only at h;have hnx:=nums_ok hb hx;rw[List.append_nil] at hnx;have hxl:xs.length=c:=by have:=(rnums_len hx);simpa using this
        have hT:tailX B bound used kind size a4 none=(c,used++xs,a6,none):=by
         unfold tailX;simp only[c1];rw[hm,hnx]
        simp only[hT];cases hkk:rnum B 2 0 (if kind=2 then 0 else xs.length) a6 with
        | error q'=>
         rw[hkk] at h;obtain rfl:q'=q:=by simpa using h
         have:=num_err hkk (decide ((numX B 2 a6 none).1<=c/\(kind=1\/(numX B 2 a6 none).1=0))) (by
          simp;by_cases h2:kind=2
          ·rw[if_pos h2];omega
          ·rw[if_neg h2];omega)
         unfold keptX;simp only;rw[this,numsX_some]
        | ok x=>
         obtain⟨k,a7⟩:=x;rw[hkk] at h;simp only at h;obtain⟨q1,q2,q3⟩:=num_ok hkk;have hq:k<=c/\(kind=1\/k=0):=by
          by_cases h2:kind=2
          ·rw[if_pos h2] at q3;omega
          ·rw[if_neg h2] at q3;omega
         have hm4:=must_none (ok:=decide (k<=c/\(kind=1\/k=0))) (by simpa using hq) a6;cases hkx:rnums B size k [] [] a7 with
         | error q'=>
          rw[hkx] at h;obtain rfl:q'=q:=by simpa using h
          have hkq:=nums_err (by omega) hkx;unfold keptX;simp only[q1];rw[hm4];simpa using hkq
         | ok x=>rw[hkx] at h;cases h
end
end Go.Proofs.YtpddgdjocffgdaaGreat
