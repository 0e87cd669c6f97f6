/- Packed: see the last text. -/
import Derived.Test.YtpddgdjocffgdaaGreatProg
import Derived.WalkKit
import Derived.Sort.WalkC
import Derived.Deep.LoopGhost
import Derived.Deep.QuietTactic
import Derived.BigRegion
import Derived.BigQuiet
import Derived.Deep.RegionWith
import Derived.Lib.Bytealg
import Derived.LaidEqlPtr
import Derived.StillTailTactics
import Derived.Lib.Strings
import Derived.Lib.Walk
import Derived.Lib.BufferWrite
import Derived.Lib.UnsafeStr
import Derived.Lib.Buffer
import Derived.Lib.SliceRun
namespace Go.Proofs.YtpddgdjocffgdaaGreat
open Go.Proofs.Tryz
set_option linter.unusedVariables false
set_option linter.unusedSimpArgs false
set_option linter.unusedSectionVars false
set_option maxHeartbeats 16000000
set_option maxRecDepth 100000
section
open Go.RowKit Go.Sort
def wE(m i:Nat)(d:Array Int):Nat:=if 2*i+1<m/\d[2*i+1]!<d[i]! then 2*i+1 else i
def low(m i:Nat)(d:Array Int):Nat:=if 2*i+2<m/\d[2*i+2]!<d[wE m i d]! then 2*i+2 else wE m i d
theorem OB(m i:Nat)(d:Array Int)(h:i<m):wE m i d<m:=by unfold wE;split<;>omega
theorem VU(m i:Nat)(d:Array Int)(h:i<m):low m i d<m:=by
 have:=OB m i d h;unfold low;split<;>omega
def sK(m i:Nat)(d:Array Int)(j bst:Nat):Prop:=(j=2*i+1/\bst=i)\/(j=2*i+2/\bst=wE m i d/\2*i+1<m)\/(j=2*i+3/\bst=low m i d/\2*i+2<m)
theorem sK.YJ{m i:Nat}{d:Array Int}{j bst:Nat}(h:sK m i d j bst)(hj:j<m):bst<m:=by
 rcases h with⟨_,h⟩|⟨_,h,h2⟩|⟨_,h,h2⟩
 ·omega
 ·have:=OB m i d (by omega);omega
 ·have:=VU m i d (by omega);omega
theorem sK.yes{m i:Nat}{d:Array Int}{j bst:Nat}(h:sK m i d j bst)(hj:j<m)(hle:j<=2*i+2)(hx:d[j]!<d[bst]!):sK m i d (j+1) j:=by
 rcases h with⟨rfl,rfl⟩|⟨rfl,rfl,h2⟩|⟨rfl,_,_⟩
 ·exact Or.inr (Or.inl ⟨rfl,by unfold wE;rw[if_pos ⟨hj,hx⟩],hj⟩)
 ·exact Or.inr (Or.inr ⟨rfl,by unfold low;rw[if_pos ⟨hj,hx⟩],hj⟩)
 ·omega
theorem sK.no{m i:Nat}{d:Array Int}{j bst:Nat}(h:sK m i d j bst)(hj:j<m)(hle:j<=2*i+2)(hx:¬d[j]!<d[bst]!):sK m i d (j+1) bst:=by
 rcases h with⟨rfl,rfl⟩|⟨rfl,rfl,h2⟩|⟨rfl,_,_⟩
 ·exact Or.inr (Or.inl ⟨rfl,by unfold wE;rw[if_neg (fun h=>hx h.2)],hj⟩)
 ·exact Or.inr (Or.inr ⟨rfl,by unfold low;rw[if_neg (fun h=>hx h.2)],hj⟩)
 ·omega
theorem sK.done{m i:Nat}{d:Array Int}{j bst:Nat}(h:sK m i d j bst)(hn:¬(j<m/\j<=2*i+2)):bst=low m i d:=by
 rcases h with⟨rfl,rfl⟩|⟨rfl,rfl,h2⟩|⟨rfl,h,_⟩
 ·unfold low wE;rw[if_neg (by omega),if_neg (by omega)]
 ·unfold low;rw[if_neg (by omega)]
 ·exact h
theorem xO(b off m cap i:Nat)(d:Array Int)(w:World)(hm:m<=d.size)(hmx:m<=1000)(him:i<=1000)(hH:Holds (Value.int .i64) w b off d) :
 Calls prog 146 #[.slice (some ⟨b,off,none⟩) m cap,.int .i64 i] w fun e w'=>e=.returned (.int .i64 (low m i d))/\∃q,w'=w.drewN q:=by
 go_enter func146,ntmps146
 go_wp2
 go_loopw [5,6] (fun s c wr=>∃(j bst q:Nat),s=.int .i64 bst/\c=.int .i64 j/\wr=w.drewN q/\sK m i d j bst)
  (fun _ c _=>2*i+3-(intOf c).toNat)
 case atStart=>exact⟨2*i+1,i,0,rfl,by go_num,rfl,Or.inl ⟨rfl,rfl⟩⟩
 case round=>
  obtain⟨j,bst,q,rfl,rfl,rfl,hj⟩:=hrel;by_cases hlt:j<m/\j<=2*i+2
  ·obtain⟨hlt,hle⟩:=hlt;have hb:bst<m:=hj.YJ hlt;obtain⟨xj,hxj⟩:∃x,d[j]! = x:=⟨_,rfl⟩
   obtain⟨xb,hxb⟩:∃x,d[bst]! = x:=⟨_,rfl⟩
   obtain⟨cj,fj⟩:=hH j (by omega);obtain⟨cb,fb⟩:=hH bst (by omega);rw[hxj]at cj;rw[hxb]at cb;have HX:Hid (d[j]! = xj/\d[bst]! = xb):=⟨hxj,hxb⟩
   clear hxj hxb hH;have l1:(j:Int)<=2*(i:Int)+2:=by omega
   have l2:(j:Int)<(m:Int):=by omega
   have l3:(bst:Int)<(m:Int):=by omega
   go_wp2_with fail
   go_quiet (fail)
   go_wp2
   ·go_roundw
    case rel=>exact⟨j+1,j,_,rfl,by go_num,rfl,hj.yes hlt hle (by rw[HX.out.1,HX.out.2];assumption)⟩
    case measure=>simp[intOf];omega
   ·go_roundw
    case rel=>exact⟨j+1,bst,_,rfl,by go_num,rfl,hj.no hlt hle (by rw[HX.out.1,HX.out.2];omega)⟩
    case measure=>simp[intOf];omega
  ·have HE:Hid (bst=low m i d):=hj.done hlt;clear hj
   go_wp2
   all_goals
    go_ret
    rw[HE.out];exact⟨rfl,_,rfl⟩
def sift(m:Nat):Nat->Nat->Array Int->Array Int
 | 0,_,d=>d
 | f+1,i,d=>if low m i d=i then d else sift m f (low m i d) (swp d (low m i d) i)
theorem sift_stop(m f i:Nat)(d:Array Int)(h:low m i d=i):sift m f i d=d:=by
 cases f with
 | zero=>rfl
 | succ f=>simp only[sift];rw[if_pos h]
theorem sift_go(m f i l:Nat)(d:Array Int)(h:low m i d=l)(hne:l≠i)(hf:1<=f):sift m f i d=sift m (f-1) l (swp d l i):=by
 obtain⟨g,rfl⟩:∃g,f=g+1:=⟨f-1,by omega⟩
 simp only[sift,Nat.add_sub_cancel];rw[h,if_neg hne]
theorem YG(m i:Nat)(d:Array Int):i<=low m i d:=by unfold low wE;split<;>split<;>omega
theorem Hz(m i:Nat)(d:Array Int)(h:m<=2*i+1):low m i d=i:=by unfold low wE;rw[if_neg (by omega),if_neg (by omega)]
theorem swp_size(d:Array Int)(i j:Nat):(swp d i j).size=d.size:=by simp[swp]
theorem MP(b off m cap:Nat)(d:Array Int)(w:World)(hm:m<=d.size)(hmx:m<=1000)(hH:Holds (Value.int .i64) w b off d) :
 Calls prog 141 #[.slice (some ⟨b,off,none⟩) m cap,.int .i64 0] w fun e w'=>e=.returned (.tuple #[])/\∃q,w'=(putRow (Value.int .i64) w b off (sift m m 0 d)).drewN q:=by
 go_enter func141,ntmps141
 go_wp2_with fail
 go_loopg [1] (m+1) (fun g si wr=>∃(i f q:Nat)(dk:Array Int),si=.int .i64 i/\dk.size=d.size/\(i<m\/i=0)/\m-i<=f/\m+1-i<=g/\wr=(putRow (Value.int .i64) w b off dk).drewN q/\Hid (sift m m 0 d=sift m f i dk))
 case atStart=>exact⟨0,m,0,d,rfl,rfl,by omega,by omega,by omega,by rw[putRow_self (Value.int .i64) _ b off d hH];rfl,rfl⟩
 case round=>
  obtain⟨i,f,q,dk,rfl,hds,him,hfm,hg,rfl,HE⟩:=hrel;have hHk:Holds (Value.int .i64) (putRow (Value.int .i64) w b off dk) b off dk:=holds_putRow _ _ b off d dk hH hds;have hHq:Holds (Value.int .i64) ((putRow (Value.int .i64) w b off dk).drewN q) b off dk:=hHk;have hge:=YG m i dk;obtain⟨l,hl⟩:∃l,low m i dk=l:=⟨_,rfl⟩
  go_wp2_with fail
  refine(xO b off m cap i dk _ (by omega) hmx (by omega) hHq).mono ?_;rintro e w1 ⟨rfl,q1,rfl⟩;by_cases hli:l=i
  ·have HS:Hid (sift m f i dk=dk):=sift_stop m f i dk (hl.trans hli);clear hHk hHq hH
   go_wp2
   refine bodyPost_ret (results_none rfl _ _ _) rfl ⟨rfl,?_⟩;rw[HE.out,HS.out];exact⟨_,rfl⟩
  ·have hlm:l<m:=by
    rcases Nat.lt_or_ge i m with h|h
    ·have:=VU m i dk h;omega
    ·have:=Hz m i dk (by omega);omega
   have HS:Hid (sift m f i dk=sift m (f-1) l (swp dk l i)):=sift_go m f i l dk hl hli (by omega)
   go_wp2_with fail
   obtain⟨xi,hxi⟩:∃x,dk[i]! = x:=⟨_,rfl⟩
   obtain⟨xl,hxl⟩:∃x,dk[l]! = x:=⟨_,rfl⟩
   obtain⟨ci,fi⟩:=hHk i (by omega);obtain⟨cl,fl⟩:=hHk l (by omega);rw[hxi]at ci;rw[hxl]at cl;generalize hwq:(putRow (Value.int .i64) w b off dk).drewN _=wq;have ci':wq.cell? ⟨b,off+i,none⟩=some (.int .i64 xi):=by rw[<-hwq];exact ci
   have cl':wq.cell? ⟨b,off+l,none⟩=some (.int .i64 xl):=by rw[<-hwq];exact cl
   have fi':wq.frozen? ⟨b,off+i,none⟩=false:=by rw[<-hwq];exact fi
   have fl':wq.frozen? ⟨b,off+l,none⟩=false:=by rw[<-hwq];exact fl
   have l1:(i:Int)<(m:Int):=by omega
   have l2:(l:Int)<(m:Int):=by omega
   have hil:i<l:=by omega
   have HX:Hid (dk[i]! = xi/\dk[l]! = xl):=⟨hxi,hxl⟩
   have HW:Hid ((putRow (Value.int .i64) w b off dk).drewN (q+q1)=wq):=hwq;clear hHk hHq hH hxi hxl ci cl fi fl hwq hl
   go_region
   go_wp2
   go_roundg (m+1-l)
   case measure=>omega
   case rel=>
    exact⟨l,f-1,q+q1+1,swp dk l i,by go_num,by simp[swp,hds],by omega,by omega,Nat.le_refl _,by rw[<-HW.out,<-HX.out.1,<-HX.out.2];exact swap_worldC (Value.int .i64) w b off dk (q+q1) l i (by omega) (by omega),(show Hid _ from HE.out.trans HS.out)⟩
def lift:Nat->Nat->Array Int->Array Int
 | 0,_,d=>d
 | f+1,i,d=>if i=0\/d[(i-1) / 2]!<=d[i]! then d else lift f ((i-1) / 2) (swp d ((i-1) / 2) i)
theorem Et(f i:Nat)(d:Array Int)(h:i=0\/d[(i-1) / 2]!<=d[i]!):lift f i d=d:=by
 cases f with
 | zero=>rfl
 | succ f=>simp only[lift];rw[if_pos h]
theorem Wx(f i:Nat)(d:Array Int)(h:¬(i=0\/d[(i-1) / 2]!<=d[i]!))(hf:1<=f):lift f i d=lift (f-1) ((i-1) / 2) (swp d ((i-1) / 2) i):=by
 obtain⟨g,rfl⟩:∃g,f=g+1:=⟨f-1,by omega⟩
 simp only[lift,Nat.add_sub_cancel];rw[if_neg h]
theorem MQ(b off m cap i0:Nat)(d:Array Int)(w:World)(hm:m<=d.size)(hmx:m<=1000)(hi0:i0<m)(hH:Holds (Value.int .i64) w b off d) :
 Calls prog 140 #[.slice (some ⟨b,off,none⟩) m cap,.int .i64 i0] w fun e w'=>e=.returned (.tuple #[])/\∃q,w'=(putRow (Value.int .i64) w b off (lift i0 i0 d)).drewN q:=by
 go_enter func140,ntmps140
 go_wp2_with fail
 go_loopg [1] (i0+1) (fun g si wr=>∃(i f q:Nat)(dk:Array Int),si=.int .i64 i/\dk.size=d.size/\i<m/\i<=f/\i+1<=g/\wr=(putRow (Value.int .i64) w b off dk).drewN q/\Hid (lift i0 i0 d=lift f i dk))
 case atStart=>exact⟨i0,i0,0,d,rfl,rfl,by omega,by omega,by omega,by rw[putRow_self (Value.int .i64) _ b off d hH];rfl,rfl⟩
 case round=>
  obtain⟨i,f,q,dk,rfl,hds,him,hfm,hg,rfl,HE⟩:=hrel;have hHk:Holds (Value.int .i64) (putRow (Value.int .i64) w b off dk) b off dk:=holds_putRow _ _ b off d dk hH hds;by_cases h0:i=0
  ·have HS:Hid (lift f i dk=dk):=Et f i dk (Or.inl h0);clear hHk hH
   go_wp2
   refine bodyPost_end (results_none rfl _ _ _) rfl ⟨rfl,?_⟩;rw[HE.out,HS.out];exact⟨_,rfl⟩
  ·obtain⟨u,hu⟩:∃u,(i-1) / 2=u:=⟨_,rfl⟩
   have hui:u<i:=by omega
   obtain⟨xi,hxi⟩:∃x,dk[i]! = x:=⟨_,rfl⟩
   obtain⟨xu,hxu⟩:∃x,dk[u]! = x:=⟨_,rfl⟩
   obtain⟨ci,fi⟩:=hHk i (by omega);obtain⟨cu,fu⟩:=hHk u (by omega);rw[hxi]at ci;rw[hxu]at cu;have l1:(i:Int)<(m:Int):=by omega
   have l2:(u:Int)<(m:Int):=by omega
   have HL:Hid (((i:Int)-1) / 2=(u:Int)):=by show _=_;omega
   have HS:Hid (if xu<=xi then lift f i dk=dk else lift f i dk=lift (f-1) u (swp dk u i)):=by
    show ite _ _ _
    split
    ·exact Et f i dk (Or.inr (by rw[hu,hxi,hxu];assumption))
    ·rw[Wx f i dk (by rw[hu,hxi,hxu];omega) (by omega),hu]
   have HX:Hid (dk[i]! = xi/\dk[u]! = xu):=⟨hxi,hxu⟩
   clear hHk hH hxi hxu hu
   go_wp2_with fail
   rw[HL.out]
   go_quiet (fail)
   go_wp2_with fail
   ·refine bodyPost_ret (results_none rfl _ _ _) rfl ⟨rfl,?_⟩;have hle:xu<=xi:=by assumption
    have h2:=HS.out;rw[if_pos hle]at h2;rw[HE.out,h2];exact⟨q+nq,World.drewN_drewN _ _ _⟩
   ·have hle:¬xu<=xi:=by omega
    have h2:Hid (lift f i dk=lift (f-1) u (swp dk u i)):=by have h2:=HS.out;rw[if_neg hle]at h2;exact h2
    clear HS;rw[show((putRow (Value.int .i64) w b off dk).drewN q).drewN nq=(putRow (Value.int .i64) w b off dk).drewN (q+nq) from World.drewN_drewN _ _ _];obtain⟨q1,hq1⟩:∃q1,(q+nq)=q1:=⟨_,rfl⟩
    rw[hq1];clear hq1;generalize hwq:(putRow (Value.int .i64) w b off dk).drewN q1=wq;have ci':wq.cell? ⟨b,off+i,none⟩=some (.int .i64 xi):=by rw[<-hwq];exact ci
    have cu':wq.cell? ⟨b,off+u,none⟩=some (.int .i64 xu):=by rw[<-hwq];exact cu
    have fi':wq.frozen? ⟨b,off+i,none⟩=false:=by rw[<-hwq];exact fi
    have fu':wq.frozen? ⟨b,off+u,none⟩=false:=by rw[<-hwq];exact fu
    have HW:Hid ((putRow (Value.int .i64) w b off dk).drewN q1=wq):=hwq;clear ci cu fi fu hwq
    go_region
    go_wp2
    go_roundg (u+1)
    case measure=>omega
    case rel=>
     exact⟨u,f-1,q1+1,swp dk u i,by go_num,by simp[swp,hds],by omega,by omega,Nat.le_refl _,by rw[<-HW.out,<-HX.out.1,<-HX.out.2];exact swap_worldC (Value.int .i64) w b off dk q1 u i (by omega) (by omega),(show Hid _ from HE.out.trans h2.out)⟩
def At(w:World)(b:Nat)(t:TypeId)(cs:List Value):Prop:=w.heap[b]? = some (.cells cs.toArray t (0,0))
theorem At.lt{w:World}{b:Nat}{t:TypeId}{cs:List Value}(h:At w b t cs):b<w.heap.size:=by
 unfold At at h;rcases Nat.lt_or_ge b w.heap.size with h'|h'
 ·exact h'
 ·rw[Array.getElem?_eq_none h']at h;cases h
theorem At.cell?{w:World}{b:Nat}{t:TypeId}{cs:List Value}(h:At w b t cs)(i:Nat):w.cell? ⟨b,i,none⟩=cs[i]?:=by
 unfold At at h;simp[World.cell?,h]
theorem At.frozen{w:World}{b:Nat}{t:TypeId}{cs:List Value}(h:At w b t cs)(i:Nat):w.frozen? ⟨b,i,none⟩=false:=by
 unfold At at h;simp[World.frozen?,h]
theorem At.of_heap{w w':World}{b:Nat}{t:TypeId}{cs:List Value}(h:At w b t cs)(e:w'.heap[b]? = w.heap[b]?):At w' b t cs:=by
 unfold At at *;rw[e];exact h
theorem At.drewN{w:World}{b:Nat}{t:TypeId}{cs:List Value}(h:At w b t cs)(q:Nat):At (w.drewN q) b t cs:=h
theorem At.drew{w:World}{b:Nat}{t:TypeId}{cs:List Value}(h:At w b t cs):At w.drew b t cs:=h
theorem At.alloc{w:World}{b:Nat}{t:TypeId}{cs:List Value}(h:At w b t cs)(o:Obj):At (w.alloc o) b t cs:=
 h.of_heap (Below.heap_alloc w o b h.lt)
theorem At.new(w:World)(c:Array Value)(t:TypeId):At (w.alloc (.cells c t)) w.heap.size t c.toList:=by
 show(w.heap.push _)[w.heap.size]? = _;simp
theorem At.ax{w:World}{b:Nat}{t:TypeId}{cs:List Value}(h:At w b t cs)(i:Nat)(v:Value):At (w.setCell ⟨b,i,none⟩ v) b t (cs.set i v):=by
 unfold At at *;simp[World.setCell,Array.getElem?_modify,h]
theorem At.aP{w:World}{b:Nat}{t:TypeId}{cs:List Value}(h:At w b t cs)(b' i:Nat)(v:Value)(hne:b≠b'):At (w.setCell ⟨b',i,none⟩ v) b t cs:=
 h.of_heap (Below.heap_setCell w _ v b hne)
theorem At.inj{w:World}{b:Nat}{t t':TypeId}{cs cs':List Value}(h:At w b t cs)(h':At w b t' cs'):t=t'/\cs=cs':=by
 unfold At at h h';rw[h]at h';simp only[Option.some.injEq,Obj.cells.injEq]at h';obtain⟨a,b,_⟩:=h';exact⟨b,by simpa using a⟩
theorem At.holds{w:World}{b:Nat}{t:TypeId}{d:Array Int}{k:IntKind}(h:At w b t (d.toList.map (Value.int k))):Holds (Value.int k) w b 0 d:=by
 intro j hj;refine⟨?_,h.frozen _⟩;rw[h.cell?,Nat.zero_add,List.getElem?_map,Array.getElem?_toList,getElem!_pos d j hj,Array.getElem?_eq_getElem hj];rfl
theorem At.zn{w:World}{b:Nat}{t:TypeId}{d d':Array Int}{k:IntKind}(h:At w b t (d.toList.map (Value.int k)))(hs:d'.size=d.size):At (putRow (Value.int k) w b 0 d') b t (d'.toList.map (Value.int k)):=by
 unfold At at *;simp only[putRow,mapBlock,Array.getElem?_modify,h,if_true,Option.map_some,onCells]
 congr 2
 apply Array.ext_getElem?;intro i;simp only[putCells,Array.getElem?_mapIdx];by_cases hi:i<d.size
 ·simp[hs,hi,getElem!_pos d' i (by omega)]
 ·simp[hs,hi]
theorem At.wU{w:World}{b:Nat}{t:TypeId}{cs:List Value}(h:At w b t cs){α:Type}[Inhabited α](enc:α->Value)(b' off:Nat)(d:Array α)(hne:b≠b'):At (putRow enc w b' off d) b t cs:=by
 refine h.of_heap ?_;simp only[putRow,mapBlock,Array.getElem?_modify];rw[if_neg (by omega)]
structure Same(S:List Nat)(w w':World):Prop where
 os:w'.os=w.os
 tape:w'.tape=w.tape
 output:w'.output=w.output
 size:w.heap.size<=w'.heap.size
 block:∀k,k<w.heap.size->k∉S->w'.heap[k]? = w.heap[k]?
theorem Same.refl(S:List Nat)(w:World):Same S w w:=⟨rfl,rfl,rfl,Nat.le_refl _,fun _ _ _=>rfl⟩
theorem Same.trans{S T:List Nat}{a b c:World}(h:Same S a b)(k:Same T b c):Same (S++T) a c:=
 ⟨k.os.trans h.os,k.tape.trans h.tape,k.output.trans h.output,Nat.le_trans h.size k.size,fun i hi hn=>by
  simp only[List.mem_append,not_or]at hn;exact(k.block i (Nat.lt_of_lt_of_le hi h.size) hn.2).trans (h.block i hi hn.1)⟩
theorem Same.mono{S T:List Nat}{a b:World}(h:Same S a b)(hs:∀k,k∈S->k<a.heap.size->k∈T):Same T a b:=
 ⟨h.os,h.tape,h.output,h.size,fun i hi hn=>h.block i hi fun hm=>hn (hs i hm hi)⟩
theorem Same.step{S T:List Nat}{a b c:World}(h:Same S a b)(k:Same T b c)(ht:∀k,k∈T->k<a.heap.size->k∈S):Same S a c:=
 (h.trans k).mono fun i hi hl=>by
  rcases List.mem_append.1 hi with hi|hi
  ·exact hi
  ·exact ht i hi hl
theorem Same.drewN{S:List Nat}{a b:World}(h:Same S a b)(q:Nat):Same S a (b.drewN q):=⟨h.os,h.tape,h.output,h.size,h.block⟩
theorem Same.drew{S:List Nat}{a b:World}(h:Same S a b):Same S a b.drew:=⟨h.os,h.tape,h.output,h.size,h.block⟩
theorem Same.alloc{S:List Nat}{a b:World}(h:Same S a b)(o:Obj):Same S a (b.alloc o):=
 h.step (T:=[]) ⟨rfl,rfl,rfl,by simp,fun k hk _=>Below.heap_alloc _ _ _ hk⟩ (by simp)
theorem Same.set{S:List Nat}{a b:World}(h:Same S a b)(k i:Nat)(v:Value)(hk:k<a.heap.size->k∈S):Same S a (b.setCell ⟨k,i,none⟩ v):=
 h.step (T:=[k]) ⟨rfl,rfl,rfl,by simp,fun j _ hn=>Below.heap_setCell _ _ _ _ (by simpa using hn)⟩ (by simpa using hk)
theorem Same.putRow{S:List Nat}{a b:World}(h:Same S a b){α:Type}[Inhabited α](enc:α->Value)(k off:Nat)(d:Array α)(hk:k<a.heap.size->k∈S):Same S a (putRow enc b k off d):=by
 refine h.step (T:=[k]) ⟨rfl,rfl,rfl,by simp[Sort.putRow,mapBlock],fun j _ hn=>?_⟩ (by simpa using hk);simp only[Sort.putRow,mapBlock,Array.getElem?_modify];rw[if_neg (by simp at hn;omega)]
theorem Same.grown{S:List Nat}{a b c:World}(h:Same S a b){row:Option Nat}(hg:b.grownBy c row)(hk:∀k,row=some k->k<a.heap.size->k∈S):Same S a c:=
 h.step (T:=row.toList) ⟨hg.os,hg.tape,hg.output,hg.size,fun k hk hn=>hg.block k hk (by simpa using fun e:some k=row=>hn (by simp[<-e]))⟩ (fun k hk'=>hk k (by simpa using hk'))
theorem Same.at{S:List Nat}{a b:World}(h:Same S a b){k:Nat}{t:TypeId}{cs:List Value}(hA:At a k t cs)(hn:k∉S):At b k t cs:=hA.of_heap (h.block k hA.lt hn)
theorem Same.below{S:List Nat}{a b:World}(h:Same S a b){B:Nat}(hB:B<=a.heap.size)(hs:∀k,k∈S->B<=k):Below B a b:=
 ⟨h.os,h.tape,h.output,h.size,fun k hk=>h.block k (by omega) fun hm=>by have:=hs k hm;omega⟩
def Oc(m:Nat)(d:Array Int):Array Int:=sift m m 0 (d.setIfInBounds 0 d[m]!)
def BR(m:Nat)(n:Int)(d:Array Int):Array Int:=lift m m (d.setIfInBounds m n)
theorem sift_size (m f : Nat) : ∀ (i : Nat) (d : Array Int), (sift m f i d).size = d.size := by
  induction f with
  | zero => intro i d; rfl
  | succ f ih => intro i d; simp only [sift]; split
                 · rfl
                 · rw [ih, swp_size]
theorem xR (f : Nat) : ∀ (i : Nat) (d : Array Int), (lift f i d).size = d.size := by
  induction f with
  | zero => intro i d; rfl
  | succ f ih => intro i d; simp only [lift]; split
                 · rfl
                 · rw [ih, swp_size]
theorem yI(m:Nat)(d:Array Int):(Oc m d).size=d.size:=by simp[Oc,sift_size]
theorem Bc(m:Nat)(n:Int)(d:Array Int):(BR m n d).size=d.size:=by simp[BR,xR]
theorem rW(d:Array Int)(i:Nat)(x:Int)(k:IntKind):((d.toList.map (Value.int k)).set i (.int k x))=(d.setIfInBounds i x).toList.map (Value.int k):=by
 rw[Array.toList_setIfInBounds,List.map_set]
theorem pop_none(hb fb cap:Nat)(t:TypeId)(v0:Value)(a:Option Addr)(w:World)(h0:At w hb t [v0,.slice a 0 cap]) :
 Calls prog 128 #[.pointer (some ⟨hb,1,none⟩)] w fun e w'=>e=.returned (.tuple #[.int .i64 0,.bool false])/\w'=w:=by
 have c0:w.cell? ⟨hb,1,none⟩=some (.slice a 0 cap):=h0.cell? 1;clear h0
 go_enter func128,ntmps128
 go_wp2
 go_ret2
 exact⟨rfl,rfl⟩
theorem pop_some(hb fb m cap:Nat)(t t':TypeId)(v0:Value)(d:Array Int)(w:World)(h0:At w hb t [v0,.slice (some ⟨fb,0,none⟩) (m+1) cap])(hne:hb≠fb)
 (h1:At w fb t' (d.toList.map (Value.int .i64))) (hs:d.size=cap) (hm:m+1<=cap) (hc:cap<=1000) :
 Calls prog 128 #[.pointer (some ⟨hb,1,none⟩)] w fun e w'=>e=.returned (.tuple #[.int .i64 d[0]!,.bool true]) /\
  At w' hb t [v0,.slice (some ⟨fb,0,none⟩) m cap]/\At w' fb t' ((Oc m d).toList.map (Value.int .i64))/\Same [hb,fb] w w':=by
 have c0:w.cell? ⟨hb,1,none⟩=some (.slice (some ⟨fb,0,none⟩) (m+1) cap):=h0.cell? 1;have f0:w.frozen? ⟨hb,1,none⟩=false:=h0.frozen 1;obtain⟨x0,hx0⟩:∃x,d[0]! = x:=⟨_,rfl⟩
 obtain⟨xm,hxm⟩:∃x,d[m]! = x:=⟨_,rfl⟩
 have c1:w.cell? ⟨fb,0,none⟩=some (.int .i64 x0):=by have:=(h1.holds 0 (by omega)).1;rw[hx0]at this;exact this
 have c2:w.cell? ⟨fb,m,none⟩=some (.int .i64 xm):=by have:=(h1.holds m (by omega)).1;rw[hxm,Nat.zero_add]at this;exact this
 have f1:w.frozen? ⟨fb,0,none⟩=false:=h1.frozen 0;have A1:At ((w.setCell ⟨fb,0,none⟩ (.int .i64 xm)).setCell ⟨hb,1,none⟩ (.slice (some ⟨fb,0,none⟩) m cap)) fb t' ((d.setIfInBounds 0 xm).toList.map (Value.int .i64)):=by
  rw[<-rW];exact(h1.ax 0 _).aP hb 1 _ (Ne.symm hne)
 have A0:At ((w.setCell ⟨fb,0,none⟩ (.int .i64 xm)).setCell ⟨hb,1,none⟩ (.slice (some ⟨fb,0,none⟩) m cap)) hb t [v0,.slice (some ⟨fb,0,none⟩) m cap]:=
  (h0.aP fb 0 _ hne).ax 1 _
 have F0:Same [hb,fb] w ((w.setCell ⟨fb,0,none⟩ (.int .i64 xm)).setCell ⟨hb,1,none⟩ (.slice (some ⟨fb,0,none⟩) m cap)):=
  ((Same.refl _ _).set fb 0 _ (by simp)).set hb 1 _ (by simp)
 have fm:((m:Int)+1 == 0)=false:=beq_eq_false_iff_ne.2 (by omega);have HX:Hid (d[0]! = x0/\d[m]! = xm):=⟨hx0,hxm⟩
 have hne0:¬fb=hb:=fun e=>hne e.symm
 clear h0 h1 hx0 hxm
 go_enter func128,ntmps128
 go_wp2_with fail
 refine(MP fb 0 m cap (d.setIfInBounds 0 xm) _ (by simp;omega) (by omega) A1.holds).mono ?_;rintro e w1 ⟨rfl,q,rfl⟩;clear c0 f0 c1 c2 f1
 go_wp2
 go_ret2
 rw[HX.out.1];refine⟨rfl,(A0.wU _ _ _ _ hne).drewN q,?_,(F0.putRow _ fb 0 _ (by simp)).drewN q⟩;have e:Oc m d=sift m m 0 (d.setIfInBounds 0 xm):=by unfold Oc;rw[HX.out.2]
 rw[e];exact(A1.zn (by rw[sift_size])).drewN q
theorem P8(b off m cap i0:Nat)(d:Array Int)(w:World)(s:Value)(v:Int)(hs:s=.slice (some ⟨b,off,none⟩) m cap)(hv:v=(i0:Int))(hm:m<=d.size)(hmx:m<=1000)(hi0:i0<m)(hH:Holds (Value.int .i64) w b off d) :
 Calls prog 140 #[s,.int .i64 v] w fun e w'=>e=.returned (.tuple #[])/\∃q,w'=(putRow (Value.int .i64) w b off (lift i0 i0 d)).drewN q:=by
 subst hs hv;exact MQ b off m cap i0 d w hm hmx hi0 hH
theorem Tryz.info3:(prog.info? 3).map (fun i=>(i.zero,i.size,i.bytes))=some (some (.int .i64 0),1,8):=by kernel_rfl
theorem Ns(hb fb m cap:Nat)(n:Int)(t t':TypeId)(v0:Value)(d:Array Int)(w:World)(h0:At w hb t [v0,.slice (some ⟨fb,0,none⟩) m cap])(hne:hb≠fb)
 (h1:At w fb t' (d.toList.map (Value.int .i64))) (hs:d.size=cap) (hm:m<cap) (hc:cap<=1000) :
 Calls prog 126 #[.pointer (some ⟨hb,1,none⟩),.int .i64 n] w fun e w'=>e=.returned (.tuple #[]) /\
  At w' hb t [v0,.slice (some ⟨fb,0,none⟩) (m+1) cap]/\At w' fb t' ((BR m n d).toList.map (Value.int .i64))/\Same [hb,fb] w w':=by
 have c0:w.cell? ⟨hb,1,none⟩=some (.slice (some ⟨fb,0,none⟩) m cap):=h0.cell? 1;have f0:w.frozen? ⟨hb,1,none⟩=false:=h0.frozen 1;have hne0:¬fb=hb:=fun e=>hne e.symm
 have lb:=h0.lt;have lf:=h1.lt;obtain⟨i0,hi,hz0,hz1,hz2⟩:=info_parts Tryz.info3
 go_enter func126,ntmps126
 go_wp2_with (at_builtin;refine wpList_append_arg _ rfl _ _ 124 rfl 3 i0 (.int .i64 0) 1 8 underlying124 hi hz0 hz1 hz2 rfl (by decide) fb 0 m cap ((d.toList.map (Value.int .i64)).take m) rfl ?lo ?olds ⟨w.heap.size,0,none⟩ 1 1 [.int .i64 n] rfl rfl ?c1 ?c2 ?spare ?maxLen ?bytes ?room ?grow)
 case lo=>simp;omega
 case olds=>
  intro j u hj;rw[Nat.zero_add,(h1.alloc _).cell?];rw[List.getElem?_take]at hj
  split at hj
  ·exact hj
  ·cases hj
 case c1=>
  intro j u hj
  match j,hj with
  | 0,hj=>simp at hj;subst hj;simp[Addr.add]
 case c2=>intro u hu;simp at hu;subst hu;rfl
 case spare=>
  intro _ j hj;simp at hj;subst hj;refine⟨?_,(h1.alloc _).frozen _⟩;rw[(h1.alloc _).cell?];simp;omega
 case maxLen=>unfold maxLen;omega
 case bytes=>omega
 case grow=>intro h;omega
 case room=>
  intro _;simp only[World.setCells,Nat.zero_add,Nat.mul_one];have B1:At ((w.alloc (Obj.cells #[Value.int .i64 n] 3)).setCell ⟨fb,m,none⟩ (.int .i64 n)) fb t' ((d.setIfInBounds m n).toList.map (Value.int .i64)):=by
   rw[<-rW];exact(h1.alloc _).ax m _
  have B0:At ((w.alloc (Obj.cells #[Value.int .i64 n] 3)).setCell ⟨fb,m,none⟩ (.int .i64 n)) hb t [v0,.slice (some ⟨fb,0,none⟩) m cap]:=
   (h0.alloc _).aP fb _ _ hne
  have G0:Same [hb,fb] w ((w.alloc (Obj.cells #[Value.int .i64 n] 3)).setCell ⟨fb,m,none⟩ (.int .i64 n)):=
   ((Same.refl _ _).alloc _).set fb _ _ (by simp)
  clear h0 h1 c0 f0;generalize (w.alloc (Obj.cells #[Value.int .i64 n] 3)).setCell ⟨fb,m,none⟩ (.int .i64 n)=W1 at *;have c1:=B0.cell? 1;have f1:=B0.frozen 1;have A1:=B1.aP hb 1 (.slice (some ⟨fb,0,none⟩) (m+1) cap) hne0;have A0:At _ _ _ [v0,.slice (some ⟨fb,0,none⟩) (m+1) cap]:=B0.ax 1 (.slice (some ⟨fb,0,none⟩) (m+1) cap);have F0:=G0.set hb 1 (.slice (some ⟨fb,0,none⟩) (m+1) cap) (by simp);clear B0 B1 G0;simp at c1
  go_wp2_with fail
  generalize hW2:W1.setCell ⟨hb,1,none⟩ (.slice (some ⟨fb,0,none⟩) (m+1) cap)=W2 at *;have c2:W2.cell? ⟨hb,1,none⟩=some (.slice (some ⟨fb,0,none⟩) (m+1) cap):=A0.cell? 1;clear hW2 c1 f1
  go_region_with (go_at_call 140;refine(P8 fb 0 (m+1) cap m (d.setIfInBounds m n) _ _ _ (by rfl) (by first|omega|exact IntWalk.i64_in _ (by omega)) (by simp;omega) (by omega) (by omega) (by exact A1.holds)).mono ?_;rintro e w1 ⟨rfl,q,rfl⟩)
  all_goals
   go_wp2
   refine bodyPost_end (results_none rfl _ _ _) rfl ⟨rfl,(A0.drew.wU _ _ _ _ hne).drewN _,?_,(F0.drew.putRow _ fb 0 _ (by simp)).drewN _⟩;exact(A1.drew.zn (by rw[xR])).drewN _
structure aN where
 b0:Int
 b1:Int
 b2:Int
 b3:Int
 b4:Int
 b5:Int
 b6:Int
 b7:Int
def aN.zero:aN:=⟨0,0,0,0,0,0,0,0⟩
end
section
open Go.RowKit Go.Sort
variable [DecidableEq aN] [Inhabited aN]
def aN.cells(b:aN):List Value:=[.int .u8 b.b0,.int .u8 b.b1,.int .u8 b.b2,.int .u8 b.b3,.int .u8 b.b4,.int .u8 b.b5,.int .u8 b.b6,.int .u8 b.b7]
def aN.val(b:aN):Value:=.agg #[.int .u8 b.b0,.int .u8 b.b1,.int .u8 b.b2,.int .u8 b.b3,.int .u8 b.b4,.int .u8 b.b5,.int .u8 b.b6,.int .u8 b.b7]
def flat:List aN->List Value
 | []=>[]
 | b::r=>b.cells++flat r
theorem flat_get(l:List aN):∀(k j:Nat),k<l.length->j<8->(flat l)[k*8+j]? = (l[k]!).cells[j]?:=by
 induction l with
 | nil=>intro k j h;simp at h
 | cons b r ih=>
  intro k j hk hj;cases k with
  | zero=>
   have:(b::r)[0]! = b:=rfl;rw[this,flat,Nat.zero_mul,Nat.zero_add,List.getElem?_append_left (by simpa [aN.cells] using hj)]
  | succ k=>
   have e:(b::r)[k+1]! = r[k]!:=by simp
   rw[e,<-ih k j (by simpa using hk) hj,flat,List.getElem?_append_right (by simp[aN.cells];omega)]
   congr 1
   simp[aN.cells];omega
theorem JJ(l:List aN):∀(k:Nat)(b:aN),k<l.length ->
 ((((((((flat l).set (k*8) (.int .u8 b.b0)).set (k*8+1) (.int .u8 b.b1)).set (k*8+2) (.int .u8 b.b2)).set (k*8+3) (.int .u8 b.b3)).set (k*8+4) (.int .u8 b.b4)).set (k*8+5) (.int .u8 b.b5)).set (k*8+6) (.int .u8 b.b6)).set (k*8+7) (.int .u8 b.b7)=flat (l.set k b):=by
 induction l with
 | nil=>intro k b h;simp at h
 | cons a r ih=>
  intro k b hk;cases k with
  | zero=>simp[flat,aN.cells]
  | succ k=>
   have:=ih k b (by simpa using hk);simp only[List.set_cons_succ,flat,<-this];simp only[aN.cells,List.cons_append,List.nil_append];rw[show(k+1)*8=k*8+8 by omega];simp only[Nat.add_assoc,Nat.reduceAdd,List.set_cons_succ]
theorem At.eight{w:World}{bb:Nat}{t:TypeId}{bl:List aN}(h:At w bb t (flat bl))(k:Nat)(hk:k<bl.length) :
 w.cell? ⟨bb,k*8,none⟩=some (.int .u8 (bl[k]!).b0)/\w.cell? ⟨bb,k*8+1,none⟩=some (.int .u8 (bl[k]!).b1)/\w.cell? ⟨bb,k*8+2,none⟩=some (.int .u8 (bl[k]!).b2)/\w.cell? ⟨bb,k*8+3,none⟩=some (.int .u8 (bl[k]!).b3) /\
 w.cell? ⟨bb,k*8+4,none⟩=some (.int .u8 (bl[k]!).b4)/\w.cell? ⟨bb,k*8+5,none⟩=some (.int .u8 (bl[k]!).b5)/\w.cell? ⟨bb,k*8+6,none⟩=some (.int .u8 (bl[k]!).b6)/\w.cell? ⟨bb,k*8+7,none⟩=some (.int .u8 (bl[k]!).b7):=by
 refine⟨?_,?_,?_,?_,?_,?_,?_,?_⟩
 ·have:=flat_get bl k 0 hk (by omega);rw[Nat.add_zero]at this;rw[h.cell?,this];rfl
 all_goals (rw[h.cell?,flat_get bl k _ hk (by omega)];rfl)
theorem At.aa8{w:World}{bb:Nat}{t:TypeId}{bl:List aN}(h:At w bb t (flat bl))(k:Nat)(hk:k<bl.length)(x0 x1 x2 x3 x4 x5 x6 x7:Int) :
 At ((((((((w.setCell ⟨bb,k*8,none⟩ (.int .u8 x0)).setCell ⟨bb,k*8+1,none⟩ (.int .u8 x1)).setCell ⟨bb,k*8+2,none⟩ (.int .u8 x2)).setCell ⟨bb,k*8+3,none⟩ (.int .u8 x3)).setCell ⟨bb,k*8+4,none⟩ (.int .u8 x4)).setCell ⟨bb,k*8+5,none⟩ (.int .u8 x5)).setCell ⟨bb,k*8+6,none⟩ (.int .u8 x6)).setCell ⟨bb,k*8+7,none⟩ (.int .u8 x7)) bb t (flat (bl.set k ⟨x0,x1,x2,x3,x4,x5,x6,x7⟩))/\Same [bb] w ((((((((w.setCell ⟨bb,k*8,none⟩ (.int .u8 x0)).setCell ⟨bb,k*8+1,none⟩ (.int .u8 x1)).setCell ⟨bb,k*8+2,none⟩ (.int .u8 x2)).setCell ⟨bb,k*8+3,none⟩ (.int .u8 x3)).setCell ⟨bb,k*8+4,none⟩ (.int .u8 x4)).setCell ⟨bb,k*8+5,none⟩ (.int .u8 x5)).setCell ⟨bb,k*8+6,none⟩ (.int .u8 x6)).setCell ⟨bb,k*8+7,none⟩ (.int .u8 x7)):=by
 refine⟨?_,(((((((((Same.refl _ _).set bb _ _ (by simp)).set bb _ _ (by simp)).set bb _ _ (by simp)).set bb _ _ (by simp)).set bb _ _ (by simp)).set bb _ _ (by simp)).set bb _ _ (by simp)).set bb _ _ (by simp))⟩;rw[<-JJ bl k _ hk];exact((((((((h.ax _ _).ax _ _).ax _ _).ax _ _).ax _ _).ax _ _).ax _ _).ax _ _)
theorem gu(db bb n k:Nat)(t t':TypeId)(v1:Value)(bl:List aN)(w:World)(s:Value)(v:Int)(hs:s=.pointer (some ⟨db,0,none⟩))(hv:v=(k:Int))
 (h0:At w db t [.slice (some ⟨bb,0,none⟩) n n,v1]) (h1:At w bb t' (flat bl)) (hl:bl.length=n) (hk:k<n) (hn:n<=1000) :
 Calls prog 69 #[s,.int .i64 v] w fun e w'=>e=.returned (bl[k]!).val/\Same [] w w':=by
 subst hs hv;obtain⟨c0,c1,c2,c3,c4,c5,c6,c7⟩:=h1.eight k (by omega);have h0':w.cell? ⟨db,0,none⟩=some (.slice (some ⟨bb,0,none⟩) n n):=h0.cell? 0;have lb:=h0.lt;have lbb:=h1.lt;unfold aN.val;generalize bl[k]! = y at *;obtain⟨x0,x1,x2,x3,x4,x5,x6,x7⟩:=y;clear h0 h1 hl
 go_enter func69,ntmps69
 go_wp2
 exact bodyPost_ret (v:=.agg #[.int .u8 x0,.int .u8 x1,.int .u8 x2,.int .u8 x3,.int .u8 x4,.int .u8 x5,.int .u8 x6,.int .u8 x7]) (by simp[results,results69,go_sem]) rfl ⟨rfl,(Same.refl _ _).alloc _⟩
theorem iR(db bb n k:Nat)(t t':TypeId)(v1:Value)(bl:List aN)(b:aN)(w:World)(s u:Value)(v:Int)(hs:s=.pointer (some ⟨db,0,none⟩))(hv:v=(k:Int))(hu:u=b.val)
 (h0:At w db t [.slice (some ⟨bb,0,none⟩) n n,v1]) (h1:At w bb t' (flat bl)) (hl:bl.length=n) (hk:k<n) (hn:n<=1000) :
 Calls prog 102 #[s,.int .i64 v,u] w fun e w'=>e=.returned (.tuple #[])/\At w' bb t' (flat (bl.set k b))/\Same [bb] w w':=by
 subst hs hv hu;obtain⟨x0,x1,x2,x3,x4,x5,x6,x7⟩:=b;obtain⟨c0,c1,c2,c3,c4,c5,c6,c7⟩:=h1.eight k (by omega);have h0':w.cell? ⟨db,0,none⟩=some (.slice (some ⟨bb,0,none⟩) n n):=h0.cell? 0;have lb:=h0.lt;have lbb:=h1.lt;have f:=h1.frozen;have hk':(k:Int)<(n:Int):=by omega
 unfold aN.val
 go_enter func102,ntmps102
 go_wp2
 go_region
 all_goals
  go_wp2
  refine bodyPost_end (results_none rfl _ _ _) rfl ⟨rfl,?_,?_⟩
  ·rw[<-JJ bl k _ (by omega)];exact(((((((((h1.ax _ _).ax _ _).ax _ _).ax _ _).ax _ _).ax _ _).ax _ _).ax _ _).alloc _).drew
  ·exact((((((((((Same.refl _ _).set bb _ _ (by simp)).set bb _ _ (by simp)).set bb _ _ (by simp)).set bb _ _ (by simp)).set bb _ _ (by simp)).set bb _ _ (by simp)).set bb _ _ (by simp)).set bb _ _ (by simp)).alloc _).drew
theorem BU(db n m:Nat)(t:TypeId)(v0:Value)(a:Option Addr)(w:World)(s:Value)(hs:s=.pointer (some ⟨db,0,none⟩))(h0:At w db t [v0,.slice a m n])(hn:m<=1000) :
 Calls prog 46 #[s] w fun e w'=>e=.returned (.int .i64 m)/\w'=w:=by
 subst hs;have h1:w.cell? ⟨db,1,none⟩=some (.slice a m n):=h0.cell? 1;clear h0
 go_enter func46,ntmps46
 go_wp2
 go_ret
 exact⟨rfl,rfl⟩
structure dX(w:World)(db bb fb n m:Nat)(bl:List aN)(d:Array Int):Prop where
 disk:At w db 127 [.slice (some ⟨bb,0,none⟩) n n,.slice (some ⟨fb,0,none⟩) m n]
 data:At w bb 91 (flat bl)
 free:At w fb 3 (d.toList.map (Value.int .i64))
 ne1:db≠bb
 Sm:db≠fb
 MC:bb≠fb
 len:bl.length=n
 size:d.size=n
 le:m<=n
 small:n<=200
theorem dX.same{w w':World}{db bb fb n m:Nat}{bl:List aN}{d:Array Int}(h:dX w db bb fb n m bl d){S:List Nat}(hs:Same S w w')(h1:db∉S)(h2:bb∉S)(h3:fb∉S):dX w' db bb fb n m bl d:=
 ⟨hs.at h.disk h1,hs.at h.data h2,hs.at h.free h3,h.ne1,h.Sm,h.MC,h.len,h.size,h.le,h.small⟩
def bM(xs:List Nat)(bl:List aN):List aN:=xs.foldl (fun l k=>l.set k aN.zero) bl
def fP(m:Nat):List Nat->Array Int->Array Int
 | [],d=>d
 | k::r,d=>fP (m+1) r (BR m k d)
theorem Ht(xs:List Nat):∀(m k:Nat)(d:Array Int),fP m (xs++[k]) d=BR (m+xs.length) k (fP m xs d):=by
 induction xs with
 | nil=>intro m k d;rfl
 | cons x r ih=>intro m k d;simp only[List.cons_append,fP,ih,List.length_cons];rw[show m+1+r.length=m+(r.length+1) by omega]
theorem FW(xs:List Nat)(k:Nat)(bl:List aN):bM (xs++[k]) bl=(bM xs bl).set k aN.zero:=by simp[bM]
theorem BA(db bb fb n m sb so cap:Nat)(bl:List aN)(d:Array Int)(xs:List Nat)(a:Option Addr)(t:TypeId)(cs:List Value)(w:World)(s u:Value)(hs:s=.pointer (some ⟨db,0,none⟩))(hu:u=.slice a xs.length cap)
 (hD:dX w db bb fb n m bl d) (hx:xs≠[]->a=some ⟨sb,so,none⟩/\At w sb t cs/\sb≠bb) (hc:∀j,j<xs.length->cs[so+j]? = some (.int .i64 (xs[j]!:Nat))) (hlt:∀x∈xs,x<n) (hm:xs.length<=1000) :
 Calls prog 125 #[s,u] w fun e w'=>e=.returned (.tuple #[])/\dX w' db bb fb n m (bM xs bl) d/\Same [bb] w w':=by
 subst hs hu;have hn:=hD.small
 go_enter func125,ntmps125
 go_wp2
 go_loopw [8] (fun i wr=>∃k:Nat,k<=xs.length/\i=.int .i64 k/\dX wr db bb fb n m (bM (xs.take k) bl) d/\Same [bb] w wr)
  (fun i _=>xs.length-(intOf i).toNat)
 case atStart=>exact⟨0,Nat.zero_le _,rfl,hD,Same.refl _ _⟩
 case round=>
  obtain⟨k,hk,rfl,hDk,hS⟩:=hrel;by_cases hkl:k<xs.length
  ·obtain⟨rfl,hA,hn1⟩:=hx (fun e=>by rw[e]at hkl;simp at hkl);have hAk:=hS.at hA (by simpa using hn1);obtain⟨y,hy⟩:∃y,xs[k]! = y:=⟨_,rfl⟩
   have cy:wr.cell? ⟨sb,so+k,none⟩=some (.int .i64 (y:Nat)):=by rw[hAk.cell?,hc k hkl,hy]
   have hyn:y<n:=hlt y (by rw[<-hy,getElem!_pos xs k hkl];exact List.getElem_mem hkl);obtain⟨B,hB⟩:∃B,bM (xs.take k) bl=B:=⟨_,rfl⟩
   rw[hB]at hDk;have hBl:B.length=n:=hDk.len;obtain⟨c0,c1,c2,c3,c4,c5,c6,c7⟩:=hDk.data.eight y (by omega);have d0:wr.cell? ⟨db,0,none⟩=some (.slice (some ⟨bb,0,none⟩) n n):=hDk.disk.cell? 0;have fz:=hDk.data.frozen;have HX:Hid (xs[k]! = y/\bM (xs.take k) bl=B):=⟨hy,hB⟩
   have l1:(y:Int)<(n:Int):=by omega
   have l2:(k:Int)<(xs.length:Int):=by omega
   obtain⟨E1,E2⟩:=hDk.data.aa8 y (by omega) 0 0 0 0 0 0 0 0;have G0:=E2.at hDk.disk (by simp[hDk.ne1]);have G2:=E2.at hDk.free (by simp[hDk.MC.symm]);have mk:∀W,At W db 127 [.slice (some ⟨bb,0,none⟩) n n,.slice (some ⟨fb,0,none⟩) m n]->At W bb 91 (flat (B.set y ⟨0,0,0,0,0,0,0,0⟩))->At W fb 3 (d.toList.map (Value.int .i64))->dX W db bb fb n m (bM (xs.take (k+1)) bl) d:=by
    intro W g0 e1 g2;have e1':xs.take (k+1)=xs.take k++[y]:=by rw[List.take_succ_eq_append_getElem hkl,<-HX.out.1,getElem!_pos xs k hkl]
    rw[e1',FW,HX.out.2];exact⟨g0,e1,g2,hDk.ne1,hDk.Sm,hDk.MC,by simp[hDk.len],hDk.size,hDk.le,hDk.small⟩
   have D1:=mk _ G0 E1 G2;clear mk;have S1:=hS.step E2 (by simp);clear hy hB hx hA hAk E1 E2 G0 G2 hDk hS
   go_wp2
   go_roundw
   case rel=>exact⟨k+1,by omega,by go_num,D1,S1⟩
   case measure=>simp[intOf];omega
  ·go_wp2
   refine bodyPost_end (results_none rfl _ _ _) rfl ⟨rfl,?_,hS⟩;have ek:k=xs.length:=by omega
   rw[ek,List.take_length]at hDk;exact hDk
theorem nS(db bb fb n m sb so cap:Nat)(bl:List aN)(d:Array Int)(xs:List Nat)(a:Option Addr)(t:TypeId)(cs:List Value)(w:World)(s u:Value)(hs:s=.pointer (some ⟨db,0,none⟩))(hu:u=.slice a xs.length cap)
 (hD:dX w db bb fb n m bl d) (hx:xs≠[]->a=some ⟨sb,so,none⟩/\At w sb t cs/\sb∉[db,bb,fb]) (hc:∀j,j<xs.length->cs[so+j]? = some (.int .i64 (xs[j]!:Nat))) (hlt:∀x∈xs,x<n) (hm:m+xs.length<=n) :
 Calls prog 95 #[s,u] w fun e w'=>e=.returned (.tuple #[])/\dX w' db bb fb n (m+xs.length) (bM xs bl) (fP m xs d)/\Same [db,bb,fb] w w':=by
 subst hs hu;have hn:=hD.small;have hW:=BA db bb fb n m sb so cap bl d xs a t cs w _ _ rfl rfl hD (fun h=>⟨(hx h).1,(hx h).2.1,fun e=>(hx h).2.2 (by simp[e])⟩) hc hlt (by omega);have hx1:∀w1,Same [bb] w w1->xs≠[]->a=some ⟨sb,so,none⟩/\At w1 sb t cs/\sb∉[db,bb,fb]:=fun w1 h1 h=>⟨(hx h).1,h1.at (hx h).2.1 (fun e=>(hx h).2.2 (by simp at e;simp[e])),(hx h).2.2⟩
 clear hD hx
 go_enter func95,ntmps95
 go_wp2_with (go_at_call 125;refine hW.mono ?_;rintro e w1 ⟨rfl,hD,S0⟩)
 have hx:=hx1 w1 S0;clear hx1 hW
 go_loopw [11] (fun i wr=>∃k:Nat,k<=xs.length/\i=.int .i64 k/\dX wr db bb fb n (m+k) (bM xs bl) (fP m (xs.take k) d)/\Same [db,bb,fb] w1 wr)
  (fun i _=>xs.length-(intOf i).toNat)
 case atStart=>exact⟨0,Nat.zero_le _,rfl,hD,Same.refl _ _⟩
 case round=>
  obtain⟨k,hk,rfl,hDk,hS⟩:=hrel;by_cases hkl:k<xs.length
  ·obtain⟨rfl,hA,hn1⟩:=hx (fun e=>by rw[e]at hkl;simp at hkl);have hAk:=hS.at hA hn1;obtain⟨y,hy⟩:∃y,xs[k]! = y:=⟨_,rfl⟩
   have cy:wr.cell? ⟨sb,so+k,none⟩=some (.int .i64 (y:Nat)):=by rw[hAk.cell?,hc k hkl,hy]
   have hyn:y<n:=hlt y (by rw[<-hy,getElem!_pos xs k hkl];exact List.getElem_mem hkl);obtain⟨D,hD'⟩:∃D,fP m (xs.take k) d=D:=⟨_,rfl⟩
   rw[hD']at hDk;have HX:Hid (xs[k]! = y/\fP m (xs.take k) d=D):=⟨hy,hD'⟩
   have l1:(y:Int)<(n:Int):=by omega
   have l2:(k:Int)<(xs.length:Int):=by omega
   clear hy hD' hx hA hAk
   go_wp2_with fail
   refine(Ns db fb (m+k) n y _ _ _ D wr hDk.disk hDk.Sm hDk.free hDk.size (by omega) (by omega)).mono ?_;rintro e w2 ⟨rfl,P0,P1,P2⟩;have D1:dX w2 db bb fb n (m+(k+1)) (bM xs bl) (fP m (xs.take (k+1)) d):=by
    have e1:xs.take (k+1)=xs.take k++[y]:=by rw[List.take_succ_eq_append_getElem hkl,<-HX.out.1,getElem!_pos xs k hkl]
    rw[e1,Ht,HX.out.2,List.length_take,Nat.min_eq_left (by omega)];exact⟨P0,P2.at hDk.data (by simp[hDk.ne1.symm,hDk.MC]),P1,hDk.ne1,hDk.Sm,hDk.MC,hDk.len,by rw[Bc];exact hDk.size,by omega,hDk.small⟩
   have S1:Same [db,bb,fb] w1 w2:=hS.step P2 (by simp);clear P0 P1 P2 hDk hS cy
   go_wp2
   go_roundw
   case rel=>exact⟨k+1,by omega,by go_num,D1,S1⟩
   case measure=>simp[intOf];omega
  ·go_wp2
   refine bodyPost_end (results_none rfl _ _ _) rfl ⟨rfl,?_,(S0.mono (T:=[db,bb,fb]) (by simp)).step hS (by simp)⟩;have ek:k=xs.length:=by omega
   rw[ek,List.take_length]at hDk;exact hDk
def eY(m:Nat):Nat->Array Int->Array Int
 | 0,d=>d
 | k+1,d=>Oc (m-k-1) (eY m k d)
def qV(m:Nat):Nat->Array Int->List Int
 | 0,_=>[]
 | k+1,d=>qV m k d++[(eY m k d)[0]!]
theorem AV(m k:Nat)(d:Array Int):(eY m k d).size=d.size:=by
 induction k with
 | zero=>rfl
 | succ k ih=>simp[eY,yI,ih]
theorem Ih(m k:Nat)(d:Array Int):(qV m k d).length=k:=by
 induction k with
 | zero=>rfl
 | succ k ih=>simp[qV,ih]
theorem MJ(wb xb tb:Nat)(t:TypeId)(u:FrameMode)(w:World)(h:At w wb t [.bool true]) :
 CallsD prog 127 #[.pointer (some ⟨wb,0,none⟩),.pointer (some ⟨xb,0,none⟩),.pointer (some ⟨tb,0,none⟩)] u w fun e u' w'=>u'=u/\(e=.returned (.tuple #[])/\w'=w):=by
 have c:w.cell? ⟨wb,0,none⟩=some (.bool true):=h.cell? 0;clear h
 go_enter_d func127,ntmps127
 go_wp2
 go_end0
 exact⟨rfl,rfl⟩
theorem NP(wb xb tb db bb fb n m sb so cap:Nat)(t1 t2 t3 t4:TypeId)(bl:List aN)(d:Array Int)(xs:List Nat)(a:Option Addr)(cs:List Value)(u:FrameMode)(w:World)
 (h1:At w wb t1 [.bool false]) (h2:At w xb t2 [.pointer (some ⟨db,0,none⟩)]) (h3:At w tb t3 [.slice a xs.length cap]) (hn:tb∉[db,bb,fb])
 (hD:dX w db bb fb n m bl d) (hx:xs≠[]->a=some ⟨sb,so,none⟩/\At w sb t4 cs/\sb∉[db,bb,fb]) (hc:∀j,j<xs.length->cs[so+j]? = some (.int .i64 (xs[j]!:Nat))) (hlt:∀x∈xs,x<n) (hm:m+xs.length<=n) :
 CallsD prog 127 #[.pointer (some ⟨wb,0,none⟩),.pointer (some ⟨xb,0,none⟩),.pointer (some ⟨tb,0,none⟩)] u w fun e u' w'=>u'=u/\(e=.returned (.tuple #[]) /\
  dX w' db bb fb n (m+xs.length) (bM xs bl) (fP m xs d)/\At w' tb t3 [.slice none 0 0]/\Same [db,bb,fb,tb] w w'):=by
 have c1:w.cell? ⟨wb,0,none⟩=some (.bool false):=h1.cell? 0;have c2:w.cell? ⟨xb,0,none⟩=some (.pointer (some ⟨db,0,none⟩)):=h2.cell? 0;have c3:w.cell? ⟨tb,0,none⟩=some (.slice a xs.length cap):=h3.cell? 0
 go_enter_d func127,ntmps127
 go_wp2_with fail
 refine(nS db bb fb n m sb so cap bl d xs a t4 cs w _ _ rfl rfl hD hx hc hlt hm).mono ?_;rintro e w1 ⟨rfl,D1,S1⟩;have A1:=S1.at h3 hn;have d1:w1.cell? ⟨tb,0,none⟩=some (.slice a xs.length cap):=A1.cell? 0;have f1:w1.frozen? ⟨tb,0,none⟩=false:=A1.frozen 0;have hn':=hn;simp only[List.mem_cons,List.not_mem_nil,or_false,not_or]at hn';obtain⟨n1,n2,n3⟩:=hn';have D2:dX (w1.setCell ⟨tb,0,none⟩ (.slice none 0 0)) db bb fb n (m+xs.length) (bM xs bl) (fP m xs d):=
  D1.same ((Same.refl [tb] _).set tb 0 _ (by simp)) (by simp;omega) (by simp;omega) (by simp;omega)
 have A2:At _ _ _ [.slice none 0 0]:=A1.ax 0 (.slice none 0 0);have S2:Same [db,bb,fb,tb] w _:=(S1.mono (T:=[db,bb,fb,tb]) (by simp)).set tb 0 (.slice none 0 0) (by simp);clear c1 c2 c3 h1 h2 h3 hD hx hc hlt D1 S1 A1
 go_wp2
 go_end0
 exact⟨rfl,D2,A2,S2⟩
theorem ak{w:World}{base:Nat}{e:TypeId}{size:Nat}{v:Value}{n:Nat}{xs:List Value}(h:w.ownsRow base e size v n xs):∃a cap,v=.slice a n cap:=by
 rcases h.2 with⟨rfl,rfl⟩|⟨g,cap,cur,rfl,_⟩
 ·exact⟨_,_,rfl⟩
 ·exact⟨_,_,rfl⟩
theorem EG{w:World}{base base':Nat}{e:TypeId}{size:Nat}{v:Value}{n:Nat}{xs:List Value}(h:w.ownsRow base e size v n xs)(hb:base'<=base):w.ownsRow base' e size v n xs:=by
 refine⟨h.1,?_⟩;rcases h.2 with h|⟨g,cap,cur,h1,h2,h3⟩
 ·exact Or.inl h
 ·exact Or.inr ⟨g,cap,cur,h1,by omega,h3⟩
theorem dZ{w w':World}{base:Nat}{e:TypeId}{size:Nat}{v:Value}{n:Nat}{xs:List Value}(h:w.ownsRow base e size v n xs){S:List Nat}(hs:Same S w w')(hS:∀k∈S,k<base):w'.ownsRow base e size v n xs:=by
 refine⟨h.1,?_⟩;rcases h.2 with h|⟨g,cap,cur,h1,h2,h3,h4⟩
 ·exact Or.inl h
 ·refine Or.inr ⟨g,cap,cur,h1,h2,?_,h4⟩;have hl:g<w.heap.size:=by
   rcases Nat.lt_or_ge g w.heap.size with h'|h'
   ·exact h'
   ·rw[Array.getElem?_eq_none h']at h3;cases h3
  rw[hs.block g hl (fun hm=>by have:=hS g hm;omega)];exact h3
theorem ql{w1 w2:World}{o:Obj}{row:Option Nat}{base b:Nat}{t:TypeId}{cs:List Value}(hg:(w1.alloc o).grownBy w2 row)(hr:∀k,row=some k->base<=k)(h:At w1 b t cs)(hb:b<base):At w2 b t cs:=
 (h.alloc o).of_heap (hg.block b (h.alloc o).lt (fun e=>by have:=hr b e.symm;omega))
theorem aI{w:World}{base:Nat}{e:TypeId}{size:Nat}{v:Value}{n:Nat}{xs:List Value}(h:w.ownsRow base e size v n xs):∀k,v.ownBlock=some k->base<=k:=fun k hk=>(h.lt k hk).1
theorem jk{w:World}{base:Nat}{e:TypeId}{a:Option Addr}{cap n:Nat}{xs:List Value}(h:w.ownsRow base e 1 (.slice a n cap) n xs)(hn:n≠0) :
 ∃g cs,a=some ⟨g,0,none⟩/\base<=g/\At w g e cs/\n<=cap/\cs.length=cap/\cs.take n=xs:=by
 rcases h.2 with⟨h1,rfl⟩|⟨g,cap',cur,h1,h2,h3,h4,h5,h6,h7⟩
 ·exact absurd rfl hn
 ·simp only[Value.slice.injEq]at h1;obtain⟨rfl,_,rfl⟩:=h1;refine⟨g,cur.toList,rfl,h2,?_,h4,by simpa using h6,by simpa using h7⟩;unfold At;simpa using h3
structure VJ(w:World)(db bb fb n m:Nat)(bl:List aN)(d:Array Int)(k:Nat)(wr:World):Prop where
 disk:dX wr db bb fb n (m-k) bl (eY m k d)
 box:At wr w.heap.size 80 [.pointer (some ⟨db,0,none⟩)]
 whole:At wr (w.heap.size+1+1) 4 [.bool false]
 same:Same [db,fb] w wr
 taken:∃a cap,At wr (w.heap.size+1) 51 [.slice a k cap]/\wr.ownsRow (w.heap.size+1+1+1) 3 1 (.slice a k cap) k ((qV m k d).map (Value.int .i64))
theorem nU(db bb fb n m c:Nat)(bl:List aN)(d:Array Int)(xs:List Nat)(w:World)(s:Value)(v:Int)(hs:s=.pointer (some ⟨db,0,none⟩))(hv:v=(c:Int))(hc:c<=1000)
 (hD:dX w db bb fb n m bl d) (hxs:qV m m d=xs.map (fun x:Nat=>(x:Int))) (hlt:∀x∈xs,x<n) :
 Calls prog 97 #[s,.int .i64 v] w fun e w'=>
  (c<=m/\∃v',e=.returned (.tuple #[v',.int .i64 0])/\dX w' db bb fb n (m-c) bl (eY m c d)/\w'.ownsRow w.heap.size 3 1 v' c ((qV m c d).map (Value.int .i64))/\Same [db,fb] w w') \/
  (m<c/\e=.returned (.tuple #[.slice none 0 0,.int .i64 6])/\dX w' db bb fb n m (bM xs bl) (fP 0 xs (eY m m d))/\Same [db,bb,fb] w w'):=by
 subst hs hv;have hn:=hD.small;have hle:=hD.le;have lb:=hD.disk.lt;have lbb:=hD.data.lt;have lf:=hD.free.lt;have hmf:∀(fn:Fn)(first cap:Array Value)(w:World),(Instr.makeFunc fn first cap).run prog w=.ok (.func fn first cap) w:=fun _ _ _ _=>rfl
 have hnot:∀(x:Bool)(w:World),(Op.unary .not (.bool x)).run prog w=.ok (.bool (!x)) w:=fun _ _=>rfl
 go_enter_defers func97,ntmps97
 go_wp2
 go_loopw [11] (fun i wr=>∃k:Nat,k<=c/\k<=m/\i=.int .i64 k/\VJ w db bb fb n m bl d k wr)
  (fun i _=>c-(intOf i).toNat)
 case atStart=>
  refine⟨0,Nat.zero_le _,Nat.zero_le _,rfl,?_⟩;have hb:∀{b:Nat} {t:TypeId} {cs:List Value},At w b t cs->At (((w.alloc (Obj.cells #[.pointer (some ⟨db,0,none⟩)] 80)).alloc (Obj.cells #[.slice none 0 0] 51)).alloc (Obj.cells #[.bool false] 4)) b t cs:=fun h=>((h.alloc _).alloc _).alloc _
  exact⟨⟨hb hD.disk,hb hD.data,hb hD.free,hD.ne1,hD.Sm,hD.MC,hD.len,hD.size,hD.le,hD.small⟩,((At.new w _ _).alloc _).alloc _,by have:=At.new ((w.alloc (Obj.cells #[.pointer (some ⟨db,0,none⟩)] 80)).alloc (Obj.cells #[.slice none 0 0] 51)) #[.bool false] 4;simpa using this,
   (((Same.refl _ _).alloc _).alloc _).alloc _,none,0,by have:=(At.new (w.alloc (Obj.cells #[.pointer (some ⟨db,0,none⟩)] 80)) #[.slice none 0 0] 51).alloc (Obj.cells #[.bool false] 4);simpa using this,World.ownsRow_nil _ _ _ _⟩
 case round=>
  obtain⟨k,hkc,hkm,rfl,hT⟩:=hrel;obtain⟨a,cap,hv1,hv2⟩:=hT.taken;have hsz:=hT.whole.lt;have b0:wr.cell? ⟨w.heap.size,0,none⟩=some (.pointer (some ⟨db,0,none⟩)):=hT.box.cell? 0;have b1:wr.cell? ⟨w.heap.size+1,0,none⟩=some (.slice a k cap):=hv1.cell? 0;have g1:wr.frozen? ⟨w.heap.size+1,0,none⟩=false:=hv1.frozen 0;have b2:wr.cell? ⟨w.heap.size+1+1,0,none⟩=some (.bool false):=hT.whole.cell? 0;have g2:wr.frozen? ⟨w.heap.size+1+1,0,none⟩=false:=hT.whole.frozen 0;by_cases h1:k<c
  ·by_cases h2:k<m
   ·have hP:dX wr db bb fb n ((m-k-1)+1) bl (eY m k d):=by rw[show m-k-1+1=m-k by omega];exact hT.disk
    go_wp2_with fail
    refine(pop_some db fb (m-k-1) n _ _ _ (eY m k d) wr hP.disk hP.Sm hP.free hP.size (by omega) (by omega)).mono ?_;rintro e w1 ⟨rfl,P0,P1,P2⟩;have hN:∀j,w.heap.size<=j->j∉[db,fb]:=by intro j hj;simp;omega
    have Q0:=P2.at hT.box (hN _ (Nat.le_refl _));have Q1:=P2.at hv1 (hN _ (by omega));have Q2:=P2.at hT.whole (hN _ (by omega));have Q3:=P2.at hT.disk.data (by simp;exact⟨hP.ne1.symm,hP.MC⟩);have hown:=dZ hv2 P2 (by simp;omega);have S1:=hT.same.step P2 (by simp);obtain⟨x,hx⟩:∃x,(eY m k d)[0]! = x:=⟨_,rfl⟩
    rw[hx];have c1:w1.cell? ⟨w.heap.size+1,0,none⟩=some (.slice a k cap):=Q1.cell? 0;have l1:=Q1.lt;have l2:=Q2.lt;have HX:Hid ((eY m k d)[0]! = x):=hx;clear hx b0 b1 b2 g1 g2 hT hv1 hv2 hD;obtain⟨i0,hi,hz0,hz1,hz2⟩:=info_parts Tryz.info3
    go_wp2_with (at_builtin;refine wpList_append_own _ rfl _ _ 51 rfl (w.heap.size+1+1+1) 3 i0 (.int .i64 0) 1 8 underlying51 hi hz0 hz1 hz2 rfl (by decide) _ _ _ rfl (hown.alloc _) ⟨w1.heap.size,0,none⟩ 1 1 [.int .i64 x] rfl rfl ?c1 ?c2 ?c3 ?c4 ?c5 ?_)
    case c1=>
     intro j u hj
     match j,hj with
     | 0,hj=>simp at hj;subst hj;simp[Addr.add]
    case c2=>intro u hu;simp at hu;subst hu;rfl
    case c3=>unfold maxLen;omega
    case c4=>omega
    case c5=>simp;omega
    intro v' w2 hown' hgrow _;have hr:=aI hown;have R0:=ql hgrow hr Q0 (by omega);have R1:=ql hgrow hr Q1 (by omega);have R2:=ql hgrow hr Q2 (by omega);have R3:=ql hgrow hr Q3 (by omega);have R4:=ql hgrow hr P0 (by omega);have R5:=ql hgrow hr P1 (by omega);have S2:Same [db,fb] w w2:=(S1.alloc _).grown hgrow (fun j hj hl=>by have:=hr j hj;omega);obtain⟨a',cap',rfl⟩:=ak hown';have b1:w2.cell? ⟨w.heap.size+1,0,none⟩=some (.slice a k cap):=R1.cell? 0;have g1:w2.frozen? ⟨w.heap.size+1,0,none⟩=false:=R1.frozen 0;have E:Same [w.heap.size+1] w2 (w2.setCell ⟨w.heap.size+1,0,none⟩ (.slice a' (k+1) cap')):=(Same.refl _ _).set _ 0 _ (by simp);have T1:VJ w db bb fb n m bl d (k+1) (w2.setCell ⟨w.heap.size+1,0,none⟩ (.slice a' (k+1) cap')):=by
     refine⟨⟨E.at R4 (by simp;omega),E.at R3 (by simp;omega),E.at R5 (by simp;omega),hP.ne1,hP.Sm,hP.MC,hP.len,?_,by omega,hn⟩,E.at R0 (by simp),E.at R2 (by simp),S2.step E (by simp;omega),a',cap',R1.ax 0 _,?_⟩
     ·rw[eY,yI];exact hP.size
     ·have e1:qV m (k+1) d=qV m k d++[x]:=by rw[qV,HX.out]
      rw[e1,List.map_append];exact dZ hown' E (by simp)
    clear R0 R1 R2 R3 R4 R5 S2 E hown' hgrow hown Q0 Q1 Q2 Q3 S1 P0 P1 P2 hP c1 hr
    go_wp2
    go_roundw
    case rel=>exact⟨k+1,by omega,by omega,by go_num,T1⟩
    case measure=>simp[intOf];omega
   ·have ek:m-k=0:=by omega
    have hP:=hT.disk.disk;rw[ek]at hP
    go_wp2_with fail
    refine(pop_none db fb n _ _ _ wr hP).mono ?_;rintro e w1 ⟨rfl,rfl⟩
    go_wp2
    have ekm:k=m:=by omega
    have hxl:xs.length=k:=by have:=congrArg List.length hxs;rw[Ih,List.length_map]at this;omega
    have A1:At (w1.setCell ⟨w.heap.size+1,0,none⟩ (.slice a k cap)) _ _ [.slice a k cap]:=hv1.ax 0 (.slice a k cap);have E:Same [w.heap.size+1] w1 (w1.setCell ⟨w.heap.size+1,0,none⟩ (.slice a k cap)):=(Same.refl _ _).set _ 0 _ (by simp);have D1:=hT.disk.same E (by simp;omega) (by simp;omega) (by simp;omega);have S0:=hT.same;have W1:=E.at hT.whole (by simp);have B1:=E.at hT.box (by simp);have O1:=dZ hv2 E (by simp);generalize w1.setCell ⟨w.heap.size+1,0,none⟩ (.slice a k cap)=W2 at *;rw[<-hxl]at A1 O1;refine leaves_cons (f:=127) (args:=#[.pointer (some ⟨w.heap.size+1+1,0,none⟩),.pointer (some ⟨w.heap.size,0,none⟩),.pointer (some ⟨w.heap.size+1,0,none⟩)]) (by simp) (by simp[go_sem]) ?_;have YW:∃g cs,(xs≠[]->a=some ⟨g,0,none⟩/\At W2 g 3 cs/\g∉[db,bb,fb])/\(∀j,j<xs.length->cs[0+j]? = some (.int .i64 (xs[j]!:Nat))):=by
     by_cases hne:xs.length=0
     ·exact⟨0,[],fun h=>absurd (List.eq_nil_of_length_eq_zero hne) h,fun j hj=>by omega⟩
     ·obtain⟨g,cs,rfl,hg,hA,_,_,ht⟩:=jk O1 hne;refine⟨g,cs,fun _=>⟨rfl,hA,by simp;omega⟩,fun j hj=>?_⟩;have:(cs.take xs.length)[j]? = cs[j]?:=by rw[List.getElem?_take,if_pos hj]
      rw[Nat.zero_add,<-this,ht,hxl,ekm,hxs];simp[List.getElem?_map,List.getElem?_eq_getElem hj,getElem!_pos xs j hj]
    obtain⟨g,cs,hg1,hg2⟩:=YW;refine(NP (w.heap.size+1+1) w.heap.size (w.heap.size+1) db bb fb n (m-k) g 0 cap _ _ _ 3 bl (eY m k d) xs a cs .returning W2 W1 B1 A1 (by simp;omega) D1 hg1 hg2 hlt (by omega)).mono ?_;rintro e u' w3 ⟨rfl,rfl,F1,F2,F3⟩;have d2:w3.cell? ⟨w.heap.size+1,0,none⟩=some (.slice none 0 0):=F2.cell? 0;rw[ek,hxl,Nat.zero_add,ekm]at F1;refine⟨.tuple #[.slice none 0 0,.int .i64 6],by simp[results,results97,go_sem,d2],Or.inr ⟨by omega,rfl,F1,?_⟩⟩;refine((S0.step E (by simp;omega)).mono (T:=[db,bb,fb]) ?_).step F3 ?_
    ·intro j hj _;simp at hj ⊢;omega
    ·intro j hj hl;simp at hj ⊢;omega
  ·have ekc:k=c:=by omega
   subst ekc
   go_wp2_with fail
   have A1:At ((wr.setCell ⟨w.heap.size+1+1,0,none⟩ (.bool true)).setCell ⟨w.heap.size+1,0,none⟩ (.slice a k cap)) _ _ [.slice a k cap]:=(hv1.aP (w.heap.size+1+1) 0 (.bool true) (by omega)).ax 0 (.slice a k cap);have W1:At ((wr.setCell ⟨w.heap.size+1+1,0,none⟩ (.bool true)).setCell ⟨w.heap.size+1,0,none⟩ (.slice a k cap)) _ _ [.bool true]:=(hT.whole.ax 0 (.bool true)).aP (w.heap.size+1) 0 (.slice a k cap) (by omega);have E:Same [w.heap.size+1,w.heap.size+1+1] wr ((wr.setCell ⟨w.heap.size+1+1,0,none⟩ (.bool true)).setCell ⟨w.heap.size+1,0,none⟩ (.slice a k cap)):=((Same.refl _ _).set _ 0 _ (by simp)).set _ 0 _ (by simp);have D1:=hT.disk.same E (by simp;omega) (by simp;omega) (by simp;omega);have S1:=hT.same.step E (by simp;omega);have O1:=dZ hv2 E (by simp);generalize (wr.setCell ⟨w.heap.size+1+1,0,none⟩ (.bool true)).setCell ⟨w.heap.size+1,0,none⟩ (.slice a k cap)=W2 at *;refine leaves_cons (f:=127) (args:=#[.pointer (some ⟨w.heap.size+1+1,0,none⟩),.pointer (some ⟨w.heap.size,0,none⟩),.pointer (some ⟨w.heap.size+1,0,none⟩)]) (by simp) (by simp[go_sem]) ?_;refine(MJ (w.heap.size+1+1) w.heap.size (w.heap.size+1) _ .returning W2 W1).mono ?_;rintro e u' w3 ⟨rfl,rfl,rfl⟩;have d2:w3.cell? ⟨w.heap.size+1,0,none⟩=some (.slice a k cap):=A1.cell? 0;exact⟨.tuple #[.slice a k cap,.int .i64 0],by simp[results,results97,go_sem,d2],Or.inl ⟨by omega,_,rfl,D1,EG O1 (by omega),S1⟩⟩
def bW(a b:ByteArray):Int:=Lib.compareBytes a.data.toList b.data.toList
theorem Dz(a b:ByteArray)(w:World):(callFunc 151 #[.string a,.string b]).run prog w=.ok (.value (.int .i64 (bW a b))) w:=by
 rw[run_callFunc_extern func151 (by kernel_rfl) (by kernel_rfl) (by kernel_rfl) (e:=Extern.BytealgCompare.compare) (by kernel_rfl),Lib.run_compareString];rfl
theorem oZ(vb:Nat)(n t:ByteArray)(w:World)(h:w.cell? ⟨vb,0,none⟩=some (.string n)) :
 Calls prog 137 #[.pointer (some ⟨vb,0,none⟩),.string t] w fun e w'=>e=.returned (.int .i64 (bW n t))/\w'=w:=by
 have hr:=Dz
 go_enter func137,ntmps137
 go_wp2
 go_ret
 exact⟨rfl,rfl⟩
def posOf(ns:List ByteArray)(t:ByteArray):Nat:=ns.countP fun n=>decide (bW n t<0)
def isIn(ns:List ByteArray)(t:ByteArray):Bool:=decide (posOf ns t<ns.length) && decide (bW ns[posOf ns t]! t=0)
theorem qI{α:Type}[Inhabited α](p:α->Bool):∀(l:List α)(i:Nat),i<=l.length->(∀t,t<i->p l[t]! = true)->(∀t,i<=t->t<l.length->p l[t]! = false)->l.countP p=i
 | [],i,hi,_,_=>by simp at hi;simp[hi]
 | a::r,0,_,_,h2=>by
  rw[List.countP_eq_zero];intro x hx;obtain⟨t,ht,rfl⟩:=List.getElem_of_mem hx;have:=h2 t (Nat.zero_le _) ht;rw[getElem!_pos (a::r) t ht]at this;simp[this]
 | a::r,i+1,hi,h1,h2=>by
  have ha:p a=true:=by simpa using h1 0 (Nat.succ_pos _)
  rw[List.countP_cons_of_pos ha,qI p r i (by simpa using hi) (fun t ht=>by simpa using h1 (t+1) (by omega)) (fun t h3 h4=>by simpa using h2 (t+1) (by omega) (by simpa using h4))]
theorem Iy(ab cap:Nat)(a:Option Addr)(vs:List Nat)(ns:List ByteArray)(t:ByteArray)(w:World)(s:Value)(hs:s=.slice a ns.length cap)(hsmall:ns.length<=1000)
 (hc:∀i,i<ns.length->a=some ⟨ab,0,none⟩/\w.cell? ⟨ab,i,none⟩=some (.pointer (some ⟨vs[i]!,0,none⟩))/\w.cell? ⟨vs[i]!,0,none⟩=some (.string ns[i]!))
 (hmono:∀i j,i<=j->j<ns.length->bW ns[j]! t<0->bW ns[i]! t<0) :
 Calls prog 136 #[s,.string t,.func (.func 137) #[] #[]] w fun e w'=>e=.returned (.tuple #[.int .i64 (posOf ns t:Nat),.bool (isIn ns t)])/\w'=w:=by
 subst hs;generalize hcnt:posOf ns t=cnt;have CN:Hid (posOf ns t=cnt):=hcnt;generalize hfin:isIn ns t=fin;have FIN:Hid ((decide (cnt<ns.length) && decide (bW ns[cnt]! t=0))=fin):=by rw[<-hcnt];exact hfin
 have M:Hid _:=hmono;have HC:Hid _:=hc;clear hcnt hfin hmono hc
 go_enter func136,ntmps136
 go_wp2
 go_loopg [9,10] ns.length (fun kx s9 s10 wr=>∃lo hi:Nat,s9=.int .i64 lo/\s10=.int .i64 hi/\lo<=hi/\hi<=ns.length/\hi-lo<=kx/\wr=w /\
  Hid ((∀t',t'<lo->bW ns[t']! t<0)/\(∀t',hi<=t'->t'<ns.length->0<=bW ns[t']! t)))
 case atStart=>exact⟨0,ns.length,rfl,rfl,Nat.zero_le _,Nat.le_refl _,by omega,rfl,(⟨fun t ht=>absurd ht (Nat.not_lt_zero _),fun t h1 h2=>by omega⟩:(∀t',t'<0->bW ns[t']! t<0)/\(∀t',ns.length<=t'->t'<ns.length->0<=bW ns[t']! t))⟩
 case round=>
  obtain⟨lo,hi,rfl,rfl,hlh,hin,hg,rfl,I⟩:=hrel;by_cases hlt:lo<hi
  ·obtain⟨rfl,c1,c2⟩:=HC.out ((lo+hi) / 2) (by omega);generalize hy:ns[(lo+hi) / 2]! = y at c2;generalize vs[(lo+hi) / 2]! = vb at c1 c2;have Y:Hid (ns[(lo+hi) / 2]! = y):=hy;clear hy;have hcn:=oZ vb y t wr c2;have l1:((lo:Int)+(hi:Int)) / 2<(ns.length:Int):=by omega
   by_cases hyx:bW y t<0
   ·go_wp2_with (go_at_call 137;refine hcn.mono ?_;rintro e w' ⟨rfl,rfl⟩)
    go_roundg (hi-((lo+hi) / 2+1))
    case measure=>omega
    case rel=>
     have I2:Hid ((∀t',t'<(lo+hi) / 2+1->bW ns[t']! t<0)/\(∀t',hi<=t'->t'<ns.length->0<=bW ns[t']! t)):=⟨fun t' ht=>M.out t' ((lo+hi) / 2) (by omega) (by omega) (by rw[Y.out];exact hyx),I.out.2⟩
     exact⟨(lo+hi) / 2+1,hi,by rw[show((lo:Int)+(hi:Int)) / 2+1=(((lo+hi) / 2+1:Nat):Int) by omega],rfl,by omega,hin,Nat.le_refl _,rfl,I2⟩
   ·go_wp2_with (go_at_call 137;refine hcn.mono ?_;rintro e w' ⟨rfl,rfl⟩)
    go_roundg ((lo+hi) / 2-lo)
    case measure=>omega
    case rel=>
     have I2:Hid ((∀t',t'<lo->bW ns[t']! t<0)/\(∀t',(lo+hi) / 2<=t'->t'<ns.length->0<=bW ns[t']! t)):=⟨I.out.1,fun t' ht htn=>Int.not_lt.1 fun h=>by have:=M.out ((lo+hi) / 2) t' ht htn h;rw[Y.out]at this;omega⟩
     exact⟨lo,(lo+hi) / 2,rfl,by rw[show((lo:Int)+(hi:Int)) / 2=(((lo+hi) / 2:Nat):Int) by omega],by omega,by omega,Nat.le_refl _,rfl,I2⟩
  ·obtain rfl:hi=lo:=by omega
   have ecnt:cnt=hi:=by
    rw[<-CN.out];refine qI _ ns hi hin (fun t' ht=>?_) (fun t' h3 h4=>?_)
    ·exact decide_eq_true (I.out.1 t' ht)
    ·exact decide_eq_false (by have:=I.out.2 t' h3 h4;omega)
   subst ecnt;by_cases hn:cnt<ns.length
   ·obtain⟨rfl,c1,c2⟩:=HC.out cnt hn;generalize hy:ns[cnt]! = y at c2;generalize vs[cnt]! = vb at c1 c2;have Y:Hid (ns[cnt]! = y):=hy;clear hy;have hcn:=oZ vb y t wr c2;by_cases hyx:bW y t=0
    ·go_wp2_with (go_at_call 137;refine hcn.mono ?_;rintro e w' ⟨rfl,rfl⟩)
     go_ret2
     exact⟨by rw[<-FIN.out,Y.out];simp[hn,hyx],rfl⟩
    ·go_wp2_with (go_at_call 137;refine hcn.mono ?_;rintro e w' ⟨rfl,rfl⟩)
     go_ret2
     exact⟨by rw[<-FIN.out,Y.out];simp[hn,hyx],rfl⟩
   ·go_wp2
    go_ret2
    exact⟨by rw[<-FIN.out];simp[hn],rfl⟩
def lowerB(c:UInt8):Bool:=decide (97<=c.toNat) && decide (c.toNat<=122)
def nameB(s:ByteArray):Bool:=decide (1<=s.size) && decide (s.size<=10) && s.data.toList.all lowerB
theorem eH(n:Int)(w:World) :
 Calls prog 42 #[.int .i64 n] w fun e w'=>e=.returned (.bool (decide (1<=n/\n<=200)))/\w'=w:=by
 by_cases h1:1<=n
 ·by_cases h2:n<=200
  ·have e:decide (1<=n/\n<=200)=true:=decide_eq_true ⟨h1,h2⟩;rw[e]
   go_enter func42,ntmps42
   go_wp2
   go_ret
   simp[h1,h2]
  ·have e:decide (1<=n/\n<=200)=false:=decide_eq_false (by omega);rw[e]
   go_enter func42,ntmps42
   go_wp2
   go_ret
   simp[h2]
 ·have e:decide (1<=n/\n<=200)=false:=decide_eq_false (by omega);rw[e];have h1':decide (1<=n)=false:=decide_eq_false h1
  go_enter func42,ntmps42
  go_wp2
  go_ret
  simp[h1]
theorem take_snoc(s:ByteArray)(k:Nat)(h:k<s.size):s.data.toList.take (k+1)=s.data.toList.take k++[s[k]]:=by
 rw[List.take_succ_eq_append_getElem (by simpa using h)];rfl
theorem KT(s:ByteArray)(k:Nat)(h:k<s.size)(hl:lowerB s[k]=false):nameB s=false:=by
 have hm:s[k]∈s.data.toList:=by
  have:s[k]=s.data.toList[k]'(by simpa using h):=rfl;rw[this];exact List.getElem_mem _
 have:s.data.toList.all lowerB=false:=by
  rw[List.all_eq_false];exact⟨s[k],hm,by simp[hl]⟩
 simp[nameB,this]
theorem Ey(s:ByteArray)(h1:1<=s.size)(h2:s.size<=10)(h:(s.data.toList.take s.size).all lowerB=true):nameB s=true:=by
 rw[List.take_of_length_le (by simp)]at h;simp only[nameB,h,h1,h2,decide_true,Bool.and_self]
theorem ni(s:ByteArray)(w:World)(hs:s.size<=maxLen) :
 Calls prog 117 #[.string s] w fun e w'=>e=.returned (.bool (nameB s))/\w'=w:=by
 unfold maxLen at hs;by_cases h1:1<=s.size
 ·by_cases h2:s.size<=10
  ·go_enter func117,ntmps117
   go_wp2
   go_loop [14] (fun i=>∃k:Nat,k<=s.size/\i=.int .i64 k/\Hid ((s.data.toList.take k).all lowerB=true)) (fun i=>s.size-(intOf i).toNat)
   case atStart=>exact⟨0,Nat.zero_le _,rfl,rfl⟩
   case round=>
    obtain⟨k,hk,rfl,HA⟩:=hrel;by_cases hlt:k<s.size
    ·have hlt':(k:Int)<(s.size:Int):=by omega
     have HT:=take_snoc s k hlt;have HT':Hid (s.data.toList.take (k+1)=s.data.toList.take k++[s[k]]):=HT;clear HT;have HN:Hid (lowerB s[k]=false->nameB s=false):=KT s k hlt
     go_wp2
     ·have hb:(s[k].toNat:Int)<97\/122<(s[k].toNat:Int):=by assumption
      have hl:lowerB s[k]=false:=by simp[lowerB];omega
      go_ret
      rw[HN.out hl];simp
     ·have hb:97<=(s[k].toNat:Int)/\(s[k].toNat:Int)<=122:=by assumption
      have hl:lowerB s[k]=true:=by simp[lowerB];omega
      go_round
      case rel=>exact⟨k+1,by omega,by go_num,by show _=true;rw[HT'.out,List.all_append,HA.out];simp[hl]⟩
      case measure=>simp[intOf];omega
     ·have hb:(s[k].toNat:Int)<97:=by assumption
      have hl:lowerB s[k]=false:=by simp[lowerB];omega
      go_ret
      rw[HN.out hl];simp
    ·have ek:k=s.size:=by omega
     subst ek;have HY:Hid (nameB s=true):=Ey s h1 h2 HA.out
     go_wp2
     go_ret
     rw[HY.out];exact⟨rfl,rfl⟩
  ·have e:nameB s=false:=by simp[nameB,h2]
   rw[e]
   go_enter func117,ntmps117
   go_wp2
   go_ret
   simp
 ·have e:nameB s=false:=by simp[nameB,h1]
  rw[e];have h1':(s.size:Int)<1:=by omega
  go_enter func117,ntmps117
  go_wp2
  go_ret
  simp
theorem Tryz.info5:(prog.info? 5).map (fun i=>(i.zero,i.size,i.bytes))=some (some (.int .u8 0),1,1):=by kernel_rfl
theorem uD:∀(xs ys:List Int),xs.length=ys.length->((List.range xs.length).all fun i=>xs.getD i 0 == ys.getD i 0)=(xs == ys)
 | [],[],_=>rfl
 | x::xs,y::ys,h=>by
  have ih:=uD xs ys (by simpa using h);rw[List.length_cons,List.range_succ_eq_map,List.all_cons,List.all_map];simp only[List.getD_cons_zero,Function.comp_def,List.getD_cons_succ,ih];simp[List.cons_beq_cons]
 | [],_::_,h=>by simp at h
 | _::_,[],h=>by simp at h
theorem yh{P:Program}(w:World)(d:Nat)(t e:TypeId)(n:Nat)(ht:P.underlying t=some (.array n e))(he:P.underlying e=some (.int .u8))(hsz:∀w,(sizeOf e).run P w=.ok 1 w)
 (xs ys:List Int) (hx:xs.length=n) (hy:ys.length=n) :
 (Op.equalIn (d+2) t (.agg (xs.map (Value.int .u8)).toArray) (.agg (ys.map (Value.int .u8)).toArray)).run P w=.ok (xs == ys) w:=by
 rw[<-uD xs ys (hx.trans hy.symm),hx,List.range_eq_range',Op.equalIn];simp only[Sem.run_bind,run_underlying ht,Result.andThen_ok,hsz,Std.Legacy.Range.forIn_eq_forIn_range',Std.Legacy.Range.size,Nat.sub_zero,Nat.add_sub_cancel,Nat.div_one];have hl:∀i∈List.range' 0 n 1,i<n:=fun i hi=>by simpa using (List.mem_range'_1.1 hi).2
 generalize List.range' 0 n 1=l at hl ⊢
 induction l with
 | nil=>simp
 | cons i l ih=>
  have hi:i<n:=hl i (by simp);have px:(part e (xs.map (Value.int .u8)).toArray (i*1)).run P w=.ok (.int .u8 (xs.getD i 0)) w:=by
   simp[part,isAgg,run_underlying he,List.getD,List.getElem?_eq_getElem (show i<xs.length by omega)]
  have py:(part e (ys.map (Value.int .u8)).toArray (i*1)).run P w=.ok (.int .u8 (ys.getD i 0)) w:=by
   simp[part,isAgg,run_underlying he,List.getD,List.getElem?_eq_getElem (show i<ys.length by omega)]
  have pe:(Op.equalIn (d+1) e (.int .u8 (xs.getD i 0)) (.int .u8 (ys.getD i 0))).run P w=.ok (xs.getD i 0 == ys.getD i 0) w:=by
   rw[run_equalIn_int w d e .u8 .u8 _ _ he]
  simp only[List.forIn_cons,Sem.run_bind,px,py,pe,Result.andThen_ok,List.all_cons];cases hb:(xs.getD i 0 == ys.getD i 0)
  ·simp
  ·simp only[Bool.not_true,Bool.false_eq_true,if_false,Sem.run_pure,Result.andThen_ok,Bool.true_and];exact ih fun j hj=>hl j (by simp[hj])
def aN.list(b:aN):List Int:=[b.b0,b.b1,b.b2,b.b3,b.b4,b.b5,b.b6,b.b7]
theorem aN.Wy(a b:aN):(a.list == b.list)=decide (a=b):=by
 obtain⟨a0,a1,a2,a3,a4,a5,a6,a7⟩:=a;obtain⟨c0,c1,c2,c3,c4,c5,c6,c7⟩:=b;rw[Bool.eq_iff_iff];simp[aN.list]
theorem mX(a b:aN)(w:World):(Op.equalIn 10000 91 (.agg #[.int .u8 a.b0,.int .u8 a.b1,.int .u8 a.b2,.int .u8 a.b3,.int .u8 a.b4,.int .u8 a.b5,.int .u8 a.b6,.int .u8 a.b7]) (.agg #[.int .u8 b.b0,.int .u8 b.b1,.int .u8 b.b2,.int .u8 b.b3,.int .u8 b.b4,.int .u8 b.b5,.int .u8 b.b6,.int .u8 b.b7])).run prog w=.ok (decide (a=b)) w:=by
 rw[<-aN.Wy];obtain⟨i0,hi,hz0,hz1,hz2⟩:=info_parts Tryz.info5;exact yh (P:=prog) w 9998 91 5 8 underlying91 underlying5 (fun w=>by simp[sizeOf,typeInfo,hi,hz1]) a.list b.list rfl rfl
end
section
open Go.RowKit Go.Sort
theorem FP{P:Program}(w:World){tp te:TypeId}(a:Addr)(hp:P.underlying tp=some (.pointer te)):(binOp .eql tp (.pointer none) (.pointer (some a))).run P w=.ok (.bool false) w:=by
 have h:∀d:Nat,(Op.equalIn (d+1) tp (.pointer none) (.pointer (some a))).run P w=.ok false w:=fun d=>by
  simp[Op.equalIn,run_underlying hp]
 simp only[binOp];simp[Op.equal,Op.maxDepth,h 9999]
theorem yP{P:Program}(w:World){tp te:TypeId}(hp:P.underlying tp=some (.pointer te)):(binOp .neq tp (.pointer none) (.pointer none)).run P w=.ok (.bool false) w:=by
 have h:∀d:Nat,(Op.equalIn (d+1) tp (.pointer none) (.pointer none)).run P w=.ok true w:=fun d=>by
  simp[Op.equalIn,run_underlying hp]
 simp only[binOp];simp[Op.equal,Op.maxDepth,h 9999]
theorem wC{P:Program}(w:World){tp te:TypeId}(a:Addr)(hp:P.underlying tp=some (.pointer te)):(binOp .neq tp (.pointer (some a)) (.pointer none)).run P w=.ok (.bool true) w:=by
 have h:∀d:Nat,(Op.equalIn (d+1) tp (.pointer (some a)) (.pointer none)).run P w=.ok false w:=fun d=>by
  simp[Op.equalIn,run_underlying hp]
 simp only[binOp];simp[Op.equal,Op.maxDepth,h 9999]
theorem aU{P:Program}{id:Nat}{Q:Exit->Act->World->Prop}{a:Act}{w:World}{l:List Oper}(n:Nat)(hm:P.follows .mixedOrders=true)(hB:Region.lexTailB .any l.toArray n=true)
 (h:wpStill P l.toArray w.drew (fun a'=>wpList P l.toArray Q (l.drop n) a' w.drew) (l.take n) a):(Code.region id l.toArray true).wp P Q a w:=
 wp_region_still_tail n hm hB h
end
section
open Go.RowKit Go.Sort
variable [DecidableEq aN] [Inhabited aN]
theorem Same.Wv{w w':World}(h:Below w.heap.size w w')(S:List Nat):Same S w w':=⟨h.os,h.tape,h.output,h.size,fun k hk _=>h.block k hk⟩
theorem zC(s:ByteArray)(w:World)(hlim:s.size<=1000) :
 Calls prog 119 #[.string s] w fun e w'=>e=.returned (.string s)/\Below w.heap.size w w':=by
 by_cases h0:s.size=0
 ·have hs:s=⟨#[]⟩:=by
   apply ByteArray.ext;exact Array.eq_empty_of_size_eq_zero h0
  subst hs
  go_enter func119,ntmps119
  go_wp2
  go_ret
  exact⟨rfl,Below.refl _ _⟩
 ·obtain⟨i0,hi,hz0,hz1,hz2⟩:=info_parts Tryz.info5;have hinfo:(prog.info? 5).map (·.size)=some 1:=by rw[hi];simp[hz1]
  have hco:prog.cellsOf 5=1:=by simp[Program.cellsOf,hi,hz1]
  obtain⟨M,hM⟩:∃M,M=madeCells (Value.int .u8 0).cells (((s.size:Nat):Int).toNat*i0.size):=⟨_,rfl⟩
  have hMs:M.size=s.size:=by rw[hM,size_madeCells,hz1];simp
  have hmk:∀W:World,(Instr.makeSlice 41 (.int .i64 (s.size:Int)) (.int .i64 (s.size:Int))).run prog W=.ok (.slice (some ⟨W.heap.size,0,none⟩) s.size s.size) (W.alloc (.cells M 5)):=fun W=>by
   have h:=run_make (P:=prog) W 41 5 i0 (.int .u8 0) underlying41 hi hz0 .i64 .i64 (s.size:Int) (s.size:Int) (by omega) (by omega) (by rw[hz2];omega) (by omega);rw[<-hM]at h;simpa using h
  clear hM;have hcp:=Lib.run_copy_row_string (P:=prog) (w.alloc (.cells M 5)) 41 9 3 5 w.heap.size 0 s.size s.size s M 5 underlying41 hinfo (heap_alloc_new w _) (Nat.le_refl _) (by omega);obtain⟨Y,hY⟩:∃Y,Y=(M.toList.take 0++Lib.byteCells s.data.toList++M.toList.drop (0+s.size)).toArray:=⟨_,rfl⟩
  rw[<-hY]at hcp;have hYl:Y.toList=Lib.byteCells s.data.toList:=by
   rw[hY,List.toList_toArray,List.take_zero,List.nil_append,List.drop_of_length_le (by rw[Array.length_toList];omega),List.append_nil]
  have hYs:Y.size=s.size:=by rw[<-Array.length_toList,hYl,Lib.byteCells_length,<-Lib.size_eq]
  have hgY:((w.alloc (.cells M 5)).setRow w.heap.size Y).heap[w.heap.size]? = some (.cells Y 5 (0,0)):=setRow_heap _ _ M _ 5 (0,0) (heap_alloc_new w _);have hne:s.data.toList≠[]:=fun e=>h0 (by rw[Lib.size_eq,e];rfl)
  have hUS:=Lib.run_unsafeString_row (P:=prog) ((w.alloc (.cells M 5)).setRow w.heap.size Y) 186 3 9 5 underlying186 hco w.heap.size Y.size (by unfold World.shape?;rw[hgY]) s.data.toList hne (by rw[<-Lib.size_eq];omega) (by rw[<-Lib.size_eq];omega)
   (fun j x hx=>Lib.cells_of_row hgY Y.size j _ (by rw[List.take_of_length_le (by rw[Array.length_toList];exact Nat.le_refl _),hYl];simp[Lib.byteCells,hx]))
  rw[<-Lib.size_eq]at hUS;clear hY
  go_enter func119,ntmps119
  go_wp2
  go_ret
  have hb1:Below w.heap.size w (w.alloc (.cells M 5)):=(Below.refl _ w).alloc (Nat.le_refl _) _;have hb2:Below w.heap.size (w.alloc (.cells M 5)) ((w.alloc (.cells M 5)).setRow w.heap.size Y):=⟨rfl,rfl,rfl,by simp,fun k hk=>setRow_other _ _ _ _ (by omega)⟩
  exact⟨rfl,Lib.below_freeze (hb1.trans hb2) (p:=⟨w.heap.size,0,none⟩) (Nat.le_refl _) _⟩
theorem yO(s:ByteArray)(w:World)(hlim:s.size<=1000) :
 Calls prog 83 #[.string s] w fun e w'=>e=.returned (.string s)/\Same [] w w':=by
 go_enter func83,ntmps83
 go_wp2_with (go_at_call 119;refine(zC s _ hlim).mono ?_;rintro e w' ⟨rfl,hb⟩)
 go_ret
 exact⟨rfl,Same.Wv hb _⟩
structure jd(w:World)(g:Nat)(xs:List Nat)(cs:List Value):Prop where
 at_:At w g 3 cs
 eq:cs.take xs.length=xs.map (fun x:Nat=>Value.int .i64 x)
 le:xs.length<=cs.length
theorem jd.cell{w:World}{g:Nat}{xs:List Nat}{cs:List Value}(h:jd w g xs cs)(i:Nat)(hi:i<xs.length):cs[i]? = some (.int .i64 (xs[i]!:Nat)):=by
 have:(cs.take xs.length)[i]? = cs[i]?:=by rw[List.getElem?_take,if_pos hi]
 rw[<-this,h.eq];simp[List.getElem?_map,List.getElem?_eq_getElem hi,getElem!_pos xs i hi]
theorem jd.same{w w':World}{g:Nat}{xs:List Nat}{cs:List Value}(h:jd w g xs cs){S:List Nat}(hs:Same S w w')(hn:g∉S):jd w' g xs cs:=⟨hs.at h.at_ hn,h.eq,h.le⟩
structure fD(w:World)(g:Nat)(cap:Nat)(l:List Nat):Prop where
 ex:∃cs,At w g 3 cs/\cs.length=cap/\cs.take l.length=l.map (fun x:Nat=>Value.int .i64 x)/\l.length<=cap/\cap<=maxLen
theorem fD.same{w w':World}{g cap:Nat}{l:List Nat}(h:fD w g cap l){S:List Nat}(hs:Same S w w')(hn:g∉S):fD w' g cap l:=by
 obtain⟨cs,h1,h2⟩:=h.ex;exact⟨cs,hs.at h1 hn,h2⟩
theorem fD.lt{w:World}{g cap:Nat}{l:List Nat}(h:fD w g cap l):g<w.heap.size:=by
 obtain⟨cs,h1,h2⟩:=h.ex;exact h1.lt
theorem fD.cell{w:World}{g cap:Nat}{l:List Nat}(h:fD w g cap l)(i:Nat)(hi:i<l.length):w.cell? ⟨g,i,none⟩=some (.int .i64 (l[i]!:Nat)):=by
 obtain⟨cs,h1,h2,h3,h4⟩:=h.ex;have e:(cs.take l.length)[i]? = cs[i]?:=by rw[List.getElem?_take,if_pos hi]
 rw[h1.cell?,<-e,h3];simp[List.getElem?_map,List.getElem?_eq_getElem hi,getElem!_pos l i hi]
theorem yK{w:World}{g cap:Nat}{l:List Nat}(h:fD w g cap l){n:Nat}(hn:n=l.length):w.ownsRow 0 3 1 (.slice (some ⟨g,0,none⟩) n cap) n (l.map (fun x:Nat=>Value.int .i64 x)):=by
 obtain⟨cs,h1,h2,h3,h4,h5⟩:=h.ex;subst hn;refine⟨by simp,.inr ⟨g,cap,cs.toArray,rfl,Nat.zero_le _,h1,h4,h5,by simpa using h2,by simpa using h3⟩⟩
theorem nJ{w:World}{base:Nat}{v:Value}{n:Nat}{l:List Nat}(h:w.ownsRow base 3 1 v n (l.map (fun x:Nat=>Value.int .i64 x)))(hl:l≠[]) :
 ∃g cap,v=.slice (some ⟨g,0,none⟩) l.length cap/\base<=g/\fD w g cap l:=by
 have hn:l.length=n:=by simpa using h.1
 rcases h.2 with⟨h1,h2⟩|⟨g,cap',cur,h1,h2,h3,h4,h5,h6,h7⟩
 ·exact absurd (List.eq_nil_of_length_eq_zero (hn.trans h2)) hl
 ·refine⟨g,cap',by rw[hn];exact h1,h2,⟨cur.toList,?_,by simpa using h6,by simpa [hn] using h7,by omega,h5⟩⟩;unfold At;simpa using h3
structure aF where
 vb:Nat
 gb:Nat
 name:ByteArray
 xs:List Nat
 org:Option Nat
 kg:Option Nat
 kept:List Nat
 lost:Bool
end
section
open Go.RowKit Go.Sort
variable [DecidableEq aN] [Inhabited aN] [Inhabited aF]
def aF.foot(v:aF):List Nat:=v.vb::v.gb::v.kg.toList
def mO(b:Option Nat):Option Addr:=b.map fun b=>⟨b,0,none⟩
def aF.cells(v:aF)(cap dW:Nat):List Value:=[.string v.name,.slice (some ⟨v.gb,0,none⟩) v.xs.length cap,.pointer (mO v.org),.slice (mO v.kg) v.kept.length dW,.bool v.lost]
structure dG(w:World)(v:aF):Prop where
 aA:∃cap dW,v.xs.length<=cap/\At w v.vb 133 (v.cells cap dW)/\(v.kg=none->v.kept=[]/\dW=0)/\(∀g,v.kg=some g->fD w g dW v.kept)
 row:∃cs,jd w v.gb v.xs cs
 nodup:v.foot.Nodup
 pos:v.xs≠[]
 small:v.xs.length<=200
 room:v.kept.length<=v.xs.length
 plain:v.org=none->v.kg=none/\v.lost=false
theorem dG.fE{w:World}{v:aF}(h:dG w v)(ho:v.org=none):v.kept=[]:=by
 obtain⟨cap,dW,hc,hv,hk,hg⟩:=h.aA;exact(hk (h.plain ho).1).1
theorem dG.same{w w':World}{v:aF}(h:dG w v){S:List Nat}(hs:Same S w w')(h1:∀k∈v.foot,k∉S):dG w' v:=by
 obtain⟨cap,dW,hc,hv,hk,hg⟩:=h.aA;obtain⟨cs,hr⟩:=h.row;exact⟨⟨cap,dW,hc,hs.at hv (h1 _ (by simp[aF.foot])),hk,fun g e=>(hg g e).same hs (h1 _ (by simp[aF.foot,e]))⟩,⟨cs,hr.same hs (h1 _ (by simp[aF.foot]))⟩,h.nodup,h.pos,h.small,h.room,h.plain⟩
theorem dG.new{w w':World}{v:aF}(h:dG w v)(hs:Same [] w w'):dG w' v:=h.same hs (by simp)
theorem dG.bn{w:World}{v:aF}(h:dG w v):∀k∈v.foot,k<w.heap.size:=by
 obtain⟨cap,dW,hc,hv,hk,hg⟩:=h.aA;obtain⟨cs,hr⟩:=h.row;intro k hm;simp only[aF.foot,List.mem_cons,Option.mem_toList,Option.mem_def]at hm;rcases hm with rfl|rfl|e
 ·exact hv.lt
 ·exact hr.at_.lt
 ·exact(hg k e).lt
theorem aJ(v:aF)(w:World)(h:dG w v) :
 Calls prog 88 #[.pointer (some ⟨v.vb,0,none⟩)] w fun e w'=>e=.returned (.bool v.org.isSome)/\w'=w:=by
 obtain⟨cap,dW,hc,hv,hk,hg⟩:=h.aA;have c2:w.cell? ⟨v.vb,2,none⟩=some (.pointer (mO v.org)):=hv.cell? 2;clear h hv hk hg;cases ho:v.org with
 | none=>
  rw[ho]at c2;have hq:=yP (P:=prog) w underlying110;simp only[mO,Option.map_none]at c2
  go_enter func88,ntmps88
  go_wp2
  go_ret
  exact⟨rfl,rfl⟩
 | some o=>
  rw[ho]at c2;have hq:=wC (P:=prog) w ⟨o,0,none⟩ underlying110;simp only[mO,Option.map_some]at c2
  go_enter func88,ntmps88
  go_wp2
  go_ret
  exact⟨rfl,rfl⟩
theorem kV(v:aF)(w:World)(h:dG w v)(ho:v.org=none) :
 Calls prog 94 #[.pointer (some ⟨v.vb,0,none⟩)] w fun e w'=>e=.returned (.int .i64 v.xs.length)/\w'=w:=by
 have hI:=aJ v w h;rw[ho]at hI;obtain⟨cap,dW,hc,hv,hk,hg⟩:=h.aA;have c1:w.cell? ⟨v.vb,1,none⟩=some (.slice (some ⟨v.gb,0,none⟩) v.xs.length cap):=hv.cell? 1;have hs:=h.small;clear h hv hk hg
 go_enter func94,ntmps94
 go_wp2_with (go_at_call 88;refine hI.mono ?_;rintro e w' ⟨rfl,rfl⟩)
 go_ret
 exact⟨rfl,rfl⟩
theorem LG(v u:aF)(w:World)(h:dG w v)(hu:dG w u)(ho:v.org=some u.vb)(hu0:u.org=none) :
 Calls prog 94 #[.pointer (some ⟨v.vb,0,none⟩)] w fun e w'=>e=.returned (.int .i64 u.xs.length)/\w'=w:=by
 have hI:=aJ v w h;rw[ho]at hI;have hz:=kV u w hu hu0;obtain⟨cap,dW,hc,hv,hk,hg⟩:=h.aA;have c2:w.cell? ⟨v.vb,2,none⟩=some (.pointer (mO v.org)):=hv.cell? 2;rw[ho]at c2;simp only[mO,Option.map_some]at c2;clear h hv hk hg hu
 go_enter func94,ntmps94
 go_wp2_with (first|(go_at_call 88;refine hI.mono ?_;rintro e w' ⟨rfl,rfl⟩)|(go_at_call 94;refine hz.mono ?_;rintro e w' ⟨rfl,rfl⟩))
 go_ret
 exact⟨rfl,rfl⟩
theorem sF(vb n:Nat)(k:Int)(w:World)(hn:n<=1000)
 (hc:Calls prog 94 #[.pointer (some ⟨vb,0,none⟩)] w fun e w'=>e=.returned (.int .i64 n)/\w'=w) :
 Calls prog 121 #[.pointer (some ⟨vb,0,none⟩),.int .i64 k] w fun e w'=>e=.returned (.bool (decide (0<=k/\k<n)))/\w'=w:=by
 by_cases h1:0<=k
 ·by_cases h2:k<n
  ·have e:decide (0<=k/\k<n)=true:=decide_eq_true ⟨h1,h2⟩;rw[e]
   go_enter func121,ntmps121
   go_wp2_with (go_at_call 94;refine hc.mono ?_;rintro e w' ⟨rfl,rfl⟩)
   go_ret
   simp[h1,h2]
  ·have e:decide (0<=k/\k<n)=false:=decide_eq_false (by omega);rw[e]
   go_enter func121,ntmps121
   go_wp2_with (go_at_call 94;refine hc.mono ?_;rintro e w' ⟨rfl,rfl⟩)
   go_ret
   simp[h1,h2]
 ·have e:decide (0<=k/\k<n)=false:=decide_eq_false (by omega);rw[e];have h1':decide (0<=k)=false:=decide_eq_false h1
  go_enter func121,ntmps121
  go_wp2_with (go_at_call 94;refine hc.mono ?_;rintro e w' ⟨rfl,rfl⟩)
  go_ret
  simp[h1]
theorem LM(xs:List Nat):∀u∈xs.map (fun x:Nat=>Value.int .i64 x),u.oneCell'=true:=by
 intro u hu;obtain⟨x,_,rfl⟩:=List.mem_map.1 hu;rfl
theorem oV{w:World}{base:Nat}{a:Option Addr}{cap n:Nat}{xs:List Nat}(h:w.ownsRow base 3 1 (.slice a n cap) n (xs.map (fun x:Nat=>Value.int .i64 x)))(hn:n=xs.length)(hp:xs≠[]) :
 ∃g cs,a=some ⟨g,0,none⟩/\base<=g/\jd w g xs cs/\xs.length<=cap:=by
 subst hn;obtain⟨g,cs,h1,h2,h3,h4,h5,h6⟩:=jk h (by cases xs<;>simp at *);exact⟨g,cs,h1,h2,⟨h3,h6,by omega⟩,h4⟩
theorem yj(gb cap:Nat)(xs:List Nat)(cs:List Value)(w:World)(hr:jd w gb xs cs)(hp:xs≠[])(hs:xs.length<=200) :
 Calls prog 116 #[.slice (some ⟨gb,0,none⟩) xs.length cap] w fun e w'=>∃g cap' cs',e=.returned (.slice (some ⟨g,0,none⟩) xs.length cap')/\w.heap.size<=g/\jd w' g xs cs'/\xs.length<=cap'/\Same [] w w':=by
 obtain⟨i0,hi,hz0,hz1,hz2⟩:=info_parts Tryz.info3;have hpos:0<xs.length:=by cases xs<;>simp at *
 have lg:=hr.at_.lt
 go_enter func116,ntmps116
 have hnil:(binOp .eql 51 (.slice (some ⟨gb,0,none⟩) xs.length cap) (.slice none 0 0)).run prog w=.ok (.bool false) w:=Lib.run_eql_slice_nil w _ _ _ _ _ _ _ underlying51
 go_wp2_with (at_builtin;refine wpList_append_grows _ rfl _ _ 51 rfl 3 i0 (.int .i64 0) 1 8 underlying51 hi hz0 hz1 hz2 rfl (by decide) (some ⟨w.heap.size,0,none⟩) 0 0 [] rfl (by intro h;cases h) rfl (by intro b _ j u hu;simp at hu) ⟨gb,0,none⟩ xs.length cap (xs.map (fun x:Nat=>Value.int .i64 x)) rfl (by simp) ?c1 (LM xs) (by omega) (by unfold maxLen;omega) (by omega) ?_)
 case c1=>
  intro j u hj;have hl:j<xs.length:=by
   rcases Nat.lt_or_ge j xs.length with h|h
   ·exact h
   ·rw[List.getElem?_eq_none (by simpa using h)]at hj;cases hj
  rw[Addr.add_lit,Nat.zero_add,(hr.at_.alloc _).cell?,hr.cell j hl];rw[<-hj];simp[List.getElem?_map,List.getElem?_eq_getElem hl,getElem!_pos xs j hl]
 intro v' w1 hown hgrow
 try rw[Nat.zero_add,List.nil_append]at hown
 obtain⟨a',cap',rfl⟩:=ak hown;obtain⟨g,cs',rfl,hg,hR,hle⟩:=oV hown rfl hp;have S1:Same [] w w1:=((Same.refl _ _).alloc _).grown hgrow (fun k hk=>by cases hk);have hg':w.heap.size<=g:=by omega
 clear hown hgrow hr
 go_wp2
 go_ret
 exact⟨g,cap',cs',rfl,hg',hR,hle,S1⟩
theorem DT(v:aF)(w:World)(h:dG w v) :
 Calls prog 78 #[.pointer (some ⟨v.vb,0,none⟩)] w fun e w'=>∃g cs',e=.returned (.slice (some ⟨g,0,none⟩) v.xs.length v.xs.length)/\w.heap.size<=g/\jd w' g v.xs cs'/\Same [] w w':=by
 obtain⟨cap,dW,hcap,hv,_,_⟩:=h.aA;obtain⟨cs,hr⟩:=h.row;have c1:w.cell? ⟨v.vb,1,none⟩=some (.slice (some ⟨v.gb,0,none⟩) v.xs.length cap):=hv.cell? 1;have hs:=h.small;have hp:=h.pos
 go_enter func78,ntmps78
 go_wp2_with fail
 refine(yj v.gb cap v.xs cs w hr hp hs).mono ?_;rintro e w1 ⟨g,cap',cs',rfl,hg,hR,hle,S1⟩;clear h hv hr
 go_wp2
 go_ret
 exact⟨g,cs',rfl,hg,hR,S1⟩
theorem QO(v:aF)(k:Nat)(w:World)(h:dG w v)(ho:v.org=none)(h1:1<=k)(hk:k<v.xs.length) :
 Calls prog 96 #[.pointer (some ⟨v.vb,0,none⟩),.int .i64 k] w fun e w'=>e=.returned (.slice (some ⟨v.gb,k,none⟩) (v.xs.length-k) (v.xs.length-k)) /\
  dG w' { v with xs:=v.xs.take k }/\Same [v.vb] w w':=by
 obtain⟨cap,dW,hcap,hv,hk1,hk2⟩:=h.aA;have hkg:=(h.plain ho).1;have S1:Same [v.vb] w (w.setCell ⟨v.vb,1,none⟩ (.slice (some ⟨v.gb,0,none⟩) k k)):=(Same.refl _ _).set v.vb 1 _ (by simp);have V1:dG (w.setCell ⟨v.vb,1,none⟩ (.slice (some ⟨v.gb,0,none⟩) k k)) { v with xs:=v.xs.take k }:=by
  have A1:=hv.ax 1 (.slice (some ⟨v.gb,0,none⟩) k k);simp only[aF.cells,List.set_cons_succ,List.set_cons_zero]at A1;have hl:(v.xs.take k).length=k:=by rw[List.length_take];omega
  obtain⟨cs,hr⟩:=h.row;have hnd:=h.nodup;have hne:v.gb∉[v.vb]:=by
   simp only[aF.foot,List.nodup_cons,List.mem_cons,not_or]at hnd;simp;exact fun e=>hnd.1.1 e.symm
  refine⟨⟨k,dW,by simp[hl],by simp only[aF.cells,hl];exact A1,hk1,fun g hg=>(hk2 g hg).same S1 (by rw[hkg]at hg;cases hg)⟩,⟨cs,⟨S1.at hr.at_ hne,?_,?_⟩⟩,h.nodup,?_,?_,?_,h.plain⟩
  ·have e1:cs.take k=(cs.take v.xs.length).take k:=by rw[List.take_take,Nat.min_eq_left (by omega)]
   show cs.take (v.xs.take k).length=_;rw[hl,e1,hr.eq,List.map_take]
  ·have:=hr.le;show(v.xs.take k).length<=_;omega
  ·intro e;have e':(v.xs.take k).length=0:=by show({ v with xs:=v.xs.take k }:aF).xs.length=0;rw[e];rfl
   omega
  ·show(v.xs.take k).length<=200;have:=h.small;omega
  ·show v.kept.length<=_;rw[h.fE ho];simp
 have c1:w.cell? ⟨v.vb,1,none⟩=some (.slice (some ⟨v.gb,0,none⟩) v.xs.length cap):=hv.cell? 1;have f1:w.frozen? ⟨v.vb,1,none⟩=false:=hv.frozen 1;have hs:=h.small;clear h hv hk1 hk2
 go_enter func96,ntmps96
 go_wp2
 go_ret
 exact⟨rfl,V1,S1⟩
theorem PW(v:aF)(k:Nat)(w:World)(h:dG w v)(ho:v.org=none)(h1:1<=k)(hk:k=v.xs.length) :
 Calls prog 96 #[.pointer (some ⟨v.vb,0,none⟩),.int .i64 k] w fun e w'=>e=.returned (.slice (some ⟨v.gb,0,none⟩) 0 0) /\
  dG w' { v with xs:=v.xs.take k }/\Same [v.vb] w w':=by
 obtain⟨cap,dW,hcap,hv,hk1,hk2⟩:=h.aA;have hkg:=(h.plain ho).1;have S1:Same [v.vb] w (w.setCell ⟨v.vb,1,none⟩ (.slice (some ⟨v.gb,0,none⟩) k k)):=(Same.refl _ _).set v.vb 1 _ (by simp);have V1:dG (w.setCell ⟨v.vb,1,none⟩ (.slice (some ⟨v.gb,0,none⟩) k k)) { v with xs:=v.xs.take k }:=by
  have A1:=hv.ax 1 (.slice (some ⟨v.gb,0,none⟩) k k);simp only[aF.cells,List.set_cons_succ,List.set_cons_zero]at A1;have hl:(v.xs.take k).length=k:=by rw[List.length_take];omega
  obtain⟨cs,hr⟩:=h.row;have hnd:=h.nodup;have hne:v.gb∉[v.vb]:=by
   simp only[aF.foot,List.nodup_cons,List.mem_cons,not_or]at hnd;simp;exact fun e=>hnd.1.1 e.symm
  refine⟨⟨k,dW,by simp[hl],by simp only[aF.cells,hl];exact A1,hk1,fun g hg=>(hk2 g hg).same S1 (by rw[hkg]at hg;cases hg)⟩,⟨cs,⟨S1.at hr.at_ hne,?_,?_⟩⟩,h.nodup,?_,?_,?_,h.plain⟩
  ·have e1:cs.take k=(cs.take v.xs.length).take k:=by rw[List.take_take,Nat.min_eq_left (by omega)]
   show cs.take (v.xs.take k).length=_;rw[hl,e1,hr.eq,List.map_take]
  ·have:=hr.le;show(v.xs.take k).length<=_;omega
  ·intro e;have e':(v.xs.take k).length=0:=by show({ v with xs:=v.xs.take k }:aF).xs.length=0;rw[e];rfl
   omega
  ·show(v.xs.take k).length<=200;have:=h.small;omega
  ·show v.kept.length<=_;rw[h.fE ho];simp
 have c1:w.cell? ⟨v.vb,1,none⟩=some (.slice (some ⟨v.gb,0,none⟩) v.xs.length cap):=hv.cell? 1;have f1:w.frozen? ⟨v.vb,1,none⟩=false:=hv.frozen 1;have hs:=h.small;clear h hv hk1 hk2;subst hk
 go_enter func96,ntmps96
 go_wp2
 go_ret
 exact⟨rfl,V1,S1⟩
theorem Ez{w:World}{g:Nat}{xs:List Nat}{cs:List Value}(h:jd w g xs cs):∀j u,(xs.map (fun x:Nat=>Value.int .i64 x))[j]? = some u->w.cell? ⟨g,j,none⟩=some u:=by
 intro j u hj;have hl:j<xs.length:=by
  rcases Nat.lt_or_ge j xs.length with h|h
  ·exact h
  ·rw[List.getElem?_eq_none (by simpa using h)]at hj;cases hj
 rw[h.at_.cell?,h.cell j hl,<-hj];simp[List.getElem?_map,List.getElem?_eq_getElem hl,getElem!_pos xs j hl]
theorem Hy(v:aF)(mb c:Nat)(ys:List Nat)(ms:List Value)(w:World)(h:dG w v)(ho:v.org=none)(hm:jd w mb ys ms)(hy:ys≠[])(hs:v.xs.length+ys.length<=200) :
 Calls prog 98 #[.pointer (some ⟨v.vb,0,none⟩),.slice (some ⟨mb,0,none⟩) ys.length c] w fun e w'=>e=.returned (.tuple #[])/\∃g,w.heap.size<=g/\dG w' { v with gb:=g,xs:=v.xs++ys }/\Same [v.vb] w w':=by
 obtain⟨cap,dW,hcap,hv,hk1,hk2⟩:=h.aA;obtain⟨cs,hr⟩:=h.row;have hkg:=(h.plain ho).1;have c1:w.cell? ⟨v.vb,1,none⟩=some (.slice (some ⟨v.gb,0,none⟩) v.xs.length cap):=hv.cell? 1;have hpos:0<ys.length:=by cases ys<;>simp at *
 have lv:=hv.lt;obtain⟨i0,hi,hz0,hz1,hz2⟩:=info_parts Tryz.info3
 go_enter func98,ntmps98
 go_wp2_with (at_builtin;refine wpList_append_grows _ rfl _ _ 51 rfl 3 i0 (.int .i64 0) 1 8 underlying51 hi hz0 hz1 hz2 rfl (by decide) (some ⟨v.gb,0,none⟩) v.xs.length v.xs.length (v.xs.map (fun x:Nat=>Value.int .i64 x)) rfl (by intro h;cases h) (by simp) (by intro b hb j u hu;simp only[Option.some.injEq]at hb;subst hb;rw[Addr.add_lit,Nat.zero_add];exact Ez hr j u hu) ⟨mb,0,none⟩ ys.length c (ys.map (fun x:Nat=>Value.int .i64 x)) rfl (by simp) (by intro j u hu;rw[Addr.add_lit,Nat.zero_add];exact Ez hm j u hu) (LM ys) (by omega) (by unfold maxLen;omega) (by omega) ?_)
 intro v' w1 hown hgrow;rw[<-List.map_append]at hown;obtain⟨a',cap',rfl⟩:=ak hown;obtain⟨g,cs',rfl,hg,hR,hle⟩:=oV hown (by simp) (by simp[hy]);have A1:At w1 v.vb _ _:=hv.of_heap (hgrow.block v.vb lv (by simp));have b1:w1.cell? ⟨v.vb,1,none⟩=some (.slice (some ⟨v.gb,0,none⟩) v.xs.length cap):=A1.cell? 1;have g1:w1.frozen? ⟨v.vb,1,none⟩=false:=A1.frozen 1;have A2:=A1.ax 1 (.slice (some ⟨g,0,none⟩) (v.xs.length+ys.length) cap');simp only[aF.cells,List.set_cons_succ,List.set_cons_zero]at A2;have hge:v.vb≠g:=by omega
 have R2:jd (w1.setCell ⟨v.vb,1,none⟩ (.slice (some ⟨g,0,none⟩) (v.xs.length+ys.length) cap')) g (v.xs++ys) cs':=⟨hR.at_.aP v.vb 1 _ (Ne.symm hge),hR.eq,hR.le⟩
 have S2:Same [v.vb] w (w1.setCell ⟨v.vb,1,none⟩ (.slice (some ⟨g,0,none⟩) (v.xs.length+ys.length) cap')):=((Same.refl _ _).grown hgrow (by simp)).set v.vb 1 _ (by simp);have V2:dG (w1.setCell ⟨v.vb,1,none⟩ (.slice (some ⟨g,0,none⟩) (v.xs.length+ys.length) cap')) { v with gb:=g,xs:=v.xs++ys }:=
  ⟨⟨cap',dW,by simpa using hle,by simp only[aF.cells,List.length_append];exact A2,hk1,fun g' hg'=>by rw[hkg]at hg';cases hg'⟩,⟨cs',R2⟩,by simp[aF.foot,hkg,hge],by simp[hy],by simpa using hs,by show v.kept.length<=_;rw[h.fE ho];simp,h.plain⟩
 clear A1 A2 R2 hR hown hgrow h hm hv hr c1 hk1 hk2
 go_wp2
 refine bodyPost_end (results_none rfl _ _ _) rfl ⟨rfl,g,hg,V2,S2⟩
end
end Go.Proofs.YtpddgdjocffgdaaGreat
