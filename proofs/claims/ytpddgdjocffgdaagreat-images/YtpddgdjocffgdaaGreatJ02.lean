/- Names: comparing them, and the search among the volumes, by contracts. Small functions of package strata, by contracts. Blocks compared. Pointers compared. Volumes: a string cloned; what a volume tells of itself, by contracts. Volumes: numbers, cut, extend, told, by contracts. Pictures: keptIn, holder, by contracts. -/
import Derived.Test.YtpddgdjocffgdaaGreatJ01
import Derived.Lib.Bytealg
import Derived.LaidEqlPtr
import Derived.StillTailTactics
import Derived.Lib.Strings
import Derived.Lib.Walk
import Derived.Lib.BufferWrite
import Derived.Lib.UnsafeStr
import Derived.Lib.Buffer
import Derived.Lib.SliceRun
namespace Go.Proofs.YtpddgdjocffgdaaGreat
set_option linter.unusedVariables false
set_option linter.unusedSimpArgs false
set_option linter.unusedSectionVars false
set_option maxHeartbeats 16000000
set_option maxRecDepth 100000
section
open Go.RowKit Go.Sort
variable [DecidableEq Blk] [Inhabited Blk]
def cmpB(a b:ByteArray):Int:=Lib.compareBytes a.data.toList b.data.toList
theorem cmpstring_run(a b:ByteArray)(w:World):(callFunc 151 #[.string a,.string b]).run Tryz.prog w=.ok (.value (.int .i64 (cmpB a b))) w:=by
 rw[run_callFunc_extern Tryz.func151 (by kernel_rfl) (by kernel_rfl) (by kernel_rfl) (e:=Extern.BytealgCompare.compare) (by kernel_rfl),Lib.run_compareString];rfl
theorem compareName_calls(vb:Nat)(n t:ByteArray)(w:World)(h:w.cell? ⟨vb,0,none⟩=some (.string n)) :
 Calls Tryz.prog 137 #[.pointer (some ⟨vb,0,none⟩),.string t] w fun e w'=>e=.returned (.int .i64 (cmpB n t))/\w'=w:=by
 have hr:=cmpstring_run
 go_enter Tryz.func137,Tryz.ntmps137
 go_wp2
 go_ret
 exact⟨rfl,rfl⟩
def posOf(ns:List ByteArray)(t:ByteArray):Nat:=ns.countP fun n=>decide (cmpB n t < 0)
def isIn(ns:List ByteArray)(t:ByteArray):Bool:=decide (posOf ns t < ns.length) && decide (cmpB ns[posOf ns t]! t=0)
theorem countP_bound{α:Type}[Inhabited α](p:α->Bool):∀(l:List α) (i:Nat),i<=l.length->(∀t,t < i->p l[t]! = true)->(∀t,i<=t->t < l.length->p l[t]! = false)->l.countP p=i
 | [],i,hi,_,_=>by simp at hi;simp[hi]
 | a :: r,0,_,_,h2=>by
  rw[List.countP_eq_zero];intro x hx;obtain⟨t,ht,rfl⟩:=List.getElem_of_mem hx;have:=h2 t (Nat.zero_le _) ht;rw[getElem!_pos (a :: r) t ht] at this;simp[this]
 | a :: r,i+1,hi,h1,h2=>by
  have ha:p a=true:=by simpa using h1 0 (Nat.succ_pos _)
  rw[List.countP_cons_of_pos ha,countP_bound p r i (by simpa using hi) (fun t ht=>by simpa using h1 (t+1) (by omega)) (fun t h3 h4=>by simpa using h2 (t+1) (by omega) (by simpa using h4))]
theorem search_calls(ab cap:Nat)(a:Option Addr)(vs:List Nat)(ns:List ByteArray)(t:ByteArray)(w:World)(s:Value)(hs:s=.slice a ns.length cap)(hsmall:ns.length<=1000)
 (hc:∀i,i < ns.length->a=some ⟨ab,0,none⟩/\w.cell? ⟨ab,i,none⟩=some (.pointer (some ⟨vs[i]!,0,none⟩))/\w.cell? ⟨vs[i]!,0,none⟩=some (.string ns[i]!))
 (hmono:∀i j,i<=j->j < ns.length->cmpB ns[j]! t < 0->cmpB ns[i]! t < 0) :
 Calls Tryz.prog 136 #[s,.string t,.func (.func 137) #[] #[]] w fun e w'=>e=.returned (.tuple #[.int .i64 (posOf ns t:Nat),.bool (isIn ns t)])/\w'=w:=by
 subst hs;generalize hcnt:posOf ns t=cnt;have CN:Hid (posOf ns t=cnt):=hcnt;generalize hfin:isIn ns t=fin;have FIN:Hid ((decide (cnt < ns.length) && decide (cmpB ns[cnt]! t=0))=fin):=by rw[<-hcnt];exact hfin
 have M:Hid _:=hmono;have HC:Hid _:=hc;clear hcnt hfin hmono hc
 go_enter Tryz.func136,Tryz.ntmps136
 go_wp2
 go_loopg [9,10] ns.length (fun kx s9 s10 wr=>∃lo hi:Nat,s9=.int .i64 lo/\s10=.int .i64 hi/\lo<=hi/\hi<=ns.length/\hi - lo<=kx/\wr=w /\
  Hid ((∀t',t' < lo->cmpB ns[t']! t < 0)/\(∀t',hi<=t'->t' < ns.length->0<=cmpB ns[t']! t)))
 case atStart=>exact⟨0,ns.length,rfl,rfl,Nat.zero_le _,Nat.le_refl _,by omega,rfl,(⟨fun t ht=>absurd ht (Nat.not_lt_zero _),fun t h1 h2=>by omega⟩:(∀t',t' < 0->cmpB ns[t']! t < 0)/\(∀t',ns.length<=t'->t' < ns.length->0<=cmpB ns[t']! t))⟩
 case round=>
  obtain⟨lo,hi,rfl,rfl,hlh,hin,hg,rfl,I⟩:=hrel;by_cases hlt:lo < hi
  ·obtain⟨rfl,c1,c2⟩:=HC.out ((lo+hi) / 2) (by omega);generalize hy:ns[(lo+hi) / 2]! = y at c2;generalize vs[(lo+hi) / 2]! = vb at c1 c2;have Y:Hid (ns[(lo+hi) / 2]! = y):=hy;clear hy;have hcn:=compareName_calls vb y t wr c2;have l1:((lo:Int)+(hi:Int)) / 2 < (ns.length:Int):=by omega
   by_cases hyx:cmpB y t < 0
   ·go_wp2_with (go_at_call 137;refine hcn.mono ?_;rintro e w' ⟨rfl,rfl⟩)
    go_roundg (hi - ((lo+hi) / 2+1))
    case measure=>omega
    case rel=>
     have I2:Hid ((∀t',t' < (lo+hi) / 2+1->cmpB ns[t']! t < 0)/\(∀t',hi<=t'->t' < ns.length->0<=cmpB ns[t']! t)):=⟨fun t' ht=>M.out t' ((lo+hi) / 2) (by omega) (by omega) (by rw[Y.out];exact hyx),I.out.2⟩
     exact⟨(lo+hi) / 2+1,hi,by rw[show ((lo:Int)+(hi:Int)) / 2+1=(((lo+hi) / 2+1:Nat):Int) by omega],rfl,by omega,hin,Nat.le_refl _,rfl,I2⟩
   ·go_wp2_with (go_at_call 137;refine hcn.mono ?_;rintro e w' ⟨rfl,rfl⟩)
    go_roundg ((lo+hi) / 2 - lo)
    case measure=>omega
    case rel=>
     have I2:Hid ((∀t',t' < lo->cmpB ns[t']! t < 0)/\(∀t',(lo+hi) / 2<=t'->t' < ns.length->0<=cmpB ns[t']! t)):=⟨I.out.1,fun t' ht htn=>Int.not_lt.1 fun h=>by have:=M.out ((lo+hi) / 2) t' ht htn h;rw[Y.out] at this;omega⟩
     exact⟨lo,(lo+hi) / 2,rfl,by rw[show ((lo:Int)+(hi:Int)) / 2=(((lo+hi) / 2:Nat):Int) by omega],by omega,by omega,Nat.le_refl _,rfl,I2⟩
  ·obtain rfl:hi=lo:=by omega
   have ecnt:cnt=hi:=by
    rw[<-CN.out];refine countP_bound _ ns hi hin (fun t' ht=>?_) (fun t' h3 h4=>?_)
    ·exact decide_eq_true (I.out.1 t' ht)
    ·exact decide_eq_false (by have:=I.out.2 t' h3 h4;omega)
   subst ecnt;by_cases hn:cnt < ns.length
   ·obtain⟨rfl,c1,c2⟩:=HC.out cnt hn;generalize hy:ns[cnt]! = y at c2;generalize vs[cnt]! = vb at c1 c2;have Y:Hid (ns[cnt]! = y):=hy;clear hy;have hcn:=compareName_calls vb y t wr c2;by_cases hyx:cmpB y t=0
    ·go_wp2_with (go_at_call 137;refine hcn.mono ?_;rintro e w' ⟨rfl,rfl⟩)
     go_ret2
     exact⟨by rw[<-FIN.out,Y.out];simp[hn,hyx],rfl⟩
    ·go_wp2_with (go_at_call 137;refine hcn.mono ?_;rintro e w' ⟨rfl,rfl⟩)
     go_ret2
     exact⟨by rw[<-FIN.out,Y.out];simp[hn,hyx],rfl⟩
   ·go_wp2
    go_ret2
    exact⟨by rw[<-FIN.out];simp[hn],rfl⟩
def lowerB(c:UInt8):Bool:=decide (97<=c.toNat) && decide (c.toNat<=122)
def nameB(s:ByteArray):Bool:=decide (1<=s.size) && decide (s.size<=10) && s.data.toList.all lowerB
theorem isCount_calls(n:Int)(w:World) :
 Calls Tryz.prog 42 #[.int .i64 n] w fun e w'=>e=.returned (.bool (decide (1<=n/\n<=200)))/\w'=w:=by
 by_cases h1:1<=n
 ·by_cases h2:n<=200
  ·have e:decide (1<=n/\n<=200)=true:=decide_eq_true ⟨h1,h2⟩;rw[e]
   go_enter Tryz.func42,Tryz.ntmps42
   go_wp2
   go_ret
   simp[h1,h2]
  ·have e:decide (1<=n/\n<=200)=false:=decide_eq_false (by omega);rw[e]
   go_enter Tryz.func42,Tryz.ntmps42
   go_wp2
   go_ret
   simp[h2]
 ·have e:decide (1<=n/\n<=200)=false:=decide_eq_false (by omega);rw[e];have h1':decide (1<=n)=false:=decide_eq_false h1
  go_enter Tryz.func42,Tryz.ntmps42
  go_wp2
  go_ret
  simp[h1]
theorem take_snoc(s:ByteArray)(k:Nat)(h:k < s.size):s.data.toList.take (k+1)=s.data.toList.take k++[s[k]]:=by
 rw[List.take_succ_eq_append_getElem (by simpa using h)];rfl
theorem nameB_no(s:ByteArray)(k:Nat)(h:k < s.size)(hl:lowerB s[k]=false):nameB s=false:=by
 have hm:s[k]∈s.data.toList:=by
  have:s[k]=s.data.toList[k]'(by simpa using h):=rfl;rw[this];exact List.getElem_mem _
 have:s.data.toList.all lowerB=false:=by
  rw[List.all_eq_false];exact⟨s[k],hm,by simp[hl]⟩
 simp[nameB,this]
theorem nameB_yes(s:ByteArray)(h1:1<=s.size)(h2:s.size<=10)(h:(s.data.toList.take s.size).all lowerB=true):nameB s=true:=by
 rw[List.take_of_length_le (by simp)] at h;simp only[nameB,h,h1,h2,decide_true,Bool.and_self]
theorem isName_calls(s:ByteArray)(w:World)(hs:s.size<=maxLen) :
 Calls Tryz.prog 117 #[.string s] w fun e w'=>e=.returned (.bool (nameB s))/\w'=w:=by
 unfold maxLen at hs;by_cases h1:1<=s.size
 ·by_cases h2:s.size<=10
  ·go_enter Tryz.func117,Tryz.ntmps117
   go_wp2
   go_loop [14] (fun i=>∃k:Nat,k<=s.size/\i=.int .i64 k/\Hid ((s.data.toList.take k).all lowerB=true)) (fun i=>s.size - (intOf i).toNat)
   case atStart=>exact⟨0,Nat.zero_le _,rfl,rfl⟩
   case round=>
    obtain⟨k,hk,rfl,HA⟩:=hrel;by_cases hlt:k < s.size
    ·have hlt':(k:Int) < (s.size:Int):=by omega
     have HT:=take_snoc s k hlt;have HT':Hid (s.data.toList.take (k+1)=s.data.toList.take k++[s[k]]):=HT;clear HT;have HN:Hid (lowerB s[k]=false->nameB s=false):=nameB_no s k hlt
     go_wp2
     ·have hb:(s[k].toNat:Int) < 97\/122 < (s[k].toNat:Int):=by assumption
      have hl:lowerB s[k]=false:=by simp[lowerB];omega
      go_ret
      rw[HN.out hl];simp
     ·have hb:97<=(s[k].toNat:Int)/\(s[k].toNat:Int)<=122:=by assumption
      have hl:lowerB s[k]=true:=by simp[lowerB];omega
      go_round
      case rel=>exact⟨k+1,by omega,by go_num,by show _=true;rw[HT'.out,List.all_append,HA.out];simp[hl]⟩
      case measure=>simp[intOf];omega
     ·have hb:(s[k].toNat:Int) < 97:=by assumption
      have hl:lowerB s[k]=false:=by simp[lowerB];omega
      go_ret
      rw[HN.out hl];simp
    ·have ek:k=s.size:=by omega
     subst ek;have HY:Hid (nameB s=true):=nameB_yes s h1 h2 HA.out
     go_wp2
     go_ret
     rw[HY.out];exact⟨rfl,rfl⟩
  ·have e:nameB s=false:=by simp[nameB,h2]
   rw[e]
   go_enter Tryz.func117,Tryz.ntmps117
   go_wp2
   go_ret
   simp
 ·have e:nameB s=false:=by simp[nameB,h1]
  rw[e];have h1':(s.size:Int) < 1:=by omega
  go_enter Tryz.func117,Tryz.ntmps117
  go_wp2
  go_ret
  simp
theorem Tryz.info5:(Tryz.prog.info? 5).map (fun i=>(i.zero,i.size,i.bytes))=some (some (.int .u8 0),1,1):=by kernel_rfl
theorem all_range_int:∀(xs ys:List Int),xs.length=ys.length->((List.range xs.length).all fun i=>xs.getD i 0 == ys.getD i 0)=(xs == ys)
 | [],[],_=>rfl
 | x :: xs,y :: ys,h=>by
  have ih:=all_range_int xs ys (by simpa using h);rw[List.length_cons,List.range_succ_eq_map,List.all_cons,List.all_map];simp only[List.getD_cons_zero,Function.comp_def,List.getD_cons_succ,ih];simp[List.cons_beq_cons]
 | [],_ :: _,h=>by simp at h
 | _ :: _,[],h=>by simp at h
theorem run_equalIn_ints{P:Program}(w:World)(d:Nat)(t e:TypeId)(n:Nat)(ht:P.underlying t=some (.array n e))(he:P.underlying e=some (.int .u8))(hsz:∀w,(sizeOf e).run P w=.ok 1 w)
 (xs ys:List Int) (hx:xs.length=n) (hy:ys.length=n) :
 (Op.equalIn (d+2) t (.agg (xs.map (Value.int .u8)).toArray) (.agg (ys.map (Value.int .u8)).toArray)).run P w=.ok (xs == ys) w:=by
 rw[<-all_range_int xs ys (hx.trans hy.symm),hx,List.range_eq_range',Op.equalIn];simp only[Sem.run_bind,run_underlying ht,Result.andThen_ok,hsz,Std.Legacy.Range.forIn_eq_forIn_range',Std.Legacy.Range.size,Nat.sub_zero,Nat.add_sub_cancel,Nat.div_one];have hl:∀i∈List.range' 0 n 1,i < n:=fun i hi=>by simpa using (List.mem_range'_1.1 hi).2
 generalize List.range' 0 n 1=l at hl ⊢
 induction l with
 | nil=>simp
 | cons i l ih=>
  have hi:i < n:=hl i (by simp);have px:(part e (xs.map (Value.int .u8)).toArray (i * 1)).run P w=.ok (.int .u8 (xs.getD i 0)) w:=by
   simp[part,isAgg,run_underlying he,List.getD,List.getElem?_eq_getElem (show i < xs.length by omega)]
  have py:(part e (ys.map (Value.int .u8)).toArray (i * 1)).run P w=.ok (.int .u8 (ys.getD i 0)) w:=by
   simp[part,isAgg,run_underlying he,List.getD,List.getElem?_eq_getElem (show i < ys.length by omega)]
  have pe:(Op.equalIn (d+1) e (.int .u8 (xs.getD i 0)) (.int .u8 (ys.getD i 0))).run P w=.ok (xs.getD i 0 == ys.getD i 0) w:=by
   rw[run_equalIn_int w d e .u8 .u8 _ _ he]
  simp only[List.forIn_cons,Sem.run_bind,px,py,pe,Result.andThen_ok,List.all_cons];cases hb:(xs.getD i 0 == ys.getD i 0)
  ·simp
  ·simp only[Bool.not_true,Bool.false_eq_true,if_false,Sem.run_pure,Result.andThen_ok,Bool.true_and];exact ih fun j hj=>hl j (by simp[hj])
def Blk.list(b:Blk):List Int:=[b.b0,b.b1,b.b2,b.b3,b.b4,b.b5,b.b6,b.b7]
theorem Blk.list_eq(a b:Blk):(a.list == b.list)=decide (a=b):=by
 obtain⟨a0,a1,a2,a3,a4,a5,a6,a7⟩:=a;obtain⟨c0,c1,c2,c3,c4,c5,c6,c7⟩:=b;rw[Bool.eq_iff_iff];simp[Blk.list]
theorem equal_blocks(a b:Blk)(w:World):(Op.equalIn 10000 91 (.agg #[.int .u8 a.b0,.int .u8 a.b1,.int .u8 a.b2,.int .u8 a.b3,.int .u8 a.b4,.int .u8 a.b5,.int .u8 a.b6,.int .u8 a.b7]) (.agg #[.int .u8 b.b0,.int .u8 b.b1,.int .u8 b.b2,.int .u8 b.b3,.int .u8 b.b4,.int .u8 b.b5,.int .u8 b.b6,.int .u8 b.b7])).run Tryz.prog w=.ok (decide (a=b)) w:=by
 rw[<-Blk.list_eq];obtain⟨i0,hi,hz0,hz1,hz2⟩:=info_parts Tryz.info5;exact run_equalIn_ints (P:=Tryz.prog) w 9998 91 5 8 Tryz.underlying91 Tryz.underlying5 (fun w=>by simp[sizeOf,typeInfo,hi,hz1]) a.list b.list rfl rfl
end
section
open Go.RowKit Go.Sort
theorem eql_nil_some{P:Program}(w:World){tp te:TypeId}(a:Addr)(hp:P.underlying tp=some (.pointer te)):(binOp .eql tp (.pointer none) (.pointer (some a))).run P w=.ok (.bool false) w:=by
 have h:∀d:Nat,(Op.equalIn (d+1) tp (.pointer none) (.pointer (some a))).run P w=.ok false w:=fun d=>by
  simp[Op.equalIn,run_underlying hp]
 simp only[binOp];simp[Op.equal,Op.maxDepth,h 9999]
theorem neq_nil_nil{P:Program}(w:World){tp te:TypeId}(hp:P.underlying tp=some (.pointer te)):(binOp .neq tp (.pointer none) (.pointer none)).run P w=.ok (.bool false) w:=by
 have h:∀d:Nat,(Op.equalIn (d+1) tp (.pointer none) (.pointer none)).run P w=.ok true w:=fun d=>by
  simp[Op.equalIn,run_underlying hp]
 simp only[binOp];simp[Op.equal,Op.maxDepth,h 9999]
theorem neq_some_nil{P:Program}(w:World){tp te:TypeId}(a:Addr)(hp:P.underlying tp=some (.pointer te)):(binOp .neq tp (.pointer (some a)) (.pointer none)).run P w=.ok (.bool true) w:=by
 have h:∀d:Nat,(Op.equalIn (d+1) tp (.pointer (some a)) (.pointer none)).run P w=.ok false w:=fun d=>by
  simp[Op.equalIn,run_underlying hp]
 simp only[binOp];simp[Op.equal,Op.maxDepth,h 9999]
theorem region_tail{P:Program}{id:Nat}{Q:Exit->Act->World->Prop}{a:Act}{w:World}{l:List Oper}(n:Nat)(hm:P.follows .mixedOrders=true)(hB:Region.lexTailB .any l.toArray n=true)
 (h:wpStill P l.toArray w.drew (fun a'=>wpList P l.toArray Q (l.drop n) a' w.drew) (l.take n) a):(Code.region id l.toArray true).wp P Q a w:=
 wp_region_still_tail n hm hB h
end
section
open Go.RowKit Go.Sort
variable [DecidableEq Blk] [Inhabited Blk]
theorem Same.ofBelow{w w':World}(h:Below w.heap.size w w')(S:List Nat):Same S w w':=⟨h.os,h.tape,h.output,h.size,fun k hk _=>h.block k hk⟩
theorem liteClone_calls(s:ByteArray)(w:World)(hlim:s.size<=1000) :
 Calls Tryz.prog 119 #[.string s] w fun e w'=>e=.returned (.string s)/\Below w.heap.size w w':=by
 by_cases h0:s.size=0
 ·have hs:s=⟨#[]⟩:=by
   apply ByteArray.ext;exact Array.eq_empty_of_size_eq_zero h0
  subst hs
  go_enter Tryz.func119,Tryz.ntmps119
  go_wp2
  go_ret
  exact⟨rfl,Below.refl _ _⟩
 ·obtain⟨i0,hi,hz0,hz1,hz2⟩:=info_parts Tryz.info5;have hinfo:(Tryz.prog.info? 5).map (·.size)=some 1:=by rw[hi];simp[hz1]
  have hco:Tryz.prog.cellsOf 5=1:=by simp[Program.cellsOf,hi,hz1]
  obtain⟨M,hM⟩:∃M,M=madeCells (Value.int .u8 0).cells (((s.size:Nat):Int).toNat * i0.size):=⟨_,rfl⟩
  have hMs:M.size=s.size:=by rw[hM,size_madeCells,hz1];simp
  have hmk:∀W:World,(Instr.makeSlice 41 (.int .i64 (s.size:Int)) (.int .i64 (s.size:Int))).run Tryz.prog W=.ok (.slice (some ⟨W.heap.size,0,none⟩) s.size s.size) (W.alloc (.cells M 5)):=fun W=>by
   have h:=run_make (P:=Tryz.prog) W 41 5 i0 (.int .u8 0) Tryz.underlying41 hi hz0 .i64 .i64 (s.size:Int) (s.size:Int) (by omega) (by omega) (by rw[hz2];omega) (by omega);rw[<-hM] at h;simpa using h
  clear hM;have hcp:=Lib.run_copy_row_string (P:=Tryz.prog) (w.alloc (.cells M 5)) 41 9 3 5 w.heap.size 0 s.size s.size s M 5 Tryz.underlying41 hinfo (heap_alloc_new w _) (Nat.le_refl _) (by omega);obtain⟨Y,hY⟩:∃Y,Y=(M.toList.take 0++Lib.byteCells s.data.toList++M.toList.drop (0+s.size)).toArray:=⟨_,rfl⟩
  rw[<-hY] at hcp;have hYl:Y.toList=Lib.byteCells s.data.toList:=by
   rw[hY,List.toList_toArray,List.take_zero,List.nil_append,List.drop_of_length_le (by rw[Array.length_toList];omega),List.append_nil]
  have hYs:Y.size=s.size:=by rw[<-Array.length_toList,hYl,Lib.byteCells_length,<-Lib.size_eq]
  have hgY:((w.alloc (.cells M 5)).setRow w.heap.size Y).heap[w.heap.size]? = some (.cells Y 5 (0,0)):=setRow_heap _ _ M _ 5 (0,0) (heap_alloc_new w _);have hne:s.data.toList≠[]:=fun e=>h0 (by rw[Lib.size_eq,e];rfl)
  have hUS:=Lib.run_unsafeString_row (P:=Tryz.prog) ((w.alloc (.cells M 5)).setRow w.heap.size Y) 186 3 9 5 Tryz.underlying186 hco w.heap.size Y.size (by unfold World.shape?;rw[hgY]) s.data.toList hne (by rw[<-Lib.size_eq];omega) (by rw[<-Lib.size_eq];omega)
   (fun j x hx=>Lib.cells_of_row hgY Y.size j _ (by rw[List.take_of_length_le (by rw[Array.length_toList];exact Nat.le_refl _),hYl];simp[Lib.byteCells,hx]))
  rw[<-Lib.size_eq] at hUS;clear hY
  go_enter Tryz.func119,Tryz.ntmps119
  go_wp2
  go_ret
  have hb1:Below w.heap.size w (w.alloc (.cells M 5)):=(Below.refl _ w).alloc (Nat.le_refl _) _;have hb2:Below w.heap.size (w.alloc (.cells M 5)) ((w.alloc (.cells M 5)).setRow w.heap.size Y):=⟨rfl,rfl,rfl,by simp,fun k hk=>setRow_other _ _ _ _ (by omega)⟩
  exact⟨rfl,Lib.below_freeze (hb1.trans hb2) (p:=⟨w.heap.size,0,none⟩) (Nat.le_refl _) _⟩
theorem clone_calls(s:ByteArray)(w:World)(hlim:s.size<=1000) :
 Calls Tryz.prog 83 #[.string s] w fun e w'=>e=.returned (.string s)/\Same [] w w':=by
 go_enter Tryz.func83,Tryz.ntmps83
 go_wp2_with (go_at_call 119;refine (liteClone_calls s _ hlim).mono ?_;rintro e w' ⟨rfl,hb⟩)
 go_ret
 exact⟨rfl,Same.ofBelow hb _⟩
structure RowAt(w:World)(g:Nat)(xs:List Nat)(cs:List Value):Prop where
 at_:At w g 3 cs
 eq:cs.take xs.length=xs.map (fun x:Nat=>Value.int .i64 x)
 le:xs.length<=cs.length
theorem RowAt.cell{w:World}{g:Nat}{xs:List Nat}{cs:List Value}(h:RowAt w g xs cs)(i:Nat)(hi:i < xs.length):cs[i]? = some (.int .i64 (xs[i]!:Nat)):=by
 have:(cs.take xs.length)[i]? = cs[i]?:=by rw[List.getElem?_take,if_pos hi]
 rw[<-this,h.eq];simp[List.getElem?_map,List.getElem?_eq_getElem hi,getElem!_pos xs i hi]
theorem RowAt.same{w w':World}{g:Nat}{xs:List Nat}{cs:List Value}(h:RowAt w g xs cs){S:List Nat}(hs:Same S w w')(hn:g∉S):RowAt w' g xs cs:=⟨hs.at h.at_ hn,h.eq,h.le⟩
structure NumsAt(w:World)(g:Nat)(cap:Nat)(l:List Nat):Prop where
 ex:∃cs,At w g 3 cs/\cs.length=cap/\cs.take l.length=l.map (fun x:Nat=>Value.int .i64 x)/\l.length<=cap/\cap<=maxLen
theorem NumsAt.same{w w':World}{g cap:Nat}{l:List Nat}(h:NumsAt w g cap l){S:List Nat}(hs:Same S w w')(hn:g∉S):NumsAt w' g cap l:=by
 obtain⟨cs,h1,h2⟩:=h.ex;exact⟨cs,hs.at h1 hn,h2⟩
theorem NumsAt.lt{w:World}{g cap:Nat}{l:List Nat}(h:NumsAt w g cap l):g < w.heap.size:=by
 obtain⟨cs,h1,h2⟩:=h.ex;exact h1.lt
theorem NumsAt.cell{w:World}{g cap:Nat}{l:List Nat}(h:NumsAt w g cap l)(i:Nat)(hi:i < l.length):w.cell? ⟨g,i,none⟩=some (.int .i64 (l[i]!:Nat)):=by
 obtain⟨cs,h1,h2,h3,h4⟩:=h.ex;have e:(cs.take l.length)[i]? = cs[i]?:=by rw[List.getElem?_take,if_pos hi]
 rw[h1.cell?,<-e,h3];simp[List.getElem?_map,List.getElem?_eq_getElem hi,getElem!_pos l i hi]
theorem nums_owns{w:World}{g cap:Nat}{l:List Nat}(h:NumsAt w g cap l){n:Nat}(hn:n=l.length):w.ownsRow 0 3 1 (.slice (some ⟨g,0,none⟩) n cap) n (l.map (fun x:Nat=>Value.int .i64 x)):=by
 obtain⟨cs,h1,h2,h3,h4,h5⟩:=h.ex;subst hn;refine⟨by simp,.inr ⟨g,cap,cs.toArray,rfl,Nat.zero_le _,h1,h4,h5,by simpa using h2,by simpa using h3⟩⟩
theorem owns_nums{w:World}{base:Nat}{v:Value}{n:Nat}{l:List Nat}(h:w.ownsRow base 3 1 v n (l.map (fun x:Nat=>Value.int .i64 x)))(hl:l≠[]) :
 ∃g cap,v=.slice (some ⟨g,0,none⟩) l.length cap/\base<=g/\NumsAt w g cap l:=by
 have hn:l.length=n:=by simpa using h.1
 rcases h.2 with⟨h1,h2⟩|⟨g,cap',cur,h1,h2,h3,h4,h5,h6,h7⟩
 ·exact absurd (List.eq_nil_of_length_eq_zero (hn.trans h2)) hl
 ·refine⟨g,cap',by rw[hn];exact h1,h2,⟨cur.toList,?_,by simpa using h6,by simpa [hn] using h7,by omega,h5⟩⟩;unfold At;simpa using h3
structure Vol where
 vb:Nat
 gb:Nat
 name:ByteArray
 xs:List Nat
 org:Option Nat
 kg:Option Nat
 kept:List Nat
 lost:Bool
end
section
open Go.RowKit Go.Sort
variable [DecidableEq Blk] [Inhabited Blk] [Inhabited Vol]
def Vol.foot(v:Vol):List Nat:=v.vb :: v.gb :: v.kg.toList
def adr(b:Option Nat):Option Addr:=b.map fun b=>⟨b,0,none⟩
def Vol.cells(v:Vol)(cap kcap:Nat):List Value:=[.string v.name,.slice (some ⟨v.gb,0,none⟩) v.xs.length cap,.pointer (adr v.org),.slice (adr v.kg) v.kept.length kcap,.bool v.lost]
structure VolAt(w:World)(v:Vol):Prop where
 vol:∃cap kcap,v.xs.length<=cap/\At w v.vb 133 (v.cells cap kcap)/\(v.kg=none->v.kept=[]/\kcap=0)/\(∀g,v.kg=some g->NumsAt w g kcap v.kept)
 row:∃cs,RowAt w v.gb v.xs cs
 nodup:v.foot.Nodup
 pos:v.xs≠[]
 small:v.xs.length<=200
 room:v.kept.length<=v.xs.length
 plain:v.org=none->v.kg=none/\v.lost=false
theorem VolAt.kept_nil{w:World}{v:Vol}(h:VolAt w v)(ho:v.org=none):v.kept=[]:=by
 obtain⟨cap,kcap,hc,hv,hk,hg⟩:=h.vol;exact (hk (h.plain ho).1).1
theorem VolAt.same{w w':World}{v:Vol}(h:VolAt w v){S:List Nat}(hs:Same S w w')(h1:∀k∈v.foot,k∉S):VolAt w' v:=by
 obtain⟨cap,kcap,hc,hv,hk,hg⟩:=h.vol;obtain⟨cs,hr⟩:=h.row;exact⟨⟨cap,kcap,hc,hs.at hv (h1 _ (by simp[Vol.foot])),hk,fun g e=>(hg g e).same hs (h1 _ (by simp[Vol.foot,e]))⟩,⟨cs,hr.same hs (h1 _ (by simp[Vol.foot]))⟩,h.nodup,h.pos,h.small,h.room,h.plain⟩
theorem VolAt.new{w w':World}{v:Vol}(h:VolAt w v)(hs:Same [] w w'):VolAt w' v:=h.same hs (by simp)
theorem VolAt.foot_lt{w:World}{v:Vol}(h:VolAt w v):∀k∈v.foot,k < w.heap.size:=by
 obtain⟨cap,kcap,hc,hv,hk,hg⟩:=h.vol;obtain⟨cs,hr⟩:=h.row;intro k hm;simp only[Vol.foot,List.mem_cons,Option.mem_toList,Option.mem_def] at hm;rcases hm with rfl|rfl|e
 ·exact hv.lt
 ·exact hr.at_.lt
 ·exact (hg k e).lt
theorem isPicture_calls(v:Vol)(w:World)(h:VolAt w v) :
 Calls Tryz.prog 88 #[.pointer (some ⟨v.vb,0,none⟩)] w fun e w'=>e=.returned (.bool v.org.isSome)/\w'=w:=by
 obtain⟨cap,kcap,hc,hv,hk,hg⟩:=h.vol;have c2:w.cell? ⟨v.vb,2,none⟩=some (.pointer (adr v.org)):=hv.cell? 2;clear h hv hk hg;cases ho:v.org with
 | none=>
  rw[ho] at c2;have hq:=neq_nil_nil (P:=Tryz.prog) w Tryz.underlying110;simp only[adr,Option.map_none] at c2
  go_enter Tryz.func88,Tryz.ntmps88
  go_wp2
  go_ret
  exact⟨rfl,rfl⟩
 | some o=>
  rw[ho] at c2;have hq:=neq_some_nil (P:=Tryz.prog) w ⟨o,0,none⟩ Tryz.underlying110;simp only[adr,Option.map_some] at c2
  go_enter Tryz.func88,Tryz.ntmps88
  go_wp2
  go_ret
  exact⟨rfl,rfl⟩
theorem size_vol(v:Vol)(w:World)(h:VolAt w v)(ho:v.org=none) :
 Calls Tryz.prog 94 #[.pointer (some ⟨v.vb,0,none⟩)] w fun e w'=>e=.returned (.int .i64 v.xs.length)/\w'=w:=by
 have hI:=isPicture_calls v w h;rw[ho] at hI;obtain⟨cap,kcap,hc,hv,hk,hg⟩:=h.vol;have c1:w.cell? ⟨v.vb,1,none⟩=some (.slice (some ⟨v.gb,0,none⟩) v.xs.length cap):=hv.cell? 1;have hs:=h.small;clear h hv hk hg
 go_enter Tryz.func94,Tryz.ntmps94
 go_wp2_with (go_at_call 88;refine hI.mono ?_;rintro e w' ⟨rfl,rfl⟩)
 go_ret
 exact⟨rfl,rfl⟩
theorem size_pic(v u:Vol)(w:World)(h:VolAt w v)(hu:VolAt w u)(ho:v.org=some u.vb)(hu0:u.org=none) :
 Calls Tryz.prog 94 #[.pointer (some ⟨v.vb,0,none⟩)] w fun e w'=>e=.returned (.int .i64 u.xs.length)/\w'=w:=by
 have hI:=isPicture_calls v w h;rw[ho] at hI;have hz:=size_vol u w hu hu0;obtain⟨cap,kcap,hc,hv,hk,hg⟩:=h.vol;have c2:w.cell? ⟨v.vb,2,none⟩=some (.pointer (adr v.org)):=hv.cell? 2;rw[ho] at c2;simp only[adr,Option.map_some] at c2;clear h hv hk hg hu
 go_enter Tryz.func94,Tryz.ntmps94
 go_wp2_with (first|(go_at_call 88;refine hI.mono ?_;rintro e w' ⟨rfl,rfl⟩)|(go_at_call 94;refine hz.mono ?_;rintro e w' ⟨rfl,rfl⟩))
 go_ret
 exact⟨rfl,rfl⟩
theorem hasPlace_calls(vb n:Nat)(k:Int)(w:World)(hn:n<=1000)
 (hc:Calls Tryz.prog 94 #[.pointer (some ⟨vb,0,none⟩)] w fun e w'=>e=.returned (.int .i64 n)/\w'=w) :
 Calls Tryz.prog 121 #[.pointer (some ⟨vb,0,none⟩),.int .i64 k] w fun e w'=>e=.returned (.bool (decide (0<=k/\k < n)))/\w'=w:=by
 by_cases h1:0<=k
 ·by_cases h2:k < n
  ·have e:decide (0<=k/\k < n)=true:=decide_eq_true ⟨h1,h2⟩;rw[e]
   go_enter Tryz.func121,Tryz.ntmps121
   go_wp2_with (go_at_call 94;refine hc.mono ?_;rintro e w' ⟨rfl,rfl⟩)
   go_ret
   simp[h1,h2]
  ·have e:decide (0<=k/\k < n)=false:=decide_eq_false (by omega);rw[e]
   go_enter Tryz.func121,Tryz.ntmps121
   go_wp2_with (go_at_call 94;refine hc.mono ?_;rintro e w' ⟨rfl,rfl⟩)
   go_ret
   simp[h1,h2]
 ·have e:decide (0<=k/\k < n)=false:=decide_eq_false (by omega);rw[e];have h1':decide (0<=k)=false:=decide_eq_false h1
  go_enter Tryz.func121,Tryz.ntmps121
  go_wp2_with (go_at_call 94;refine hc.mono ?_;rintro e w' ⟨rfl,rfl⟩)
  go_ret
  simp[h1]
theorem ints_one(xs:List Nat):∀u∈xs.map (fun x:Nat=>Value.int .i64 x),u.oneCell'=true:=by
 intro u hu;obtain⟨x,_,rfl⟩:=List.mem_map.1 hu;rfl
theorem owns_row_at{w:World}{base:Nat}{a:Option Addr}{cap n:Nat}{xs:List Nat}(h:w.ownsRow base 3 1 (.slice a n cap) n (xs.map (fun x:Nat=>Value.int .i64 x)))(hn:n=xs.length)(hp:xs≠[]) :
 ∃g cs,a=some ⟨g,0,none⟩/\base<=g/\RowAt w g xs cs/\xs.length<=cap:=by
 subst hn;obtain⟨g,cs,h1,h2,h3,h4,h5,h6⟩:=owns_at h (by cases xs<;>simp at *);exact⟨g,cs,h1,h2,⟨h3,h6,by omega⟩,h4⟩
theorem sliceClone_calls(gb cap:Nat)(xs:List Nat)(cs:List Value)(w:World)(hr:RowAt w gb xs cs)(hp:xs≠[])(hs:xs.length<=200) :
 Calls Tryz.prog 116 #[.slice (some ⟨gb,0,none⟩) xs.length cap] w fun e w'=>∃g cap' cs',e=.returned (.slice (some ⟨g,0,none⟩) xs.length cap')/\w.heap.size<=g/\RowAt w' g xs cs'/\xs.length<=cap'/\Same [] w w':=by
 obtain⟨i0,hi,hz0,hz1,hz2⟩:=info_parts Tryz.info3;have hpos:0 < xs.length:=by cases xs<;>simp at *
 have lg:=hr.at_.lt
 go_enter Tryz.func116,Tryz.ntmps116
 have hnil:(binOp .eql 51 (.slice (some ⟨gb,0,none⟩) xs.length cap) (.slice none 0 0)).run Tryz.prog w=.ok (.bool false) w:=Lib.run_eql_slice_nil w _ _ _ _ _ _ _ Tryz.underlying51
 go_wp2_with (at_builtin;refine wpList_append_grows _ rfl _ _ 51 rfl 3 i0 (.int .i64 0) 1 8 Tryz.underlying51 hi hz0 hz1 hz2 rfl (by decide) (some ⟨w.heap.size,0,none⟩) 0 0 [] rfl (by intro h;cases h) rfl (by intro b _ j u hu;simp at hu) ⟨gb,0,none⟩ xs.length cap (xs.map (fun x:Nat=>Value.int .i64 x)) rfl (by simp) ?c1 (ints_one xs) (by omega) (by unfold maxLen;omega) (by omega) ?_)
 case c1=>
  intro j u hj;have hl:j < xs.length:=by
   rcases Nat.lt_or_ge j xs.length with h|h
   ·exact h
   ·rw[List.getElem?_eq_none (by simpa using h)] at hj;cases hj
  rw[Addr.add_lit,Nat.zero_add,(hr.at_.alloc _).cell?,hr.cell j hl];rw[<-hj];simp[List.getElem?_map,List.getElem?_eq_getElem hl,getElem!_pos xs j hl]
 intro v' w1 hown hgrow
 try rw[Nat.zero_add,List.nil_append] at hown
 obtain⟨a',cap',rfl⟩:=owns_form hown;obtain⟨g,cs',rfl,hg,hR,hle⟩:=owns_row_at hown rfl hp;have S1:Same [] w w1:=((Same.refl _ _).alloc _).grown hgrow (fun k hk=>by cases hk);have hg':w.heap.size<=g:=by omega
 clear hown hgrow hr
 go_wp2
 go_ret
 exact⟨g,cap',cs',rfl,hg',hR,hle,S1⟩
theorem numbers_calls(v:Vol)(w:World)(h:VolAt w v) :
 Calls Tryz.prog 78 #[.pointer (some ⟨v.vb,0,none⟩)] w fun e w'=>∃g cs',e=.returned (.slice (some ⟨g,0,none⟩) v.xs.length v.xs.length)/\w.heap.size<=g/\RowAt w' g v.xs cs'/\Same [] w w':=by
 obtain⟨cap,kcap,hcap,hv,_,_⟩:=h.vol;obtain⟨cs,hr⟩:=h.row;have c1:w.cell? ⟨v.vb,1,none⟩=some (.slice (some ⟨v.gb,0,none⟩) v.xs.length cap):=hv.cell? 1;have hs:=h.small;have hp:=h.pos
 go_enter Tryz.func78,Tryz.ntmps78
 go_wp2_with fail
 refine (sliceClone_calls v.gb cap v.xs cs w hr hp hs).mono ?_;rintro e w1 ⟨g,cap',cs',rfl,hg,hR,hle,S1⟩;clear h hv hr
 go_wp2
 go_ret
 exact⟨g,cs',rfl,hg,hR,S1⟩
theorem cut_calls(v:Vol)(k:Nat)(w:World)(h:VolAt w v)(ho:v.org=none)(h1:1<=k)(hk:k < v.xs.length) :
 Calls Tryz.prog 96 #[.pointer (some ⟨v.vb,0,none⟩),.int .i64 k] w fun e w'=>e=.returned (.slice (some ⟨v.gb,k,none⟩) (v.xs.length - k) (v.xs.length - k)) /\
  VolAt w' { v with xs:=v.xs.take k }/\Same [v.vb] w w':=by
 obtain⟨cap,kcap,hcap,hv,hk1,hk2⟩:=h.vol;have hkg:=(h.plain ho).1;have S1:Same [v.vb] w (w.setCell ⟨v.vb,1,none⟩ (.slice (some ⟨v.gb,0,none⟩) k k)):=(Same.refl _ _).set v.vb 1 _ (by simp);have V1:VolAt (w.setCell ⟨v.vb,1,none⟩ (.slice (some ⟨v.gb,0,none⟩) k k)) { v with xs:=v.xs.take k }:=by
  have A1:=hv.set_same 1 (.slice (some ⟨v.gb,0,none⟩) k k);simp only[Vol.cells,List.set_cons_succ,List.set_cons_zero] at A1;have hl:(v.xs.take k).length=k:=by rw[List.length_take];omega
  obtain⟨cs,hr⟩:=h.row;have hnd:=h.nodup;have hne:v.gb∉[v.vb]:=by
   simp only[Vol.foot,List.nodup_cons,List.mem_cons,not_or] at hnd;simp;exact fun e=>hnd.1.1 e.symm
  refine⟨⟨k,kcap,by simp[hl],by simp only[Vol.cells,hl];exact A1,hk1,fun g hg=>(hk2 g hg).same S1 (by rw[hkg] at hg;cases hg)⟩,⟨cs,⟨S1.at hr.at_ hne,?_,?_⟩⟩,h.nodup,?_,?_,?_,h.plain⟩
  ·have e1:cs.take k=(cs.take v.xs.length).take k:=by rw[List.take_take,Nat.min_eq_left (by omega)]
   show cs.take (v.xs.take k).length=_;rw[hl,e1,hr.eq,List.map_take]
  ·have:=hr.le;show (v.xs.take k).length<=_;omega
  ·intro e;have e':(v.xs.take k).length=0:=by show ({ v with xs:=v.xs.take k }:Vol).xs.length=0;rw[e];rfl
   omega
  ·show (v.xs.take k).length<=200;have:=h.small;omega
  ·show v.kept.length<=_;rw[h.kept_nil ho];simp
 have c1:w.cell? ⟨v.vb,1,none⟩=some (.slice (some ⟨v.gb,0,none⟩) v.xs.length cap):=hv.cell? 1;have f1:w.frozen? ⟨v.vb,1,none⟩=false:=hv.frozen 1;have hs:=h.small;clear h hv hk1 hk2
 go_enter Tryz.func96,Tryz.ntmps96
 go_wp2
 go_ret
 exact⟨rfl,V1,S1⟩
theorem cut_whole(v:Vol)(k:Nat)(w:World)(h:VolAt w v)(ho:v.org=none)(h1:1<=k)(hk:k=v.xs.length) :
 Calls Tryz.prog 96 #[.pointer (some ⟨v.vb,0,none⟩),.int .i64 k] w fun e w'=>e=.returned (.slice (some ⟨v.gb,0,none⟩) 0 0) /\
  VolAt w' { v with xs:=v.xs.take k }/\Same [v.vb] w w':=by
 obtain⟨cap,kcap,hcap,hv,hk1,hk2⟩:=h.vol;have hkg:=(h.plain ho).1;have S1:Same [v.vb] w (w.setCell ⟨v.vb,1,none⟩ (.slice (some ⟨v.gb,0,none⟩) k k)):=(Same.refl _ _).set v.vb 1 _ (by simp);have V1:VolAt (w.setCell ⟨v.vb,1,none⟩ (.slice (some ⟨v.gb,0,none⟩) k k)) { v with xs:=v.xs.take k }:=by
  have A1:=hv.set_same 1 (.slice (some ⟨v.gb,0,none⟩) k k);simp only[Vol.cells,List.set_cons_succ,List.set_cons_zero] at A1;have hl:(v.xs.take k).length=k:=by rw[List.length_take];omega
  obtain⟨cs,hr⟩:=h.row;have hnd:=h.nodup;have hne:v.gb∉[v.vb]:=by
   simp only[Vol.foot,List.nodup_cons,List.mem_cons,not_or] at hnd;simp;exact fun e=>hnd.1.1 e.symm
  refine⟨⟨k,kcap,by simp[hl],by simp only[Vol.cells,hl];exact A1,hk1,fun g hg=>(hk2 g hg).same S1 (by rw[hkg] at hg;cases hg)⟩,⟨cs,⟨S1.at hr.at_ hne,?_,?_⟩⟩,h.nodup,?_,?_,?_,h.plain⟩
  ·have e1:cs.take k=(cs.take v.xs.length).take k:=by rw[List.take_take,Nat.min_eq_left (by omega)]
   show cs.take (v.xs.take k).length=_;rw[hl,e1,hr.eq,List.map_take]
  ·have:=hr.le;show (v.xs.take k).length<=_;omega
  ·intro e;have e':(v.xs.take k).length=0:=by show ({ v with xs:=v.xs.take k }:Vol).xs.length=0;rw[e];rfl
   omega
  ·show (v.xs.take k).length<=200;have:=h.small;omega
  ·show v.kept.length<=_;rw[h.kept_nil ho];simp
 have c1:w.cell? ⟨v.vb,1,none⟩=some (.slice (some ⟨v.gb,0,none⟩) v.xs.length cap):=hv.cell? 1;have f1:w.frozen? ⟨v.vb,1,none⟩=false:=hv.frozen 1;have hs:=h.small;clear h hv hk1 hk2;subst hk
 go_enter Tryz.func96,Tryz.ntmps96
 go_wp2
 go_ret
 exact⟨rfl,V1,S1⟩
theorem row_cells{w:World}{g:Nat}{xs:List Nat}{cs:List Value}(h:RowAt w g xs cs):∀j u,(xs.map (fun x:Nat=>Value.int .i64 x))[j]? = some u->w.cell? ⟨g,j,none⟩=some u:=by
 intro j u hj;have hl:j < xs.length:=by
  rcases Nat.lt_or_ge j xs.length with h|h
  ·exact h
  ·rw[List.getElem?_eq_none (by simpa using h)] at hj;cases hj
 rw[h.at_.cell?,h.cell j hl,<-hj];simp[List.getElem?_map,List.getElem?_eq_getElem hl,getElem!_pos xs j hl]
theorem extend_calls(v:Vol)(mb c:Nat)(ys:List Nat)(ms:List Value)(w:World)(h:VolAt w v)(ho:v.org=none)(hm:RowAt w mb ys ms)(hy:ys≠[])(hs:v.xs.length+ys.length<=200) :
 Calls Tryz.prog 98 #[.pointer (some ⟨v.vb,0,none⟩),.slice (some ⟨mb,0,none⟩) ys.length c] w fun e w'=>e=.returned (.tuple #[])/\∃g,w.heap.size<=g/\VolAt w' { v with gb:=g,xs:=v.xs++ys }/\Same [v.vb] w w':=by
 obtain⟨cap,kcap,hcap,hv,hk1,hk2⟩:=h.vol;obtain⟨cs,hr⟩:=h.row;have hkg:=(h.plain ho).1;have c1:w.cell? ⟨v.vb,1,none⟩=some (.slice (some ⟨v.gb,0,none⟩) v.xs.length cap):=hv.cell? 1;have hpos:0 < ys.length:=by cases ys<;>simp at *
 have lv:=hv.lt;obtain⟨i0,hi,hz0,hz1,hz2⟩:=info_parts Tryz.info3
 go_enter Tryz.func98,Tryz.ntmps98
 go_wp2_with (at_builtin;refine wpList_append_grows _ rfl _ _ 51 rfl 3 i0 (.int .i64 0) 1 8 Tryz.underlying51 hi hz0 hz1 hz2 rfl (by decide) (some ⟨v.gb,0,none⟩) v.xs.length v.xs.length (v.xs.map (fun x:Nat=>Value.int .i64 x)) rfl (by intro h;cases h) (by simp) (by intro b hb j u hu;simp only[Option.some.injEq] at hb;subst hb;rw[Addr.add_lit,Nat.zero_add];exact row_cells hr j u hu) ⟨mb,0,none⟩ ys.length c (ys.map (fun x:Nat=>Value.int .i64 x)) rfl (by simp) (by intro j u hu;rw[Addr.add_lit,Nat.zero_add];exact row_cells hm j u hu) (ints_one ys) (by omega) (by unfold maxLen;omega) (by omega) ?_)
 intro v' w1 hown hgrow;rw[<-List.map_append] at hown;obtain⟨a',cap',rfl⟩:=owns_form hown;obtain⟨g,cs',rfl,hg,hR,hle⟩:=owns_row_at hown (by simp) (by simp[hy]);have A1:At w1 v.vb _ _:=hv.of_heap (hgrow.block v.vb lv (by simp));have b1:w1.cell? ⟨v.vb,1,none⟩=some (.slice (some ⟨v.gb,0,none⟩) v.xs.length cap):=A1.cell? 1;have g1:w1.frozen? ⟨v.vb,1,none⟩=false:=A1.frozen 1;have A2:=A1.set_same 1 (.slice (some ⟨g,0,none⟩) (v.xs.length+ys.length) cap');simp only[Vol.cells,List.set_cons_succ,List.set_cons_zero] at A2;have hge:v.vb≠g:=by omega
 have R2:RowAt (w1.setCell ⟨v.vb,1,none⟩ (.slice (some ⟨g,0,none⟩) (v.xs.length+ys.length) cap')) g (v.xs++ys) cs':=⟨hR.at_.set_other v.vb 1 _ (Ne.symm hge),hR.eq,hR.le⟩
 have S2:Same [v.vb] w (w1.setCell ⟨v.vb,1,none⟩ (.slice (some ⟨g,0,none⟩) (v.xs.length+ys.length) cap')):=((Same.refl _ _).grown hgrow (by simp)).set v.vb 1 _ (by simp);have V2:VolAt (w1.setCell ⟨v.vb,1,none⟩ (.slice (some ⟨g,0,none⟩) (v.xs.length+ys.length) cap')) { v with gb:=g,xs:=v.xs++ys }:=
  ⟨⟨cap',kcap,by simpa using hle,by simp only[Vol.cells,List.length_append];exact A2,hk1,fun g' hg'=>by rw[hkg] at hg';cases hg'⟩,⟨cs',R2⟩,by simp[Vol.foot,hkg,hge],by simp[hy],by simpa using hs,by show v.kept.length<=_;rw[h.kept_nil ho];simp,h.plain⟩
 clear A1 A2 R2 hR hown hgrow h hm hv hr c1 hk1 hk2
 go_wp2
 refine bodyPost_end (results_none rfl _ _ _) rfl ⟨rfl,g,hg,V2,S2⟩
theorem idxOf_at:∀(l:List Nat) (j k:Nat),j < l.length->l[j]! = k->k∉l.take j->l.idxOf k=j
 | [],j,k,h,_,_=>by simp at h
 | a :: r,0,k,_,e,_=>by simp at e;simp[e]
 | a :: r,j+1,k,h,e,hn=>by
  simp only[List.take_succ_cons,List.mem_cons,not_or] at hn;have:=idxOf_at r j k (by simpa using h) (by simpa using e) hn.2;rw[List.idxOf_cons,this];have:(a == k)=false:=beq_eq_false_iff_ne.2 (fun e=>hn.1 e.symm);simp[this]
theorem idxOf_lt{l:List Nat}{k:Nat}(h:k∈l):l.idxOf k < l.length:=List.idxOf_lt_length_of_mem h
theorem idxOf_get{l:List Nat}{k:Nat}(h:k∈l):l[l.idxOf k]! = k:=by
 rw[getElem!_pos l _ (idxOf_lt h)];exact List.getElem_idxOf (idxOf_lt h)
def placeOf(l:List Nat)(k:Nat):Int:=if k∈l then ((l.idxOf k:Nat):Int) else -1
theorem index_nums(l:List Nat)(og:Option Nat)(cap k:Nat)(w:World)(s:Value)(hs:s=.slice (adr og) l.length cap)(hk1:og=none->l=[]/\cap=0)(hk2:∀g,og=some g->NumsAt w g cap l)(hl:l.length<=200) :
 Calls Tryz.prog 138 #[s,.int .i64 k] w fun e w'=>e=.returned (.int .i64 (placeOf l k))/\w'=w:=by
 subst hs;generalize hres:placeOf l k=res at *;have HRES:Hid (placeOf l k=res):=hres;clear hres
 go_enter Tryz.func138,Tryz.ntmps138
 go_wp2
 go_loopw [8] (fun i wr=>∃j:Nat,j<=l.length/\i=.int .i64 j/\wr=w/\Hid (k∉l.take j)) (fun i _=>l.length - (intOf i).toNat)
 case atStart=>exact⟨0,Nat.zero_le _,rfl,rfl,by show _∉_;simp⟩
 case round=>
  obtain⟨j,hj,rfl,rfl,HJ⟩:=hrel;by_cases hjl:j < l.length
  ·obtain⟨g,hg⟩:∃g,og=some g:=by
    cases hgk:og with
    | none=>rw[(hk1 hgk).1] at hjl;simp at hjl
    | some g=>exact⟨g,rfl⟩
   have cj:=(hk2 g hg).cell j hjl;subst hg;simp only[adr,Option.map_some];have HTJ:Hid (l.take (j+1)=l.take j++[l[j]!]):=by show _=_;rw[List.take_succ_eq_append_getElem hjl,getElem!_pos l j hjl]
   have HMJ:Hid (l[j]!∈l):=by show _∈_;rw[getElem!_pos l j hjl];exact List.getElem_mem hjl
   have HI:Hid (l[j]! = k->l.idxOf k=j):=fun e=>idxOf_at l j k hjl e HJ.out
   generalize l[j]! = y at *;have l2:(j:Int) < (l.length:Int):=by omega
   clear hk1 hk2;by_cases hy:y=k
   ·subst hy;have HF:Hid (res=(j:Int)):=by show _=_;rw[<-HRES.out,placeOf,if_pos HMJ.out,HI.out rfl]
    go_wp2
    go_ret
    rw[HF.out];exact⟨rfl,rfl⟩
   ·have hy':((k:Int) == (y:Int))=false:=beq_eq_false_iff_ne.2 (by omega)
    go_wp2
    go_roundw
    case rel=>exact⟨j+1,by omega,by go_num,by first|rfl|trivial,by show _∉_;rw[HTJ.out];simp[HJ.out];exact fun e=>hy e.symm⟩
    case measure=>simp[intOf];omega
  ·have ej:j=l.length:=by omega
   have HF:Hid (res=-1):=by
    show _=_;have:=HJ.out;rw[ej,List.take_length] at this;rw[<-HRES.out,placeOf,if_neg this]
   subst ej;clear HJ hk1 hk2
   go_wp2
   go_ret
   rw[HF.out];exact⟨rfl,rfl⟩
theorem keptIn_not(v:Vol)(k:Nat)(w:World)(h:VolAt w v)(hk:k∉v.kept) :
 Calls Tryz.prog 122 #[.pointer (some ⟨v.vb,0,none⟩),.int .i64 k] w fun e w'=>e=.returned (.tuple #[.int .i64 0,.bool false])/\w'=w:=by
 obtain⟨cap,kcap,hcap,hv,hk1,hk2⟩:=h.vol;have hX:=fun s hs=>index_nums v.kept v.kg kcap k w s hs hk1 hk2 (by have:=h.small;have:=h.room;omega)
 rw[placeOf,if_neg hk] at hX;have c3:w.cell? ⟨v.vb,3,none⟩=some (.slice (adr v.kg) v.kept.length kcap):=hv.cell? 3;clear h hv hk1 hk2
 go_enter Tryz.func122,Tryz.ntmps122
 go_wp2_with (go_at_call 138;refine (hX _ rfl).mono ?_;rintro e w' ⟨rfl,rfl⟩)
 go_ret2
 exact⟨rfl,rfl⟩
theorem keptIn_has(v:Vol)(k:Nat)(w:World)(h:VolAt w v)(hk:k∈v.kept) :
 Calls Tryz.prog 122 #[.pointer (some ⟨v.vb,0,none⟩),.int .i64 k] w fun e w'=>e=.returned (.tuple #[.int .i64 (v.xs[v.kept.idxOf k]!:Nat),.bool true])/\w'=w:=by
 obtain⟨cap,kcap,hcap,hv,hk1,hk2⟩:=h.vol;have hX:=fun s hs=>index_nums v.kept v.kg kcap k w s hs hk1 hk2 (by have:=h.small;have:=h.room;omega)
 rw[placeOf,if_pos hk] at hX;have c3:w.cell? ⟨v.vb,3,none⟩=some (.slice (adr v.kg) v.kept.length kcap):=hv.cell? 3;have c1:w.cell? ⟨v.vb,1,none⟩=some (.slice (some ⟨v.gb,0,none⟩) v.xs.length cap):=hv.cell? 1;obtain⟨cs,hr⟩:=h.row;have hlt:v.kept.idxOf k < v.xs.length:=Nat.lt_of_lt_of_le (idxOf_lt hk) h.room;have cx:w.cell? ⟨v.gb,v.kept.idxOf k,none⟩=some (.int .i64 (v.xs[v.kept.idxOf k]!:Nat)):=by rw[hr.at_.cell?];exact hr.cell _ hlt
 have hs:=h.small;clear h hv hk1 hk2 hr;generalize v.xs[v.kept.idxOf k]! = y at *;generalize v.kept.idxOf k=i at *;have l1:(i:Int) < (v.xs.length:Int):=by omega
 have l2:¬((i:Int) < 0):=by omega
 go_enter Tryz.func122,Tryz.ntmps122
 go_wp2_with (go_at_call 138;refine (hX _ rfl).mono ?_;rintro e w' ⟨rfl,rfl⟩)
 go_ret2
 exact⟨rfl,rfl⟩
theorem holder_vol(v:Vol)(k:Nat)(w:World)(h:VolAt w v)(ho:v.org=none)(hk:k < v.xs.length) :
 Calls Tryz.prog 87 #[.pointer (some ⟨v.vb,0,none⟩),.int .i64 k] w fun e w'=>e=.returned (.int .i64 (v.xs[k]!:Nat))/\w'=w:=by
 have hI:=isPicture_calls v w h;rw[ho] at hI;obtain⟨cap,kcap,hcap,hv,hk1,hk2⟩:=h.vol;have c1:w.cell? ⟨v.vb,1,none⟩=some (.slice (some ⟨v.gb,0,none⟩) v.xs.length cap):=hv.cell? 1;obtain⟨cs,hr⟩:=h.row;have cx:w.cell? ⟨v.gb,k,none⟩=some (.int .i64 (v.xs[k]!:Nat)):=by rw[hr.at_.cell?];exact hr.cell _ hk
 have hs:=h.small;have hnot:∀(x:Bool) (w:World),(Op.unary .not (.bool x)).run Tryz.prog w=.ok (.bool (!x)) w:=fun _ _=>rfl
 clear h hv hk1 hk2 hr;generalize v.xs[k]! = y at *;have l1:(k:Int) < (v.xs.length:Int):=by omega
 go_enter Tryz.func87,Tryz.ntmps87
 go_wp2_with (go_at_call 88;refine hI.mono ?_;rintro e w' ⟨rfl,rfl⟩)
 go_ret
 exact⟨rfl,rfl⟩
theorem holder_kept(v:Vol)(k:Nat)(w:World)(h:VolAt w v)(ho:v.org≠none)(hk:k∈v.kept) :
 Calls Tryz.prog 87 #[.pointer (some ⟨v.vb,0,none⟩),.int .i64 k] w fun e w'=>e=.returned (.int .i64 (v.xs[v.kept.idxOf k]!:Nat))/\w'=w:=by
 have hI:=isPicture_calls v w h;have ho':v.org.isSome=true:=by cases hq:v.org<;>simp_all
 rw[ho'] at hI;have hK:=keptIn_has v k w h hk;have hnot:∀(x:Bool) (w:World),(Op.unary .not (.bool x)).run Tryz.prog w=.ok (.bool (!x)) w:=fun _ _=>rfl
 clear h;generalize v.xs[v.kept.idxOf k]! = y at *
 go_enter Tryz.func87,Tryz.ntmps87
 go_wp2_with (first|(go_at_call 88;refine hI.mono ?_;rintro e w' ⟨rfl,rfl⟩)|(go_at_call 122;refine hK.mono ?_;rintro e w' ⟨rfl,rfl⟩))
 go_ret
 exact⟨rfl,rfl⟩
theorem holder_through(v u:Vol)(k:Nat)(w:World)(h:VolAt w v)(hu:VolAt w u)(ho:v.org=some u.vb)(hu0:u.org=none)(hk:k∉v.kept)(hku:k < u.xs.length) :
 Calls Tryz.prog 87 #[.pointer (some ⟨v.vb,0,none⟩),.int .i64 k] w fun e w'=>e=.returned (.int .i64 (u.xs[k]!:Nat))/\w'=w:=by
 have hI:=isPicture_calls v w h;rw[ho] at hI;have hK:=keptIn_not v k w h hk;have hH:=holder_vol u k w hu hu0 hku;obtain⟨cap,kcap,hcap,hv,hk1,hk2⟩:=h.vol;have c2:w.cell? ⟨v.vb,2,none⟩=some (.pointer (adr v.org)):=hv.cell? 2;rw[ho] at c2;simp only[adr,Option.map_some] at c2;have hnot:∀(x:Bool) (w:World),(Op.unary .not (.bool x)).run Tryz.prog w=.ok (.bool (!x)) w:=fun _ _=>rfl
 clear h hv hk1 hk2 hu;generalize u.xs[k]! = y at *
 go_enter Tryz.func87,Tryz.ntmps87
 go_wp2_with (first|(go_at_call 88;refine hI.mono ?_;rintro e w' ⟨rfl,rfl⟩)|(go_at_call 122;refine hK.mono ?_;rintro e w' ⟨rfl,rfl⟩)|(go_at_call 87;refine hH.mono ?_;rintro e w' ⟨rfl,rfl⟩))
 go_ret
 exact⟨rfl,rfl⟩
end
end Go.Proofs.YtpddgdjocffgdaaGreat
