/- Load: its parts, by contracts. Load, by contract. A Pool that was loaded is a Pool: what memory has is its state, and the state is good. The reference's reader of an image: the entries and the Pool, in memory, while they are read. -/
import Derived.Test.YtpddgdjocffgdaaGreatJ29
import Derived.Defers
import Derived.Recover
import Derived.BigQuiet
import Derived.Test.YtpddgdjocffgdaaGreatJ07
import Derived.Test.YtpddgdjocffgdaaGreatJ23
import Derived.Test.YtpddgdjocffgdaaGreatJ25
import Derived.Test.YtpddgdjocffgdaaGreatJ26
namespace Go.Proofs.YtpddgdjocffgdaaGreat
set_option linter.unusedVariables false
set_option linter.unusedSimpArgs false
set_option linter.unusedSectionVars false
set_option maxHeartbeats 16000000
set_option maxRecDepth 100000
section
open Go.RowKit Go.Sort
variable [DecidableEq Blk] [Inhabited Blk] [Inhabited Vol] [Inhabited PEnt]
theorem placeOf_calls(q:Nat)(w:World):Calls Tryz.prog 105 #[.iface 175 (.int .i64 q)] w fun e w'=>e=.returned (.int .i64 q)/\w'=w:=by
 have hnot:=runNot;have hta:∀xT,(Instr.typeAssert (.iface 175 (.int .i64 q)) xT 175 true).run Tryz.prog w=.ok (.tuple #[.int .i64 q,.bool true]) w:=by
  intro xT;simp[Instr.typeAssert,run_underlying Tryz.underlying175,go_sem,Result.andThen]
 go_enter Tryz.func105,Tryz.ntmps105
 go_wp2
 go_ret
 exact⟨rfl,rfl⟩
theorem catch_bad(b0 b1 b2:Nat)(q:Nat)(w:World)(t0 t1 t2:TypeId)(x0 x1 x2:Value)(h0:At w b0 t0 [x0])(h1:At w b1 t1 [x1])(h2:At w b2 t2 [x2])(n01:b0≠b1)(n02:b0≠b2)(n12:b1≠b2) :
 CallsD Tryz.prog 104 #[.pointer (some ⟨b0,0,none⟩),.pointer (some ⟨b1,0,none⟩),.pointer (some ⟨b2,0,none⟩)] (.panicking [{ v:=.iface 175 (.int .i64 q),recovered:=false }]) w fun e u' w'=>
  e=.returned (.tuple #[])/\u'=.panicking [{ v:=.iface 175 (.int .i64 q),recovered:=true }]/\At w' b0 t0 [.pointer none]/\At w' b1 t1 [.int .i64 12]/\At w' b2 t2 [.int .i64 q]/\Same [b0,b1,b2] w w':=by
 have hP:=fun W=>placeOf_calls q W
 refine callsD_of_wpS Tryz.func104 rfl fun c₀ cs hu=>?_
 apply wpS_seq;apply wpS_region;simp[wpOpsS,go_sem,recoverD,hu,Tryz.ntmps104,Exit.thenS];refine wpS_of_wp ?_;show Code.wp _ _ _ { tmps:=#[.pointer (some ⟨b0,0,none⟩),.pointer (some ⟨b1,0,none⟩),.pointer (some ⟨b2,0,none⟩),.iface 175 (.int .i64 q),.iface 175 (.int .i64 q),undef,undef,undef,undef],defers:=[] } _;have c0:w.cell? ⟨b0,0,none⟩=some x0:=h0.cell? 0;have c1:w.cell? ⟨b1,0,none⟩=some x1:=h1.cell? 0;have c2:w.cell? ⟨b2,0,none⟩=some x2:=h2.cell? 0;have f0:=h0.frozen 0;have f1:=h1.frozen 0;have f2:=h2.frozen 0;have HA:Hid (At w b0 t0 [x0]/\At w b1 t1 [x1]/\At w b2 t2 [x2]):=⟨h0,h1,h2⟩
 clear h0 h1 h2
 go_wp2_with (go_at_call 105;refine (hP _).mono ?_;rintro e w3 ⟨rfl,hw⟩;obtain rfl:=hw.symm)
 obtain⟨h0,h1,h2⟩:=HA.out;have A0:=((h0.set_same 0 (.pointer none)).set_other b1 0 (.int .i64 12) n01).set_other b2 0 (.int .i64 q) n02;have A1:=((h1.set_other b0 0 (.pointer none) (Ne.symm n01)).set_same 0 (.int .i64 12)).set_other b2 0 (.int .i64 q) n12;have A2:=((h2.set_other b0 0 (.pointer none) (Ne.symm n02)).set_other b1 0 (.int .i64 12) (Ne.symm n12)).set_same 0 (.int .i64 q);have S:Same [b0,b1,b2] w (((w.setCell ⟨b0,0,none⟩ (.pointer none)).setCell ⟨b1,0,none⟩ (.int .i64 12)).setCell ⟨b2,0,none⟩ (.int .i64 q)):=(((Same.refl _ _).set _ _ _ (by simp)).set _ _ _ (by simp)).set _ _ _ (by simp);generalize ((w.setCell ⟨b0,0,none⟩ (.pointer none)).setCell ⟨b1,0,none⟩ (.int .i64 12)).setCell ⟨b2,0,none⟩ (.int .i64 q)=W at *;simp[bodyPostS,results,Tryz.results104];exact⟨A0,A1,A2,S⟩
theorem catch_none(b0 b1 b2:Nat)(w:World) :
 CallsD Tryz.prog 104 #[.pointer (some ⟨b0,0,none⟩),.pointer (some ⟨b1,0,none⟩),.pointer (some ⟨b2,0,none⟩)] .returning w fun e u' w'=>e=.returned (.tuple #[])/\u'=.returning/\w'=w:=by
 refine callsD_of_wpS Tryz.func104 rfl fun c₀ cs hu=>?_
 apply wpS_seq;apply wpS_region;simp[wpOpsS,go_sem,recoverD,hu,Tryz.ntmps104,Exit.thenS];apply wpS_seq;apply wpS_region;simp[wpOpsS,go_sem,hu,Exit.thenS];refine wpS_cond (t:=false) (by simp[Act.eval,Array.replicate]) ?_;simp only[Bool.false_eq_true,if_false];refine wpS_of_wp (wp_skip ?_);cases c₀
 simp_all[bodyPostS,results,Tryz.results104]
def endN(I:List UInt8):Nat:=numAt I (I.length - 2) 2
theorem splitSum_none(w:World)(a:Option Addr)(cap n:Nat)(h2:n < 2) :
 Calls Tryz.prog 106 #[.slice a n cap] w fun e w'=>e=.returned (.tuple #[.slice none 0 0,.int .i64 0,.bool false])/\w'=w:=by
 have l2:(n:Int) - 2 < 0:=by omega
 go_enter Tryz.func106,Tryz.ntmps106
 go_wp2
 exact bodyPost_ret (v:=.tuple #[.slice none 0 0,.int .i64 0,.bool false]) (by simp[results,Tryz.results106,go_sem]) rfl ⟨rfl,rfl⟩
theorem splitSum_some(w:World)(a:Option Addr)(cap:Nat)(I:List UInt8)(h:BytesAt w a I)(hl:I.length<=140737488355328)(hcap:I.length<=cap)(h2:¬I.length < 2) :
 Calls Tryz.prog 106 #[.slice a I.length cap] w fun e w'=>e=.returned (.tuple #[.slice a (I.length - 2) (I.length - 2),.int .i64 (endN I),.bool true])/\Same [] w w':=by
 obtain⟨b,off,rfl,hc⟩:=h.ex (by intro e;rw[e] at h2;simp at h2);obtain⟨n,hn⟩:∃n,I.length=n+2:=⟨I.length - 2,by omega⟩
 have c0:=hc n (by omega);have c1:=hc (n+1) (by omega);have e2:I.length - 2=n:=by omega
 have he:endN I=I[n]!.toNat * 256+I[n+1]!.toNat:=by
  unfold endN numAt;rw[e2];have:(I.drop n).take 2=[I[n]!,I[n+1]!]:=by
   rw[List.drop_eq_getElem_cons (by omega),List.drop_eq_getElem_cons (by omega),getElem!_pos I n (by omega),getElem!_pos I (n+1) (by omega)];rfl
  rw[this];simp[valB]
 rw[he,e2,hn];obtain⟨x,hx⟩:∃x,I[n]!.toNat=x:=⟨_,rfl⟩
 obtain⟨y,hy⟩:∃y,I[n+1]!.toNat=y:=⟨_,rfl⟩
 have hx8:x < 256:=by rw[<-hx];exact I[n]!.toNat_lt
 have hy8:y < 256:=by rw[<-hy];exact I[n+1]!.toNat_lt
 have c0':w.cell? ⟨b,off+n,none⟩=some (.int .u8 (x:Nat)):=by rw[c0,<-hx];rfl
 have c1':w.cell? ⟨b,off+(n+1),none⟩=some (.int .u8 (y:Nat)):=by rw[c1,<-hy];rfl
 rw[hx,hy];have hor:=bits_or_i64 x y (by omega) hy8;have l1:¬((n:Int)+2 - 2 < 0):=by omega
 rw[hn] at hl hcap;clear h hc c0 c1 he hx hy h2 e2 hn
 go_enter Tryz.func106,Tryz.ntmps106
 go_wp2_with fail
 go_quiet (fail)
 go_wp2
 exact bodyPost_ret (v:=.tuple #[.slice (some ⟨b,off,none⟩) n n,.int .i64 ((x:Int) * 256+(y:Int)),.bool true]) (by simp[results,Tryz.results106,go_sem]) rfl ⟨by rw[Int.natCast_add,Int.natCast_mul];rfl,(Same.refl _ _).drewN _⟩
def aheadB(I:List UInt8):List UInt8:=I.take (I.length - 2)
def LoadPost(w:World)(I:List UInt8)(e:Ending)(w':World):Prop:=
 if 2<=I.length/\endN I=sumB (aheadB I) then
  match rpool (aheadB I) with
  | .ok (count,ps,at2)=>∃pv pb db bb fb jg d,e=.returned (.tuple #[.pointer (some ⟨pb,0,none⟩),.int .i64 0,.int .i64 0])/\pv.map (·.1)=ps/\PoolRaw w w' (aheadB I) count at2 pv pb db bb fb jg d
  | .error q=>e=.returned (.tuple #[.pointer none,.int .i64 12,.int .i64 q])/\Same [] w w'
 else e=.returned (.tuple #[.pointer none,.int .i64 11,.int .i64 0])/\Same [] w w'
theorem BytesOld.prefix{w:World}{a:Option Addr}{I:List UInt8}(h:BytesOld w a I)(n:Nat):BytesOld w a (I.take n):=by
 refine⟨fun hne=>?_,by have:=h.len;simp;omega⟩;obtain⟨b,off,h1,h2,h3⟩:=h.ex (by intro e;apply hne;rw[e];simp);refine⟨b,off,h1,h2,fun i hi=>?_⟩;have hi':i < I.length:=by simp at hi;omega
 rw[h3 i hi',getElem!_pos _ i hi',getElem!_pos _ i hi,List.getElem_take]
theorem BytesOld.bytes{w W:World}{a:Option Addr}{I:List UInt8}(h:BytesOld w a I)(hS:Same [] w W):BytesAt W a I:=by
 refine⟨fun hne=>?_⟩;obtain⟨b,off,h1,h2,h3⟩:=h.at hS hne;exact⟨b,off,h1,h3⟩
theorem load_short(w:World)(a:Option Addr)(I:List UInt8)(cap:Nat)(h2:I.length < 2) :
 Calls Tryz.prog 64 #[.slice a I.length cap] w (LoadPost w I):=by
 have hmf:∀(fn:Fn) (first cap:Array Value) (w:World),(Instr.makeFunc fn first cap).run Tryz.prog w=.ok (.func fn first cap) w:=fun _ _ _ _=>rfl
 have hnot:=runNot;have hSS:=fun W=>splitSum_none W a cap I.length h2
 have HP:Hid (∀W,Same [] w W->LoadPost w I (.returned (.tuple #[.pointer none,.int .i64 11,.int .i64 0])) W):=fun W hW=>by
  unfold LoadPost;rw[if_neg (by omega)];exact⟨rfl,hW⟩
 generalize LoadPost w I=R at *;generalize I.length=n at *
 go_enter_defers Tryz.func64,Tryz.ntmps64
 go_wp2_with (go_at_call 106;refine (hSS _).mono ?_;rintro e w3 ⟨rfl,hw⟩;obtain rfl:=hw.symm)
 refine leaves_cons (f:=104) (args:=#[.pointer (some ⟨w.heap.size,0,none⟩),.pointer (some ⟨w.heap.size+1,0,none⟩),.pointer (some ⟨w.heap.size+1+1,0,none⟩)]) (by simp) (by simp[go_sem]) ?_;refine (catch_none w.heap.size (w.heap.size+1) (w.heap.size+1+1) _).mono ?_;rintro e u' w'' ⟨rfl,rfl,rfl⟩;simp[Leaves,settle,results,Tryz.results64,go_sem];exact HP.out _ ((((Same.refl _ _).alloc _).alloc _).alloc _)
theorem PoolRaw.out{w w3 w6 W:World}{B:List UInt8}{count at_:Nat}{pv:List (PEnt×Vol)}{pb db bb fb jg:Nat}{d:Array Int}(h:PoolRaw w3 w6 B count at_ pv pb db bb fb jg d){S:List Nat}(hS:Same S w6 W)(hlt:∀k∈S,k < w3.heap.size)(hw:Same [] w W)(hz:w.heap.size<=w3.heap.size):PoolRaw w W B count at_ pv pb db bb fb jg d:=by
 obtain⟨o1,o2,o3,o4,o5,o6,o7⟩:=h.ord;have far:∀k,w3.heap.size<=k->k∉S:=fun k hk hm=>by have:=hlt k hm;omega
 refine⟨hS.at h.pool (far _ (by omega)),hS.at h.arr (far _ o1),h.disk.same hS (far _ (by omega)) (far _ (by omega)) (far _ (by omega)),h.heap,fun x hx=>(h.vols x hx).same hS (fun k hk=>?_),h.ent,h.nodup,fun x hx k hk=>?_,⟨by omega,o2,o3,o4,o5,o6,o7⟩,hw⟩
 ·rw[(joinV_len pv x).2.2.2.2.2] at hk;exact far k (h.new x hx k hk).1
 ·have:=h.new x hx k hk;omega
theorem load_long(w:World)(a:Option Addr)(I:List UInt8)(cap:Nat)(h:BytesOld w a I)(hcap:I.length<=cap)(h2:¬I.length < 2) :
 Calls Tryz.prog 64 #[.slice a I.length cap] w (LoadPost w I):=by
 have hmf:∀(fn:Fn) (first cap:Array Value) (w:World),(Instr.makeFunc fn first cap).run Tryz.prog w=.ok (.func fn first cap) w:=fun _ _ _ _=>rfl
 have hnot:=runNot;have hlen:=h.len;obtain⟨n,hn⟩:∃n,I.length=n+2:=⟨I.length - 2,by omega⟩
 have hBl:(aheadB I).length=n:=by unfold aheadB;rw[List.length_take];omega
 have HSS:Hid (∀W,Same [] w W->Calls Tryz.prog 106 #[.slice a (n+2) cap] W fun e w'=>e=.returned (.tuple #[.slice a n n,.int .i64 (endN I),.bool true])/\Same [] W w'):=fun W hW=>by
  have:=splitSum_some W a cap I (h.bytes hW) hlen hcap h2;rw[hn,Nat.add_sub_cancel] at this;exact this
 have HSU:Hid (∀W,Same [] w W->Calls Tryz.prog 70 #[.slice a n n] W fun e w'=>e=.returned (.int .i64 (sumB (aheadB I)))/\w'=W):=fun W hW=>by
  have:=sum_calls W a n (aheadB I) ((h.prefix _).bytes hW) (by unfold maxLen;omega);rw[hBl] at this;exact this
 have HBO:Hid (∀W,Same [] w W->BytesOld W a (aheadB I)):=fun W hW=>by
  have hb:=h.prefix (I.length - 2);refine⟨fun hne=>?_,hb.len⟩;obtain⟨b,off,h1,h3,h4⟩:=hb.ex hne;refine⟨b,off,h1,Nat.lt_of_lt_of_le h3 hW.size,fun i hi=>?_⟩;rw[(hW.below (Nat.le_refl _) (by simp)).cell h3];exact h4 i hi
 have HLP:Hid (∀e W,LoadPost w I e W=(if endN I=sumB (aheadB I) then
  match rpool (aheadB I) with
  | .ok (count,ps,at2)=>∃pv pb db bb fb jg d,e=.returned (.tuple #[.pointer (some ⟨pb,0,none⟩),.int .i64 0,.int .i64 0])/\pv.map (·.1)=ps/\PoolRaw w W (aheadB I) count at2 pv pb db bb fb jg d
  | .error q=>e=.returned (.tuple #[.pointer none,.int .i64 12,.int .i64 q])/\Same [] w W
  else e=.returned (.tuple #[.pointer none,.int .i64 11,.int .i64 0])/\Same [] w W)):=fun e W=>by
  unfold LoadPost;by_cases he:endN I=sumB (aheadB I)
  ·rw[if_pos ⟨by omega,he⟩,if_pos he]
  ·rw[if_neg (fun h=>he h.2),if_neg he]
 generalize LoadPost w I=R at *;rw[hn];generalize aheadB I=B at *;obtain⟨s,hs⟩:∃s,endN I=s:=⟨_,rfl⟩
 obtain⟨t,ht⟩:∃t,sumB B=t:=⟨_,rfl⟩
 rw[hs] at HSS HLP;rw[ht] at HSU HLP;have N0:=((At.new w #[.pointer none] 58).alloc (.cells #[.int .i64 0] 59)).alloc (.cells #[.int .i64 0] 3);have N1:=(At.new (w.alloc (.cells #[.pointer none] 58)) #[.int .i64 0] 59).alloc (.cells #[.int .i64 0] 3);have N2:=At.new ((w.alloc (.cells #[.pointer none] 58)).alloc (.cells #[.int .i64 0] 59)) #[.int .i64 0] 3;have S0:Same [] w (((w.alloc (.cells #[.pointer none] 58)).alloc (.cells #[.int .i64 0] 59)).alloc (.cells #[.int .i64 0] 3)):=(((Same.refl _ _).alloc _).alloc _).alloc _;have HN:Hid (At (((w.alloc (.cells #[.pointer none] 58)).alloc (.cells #[.int .i64 0] 59)).alloc (.cells #[.int .i64 0] 3)) w.heap.size 58 [.pointer none]/\At (((w.alloc (.cells #[.pointer none] 58)).alloc (.cells #[.int .i64 0] 59)).alloc (.cells #[.int .i64 0] 3)) (w.heap.size+1) 59 [.int .i64 0]/\At (((w.alloc (.cells #[.pointer none] 58)).alloc (.cells #[.int .i64 0] 59)).alloc (.cells #[.int .i64 0] 3)) (w.heap.size+1+1) 3 [.int .i64 0]/\Same [] w (((w.alloc (.cells #[.pointer none] 58)).alloc (.cells #[.int .i64 0] 59)).alloc (.cells #[.int .i64 0] 3))):=by
  simp only[World.size_alloc] at N1 N2;exact⟨N0,N1,N2,S0⟩
 clear N0 N1 N2 S0 h hs ht h2
 go_enter_defers Tryz.func64,Tryz.ntmps64
 go_wp2_with fail
 refine (HSS.out _ HN.out.2.2.2).mono ?_;rintro e w3 ⟨rfl,S3⟩;obtain⟨M0,M1,M2,M3⟩:At w3 w.heap.size 58 [.pointer none]/\At w3 (w.heap.size+1) 59 [.int .i64 0]/\At w3 (w.heap.size+1+1) 3 [.int .i64 0]/\Same [] w w3:=⟨S3.at HN.out.1 (by simp),S3.at HN.out.2.1 (by simp),S3.at HN.out.2.2.1 (by simp),HN.out.2.2.2.step S3 (by simp)⟩
 have c0:w3.cell? ⟨w.heap.size,0,none⟩=some (.pointer none):=M0.cell? 0;have c1:w3.cell? ⟨w.heap.size+1,0,none⟩=some (.int .i64 0):=M1.cell? 0;have c2:w3.cell? ⟨w.heap.size+1+1,0,none⟩=some (.int .i64 0):=M2.cell? 0;have f0:=M0.frozen 0;have f1:=M1.frozen 0;have f2:=M2.frozen 0;have hsz:w.heap.size+1+1 < w3.heap.size:=M2.lt;have hSu:=HSU.out w3 M3;have HM:Hid (At w3 w.heap.size 58 [.pointer none]/\At w3 (w.heap.size+1) 59 [.int .i64 0]/\At w3 (w.heap.size+1+1) 3 [.int .i64 0]/\Same [] w w3):=⟨M0,M1,M2,M3⟩
 clear M0 M1 M2 M3 S3 HN;by_cases hst:s=t
 ·subst hst;have hne:((s:Int) != (s:Int))=false:=by simp
  have hRd:RdAt w3 (w3.alloc (.cells #[.slice a n n,.int .i64 0] 152)) a B w3.heap.size 0:=by
   refine⟨?_,Nat.le_refl _,(Same.refl _ _).alloc _,Nat.zero_le _⟩;have:=At.new w3 #[.slice a n n,.int .i64 0] 152;rw[hBl];exact this
  have hPool:=rpool_calls w3 (w3.alloc (.cells #[.slice a n n,.int .i64 0] 152)) a B w3.heap.size (HBO.out w3 HM.out.2.2.2) hRd;have HLQ:Hid (∀e W,R e W=(match rpool B with
   | .ok (count,ps,at2)=>∃pv pb db bb fb jg d,e=.returned (.tuple #[.pointer (some ⟨pb,0,none⟩),.int .i64 0,.int .i64 0])/\pv.map (·.1)=ps/\PoolRaw w W B count at2 pv pb db bb fb jg d
   | .error q=>e=.returned (.tuple #[.pointer none,.int .i64 12,.int .i64 q])/\Same [] w W)):=fun e W=>by rw[HLP.out,if_pos rfl]
  clear hRd HLP;cases hr:rpool B with
  | error q=>
   rw[hr] at hPool;have HP:Hid (∀W,Same [] w W->R (.returned (.tuple #[.pointer none,.int .i64 12,.int .i64 q])) W):=fun W hW=>by rw[HLQ.out,hr];exact⟨rfl,hW⟩
   clear hr HLQ
   go_wp2_with (first|(go_at_call 70;refine hSu.mono ?_;rintro e w4 ⟨rfl,hw⟩;obtain rfl:=hw.symm)|(go_at_call 107;refine hPool.mono ?_;rintro e w5 ⟨rfl,S5⟩;unfold bad))
   refine leaves_cons (f:=104) (args:=#[.pointer (some ⟨w.heap.size,0,none⟩),.pointer (some ⟨w.heap.size+1,0,none⟩),.pointer (some ⟨w.heap.size+1+1,0,none⟩)]) (by simp) (by simp[go_sem]) ?_;refine (catch_bad w.heap.size (w.heap.size+1) (w.heap.size+1+1) q _ _ _ _ _ _ _ (S5.at HM.out.1 (by simp)) (S5.at HM.out.2.1 (by simp)) (S5.at HM.out.2.2.1 (by simp)) (by omega) (by omega) (by omega)).mono ?_;rintro e u' w'' ⟨rfl,rfl,A0,A1,A2,S6⟩;have d0:w''.cell? ⟨w.heap.size,0,none⟩=some (.pointer none):=A0.cell? 0;have d1:w''.cell? ⟨w.heap.size+1,0,none⟩=some (.int .i64 12):=A1.cell? 0;have d2:w''.cell? ⟨w.heap.size+1+1,0,none⟩=some (.int .i64 q):=A2.cell? 0;simp[Leaves,settle,results,Tryz.results64,go_sem,d0,d1,d2];exact HP.out _ ((HM.out.2.2.2.step S5 (by simp)).step S6 (by simp;omega))
  | ok pr=>
   obtain⟨count,ps,at2⟩:=pr;rw[hr] at hPool;have HP:Hid (∀W pv pb db bb fb jg d,pv.map (·.1)=ps->PoolRaw w W B count at2 pv pb db bb fb jg d->R (.returned (.tuple #[.pointer (some ⟨pb,0,none⟩),.int .i64 0,.int .i64 0])) W):=fun W pv pb db bb fb jg d h1 h2=>by rw[HLQ.out,hr];exact⟨pv,pb,db,bb,fb,jg,d,rfl,h1,h2⟩
   clear hr HLQ
   go_wp2_with (first|(go_at_call 70;refine hSu.mono ?_;rintro e w4 ⟨rfl,hw⟩;obtain rfl:=hw.symm)|(go_at_call 107;refine hPool.mono ?_;rintro e w5 ⟨pv,pb,db,bb,fb,jg,d,rfl,hps,hraw⟩;have HRW:Hid (pv.map (·.1)=ps/\PoolRaw w3 w5 B count at2 pv pb db bb fb jg d):=⟨hps,hraw⟩;have k0:w5.cell? ⟨w.heap.size,0,none⟩=some (.pointer none):=(hraw.same.at HM.out.1 (by simp)).cell? 0;have k1:w5.cell? ⟨w.heap.size+1,0,none⟩=some (.int .i64 0):=(hraw.same.at HM.out.2.1 (by simp)).cell? 0;have k2:w5.cell? ⟨w.heap.size+1+1,0,none⟩=some (.int .i64 0):=(hraw.same.at HM.out.2.2.1 (by simp)).cell? 0;have g0:=(hraw.same.at HM.out.1 (by simp)).frozen 0;have g1:=(hraw.same.at HM.out.2.1 (by simp)).frozen 0;have g2:=(hraw.same.at HM.out.2.2.1 (by simp)).frozen 0;clear hps hraw))
   refine leaves_cons (f:=104) (args:=#[.pointer (some ⟨w.heap.size,0,none⟩),.pointer (some ⟨w.heap.size+1,0,none⟩),.pointer (some ⟨w.heap.size+1+1,0,none⟩)]) (by simp) (by simp[go_sem]) ?_;refine (catch_none w.heap.size (w.heap.size+1) (w.heap.size+1+1) _).mono ?_;rintro e u' w'' ⟨rfl,rfl,rfl⟩;simp[Leaves,settle,results,Tryz.results64,go_sem,k0,k1,k2];have SF:Same [w.heap.size,w.heap.size+1,w.heap.size+1+1] w5 (((w5.setCell ⟨w.heap.size,0,none⟩ (.pointer (some ⟨pb,0,none⟩))).setCell ⟨w.heap.size+1,0,none⟩ (.int .i64 0)).setCell ⟨w.heap.size+1+1,0,none⟩ (.int .i64 0)):=(((Same.refl _ _).set _ _ _ (by simp)).set _ _ _ (by simp)).set _ _ _ (by simp);exact HP.out _ _ _ _ _ _ _ _ HRW.out.1 (HRW.out.2.out SF (by intro k hk;simp at hk;omega) ((HM.out.2.2.2.step HRW.out.2.same (by simp)).step SF (by simp;omega)) (by omega))
 ·have hne:((s:Int) != (t:Int))=true:=by simp;omega
  have HP:Hid (∀W,Same [] w W->R (.returned (.tuple #[.pointer none,.int .i64 11,.int .i64 0])) W):=fun W hW=>by
   rw[HLP.out,if_neg hst];exact⟨rfl,hW⟩
  clear hst
  go_wp2_with (go_at_call 70;refine hSu.mono ?_;rintro e w4 ⟨rfl,hw⟩;obtain rfl:=hw.symm)
  refine leaves_cons (f:=104) (args:=#[.pointer (some ⟨w.heap.size,0,none⟩),.pointer (some ⟨w.heap.size+1,0,none⟩),.pointer (some ⟨w.heap.size+1+1,0,none⟩)]) (by simp) (by simp[go_sem]) ?_;refine (catch_none w.heap.size (w.heap.size+1) (w.heap.size+1+1) _).mono ?_;rintro e u' w'' ⟨rfl,rfl,rfl⟩;simp[Leaves,settle,results,Tryz.results64,go_sem,c0,c1,c2];exact HP.out _ (((HM.out.2.2.2.set _ _ _ (by omega)).set _ _ _ (by omega)).set _ _ _ (by omega))
theorem load_calls(w:World)(a:Option Addr)(I:List UInt8)(cap:Nat)(h:BytesOld w a I)(hcap:I.length<=cap) :
 Calls Tryz.prog 64 #[.slice a I.length cap] w (LoadPost w I):=by
 by_cases h2:I.length < 2
 ·exact load_short w a I cap h2
 ·exact load_long w a I cap h hcap h2
theorem rfree_ok{B:List UInt8}{U:List Nat}{at_:Nat}:∀(f k:Nat),rfree B U at_ f k=.ok ()->∀j,k<=j->j < k+f->j∈U\/blk8 B (at_+j * 8)=Blk.zero
 | 0,k,_,j,h1,h2=>by omega
 | f+1,k,h,j,h1,h2=>by
  unfold rfree at h;by_cases hk:k∈U\/blk8 B (at_+k * 8)=Blk.zero
  ·rw[if_pos hk] at h;by_cases e:j=k
   ·subst e;exact hk
   ·exact rfree_ok f (k+1) h j (by omega) (by omega)
  ·rw[if_neg hk] at h;cases h
theorem rjoin_ok(ps:List PEnt):∀(l:List PEnt),rjoin ps l=.ok ()->∀p∈l,p.kind≠0->ps[p.origin]!.kind=0/\ps[p.origin]!.size=p.size
 | [],_,p,hp,_=>by simp at hp
 | q :: r,h,p,hp,hk=>by
  unfold rjoin at h;by_cases h0:q.kind=0
  ·rw[if_pos h0] at h;rcases List.mem_cons.1 hp with rfl|hp
   ·exact absurd h0 hk
   ·exact rjoin_ok ps r h p hp hk
  ·rw[if_neg h0] at h;by_cases h1:ps[q.origin]!.kind=0/\ps[q.origin]!.size=q.size
   ·rw[if_pos h1] at h;rcases List.mem_cons.1 hp with rfl|hp
    ·exact h1
    ·exact rjoin_ok ps r h p hp hk
   ·rw[if_neg h1] at h;cases h
structure RpoolOk(B:List UInt8)(count:Nat)(ps:List PEnt)(at2:Nat):Prop where
 cnt:1<=count/\count<=200
 ents:EntsOk ps.length count ps
 few:ps.length<=20
 join:∀p∈ps,p.kind≠0->ps[p.origin]!.kind=0/\ps[p.origin]!.size=p.size
 free:∀j,j < count->j∈usedP ps\/blk8 B (at2+j * 8)=Blk.zero
 len:at2+count * 8=B.length
theorem rpool_ok{B:List UInt8}{count:Nat}{ps:List PEnt}{at2:Nat}(h:rpool B=.ok (count,ps,at2)):RpoolOk B count ps at2:=by
 unfold rpool at h;cases hs:rmark B 4 0 with
 | error q=>rw[hs] at h;cases h
 | ok at0=>
  rw[hs] at h;simp only at h;cases hs:rnum B 2 1 200 at0 with
  | error q=>rw[hs] at h;cases h
  | ok pr=>
   obtain⟨c,at1⟩:=pr;rw[hs] at h;simp only at h;have hc:=rnum_ok hs;cases hl:rlist B c at1 with
   | error q=>rw[hl] at h;cases h
   | ok pr=>
    obtain⟨qs,a2⟩:=pr;rw[hl] at h;simp only at h;cases hj:rjoin qs qs with
    | error q=>rw[hj] at h;cases h
    | ok uu=>
     rw[hj] at h;simp only at h;cases hd:rdisk B (usedP qs) c a2 with
     | error q=>rw[hd] at h;cases h
     | ok pr=>
      obtain⟨bl,a3⟩:=pr;rw[hd] at h;simp only at h;by_cases he:a3=B.length
      ·rw[if_pos he] at h;simp only[Except.ok.injEq,Prod.mk.injEq] at h;obtain⟨rfl,rfl,rfl⟩:=h;have heo:EntsOk qs.length c qs/\qs.length<=20:=by
        unfold rlist at hl;cases hs1:rnum B 1 0 20 at1 with
        | error q=>rw[hs1] at hl;cases hl
        | ok pr=>
         obtain⟨m,b2⟩:=pr;rw[hs1] at hl;simp only at hl;have hc20:=(rnum_ok hs1).2.2.1;rcases Nat.eq_zero_or_pos m with rfl|hcp
         ·simp only[rents,Except.ok.injEq,Prod.mk.injEq] at hl;rw[<-hl.1];exact⟨⟨by simp,by simp,by simp⟩,by simp⟩
         ·have:=rents_ok hc.2.1 hcp m [] b2 qs a2 hl ⟨by simp,by simp,by simp⟩;have e:qs.length=m:=by simpa using this.2
          rw[e];exact⟨this.1,hc20⟩
       unfold rdisk at hd;by_cases hle:a2+c * 8<=B.length
       ·rw[if_pos hle] at hd;cases hf:rfree B (usedP qs) a2 c 0 with
        | error q=>rw[hf] at hd;cases hd
        | ok uu=>
         rw[hf] at hd;simp only[Except.ok.injEq,Prod.mk.injEq] at hd;exact⟨⟨hc.2.1,hc.2.2.1⟩,heo.1,heo.2,rjoin_ok qs qs hj,fun j hj=>rfree_ok c 0 hf j (by omega) (by omega),by rw[hd.2];exact he⟩
       ·rw[if_neg hle] at hd;cases hd
      ·rw[if_neg he] at h;cases h
def ldSt(pv:List (PEnt×Vol))(pb db bb fb jg count:Nat)(B:List UInt8)(at_:Nat)(d:Array Int):St:=⟨pb,db,bb,fb,some jg,count,(freeOf (takenP pv) count).length,blks8 B at_ count,d,pv.map (joinV pv)⟩
theorem blks8_get(B:List UInt8)(at_ n j:Nat)(h:j < n):(blks8 B at_ n)[j]! = blk8 B (at_+j * 8):=by
 unfold blks8;rw[getElem!_pos _ j (by simpa using h)];simp
theorem blks8_length(B:List UInt8)(at_ n:Nat):(blks8 B at_ n).length=n:=by simp[blks8]
structure JV(pv:List (PEnt×Vol))(x:PEnt×Vol)(v:Vol):Prop where
 name:v.name=x.1.name
 xs:v.xs=x.1.xs
 kept:v.kept=x.1.kept
 lost:v.lost=decide (x.1.kind=2)
 none:v.org=none↔x.1.kind=0
 some:∀o,v.org=some o->x.1.kind≠0/\o=pv[x.1.origin]!.2.vb
 vb:v.vb=x.2.vb
 foot:v.foot=x.2.foot
theorem joinV_jv{pv:List (PEnt×Vol)}{x:PEnt×Vol}(h:PV x):JV pv x (joinV pv x):=by
 have e1:x.2.xs=x.1.xs:=by rw[h.eq];rfl
 have e2:x.2.kept=x.1.kept:=by rw[h.eq];rfl
 have e3:x.2.org=none:=by rw[h.eq];rfl
 have e4:x.2.name=x.1.name:=by rw[h.eq];rfl
 have e5:x.2.lost=decide (x.1.kind=2):=by rw[h.eq];rfl
 obtain⟨a1,a2,a3,a4,a5,a6⟩:=joinV_len pv x;have hn:(joinV pv x).name=x.2.name/\(joinV pv x).lost=x.2.lost:=by unfold joinV;split<;>simp
 refine⟨by rw[hn.1,e4],by rw[a1,e1],by rw[a2,e2],by rw[hn.2,e5],?_,?_,a3,a6⟩
 ·unfold joinV;by_cases hk:x.1.kind=0<;>simp[hk,e3]
 ·intro o ho;unfold joinV at ho;by_cases hk:x.1.kind=0
  ·simp[hk,e3] at ho
  ·rw[if_neg hk] at ho;exact⟨hk,(Option.some.inj ho).symm⟩
theorem usedP_sub(ps:List PEnt):∀x∈usedP ps,x∈ps.flatMap (·.xs):=fun x hx=>by
 obtain⟨p,hp,hx⟩:=List.mem_flatMap.1 hx;exact List.mem_flatMap.2 ⟨p,hp,List.mem_of_mem_take hx⟩
theorem joinV_flat(pv:List (PEnt×Vol))(h:∀x∈pv,PV x)(l:List (PEnt×Vol))(hl:∀x∈l,x∈pv):(l.map (joinV pv)).flatMap (·.xs)=takenP l:=by
 unfold takenP
 induction l with
 | nil=>rfl
 | cons x r ih=>
  rw[List.map_cons,List.map_cons,List.flatMap_cons,List.flatMap_cons,ih (fun y hy=>hl y (by simp[hy])),(joinV_jv (h x (hl x (by simp)))).xs]
theorem joinV_feet(pv l:List (PEnt×Vol)):(l.map (joinV pv)).flatMap Vol.foot=l.flatMap fun x=>x.2.foot:=by
 induction l with
 | nil=>rfl
 | cons x r ih=>rw[List.map_cons,List.flatMap_cons,List.flatMap_cons,ih,(joinV_len pv x).2.2.2.2.2]
theorem fst_get(pv:List (PEnt×Vol))(i:Nat)(h:i < pv.length):(pv.map (·.1))[i]! = pv[i]!.1/\pv[i]!∈pv:=by
 rw[getElem!_pos pv i h,getElem!_pos _ i (by simpa using h)];exact⟨by simp,List.getElem_mem h⟩
theorem freeOf_mem(L:List Nat)(n x:Nat):x∈freeOf L n↔x < n/\x∉L:=by simp[freeOf]
theorem freeOf_nodup(L:List Nat)(n:Nat):(freeOf L n).Nodup:=List.nodup_range.filter _
theorem loaded_free{B:List UInt8}{count at_:Nat}{pv:List (PEnt×Vol)}(hr:RpoolOk B count (pv.map (·.1)) at_):∀x∈freeOf (takenP pv) count,x < (blks8 B at_ count).length/\(blks8 B at_ count)[x]! = Blk.zero:=fun x hx=>by
 obtain⟨h1,h2⟩:=(freeOf_mem _ _ _).1 hx;rw[blks8_length,blks8_get B at_ count x h1];exact⟨h1,(hr.free x h1).resolve_left fun hu=>h2 (usedP_sub _ x hu)⟩
theorem loaded_pool{w w':World}{B:List UInt8}{count at_:Nat}{pv:List (PEnt×Vol)}{pb db bb fb jg:Nat}{d:Array Int}(h:PoolRaw w w' B count at_ pv pb db bb fb jg d)(hr:RpoolOk B count (pv.map (·.1)) at_) :
 PoolAt w' (ldSt pv pb db bb fb jg count B at_ d):=by
 have hjv:∀x∈pv,JV pv x (joinV pv x):=fun x hx=>joinV_jv (h.ent x hx)
 have hok:∀x∈pv,PEntOk (pv.map (·.1)).length count [] x.1:=fun x hx=>hr.ents.all x.1 (List.mem_map.2 ⟨x,hx,rfl⟩)
 have hfew:pv.length<=20:=by have:=hr.few;simpa using this
 have hgB:=giveB_zero (freeOf (takenP pv) count) (blks8 B at_ count) (loaded_free hr);have hD:=h.disk;rw[hgB] at hD;obtain⟨o1,o2,o3,o4,o5,o6,o7⟩:=h.ord;refine⟨⟨pv.length,?_,?_,?_⟩,?_,hD,?_,?_,?_,?_,?_⟩
 ·show At w' pb _ [ptr pb,ptr db,.slice (some ⟨jg,0,none⟩) (pv.map (joinV pv)).length pv.length];rw[List.length_map];exact h.pool
 ·show (pv.map (joinV pv)).length<=pv.length;rw[List.length_map];exact Nat.le_refl _
 ·intro e;cases e
 ·intro b hb;cases hb;refine⟨_,h.arr,?_,?_⟩
  ·show (pv.map fun x=>ptr x.2.vb).take (pv.map (joinV pv)).length=(pv.map (joinV pv)).map fun v=>ptr v.vb
   rw[List.take_of_length_le (by simp),List.map_map];apply List.map_congr_left;intro x hx;simp[(hjv x hx).vb]
  ·show (pv.map (joinV pv)).length<=_;simp
 ·intro v hv;obtain⟨x,hx,rfl⟩:=List.mem_map.1 hv;have hraw:=h.vols x hx;have j:=hjv x hx;have o:=hok x hx;have hxl:(joinV pv x).xs.length<=200/\1<=(joinV pv x).xs.length:=by
   rw[j.xs];by_cases hk:x.1.kind=0
   ·have:=(o.plain hk).1;have:=o.size;omega
   ·have:=o.pic hk;have:=o.size;omega
  have hkl:(joinV pv x).kept.length<=(joinV pv x).xs.length:=by rw[j.kept,j.xs];exact o.keptle
  refine⟨⟨_,_,Nat.le_refl _,hraw.vol,fun hk=>⟨hraw.kept0 hk,by rw[hraw.kept0 hk];rfl⟩,fun g hg=>⟨_,hraw.kept1 g hg,by simp,by rw[List.take_of_length_le (by simp)],Nat.le_refl _,by unfold maxLen;omega⟩⟩,⟨_,hraw.row,by rw[List.take_of_length_le (by simp)],by simp⟩,?_,?_,hxl.1,hkl,?_⟩
  ·rw[j.foot];have hp:=h.nodup;rw[List.Nodup,List.pairwise_flatMap] at hp;exact hp.1 x hx
  ·intro e;rw[e] at hxl;simp at hxl
  ·intro ho;have hk:=j.none.1 ho;refine⟨?_,by rw[j.lost,hk];rfl⟩;rw[(joinV_len pv x).2.2.2.2.1];exact (h.ent x hx).plain hk
 ·show (pb :: db :: bb :: fb :: ((some jg).toList++(pv.map (joinV pv)).flatMap Vol.foot)).Nodup;rw[joinV_feet];have hf:∀k∈pv.flatMap (fun x=>x.2.foot),k < jg:=fun k hk=>by
   obtain⟨x,hx,hk⟩:=List.mem_flatMap.1 hk;exact (h.new x hx k hk).2
  have n1:=hD.ne1;have n2:=hD.ne2;have n3:=hD.ne3;have far:∀q,jg < q->q∉(some jg).toList++pv.flatMap (fun x=>x.2.foot):=fun q hq hm=>by
   rcases List.mem_append.1 hm with hm|hm
   ·simp at hm;omega
   ·have:=hf q hm;omega
  refine List.nodup_cons.2 ⟨?_,List.nodup_cons.2 ⟨?_,List.nodup_cons.2 ⟨?_,List.nodup_cons.2 ⟨far fb o4,?_⟩⟩⟩⟩
  ·intro hm;rcases List.mem_cons.1 hm with hm|hm
   ·omega
   rcases List.mem_cons.1 hm with hm|hm
   ·omega
   rcases List.mem_cons.1 hm with hm|hm
   ·omega
   ·exact far pb (by omega) hm
  ·intro hm;rcases List.mem_cons.1 hm with hm|hm
   ·exact n1 hm
   rcases List.mem_cons.1 hm with hm|hm
   ·exact n2 hm
   ·exact far db o2 hm
  ·intro hm;rcases List.mem_cons.1 hm with hm|hm
   ·exact n3 hm
   ·exact far bb o3 hm
  ·show (jg :: pv.flatMap fun x=>x.2.foot).Nodup;exact List.nodup_cons.2 ⟨fun hm=>by have:=hf jg hm;omega,h.nodup⟩
 ·show (pv.map (joinV pv)).length<=20;rw[List.length_map];exact hfew
 ·show (pv.map (joinV pv)).Pairwise fun a b=>cmpB a.name b.name < 0
  rw[List.pairwise_map];have hs:=hr.ents.sorted;rw[List.pairwise_map] at hs;refine List.Pairwise.imp_of_mem ?_ hs;intro x y hx hy hc;rw[(hjv x hx).name,(hjv y hy).name];exact hc
 ·intro v hv o ho;obtain⟨x,hx,rfl⟩:=List.mem_map.1 hv;obtain⟨hk,rfl⟩:=(hjv x hx).some o ho;have hol:x.1.origin < pv.length:=by have:=(hok x hx).org hk;simpa using this
  obtain⟨e1,e2⟩:=fst_get pv x.1.origin hol;refine⟨joinV pv pv[x.1.origin]!,List.mem_map.2 ⟨_,e2,rfl⟩,(hjv _ e2).vb,(hjv _ e2).none.2 ?_⟩;have:=(hr.join x.1 (List.mem_map.2 ⟨x,hx,rfl⟩) hk).1;rw[e1] at this;exact this
end
section
open Go.RowKit Go.Sort
variable [DecidableEq Blk] [Inhabited Blk] [Inhabited Vol] [Inhabited PEnt] [Inhabited RVol] [Inhabited RRow]
theorem nodup_le(n:Nat):∀(l:List Nat),l.Nodup->(∀x∈l,x < n)->l.length<=n:=by
 induction n with
 | zero=>
  intro l _ h;cases l with
  | nil=>exact Nat.le_refl _
  | cons a r=>have:=h a (by simp);omega
 | succ n ih=>
  intro l hn h;by_cases hm:n∈l
  ·have h1:=ih (l.erase n) (hn.erase n) (fun x hx=>by
    have h2:=(hn.mem_erase_iff).1 hx;have:=h x h2.2;have:=h2.1;omega)
   rw[List.length_erase_of_mem hm] at h1;omega
  ·have:=ih l hn (fun x hx=>by
    have:=h x hx;have:x≠n:=fun e=>hm (by rw[<-e];exact hx)
    omega)
   omega
theorem owns_nums2{w:World}{base:Nat}{v:Value}{l:List Nat}(h:w.ownsRow base 3 1 v l.length (intsV l)):(v=.slice none 0 0/\l=[])\/∃g cap,v=.slice (some ⟨g,0,none⟩) l.length cap/\base<=g/\NumsAt w g cap l:=by
 rcases h.2 with⟨h1,h2⟩|⟨g,cap,cur,h1,h2,h3,h4,h5,h6,h7⟩
 ·exact Or.inl ⟨h1,List.length_eq_zero_iff.1 h2⟩
 ·exact Or.inr ⟨g,cap,h1,h2,⟨cur.toList,by show _=_;rw[h3],by simpa using h6,by rw[Nat.mul_one] at h7;exact h7,h4,h5⟩⟩
theorem ofsX0(xs:List RRow)(j:Nat)(hj:j < xs.length):(ofsX xs 0)[j]! = ⟨#[]⟩:=by
 unfold ofsX;rw[getElem!_pos _ j (by simpa using hj)];simp
theorem nil_get(xs:List RRow)(j:Nat)(hj:j < xs.length):(List.replicate xs.length ((.slice none 0 0,[]):Value×List ByteArray))[j]! = (.slice none 0 0,[]):=by
 rw[getElem!_pos _ j (by simpa using hj),List.getElem_replicate]
theorem snoc_get(xs:List RRow)(x:RRow)(j:Nat)(hj:j < (xs++[x]).length):(j < xs.length/\(xs++[x])[j]! = xs[j]!)\/(j=xs.length/\(xs++[x])[j]! = x):=by
 rcases Nat.lt_or_ge j xs.length with h|h
 ·left
  refine⟨h,?_⟩;rw[getElem!_pos _ j hj,List.getElem_append_left h,getElem!_pos _ j h]
 ·right
  simp only[List.length_append,List.length_singleton] at hj;obtain rfl:j=xs.length:=by omega
  refine⟨rfl,?_⟩;rw[getElem!_pos _ _ (by simp)];simp
theorem Rows.snoc{w:World}{base:Nat}{xs:List RRow}(h:Rows w base xs (ofsX xs 0) (List.replicate xs.length (.slice none 0 0,[])))(x:RRow)(hf:RowFix w x)(hv:At w x.vb 118 (x.cells ⟨#[]⟩ (.slice none 0 0)))(hn:x.foot.Nodup)(hd:∀q∈x.foot,∀y∈xs,q∉y.foot)(hl:∀q∈x.foot,q < base) :
 Rows w base (xs++[x]) (ofsX (xs++[x]) 0) (List.replicate (xs++[x]).length (.slice none 0 0,[])):=by
 refine⟨fun j hj=>?_,fun j hj=>?_,fun j hj=>?_,fun j k hj hk hne g hg=>?_,?_,fun y hy q hq=>?_,by simp[ofsX],by simp⟩
 ·rcases snoc_get xs x j hj with⟨h1,h2⟩|⟨h1,h2⟩
  ·rw[h2];exact h.fix j h1
  ·rw[h2];exact hf
 ·rw[ofsX0 _ j hj,nil_get _ j hj];rcases snoc_get xs x j hj with⟨h1,h2⟩|⟨h1,h2⟩
  ·rw[h2];have:=h.vol j h1;rw[ofsX0 _ j h1,nil_get _ j h1] at this;exact this
  ·rw[h2];exact hv
 ·rw[nil_get _ j hj];exact World.ownsRow_nil _ _ _ _
 ·rw[nil_get _ j hj] at hg;cases hg
 ·rw[List.flatMap_append,List.nodup_append];refine⟨h.nodup,by simpa using hn,fun a ha b hb hab=>?_⟩;subst hab;obtain⟨y,hy,hq⟩:=List.mem_flatMap.1 ha;exact hd a (by simpa using hb) y hy hq
 ·rcases List.mem_append.1 hy with hy|hy
  ·exact h.low y hy q hq
  ·rw[List.mem_singleton.1 hy] at hq;exact hl q hq
structure LInv(w0 wr:World)(sb rb base:Nat)(B:List UInt8)(n at_:Nat)(U:List Nat)(xs ls pl:List RRow)(lv uv pv:Value):Prop where
 sc:ScAt w0 wr sb B at_ none
 rows:Rows wr wr.heap.size xs (ofsX xs 0) (List.replicate xs.length (.slice none 0 0,[]))
 new:∀x∈xs,∀q∈x.foot,base<=q
 pool:At wr rb 84 [.int .i64 (n:Int),pv]
 l:wr.ownsRow base 159 1 lv ls.length (ls.map fun x=>ptr x.eb)
 u:wr.ownsRow base 3 1 uv U.length (intsV U)
 p:wr.ownsRow base 115 1 pv pl.length (pl.map fun x=>ptr x.vb)
 al:∀g,lv.ownBlock=some g->(∀x∈xs,g∉x.foot)/\uv.ownBlock≠some g/\pv.ownBlock≠some g
 au:∀g,uv.ownBlock=some g->(∀x∈xs,g∉x.foot)/\pv.ownBlock≠some g
 ap:∀g,pv.ownBlock=some g->∀x∈xs,g∉x.foot
 sbl:sb < base
 rbl:rb < base/\rb≠sb/\w0.heap.size<=rb
 bl:base<=wr.heap.size/\w0.heap.size<=base
theorem LInv.fr{w0 wr:World}{sb rb base:Nat}{B:List UInt8}{n at_:Nat}{U:List Nat}{xs ls pl:List RRow}{lv uv pv:Value}(h:LInv w0 wr sb rb base B n at_ U xs ls pl lv uv pv){w':World}{S:List Nat}(hS:Same S wr w')(hs:∀q∈S,q=sb\/(base<=q/\∀x∈xs,q∉x.foot)\/q=rb):Rows w' w'.heap.size xs (ofsX xs 0) (List.replicate xs.length (.slice none 0 0,[])):=by
 refine Rows.raise (h.rows.same hS fun q hq=>⟨fun x hx hqx=>?_,fun j hj=>?_⟩) hS.size
 ·have h1:=h.new x hx q hqx;rcases hs q hq with e|e|e
  ·have:=h.sbl;omega
  ·exact e.2 x hx hqx
  ·have:=h.rbl.1;omega
 ·rw[nil_get _ j hj];exact fun e=>by cases e
theorem LInv.entry{w0 wr w1:World}{sb rb base:Nat}{B:List UInt8}{n at_ at1:Nat}{U:List Nat}{xs ls pl:List RRow}{lv uv pv:Value}(h:LInv w0 wr sb rb base B n at_ U xs ls pl lv uv pv)(p:PEnt)(hp:1<=p.xs.length){allv bv kv:Value}(hE:EntX w0 wr w1 sb base B uv allv bv kv (p.ref,U++p.xs,at1,none)) :
 ∃x:RRow,x.e=p.ref/\x.eb=wr.heap.size+1/\x.vb=wr.heap.size/\LInv w0 w1 sb rb base B n at1 (U++p.xs) (xs++[x]) ls pl lv allv pv:=by
 obtain⟨hb,hk,r1,r2,r3,r4,r5,r6⟩:=hE.rows;have hbl:=h.bl;have hS:=hE.same;have hsz:=hS.size;have hsub:∀q∈sb :: uv.ownBlock.toList,q=sb\/(base<=q/\∀x∈xs,q∉x.foot)\/q=rb:=fun q hq=>by
  rcases List.mem_cons.1 hq with e|e
  ·exact Or.inl e
  ·have e:uv.ownBlock=some q:=by simpa using e
   exact Or.inr (Or.inl ⟨owns_row h.u q e,(h.au q e).1⟩)
 have hR:=h.fr hS hsub;obtain⟨bg,bc,e1,e2,e3⟩:∃g cap,bv=.slice (some ⟨g,0,none⟩) p.xs.length cap/\hb<=g/\NumsAt w1 g cap p.xs:=by
  rcases owns_nums2 r3 with⟨_,e⟩|e
  ·exfalso
   have e:p.xs=[]:=e;rw[e] at hp;simp at hp
  ·exact e
 obtain⟨kg,kc,f1,f2,f3,f4⟩:∃(kg:Option Nat) (kc:Nat),kv=.slice (kg.map fun g=>⟨g,0,none⟩) p.kept.length kc/\(∀g,kg=some g->hk<=g)/\(kg=none->p.kept=[]/\kc=0)/\∀g,kg=some g->NumsAt w1 g kc p.kept:=by
  rcases owns_nums2 r6 with⟨k1,k2⟩|⟨g,cap,k1,k2,k3⟩
  ·have k2:p.kept=[]:=k2;exact⟨none,0,(by rw[k1,k2];rfl),fun g hg=>(by cases hg),fun _=>⟨k2,rfl⟩,fun g hg=>(by cases hg)⟩
  ·exact⟨some g,cap,k1,fun g' hg'=>(by cases hg';exact k2),fun hg'=>(by cases hg'),fun g' hg'=>(by cases hg';exact k3)⟩
 have hbgl:bg < hk:=r5 bg (by rw[e1];rfl);have hvl:=hE.vol.lt;have hel:=hE.ent.lt;have hbl1:bg < w1.heap.size:=by obtain⟨cs,hc,_⟩:=e3.ex;exact hc.lt
 have hkl1:∀g,kg=some g->g < w1.heap.size:=fun g hg=>by obtain⟨cs,hc,_⟩:=(f4 g hg).ex;exact hc.lt
 refine⟨⟨p.ref,wr.heap.size+1,wr.heap.size,bg,bc,kg,kc⟩,rfl,rfl,rfl,?_⟩;have hfoot:∀q∈(⟨p.ref,wr.heap.size+1,wr.heap.size,bg,bc,kg,kc⟩:RRow).foot,wr.heap.size<=q/\q < w1.heap.size/\(q=wr.heap.size+1\/q=wr.heap.size\/hb<=q):=fun q hq=>by
  simp only[RRow.foot,List.mem_cons,Option.mem_toList,Option.mem_def] at hq;rcases hq with e|e|e|e
  ·exact⟨by omega,by omega,by omega⟩
  ·exact⟨by omega,by omega,by omega⟩
  ·exact⟨by omega,by omega,by omega⟩
  ·have a1:=f2 q e;have a2:=hkl1 q e;exact⟨by omega,by omega,by omega⟩
 have hold:∀y∈xs,∀q∈y.foot,q < wr.heap.size:=h.rows.low;have hown:∀{e:TypeId} {v:Value} {m:Nat} {l:List Value},wr.ownsRow base e 1 v m l->(∀g,v.ownBlock=some g->uv.ownBlock≠some g)->w1.ownsRow base e 1 v m l:=fun hw hne=>owns_but hw hS fun g hg hq=>by
  rcases List.mem_cons.1 hq with e|e
  ·have:=owns_row hw g hg;have:=h.sbl;omega
  ·exact hne g hg (by simpa using e)
 have hcells:∀{e:TypeId} {v:Value} {m:Nat} {l:List Value},wr.ownsRow base e 1 v m l->∀g,v.ownBlock=some g->g < wr.heap.size:=fun hw g hg=>(hw.lt g hg).2
 refine⟨hE.sc,?_,?_,?_,?_,hE.all,?_,?_,?_,?_,h.sbl,h.rbl,⟨by omega,hbl.2⟩⟩
 ·refine hR.snoc _ ⟨hE.ent,e3,f3,f4⟩ ?_ ?_ ?_ ?_
  ·have:=hE.vol;rw[e1,f1] at this;exact this
  ·simp only[RRow.foot,List.nodup_cons,List.mem_cons,not_or];refine⟨⟨by omega,by omega,fun hq=>?_⟩,⟨by omega,fun hq=>?_⟩,fun hq=>?_,by cases kg<;>simp⟩
   all_goals
    have:=f2 _ (by simpa using hq);omega
  ·intro q hq y hy hqy;have:=hold y hy q hqy;have:=(hfoot q hq).1;omega
  ·intro q hq;exact (hfoot q hq).2.1
 ·intro y hy q hq;rcases List.mem_append.1 hy with hy|hy
  ·exact h.new y hy q hq
  ·rw[List.mem_singleton.1 hy] at hq;have:=(hfoot q hq).1;omega
 ·exact hS.at h.pool fun hq=>by
   rcases List.mem_cons.1 hq with e|e
   ·exact h.rbl.2.1 e
   ·have:=owns_row h.u rb (by simpa using e);have:=h.rbl.1;omega
 ·exact hown h.l fun g hg=>(h.al g hg).2.1
 ·exact hown h.p fun g hg hu=>(h.au g hu).2 hg
 ·intro g hg;have hgl:=hcells h.l g hg;refine⟨fun y hy hq=>?_,fun hu=>?_,(h.al g hg).2.2⟩
  ·rcases List.mem_append.1 hy with hy|hy
   ·exact (h.al g hg).1 y hy hq
   ·rw[List.mem_singleton.1 hy] at hq;have:=(hfoot g hq).1;omega
  ·rcases hE.lies with e|⟨g',e,hg'⟩
   ·rw[e] at hu;exact (h.al g hg).2.1 hu
   ·rw[e] at hu;cases hu;omega
 ·intro g hg;rcases hE.lies with e|⟨g',e,hg'⟩
  ·rw[e] at hg;have hgl:=hcells h.u g hg;refine⟨fun y hy hq=>?_,(h.au g hg).2⟩;rcases List.mem_append.1 hy with hy|hy
   ·exact (h.au g hg).1 y hy hq
   ·rw[List.mem_singleton.1 hy] at hq;have:=(hfoot g hq).1;omega
  ·have h2:=r2 g hg;rw[e] at hg;cases hg;refine⟨fun y hy hq=>?_,fun hpv=>?_⟩
   ·rcases List.mem_append.1 hy with hy|hy
    ·have:=hold y hy _ hq;omega
    ·rw[List.mem_singleton.1 hy] at hq;have:=(hfoot _ hq).2.2;omega
   ·have:=hcells h.p _ hpv;omega
 ·intro g hg y hy hq;have hgl:=hcells h.p g hg;rcases List.mem_append.1 hy with hy|hy
  ·exact h.ap g hg y hy hq
  ·rw[List.mem_singleton.1 hy] at hq;have:=(hfoot g hq).1;omega
theorem LInv.pushL{w0 wr w2:World}{sb rb base:Nat}{B:List UInt8}{n at_:Nat}{U:List Nat}{xs ls pl ls':List RRow}{lv uv pv lv':Value}(h:LInv w0 wr sb rb base B n at_ U xs ls pl lv uv pv)(hS:Same lv.ownBlock.toList wr w2)(hl:w2.ownsRow base 159 1 lv' ls'.length (ls'.map fun x=>ptr x.eb))(hb:lv'.ownBlock=lv.ownBlock\/∃g,lv'.ownBlock=some g/\wr.heap.size<=g) :
 LInv w0 w2 sb rb base B n at_ U xs ls' pl lv' uv pv:=by
 have hbl:=h.bl;have hsz:=hS.size;have hm:∀q,q∈lv.ownBlock.toList->lv.ownBlock=some q:=fun q hq=>by simpa using hq
 have hold:∀y∈xs,∀q∈y.foot,q < wr.heap.size:=h.rows.low;refine⟨h.sc.next hS (fun hq=>?_) (fun q hq=>?_),h.fr hS (fun q hq=>Or.inr (Or.inl ⟨owns_row h.l q (hm q hq),(h.al q (hm q hq)).1⟩)),h.new,hS.at h.pool (fun hq=>?_),hl,owns_but h.u hS (fun g hg hq=>(h.al g (hm g hq)).2.1 hg),owns_but h.p hS (fun g hg hq=>(h.al g (hm g hq)).2.2 hg),fun g hg=>?_,h.au,h.ap,h.sbl,h.rbl,⟨by omega,hbl.2⟩⟩
 ·have:=owns_row h.l sb (hm _ hq);have:=h.sbl;omega
 ·have:=owns_row h.l q (hm _ hq);omega
 ·have:=owns_row h.l rb (hm _ hq);have:=h.rbl.1;omega
 ·rcases hb with e|⟨g',e,hg'⟩
  ·rw[e] at hg;exact h.al g hg
  ·rw[e] at hg;cases hg;refine⟨fun y hy hq=>?_,fun hu=>?_,fun hu=>?_⟩
   ·have:=hold y hy _ hq;omega
   ·have:=(h.u.lt _ hu).2;omega
   ·have:=(h.p.lt _ hu).2;omega
theorem LInv.pushP{w0 wr w2:World}{sb rb base:Nat}{B:List UInt8}{n at_:Nat}{U:List Nat}{xs ls pl pl':List RRow}{lv uv pv pv':Value}(h:LInv w0 wr sb rb base B n at_ U xs ls pl lv uv pv)(hS:Same (rb :: pv.ownBlock.toList) wr w2)(hP:At w2 rb 84 [.int .i64 (n:Int),pv'])(hl:w2.ownsRow base 115 1 pv' pl'.length (pl'.map fun x=>ptr x.vb))(hb:pv'.ownBlock=pv.ownBlock\/∃g,pv'.ownBlock=some g/\wr.heap.size<=g) :
 LInv w0 w2 sb rb base B n at_ U xs ls pl' lv uv pv':=by
 have hbl:=h.bl;have hsz:=hS.size;have hm:∀q,q∈rb :: pv.ownBlock.toList->q=rb\/pv.ownBlock=some q:=fun q hq=>by
  rcases List.mem_cons.1 hq with e|e
  ·exact Or.inl e
  ·exact Or.inr (by simpa using e)
 have hold:∀y∈xs,∀q∈y.foot,q < wr.heap.size:=h.rows.low;have hrb:=h.rbl;refine⟨h.sc.next hS (fun hq=>?_) (fun q hq=>?_),h.fr hS (fun q hq=>?_),h.new,hP,owns_but h.l hS (fun g hg hq=>?_),owns_but h.u hS (fun g hg hq=>?_),hl,fun g hg=>?_,fun g hg=>?_,fun g hg=>?_,h.sbl,h.rbl,⟨by omega,hbl.2⟩⟩
 ·rcases hm _ hq with e|e
  ·exact hrb.2.1 e.symm
  ·have:=owns_row h.p sb e;have:=h.sbl;omega
 ·rcases hm _ hq with e|e
  ·rw[e];exact hrb.2.2
  ·have:=owns_row h.p q e;omega
 ·rcases hm _ hq with e|e
  ·exact Or.inr (Or.inr e)
  ·exact Or.inr (Or.inl ⟨owns_row h.p q e,h.ap q e⟩)
 ·rcases hm _ hq with e|e
  ·have:=owns_row h.l g hg;omega
  ·exact (h.al g hg).2.2 e
 ·rcases hm _ hq with e|e
  ·have:=owns_row h.u g hg;omega
  ·exact (h.au g hg).2 e
 ·refine⟨(h.al g hg).1,(h.al g hg).2.1,fun hp=>?_⟩;rcases hb with e|⟨g',e,hg'⟩
  ·rw[e] at hp;exact (h.al g hg).2.2 hp
  ·rw[e] at hp;cases hp;have:=(h.l.lt _ hg).2;omega
 ·refine⟨(h.au g hg).1,fun hp=>?_⟩;rcases hb with e|⟨g',e,hg'⟩
  ·rw[e] at hp;exact (h.au g hg).2 hp
  ·rw[e] at hp;cases hp;have:=(h.u.lt _ hg).2;omega
 ·rcases hb with e|⟨g',e,hg'⟩
  ·rw[e] at hg;exact h.ap g hg
  ·rw[e] at hg;cases hg;intro y hy hq;have:=hold y hy _ hq;omega
theorem LInv.ahead{w0 wr:World}{sb rb base:Nat}{B:List UInt8}{n at_:Nat}{U:List Nat}{xs pl:List RRow}{aa:Option Addr}{lc:Nat}{uv pv:Value}(h:LInv w0 wr sb rb base B n at_ U xs xs pl (.slice aa xs.length lc) uv pv):AheadAt wr aa xs.length (xs.getLast?.map (·.e.name)) sb []:=by
 refine⟨fun h0=>by rw[List.length_eq_zero_iff.1 h0];rfl,fun h0=>?_⟩;obtain⟨g,cs,e1,e2,e3,e4,e5,e6⟩:=owns_at h.l h0;have hl:xs.length - 1 < xs.length:=by omega
 have hlast:xs.getLast? = some xs[xs.length - 1]!:=by
  rw[List.getLast?_eq_getElem?,List.getElem?_eq_getElem hl,getElem!_pos xs _ hl]
 have hm:xs[xs.length - 1]!∈xs:=by rw[getElem!_pos xs _ hl];exact List.getElem_mem hl
 have hf:=h.rows.fix _ hl;have hv:=h.rows.vol _ hl;have hnw:=h.new _ hm;have hsb:=h.sbl;refine⟨_,g,_,_,cs,_,_,by rw[hlast];rfl,e1,e3,?_,hf.ent,rfl,hv,rfl,?_,?_,?_⟩
 ·have e:(cs.take xs.length)[xs.length - 1]? = cs[xs.length - 1]?:=by rw[List.getElem?_take,if_pos hl]
  rw[<-e,e6,List.getElem?_map,List.getElem?_eq_getElem hl,getElem!_pos xs _ hl];rfl
 ·simp only[List.mem_singleton];omega
 ·simp only[List.mem_singleton];have:=hnw (xs[xs.length - 1]!).eb (by simp[RRow.foot]);omega
 ·simp only[List.mem_singleton];have:=hnw (xs[xs.length - 1]!).vb (by simp[RRow.foot]);omega
end
end Go.Proofs.YtpddgdjocffgdaaGreat
