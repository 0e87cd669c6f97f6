/- A Pool: Create, by contracts. A Pool: Picture, by contracts. A Pool: keep, by contracts. What stands in volumes and pictures, while places are kept. A Pool: picturesOf, by a contract. A Pool: what pictures keep, in steps. -/
import Derived.Test.YtpddgdjocffgdaaGreatJ06
import Derived.Maps.AppendAt
import Derived.Test.YtpddgdjocffgdaaGreatJ04
namespace Go.Proofs.YtpddgdjocffgdaaGreat
set_option linter.unusedVariables false
set_option linter.unusedSimpArgs false
set_option linter.unusedSectionVars false
set_option maxHeartbeats 16000000
set_option maxRecDepth 100000
section
open Go.RowKit Go.Sort
variable [DecidableEq Blk] [Inhabited Blk] [Inhabited Vol]
theorem create_name(s:St)(t:ByteArray)(k:Int)(w:World)(h:PoolAt w s)(ht:t.size<=maxLen)(hn:nameB t=false) :
 Calls Tryz.prog 47 #[.pointer (some ⟨s.pb,0,none⟩),.string t,.int .i64 k] w fun e w'=>e=.returned (.int .i64 2)/\w'=w:=by
 have hF:=findNew_name s t w h ht hn;have hnot:=runNot;clear h ht;generalize posOf s.names t=po at *
 go_enter Tryz.func47,Tryz.ntmps47
 go_wp2_with (first|(go_at_call 81;refine hF.mono ?_;rintro e w' ⟨rfl,rfl⟩))
 go_ret
 exact⟨rfl,rfl⟩
theorem create_exists(s:St)(t:ByteArray)(k:Int)(w:World)(h:PoolAt w s)(ht:t.size<=maxLen)(hn:nameB t=true)(hx:s.has t=true) :
 Calls Tryz.prog 47 #[.pointer (some ⟨s.pb,0,none⟩),.string t,.int .i64 k] w fun e w'=>e=.returned (.int .i64 3)/\w'=w:=by
 have hF:=findNew_exists s t w h ht hn hx;have hnot:=runNot;clear h ht;generalize posOf s.names t=po at *
 go_enter Tryz.func47,Tryz.ntmps47
 go_wp2_with (first|(go_at_call 81;refine hF.mono ?_;rintro e w' ⟨rfl,rfl⟩))
 go_ret
 exact⟨rfl,rfl⟩
theorem create_arg(s:St)(t:ByteArray)(k:Int)(w:World)(h:PoolAt w s)(ht:t.size<=maxLen)(hn:nameB t=true)(hx:s.has t=false)(hk:¬(1<=k/\k<=200)) :
 Calls Tryz.prog 47 #[.pointer (some ⟨s.pb,0,none⟩),.string t,.int .i64 k] w fun e w'=>e=.returned (.int .i64 1)/\w'=w:=by
 have hF:=findNew_ok s t w h ht hn hx;have hC:=isCount_calls k w;rw[decide_eq_false hk] at hC;clear hk;have hnot:=runNot;clear h ht;generalize posOf s.names t=po at *
 go_enter Tryz.func47,Tryz.ntmps47
 go_wp2_with (first|(go_at_call 81;refine hF.mono ?_;rintro e w' ⟨rfl,rfl⟩)|(go_at_call 42;refine hC.mono ?_;rintro e w' ⟨rfl,rfl⟩))
 go_ret
 exact⟨rfl,rfl⟩
theorem create_add(s:St)(t:ByteArray)(k:Nat)(w:World)(Q:Ending->World->Prop)(h:PoolAt w s)(ht:t.size<=maxLen)(hn:nameB t=true)(hx:s.has t=false)(hk:1<=k/\k<=200)
 (hA:∀W vb,Same [] w W->w.heap.size<=vb->At W vb 133 [.string t,.slice none 0 0,.pointer none,.slice none 0 0,.bool false] ->
  Calls Tryz.prog 82 #[.pointer (some ⟨s.pb,0,none⟩),.int .i64 (posOf s.names t:Nat),.pointer (some ⟨vb,0,none⟩),.int .i64 k] W fun e w'=>∃x,e=.returned (.int .i64 x)/\Q (.returned (.int .i64 x)) w') :
 Calls Tryz.prog 47 #[.pointer (some ⟨s.pb,0,none⟩),.string t,.int .i64 k] w Q:=by
 have hF:=findNew_ok s t w h ht hn hx;have hC:=isCount_calls k w;rw[decide_eq_true (by omega:(1:Int)<=k/\(k:Int)<=200)] at hC;have hts:t.size<=10:=by simp[nameB] at hn;exact hn.1.2
 have hnot:=runNot;clear h ht;generalize posOf s.names t=po at *
 go_enter Tryz.func47,Tryz.ntmps47
 go_wp2_with (first|(go_at_call 81;refine hF.mono ?_;rintro e w' ⟨rfl,rfl⟩)|(go_at_call 42;refine hC.mono ?_;rintro e w' ⟨rfl,rfl⟩))
 refine (clone_calls t _ (by omega)).mono ?_;rintro e w2 ⟨rfl,S2⟩
 go_wp2_with fail
 have A0:=At.new w2 #[Value.string t,Value.slice none 0 0,Value.pointer none,Value.slice none 0 0,Value.bool false] 133;have hz:=S2.size;refine (hA _ _ (S2.alloc _) hz A0).mono ?_;rintro e w3 ⟨x,rfl,hQ⟩;clear hA A0
 go_wp2
 exact hQ
theorem create_many(s:St)(t:ByteArray)(k:Nat)(w:World)(h:PoolAt w s)(ht:t.size<=maxLen)(hn:nameB t=true)(hx:s.has t=false)(hk:1<=k/\k<=200)(hv:20<=s.vols.length) :
 Calls Tryz.prog 47 #[.pointer (some ⟨s.pb,0,none⟩),.string t,.int .i64 k] w fun e w'=>e=.returned (.int .i64 5)/\Same [] w w':=
 create_add s t k w _ h ht hn hx hk fun W vb hW _ _=>(add_many s _ _ vb W (h.new hW) hv).mono fun e w' ⟨h1,h2⟩=>⟨5,h1,rfl,by rw[h2];exact hW⟩
theorem After.old{w0 w w':World}{s s':St}{fr:List Nat}(h:After w s w' s' fr)(h0:Same [] w0 w):After w0 s w' s' fr:=
 ⟨h.pool,h.good,(h0.mono (T:=s.foot) (by simp)).step h.same (fun k hk _=>hk),fun k hk=>(h.foot k hk).imp id fun e=>Nat.le_trans h0.size e,h.pb,h.n⟩
theorem create_full(s:St)(fr:List Nat)(t:ByteArray)(k:Nat)(w:World)(h:PoolAt w s)(hG:Good s fr)(ht:t.size<=maxLen)(hn:nameB t=true)(hx:s.has t=false)(hk:1<=k/\k<=200)(hv:s.vols.length < 20)(hf:fr.length < k) :
 Calls Tryz.prog 47 #[.pointer (some ⟨s.pb,0,none⟩),.string t,.int .i64 k] w fun e w'=>e=.returned (.int .i64 6)/\∃d',After w s w' { s with d:=d' } fr:=
 create_add s t k w _ h ht hn hx hk fun W vb hW _ _=>(add_full s fr _ k vb W (h.new hW) hG hk hv hf).mono fun e w' ⟨h1,d',h2⟩=>⟨6,h1,rfl,d',h2.old hW⟩
theorem create_ok(s:St)(fr:List Nat)(t:ByteArray)(k:Nat)(w:World)(h:PoolAt w s)(hG:Good s fr)(ht:t.size<=maxLen)(hn:nameB t=true)(hx:s.has t=false)(hk:1<=k/\k<=200)(hv:s.vols.length < 20)(hf:k<=fr.length) :
 Calls Tryz.prog 47 #[.pointer (some ⟨s.pb,0,none⟩),.string t,.int .i64 k] w fun e w'=>e=.returned (.int .i64 0) /\
  ∃g vb gb,After w s w' { s with m:=s.m - k,d:=popsD s.m k s.d,ab:=some g,vols:=insVol (posOf s.names t) ⟨vb,gb,t,fr.take k,none,none,[],false⟩ s.vols } (fr.drop k)/\w.heap.size<=vb:=
 create_add s t k w _ h ht hn hx hk fun W vb hW hvb hA=>
  (add_ok s fr t k vb none W (h.new hW) hG hA (fun hm=>by have:=h.foot_lt _ hm;omega) hn hx hk hv hf (by simp)).mono fun e w' ⟨h1,g,gb,h2⟩=>⟨0,h1,rfl,g,vb,gb,h2.after hW hvb,hvb⟩
theorem picture_name(s:St)(t u:ByteArray)(k:Int)(w:World)(h:PoolAt w s)(ht:t.size<=maxLen)(hn:nameB t=false) :
 Calls Tryz.prog 57 #[.pointer (some ⟨s.pb,0,none⟩),.string t,.string u,.int .i64 k] w fun e w'=>e=.returned (.int .i64 2)/\w'=w:=by
 have hF:=findNew_name s t w h ht hn;have hnot:=runNot;clear h ht;generalize posOf s.names t=po at *
 go_enter Tryz.func57,Tryz.ntmps57
 go_wp2_with (first|(go_at_call 81;refine hF.mono ?_;rintro e w' ⟨rfl,rfl⟩))
 go_ret
 exact⟨rfl,rfl⟩
theorem picture_exists(s:St)(t u:ByteArray)(k:Int)(w:World)(h:PoolAt w s)(ht:t.size<=maxLen)(hn:nameB t=true)(hx:s.has t=true) :
 Calls Tryz.prog 57 #[.pointer (some ⟨s.pb,0,none⟩),.string t,.string u,.int .i64 k] w fun e w'=>e=.returned (.int .i64 3)/\w'=w:=by
 have hF:=findNew_exists s t w h ht hn hx;have hnot:=runNot;clear h ht;generalize posOf s.names t=po at *
 go_enter Tryz.func57,Tryz.ntmps57
 go_wp2_with (first|(go_at_call 81;refine hF.mono ?_;rintro e w' ⟨rfl,rfl⟩))
 go_ret
 exact⟨rfl,rfl⟩
theorem picture_none(s:St)(t u:ByteArray)(k:Int)(w:World)(h:PoolAt w s)(ht:t.size<=maxLen)(hn:nameB t=true)(hx:s.has t=false)(hu:s.has u=false) :
 Calls Tryz.prog 57 #[.pointer (some ⟨s.pb,0,none⟩),.string t,.string u,.int .i64 k] w fun e w'=>e=.returned (.int .i64 4)/\w'=w:=by
 have hF:=findNew_ok s t w h ht hn hx;have hD:=find_not s u w h hu;have hnot:=runNot;clear h ht;generalize posOf s.names t=po at *
 go_enter Tryz.func57,Tryz.ntmps57
 go_wp2_with (first|(go_at_call 81;refine hF.mono ?_;rintro e w' ⟨rfl,rfl⟩)|(go_at_call 77;refine hD.mono ?_;rintro e w' ⟨rfl,rfl⟩))
 go_ret
 exact⟨rfl,rfl⟩
theorem picture_picture(s:St)(t u:ByteArray)(k:Int)(w:World)(h:PoolAt w s)(ht:t.size<=maxLen)(hn:nameB t=true)(hx:s.has t=false)(hu:s.has u=true)(ho:(s.vol u).org≠none) :
 Calls Tryz.prog 57 #[.pointer (some ⟨s.pb,0,none⟩),.string t,.string u,.int .i64 k] w fun e w'=>e=.returned (.int .i64 7)/\w'=w:=by
 have hF:=findNew_ok s t w h ht hn hx;have hD:=find_has s u w h hu;have hm:=(St.has_mem hu).1;have hI:=isPicture_calls (s.vol u) w (h.vols _ hm);have ho':(s.vol u).org.isSome=true:=by cases hq:(s.vol u).org<;>simp_all
 rw[ho'] at hI;generalize (s.vol u).vb=ub at *;have hnot:=runNot;clear h ht;generalize posOf s.names t=po at *
 go_enter Tryz.func57,Tryz.ntmps57
 go_wp2_with (first|(go_at_call 81;refine hF.mono ?_;rintro e w' ⟨rfl,rfl⟩)|(go_at_call 77;refine hD.mono ?_;rintro e w' ⟨rfl,rfl⟩)|(go_at_call 88;refine hI.mono ?_;rintro e w' ⟨rfl,rfl⟩))
 go_ret
 exact⟨rfl,rfl⟩
theorem picture_low(s:St)(t u:ByteArray)(k:Int)(w:World)(h:PoolAt w s)(ht:t.size<=maxLen)(hn:nameB t=true)(hx:s.has t=false)(hu:s.has u=true)(ho:(s.vol u).org=none)(hk:k < 1) :
 Calls Tryz.prog 57 #[.pointer (some ⟨s.pb,0,none⟩),.string t,.string u,.int .i64 k] w fun e w'=>e=.returned (.int .i64 1)/\w'=w:=by
 have hF:=findNew_ok s t w h ht hn hx;have hD:=find_has s u w h hu;have hm:=(St.has_mem hu).1;have hI:=isPicture_calls (s.vol u) w (h.vols _ hm);rw[ho] at hI;generalize (s.vol u).vb=ub at *;have hnot:=runNot;clear h ht;generalize posOf s.names t=po at *
 go_enter Tryz.func57,Tryz.ntmps57
 go_wp2_with (first|(go_at_call 81;refine hF.mono ?_;rintro e w' ⟨rfl,rfl⟩)|(go_at_call 77;refine hD.mono ?_;rintro e w' ⟨rfl,rfl⟩)|(go_at_call 88;refine hI.mono ?_;rintro e w' ⟨rfl,rfl⟩))
 go_ret
 exact⟨rfl,rfl⟩
theorem picture_high(s:St)(t u:ByteArray)(k:Int)(w:World)(h:PoolAt w s)(ht:t.size<=maxLen)(hn:nameB t=true)(hx:s.has t=false)(hu:s.has u=true)(ho:(s.vol u).org=none)(hk0:1<=k)(hk:(s.vol u).xs.length < k) :
 Calls Tryz.prog 57 #[.pointer (some ⟨s.pb,0,none⟩),.string t,.string u,.int .i64 k] w fun e w'=>e=.returned (.int .i64 1)/\w'=w:=by
 have hF:=findNew_ok s t w h ht hn hx;have hD:=find_has s u w h hu;have hm:=(St.has_mem hu).1;have hI:=isPicture_calls (s.vol u) w (h.vols _ hm);rw[ho] at hI;have hZ:=size_vol (s.vol u) w (h.vols _ hm) ho;have hsm:=(h.vols _ hm).small;generalize (s.vol u).vb=ub at *;generalize (s.vol u).xs.length=ul at *;have hnot:=runNot;clear h ht;generalize posOf s.names t=po at *
 go_enter Tryz.func57,Tryz.ntmps57
 go_wp2_with (first|(go_at_call 81;refine hF.mono ?_;rintro e w' ⟨rfl,rfl⟩)|(go_at_call 77;refine hD.mono ?_;rintro e w' ⟨rfl,rfl⟩)|(go_at_call 88;refine hI.mono ?_;rintro e w' ⟨rfl,rfl⟩)|(go_at_call 94;refine hZ.mono ?_;rintro e w' ⟨rfl,rfl⟩))
 go_ret
 exact⟨rfl,rfl⟩
theorem picture_add(s:St)(t u:ByteArray)(k:Nat)(w:World)(Q:Ending->World->Prop)(h:PoolAt w s)(ht:t.size<=maxLen)(hn:nameB t=true)(hx:s.has t=false)(hu:s.has u=true)(ho:(s.vol u).org=none)(hk:1<=k/\k<=(s.vol u).xs.length)
 (hA:∀W vb,Same [] w W->w.heap.size<=vb->At W vb 133 [.string t,.slice none 0 0,.pointer (some ⟨(s.vol u).vb,0,none⟩),.slice none 0 0,.bool false] ->
  Calls Tryz.prog 82 #[.pointer (some ⟨s.pb,0,none⟩),.int .i64 (posOf s.names t:Nat),.pointer (some ⟨vb,0,none⟩),.int .i64 k] W fun e w'=>∃x,e=.returned (.int .i64 x)/\Q (.returned (.int .i64 x)) w') :
 Calls Tryz.prog 57 #[.pointer (some ⟨s.pb,0,none⟩),.string t,.string u,.int .i64 k] w Q:=by
 have hF:=findNew_ok s t w h ht hn hx;have hD:=find_has s u w h hu;have hm:=(St.has_mem hu).1;have hI:=isPicture_calls (s.vol u) w (h.vols _ hm);rw[ho] at hI;have hZ:=size_vol (s.vol u) w (h.vols _ hm) ho;have hsm:=(h.vols _ hm).small;have hts:t.size<=10:=by simp[nameB] at hn;exact hn.1.2
 have hnot:=runNot;clear h ht hm;generalize posOf s.names t=po at *;generalize (s.vol u).vb=ub at *;generalize (s.vol u).xs.length=ul at *;have l1:(1:Int)<=(k:Int):=by omega
 have l2:(k:Int)<=(ul:Int):=by omega
 go_enter Tryz.func57,Tryz.ntmps57
 go_wp2_with (first|(go_at_call 81;refine hF.mono ?_;rintro e w' ⟨rfl,rfl⟩)|(go_at_call 77;refine hD.mono ?_;rintro e w' ⟨rfl,rfl⟩)|(go_at_call 88;refine hI.mono ?_;rintro e w' ⟨rfl,rfl⟩)|(go_at_call 94;refine hZ.mono ?_;rintro e w' ⟨rfl,rfl⟩))
 refine (clone_calls t _ (by omega)).mono ?_;rintro e w2 ⟨rfl,S2⟩
 go_wp2_with fail
 have A0:=At.new w2 #[Value.string t,Value.slice none 0 0,Value.pointer (some ⟨ub,0,none⟩),Value.slice none 0 0,Value.bool false] 133;have hz:=S2.size;refine (hA _ _ (S2.alloc _) hz A0).mono ?_;rintro e w3 ⟨x,rfl,hQ⟩;clear hA A0
 go_wp2
 exact hQ
theorem picture_many(s:St)(t u:ByteArray)(k:Nat)(w:World)(h:PoolAt w s)(ht:t.size<=maxLen)(hn:nameB t=true)(hx:s.has t=false)(hu:s.has u=true)(ho:(s.vol u).org=none)(hk:1<=k/\k<=(s.vol u).xs.length)(hv:20<=s.vols.length) :
 Calls Tryz.prog 57 #[.pointer (some ⟨s.pb,0,none⟩),.string t,.string u,.int .i64 k] w fun e w'=>e=.returned (.int .i64 5)/\Same [] w w':=
 picture_add s t u k w _ h ht hn hx hu ho hk fun W vb hW _ _=>(add_many s _ _ vb W (h.new hW) hv).mono fun e w' ⟨h1,h2⟩=>⟨5,h1,rfl,by rw[h2];exact hW⟩
theorem picture_full(s:St)(fr:List Nat)(t u:ByteArray)(k:Nat)(w:World)(h:PoolAt w s)(hG:Good s fr)(ht:t.size<=maxLen)(hn:nameB t=true)(hx:s.has t=false)(hu:s.has u=true)(ho:(s.vol u).org=none)(hk:1<=k/\k<=(s.vol u).xs.length)(hv:s.vols.length < 20)(hf:fr.length < k) :
 Calls Tryz.prog 57 #[.pointer (some ⟨s.pb,0,none⟩),.string t,.string u,.int .i64 k] w fun e w'=>e=.returned (.int .i64 6)/\∃d',After w s w' { s with d:=d' } fr:=
 picture_add s t u k w _ h ht hn hx hu ho hk fun W vb hW _ _=>(add_full s fr _ k vb W (h.new hW) hG ⟨hk.1,by have:=(h.vols _ (St.has_mem hu).1).small;omega⟩ hv hf).mono fun e w' ⟨h1,d',h2⟩=>⟨6,h1,rfl,d',h2.old hW⟩
theorem picture_ok(s:St)(fr:List Nat)(t u:ByteArray)(k:Nat)(w:World)(h:PoolAt w s)(hG:Good s fr)(ht:t.size<=maxLen)(hn:nameB t=true)(hx:s.has t=false)(hu:s.has u=true)(ho:(s.vol u).org=none)(hk:1<=k/\k<=(s.vol u).xs.length)(hv:s.vols.length < 20)(hf:k<=fr.length) :
 Calls Tryz.prog 57 #[.pointer (some ⟨s.pb,0,none⟩),.string t,.string u,.int .i64 k] w fun e w'=>e=.returned (.int .i64 0) /\
  ∃g vb gb,After w s w' { s with m:=s.m - k,d:=popsD s.m k s.d,ab:=some g,vols:=insVol (posOf s.names t) ⟨vb,gb,t,fr.take k,some (s.vol u).vb,none,[],false⟩ s.vols } (fr.drop k)/\w.heap.size<=vb:=
 picture_add s t u k w _ h ht hn hx hu ho hk fun W vb hW hvb hA=>
  (add_ok s fr t k vb (some (s.vol u).vb) W (h.new hW) hG hA (fun hm=>by have:=h.foot_lt _ hm;omega) hn hx ⟨hk.1,by have:=(h.vols _ (St.has_mem hu).1).small;omega⟩ hv hf (fun o ho2=>⟨s.vol u,(St.has_mem hu).1,by simpa using ho2,ho,hk.2⟩)).mono fun e w' ⟨h1,g,gb,h2⟩=>⟨0,h1,rfl,g,vb,gb,h2.after hW hvb,hvb⟩
theorem keep_lost(s:St)(fr:List Nat)(i:Nat)(v:Vol)(k:Nat)(b:Blk)(w:World)(u:Value)(hu:u=b.val)(h:PoolAt w s)(hG:Good s fr)(hi:i < s.vols.length)(hv:s.vols[i]! = v)(ho:v.org≠none)(hf:v.kept.length=v.xs.length) :
 Calls Tryz.prog 123 #[.pointer (some ⟨s.pb,0,none⟩),.pointer (some ⟨v.vb,0,none⟩),.int .i64 k,u] w fun e w'=>e=.returned (.int .i64 10) /\
  After w s w' { s with bl:=giveB v.xs s.bl,vols:=setVol i v.losing s.vols } fr:=by
 subst hu;obtain⟨x0,x1,x2,x3,x4,x5,x6,x7⟩:=b;have hmem:v∈s.vols:=by rw[<-hv];exact get_mem hi
 have hV:=h.vols v hmem;obtain⟨cap,kcap,hcap,hvo,hk1,hk2⟩:=hV.vol;have hsm:=hV.small;have lv:=hvo.lt;have c1:w.cell? ⟨v.vb,1,none⟩=some (.slice (some ⟨v.gb,0,none⟩) v.xs.length cap):=hvo.cell? 1;have c3:w.cell? ⟨v.vb,3,none⟩=some (.slice (adr v.kg) v.kept.length kcap):=hvo.cell? 3;have hL:=fun W (hW:Same [] w W)=>lose_calls s fr i v W (h.new hW) hG hi hv ho
 clear h hG hvo hV hk1 hk2;unfold Blk.val
 go_enter Tryz.func123,Tryz.ntmps123
 go_wp2_with (go_at_call 139;refine (hL _ ((Same.refl _ _).alloc _)).mono ?_;rintro e w2 ⟨rfl,hA⟩)
 have hFin:=hA.old ((Same.refl [] w).alloc (Obj.cells #[.int .u8 x0,.int .u8 x1,.int .u8 x2,.int .u8 x3,.int .u8 x4,.int .u8 x5,.int .u8 x6,.int .u8 x7] 91));clear hA hL
 go_ret
 exact⟨rfl,hFin⟩
def Vol.keeping(v:Vol)(g k:Nat):Vol:={ v with kg:=some g,kept:=v.kept++[k] }
theorem keep_more(s:St)(fr:List Nat)(i:Nat)(v:Vol)(k:Nat)(b:Blk)(w:World)(u:Value)(hu:u=b.val)(h:PoolAt w s)(hG:Good s fr)(hi:i < s.vols.length)(hv:s.vols[i]! = v)(ho:v.org≠none)(hl:v.lost=false)(hf:v.kept.length < v.xs.length)(hk:k∉v.kept)(hks:k < s.size v) :
 Calls Tryz.prog 123 #[.pointer (some ⟨s.pb,0,none⟩),.pointer (some ⟨v.vb,0,none⟩),.int .i64 k,u] w fun e w'=>e=.returned (.int .i64 0) /\
  ∃g,After w s w' { s with bl:=s.bl.set v.xs[v.kept.length]! b,vols:=setVol i (v.keeping g k) s.vols } fr:=by
 subst hu;obtain⟨x0,x1,x2,x3,x4,x5,x6,x7⟩:=b;have hmem:v∈s.vols:=by rw[<-hv];exact get_mem hi
 have hV:=h.vols v hmem;obtain⟨cap,kcap,hcap,hvo,hk1,hk2⟩:=hV.vol;obtain⟨cs,hr⟩:=hV.row;have hsm:=hV.small;have lv:=hvo.lt;have hown:w.ownsRow 0 3 1 (.slice (adr v.kg) v.kept.length kcap) v.kept.length (v.kept.map (fun x:Nat=>Value.int .i64 x)):=by
  cases hg:v.kg with
  | none=>
   obtain⟨q1,q2⟩:=hk1 hg;rw[q1,q2];exact World.ownsRow_nil _ _ _ _
  | some g=>exact nums_owns (hk2 g hg) rfl
 have hob:(Value.slice (adr v.kg) v.kept.length kcap).ownBlock=v.kg:=by
  cases hg:v.kg<;>rfl
 have lb:∀q,v.kg=some q->q < w.heap.size:=fun q hq=>(hk2 q hq).lt
 obtain⟨i0,hi0,hz0,hz1,hz2⟩:=info_parts Tryz.info3;have c1:w.cell? ⟨v.vb,1,none⟩=some (.slice (some ⟨v.gb,0,none⟩) v.xs.length cap):=hvo.cell? 1;have c3:w.cell? ⟨v.vb,3,none⟩=some (.slice (adr v.kg) v.kept.length kcap):=hvo.cell? 3;have hne:((v.kept.length:Int) == (v.xs.length:Int))=false:=beq_eq_false_iff_ne.2 (by omega);have H:Hid (PoolAt w s/\Good s fr/\VolAt w v):=⟨h,hG,hV⟩
 have HV:Hid (At w v.vb 133 (v.cells cap kcap)/\RowAt w v.gb v.xs cs):=⟨hvo,hr⟩
 clear h hG hvo hV hk1 hk2 hr;unfold Blk.val
 go_enter Tryz.func123,Tryz.ntmps123
 go_wp2_with (first|(at_builtin;refine wpList_append_own_at _ rfl _ _ 51 rfl 0 3 i0 (.int .i64 0) 1 8 Tryz.underlying51 hi0 hz0 hz1 hz2 rfl (by decide) _ _ _ rfl ((hown.alloc _).alloc _) ⟨w.heap.size+1,0,none⟩ 1 1 [.int .i64 (k:Nat)] rfl rfl ?c1 ?c2 ?c3 ?c4 ?c5 ?_))
 case c1=>
  intro j u hj
  match j,hj with
  | 0,hj=>simp at hj;subst hj;simp[Addr.add]
 case c2=>intro u hu;simp at hu;subst hu;rfl
 case c3=>unfold maxLen;omega
 case c4=>omega
 case c5=>first|omega|(simp;done)|(simp;omega)
 intro v' w4 hown' hgrow _ hblk
 try rw[hob] at hgrow
 try rw[hob] at hblk
 obtain⟨hvo,hr⟩:=HV.out;obtain⟨h,hG,hV⟩:=H.out;have S4:Same v.kg.toList w w4:=(((Same.refl _ _).alloc _).alloc _).grown hgrow (fun i hi hl=>by rw[hi];simp);have hown2:w4.ownsRow 0 3 1 v' (v.kept.length+1) ((v.kept++[k]).map (fun x:Nat=>Value.int .i64 x)):=by
  rw[List.map_append];exact hown'
 obtain⟨g,kc2,rfl,_,hN⟩:=owns_nums hown2 (by simp);have hgo:v.kg=some g\/w.heap.size+2<=g:=by
  rcases hblk with hq|hq
  ·exact .inl hq.symm
  ·right
   have:=hq;simp[Value.ownBlock] at this;omega
 have hndv:=hV.nodup;simp only[Vol.foot,List.nodup_cons,List.mem_cons,not_or,Option.mem_toList,Option.mem_def] at hndv;obtain⟨⟨nv1,nv2⟩,nv3,_⟩:=hndv;have b1:=S4.at hvo (by simpa using nv2);have f3:w4.frozen? ⟨v.vb,3,none⟩=false:=b1.frozen 3;have g3:w4.cell? ⟨v.vb,3,none⟩=some (.slice (adr v.kg) v.kept.length kcap):=b1.cell? 3;have ng:g≠v.vb:=by
  rcases hgo with hq|hq
  ·intro e;exact nv2 (by rw[hq,e])
  ·omega
 have ng2:g≠v.gb:=by
  rcases hgo with hq|hq
  ·intro e;exact nv3 (by rw[hq,e])
  ·have:=hr.at_.lt;omega
 have S5:Same (v.vb :: v.kg.toList) w (w4.setCell ⟨v.vb,3,none⟩ (.slice (some ⟨g,0,none⟩) (v.kept++[k]).length kc2)):=
  (S4.mono (by intro b hb _;exact List.mem_cons_of_mem _ hb)).set _ _ _ (by simp)
 have A5:=b1.set_same 3 (.slice (some ⟨g,0,none⟩) (v.kept++[k]).length kc2);have V5:VolAt (w4.setCell ⟨v.vb,3,none⟩ (.slice (some ⟨g,0,none⟩) (v.kept++[k]).length kc2)) (v.keeping g k):=by
  refine⟨⟨cap,kc2,hcap,A5,(fun e=>by cases e),fun g' hg'=>?_⟩,⟨cs,hr.same S5 ?_⟩,?_,hV.pos,hV.small,by simp[Vol.keeping];omega,fun e=>absurd e ho⟩
  ·cases hg';obtain⟨cs',h1,h2⟩:=hN.ex;exact⟨cs',h1.set_other _ _ _ ng,h2⟩
  ·simp only[List.mem_cons,not_or,Option.mem_toList,Option.mem_def];exact⟨fun e=>nv1 e.symm,nv3⟩
  ·simp only[Vol.keeping,Vol.foot,Option.toList_some];simp only[List.nodup_cons,List.mem_cons,List.not_mem_nil,or_false,not_or,not_false_eq_true,and_true,List.nodup_nil];exact⟨⟨nv1,fun e=>ng e.symm⟩,fun e=>ng2 e.symm⟩
 have hft:∀q∈(v.keeping g k).foot,q∈(s.vols[i]!).foot\/w.heap.size<=q:=by
  intro q hq;rw[hv];simp only[Vol.keeping,Vol.foot,Option.toList_some,List.mem_cons,List.not_mem_nil,or_false,Option.mem_toList,Option.mem_def] at hq ⊢;rcases hq with e|e|e
  ·left;left;exact e
  ·left;right;left;exact e
  ·rcases hgo with hq|hq
   ·left;right;right;rw[e];exact hq
   ·right;omega
 have hP5:=set_state h i hi (v.keeping g k) (by rw[hv];rfl) (by rw[hv];rfl) (by rw[hv];rfl) hft V5 (S5.mono (by
  intro q hq _;rw[hv];simp only[List.mem_cons,Option.mem_toList,Option.mem_def,Vol.foot] at hq ⊢;rcases hq with e|e
  ·exact Or.inl e
  ·exact Or.inr (Or.inr e)))
 have hpc:Pics (setVol i (v.keeping g k) s.vols):=by
  refine pics_set h hG.pics i hi (v.keeping g k) (by rw[hv];rfl) (by rw[hv];rfl) ?_ ?_ ?_ (fun u hu e=>(hG.pics u hu).2.2 v hmem e)
  ·show (v.kept++[k]).Nodup;exact List.nodup_append.2 ⟨(hG.pics v hmem).1,by simp,by intro a ha b hb e;simp at hb;subst hb;subst e;exact hk ha⟩
  ·intro e;have e':v.lost=true:=e;rw[hl] at e';cases e'
  ·intro u hu e;have hp:=(hG.pics v hmem).2.2 u hu e;refine⟨fun q hq=>?_,hp.2⟩;have hq':q∈v.kept++[k]:=hq;rcases List.mem_append.1 hq' with hq'|hq'
   ·exact hp.1 q hq'
   ·simp at hq';subst hq';have e1:=(h.orgOf hmem).2.2.2 ho;have e2:s.orgOf v=u:=h.vb_inj (h.orgOf hmem).1 hu (by
     have e':v.org=some u.vb:=e;rw[e'] at e1;simpa using e1.symm)
    have:s.size v=u.xs.length:=by unfold St.size;rw[e2]
    omega
 have hyx:v.xs[v.kept.length]!∈v.xs:=mem_getElem! hf;have hyn:=hG.lt.2 v hmem _ hyx;have hG2:=hG.set i hi (v.keeping g k) (by rw[hv];rfl) (by rw[hv];rfl) (s.bl.set v.xs[v.kept.length]! ⟨x0,x1,x2,x3,x4,x5,x6,x7⟩) (zero_set hG h.disk.len _ (hG.apart_fr hmem hyx) _) hpc;have cx:w4.cell? ⟨v.gb,v.kept.length,none⟩=some (.int .i64 (v.xs[v.kept.length]!:Nat)):=by
  rw[(S4.at hr.at_ (by simpa using nv3)).cell?];exact hr.cell _ hf
 obtain⟨pcap,hp,_,_⟩:=h.pool;have hapv:=(apart_of h.nodup).disk v hmem;have npb:s.pb≠v.vb:=by have:=hapv v.vb (by simp[Vol.foot]);simp only[List.mem_cons,not_or] at this;exact fun e=>this.1 e.symm
 have npk:v.kg≠some s.pb:=fun e=>by have:=hapv s.pb (by simp[Vol.foot,e]);simp at this
 have p1:w4.cell? ⟨s.pb,1,none⟩=some (.pointer (some ⟨s.db,0,none⟩)):=(S4.at hp (by simpa using npk)).cell? 1;have d1:w4.cell? ⟨v.vb,1,none⟩=some (.slice (some ⟨v.gb,0,none⟩) v.xs.length cap):=b1.cell? 1;have B0:At ((w.alloc (Obj.cells #[.int .u8 x0,.int .u8 x1,.int .u8 x2,.int .u8 x3,.int .u8 x4,.int .u8 x5,.int .u8 x6,.int .u8 x7] 91)).alloc (Obj.cells #[.int .i64 (k:Nat)] 3)) w.heap.size 91 [.int .u8 x0,.int .u8 x1,.int .u8 x2,.int .u8 x3,.int .u8 x4,.int .u8 x5,.int .u8 x6,.int .u8 x7]:=(At.new w _ _).alloc _;have B4:=B0.of_heap (hgrow.block w.heap.size B0.lt (fun e=>by have:=lb _ e.symm;omega));have B5:=B4.set_other v.vb 3 (.slice (some ⟨g,0,none⟩) (v.kept++[k]).length kc2) (by omega);have z0:(w4.setCell ⟨v.vb,3,none⟩ (.slice (some ⟨g,0,none⟩) (v.kept++[k]).length kc2)).cell? ⟨w.heap.size,0,none⟩=some (.int .u8 x0):=B5.cell? 0;have z1:(w4.setCell ⟨v.vb,3,none⟩ (.slice (some ⟨g,0,none⟩) (v.kept++[k]).length kc2)).cell? ⟨w.heap.size,1,none⟩=some (.int .u8 x1):=B5.cell? 1;have z2:(w4.setCell ⟨v.vb,3,none⟩ (.slice (some ⟨g,0,none⟩) (v.kept++[k]).length kc2)).cell? ⟨w.heap.size,2,none⟩=some (.int .u8 x2):=B5.cell? 2;have z3:(w4.setCell ⟨v.vb,3,none⟩ (.slice (some ⟨g,0,none⟩) (v.kept++[k]).length kc2)).cell? ⟨w.heap.size,3,none⟩=some (.int .u8 x3):=B5.cell? 3;have z4:(w4.setCell ⟨v.vb,3,none⟩ (.slice (some ⟨g,0,none⟩) (v.kept++[k]).length kc2)).cell? ⟨w.heap.size,4,none⟩=some (.int .u8 x4):=B5.cell? 4;have z5:(w4.setCell ⟨v.vb,3,none⟩ (.slice (some ⟨g,0,none⟩) (v.kept++[k]).length kc2)).cell? ⟨w.heap.size,5,none⟩=some (.int .u8 x5):=B5.cell? 5;have z6:(w4.setCell ⟨v.vb,3,none⟩ (.slice (some ⟨g,0,none⟩) (v.kept++[k]).length kc2)).cell? ⟨w.heap.size,6,none⟩=some (.int .u8 x6):=B5.cell? 6;have z7:(w4.setCell ⟨v.vb,3,none⟩ (.slice (some ⟨g,0,none⟩) (v.kept++[k]).length kc2)).cell? ⟨w.heap.size,7,none⟩=some (.int .u8 x7):=B5.cell? 7;have e1:(w4.setCell ⟨v.vb,3,none⟩ (.slice (some ⟨g,0,none⟩) (v.kept++[k]).length kc2)).cell? ⟨s.pb,1,none⟩=some (.pointer (some ⟨s.db,0,none⟩)):=((S4.at hp (by simpa using npk)).set_other v.vb 3 _ npb).cell? 1;have e2:(w4.setCell ⟨v.vb,3,none⟩ (.slice (some ⟨g,0,none⟩) (v.kept++[k]).length kc2)).cell? ⟨v.vb,1,none⟩=some (.slice (some ⟨v.gb,0,none⟩) v.xs.length cap):=A5.cell? 1;have e3:(w4.setCell ⟨v.vb,3,none⟩ (.slice (some ⟨g,0,none⟩) (v.kept++[k]).length kc2)).cell? ⟨v.gb,v.kept.length,none⟩=some (.int .i64 (v.xs[v.kept.length]!:Nat)):=by
  rw[((S4.at hr.at_ (by simpa using nv3)).set_other v.vb 3 _ (fun e=>nv1 e.symm)).cell?];exact hr.cell _ hf
 have hW:=fun W (hW:Same [] (w4.setCell ⟨v.vb,3,none⟩ (.slice (some ⟨g,0,none⟩) (v.kept++[k]).length kc2)) W) u (hu:u=Blk.val ⟨x0,x1,x2,x3,x4,x5,x6,x7⟩)=>diskWrite_calls s.db s.bb s.n v.xs[v.kept.length]! _ _ _ s.bl ⟨x0,x1,x2,x3,x4,x5,x6,x7⟩ W _ u _ rfl rfl hu (hW.at hP5.disk.disk (by simp)) (hW.at hP5.disk.data (by simp)) h.disk.len hyn (by have:=h.disk.small;omega)
 have HF:Hid (∀w6,At w6 s.bb 91 (flat (s.bl.set v.xs[v.kept.length]! ⟨x0,x1,x2,x3,x4,x5,x6,x7⟩))->Same [s.bb] (w4.setCell ⟨v.vb,3,none⟩ (.slice (some ⟨g,0,none⟩) (v.kept++[k]).length kc2)) w6->After w s w6 { s with bl:=s.bl.set v.xs[v.kept.length]! ⟨x0,x1,x2,x3,x4,x5,x6,x7⟩,vols:=setVol i (v.keeping g k) s.vols } fr):=by
  intro w6 A6 S6;have hD:=hP5.disk;have D6:DiskAt w6 s.db s.bb s.fb s.n s.m (s.bl.set v.xs[v.kept.length]! ⟨x0,x1,x2,x3,x4,x5,x6,x7⟩) s.d:=
   ⟨S6.at hD.disk (by simp;exact hD.ne1),A6,S6.at hD.free (by simp;exact hD.ne3.symm),hD.ne1,hD.ne2,hD.ne3,by simp[hD.len],hD.size,hD.le,hD.small⟩
  refine⟨hP5.withDisk S6 (by intro q hq;simp at hq;simp[hq]) D6,hG2,(S5.mono (T:=s.foot) ?_).step S6 (by simp[St.foot]),set_foot (s:=s) (v:=v.keeping g k) hi hft,rfl,rfl⟩;intro q hq _;refine s.foot_vol hmem ?_;simp only[List.mem_cons,Option.mem_toList,Option.mem_def,Vol.foot] at hq ⊢;rcases hq with e|e
  ·exact Or.inl e
  ·exact Or.inr (Or.inr e)
 have HL:Hid (v.kept.length+1=(v.kept++[k]).length):=by show _=_;simp
 rw[show (v.kept++[k]).length=v.kept.length+1 by simp] at e1 e2 e3 hW HF z0 z1 z2 z3 z4 z5 z6 z7;clear hown hown' hown2 hgrow h hG hV hvo hr hP5 V5 S5 A5 b1 S4 hpc hG2 hft B0 B4 B5 hN hp cx p1 d1 H HV c1 c3 hob lb;generalize hyy:v.xs[v.kept.length]! = yy at *;have HYY:Hid (v.xs[v.kept.length]! = yy):=hyy;clear hyy;have l1:(v.kept.length:Int) < (v.xs.length:Int):=by omega
 go_wp2_with fail
 rw[show (v.kept++[k]).length=v.kept.length+1 by simp];generalize (w4.setCell ⟨v.vb,3,none⟩ (.slice (some ⟨g,0,none⟩) (v.kept.length+1) kc2))=W5 at *;refine region_tail 12 (by kernel_rfl) (by kernel_rfl) ?_;simp only[List.take_succ_cons,List.take_zero,List.drop_succ_cons,List.drop_zero]
 repeat still_step
 refine wpStill_nil ?_
 go_wp2_with (go_at_call 102;refine (hW _ ((Same.refl _ _).drew) _ rfl).mono ?_;rintro e w6 ⟨rfl,A6,S6⟩)
 have hFin:=HF.out w6 A6 ((Same.refl _ _).drew.step S6 (by simp));clear HF A6 S6 hW
 go_ret
 exact⟨rfl,g,by rw[HYY.out];exact hFin⟩
theorem setVol_get(i j:Nat)(v:Vol)(l:List Vol)(hi:i < l.length)(hj:j < l.length):(setVol i v l)[j]! = if j=i then v else l[j]!:=by
 have e:setVol i v l=l.set i v:=by
  unfold setVol;rw[List.set_eq_take_append_cons_drop,if_pos hi]
 rw[e,getElem!_pos _ j (by simpa using hj),getElem!_pos l j hj,List.getElem_set];by_cases h:i=j
 ·subst h;simp
 ·rw[if_neg h,if_neg (fun e=>h e.symm)]
theorem flat_apart{α:Type}(f:α->List Nat):∀(l:List α),(l.flatMap f).Nodup->(∀a∈l,(f a).Nodup)/\∀i j,i < l.length->j < l.length->∀x,(∃a,l[i]? = some a/\x∈f a)->(∃b,l[j]? = some b/\x∈f b)->i=j
 | [],_=>⟨by simp,fun i j h=>by simp at h⟩
 | a :: r,h=>by
  rw[List.flatMap_cons,List.nodup_append] at h;obtain⟨h1,h2,h3⟩:=h;obtain⟨i1,i2⟩:=flat_apart f r h2;refine⟨fun x hx=>?_,fun i j hi hj x hx hy=>?_⟩
  ·rcases List.mem_cons.1 hx with rfl|hx
   ·exact h1
   ·exact i1 x hx
  ·obtain⟨p,hp,hpx⟩:=hx;obtain⟨q,hq,hqx⟩:=hy;cases i with
   | zero=>
    cases j with
    | zero=>rfl
    | succ j=>
     simp at hp hq;subst hp;exact absurd rfl (h3 x hpx x (List.mem_flatMap.2 ⟨q,List.mem_of_getElem? hq,hqx⟩))
   | succ i=>
    cases j with
    | zero=>
     simp at hp hq;subst hq;exact absurd rfl (h3 x hqx x (List.mem_flatMap.2 ⟨p,List.mem_of_getElem? hp,hpx⟩))
    | succ j=>
     simp at hp hq hi hj;rw[i2 i j hi hj x ⟨p,hp,hpx⟩ ⟨q,hq,hqx⟩]
theorem Good.xs_nodup{s:St}{fr:List Nat}(h:Good s fr){v:Vol}(hv:v∈s.vols):v.xs.Nodup:=
 (flat_apart (·.xs) s.vols (List.nodup_append.1 h.nodup).2.1).1 v hv
theorem Good.xs_apart{s:St}{fr:List Nat}(h:Good s fr){i j:Nat}(hi:i < s.vols.length)(hj:j < s.vols.length)(hne:i≠j){x:Nat}(hx:x∈(s.vols[i]!).xs):x∉(s.vols[j]!).xs:=fun hy=>
 hne ((flat_apart (·.xs) s.vols (List.nodup_append.1 h.nodup).2.1).2 i j hi hj x ⟨_,by rw[getElem!_pos s.vols i hi] at hx;exact⟨List.getElem?_eq_getElem hi,hx⟩⟩ ⟨_,by rw[getElem!_pos s.vols j hj] at hy;exact⟨List.getElem?_eq_getElem hj,hy⟩⟩)
theorem mem_index{l:List Vol}{v:Vol}(h:v∈l):∃i,i < l.length/\l[i]! = v:=by
 obtain⟨i,hi,e⟩:=List.getElem_of_mem h;exact⟨i,hi,by rw[getElem!_pos l i hi];exact e⟩
structure Base(s s':St):Prop where
 len:s'.vols.length=s.vols.length
 same:∀i,i < s.vols.length->(s'.vols[i]!).vb=(s.vols[i]!).vb/\(s'.vols[i]!).name=(s.vols[i]!).name/\(s'.vols[i]!).xs=(s.vols[i]!).xs/\(s'.vols[i]!).org=(s.vols[i]!).org
 lost:∀i,i < s.vols.length->(s.vols[i]!).lost=true->(s'.vols[i]!).lost=true
theorem Base.refl(s:St):Base s s:=⟨rfl,fun _ _=>⟨rfl,rfl,rfl,rfl⟩,fun _ _ h=>h⟩
theorem Base.trans{a b c:St}(h:Base a b)(k:Base b c):Base a c:=by
 refine⟨k.len.trans h.len,fun i hi=>?_,fun i hi hl=>k.lost i (by rw[h.len];exact hi) (h.lost i hi hl)⟩;obtain⟨a1,a2,a3,a4⟩:=h.same i hi;obtain⟨b1,b2,b3,b4⟩:=k.same i (by rw[h.len];exact hi);exact⟨b1.trans a1,b2.trans a2,b3.trans a3,b4.trans a4⟩
theorem Base.orgOf{w w':World}{s s':St}(hb:Base s s')(h:PoolAt w s)(h':PoolAt w' s')(i:Nat)(hi:i < s.vols.length):∃j,j < s.vols.length/\s.orgOf (s.vols[i]!)=s.vols[j]!/\s'.orgOf (s'.vols[i]!)=s'.vols[j]!:=by
 obtain⟨o1,o2,o3,o4⟩:=h.orgOf (get_mem hi);have hi':i < s'.vols.length:=by rw[hb.len];exact hi
 obtain⟨p1,p2,p3,p4⟩:=h'.orgOf (get_mem hi');obtain⟨q1,q2,q3,q4⟩:=hb.same i hi;by_cases ho:(s.vols[i]!).org=none
 ·exact⟨i,hi,o3 ho,p3 (by rw[q4];exact ho)⟩
 ·obtain⟨j,hj,e⟩:=mem_index o1;refine⟨j,hj,e.symm,?_⟩;have hj':j < s'.vols.length:=by rw[hb.len];exact hj
  refine h'.vb_inj p1 (get_mem hj') ?_;have e1:=o4 ho;have e2:=p4 (by rw[q4];exact ho);rw[q4,e1] at e2;have e3:(s.orgOf (s.vols[i]!)).vb=(s'.orgOf (s'.vols[i]!)).vb:=by simpa using e2
  rw[<-e3,<-e,(hb.same j hj).1]
theorem Base.size{w w':World}{s s':St}(hb:Base s s')(h:PoolAt w s)(h':PoolAt w' s')(i:Nat)(hi:i < s.vols.length):s'.size (s'.vols[i]!)=s.size (s.vols[i]!):=by
 obtain⟨j,hj,e1,e2⟩:=hb.orgOf h h' i hi;unfold St.size;rw[e1,e2,(hb.same j hj).2.2.1]
theorem holder_apart{w:World}{s:St}{fr:List Nat}(h:PoolAt w s)(hG:Good s fr){i:Nat}(hi:i < s.vols.length)(ho:(s.vols[i]!).org≠none){j:Nat}(hj:j < s.vols.length)(hne:j≠i){q:Nat}(hq:q < s.size (s.vols[j]!)):s.holder (s.vols[j]!) q∉(s.vols[i]!).xs:=by
 unfold St.holder
 split
 ·rename_i hm
  exact hG.xs_apart hj hi hne (mem_getElem! (Nat.lt_of_lt_of_le (idxOf_lt hm) (h.vols _ (get_mem hj)).room))
 ·obtain⟨o1,o2,o3,o4⟩:=h.orgOf (get_mem hj);obtain⟨m,hm,e⟩:=mem_index o1;have hmi:m≠i:=fun e2=>ho (by rw[<-e2,e];exact o2)
  have hq':q < (s.orgOf (s.vols[j]!)).xs.length:=hq;rw[<-e] at hq' ⊢;exact hG.xs_apart hm hi hmi (mem_getElem! hq')
theorem base_set{s:St}(bl:List Blk)(i:Nat)(hi:i < s.vols.length)(v:Vol)(h1:v.vb=(s.vols[i]!).vb)(h2:v.name=(s.vols[i]!).name)(h3:v.xs=(s.vols[i]!).xs)(h4:v.org=(s.vols[i]!).org)(h5:(s.vols[i]!).lost=true->v.lost=true):Base s { s with bl:=bl,vols:=setVol i v s.vols }:=by
 refine⟨setVol_length i v s.vols hi,fun j hj=>?_,fun j hj=>?_⟩
 ·show (setVol i v s.vols)[j]!.vb=_/\_;rw[setVol_get i j v s.vols hi hj]
  split
  ·rename_i e;subst e;exact⟨h1,h2,h3,h4⟩
  ·exact⟨rfl,rfl,rfl,rfl⟩
 ·show _->(setVol i v s.vols)[j]!.lost=true;rw[setVol_get i j v s.vols hi hj]
  split
  ·rename_i e;subst e;exact h5
  ·exact id
theorem holder_other{w w':World}{s:St}(h:PoolAt w s)(bl:List Blk)(i:Nat)(hi:i < s.vols.length)(v:Vol)(hb:Base s { s with bl:=bl,vols:=setVol i v s.vols })(h':PoolAt w' { s with bl:=bl,vols:=setVol i v s.vols })
 (j:Nat) (hj:j < s.vols.length) (hne:j≠i) (q:Nat):St.holder { s with bl:=bl,vols:=setVol i v s.vols } (s.vols[j]!) q=s.holder (s.vols[j]!) q:=by
 obtain⟨m,hm,e1,e2⟩:=hb.orgOf h h' j hj;have e3:(setVol i v s.vols)[j]! = s.vols[j]!:=by rw[setVol_get i j v s.vols hi hj,if_neg hne]
 have e4:St.orgOf { s with bl:=bl,vols:=setVol i v s.vols } (s.vols[j]!)=(setVol i v s.vols)[m]!:=by rw[<-e3];exact e2
 unfold St.holder;rw[e1,e4,(hb.same m hm).2.2.1]
theorem get_set_ne{bl:List Blk}{x y:Nat}(b:Blk)(h:x≠y)(hx:x < bl.length):(bl.set y b)[x]! = bl[x]!:=by
 rw[getElem!_pos _ x (by simpa using hx),getElem!_pos bl x hx,List.getElem_set_ne (fun e=>h e.symm)]
theorem get_set_eq{bl:List Blk}{y:Nat}(b:Blk)(hy:y < bl.length):(bl.set y b)[y]! = b:=by
 rw[getElem!_pos _ y (by simpa using hy)];simp
theorem idxOf_snoc_self{l:List Nat}{k:Nat}(h:k∉l):(l++[k]).idxOf k=l.length:=by
 rw[List.idxOf_append,if_neg h];simp
theorem idxOf_snoc_ne{l:List Nat}{k q:Nat}(h:q∈l):(l++[k]).idxOf q=l.idxOf q:=by
 rw[List.idxOf_append,if_pos h]
theorem keep_looks{w w':World}{s:St}{fr:List Nat}(h:PoolAt w s)(hG:Good s fr)(i:Nat)(v:Vol)(g k:Nat)(b:Blk)(hi:i < s.vols.length)(hv:s.vols[i]! = v)(ho:v.org≠none)(hf:v.kept.length < v.xs.length)(hk:k∉v.kept)(hks:k < s.size v)
 (h':PoolAt w' { s with bl:=s.bl.set v.xs[v.kept.length]! b,vols:=setVol i { v with kg:=some g,kept:=v.kept++[k] } s.vols }) (j:Nat) (hj:j < s.vols.length) (q:Nat) (hq:q < s.size (s.vols[j]!)) :
 St.look { s with bl:=s.bl.set v.xs[v.kept.length]! b,vols:=setVol i { v with kg:=some g,kept:=v.kept++[k] } s.vols } (setVol i { v with kg:=some g,kept:=v.kept++[k] } s.vols)[j]! q=if j=i/\q=k then b else s.look (s.vols[j]!) q:=by
 have hb:Base s { s with bl:=s.bl.set v.xs[v.kept.length]! b,vols:=setVol i { v with kg:=some g,kept:=v.kept++[k] } s.vols }:=base_set _ i hi _ (by rw[hv]) (by rw[hv]) (by rw[hv]) (by rw[hv]) (by rw[hv];exact id);have hmem:v∈s.vols:=by rw[<-hv];exact get_mem hi
 have hy:v.xs[v.kept.length]!∈v.xs:=mem_getElem! hf;have hyl:v.xs[v.kept.length]! < s.bl.length:=by rw[h.disk.len];exact hG.lt.2 v hmem _ hy
 by_cases hji:j=i
 ·subst hji;rw[setVol_get j j _ s.vols hi hi,if_pos rfl];rw[hv] at hq ⊢;obtain⟨m,hm,e1,e2⟩:=hb.orgOf h h' j hi;rw[hv] at e1;have e3:St.orgOf { s with bl:=s.bl.set v.xs[v.kept.length]! b,vols:=setVol j { v with kg:=some g,kept:=v.kept++[k] } s.vols } { v with kg:=some g,kept:=v.kept++[k] }=(setVol j { v with kg:=some g,kept:=v.kept++[k] } s.vols)[m]!:=by
   have:(setVol j { v with kg:=some g,kept:=v.kept++[k] } s.vols)[j]! = { v with kg:=some g,kept:=v.kept++[k] }:=by rw[setVol_get j j _ s.vols hi hi,if_pos rfl]
   have e2':St.orgOf { s with bl:=s.bl.set v.xs[v.kept.length]! b,vols:=setVol j { v with kg:=some g,kept:=v.kept++[k] } s.vols } (setVol j { v with kg:=some g,kept:=v.kept++[k] } s.vols)[j]! = (setVol j { v with kg:=some g,kept:=v.kept++[k] } s.vols)[m]!:=e2;rw[this] at e2';exact e2'
  unfold St.look St.holder;rw[e3,(hb.same m hm).2.2.1,e1];show (s.bl.set v.xs[v.kept.length]! b)[if q∈v.kept++[k] then v.xs[(v.kept++[k]).idxOf q]! else (s.vols[m]!).xs[q]!]! = if j=j/\q=k then b else s.bl[if q∈v.kept then v.xs[v.kept.idxOf q]! else (s.vols[m]!).xs[q]!]!
  by_cases hqk:q=k
  ·subst hqk;rw[if_pos (show q∈v.kept++[q] by simp),if_pos (show j=j/\q=q from ⟨rfl,rfl⟩),idxOf_snoc_self hk,get_set_eq b hyl]
  ·rw[if_neg (show ¬(j=j/\q=k) from fun e=>hqk e.2)];by_cases hqm:q∈v.kept
   ·rw[if_pos (show q∈v.kept++[k] from List.mem_append_left _ hqm),if_pos hqm,idxOf_snoc_ne hqm];have hl1:=idxOf_lt hqm;refine get_set_ne b ?_ ?_
    ·intro e;have hnd:=hG.xs_nodup hmem;rw[getElem!_pos v.xs _ (by omega),getElem!_pos v.xs _ hf] at e;have:=(List.getElem_inj (h₀:=by omega) (h₁:=hf) hnd).1 e;omega
    ·rw[h.disk.len];exact hG.lt.2 v hmem _ (mem_getElem! (by omega))
   ·rw[if_neg (show ¬q∈v.kept++[k] by simp[hqm,hqk]),if_neg hqm];have hqo:q < (s.orgOf v).xs.length:=hq;have hom:=(h.orgOf hmem).1;refine get_set_ne b ?_ ?_
    ·intro e;have hmj:m≠j:=by
      intro e2;subst e2;have:=(h.orgOf hmem).2.1;rw[e1,hv] at this;exact ho this
     rw[e1] at hqo;have hx:=hG.xs_apart hm hi hmj (mem_getElem! hqo);rw[e,hv] at hx;exact hx hy
    ·rw[h.disk.len,<-e1];exact hG.lt.2 _ hom _ (mem_getElem! hqo)
 ·rw[setVol_get i j _ s.vols hi hj,if_neg hji,if_neg (by simp[hji])];unfold St.look;rw[holder_other h _ i hi _ hb h' j hj hji q];refine get_set_ne b ?_ ?_
  ·intro e;have:=holder_apart h hG hi (by rw[hv];exact ho) hj hji hq;rw[e,hv] at this;exact this hy
  ·rw[h.disk.len];exact holder_lt h hG (get_mem hj) hq
theorem lose_looks{w w':World}{s:St}{fr:List Nat}(h:PoolAt w s)(hG:Good s fr)(i:Nat)(v:Vol)(hi:i < s.vols.length)(hv:s.vols[i]! = v)(ho:v.org≠none)
 (h':PoolAt w' { s with bl:=giveB v.xs s.bl,vols:=setVol i v.losing s.vols }) (j:Nat) (hj:j < s.vols.length) (hji:j≠i) (q:Nat) (hq:q < s.size (s.vols[j]!)) :
 St.look { s with bl:=giveB v.xs s.bl,vols:=setVol i v.losing s.vols } (setVol i v.losing s.vols)[j]! q=s.look (s.vols[j]!) q:=by
 have hb:Base s { s with bl:=giveB v.xs s.bl,vols:=setVol i v.losing s.vols }:=base_set _ i hi _ (by rw[hv];rfl) (by rw[hv];rfl) (by rw[hv];rfl) (by rw[hv];rfl) (fun _=>rfl);rw[setVol_get i j _ s.vols hi hj,if_neg hji];unfold St.look;rw[holder_other h _ i hi _ hb h' j hj hji q,giveB_get _ _ _ (by rw[h.disk.len];exact holder_lt h hG (get_mem hj) hq),if_neg];have:=holder_apart h hG hi (by rw[hv];exact ho) hj hji hq;rw[hv] at this;exact this
def St.picsOf(s:St)(ub:Nat):List Vol:=s.vols.filter fun v=>decide (v.org=some ub)
theorem filter_take_snoc(l:List Vol)(p:Vol->Bool)(k:Nat)(hk:k < l.length):(l.take (k+1)).filter p=(l.take k).filter p++(if p l[k]! then [l[k]!] else []):=by
 rw[List.take_succ_eq_append_getElem hk,List.filter_append,getElem!_pos l k hk]
 congr 1
 simp[List.filter_cons]
theorem vol_info:∃i,Tryz.prog.info? 133=some i/\i.size≠0:=by
 have h:(Tryz.prog.info? 133).map (fun i=>i.size)=some 5:=by kernel_rfl
 obtain⟨i,hi,e⟩:=Option.map_eq_some_iff.1 h;exact⟨i,hi,by omega⟩
theorem picturesOf_calls(s:St)(u:Vol)(w:World)(h:PoolAt w s)(hu:u∈s.vols) :
 Calls Tryz.prog 93 #[.pointer (some ⟨s.pb,0,none⟩),.pointer (some ⟨u.vb,0,none⟩)] w fun e w'=>∃v,e=.returned v/\w'.ownsRow w.heap.size 110 1 v (s.picsOf u.vb).length ((s.picsOf u.vb).map fun v=>ptr v.vb)/\Same [] w w':=by
 obtain⟨cap,hp,_,_⟩:=h.pool;have c2:w.cell? ⟨s.pb,2,none⟩=some (.slice (s.ab.map fun b=>⟨b,0,none⟩) s.vols.length cap):=hp.cell? 2;have hfew:=h.few;clear hp;obtain⟨i0,hi,hz0,hz1,hz2⟩:=info_parts Tryz.info59;obtain⟨iv,hiv,hivz⟩:=vol_info
 go_enter Tryz.func93,Tryz.ntmps93
 go_wp2
 go_loopw [5,13] (fun v i wr=>∃k:Nat,k<=s.vols.length/\i=.int .i64 k/\Same [] w wr/\wr.ownsRow w.heap.size 110 1 v ((s.vols.take k).filter fun v=>decide (v.org=some u.vb)).length (((s.vols.take k).filter fun v=>decide (v.org=some u.vb)).map fun v=>ptr v.vb))
  (fun _ i _=>s.vols.length - (intOf i).toNat)
 case atStart=>exact⟨0,Nat.zero_le _,rfl,Same.refl _ _,World.ownsRow_nil _ _ _ _⟩
 case round=>
  obtain⟨k,hk,rfl,hS,hown⟩:=hrel;by_cases hkl:k < s.vols.length
  ·have hP:=h.new hS;obtain⟨b,hb,e1,e2⟩:=hP.cell k hkl;have hvm:s.vols[k]!∈s.vols:=by rw[getElem!_pos s.vols k hkl];exact List.getElem_mem hkl
   have hb':(s.ab.map fun b=>(⟨b,0,none⟩:Addr))=some ⟨b,0,none⟩:=by rw[hb];rfl
   have HV:Hid ((s.vols.take (k+1)).filter (fun v=>decide (v.org=some u.vb))=(s.vols.take k).filter (fun v=>decide (v.org=some u.vb))++(if decide ((s.vols[k]!).org=some u.vb) then [s.vols[k]!] else [])):=filter_take_snoc s.vols _ k hkl;obtain⟨vc,vk,_,hvo,_,_⟩:=(hP.vols _ hvm).vol;have c3:wr.cell? ⟨(s.vols[k]!).vb,2,none⟩=some (.pointer (adr (s.vols[k]!).org)):=hvo.cell? 2;have HO:Hid (∀o,(s.vols[k]!).org=some o->∃x∈s.vols,x.vb=o/\x.org=none):=hP.orgs _ hvm;generalize s.vols[k]! = vv at *;rw[hb'];have l2:(k:Int) < (s.vols.length:Int):=by omega
   have HH:Hid (PoolAt wr s):=hP;clear h c2 hb' hvo hP;have hsz:=hS.size;by_cases hq:vv.org=some u.vb
   ·have HV2:Hid ((s.vols.take (k+1)).filter (fun v=>decide (v.org=some u.vb))=(s.vols.take k).filter (fun v=>decide (v.org=some u.vb))++[vv]):=by
     show _=_;rw[HV.out,if_pos (decide_eq_true hq)]
    rw[hq] at c3;simp only[adr,Option.map_some] at c3;have heq:=run_eql_ptr_same (P:=Tryz.prog) (w:=wr) ⟨u.vb,0,none⟩ Tryz.underlying110 hiv;generalize ((s.vols.take k).filter (fun v=>decide (v.org=some u.vb)))=fl at *;obtain⟨a,cp,rfl⟩:=owns_form hown;have hfl:fl.length<=20:=by
     have h1:=congrArg List.length HV2.out;have h2:=List.length_filter_le (fun v=>decide (v.org=some u.vb)) (s.vols.take (k+1));have h3:=List.length_take_le (k+1) s.vols;simp at h1;omega
    clear HV
    go_wp2_with (at_builtin;refine wpList_append_own _ rfl _ _ 85 rfl w.heap.size 110 i0 (.pointer none) 1 8 Tryz.underlying85 hi hz0 hz1 hz2 rfl (by decide) _ _ _ rfl (hown.alloc _) ⟨wr.heap.size,0,none⟩ 1 1 [ptr vv.vb] rfl rfl ?c1 ?c2 ?c3 ?c4 ?c5 ?_)
    case c1=>
     intro j u hj
     match j,hj with
     | 0,hj=>simp at hj;subst hj;simp[Addr.add,ptr]
    case c2=>intro u hu;simp at hu;subst hu;rfl
    case c3=>unfold maxLen;omega
    case c4=>omega
    case c5=>simp;omega
    intro v' w2 hown' hgrow _;have S2:Same [] w w2:=(hS.alloc _).grown hgrow (fun j hj hl=>by have:=(hown.lt j hj).1;omega);have O2:w2.ownsRow w.heap.size 110 1 v' (((s.vols.take (k+1)).filter (fun v=>decide (v.org=some u.vb))).length) (((s.vols.take (k+1)).filter (fun v=>decide (v.org=some u.vb))).map fun v=>ptr v.vb):=by
     rw[HV2.out,List.length_append,List.map_append];exact hown'
    clear hown' hgrow hown hS
    go_wp2
    go_roundw
    case rel=>exact⟨k+1,by omega,by go_num,S2,O2⟩
    case measure=>simp[intOf];omega
   ·have heq:(binOp .eql 110 (.pointer (adr vv.org)) (.pointer (some ⟨u.vb,0,none⟩))).run Tryz.prog wr=.ok (.bool false) wr:=by
     cases ho:vv.org with
     | none=>exact eql_nil_some _ _ Tryz.underlying110
     | some o=>
      obtain⟨x,hx,rfl,_⟩:=HO.out o ho;obtain⟨_,_,_,hxo,_,_⟩:=(HH.out.vols x hx).vol;obtain⟨_,_,_,huo,_,_⟩:=(HH.out.vols u hu).vol;refine run_eql_ptr_other (P:=Tryz.prog) (w:=wr) Tryz.underlying110 hiv hivz ?_ hxo huo;intro e;exact hq (by rw[ho];simpa using e)
    have HV2:Hid ((s.vols.take (k+1)).filter (fun v=>decide (v.org=some u.vb))=(s.vols.take k).filter (fun v=>decide (v.org=some u.vb))):=by
     show _=_;rw[HV.out,if_neg (by simpa using hq),List.append_nil]
    clear HV
    go_wp2
    go_roundw
    case rel=>exact⟨k+1,by omega,by go_num,hS,by rw[HV2.out];exact hown⟩
    case measure=>simp[intOf];omega
  ·have ek:k=s.vols.length:=by omega
   subst ek;rw[List.take_length] at hown;have HW:Hid (wr.ownsRow w.heap.size 110 1 u5 (s.picsOf u.vb).length ((s.picsOf u.vb).map fun v=>ptr v.vb)):=hown;clear hown
   go_wp2
   go_ret
   exact⟨_,rfl,HW.out,hS⟩
def keepRes(k:Nat)(v:Vol):List Nat×Bool:=if k∈v.kept\/v.lost=true then (v.kept,v.lost) else if v.kept.length < v.xs.length then (v.kept++[k],v.lost) else ([],true)
def Spare(s:St):Prop:=∀i,i < s.vols.length->(s.vols[i]!).org≠none->∀x∈(s.vols[i]!).xs.drop (s.vols[i]!).kept.length,s.bl[x]! = Blk.zero
theorem bl_set(l:List Blk)(k q:Nat)(y:Blk)(hq:q < l.length):(l.set k y)[q]! = if q=k then y else l[q]!:=by
 rw[getElem!_pos _ q (by simpa using hq),List.getElem_set];by_cases h:k=q
 ·subst h;simp
 ·rw[if_neg h,if_neg (fun e=>h e.symm),getElem!_pos l q hq]
theorem drop_ne{xs:List Nat}(hn:xs.Nodup){k:Nat}(hk:k < xs.length){x:Nat}(hx:x∈xs.drop (k+1)):x≠xs[k]!:=fun e=>by
 have h1:xs.drop k=xs[k]! :: xs.drop (k+1):=by rw[getElem!_pos xs k hk];exact List.drop_eq_getElem_cons hk
 have h2:(xs.drop k).Nodup:=hn.sublist (List.drop_sublist _ _);rw[h1,List.nodup_cons] at h2;exact h2.1 (e▸hx)
theorem drop_mem{xs:List Nat}{k x:Nat}(hx:x∈xs.drop (k+1)):x∈xs.drop k:=by
 have:xs.drop (k+1)=(xs.drop k).drop 1:=by rw[List.drop_drop]
 rw[this] at hx;exact List.mem_of_mem_drop hx
theorem spare_more{w:World}{s:St}{fr:List Nat}(h:PoolAt w s)(hG:Good s fr)(i:Nat)(v:Vol)(g k:Nat)(b:Blk)(hi:i < s.vols.length)(hv:s.vols[i]! = v)(hf:v.kept.length < v.xs.length)(sp:Spare s) :
 Spare { s with bl:=s.bl.set v.xs[v.kept.length]! b,vols:=setVol i (v.keeping g k) s.vols }:=by
 intro j hj ho x hx;have hj':j < s.vols.length:=by have:j < (setVol i (v.keeping g k) s.vols).length:=hj;rw[setVol_length i _ _ hi] at this;exact this
 have hvm:v∈s.vols:=by rw[<-hv];exact get_mem hi
 have hlt:∀a,a < s.vols.length->∀y∈(s.vols[a]!).xs,y < s.bl.length:=fun a ha y hy=>by rw[h.disk.len];exact hG.lt.2 _ (get_mem ha) y hy
 have hin:v.xs[v.kept.length]!∈v.xs:=mem_getElem! hf;have ho':((setVol i (v.keeping g k) s.vols)[j]!).org≠none:=ho;have hx':x∈((setVol i (v.keeping g k) s.vols)[j]!).xs.drop ((setVol i (v.keeping g k) s.vols)[j]!).kept.length:=hx;show (s.bl.set v.xs[v.kept.length]! b)[x]! = _;rw[setVol_get i j _ s.vols hi hj'] at ho' hx';by_cases e:j=i
 ·subst e;rw[if_pos rfl] at ho' hx';have hx2:x∈v.xs.drop (v.kept.length+1):=by simpa [Vol.keeping] using hx'
  rw[bl_set _ _ _ _ (hlt j hj' x (by rw[hv];exact List.mem_of_mem_drop hx2)),if_neg (drop_ne (hG.xs_nodup hvm) hf hx2)];exact sp j hj' (by rw[hv];exact ho') x (by rw[hv];exact drop_mem hx2)
 ·rw[if_neg e] at ho' hx';have hxm:=List.mem_of_mem_drop hx';rw[bl_set _ _ _ _ (hlt j hj' x hxm),if_neg (fun q=>hG.xs_apart hj' hi e hxm (by rw[hv,q];exact hin))];exact sp j hj' ho' x hx'
theorem spare_lost{w:World}{s:St}{fr:List Nat}(h:PoolAt w s)(hG:Good s fr)(i:Nat)(v:Vol)(hi:i < s.vols.length)(hv:s.vols[i]! = v)(sp:Spare s) :
 Spare { s with bl:=giveB v.xs s.bl,vols:=setVol i v.losing s.vols }:=by
 intro j hj ho x hx;have hj':j < s.vols.length:=by have:j < (setVol i v.losing s.vols).length:=hj;rw[setVol_length i _ _ hi] at this;exact this
 have hvm:v∈s.vols:=by rw[<-hv];exact get_mem hi
 have hlt:∀a,a < s.vols.length->∀y∈(s.vols[a]!).xs,y < s.bl.length:=fun a ha y hy=>by rw[h.disk.len];exact hG.lt.2 _ (get_mem ha) y hy
 have ho':((setVol i v.losing s.vols)[j]!).org≠none:=ho;have hx':x∈((setVol i v.losing s.vols)[j]!).xs.drop ((setVol i v.losing s.vols)[j]!).kept.length:=hx;show (giveB v.xs s.bl)[x]! = _;rw[setVol_get i j _ s.vols hi hj'] at ho' hx';by_cases e:j=i
 ·subst e;rw[if_pos rfl] at hx';have hx2:x∈v.xs:=List.mem_of_mem_drop hx';rw[giveB_get _ _ _ (hlt j hj' x (by rw[hv];exact hx2)),if_pos hx2]
 ·rw[if_neg e] at ho' hx';have hxm:=List.mem_of_mem_drop hx';rw[giveB_get _ _ _ (hlt j hj' x hxm),if_neg (by rw[<-hv];exact hG.xs_apart hj' hi e hxm)];exact sp j hj' ho' x hx'
theorem spare_set{w:World}{s:St}{fr:List Nat}{y:Nat}{b:Blk}(h:PoolAt w { s with bl:=s.bl.set y b })(hG:Good { s with bl:=s.bl.set y b } fr)(iu:Nat)(hiu:iu < s.vols.length)(hu0:(s.vols[iu]!).org=none)(hy:y∈(s.vols[iu]!).xs)(sp:Spare s):Spare { s with bl:=s.bl.set y b }:=by
 intro j hj ho x hx;have hxm:=List.mem_of_mem_drop hx;have e:j≠iu:=fun e=>by subst e;exact ho hu0
 have hlen:(s.bl.set y b).length=s.n:=h.disk.len;rw[List.length_set] at hlen;show (s.bl.set y b)[x]! = _;rw[bl_set _ _ _ _ (by rw[hlen];exact hG.lt.2 _ (get_mem hj) x hxm),if_neg (fun (q:x=y)=>hG.xs_apart hj hiu e hxm (by rw[q];exact hy))];exact sp j hj ho x hx
theorem spare_used{w:World}{s:St}{fr:List Nat}(h:PoolAt w s)(hG:Good s fr)(i:Nat)(hi:i < s.vols.length)(m:Nat)(hm:m < (s.vols[i]!).kept.length)(hr:(s.vols[i]!).kept.length<=(s.vols[i]!).xs.length)(b:Blk)(sp:Spare s):Spare { s with bl:=s.bl.set (s.vols[i]!).xs[m]! b }:=by
 intro j hj ho x hx;have hxm:=List.mem_of_mem_drop hx;have hin:(s.vols[i]!).xs[m]!∈(s.vols[i]!).xs:=mem_getElem! (by omega);show (s.bl.set (s.vols[i]!).xs[m]! b)[x]! = _;rw[bl_set _ _ _ _ (by rw[h.disk.len];exact hG.lt.2 _ (get_mem hj) x hxm),if_neg]
 ·exact sp j hj ho x hx
 ·intro q;by_cases e:j=i
  ·subst e;have hx':x∈(s.vols[j]!).xs.drop (s.vols[j]!).kept.length:=hx;have hnd:=hG.xs_nodup (get_mem hj);rw[<-List.take_append_drop (s.vols[j]!).kept.length (s.vols[j]!).xs,List.nodup_append] at hnd;refine hnd.2.2 x ?_ x hx' rfl;rw[q,getElem!_pos _ m (by omega)];exact List.mem_take_iff_getElem.2 ⟨m,by omega,rfl⟩
  ·exact hG.xs_apart hj hi e hxm (by rw[q];exact hin)
structure Kept(s s':St)(k:Nat)(P:Vol->Prop):Prop where
 base:Base s s'
 did:∀i,i < s.vols.length->P (s.vols[i]!)->((s'.vols[i]!).kept,(s'.vols[i]!).lost)=keepRes k (s.vols[i]!)
 rest:∀i,i < s.vols.length->¬P (s.vols[i]!)->(s'.vols[i]!).kept=(s.vols[i]!).kept/\(s'.vols[i]!).lost=(s.vols[i]!).lost
 look:∀i,i < s.vols.length->(s'.vols[i]!).lost=false->∀q,q < s.size (s.vols[i]!)->s'.look (s'.vols[i]!) q=s.look (s.vols[i]!) q
 spare:Spare s->Spare s'
theorem After.step{w0 w w':World}{s s1 s2:St}{f1 f2:List Nat}(h:After w0 s w s1 f1)(k:After w s1 w' s2 f2):After w0 s w' s2 f2:=by
 have hz:=h.same.size;refine⟨k.pool,k.good,h.same.step k.same ?_,fun q hq=>?_,k.pb.trans h.pb,k.n.trans h.n⟩
 ·intro q hq hl;rcases h.foot q hq with e|e
  ·exact e
  ·omega
 ·rcases k.foot q hq with e|e
  ·exact h.foot q e
  ·right;omega
theorem Kept.congr{s s':St}{k:Nat}{P Q:Vol->Prop}(h:Kept s s' k P)(e:∀i,i < s.vols.length->(P (s.vols[i]!)↔Q (s.vols[i]!))):Kept s s' k Q:=
 ⟨h.base,fun i hi hq=>h.did i hi ((e i hi).2 hq),fun i hi hq=>h.rest i hi (fun hp=>hq ((e i hi).1 hp)),h.look,h.spare⟩
theorem Kept.start(s:St)(k:Nat):Kept s s k (fun v=>v∈([]:List Vol)):=
 ⟨Base.refl s,fun i hi hp=>by simp at hp,fun i hi _=>⟨rfl,rfl⟩,fun i hi _ q _=>rfl,id⟩
structure Step(s s':St)(k i:Nat):Prop where
 base:Base s s'
 did:((s'.vols[i]!).kept,(s'.vols[i]!).lost)=keepRes k (s.vols[i]!)
 rest:∀j,j < s.vols.length->j≠i->(s'.vols[j]!).kept=(s.vols[j]!).kept/\(s'.vols[j]!).lost=(s.vols[j]!).lost
 look:∀j,j < s.vols.length->(s'.vols[j]!).lost=false->∀q,q < s.size (s.vols[j]!)->s'.look (s'.vols[j]!) q=s.look (s.vols[j]!) q
 spare:Spare s->Spare s'
theorem Step.none(s:St)(k i:Nat)(h:k∈(s.vols[i]!).kept\/(s.vols[i]!).lost=true):Step s s k i:=
 ⟨Base.refl s,by rw[keepRes,if_pos h],fun j _ _=>⟨rfl,rfl⟩,fun j _ _ q _=>rfl,id⟩
theorem index_inj{w:World}{s:St}(h:PoolAt w s){i j:Nat}(hi:i < s.vols.length)(hj:j < s.vols.length)(e:(s.vols[i]!).vb=(s.vols[j]!).vb):i=j:=by
 have hp:=flatMap_foot_vb _ h.flat_nodup;rw[List.pairwise_iff_getElem] at hp;rw[getElem!_pos s.vols i hi,getElem!_pos s.vols j hj] at e;rcases Nat.lt_trichotomy i j with h1|h1|h1
 ·exact absurd e (hp i j hi hj h1)
 ·exact h1
 ·exact absurd e.symm (hp j i hj hi h1)
theorem Kept.one{w w':World}{s sj s2:St}{k:Nat}{P:Vol->Prop}(hK:Kept s sj k P)(h:PoolAt w s)(hj:PoolAt w' sj)(i:Nat)(hi:i < s.vols.length)(hn:¬P (s.vols[i]!))(hS:Step sj s2 k i):Kept s s2 k (fun v=>P v\/v=s.vols[i]!):=by
 have hlen:=hK.base.len;refine⟨hK.base.trans hS.base,fun m hm hp=>?_,fun m hm hp=>?_,fun m hm hl q hq=>?_,fun sp=>hS.spare (hK.spare sp)⟩
 ·by_cases e:m=i
  ·subst e;obtain⟨r1,r2⟩:=hK.rest m hm hn;rw[hS.did];unfold keepRes;rw[r1,r2,(hK.base.same m hm).2.2.1]
  ·obtain⟨r1,r2⟩:=hS.rest m (by rw[hlen];exact hm) e;rw[r1,r2];refine hK.did m hm ?_;rcases hp with hp|hp
   ·exact hp
   ·exact absurd (index_inj h hm hi (by rw[hp])) e
 ·have e:m≠i:=fun e=>hp (Or.inr (by rw[e]))
  obtain⟨r1,r2⟩:=hS.rest m (by rw[hlen];exact hm) e;obtain⟨q1,q2⟩:=hK.rest m hm (fun hq=>hp (Or.inl hq));exact⟨r1.trans q1,r2.trans q2⟩
 ·have hm':m < sj.vols.length:=by rw[hlen];exact hm
  have hlj:(sj.vols[m]!).lost=false:=by
   cases hx:(sj.vols[m]!).lost with
   | false=>rfl
   | true=>rw[hS.base.lost m hm' hx] at hl;cases hl
  rw[hS.look m hm' hl q (by rw[hK.base.size h hj m hm];exact hq)];exact hK.look m hm hlj q hq
theorem step_more{w w':World}{s:St}{fr:List Nat}(h:PoolAt w s)(hG:Good s fr)(i:Nat)(v:Vol)(g k:Nat)(b:Blk)(hi:i < s.vols.length)(hv:s.vols[i]! = v)(ho:v.org≠none)(hl:v.lost=false)(hf:v.kept.length < v.xs.length)(hk:k∉v.kept)(hks:k < s.size v)(hb:b=s.look v k)
 (h':PoolAt w' { s with bl:=s.bl.set v.xs[v.kept.length]! b,vols:=setVol i (v.keeping g k) s.vols }):Step s { s with bl:=s.bl.set v.xs[v.kept.length]! b,vols:=setVol i (v.keeping g k) s.vols } k i:=by
 refine⟨base_set _ i hi _ (by rw[hv];rfl) (by rw[hv];rfl) (by rw[hv];rfl) (by rw[hv];rfl) (by rw[hv];exact id),?_,fun j hj hne=>?_,fun j hj _ q hq=>?_,spare_more h hG i v g k b hi hv hf⟩
 ·show ((setVol i (v.keeping g k) s.vols)[i]!.kept,(setVol i (v.keeping g k) s.vols)[i]!.lost)=_;rw[setVol_get i i _ s.vols hi hi,if_pos rfl,hv,keepRes,if_neg (by simp[hk,hl]),if_pos hf];rfl
 ·show (setVol i (v.keeping g k) s.vols)[j]!.kept=_/\(setVol i (v.keeping g k) s.vols)[j]!.lost=_;rw[setVol_get i j _ s.vols hi hj,if_neg hne];exact⟨rfl,rfl⟩
 ·have:=keep_looks h hG i v g k b hi hv ho hf hk hks h' j hj q hq;refine this.trans ?_
  split
  ·rename_i e;obtain⟨e1,e2⟩:=e;subst e1;subst e2;rw[hv];exact hb
  ·rfl
theorem step_lost{w w':World}{s:St}{fr:List Nat}(h:PoolAt w s)(hG:Good s fr)(i:Nat)(v:Vol)(k:Nat)(hi:i < s.vols.length)(hv:s.vols[i]! = v)(ho:v.org≠none)(hl:v.lost=false)(hf:v.kept.length=v.xs.length)(hk:k∉v.kept)
 (h':PoolAt w' { s with bl:=giveB v.xs s.bl,vols:=setVol i v.losing s.vols }):Step s { s with bl:=giveB v.xs s.bl,vols:=setVol i v.losing s.vols } k i:=by
 refine⟨base_set _ i hi _ (by rw[hv];rfl) (by rw[hv];rfl) (by rw[hv];rfl) (by rw[hv];rfl) (fun _=>rfl),?_,fun j hj hne=>?_,fun j hj hlj q hq=>?_,spare_lost h hG i v hi hv⟩
 ·show ((setVol i v.losing s.vols)[i]!.kept,(setVol i v.losing s.vols)[i]!.lost)=_;rw[setVol_get i i _ s.vols hi hi,if_pos rfl,hv,keepRes,if_neg (by simp[hk,hl]),if_neg (by omega)];rfl
 ·show (setVol i v.losing s.vols)[j]!.kept=_/\(setVol i v.losing s.vols)[j]!.lost=_;rw[setVol_get i j _ s.vols hi hj,if_neg hne];exact⟨rfl,rfl⟩
 ·have hji:j≠i:=by
   intro e;subst e;have:(setVol j v.losing s.vols)[j]!.lost=false:=hlj;rw[setVol_get j j _ s.vols hi hi,if_pos rfl] at this;cases this
  exact lose_looks h hG i v hi hv ho h' j hj hji q hq
theorem picsOf_mem{s:St}{ub:Nat}{v:Vol}:v∈s.picsOf ub↔v∈s.vols/\v.org=some ub:=by
 simp[St.picsOf]
theorem picsOf_nodup{w:World}{s:St}(h:PoolAt w s)(ub:Nat):(s.picsOf ub).Pairwise fun a b=>a.vb≠b.vb:=
 (flatMap_foot_vb _ h.flat_nodup).sublist List.filter_sublist
end
end Go.Proofs.YtpddgdjocffgdaaGreat
