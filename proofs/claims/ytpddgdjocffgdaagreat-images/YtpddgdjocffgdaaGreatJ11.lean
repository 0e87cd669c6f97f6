/- A Pool: Resize, by contracts. A Pool: Resize, by contracts: a greater size. A Pool: Write, by contracts, up to what writes. A Pool: writeVolume, by a contract. A Pool: writePicture, by contracts. A Pool: Write, by contracts: what it leaves. -/
import Derived.Test.YtpddgdjocffgdaaGreatJ06
import Derived.Test.YtpddgdjocffgdaaGreatJ07
import Derived.Test.YtpddgdjocffgdaaGreatJ03
import Derived.Test.YtpddgdjocffgdaaGreatJ08
namespace Go.Proofs.YtpddgdjocffgdaaGreat
set_option linter.unusedVariables false
set_option linter.unusedSimpArgs false
set_option linter.unusedSectionVars false
set_option maxHeartbeats 16000000
set_option maxRecDepth 100000
section
open Go.RowKit Go.Sort
variable [DecidableEq Blk] [Inhabited Blk] [Inhabited Vol]
theorem resize_none(s:St)(t:ByteArray)(k:Int)(w:World)(h:PoolAt w s)(hi:s.has t=false) :
 Calls Tryz.prog 53 #[.pointer (some ⟨s.pb,0,none⟩),.string t,.int .i64 k] w fun e w'=>e=.returned (.int .i64 4)/\w'=w:=by
 have hf:=find_not s t w h hi;clear h
 go_enter Tryz.func53,Tryz.ntmps53
 go_wp2_with (go_at_call 77;refine hf.mono ?_;rintro e w' ⟨rfl,rfl⟩)
 go_ret
 exact⟨rfl,rfl⟩
theorem resize_picture(s:St)(t:ByteArray)(k:Int)(w:World)(h:PoolAt w s)(hi:s.has t=true)(ho:(s.vol t).org≠none) :
 Calls Tryz.prog 53 #[.pointer (some ⟨s.pb,0,none⟩),.string t,.int .i64 k] w fun e w'=>e=.returned (.int .i64 7)/\w'=w:=by
 have hf:=find_has s t w h hi;have hI:=isPicture_calls (s.vol t) w (h.vols _ (St.has_mem hi).1);have ho':(s.vol t).org.isSome=true:=by cases hq:(s.vol t).org<;>simp_all
 rw[ho'] at hI;clear h
 go_enter Tryz.func53,Tryz.ntmps53
 go_wp2_with (first|(go_at_call 77;refine hf.mono ?_;rintro e w' ⟨rfl,rfl⟩)|(go_at_call 88;refine hI.mono ?_;rintro e w' ⟨rfl,rfl⟩))
 go_ret
 exact⟨rfl,rfl⟩
theorem resize_busy(s:St)(t:ByteArray)(k:Int)(w:World)(h:PoolAt w s)(hi:s.has t=true)(ho:(s.vol t).org=none)(hb:s.picsOf (s.vol t).vb≠[]) :
 Calls Tryz.prog 53 #[.pointer (some ⟨s.pb,0,none⟩),.string t,.int .i64 k] w fun e w'=>e=.returned (.int .i64 8)/\Same [] w w':=by
 have hf:=find_has s t w h hi;have hI:=isPicture_calls (s.vol t) w (h.vols _ (St.has_mem hi).1);rw[ho] at hI;have hPc:=picturesOf_calls s (s.vol t) w h (St.has_mem hi).1;have hl:0 < (s.picsOf (s.vol t).vb).length:=by cases hq:s.picsOf (s.vol t).vb<;>simp_all
 have hl2:(s.picsOf (s.vol t).vb).length<=20:=Nat.le_trans (List.length_filter_le _ _) h.few;clear h
 go_enter Tryz.func53,Tryz.ntmps53
 go_wp2_with (first|(go_at_call 77;refine hf.mono ?_;rintro e w' ⟨rfl,rfl⟩)|(go_at_call 88;refine hI.mono ?_;rintro e w' ⟨rfl,rfl⟩)|(go_at_call 93;refine hPc.mono ?_;rintro e wp ⟨sl,rfl,hown,S0⟩;obtain⟨ag,acap,rfl⟩:=owns_form hown))
 go_ret
 exact⟨rfl,S0⟩
theorem resize_arg(s:St)(t:ByteArray)(k:Int)(w:World)(h:PoolAt w s)(hi:s.has t=true)(ho:(s.vol t).org=none)(hb:s.picsOf (s.vol t).vb=[])(hk:¬(1<=k/\k<=200)) :
 Calls Tryz.prog 53 #[.pointer (some ⟨s.pb,0,none⟩),.string t,.int .i64 k] w fun e w'=>e=.returned (.int .i64 1)/\Same [] w w':=by
 have hf:=find_has s t w h hi;have hI:=isPicture_calls (s.vol t) w (h.vols _ (St.has_mem hi).1);rw[ho] at hI;have hPc:=picturesOf_calls s (s.vol t) w h (St.has_mem hi).1;rw[hb] at hPc;have hC:=fun W=>isCount_calls k W
 rw[decide_eq_false hk] at hC;have hnot:=runNot;clear h hk
 go_enter Tryz.func53,Tryz.ntmps53
 go_wp2_with (first|(go_at_call 77;refine hf.mono ?_;rintro e w' ⟨rfl,rfl⟩)|(go_at_call 88;refine hI.mono ?_;rintro e w' ⟨rfl,rfl⟩)|(go_at_call 93;refine hPc.mono ?_;rintro e wp ⟨sl,rfl,hown,S0⟩;obtain⟨ag,acap,rfl⟩:=owns_form hown)|(go_at_call 42;refine (hC _).mono ?_;rintro e w' ⟨rfl,rfl⟩))
 go_ret
 exact⟨rfl,S0⟩
structure Head(s:St)(t:ByteArray)(w:World):Prop where
 has:s.has t=true
 org:(s.vol t).org=none
 pics:s.picsOf (s.vol t).vb=[]
theorem Good.room{s:St}{fr:List Nat}(hG:Good s fr){t:ByteArray}(hi:s.has t=true):s.m+(s.vol t).xs.length<=s.n:=by
 obtain⟨hmem,hname,hpos⟩:=St.has_mem hi;have h1:=hG.parts.length_eq;have h2:=hG.heap.len;have h3:(s.vol t).xs.length<=(s.vols.flatMap (·.xs)).length:=by
  have:=(delVol_perm (posOf s.names t) s.vols hpos).flatMap_right (·.xs);have:=this.length_eq;simp only[List.flatMap_cons,List.length_append] at this;have e:s.vols[posOf s.names t]! = s.vol t:=rfl;rw[e] at this;omega
 simp only[List.length_append,List.length_range] at h1;omega
theorem PoolAt.apart{w:World}{s:St}(h:PoolAt w s){v:Vol}(hv:v∈s.vols):v.gb∉[s.db,s.bb,s.fb]/\v.vb∉[s.db,s.bb,s.fb]/\s.pb≠v.vb/\v.vb≠v.gb:=by
 have key:∀k∈v.foot,k∉[s.db,s.bb,s.fb]/\s.pb≠k:=fun k hk=>by
  have:=(apart_of h.nodup).disk v hv k hk;simp only[List.mem_cons,not_or,List.not_mem_nil,not_false_eq_true,and_true] at this ⊢;exact⟨⟨this.2.1,this.2.2.1,this.2.2.2⟩,fun e=>this.1 e.symm⟩
 have hn:=(h.vols v hv).nodup;simp only[Vol.foot,List.nodup_cons,List.mem_cons,not_or] at hn;exact⟨(key v.gb (by simp[Vol.foot])).1,(key v.vb (by simp[Vol.foot])).1,(key v.vb (by simp[Vol.foot])).2,hn.1.1⟩
theorem pics_plain{w:World}{s:St}{fr:List Nat}(h:PoolAt w s)(hG:Good s fr){t:ByteArray}(hd:Head s t w)(v:Vol)(h1:v.vb=(s.vol t).vb)(h2:v.org=(s.vol t).org)(h3:v.kept=[])(h4:v.lost=false):Pics (setVol (posOf s.names t) v s.vols):=by
 obtain⟨hmem,hname,hpos⟩:=St.has_mem hd.has;refine pics_set h hG.pics (posOf s.names t) hpos v h1 h2 (by rw[h3];exact List.nodup_nil) (fun _=>h3) (fun u hu e=>?_) (fun u hu e=>?_)
 ·rw[h2,hd.org] at e;cases e
 ·have:u∈s.picsOf (s.vol t).vb:=by simp[St.picsOf,hu,e,h1]
  rw[hd.pics] at this;simp at this
theorem resize_cut(s:St)(fr:List Nat)(t:ByteArray)(k:Nat)(w:World)(h:PoolAt w s)(hG:Good s fr)(hd:Head s t w)(hk:1<=k/\k < (s.vol t).xs.length) :
 Calls Tryz.prog 53 #[.pointer (some ⟨s.pb,0,none⟩),.string t,.int .i64 k] w fun e w'=>e=.returned (.int .i64 0) /\
  After w s w' { s with m:=s.m+((s.vol t).xs.drop k).length,bl:=giveB ((s.vol t).xs.drop k) s.bl,d:=giveD s.m ((s.vol t).xs.drop k) s.d,vols:=setVol (posOf s.names t) { (s.vol t) with xs:=(s.vol t).xs.take k } s.vols } (insAll ((s.vol t).xs.drop k) fr):=by
 have hs0:=(h.vols _ (St.has_mem hd.has).1).small;have hi:=hd.has;have hf:=find_has s t w h hi;have hmem:=(St.has_mem hi).1;have hpos:=(St.has_mem hi).2.2;have hv:=h.vols _ hmem;have hs:=hv.small;obtain⟨cs,hr⟩:=hv.row;have hI:=isPicture_calls (s.vol t) w hv;rw[hd.org] at hI;have hPc:=picturesOf_calls s (s.vol t) w h hmem;rw[hd.pics] at hPc;have hC:=fun W=>isCount_calls k W
 rw[decide_eq_true (by omega:(1:Int)<=k/\(k:Int)<=200)] at hC;have hZ:=fun W (hW:Same [] w W)=>size_vol (s.vol t) W (hv.new hW) hd.org
 have hnot:=runNot;obtain⟨cap,hp,_,_⟩:=h.pool;obtain⟨ap1,ap2,ap3,ap4⟩:=h.apart hmem;have hroom:=hG.room hi;have hlt:=hG.lt.2 _ hmem;have hCut:=fun W (hW:Same [] w W)=>cut_calls (s.vol t) k W (hv.new hW) hd.org hk.1 hk.2
 have hGive:=fun W (hW:Same [(s.vol t).vb] w W) u hu=>give_calls s.db s.bb s.fb s.n s.m (s.vol t).gb k ((s.vol t).xs.length - k) s.bl s.d ((s.vol t).xs.drop k) (some ⟨(s.vol t).gb,k,none⟩) _ cs W _ u rfl hu
  (h.disk.same hW (by simp at ap2 ⊢;exact fun e=>ap2.1 e.symm) (by simp at ap2 ⊢;exact fun e=>ap2.2.1 e.symm) (by simp at ap2 ⊢;exact fun e=>ap2.2.2 e.symm)) (fun _=>⟨rfl,hW.at hr.at_ (by simp;exact fun e=>ap4 e.symm),ap1⟩)
  (fun j hj=>by
   simp at hj;rw[hr.cell (k+j) (by omega),getElem!_pos _ _ (by omega),getElem!_pos _ j (by simp;omega)];simp) (fun x hx=>hlt x (List.mem_of_mem_drop hx)) (by simp;omega)
 have hpd:∀W,Same [(s.vol t).vb] w W->W.cell? ⟨s.pb,1,none⟩=some (.pointer (some ⟨s.db,0,none⟩)):=fun W hW=>(hW.at hp (by simp[ap3])).cell? 1
 have c1:∀W,Same [] w W->W.cell? ⟨s.pb,1,none⟩=some (.pointer (some ⟨s.db,0,none⟩)):=fun W hW=>(hW.at hp (by simp)).cell? 1
 have H:Hid (PoolAt w s/\Good s fr):=⟨h,hG⟩
 have HD:Hid (Head s t w):=hd;have HC1:Hid (∀W,Same [] w W->W.cell? ⟨s.pb,1,none⟩=some (.pointer (some ⟨s.db,0,none⟩))):=c1;clear h hG hv hr hp c1 hd;have l1:(k:Int)<=((s.vol t).xs.length:Int):=by omega
 go_enter Tryz.func53,Tryz.ntmps53
 go_wp2_with (first|(go_at_call 77;refine hf.mono ?_;rintro e w' ⟨rfl,hw⟩;obtain rfl:=hw.symm)|(go_at_call 88;refine hI.mono ?_;rintro e w' ⟨rfl,hw⟩;obtain rfl:=hw.symm)|(go_at_call 93;refine hPc.mono ?_;rintro e wp ⟨sl,rfl,hown,S0⟩;obtain⟨ag,acap,rfl⟩:=owns_form hown)|(go_at_call 42;refine (hC _).mono ?_;rintro e w' ⟨rfl,hw⟩;obtain rfl:=hw.symm)|(go_at_call 94;refine (hZ _ (by assumption)).mono ?_;rintro e w' ⟨rfl,hw⟩;obtain rfl:=hw.symm))
 have p0:=HC1.out _ S0
 go_region_with (first|(go_at_call 96;refine (hCut _ (S0.drew)).mono ?_;rintro e w2 ⟨rfl,V2,S2⟩;have SS:Same [(s.vol t).vb] w w2:=(S0.drew.mono (T:=[(s.vol t).vb]) (by simp)).step S2 (by simp);have p2:=hpd w2 SS)|(go_at_call 95;refine (hGive w2 SS _ (by rw[List.length_drop])).mono ?_;rintro e w3 ⟨rfl,D3,S3⟩))
 all_goals
  obtain⟨h,hG⟩:=H.out;have hf2:∀q∈({ (s.vol t) with xs:=(s.vol t).xs.take k }:Vol).foot,q∈(s.vols[posOf s.names t]!).foot\/w.heap.size<=q:=fun q hq=>Or.inl hq
  have hP2:=set_state h (posOf s.names t) hpos { (s.vol t) with xs:=(s.vol t).xs.take k } rfl rfl rfl hf2 V2 (SS.mono (by intro q hq _;simp at hq;rw[hq];exact List.mem_cons_self));have hP3:=hP2.withDisk S3 (by intro q hq;simp at hq;rcases hq with e|e|e<;>simp[e]) D3;have hG3:=Good.cut h hG h.disk.len h.disk.size (posOf s.names t) hpos k { (s.vol t) with xs:=(s.vol t).xs.take k } rfl rfl (pics_plain h hG HD.out _ rfl rfl ((h.vols _ hmem).kept_nil HD.out.org) ((h.vols _ hmem).plain HD.out.org).2);have hvf:(s.vol t).vb∈s.foot:=s.foot_vol hmem (by simp[Vol.foot]);have hFin:After w s w3 { s with m:=s.m+((s.vol t).xs.drop k).length,bl:=giveB ((s.vol t).xs.drop k) s.bl,d:=giveD s.m ((s.vol t).xs.drop k) s.d,vols:=setVol (posOf s.names t) { (s.vol t) with xs:=(s.vol t).xs.take k } s.vols } (insAll ((s.vol t).xs.drop k) fr):=
   ⟨hP3,hG3,(SS.mono (T:=s.foot) (by simp;exact fun _=>hvf)).step S3 (by simp[St.foot]),set_foot (s:=s) hpos hf2,rfl,rfl⟩
  clear hP3 hG3 hP2 V2 D3 S3 S2 SS h hG hGive hCut hpd hf2;rw[List.length_drop] at hFin
  go_wp2
  go_ret
  exact⟨rfl,hFin⟩
theorem resize_grow(s:St)(fr:List Nat)(t:ByteArray)(k:Nat)(w:World)(h:PoolAt w s)(hG:Good s fr)(hd:Head s t w)(hk:(s.vol t).xs.length < k/\k<=200)(hf':k - (s.vol t).xs.length<=fr.length) :
 Calls Tryz.prog 53 #[.pointer (some ⟨s.pb,0,none⟩),.string t,.int .i64 k] w fun e w'=>e=.returned (.int .i64 0)/\∃g,
  After w s w' { s with m:=s.m - (k - (s.vol t).xs.length),d:=popsD s.m (k - (s.vol t).xs.length) s.d,vols:=setVol (posOf s.names t) { (s.vol t) with gb:=g,xs:=(s.vol t).xs++fr.take (k - (s.vol t).xs.length) } s.vols } (fr.drop (k - (s.vol t).xs.length)):=by
 have hi:=hd.has;have hf:=find_has s t w h hi;have hmem:=(St.has_mem hi).1;have hpos:=(St.has_mem hi).2.2;have hv:=h.vols _ hmem;have hs:=hv.small;obtain⟨cs,hr⟩:=hv.row;have hI:=isPicture_calls (s.vol t) w hv;rw[hd.org] at hI;have hPc:=picturesOf_calls s (s.vol t) w h hmem;rw[hd.pics] at hPc;have hC:=fun W=>isCount_calls k W
 rw[decide_eq_true (by omega:(1:Int)<=k/\(k:Int)<=200)] at hC;have hZ:=fun W (hW:Same [] w W)=>size_vol (s.vol t) W (hv.new hW) hd.org
 have hnot:=runNot;obtain⟨cap,hp,_,_⟩:=h.pool;have hml:=hG.heap.len;have hT:=fun W (hW:Same [] w W) v (hv:v=((k - (s.vol t).xs.length:Nat):Int))=>take_calls s.db s.bb s.fb s.n s.m (k - (s.vol t).xs.length) s.bl s.d fr W _ v rfl hv (by omega) (h.disk.same hW (by simp) (by simp) (by simp)) hG.all hG.lt.1
 have HC1:Hid (∀W,Same [] w W->W.cell? ⟨s.pb,1,none⟩=some (.pointer (some ⟨s.db,0,none⟩))):=fun W hW=>(hW.at hp (by simp)).cell? 1
 have H:Hid (PoolAt w s/\Good s fr):=⟨h,hG⟩
 have HD:Hid (Head s t w):=hd;clear h hG hv hr hp hd;have l1:((s.vol t).xs.length:Int) < (k:Int):=by omega
 generalize hL:(s.vol t).xs.length=L at *;have HL:Hid ((s.vol t).xs.length=L):=hL;clear hL;have hsub:IntKind.i64.wrap ((k:Int) - (L:Int))=(k:Int) - (L:Int):=IntWalk.i64_in _ (by omega)
 go_enter Tryz.func53,Tryz.ntmps53
 go_wp2_with (first|(go_at_call 77;refine hf.mono ?_;rintro e w' ⟨rfl,hw⟩;obtain rfl:=hw.symm)|(go_at_call 88;refine hI.mono ?_;rintro e w' ⟨rfl,hw⟩;obtain rfl:=hw.symm)|(go_at_call 93;refine hPc.mono ?_;rintro e wp ⟨sl,rfl,hown,S0⟩;obtain⟨ag,acap,rfl⟩:=owns_form hown)|(go_at_call 42;refine (hC _).mono ?_;rintro e w' ⟨rfl,hw⟩;obtain rfl:=hw.symm)|(go_at_call 94;refine (hZ _ (by assumption)).mono ?_;rintro e w' ⟨rfl,hw⟩;obtain rfl:=hw.symm))
 have p0:=HC1.out _ S0
 go_region_with (first|(go_at_call 94;refine (hZ _ (S0.drew)).mono ?_;rintro e w2 ⟨rfl,rfl⟩)|(go_at_call 97;refine (hT _ (S0.drew) _ (by omega)).mono ?_;rintro e w3 (⟨_,v',rfl,D3,O3,S3⟩|⟨hbad,_⟩);rotate_left;(omega);obtain⟨a3,cap3,rfl⟩:=owns_form O3))
 all_goals
  obtain⟨h,hG⟩:=H.out;have hv:=h.vols _ hmem;have hS3:Same [s.db,s.fb] w w3:=(S0.drew.mono (T:=[s.db,s.fb]) (by simp)).step S3 (by simp);have hpops:=(hG.heap.pops (k - L) (by omega)).1;rw[hpops,List.map_map] at O3;have hxsl:(fr.take (k - L)).length=k - L:=by simp;omega
  have hyne:fr.take (k - L)≠[]:=by intro e;rw[e] at hxsl;simp at hxsl;omega
  obtain⟨mb,ms,rfl,hmb,hR,hle⟩:=owns_row_at (xs:=fr.take (k - L)) O3 hxsl.symm hyne;have hP3:=h.withDisk (bl':=s.bl) hS3 (by intro q hq;simp at hq;rcases hq with e|e<;>simp[e]) D3;have hv3:=hP3.vols _ hmem;have hE:=extend_calls (s.vol t) mb cap3 (fr.take (k - L)) ms w3 hv3 HD.out.org hR hyne (by rw[hxsl,HL.out];omega);rw[hxsl] at hE;have hG3:=hG.grow (posOf s.names t) hpos (k - L) hf';have hsz3:=hS3.size;have HFin:Hid (∀(w4:World) (g:Nat),w3.heap.size<=g->VolAt w4 { (s.vol t) with gb:=g,xs:=(s.vol t).xs++fr.take (k - L) }->Same [(s.vol t).vb] w3 w4->After w s w4 { s with m:=s.m - (k - L),d:=popsD s.m (k - L) s.d,vols:=setVol (posOf s.names t) { (s.vol t) with gb:=g,xs:=(s.vol t).xs++fr.take (k - L) } s.vols } (fr.drop (k - L))):=by
   intro w4 g hg hV4 hS4;have hkg:=(hv.plain HD.out.org).1;have hft:∀B,B<=w3.heap.size->∀q∈({ (s.vol t) with gb:=g,xs:=(s.vol t).xs++fr.take (k - L) }:Vol).foot,q∈(s.vols[posOf s.names t]!).foot\/B<=q:=by
    intro B hB q hq;simp only[Vol.foot,hkg,Option.toList_none,List.mem_cons,List.not_mem_nil,or_false] at hq;rcases hq with e|e
    ·left;rw[e];exact List.mem_cons_self
    ·right;omega
   have hP4:=set_state hP3 (posOf s.names t) hpos { (s.vol t) with gb:=g,xs:=(s.vol t).xs++fr.take (k - L) } rfl rfl rfl (hft _ (Nat.le_refl _)) hV4 (hS4.mono (by intro q hq _;simp at hq;rw[hq];exact List.mem_cons_self));have hvf:(s.vol t).vb∈s.foot:=s.foot_vol hmem (by simp[Vol.foot]);exact⟨hP4,hG3 _ rfl rfl (pics_plain h hG HD.out _ rfl rfl (hv.kept_nil HD.out.org) (hv.plain HD.out.org).2),(hS3.mono (T:=s.foot) (by simp[St.foot])).step hS4 (by simp;exact fun _=>hvf),set_foot (s:=s) hpos (hft _ (by omega)),rfl,rfl⟩
  clear hG3 hP3 hv3 hR O3 D3 S3 h hG hv hT hZ hpops
  go_wp2_with (go_at_call 98;refine hE.mono ?_;rintro e w4 ⟨rfl,g,hg,hV4,hS4⟩)
  have hF:=HFin.out w4 g hg hV4 hS4;clear HFin hV4 hS4 hE
  go_ret
  exact⟨rfl,g,hF⟩
theorem write_err(s:St)(t:ByteArray)(k e0:Int)(b:Blk)(w:World)(he:e0≠0)(hf:∀w',Same [] w w'->Calls Tryz.prog 86 #[.pointer (some ⟨s.pb,0,none⟩),.string t,.int .i64 k] w' fun e w''=>e=.returned (.tuple #[.pointer none,.int .i64 e0])/\w''=w') :
 Calls Tryz.prog 50 #[.pointer (some ⟨s.pb,0,none⟩),.string t,.int .i64 k,b.val] w fun e w'=>e=.returned (.int .i64 e0)/\Same [] w w':=by
 obtain⟨x0,x1,x2,x3,x4,x5,x6,x7⟩:=b;have hf':=hf _ ((Same.refl [] w).alloc (Obj.cells #[.int .u8 x0,.int .u8 x1,.int .u8 x2,.int .u8 x3,.int .u8 x4,.int .u8 x5,.int .u8 x6,.int .u8 x7] 91));clear hf;have he':(e0 != 0)=true:=by simpa using he
 unfold Blk.val
 go_enter Tryz.func50,Tryz.ntmps50
 go_wp2_with (go_at_call 86;refine hf'.mono ?_;rintro e w' ⟨rfl,rfl⟩)
 go_ret
 exact⟨rfl,(Same.refl _ _).alloc _⟩
theorem write_same(s:St)(t:ByteArray)(k:Nat)(b:Blk)(w:World)(h:PoolAt w s)(hi:s.has t=true)(hl:(s.vol t).lost=false)(hk:k < s.size (s.vol t))(hn:s.holder (s.vol t) k < s.n)(hb:s.look (s.vol t) k=b) :
 Calls Tryz.prog 50 #[.pointer (some ⟨s.pb,0,none⟩),.string t,.int .i64 k,b.val] w fun e w'=>e=.returned (.int .i64 0)/\Same [] w w':=by
 obtain⟨x0,x1,x2,x3,x4,x5,x6,x7⟩:=b;have S0:=(Same.refl [] w).alloc (Obj.cells #[.int .u8 x0,.int .u8 x1,.int .u8 x2,.int .u8 x3,.int .u8 x4,.int .u8 x5,.int .u8 x6,.int .u8 x7] 91);have h1:=h.new S0;have N0:=At.new w #[.int .u8 x0,.int .u8 x1,.int .u8 x2,.int .u8 x3,.int .u8 x4,.int .u8 x5,.int .u8 x6,.int .u8 x7] 91;have hf:=findPlace_in s t k _ h1 hi hl hk;have hmem:=(St.has_mem hi).1;have hH:=fun W (hW:Same [] w W)=>holder_at (h.new hW) hmem hk
 obtain⟨cap,hp,_,_⟩:=h.pool;have c1:=hp.cell? 1;simp only[List.getElem?_cons_succ,List.getElem?_cons_zero,ptr] at c1;have lp:=hp.lt;have hR:=fun W (hW:Same [] w W)=>diskRead_calls s.db s.bb s.n (s.holder (s.vol t) k) _ _ _ s.bl W _ _ rfl rfl (h.new hW).disk.disk (h.new hW).disk.data h.disk.len hn (by have:=h.disk.small;omega)
 unfold St.look at hb;generalize s.holder (s.vol t) k=yy at *;generalize s.bl[yy]! = old at *;obtain⟨o0,o1,o2,o3,o4,o5,o6,o7⟩:=old;have HE:=fun W=>equal_blocks ⟨o0,o1,o2,o3,o4,o5,o6,o7⟩ ⟨x0,x1,x2,x3,x4,x5,x6,x7⟩ W
 simp only at HE;rw[decide_eq_true hb] at HE;have HS0:Hid (Same [] w (w.alloc (Obj.cells #[.int .u8 x0,.int .u8 x1,.int .u8 x2,.int .u8 x3,.int .u8 x4,.int .u8 x5,.int .u8 x6,.int .u8 x7] 91))):=S0;have HN:Hid (At (w.alloc (Obj.cells #[.int .u8 x0,.int .u8 x1,.int .u8 x2,.int .u8 x3,.int .u8 x4,.int .u8 x5,.int .u8 x6,.int .u8 x7] 91)) w.heap.size 91 [.int .u8 x0,.int .u8 x1,.int .u8 x2,.int .u8 x3,.int .u8 x4,.int .u8 x5,.int .u8 x6,.int .u8 x7]):=N0;clear h h1 hp S0 N0 hb;unfold Blk.val at *
 go_enter Tryz.func50,Tryz.ntmps50
 go_wp2_with (go_at_call 86;refine hf.mono ?_;rintro e w' ⟨rfl,rfl⟩)
 go_region_with (first|(go_at_call 87;refine (hH _ (HS0.out.drew)).mono ?_;rintro e w' ⟨rfl,rfl⟩)|(go_at_call 69;refine (hR _ (HS0.out.drew)).mono ?_;rintro e w2 ⟨rfl,S2⟩;have d0:w2.cell? ⟨w.heap.size,0,none⟩=some (.int .u8 x0):=(S2.at HN.out.drew (by simp)).cell? 0;have d1:w2.cell? ⟨w.heap.size,1,none⟩=some (.int .u8 x1):=(S2.at HN.out.drew (by simp)).cell? 1;have d2:w2.cell? ⟨w.heap.size,2,none⟩=some (.int .u8 x2):=(S2.at HN.out.drew (by simp)).cell? 2;have d3:w2.cell? ⟨w.heap.size,3,none⟩=some (.int .u8 x3):=(S2.at HN.out.drew (by simp)).cell? 3;have d4:w2.cell? ⟨w.heap.size,4,none⟩=some (.int .u8 x4):=(S2.at HN.out.drew (by simp)).cell? 4;have d5:w2.cell? ⟨w.heap.size,5,none⟩=some (.int .u8 x5):=(S2.at HN.out.drew (by simp)).cell? 5;have d6:w2.cell? ⟨w.heap.size,6,none⟩=some (.int .u8 x6):=(S2.at HN.out.drew (by simp)).cell? 6;have d7:w2.cell? ⟨w.heap.size,7,none⟩=some (.int .u8 x7):=(S2.at HN.out.drew (by simp)).cell? 7;have SA:Same [] w w2:=HS0.out.drew.step S2 (by simp)))
 all_goals
  clear hf hH hR c1 HN HS0 HE
  go_wp2
  go_ret
  exact⟨rfl,SA⟩
theorem write_pic(s:St)(t:ByteArray)(k:Nat)(b:Blk)(w:World)(Q:Ending->World->Prop)(h:PoolAt w s)(hi:s.has t=true)(hl:(s.vol t).lost=false)(hk:k < s.size (s.vol t))(hn:s.holder (s.vol t) k < s.n)(hb:s.look (s.vol t) k≠b)(ho:(s.vol t).org≠none)
 (hA:∀W,Same [] w W->Calls Tryz.prog 89 #[.pointer (some ⟨s.pb,0,none⟩),.pointer (some ⟨(s.vol t).vb,0,none⟩),.int .i64 k,b.val] W fun e w'=>∃x,e=.returned (.int .i64 x)/\Q (.returned (.int .i64 x)) w') :
 Calls Tryz.prog 50 #[.pointer (some ⟨s.pb,0,none⟩),.string t,.int .i64 k,b.val] w Q:=by
 obtain⟨x0,x1,x2,x3,x4,x5,x6,x7⟩:=b;have S0:=(Same.refl [] w).alloc (Obj.cells #[.int .u8 x0,.int .u8 x1,.int .u8 x2,.int .u8 x3,.int .u8 x4,.int .u8 x5,.int .u8 x6,.int .u8 x7] 91);have h1:=h.new S0;have N0:=At.new w #[.int .u8 x0,.int .u8 x1,.int .u8 x2,.int .u8 x3,.int .u8 x4,.int .u8 x5,.int .u8 x6,.int .u8 x7] 91;have hf:=findPlace_in s t k _ h1 hi hl hk;have hmem:=(St.has_mem hi).1;have hH:=fun W (hW:Same [] w W)=>holder_at (h.new hW) hmem hk
 obtain⟨cap,hp,_,_⟩:=h.pool;have c1:=hp.cell? 1;simp only[List.getElem?_cons_succ,List.getElem?_cons_zero,ptr] at c1;have lp:=hp.lt;have hR:=fun W (hW:Same [] w W)=>diskRead_calls s.db s.bb s.n (s.holder (s.vol t) k) _ _ _ s.bl W _ _ rfl rfl (h.new hW).disk.disk (h.new hW).disk.data h.disk.len hn (by have:=h.disk.small;omega)
 unfold St.look at hb;generalize s.holder (s.vol t) k=yy at *;generalize s.bl[yy]! = old at *;obtain⟨o0,o1,o2,o3,o4,o5,o6,o7⟩:=old;have HE:=fun W=>equal_blocks ⟨o0,o1,o2,o3,o4,o5,o6,o7⟩ ⟨x0,x1,x2,x3,x4,x5,x6,x7⟩ W
 simp only at HE;rw[decide_eq_false hb] at HE;have HS0:Hid (Same [] w (w.alloc (Obj.cells #[.int .u8 x0,.int .u8 x1,.int .u8 x2,.int .u8 x3,.int .u8 x4,.int .u8 x5,.int .u8 x6,.int .u8 x7] 91))):=S0;have HN:Hid (At (w.alloc (Obj.cells #[.int .u8 x0,.int .u8 x1,.int .u8 x2,.int .u8 x3,.int .u8 x4,.int .u8 x5,.int .u8 x6,.int .u8 x7] 91)) w.heap.size 91 [.int .u8 x0,.int .u8 x1,.int .u8 x2,.int .u8 x3,.int .u8 x4,.int .u8 x5,.int .u8 x6,.int .u8 x7]):=N0;have hI:=fun W (hW:Same [] w W)=>isPicture_calls (s.vol t) W ((h.new hW).vols _ hmem)
 have ho':(s.vol t).org.isSome=true:=by cases hq:(s.vol t).org<;>simp_all
 rw[ho'] at hI;clear h h1 hp S0 N0 hb;unfold Blk.val at *
 go_enter Tryz.func50,Tryz.ntmps50
 go_wp2_with (go_at_call 86;refine hf.mono ?_;rintro e w' ⟨rfl,rfl⟩)
 go_region_with (first|(go_at_call 87;refine (hH _ (HS0.out.drew)).mono ?_;rintro e w' ⟨rfl,rfl⟩)|(go_at_call 69;refine (hR _ (HS0.out.drew)).mono ?_;rintro e w2 ⟨rfl,S2⟩;have d0:w2.cell? ⟨w.heap.size,0,none⟩=some (.int .u8 x0):=(S2.at HN.out.drew (by simp)).cell? 0;have d1:w2.cell? ⟨w.heap.size,1,none⟩=some (.int .u8 x1):=(S2.at HN.out.drew (by simp)).cell? 1;have d2:w2.cell? ⟨w.heap.size,2,none⟩=some (.int .u8 x2):=(S2.at HN.out.drew (by simp)).cell? 2;have d3:w2.cell? ⟨w.heap.size,3,none⟩=some (.int .u8 x3):=(S2.at HN.out.drew (by simp)).cell? 3;have d4:w2.cell? ⟨w.heap.size,4,none⟩=some (.int .u8 x4):=(S2.at HN.out.drew (by simp)).cell? 4;have d5:w2.cell? ⟨w.heap.size,5,none⟩=some (.int .u8 x5):=(S2.at HN.out.drew (by simp)).cell? 5;have d6:w2.cell? ⟨w.heap.size,6,none⟩=some (.int .u8 x6):=(S2.at HN.out.drew (by simp)).cell? 6;have d7:w2.cell? ⟨w.heap.size,7,none⟩=some (.int .u8 x7):=(S2.at HN.out.drew (by simp)).cell? 7;have SA:Same [] w w2:=HS0.out.drew.step S2 (by simp)))
 all_goals
  clear hf hH hR c1 HN HS0 HE
  go_wp2_with (first|(go_at_call 88;refine (hI _ SA).mono ?_;rintro e w' ⟨rfl,rfl⟩)|(go_at_call 89;refine (hA _ SA).mono ?_;rintro e w4 ⟨x,rfl,hQ⟩))
  exact hQ
theorem write_vol(s:St)(t:ByteArray)(k:Nat)(b:Blk)(w:World)(Q:World->Prop)(h:PoolAt w s)(hi:s.has t=true)(hl:(s.vol t).lost=false)(hk:k < s.size (s.vol t))(hn:s.holder (s.vol t) k < s.n)(hb:s.look (s.vol t) k≠b)(ho:(s.vol t).org=none)
 (hA:∀W,Same [] w W->Calls Tryz.prog 90 #[.pointer (some ⟨s.pb,0,none⟩),.pointer (some ⟨(s.vol t).vb,0,none⟩),.int .i64 k,b.val] W fun e w'=>e=.returned (.tuple #[])/\Q w') :
 Calls Tryz.prog 50 #[.pointer (some ⟨s.pb,0,none⟩),.string t,.int .i64 k,b.val] w fun e w'=>e=.returned (.int .i64 0)/\Q w':=by
 obtain⟨x0,x1,x2,x3,x4,x5,x6,x7⟩:=b;have S0:=(Same.refl [] w).alloc (Obj.cells #[.int .u8 x0,.int .u8 x1,.int .u8 x2,.int .u8 x3,.int .u8 x4,.int .u8 x5,.int .u8 x6,.int .u8 x7] 91);have h1:=h.new S0;have N0:=At.new w #[.int .u8 x0,.int .u8 x1,.int .u8 x2,.int .u8 x3,.int .u8 x4,.int .u8 x5,.int .u8 x6,.int .u8 x7] 91;have hf:=findPlace_in s t k _ h1 hi hl hk;have hmem:=(St.has_mem hi).1;have hH:=fun W (hW:Same [] w W)=>holder_at (h.new hW) hmem hk
 obtain⟨cap,hp,_,_⟩:=h.pool;have c1:=hp.cell? 1;simp only[List.getElem?_cons_succ,List.getElem?_cons_zero,ptr] at c1;have lp:=hp.lt;have hR:=fun W (hW:Same [] w W)=>diskRead_calls s.db s.bb s.n (s.holder (s.vol t) k) _ _ _ s.bl W _ _ rfl rfl (h.new hW).disk.disk (h.new hW).disk.data h.disk.len hn (by have:=h.disk.small;omega)
 unfold St.look at hb;generalize s.holder (s.vol t) k=yy at *;generalize s.bl[yy]! = old at *;obtain⟨o0,o1,o2,o3,o4,o5,o6,o7⟩:=old;have HE:=fun W=>equal_blocks ⟨o0,o1,o2,o3,o4,o5,o6,o7⟩ ⟨x0,x1,x2,x3,x4,x5,x6,x7⟩ W
 simp only at HE;rw[decide_eq_false hb] at HE;have HS0:Hid (Same [] w (w.alloc (Obj.cells #[.int .u8 x0,.int .u8 x1,.int .u8 x2,.int .u8 x3,.int .u8 x4,.int .u8 x5,.int .u8 x6,.int .u8 x7] 91))):=S0;have HN:Hid (At (w.alloc (Obj.cells #[.int .u8 x0,.int .u8 x1,.int .u8 x2,.int .u8 x3,.int .u8 x4,.int .u8 x5,.int .u8 x6,.int .u8 x7] 91)) w.heap.size 91 [.int .u8 x0,.int .u8 x1,.int .u8 x2,.int .u8 x3,.int .u8 x4,.int .u8 x5,.int .u8 x6,.int .u8 x7]):=N0;have hI:=fun W (hW:Same [] w W)=>isPicture_calls (s.vol t) W ((h.new hW).vols _ hmem)
 rw[ho] at hI;clear h h1 hp S0 N0 hb;unfold Blk.val at *
 go_enter Tryz.func50,Tryz.ntmps50
 go_wp2_with (go_at_call 86;refine hf.mono ?_;rintro e w' ⟨rfl,rfl⟩)
 go_region_with (first|(go_at_call 87;refine (hH _ (HS0.out.drew)).mono ?_;rintro e w' ⟨rfl,rfl⟩)|(go_at_call 69;refine (hR _ (HS0.out.drew)).mono ?_;rintro e w2 ⟨rfl,S2⟩;have d0:w2.cell? ⟨w.heap.size,0,none⟩=some (.int .u8 x0):=(S2.at HN.out.drew (by simp)).cell? 0;have d1:w2.cell? ⟨w.heap.size,1,none⟩=some (.int .u8 x1):=(S2.at HN.out.drew (by simp)).cell? 1;have d2:w2.cell? ⟨w.heap.size,2,none⟩=some (.int .u8 x2):=(S2.at HN.out.drew (by simp)).cell? 2;have d3:w2.cell? ⟨w.heap.size,3,none⟩=some (.int .u8 x3):=(S2.at HN.out.drew (by simp)).cell? 3;have d4:w2.cell? ⟨w.heap.size,4,none⟩=some (.int .u8 x4):=(S2.at HN.out.drew (by simp)).cell? 4;have d5:w2.cell? ⟨w.heap.size,5,none⟩=some (.int .u8 x5):=(S2.at HN.out.drew (by simp)).cell? 5;have d6:w2.cell? ⟨w.heap.size,6,none⟩=some (.int .u8 x6):=(S2.at HN.out.drew (by simp)).cell? 6;have d7:w2.cell? ⟨w.heap.size,7,none⟩=some (.int .u8 x7):=(S2.at HN.out.drew (by simp)).cell? 7;have SA:Same [] w w2:=HS0.out.drew.step S2 (by simp)))
 all_goals
  clear hf hH hR c1 HN HS0 HE
  go_wp2_with (first|(go_at_call 88;refine (hI _ SA).mono ?_;rintro e w' ⟨rfl,rfl⟩)|(go_at_call 90;refine (hA _ SA).mono ?_;rintro e w4 ⟨rfl,hQ⟩))
  go_ret
  exact⟨rfl,hQ⟩
theorem writeVolume_calls(s:St)(fr:List Nat)(iu:Nat)(u:Vol)(k:Nat)(b:Blk)(w:World)(bv:Value)(hbv:bv=b.val)(h:PoolAt w s)(hG:Good s fr)(hiu:iu < s.vols.length)(hu:s.vols[iu]! = u)(hu0:u.org=none)(hk:k < u.xs.length) :
 Calls Tryz.prog 90 #[.pointer (some ⟨s.pb,0,none⟩),.pointer (some ⟨u.vb,0,none⟩),.int .i64 k,bv] w fun e w'=>e=.returned (.tuple #[]) /\
  ∃s1,Kept s s1 k (fun v=>v.org=some u.vb)/\After w s w' { s1 with bl:=s1.bl.set u.xs[k]! b } fr/\(s.picsOf u.vb=[]->s1=s):=by
 subst hbv;obtain⟨x0,x1,x2,x3,x4,x5,x6,x7⟩:=b;have hmem:u∈s.vols:=by rw[<-hu];exact get_mem hiu
 have hH:=fun W (hW:Same [] w W)=>holder_vol u k W ((h.new hW).vols u hmem) hu0 hk
 have hP:=fun W (hW:Same [] w W)=>picturesOf_calls s u W (h.new hW) hmem
 generalize hyy:u.xs[k]! = yy at *;have HYY:Hid (u.xs[k]! = yy):=hyy;clear hyy;unfold Blk.val
 go_enter Tryz.func90,Tryz.ntmps90
 go_wp2_with (first|(go_at_call 87;refine (hH _ ((Same.refl _ _).alloc _)).mono ?_;rintro e w' ⟨rfl,rfl⟩)|(go_at_call 93;refine (hP _ ((Same.refl _ _).alloc _)).mono ?_;rintro e w1 ⟨sl,rfl,hown,S1⟩;obtain⟨ag,acap,rfl⟩:=owns_form hown))
 have hown0:=hown;have Bw:At w1 w.heap.size 91 [.int .u8 x0,.int .u8 x1,.int .u8 x2,.int .u8 x3,.int .u8 x4,.int .u8 x5,.int .u8 x6,.int .u8 x7]:=S1.at (At.new w _ _) (by simp);have S01:Same [] w w1:=((Same.refl _ _).alloc _).step S1 (by simp);have hP1:=h.new S01;have hA1:After w1 s w1 s fr:=⟨hP1,hG,Same.refl _ _,fun k hk=>Or.inl hk,rfl,rfl⟩
 have hflt:=h.foot_lt;have hbase:∀q∈s.foot,q < (w.alloc (Obj.cells #[.int .u8 x0,.int .u8 x1,.int .u8 x2,.int .u8 x3,.int .u8 x4,.int .u8 x5,.int .u8 x6,.int .u8 x7] 91)).heap.size:=fun q hq=>by have:=hflt q hq;simp;omega
 have hnb:w.heap.size∉s.foot:=fun hm=>by have:=hflt _ hm;omega
 have hyx:yy∈u.xs:=by rw[<-HYY.out];exact mem_getElem! hk
 have hpl:(s.picsOf u.vb).length<=20:=Nat.le_trans (List.length_filter_le _ _) h.few;have HH:Hid (PoolAt w s/\Good s fr/\yy < s.n):=⟨h,hG,hG.lt.2 u hmem _ hyx⟩
 have HO:Hid (w1.ownsRow (w.alloc (Obj.cells #[.int .u8 x0,.int .u8 x1,.int .u8 x2,.int .u8 x3,.int .u8 x4,.int .u8 x5,.int .u8 x6,.int .u8 x7] 91)).heap.size 110 1 (.slice ag (s.picsOf u.vb).length acap) (s.picsOf u.vb).length ((s.picsOf u.vb).map fun v=>ptr v.vb)):=hown;clear hown hown0 hP hH S1 h hG hP1
 go_loopw [20] (fun i wr=>∃j:Nat,j<=(s.picsOf u.vb).length/\i=.int .i64 j/\At wr w.heap.size 91 [.int .u8 x0,.int .u8 x1,.int .u8 x2,.int .u8 x3,.int .u8 x4,.int .u8 x5,.int .u8 x6,.int .u8 x7]/\∃sj,Kept s sj k (fun v=>v∈(s.picsOf u.vb).take j)/\After w1 s wr sj fr/\(s.picsOf u.vb=[]->sj=s))
  (fun i _=>(s.picsOf u.vb).length - (intOf i).toNat)
 case atStart=>exact⟨0,Nat.zero_le _,rfl,Bw,s,(by simpa using Kept.start s k),hA1,fun _=>rfl⟩
 case round=>
  obtain⟨j,hj,rfl,HB,sj,hK,hA,hNN⟩:=hrel;have HNN:Hid (s.picsOf u.vb=[]->sj=s):=hNN;clear hNN;by_cases hjl:j < (s.picsOf u.vb).length
  ·have HNE:Hid (s.picsOf u.vb≠[]):=by show _≠_;intro e;rw[e] at hjl;simp at hjl
   obtain⟨h,hG,hyn⟩:=HH.out;have hOr:=owns_same HO.out hA.same hbase;obtain⟨gr,crow,rfl,hgr,hAr,_,hcl,hct⟩:=owns_at hOr (by omega);obtain⟨p,hp⟩:∃p,(s.picsOf u.vb)[j]! = p:=⟨_,rfl⟩
   have hpm:p∈s.picsOf u.vb:=by rw[<-hp,getElem!_pos _ j hjl];exact List.getElem_mem hjl
   obtain⟨hpv,hpo⟩:=picsOf_mem.1 hpm;have cp:wr.cell? ⟨gr,j,none⟩=some (.pointer (some ⟨p.vb,0,none⟩)):=by
    rw[hAr.cell?];have e:(crow.take (s.picsOf u.vb).length)[j]? = crow[j]?:=by rw[List.getElem?_take,if_pos hjl]
    rw[<-e,hct,List.getElem?_map,List.getElem?_eq_getElem hjl,<-getElem!_pos _ j hjl,hp];rfl
   have hnp:p∉(s.picsOf u.vb).take j:=by
    intro hm;obtain⟨q,hq,e⟩:=List.getElem_of_mem hm;have hq':q < j:=by simp at hq;omega
    have hpw:=List.pairwise_iff_getElem.1 (picsOf_nodup h u.vb) q j (by omega) hjl hq';rw[List.getElem_take] at e;rw[e,<-getElem!_pos _ j hjl,hp] at hpw;exact hpw rfl
   obtain⟨i,hi,hip⟩:=mem_index hpv;have HT:Hid (∀v,(v∈(s.picsOf u.vb).take j\/v=s.vols[i]!)↔v∈(s.picsOf u.vb).take (j+1)):=by
    intro v;rw[List.take_succ_eq_append_getElem hjl,List.mem_append,List.mem_singleton,<-getElem!_pos _ j hjl,hp,hip]
   have hij:i < sj.vols.length:=by rw[hK.base.len];exact hi
   obtain⟨r1,r2⟩:=hK.rest i hi (by rw[hip];exact hnp);obtain⟨b1,b2,b3,b4⟩:=hK.base.same i hi;rw[hip] at r1 r2 b1 b2 b3 b4;obtain⟨v',hv'⟩:∃v',sj.vols[i]! = v':=⟨_,rfl⟩
   rw[hv'] at r1 r2 b1 b2 b3 b4;have hvm:v'∈sj.vols:=by rw[<-hv'];exact get_mem hij
   have hVv:=hA.pool.vols v' hvm;have hov:v'.org≠none:=by rw[b4,hpo];simp
   have hszv:sj.size v'=u.xs.length:=by
    have e1:=hK.base.size h hA.pool i hi;rw[hv',hip] at e1;rw[e1];unfold St.size;have e2:=(h.orgOf hpv).2.2.2 (by rw[hpo];simp);rw[hpo] at e2;have e3:s.orgOf p=u:=h.vb_inj (h.orgOf hpv).1 hmem (by simpa using e2.symm);rw[e3]
   have hks:k < sj.size v':=by rw[hszv];exact hk
   have c4:wr.cell? ⟨p.vb,4,none⟩=some (.bool p.lost):=by have:=lost_cell hA.pool hvm;rw[b1,r2] at this;exact this
   have hnot:=runNot;have l2:(j:Int) < ((s.picsOf u.vb).length:Int):=by omega
   have HNX:Hid (∀s2,Step sj s2 k i->Kept s s2 k (fun v=>v∈(s.picsOf u.vb).take (j+1))):=fun s2 hS=>
    (hK.one h hA.pool i hi (by rw[hip];exact hnp) hS).congr fun m hm=>HT.out _
   by_cases hin:k∈p.kept
   ·have hKI:=keptIn_has v' k wr hVv (by rw[r1];exact hin);rw[b1] at hKI;have hK2:=HNX.out sj (Step.none sj k i (Or.inl (by rw[hv',r1];exact hin)));generalize v'.xs[v'.kept.idxOf k]! = zz at *;have HA:Hid (After w1 s wr sj fr):=hA;have HK2:Hid (Kept s sj k (fun v=>v∈(s.picsOf u.vb).take (j+1))):=hK2;clear hK hA HNX hK2 hOr hAr hct hVv h hG HT
    go_wp2_with (go_at_call 122;refine hKI.mono ?_;rintro e wz ⟨rfl,rfl⟩)
    go_roundw
    case rel=>exact⟨j+1,by omega,by go_num,HB,sj,HK2.out,HA.out,fun e=>absurd e HNE.out⟩
    case measure=>simp[intOf];omega
   ·have hKI:=keptIn_not v' k wr hVv (by rw[r1];exact hin);rw[b1] at hKI;cases hpl2:p.lost with
    | true=>
     rw[hpl2] at c4;have hK2:=HNX.out sj (Step.none sj k i (Or.inr (by rw[hv',r2];exact hpl2)));have HA:Hid (After w1 s wr sj fr):=hA;have HK2:Hid (Kept s sj k (fun v=>v∈(s.picsOf u.vb).take (j+1))):=hK2;clear hK hA HNX hK2 hOr hAr hct hVv h hG HT
     go_wp2_with (go_at_call 122;refine hKI.mono ?_;rintro e wz ⟨rfl,rfl⟩)
     go_roundw
     case rel=>exact⟨j+1,by omega,by go_num,HB,sj,HK2.out,HA.out,fun e=>absurd e HNE.out⟩
     case measure=>simp[intOf];omega
    | false=>
     rw[hpl2] at c4;obtain⟨pc,hpp,_,_⟩:=hA.pool.pool;have hpbE:=hA.pb;have hnE:=hA.n;have c1:wr.cell? ⟨s.pb,1,none⟩=some (.pointer (some ⟨sj.db,0,none⟩)):=by rw[<-hpbE];exact hpp.cell? 1
     have hR:=diskRead_calls sj.db sj.bb sj.n yy _ _ _ sj.bl wr _ _ rfl rfl hA.pool.disk.disk hA.pool.disk.data hA.pool.disk.len (by rw[hnE];exact hyn) (by have:=hA.pool.disk.small;omega);have hlook:sj.bl[yy]! = sj.look v' k:=by
      unfold St.look St.holder;rw[if_neg (by rw[r1];exact hin)];have e2:=(hA.pool.orgOf hvm).2.2.2 hov;obtain⟨m,hm,e3,e4⟩:=hK.base.orgOf h hA.pool i hi;rw[hv'] at e4;rw[hip] at e3;rw[e4,(hK.base.same m hm).2.2.1,<-e3];have e5:=(h.orgOf hpv).2.2.2 (by rw[hpo];simp);rw[hpo] at e5;have e6:s.orgOf p=u:=h.vb_inj (h.orgOf hpv).1 hmem (by simpa using e5.symm);rw[e6,HYY.out]
     generalize hold:sj.bl[yy]! = old at *;by_cases hroom:v'.kept.length < v'.xs.length
     ·have hKp:=fun W (hW:Same [] wr W)=>keep_more sj fr i v' k old W _ rfl (hA.pool.new hW) hA.good hij hv' hov (by rw[r2];exact hpl2) hroom (by rw[r1];exact hin) hks
      have HS:Hid (∀W g,PoolAt W { sj with bl:=sj.bl.set v'.xs[v'.kept.length]! old,vols:=setVol i (v'.keeping g k) sj.vols }->Kept s { sj with bl:=sj.bl.set v'.xs[v'.kept.length]! old,vols:=setVol i (v'.keeping g k) sj.vols } k (fun v=>v∈(s.picsOf u.vb).take (j+1))):=fun W g hW=>
       HNX.out _ (step_more hA.pool hA.good i v' g k old hij hv' hov (by rw[r2];exact hpl2) hroom (by rw[r1];exact hin) hks hlook hW)
      rw[hpbE,b1] at hKp;have HA:Hid (After w1 s wr sj fr):=hA;clear hK hA HNX hOr hAr hct hVv h hG HT hpp hlook
      go_wp2_with (first|(go_at_call 122;refine hKI.mono ?_;rintro e wz ⟨rfl,rfl⟩)|(go_at_call 69;refine hR.mono ?_;rintro e w3 ⟨rfl,S3⟩)|(go_at_call 123;refine (hKp _ S3).mono ?_;rintro e w4 ⟨rfl,g,hA4⟩))
      rw[<-hpbE] at hA4;have hA5:=HA.out.step (hA4.old S3);have hB5:=(hA4.old S3).same.at HB (fun hm=>by
       rcases HA.out.foot _ hm with e|e
       ·exact hnb e
       ·have:=Bw.lt;omega)
      have HK2:Hid _:=HS.out w4 g hA4.pool;have HA5:Hid _:=hA5;clear HA hA4 hA5 HS hKp S3
      go_roundw
      case rel=>exact⟨j+1,by omega,by go_num,hB5,_,HK2.out,HA5.out,fun e=>absurd e HNE.out⟩
      case measure=>simp[intOf];omega
     ·have hfull:v'.kept.length=v'.xs.length:=by have:=hVv.room;omega
      have hKp:=fun W (hW:Same [] wr W)=>keep_lost sj fr i v' k old W _ rfl (hA.pool.new hW) hA.good hij hv' hov hfull
      have HS:Hid (∀W,PoolAt W { sj with bl:=giveB v'.xs sj.bl,vols:=setVol i v'.losing sj.vols }->Kept s { sj with bl:=giveB v'.xs sj.bl,vols:=setVol i v'.losing sj.vols } k (fun v=>v∈(s.picsOf u.vb).take (j+1))):=fun W hW=>
       HNX.out _ (step_lost hA.pool hA.good i v' k hij hv' hov (by rw[r2];exact hpl2) hfull (by rw[r1];exact hin) hW)
      rw[hpbE,b1] at hKp;have HA:Hid (After w1 s wr sj fr):=hA;clear hK hA HNX hOr hAr hct hVv h hG HT hpp hlook
      go_wp2_with (first|(go_at_call 122;refine hKI.mono ?_;rintro e wz ⟨rfl,rfl⟩)|(go_at_call 69;refine hR.mono ?_;rintro e w3 ⟨rfl,S3⟩)|(go_at_call 123;refine (hKp _ S3).mono ?_;rintro e w4 ⟨rfl,hA4⟩))
      rw[<-hpbE] at hA4;have hA5:=HA.out.step (hA4.old S3);have hB5:=(hA4.old S3).same.at HB (fun hm=>by
       rcases HA.out.foot _ hm with e|e
       ·exact hnb e
       ·have:=Bw.lt;omega)
      have HK2:Hid _:=HS.out w4 hA4.pool;have HA5:Hid _:=hA5;clear HA hA4 hA5 HS hKp S3
      go_roundw
      case rel=>exact⟨j+1,by omega,by go_num,hB5,_,HK2.out,HA5.out,fun e=>absurd e HNE.out⟩
      case measure=>simp[intOf];omega
  ·have ej:j=(s.picsOf u.vb).length:=by omega
   subst ej;obtain⟨h,hG,hyn⟩:=HH.out;rw[List.take_length] at hK;have hKf:Kept s sj k (fun v=>v.org=some u.vb):=hK.congr fun m hm=>by
    rw[picsOf_mem];exact⟨fun e=>e.2,fun e=>⟨get_mem hm,e⟩⟩
   obtain⟨pc,hpp,_,_⟩:=hA.pool.pool;have hpbE:=hA.pb;have hnE:=hA.n;have c1:wr.cell? ⟨s.pb,1,none⟩=some (.pointer (some ⟨sj.db,0,none⟩)):=by rw[<-hpbE];exact hpp.cell? 1
   have y0:wr.cell? ⟨w.heap.size,0,none⟩=some (.int .u8 x0):=HB.cell? 0;have y1:wr.cell? ⟨w.heap.size,1,none⟩=some (.int .u8 x1):=HB.cell? 1;have y2:wr.cell? ⟨w.heap.size,2,none⟩=some (.int .u8 x2):=HB.cell? 2;have y3:wr.cell? ⟨w.heap.size,3,none⟩=some (.int .u8 x3):=HB.cell? 3;have y4:wr.cell? ⟨w.heap.size,4,none⟩=some (.int .u8 x4):=HB.cell? 4;have y5:wr.cell? ⟨w.heap.size,5,none⟩=some (.int .u8 x5):=HB.cell? 5;have y6:wr.cell? ⟨w.heap.size,6,none⟩=some (.int .u8 x6):=HB.cell? 6;have y7:wr.cell? ⟨w.heap.size,7,none⟩=some (.int .u8 x7):=HB.cell? 7;have hyf:yy∉fr:=by rw[<-HYY.out];exact hG.apart_fr hmem (mem_getElem! hk)
   have hW:=fun W (hW:Same [] wr W) bv (hbv:bv=Blk.val ⟨x0,x1,x2,x3,x4,x5,x6,x7⟩)=>diskWrite_calls sj.db sj.bb sj.n yy _ _ _ sj.bl ⟨x0,x1,x2,x3,x4,x5,x6,x7⟩ W _ bv _ rfl rfl hbv (hW.at hA.pool.disk.disk (by simp)) (hW.at hA.pool.disk.data (by simp)) hA.pool.disk.len (by rw[hnE];exact hyn) (by have:=hA.pool.disk.small;omega)
   have HF:Hid (∀w6,At w6 sj.bb 91 (flat (sj.bl.set yy ⟨x0,x1,x2,x3,x4,x5,x6,x7⟩))->Same [sj.bb] wr w6->After w s w6 { sj with bl:=sj.bl.set yy ⟨x0,x1,x2,x3,x4,x5,x6,x7⟩ } fr):=fun w6 A6 S6=>
    ((hA.step (write_after hA.pool hA.good yy ⟨x0,x1,x2,x3,x4,x5,x6,x7⟩ hyf A6 S6)).old S01)
   have HKF:Hid (Kept s sj k (fun v=>v.org=some u.vb)):=hKf;clear hK hA hKf h hG hpp HB
   go_wp2_with fail
   refine region_tail 6 (by kernel_rfl) (by kernel_rfl) ?_;simp only[List.take_succ_cons,List.take_zero,List.drop_succ_cons,List.drop_zero]
   repeat still_step
   refine wpStill_nil ?_
   go_wp2_with (go_at_call 102;refine (hW _ ((Same.refl _ _).drew) _ rfl).mono ?_;rintro e w6 ⟨rfl,A6,S6⟩)
   have hFin:=HF.out w6 A6 ((Same.refl _ _).drew.step S6 (by simp));clear HF A6 S6 hW;refine bodyPost_end (results_none rfl _ _ _) rfl ⟨rfl,sj,HKF.out,hFin,HNN.out⟩
theorem writePicture_kept(s:St)(fr:List Nat)(v:Vol)(k:Nat)(b:Blk)(w:World)(h:PoolAt w s)(hG:Good s fr)(hv:v∈s.vols)(hk:k∈v.kept) :
 Calls Tryz.prog 89 #[.pointer (some ⟨s.pb,0,none⟩),.pointer (some ⟨v.vb,0,none⟩),.int .i64 k,b.val] w fun e w'=>e=.returned (.int .i64 0) /\
  After w s w' { s with bl:=s.bl.set v.xs[v.kept.idxOf k]! b } fr:=by
 obtain⟨x0,x1,x2,x3,x4,x5,x6,x7⟩:=b;have S0:=(Same.refl [] w).alloc (Obj.cells #[.int .u8 x0,.int .u8 x1,.int .u8 x2,.int .u8 x3,.int .u8 x4,.int .u8 x5,.int .u8 x6,.int .u8 x7] 91);have hKI:=keptIn_has v k _ ((h.new S0).vols v hv) hk;have hyx:v.xs[v.kept.idxOf k]!∈v.xs:=mem_getElem! (Nat.lt_of_lt_of_le (idxOf_lt hk) (h.vols v hv).room);have hyn:=hG.lt.2 v hv _ hyx;have hyf:=hG.apart_fr hv hyx;obtain⟨cap,hp,_,_⟩:=(h.new S0).pool;have c1:(w.alloc (Obj.cells #[.int .u8 x0,.int .u8 x1,.int .u8 x2,.int .u8 x3,.int .u8 x4,.int .u8 x5,.int .u8 x6,.int .u8 x7] 91)).cell? ⟨s.pb,1,none⟩=some (.pointer (some ⟨s.db,0,none⟩)):=hp.cell? 1;have z0:(w.alloc (Obj.cells #[.int .u8 x0,.int .u8 x1,.int .u8 x2,.int .u8 x3,.int .u8 x4,.int .u8 x5,.int .u8 x6,.int .u8 x7] 91)).cell? ⟨w.heap.size,0,none⟩=some (.int .u8 x0):=(At.new w #[.int .u8 x0,.int .u8 x1,.int .u8 x2,.int .u8 x3,.int .u8 x4,.int .u8 x5,.int .u8 x6,.int .u8 x7] 91).cell? 0;have z1:(w.alloc (Obj.cells #[.int .u8 x0,.int .u8 x1,.int .u8 x2,.int .u8 x3,.int .u8 x4,.int .u8 x5,.int .u8 x6,.int .u8 x7] 91)).cell? ⟨w.heap.size,1,none⟩=some (.int .u8 x1):=(At.new w #[.int .u8 x0,.int .u8 x1,.int .u8 x2,.int .u8 x3,.int .u8 x4,.int .u8 x5,.int .u8 x6,.int .u8 x7] 91).cell? 1;have z2:(w.alloc (Obj.cells #[.int .u8 x0,.int .u8 x1,.int .u8 x2,.int .u8 x3,.int .u8 x4,.int .u8 x5,.int .u8 x6,.int .u8 x7] 91)).cell? ⟨w.heap.size,2,none⟩=some (.int .u8 x2):=(At.new w #[.int .u8 x0,.int .u8 x1,.int .u8 x2,.int .u8 x3,.int .u8 x4,.int .u8 x5,.int .u8 x6,.int .u8 x7] 91).cell? 2;have z3:(w.alloc (Obj.cells #[.int .u8 x0,.int .u8 x1,.int .u8 x2,.int .u8 x3,.int .u8 x4,.int .u8 x5,.int .u8 x6,.int .u8 x7] 91)).cell? ⟨w.heap.size,3,none⟩=some (.int .u8 x3):=(At.new w #[.int .u8 x0,.int .u8 x1,.int .u8 x2,.int .u8 x3,.int .u8 x4,.int .u8 x5,.int .u8 x6,.int .u8 x7] 91).cell? 3;have z4:(w.alloc (Obj.cells #[.int .u8 x0,.int .u8 x1,.int .u8 x2,.int .u8 x3,.int .u8 x4,.int .u8 x5,.int .u8 x6,.int .u8 x7] 91)).cell? ⟨w.heap.size,4,none⟩=some (.int .u8 x4):=(At.new w #[.int .u8 x0,.int .u8 x1,.int .u8 x2,.int .u8 x3,.int .u8 x4,.int .u8 x5,.int .u8 x6,.int .u8 x7] 91).cell? 4;have z5:(w.alloc (Obj.cells #[.int .u8 x0,.int .u8 x1,.int .u8 x2,.int .u8 x3,.int .u8 x4,.int .u8 x5,.int .u8 x6,.int .u8 x7] 91)).cell? ⟨w.heap.size,5,none⟩=some (.int .u8 x5):=(At.new w #[.int .u8 x0,.int .u8 x1,.int .u8 x2,.int .u8 x3,.int .u8 x4,.int .u8 x5,.int .u8 x6,.int .u8 x7] 91).cell? 5;have z6:(w.alloc (Obj.cells #[.int .u8 x0,.int .u8 x1,.int .u8 x2,.int .u8 x3,.int .u8 x4,.int .u8 x5,.int .u8 x6,.int .u8 x7] 91)).cell? ⟨w.heap.size,6,none⟩=some (.int .u8 x6):=(At.new w #[.int .u8 x0,.int .u8 x1,.int .u8 x2,.int .u8 x3,.int .u8 x4,.int .u8 x5,.int .u8 x6,.int .u8 x7] 91).cell? 6;have z7:(w.alloc (Obj.cells #[.int .u8 x0,.int .u8 x1,.int .u8 x2,.int .u8 x3,.int .u8 x4,.int .u8 x5,.int .u8 x6,.int .u8 x7] 91)).cell? ⟨w.heap.size,7,none⟩=some (.int .u8 x7):=(At.new w #[.int .u8 x0,.int .u8 x1,.int .u8 x2,.int .u8 x3,.int .u8 x4,.int .u8 x5,.int .u8 x6,.int .u8 x7] 91).cell? 7;generalize v.xs[v.kept.idxOf k]! = yy at *;have hW:=fun W (hW:Same [] w W) bv (hbv:bv=Blk.val ⟨x0,x1,x2,x3,x4,x5,x6,x7⟩)=>diskWrite_calls s.db s.bb s.n yy _ _ _ s.bl ⟨x0,x1,x2,x3,x4,x5,x6,x7⟩ W _ bv _ rfl rfl hbv (hW.at h.disk.disk (by simp)) (hW.at h.disk.data (by simp)) h.disk.len hyn (by have:=h.disk.small;omega)
 have HF:Hid (∀w6,At w6 s.bb 91 (flat (s.bl.set yy ⟨x0,x1,x2,x3,x4,x5,x6,x7⟩))->Same [s.bb] w w6->After w s w6 { s with bl:=s.bl.set yy ⟨x0,x1,x2,x3,x4,x5,x6,x7⟩ } fr):=fun w6 A6 S6=>write_after h hG yy _ hyf A6 S6
 have HS0:Hid (Same [] w (w.alloc (Obj.cells #[.int .u8 x0,.int .u8 x1,.int .u8 x2,.int .u8 x3,.int .u8 x4,.int .u8 x5,.int .u8 x6,.int .u8 x7] 91))):=S0;clear h hG hp S0;unfold Blk.val
 go_enter Tryz.func89,Tryz.ntmps89
 go_wp2_with (go_at_call 122;refine hKI.mono ?_;rintro e wz ⟨rfl,rfl⟩)
 refine region_tail 6 (by kernel_rfl) (by kernel_rfl) ?_;simp only[List.take_succ_cons,List.take_zero,List.drop_succ_cons,List.drop_zero]
 repeat still_step
 refine wpStill_nil ?_
 go_wp2_with (go_at_call 102;refine (hW _ (HS0.out.drew) _ rfl).mono ?_;rintro e w6 ⟨rfl,A6,S6⟩)
 have hFin:=HF.out w6 A6 ((HS0.out.drew.mono (T:=[s.bb]) (by simp)).step S6 (by simp));clear HF A6 S6 hW HS0
 go_ret
 exact⟨rfl,hFin⟩
theorem writePicture_keep(s:St)(v:Vol)(k:Nat)(b:Blk)(w:World)(Q:Ending->World->Prop)(h:PoolAt w s)(hv:v∈s.vols)(hk:k∉v.kept)
 (hA:∀W,Same [] w W->Calls Tryz.prog 123 #[.pointer (some ⟨s.pb,0,none⟩),.pointer (some ⟨v.vb,0,none⟩),.int .i64 k,b.val] W fun e w'=>∃x,e=.returned (.int .i64 x)/\Q (.returned (.int .i64 x)) w') :
 Calls Tryz.prog 89 #[.pointer (some ⟨s.pb,0,none⟩),.pointer (some ⟨v.vb,0,none⟩),.int .i64 k,b.val] w Q:=by
 obtain⟨x0,x1,x2,x3,x4,x5,x6,x7⟩:=b;have S0:=(Same.refl [] w).alloc (Obj.cells #[.int .u8 x0,.int .u8 x1,.int .u8 x2,.int .u8 x3,.int .u8 x4,.int .u8 x5,.int .u8 x6,.int .u8 x7] 91);have hKI:=keptIn_not v k _ ((h.new S0).vols v hv) hk;have HS0:Hid (Same [] w (w.alloc (Obj.cells #[.int .u8 x0,.int .u8 x1,.int .u8 x2,.int .u8 x3,.int .u8 x4,.int .u8 x5,.int .u8 x6,.int .u8 x7] 91))):=S0;clear h S0;unfold Blk.val at *
 go_enter Tryz.func89,Tryz.ntmps89
 go_wp2_with (first|(go_at_call 122;refine hKI.mono ?_;rintro e wz ⟨rfl,rfl⟩)|(go_at_call 123;refine (hA _ HS0.out).mono ?_;rintro e w4 ⟨x,rfl,hQ⟩))
 exact hQ
theorem After.still{w w':World}{s:St}{fr:List Nat}(h:PoolAt w s)(hG:Good s fr)(hs:Same [] w w'):After w s w' s fr:=
 ⟨h.new hs,hG,hs.mono (by simp),fun k hk=>Or.inl hk,rfl,rfl⟩
theorem write_volume(s:St)(fr:List Nat)(t:ByteArray)(k:Nat)(b:Blk)(w:World)(h:PoolAt w s)(hG:Good s fr)(hi:s.has t=true)(ho:(s.vol t).org=none)(hk:k < (s.vol t).xs.length)(hb:s.look (s.vol t) k≠b) :
 Calls Tryz.prog 50 #[.pointer (some ⟨s.pb,0,none⟩),.string t,.int .i64 k,b.val] w fun e w'=>e=.returned (.int .i64 0)/\∃s1,Kept s s1 k (fun v=>v.org=some (s.vol t).vb)/\After w s w' { s1 with bl:=s1.bl.set (s.vol t).xs[k]! b } fr:=by
 have hmem:=(St.has_mem hi).1;have hl:=((h.vols _ hmem).plain ho).2;have eo:s.orgOf (s.vol t)=s.vol t:=(h.orgOf hmem).2.2.1 ho;have hk':k < s.size (s.vol t):=by unfold St.size;rw[eo];exact hk
 have hn:=holder_lt h hG hmem hk';obtain⟨iu,hiu,hu⟩:=mem_index hmem;refine write_vol s t k b w _ h hi hl hk' hn hb ho fun W hW=>?_
 refine (writeVolume_calls s fr iu (s.vol t) k b W _ rfl (h.new hW) hG hiu hu ho hk).mono ?_;rintro e w' ⟨he,s1,hK,hA,hs⟩;exact⟨he,s1,hK,hA.old hW⟩
theorem write_picture_kept(s:St)(fr:List Nat)(t:ByteArray)(k:Nat)(b:Blk)(w:World)(h:PoolAt w s)(hG:Good s fr)(hi:s.has t=true)(ho:(s.vol t).org≠none)(hl:(s.vol t).lost=false)(hk:k < s.size (s.vol t))(hb:s.look (s.vol t) k≠b)(hkk:k∈(s.vol t).kept) :
 Calls Tryz.prog 50 #[.pointer (some ⟨s.pb,0,none⟩),.string t,.int .i64 k,b.val] w fun e w'=>e=.returned (.int .i64 0)/\After w s w' { s with bl:=s.bl.set (s.vol t).xs[(s.vol t).kept.idxOf k]! b } fr:=by
 have hmem:=(St.has_mem hi).1;refine write_pic s t k b w _ h hi hl hk (holder_lt h hG hmem hk) hb ho fun W hW=>?_
 refine (writePicture_kept s fr (s.vol t) k b W (h.new hW) hG hmem hkk).mono ?_;rintro e w' ⟨he,hA⟩;exact⟨0,he,rfl,hA.old hW⟩
theorem write_picture_more(s:St)(fr:List Nat)(t:ByteArray)(k:Nat)(b:Blk)(w:World)(h:PoolAt w s)(hG:Good s fr)(hi:s.has t=true)(ho:(s.vol t).org≠none)(hl:(s.vol t).lost=false)(hk:k < s.size (s.vol t))(hb:s.look (s.vol t) k≠b)(hkk:k∉(s.vol t).kept)(hf:(s.vol t).kept.length < (s.vol t).xs.length) :
 Calls Tryz.prog 50 #[.pointer (some ⟨s.pb,0,none⟩),.string t,.int .i64 k,b.val] w fun e w'=>e=.returned (.int .i64 0)/\∃i g,i < s.vols.length/\s.vols[i]! = s.vol t/\After w s w' { s with bl:=s.bl.set (s.vol t).xs[(s.vol t).kept.length]! b,vols:=setVol i ((s.vol t).keeping g k) s.vols } fr:=by
 have hmem:=(St.has_mem hi).1;obtain⟨i,hii,hv⟩:=mem_index hmem;refine write_pic s t k b w _ h hi hl hk (holder_lt h hG hmem hk) hb ho fun W hW=>?_
 refine writePicture_keep s (s.vol t) k b W _ (h.new hW) hmem hkk fun W2 hW2=>?_
 refine (keep_more s fr i (s.vol t) k b W2 _ rfl ((h.new hW).new hW2) hG hii hv ho hl hf hkk hk).mono ?_;rintro e w' ⟨he,g,hA⟩;refine⟨0,he,0,rfl,rfl,i,g,hii,hv,(hA.old hW2).old hW⟩
theorem write_picture_lost(s:St)(fr:List Nat)(t:ByteArray)(k:Nat)(b:Blk)(w:World)(h:PoolAt w s)(hG:Good s fr)(hi:s.has t=true)(ho:(s.vol t).org≠none)(hl:(s.vol t).lost=false)(hk:k < s.size (s.vol t))(hb:s.look (s.vol t) k≠b)(hkk:k∉(s.vol t).kept)(hf:(s.vol t).kept.length=(s.vol t).xs.length) :
 Calls Tryz.prog 50 #[.pointer (some ⟨s.pb,0,none⟩),.string t,.int .i64 k,b.val] w fun e w'=>e=.returned (.int .i64 10)/\∃i,i < s.vols.length/\s.vols[i]! = s.vol t/\After w s w' { s with bl:=giveB (s.vol t).xs s.bl,vols:=setVol i (s.vol t).losing s.vols } fr:=by
 have hmem:=(St.has_mem hi).1;obtain⟨i,hii,hv⟩:=mem_index hmem;refine write_pic s t k b w _ h hi hl hk (holder_lt h hG hmem hk) hb ho fun W hW=>?_
 refine writePicture_keep s (s.vol t) k b W _ (h.new hW) hmem hkk fun W2 hW2=>?_
 refine (keep_lost s fr i (s.vol t) k b W2 _ rfl ((h.new hW).new hW2) hG hii hv ho hf).mono ?_;rintro e w' ⟨he,hA⟩;refine⟨10,he,10,rfl,rfl,i,hii,hv,(hA.old hW2).old hW⟩
end
end Go.Proofs.YtpddgdjocffgdaaGreat
