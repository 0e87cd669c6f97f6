/- For every number of blocks and every script of steps the law stratalaw.Images returns true: whatever is asked of volumes and pictures, in whatever order, on whatever disk, and with the image told and loaded again wherever the script says so, the program answers as the document does; and then everything that can be asked is answered alike. No condition beyond the row's own; the program is that of the commit named beside this claim. -/
import Derived.Test.YtpddgdjocffgdaaGreatRows
import Derived.Test.YtpddgdjocffgdaaGreatJ14
import Derived.Test.YtpddgdjocffgdaaGreatJ34
import Derived.WalkKit
import Derived.ProofKit
import Derived.OpenShut
import Derived.ShutString
import Derived.ChangeOld
import Derived.Below
namespace Go.Proofs.YtpddgdjocffgdaaGreat
set_option linter.unusedVariables false
set_option linter.unusedSimpArgs false
set_option linter.unusedSectionVars false
set_option maxHeartbeats 16000000
set_option maxRecDepth 100000
section
open Go.ChangeShapes Go.WideShapes Go.ChangeAt Go.RowKit
open Go.ChangeMaps (open_string shut_string)
theorem imagesOwn:ownKnob Tryz.prog.godebug=none:=by kernel_rfl
theorem imagesLaid:laidOutB Tryz.prog=true:=by kernel_rfl
theorem images_walk(n:Int)(a:Option Addr)(len cap b off:Nat)(w:World)(hs:Script w a len b off) :
 Calls Tryz.prog 5 #[.int .i64 n,.slice a len cap] w fun e w'=>e=.returned (.bool true)/\Below w.heap.size w w':=by
 haveI i1:DecidableEq Blk:=fun a b=>Classical.propDecidable (a=b)
 haveI i2:Inhabited Blk:=⟨Blk.zero⟩
 haveI i3:Inhabited Vol:=⟨⟨0,0,⟨#[]⟩,[],none,none,[],false⟩⟩
 haveI i4:Inhabited RVol:=⟨⟨0,0,0,none,⟨#[]⟩,⟨#[]⟩,[],[],[],false⟩⟩
 haveI i5:Inhabited PEnt:=⟨⟨⟨#[]⟩,0,0,0,0,[],[]⟩⟩
 haveI i6:Inhabited RRow:=⟨⟨⟨⟨#[]⟩,0,none,0,[],[],false⟩,0,0,0,0,none,0⟩⟩
 exact (images_calls n a len cap b off w hs).mono fun e w' ⟨h1,h2⟩=>⟨h1,h2.below (Nat.le_refl _) (by simp)⟩
theorem images_lifted(os:Os)(started:os.Started)(H:Type)(enc:TypeId×Value->H) :
 ReturnsInHanded {} Tryz.checked os 5 .any (Rows.imagesSpec.pre6 enc Tryz.prog Tryz.f5 Rows.imagesRow.domain false) (Rows.imagesSpec.post enc Tryz.prog Tryz.f5 false true false false):=by
 refine returnsInHanded_of_change (C:=Tryz.checked) imagesOwn started (by kernel_rfl) Tryz.func5
  (ChangeSpec.witness6 (enc:=enc) (C:=Tryz.checked) false ⟨#[],#[.int .i64 0,.slice none 0 0],[]⟩ 8 (by kernel_rfl) (by kernel_rfl) (by kernel_rfl) (by kernel_rfl)) ?_
 intro W base args ds gs before hval0 hW hcnd _;have hval:∀(j:Nat) t v,Tryz.f5.params[j]? = some t->args[j]? = some v->Value.okWide Tryz.prog W .any base t v:=hval0;have hW':=hW;obtain⟨p,q,hA0,hV,rfl,hfz,hnd⟩:=hW;have hA:DataW.TrodAll enc Tryz.prog W 0 (fun _=>true) true Tryz.f5.params.toList args.toList ds p:=hA0;rw[Tryz.params5] at hA hval;obtain⟨v0,vs0,d0,ds0,p0,q0,hargs,rfl,rfl,h0,r0⟩:=trodAll_cons hA;obtain⟨v1,vs1,d1,ds1,p1,q1,rfl,rfl,rfl,h1,r1⟩:=trodAll_cons r0;obtain⟨rfl,rfl,rfl⟩:=trodAll_nil r1;obtain rfl:args=#[v0,v1]:=by cases args;simp_all
 obtain⟨rfl,rfl⟩:=trodVars_none hV;obtain⟨sz,rfl,rfl,rfl,ws⟩:=open_int Tryz.underlying3 (hval 0 3 v0 rfl rfl) h0;obtain⟨a0,len0,cap0,rfl⟩:=okWide_slice Tryz.underlying22 (hval 1 22 v1 rfl rfl);have k0:=h1;have lt0:∀x∈p1,x.block < W.heap.size:=by obtain⟨m,hm⟩:=k0;exact DataW.trod_lt m _ _ _ hm
 obtain⟨b,off,hs⟩:∃b off,Script W a0 len0 b off:=by
  obtain⟨fuel,hf⟩:=h1;exact script_open hf
 clear hA0 hval0;refine (images_walk sz a0 len0 cap0 b off W hs).mono fun e W' ⟨he,bel⟩=>?_
 subst he;exact⟨_,rfl,_,_,_,[],_,[],hW',trodAll_mk1 (shut_bool Tryz.underlying4 _),(trodAll_cons_mk (shut_int Tryz.underlying3 ws) (trodAll_cons_mk (Below.trod imagesLaid (by kernel_rfl) (of_decide_eq_true (by kernel_rfl)) k0 bel lt0) trodAll_mk0)),rfl,bel.frame _,fun h=>by cases h⟩
theorem images_over:Rows.imagesRow.holds Tryz.pinned (OpenSpec.ofChange Rows.imagesSpec):=
 OpenClaim.holds_of_wide 5 Tryz.f5 rfl rfl rfl rfl rfl rfl rfl ⟨rfl,rfl,rfl,rfl,rfl⟩ rfl rfl rfl rfl rfl (by kernel_rfl) Tryz.func5 (by kernel_rfl)
  (of_decide_eq_true (by kernel_rfl)) (by unfold Func.isWrapper;first|(rw[if_pos (by decide +kernel)];kernel_rfl)|(rw[if_neg (by decide +kernel)];exact⟨rfl,rfl⟩))
  (fun os started H enc _=>images_lifted os started H enc)
theorem images_holds:Rows.ImagesSaid:=images_over
#print axioms images_holds
end
end Go.Proofs.YtpddgdjocffgdaaGreat
