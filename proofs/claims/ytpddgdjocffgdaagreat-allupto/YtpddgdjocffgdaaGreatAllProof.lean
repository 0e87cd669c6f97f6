/- For every script of steps that is, with all its texts, of bulk at most 1048576, the law stratalaw.All returns true: whatever is asked of several Pools in turns, in whatever order, the program answers as the document does, what is handed in is as it was, and what comes out is its owner's alone: written full by its owner, it reads as its mark says behind every later step. The one condition is the row's own bound; the program is that of the commit named beside this claim. The other texts are packed: blanks and remarks left out, names shortened. -/
import Derived.Test.YtpddgdjocffgdaaGreatRows
import Derived.Test.YtpddgdjocffgdaaGreatA11
import Derived.Test.YtpddgdjocffgdaaGreatA25
import Derived.WalkKit
import Derived.ProofKit
import Derived.OpenShut
import Derived.ShutString
import Derived.ChangeOld
import Derived.Below
import Derived.JoinedCond
namespace Go.Proofs.YtpddgdjocffgdaaGreat
open Go.Proofs.Tryz
set_option linter.unusedVariables false
set_option linter.unusedSimpArgs false
set_option linter.unusedSectionVars false
set_option maxHeartbeats 16000000
set_option maxRecDepth 100000
section
open Go.ChangeShapes Go.WideShapes Go.ChangeAt Go.RowKit
open Go.ChangeMaps (open_string shut_string)
theorem YO:ownKnob prog.godebug=none:=by kernel_rfl
theorem WO:laidOutB prog=true:=by kernel_rfl
theorem all_walk(a:Option Addr)(len cap b off:Nat)(w:World)(hs:xq w a len b off) :
 Calls prog 6 #[.slice a len cap] w fun e w'=>e=.returned (.bool true)/\Below w.heap.size w w':=by
 haveI i1:DecidableEq aN:=fun a b=>Classical.propDecidable (a=b)
 haveI i2:Inhabited aN:=⟨aN.zero⟩
 haveI i3:Inhabited aF:=⟨⟨0,0,⟨#[]⟩,[],none,none,[],false⟩⟩
 haveI i4:Inhabited ay:=⟨⟨0,0,0,none,⟨#[]⟩,⟨#[]⟩,[],[],[],false⟩⟩
 haveI i5:Inhabited aS:=⟨⟨⟨#[]⟩,0,0,0,0,[],[]⟩⟩
 haveI i6:Inhabited aV:=⟨⟨⟨⟨#[]⟩,0,none,0,[],[],false⟩,0,0,0,0,none,0⟩⟩
 exact(Px a len cap b off w hs).mono fun e w' ⟨h1,h2⟩=>⟨h1,h2.below (Nat.le_refl _) (by simp)⟩
theorem FO(H:Type)(enc:TypeId×Value->H)(W:World)(base:Nat)(args:Array Value)(ds gs:List (DataW H))(before:List MemPlace)
 (hval:∀(j:Nat) t v,f6.params[j]? = some t->args[j]? = some v->Value.okWide prog W .any base t v)
 (hW:DataW.Whole enc prog f6.params.toList Rows.allSpec.vars false W args.toList ds gs before) (hk:Rows.uptoSmall H (ds++gs)=true) :
 Calls prog 6 args W fun e W'=>∃v,e=.returned v/\Rows.allSpec.post enc prog f6 false true false false W args v W':=by
 have hW':=hW;obtain⟨p,q,hA0,hV,rfl,hfz,hnd⟩:=hW;have hA:DataW.TrodAll enc prog W 0 (fun _=>true) true f6.params.toList args.toList ds p:=hA0;rw[params6]at hA hval;obtain⟨v0,vs0,d0,ds0,p0,q0,hargs,rfl,rfl,h0,r0⟩:=trodAll_cons hA;obtain⟨rfl,rfl,rfl⟩:=trodAll_nil r0;obtain rfl:args=#[v0]:=by cases args;simp_all
 obtain⟨rfl,rfl⟩:=trodVars_none hV;obtain⟨a0,len0,cap0,rfl⟩:=okWide_slice underlying22 (hval 0 22 v0 rfl rfl);have k0:=h0;have lt0:∀x∈p0,x.block<W.heap.size:=by obtain⟨m,hm⟩:=k0;exact DataW.trod_lt m _ _ _ hm
 have hb:Rows.uptoBulk d0<=1048576:=by
  have h:Rows.uptoBulkAll ([d0]++[])<=1048576:=of_decide_eq_true hk;simp only[List.append_nil,Rows.uptoBulkAll]at h;omega
 obtain⟨b,off,hs⟩:∃b off,xq W a0 len0 b off:=by
  obtain⟨fuel,hf⟩:=h0;exact FT hf hb
 clear hA0;refine(all_walk a0 len0 cap0 b off W hs).mono fun e W' ⟨he,bel⟩=>?_
 subst he;exact⟨_,rfl,_,_,_,[],_,[],hW',trodAll_mk1 (shut_bool underlying4 _),trodAll_cons_mk (Below.trod WO (by kernel_rfl) (of_decide_eq_true (by kernel_rfl)) k0 bel lt0) trodAll_mk0,rfl,bel.frame _,fun h=>by cases h⟩
theorem all_lifted(os:Os)(started:os.Started)(H:Type)(enc:TypeId×Value->H)(F:Stop.Interp) :
 ReturnsInHanded {} checked os 6 .any ((Rows.OpenSpec.upto Rows.allSpec).pre6 enc prog f6 Rows.allUptoRow.domain false) (((Rows.OpenSpec.upto Rows.allSpec).at F).post enc prog f6 false true false false):=by
 refine returnsInHanded_of_cond (C:=checked) (s:=Rows.OpenSpec.upto Rows.allSpec) (k:=Rows.uptoSmall) rfl YO started (by kernel_rfl) func6
  (OpenSpec.witness (enc:=enc) (C:=checked) (s:=Rows.OpenSpec.upto Rows.allSpec) (k:=Rows.uptoSmall) rfl false ⟨#[],#[.slice none 0 0],[]⟩ 8 (by kernel_rfl) (by kernel_rfl) (by kernel_rfl)
   (x:=([.nil],[],[])) (by kernel_rfl) rfl (by kernel_rfl)) ?_
 intro W base args ds gs before hval hW _ hk _;exact FO H enc W base args ds gs before hval hW hk
theorem all_holds:Rows.AllUptoSaid:=
 OpenClaim.holds_of_cond 6 f6 rfl rfl rfl rfl rfl rfl rfl ⟨rfl,rfl,rfl,rfl,rfl⟩ rfl rfl rfl rfl rfl (by kernel_rfl) func6 (by kernel_rfl)
  (of_decide_eq_true (by kernel_rfl)) (by unfold Func.isWrapper;first|(rw[if_pos (by decide +kernel)];kernel_rfl)|(rw[if_neg (by decide +kernel)];exact⟨rfl,rfl⟩))
  (fun os started H enc _ F=>all_lifted os started H enc F)
#print axioms all_holds
end
end Go.Proofs.YtpddgdjocffgdaaGreat
