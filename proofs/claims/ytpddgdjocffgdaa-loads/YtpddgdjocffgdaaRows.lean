/-
  No cell of these rows narrows 'for every input' (looked for: loops, veiled, ifaces, maps, wideKeys, modest, calm, conditions, laid).
  DERIVED. THE GIVEN ROWS OF THIS SEAT. 7 by the template 'for every input the law returns true; each argument reads behind the call as it read before'; 0 by the template 'total and deterministic' (their statements: YtpddgdjocffgdaaTotals.lean).
  GIVEN WITH THE SEED: the statements are not yours to turn. If you find one false, say at which input.
  Laid BY PROGRAM, IN A SANDBOX (cutbox-rows.mjs): the forced cells as the released guide's own fill.sh prints them over the translation 21f9ead437dc0f94… (all of the seat's roots in one cut). By AI agents, Wed Nov 11 2026. No macro, syntax, notation, axiom, sorry.
-/
import Derived.Test.YtpddgdjocffgdaaChecked
import GoSem.Claim
import GoSem.ClaimJoined
import GoSem.ClaimMapViews
import Derived.JoinedTies
import Derived.KernelRfl
namespace Go.Proofs.Ytpddgdjocffgdaa
/- THE CELL 'sum', in the pinned program and in every row, IS THE sha256 OF THE DUMP (.gsa) THAT YtpddgdjocffgdaaProg.lean LOADS. Nothing in Lean hashes anything: it is a label: what it is worth is what the hold of that sum in a sandbox is worth. -/
noncomputable def Try.pinned : Pinned := { name := "ytpddgdjocffgdaa", sum := "21f9ead437dc0f9484136e53082ed7f4a3cf819c5e22d053ecb65122a034e7c9", checked := Try.checked }
namespace Rows
def none {H : Type} : Left H := { results := [], args := [] }

/-- 'stratalaw.Loads': WHATEVER THE INPUT: true; the input reads as it did. -/
def loadsSpec : ChangeSpec := { name := "loads", fn := fun _ => fun
  | [d] => { results := [.lit (.bool true)], args := [d] }
  | _ => none }
def loadsRow : OpenClaim := { program := "ytpddgdjocffgdaa", sum := "21f9ead437dc0f9484136e53082ed7f4a3cf819c5e22d053ecb65122a034e7c9", func := "strata/stratalaw.Loads", spec := "loads", inPlace := ["internal/bytealg.abigen_runtime_cmpstring"], unfollowed := true, recurses := true, apart := false }
def LoadsSaid : Prop := loadsRow.holds Try.pinned (OpenSpec.ofChange loadsSpec)

/-- ITS FALSE NEIGHBOUR: 'it returns false'. Refute it at one input. -/
def loadsWrong : ChangeSpec := { name := "loads", fn := fun _ => fun
  | [d] => { results := [.lit (.bool false)], args := [d] }
  | _ => none }
def LoadsWrongFalsely : Prop := loadsRow.holds Try.pinned (OpenSpec.ofChange loadsWrong)

/-- 'stratalaw.Unmade': WHATEVER THE INPUT: true; the input reads as it did. -/
def unmadeSpec : ChangeSpec := { name := "unmade", fn := fun _ => fun
  | [] => { results := [.lit (.bool true)], args := [] }
  | _ => none }
def unmadeRow : OpenClaim := { program := "ytpddgdjocffgdaa", sum := "21f9ead437dc0f9484136e53082ed7f4a3cf819c5e22d053ecb65122a034e7c9", func := "strata/stratalaw.Unmade", spec := "unmade", inPlace := ["internal/bytealg.abigen_runtime_cmpstring"], unfollowed := true, recurses := true, apart := false }
def UnmadeSaid : Prop := unmadeRow.holds Try.pinned (OpenSpec.ofChange unmadeSpec)

/-- ITS FALSE NEIGHBOUR: 'it returns false'. Refute it at one input. -/
def unmadeWrong : ChangeSpec := { name := "unmade", fn := fun _ => fun
  | [] => { results := [.lit (.bool false)], args := [] }
  | _ => none }
def UnmadeWrongFalsely : Prop := unmadeRow.holds Try.pinned (OpenSpec.ofChange unmadeWrong)

/-- 'stratakeep.Shared': WHATEVER THE INPUT: true; the input reads as it did. -/
def sharedSpec : ChangeSpec := { name := "shared", fn := fun _ => fun
  | [d] => { results := [.lit (.bool true)], args := [d] }
  | _ => none }
def sharedRow : OpenClaim := { program := "ytpddgdjocffgdaa", sum := "21f9ead437dc0f9484136e53082ed7f4a3cf819c5e22d053ecb65122a034e7c9", func := "strata/stratakeep.Shared", spec := "shared", inPlace := ["internal/bytealg.abigen_runtime_cmpstring"], unfollowed := true, recurses := true, apart := false }
def SharedSaid : Prop := sharedRow.holds Try.pinned (OpenSpec.ofChange sharedSpec)

/-- ITS FALSE NEIGHBOUR: 'it returns false'. Refute it at one input. -/
def sharedWrong : ChangeSpec := { name := "shared", fn := fun _ => fun
  | [d] => { results := [.lit (.bool false)], args := [d] }
  | _ => none }
def SharedWrongFalsely : Prop := sharedRow.holds Try.pinned (OpenSpec.ofChange sharedWrong)

/-- 'stratakeep.Past': WHATEVER THE INPUT: true; the input reads as it did. -/
def pastSpec : ChangeSpec := { name := "past", fn := fun _ => fun
  | [d1, d2] => { results := [.lit (.bool true)], args := [d1, d2] }
  | _ => none }
def pastRow : OpenClaim := { program := "ytpddgdjocffgdaa", sum := "21f9ead437dc0f9484136e53082ed7f4a3cf819c5e22d053ecb65122a034e7c9", func := "strata/stratakeep.Past", spec := "past", inPlace := ["internal/bytealg.abigen_runtime_cmpstring"], unfollowed := true, recurses := true, apart := false }
def PastSaid : Prop := pastRow.holds Try.pinned (OpenSpec.ofChange pastSpec)

/-- ITS FALSE NEIGHBOUR: 'it returns false'. Refute it at one input. -/
def pastWrong : ChangeSpec := { name := "past", fn := fun _ => fun
  | [d1, d2] => { results := [.lit (.bool false)], args := [d1, d2] }
  | _ => none }
def PastWrongFalsely : Prop := pastRow.holds Try.pinned (OpenSpec.ofChange pastWrong)

/-- 'stratakeep.Room': WHATEVER THE INPUT: true; the input reads as it did. -/
def roomSpec : ChangeSpec := { name := "room", fn := fun _ => fun
  | [d1, d2, d3] => { results := [.lit (.bool true)], args := [d1, d2, d3] }
  | _ => none }
def roomRow : OpenClaim := { program := "ytpddgdjocffgdaa", sum := "21f9ead437dc0f9484136e53082ed7f4a3cf819c5e22d053ecb65122a034e7c9", func := "strata/stratakeep.Room", spec := "room", inPlace := ["internal/bytealg.abigen_runtime_cmpstring"], unfollowed := true, recurses := true, apart := false }
def RoomSaid : Prop := roomRow.holds Try.pinned (OpenSpec.ofChange roomSpec)

/-- ITS FALSE NEIGHBOUR: 'it returns false'. Refute it at one input. -/
def roomWrong : ChangeSpec := { name := "room", fn := fun _ => fun
  | [d1, d2, d3] => { results := [.lit (.bool false)], args := [d1, d2, d3] }
  | _ => none }
def RoomWrongFalsely : Prop := roomRow.holds Try.pinned (OpenSpec.ofChange roomWrong)

/-- 'stratakeep.Back': WHATEVER THE INPUT: true; the input reads as it did. -/
def backSpec : ChangeSpec := { name := "back", fn := fun _ => fun
  | [d1, d2, d3] => { results := [.lit (.bool true)], args := [d1, d2, d3] }
  | _ => none }
def backRow : OpenClaim := { program := "ytpddgdjocffgdaa", sum := "21f9ead437dc0f9484136e53082ed7f4a3cf819c5e22d053ecb65122a034e7c9", func := "strata/stratakeep.Back", spec := "back", inPlace := ["internal/bytealg.abigen_runtime_cmpstring"], unfollowed := true, recurses := true, apart := false }
def BackSaid : Prop := backRow.holds Try.pinned (OpenSpec.ofChange backSpec)

/-- ITS FALSE NEIGHBOUR: 'it returns false'. Refute it at one input. -/
def backWrong : ChangeSpec := { name := "back", fn := fun _ => fun
  | [d1, d2, d3] => { results := [.lit (.bool false)], args := [d1, d2, d3] }
  | _ => none }
def BackWrongFalsely : Prop := backRow.holds Try.pinned (OpenSpec.ofChange backWrong)

/-- 'stratakeep.Again': WHATEVER THE INPUT: true; the input reads as it did. -/
def againSpec : ChangeSpec := { name := "again", fn := fun _ => fun
  | [d1, d2, d3, d4] => { results := [.lit (.bool true)], args := [d1, d2, d3, d4] }
  | _ => none }
def againRow : OpenClaim := { program := "ytpddgdjocffgdaa", sum := "21f9ead437dc0f9484136e53082ed7f4a3cf819c5e22d053ecb65122a034e7c9", func := "strata/stratakeep.Again", spec := "again", inPlace := ["internal/bytealg.abigen_runtime_cmpstring"], unfollowed := true, recurses := true, apart := false }
def AgainSaid : Prop := againRow.holds Try.pinned (OpenSpec.ofChange againSpec)

/-- ITS FALSE NEIGHBOUR: 'it returns false'. Refute it at one input. -/
def againWrong : ChangeSpec := { name := "again", fn := fun _ => fun
  | [d1, d2, d3, d4] => { results := [.lit (.bool false)], args := [d1, d2, d3, d4] }
  | _ => none }
def AgainWrongFalsely : Prop := againRow.holds Try.pinned (OpenSpec.ofChange againWrong)

/- THE SECOND FORM. 'bulk': how many values and letters a reading holds, each counted each time it is reached (what is shared counts as often as it is met; a slice's spare places count too). A statement '..UptoSaid' is the law's where the arguments, and the package variables that the reading takes, are together of bulk at most 1048576: NARROWER than '..Said'. Prove '..Said' where nothing that the law and all that it calls make is longer than what came in: it says more and counts as full. Else prove '..UptoSaid'. A law counts once. -/
mutual
def uptoBulk {H : Type} : DataW H → Nat
  | .lit (.string bytes) => bytes.length + 1
  | .lit _ => 1
  | .nil => 1
  | .ptr d => uptoBulk d + 1
  | .slice elems spare => uptoBulkAll elems + uptoBulkAll spare + 1
  | .agg parts => uptoBulkAll parts + 1
  | .iface _ d => uptoBulk d + 1
  | .map entries => uptoBulkEntries entries + 1
  | .held _ => 1
def uptoBulkAll {H : Type} : List (DataW H) → Nat
  | [] => 0
  | d :: r => uptoBulk d + uptoBulkAll r
def uptoBulkEntries {H : Type} : List (Lit × DataW H) → Nat
  | [] => 0
  | x :: r => uptoBulkEntry x + uptoBulkEntries r
def uptoBulkEntry {H : Type} : Lit × DataW H → Nat
  | (.string bytes, d) => bytes.length + uptoBulk d + 1
  | (_, d) => uptoBulk d + 1
 end
def uptoSmall : (H : Type) → List (DataW H) → Bool := fun _ ds => decide (uptoBulkAll ds ≤ 1048576)
def OpenSpec.upto (s : _root_.Go.ChangeSpec) : _root_.Go.OpenSpec := { _root_.Go.OpenSpec.ofChange s with cond := some uptoSmall }

/-- 'stratalaw.Loads', WHERE WHAT IT READS IS OF BULK AT MOST 1048576: true; the input reads as it did. -/
def loadsUptoRow : OpenClaim := { program := "ytpddgdjocffgdaa", sum := "21f9ead437dc0f9484136e53082ed7f4a3cf819c5e22d053ecb65122a034e7c9", func := "strata/stratalaw.Loads", spec := "loads", inPlace := ["internal/bytealg.abigen_runtime_cmpstring"], unfollowed := true, recurses := true, apart := false, narrowed := true }
def LoadsUptoSaid : Prop := loadsUptoRow.holds Try.pinned (OpenSpec.upto loadsSpec)

/-- 'stratalaw.Unmade', WHERE WHAT IT READS IS OF BULK AT MOST 1048576: true; the input reads as it did. -/
def unmadeUptoRow : OpenClaim := { program := "ytpddgdjocffgdaa", sum := "21f9ead437dc0f9484136e53082ed7f4a3cf819c5e22d053ecb65122a034e7c9", func := "strata/stratalaw.Unmade", spec := "unmade", inPlace := ["internal/bytealg.abigen_runtime_cmpstring"], unfollowed := true, recurses := true, apart := false, narrowed := true }
def UnmadeUptoSaid : Prop := unmadeUptoRow.holds Try.pinned (OpenSpec.upto unmadeSpec)

/-- 'stratakeep.Shared', WHERE WHAT IT READS IS OF BULK AT MOST 1048576: true; the input reads as it did. -/
def sharedUptoRow : OpenClaim := { program := "ytpddgdjocffgdaa", sum := "21f9ead437dc0f9484136e53082ed7f4a3cf819c5e22d053ecb65122a034e7c9", func := "strata/stratakeep.Shared", spec := "shared", inPlace := ["internal/bytealg.abigen_runtime_cmpstring"], unfollowed := true, recurses := true, apart := false, narrowed := true }
def SharedUptoSaid : Prop := sharedUptoRow.holds Try.pinned (OpenSpec.upto sharedSpec)

/-- 'stratakeep.Past', WHERE WHAT IT READS IS OF BULK AT MOST 1048576: true; the input reads as it did. -/
def pastUptoRow : OpenClaim := { program := "ytpddgdjocffgdaa", sum := "21f9ead437dc0f9484136e53082ed7f4a3cf819c5e22d053ecb65122a034e7c9", func := "strata/stratakeep.Past", spec := "past", inPlace := ["internal/bytealg.abigen_runtime_cmpstring"], unfollowed := true, recurses := true, apart := false, narrowed := true }
def PastUptoSaid : Prop := pastUptoRow.holds Try.pinned (OpenSpec.upto pastSpec)

/-- 'stratakeep.Room', WHERE WHAT IT READS IS OF BULK AT MOST 1048576: true; the input reads as it did. -/
def roomUptoRow : OpenClaim := { program := "ytpddgdjocffgdaa", sum := "21f9ead437dc0f9484136e53082ed7f4a3cf819c5e22d053ecb65122a034e7c9", func := "strata/stratakeep.Room", spec := "room", inPlace := ["internal/bytealg.abigen_runtime_cmpstring"], unfollowed := true, recurses := true, apart := false, narrowed := true }
def RoomUptoSaid : Prop := roomUptoRow.holds Try.pinned (OpenSpec.upto roomSpec)

/-- 'stratakeep.Back', WHERE WHAT IT READS IS OF BULK AT MOST 1048576: true; the input reads as it did. -/
def backUptoRow : OpenClaim := { program := "ytpddgdjocffgdaa", sum := "21f9ead437dc0f9484136e53082ed7f4a3cf819c5e22d053ecb65122a034e7c9", func := "strata/stratakeep.Back", spec := "back", inPlace := ["internal/bytealg.abigen_runtime_cmpstring"], unfollowed := true, recurses := true, apart := false, narrowed := true }
def BackUptoSaid : Prop := backUptoRow.holds Try.pinned (OpenSpec.upto backSpec)

/-- 'stratakeep.Again', WHERE WHAT IT READS IS OF BULK AT MOST 1048576: true; the input reads as it did. -/
def againUptoRow : OpenClaim := { program := "ytpddgdjocffgdaa", sum := "21f9ead437dc0f9484136e53082ed7f4a3cf819c5e22d053ecb65122a034e7c9", func := "strata/stratakeep.Again", spec := "again", inPlace := ["internal/bytealg.abigen_runtime_cmpstring"], unfollowed := true, recurses := true, apart := false, narrowed := true }
def AgainUptoSaid : Prop := againUptoRow.holds Try.pinned (OpenSpec.upto againSpec)

end Rows
end Go.Proofs.Ytpddgdjocffgdaa
