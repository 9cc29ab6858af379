/-
  No cell of these rows narrows 'for every input' (looked for: loops, veiled, ifaces, maps, wideKeys, modest, calm, conditions, laid).
  DERIVED. THE GIVEN ROWS OF THIS SEAT. 3 by the template 'for every input the law returns true; each argument reads behind the call as it read before'; 0 by the template 'total and deterministic' (their statements: YtnphmppngjfjfaaTotals.lean).
  GIVEN WITH THE SEED: the statements are not yours to turn. If you find one false, say at which input.
  Laid BY PROGRAM, IN A SANDBOX (cutbox-rows.mjs): the forced cells as the released guide's own fill.sh prints them over the translation a3edf77c6d996c9f… (all of the seat's roots in one cut). By AI agents, Wed Nov 11 2026. No macro, syntax, notation, axiom, sorry.
-/
import Derived.Test.YtnphmppngjfjfaaChecked
import GoSem.Claim
import GoSem.ClaimJoined
import GoSem.ClaimMapViews
import Derived.JoinedTies
import Derived.KernelRfl
namespace Go.Proofs.Ytnphmppngjfjfaa
/- THE CELL 'sum', in the pinned program and in every row, IS THE sha256 OF THE DUMP (.gsa) THAT YtnphmppngjfjfaaProg.lean LOADS. Nothing in Lean hashes anything: it is a label: what it is worth is what the hold of that sum in a sandbox is worth. -/
noncomputable def Try.pinned : Pinned := { name := "ytnphmppngjfjfaa", sum := "a3edf77c6d996c9fe7dc2182099f0ee62ae26c958a183ec1e28b57c680d9bddc", checked := Try.checked }
namespace Rows
def none {H : Type} : Left H := { results := [], args := [] }

/-- 'garderobelaw12.TokenEncodes': WHATEVER THE INPUT: true; the input reads as it did. -/
def tokenEncodesSpec : ChangeSpec := { name := "tokenEncodes", fn := fun _ => fun
  | [d] => { results := [.lit (.bool true)], args := [d] }
  | _ => none }
def tokenEncodesRow : OpenClaim := { program := "ytnphmppngjfjfaa", sum := "a3edf77c6d996c9fe7dc2182099f0ee62ae26c958a183ec1e28b57c680d9bddc", func := "garderobe/garderobelaw12.TokenEncodes", spec := "tokenEncodes", apart := false }
def TokenEncodesSaid : Prop := tokenEncodesRow.holds Try.pinned (OpenSpec.ofChange tokenEncodesSpec)

/-- ITS FALSE NEIGHBOUR: 'it returns false'. Refute it at one input. -/
def tokenEncodesWrong : ChangeSpec := { name := "tokenEncodes", fn := fun _ => fun
  | [d] => { results := [.lit (.bool false)], args := [d] }
  | _ => none }
def TokenEncodesWrongFalsely : Prop := tokenEncodesRow.holds Try.pinned (OpenSpec.ofChange tokenEncodesWrong)

/-- 'garderobelaw12.TokenDecodes': WHATEVER THE INPUT: true; the input reads as it did. -/
def tokenDecodesSpec : ChangeSpec := { name := "tokenDecodes", fn := fun _ => fun
  | [d] => { results := [.lit (.bool true)], args := [d] }
  | _ => none }
def tokenDecodesRow : OpenClaim := { program := "ytnphmppngjfjfaa", sum := "a3edf77c6d996c9fe7dc2182099f0ee62ae26c958a183ec1e28b57c680d9bddc", func := "garderobe/garderobelaw12.TokenDecodes", spec := "tokenDecodes", apart := false }
def TokenDecodesSaid : Prop := tokenDecodesRow.holds Try.pinned (OpenSpec.ofChange tokenDecodesSpec)

/-- ITS FALSE NEIGHBOUR: 'it returns false'. Refute it at one input. -/
def tokenDecodesWrong : ChangeSpec := { name := "tokenDecodes", fn := fun _ => fun
  | [d] => { results := [.lit (.bool false)], args := [d] }
  | _ => none }
def TokenDecodesWrongFalsely : Prop := tokenDecodesRow.holds Try.pinned (OpenSpec.ofChange tokenDecodesWrong)

/-- 'garderobelaw12.TokenBack': WHATEVER THE INPUT: true; the input reads as it did. -/
def tokenBackSpec : ChangeSpec := { name := "tokenBack", fn := fun _ => fun
  | [d1, d2] => { results := [.lit (.bool true)], args := [d1, d2] }
  | _ => none }
def tokenBackRow : OpenClaim := { program := "ytnphmppngjfjfaa", sum := "a3edf77c6d996c9fe7dc2182099f0ee62ae26c958a183ec1e28b57c680d9bddc", func := "garderobe/garderobelaw12.TokenBack", spec := "tokenBack", apart := false }
def TokenBackSaid : Prop := tokenBackRow.holds Try.pinned (OpenSpec.ofChange tokenBackSpec)

/-- ITS FALSE NEIGHBOUR: 'it returns false'. Refute it at one input. -/
def tokenBackWrong : ChangeSpec := { name := "tokenBack", fn := fun _ => fun
  | [d1, d2] => { results := [.lit (.bool false)], args := [d1, d2] }
  | _ => none }
def TokenBackWrongFalsely : Prop := tokenBackRow.holds Try.pinned (OpenSpec.ofChange tokenBackWrong)

/- THE SECOND FORM. 'bulk': how many values and letters a reading holds, each counted each time it is reached (what is shared counts as often as it is met; a slice's spare places count too). A statement '..UptoSaid' is the law's where the arguments, and the package variables that the reading takes, are together of bulk at most 1048576: NARROWER than '..Said'. Prove '..Said' where nothing that the law and all that it calls make is longer than what came in: it says more and counts as full. Else prove '..UptoSaid'. A law counts once. -/
mutual
def uptoBulk {H : Type} : DataW H → Nat
  | .lit (.string bytes) => bytes.length + 1
  | .lit _ => 1
  | .nil => 1
  | .ptr d => uptoBulk d + 1
  | .slice elems spare => uptoBulkAll elems + uptoBulkAll spare + 1
  | .agg parts => uptoBulkAll parts + 1
  | .iface _ d => uptoBulk d + 1
  | .map entries => uptoBulkEntries entries + 1
  | .held _ => 1
def uptoBulkAll {H : Type} : List (DataW H) → Nat
  | [] => 0
  | d :: r => uptoBulk d + uptoBulkAll r
def uptoBulkEntries {H : Type} : List (Lit × DataW H) → Nat
  | [] => 0
  | x :: r => uptoBulkEntry x + uptoBulkEntries r
def uptoBulkEntry {H : Type} : Lit × DataW H → Nat
  | (.string bytes, d) => bytes.length + uptoBulk d + 1
  | (_, d) => uptoBulk d + 1
 end
def uptoSmall : (H : Type) → List (DataW H) → Bool := fun _ ds => decide (uptoBulkAll ds ≤ 1048576)
def OpenSpec.upto (s : _root_.Go.ChangeSpec) : _root_.Go.OpenSpec := { _root_.Go.OpenSpec.ofChange s with cond := some uptoSmall }

/-- 'garderobelaw12.TokenEncodes', WHERE WHAT IT READS IS OF BULK AT MOST 1048576: true; the input reads as it did. -/
def tokenEncodesUptoRow : OpenClaim := { program := "ytnphmppngjfjfaa", sum := "a3edf77c6d996c9fe7dc2182099f0ee62ae26c958a183ec1e28b57c680d9bddc", func := "garderobe/garderobelaw12.TokenEncodes", spec := "tokenEncodes", apart := false, narrowed := true }
def TokenEncodesUptoSaid : Prop := tokenEncodesUptoRow.holds Try.pinned (OpenSpec.upto tokenEncodesSpec)

/-- 'garderobelaw12.TokenDecodes', WHERE WHAT IT READS IS OF BULK AT MOST 1048576: true; the input reads as it did. -/
def tokenDecodesUptoRow : OpenClaim := { program := "ytnphmppngjfjfaa", sum := "a3edf77c6d996c9fe7dc2182099f0ee62ae26c958a183ec1e28b57c680d9bddc", func := "garderobe/garderobelaw12.TokenDecodes", spec := "tokenDecodes", apart := false, narrowed := true }
def TokenDecodesUptoSaid : Prop := tokenDecodesUptoRow.holds Try.pinned (OpenSpec.upto tokenDecodesSpec)

/-- 'garderobelaw12.TokenBack', WHERE WHAT IT READS IS OF BULK AT MOST 1048576: true; the input reads as it did. -/
def tokenBackUptoRow : OpenClaim := { program := "ytnphmppngjfjfaa", sum := "a3edf77c6d996c9fe7dc2182099f0ee62ae26c958a183ec1e28b57c680d9bddc", func := "garderobe/garderobelaw12.TokenBack", spec := "tokenBack", apart := false, narrowed := true }
def TokenBackUptoSaid : Prop := tokenBackUptoRow.holds Try.pinned (OpenSpec.upto tokenBackSpec)

end Rows
end Go.Proofs.Ytnphmppngjfjfaa
