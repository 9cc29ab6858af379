/-
  DERIVED. GIVEN WITH THE SEED: THE CARDS: each row of YtdipflchmooakaaGreatDoorRows.lean that lists a variable, with what it lists TIED to the program's text (the seventh form; the later family's looks); each row that meets fmt, with fmt's text TOLD by the authors' own Lean function (tested against real Go, not proved from fmt's source: count such statements apart). THE CARD IS WHAT COUNTS. Prove the row's statement (the work); the ties are given (YtdipflchmooakaaGreatDoorTie.lean); close each card by the builder's one call (the guide's Derived/Test/ToyasCard.lean, 'card_holds'). Laid BY PROGRAM, IN A SANDBOX (cutbox-door.mjs). By AI agents, Wed Nov 11 2026. No macro, syntax, notation, axiom, sorry.
-/
import Derived.Test.YtdipflchmooakaaGreatDoorRows
import GoSem.ClaimSeven
namespace Go.Proofs.YtdipflchmooakaaGreatDoor
namespace Rows

/-- THE TIED CARD OF 'garderobetop.WholeBlock'. -/
def wholeBlockCard : Claim7 := { stood := { row := wholeBlockRow, standIns := [], harness := (true, "4efe7471a7ded632ade3d06346e2163792bb645ad1e73f5ccb15c61ed887b876"), looks := false }, kinds := [], alts := [], laidByText := true, laidKinds := [.data, .data], laidTests := true, laidLooks := .later }
def WholeBlockCardSaid : Prop := Claim7.holds Tryz.pinned (.plain (OpenSpec.ofChange wholeBlockSpec)) wholeBlockCard

/-- THE SECOND FORM's CARD OF 'garderobetop.WholeBlock'. -/
def wholeBlockUptoCard : Claim7 := { stood := { row := wholeBlockUptoRow, standIns := [], harness := (true, "4efe7471a7ded632ade3d06346e2163792bb645ad1e73f5ccb15c61ed887b876"), looks := false }, kinds := [], alts := [], laidByText := true, laidKinds := [.data, .data], laidTests := true, laidLooks := .later }
def WholeBlockUptoCardSaid : Prop := Claim7.holds Tryz.pinned (.plain (OpenSpec.upto wholeBlockSpec)) wholeBlockUptoCard
end Rows
end Go.Proofs.YtdipflchmooakaaGreatDoor
