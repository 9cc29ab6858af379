/-
  DERIVED. GIVEN WITH THE SEED: THE CARDS: each row of YtpaagjhohfjopaaDoorRows.lean that lists a variable, with what it lists TIED to the program's text (the seventh form; the later family's looks); each row that meets fmt, with fmt's text TOLD by the authors' own Lean function (tested against real Go, not proved from fmt's source: count such statements apart). THE CARD IS WHAT COUNTS. Prove the row's statement (the work); the ties are given (YtpaagjhohfjopaaDoorTie.lean); close each card by the builder's one call (the guide's Derived/Test/ToyasCard.lean, 'card_holds'). Laid BY PROGRAM, IN A SANDBOX (cutbox-door.mjs). By AI agents, Wed Nov 11 2026. No macro, syntax, notation, axiom, sorry.
-/
import Derived.Test.YtpaagjhohfjopaaDoorRows
import GoSem.ClaimSeven
namespace Go.Proofs.YtpaagjhohfjopaaDoor
namespace Rows

/-- THE TIED CARD OF 'garderobelaw09.DrawKeys'. -/
def drawKeysCard : Claim7 := { stood := { row := drawKeysRow, standIns := [], harness := (true, "8559012923ef304fd67dc8a4eb981330515906d42078f6b943d3d9ae08d09ae1"), looks := false }, kinds := [], alts := [], laidByText := true, laidKinds := [.data], laidTests := true, laidLooks := .later }
def DrawKeysCardSaid : Prop := Claim7.holds Tryd.pinned (.plain (OpenSpec.ofChange drawKeysSpec)) drawKeysCard

/-- THE TIED CARD OF 'garderobelaw09.DrawBack'. -/
def drawBackCard : Claim7 := { stood := { row := drawBackRow, standIns := [], harness := (true, "8559012923ef304fd67dc8a4eb981330515906d42078f6b943d3d9ae08d09ae1"), looks := false }, kinds := [], alts := [], laidByText := true, laidKinds := [.data], laidTests := true, laidLooks := .later }
def DrawBackCardSaid : Prop := Claim7.holds Tryd.pinned (.plain (OpenSpec.ofChange drawBackSpec)) drawBackCard

/-- THE SECOND FORM's CARD OF 'garderobelaw09.DrawKeys'. -/
def drawKeysUptoCard : Claim7 := { stood := { row := drawKeysUptoRow, standIns := [], harness := (true, "8559012923ef304fd67dc8a4eb981330515906d42078f6b943d3d9ae08d09ae1"), looks := false }, kinds := [], alts := [], laidByText := true, laidKinds := [.data], laidTests := true, laidLooks := .later }
def DrawKeysUptoCardSaid : Prop := Claim7.holds Tryd.pinned (.plain (OpenSpec.upto drawKeysSpec)) drawKeysUptoCard

/-- THE SECOND FORM's CARD OF 'garderobelaw09.DrawBack'. -/
def drawBackUptoCard : Claim7 := { stood := { row := drawBackUptoRow, standIns := [], harness := (true, "8559012923ef304fd67dc8a4eb981330515906d42078f6b943d3d9ae08d09ae1"), looks := false }, kinds := [], alts := [], laidByText := true, laidKinds := [.data], laidTests := true, laidLooks := .later }
def DrawBackUptoCardSaid : Prop := Claim7.holds Tryd.pinned (.plain (OpenSpec.upto drawBackSpec)) drawBackUptoCard
end Rows
end Go.Proofs.YtpaagjhohfjopaaDoor
