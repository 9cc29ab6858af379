/-
  DERIVED. GIVEN WITH THE SEED: THE CARDS: each row of YtjhkodmaalefiaaDoorRows.lean that lists a variable, with what it lists TIED to the program's text (the seventh form; the later family's looks); each row that meets fmt, with fmt's text TOLD by the authors' own Lean function (tested against real Go, not proved from fmt's source: count such statements apart). THE CARD IS WHAT COUNTS. Prove the row's statement (the work); the ties are given (YtjhkodmaalefiaaDoorTie.lean); close each card by the builder's one call (the guide's Derived/Test/ToyasCard.lean, 'card_holds'). Laid BY PROGRAM, IN A SANDBOX (cutbox-door.mjs). By AI agents, Wed Nov 11 2026. No macro, syntax, notation, axiom, sorry.
-/
import Derived.Test.YtjhkodmaalefiaaDoorRows
import GoSem.ClaimSeven
namespace Go.Proofs.YtjhkodmaalefiaaDoor
namespace Rows

/-- THE TIED CARD OF 'garderobelaw10.SealSeals'. -/
def sealSealsCard : Claim7 := { stood := { row := sealSealsRow, standIns := [], harness := (true, "a01d64f02b4a6b4c75a1fb87781c6d9fcd82fbfd6d82eccc1d8773d6605e80a9"), looks := false }, kinds := [], alts := [], laidByText := true, laidKinds := [.data], laidTests := true, laidLooks := .later }
def SealSealsCardSaid : Prop := Claim7.holds Tryd.pinned (.plain (OpenSpec.ofChange sealSealsSpec)) sealSealsCard

/-- THE TIED CARD OF 'garderobelaw10.SealOpens'. -/
def sealOpensCard : Claim7 := { stood := { row := sealOpensRow, standIns := [], harness := (true, "a01d64f02b4a6b4c75a1fb87781c6d9fcd82fbfd6d82eccc1d8773d6605e80a9"), looks := false }, kinds := [], alts := [], laidByText := true, laidKinds := [.data], laidTests := true, laidLooks := .later }
def SealOpensCardSaid : Prop := Claim7.holds Tryd.pinned (.plain (OpenSpec.ofChange sealOpensSpec)) sealOpensCard

/-- THE TIED CARD OF 'garderobelaw10.SealBack'. -/
def sealBackCard : Claim7 := { stood := { row := sealBackRow, standIns := [], harness := (true, "a01d64f02b4a6b4c75a1fb87781c6d9fcd82fbfd6d82eccc1d8773d6605e80a9"), looks := false }, kinds := [], alts := [], laidByText := true, laidKinds := [.data], laidTests := true, laidLooks := .later }
def SealBackCardSaid : Prop := Claim7.holds Tryd.pinned (.plain (OpenSpec.ofChange sealBackSpec)) sealBackCard

/-- THE TIED CARD OF 'garderobelaw10.SealSpoilt'. -/
def sealSpoiltCard : Claim7 := { stood := { row := sealSpoiltRow, standIns := [], harness := (true, "a01d64f02b4a6b4c75a1fb87781c6d9fcd82fbfd6d82eccc1d8773d6605e80a9"), looks := false }, kinds := [], alts := [], laidByText := true, laidKinds := [.data], laidTests := true, laidLooks := .later }
def SealSpoiltCardSaid : Prop := Claim7.holds Tryd.pinned (.plain (OpenSpec.ofChange sealSpoiltSpec)) sealSpoiltCard

/-- THE SECOND FORM's CARD OF 'garderobelaw10.SealSeals'. -/
def sealSealsUptoCard : Claim7 := { stood := { row := sealSealsUptoRow, standIns := [], harness := (true, "a01d64f02b4a6b4c75a1fb87781c6d9fcd82fbfd6d82eccc1d8773d6605e80a9"), looks := false }, kinds := [], alts := [], laidByText := true, laidKinds := [.data], laidTests := true, laidLooks := .later }
def SealSealsUptoCardSaid : Prop := Claim7.holds Tryd.pinned (.plain (OpenSpec.upto sealSealsSpec)) sealSealsUptoCard

/-- THE SECOND FORM's CARD OF 'garderobelaw10.SealOpens'. -/
def sealOpensUptoCard : Claim7 := { stood := { row := sealOpensUptoRow, standIns := [], harness := (true, "a01d64f02b4a6b4c75a1fb87781c6d9fcd82fbfd6d82eccc1d8773d6605e80a9"), looks := false }, kinds := [], alts := [], laidByText := true, laidKinds := [.data], laidTests := true, laidLooks := .later }
def SealOpensUptoCardSaid : Prop := Claim7.holds Tryd.pinned (.plain (OpenSpec.upto sealOpensSpec)) sealOpensUptoCard

/-- THE SECOND FORM's CARD OF 'garderobelaw10.SealBack'. -/
def sealBackUptoCard : Claim7 := { stood := { row := sealBackUptoRow, standIns := [], harness := (true, "a01d64f02b4a6b4c75a1fb87781c6d9fcd82fbfd6d82eccc1d8773d6605e80a9"), looks := false }, kinds := [], alts := [], laidByText := true, laidKinds := [.data], laidTests := true, laidLooks := .later }
def SealBackUptoCardSaid : Prop := Claim7.holds Tryd.pinned (.plain (OpenSpec.upto sealBackSpec)) sealBackUptoCard

/-- THE SECOND FORM's CARD OF 'garderobelaw10.SealSpoilt'. -/
def sealSpoiltUptoCard : Claim7 := { stood := { row := sealSpoiltUptoRow, standIns := [], harness := (true, "a01d64f02b4a6b4c75a1fb87781c6d9fcd82fbfd6d82eccc1d8773d6605e80a9"), looks := false }, kinds := [], alts := [], laidByText := true, laidKinds := [.data], laidTests := true, laidLooks := .later }
def SealSpoiltUptoCardSaid : Prop := Claim7.holds Tryd.pinned (.plain (OpenSpec.upto sealSpoiltSpec)) sealSpoiltUptoCard
end Rows
end Go.Proofs.YtjhkodmaalefiaaDoor
