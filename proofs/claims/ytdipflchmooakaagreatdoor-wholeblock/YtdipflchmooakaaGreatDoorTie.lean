/-
  DERIVED. GIVEN WITH THE SEED: THE PROGRAM's TIES (one call each: nine closed facts by the kernel) AND EACH ROW's TIE, after the 31st guide's Derived/Test/Toyas{Tie, Card}.lean. No idea stands in it: it is a product of the set-up. Laid BY PROGRAM, IN A SANDBOX (cutbox-door.mjs). By AI agents, Wed Nov 11 2026. No macro, syntax, notation, axiom, sorry.
-/
import Derived.Test.YtdipflchmooakaaGreatDoorRows
import Derived.LaidByTextLater
import Derived.SevenTiedAt
import Derived.LaidSub
import Derived.LaidOnce
namespace Go.Proofs.YtdipflchmooakaaGreatDoor
open Go
set_option maxRecDepth 100000
theorem seatTie1 : Tryz.prog.laidByTextLater [("garderobe/sha.cubeRoots", Rows.laid_garderobe_sha_cubeRoots), ("garderobe/wrap.ahead", Rows.laid_garderobe_wrap_ahead)] [.data, .data] true :=
  Program.laidByTextLater_by_one 19 8 65 (by kernel_rfl) (by kernel_rfl) (by kernel_rfl) (by kernel_rfl) (by kernel_rfl) (by kernel_rfl) (fun _ _ => by kernel_rfl)
theorem noOwnUnsafe : Tryz.pinned.checked.prog.headLifts.contains "ownunsafe" = false := by kernel_rfl
theorem tie : Tryz.prog.laidByTextLater [("garderobe/sha.cubeRoots", Rows.laid_garderobe_sha_cubeRoots), ("garderobe/wrap.ahead", Rows.laid_garderobe_wrap_ahead)] [.data, .data] true :=
  Program.laidByTextLater.sub seatTie1 ["garderobe/sha.cubeRoots", "garderobe/wrap.ahead"] (by kernel_rfl) (by kernel_rfl)
theorem wholeBlock_row_tie : Rows.wholeBlockRow.laidByTextAt .later Tryz.pinned [.data, .data] true :=
  OpenClaim.laidByTextAt_later rfl rfl tie noOwnUnsafe
theorem wholeBlockUpto_row_tie : Rows.wholeBlockUptoRow.laidByTextAt .later Tryz.pinned [.data, .data] true :=
  OpenClaim.laidByTextAt_later rfl rfl tie noOwnUnsafe
end Go.Proofs.YtdipflchmooakaaGreatDoor
