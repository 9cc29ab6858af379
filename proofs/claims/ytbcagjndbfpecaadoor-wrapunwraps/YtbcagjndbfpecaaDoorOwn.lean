/-
  Two closed facts on the translated program that every row asks.
-/
import Derived.Test.YtbcagjndbfpecaaDoorRows
import Derived.ProofKit
namespace Go.Proofs.YtbcagjndbfpecaaDoor
theorem own : ownKnob Tryd.prog.godebug = none := by kernel_rfl
theorem laid : laidOutB Tryd.prog = true := by kernel_rfl
end Go.Proofs.YtbcagjndbfpecaaDoor
