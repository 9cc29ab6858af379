/-
  Two closed facts on the translated program that every row asks.
-/
import Derived.Test.YtpaagjhohfjopaaDoorRows
import Derived.ProofKit
set_option maxRecDepth 100000
namespace Go.Proofs.YtpaagjhohfjopaaDoor
theorem own : ownKnob Tryd.prog.godebug = none := by kernel_rfl
theorem laid : laidOutB Tryd.prog = true := by kernel_rfl
end Go.Proofs.YtpaagjhohfjopaaDoor
