/-
  Two closed facts on the translated program that every row asks.
-/
import Derived.Test.YtcdihdfjgdpkmaaRows
import Derived.ProofKit
set_option maxRecDepth 100000
namespace Go.Proofs.Ytcdihdfjgdpkmaa
theorem own : ownKnob Try.prog.godebug = none := by kernel_rfl
theorem laid : laidOutB Try.prog = true := by kernel_rfl
end Go.Proofs.Ytcdihdfjgdpkmaa
