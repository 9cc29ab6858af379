/-
  Two closed facts on the translated program that every row asks.
-/
import Derived.Test.YtjapohddfelgkaaRows
import Derived.ProofKit
set_option maxRecDepth 100000
namespace Go.Proofs.Ytjapohddfelgkaa
theorem own : ownKnob Try.prog.godebug = none := by kernel_rfl
theorem laid : laidOutB Try.prog = true := by kernel_rfl
end Go.Proofs.Ytjapohddfelgkaa
