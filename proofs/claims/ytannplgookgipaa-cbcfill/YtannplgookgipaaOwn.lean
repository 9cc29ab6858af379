/-
  Two closed facts on the translated program that every row asks.
-/
import Derived.Test.YtannplgookgipaaRows
import Derived.ProofKit
namespace Go.Proofs.Ytannplgookgipaa
theorem own : ownKnob Try.prog.godebug = none := by kernel_rfl
theorem laid : laidOutB Try.prog = true := by kernel_rfl
end Go.Proofs.Ytannplgookgipaa
