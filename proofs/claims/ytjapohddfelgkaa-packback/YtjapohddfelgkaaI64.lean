/-
  The numbers of an int. Of no program.
-/
import Derived.IntWalk
set_option maxRecDepth 100000
namespace Go.Proofs.Ytjapohddfelgkaa
def isI64 (n : Int) : Prop := -9223372036854775808 ≤ n ∧ n ≤ 9223372036854775807
end Go.Proofs.Ytjapohddfelgkaa
