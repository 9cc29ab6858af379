/-
  A byte argument opened.
-/
import Derived.Test.YtampdfmakhdliaaDiskJ02
import Derived.Test.YtampdfmakhdliaaDiskJ04
set_option maxRecDepth 100000
namespace Go.Proofs.Ytampdfmakhdliaa
open Go.ChangeShapes Go.WideShapes Go.ChangeAt Go.RowKit Go.Gar

theorem open_u8 {H : Type} {enc : TypeId × Value → H} {W : World} {base : Nat} {v : Value} {d : DataW H} {p : List MemPlace}
    (hok : Value.okWide Try.prog W .any base 5 v) (h : DataW.Trod enc Try.prog W 0 (fun _ => true) true 5 v d p) : ∃ n : Nat, n < 256 ∧ v = .int .u8 (n : Int) := by
  obtain ⟨n, rfl, _, _, hw⟩ := open_int Try.underlying5 hok h
  have hb := bounds_u8 hw
  exact ⟨n.toNat, by omega, by congr 1; omega⟩
end Go.Proofs.Ytampdfmakhdliaa
