/-
  Layer 8: the fixed fact awake, and short, from the contracts of wrap's functions.
-/
import Derived.Test.YtbcagjndbfpecaaDoorWrapC
import Derived.Test.YtbcagjndbfpecaaDoorAesRef
import Derived.Test.YtbcagjndbfpecaaDoorArrEq
import Derived.Test.YtbcagjndbfpecaaDoorBase
import Derived.Deep.CutRange
import Derived.RegionTactic
import Derived.BigRegion
namespace Go.Proofs.YtbcagjndbfpecaaDoor
open Go.ChangeShapes Go.WideShapes Go.ChangeAt Go.RowKit Go.Gar Go.Gar.Aes

theorem short8_any (A : Option Addr) (len cap m : Nat) (w : World) (hm : m = min len 300) (hc : len ≤ cap) :
    Calls Tryd.prog 7 #[.slice A len cap] w fun e w' => e = .returned (.slice A m cap) ∧ w' = w := by
  by_cases h : len ≤ 300
  · obtain rfl : m = len := by omega
    clear hm
    go_enter Tryd.func7, Tryd.ntmps7
    go_wp2
    go_ret
    exact ⟨rfl, rfl⟩
  · obtain rfl : m = 300 := by omega
    clear hm
    go_enter Tryd.func7, Tryd.ntmps7
    go_wp2
    go_ret
    exact ⟨rfl, rfl⟩

section
variable {G : World → Prop}
theorem wrap_at (hOK : WrapOK G) (w : World) (K A : Option Addr) (key b : List UInt8) (kl kc bl bc : Nat) (E : Int) (O : List UInt8) (n : Nat) (hG : G w) (hkl : kl = key.length) (hbl : bl = b.length) (hE : E = ((wrapE key b : Nat) : Int)) (hO : O = wrapB key b) (hn : n = O.length)
    (rK : Rd w w.heap.size K key) (rA : Rd w w.heap.size A b) (hkc : kl ≤ kc) (hbc : bl ≤ bc) (hb : bl ≤ 1048576) :
    Calls Tryd.prog 6 #[.slice K kl kc, .slice A bl bc] w fun e w' => ∃ B c, e = .returned (.tuple #[.slice B n c, .int .i64 E]) ∧ n ≤ c ∧ Rd w' w'.heap.size B O ∧ Below w.heap.size w w' := by
  subst hkl; subst hbl; subst hE; subst hO; subst hn
  refine (hOK.wrap_ w K A key b kc bc hG rK rA hkc hbc hb).mono fun e w' he => ?_
  obtain ⟨v, h1, ⟨B, c, rfl, h2, h3⟩, h4⟩ := he
  exact ⟨B, c, h1, h2, h3, h4⟩
theorem unwrap_at (hOK : WrapOK G) (w : World) (K A : Option Addr) (key b : List UInt8) (kl kc bl bc : Nat) (E : Int) (O : List UInt8) (n : Nat) (hG : G w) (hkl : kl = key.length) (hbl : bl = b.length) (hE : E = ((unwrapE key b : Nat) : Int)) (hO : O = unwrapB key b) (hn : n = O.length)
    (rK : Rd w w.heap.size K key) (rA : Rd w w.heap.size A b) (hkc : kl ≤ kc) (hbc : bl ≤ bc) (hb : bl ≤ 1048576) :
    Calls Tryd.prog 10 #[.slice K kl kc, .slice A bl bc] w fun e w' => ∃ B c, e = .returned (.tuple #[.slice B n c, .int .i64 E]) ∧ n ≤ c ∧ Rd w' w'.heap.size B O ∧ Below w.heap.size w w' := by
  subst hkl; subst hbl; subst hE; subst hO; subst hn
  refine (hOK.unwrap_ w K A key b kc bc hG rK rA hkc hbc hb).mono fun e w' he => ?_
  obtain ⟨v, h1, ⟨B, c, rfl, h2, h3⟩, h4⟩ := he
  exact ⟨B, c, h1, h2, h3, h4⟩
end

def kk : List UInt8 := [0, 1, 2, 3, 4, 5, 6, 7, 8, 9, 10, 11, 12, 13, 14, 15]
def bk : List UInt8 := [0, 17, 34, 51, 68, 85, 102, 119, 136, 153, 170, 187, 204, 221, 238, 255]
theorem kk_get : ∀ i, i < 16 → kk[i]? = some (UInt8.ofNat i) := by decide
theorem bk_get : ∀ i, i < 16 → bk[i]? = some (UInt8.ofNat (17 * i)) := by decide
theorem wrap_awake : (Wrp.wrap_ kk bk)[0]? = some 31 ∧ (Wrp.wrap_ kk bk)[23]? = some 229 := by decide +kernel
end Go.Proofs.YtbcagjndbfpecaaDoor
