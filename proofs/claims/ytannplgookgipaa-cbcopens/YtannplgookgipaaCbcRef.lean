/-
  The reference of layer 7: Seal and Open for any key.
-/
import Derived.Test.YtannplgookgipaaCbcRefO
namespace Go.Proofs.Ytannplgookgipaa
open Go.ChangeShapes Go.WideShapes Go.ChangeAt Go.RowKit Go.Gar Go.Gar.Aes

theorem Out.nil (w : World) : Out w (.slice none 0 0) [] := ⟨none, 0, rfl, Nat.le_refl _, Rd.nil⟩
theorem refSeal_any (w : World) (K V A : Option Addr) (key iv b : List UInt8) (kl kc vc bl bc : Nat) (hkl : kl = key.length) (hbl : bl = b.length) (hkc : kl ≤ kc) (hiv : iv.length = 16) (rK : Rd w w.heap.size K key) (rV : Rd w w.heap.size V iv) (rA : Rd w w.heap.size A b) (hb : b.length ≤ 1048576) :
    Calls Try.prog 9 #[.slice K kl kc, .slice V 16 vc, .slice A bl bc] w fun e w' => ∃ v, e = .returned (.tuple #[v, .int .i64 ((sealE key : Nat) : Int)]) ∧ Out w' v (sealB key iv b) ∧ Below w.heap.size w w' := by
  by_cases hs : sizeOk key.length
  · have e1 : sealE key = 0 := if_pos hs
    have e2 : sealB key iv b = Cbc.seal_ key iv b := if_pos hs
    rw [e1, e2]
    refine (refSeal_yes w K V A key iv b kl kc vc bl bc hs hkl hbl hkc hiv rK rV rA hb).mono fun e w' he => ?_
    obtain ⟨B, n, c, h1, rfl, h3, h4, h5⟩ := he
    exact ⟨_, h1, ⟨B, c, rfl, h3, h4⟩, h5⟩
  · have e1 : sealE key = 1 := if_neg hs
    have e2 : sealB key iv b = [] := if_neg hs
    rw [e1, e2]
    refine (refSeal_no w K V A kl kc 16 vc bl bc (by rw [hkl]; exact hs)).mono fun e w' he => ?_
    obtain ⟨h1, h2⟩ := he
    exact ⟨_, h1, Out.nil w', h2⟩
theorem refOpen_any (w : World) (K V A : Option Addr) (key iv b : List UInt8) (kl kc vc bl bc : Nat) (hkl : kl = key.length) (hbl : bl = b.length) (hkc : kl ≤ kc) (hbc : bl ≤ bc) (hiv : iv.length = 16) (rK : Rd w w.heap.size K key) (rV : Rd w w.heap.size V iv) (rA : Rd w w.heap.size A b) (hb : b.length ≤ 1048592) :
    Calls Try.prog 12 #[.slice K kl kc, .slice V 16 vc, .slice A bl bc] w fun e w' => ∃ v, e = .returned (.tuple #[v, .int .i64 ((openE key iv b : Nat) : Int)]) ∧ Out w' v (openB key iv b) ∧ Below w.heap.size w w' := by
  by_cases hs : sizeOk key.length
  · have e1 : openE key iv b = if (Cbc.open_ key iv b).isSome then 0 else 12 := if_pos hs
    have e2 : openB key iv b = (Cbc.open_ key iv b).getD [] := if_pos hs
    rw [e1, e2]
    by_cases hl : 16 ≤ b.length ∧ b.length % 16 = 0
    · have e3 : Cbc.open_ key iv b = Cbc.unpad (Cbc.opK key iv b (b.length / 16)) := if_pos hl
      rw [e3]
      obtain rfl : bl = 16 * (b.length / 16) := by omega
      exact refOpen_yes w K V A key iv b kl kc vc (b.length / 16) bc hs hkl (by omega) (by omega) (by omega) hkc hbc hiv rK rV rA
    · have e3 : Cbc.open_ key iv b = none := if_neg hl
      rw [e3]
      refine (refOpen_short w K V A key kl kc 16 vc bl bc hs hkl hkc rK (by rw [hbl]; exact hl)).mono fun e w' he => ?_
      obtain ⟨h1, h2⟩ := he
      exact ⟨_, h1, Out.nil w', h2⟩
  · have e1 : openE key iv b = 1 := if_neg hs
    have e2 : openB key iv b = [] := if_neg hs
    rw [e1, e2]
    refine (refOpen_no w K V A kl kc 16 vc bl bc (by rw [hkl]; exact hs)).mono fun e w' he => ?_
    obtain ⟨h1, h2⟩ := he
    exact ⟨_, h1, Out.nil w', h2⟩
end Go.Proofs.Ytannplgookgipaa
