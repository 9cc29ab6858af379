/-
  Layer 8: what is asked of wrap's functions (a contract, over whatever the package's own variables may be).
-/
import Derived.Test.YtbcagjndbfpecaaDoorAesOKc
import Derived.Test.YtbcagjndbfpecaaDoorWrapM
namespace Go.Proofs.YtbcagjndbfpecaaDoor
open Go.ChangeShapes Go.WideShapes Go.ChangeAt Go.RowKit Go.Gar Go.Gar.Aes

/-- A slice that reads as the bytes l. -/
def Out (w : World) (v : Value) (l : List UInt8) : Prop := ∃ A c, v = .slice A l.length c ∧ l.length ≤ c ∧ Rd w w.heap.size A l
theorem Out.below {w w' : World} {v : Value} {l : List UInt8} (h : Out w v l) (hb : Below w.heap.size w w') : Out w' v l := by
  obtain ⟨A, c, h1, h2, h3⟩ := h
  exact ⟨A, c, h1, h2, (h3.below hb).more hb.size⟩
theorem Out.nil (w : World) : Out w (.slice none 0 0) [] := ⟨none, 0, rfl, Nat.le_refl _, Rd.nil⟩
/-- So many bytes can be wrapped. -/
def fits (n : Nat) : Prop := n % 8 = 0 ∧ 16 ≤ n ∧ n ≤ 256
instance (n : Nat) : Decidable (fits n) := inferInstanceAs (Decidable (_ ∧ _ ∧ _))
instance (n : Nat) : Decidable (sizeOk n) := inferInstanceAs (Decidable (_ ∨ _ ∨ _))
/-- What Wrap and Unwrap answer: bytes, and an error's number. -/
def wrapB (key b : List UInt8) : List UInt8 := if sizeOk key.length ∧ fits b.length then Wrp.wrap_ key b else []
def wrapE (key b : List UInt8) : Nat := if sizeOk key.length ∧ fits b.length then 0 else 1
def unwrapB (key b : List UInt8) : List UInt8 := if sizeOk key.length ∧ 8 ≤ b.length ∧ fits (b.length - 8) then (Wrp.unwrap_ key b).getD [] else []
def unwrapE (key b : List UInt8) : Nat := if sizeOk key.length ∧ 8 ≤ b.length ∧ fits (b.length - 8) then (if (Wrp.unwrap_ key b).isSome then 0 else 8) else 1
structure WrapOK (G : World → Prop) : Prop where
  keep : ∀ {w w' : World}, G w → Below w.heap.size w w' → G w'
  wrap_ : ∀ (w : World) (K A : Option Addr) (key b : List UInt8) (kc bc : Nat), G w → Rd w w.heap.size K key → Rd w w.heap.size A b → key.length ≤ kc → b.length ≤ bc → b.length ≤ 1048576 →
    Calls Tryd.prog 6 #[.slice K key.length kc, .slice A b.length bc] w fun e w' => ∃ v, e = .returned (.tuple #[v, .int .i64 ((wrapE key b : Nat) : Int)]) ∧ Out w' v (wrapB key b) ∧ Below w.heap.size w w'
  unwrap_ : ∀ (w : World) (K A : Option Addr) (key b : List UInt8) (kc bc : Nat), G w → Rd w w.heap.size K key → Rd w w.heap.size A b → key.length ≤ kc → b.length ≤ bc → b.length ≤ 1048576 →
    Calls Tryd.prog 10 #[.slice K key.length kc, .slice A b.length bc] w fun e w' => ∃ v, e = .returned (.tuple #[v, .int .i64 ((unwrapE key b : Nat) : Int)]) ∧ Out w' v (unwrapB key b) ∧ Below w.heap.size w w'
end Go.Proofs.YtbcagjndbfpecaaDoor
