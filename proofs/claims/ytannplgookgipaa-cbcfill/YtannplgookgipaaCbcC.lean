/-
  Layer 7: what is asked of cbc's functions (contracts).
-/
import Derived.Test.YtannplgookgipaaAesOKc
import Derived.Test.YtannplgookgipaaCbcM
namespace Go.Proofs.Ytannplgookgipaa
open Go.ChangeShapes Go.WideShapes Go.ChangeAt Go.RowKit Go.Gar Go.Gar.Aes

/-- A slice that reads as the bytes l. -/
def Out (w : World) (v : Value) (l : List UInt8) : Prop := ∃ A c, v = .slice A l.length c ∧ l.length ≤ c ∧ Rd w w.heap.size A l
theorem Out.below {w w' : World} {v : Value} {l : List UInt8} (h : Out w v l) (hb : Below w.heap.size w w') : Out w' v l := by
  obtain ⟨A, c, h1, h2, h3⟩ := h
  exact ⟨A, c, h1, h2, (h3.below hb).more hb.size⟩
/-- What Seal and Open answer: bytes, and an error's number. -/
def sealB (key iv b : List UInt8) : List UInt8 := if key.length = 16 ∨ key.length = 24 ∨ key.length = 32 then Cbc.seal_ key iv b else []
def sealE (key : List UInt8) : Nat := if key.length = 16 ∨ key.length = 24 ∨ key.length = 32 then 0 else 1
def openB (key iv c : List UInt8) : List UInt8 := if key.length = 16 ∨ key.length = 24 ∨ key.length = 32 then (Cbc.open_ key iv c).getD [] else []
def openE (key iv c : List UInt8) : Nat := if key.length = 16 ∨ key.length = 24 ∨ key.length = 32 then (if (Cbc.open_ key iv c).isSome then 0 else 12) else 1
structure CbcOK : Prop where
  seal_ : ∀ (w : World) (K A : Option Addr) (key iv b : List UInt8) (kc bc : Nat), Rd w w.heap.size K key → Rd w w.heap.size A b → iv.length = 16 → key.length ≤ kc → b.length ≤ bc → b.length ≤ 1048576 →
    Calls Try.prog 7 #[.slice K key.length kc, .agg (u8s iv).toArray, .slice A b.length bc] w fun e w' => ∃ v, e = .returned (.tuple #[v, .int .i64 ((sealE key : Nat) : Int)]) ∧ Out w' v (sealB key iv b) ∧ Below w.heap.size w w'
  open_ : ∀ (w : World) (K A : Option Addr) (key iv b : List UInt8) (kc bc : Nat), Rd w w.heap.size K key → Rd w w.heap.size A b → iv.length = 16 → key.length ≤ kc → b.length ≤ bc → b.length ≤ 1048576 →
    Calls Try.prog 11 #[.slice K key.length kc, .agg (u8s iv).toArray, .slice A b.length bc] w fun e w' => ∃ v, e = .returned (.tuple #[v, .int .i64 ((openE key iv b : Nat) : Int)]) ∧ Out w' v (openB key iv b) ∧ Below w.heap.size w w'
end Go.Proofs.Ytannplgookgipaa
