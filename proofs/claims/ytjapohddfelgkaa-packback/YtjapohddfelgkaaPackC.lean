/-
  Layer 13: what is asked of pack's functions (a contract, over whatever the packages' own variables may be).
-/
import Derived.Test.YtjapohddfelgkaaTokC
set_option maxRecDepth 100000
namespace Go.Proofs.Ytjapohddfelgkaa
open Go.RowKit Go.Gar

structure PackOK (G : World → Prop) : Prop where
  keep : ∀ {w w' : World}, G w → Below w.heap.size w w' → G w'
  pack : ∀ (w : World) (A : Option Addr) (b : List UInt8) (c : Nat), G w → Rd w w.heap.size A b → b.length ≤ c → b.length ≤ 100000 →
    Calls Try.prog 6 #[.slice A b.length c] w fun e w' => ∃ A' c', e = .returned (.tuple #[.slice A' (Lz.packB b).2.length c', .int .i64 (((Lz.packB b).1 : Nat) : Int)]) ∧ (Lz.packB b).2.length ≤ c' ∧ Rd w' w'.heap.size A' (Lz.packB b).2 ∧ Below w.heap.size w w'
  unpack : ∀ (w : World) (A : Option Addr) (p : List UInt8) (c : Nat), G w → Rd w w.heap.size A p → p.length ≤ c → p.length ≤ 100000 →
    Calls Try.prog 10 #[.slice A p.length c] w fun e w' => ∃ A' c', e = .returned (.tuple #[.slice A' (Lz.unpackB p).2.length c', .int .i64 (((Lz.unpackB p).1 : Nat) : Int)]) ∧ (Lz.unpackB p).2.length ≤ c' ∧ Rd w' w'.heap.size A' (Lz.unpackB p).2 ∧ Below w.heap.size w w'
section
variable {G : World → Prop}
theorem pack_at (hOK : PackOK G) (w : World) (A : Option Addr) (b : List UInt8) (n c : Nat) (E : Nat) (O : List UInt8) (m : Nat) (hG : G w) (hn : n = b.length) (r : Rd w w.heap.size A b) (hc : n ≤ c) (hl : n ≤ 100000) (hE : Lz.packB b = (E, O)) (hmm : m = O.length) :
    Calls Try.prog 6 #[.slice A n c] w fun e w' => ∃ A' c', e = .returned (.tuple #[.slice A' m c', .int .i64 (E : Int)]) ∧ m ≤ c' ∧ Rd w' w'.heap.size A' O ∧ Below w.heap.size w w' := by
  have h := hOK.pack w A b c hG r (by omega) (by omega)
  rw [hE] at h
  subst hn; subst hmm
  exact h
theorem unpack_at (hOK : PackOK G) (w : World) (A : Option Addr) (p : List UInt8) (n c : Nat) (E : Nat) (O : List UInt8) (m : Nat) (hG : G w) (hn : n = p.length) (r : Rd w w.heap.size A p) (hc : n ≤ c) (hl : n ≤ 100000) (hE : Lz.unpackB p = (E, O)) (hmm : m = O.length) :
    Calls Try.prog 10 #[.slice A n c] w fun e w' => ∃ A' c', e = .returned (.tuple #[.slice A' m c', .int .i64 (E : Int)]) ∧ m ≤ c' ∧ Rd w' w'.heap.size A' O ∧ Below w.heap.size w w' := by
  have h := hOK.unpack w A p c hG r (by omega) (by omega)
  rw [hE] at h
  subst hn; subst hmm
  exact h
end
end Go.Proofs.Ytjapohddfelgkaa
