/-
  The reference's cipher: New, Encrypt, Decrypt: contracts by the key.
-/
import Derived.Test.YtbcagjndbfpecaaDoorAesEnc
import Derived.Test.YtbcagjndbfpecaaDoorAesDec
import Derived.Test.YtbcagjndbfpecaaDoorAesNew
import Derived.Test.YtbcagjndbfpecaaDoorAesOKc
namespace Go.Proofs.YtbcagjndbfpecaaDoor
open Go.ChangeShapes Go.WideShapes Go.ChangeAt Go.RowKit Go.Gar Go.Gar.Aes

/-- The reference's cipher of a key. -/
def RefOf (w : World) (gc : Nat) (key : List UInt8) : Prop := ∃ gt gb gw cp, RefC w gc gt gb gw cp (words key (key.length / 4) (4 * (key.length / 4) + 28))
theorem RefOf.below {w w' : World} {gc : Nat} {key : List UInt8} (h : RefOf w gc key) (hb : Below w.heap.size w w') : RefOf w' gc key := by
  obtain ⟨gt, gb, gw, cp, h⟩ := h
  exact ⟨gt, gb, gw, cp, h.below hb⟩
theorem refNew_at (w : World) (A : Option Addr) (key : List UInt8) (len cap : Nat) (hok : sizeOk key.length) (hlen : len = key.length) (hc : len ≤ cap) (hr : Rd w w.heap.size A key) :
    Calls Tryd.prog 16 #[.slice A len cap] w fun e w' => ∃ gc, e = .returned (.tuple #[.pointer (some ⟨gc, 0, none⟩), .bool true]) ∧ RefOf w' gc key ∧ Below w.heap.size w w' := by
  unfold sizeOk at hok
  have h4 : 4 * (key.length / 4) = key.length := by omega
  obtain rfl : len = 4 * (key.length / 4) := by omega
  refine (refNew_yes w A key (key.length / 4) cap (by omega) hc h4.symm hr).mono fun e w' he => ?_
  obtain ⟨gc, gt, gb, gw, cp, h1, h2, h3⟩ := he
  exact ⟨gc, h1, ⟨gt, gb, gw, cp, h2⟩, h3⟩
theorem refNew_any (w : World) (A : Option Addr) (key : List UInt8) (cap : Nat) (hc : key.length ≤ cap) (hr : Rd w w.heap.size A key) (may : Bool) (hm : may = true ↔ sizeOk key.length) :
    Calls Tryd.prog 16 #[.slice A key.length cap] w fun e w' => ∃ p, e = .returned (.tuple #[.pointer p, .bool may]) ∧ Below w.heap.size w w' := by
  cases may with
  | true =>
    refine (refNew_at w A key _ cap (hm.1 rfl) rfl hc hr).mono fun e w' he => ?_
    obtain ⟨gc, h1, _, h3⟩ := he
    exact ⟨_, h1, h3⟩
  | false =>
    refine (refNew_no w A key.length cap (fun hs => by cases hm.2 hs)).mono fun e w' he => ?_
    obtain ⟨h1, rfl⟩ := he
    exact ⟨_, h1, Below.refl _ _⟩
theorem refEnc_at (w : World) (gc : Nat) (key : List UInt8) (h : RefOf w gc key) (A : Option Addr) (l : List UInt8) (c : Nat) (hl : l.length = 16) (hr : Rd w w.heap.size A l) :
    Calls Tryd.prog 17 #[.pointer (some ⟨gc, 0, none⟩), .slice A 16 c] w fun e w' => ∃ B cp, e = .returned (.slice B 16 cp) ∧ Rd w' w'.heap.size B (encrypt key l) ∧ Below w.heap.size w w' := by
  obtain ⟨gt, gb, gw, cp, h⟩ := h
  refine (refEncrypt_any w gc gt gb gw cp _ h (roundsOf key) (by rw [words_len, roundsOf]; omega) (by rw [roundsOf]; omega) A l c hl hr).mono fun e w' he => ?_
  obtain ⟨g, cp', rest, h1, _, h3, h4⟩ := he
  exact ⟨_, _, h1, Rd.of_row h3, h4⟩
/-- The same, with the room of the slice that Encrypt answers. -/
theorem refEnc_room (w : World) (gc : Nat) (key : List UInt8) (h : RefOf w gc key) (A : Option Addr) (l : List UInt8) (c : Nat) (hl : l.length = 16) (hr : Rd w w.heap.size A l) :
    Calls Tryd.prog 17 #[.pointer (some ⟨gc, 0, none⟩), .slice A 16 c] w fun e w' => ∃ g cp rest, e = .returned (.slice (some ⟨g, 0, none⟩) 16 cp) ∧ 16 ≤ cp ∧ Blk w' g 5 (u8s (encrypt key l) ++ rest) ∧ Below w.heap.size w w' := by
  obtain ⟨gt, gb, gw, cp, h⟩ := h
  refine (refEncrypt_any2 w gc gt gb gw cp _ h (roundsOf key) (by rw [words_len, roundsOf]; omega) (by rw [roundsOf]; omega) A l c hl hr).mono fun e w' he => ?_
  obtain ⟨g, cp', rest, h1, _, h3, h4, h5⟩ := he
  exact ⟨_, _, _, h1, h5, h3, h4⟩
theorem refDec_at (w : World) (gc : Nat) (key : List UInt8) (h : RefOf w gc key) (A : Option Addr) (l : List UInt8) (c : Nat) (hl : l.length = 16) (hr : Rd w w.heap.size A l) :
    Calls Tryd.prog 19 #[.pointer (some ⟨gc, 0, none⟩), .slice A 16 c] w fun e w' => ∃ B cp, e = .returned (.slice B 16 cp) ∧ Rd w' w'.heap.size B (decrypt key l) ∧ Below w.heap.size w w' := by
  obtain ⟨gt, gb, gw, cp, h⟩ := h
  refine (refDecrypt_any w gc gt gb gw cp _ h (roundsOf key) (by rw [words_len, roundsOf]; omega) (by rw [roundsOf]; omega) A l c hl hr).mono fun e w' he => ?_
  obtain ⟨g, cp', rest, h1, _, h3, h4⟩ := he
  exact ⟨_, _, h1, Rd.of_row h3, h4⟩
/-- The same of Decrypt. -/
theorem refDec_room (w : World) (gc : Nat) (key : List UInt8) (h : RefOf w gc key) (A : Option Addr) (l : List UInt8) (c : Nat) (hl : l.length = 16) (hr : Rd w w.heap.size A l) :
    Calls Tryd.prog 19 #[.pointer (some ⟨gc, 0, none⟩), .slice A 16 c] w fun e w' => ∃ g cp rest, e = .returned (.slice (some ⟨g, 0, none⟩) 16 cp) ∧ 16 ≤ cp ∧ Blk w' g 5 (u8s (decrypt key l) ++ rest) ∧ Below w.heap.size w w' := by
  obtain ⟨gt, gb, gw, cp, h⟩ := h
  refine (refDecrypt_any2 w gc gt gb gw cp _ h (roundsOf key) (by rw [words_len, roundsOf]; omega) (by rw [roundsOf]; omega) A l c hl hr).mono fun e w' he => ?_
  obtain ⟨g, cp', rest, h1, _, h3, h4, h5⟩ := he
  exact ⟨_, _, _, h1, h5, h3, h4⟩

end Go.Proofs.YtbcagjndbfpecaaDoor
