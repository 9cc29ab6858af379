/-
  Layer 11: what is asked of lz's functions (a contract, over whatever the packages' own variables may be).
-/
import Derived.Test.YtjapohddfelgkaaLzC0
set_option maxRecDepth 100000
namespace Go.Proofs.Ytjapohddfelgkaa
open Go.RowKit Go.Gar

structure LzOK (G : World → Prop) : Prop where
  keep : ∀ {w w' : World}, G w → Below w.heap.size w w' → G w'
  tokens : ∀ (w : World) (A : Option Addr) (b : List UInt8) (c : Nat), G w → Rd w w.heap.size A b → b.length ≤ c → b.length ≤ 100000 →
    Calls Try.prog 13 #[.slice A b.length c] w fun e w' => ∃ A' c' ts, e = .returned (.slice A' ts.length c') ∧ ts.length ≤ c' ∧ RdT w' w'.heap.size A' ts ∧ ts.map Tv.tok = Lz.tokens b ∧ Below w.heap.size w w'
  expand : ∀ (w : World) (A : Option Addr) (ts : List Tv) (c : Nat) (most : Int), G w → RdT w w.heap.size A ts → ts.length ≤ c → ts.length ≤ 100000 → isI64 most → (∀ t ∈ ts, isI64 t.n ∧ isI64 t.d) →
    Calls Try.prog 30 #[.slice A ts.length c, .int .i64 most] w fun e w' => ∃ A' c', e = .returned (.tuple #[.slice A' (Lz.expand (ts.map Tv.tok) most).2.length c', .int .i64 (((Lz.expand (ts.map Tv.tok) most).1 : Nat) : Int)]) ∧ (Lz.expand (ts.map Tv.tok) most).2.length ≤ c' ∧ Rd w' w'.heap.size A' (Lz.expand (ts.map Tv.tok) most).2 ∧ Below w.heap.size w w'
  good : ∀ (w : World) (t : Tv), G w → isI64 t.n → isI64 t.d → Calls Try.prog 21 #[.agg t.cells.toArray] w fun e w' => e = .returned (.bool (Lz.good t.tok)) ∧ Below w.heap.size w w'
section
variable {G : World → Prop}
theorem lzT_at (hOK : LzOK G) (w : World) (A : Option Addr) (b : List UInt8) (n c : Nat) (T : List Lz.Tok) (hG : G w) (hn : n = b.length) (hT : T = Lz.tokens b) (r : Rd w w.heap.size A b) (hc : n ≤ c) (hl : n ≤ 100000) :
    Calls Try.prog 13 #[.slice A n c] w fun e w' => ∃ A' m c' ts, e = .returned (.slice A' m c') ∧ m = ts.length ∧ m ≤ c' ∧ RdT w' w'.heap.size A' ts ∧ ts.map Tv.tok = T ∧ Below w.heap.size w w' := by
  subst hn; subst hT
  refine (hOK.tokens w A b c hG r hc hl).mono ?_
  rintro e w' ⟨A', c', ts, rfl, h1, h2, h3, h4⟩
  exact ⟨A', ts.length, c', ts, rfl, rfl, h1, h2, h3, h4⟩
theorem lzE_at (hOK : LzOK G) (w : World) (A : Option Addr) (ts : List Tv) (n c : Nat) (most : Int) (E : Int) (O : List UInt8) (m : Nat) (hG : G w) (hn : n = ts.length) (r : RdT w w.heap.size A ts) (hc : n ≤ c) (hl : n ≤ 100000) (hm : isI64 most) (hi : ∀ t ∈ ts, isI64 t.n ∧ isI64 t.d) (hE : E = (((Lz.expand (ts.map Tv.tok) most).1 : Nat) : Int)) (hO : O = (Lz.expand (ts.map Tv.tok) most).2) (hmm : m = O.length) :
    Calls Try.prog 30 #[.slice A n c, .int .i64 most] w fun e w' => ∃ A' c', e = .returned (.tuple #[.slice A' m c', .int .i64 E]) ∧ m ≤ c' ∧ Rd w' w'.heap.size A' O ∧ Below w.heap.size w w' := by
  subst hn; subst hE; subst hmm; subst hO
  exact hOK.expand w A ts c most hG r hc hl hm hi
theorem lzG_at (hOK : LzOK G) (w : World) (t : Tv) (z : Bool) (hz : z = Lz.good t.tok) (hG : G w) (h1 : isI64 t.n) (h2 : isI64 t.d) : Calls Try.prog 21 #[.agg t.cells.toArray] w fun e w' => e = .returned (.bool z) ∧ Below w.heap.size w w' := by
  subst hz
  exact hOK.good w t hG h1 h2
end
theorem tokens_i64 {ts : List Tv} {b : List UInt8} (h : ts.map Tv.tok = Lz.tokens b) : ∀ t ∈ ts, isI64 t.n ∧ isI64 t.d := fun t ht =>
  good_i64 ((Lz.tokens_inv b).gd _ (by rw [← h]; exact List.mem_map_of_mem ht))
end Go.Proofs.Ytjapohddfelgkaa
