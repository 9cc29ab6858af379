/-
  Layer 12: what is asked of token's functions (a contract, over whatever the packages' own variables may be).
-/
import Derived.Test.YtjapohddfelgkaaLzC0
set_option maxRecDepth 100000
namespace Go.Proofs.Ytjapohddfelgkaa
open Go.RowKit Go.Gar

structure TokenOK (G : World → Prop) : Prop where
  keep : ∀ {w w' : World}, G w → Below w.heap.size w w' → G w'
  encode : ∀ (w : World) (A : Option Addr) (ts : List Tv) (c : Nat), G w → RdT w w.heap.size A ts → ts.length ≤ c → ts.length ≤ 100000 → (∀ t ∈ ts, isI64 t.n ∧ isI64 t.d) →
    Calls Try.prog 12 #[.slice A ts.length c] w fun e w' => ∃ A' c', e = .returned (.tuple #[.slice A' (Lz.encode (ts.map Tv.tok)).2.length c', .int .i64 (((Lz.encode (ts.map Tv.tok)).1 : Nat) : Int)]) ∧ (Lz.encode (ts.map Tv.tok)).2.length ≤ c' ∧ Rd w' w'.heap.size A' (Lz.encode (ts.map Tv.tok)).2 ∧ Below w.heap.size w w'
  decode : ∀ (w : World) (A : Option Addr) (b : List UInt8) (c : Nat), G w → Rd w w.heap.size A b → b.length ≤ c → b.length ≤ 100000 →
    Calls Try.prog 29 #[.slice A b.length c] w fun e w' => ∃ A' c' ts, e = .returned (.tuple #[.slice A' ts.length c', .int .i64 (((Lz.decode b).1 : Nat) : Int)]) ∧ ts.length ≤ c' ∧ RdT w' w'.heap.size A' ts ∧ ts.map Tv.tok = (Lz.decode b).2 ∧ Below w.heap.size w w'
section
variable {G : World → Prop}
theorem tokE_at (hOK : TokenOK G) (w : World) (A : Option Addr) (ts : List Tv) (n c : Nat) (E : Int) (O : List UInt8) (m : Nat) (hG : G w) (hn : n = ts.length) (r : RdT w w.heap.size A ts) (hc : n ≤ c) (hl : n ≤ 100000) (hi : ∀ t ∈ ts, isI64 t.n ∧ isI64 t.d) (hE : E = (((Lz.encode (ts.map Tv.tok)).1 : Nat) : Int)) (hO : O = (Lz.encode (ts.map Tv.tok)).2) (hmm : m = O.length) :
    Calls Try.prog 12 #[.slice A n c] w fun e w' => ∃ A' c', e = .returned (.tuple #[.slice A' m c', .int .i64 E]) ∧ m ≤ c' ∧ Rd w' w'.heap.size A' O ∧ Below w.heap.size w w' := by
  subst hn; subst hE; subst hmm; subst hO
  exact hOK.encode w A ts c hG r hc hl hi
theorem tokD_at (hOK : TokenOK G) (w : World) (A : Option Addr) (b : List UInt8) (n c : Nat) (E : Int) (T : List Lz.Tok) (hG : G w) (hn : n = b.length) (r : Rd w w.heap.size A b) (hc : n ≤ c) (hl : n ≤ 100000) (hE : E = (((Lz.decode b).1 : Nat) : Int)) (hT : T = (Lz.decode b).2) :
    Calls Try.prog 29 #[.slice A n c] w fun e w' => ∃ A' m c' ts, e = .returned (.tuple #[.slice A' m c', .int .i64 E]) ∧ m = ts.length ∧ m ≤ c' ∧ RdT w' w'.heap.size A' ts ∧ ts.map Tv.tok = T ∧ Below w.heap.size w w' := by
  subst hn; subst hE; subst hT
  refine (hOK.decode w A b c hG r hc hl).mono ?_
  rintro e w' ⟨A', c', ts, rfl, h1, h2, h3, h4⟩
  exact ⟨A', ts.length, c', ts, rfl, rfl, h1, h2, h3, h4⟩
end
theorem goods_i64 {ts : List Tv} (h : ∀ t ∈ ts.map Tv.tok, Lz.good t = true) : ∀ t ∈ ts, isI64 t.n ∧ isI64 t.d := fun _ ht => good_i64 (h _ (List.mem_map_of_mem ht))
end Go.Proofs.Ytjapohddfelgkaa
