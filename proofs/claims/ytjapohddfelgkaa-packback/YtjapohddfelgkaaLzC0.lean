/-
  Tokens that may be have numbers that an int holds. Of no program but api.Token.
-/
import Derived.Test.YtjapohddfelgkaaLzT
import Derived.Test.YtjapohddfelgkaaI64
set_option maxRecDepth 100000
namespace Go.Proofs.Ytjapohddfelgkaa
open Go.RowKit Go.Gar

/-- Tokens that may be have numbers that an int holds. -/
theorem good_i64 {t : Tv} (h : Lz.good t.tok = true) : isI64 t.n ∧ isI64 t.d := by
  have := Lz.good_len h
  unfold isI64
  have h1 : t.tok.len = t.n := rfl
  have h2 : t.tok.dist = t.d := rfl
  rw [h1, h2] at this
  omega
end Go.Proofs.Ytjapohddfelgkaa
