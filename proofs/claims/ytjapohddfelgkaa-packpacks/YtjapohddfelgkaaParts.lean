/-
  Parts of a variadic call: slices of bytes in a row; rows of constants. Of no program.
-/
import Derived.Test.YtjapohddfelgkaaBase
import Derived.Lib.SmallJoins
set_option maxRecDepth 100000
namespace Go.Proofs.Ytjapohddfelgkaa
open Go.RowKit Go.Gar

/-- A part: where its slice lies, what it reads as, its capacity. -/
def partV (p : Option Addr × List UInt8 × Nat) : Value := .slice p.1 p.2.1.length p.2.2
def cat (ps : List (Option Addr × List UInt8 × Nat)) : List UInt8 := ps.flatMap (·.2.1)

theorem rd_const (w : World) (l : List UInt8) (t : TypeId) (fr : Nat × Nat) (C : Array Value) (g B : Nat) (hC : C = (u8s l).toArray) (hg : g = w.heap.size) (hB : w.heap.size < B) : Rd (w.alloc (.cells C t fr)) B (some ⟨g, 0, none⟩) l := by
  subst hC; subst hg
  refine .inr ⟨w.heap.size, 0, rfl, hB, fun i c hi => ?_⟩
  rw [Joins.cell_alloc_mark_at w _ t fr _ _ rfl, Nat.zero_add]
  rw [List.getElem?_toArray, u8s_get, hi]; rfl

end Go.Proofs.Ytjapohddfelgkaa
