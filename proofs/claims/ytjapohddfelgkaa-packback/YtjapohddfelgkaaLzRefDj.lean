/-
  The reference of layer 11: Same: its contract.
-/
import Derived.Test.YtjapohddfelgkaaPackJ05
import Derived.IntWalk
import Derived.Lib.Strings
set_option maxRecDepth 100000
namespace Go.Proofs.Ytjapohddfelgkaa
open Go.RowKit Go.Gar

theorem rdT_later {W : World} {A : Option Addr} {ts : List Tv} (h : RdT W W.heap.size A ts) {i : Nat} {t : Tv} (ht : ts[i]? = some t) : ∃ b o, A = some ⟨b, o, none⟩ ∧ (∀ x : Later grows W, x.to.cell? ⟨b, o + i * 3, none⟩ = some (.slice t.A t.l.length t.c)) ∧ (∀ x : Later grows W, x.to.cell? ⟨b, o + i * 3 + 1, none⟩ = some (.int .i64 t.n)) ∧ (∀ x : Later grows W, x.to.cell? ⟨b, o + i * 3 + 2, none⟩ = some (.int .i64 t.d)) := by
  obtain ⟨b, o, hA, hb, hc⟩ := h.at_ ht
  have key : ∀ j v, j < 3 → t.cells[j]? = some v → ∀ x : Later grows W, x.to.cell? ⟨b, o + i * 3 + j, none⟩ = some v := fun j v hj hv x => by
    have hx : Below W.heap.size W x.to := x.grown
    rw [show o + i * 3 + j = o + (3 * i + j) by omega]
    exact (hx.cell (p := ⟨b, o + (3 * i + j), none⟩) hb).trans (hc j v hj hv)
  exact ⟨b, o, hA, key 0 _ (by omega) rfl, key 1 _ (by omega) rfl, key 2 _ (by omega) rfl⟩
theorem take_step {α : Type} {xs ys : List α} {i : Nat} {x y : α} (h : xs.take i = ys.take i) (hx : xs[i]? = some x) (hy : ys[i]? = some y) (e : x = y) : xs.take (i + 1) = ys.take (i + 1) := by
  rw [List.take_add_one, List.take_add_one, h, hx, hy, e]
theorem get_tok {ts : List Tv} {i : Nat} {t : Tv} (h : ts[i]? = some t) : (ts.map Tv.tok)[i]? = some t.tok := by rw [List.getElem?_map, h]; rfl

end Go.Proofs.Ytjapohddfelgkaa
