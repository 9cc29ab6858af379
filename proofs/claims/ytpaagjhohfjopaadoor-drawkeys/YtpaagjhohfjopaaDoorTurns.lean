/-
  A growth in which, of the blocks below B, only one row may turn. Of no program.
-/
import Derived.Test.YtpaagjhohfjopaaDoorBase
set_option maxRecDepth 100000
namespace Go.Proofs.YtpaagjhohfjopaaDoor
open Go.RowKit Go.Gar

/-- Of the blocks below B only one row, if any, may turn. -/
def turnsB (B : Nat) (row : Option Nat) : Growth where
  rel w w' := w'.os = w.os ∧ w'.tape = w.tape ∧ w'.output = w.output ∧ w.heap.size ≤ w'.heap.size ∧ ∀ k, k < B → some k ≠ row → w'.heap[k]? = w.heap[k]?
  refl _ := ⟨rfl, rfl, rfl, Nat.le_refl _, fun _ _ _ => rfl⟩
  trans h k := ⟨k.1.trans h.1, k.2.1.trans h.2.1, k.2.2.1.trans h.2.2.1, Nat.le_trans h.2.2.2.1 k.2.2.2.1, fun i hi hr => (k.2.2.2.2 i hi hr).trans (h.2.2.2.2 i hi hr)⟩
theorem turnsB_below {B : Nat} {row : Option Nat} {w w' : World} (h : Below B w w') : (turnsB B row).rel w w' := ⟨h.os, h.tape, h.output, h.size, fun k hk _ => h.block k hk⟩
theorem turnsB_grown {B : Nat} {row : Option Nat} {w w' : World} (h : w.grownBy w' row) (hB : B ≤ w.heap.size) : (turnsB B row).rel w w' := ⟨h.os, h.tape, h.output, h.size, fun k hk hr => h.block k (by omega) hr⟩
theorem cell_turnsB {w : World} {g B : Nat} {row : Option Nat} {t : TypeId} {cs : List Value} (h : Blk w g t cs) (hB : g < B) (hne : some g ≠ row) {i : Nat} {v : Value} (hv : cs[i]? = some v) : ∀ x : Later (turnsB B row) w, x.to.cell? ⟨g, i, none⟩ = some v := by
  intro x
  have hx : (turnsB B row).rel w x.to := x.grown
  have hb : Blk x.to g t cs := (hx.2.2.2.2 g hB hne).trans h
  rw [hb.cell, hv]
theorem addr_turnsB {w : World} {b o B : Nat} {row : Option Nat} {v : Value} (h : w.cell? ⟨b, o, none⟩ = some v) (hB : b < B) (hne : some b ≠ row) : ∀ x : Later (turnsB B row) w, x.to.cell? ⟨b, o, none⟩ = some v := by
  intro x
  have hx : (turnsB B row).rel w x.to := x.grown
  rw [← h]
  simp only [World.cell?, hx.2.2.2.2 b hB hne]
end Go.Proofs.YtpaagjhohfjopaaDoor
