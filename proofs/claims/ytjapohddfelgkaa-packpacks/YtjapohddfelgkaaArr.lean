/-
  A whole array that is made as a variable, and stored by value: laws at the level of a list of operations. Of no program.
-/
import Derived.Test.YtjapohddfelgkaaMem
import Derived.Deep.WholeRow
set_option maxRecDepth 100000
namespace Go.Gar
open Go.RowKit
section
variable {P : Program} {w : World}

/-- A variable of an array's type: a new block of its zeros. -/
theorem wpList_alloc_arr {ops : Array Oper} {rest : List Oper} {o : Oper} {a : Act} {Q : Exit → Act → World → Prop} (hgd : o.guard = none) (t : TypeId) (z : Array Value)
    (ho : o.op = .alloc t) (hz : ∀ w, (zeroValue t).run P w = .ok (.agg z) w)
    (h : wpList P ops Q rest (a.put o.dst (.pointer (some ⟨w.heap.size, 0, none⟩))) (w.alloc (.cells z t))) : wpList P ops Q (o :: rest) a w := by
  refine wpList_run hgd (v := .pointer (some ⟨w.heap.size, 0, none⟩)) (w' := w.alloc (.cells z t)) ?_ h
  unfold execOp
  simp [ho, Instr.alloc, hz, newVar, newRow, Sem.run_bind, Result.andThen, Value.cells]

/-- A whole array into a block that is known whole. -/
theorem wpList_store_arr {ops : Array Oper} {rest : List Oper} {o : Oper} {a : Act} {Q : Exit → Act → World → Prop} (hgd : o.guard = none) (t : TypeId) (p x : Operand) (g : Nat) (old new : List Value)
    (hd : o.dst = none) (ho : o.op = .store t p x) (hp : a.eval p = .pointer (some ⟨g, 0, none⟩)) (hx : a.eval x = .agg new.toArray) (hb : Blk w g t old) (hi : (P.info? t).map (·.size) = some new.length) (hl : old.length = new.length) (h1 : ∀ u ∈ new, u.oneCell' = true)
    (h : wpList P ops Q rest a (w.setRow g new.toArray)) : wpList P ops Q (o :: rest) a w := by
  refine wpList_plain hgd fun K hK => ?_
  unfold Oper.wp
  have hr := run_storeVar_row (P := P) w g t t old.toArray new.toArray hb (by simpa using hi) (by simpa using hl) (by simpa using h1)
  have : (execOp a.eval o).run P w = .ok .skip (w.setRow g new.toArray) := by
    unfold execOp
    simp [ho, Instr.storeAt, Instr.sureAddr, hp, hx, hr, Result.andThen]
  rw [this]
  exact hK _ _ (by rw [hd]; exact h)
end
end Go.Gar
