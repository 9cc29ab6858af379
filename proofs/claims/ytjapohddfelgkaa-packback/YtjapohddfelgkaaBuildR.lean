/-
  build, its cells known; two parts of one size side by side. Of no program.
-/
import Derived.Test.YtjapohddfelgkaaArrEq
import Derived.Great.FillDense
import Derived.Laws.Tables
set_option maxRecDepth 100000
namespace Go.Gar
open Go.RowKit

/-- Two parts of n cells each fill a value of 2 n cells. -/
theorem fill_two (place : Nat → Option (Nat × Nat)) (z X Y : Array Value) (n : Nat) (h0 : place 0 = some (0, n)) (h1 : place 1 = some (n, n)) (hX : X.size = n) (hY : Y.size = n) (hz : z.size = 2 * n) :
    Instr.fill place z [(0, .agg X), (1, .agg Y)] = some (X ++ Y) := by
  obtain ⟨a1, a2⟩ := Great.foldl_set 0 X.toList 0 z
  obtain ⟨b1, b2⟩ := Great.foldl_set n Y.toList 0 ((X.toList.zipIdx 0).foldl (fun cs (x : Value × Nat) => cs.setIfInBounds (0 + x.2) x.1) z)
  unfold Instr.fill
  simp only [h0]
  have c1 : (Value.agg X).cells = X := rfl
  have c2 : (Value.agg Y).cells = Y := rfl
  rw [c1, if_neg (by simp; omega)]
  unfold Instr.fill
  simp only [h1]
  have e1 : (X.zipIdx.foldl (fun cs (x : Value × Nat) => cs.setIfInBounds (0 + x.2) x.1) z) = (X.toList.zipIdx 0).foldl (fun cs (x : Value × Nat) => cs.setIfInBounds (0 + x.2) x.1) z := by
    rw [← Array.foldl_toList, Array.toList_zipIdx]
  rw [c2, e1, if_neg (by rw [a1]; simp; omega)]
  unfold Instr.fill
  rw [← Array.foldl_toList, Array.toList_zipIdx]
  congr 1
  apply Array.ext_getElem?
  intro k
  rw [b2, a1, a2, Array.length_toList, Array.length_toList, hX, hY, hz]
  by_cases hk : k < n
  · rw [if_neg (by omega), if_pos (by omega), Array.getElem?_append_left (by omega)]
    simp
  · by_cases hk2 : k < 2 * n
    · rw [if_pos (by omega), Array.getElem?_append_right (by omega), hX]
      simp
    · rw [if_neg (by omega), if_neg (by omega), Array.getElem?_eq_none (by omega), Array.getElem?_eq_none (by rw [Array.size_append]; omega)]
/-- build, its cells known. -/
theorem wpList_build_w {P : Program} {w : World} {ops : Array Oper} {rest : List Oper} {o : Oper} {a : Act} {Q : Exit → Act → World → Prop} (t : TypeId) (parts : Array (Nat × Operand)) (ho : o.op = .build t parts) {vs : List (Nat × Value)} (hp : (parts.map fun (i, x) => (i, a.eval x)).toList = vs)
    {x : Array Value} (hb : P.built t vs = some x) (hw : Region.wanted o (yielded ops a.tmps) = true) (h : wpList P ops Q rest (a.put o.dst (.agg x)) w) : wpList P ops Q (o :: rest) a w := by
  refine wpList_run_w hw (v := .agg x) (w' := w) ?_ h
  unfold execOp
  subst hp
  simp only [ho, Sem.run_bind, run_build w t _ _ hb, Result.andThen_ok, Sem.run_pure]
/-- build in a segment. -/
theorem wpQuiet_build {P : Program} {C : World → Prop} {ops : Array Oper} {Q : Act → Prop} {rest : List Oper} {o : Oper} {a : Act} (t : TypeId) (parts : Array (Nat × Operand)) (ho : o.op = .build t parts) {vs : List (Nat × Value)} (hp : (parts.map fun (i, x) => (i, a.eval x)).toList = vs)
    {x : Array Value} (hb : P.built t vs = some x) (hw : Region.wanted o (yielded ops a.tmps) = true) (h : wpQuiet P ops C Q rest (a.put o.dst (.agg x))) : wpQuiet P ops C Q (o :: rest) a := by
  refine wpQuiet_val hw (fun W _ => ?_) h
  unfold execOp
  subst hp
  simp only [ho, Sem.run_bind, run_build W t _ _ hb, Result.andThen_ok, Sem.run_pure]
end Go.Gar
