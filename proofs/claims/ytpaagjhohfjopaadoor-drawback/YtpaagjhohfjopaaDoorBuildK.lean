/-
  Two parts of one size laid side by side: 'build' of keys.
-/
import Derived.Test.YtpaagjhohfjopaaDoorDrawC
import Derived.Test.YtpaagjhohfjopaaDoorShGh
import Derived.Great.FillDense
import Derived.Laws.Tables
set_option maxRecDepth 100000
namespace Go.Gar
open Go.RowKit

/-- Two parts of n cells each fill a value of 2 n cells. -/
theorem fill_two (place : Nat → Option (Nat × Nat)) (z X Y : Array Value) (n : Nat) (h0 : place 0 = some (0, n)) (h1 : place 1 = some (n, n)) (hX : X.size = n) (hY : Y.size = n) (hz : z.size = 2 * n) :
    Instr.fill place z [(0, .agg X), (1, .agg Y)] = some (X ++ Y) := by
  obtain ⟨a1, a2⟩ := Great.foldl_set 0 X.toList 0 z
  obtain ⟨b1, b2⟩ := Great.foldl_set n Y.toList 0 ((X.toList.zipIdx 0).foldl (fun cs (x : Value × Nat) => cs.setIfInBounds (0 + x.2) x.1) z)
  unfold Instr.fill
  simp only [h0]
  have c1 : (Value.agg X).cells = X := rfl
  have c2 : (Value.agg Y).cells = Y := rfl
  rw [c1, if_neg (by simp; omega)]
  unfold Instr.fill
  simp only [h1]
  have e1 : (X.zipIdx.foldl (fun cs (x : Value × Nat) => cs.setIfInBounds (0 + x.2) x.1) z) = (X.toList.zipIdx 0).foldl (fun cs (x : Value × Nat) => cs.setIfInBounds (0 + x.2) x.1) z := by
    rw [← Array.foldl_toList, Array.toList_zipIdx]
  rw [c2, e1, if_neg (by rw [a1]; simp; omega)]
  unfold Instr.fill
  rw [← Array.foldl_toList, Array.toList_zipIdx]
  congr 1
  apply Array.ext_getElem?
  intro k
  rw [b2, a1, a2, Array.length_toList, Array.length_toList, hX, hY, hz]
  by_cases hk : k < n
  · rw [if_neg (by omega), if_pos (by omega), Array.getElem?_append_left (by omega)]
    simp
  · by_cases hk2 : k < 2 * n
    · rw [if_pos (by omega), Array.getElem?_append_right (by omega), hX]
      simp
    · rw [if_neg (by omega), if_neg (by omega), Array.getElem?_eq_none (by omega), Array.getElem?_eq_none (by rw [Array.size_append]; omega)]
/-- build, its cells known. -/
theorem wpList_build_w {P : Program} {w : World} {ops : Array Oper} {rest : List Oper} {o : Oper} {a : Act} {Q : Exit → Act → World → Prop} (t : TypeId) (parts : Array (Nat × Operand)) (ho : o.op = .build t parts) {vs : List (Nat × Value)} (hp : (parts.map fun (i, x) => (i, a.eval x)).toList = vs)
    {x : Array Value} (hb : P.built t vs = some x) (hw : Region.wanted o (yielded ops a.tmps) = true) (h : wpList P ops Q rest (a.put o.dst (.agg x)) w) : wpList P ops Q (o :: rest) a w := by
  refine wpList_run_w hw (v := .agg x) (w' := w) ?_ h
  unfold execOp
  subst hp
  simp only [ho, Sem.run_bind, run_build w t _ _ hb, Result.andThen_ok, Sem.run_pure]
/-- build in a segment. -/
theorem wpQuiet_build {P : Program} {C : World → Prop} {ops : Array Oper} {Q : Act → Prop} {rest : List Oper} {o : Oper} {a : Act} (t : TypeId) (parts : Array (Nat × Operand)) (ho : o.op = .build t parts) {vs : List (Nat × Value)} (hp : (parts.map fun (i, x) => (i, a.eval x)).toList = vs)
    {x : Array Value} (hb : P.built t vs = some x) (hw : Region.wanted o (yielded ops a.tmps) = true) (h : wpQuiet P ops C Q rest (a.put o.dst (.agg x))) : wpQuiet P ops C Q (o :: rest) a := by
  refine wpQuiet_val hw (fun W _ => ?_) h
  unfold execOp
  subst hp
  simp only [ho, Sem.run_bind, run_build W t _ _ hb, Result.andThen_ok, Sem.run_pure]
end Go.Gar
namespace Go.Proofs.YtpaagjhohfjopaaDoor
open Go.RowKit Go.Gar

theorem infoZ {t : TypeId} {v : Value} {n : Nat} (h : (Tryd.prog.info? t).map (fun i => (i.zero, i.size)) = some (some v, n)) : ∃ i, Tryd.prog.info? t = some i ∧ i.zero = some v ∧ i.size = n := by
  obtain ⟨i, hi, he⟩ := Option.map_eq_some_iff.1 h
  simp only [Prod.mk.injEq] at he
  exact ⟨i, hi, he.1, he.2⟩
theorem builtKeys (a b : List UInt8) (ha : a.length = 32) (hb : b.length = 32) : Tryd.prog.built 34 [(0, .agg (u8s a).toArray), (1, .agg (u8s b).toArray)] = some (u8s (a ++ b)).toArray := by
  obtain ⟨i, hi, hz, _⟩ := infoZ Tryd.infoKeys
  obtain ⟨j, hj, _, hs⟩ := infoZ Tryd.info32
  unfold Program.built
  rw [hi, Tryd.undKeysS]
  simp only [hz]
  have hf := Tryd.fieldsKeys
  generalize (Tryd.prog.fieldsOf 34).toList = fs at hf ⊢
  rcases fs with _ | ⟨f1, _ | ⟨f2, _ | ⟨f3, fs⟩⟩⟩
  · cases hf
  · simp at hf
  · simp only [List.map_cons, List.map_nil, List.cons.injEq, Prod.mk.injEq, and_true] at hf
    obtain ⟨⟨_, t1, o1⟩, _, t2, o2⟩ := hf
    simp only [List.mapM_cons, List.mapM_nil, t1, t2, o1, o2, hj, hs, Option.map_some]
    have := fill_two (fun x => ([(0, 32), (32, 32)] : List (Nat × Nat)).toArray[x]?) (Value.agg (Array.replicate 64 (.int .u8 0))).cells (u8s a).toArray (u8s b).toArray 32 rfl rfl (by simp [u8s_len, ha]) (by simp [u8s_len, hb]) (by simp [Value.cells])
    rw [u8s_app]
    simpa using this
  · simp at hf
theorem builtKeys0 : Tryd.prog.built 34 [] = some z64.toArray := by
  obtain ⟨i, hi, hz, _⟩ := infoZ Tryd.infoKeys
  obtain ⟨j, hj, _, hs⟩ := infoZ Tryd.info32
  unfold Program.built
  rw [hi, Tryd.undKeysS]
  simp only [hz]
  have hf := Tryd.fieldsKeys
  generalize (Tryd.prog.fieldsOf 34).toList = fs at hf ⊢
  rcases fs with _ | ⟨f1, _ | ⟨f2, _ | ⟨f3, fs⟩⟩⟩
  · cases hf
  · simp at hf
  · simp only [List.map_cons, List.map_nil, List.cons.injEq, Prod.mk.injEq, and_true] at hf
    obtain ⟨⟨_, t1, o1⟩, _, t2, o2⟩ := hf
    simp only [List.mapM_cons, List.mapM_nil, t1, t2, o1, o2, hj, hs, Option.map_some]
    rfl
  · simp at hf
end Go.Proofs.YtpaagjhohfjopaaDoor
