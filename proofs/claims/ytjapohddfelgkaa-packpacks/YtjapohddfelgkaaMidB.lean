/-
  Arrays by value at an offset of a block, boxed, indexed: laws at the level of a list of operations. Of no program.
-/
import Derived.Test.YtjapohddfelgkaaArr
import Derived.Test.YtjapohddfelgkaaArrEq
import Derived.Deep.MidRow
set_option maxRecDepth 100000
namespace Go.Gar
open Go.RowKit
section
variable {P : Program} {w : World}

/-- A row with a part of it laid anew. -/
def seg (old : List Value) (o : Nat) (new : List Value) : List Value := old.take o ++ new ++ old.drop (o + new.length)
theorem seg_len (old new : List Value) (o : Nat) (h : o + new.length ≤ old.length) : (seg old o new).length = old.length := by
  simp [seg]; omega

/-- An argument of an array's type that is addressed: a new block of its cells. -/
theorem wpList_box_arr {ops : Array Oper} {rest : List Oper} {o : Oper} {a : Act} {Q : Exit → Act → World → Prop} (hgd : o.guard = none) (t : TypeId) (x : Operand) (cs : Array Value)
    (ho : o.op = .box t x) (hx : a.eval x = .agg cs)
    (h : wpList P ops Q rest (a.put o.dst (.pointer (some ⟨w.heap.size, 0, none⟩))) (w.alloc (.cells cs t))) : wpList P ops Q (o :: rest) a w := by
  refine wpList_run hgd (v := .pointer (some ⟨w.heap.size, 0, none⟩)) (w' := w.alloc (.cells cs t)) ?_ h
  unfold execOp
  simp [ho, hx, Instr.box, newVar, newRow, Result.andThen, Value.cells]

theorem run_storeVar_seg {t ty : TypeId} (g o : Nat) (old new : List Value) (hb : Blk w g t old) (hi : (P.info? ty).map (·.size) = some new.length) (hl : o + new.length ≤ old.length) (h1 : ∀ u ∈ new, u.oneCell' = true) :
    (storeVar ty ⟨g, o, none⟩ (.agg new.toArray)).run P w = .ok () (w.setRow g (seg old o new).toArray) := by
  have := run_storeCells_at (P := P) g o t new 0 old.toArray w hb (by simpa using hl) h1
  cases hq : P.info? ty with
  | none => simp [hq] at hi
  | some i =>
    have hs : new.length = i.size := by simp [hq] at hi; omega
    simp only [Nat.add_zero] at this
    simp [storeVar, sizeOf, typeInfo, hq, Value.cells, hs, this, seg]

/-- A whole array into a part of a block that is known whole. -/
theorem wpList_store_seg {ops : Array Oper} {rest : List Oper} {op : Oper} {a : Act} {Q : Exit → Act → World → Prop} (hgd : op.guard = none) (t ty : TypeId) (p x : Operand) (g o : Nat) (old new : List Value)
    (hd : op.dst = none) (ho : op.op = .store ty p x) (hp : a.eval p = .pointer (some ⟨g, o, none⟩)) (hx : a.eval x = .agg new.toArray) (hb : Blk w g t old) (hi : (P.info? ty).map (·.size) = some new.length) (hl : o + new.length ≤ old.length) (h1 : ∀ u ∈ new, u.oneCell' = true)
    (h : wpList P ops Q rest a (w.setRow g (seg old o new).toArray)) : wpList P ops Q (op :: rest) a w := by
  refine wpList_plain hgd fun K hK => ?_
  unfold Oper.wp
  have hr := run_storeVar_seg (P := P) (w := w) (t := t) (ty := ty) g o old new hb hi hl h1
  have : (execOp a.eval op).run P w = .ok .skip (w.setRow g (seg old o new).toArray) := by
    unfold execOp
    simp [ho, Instr.storeAt, Instr.sureAddr, hp, hx, hr, Result.andThen]
  rw [this]
  exact hK _ _ (by rw [hd]; exact h)

/-- A part of a block, loaded as an array. -/
theorem run_loadVar_seg {t ty : TypeId} {d : TypeDesc} (g o : Nat) (old cs : List Value) (hb : Blk w g t old) (hc : ∀ j v, cs[j]? = some v → old[o + j]? = some v) (hu : P.underlying ty = some d) (hd : d.isRow = true) (hi : (P.info? ty).map (·.size) = some cs.length) :
    (loadVar ty ⟨g, o, none⟩).run P w = .ok (.agg cs.toArray) w :=
  run_loadVar_mid w g o ty cs d (fun j v hv => by rw [hb.cell]; exact hc j v hv) hu hd hi

theorem wpList_load_at {ops : Array Oper} {rest : List Oper} {o : Oper} {a : Act} {Q : Exit → Act → World → Prop} (t : TypeId) (p : Operand) (ho : o.op = .load t p) {g q : Nat} (hp : a.eval p = .pointer (some ⟨g, q, none⟩)) (x : Array Value)
    (hld : (loadVar t ⟨g, q, none⟩).run P w = .ok (.agg x) w) (hw : Region.wanted o (yielded ops a.tmps) = true) (h : wpList P ops Q rest (a.put o.dst (.agg x)) w) : wpList P ops Q (o :: rest) a w := by
  refine wpList_run_w hw (v := .agg x) (w' := w) ?_ h
  unfold execOp
  simp only [ho, hp, Instr.loadAt, Instr.sureAddr, Sem.run_bind, hld, Result.andThen_ok, Sem.run_pure]

theorem run_index_u8 {t e : TypeId} {n : Nat} (ht : P.underlying t = some (.array n e)) (he : P.underlying e = some (.int .u8)) (hs : (P.info? e).map (·.size) = some 1) (F : List UInt8) (j : Nat) (hj : j < n) (c : UInt8) (hc : F[j]? = some c) :
    (Instr.index t (.agg (u8s F).toArray) (.int .i64 (j : Int))).run P w = .ok (.int .u8 (c.toNat : Int)) w := by
  have hagg : (isAgg e).run P w = .ok false w := by
    unfold isAgg
    rw [Sem.run_bind, run_underlying he w]
    rfl
  cases hq : P.info? e with
  | none => simp [hq] at hs
  | some i =>
    have h1 : i.size = 1 := by simpa [hq] using hs
    have hg : (u8s F)[j]? = some (.int .u8 (c.toNat : Int)) := by rw [u8s_get, hc]; rfl
    have hlt : (0 : Int) ≤ (j : Int) ∧ (j : Int) < (n : Int) := by omega
    simp [Instr.index, asIntOf, Sem.run_bind, run_underlying ht w, hlt, sizeOf, typeInfo, hq, h1, part, hagg, hg, Result.andThen]
    omega
theorem wpList_index_u8 {ops : Array Oper} {rest : List Oper} {o : Oper} {a : Act} {Q : Exit → Act → World → Prop} (t : TypeId) (p q : Operand) (ho : o.op = .index t p q) {x : Array Value} {i v : Value} (hp : a.eval p = .agg x) (hq : a.eval q = i)
    (hrun : (Instr.index t (.agg x) i).run P w = .ok v w) (hw : Region.wanted o (yielded ops a.tmps) = true) (h : wpList P ops Q rest (a.put o.dst v) w) : wpList P ops Q (o :: rest) a w := by
  refine wpList_run_w hw (v := v) (w' := w) ?_ h
  unfold execOp
  simp only [ho, hp, hq, Sem.run_bind, hrun, Result.andThen_ok, Sem.run_pure]
end
end Go.Gar
