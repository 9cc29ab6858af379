/-
  Arrays of bytes as values: compared, and loaded whole. Of no program.
-/
import Derived.Test.YtjapohddfelgkaaArr
import Derived.Test.YtjapohddfelgkaaReg
import Derived.ChangeKeysEq
set_option maxRecDepth 100000
namespace Go.Gar
open Go.RowKit
section
variable {P : Program} {w : World}

theorem run_eqItems_u8 {e : TypeId} (he : P.plainKey e = true) (hu : P.underlying e = some (.int .u8)) (d : Nat) (a b : List UInt8) : ∀ is : List Nat, (∀ i ∈ is, i < a.length ∧ i < b.length) →
    (Op.eqItems (d + 1) e 1 (u8s a).toArray (u8s b).toArray is).run P w = .ok (is.all fun i => a[i]? == b[i]?) w
  | [], _ => by simp [Op.eqItems]
  | i :: is, h => by
    obtain ⟨ha, hb⟩ := h i (by simp)
    have ga : (u8s a).toArray[i]? = some (.int .u8 ((a[i]).toNat : Int)) := by simp [u8s_get, ha]
    have gb : (u8s b).toArray[i]? = some (.int .u8 ((b[i]).toNat : Int)) := by simp [u8s_get, hb]
    have ih := run_eqItems_u8 he hu d a b is (fun j hj => h j (by simp [hj]))
    simp only [Op.eqItems, Nat.mul_one, Sem.run_bind, run_part_plain w he ga, run_part_plain w he gb, Result.andThen_ok, run_equalIn_int w d e .u8 .u8 _ _ hu]
    by_cases hab : a[i] = b[i]
    · have e1 : (((a[i]).toNat : Int) == ((b[i]).toNat : Int)) = true := by rw [hab]; simp
      rw [e1]
      simp only [Bool.not_true, Bool.false_eq_true, if_false, ih, List.all_cons, List.getElem?_eq_getElem ha, List.getElem?_eq_getElem hb, hab]
      simp
    · have e1 : (((a[i]).toNat : Int) == ((b[i]).toNat : Int)) = false := by
        rw [beq_eq_false_iff_ne]
        intro h
        exact hab (UInt8.toNat_inj.1 (by omega))
      rw [e1]
      have e2 : ((some a[i] : Option UInt8) == some b[i]) = false := by
        rw [beq_eq_false_iff_ne]
        intro h
        injection h with h
        exact hab h
      simp [List.getElem?_eq_getElem ha, List.getElem?_eq_getElem hb, e2]
theorem run_equalIn_u8s {t e : TypeId} {n : Nat} (ht : P.underlying t = some (.array n e)) (he : P.plainKey e = true) (hu : P.underlying e = some (.int .u8)) (hc : P.cellsOf e = 1) (d : Nat) (a b : List UInt8) (ha : a.length = n) (hb : b.length = n) :
    (Op.equalIn (d + 2) t (.agg (u8s a).toArray) (.agg (u8s b).toArray)).run P w = .ok (decide (a = b)) w := by
  obtain ⟨i, hi⟩ : ∃ i, P.info? e = some i := by
    unfold Program.underlying at hu
    cases h : P.info? e with
    | none => simp [h] at hu
    | some i => exact ⟨i, rfl⟩
  rw [run_equalIn_array w (d + 1) _ _ ht hi, hc, run_eqItems_u8 he hu d a b _ (fun j hj => by simp at hj; omega)]
  congr 1
  rw [Bool.eq_iff_iff, List.all_eq_true, decide_eq_true_iff]
  constructor
  · intro h
    apply List.ext_getElem?
    intro j
    by_cases hj : j < n
    · have := h j (by simpa using hj)
      simpa using this
    · rw [List.getElem?_eq_none (by omega), List.getElem?_eq_none (by omega)]
  · intro h j _
    rw [h]; simp

/-- A whole array, loaded in every world to which memory may have grown. -/
theorem load_arr_later {t e : TypeId} {n g : Nat} {x : List Value} (ht : P.underlying t = some (.array n e)) (hs : (P.info? t).map (·.size) = some x.length) (h : Blk w g t x) :
    ∀ W : Later grows w, (Instr.loadAt t (.pointer (some ⟨g, 0, none⟩))).run P W.to = .ok (.agg x.toArray) W.to := by
  intro W
  have hx : Below w.heap.size w W.to := W.grown
  have hb := h.below hx h.lt
  have := run_loadVar_row (P := P) W.to g t t x.toArray (0, 0) _ hb ht rfl (by simpa using hs)
  simp only [Instr.loadAt, Instr.sureAddr, Sem.run_bind, Sem.run_pure, Result.andThen]
  exact this

/-- A whole array loaded. -/
theorem wpList_load_arr {ops : Array Oper} {rest : List Oper} {o : Oper} {a : Act} {Q : Exit → Act → World → Prop} (hgd : o.guard = none) (t : TypeId) (p : Operand) (ho : o.op = .load t p) {g : Nat} (hp : a.eval p = .pointer (some ⟨g, 0, none⟩)) (x : Array Value)
    (hld : (Instr.loadAt t (.pointer (some ⟨g, 0, none⟩))).run P w = .ok (.agg x) w) (h : wpList P ops Q rest (a.put o.dst (.agg x)) w) : wpList P ops Q (o :: rest) a w := by
  refine wpList_run hgd (v := .agg x) (w' := w) ?_ h
  unfold execOp
  simp only [ho, hp, Sem.run_bind, hld, Result.andThen_ok, Sem.run_pure]
theorem wpQuiet_val {ops : Array Oper} {C : World → Prop} {Q : Act → Prop} {rest : List Oper} {o : Oper} {a : Act} {v : Value} (hw : Region.wanted o (yielded ops a.tmps) = true) (hrun : ∀ W, C W → (execOp a.eval o).run P W = .ok (.value v) W)
    (h : wpQuiet P ops C Q rest (a.put o.dst v)) : wpQuiet P ops C Q (o :: rest) a := by
  unfold wpQuiet
  rw [if_pos hw]
  refine ⟨v, fun W hW => ?_, h⟩
  unfold Oper.quietAt
  rw [hrun W hW]
  exact ⟨rfl, rfl⟩
/-- A whole array loaded, in a segment. -/
theorem wpQuiet_load_arr {G : Growth} {ops : Array Oper} {Q : Act → Prop} {rest : List Oper} {o : Oper} {a : Act} (t : TypeId) (p : Operand) (ho : o.op = .load t p) {g : Nat} (hp : a.eval p = .pointer (some ⟨g, 0, none⟩)) (x : Array Value)
    (hld : ∀ W : Later G w, (Instr.loadAt t (.pointer (some ⟨g, 0, none⟩))).run P W.to = .ok (.agg x) W.to) (hw : Region.wanted o (yielded ops a.tmps) = true)
    (h : wpQuiet P ops (fun W => ∃ y : Later G w, W = y.to) Q rest (a.put o.dst (.agg x))) : wpQuiet P ops (fun W => ∃ y : Later G w, W = y.to) Q (o :: rest) a := by
  refine wpQuiet_val hw (fun W hW => ?_) h
  obtain ⟨y, rfl⟩ := hW
  unfold execOp
  simp only [ho, hp, Sem.run_bind, hld y, Result.andThen_ok, Sem.run_pure]
/-- Two arrays compared, in a segment. -/
theorem wpQuiet_eql_arr {C : World → Prop} {ops : Array Oper} {Q : Act → Prop} {rest : List Oper} {o : Oper} {a : Act} (t t2 : TypeId) (p q : Operand) (ho : o.op = .binOp .eql t p q t2) {x y : Array Value} (hp : a.eval p = .agg x) (hq : a.eval q = .agg y) (r : Bool)
    (hg : P.eqGuardType P.depth t = false) (heq : ∀ w, (Op.equalIn 10000 t (.agg x) (.agg y)).run P w = .ok r w) (hw : Region.wanted o (yielded ops a.tmps) = true)
    (h : wpQuiet P ops C Q rest (a.put o.dst (.bool r))) : wpQuiet P ops C Q (o :: rest) a := by
  refine wpQuiet_val hw (fun W _ => ?_) h
  have h1 : (eqGuard .eql t p q (.agg x) (.agg y)).run P W = .ok () W := by
    simp [eqGuard, hg, Sem.run_bind]
  have h2 : (binOp .eql t (.agg x) (.agg y)).run P W = .ok (.bool r) W := by
    have := heq W
    simp [binOp, Op.equal, Op.maxDepth, this, Result.andThen]
  unfold execOp
  simp only [ho, hp, hq, Sem.run_bind, h1, h2, Result.andThen_ok, Sem.run_pure]
/-- One operation, guarded or not, that is wanted and whose run is known. -/
theorem wpList_run_w {ops : Array Oper} {rest : List Oper} {o : Oper} {a : Act} {Q : Exit → Act → World → Prop} (hw : Region.wanted o (yielded ops a.tmps) = true) {v : Value} {w' : World}
    (hrun : (execOp a.eval o).run P w = .ok (.value v) w') (h : wpList P ops Q rest (a.put o.dst v) w') : wpList P ops Q (o :: rest) a w := by
  unfold wpList
  rw [if_pos hw]
  left
  unfold Oper.wp
  rw [hrun]
  exact h
theorem wpList_load_arr_w {ops : Array Oper} {rest : List Oper} {o : Oper} {a : Act} {Q : Exit → Act → World → Prop} (t : TypeId) (p : Operand) (ho : o.op = .load t p) {g : Nat} (hp : a.eval p = .pointer (some ⟨g, 0, none⟩)) (x : Array Value)
    (hld : (loadVar t ⟨g, 0, none⟩).run P w = .ok (.agg x) w) (hw : Region.wanted o (yielded ops a.tmps) = true) (h : wpList P ops Q rest (a.put o.dst (.agg x)) w) : wpList P ops Q (o :: rest) a w := by
  refine wpList_run_w hw (v := .agg x) (w' := w) ?_ h
  unfold execOp
  simp only [ho, hp, Instr.loadAt, Instr.sureAddr, Sem.run_bind, hld, Result.andThen_ok, Sem.run_pure]
theorem wpList_eql_arr_w {ops : Array Oper} {rest : List Oper} {o : Oper} {a : Act} {Q : Exit → Act → World → Prop} (t t2 : TypeId) (p q : Operand) (ho : o.op = .binOp .eql t p q t2) {x y : Array Value} (hp : a.eval p = .agg x) (hq : a.eval q = .agg y) (r : Bool)
    (hg : P.eqGuardType P.depth t = false) (heq : ∀ w, (Op.equalIn 10000 t (.agg x) (.agg y)).run P w = .ok r w) (hw : Region.wanted o (yielded ops a.tmps) = true)
    (h : wpList P ops Q rest (a.put o.dst (.bool r)) w) : wpList P ops Q (o :: rest) a w := by
  refine wpList_run_w hw (v := .bool r) (w' := w) ?_ h
  have h1 : (eqGuard .eql t p q (.agg x) (.agg y)).run P w = .ok () w := by
    simp [eqGuard, hg, Sem.run_bind]
  have h2 : (binOp .eql t (.agg x) (.agg y)).run P w = .ok (.bool r) w := by
    have := heq w
    simp [binOp, Op.equal, Op.maxDepth, this, Result.andThen]
  unfold execOp
  simp only [ho, hp, hq, Sem.run_bind, h1, h2, Result.andThen_ok, Sem.run_pure]
end
end Go.Gar
