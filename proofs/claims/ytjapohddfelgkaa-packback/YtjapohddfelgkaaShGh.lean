/-
  Whole arrays (made, loaded, stored) and copy, within a fence: laws at the level of a list of operations. Of no program.
-/
import Derived.OwnWalkIn
import Derived.Test.YtjapohddfelgkaaMidB
set_option maxRecDepth 100000
namespace Go.Gar
open Go.RowKit
section
variable {F : Fence} {n : Nat} {P : Program} {w : World} {ops : Array Oper} {rest : List Oper} {o : Oper} {a : Act} {Q : Exit → Act → World → Prop}

/-- One operation that calls nothing and whose run is known. -/
theorem wpListIn_run (hgd : o.guard = none) (hab : o.about P w a.eval = none) (hnd : ∀ c, o.op ≠ .defer c) {v : Value} {w' : World}
    (hrun : (execOp a.eval o).run P w = .ok (.value v) w') (h : wpListIn F n P ops Q rest (a.put o.dst v) w') : wpListIn F n P ops Q (o :: rest) a w :=
  wpListIn_plain hgd fun K hK => by
    refine ⟨fun f hf => (by rw [hab] at hf; cases hf), ?_⟩
    rw [Oper.semAt_plain F _ _ hnd, hrun]
    exact hK _ _ h
theorem wpListIn_run_skip (hgd : o.guard = none) (hab : o.about P w a.eval = none) (hnd : ∀ c, o.op ≠ .defer c) {w' : World}
    (hrun : (execOp a.eval o).run P w = .ok .skip w') (hd : o.dst = none) (h : wpListIn F n P ops Q rest a w') : wpListIn F n P ops Q (o :: rest) a w :=
  wpListIn_plain hgd fun K hK => by
    refine ⟨fun f hf => (by rw [hab] at hf; cases hf), ?_⟩
    rw [Oper.semAt_plain F _ _ hnd, hrun]
    exact hK _ _ (by rw [hd]; exact h)

theorem wpListIn_alloc_arr (hgd : o.guard = none) (t : TypeId) (z : Array Value) (ho : o.op = .alloc t) (hz : ∀ w, (zeroValue t).run P w = .ok (.agg z) w)
    (h : wpListIn F n P ops Q rest (a.put o.dst (.pointer (some ⟨w.heap.size, 0, none⟩))) (w.alloc (.cells z t))) : wpListIn F n P ops Q (o :: rest) a w := by
  refine wpListIn_run hgd (by simp [Oper.about, ho]) (by simp [ho]) (v := .pointer (some ⟨w.heap.size, 0, none⟩)) (w' := w.alloc (.cells z t)) ?_ h
  unfold execOp
  simp [ho, Instr.alloc, hz, newVar, newRow, Sem.run_bind, Result.andThen, Value.cells]
theorem wpListIn_box_arr (hgd : o.guard = none) (t : TypeId) (x : Operand) (cs : Array Value) (ho : o.op = .box t x) (hx : a.eval x = .agg cs)
    (h : wpListIn F n P ops Q rest (a.put o.dst (.pointer (some ⟨w.heap.size, 0, none⟩))) (w.alloc (.cells cs t))) : wpListIn F n P ops Q (o :: rest) a w := by
  refine wpListIn_run hgd (by simp [Oper.about, ho]) (by simp [ho]) (v := .pointer (some ⟨w.heap.size, 0, none⟩)) (w' := w.alloc (.cells cs t)) ?_ h
  unfold execOp
  simp [ho, hx, Instr.box, newVar, newRow, Result.andThen, Value.cells]
theorem wpListIn_load_arr (hgd : o.guard = none) (t : TypeId) (p : Operand) (ho : o.op = .load t p) {g q : Nat} (hp : a.eval p = .pointer (some ⟨g, q, none⟩)) (x : Array Value)
    (hld : (loadVar t ⟨g, q, none⟩).run P w = .ok (.agg x) w) (h : wpListIn F n P ops Q rest (a.put o.dst (.agg x)) w) : wpListIn F n P ops Q (o :: rest) a w := by
  refine wpListIn_run hgd (by simp [Oper.about, ho]) (by simp [ho]) (v := .agg x) (w' := w) ?_ h
  unfold execOp
  simp only [ho, hp, Instr.loadAt, Instr.sureAddr, Sem.run_bind, hld, Result.andThen_ok, Sem.run_pure]
theorem wpListIn_store_arr (hgd : o.guard = none) (t : TypeId) (p x : Operand) (g : Nat) (old new : List Value)
    (hd : o.dst = none) (ho : o.op = .store t p x) (hp : a.eval p = .pointer (some ⟨g, 0, none⟩)) (hx : a.eval x = .agg new.toArray) (hb : Blk w g t old) (hi : (P.info? t).map (·.size) = some new.length) (hl : old.length = new.length) (h1 : ∀ u ∈ new, u.oneCell' = true)
    (h : wpListIn F n P ops Q rest a (w.setRow g new.toArray)) : wpListIn F n P ops Q (o :: rest) a w := by
  have hr := run_storeVar_row (P := P) w g t t old.toArray new.toArray hb (by simpa using hi) (by simpa using hl) (by simpa using h1)
  refine wpListIn_run_skip hgd (by simp [Oper.about, ho]) (by simp [ho]) (w' := w.setRow g new.toArray) ?_ hd h
  unfold execOp
  simp [ho, Instr.storeAt, Instr.sureAddr, hp, hx, hr, Result.andThen]
theorem wpListIn_copy_run (hgd : o.guard = none) (d s : Operand) (ts : Array TypeId) (ho : o.op = .call { callee := .builtin .copy, args := #[d, s], argTypes := ts }) {vd vs v : Value} {w' : World} (hs : a.eval d = vd) (hx : a.eval s = vs)
    (hrun : (Builtin.copy_ ts o.type #[vd, vs]).run P w = .ok v w') (h : wpListIn F n P ops Q rest (a.put o.dst v) w') : wpListIn F n P ops Q (o :: rest) a w := by
  refine wpListIn_run hgd (by simp [Oper.about, ho, resolve, Target.leads, Sem.run_pure]) (by simp [ho]) (v := v) (w' := w') ?_ h
  unfold execOp
  simp only [ho, resolve, invoke, builtin, Sem.run_bind, Sem.run_pure, Result.andThen_ok, List.map_toArray, List.map_cons, List.map_nil, hs, hx, hrun]
end

/-- copy of what a slice reads as over a part of a row that is known whole. -/
theorem run_copy_seg {P : Program} {w : World} (dT sT ty e : TypeId) (hu : P.underlying dT = some (.slice e)) (hs : (P.info? e).map (·.size) = some 1) (g o dLen dCap sLen sCap b q : Nat) (l : List UInt8) (k : Nat)
    (hc : ∀ i c, l[i]? = some c → w.cell? ⟨b, q + i, none⟩ = some (.int .u8 (c.toNat : Int))) (hsl : sLen = l.length) (hk : k = min l.length dLen) (cs : List Value) (t : TypeId) (hg : Blk w g t cs) (hfit : o + k ≤ cs.length) :
    (Builtin.copy_ #[dT, sT] ty #[.slice (some ⟨g, o, none⟩) dLen dCap, .slice (some ⟨b, q, none⟩) sLen sCap]).run P w = .ok (goInt k) (w.setRow g (cs.take o ++ u8s (l.take k) ++ cs.drop (o + k)).toArray) := by
  subst hsl
  have hlen : (u8s (l.take k)).length = k := by rw [u8s_len, List.length_take]; omega
  have h := run_copy_row (P := P) w dT sT ty e g o dLen dCap ⟨b, q, none⟩ l.length sCap cs.toArray t (u8s (l.take k)) hu hs hg (by rw [hlen, hk]) ?_ (by rw [hlen]; simpa using hfit) (u8s_one _)
  · rw [hlen] at h
    simpa using h
  · intro j v hj
    rw [u8s_get] at hj
    cases hq : (l.take k)[j]? with
    | none => simp [hq] at hj
    | some c =>
      rw [hq] at hj
      simp at hj
      subst hj
      have : (⟨b, q, none⟩ : Addr).add j = ⟨b, q + j, none⟩ := Addr.add_lit _ _ _
      rw [this]
      refine hc j c ?_
      rw [List.getElem?_take] at hq
      split at hq
      · exact hq
      · cases hq
end Go.Gar
