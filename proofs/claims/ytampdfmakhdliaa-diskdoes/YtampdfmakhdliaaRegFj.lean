/-
  A statement whose operations Go may carry out in more than one order, by a fact that every order keeps: for operations that make memory at any time, so that no one order serves. Of no program; a tool for the walks.
-/
import Derived.Test.YtampdfmakhdliaaDiskJ01
set_option maxRecDepth 100000
namespace Go.Gar
open Go.RowKit
section
variable {P : Program} {ops : Array Oper} {Q : Exit → Act → World → Prop} {md : Region.Mode}

/-- How many of the first n are not listed yet. -/
def unl (L : Array Bool) : Nat → Nat
  | 0 => 0
  | n + 1 => unl L n + (if L.getD n true then 0 else 1)
theorem unl_out {L : Array Bool} {i : Nat} : ∀ {n : Nat}, n ≤ i → unl (L.setIfInBounds i true) n = unl L n
  | 0, _ => rfl
  | n + 1, h => by
    rw [unl, unl, unl_out (by omega), getD_set_ne true (by omega)]
theorem unl_set {L : Array Bool} {i : Nat} (hi : L.getD i true = false) : ∀ {n : Nat}, i < n → unl (L.setIfInBounds i true) n + 1 = unl L n
  | 0, h => by omega
  | n + 1, h => by
    have his : i < L.size := by
      rcases Nat.lt_or_ge i L.size with h' | h'
      · exact h'
      · simp [Array.getElem?_eq_none h'] at hi
    by_cases hin : i = n
    · subst hin
      rw [unl, unl, unl_out (Nat.le_refl _), hi]
      simp [his]
    · rw [unl, unl, getD_set_ne true hin, ← unl_set hi (show i < n by omega)]
      omega
theorem unl_zero {L : Array Bool} : ∀ {n : Nat}, unl L n = 0 → ∀ j, j < n → L.getD j true = true
  | 0, _, j, h => by omega
  | n + 1, hz, j, h => by
    rw [unl] at hz
    by_cases hj : j = n
    · subst hj
      cases hl : L.getD j true with
      | true => rfl
      | false => rw [hl] at hz; simp at hz
    · have h0 : unl L n = 0 := by omega
      exact unl_zero h0 j (by omega)

theorem wpAny_inv (I : Array Bool → Act → World → Prop) (hstep : ∀ L a w i, I L a w → i ∈ Region.ready md ops L → wpOp P ops Q i (fun a' w' => I (L.setIfInBounds i true) a' w') a w)
    (hend : ∀ L a w, I L a w → Region.ready md ops L = [] → Q .normal a w) : ∀ (fuel : Nat) (L : Array Bool) (a : Act) (w : World), unl L ops.size ≤ fuel → I L a w → wpAny P md ops Q fuel L a w
  | 0, L, a, w, hf, h => by
    have hr : Region.ready md ops L = [] := by
      refine List.eq_nil_iff_forall_not_mem.2 fun i hi => ?_
      obtain ⟨hu, o, ho, _⟩ := mem_ready.1 hi
      rw [unl_zero (by omega) i (Array.getElem?_eq_some_iff.1 ho).1] at hu
      cases hu
    exact ⟨hr, hend L a w h hr⟩
  | fuel + 1, L, a, w, hf, h => by
    refine ⟨hend L a w h, fun i hi => wpOp_mono (fun a' w' h' => wpAny_inv I hstep hend fuel _ a' w' ?_ h') (hstep L a w i h hi)⟩
    obtain ⟨hu, o, ho, _⟩ := mem_ready.1 hi
    have := unl_set hu (Array.getElem?_eq_some_iff.1 ho).1
    omega

theorem wp_region_inv (I : Array Bool → Act → World → Prop) {id : Nat} {l : List Oper} {a : Act} {w : World} (hm : P.follows .mixedOrders = true) (h0 : I (Array.replicate l.length false) a w.drew)
    (hstep : ∀ L a w i, I L a w → i ∈ Region.ready .any l.toArray L → wpOp P l.toArray Q i (fun a' w' => I (L.setIfInBounds i true) a' w') a w)
    (hend : ∀ L a w, I L a w → Region.ready .any l.toArray L = [] → Q .normal a w) : (Code.region id l.toArray true).wp P Q a w := by
  refine wp_region_any hm (wpAny_inv I hstep hend _ _ _ _ ?_ (by simpa using h0))
  have : ∀ n (L : Array Bool), unl L n ≤ n := by
    intro n L
    induction n with
    | zero => exact Nat.le_refl _
    | succ n ih => rw [unl]; split <;> omega
  exact this _ _

/-! One operation, whatever the frame. -/
variable {i : Nat} {o : Oper} {a : Act} {w w' : World} {K : Act → World → Prop}
theorem wpOp_value {v : Value} (hi : ops[i]? = some o) (hg : o.guard = none) (hrun : (execOp a.eval o).run P w = .ok (.value v) w') (h : K (a.put o.dst v) w') : wpOp P ops Q i K a w := by
  unfold wpOp
  simp only [hi, Region.wanted, hg, if_true]
  left
  unfold Oper.wp
  rw [hrun]
  exact h
theorem wpOp_store (hi : ops[i]? = some o) (hg : o.guard = none) (hrun : (execOp a.eval o).run P w = .ok .skip w') (h : K (a.put o.dst undef) w') : wpOp P ops Q i K a w := by
  unfold wpOp
  simp only [hi, Region.wanted, hg, if_true]
  left
  unfold Oper.wp
  rw [hrun]
  exact h
theorem wpOp_call {f : FuncId} {args : Array Value} (hi : ops[i]? = some o) (hg : o.guard = none) (hrun : (execOp a.eval o).run P w = .ok (.enter f args) w) (h : Calls P f args w fun e w' => ∃ v, e = .returned v ∧ K (a.put o.dst v) w') : wpOp P ops Q i K a w := by
  unfold wpOp
  simp only [hi, Region.wanted, hg, if_true]
  left
  unfold Oper.wp
  rw [hrun, Oper.upon_enter]
  refine h.mono fun e w' he => ?_
  obtain ⟨v, rfl, hk⟩ := he
  exact hk
theorem eval_put {d : Nat} (hd : d < a.tmps.size) (k : Nat) (v : Value) : (a.put (some d) v).eval (.tmp k) = if d = k then v else a.eval (.tmp k) := by
  show (a.tmps.setIfInBounds d v).getD k undef = if d = k then v else a.tmps.getD k undef
  by_cases h : d = k
  · subst h; simp [hd]
  · simp [h]
theorem size_put (d : Option Tmp) (v : Value) : (a.put d v).tmps.size = a.tmps.size := by
  cases d <;> simp [Act.put]

theorem exec_call2 (f : FuncId) (p q : Operand) (ts : Array TypeId) (ho : o.op = .call { callee := .value (.func f), args := #[p, q], argTypes := ts }) {v1 v2 : Value} (h1 : a.eval p = v1) (h2 : a.eval q = v2) (hc : ∀ args w, (callFunc f args).run P w = .ok (.enter f args) w) :
    (execOp a.eval o).run P w = .ok (.enter f #[v1, v2]) w := by
  have hf : a.eval (.func f) = .func (.func f) #[] #[] := rfl
  unfold execOp
  simp [ho, resolve, Deferred.ofValue, invoke, h1, h2, hf, hc]
/-- A frame with some slots written anew. -/
def pc (a : Act) (f : Nat → Option Value) : Act := { a with tmps := a.tmps.mapIdx fun k v => (f k).getD v }
theorem pc_size (f : Nat → Option Value) : (pc a f).tmps.size = a.tmps.size := by simp [pc]
theorem pc_eval {f : Nat → Option Value} {k : Nat} (hk : k < a.tmps.size) : (pc a f).eval (.tmp k) = (f k).getD (a.eval (.tmp k)) := by
  show ((a.tmps.mapIdx fun k v => (f k).getD v)).getD k undef = (f k).getD (a.tmps.getD k undef)
  simp [hk]
theorem pc_put {f : Nat → Option Value} {d : Nat} (v : Value) : (pc a f).put (some d) v = pc a (fun k => if k = d then some v else f k) := by
  show ({ a with tmps := (a.tmps.mapIdx fun k v => (f k).getD v).setIfInBounds d v } : Act) = { a with tmps := a.tmps.mapIdx fun k u => (if k = d then some v else f k).getD u }
  congr 1
  apply Array.ext
  · simp
  · intro k h1 h2
    by_cases h : d = k
    · subst h; simp
    · have h' : ¬ k = d := fun e => h e.symm
      rw [Array.getElem_setIfInBounds_ne (by simpa using h1) h]
      simp [h']
theorem pc_nil {f : Nat → Option Value} (h : ∀ k, f k = none) : pc a f = a := by
  unfold pc
  have : (fun (k : Nat) (v : Value) => (f k).getD v) = fun _ v => v := by funext k v; rw [h]; rfl
  rw [this]
  cases a
  simp only [Act.mk.injEq, and_true]
  apply Array.ext
  · simp
  · intro k h1 h2
    simp
theorem pc_take {f : Nat → Option Value} {d : Nat} {v : Value} (h : f d = some v) : pc a f = (pc a (fun k => if k = d then none else f k)).put (some d) v := by
  rw [pc_put]
  congr 1
  funext k
  by_cases hk : k = d
  · subst hk; simp [h]
  · simp [hk]
theorem region_start {c : Code} {a0 : Act} (h : ∀ a1, a1 = a0 → c.wp P Q a1 w) : c.wp P Q a0 w := h a0 rfl
end
end Go.Gar
