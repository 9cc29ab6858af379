/-
  A statement that draws its order: one operation that yields the same value in every later world may be taken first. Of no program; a tool for the walks.
-/
import Derived.Test.YtjapohddfelgkaaReg2
import Derived.Test.YtjapohddfelgkaaArrEq
set_option maxRecDepth 100000
namespace Go.Gar
open Go.RowKit
/-- All blocks below a bound stay as they were. -/
def belowG (B : Nat) : Growth := ⟨fun w w' => Below B w w', fun w => Below.refl _ w, fun h k => h.trans k⟩
theorem wpList_neq_arr_w {P : Program} {w : World} {ops : Array Oper} {rest : List Oper} {o : Oper} {a : Act} {Q : Exit → Act → World → Prop} (t t2 : TypeId) (p q : Operand) (ho : o.op = .binOp .neq t p q t2) {x y : Array Value} (hp : a.eval p = .agg x) (hq : a.eval q = .agg y) (r : Bool)
    (hg : P.eqGuardType P.depth t = false) (heq : ∀ w, (Op.equalIn 10000 t (.agg x) (.agg y)).run P w = .ok r w) (hw : Region.wanted o (yielded ops a.tmps) = true)
    (h : wpList P ops Q rest (a.put o.dst (.bool (!r))) w) : wpList P ops Q (o :: rest) a w := by
  refine wpList_run_w hw (v := .bool (!r)) (w' := w) ?_ h
  have h1 : (eqGuard .neq t p q (.agg x) (.agg y)).run P w = .ok () w := by
    simp [eqGuard, hg, Sem.run_bind]
  have h2 : (binOp .neq t (.agg x) (.agg y)).run P w = .ok (.bool (!r)) w := by
    have := heq w
    simp [binOp, Op.equal, Op.maxDepth, this, Result.andThen]
  unfold execOp
  simp only [ho, hp, hq, Sem.run_bind, h1, h2, Result.andThen_ok, Sem.run_pure]
section
variable {G : Growth} {P : Program} {Q : Exit → Act → World → Prop} {md : Region.Mode}
def firstOk (md : Region.Mode) (ops : Array Oper) (i : Nat) (listed : Array Bool) : Bool :=
  closedB md ops listed && (Region.ready md ops listed).contains i && Region.free md ops listed i
theorem firstG {L : List Oper} (hs : Region.noSelect L.toArray = true) (hQ : ∀ c (a : Act) (d : Tmp) v w, Q (.panic c) (a.put (some d) v) w → Q (.panic c) a w) (i n : Nat) {N : Nat} {o : Oper} {listed : Array Bool} {a : Act} {w : World} (hN : N = n + 1)
    (hi : L[i]? = some o) (hok : firstOk md L.toArray i listed = true) {v : Value} (hw : Region.wanted o (yielded L.toArray a.tmps) = true) (hrun : ∀ W : Later G w, (execOp a.eval o).run P W.to = .ok (.value v) W.to)
    (h : wpAnyG G P md L.toArray Q n (listed.setIfInBounds i true) (a.put o.dst v) w) : wpAnyG G P md L.toArray Q N listed a w := by
  subst hN
  simp only [firstOk, Bool.and_eq_true] at hok
  obtain ⟨⟨hcl, hr⟩, hf⟩ := hok
  have hi' : L.toArray[i]? = some o := by simpa using hi
  exact wpAnyG_first w hi' (Region.noSelect_spec hs) (fun c a w h => panic_put hQ c a _ _ w h) n listed a w (closed_of hcl) (Region.free_spec hi' hf) (by simpa using hr) (.inl ⟨hw, fun W hW => hrun ⟨W, hW⟩⟩) (G.refl w) h
/-- A slice turned into an array's address, first. -/
theorem firstG_arrayAt {L : List Oper} (t : TypeId) (p : Operand) {x v : Value} {n i : Nat} {N : Nat} {o : Oper} {listed : Array Bool} {a : Act} {w : World} (hs : Region.noSelect L.toArray = true) (hQ : ∀ c (a : Act) (d : Tmp) v w, Q (.panic c) (a.put (some d) v) w → Q (.panic c) a w) (hN : N = n + 1)
    (hi : L[i]? = some o) (hok : firstOk md L.toArray i listed = true) (ho : o.op = .sliceToArrayPointer t p) (hp : a.eval p = x) (hrun : ∀ W, (Instr.arrayAt t x).run P W = .ok v W) (hw : Region.wanted o (yielded L.toArray a.tmps) = true)
    (h : wpAnyG G P md L.toArray Q n (listed.setIfInBounds i true) (a.put o.dst v) w) : wpAnyG G P md L.toArray Q N listed a w := by
  refine firstG hs hQ i n hN hi hok hw (fun W => ?_) h
  unfold execOp
  simp only [ho, hp, Sem.run_bind, hrun, Result.andThen_ok, Sem.run_pure]
/-- An array loaded from the midst of a block, in a segment. -/
theorem wpQuiet_load_at {w : World} {ops : Array Oper} {Q : Act → Prop} {rest : List Oper} {o : Oper} {a : Act} (t : TypeId) (p : Operand) (ho : o.op = .load t p) {g q : Nat} (hp : a.eval p = .pointer (some ⟨g, q, none⟩)) (x : Array Value)
    (hld : ∀ W : Later G w, (loadVar t ⟨g, q, none⟩).run P W.to = .ok (.agg x) W.to) (hw : Region.wanted o (yielded ops a.tmps) = true)
    (h : wpQuiet P ops (fun W => ∃ y : Later G w, W = y.to) Q rest (a.put o.dst (.agg x))) : wpQuiet P ops (fun W => ∃ y : Later G w, W = y.to) Q (o :: rest) a := by
  refine wpQuiet_val hw (fun W hW => ?_) h
  obtain ⟨y, rfl⟩ := hW
  unfold execOp
  simp only [ho, hp, Instr.loadAt, Instr.sureAddr, Sem.run_bind, hld y, Result.andThen_ok, Sem.run_pure]
end
end Go.Gar
