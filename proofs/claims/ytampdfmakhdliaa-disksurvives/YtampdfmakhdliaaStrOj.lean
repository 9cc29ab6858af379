/-
  Cuts of strings, and strings joined, as run equations. Of no program.
-/
import Derived.Test.YtampdfmakhdliaaDiskJ02
import Derived.Test.YtampdfmakhdliaaDiskJ03
set_option maxRecDepth 100000
namespace Go.Proofs.Ytampdfmakhdliaa
open Go.RowKit Go.Gar

theorem str_upto (s : ByteArray) (c : Int) (h0 : 0 ≤ c) (h1 : c ≤ (s.size : Int)) (W : World) :
    (Instr.sliceAt 9 (.string s) none (some (.int .i64 c)) none).run Try.prog W = .ok (.string (s.extract 0 c.toNat)) W := by
  have h2 : ¬ c < 0 := by omega
  have h3 : ¬ (s.size : Int) < c := by omega
  simp [Instr.sliceAt, Instr.sliceBounds, run_underlying Try.und9 W, go_sem, h0, h1]
theorem str_from (s : ByteArray) (c : Int) (h0 : 0 ≤ c) (h1 : c ≤ (s.size : Int)) (W : World) :
    (Instr.sliceAt 9 (.string s) (some (.int .i64 c)) none none).run Try.prog W = .ok (.string (s.extract c.toNat s.size)) W := by
  simp [Instr.sliceAt, Instr.sliceBounds, run_underlying Try.und9 W, go_sem, h0, h1]
theorem str_add (a b c : ByteArray) (hc : a ++ b = c) (h : a.size + b.size ≤ 1000000) (W : World) : (binOp .add 9 (.string a) (.string b)).run Try.prog W = .ok (.string c) W := by
  subst hc
  simp [binOp, Op.stringOp]
  omega
/-- Strings joined, in a segment. -/
theorem wpQuiet_str_add {C : World → Prop} {ops : Array Oper} {Q : Act → Prop} {rest : List Oper} {o : Oper} {a : Act} (p q : Operand) {t2 : TypeId} (ho : o.op = .binOp .add 9 p q t2) {x y z : ByteArray} (hp : a.eval p = .string x) (hq : a.eval q = .string y)
    (hrun : ∀ W, (binOp .add 9 (.string x) (.string y)).run Try.prog W = .ok (.string z) W) (hw : Region.wanted o (yielded ops a.tmps) = true)
    (h : wpQuiet Try.prog ops C Q rest (a.put o.dst (.string z))) : wpQuiet Try.prog ops C Q (o :: rest) a := by
  refine wpQuiet_val hw (fun W _ => ?_) h
  have h1 : (eqGuard .add 9 p q (.string x) (.string y)).run Try.prog W = .ok () W := by
    simp [eqGuard]
  unfold execOp
  simp only [ho, hp, hq, Sem.run_bind, h1, hrun, Result.andThen_ok, Sem.run_pure]
end Go.Proofs.Ytampdfmakhdliaa
