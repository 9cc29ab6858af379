/-
  Tokens built: their cells. Of no program but api.Token.
-/
import Derived.Test.YtjapohddfelgkaaLzTz
import Derived.Test.YtjapohddfelgkaaReg3
import Derived.Test.YtjapohddfelgkaaBuildR
import Derived.Laws.Tables
import Derived.Deep.Cut
import Derived.Deep.CutRange
set_option maxRecDepth 100000
namespace Go.Proofs.Ytjapohddfelgkaa
open Go.RowKit Go.Gar

theorem Try.fieldsTok : (Try.prog.fieldsOf 41).toList.map (fun f => (f.name, f.type, f.offset)) = [("Lit", 22, 0), ("Len", 3, 1), ("Dist", 3, 2)] := by kernel_rfl
theorem Try.infoSl : (Try.prog.info? 22).map (·.size) = some 1 := by kernel_rfl
theorem Try.infoIn : (Try.prog.info? 3).map (·.size) = some 1 := by kernel_rfl
/-- build of a token, its cells known. -/
theorem built_tok (parts : List (Nat × Value)) (x : Array Value) (h : Instr.fill (fun k => ([(0, 1), (1, 1), (2, 1)] : List (Nat × Nat)).toArray[k]?) #[.slice none 0 0, .int .i64 0, .int .i64 0] parts = some x) : Try.prog.built 41 parts = some x := by
  obtain ⟨i, hi, he⟩ := Option.map_eq_some_iff.1 Try.infoTok2
  simp only [Prod.mk.injEq] at he
  obtain ⟨j, hj, hjs⟩ := Option.map_eq_some_iff.1 Try.infoSl
  obtain ⟨k, hk, hks⟩ := Option.map_eq_some_iff.1 Try.infoIn
  unfold Program.built
  rw [hi, Try.undTok]
  simp only [he.1]
  have hf := Try.fieldsTok
  generalize (Try.prog.fieldsOf 41).toList = fs at hf ⊢
  rcases fs with _ | ⟨f1, _ | ⟨f2, _ | ⟨f3, _ | ⟨f4, fs⟩⟩⟩⟩
  · cases hf
  · simp at hf
  · simp at hf
  · simp only [List.map_cons, List.map_nil, List.cons.injEq, Prod.mk.injEq, and_true] at hf
    obtain ⟨⟨_, t1, o1⟩, ⟨_, t2, o2⟩, _, t3, o3⟩ := hf
    simp only [List.mapM_cons, List.mapM_nil, t1, t2, t3, o1, o2, o3, hj, hk, hjs, hks, Option.map_some]
    exact h
  · simp at hf
theorem built_match (n d : Int) : Try.prog.built 41 [(1, .int .i64 n), (2, .int .i64 d)] = some (Tv.cells ⟨none, [], 0, n, d⟩).toArray := built_tok _ _ rfl
theorem built_lit (A : Option Addr) (l : List UInt8) (m c : Nat) (hm : m = l.length) : Try.prog.built 41 [(0, .slice A m c)] = some (Tv.cells ⟨A, l, c, 0, 0⟩).toArray := by
  subst hm
  exact built_tok _ _ rfl
end Go.Proofs.Ytjapohddfelgkaa
