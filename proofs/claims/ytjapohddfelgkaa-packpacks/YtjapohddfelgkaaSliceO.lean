/-
  Cuts of a []byte as run equations. Of no program.
-/
import Derived.Test.YtjapohddfelgkaaBase
set_option maxRecDepth 100000
namespace Go.Proofs.Ytjapohddfelgkaa
open Go.RowKit Go.Gar

theorem slice_from (g o n c k : Nat) (h : k ≤ n) (h3 : k < c) (W : World) :
    (Instr.sliceAt 22 (.slice (some ⟨g, o, none⟩) n c) (some (.int .i64 (k : Int))) none none).run Try.prog W = .ok (.slice (some ⟨g, o + k, none⟩) (n - k) (c - k)) W := by
  obtain ⟨i, hi, hs⟩ := Option.map_eq_some_iff.1 Try.size5
  have h1 : (k : Int) ≤ (n : Int) := by omega
  have h5 : ¬ c = k := by omega
  simp [Instr.sliceAt, Instr.sliceBounds, Instr.sureAddr, run_underlying Try.und22 W, sizeOf, typeInfo, hi, hs, go_sem, h1, h5, Addr.add_lit]
theorem slice_upto (g o n c k : Nat) (h2 : k ≤ c) (W : World) :
    (Instr.sliceAt 22 (.slice (some ⟨g, o, none⟩) n c) none (some (.int .i64 (k : Int))) none).run Try.prog W = .ok (.slice (some ⟨g, o, none⟩) k c) W := by
  obtain ⟨i, hi, hs⟩ := Option.map_eq_some_iff.1 Try.size5
  have h4 : (k : Int) ≤ (c : Int) := by omega
  simp [Instr.sliceAt, Instr.sliceBounds, Instr.sureAddr, run_underlying Try.und22 W, sizeOf, typeInfo, hi, hs, go_sem, h4]

end Go.Proofs.Ytjapohddfelgkaa
