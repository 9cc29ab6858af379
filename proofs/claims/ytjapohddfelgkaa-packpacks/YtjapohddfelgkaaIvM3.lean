/-
  An array of three bytes out of a slice. Of no program but lz.
-/
import Derived.Test.YtjapohddfelgkaaLzMp
import Derived.Test.YtjapohddfelgkaaLzP
import Derived.Test.YtjapohddfelgkaaBuildR
set_option maxRecDepth 100000
namespace Go.Proofs.Ytjapohddfelgkaa
open Go.RowKit Go.Gar

theorem size_K {s : List UInt8} (h : s.length = 3) : (Try.prog.info? 58).map (·.size) = some (u8s s).length := by
  rw [u8s_len, h]; kernel_rfl
theorem Try.infoK : (Try.prog.info? 58).map (fun i => (i.zero, i.size)) = some (some (.agg (Array.replicate 3 (.int .u8 0))), 3) := by kernel_rfl
theorem zero_K (w : World) : (zeroValue 58).run Try.prog w = .ok (.agg (u8s [0, 0, 0]).toArray) w := by
  have := (zero_of_info Try.infoK).1 w
  rw [this]
  rfl
theorem run_arr3 (g o n c : Nat) (h : 3 ≤ n) (W : World) : (Instr.arrayAt 58 (.slice (some ⟨g, o, none⟩) n c)).run Try.prog W = .ok (.pointer (some ⟨g, o, none⟩)) W := by
  have h1 : ¬ n < 3 := by omega
  simp [Instr.arrayAt, run_underlying Try.undK W, h1]
theorem load_K {W : World} {g o : Nat} {b : List UInt8} {p : Nat} (h : ∀ j c, b[j]? = some c → W.cell? ⟨g, o + j, none⟩ = some (.int .u8 (c.toNat : Int))) (hp : p + 3 ≤ b.length) (q : Nat) (hq : q = o + p) :
    (loadVar 58 ⟨g, q, none⟩).run Try.prog W = .ok (keyV (Lz.key b p)) W := by
  subst hq
  refine run_loadVar_mid (P := Try.prog) W g (o + p) 58 (u8s (Lz.key b p)) _ (fun j v hv => ?_) Try.undK rfl (size_K (Lz.key_len hp))
  rw [u8s_get] at hv
  cases hq : (Lz.key b p)[j]? with
  | none => rw [hq] at hv; cases hv
  | some c =>
    rw [hq] at hv
    obtain rfl := Option.some.inj hv
    unfold Lz.key at hq
    rw [List.getElem?_take] at hq
    split at hq
    · rw [List.getElem?_drop] at hq
      rw [Nat.add_assoc]
      exact h (p + j) c hq
    · cases hq
theorem loadK_arr {w : World} {g : Nat} {s : List UInt8} (hs : s.length = 3) (hB : Blk w g 58 (u8s s)) : (loadVar 58 ⟨g, 0, none⟩).run Try.prog w = .ok (.agg (u8s s).toArray) w :=
  run_loadVar_row (P := Try.prog) w g 58 58 (u8s s).toArray (0, 0) _ hB Try.undK rfl (by simpa using size_K hs)
end Go.Proofs.Ytjapohddfelgkaa
