/-
  Tokens in memory: the zero token, a token loaded; rows apart by their types. Of no program but api.Token.
-/
import Derived.Test.YtjapohddfelgkaaLzT
set_option maxRecDepth 100000
namespace Go.Proofs.Ytjapohddfelgkaa
open Go.RowKit Go.Gar

def zT : List Value := [.slice none 0 0, .int .i64 0, .int .i64 0]
theorem Try.infoTok2 : (Try.prog.info? 41).map (fun i => (i.zero, i.size)) = some (some (.agg #[.slice none 0 0, .int .i64 0, .int .i64 0]), 3) := by kernel_rfl
theorem zero_T (w : World) : (zeroValue 41).run Try.prog w = .ok (.agg zT.toArray) w := by
  have := (zero_of_info Try.infoTok2).1 w
  rw [this]
  rfl
theorem size_T (t : Tv) : (Try.prog.info? 41).map (·.size) = some t.cells.length := Try.sizeTok
theorem load_T {W : World} {b o i : Nat} {t : Tv} (hc : ∀ j v, j < 3 → t.cells[j]? = some v → W.cell? ⟨b, o + (3 * i + j), none⟩ = some v) (q : Nat) (hq : q = o + 3 * i) : (loadVar 41 ⟨b, q, none⟩).run Try.prog W = .ok (.agg t.cells.toArray) W := by
  subst hq
  refine run_loadVar_mid (P := Try.prog) W b _ 41 t.cells _ (fun j v hv => ?_) Try.undTok rfl (size_T t)
  rw [Nat.add_assoc]
  exact hc j v (List.getElem?_eq_some_iff.1 hv).1 hv
theorem load_T0 {W : World} {g : Nat} {t : Tv} (h : Blk W g 41 t.cells) : (loadVar 41 ⟨g, 0, none⟩).run Try.prog W = .ok (.agg t.cells.toArray) W :=
  run_loadVar_row (P := Try.prog) W g 41 41 t.cells.toArray (0, 0) _ h Try.undTok rfl (by simpa using size_T t)

def lenV : Value → Nat
  | .slice _ n _ => n
  | _ => 0
theorem own_ne {w : World} {base g : Nat} {e t : TypeId} {v : Value} {k : List UInt8} {cs : List Value} (h : OwnB w base e v k) (hB : Blk w g t cs) (hne : e ≠ t) : some g ≠ v.ownBlock := by
  intro he
  rcases h.2 with ⟨rfl, _⟩ | ⟨g', cap, cur, rfl, _, hg', _⟩
  · cases he
  · obtain rfl : g = g' := by simpa [Value.ownBlock] using he
    unfold Blk at hB
    rw [hB] at hg'
    simp only [Option.some.injEq, Obj.cells.injEq] at hg'
    exact hne hg'.2.1.symm
end Go.Proofs.Ytjapohddfelgkaa
