/-
  The package-level table of the landed sha: what it holds when the call begins.
-/
import Derived.Test.YtpaagjhohfjopaaDoorShGg
import Derived.Test.YtpaagjhohfjopaaDoorOwn
import Derived.Test.YtpaagjhohfjopaaDoorCards
import Derived.Test.YtpaagjhohfjopaaDoorTie
import Derived.LaidMore
import Derived.Stop.Joined
import Derived.OpenShut
import Derived.ProofKit
import Derived.SevenTiedAt
set_option maxRecDepth 100000
namespace Go.Proofs.YtpaagjhohfjopaaDoor
open Go.ChangeShapes Go.WideShapes Go.ChangeAt Go.WideMaps Go.WideElems Go.RowKit Go.Gar

/-- A listed table of 32-bit numbers: its cells. -/
theorem laid_u32 {P : Program} {W : World} {t e : TypeId} {n f : Nat} {cs : List Value} {l : List Nat} {p : List MemPlace} (ht : P.underlying t = some (.array n e)) (he : P.underlying e = some (.int .u32)) (hce : P.cellsOf e = 1)
    (h : DataW.trod (fun _ => ()) P W 0 (fun _ => true) false f t cs = some (.agg (l.map fun z : Nat => .lit (.int .u32 (z : Int))), p)) : ∀ i, i < l.length → cs[i]? = some (.int .u32 ((l.getD i 0 : Nat) : Int)) := by
  obtain ⟨xs, m, _, hx, _, hn, hall⟩ := DataW.trod_array ht h
  simp only [Prod.mk.injEq, DataW.agg.injEq] at hx
  have hlen : l.length = n := by
    have := congrArg List.length hx.1
    simpa [hn] using this
  intro i hi
  have h3 := hall i (by omega)
  rw [hce, Nat.mul_one, List.getElem?_eq_getElem (by omega)] at h3
  obtain ⟨q, hq, hx2, _⟩ := DataW.trod_int he h3
  have h5 : cs[i]? = some (.int .u32 q) := by
    have h6 : ((cs.drop i).take 1)[0]? = some (.int .u32 q) := by rw [hq]; rfl
    simpa using h6
  have h7 : (l.map fun z : Nat => (DataW.lit (.int .u32 (z : Int)) : DataW Unit))[i]? = some (.lit (.int .u32 q)) := by
    rw [hx.1, List.getElem?_map, List.getElem?_eq_getElem (by omega), hx2]; rfl
  rw [List.getElem?_map, List.getElem?_eq_getElem hi] at h7
  simp only [Option.map_some, Option.some.injEq, DataW.lit.injEq, Lit.int.injEq, true_and] at h7
  rw [h5, ← h7, List.getD_eq_getElem?_getD, List.getElem?_eq_getElem hi]
  rfl
theorem gK : Tryd.prog.globalNamed ((Rows.drawKeysRow.laid.map (·.1)).getD 0 default) = some 0 := by kernel_rfl
theorem tK : (Tryd.prog.globals[0]?).map (·.type) = some 67 := by kernel_rfl
theorem uK : Tryd.prog.underlying 67 = some (.array 64 44) := by kernel_rfl
theorem uU32 : Tryd.prog.underlying 44 = some (.int .u32) := by kernel_rfl
theorem cU32 : Tryd.prog.cellsOf 44 = 1 := by kernel_rfl
theorem dK : (Rows.laid_garderobe_sha_cubeRoots : DataW Unit) = .agg (Sha.kL.map fun z : Nat => .lit (.int .u32 (z : Int))) := rfl
theorem of_laidK {W : World} (h : laidMetH Tryd.prog Rows.drawKeysRow.laid W) : Gl W := by
  rw [MakeChecks.laidMetH_plain _ _ _ (by kernel_rfl)] at h
  obtain ⟨ps, ⟨g0, t0, cs0, f0, p0, q0, hg0, ht0, hv0, hd0, _, _⟩, _, _⟩ := h
  obtain rfl := Option.some.inj (gK.symm.trans hg0)
  obtain rfl := Option.some.inj (tK.symm.trans ht0)
  rw [dK] at hd0
  intro i hi
  rw [World.var?_cell hg0 hv0 i, ← Array.getElem?_toList]
  exact laid_u32 uK uU32 cU32 hd0 i hi

theorem gB : Tryd.prog.globalNamed ((Rows.drawBackRow.laid.map (·.1)).getD 0 default) = some 0 := by kernel_rfl
theorem of_laidB {W : World} (h : laidMetH Tryd.prog Rows.drawBackRow.laid W) : Gl W := by
  rw [MakeChecks.laidMetH_plain _ _ _ (by kernel_rfl)] at h
  obtain ⟨ps, ⟨g0, t0, cs0, f0, p0, q0, hg0, ht0, hv0, hd0, _, _⟩, _, _⟩ := h
  obtain rfl := Option.some.inj (gB.symm.trans hg0)
  obtain rfl := Option.some.inj (tK.symm.trans ht0)
  rw [dK] at hd0
  intro i hi
  rw [World.var?_cell hg0 hv0 i, ← Array.getElem?_toList]
  exact laid_u32 uK uU32 cU32 hd0 i hi

end Go.Proofs.YtpaagjhohfjopaaDoor
