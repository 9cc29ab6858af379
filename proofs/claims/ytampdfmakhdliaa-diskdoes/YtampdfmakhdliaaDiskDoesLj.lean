/-
  DiskDoes: for every size and every list of deeds the law returns true and leaves its arguments as they were. No condition.
-/
import Derived.Test.YtampdfmakhdliaaDiskDoesWj
import Derived.Test.YtampdfmakhdliaaDiskJ04
import Derived.Test.YtampdfmakhdliaaDiskJ13
set_option maxRecDepth 100000
namespace Go.Proofs.Ytampdfmakhdliaa
open Go.ChangeShapes Go.WideShapes Go.ChangeAt Go.RowKit Go.Gar
open Go.Gar.Dsk (Dsk)

set_option maxRecDepth 100000 in
theorem diskdoes_lifted (os : Os) (started : os.Started) (H : Type) (enc : TypeId × Value → H) :
    ReturnsInHanded {} Try.checked os 3 .any (Rows.diskDoesSpec.pre6 enc Try.prog Try.f3 Rows.diskDoesRow.domain false) (Rows.diskDoesSpec.post enc Try.prog Try.f3 false true false false) := by
  refine returnsInHanded_of_change (C := Try.checked) own started (by kernel_rfl) Try.func3
    (ChangeSpec.witness6 (enc := enc) (C := Try.checked) false ⟨#[], #[.int .i64 0, .slice none 0 0], []⟩ 8 (by kernel_rfl) (by kernel_rfl) (by kernel_rfl) (by kernel_rfl)) ?_
  intro W base args ds gs before hval0 hW hcnd _
  have hval : ∀ (j : Nat) t v, Try.f3.params[j]? = some t → args[j]? = some v → Value.okWide Try.prog W .any base t v := hval0
  have hW' := hW
  obtain ⟨p, q, hA0, hV, rfl, hfz, hnd⟩ := hW
  have hA : DataW.TrodAll enc Try.prog W 0 (fun _ => true) true Try.f3.params.toList args.toList ds p := hA0
  rw [Try.params3] at hA hval
  obtain ⟨v0, vs0, d0, ds0, p0, q0, hargs, rfl, rfl, h0, r0⟩ := trodAll_cons hA
  obtain ⟨v1, vs1, d1, ds1, p1, q1, rfl, rfl, rfl, h1, r1⟩ := trodAll_cons r0
  obtain ⟨rfl, rfl, rfl⟩ := trodAll_nil r1
  obtain rfl : args = #[v0, v1] := by cases args; simp_all
  obtain ⟨rfl, rfl⟩ := trodVars_none hV
  obtain ⟨sectors, rfl, _, _, w0'⟩ := open_int Try.undDi (hval 0 3 v0 rfl rfl) h0
  obtain ⟨A1, ds1, k1, rfl, hc1, r1', i1⟩ := open_deeds (hval 1 22 v1 rfl rfl) h1
  refine (diskdoes_walk diskOK sectors A1 ds1 _ k1 rfl W r1' i1 (bounds_i64 w0')).mono fun e W' ⟨he, hb⟩ => ?_
  subst he
  exact ⟨_, rfl, law_post laid (by kernel_rfl) rfl (by kernel_rfl) Try.underlying4 hW' rfl hb⟩

theorem diskdoes_holds : Rows.DiskDoesSaid :=
  OpenClaim.holds_of_wide 3 Try.f3 rfl rfl rfl rfl rfl rfl rfl ⟨rfl, rfl, rfl, rfl, rfl⟩ rfl rfl rfl rfl rfl (by kernel_rfl) Try.func3 (by kernel_rfl)
    (of_decide_eq_true (by kernel_rfl)) (by unfold Func.isWrapper; first | (rw [if_pos (by decide +kernel)]; kernel_rfl) | (rw [if_neg (by decide +kernel)]; exact ⟨rfl, rfl⟩))
    (fun os started H enc _ => diskdoes_lifted os started H enc)
#print axioms diskdoes_holds
end Go.Proofs.Ytampdfmakhdliaa
