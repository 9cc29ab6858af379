/-
  PackBack: for every two texts the law returns true and leaves its arguments as they were. No condition.
-/
import Derived.Test.YtjapohddfelgkaaPackBackWj
import Derived.Test.YtjapohddfelgkaaPackJ07
import Derived.Test.YtjapohddfelgkaaPackJ14
set_option maxRecDepth 100000
namespace Go.Proofs.Ytjapohddfelgkaa
open Go.ChangeShapes Go.WideShapes Go.ChangeAt Go.RowKit Go.Gar

set_option maxRecDepth 100000 in
theorem packback_lifted (os : Os) (started : os.Started) (H : Type) (enc : TypeId × Value → H) :
    ReturnsInHanded {} Try.checked os 5 .any (Rows.packBackSpec.pre6 enc Try.prog Try.f5 Rows.packBackRow.domain false) (Rows.packBackSpec.post enc Try.prog Try.f5 false true false false) := by
  refine returnsInHanded_of_change (C := Try.checked) own started (by kernel_rfl) Try.func5
    (ChangeSpec.witness6 (enc := enc) (C := Try.checked) false ⟨#[], #[.slice none 0 0, .slice none 0 0], []⟩ 8 (by kernel_rfl) (by kernel_rfl) (by kernel_rfl) (by kernel_rfl)) ?_
  intro W base args ds gs before hval0 hW hcnd _
  have hval : ∀ (j : Nat) t v, Try.f5.params[j]? = some t → args[j]? = some v → Value.okWide Try.prog W .any base t v := hval0
  have hW' := hW
  obtain ⟨p, q, hA0, hV, rfl, hfz, hnd⟩ := hW
  have hA : DataW.TrodAll enc Try.prog W 0 (fun _ => true) true Try.f5.params.toList args.toList ds p := hA0
  rw [Try.params5] at hA hval
  obtain ⟨v0, vs0, d0, ds0, p0, q0, hargs, rfl, rfl, h0, r0⟩ := trodAll_cons hA
  obtain ⟨v1, vs1, d1, ds1, p1, q1, rfl, rfl, rfl, h1, r1⟩ := trodAll_cons r0
  obtain ⟨rfl, rfl, rfl⟩ := trodAll_nil r1
  obtain rfl : args = #[v0, v1] := by cases args; simp_all
  obtain ⟨rfl, rfl⟩ := trodVars_none hV
  obtain ⟨A0, l0, k0, rfl, hc0, s0⟩ := open_bytes Try.und22 Try.und5 (by kernel_rfl) (hval 0 22 v0 rfl rfl) h0
  obtain ⟨A1, l1, k1, rfl, hc1, s1⟩ := open_bytes Try.und22 Try.und5 (by kernel_rfl) (hval 1 22 v1 rfl rfl) h1
  refine (packback_walk packOK A0 A1 (l0.take 1100) (l1.take 1100) l0.length k0 _ l1.length k1 _ W trivial hc0 rfl (by rw [List.length_take]; omega) (s0.take 1100) hc1 rfl (by rw [List.length_take]; omega) (s1.take 1100)).mono fun e W' ⟨he, hb⟩ => ?_
  subst he
  exact ⟨_, rfl, law_post laid (by kernel_rfl) rfl (by kernel_rfl) Try.underlying4 hW' rfl hb⟩

theorem packback_holds : Rows.PackBackSaid :=
  OpenClaim.holds_of_wide 5 Try.f5 rfl rfl rfl rfl rfl rfl rfl ⟨rfl, rfl, rfl, rfl, rfl⟩ rfl rfl rfl rfl rfl (by kernel_rfl) Try.func5 (by kernel_rfl)
    (of_decide_eq_true (by kernel_rfl)) (by unfold Func.isWrapper; first | (rw [if_pos (by decide +kernel)]; kernel_rfl) | (rw [if_neg (by decide +kernel)]; exact ⟨rfl, rfl⟩))
    (fun os started H enc _ => packback_lifted os started H enc)
#print axioms packback_holds
end Go.Proofs.Ytjapohddfelgkaa
