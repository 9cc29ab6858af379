/-
  CbcFill: for every key, iv and last block the law returns true and leaves its arguments as they were. No condition.
-/
import Derived.Test.YtannplgookgipaaCbcFillW
import Derived.Test.YtannplgookgipaaCbZ
import Derived.Test.YtannplgookgipaaOpenU8
import Derived.Test.YtannplgookgipaaCbcM
namespace Go.Proofs.Ytannplgookgipaa
open Go.ChangeShapes Go.WideShapes Go.ChangeAt Go.RowKit Go.Gar Go.Gar.Aes

set_option maxRecDepth 100000 in
theorem cbcfill_lifted (os : Os) (started : os.Started) (H : Type) (enc : TypeId × Value → H) :
    ReturnsInHanded {} Try.checked os 6 .any (Rows.cbcFillSpec.pre6 enc Try.prog Try.f6 Rows.cbcFillRow.domain false) (Rows.cbcFillSpec.post enc Try.prog Try.f6 false true false false) := by
  refine returnsInHanded_of_change (C := Try.checked) own started (by kernel_rfl) Try.func6
    (ChangeSpec.witness6 (enc := enc) (C := Try.checked) false ⟨#[], #[.slice none 0 0, .agg (Array.replicate 16 (.int .u8 0)), .agg (Array.replicate 16 (.int .u8 0))], []⟩ 8 (by kernel_rfl) (by kernel_rfl) (by kernel_rfl) (by kernel_rfl)) ?_
  intro W base args ds gs before hval0 hW hcnd _
  have hval : ∀ (j : Nat) t v, Try.f6.params[j]? = some t → args[j]? = some v → Value.okWide Try.prog W .any base t v := hval0
  have hW' := hW
  obtain ⟨p, q, hA0, hV, rfl, hfz, hnd⟩ := hW
  have hA : DataW.TrodAll enc Try.prog W 0 (fun _ => true) true Try.f6.params.toList args.toList ds p := hA0
  rw [Try.params6] at hA hval
  obtain ⟨v0, vs0, d0, ds0, p0, q0, hargs, rfl, rfl, h0, r0⟩ := trodAll_cons hA
  obtain ⟨v1, vs1, d1, ds1, p1, q1, rfl, rfl, rfl, h1, r1⟩ := trodAll_cons r0
  obtain ⟨v2, vs2, d2, ds2, p2, q2, rfl, rfl, rfl, h2, r2⟩ := trodAll_cons r1
  obtain ⟨rfl, rfl, rfl⟩ := trodAll_nil r2
  obtain rfl : args = #[v0, v1, v2] := by cases args; simp_all
  obtain ⟨rfl, rfl⟩ := trodVars_none hV
  obtain ⟨A0, l0, k0, rfl, hc0, s0⟩ := open_bytes Try.und22 Try.und5 (by kernel_rfl) (hval 0 22 v0 rfl rfl) h0
  obtain ⟨l1, hl1, rfl⟩ := open_arr Try.und16 Try.und5 Try.cells5 Try.cells16 (hval 1 23 v1 rfl rfl) h1
  obtain ⟨l2, hl2, rfl⟩ := open_arr Try.und16 Try.und5 Try.cells5 Try.cells16 (hval 2 23 v2 rfl rfl) h2
  refine (cbcfill_walk cbcOK refEnc_room A0 l0 l1 l2 k0 _ _ W rfl rfl hl1 hl2 s0).mono fun e W' ⟨he, hb⟩ => ?_
  subst he
  exact ⟨_, rfl, law_post laid (by kernel_rfl) rfl (by kernel_rfl) Try.underlying4 hW' rfl hb⟩

theorem cbcfill_holds : Rows.CbcFillSaid :=
  OpenClaim.holds_of_wide 6 Try.f6 rfl rfl rfl rfl rfl rfl rfl ⟨rfl, rfl, rfl, rfl, rfl⟩ rfl rfl rfl rfl rfl (by kernel_rfl) Try.func6 (by kernel_rfl)
    (of_decide_eq_true (by kernel_rfl)) (by unfold Func.isWrapper; first | (rw [if_pos (by decide +kernel)]; kernel_rfl) | (rw [if_neg (by decide +kernel)]; exact ⟨rfl, rfl⟩))
    (fun os started H enc _ => cbcfill_lifted os started H enc)
#print axioms cbcfill_holds
end Go.Proofs.Ytannplgookgipaa
