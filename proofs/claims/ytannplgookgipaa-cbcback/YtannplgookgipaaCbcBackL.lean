/-
  CbcBack: for every key, size, iv and two texts the law returns true and leaves its arguments as they were. No condition.
-/
import Derived.Test.YtannplgookgipaaCbcBackW
import Derived.Test.YtannplgookgipaaCbZ
import Derived.Test.YtannplgookgipaaOpenU8
import Derived.Test.YtannplgookgipaaCbcM
namespace Go.Proofs.Ytannplgookgipaa
open Go.ChangeShapes Go.WideShapes Go.ChangeAt Go.RowKit Go.Gar Go.Gar.Aes

set_option maxRecDepth 100000 in
theorem cbcback_lifted (os : Os) (started : os.Started) (H : Type) (enc : TypeId × Value → H) :
    ReturnsInHanded {} Try.checked os 5 .any (Rows.cbcBackSpec.pre6 enc Try.prog Try.f5 Rows.cbcBackRow.domain false) (Rows.cbcBackSpec.post enc Try.prog Try.f5 false true false false) := by
  refine returnsInHanded_of_change (C := Try.checked) own started (by kernel_rfl) Try.func5
    (ChangeSpec.witness6 (enc := enc) (C := Try.checked) false ⟨#[], #[.slice none 0 0, .int .u8 0, .agg (Array.replicate 16 (.int .u8 0)), .slice none 0 0, .slice none 0 0], []⟩ 8 (by kernel_rfl) (by kernel_rfl) (by kernel_rfl) (by kernel_rfl)) ?_
  intro W base args ds gs before hval0 hW hcnd _
  have hval : ∀ (j : Nat) t v, Try.f5.params[j]? = some t → args[j]? = some v → Value.okWide Try.prog W .any base t v := hval0
  have hW' := hW
  obtain ⟨p, q, hA0, hV, rfl, hfz, hnd⟩ := hW
  have hA : DataW.TrodAll enc Try.prog W 0 (fun _ => true) true Try.f5.params.toList args.toList ds p := hA0
  rw [Try.params5] at hA hval
  obtain ⟨v0, vs0, d0, ds0, p0, q0, hargs, rfl, rfl, h0, r0⟩ := trodAll_cons hA
  obtain ⟨v1, vs1, d1, ds1, p1, q1, rfl, rfl, rfl, h1, r1⟩ := trodAll_cons r0
  obtain ⟨v2, vs2, d2, ds2, p2, q2, rfl, rfl, rfl, h2, r2⟩ := trodAll_cons r1
  obtain ⟨v3, vs3, d3, ds3, p3, q3, rfl, rfl, rfl, h3, r3⟩ := trodAll_cons r2
  obtain ⟨v4, vs4, d4, ds4, p4, q4, rfl, rfl, rfl, h4, r4⟩ := trodAll_cons r3
  obtain ⟨rfl, rfl, rfl⟩ := trodAll_nil r4
  obtain rfl : args = #[v0, v1, v2, v3, v4] := by cases args; simp_all
  obtain ⟨rfl, rfl⟩ := trodVars_none hV
  obtain ⟨A0, l0, k0, rfl, hc0, s0⟩ := open_bytes Try.und22 Try.und5 (by kernel_rfl) (hval 0 22 v0 rfl rfl) h0
  obtain ⟨n1, hn1, rfl⟩ := open_u8 (hval 1 5 v1 rfl rfl) h1
  obtain ⟨l2, hl2, rfl⟩ := open_arr Try.und16 Try.und5 Try.cells5 Try.cells16 (hval 2 23 v2 rfl rfl) h2
  obtain ⟨A3, l3, k3, rfl, hc3, s3⟩ := open_bytes Try.und22 Try.und5 (by kernel_rfl) (hval 3 22 v3 rfl rfl) h3
  obtain ⟨A4, l4, k4, rfl, hc4, s4⟩ := open_bytes Try.und22 Try.und5 (by kernel_rfl) (hval 4 22 v4 rfl rfl) h4
  refine (cbcback_walk cbcOK A0 A3 A4 l0 l2 l3 l4 (l3.take 200) (l4.take 200) k0 k3 k4 n1 _ (min l3.length 200) (min l4.length 200) _ W rfl hl2 hc3 hc4 (by rw [List.length_take]; omega) (by rw [List.length_take]; omega) rfl rfl rfl hn1 s0 (s3.take 200) (s4.take 200)).mono fun e W' ⟨he, hb⟩ => ?_
  subst he
  exact ⟨_, rfl, law_post laid (by kernel_rfl) rfl (by kernel_rfl) Try.underlying4 hW' rfl hb⟩

theorem cbcback_holds : Rows.CbcBackSaid :=
  OpenClaim.holds_of_wide 5 Try.f5 rfl rfl rfl rfl rfl rfl rfl ⟨rfl, rfl, rfl, rfl, rfl⟩ rfl rfl rfl rfl rfl (by kernel_rfl) Try.func5 (by kernel_rfl)
    (of_decide_eq_true (by kernel_rfl)) (by unfold Func.isWrapper; first | (rw [if_pos (by decide +kernel)]; kernel_rfl) | (rw [if_neg (by decide +kernel)]; exact ⟨rfl, rfl⟩))
    (fun os started H enc _ => cbcback_lifted os started H enc)
#print axioms cbcback_holds
end Go.Proofs.Ytannplgookgipaa
