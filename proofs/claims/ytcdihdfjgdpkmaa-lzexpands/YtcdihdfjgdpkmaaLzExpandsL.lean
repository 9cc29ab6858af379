/-
  LzExpands: for every list of tokens, bound and token the law returns true and leaves its arguments as they were. No condition.
-/
import Derived.Test.YtcdihdfjgdpkmaaLzExpandsW
import Derived.Test.YtcdihdfjgdpkmaaTokO
import Derived.Test.YtcdihdfjgdpkmaaLaw
import Derived.Test.YtcdihdfjgdpkmaaOwn
import Derived.Test.YtcdihdfjgdpkmaaLzG
set_option maxRecDepth 100000
namespace Go.Proofs.Ytcdihdfjgdpkmaa
open Go.ChangeShapes Go.WideShapes Go.ChangeAt Go.RowKit Go.Gar

set_option maxRecDepth 100000 in
theorem lzexpands_lifted (os : Os) (started : os.Started) (H : Type) (enc : TypeId × Value → H) :
    ReturnsInHanded {} Try.checked os 4 .any (Rows.lzExpandsSpec.pre6 enc Try.prog Try.f4 Rows.lzExpandsRow.domain false) (Rows.lzExpandsSpec.post enc Try.prog Try.f4 false true false false) := by
  refine returnsInHanded_of_change (C := Try.checked) own started (by kernel_rfl) Try.func4
    (ChangeSpec.witness6 (enc := enc) (C := Try.checked) false ⟨#[], #[.slice none 0 0, .int .i64 0, .agg #[.slice none 0 0, .int .i64 0, .int .i64 0]], []⟩ 8 (by kernel_rfl) (by kernel_rfl) (by kernel_rfl) (by kernel_rfl)) ?_
  intro W base args ds gs before hval0 hW hcnd _
  have hval : ∀ (j : Nat) t v, Try.f4.params[j]? = some t → args[j]? = some v → Value.okWide Try.prog W .any base t v := hval0
  have hW' := hW
  obtain ⟨p, q, hA0, hV, rfl, hfz, hnd⟩ := hW
  have hA : DataW.TrodAll enc Try.prog W 0 (fun _ => true) true Try.f4.params.toList args.toList ds p := hA0
  rw [Try.params4] at hA hval
  obtain ⟨v0, vs0, d0, ds0, p0, q0, hargs, rfl, rfl, h0, r0⟩ := trodAll_cons hA
  obtain ⟨v1, vs1, d1, ds1, p1, q1, rfl, rfl, rfl, h1, r1⟩ := trodAll_cons r0
  obtain ⟨v2, vs2, d2, ds2, p2, q2, rfl, rfl, rfl, h2, r2⟩ := trodAll_cons r1
  obtain ⟨rfl, rfl, rfl⟩ := trodAll_nil r2
  obtain rfl : args = #[v0, v1, v2] := by cases args; simp_all
  obtain ⟨rfl, rfl⟩ := trodVars_none hV
  obtain ⟨A0, ts, k0, rfl, hc0, r0', i0⟩ := open_tokens (hval 0 25 v0 rfl rfl) h0
  obtain ⟨most, rfl, _, _, hmw⟩ := open_int Try.underlying3 (hval 1 3 v1 rfl rfl) h1
  obtain ⟨t, rfl, _, _, it1, it2⟩ := open_token (hval 2 30 v2 rfl rfl) h2
  refine (lzexpands_walk lzOK A0 (ts.take 60) t ts.length k0 _ most W trivial hc0 rfl (by rw [List.length_take]; omega) (r0'.take 60) (bounds_i64 hmw) (fun x hx => i0 x (List.mem_of_mem_take hx)) ⟨it1, it2⟩).mono fun e W' ⟨he, hb⟩ => ?_
  subst he
  exact ⟨_, rfl, law_post laid (by kernel_rfl) rfl (by kernel_rfl) Try.underlying4 hW' rfl hb⟩

theorem lzexpands_holds : Rows.LzExpandsSaid :=
  OpenClaim.holds_of_wide 4 Try.f4 rfl rfl rfl rfl rfl rfl rfl ⟨rfl, rfl, rfl, rfl, rfl⟩ rfl rfl rfl rfl rfl (by kernel_rfl) Try.func4 (by kernel_rfl)
    (of_decide_eq_true (by kernel_rfl)) (by unfold Func.isWrapper; first | (rw [if_pos (by decide +kernel)]; kernel_rfl) | (rw [if_neg (by decide +kernel)]; exact ⟨rfl, rfl⟩))
    (fun os started H enc _ => lzexpands_lifted os started H enc)
#print axioms lzexpands_holds
end Go.Proofs.Ytcdihdfjgdpkmaa
