/-
  DiskBurns: for every number and every list of deeds the law returns true and leaves its arguments as they were. No condition.
-/
import Derived.Test.YtampdfmakhdliaaDiskJ06
import Derived.Test.YtampdfmakhdliaaOpenU8j
import Derived.Test.YtampdfmakhdliaaDiskJ04
import Derived.Test.YtampdfmakhdliaaDiskJ13
set_option maxRecDepth 100000
namespace Go.Proofs.Ytampdfmakhdliaa
open Go.ChangeShapes Go.WideShapes Go.ChangeAt Go.RowKit Go.Gar
open Go.Gar.Dsk (Dsk)

set_option maxRecDepth 100000 in
theorem diskburns_lifted (os : Os) (started : os.Started) (H : Type) (enc : TypeId × Value → H) :
    ReturnsInHanded {} Try.checked os 6 .any (Rows.diskBurnsSpec.pre6 enc Try.prog Try.f6 Rows.diskBurnsRow.domain false) (Rows.diskBurnsSpec.post enc Try.prog Try.f6 false true false false) := by
  refine returnsInHanded_of_change (C := Try.checked) own started (by kernel_rfl) Try.func6
    (ChangeSpec.witness6 (enc := enc) (C := Try.checked) false ⟨#[], #[.int .u8 0, .slice none 0 0], []⟩ 8 (by kernel_rfl) (by kernel_rfl) (by kernel_rfl) (by kernel_rfl)) ?_
  intro W base args ds gs before hval0 hW hcnd _
  have hval : ∀ (j : Nat) t v, Try.f6.params[j]? = some t → args[j]? = some v → Value.okWide Try.prog W .any base t v := hval0
  have hW' := hW
  obtain ⟨p, q, hA0, hV, rfl, hfz, hnd⟩ := hW
  have hA : DataW.TrodAll enc Try.prog W 0 (fun _ => true) true Try.f6.params.toList args.toList ds p := hA0
  rw [Try.params6] at hA hval
  obtain ⟨v0, vs0, d0, ds0, p0, q0, hargs, rfl, rfl, h0, r0⟩ := trodAll_cons hA
  obtain ⟨v1, vs1, d1, ds1, p1, q1, rfl, rfl, rfl, h1, r1⟩ := trodAll_cons r0
  obtain ⟨rfl, rfl, rfl⟩ := trodAll_nil r1
  obtain rfl : args = #[v0, v1] := by cases args; simp_all
  obtain ⟨rfl, rfl⟩ := trodVars_none hV
  obtain ⟨y0, hy0, rfl⟩ := open_u8 (hval 0 5 v0 rfl rfl) h0
  obtain ⟨z0, rfl⟩ : ∃ z : UInt8, y0 = z.toNat := ⟨UInt8.ofNat y0, by simp; omega⟩
  obtain ⟨A1, ds1, k1, rfl, hc1, r1', i1⟩ := open_deeds (hval 1 22 v1 rfl rfl) h1
  refine (diskburns_walk diskOK z0 A1 ds1 _ k1 rfl W r1').mono fun e W' ⟨he, hb⟩ => ?_
  subst he
  exact ⟨_, rfl, law_post laid (by kernel_rfl) rfl (by kernel_rfl) Try.underlying4 hW' rfl hb⟩

theorem diskburns_holds : Rows.DiskBurnsSaid :=
  OpenClaim.holds_of_wide 6 Try.f6 rfl rfl rfl rfl rfl rfl rfl ⟨rfl, rfl, rfl, rfl, rfl⟩ rfl rfl rfl rfl rfl (by kernel_rfl) Try.func6 (by kernel_rfl)
    (of_decide_eq_true (by kernel_rfl)) (by unfold Func.isWrapper; first | (rw [if_pos (by decide +kernel)]; kernel_rfl) | (rw [if_neg (by decide +kernel)]; exact ⟨rfl, rfl⟩))
    (fun os started H enc _ => diskburns_lifted os started H enc)
#print axioms diskburns_holds
end Go.Proofs.Ytampdfmakhdliaa
