/-
  DiskFlushed: for every list of deeds, a deed and every crash the law returns true and leaves its arguments as they were. No condition.
-/
import Derived.Test.YtampdfmakhdliaaDiskJ08
import Derived.Test.YtampdfmakhdliaaDiskJ04
import Derived.Test.YtampdfmakhdliaaDiskJ13
set_option maxRecDepth 100000
namespace Go.Proofs.Ytampdfmakhdliaa
open Go.ChangeShapes Go.WideShapes Go.ChangeAt Go.RowKit Go.Gar
open Go.Gar.Dsk (Dsk)

set_option maxRecDepth 100000 in
theorem diskflushed_lifted (os : Os) (started : os.Started) (H : Type) (enc : TypeId × Value → H) :
    ReturnsInHanded {} Try.checked os 5 .any (Rows.diskFlushedSpec.pre6 enc Try.prog Try.f5 Rows.diskFlushedRow.domain false) (Rows.diskFlushedSpec.post enc Try.prog Try.f5 false true false false) := by
  refine returnsInHanded_of_change (C := Try.checked) own started (by kernel_rfl) Try.func5
    (ChangeSpec.witness6 (enc := enc) (C := Try.checked) false ⟨#[], #[.slice none 0 0, .agg #[.int .u8 0, .int .i64 0, .int .u8 0, .int .i64 0, .int .i64 0], .int .i64 0, .int .i64 0, .int .i64 0], []⟩ 8 (by kernel_rfl) (by kernel_rfl) (by kernel_rfl) (by kernel_rfl)) ?_
  intro W base args ds gs before hval0 hW hcnd _
  have hval : ∀ (j : Nat) t v, Try.f5.params[j]? = some t → args[j]? = some v → Value.okWide Try.prog W .any base t v := hval0
  have hW' := hW
  obtain ⟨p, q, hA0, hV, rfl, hfz, hnd⟩ := hW
  have hA : DataW.TrodAll enc Try.prog W 0 (fun _ => true) true Try.f5.params.toList args.toList ds p := hA0
  rw [Try.params5] at hA hval
  obtain ⟨v0, vs0, d0, ds0, p0, q0, hargs, rfl, rfl, h0, r0⟩ := trodAll_cons hA
  obtain ⟨v1, vs1, d1, ds1, p1, q1, rfl, rfl, rfl, h1, r1⟩ := trodAll_cons r0
  obtain ⟨v2, vs2, d2, ds2, p2, q2, rfl, rfl, rfl, h2, r2⟩ := trodAll_cons r1
  obtain ⟨v3, vs3, d3, ds3, p3, q3, rfl, rfl, rfl, h3, r3⟩ := trodAll_cons r2
  obtain ⟨v4, vs4, d4, ds4, p4, q4, rfl, rfl, rfl, h4, r4⟩ := trodAll_cons r3
  obtain ⟨rfl, rfl, rfl⟩ := trodAll_nil r4
  obtain rfl : args = #[v0, v1, v2, v3, v4] := by cases args; simp_all
  obtain ⟨rfl, rfl⟩ := trodVars_none hV
  obtain ⟨A0, ds0, k0, rfl, hc0, r0', i0⟩ := open_deeds (hval 0 22 v0 rfl rfl) h0
  obtain ⟨t1, rfl, i1⟩ := open_deed (hval 1 34 v1 rfl rfl) h1
  obtain ⟨keep, rfl, _, _, w2'⟩ := open_int Try.undDi (hval 2 3 v2 rfl rfl) h2
  obtain ⟨torn, rfl, _, _, w3'⟩ := open_int Try.undDi (hval 3 3 v3 rfl rfl) h3
  obtain ⟨cut, rfl, _, _, w4'⟩ := open_int Try.undDi (hval 4 3 v4 rfl rfl) h4
  refine (diskflushed_walk diskOK A0 ds0 t1 keep torn cut _ k0 rfl W r0' i0 i1 (bounds_i64 w2') (bounds_i64 w3') (bounds_i64 w4')).mono fun e W' ⟨he, hb⟩ => ?_
  subst he
  exact ⟨_, rfl, law_post laid (by kernel_rfl) rfl (by kernel_rfl) Try.underlying4 hW' rfl hb⟩

theorem diskflushed_holds : Rows.DiskFlushedSaid :=
  OpenClaim.holds_of_wide 5 Try.f5 rfl rfl rfl rfl rfl rfl rfl ⟨rfl, rfl, rfl, rfl, rfl⟩ rfl rfl rfl rfl rfl (by kernel_rfl) Try.func5 (by kernel_rfl)
    (of_decide_eq_true (by kernel_rfl)) (by unfold Func.isWrapper; first | (rw [if_pos (by decide +kernel)]; kernel_rfl) | (rw [if_neg (by decide +kernel)]; exact ⟨rfl, rfl⟩))
    (fun os started H enc _ => diskflushed_lifted os started H enc)
#print axioms diskflushed_holds
end Go.Proofs.Ytampdfmakhdliaa
