/-
  WrapBack: Wrap and Unwrap are inverse to each other, for every input; the package-level variable of wrap is tied to the text (a card).
-/
import Derived.Test.YtbcagjndbfpecaaDoorWrapDoor
import Derived.Test.YtbcagjndbfpecaaDoorLaw
import Derived.Test.YtbcagjndbfpecaaDoorOpenU8
import Derived.Test.YtbcagjndbfpecaaDoorWrapBackW
import Derived.Test.YtbcagjndbfpecaaDoorOwn
import Derived.Test.YtbcagjndbfpecaaDoorCards
import Derived.Test.YtbcagjndbfpecaaDoorTie
import Derived.LaidMore
import Derived.Stop.Joined
import Derived.OpenShut
import Derived.ProofKit
import Derived.SevenTiedAt
namespace Go.Proofs.YtbcagjndbfpecaaDoor
open Go.ChangeShapes Go.WideShapes Go.ChangeAt Go.WideMaps Go.WideElems Go.RowKit Go.Gar


theorem door_met_wrapback (os : Os) (args : Array Value) : laidMetH Tryd.prog Rows.wrapBackRow.laid ((World.doorLaid Tryd.prog 400 os).forCall (fun _ _ => 0) ⟨#[], args, []⟩).memory :=
  laidMetH_of_parts3 (fuel := 8) (laidMet_of_run' 8 (by kernel_rfl) (by kernel_rfl)) (by kernel_rfl) (by kernel_rfl)
set_option maxRecDepth 100000 in
theorem wrapback_lifted (os : Os) (started : os.Started) (H : Type) (enc : TypeId × Value → H) :
    ReturnsInHanded {} Tryd.checked os 5 .any (fun w args => (Rows.wrapBackSpec.pre enc Tryd.prog Tryd.f5 [] false w args ∧ laidMetH Tryd.prog Rows.wrapBackRow.laid w) ∧ sizedMet enc Tryd.prog Tryd.f5 (OpenSpec.ofChange Rows.wrapBackSpec) false w args)
      (Rows.wrapBackSpec.post enc Tryd.prog Tryd.f5 false true false false) := by
  refine returnsInHanded_of_change_and (C := Tryd.checked) (X := fun w _ => laidMetH Tryd.prog Rows.wrapBackRow.laid w) (fun _ _ _ hh h => h.of_heap hh) own started (by kernel_rfl) Tryd.func5
    (ChangeSpec.witness_shaped (enc := enc) (C := Tryd.checked) (os := os) (X := fun w _ => laidMetH Tryd.prog Rows.wrapBackRow.laid w) false (World.doorLaid Tryd.prog 400 os) #[.slice none 0 0, .int .u8 0, .slice none 0 0, .slice none 0 0] 8 rfl (World.shaped_of_RefB (by kernel_rfl) (by kernel_rfl)) (by kernel_rfl) (by kernel_rfl) (by kernel_rfl) (door_met_wrapback os _)) ?_
  intro W base args ds gs before hval0 hW _ _ hL _
  have hval : ∀ (j : Nat) t v, Tryd.f5.params[j]? = some t → args[j]? = some v → Value.okWide Tryd.prog W .any base t v := hval0
  have hW' := hW
  obtain ⟨p, q, hA0, hV, rfl, hfz, hnd⟩ := hW
  have hA : DataW.TrodAll enc Tryd.prog W 0 (fun _ => true) true Tryd.f5.params.toList args.toList ds p := hA0
  rw [Tryd.params5] at hA hval
  obtain ⟨v0, vs0, d0, ds0, p0, q0, hargs, rfl, rfl, h0, r0⟩ := trodAll_cons hA
  obtain ⟨v1, vs1, d1, ds1, p1, q1, rfl, rfl, rfl, h1, r1⟩ := trodAll_cons r0
  obtain ⟨v2, vs2, d2, ds2, p2, q2, rfl, rfl, rfl, h2, r2⟩ := trodAll_cons r1
  obtain ⟨v3, vs3, d3, ds3, p3, q3, rfl, rfl, rfl, h3, r3⟩ := trodAll_cons r2
  obtain ⟨rfl, rfl, rfl⟩ := trodAll_nil r3
  obtain rfl : args = #[v0, v1, v2, v3] := by cases args; simp_all
  obtain ⟨rfl, rfl⟩ := trodVars_none hV
  obtain ⟨A1, l1, k1, rfl, hc1, s1⟩ := open_bytes Tryd.und22 Tryd.und5 (by kernel_rfl) (hval 0 22 v0 rfl rfl) h0
  obtain ⟨n1, hn1, rfl⟩ := open_u8 (hval 1 5 v1 rfl rfl) h1
  obtain ⟨A3, l3, k3, rfl, hc3, s3⟩ := open_bytes Tryd.und22 Tryd.und5 (by kernel_rfl) (hval 2 22 v2 rfl rfl) h2
  obtain ⟨A4, l4, k4, rfl, hc4, s4⟩ := open_bytes Tryd.und22 Tryd.und5 (by kernel_rfl) (hval 3 22 v3 rfl rfl) h3
  refine (wrapback_walk wrapOK A1 A3 A4 l1 l3 l4 (l3.take 300) (l4.take 300) k1 k3 k4 n1 _ (min l3.length 300) (min l4.length 300) W (of_laidK hL) hc3 hc4 (by rw [List.length_take]; omega) (by rw [List.length_take]; omega) rfl rfl rfl hn1 s1 (s3.take 300) (s4.take 300)).mono fun e W' ⟨he, hb⟩ => ?_
  subst he
  exact ⟨_, rfl, law_post laid (by kernel_rfl) rfl (by kernel_rfl) Tryd.underlying4 hW' rfl hb⟩
theorem wrapback_row : Rows.WrapBackSaid :=
  OpenClaim.holds_of_wide 5 Tryd.f5 rfl rfl rfl rfl rfl rfl rfl ⟨rfl, rfl, rfl, rfl, rfl⟩ rfl rfl rfl rfl rfl (by kernel_rfl) Tryd.func5 (by kernel_rfl)
    (of_decide_eq_true (by kernel_rfl)) (by unfold Func.isWrapper; first | (rw [if_pos (by decide +kernel)]; kernel_rfl) | (rw [if_neg (by decide +kernel)]; exact ⟨rfl, rfl⟩))
    (fun os started H enc _ => wrapback_lifted os started H enc)
theorem wrapback_holds : Rows.WrapBackCardSaid :=
  Claim7.holds_tied_plain_at .later [] [.data] true Rows.wrapBackCard.stood.harness false
    (wrapback_row) (fun _ h => by cases h) (by kernel_rfl) (fun _ h => by cases h) wrapBack_row_tie rfl ⟨rfl, rfl⟩ (by kernel_rfl) rfl
    (fun f fn hf hfn => by
      obtain rfl : f = 5 := Option.some.inj ((show Tryd.prog.funcNamed Rows.wrapBackRow.func = some 5 by kernel_rfl).symm.trans hf) |>.symm
      obtain rfl : fn = Tryd.f5 := (Option.some.inj (Tryd.func5.symm.trans hfn)).symm
      exact ⟨by kernel_rfl, fun j t ht => by
        rw [Tryd.params5] at ht
        have h3 : t = 22 ∨ t = 5 := by
          rcases j with _ | _ | _ | _ | j
          · left; simpa using ht.symm
          · right; simpa using ht.symm
          · left; simpa using ht.symm
          · left; simpa using ht.symm
          · simp at ht
        rcases h3 with rfl | rfl
        · exact (show Tryd.prog.wantsStandIn 22 = false by kernel_rfl)
        · exact (show Tryd.prog.wantsStandIn 5 = false by kernel_rfl)⟩)
    (by kernel_rfl)
end Go.Proofs.YtbcagjndbfpecaaDoor
