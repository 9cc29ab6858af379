/-
  SealSpoilt: whatever is done to sealed bytes, they are opened as they were, refused, or have a tag of their own, for every input; the package-level table of sha is tied to the text (a card).
-/
import Derived.Test.YtjhkodmaalefiaaDoorSealJ10
import Derived.Test.YtjhkodmaalefiaaDoorSealJ34
import Derived.Test.YtjhkodmaalefiaaDoorSealSpoiltWj
import Derived.Test.YtjhkodmaalefiaaDoorSealJ08
import Derived.Test.YtjhkodmaalefiaaDoorCards
import Derived.Test.YtjhkodmaalefiaaDoorTie
import Derived.LaidMore
import Derived.Stop.Joined
import Derived.OpenShut
import Derived.ProofKit
import Derived.SevenTiedAt
set_option maxRecDepth 100000
namespace Go.Proofs.YtjhkodmaalefiaaDoor
open Go.ChangeShapes Go.WideShapes Go.ChangeAt Go.WideMaps Go.WideElems Go.RowKit Go.Gar


theorem door_met_sealspoilt (os : Os) (args : Array Value) : laidMetH Tryd.prog Rows.sealSpoiltRow.laid ((World.doorLaid Tryd.prog 400 os).forCall (fun _ _ => 0) ⟨#[], args, []⟩).memory :=
  laidMetH_of_parts3 (fuel := 8) (laidMet_of_run' 8 (by kernel_rfl) (by kernel_rfl)) (by kernel_rfl) (by kernel_rfl)
set_option maxRecDepth 100000 in
theorem sealspoilt_lifted (os : Os) (started : os.Started) (H : Type) (enc : TypeId × Value → H) :
    ReturnsInHanded {} Tryd.checked os 6 .any (fun w args => (Rows.sealSpoiltSpec.pre enc Tryd.prog Tryd.f6 [] false w args ∧ laidMetH Tryd.prog Rows.sealSpoiltRow.laid w) ∧ sizedMet enc Tryd.prog Tryd.f6 (OpenSpec.ofChange Rows.sealSpoiltSpec) false w args)
      (Rows.sealSpoiltSpec.post enc Tryd.prog Tryd.f6 false true false false) := by
  refine returnsInHanded_of_change_and (C := Tryd.checked) (X := fun w _ => laidMetH Tryd.prog Rows.sealSpoiltRow.laid w) (fun _ _ _ hh h => h.of_heap hh) own started (by kernel_rfl) Tryd.func6
    (ChangeSpec.witness_shaped (enc := enc) (C := Tryd.checked) (os := os) (X := fun w _ => laidMetH Tryd.prog Rows.sealSpoiltRow.laid w) false (World.doorLaid Tryd.prog 400 os) #[.agg (u8s (List.replicate 64 0)).toArray, .agg (u8s (List.replicate 16 0)).toArray, .int .i64 0, .int .i64 0, .slice none 0 0, .slice none 0 0, .int .u16 0, .int .u8 0] 8 rfl (World.shaped_of_RefB (by kernel_rfl) (by kernel_rfl)) (by kernel_rfl) (by kernel_rfl) (by kernel_rfl) (door_met_sealspoilt os _)) ?_
  intro W base args ds gs before hval0 hW _ hS hL _
  have hval : ∀ (j : Nat) t v, Tryd.f6.params[j]? = some t → args[j]? = some v → Value.okWide Tryd.prog W .any base t v := hval0
  have hW' := hW
  obtain ⟨p, q, hA0, hV, rfl, hfz, hnd⟩ := hW
  have hA : DataW.TrodAll enc Tryd.prog W 0 (fun _ => true) true Tryd.f6.params.toList args.toList ds p := hA0
  rw [Tryd.params6] at hA hval
  obtain ⟨v0, vs0, d0, ds0, p0, q0, hargs, rfl, rfl, h0, r0⟩ := trodAll_cons hA
  obtain ⟨v1, vs1, d1, ds1, p1, q1, rfl, rfl, rfl, h1, r1⟩ := trodAll_cons r0
  obtain ⟨v2, vs2, d2, ds2, p2, q2, rfl, rfl, rfl, h2, r2⟩ := trodAll_cons r1
  obtain ⟨v3, vs3, d3, ds3, p3, q3, rfl, rfl, rfl, h3, r3⟩ := trodAll_cons r2
  obtain ⟨v4, vs4, d4, ds4, p4, q4, rfl, rfl, rfl, h4, r4⟩ := trodAll_cons r3
  obtain ⟨v5, vs5, d5, ds5, p5, q5, rfl, rfl, rfl, h5, r5⟩ := trodAll_cons r4
  obtain ⟨v6, vs6, d6, ds6, p6, q6, rfl, rfl, rfl, h6, r6⟩ := trodAll_cons r5
  obtain ⟨v7, vs7, d7, ds7, p7, q7, rfl, rfl, rfl, h7, r7⟩ := trodAll_cons r6
  obtain ⟨rfl, rfl, rfl⟩ := trodAll_nil r7
  obtain rfl : args = #[v0, v1, v2, v3, v4, v5, v6, v7] := by cases args; simp_all
  obtain ⟨rfl, rfl⟩ := trodVars_none hV
  obtain ⟨kl, hkl, rfl⟩ := open_keys (hval 0 24 v0 rfl rfl) h0
  obtain ⟨iv, hiv, rfl⟩ := open_arr Tryd.und16 Tryd.und5 (by kernel_rfl) (by kernel_rfl) (hval 1 25 v1 rfl rfl) h1
  obtain ⟨id, hid, rfl⟩ := open_i64 (hval 2 3 v2 rfl rfl) h2
  obtain ⟨gen, hgen, rfl⟩ := open_i64 (hval 3 3 v3 rfl rfl) h3
  obtain ⟨A, l, c, rfl, hc, s⟩ := open_bytes Tryd.und22 Tryd.und5 (by kernel_rfl) (hval 4 26 v4 rfl rfl) h4
  obtain ⟨P, p, pc, rfl, hpc, sp⟩ := open_bytes Tryd.und22 Tryd.und5 (by kernel_rfl) (hval 5 26 v5 rfl rfl) h5
  obtain ⟨at_, hat, rfl⟩ := open_w16 (by kernel_rfl) (hval 6 47 v6 rfl rfl) h6
  obtain ⟨z, rfl⟩ := open_z8 (hval 7 5 v7 rfl rfl) h7
  have hpr := bytes_reach Tryd.und22 Tryd.und5 (by kernel_rfl) (by kernel_rfl) h5 (weights_at _ _ hS 5 26 d5 (by kernel_rfl) rfl)
  refine (sealspoilt_walk sealOK macOK A P p _ pc at_ z l (l.take 200) kl iv id gen c _ W (of_laidD hL) hkl hiv hid hgen hc rfl (by rw [List.length_take]; omega) (s.take 200) rfl (by omega) hat sp).mono fun e W' ⟨he, hb⟩ => ?_
  subst he
  exact ⟨_, rfl, law_post laid (by kernel_rfl) rfl (by kernel_rfl) Tryd.underlying4 hW' rfl hb⟩
theorem sealspoilt_row : Rows.SealSpoiltSaid :=
  OpenClaim.holds_of_wide 6 Tryd.f6 rfl rfl rfl rfl rfl rfl rfl ⟨rfl, rfl, rfl, rfl, rfl⟩ rfl rfl rfl rfl rfl (by kernel_rfl) Tryd.func6 (by kernel_rfl)
    (of_decide_eq_true (by kernel_rfl)) (by unfold Func.isWrapper; first | (rw [if_pos (by decide +kernel)]; kernel_rfl) | (rw [if_neg (by decide +kernel)]; exact ⟨rfl, rfl⟩))
    (fun os started H enc _ => sealspoilt_lifted os started H enc)
theorem sealspoilt_holds : Rows.SealSpoiltCardSaid :=
  Claim7.holds_tied_plain_at .later [] [.data] true Rows.sealSpoiltCard.stood.harness false
    (sealspoilt_row) (fun _ h => by cases h) (by kernel_rfl) (fun _ h => by cases h) sealSpoilt_row_tie rfl ⟨rfl, rfl⟩ (by kernel_rfl) rfl
    (fun f fn hf hfn => by
      obtain rfl : f = 6 := Option.some.inj ((show Tryd.prog.funcNamed Rows.sealSpoiltRow.func = some 6 by kernel_rfl).symm.trans hf) |>.symm
      obtain rfl : fn = Tryd.f6 := (Option.some.inj (Tryd.func6.symm.trans hfn)).symm
      exact ⟨by kernel_rfl, fun j t ht => by
        rw [Tryd.params6] at ht
        have h3 : t = 25 ∨ t = 26 ∨ t = 24 ∨ t = 3 ∨ t = 47 ∨ t = 5 := by
          rcases j with _ | _ | _ | _ | _ | _ | _ | _ | j
          · right; right; left; simpa using ht.symm
          · left; simpa using ht.symm
          · right; right; right; left; simpa using ht.symm
          · right; right; right; left; simpa using ht.symm
          · right; left; simpa using ht.symm
          · right; left; simpa using ht.symm
          · right; right; right; right; left; simpa using ht.symm
          · right; right; right; right; right; simpa using ht.symm
          · simp at ht
        rcases h3 with rfl | rfl | rfl | rfl | rfl | rfl
        · exact (show Tryd.prog.wantsStandIn 25 = false by kernel_rfl)
        · exact (show Tryd.prog.wantsStandIn 26 = false by kernel_rfl)
        · exact (show Tryd.prog.wantsStandIn 24 = false by kernel_rfl)
        · exact (show Tryd.prog.wantsStandIn 3 = false by kernel_rfl)
        · exact (show Tryd.prog.wantsStandIn 47 = false by kernel_rfl)
        · exact (show Tryd.prog.wantsStandIn 5 = false by kernel_rfl)⟩)
    (by kernel_rfl)
end Go.Proofs.YtjhkodmaalefiaaDoor
