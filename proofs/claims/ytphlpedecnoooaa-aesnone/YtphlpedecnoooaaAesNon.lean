/-
  Layer 4: AesNone, walked from the contracts of aes's functions.
-/
import Derived.Test.YtphlpedecnoooaaAesLaw
import Derived.Deep.CutRange
namespace Go.Proofs.Ytphlpedecnoooaa
open Go.ChangeShapes Go.WideShapes Go.ChangeAt Go.RowKit Go.Gar Go.Gar.Aes

/-- What New answers, whichever key it is given. -/
theorem AesOK.new_any {Rep : World → Nat → List UInt8 → Prop} (h : AesOK Rep) (w : World) (A : Option Addr) (key : List UInt8) (cap : Nat) (hc : key.length ≤ cap) (hr : Rd w w.heap.size A key) (may : Bool) (hm : may = true ↔ sizeOk key.length) :
    Calls Try.prog 7 #[.slice A key.length cap] w fun e w' => ∃ p er, e = .returned (.tuple #[.pointer p, .int .i64 er]) ∧ (p.isSome = may) ∧ ((er == 1) = !may) ∧ ((er == 0) = may) ∧ Below w.heap.size w w' := by
  cases may with
  | true =>
    refine (h.new_yes w A key _ cap (hm.1 rfl) rfl hc hr).mono fun e w' he => ?_
    obtain ⟨gc, rfl, _, hb⟩ := he
    exact ⟨_, _, rfl, rfl, rfl, rfl, hb⟩
  | false =>
    refine (h.new_no w A _ cap (fun hs => by cases hm.2 hs)).mono fun e w' he => ?_
    obtain ⟨rfl, hb⟩ := he
    exact ⟨_, _, rfl, rfl, rfl, rfl, hb⟩

set_option maxHeartbeats 2000000 in
set_option maxRecDepth 100000 in
theorem aesnone_walk {Rep : World → Nat → List UInt8 → Prop} (hOK : AesOK Rep) (hA : ∀ w : World, Calls Try.prog 12 #[] w fun e w' => e = .returned (.bool true) ∧ Below w.heap.size w w')
    (w : World) (A : Option Addr) (key l : List UInt8) (cap : Nat) (x : Array Value) (hx : x = (u8s l).toArray) (hl : l.length = 16) (hc : key.length ≤ cap) (hr : Rd w w.heap.size A key) :
    Calls Try.prog 6 #[.agg x, .slice A key.length cap] w fun e w' => e = .returned (.bool true) ∧ Below w.heap.size w w' := by
  have HOK := Lib.hid hOK
  have HA := Lib.hid hA
  have HX := Lib.hid hx
  have HL := Lib.hid hl
  have HR := Lib.hid ((hr.below (below_alloc w (.cells x 23))).more (below_alloc w (.cells x 23)).size)
  have Hb0 := Lib.hid (below_alloc w (.cells x 23))
  have hB0 := Blk.new w 23 x.toList
  rw [Array.toArray_toList] at hB0
  have HB0 := Lib.hid hB0
  obtain ⟨may, hmay⟩ : ∃ may : Bool, may = true ↔ sizeOk key.length := ⟨decide (key.length = 16 ∨ key.length = 24 ∨ key.length = 32), by simp [sizeOk]⟩
  have HM := Lib.hid hmay
  clear hOK hA hx hl hr hB0 hmay
  go_enter Try.func6, Try.ntmps6
  go_wp2_with fail
  generalize w.alloc (.cells x 23) = w1 at HR Hb0 HB0 ⊢
  refine (HOK.out.new_any w1 A key cap hc HR.out may HM.out).mono ?_
  rintro e w2 ⟨p, er, rfl, hp, her1, her0, hb2⟩
  have HB2 := Lib.hid (HB0.out.below hb2 HB0.out.lt)
  have Hb2 := bb Hb0 hb2
  have HP := Lib.hid hp
  have HE1 := Lib.hid her1
  clear hp her1 her0 hb2 HB0 Hb0 HR
  go_upto_region 3 with fail
  go_cut [8] from 14 to 26 (fun t w' => t = .bool may ∧ w' = w2)
  case first =>
    have hm := HM.out
    unfold sizeOk at hm
    by_cases h1 : key.length = 16
    · have d1 : ((key.length : Int) == 16) = true := by rw [beq_iff_eq]; omega
      have hmt : may = true := hm.2 (.inl h1)
      clear hm h1
      subst hmt
      go_wp2
      go_meet
      case rel => exact ⟨rfl, rfl⟩
    · have d1 : ((key.length : Int) == 16) = false := by rw [beq_eq_false_iff_ne]; omega
      by_cases h2 : key.length = 24
      · have d2 : ((key.length : Int) == 24) = true := by rw [beq_iff_eq]; omega
        have hmt : may = true := hm.2 (.inr (.inl h2))
        clear hm h1 h2
        subst hmt
        go_wp2
        go_meet
        case rel => exact ⟨rfl, rfl⟩
      · have d2 : ((key.length : Int) == 24) = false := by rw [beq_eq_false_iff_ne]; omega
        have d3 : ((key.length : Int) == 32) = may := by
          rw [Bool.eq_iff_iff, hm, beq_iff_eq]
          omega
        clear hm h1 h2
        go_wp2
        go_meet
        case rel => exact ⟨rfl, rfl⟩
  case rest =>
    obtain ⟨rfl, rfl⟩ := hcut
    have HB3 := Lib.hid HB2.out.drew
    have Hb3 := Lib.hid Hb2.out.drew
    clear HB2 Hb2
    go_wp2_with fail
    refine wp_region_G grows (by kernel_rfl) ?_
    generalize wc.drew = wa at HB3 Hb3 ⊢
    refine oneG 0 28 rfl (by kernel_rfl) rfl ?_
    go_wp2_with fail
    refine (HA.out wa).mono ?_
    rintro e wb ⟨rfl, hb⟩
    have HB4 := Lib.hid (HB3.out.below hb HB3.out.lt)
    have Hb4 := bb Hb3 hb
    go_wp2
    refine ⟨hb, ?_⟩
    clear hb HB3 Hb3
    have HEQ := Lib.hid (eq16_at l l x x HX.out HX.out HL.out HL.out true (by simp))
    have HLD := Lib.hid (load16 l x HX.out HL.out HB4.out)
    refine segG (by kernel_rfl) (fun _ _ _ _ _ h => h) [1, 2, 3, 5] [_, _, _, _] 24 rfl rfl (by kernel_rfl) ?_
    repeat (go_big_quiet_step (fail))
    refine wpQuiet_load_arr 23 (.tmp 2) rfl rfl x HLD.out (by kernel_rfl) ?_
    simp only [Act.put, List.setIfInBounds_toArray, List.set]
    refine wpQuiet_load_arr 23 (.tmp 2) rfl rfl x HLD.out (by kernel_rfl) ?_
    simp only [Act.put, List.setIfInBounds_toArray, List.set]
    refine wpQuiet_nil ?_
    clear HLD
    refine oneG 4 23 rfl (by kernel_rfl) rfl ?_
    go_wp2_with fail
    refine (HOK.out.enc_nil_at wb l x HX.out HL.out).mono ?_
    rintro e wd ⟨rfl, hb⟩
    have HB5 := Lib.hid (HB4.out.below hb HB4.out.lt)
    have Hb5 := bb Hb4 hb
    go_wp2
    refine ⟨hb, ?_⟩
    clear hb HB4 Hb4
    have HLD := Lib.hid (load16 l x HX.out HL.out HB5.out)
    refine segG (by kernel_rfl) (fun _ _ _ _ _ h => h) [6, 7, 8, 9, 10, 12] [_, _, _, _, _, _] 17 rfl rfl (by kernel_rfl) ?_
    refine wpQuiet_eql_arr 23 23 (.tmp 31) (.tmp 32) rfl rfl rfl true Try.guard16 HEQ.out (by kernel_rfl) ?_
    simp only [Act.put, List.setIfInBounds_toArray, List.set]
    repeat (go_big_quiet_step (fail))
    refine wpQuiet_load_arr 23 (.tmp 2) rfl rfl x HLD.out (by kernel_rfl) ?_
    simp only [Act.put, List.setIfInBounds_toArray, List.set]
    refine wpQuiet_load_arr 23 (.tmp 2) rfl rfl x HLD.out (by kernel_rfl) ?_
    simp only [Act.put, List.setIfInBounds_toArray, List.set]
    refine wpQuiet_nil ?_
    clear HLD
    refine oneG 11 16 rfl (by kernel_rfl) rfl ?_
    go_wp2_with fail
    refine (HOK.out.dec_nil_at wd l x HX.out HL.out).mono ?_
    rintro e we ⟨rfl, hb⟩
    have Hb6 := bb Hb5 hb
    go_wp2
    refine ⟨hb, ?_⟩
    clear hb HB5 Hb5
    have he1 := HE1.out
    have hp := HP.out
    cases may with
    | true =>
      obtain ⟨ap, rfl⟩ := Option.isSome_iff_exists.1 hp
      clear hp
      refine segG (by kernel_rfl) (fun _ _ _ _ _ h => h) [13, 14, 15, 16, 17, 18, 19, 20, 21, 22, 23, 24, 25, 26, 27, 28] [_, _, _, _, _, _, _, _, _, _, _, _, _, _, _, _] 0 rfl rfl (by kernel_rfl) ?_
      refine wpQuiet_eql_arr 23 23 (.tmp 38) (.tmp 39) rfl rfl rfl true Try.guard16 HEQ.out (by kernel_rfl) ?_
      simp only [Act.put, List.setIfInBounds_toArray, List.set]
      repeat (go_big_quiet_step (fail))
      refine wpQuiet_nil ?_
      refine wpAnyG_done (by kernel_rfl) ?_
      go_wp2
      go_ret
      exact ⟨rfl, Hb6.out⟩
    | false =>
      obtain rfl : p = none := by simpa using hp
      clear hp
      refine segG (by kernel_rfl) (fun _ _ _ _ _ h => h) [13, 14, 15, 16, 17, 18, 19, 20, 21, 22, 23, 24, 25, 26, 27, 28] [_, _, _, _, _, _, _, _, _, _, _, _, _, _, _, _] 0 rfl rfl (by kernel_rfl) ?_
      refine wpQuiet_eql_arr 23 23 (.tmp 38) (.tmp 39) rfl rfl rfl true Try.guard16 HEQ.out (by kernel_rfl) ?_
      simp only [Act.put, List.setIfInBounds_toArray, List.set]
      repeat (go_big_quiet_step (fail))
      refine wpQuiet_nil ?_
      refine wpAnyG_done (by kernel_rfl) ?_
      go_wp2
      go_ret
      exact ⟨rfl, Hb6.out⟩
end Go.Proofs.Ytphlpedecnoooaa
