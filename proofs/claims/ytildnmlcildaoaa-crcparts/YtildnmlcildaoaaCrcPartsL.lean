/-
  CrcParts: for every three slices of bytes the law returns true and leaves its arguments as they were. No condition.
-/
import Derived.Test.YtildnmlcildaoaaCrcLaw
import Derived.Test.YtildnmlcildaoaaLaw
import Derived.Test.YtildnmlcildaoaaOwn
namespace Go.Proofs.Ytildnmlcildaoaa
open Go.ChangeShapes Go.WideShapes Go.ChangeAt Go.RowKit Go.Gar Go.Gar.Crc

set_option maxHeartbeats 2000000 in
theorem crcparts_walk (A1 A2 A3 : Option Addr) (l1 l2 l3 x1 x2 x3 : List UInt8) (k1 k2 k3 m1 m2 m3 : Nat) (w : World) (hc1 : l1.length ≤ k1) (hc2 : l2.length ≤ k2) (hc3 : l3.length ≤ k3)
    (hx1 : x1.length = m1) (hx2 : x2.length = m2) (hx3 : x3.length = m3) (hm1 : m1 = min l1.length 200) (hm2 : m2 = min l2.length 200) (hm3 : m3 = min l3.length 200)
    (r1 : Rd w w.heap.size A1 x1) (r2 : Rd w w.heap.size A2 x2) (r3 : Rd w w.heap.size A3 x3) :
    Calls Try.prog 4 #[.slice A1 l1.length k1, .slice A2 l2.length k2, .slice A3 l3.length k3] w fun e w' => e = .returned (.bool true) ∧ Below w.heap.size w w' := by
  have b1 : m1 ≤ 200 := by omega
  have b2 : m2 ≤ 200 := by omega
  have b3 : m3 ≤ 200 := by omega
  have hOw := own_made w w.heap.size 5 (Nat.le_refl _)
  have hbO := below_alloc w (.cells #[] 5)
  obtain ⟨v1, w1, e1, o1, n1, _⟩ := app_rd (P := Try.prog) 23 23 Try.und22 Try.info5 hOw hbO.size k1 (r1.below hbO) (by simp; omega)
  have B1 := hbO.trans n1
  obtain ⟨v2, w2, e2, o2, n2, _⟩ := app_rd (P := Try.prog) 23 23 Try.und22 Try.info5 o1 B1.size k2 (r2.below B1) (by simp; omega)
  have B2 := B1.trans n2
  obtain ⟨v3, w3, e3, o3, n3, _⟩ := app_rd (P := Try.prog) 23 23 Try.und22 Try.info5 o2 B2.size k3 (r3.below B2) (by simp; omega)
  have B3 := B2.trans n3
  simp only [List.nil_append, List.append_assoc] at o3
  obtain ⟨A4, k4, rfl, r4⟩ := o3.rd
  have HLx : (x1 ++ (x2 ++ x3)).length ≤ 600 := by simp; omega
  have HLX := Lib.hid HLx
  obtain ⟨X, hX⟩ : ∃ X, x1 ++ (x2 ++ x3) = X := ⟨_, rfl⟩
  rw [hX] at r4 e3 HLX
  obtain ⟨m4, hm4⟩ : ∃ m4, X.length = m4 := ⟨_, rfl⟩
  rw [hm4] at e3
  rw [hx1] at e1
  rw [hx2] at e2
  rw [hx3] at e3
  have HX := Lib.hid hX
  have HM4 := Lib.hid hm4
  have HX1 := Lib.hid hx1
  have HX2 := Lib.hid hx2
  have HX3 := Lib.hid hx3
  have HM1 := Lib.hid hm1
  have HM2 := Lib.hid hm2
  have HM3 := Lib.hid hm3
  have HR1 := Lib.hid r1
  have HR2 := Lib.hid r2
  have HR3 := Lib.hid r3
  have HR4 := Lib.hid r4
  have HB3 := Lib.hid B3
  clear hOw hbO o1 n1 B1 o2 n2 B2 o3 n3 B3 HLx hX hm4 hx1 hx2 hx3 hm1 hm2 hm3 r1 r2 r3 r4
  go_enter Try.func4, Try.ntmps4
  go_wp2_with fail
  refine (short2_any A1 l1.length k1 m1 w HM1.out hc1).mono ?_
  rintro e w' ⟨rfl, rfl⟩
  go_wp2_with fail
  refine (short2_any A2 l2.length k2 m2 w' HM2.out hc2).mono ?_
  rintro e w'' ⟨rfl, rfl⟩
  go_wp2_with fail
  refine (short2_any A3 l3.length k3 m3 w'' HM3.out hc3).mono ?_
  rintro e w ⟨rfl, rfl⟩
  go_wp2_with (at_builtin; first | refine wpList_append_run rfl (.tmp 17) (.tmp 18) _ rfl rfl rfl e1 ?_ | refine wpList_append_run rfl (.tmp 19) (.tmp 20) _ rfl rfl rfl e2 ?_ | refine wpList_append_run rfl (.tmp 21) (.tmp 22) _ rfl rfl rfl e3 ?_)
  clear e1 e2 e3
  refine (awake2_any w3).mono ?_
  rintro e w4 ⟨rfl, hb4⟩
  have HB4 := bb HB3 hb4
  have HR44 := Lib.hid ((HR4.out.below hb4).more hb4.size)
  clear hb4
  go_wp2_with fail
  refine (of3 A1 A2 A3 x1 x2 x3 m1 m2 m3 k1 k2 k3 _ w4 rfl HX1.out.symm HX2.out.symm HX3.out.symm ((HR1.out.below HB4.out).more HB4.out.size) ((HR2.out.below HB4.out).more HB4.out.size) ((HR3.out.below HB4.out).more HB4.out.size) ⟨by rw [HX1.out]; omega, by rw [HX2.out]; omega, by rw [HX3.out]; omega⟩).mono ?_
  rw [HX.out]
  rintro e w5 ⟨rfl, rfl⟩
  have HB5 := Lib.hid (HB4.out.alloc HB4.out.size (.cells #[.slice A1 m1 k1, .slice A2 m2 k2, .slice A3 m3 k3] 23))
  have HR45 := Lib.hid (show Rd (w4.alloc (.cells #[.slice A1 m1 k1, .slice A2 m2 k2, .slice A3 m3 k3] 23)) (w4.alloc (.cells #[.slice A1 m1 k1, .slice A2 m2 k2, .slice A3 m3 k3] 23)).heap.size A4 X from (HR44.out.alloc (Nat.le_refl _) _).more (by simp))
  generalize w4.alloc (.cells #[.slice A1 m1 k1, .slice A2 m2 k2, .slice A3 m3 k3] 23) = w5 at *
  go_wp2_with fail
  refine (of1 A4 X m4 k4 _ w5 rfl HM4.out.symm HR45.out (by have := HLX.out; omega)).mono ?_
  rintro e w6 ⟨rfl, rfl⟩
  have HB6 := Lib.hid (HB5.out.alloc HB5.out.size (.cells #[.slice A4 m4 k4] 23))
  have HR46 := Lib.hid (show Rd (w5.alloc (.cells #[.slice A4 m4 k4] 23)) (w5.alloc (.cells #[.slice A4 m4 k4] 23)).heap.size A4 X from (HR45.out.alloc (Nat.le_refl _) _).more (by simp))
  generalize w5.alloc (.cells #[.slice A4 m4 k4] 23) = w6 at *
  go_wp2_with fail
  refine (of1 A4 X m4 k4 _ w6 rfl HM4.out.symm HR46.out (by have := HLX.out; omega)).mono ?_
  rintro e w7 ⟨rfl, rfl⟩
  have HB7 := Lib.hid (HB6.out.alloc HB6.out.size (.cells #[.slice A4 m4 k4] 23))
  generalize w6.alloc (.cells #[.slice A4 m4 k4] 23) = w7 at *
  go_wp2_with fail
  refine (of1 A1 x1 m1 k1 _ w7 rfl HX1.out.symm ((HR1.out.below HB7.out).more HB7.out.size) (by rw [HX1.out]; omega)).mono ?_
  rintro e w8 ⟨rfl, rfl⟩
  have HB8 := Lib.hid (HB7.out.alloc HB7.out.size (.cells #[.slice A1 m1 k1] 23))
  generalize w7.alloc (.cells #[.slice A1 m1 k1] 23) = w8 at *
  go_wp2_with fail
  refine (crcMore_at (more 0#32 x1) _ A2 x2 m2 k2 w8 _ rfl HX2.out.symm (HR2.out.below HB8.out) (by rw [HX2.out]; omega)).mono ?_
  rintro e w9 ⟨rfl, rfl⟩
  go_wp2_with fail
  refine (crcMore_at (more (more 0#32 x1) x2) _ A3 x3 m3 k3 _ _ rfl HX3.out.symm (HR3.out.below HB8.out) (by rw [HX3.out]; omega)).mono ?_
  rw [← more_append, ← more_append, HX.out]
  rintro e w10 ⟨rfl, rfl⟩
  go_wp2
  go_ret
  exact ⟨rfl, HB8.out⟩

set_option maxRecDepth 100000 in
theorem crcparts_lifted (os : Os) (started : os.Started) (H : Type) (enc : TypeId × Value → H) :
    ReturnsInHanded {} Try.checked os 4 .any (Rows.crcPartsSpec.pre6 enc Try.prog Try.f4 Rows.crcPartsRow.domain false) (Rows.crcPartsSpec.post enc Try.prog Try.f4 false true false false) := by
  refine returnsInHanded_of_change (C := Try.checked) own started (by kernel_rfl) Try.func4
    (ChangeSpec.witness6 (enc := enc) (C := Try.checked) false ⟨#[], #[.slice none 0 0, .slice none 0 0, .slice none 0 0], []⟩ 8 (by kernel_rfl) (by kernel_rfl) (by kernel_rfl) (by kernel_rfl)) ?_
  intro W base args ds gs before hval0 hW hcnd _
  have hval : ∀ (j : Nat) t v, Try.f4.params[j]? = some t → args[j]? = some v → Value.okWide Try.prog W .any base t v := hval0
  have hW' := hW
  obtain ⟨p, q, hA0, hV, rfl, hfz, hnd⟩ := hW
  have hA : DataW.TrodAll enc Try.prog W 0 (fun _ => true) true Try.f4.params.toList args.toList ds p := hA0
  rw [Try.params4] at hA hval
  obtain ⟨v0, vs0, d0, ds0, p0, q0, hargs, rfl, rfl, h0, r0⟩ := trodAll_cons hA
  obtain ⟨v1, vs1, d1, ds1, p1, q1, rfl, rfl, rfl, h1, r1⟩ := trodAll_cons r0
  obtain ⟨v2, vs2, d2, ds2, p2, q2, rfl, rfl, rfl, h2, r2⟩ := trodAll_cons r1
  obtain ⟨rfl, rfl, rfl⟩ := trodAll_nil r2
  obtain rfl : args = #[v0, v1, v2] := by cases args; simp_all
  obtain ⟨rfl, rfl⟩ := trodVars_none hV
  obtain ⟨A1, l1, k1, rfl, hc1, s1⟩ := open_bytes Try.und22 Try.und5 (by kernel_rfl) (hval 0 23 v0 rfl rfl) h0
  obtain ⟨A2, l2, k2, rfl, hc2, s2⟩ := open_bytes Try.und22 Try.und5 (by kernel_rfl) (hval 1 23 v1 rfl rfl) h1
  obtain ⟨A3, l3, k3, rfl, hc3, s3⟩ := open_bytes Try.und22 Try.und5 (by kernel_rfl) (hval 2 23 v2 rfl rfl) h2
  refine (crcparts_walk A1 A2 A3 l1 l2 l3 (l1.take 200) (l2.take 200) (l3.take 200) k1 k2 k3 _ _ _ W hc1 hc2 hc3 rfl rfl rfl (by rw [List.length_take]; omega) (by rw [List.length_take]; omega) (by rw [List.length_take]; omega) (s1.take 200) (s2.take 200) (s3.take 200)).mono fun e W' ⟨he, hb⟩ => ?_
  subst he
  exact ⟨_, rfl, law_post laid (by kernel_rfl) rfl (by kernel_rfl) Try.underlying4 hW' rfl hb⟩

theorem crcparts_holds : Rows.CrcPartsSaid :=
  OpenClaim.holds_of_wide 4 Try.f4 rfl rfl rfl rfl rfl rfl rfl ⟨rfl, rfl, rfl, rfl, rfl⟩ rfl rfl rfl rfl rfl (by kernel_rfl) Try.func4 (by kernel_rfl)
    (of_decide_eq_true (by kernel_rfl)) (by unfold Func.isWrapper; first | (rw [if_pos (by decide +kernel)]; kernel_rfl) | (rw [if_neg (by decide +kernel)]; exact ⟨rfl, rfl⟩))
    (fun os started H enc _ => crcparts_lifted os started H enc)
#print axioms crcparts_holds
end Go.Proofs.Ytildnmlcildaoaa
