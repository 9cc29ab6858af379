/-
  Layer 4: AesUnlike, walked from the contracts of aes's functions.
-/
import Derived.Test.YtphlpedecnoooaaAesLaw
namespace Go.Proofs.Ytphlpedecnoooaa
open Go.ChangeShapes Go.WideShapes Go.ChangeAt Go.RowKit Go.Gar Go.Gar.Aes

set_option maxHeartbeats 2000000 in
set_option maxRecDepth 100000 in
theorem aesunlike_walk {Rep : World → Nat → List UInt8 → Prop} (hOK : AesOK Rep) (hA : ∀ w : World, Calls Try.prog 12 #[] w fun e w' => e = .returned (.bool true) ∧ Below w.heap.size w w')
    (w : World) (A : Option Addr) (key la lb : List UInt8) (cap n : Nat) (x y : Array Value) (hx : x = (u8s la).toArray) (hy : y = (u8s lb).toArray) (hla : la.length = 16) (hlb : lb.length = 16) (hn : n < 256) (hr : Rd w w.heap.size A key) :
    Calls Try.prog 5 #[.slice A key.length cap, .int .u8 (n : Int), .agg x, .agg y] w fun e w' => e = .returned (.bool true) ∧ Below w.heap.size w w' := by
  have HOK := Lib.hid hOK
  have HA := Lib.hid hA
  have HX := Lib.hid hx
  have HY := Lib.hid hy
  have HLA := Lib.hid hla
  have HLB := Lib.hid hlb
  have hb0 : Below w.heap.size w ((w.alloc (.cells x 23)).alloc (.cells y 23)) := (below_alloc w _).alloc (by rw [World.size_alloc]; omega) _
  have HR := Lib.hid ((hr.below hb0).more hb0.size)
  have Hb0 := Lib.hid hb0
  have hB0 := (Blk.new w 23 x.toList).alloc (.cells y 23)
  have hC0 := Blk.new (w.alloc (.cells x 23)) 23 y.toList
  rw [Array.toArray_toList] at hB0 hC0
  rw [World.size_alloc] at hC0
  have HB0 := Lib.hid hB0
  have HC0 := Lib.hid hC0
  obtain ⟨rb, hrb⟩ : ∃ rb, decide (la = lb) = rb := ⟨_, rfl⟩
  have HRB := Lib.hid hrb
  clear hOK hA hx hy hla hlb hr hB0 hC0 hb0 hrb
  go_enter Try.func5, Try.ntmps5
  go_wp2_with fail
  generalize (w.alloc (.cells x 23)).alloc (.cells y 23) = w1 at HR Hb0 HB0 HC0 ⊢
  refine (sized_any w1 A key cap n _ rfl hn HR.out).mono ?_
  rintro e w2 ⟨g2, rfl, hg2, hB2, hb2⟩
  have HB2 := Lib.hid (HB0.out.below hb2 HB0.out.lt)
  have HC2 := Lib.hid (HC0.out.below hb2 HC0.out.lt)
  have Hb2 := bb Hb0 hb2
  have HK2 := Lib.hid (Rd.of_all hB2)
  have HKok := Lib.hid (fit_ok key n)
  have HKl := Lib.hid (fit_len key (16 + 8 * (n % 3)))
  clear hg2 hB2 hb2 HB0 HC0 Hb0 HR
  generalize fit key (16 + 8 * (n % 3)) = K at *
  generalize 16 + 8 * (n % 3) = m at *
  go_wp2_with fail
  refine (HOK.out.new_yes w2 _ K m m HKok.out HKl.out.symm (by rw [HKl.out]; exact Nat.le_refl _) HK2.out).mono ?_
  rintro e w3 ⟨gc, rfl, hRep, hb3⟩
  have HB3 := Lib.hid ((HB2.out.below hb3 HB2.out.lt).drew)
  have HC3 := Lib.hid ((HC2.out.below hb3 HC2.out.lt).drew)
  have Hb3 := Lib.hid (bb Hb2 hb3).out.drew
  have HRep := Lib.hid (HOK.out.stay hRep (Below.refl _ w3).drew)
  clear hRep hb3 HB2 HC2 Hb2 HK2
  go_wp2_with fail
  refine wp_region_G grows (by kernel_rfl) ?_
  generalize w3.drew = wa at HB3 HC3 HRep Hb3 ⊢
  refine oneG 0 31 rfl (by kernel_rfl) rfl ?_
  go_wp2_with fail
  refine (HA.out wa).mono ?_
  rintro e wb ⟨rfl, hb⟩
  have HB4 := Lib.hid (HB3.out.below hb HB3.out.lt)
  have HC4 := Lib.hid (HC3.out.below hb HC3.out.lt)
  have Hb4 := bb Hb3 hb
  have HRep4 := Lib.hid (HOK.out.stay HRep.out hb)
  go_wp2
  refine ⟨hb, ?_⟩
  clear hb HB3 HC3 Hb3 HRep
  have HEQ := Lib.hid (eq16_at la lb x y HX.out HY.out HLA.out HLB.out rb HRB.out)
  have HLDX := Lib.hid (load16 la x HX.out HLA.out HB4.out)
  have HLDY := Lib.hid (load16 lb y HY.out HLB.out HC4.out)
  refine segG (by kernel_rfl) (fun _ _ _ _ _ h => h) [1, 2, 3, 4, 5, 6, 7, 9, 10, 13, 14, 15] [_, _, _, _, _, _, _, _, _, _, _, _] 19 rfl rfl (by kernel_rfl) ?_
  repeat (go_big_quiet_step (fail))
  refine wpQuiet_load_arr 23 (.tmp 6) rfl rfl x HLDX.out (by kernel_rfl) ?_
  simp only [Act.put, List.setIfInBounds_toArray, List.set]
  repeat (go_big_quiet_step (fail))
  refine wpQuiet_load_arr 23 (.tmp 7) rfl rfl y HLDY.out (by kernel_rfl) ?_
  simp only [Act.put, List.setIfInBounds_toArray, List.set]
  refine wpQuiet_load_arr 23 (.tmp 6) rfl rfl x HLDX.out (by kernel_rfl) ?_
  simp only [Act.put, List.setIfInBounds_toArray, List.set]
  refine wpQuiet_load_arr 23 (.tmp 7) rfl rfl y HLDY.out (by kernel_rfl) ?_
  simp only [Act.put, List.setIfInBounds_toArray, List.set]
  refine wpQuiet_eql_arr 23 23 (.tmp 31) (.tmp 32) rfl rfl rfl rb Try.guard16 HEQ.out (by kernel_rfl) ?_
  simp only [Act.put, List.setIfInBounds_toArray, List.set]
  refine wpQuiet_nil ?_
  clear HLDX HLDY
  refine oneG 8 18 rfl (by kernel_rfl) rfl ?_
  go_wp2_with fail
  refine (HOK.out.enc_at wb gc K la x HX.out HKok.out HRep4.out HLA.out).mono ?_
  rintro e wc ⟨z, rfl, hz, hb⟩
  have HZ := Lib.hid hz
  clear hz
  have HB5 := Lib.hid (HB4.out.below hb HB4.out.lt)
  have HC5 := Lib.hid (HC4.out.below hb HC4.out.lt)
  have Hb5 := bb Hb4 hb
  have HRep5 := Lib.hid (HOK.out.stay HRep4.out hb)
  go_wp2
  refine ⟨hb, ?_⟩
  clear hb HB4 HC4 Hb4 HRep4
  refine oneG 11 17 rfl (by kernel_rfl) rfl ?_
  go_wp2_with fail
  refine (HOK.out.enc_at wc gc K lb y HY.out HKok.out HRep5.out HLB.out).mono ?_
  rintro e wd ⟨z2, rfl, hz2, hb⟩
  have HE2 := Lib.hid (eq16_at _ _ z z2 HZ.out hz2 (encrypt_len _ _) (encrypt_len _ _) rb (by
    rw [← HRB.out]
    simp only [encrypt_inj K HLA.out HLB.out]))
  clear hz2
  have HB6 := Lib.hid (HB5.out.below hb HB5.out.lt)
  have HC6 := Lib.hid (HC5.out.below hb HC5.out.lt)
  have Hb6 := bb Hb5 hb
  have HRep6 := Lib.hid (HOK.out.stay HRep5.out hb)
  go_wp2
  refine ⟨hb, ?_⟩
  clear hb HB5 HC5 Hb5 HRep5 HZ
  have HLDX := Lib.hid (load16 la x HX.out HLA.out HB6.out)
  have HLDY := Lib.hid (load16 lb y HY.out HLB.out HC6.out)
  have hbb : (rb == rb) = true := by simp
  refine segG (by kernel_rfl) (fun _ _ _ _ _ h => h) [12, 16, 17, 18, 19, 20, 22, 23, 26, 27, 28] [_, _, _, _, _, _, _, _, _, _, _] 6 rfl rfl (by kernel_rfl) ?_
  refine wpQuiet_eql_arr 23 23 (.tmp 26) (.tmp 29) rfl rfl rfl rb Try.guard16 HE2.out (by kernel_rfl) ?_
  simp only [Act.put, List.setIfInBounds_toArray, List.set]
  repeat (go_big_quiet_step (fail))
  refine wpQuiet_load_arr 23 (.tmp 6) rfl rfl x HLDX.out (by kernel_rfl) ?_
  simp only [Act.put, List.setIfInBounds_toArray, List.set]
  repeat (go_big_quiet_step (fail))
  refine wpQuiet_load_arr 23 (.tmp 7) rfl rfl y HLDY.out (by kernel_rfl) ?_
  simp only [Act.put, List.setIfInBounds_toArray, List.set]
  refine wpQuiet_load_arr 23 (.tmp 6) rfl rfl x HLDX.out (by kernel_rfl) ?_
  simp only [Act.put, List.setIfInBounds_toArray, List.set]
  refine wpQuiet_load_arr 23 (.tmp 7) rfl rfl y HLDY.out (by kernel_rfl) ?_
  simp only [Act.put, List.setIfInBounds_toArray, List.set]
  refine wpQuiet_eql_arr 23 23 (.tmp 44) (.tmp 45) rfl rfl rfl rb Try.guard16 HEQ.out (by kernel_rfl) ?_
  simp only [Act.put, List.setIfInBounds_toArray, List.set]
  refine wpQuiet_nil ?_
  clear HLDX HLDY HE2
  refine oneG 21 5 rfl (by kernel_rfl) rfl ?_
  go_wp2_with fail
  refine (HOK.out.dec_at wd gc K la x HX.out HKok.out HRep6.out HLA.out).mono ?_
  rintro e we ⟨z3, rfl, hz3, hb⟩
  have HZ := Lib.hid hz3
  clear hz3
  have Hb7 := bb Hb6 hb
  have HRep7 := Lib.hid (HOK.out.stay HRep6.out hb)
  go_wp2
  refine ⟨hb, ?_⟩
  clear hb Hb6 HRep6 HB6 HC6
  refine oneG 24 4 rfl (by kernel_rfl) rfl ?_
  go_wp2_with fail
  refine (HOK.out.dec_at we gc K lb y HY.out HKok.out HRep7.out HLB.out).mono ?_
  rintro e wf ⟨z4, rfl, hz4, hb⟩
  have HE2 := Lib.hid (eq16_at _ _ z3 z4 HZ.out hz4 (decrypt_len _ _) (decrypt_len _ _) rb (by
    rw [← HRB.out]
    simp only [decrypt_inj K HLA.out HLB.out]))
  clear hz4
  have Hb8 := bb Hb7 hb
  go_wp2
  refine ⟨hb, ?_⟩
  clear hb Hb7 HRep7 HZ
  refine segG (by kernel_rfl) (fun _ _ _ _ _ h => h) [25, 29, 30, 31] [_, _, _, _] 0 rfl rfl (by kernel_rfl) ?_
  refine wpQuiet_eql_arr 23 23 (.tmp 39) (.tmp 42) rfl rfl rfl rb Try.guard16 HE2.out (by kernel_rfl) ?_
  simp only [Act.put, List.setIfInBounds_toArray, List.set]
  repeat (go_big_quiet_step (fail))
  refine wpQuiet_nil ?_
  refine wpAnyG_done (by kernel_rfl) ?_
  go_wp2
  go_ret
  exact ⟨rfl, Hb8.out⟩
end Go.Proofs.Ytphlpedecnoooaa
