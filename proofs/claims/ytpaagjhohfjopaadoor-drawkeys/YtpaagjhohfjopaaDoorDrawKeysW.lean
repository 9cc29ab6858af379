/-
  Layer 9: DrawKeys, walked from the contracts of draw's functions.
-/
import Derived.Test.YtpaagjhohfjopaaDoorDrawAw
import Derived.Test.YtpaagjhohfjopaaDoorDrawRef
set_option maxRecDepth 100000
namespace Go.Proofs.YtpaagjhohfjopaaDoor
open Go.ChangeShapes Go.WideShapes Go.ChangeAt Go.RowKit Go.Gar

theorem Tryd.und16d : Tryd.prog.underlying 27 = some (.array 16 5) := by kernel_rfl
theorem Tryd.info16d : (Tryd.prog.info? 27).map (fun i => (i.zero, i.size)) = some (some (.agg (Array.replicate 16 (.int .u8 0))), 16) := by kernel_rfl
def z16d : List Value := List.replicate 16 (.int .u8 0)
theorem zero_16d (w : World) : (zeroValue 27).run Tryd.prog w = .ok (.agg z16d.toArray) w := by
  have := (zero_of_info Tryd.info16d).1 w
  rw [this]
  rfl
theorem size_16d (l : List UInt8) (h : l.length = 16) : (Tryd.prog.info? 27).map (·.size) = some (u8s l).length := by
  rw [u8s_len, h]; exact (zero_of_info Tryd.info16d).2
theorem Tryd.infoSums : (Tryd.prog.info? 25).map (fun i => (i.zero, i.size)) = some (some (.agg #[.slice none 0 0, .slice none 0 0]), 2) := by kernel_rfl
def zS : List Value := [.slice none 0 0, .slice none 0 0]
theorem zero_S (w : World) : (zeroValue 25).run Tryd.prog w = .ok (.agg zS.toArray) w := by
  have := (zero_of_info Tryd.infoSums).1 w
  rw [this]
  rfl
theorem sumsOf {w0 w : World} {v u : Value} (hv : OwnV w w0.heap.size 44 v (u32s Sha.kL)) (hu : OwnV w w0.heap.size 44 u (u32s Sha.hL)) : SumsV w #[v, u] := by
  have hkl : (u32s Sha.kL).length = 64 := by rw [u32s_len, Sha.kL_len]
  have hhl : (u32s Sha.hL).length = 8 := by rw [u32s_len, Sha.hL_len]
  obtain ⟨bk, cK, restk, hvk, hbk, -, hBk⟩ := hv.blk (by rw [hkl]; omega)
  obtain ⟨bh, cH, resth, hvh, hbh, -, hBh⟩ := hu.blk (by rw [hhl]; omega)
  rw [hkl] at hvk
  rw [hhl] at hvh
  subst hvk
  subst hvh
  exact ⟨_, _, _, _, rfl, RdV.of_blk hBk hBk.lt, RdV.of_blk hBh hBh.lt⟩
theorem one_cell_S {w : World} {x : Array Value} (h : SumsV w x) : ∀ u ∈ x.toList, u.oneCell' = true := by
  obtain ⟨AK, AH, cK, cH, rfl, _⟩ := h
  intro u hu
  simp at hu
  rcases hu with rfl | rfl <;> rfl

set_option maxHeartbeats 4000000 in
theorem drawkeys_walk {G : World → Prop} (hOK : DrawOK G) (A : Option Addr) (l d : List UInt8) (id gen : Int) (c m : Nat) (w : World) (hG : G w) (hc : l.length ≤ c) (hdl : d.length = m) (hm : m = min l.length 200) (hr : Rd w w.heap.size A d) :
    Calls Tryd.prog 3 #[.int .i64 id, .int .i64 gen, .slice A l.length c] w fun e w' => e = .returned (.bool true) ∧ Below w.heap.size w w' := by
  have hm200 : m ≤ 200 := by omega
  have hmc : m ≤ c := by omega
  obtain ⟨L, hL⟩ : ∃ L, L = keysL id gen d := ⟨_, rfl⟩
  obtain ⟨V, hV⟩ : ∃ V, V = ivL id gen d := ⟨_, rfl⟩
  have hLl : L.length = 64 := by rw [hL]; exact keysL_len _ _ _
  have hVl : V.length = 16 := by rw [hV]; exact ivL_len _ _ _
  have HOK := Lib.hid hOK
  have HG := Lib.hid hG
  have HM := Lib.hid hm
  have HDl := Lib.hid hdl
  have HR := Lib.hid hr
  have HL := Lib.hid hL
  have HV := Lib.hid hV
  have HLl := Lib.hid hLl
  have HVl := Lib.hid hVl
  clear hOK hG hm hdl hr hL hV hLl hVl
  go_enter Tryd.func3, Tryd.ntmps3
  go_wp2_with fail
  refine (refNew5_any w).mono ?_
  rintro e w1 ⟨v, u, rfl, hv, hu, hb1⟩
  have hS1 := sumsOf hv hu
  obtain ⟨x, hx⟩ : ∃ x : Array Value, #[v, u] = x := ⟨_, rfl⟩
  rw [hx] at hS1 ⊢
  clear hx hv hu
  have hB2 := Blk.new w1 25 x.toList
  have hb2 := below_alloc w1 (.cells x.toList.toArray 25)
  have heq2 : (w1.alloc (.cells zS.toArray 25)).setRow w1.heap.size x.toList.toArray = w1.alloc (.cells x.toList.toArray 25) := World.setRow_alloc_new w1 _ _ _
  obtain ⟨w2, hw2⟩ : ∃ w2, w1.alloc (.cells x.toList.toArray 25) = w2 := ⟨_, rfl⟩
  rw [hw2] at hB2 hb2 heq2
  have HEq2 := Lib.hid heq2
  have HZ2 := Lib.hid (Blk.new w1 25 zS)
  have HSz2 : Hid ((Tryd.prog.info? 25).map (·.size) = some x.toList.length) := Lib.hid (by rw [Array.length_toList, hS1.size]; exact Tryd.sizeSums)
  have HLn2 : Hid (zS.length = x.toList.length) := Lib.hid (by rw [show x.toList.length = 2 from by rw [Array.length_toList]; exact hS1.size]; rfl)
  have HO2 := Lib.hid (one_cell_S hS1)
  have HS2 := Lib.hid (hS1.below hb2)
  have HB2 := Lib.hid hB2
  have Hb2 := Lib.hid (hb1.trans (hb2.mono hb1.size))
  clear hb1 hS1 hB2 hb2 heq2 hw2
  go_wp2_with (first | refine wpList_alloc_arr rfl 25 zS.toArray rfl zero_S ?_ | (refine wpList_store_arr rfl 25 (.tmp 7) (.tmp 9) w1.heap.size zS x.toList rfl rfl rfl (show Value.agg x = Value.agg x.toList.toArray by simp) HZ2.out HSz2.out HLn2.out HO2.out ?_; rw [HEq2.out]) | fail)
  refine (short9_any A l.length c m w2 HM.out hc).mono ?_
  rintro e w3 ⟨rfl, rfl⟩
  go_wp2_with fail
  refine (iv_at HOK.out w3 id gen A d m c V (HOK.out.keep HG.out Hb2.out) HDl.out.symm HV.out ((HR.out.below Hb2.out).more Hb2.out.size) hmc (by omega)).mono ?_
  rintro e w4 ⟨rfl, hb4⟩
  have hB5 := Blk.new w4 27 (u8s V)
  have hb5 := below_alloc w4 (.cells (u8s V).toArray 27)
  have heq5 : (w4.alloc (.cells z16d.toArray 27)).setRow w4.heap.size (u8s V).toArray = w4.alloc (.cells (u8s V).toArray 27) := World.setRow_alloc_new w4 _ _ _
  obtain ⟨w5, hw5⟩ : ∃ w5, w4.alloc (.cells (u8s V).toArray 27) = w5 := ⟨_, rfl⟩
  rw [hw5] at hB5 hb5 heq5
  have hb45 := hb4.trans (hb5.mono hb4.size)
  have HEq5 := Lib.hid heq5
  have HZ5 := Lib.hid (Blk.new w4 27 z16d)
  have HSz5 := Lib.hid (size_16d V HVl.out)
  have HLn5 : Hid (z16d.length = (u8s V).length) := Lib.hid (by rw [u8s_len, HVl.out]; rfl)
  have HB5 := Lib.hid hB5
  have HB25 := Lib.hid (HB2.out.below hb45 HB2.out.lt)
  have HS5 := Lib.hid (HS2.out.below hb45)
  have Hb5 := bb Hb2 hb45
  clear hb4 hB5 hb5 heq5 hw5 hb45 HB2 HS2 Hb2 HEq2 HZ2
  go_wp2_with (first | refine wpList_alloc_arr rfl 27 z16d.toArray rfl zero_16d ?_ | (refine wpList_store_arr rfl 27 (.tmp 8) (.tmp 14) w4.heap.size z16d (u8s V) rfl rfl rfl rfl HZ5.out HSz5.out HLn5.out (u8s_one _) ?_; rw [HEq5.out]) | fail)
  refine wp_region_G grows (by kernel_rfl) ?_
  have HB6 := Lib.hid HB5.out.drew
  have HB26 := Lib.hid HB25.out.drew
  have HS6 : Hid (SumsV w5.drew x) := Lib.hid HS5.out
  have Hb6 := Lib.hid Hb5.out.drew
  clear HB5 HB25 HS5 Hb5 HEq5 HZ5
  generalize w5.drew = w6 at HB6 HB26 HS6 Hb6 ⊢
  refine oneG 0 30 rfl (by kernel_rfl) rfl ?_
  go_wp2_with fail
  refine (awake9_any HOK.out w6 (HOK.out.keep HG.out Hb6.out)).mono ?_
  rintro e w7 ⟨rfl, hb7⟩
  have HB7 := Lib.hid (HB6.out.below hb7 HB6.out.lt)
  have HB27 := Lib.hid (HB26.out.below hb7 HB26.out.lt)
  have HS7 := Lib.hid (HS6.out.below hb7)
  have Hb7 := bb Hb6 hb7
  clear HB6 HB26 HS6 Hb6
  go_wp2
  refine ⟨hb7, ?_⟩
  clear hb7
  have hld7 := load_sums (G := grows) (w := w7) HS7.out.size (fun V => HB27.out.below (show Below w7.heap.size w7 V.to from V.grown) HB27.out.lt)
  refine segG (by kernel_rfl) (fun _ _ _ _ _ h => h) [1, 2, 3, 4, 9, 10, 11, 12] [_, _, _, _, _, _, _, _] 22 rfl rfl (by kernel_rfl) ?_
  repeat (go_big_quiet_step (fail))
  refine wpQuiet_load_arr 25 (.tmp 7) rfl rfl x hld7 (by kernel_rfl) ?_
  simp only [Act.put, List.setIfInBounds_toArray, List.set]
  repeat (go_big_quiet_step (fail))
  refine wpQuiet_nil ?_
  clear hld7
  refine oneG 5 21 rfl (by kernel_rfl) rfl ?_
  go_wp2_with fail
  refine (short9_any A l.length c m w7 HM.out hc).mono ?_
  rintro e w8 ⟨rfl, rfl⟩
  go_wp2
  refine ⟨grows.refl _, ?_⟩
  refine oneG 6 20 rfl (by kernel_rfl) rfl ?_
  go_wp2_with fail
  refine (keys_at HOK.out w8 id gen A d m c L (HOK.out.keep HG.out Hb7.out) HDl.out.symm HL.out ((HR.out.below Hb7.out).more Hb7.out.size) hmc (by omega)).mono ?_
  rintro e w9 ⟨rfl, hb9⟩
  have HB9 := Lib.hid (HB7.out.below hb9 HB7.out.lt)
  have HB29 := Lib.hid (HB27.out.below hb9 HB27.out.lt)
  have HS9 := Lib.hid (HS7.out.below hb9)
  have Hb9 := bb Hb7 hb9
  clear HB7 HB27 HS7 Hb7
  go_wp2
  refine ⟨hb9, ?_⟩
  clear hb9
  refine oneG 7 19 rfl (by kernel_rfl) rfl ?_
  go_wp2_with fail
  refine (HOK.out.bytes_ w9 L HLl.out).mono ?_
  rintro e w10 ⟨A10, c10, rfl, hc10, hr10, hb10⟩
  have HB10 := Lib.hid (HB9.out.below hb10 HB9.out.lt)
  have HB210 := Lib.hid (HB29.out.below hb10 HB29.out.lt)
  have HS10 := Lib.hid (HS9.out.below hb10)
  have Hb10 := bb Hb9 hb10
  have hs1 := string_later_rd hr10 c10
  rw [HLl.out] at hs1
  clear HB9 HB29 HS9 Hb9 hr10
  obtain ⟨S1, hS1⟩ : ∃ S1 : ByteArray, (⟨L.toArray⟩ : ByteArray) = S1 := ⟨_, rfl⟩
  rw [hS1] at hs1
  have HS1 := Lib.hid hS1
  clear hS1
  go_wp2
  refine ⟨hb10, ?_⟩
  clear hb10
  refine segG (by kernel_rfl) (fun _ _ _ _ _ h => h) [8] [_] 18 rfl rfl (by kernel_rfl) ?_
  repeat (go_big_quiet_step (fail))
  refine wpQuiet_nil ?_
  clear hs1
  refine oneG 13 17 rfl (by kernel_rfl) rfl ?_
  go_wp2_with fail
  refine (short9_any A l.length c m w10 HM.out hc).mono ?_
  rintro e w11 ⟨rfl, rfl⟩
  go_wp2
  refine ⟨grows.refl _, ?_⟩
  refine oneG 14 16 rfl (by kernel_rfl) rfl ?_
  go_wp2_with fail
  refine (refKeysB_any w11 x HS10.out id gen A d m c HDl.out.symm ((HR.out.below Hb10.out).more Hb10.out.size) (by rw [HDl.out]; omega) L HL.out).mono ?_
  rintro e w12 ⟨v12, rfl, hO12, hb12⟩
  obtain ⟨A12, c12, rfl, hr12⟩ := hO12.rd
  have HB12 := Lib.hid (HB10.out.below hb12 HB10.out.lt)
  have HB212 := Lib.hid (HB210.out.below hb12 HB210.out.lt)
  have HS12 := Lib.hid (HS10.out.below hb12)
  have Hb12 := bb Hb10 hb12
  have hs2 := string_later_rd hr12 c12
  rw [HS1.out] at hs2
  have hs3 := string_later_rd (Rd.of_all HB12.out) 16
  rw [HVl.out] at hs3
  obtain ⟨S3, hS3⟩ : ∃ S3 : ByteArray, (⟨V.toArray⟩ : ByteArray) = S3 := ⟨_, rfl⟩
  rw [hS3] at hs3
  have HS3 := Lib.hid hS3
  have hld12 := load_sums (G := grows) (w := w12) HS12.out.size (fun V => HB212.out.below (show Below w12.heap.size w12 V.to from V.grown) HB212.out.lt)
  clear HB10 HB210 HS10 Hb10 hr12 hO12 hS3
  generalize L.length = ln at hs2 ⊢
  go_wp2
  refine ⟨hb12, ?_⟩
  clear hb12
  refine segG (by kernel_rfl) (fun _ _ _ _ _ h => h) [15, 16, 17, 18, 19, 20, 21, 22, 23, 24] [_, _, _, _, _, _, _, _, _, _] 6 rfl rfl (by kernel_rfl) ?_
  repeat (go_big_quiet_step (fail))
  refine wpQuiet_load_arr 25 (.tmp 7) rfl rfl x hld12 (by kernel_rfl) ?_
  simp only [Act.put, List.setIfInBounds_toArray, List.set]
  repeat (go_big_quiet_step (fail))
  refine wpQuiet_nil ?_
  clear hld12 hs2 hs3
  refine oneG 25 5 rfl (by kernel_rfl) rfl ?_
  go_wp2_with fail
  refine (short9_any A l.length c m w12 HM.out hc).mono ?_
  rintro e w13 ⟨rfl, rfl⟩
  go_wp2
  refine ⟨grows.refl _, ?_⟩
  refine oneG 26 4 rfl (by kernel_rfl) rfl ?_
  go_wp2_with fail
  refine (refIVB_any w13 x HS12.out id gen A d m c HDl.out.symm ((HR.out.below Hb12.out).more Hb12.out.size) (by rw [HDl.out]; omega) V HV.out).mono ?_
  rintro e w14 ⟨A14, c14, rfl, hr14, hb14⟩
  have Hb14 := bb Hb12 hb14
  have hs4 := string_later_rd hr14 c14
  rw [HVl.out, HS3.out] at hs4
  clear HB12 HB212 HS12 Hb12 hr14
  go_wp2
  refine ⟨hb14, ?_⟩
  clear hb14
  refine segG (by kernel_rfl) (fun _ _ _ _ _ h => h) [27, 28, 29, 30] [_, _, _, _] 0 rfl rfl (by kernel_rfl) ?_
  repeat (go_big_quiet_step (fail))
  refine wpQuiet_nil ?_
  refine wpAnyG_done (by kernel_rfl) ?_
  go_wp2
  go_ret
  exact ⟨by simp, Hb14.out⟩
end Go.Proofs.YtpaagjhohfjopaaDoor
