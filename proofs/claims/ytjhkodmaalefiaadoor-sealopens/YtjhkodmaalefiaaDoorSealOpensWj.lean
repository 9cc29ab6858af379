/-
  Layer 10: SealOpens, walked from the contract of seal's functions.
-/
import Derived.Test.YtjhkodmaalefiaaDoorSealJ24
set_option maxRecDepth 100000
namespace Go.Proofs.YtjhkodmaalefiaaDoor
open Go.RowKit Go.Gar Go.Gar.Aes

theorem load_32 {W : World} {g : Nat} {l : List UInt8} (h : Blk W g 22 (u8s l)) (hl : l.length = 32) : (loadVar 22 ⟨g, 0, none⟩).run Tryd.prog W = .ok (.agg (u8s l).toArray) W := by
  exact run_loadVar_row (P := Tryd.prog) W g 22 22 (u8s l).toArray (0, 0) _ h Tryd.und32 rfl (by simpa using size_32 l hl)
def zT : List UInt8 := List.replicate 32 0
set_option maxHeartbeats 4000000 in
theorem sealopens_walk {G : World → Prop} (hOK : SealOK G) (A : Option Addr) (d k : List UInt8) (id gen : Int) (n c m : Nat) (w : World) (hG : G w) (hk : k.length = 64) (hid : isI64 id) (hgen : isI64 gen) (hc : n ≤ c) (hdl : d.length = m) (hm : m = min n 400) (hr : Rd w w.heap.size A d) :
    Calls Tryd.prog 4 #[.agg (u8s k).toArray, .int .i64 id, .int .i64 gen, .slice A n c] w fun e w' => e = .returned (.bool true) ∧ Below w.heap.size w w' := by
  have hm400 : m ≤ 400 := by omega
  have hmc : m ≤ c := by omega
  have hK1 := Blk.new w 24 (u8s k)
  have hb1 := below_alloc w (.cells (u8s k).toArray 24)
  have hld1 := load_keys hK1 hk
  obtain ⟨w1, hw1⟩ : ∃ w1, w.alloc (.cells (u8s k).toArray 24) = w1 := ⟨_, rfl⟩
  rw [hw1] at hK1 hb1 hld1
  obtain ⟨E, hE⟩ : ∃ E : Int, E = ((openSE k id gen d : Nat) : Int) := ⟨_, rfl⟩
  obtain ⟨O, hO⟩ : ∃ O, O = openSB k id gen d := ⟨_, rfl⟩
  obtain ⟨no, hno⟩ : ∃ no, no = O.length := ⟨_, rfl⟩
  obtain ⟨T, hT⟩ : ∃ T, T = tagB k d := ⟨_, rfl⟩
  have hTl : T.length = 32 := by rw [hT]; exact tagB_len _ _
  have HOK := Lib.hid hOK
  have HG := Lib.hid hG
  have HK := Lib.hid hk
  have HI := Lib.hid hid
  have HJ := Lib.hid hgen
  have HDl := Lib.hid hdl
  have HR := Lib.hid hr
  have HW1 := Lib.hid hw1
  have HLD := Lib.hid hld1
  have HK1 := Lib.hid hK1
  have Hb1 := Lib.hid hb1
  have HE := Lib.hid hE
  have HO := Lib.hid hO
  have HNO := Lib.hid hno
  have HT := Lib.hid hT
  have HTl := Lib.hid hTl
  clear hOK hG hk hid hgen hdl hr hw1 hld1 hK1 hb1 hE hO hno hT hTl
  go_enter Tryd.func4, Tryd.ntmps4
  by_cases hlo : n ≤ 400
  · obtain rfl : m = n := by omega
    have hd1 : decide (400 < (m : Int)) = false := by simp; omega
    clear hm hlo
    go_wp2_with (refine wpList_load_arr_w 24 (.tmp 4) rfl rfl (u8s k).toArray (by rw [HW1.out]; exact HLD.out) (by kernel_rfl) ?_)
    rw [HW1.out]
    clear HW1
    refine (sealO_at HOK.out w1 k d _ id gen A m c no E O rfl (HOK.out.keep HG.out Hb1.out) HK.out HI.out HJ.out ((HR.out.below Hb1.out).more Hb1.out.size) HDl.out.symm hmc (by omega) HE.out HO.out HNO.out).mono ?_
    rintro e w2 ⟨A2, c2, rfl, hc2, hr2, hb2⟩
    have HK2 := Lib.hid (HK1.out.below hb2 HK1.out.lt)
    have HR2 := Lib.hid hr2
    have Hb2 := bb Hb1 hb2
    clear hr2 hb2 HK1 Hb1 HLD
    go_wp2_with fail
    refine wp_region_G grows (by kernel_rfl) ?_
    have HK3 := Lib.hid HK2.out.drew
    have HR3 : Hid (Rd w2.drew w2.drew.heap.size A2 O) := Lib.hid HR2.out
    have Hb3 := Lib.hid Hb2.out.drew
    clear HK2 HR2 Hb2
    generalize w2.drew = w3 at HK3 HR3 Hb3 ⊢
    have hld3 := load_k_later HK3.out HK.out
    refine segG (by kernel_rfl) (fun _ _ _ _ _ h => h) [1, 2, 3, 4] [_, _, _, _] 7 rfl rfl (by kernel_rfl) ?_
    refine wpQuiet_load_arr 24 (.tmp 4) rfl rfl (u8s k).toArray hld3 (by kernel_rfl) ?_
    simp only [Act.put, List.setIfInBounds_toArray, List.set]
    repeat (go_big_quiet_step (fail))
    refine wpQuiet_nil ?_
    clear hld3
    refine oneG 0 6 rfl (by kernel_rfl) rfl ?_
    go_wp2_with fail
    refine (refSums_at w3).mono ?_
    rintro e w4 ⟨x, rfl, hx, hb4⟩
    have HX := Lib.hid hx
    have HK4 := Lib.hid (HK3.out.below hb4 HK3.out.lt)
    have HR4 := Lib.hid ((HR3.out.below hb4).more hb4.size)
    have Hb4 := bb Hb3 hb4
    clear hx HK3 HR3 Hb3
    go_wp2
    refine ⟨hb4, ?_⟩
    clear hb4
    refine oneG 5 5 rfl (by kernel_rfl) rfl ?_
    go_wp2_with fail
    refine (refOpenT_any w4 x HX.out k d id gen A m c HK.out HDl.out.symm hmc ((HR.out.below Hb4.out).more Hb4.out.size) (by omega) E O no HE.out HO.out HNO.out).mono ?_
    rintro e w5 ⟨A5, c5, rfl, hr5, hb5⟩
    have HK5 := Lib.hid (HK4.out.below hb5 HK4.out.lt)
    have HR5 := Lib.hid hr5
    have HR5' := Lib.hid ((HR4.out.below hb5).more hb5.size)
    have Hb5 := bb Hb4 hb5
    have hld5 := load_keys HK5.out HK.out
    clear hr5 HK4 HR4 Hb4
    go_wp2
    refine ⟨hb5, ?_⟩
    clear hb5
    refine segG (by kernel_rfl) (fun _ _ _ _ _ h => h) [6, 7, 8, 9, 10] [_, _, _, _, _] 0 rfl rfl (by kernel_rfl) ?_
    repeat (go_big_quiet_step (fail))
    refine wpQuiet_nil ?_
    refine wpAnyG_done (by kernel_rfl) ?_
    go_wp2_with (first | refine wpList_load_arr_w 24 (.tmp 4) rfl rfl (u8s k).toArray hld5 (by kernel_rfl) ?_)
    clear hld5
    obtain ⟨ok, hok⟩ : ∃ ok, ok = decide (32 ≤ m) := ⟨_, rfl⟩
    refine (sealT_at HOK.out w5 k d _ (u8s T).toArray A m c ok T rfl rfl (HOK.out.keep HG.out Hb5.out) HK.out ((HR.out.below Hb5.out).more Hb5.out.size) HDl.out.symm hmc (by omega) HT.out (by rw [HDl.out, hok])).mono ?_
    rintro e w6 ⟨rfl, hb6⟩
    obtain ⟨w7, heq7, hB7, hb7, hZ7⟩ := s32_facts w6 T
    have HEq7 := Lib.hid heq7
    have HZ7 := Lib.hid hZ7
    have HB7 := Lib.hid hB7
    have HST := Lib.hid (size_32 T HTl.out)
    have HLT : Hid (z32.length = (u8s T).length) := Lib.hid (by rw [u8s_len, HTl.out]; rfl)
    have hb67 := hb6.trans (hb7.mono hb6.size)
    have HK7 := Lib.hid (HK5.out.below hb67 HK5.out.lt)
    have Hb7 := bb Hb5 hb67
    have hs1 := string_later_rd ((HR5'.out.below hb67).more hb67.size) c2 ⟨w7, grows.refl _⟩
    have hs2 := string_later_rd ((HR5.out.below hb67).more hb67.size) c5 ⟨w7, grows.refl _⟩
    rw [← HNO.out] at hs1 hs2
    obtain ⟨S, hS⟩ : ∃ S : ByteArray, (⟨O.toArray⟩ : ByteArray) = S := ⟨_, rfl⟩
    rw [hS] at hs1 hs2
    clear hS heq7 hZ7 hB7 hb7 hb6 hb67 HK5 HR5 HR5' Hb5
    by_cases h32 : m < 32
    · obtain rfl : ok = false := by rw [hok]; simp; omega
      have hd3 : decide (32 ≤ (m : Int)) = false := by simp; omega
      obtain rfl : T = zT := by rw [HT.out, tagB, if_pos (by rw [HDl.out]; exact h32)]; rfl
      clear hok
      go_wp2_with (first | refine wpList_alloc_arr rfl 22 z32.toArray rfl zero_32 ?_ | (refine wpList_store_arr rfl 22 (.tmp 14) (.tmp 43) w6.heap.size z32 (u8s zT) rfl rfl rfl rfl HZ7.out HST.out HLT.out (u8s_one _) ?_; rw [HEq7.out]))
      refine (awake10_any HOK.out w7 (HOK.out.keep HG.out Hb7.out)).mono ?_
      rintro e w8 ⟨rfl, hb8⟩
      have Hb8 := bb Hb7 hb8
      have hld8 := load_32 (HB7.out.below hb8 HB7.out.lt) HTl.out
      have heq := eq32 zT HTl.out
      clear hs1 hs2 hb8
      go_wp2_with (first | refine wpList_load_arr_w 22 (.tmp 14) rfl rfl (u8s zT).toArray hld8 (by kernel_rfl) ?_ | refine wpList_eql_arr_w 22 22 (.tmp 66) (.tmp 67) rfl rfl rfl true Tryd.guard32 heq (by kernel_rfl) ?_)
      go_ret
      exact ⟨by simp, Hb8.out⟩
    · obtain rfl : ok = true := by rw [hok]; simp; omega
      have hd3 : decide (32 ≤ (m : Int)) = true := by simp; omega
      have hTT : Mac.of (k.drop 32) (d.take (m - 32)) = T := by rw [HT.out, tagB, if_neg (by rw [HDl.out]; exact h32), HDl.out]
      have HTT := Lib.hid hTT
      clear hok hTT
      obtain ⟨ab, ao, rfl⟩ := rd_at HR.out (by rw [HDl.out]; omega)
      have hcut := cut_to ab ao m c (m - 32) ((m : Int) - 32) (by omega) (by omega)
      go_wp2_with (first | refine wpList_alloc_arr rfl 22 z32.toArray rfl zero_32 ?_ | (refine wpList_store_arr rfl 22 (.tmp 14) (.tmp 43) w6.heap.size z32 (u8s T) rfl rfl rfl rfl HZ7.out HST.out HLT.out (u8s_one _) ?_; rw [HEq7.out]))
      refine wp_region_G grows (by kernel_rfl) ?_
      have HB8 := Lib.hid HB7.out.drew
      have HK8 := Lib.hid HK7.out.drew
      have Hb8 := Lib.hid Hb7.out.drew
      clear HB7 HK7 Hb7 hs1 hs2 HEq7 HZ7
      generalize w7.drew = w8 at HB8 HK8 Hb8 ⊢
      refine oneG 0 16 rfl (by kernel_rfl) rfl ?_
      go_wp2_with fail
      refine (awake10_any HOK.out w8 (HOK.out.keep HG.out Hb8.out)).mono ?_
      rintro e w9 ⟨rfl, hb9⟩
      have HB9 := Lib.hid (HB8.out.below hb9 HB8.out.lt)
      have HK9 := Lib.hid (HK8.out.below hb9 HK8.out.lt)
      have Hb9 := bb Hb8 hb9
      have hs3 := string_later_rd (Rd.of_all HB9.out) 32
      rw [HTl.out] at hs3
      obtain ⟨S3, hS3⟩ : ∃ S : ByteArray, (⟨T.toArray⟩ : ByteArray) = S := ⟨_, rfl⟩
      rw [hS3] at hs3
      have HS3 := Lib.hid hS3
      clear hS3 HB8 HK8 Hb8
      go_wp2
      refine ⟨hb9, ?_⟩
      clear hb9
      refine segG (by kernel_rfl) (fun _ _ _ _ _ h => h) [1, 2, 3, 5, 6, 7, 8, 9, 10, 11] [_, _, _, _, _, _, _, _, _, _] 6 rfl rfl (by kernel_rfl) ?_
      repeat (go_big_quiet_step (fail))
      refine wpQuiet_nil ?_
      clear hs3 hcut
      refine oneG 4 5 rfl (by kernel_rfl) rfl ?_
      go_wp2_with fail
      refine (refSums_at w9).mono ?_
      rintro e w10 ⟨y, rfl, hy, hb10⟩
      have HY := Lib.hid hy
      have HK10 := Lib.hid (HK9.out.below hb10 HK9.out.lt)
      have Hb10 := bb Hb9 hb10
      clear hy HB9 HK9 Hb9
      go_wp2
      refine ⟨hb10, ?_⟩
      clear hb10
      refine oneG 12 4 rfl (by kernel_rfl) rfl ?_
      go_wp2_with fail
      refine (refMac_at w10 y HY.out (some ⟨w.heap.size, 32, none⟩) _ (k.drop 32) (d.take (m - 32)) 32 32 (m - 32) c (by rw [List.length_drop, HK.out]) (by rw [List.length_take, HDl.out]; omega) (rd_mac HK10.out HK.out) (((HR.out.below Hb10.out).more Hb10.out.size).take _) (by rw [List.length_drop, HK.out]; omega) (by rw [List.length_take, HDl.out]; omega)).mono ?_
      rintro e w11 ⟨v11, rfl, hO11, hb11⟩
      rw [HTT.out] at hO11
      obtain ⟨A11, c11, rfl, hr11⟩ := hO11.rd
      have Hb11 := bb Hb10 hb11
      have hs4 := string_later_rd hr11 c11
      rw [HTl.out, HS3.out] at hs4
      rw [HTl.out]
      clear hO11 hr11 HK10 Hb10
      go_wp2
      refine ⟨hb11, ?_⟩
      clear hb11
      refine segG (by kernel_rfl) (fun _ _ _ _ _ h => h) [13, 14, 15, 16] [_, _, _, _] 0 rfl rfl (by kernel_rfl) ?_
      repeat (go_big_quiet_step (fail))
      refine wpQuiet_nil ?_
      refine wpAnyG_done (by kernel_rfl) ?_
      go_wp2
      go_ret
      exact ⟨by simp, Hb11.out⟩
  · obtain hm4 : m = 400 := by omega
    have hd1 : decide (400 < (n : Int)) = true := by simp; omega
    have Hm4 := Lib.hid hm4
    have hc400 : 400 ≤ c := by omega
    clear hm hm4
    go_wp2_with (refine wpList_load_arr_w 24 (.tmp 4) rfl rfl (u8s k).toArray (by rw [HW1.out]; exact HLD.out) (by kernel_rfl) ?_)
    rw [HW1.out, ← Hm4.out]
    clear HW1 Hm4
    refine (sealO_at HOK.out w1 k d _ id gen A m c no E O rfl (HOK.out.keep HG.out Hb1.out) HK.out HI.out HJ.out ((HR.out.below Hb1.out).more Hb1.out.size) HDl.out.symm hmc (by omega) HE.out HO.out HNO.out).mono ?_
    rintro e w2 ⟨A2, c2, rfl, hc2, hr2, hb2⟩
    have HK2 := Lib.hid (HK1.out.below hb2 HK1.out.lt)
    have HR2 := Lib.hid hr2
    have Hb2 := bb Hb1 hb2
    clear hr2 hb2 HK1 Hb1 HLD
    go_wp2_with fail
    refine wp_region_G grows (by kernel_rfl) ?_
    have HK3 := Lib.hid HK2.out.drew
    have HR3 : Hid (Rd w2.drew w2.drew.heap.size A2 O) := Lib.hid HR2.out
    have Hb3 := Lib.hid Hb2.out.drew
    clear HK2 HR2 Hb2
    generalize w2.drew = w3 at HK3 HR3 Hb3 ⊢
    have hld3 := load_k_later HK3.out HK.out
    refine segG (by kernel_rfl) (fun _ _ _ _ _ h => h) [1, 2, 3, 4] [_, _, _, _] 7 rfl rfl (by kernel_rfl) ?_
    refine wpQuiet_load_arr 24 (.tmp 4) rfl rfl (u8s k).toArray hld3 (by kernel_rfl) ?_
    simp only [Act.put, List.setIfInBounds_toArray, List.set]
    repeat (go_big_quiet_step (fail))
    refine wpQuiet_nil ?_
    clear hld3
    refine oneG 0 6 rfl (by kernel_rfl) rfl ?_
    go_wp2_with fail
    refine (refSums_at w3).mono ?_
    rintro e w4 ⟨x, rfl, hx, hb4⟩
    have HX := Lib.hid hx
    have HK4 := Lib.hid (HK3.out.below hb4 HK3.out.lt)
    have HR4 := Lib.hid ((HR3.out.below hb4).more hb4.size)
    have Hb4 := bb Hb3 hb4
    clear hx HK3 HR3 Hb3
    go_wp2
    refine ⟨hb4, ?_⟩
    clear hb4
    refine oneG 5 5 rfl (by kernel_rfl) rfl ?_
    go_wp2_with fail
    refine (refOpenT_any w4 x HX.out k d id gen A m c HK.out HDl.out.symm hmc ((HR.out.below Hb4.out).more Hb4.out.size) (by omega) E O no HE.out HO.out HNO.out).mono ?_
    rintro e w5 ⟨A5, c5, rfl, hr5, hb5⟩
    have HK5 := Lib.hid (HK4.out.below hb5 HK4.out.lt)
    have HR5 := Lib.hid hr5
    have HR5' := Lib.hid ((HR4.out.below hb5).more hb5.size)
    have Hb5 := bb Hb4 hb5
    have hld5 := load_keys HK5.out HK.out
    clear hr5 HK4 HR4 Hb4
    go_wp2
    refine ⟨hb5, ?_⟩
    clear hb5
    refine segG (by kernel_rfl) (fun _ _ _ _ _ h => h) [6, 7, 8, 9, 10] [_, _, _, _, _] 0 rfl rfl (by kernel_rfl) ?_
    repeat (go_big_quiet_step (fail))
    refine wpQuiet_nil ?_
    refine wpAnyG_done (by kernel_rfl) ?_
    go_wp2_with (first | refine wpList_load_arr_w 24 (.tmp 4) rfl rfl (u8s k).toArray hld5 (by kernel_rfl) ?_)
    clear hld5
    obtain ⟨ok, hok⟩ : ∃ ok, ok = decide (32 ≤ m) := ⟨_, rfl⟩
    refine (sealT_at HOK.out w5 k d _ (u8s T).toArray A m c ok T rfl rfl (HOK.out.keep HG.out Hb5.out) HK.out ((HR.out.below Hb5.out).more Hb5.out.size) HDl.out.symm hmc (by omega) HT.out (by rw [HDl.out, hok])).mono ?_
    rintro e w6 ⟨rfl, hb6⟩
    obtain ⟨w7, heq7, hB7, hb7, hZ7⟩ := s32_facts w6 T
    have HEq7 := Lib.hid heq7
    have HZ7 := Lib.hid hZ7
    have HB7 := Lib.hid hB7
    have HST := Lib.hid (size_32 T HTl.out)
    have HLT : Hid (z32.length = (u8s T).length) := Lib.hid (by rw [u8s_len, HTl.out]; rfl)
    have hb67 := hb6.trans (hb7.mono hb6.size)
    have HK7 := Lib.hid (HK5.out.below hb67 HK5.out.lt)
    have Hb7 := bb Hb5 hb67
    have hs1 := string_later_rd ((HR5'.out.below hb67).more hb67.size) c2 ⟨w7, grows.refl _⟩
    have hs2 := string_later_rd ((HR5.out.below hb67).more hb67.size) c5 ⟨w7, grows.refl _⟩
    rw [← HNO.out] at hs1 hs2
    obtain ⟨S, hS⟩ : ∃ S : ByteArray, (⟨O.toArray⟩ : ByteArray) = S := ⟨_, rfl⟩
    rw [hS] at hs1 hs2
    clear hS heq7 hZ7 hB7 hb7 hb6 hb67 HK5 HR5 HR5' Hb5
    by_cases h32 : m < 32
    · obtain rfl : ok = false := by rw [hok]; simp; omega
      have hd3 : decide (32 ≤ (m : Int)) = false := by simp; omega
      obtain rfl : T = zT := by rw [HT.out, tagB, if_pos (by rw [HDl.out]; exact h32)]; rfl
      clear hok
      go_wp2_with (first | refine wpList_alloc_arr rfl 22 z32.toArray rfl zero_32 ?_ | (refine wpList_store_arr rfl 22 (.tmp 14) (.tmp 43) w6.heap.size z32 (u8s zT) rfl rfl rfl rfl HZ7.out HST.out HLT.out (u8s_one _) ?_; rw [HEq7.out]))
      refine (awake10_any HOK.out w7 (HOK.out.keep HG.out Hb7.out)).mono ?_
      rintro e w8 ⟨rfl, hb8⟩
      have Hb8 := bb Hb7 hb8
      have hld8 := load_32 (HB7.out.below hb8 HB7.out.lt) HTl.out
      have heq := eq32 zT HTl.out
      clear hs1 hs2 hb8
      go_wp2_with (first | refine wpList_load_arr_w 22 (.tmp 14) rfl rfl (u8s zT).toArray hld8 (by kernel_rfl) ?_ | refine wpList_eql_arr_w 22 22 (.tmp 66) (.tmp 67) rfl rfl rfl true Tryd.guard32 heq (by kernel_rfl) ?_)
      go_ret
      exact ⟨by simp, Hb8.out⟩
    · obtain rfl : ok = true := by rw [hok]; simp; omega
      have hd3 : decide (32 ≤ (m : Int)) = true := by simp; omega
      have hTT : Mac.of (k.drop 32) (d.take (m - 32)) = T := by rw [HT.out, tagB, if_neg (by rw [HDl.out]; exact h32), HDl.out]
      have HTT := Lib.hid hTT
      clear hok hTT
      obtain ⟨ab, ao, rfl⟩ := rd_at HR.out (by rw [HDl.out]; omega)
      have hcut := cut_to ab ao m c (m - 32) ((m : Int) - 32) (by omega) (by omega)
      go_wp2_with (first | refine wpList_alloc_arr rfl 22 z32.toArray rfl zero_32 ?_ | (refine wpList_store_arr rfl 22 (.tmp 14) (.tmp 43) w6.heap.size z32 (u8s T) rfl rfl rfl rfl HZ7.out HST.out HLT.out (u8s_one _) ?_; rw [HEq7.out]))
      refine wp_region_G grows (by kernel_rfl) ?_
      have HB8 := Lib.hid HB7.out.drew
      have HK8 := Lib.hid HK7.out.drew
      have Hb8 := Lib.hid Hb7.out.drew
      clear HB7 HK7 Hb7 hs1 hs2 HEq7 HZ7
      generalize w7.drew = w8 at HB8 HK8 Hb8 ⊢
      refine oneG 0 16 rfl (by kernel_rfl) rfl ?_
      go_wp2_with fail
      refine (awake10_any HOK.out w8 (HOK.out.keep HG.out Hb8.out)).mono ?_
      rintro e w9 ⟨rfl, hb9⟩
      have HB9 := Lib.hid (HB8.out.below hb9 HB8.out.lt)
      have HK9 := Lib.hid (HK8.out.below hb9 HK8.out.lt)
      have Hb9 := bb Hb8 hb9
      have hs3 := string_later_rd (Rd.of_all HB9.out) 32
      rw [HTl.out] at hs3
      obtain ⟨S3, hS3⟩ : ∃ S : ByteArray, (⟨T.toArray⟩ : ByteArray) = S := ⟨_, rfl⟩
      rw [hS3] at hs3
      have HS3 := Lib.hid hS3
      clear hS3 HB8 HK8 Hb8
      go_wp2
      refine ⟨hb9, ?_⟩
      clear hb9
      refine segG (by kernel_rfl) (fun _ _ _ _ _ h => h) [1, 2, 3, 5, 6, 7, 8, 9, 10, 11] [_, _, _, _, _, _, _, _, _, _] 6 rfl rfl (by kernel_rfl) ?_
      repeat (go_big_quiet_step (fail))
      refine wpQuiet_nil ?_
      clear hs3 hcut
      refine oneG 4 5 rfl (by kernel_rfl) rfl ?_
      go_wp2_with fail
      refine (refSums_at w9).mono ?_
      rintro e w10 ⟨y, rfl, hy, hb10⟩
      have HY := Lib.hid hy
      have HK10 := Lib.hid (HK9.out.below hb10 HK9.out.lt)
      have Hb10 := bb Hb9 hb10
      clear hy HB9 HK9 Hb9
      go_wp2
      refine ⟨hb10, ?_⟩
      clear hb10
      refine oneG 12 4 rfl (by kernel_rfl) rfl ?_
      go_wp2_with fail
      refine (refMac_at w10 y HY.out (some ⟨w.heap.size, 32, none⟩) _ (k.drop 32) (d.take (m - 32)) 32 32 (m - 32) c (by rw [List.length_drop, HK.out]) (by rw [List.length_take, HDl.out]; omega) (rd_mac HK10.out HK.out) (((HR.out.below Hb10.out).more Hb10.out.size).take _) (by rw [List.length_drop, HK.out]; omega) (by rw [List.length_take, HDl.out]; omega)).mono ?_
      rintro e w11 ⟨v11, rfl, hO11, hb11⟩
      rw [HTT.out] at hO11
      obtain ⟨A11, c11, rfl, hr11⟩ := hO11.rd
      have Hb11 := bb Hb10 hb11
      have hs4 := string_later_rd hr11 c11
      rw [HTl.out, HS3.out] at hs4
      rw [HTl.out]
      clear hO11 hr11 HK10 Hb10
      go_wp2
      refine ⟨hb11, ?_⟩
      clear hb11
      refine segG (by kernel_rfl) (fun _ _ _ _ _ h => h) [13, 14, 15, 16] [_, _, _, _] 0 rfl rfl (by kernel_rfl) ?_
      repeat (go_big_quiet_step (fail))
      refine wpQuiet_nil ?_
      refine wpAnyG_done (by kernel_rfl) ?_
      go_wp2
      go_ret
      exact ⟨by simp, Hb11.out⟩
end Go.Proofs.YtjhkodmaalefiaaDoor
