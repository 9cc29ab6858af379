/-
  Layer 10: SealSeals, walked from the contract of seal's functions.
-/
import Derived.Test.YtjhkodmaalefiaaDoorSealJ24
set_option maxRecDepth 100000
namespace Go.Proofs.YtjhkodmaalefiaaDoor
open Go.RowKit Go.Gar Go.Gar.Aes

set_option maxHeartbeats 4000000 in
theorem sealseals_walk {G : World → Prop} (hOK : SealOK G) (A : Option Addr) (l d k iv : List UInt8) (id gen n : Int) (c m : Nat) (w : World) (hG : G w) (hk : k.length = 64) (hiv : iv.length = 16) (hid : isI64 id) (hgen : isI64 gen) (hnn : isI64 n) (hc : l.length ≤ c) (hdl : d.length = m) (hm : m = min l.length 200) (hr : Rd w w.heap.size A d) :
    Calls Tryd.prog 3 #[.agg (u8s k).toArray, .agg (u8s iv).toArray, .int .i64 id, .int .i64 gen, .slice A l.length c, .int .i64 n] w fun e w' => e = .returned (.bool true) ∧ Below w.heap.size w w' := by
  have hm200 : m ≤ 200 := by omega
  have hmc : m ≤ c := by omega
  have hK0 := Blk.new w 24 (u8s k)
  have hb0 := below_alloc w (.cells (u8s k).toArray 24)
  obtain ⟨w0, hw0⟩ : ∃ w0, w.alloc (.cells (u8s k).toArray 24) = w0 := ⟨_, rfl⟩
  rw [hw0] at hK0 hb0
  have hV1 := Blk.new w0 25 (u8s iv)
  have hb1 := below_alloc w0 (.cells (u8s iv).toArray 25)
  have hK1 := hK0.alloc (.cells (u8s iv).toArray 25)
  obtain ⟨w1, hw1⟩ : ∃ w1, w0.alloc (.cells (u8s iv).toArray 25) = w1 := ⟨_, rfl⟩
  rw [hw1] at hV1 hb1 hK1
  have hs0 : w0.heap.size = w.heap.size + 1 := by rw [← hw0, World.size_alloc]
  obtain ⟨Z, hZ⟩ : ∃ Z, Z = sealS k iv id gen d := ⟨_, rfl⟩
  obtain ⟨zn, hzn⟩ : ∃ zn, zn = Z.length := ⟨_, rfl⟩
  have hzm : (zn : Int) = sizeN m := by
    rw [hzn, hZ, sealS_len _ _ _ _ _ hiv, hdl, sizeN, if_pos (by omega)]
    omega
  have HOK := Lib.hid hOK
  have HG := Lib.hid hG
  have HK := Lib.hid hk
  have HIV := Lib.hid hiv
  have HI := Lib.hid hid
  have HJ := Lib.hid hgen
  have HNN := Lib.hid hnn
  have HDl := Lib.hid hdl
  have HM := Lib.hid hm
  have HR := Lib.hid hr
  have HW0 := Lib.hid hw0
  have HW1 := Lib.hid hw1
  have HSz := Lib.hid hs0
  have HK1 := Lib.hid hK1
  have HV1 := Lib.hid hV1
  have HZ := Lib.hid hZ
  have HZN := Lib.hid hzn
  have HZM := Lib.hid hzm
  have Hb1 := Lib.hid (hb0.trans (hb1.mono hb0.size))
  clear hOK hG hk hiv hid hgen hnn hdl hm hr hw0 hw1 hs0 hK0 hK1 hV1 hb0 hb1 hZ hzn hzm
  go_enter Tryd.func3, Tryd.ntmps3
  go_wp2_with fail
  rw [HW0.out, HW1.out, ← HSz.out]
  clear HW0 HW1 HSz
  obtain ⟨gv, hgv⟩ : ∃ g, w0.heap.size = g := ⟨_, rfl⟩
  obtain ⟨gk, hgk⟩ : ∃ g, w.heap.size = g := ⟨_, rfl⟩
  rw [hgv] at HV1 ⊢
  have HK1' : Hid (Blk w1 gk 24 (u8s k)) := Lib.hid (by rw [← hgk]; exact HK1.out)
  clear hgv HK1
  refine wp_region_G grows (by kernel_rfl) ?_
  have HK2 := Lib.hid HK1'.out.drew
  have HV2 := Lib.hid HV1.out.drew
  have Hb2 := Lib.hid Hb1.out.drew
  clear HK1' HV1 Hb1
  generalize w1.drew = w2 at HK2 HV2 Hb2 ⊢
  have hld1 := load_k_later HK2.out HK.out
  have hld2 := load_v_later HV2.out HIV.out
  rw [hgk]
  refine segG (by kernel_rfl) (fun _ _ _ _ _ h => h) [0, 1, 2, 3, 4] [_, _, _, _, _] 7 rfl rfl (by kernel_rfl) ?_
  refine wpQuiet_load_arr 24 (.tmp 6) rfl rfl (u8s k).toArray hld1 (by kernel_rfl) ?_
  simp only [Act.put, List.setIfInBounds_toArray, List.set]
  refine wpQuiet_load_arr 25 (.tmp 7) rfl rfl (u8s iv).toArray hld2 (by kernel_rfl) ?_
  simp only [Act.put, List.setIfInBounds_toArray, List.set]
  repeat (go_big_quiet_step (fail))
  refine wpQuiet_nil ?_
  clear hld1 hld2
  refine oneG 5 6 rfl (by kernel_rfl) rfl ?_
  go_wp2_with fail
  refine (short10_any A l.length c m w2 HM.out hc).mono ?_
  rintro e w3 ⟨rfl, rfl⟩
  go_wp2
  refine ⟨grows.refl _, ?_⟩
  refine oneG 6 5 rfl (by kernel_rfl) rfl ?_
  go_wp2_with fail
  refine (sealS_at HOK.out w3 k iv d _ _ id gen A m c zn Z rfl rfl (HOK.out.keep HG.out Hb2.out) HK.out HIV.out HI.out HJ.out ((HR.out.below Hb2.out).more Hb2.out.size) HDl.out.symm hmc (by omega) HZ.out HZN.out).mono ?_
  rintro e w4 ⟨A4, c4, rfl, hc4, hr4, hb4⟩
  have HK4 := Lib.hid (HK2.out.below hb4 HK2.out.lt)
  have HV4 := Lib.hid (HV2.out.below hb4 HV2.out.lt)
  have HR4 := Lib.hid hr4
  have Hb4 := bb Hb2 hb4
  clear hr4 HK2 HV2 Hb2
  go_wp2
  refine ⟨hb4, ?_⟩
  clear hb4
  refine segG (by kernel_rfl) (fun _ _ _ _ _ h => h) [7, 8, 9, 10, 11] [_, _, _, _, _] 0 rfl rfl (by kernel_rfl) ?_
  repeat (go_big_quiet_step (fail))
  refine wpQuiet_nil ?_
  refine wpAnyG_done (by kernel_rfl) ?_
  go_wp2_with fail
  refine wp_region_G grows (by kernel_rfl) ?_
  have HK5 := Lib.hid HK4.out.drew
  have HV5 := Lib.hid HV4.out.drew
  have HR5 : Hid (Rd w4.drew w4.drew.heap.size A4 Z) := Lib.hid HR4.out
  have Hb5 := Lib.hid Hb4.out.drew
  clear HK4 HV4 HR4 Hb4
  generalize w4.drew = w5 at HK5 HV5 HR5 Hb5 ⊢
  have hld3 := load_k_later HK5.out HK.out
  refine segG (by kernel_rfl) (fun _ _ _ _ _ h => h) [1, 2, 3, 4, 5] [_, _, _, _, _] 8 rfl rfl (by kernel_rfl) ?_
  refine wpQuiet_load_arr 24 (.tmp 6) rfl rfl (u8s k).toArray hld3 (by kernel_rfl) ?_
  simp only [Act.put, List.setIfInBounds_toArray, List.set]
  repeat (go_big_quiet_step (fail))
  refine wpQuiet_nil ?_
  clear hld3
  refine oneG 0 7 rfl (by kernel_rfl) rfl ?_
  go_wp2_with fail
  refine (refSums_at w5).mono ?_
  rintro e w6 ⟨x, rfl, hx, hb6⟩
  have HV6 := Lib.hid (HV5.out.below hb6 HV5.out.lt)
  have HR6 := Lib.hid ((HR5.out.below hb6).more hb6.size)
  have HX := Lib.hid hx
  have Hb6 := bb Hb5 hb6
  clear hx HK5 HV5 HR5 Hb5
  go_wp2
  refine ⟨hb6, ?_⟩
  clear hb6
  refine oneG 6 6 rfl (by kernel_rfl) rfl ?_
  go_wp2_with fail
  refine (short10_any A l.length c m w6 HM.out hc).mono ?_
  rintro e w7 ⟨rfl, rfl⟩
  go_wp2
  refine ⟨grows.refl _, ?_⟩
  refine oneG 7 5 rfl (by kernel_rfl) rfl ?_
  go_wp2_with fail
  refine (refSealT_any w7 x HX.out k iv d id gen (some ⟨gv, 0, none⟩) A 16 m c HK.out HIV.out HDl.out.symm (by have := Rd.of_all HV6.out; exact this) ((HR.out.below Hb6.out).more Hb6.out.size) (by rw [HDl.out]; omega) Z zn HZ.out HZN.out).mono ?_
  rintro e w8 ⟨A8, c8, rfl, hr8, hb8⟩
  have HR8 := Lib.hid hr8
  have HR8' := Lib.hid ((HR6.out.below hb8).more hb8.size)
  have Hb8 := bb Hb6 hb8
  clear hr8 HR6 HV6 Hb6
  go_wp2
  refine ⟨hb8, ?_⟩
  clear hb8
  refine segG (by kernel_rfl) (fun _ _ _ _ _ h => h) [8, 9, 10, 11, 12] [_, _, _, _, _] 0 rfl rfl (by kernel_rfl) ?_
  repeat (go_big_quiet_step (fail))
  refine wpQuiet_nil ?_
  refine wpAnyG_done (by kernel_rfl) ?_
  by_cases hlo : n < 0
  · have hd1 : decide (0 ≤ n) = false := by simp; omega
    have HSN : Hid (sizeN n = 0) := Lib.hid (by rw [sizeN, if_neg (by omega)])
    go_wp2_with fail
    refine (awake10_any HOK.out w8 (HOK.out.keep HG.out Hb8.out)).mono ?_
    rintro e w9 ⟨rfl, hb9⟩
    have Hb9 := bb Hb8 hb9
    have hs1 := string_later_rd ((HR8.out.below hb9).more hb9.size) c8 ⟨w9, grows.refl _⟩
    have hs2 := string_later_rd ((HR8'.out.below hb9).more hb9.size) c4 ⟨w9, grows.refl _⟩
    rw [← HZN.out] at hs1 hs2
    obtain ⟨S, hS⟩ : ∃ S : ByteArray, (⟨Z.toArray⟩ : ByteArray) = S := ⟨_, rfl⟩
    rw [hS] at hs1 hs2
    clear hS hb9 Hb8
    go_wp2_with fail
    refine (HOK.out.size w9 n HNN.out).mono ?_
    rintro e w10 ⟨rfl, hb10⟩
    have Hb10 := bb Hb9 hb10
    rw [HSN.out]
    clear hs1 hs2 hb10 Hb9
    go_wp2_with fail
    refine (short10_any A l.length c m w10 HM.out hc).mono ?_
    rintro e w11 ⟨rfl, rfl⟩
    go_wp2_with fail
    refine (HOK.out.size w11 m (isI64_of _ (by omega) (by omega))).mono ?_
    rintro e w12 ⟨rfl, hb12⟩
    have Hb12 := bb Hb10 hb12
    rw [← HZM.out]
    clear hb12 Hb10
    go_wp2
    go_ret
    exact ⟨by simp, Hb12.out⟩
  · have hd1 : decide (0 ≤ n) = true := by simp; omega
    by_cases hhi : 1048576 < n
    · have hd2 : decide (n ≤ 1048576) = false := by simp; omega
      have HSN : Hid (sizeN n = 0) := Lib.hid (by rw [sizeN, if_neg (by omega)])
      go_wp2_with fail
      refine (awake10_any HOK.out w8 (HOK.out.keep HG.out Hb8.out)).mono ?_
      rintro e w9 ⟨rfl, hb9⟩
      have Hb9 := bb Hb8 hb9
      have hs1 := string_later_rd ((HR8.out.below hb9).more hb9.size) c8 ⟨w9, grows.refl _⟩
      have hs2 := string_later_rd ((HR8'.out.below hb9).more hb9.size) c4 ⟨w9, grows.refl _⟩
      rw [← HZN.out] at hs1 hs2
      obtain ⟨S, hS⟩ : ∃ S : ByteArray, (⟨Z.toArray⟩ : ByteArray) = S := ⟨_, rfl⟩
      rw [hS] at hs1 hs2
      clear hS hb9 Hb8
      go_wp2_with fail
      refine (HOK.out.size w9 n HNN.out).mono ?_
      rintro e w10 ⟨rfl, hb10⟩
      have Hb10 := bb Hb9 hb10
      rw [HSN.out]
      clear hs1 hs2 hb10 Hb9
      go_wp2_with fail
      refine (short10_any A l.length c m w10 HM.out hc).mono ?_
      rintro e w11 ⟨rfl, rfl⟩
      go_wp2_with fail
      refine (HOK.out.size w11 m (isI64_of _ (by omega) (by omega))).mono ?_
      rintro e w12 ⟨rfl, hb12⟩
      have Hb12 := bb Hb10 hb12
      rw [← HZM.out]
      clear hb12 Hb10
      go_wp2
      go_ret
      exact ⟨by simp, Hb12.out⟩
    · have hd2 : decide (n ≤ 1048576) = true := by simp; omega
      obtain ⟨q, hq⟩ : ∃ q, q = 88 + n / 16 * 16 := ⟨_, rfl⟩
      have HSN : Hid (sizeN n = q) := Lib.hid (by rw [sizeN, if_pos (by omega), hq])
      go_wp2_with fail
      refine (awake10_any HOK.out w8 (HOK.out.keep HG.out Hb8.out)).mono ?_
      rintro e w9 ⟨rfl, hb9⟩
      have Hb9 := bb Hb8 hb9
      have hs1 := string_later_rd ((HR8.out.below hb9).more hb9.size) c8 ⟨w9, grows.refl _⟩
      have hs2 := string_later_rd ((HR8'.out.below hb9).more hb9.size) c4 ⟨w9, grows.refl _⟩
      rw [← HZN.out] at hs1 hs2
      obtain ⟨S, hS⟩ : ∃ S : ByteArray, (⟨Z.toArray⟩ : ByteArray) = S := ⟨_, rfl⟩
      rw [hS] at hs1 hs2
      clear hS hb9 Hb8
      go_wp2_with fail
      refine (HOK.out.size w9 n HNN.out).mono ?_
      rintro e w10 ⟨rfl, hb10⟩
      have Hb10 := bb Hb9 hb10
      rw [HSN.out]
      clear hs1 hs2 hb10 Hb9
      go_wp2_with fail
      refine (short10_any A l.length c m w10 HM.out hc).mono ?_
      rintro e w11 ⟨rfl, rfl⟩
      go_wp2_with fail
      refine (HOK.out.size w11 m (isI64_of _ (by omega) (by omega))).mono ?_
      rintro e w12 ⟨rfl, hb12⟩
      have Hb12 := bb Hb10 hb12
      rw [← HZM.out]
      clear hb12 Hb10
      go_wp2
      go_ret
      exact ⟨by simp, Hb12.out⟩
end Go.Proofs.YtjhkodmaalefiaaDoor
