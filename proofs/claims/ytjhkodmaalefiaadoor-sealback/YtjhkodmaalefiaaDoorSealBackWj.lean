/-
  Layer 10: SealBack, walked from the contract of seal's functions.
-/
import Derived.Test.YtjhkodmaalefiaaDoorSealJ24
set_option maxRecDepth 100000
namespace Go.Proofs.YtjhkodmaalefiaaDoor
open Go.RowKit Go.Gar Go.Gar.Aes

set_option maxHeartbeats 4000000 in
theorem sealback_walk {G : World → Prop} (hOK : SealOK G) (A : Option Addr) (l d k iv : List UInt8) (id gen id2 gen2 : Int) (c m : Nat) (w : World) (hG : G w) (hk : k.length = 64) (hiv : iv.length = 16) (hid : isI64 id) (hgen : isI64 gen) (hid2 : isI64 id2) (hgen2 : isI64 gen2) (hc : l.length ≤ c) (hdl : d.length = m) (hm : m = min l.length 200) (hr : Rd w w.heap.size A d) :
    Calls Tryd.prog 5 #[.agg (u8s k).toArray, .agg (u8s iv).toArray, .int .i64 id, .int .i64 gen, .int .i64 id2, .int .i64 gen2, .slice A l.length c] w fun e w' => e = .returned (.bool true) ∧ Below w.heap.size w w' := by
  have hm200 : m ≤ 200 := by omega
  have hmc : m ≤ c := by omega
  have hK0 := Blk.new w 24 (u8s k)
  have hb0 := below_alloc w (.cells (u8s k).toArray 24)
  obtain ⟨w0, hw0⟩ : ∃ w0, w.alloc (.cells (u8s k).toArray 24) = w0 := ⟨_, rfl⟩
  rw [hw0] at hK0 hb0
  have hV1 := Blk.new w0 25 (u8s iv)
  have hb1 := below_alloc w0 (.cells (u8s iv).toArray 25)
  have hK1 := hK0.alloc (.cells (u8s iv).toArray 25)
  obtain ⟨w1, hw1⟩ : ∃ w1, w0.alloc (.cells (u8s iv).toArray 25) = w1 := ⟨_, rfl⟩
  rw [hw1] at hV1 hb1 hK1
  have hs0 : w0.heap.size = w.heap.size + 1 := by rw [← hw0, World.size_alloc]
  obtain ⟨Z, hZ⟩ : ∃ Z, Z = sealS k iv id gen d := ⟨_, rfl⟩
  obtain ⟨zn, hzn⟩ : ∃ zn, zn = Z.length := ⟨_, rfl⟩
  have hzl : zn ≤ 900000 := by rw [hzn, hZ, sealS_len _ _ _ _ _ hiv, hdl]; omega
  have hop : openS k id gen Z = some d := by rw [hZ]; exact openS_seal _ _ _ _ _ hiv
  obtain ⟨E6, hE6⟩ : ∃ E6 : Int, E6 = ((openSE k id2 gen2 Z : Nat) : Int) := ⟨_, rfl⟩
  obtain ⟨O6, hO6⟩ : ∃ O6, O6 = openSB k id2 gen2 Z := ⟨_, rfl⟩
  obtain ⟨n6, hn6⟩ : ∃ n6, n6 = O6.length := ⟨_, rfl⟩
  have hno : ¬ (id2 = id ∧ gen2 = gen) → E6 = 12 := by
    intro hne
    rcases h : openS k id2 gen2 Z with _ | y
    · rw [hE6, openSE, h]; rfl
    · rw [hZ] at h
      exact absurd (openS_other hiv hid hgen hid2 hgen2 h) hne
  have hyes : id2 = id → gen2 = gen → E6 = 0 := by
    intro h1 h2
    rw [hE6, h1, h2, openSE, hop]; rfl
  have HE5 : Hid ((0 : Int) = ((openSE k id gen Z : Nat) : Int)) := Lib.hid (by rw [openSE, hop]; rfl)
  have HO5 : Hid (d = openSB k id gen Z) := Lib.hid (by rw [openSB, hop]; rfl)
  have HE6 := Lib.hid hE6
  have HO6 := Lib.hid hO6
  have HN6 := Lib.hid hn6
  have HNo := Lib.hid hno
  have HYes := Lib.hid hyes
  have HZL := Lib.hid hzl
  clear hop hE6 hO6 hn6 hno hyes hzl
  have HOK := Lib.hid hOK
  have HG := Lib.hid hG
  have HK := Lib.hid hk
  have HIV := Lib.hid hiv
  have HI := Lib.hid hid
  have HJ := Lib.hid hgen
  have HI2 := Lib.hid hid2
  have HJ2 := Lib.hid hgen2
  have HDl := Lib.hid hdl
  have HM := Lib.hid hm
  have HR := Lib.hid hr
  have HW0 := Lib.hid hw0
  have HW1 := Lib.hid hw1
  have HSz := Lib.hid hs0
  have HK1 := Lib.hid hK1
  have HV1 := Lib.hid hV1
  have HZ := Lib.hid hZ
  have HZN := Lib.hid hzn
  have Hb1 := Lib.hid (hb0.trans (hb1.mono hb0.size))
  clear hOK hG hk hiv hid hgen hid2 hgen2 hdl hm hr hw0 hw1 hs0 hK0 hK1 hV1 hb0 hb1 hZ hzn
  go_enter Tryd.func5, Tryd.ntmps5
  go_wp2_with fail
  rw [HW0.out, HW1.out, ← HSz.out]
  clear HW0 HW1 HSz
  obtain ⟨gv, hgv⟩ : ∃ g, w0.heap.size = g := ⟨_, rfl⟩
  obtain ⟨gk, hgk⟩ : ∃ g, w.heap.size = g := ⟨_, rfl⟩
  rw [hgv] at HV1 ⊢
  have HK1' : Hid (Blk w1 gk 24 (u8s k)) := Lib.hid (by rw [← hgk]; exact HK1.out)
  clear hgv HK1
  refine wp_region_G grows (by kernel_rfl) ?_
  have HK2 := Lib.hid HK1'.out.drew
  have HV2 := Lib.hid HV1.out.drew
  have Hb2 := Lib.hid Hb1.out.drew
  clear HK1' HV1 Hb1
  generalize w1.drew = w2 at HK2 HV2 Hb2 ⊢
  have hld1 := load_k_later HK2.out HK.out
  have hld2 := load_v_later HV2.out HIV.out
  rw [hgk]
  refine segG (by kernel_rfl) (fun _ _ _ _ _ h => h) [0, 1, 2, 3, 4] [_, _, _, _, _] 7 rfl rfl (by kernel_rfl) ?_
  refine wpQuiet_load_arr 24 (.tmp 7) rfl rfl (u8s k).toArray hld1 (by kernel_rfl) ?_
  simp only [Act.put, List.setIfInBounds_toArray, List.set]
  refine wpQuiet_load_arr 25 (.tmp 8) rfl rfl (u8s iv).toArray hld2 (by kernel_rfl) ?_
  simp only [Act.put, List.setIfInBounds_toArray, List.set]
  repeat (go_big_quiet_step (fail))
  refine wpQuiet_nil ?_
  clear hld1 hld2
  refine oneG 5 6 rfl (by kernel_rfl) rfl ?_
  go_wp2_with fail
  refine (short10_any A l.length c m w2 HM.out hc).mono ?_
  rintro e w3 ⟨rfl, rfl⟩
  go_wp2
  refine ⟨grows.refl _, ?_⟩
  refine oneG 6 5 rfl (by kernel_rfl) rfl ?_
  go_wp2_with fail
  refine (sealS_at HOK.out w3 k iv d _ _ id gen A m c zn Z rfl rfl (HOK.out.keep HG.out Hb2.out) HK.out HIV.out HI.out HJ.out ((HR.out.below Hb2.out).more Hb2.out.size) HDl.out.symm hmc (by omega) HZ.out HZN.out).mono ?_
  rintro e w4 ⟨A4, c4, rfl, hc4, hr4, hb4⟩
  have HK4 := Lib.hid (HK2.out.below hb4 HK2.out.lt)
  have HV4 := Lib.hid (HV2.out.below hb4 HV2.out.lt)
  have HR4 := Lib.hid hr4
  have Hb4 := bb Hb2 hb4
  clear hr4 HK2 HV2 Hb2
  go_wp2
  refine ⟨hb4, ?_⟩
  clear hb4
  refine segG (by kernel_rfl) (fun _ _ _ _ _ h => h) [7, 8, 9, 10, 11] [_, _, _, _, _] 0 rfl rfl (by kernel_rfl) ?_
  repeat (go_big_quiet_step (fail))
  refine wpQuiet_nil ?_
  refine wpAnyG_done (by kernel_rfl) ?_
  have hld4 := load_keys HK4.out HK.out
  go_wp2_with (first | refine wpList_load_arr_w 24 (.tmp 7) rfl rfl (u8s k).toArray hld4 (by kernel_rfl) ?_)
  clear hld4
  refine (sealO_at HOK.out w4 k Z _ id gen A4 zn c4 m 0 d rfl (HOK.out.keep HG.out Hb4.out) HK.out HI.out HJ.out HR4.out HZN.out hc4 HZL.out HE5.out HO5.out HDl.out.symm).mono ?_
  rintro e w5 ⟨A5, c5, rfl, hc5, hr5, hb5⟩
  have HK5 := Lib.hid (HK4.out.below hb5 HK4.out.lt)
  have HR5 := Lib.hid hr5
  have HR5' := Lib.hid ((HR4.out.below hb5).more hb5.size)
  have Hb5 := bb Hb4 hb5
  have hld5 := load_keys HK5.out HK.out
  clear hr5 hb5 HK4 HR4 Hb4
  go_wp2_with (first | refine wpList_load_arr_w 24 (.tmp 7) rfl rfl (u8s k).toArray hld5 (by kernel_rfl) ?_)
  clear hld5
  refine (sealO_at HOK.out w5 k Z _ id2 gen2 A4 zn c4 n6 E6 O6 rfl (HOK.out.keep HG.out Hb5.out) HK.out HI2.out HJ2.out HR5'.out HZN.out hc4 HZL.out HE6.out HO6.out HN6.out).mono ?_
  rintro e w6 ⟨A6, c6, rfl, hc6, hr6, hb6⟩
  have HR6 := Lib.hid ((HR5.out.below hb6).more hb6.size)
  have Hb6 := bb Hb5 hb6
  clear hr6 hb6 HR5 HR5' Hb5 HK5
  go_wp2_with fail
  refine wp_region_G grows (by kernel_rfl) ?_
  have HR7 : Hid (Rd w6.drew w6.drew.heap.size A5 d) := Lib.hid HR6.out
  have Hb7 := Lib.hid Hb6.out.drew
  clear HR6 Hb6
  generalize w6.drew = w7 at HR7 Hb7 ⊢
  refine oneG 0 30 rfl (by kernel_rfl) rfl ?_
  go_wp2_with fail
  refine (awake10_any HOK.out w7 (HOK.out.keep HG.out Hb7.out)).mono ?_
  rintro e w8 ⟨rfl, hb8⟩
  have Hb8 := bb Hb7 hb8
  have hs1 := string_later_rd ((HR7.out.below hb8).more hb8.size) c5
  have hs2 := string_later_rd ((HR.out.below Hb8.out).more Hb8.out.size) c
  rw [HDl.out] at hs1 hs2
  obtain ⟨S, hS⟩ : ∃ S : ByteArray, (⟨d.toArray⟩ : ByteArray) = S := ⟨_, rfl⟩
  rw [hS] at hs1 hs2
  clear hS HR7 Hb7
  go_wp2
  refine ⟨hb8, ?_⟩
  clear hb8
  refine segG (by kernel_rfl) (fun _ _ _ _ _ h => h) [1, 2, 3, 4, 5, 6, 7, 8, 9, 10, 11, 12] [_, _, _, _, _, _, _, _, _, _, _, _] 18 rfl rfl (by kernel_rfl) ?_
  repeat (go_big_quiet_step (fail))
  refine wpQuiet_nil ?_
  clear hs1
  refine oneG 13 17 rfl (by kernel_rfl) rfl ?_
  go_wp2_with fail
  refine (short10_any A l.length c m w8 HM.out hc).mono ?_
  rintro e w9 ⟨rfl, rfl⟩
  go_wp2
  refine ⟨grows.refl _, ?_⟩
  by_cases h1 : id2 = id
  · have hd1 : (id2 == id) = true := by simpa using h1
    have hd1' : decide (id2 = id) = true := by simpa using h1
    by_cases h2 : gen2 = gen
    · have hd2 : (gen2 == gen) = true := by simpa using h2
      have hd2' : decide (gen2 = gen) = true := by simpa using h2
      obtain rfl := HYes.out h1 h2
      clear h1 h2 HYes HNo
      refine segG (by kernel_rfl) (fun _ _ _ _ _ h => h) [14, 15, 16, 17, 18, 19, 20, 21, 22, 23, 24, 25, 26, 27, 28, 29, 30] [_, _, _, _, _, _, _, _, _, _, _, _, _, _, _, _, _] 0 rfl rfl (by kernel_rfl) ?_
      repeat (go_big_quiet_step (fail))
      refine wpQuiet_nil ?_
      refine wpAnyG_done (by kernel_rfl) ?_
      go_wp2
      go_ret
      exact ⟨by simp, Hb8.out⟩
    · have hd2 : (gen2 == gen) = false := by simpa using h2
      have hd2' : decide (gen2 = gen) = false := by simpa using h2
      obtain rfl := HNo.out (fun h => h2 h.2)
      clear h1 h2 HYes HNo
      refine segG (by kernel_rfl) (fun _ _ _ _ _ h => h) [14, 15, 16, 17, 18, 19, 20, 21, 22, 23, 24, 25, 26, 27, 28, 29, 30] [_, _, _, _, _, _, _, _, _, _, _, _, _, _, _, _, _] 0 rfl rfl (by kernel_rfl) ?_
      repeat (go_big_quiet_step (fail))
      refine wpQuiet_nil ?_
      refine wpAnyG_done (by kernel_rfl) ?_
      go_wp2
      go_ret
      exact ⟨by simp, Hb8.out⟩
  · have hd1 : (id2 == id) = false := by simpa using h1
    have hd1' : decide (id2 = id) = false := by simpa using h1
    obtain rfl := HNo.out (fun h => h1 h.1)
    clear h1 HYes HNo
    refine segG (by kernel_rfl) (fun _ _ _ _ _ h => h) [14, 15, 16, 17, 18, 19, 20, 21, 22, 23, 24, 25, 26, 27, 28, 29, 30] [_, _, _, _, _, _, _, _, _, _, _, _, _, _, _, _, _] 0 rfl rfl (by kernel_rfl) ?_
    repeat (go_big_quiet_step (fail))
    refine wpQuiet_nil ?_
    refine wpAnyG_done (by kernel_rfl) ?_
    go_wp2
    go_ret
    exact ⟨by simp, Hb8.out⟩
end Go.Proofs.YtjhkodmaalefiaaDoor
