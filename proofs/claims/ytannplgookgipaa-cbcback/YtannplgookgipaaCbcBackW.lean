/-
  Layer 7: CbcBack, walked from the contracts of cbc's functions.
-/
import Derived.Test.YtannplgookgipaaCbcAw
import Derived.Test.YtannplgookgipaaAesLem
import Derived.Test.YtannplgookgipaaReg2
import Derived.RegionTactic
import Derived.BigRegion
namespace Go.Proofs.Ytannplgookgipaa
open Go.ChangeShapes Go.WideShapes Go.ChangeAt Go.RowKit Go.Gar Go.Gar.Aes

set_option maxHeartbeats 4000000 in
set_option maxRecDepth 100000 in
theorem cbcback_walk (hOK : CbcOK) (K A C : Option Addr) (key iv lb lc b c : List UInt8) (kc bc cc nn m mb mc : Nat) (x : Array Value) (w : World) (hx : x = (u8s iv).toArray) (hiv : iv.length = 16) (hbc : lb.length ≤ bc) (hcc : lc.length ≤ cc) (hbl : b.length = mb) (hcl : c.length = mc) (hmb : mb = min lb.length 200) (hmc : mc = min lc.length 200)
    (hm : m = 16 + 8 * (nn % 3)) (hnn : nn < 256) (rK : Rd w w.heap.size K key) (rA : Rd w w.heap.size A b) (rC : Rd w w.heap.size C c) :
    Calls Try.prog 5 #[.slice K key.length kc, .int .u8 (nn : Int), .agg x, .slice A lb.length bc, .slice C lc.length cc] w fun e w' => e = .returned (.bool true) ∧ Below w.heap.size w w' := by
  have hb200 : mb ≤ 200 := by omega
  have hbbc : mb ≤ bc := by omega
  have hc200 : mc ≤ 200 := by omega
  have hccc : mc ≤ cc := by omega
  obtain ⟨kk, hkk⟩ : ∃ kk, kk = fit key m := ⟨_, rfl⟩
  have hkl : kk.length = m := by rw [hkk]; exact fit_len key m
  have hs : sizeOk kk.length := by rw [hkl]; unfold sizeOk; omega
  obtain ⟨X, hX⟩ : ∃ X, X = Cbc.seal_ kk iv b := ⟨_, rfl⟩
  obtain ⟨nX, hnX⟩ : ∃ nX, nX = mb / 16 * 16 + 16 := ⟨_, rfl⟩
  have HXl : Hid (nX = X.length) := Lib.hid (by rw [hX, Cbc.seal_len, hbl, hnX])
  have HE1 : Hid ((0 : Int) = ((sealE kk : Nat) : Int)) := Lib.hid (by rw [show sealE kk = 0 from if_pos hs]; rfl)
  have HO1 : Hid (X = sealB kk iv b) := Lib.hid (by rw [show sealB kk iv b = Cbc.seal_ kk iv b from if_pos hs, hX])
  have hop : Cbc.open_ kk iv X = some b := by rw [hX]; exact Cbc.open_seal kk iv b
  have HE2 : Hid ((0 : Int) = ((openE kk iv X : Nat) : Int)) := Lib.hid (by rw [show openE kk iv X = if (Cbc.open_ kk iv X).isSome then 0 else 12 from if_pos hs, hop]; rfl)
  have HO2 : Hid (b = openB kk iv X) := Lib.hid (by rw [show openB kk iv X = (Cbc.open_ kk iv X).getD [] from if_pos hs, hop]; rfl)
  obtain ⟨E3, hE3⟩ : ∃ E3 : Int, E3 = ((openE kk iv c : Nat) : Int) := ⟨_, rfl⟩
  obtain ⟨O3, hO3⟩ : ∃ O3, O3 = openB kk iv c := ⟨_, rfl⟩
  obtain ⟨n3, hn3⟩ : ∃ n3, n3 = O3.length := ⟨_, rfl⟩
  have hmk := run_make_bytes m m (Nat.le_refl _) (by omega) (w.alloc (.cells x 23))
  have hBn := Blk.new (w.alloc (.cells x 23)) 5 (u8s (List.replicate m 0))
  have hba := below_alloc w (.cells x 23)
  have hb0 := hba.alloc hba.size (.cells (u8s (List.replicate m 0)).toArray 5)
  have hcp := run_copy_min (P := Try.prog) 22 22 3 5 Try.und22 Try.size5 (w.alloc (.cells x 23)).heap.size m m kc K key w.heap.size (rK.below hb0) _ _ hBn (by simp [u8s_len])
  have hrow := hBn.row (u8s (key.take m) ++ (u8s (List.replicate m 0)).drop (min key.length m))
  have hfit : u8s (key.take m) ++ (u8s (List.replicate m 0)).drop (min key.length m) = u8s kk := by
    rw [hkk, u8s_drop, ← u8s_app, fit, List.drop_replicate]
    congr 3
    omega
  rw [hfit] at hcp hrow
  have hC0 : Blk (w.alloc (.cells x 23)) w.heap.size 23 x.toList := by
    have := Blk.new w 23 x.toList
    rw [Array.toArray_toList] at this
    exact this
  have hC := (hC0.alloc (.cells (u8s (List.replicate m 0)).toArray 5)).rowFar (g' := (w.alloc (.cells x 23)).heap.size) (by rw [World.size_alloc]; omega) (u8s kk).toArray
  have Hb := Lib.hid (below_setRow hb0 hba.size (u8s kk).toArray)
  have HK := Lib.hid hrow
  have HC := Lib.hid hC
  rw [show ((m : Nat) : Int) = 16 + 8 * ((nn : Int) % 3) from by omega] at hmk
  rw [World.size_alloc] at hmk hcp HK HC Hb
  obtain ⟨w1, hw1⟩ : ∃ w1, World.setRow ((w.alloc (.cells x 23)).alloc (.cells (u8s (List.replicate m 0)).toArray 5)) (w.heap.size + 1) (u8s kk).toArray = w1 := ⟨_, rfl⟩
  rw [hw1] at hcp HK HC Hb
  clear hw1
  have HOK := Lib.hid hOK
  have HX := Lib.hid hx
  have HIV := Lib.hid hiv
  have HBL := Lib.hid hbl
  have HCL := Lib.hid hcl
  have HMB := Lib.hid hmb
  have HMC := Lib.hid hmc
  have HKL := Lib.hid hkl
  have HS := Lib.hid hs
  have HNX := Lib.hid hnX
  have HE3 := Lib.hid hE3
  have HO3 := Lib.hid hO3
  have HN3 := Lib.hid hn3
  have HRA := Lib.hid rA
  have HRC := Lib.hid rC
  clear hOK hx hiv hbl hcl hmb hmc hkl hs hnX hE3 hO3 hn3 rA rC rK hkk hX hop hBn hba hb0 hrow hfit hC0 hC hm
  go_enter Try.func5, Try.ntmps5
  go_wp2_with fail
  clear hmk hcp
  refine wp_region_G grows (by kernel_rfl) ?_
  have HK2 := Lib.hid HK.out.drew
  have HC2 := Lib.hid HC.out.drew
  have Hb2 := Lib.hid Hb.out.drew
  clear HK HC Hb
  generalize w1.drew = w2 at HK2 HC2 Hb2 ⊢
  have HLD := Lib.hid (load16 iv x HX.out HIV.out HC2.out)
  refine segG (by kernel_rfl) (fun _ _ _ _ _ h => h) [0, 1, 2] [_, _, _] 7 rfl rfl (by kernel_rfl) ?_
  repeat (go_big_quiet_step (fail))
  refine wpQuiet_load_arr 23 (.tmp 7) rfl rfl x HLD.out (by kernel_rfl) ?_
  simp only [Act.put, List.setIfInBounds_toArray, List.set]
  repeat (go_big_quiet_step (fail))
  refine wpQuiet_nil ?_
  clear HLD
  refine oneG 3 6 rfl (by kernel_rfl) rfl ?_
  go_wp2_with fail
  refine (short7_any A lb.length bc mb w2 HMB.out hbc).mono ?_
  rintro e w3 ⟨rfl, rfl⟩
  go_wp2
  refine ⟨grows.refl _, ?_⟩
  refine oneG 4 5 rfl (by kernel_rfl) rfl ?_
  go_wp2_with fail
  refine (seal_at HOK.out w3 _ A kk iv b m m mb bc x 0 X nX HX.out HKL.out.symm HBL.out.symm HE1.out HO1.out HXl.out (Rd.of_all HK2.out) ((HRA.out.below Hb2.out).more Hb2.out.size) HIV.out (Nat.le_refl _) hbbc (by omega)).mono ?_
  rintro e w4 ⟨B4, c4, rfl, hc4, r4, hb4⟩
  have HR4 := Lib.hid r4
  have HK4 := Lib.hid (HK2.out.below hb4 HK2.out.lt)
  have HC4 := Lib.hid (HC2.out.below hb4 HC2.out.lt)
  have Hb4 := bb Hb2 hb4
  clear r4 HK2 HC2 Hb2
  go_wp2
  refine ⟨hb4, ?_⟩
  clear hb4
  refine segG (by kernel_rfl) (fun _ _ _ _ _ h => h) [5, 6, 7, 8, 9] [_, _, _, _, _] 0 rfl rfl (by kernel_rfl) ?_
  repeat (go_big_quiet_step (fail))
  refine wpQuiet_nil ?_
  refine wpAnyG_done (by kernel_rfl) ?_
  have hld := load16 iv x HX.out HIV.out HC4.out ⟨w4, grows.refl _⟩
  go_wp2_with (refine wpList_load_arr rfl 23 (.tmp 7) rfl rfl x hld ?_)
  clear hld
  have HXb : Hid (nX ≤ 1048576) := Lib.hid (by rw [HNX.out]; omega)
  refine (open_at HOK.out w4 _ _ kk iv X m m nX c4 x 0 b mb HX.out HKL.out.symm HXl.out HE2.out HO2.out HBL.out.symm (Rd.of_all HK4.out) HR4.out HIV.out (Nat.le_refl _) hc4 HXb.out).mono ?_
  rintro e w5 ⟨B5, c5, rfl, hc5, r5, hb5⟩
  have HR5 := Lib.hid r5
  have HK5 := Lib.hid (HK4.out.below hb5 HK4.out.lt)
  have HC5 := Lib.hid (HC4.out.below hb5 HC4.out.lt)
  have Hb5 := bb Hb4 hb5
  clear r5 HK4 HC4 Hb4 HR4 hb5
  go_wp2_with fail
  refine wp_region_G grows (by kernel_rfl) ?_
  have HR6 : Hid (Rd w5.drew w5.drew.heap.size B5 b) := HR5
  have HK6 := Lib.hid HK5.out.drew
  have HC6 := Lib.hid HC5.out.drew
  have Hb6 := Lib.hid Hb5.out.drew
  clear HR5 HK5 HC5 Hb5
  generalize w5.drew = w6 at HR6 HK6 HC6 Hb6 ⊢
  have hs1 := string_later_rd HR6.out c5
  have hs2 := string_later_rd ((HRA.out.below Hb6.out).more Hb6.out.size) bc
  rw [HBL.out] at hs1 hs2
  refine segG (by kernel_rfl) (fun _ _ _ _ _ h => h) [0, 1, 2, 3, 4, 5, 6, 7, 8, 9] [_, _, _, _, _, _, _, _, _, _] 15 rfl rfl (by kernel_rfl) ?_
  repeat (go_big_quiet_step (fail))
  refine wpQuiet_nil ?_
  refine oneG 10 14 rfl (by kernel_rfl) rfl ?_
  go_wp2_with fail
  refine (short7_any A lb.length bc mb w6 HMB.out hbc).mono ?_
  rintro e w7 ⟨rfl, rfl⟩
  go_wp2
  refine ⟨grows.refl _, ?_⟩
  refine segG (by kernel_rfl) (fun _ _ _ _ _ h => h) [11, 12, 13, 14, 15, 16, 17] [_, _, _, _, _, _, _] 7 rfl rfl (by kernel_rfl) ?_
  repeat (go_big_quiet_step (fail))
  refine wpQuiet_nil ?_
  clear hs1 hs2
  refine oneG 18 6 rfl (by kernel_rfl) rfl ?_
  go_wp2_with fail
  refine (short7_any A lb.length bc mb w7 HMB.out hbc).mono ?_
  rintro e w8 ⟨rfl, rfl⟩
  go_wp2
  refine ⟨grows.refl _, ?_⟩
  have hnq : ((nX : Int) != (mb : Int) / 16 * 16 + 16) = false := by
    have := HNX.out
    simp
    omega
  refine segG (by kernel_rfl) (fun _ _ _ _ _ h => h) [19, 20, 21, 22, 23, 24] [_, _, _, _, _, _] 0 rfl rfl (by kernel_rfl) ?_
  repeat (go_big_quiet_step (fail))
  refine wpQuiet_nil ?_
  refine wpAnyG_done (by kernel_rfl) ?_
  go_wp2_with fail
  clear hnq
  refine wp_region_G grows (by kernel_rfl) ?_
  have HK9 := Lib.hid HK6.out.drew
  have HC9 := Lib.hid HC6.out.drew
  have Hb9 := Lib.hid Hb6.out.drew
  clear HK6 HC6 Hb6 HR6
  generalize w8.drew = w9 at HK9 HC9 Hb9 ⊢
  have HLD := Lib.hid (load16 iv x HX.out HIV.out HC9.out)
  refine segG (by kernel_rfl) (fun _ _ _ _ _ h => h) [0, 1, 2] [_, _, _] 7 rfl rfl (by kernel_rfl) ?_
  repeat (go_big_quiet_step (fail))
  refine wpQuiet_load_arr 23 (.tmp 7) rfl rfl x HLD.out (by kernel_rfl) ?_
  simp only [Act.put, List.setIfInBounds_toArray, List.set]
  repeat (go_big_quiet_step (fail))
  refine wpQuiet_nil ?_
  clear HLD
  refine oneG 3 6 rfl (by kernel_rfl) rfl ?_
  go_wp2_with fail
  refine (short7_any C lc.length cc mc w9 HMC.out hcc).mono ?_
  rintro e w10 ⟨rfl, rfl⟩
  go_wp2
  refine ⟨grows.refl _, ?_⟩
  refine oneG 4 5 rfl (by kernel_rfl) rfl ?_
  go_wp2_with fail
  refine (open_at HOK.out w10 _ C kk iv c m m mc cc x E3 O3 n3 HX.out HKL.out.symm HCL.out.symm HE3.out HO3.out HN3.out (Rd.of_all HK9.out) ((HRC.out.below Hb9.out).more Hb9.out.size) HIV.out (Nat.le_refl _) hccc (by omega)).mono ?_
  rintro e w11 ⟨B11, c11, rfl, hc11, r11, hb11⟩
  have HR11 := Lib.hid r11
  have HK11 := Lib.hid (HK9.out.below hb11 HK9.out.lt)
  have HC11 := Lib.hid (HC9.out.below hb11 HC9.out.lt)
  have Hb11 := bb Hb9 hb11
  clear r11 HK9 HC9 Hb9
  go_wp2
  refine ⟨hb11, ?_⟩
  clear hb11
  refine segG (by kernel_rfl) (fun _ _ _ _ _ h => h) [5, 6, 7, 8, 9] [_, _, _, _, _] 0 rfl rfl (by kernel_rfl) ?_
  repeat (go_big_quiet_step (fail))
  refine wpQuiet_nil ?_
  refine wpAnyG_done (by kernel_rfl) ?_
  have hE3 : openE kk iv c = if (Cbc.open_ kk iv c).isSome then 0 else 12 := if_pos HS.out
  have hO3 : openB kk iv c = (Cbc.open_ kk iv c).getD [] := if_pos HS.out
  rcases hop : Cbc.open_ kk iv c with _ | z
  · obtain rfl : E3 = 12 := by rw [HE3.out, hE3, hop]; rfl
    obtain rfl : n3 = 0 := by rw [HN3.out, HO3.out, hO3, hop]; rfl
    clear hop hE3 hO3
    go_wp2_with fail
    refine (awake7_any HOK.out w11).mono ?_
    rintro e w12 ⟨rfl, hb12⟩
    have Hb12 := bb Hb11 hb12
    clear hb12
    go_wp2
    go_ret
    exact ⟨by simp, Hb12.out⟩
  · obtain rfl : E3 = 0 := by rw [HE3.out, hE3, hop]; rfl
    have hOz : O3 = z := by rw [HO3.out, hO3, hop]; rfl
    have hback := Cbc.seal_open kk iv c z HIV.out hop
    have hz200 : n3 ≤ 200 := by
      have h1 := congrArg List.length hback
      rw [Cbc.seal_len, HCL.out] at h1
      rw [HN3.out, hOz]
      omega
    rw [hOz] at HR11 HN3
    have HO4 : Hid (c = sealB kk iv z) := Lib.hid (by rw [show sealB kk iv z = Cbc.seal_ kk iv z from if_pos HS.out, hback])
    clear hop hE3 hO3 hOz hback
    have hld := load16 iv x HX.out HIV.out HC11.out ⟨w11, grows.refl _⟩
    go_wp2_with (refine wpList_load_arr rfl 23 (.tmp 7) rfl rfl x hld ?_)
    clear hld
    refine (seal_at HOK.out w11 _ _ kk iv z m m n3 c11 x 0 c mc HX.out HKL.out.symm HN3.out HE1.out HO4.out HCL.out.symm (Rd.of_all HK11.out) HR11.out HIV.out (Nat.le_refl _) hc11 (by omega)).mono ?_
    rintro e w12 ⟨B12, c12, rfl, hc12, r12, hb12⟩
    have HR12 := Lib.hid r12
    have Hb12 := bb Hb11 hb12
    clear r12 HK11 HC11 Hb11 HR11 hb12
    go_wp2_with fail
    refine wp_region_G grows (by kernel_rfl) ?_
    have HR13 : Hid (Rd w12.drew w12.drew.heap.size B12 c) := HR12
    have Hb13 := Lib.hid Hb12.out.drew
    clear HR12 Hb12
    generalize w12.drew = w13 at HR13 Hb13 ⊢
    refine oneG 0 13 rfl (by kernel_rfl) rfl ?_
    go_wp2_with fail
    refine (awake7_any HOK.out w13).mono ?_
    rintro e w14 ⟨rfl, hb14⟩
    have Hb14 := bb Hb13 hb14
    have hs1 := string_later_rd ((HR13.out.below hb14).more hb14.size) c12
    have hs2 := string_later_rd ((HRC.out.below Hb14.out).more Hb14.out.size) cc
    rw [HCL.out] at hs1 hs2
    clear HR13 Hb13
    go_wp2
    refine ⟨hb14, ?_⟩
    clear hb14
    refine segG (by kernel_rfl) (fun _ _ _ _ _ h => h) [1, 2, 3, 4, 5, 6, 7, 8] [_, _, _, _, _, _, _, _] 5 rfl rfl (by kernel_rfl) ?_
    repeat (go_big_quiet_step (fail))
    refine wpQuiet_nil ?_
    refine oneG 9 4 rfl (by kernel_rfl) rfl ?_
    go_wp2_with fail
    refine (short7_any C lc.length cc mc w14 HMC.out hcc).mono ?_
    rintro e w15 ⟨rfl, rfl⟩
    go_wp2
    refine ⟨grows.refl _, ?_⟩
    refine segG (by kernel_rfl) (fun _ _ _ _ _ h => h) [10, 11, 12, 13] [_, _, _, _] 0 rfl rfl (by kernel_rfl) ?_
    repeat (go_big_quiet_step (fail))
    refine wpQuiet_nil ?_
    refine wpAnyG_done (by kernel_rfl) ?_
    go_wp2
    go_ret
    exact ⟨by simp, Hb14.out⟩
end Go.Proofs.Ytannplgookgipaa
