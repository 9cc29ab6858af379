/-
  WholeBlock, walked from the contracts of pack, draw, seal and wrap. The model's bit operations on numbers that are not negative, as operations on natural numbers. Of no program. Whole arrays (made, loaded, stored) and copy, within a fence: laws at the level of a list of operations. Of no program. A range over an iterator that keeps cells of its own between two rounds: its contract (what the caller says is said of blocks laid before the loop), and the law for a caller whose body always goes on. Of no program.
-/
import Derived.Test.YtdipflchmooakaaGreatDoorWholeJ08
import Derived.Test.YtdipflchmooakaaGreatDoorWholeJ01
import Derived.OwnWalkIn
import Derived.Test.YtdipflchmooakaaGreatDoorWholeJ02
import Derived.RangeFuncNested
import Derived.RangeFuncBound
import Derived.RangeFuncCalls
import Derived.RangeFuncLeaves
import Derived.Shelf.Abstract
import Derived.WalkKit
set_option maxRecDepth 100000
namespace Go.Proofs.YtdipflchmooakaaGreatDoor
open Go.RowKit Go.Gar Go.Gar.Aes

theorem Tryz.undM32 : Tryz.prog.underlying 22 = some (.array 32 5) := by kernel_rfl
theorem Tryz.size8b : (Tryz.prog.info? 5).map (·.size) = some 1 := by kernel_rfl
theorem slice_all32 (g : Nat) (W : World) : (Instr.sliceAt 22 (.pointer (some ⟨g, 0, none⟩)) none none none).run Tryz.prog W = .ok (.slice (some ⟨g, 0, none⟩) 32 32) W := by
  obtain ⟨i, hi, _⟩ := Option.map_eq_some_iff.1 Tryz.size8b
  simp [Instr.sliceAt, Instr.sliceBounds, Instr.sureAddr, run_underlying Tryz.undM32 W, sizeOf, typeInfo, hi, go_sem]

set_option maxHeartbeats 8000000 in
theorem whole_walk {GP GD GS GW : World → Prop} (hP : PackOK GP) (hD : DrawOK GD) (hS : SealOK GS) (hW : WrapOK GW) (mk : List UInt8) (hmk : mk.length = 32) (id gen : Int) (hid : isI64 id) (hgen : isI64 gen) (Ac Ab : Option Addr) (ch b : List UInt8) (cn bn cc bc : Nat) (hcn : cn = ch.length) (hbn : bn = b.length) (hcc : cn ≤ cc) (hbc : bn ≤ bc) (w : World)
    (gP : GP w) (gD : GD w) (gS : GS w) (gW : GW w) (rC : Rd w w.heap.size Ac ch) (rB : Rd w w.heap.size Ab b) :
    Calls Tryz.prog 3 #[.agg (u8s mk).toArray, .int .i64 id, .int .i64 gen, .slice Ac cn cc, .slice Ab bn bc] w fun e w' => e = .returned (.bool true) ∧ Below w.heap.size w w' := by
  have hM0 := Blk.new w 22 (u8s mk)
  have hb0 := below_alloc w (.cells (u8s mk).toArray 22)
  obtain ⟨w0, hw0⟩ : ∃ w0, w.alloc (.cells (u8s mk).toArray 22) = w0 := ⟨_, rfl⟩
  rw [hw0] at hM0 hb0
  obtain ⟨xm, hxm⟩ : ∃ x, w.heap.size = x := ⟨_, rfl⟩
  have HXm := Lib.hid hxm
  have HP := Lib.hid hP
  have HD := Lib.hid hD
  have HS := Lib.hid hS
  have HW := Lib.hid hW
  have HMk := Lib.hid hmk
  have HI := Lib.hid hid
  have HJ := Lib.hid hgen
  have HCn := Lib.hid hcn
  have HBn := Lib.hid hbn
  have HGP := Lib.hid gP
  have HGD := Lib.hid gD
  have HGS := Lib.hid gS
  have HGW := Lib.hid gW
  have HRc := Lib.hid rC
  have HRb := Lib.hid rB
  have HW0 := Lib.hid hw0
  have HM0 := Lib.hid (show Blk w0 xm 22 (u8s mk) by rw [← hxm]; exact hM0)
  have Hb0 := Lib.hid hb0
  clear hP hD hS hW hmk hid hgen hcn hbn gP gD gS gW rC rB hw0 hM0 hb0 hxm
  go_enter Tryz.func3, Tryz.ntmps3
  by_cases hbig : bn ≤ 1024 ∧ cn ≤ 200
  · obtain ⟨h1, h2⟩ := hbig
    have d1 : decide ((1024 : Int) < (bn : Int)) = false := by simp; omega
    have d2 : decide ((200 : Int) < (cn : Int)) = false := by simp; omega
    obtain ⟨sm, hsm⟩ : ∃ sm, (Lz.packB b).2 = sm := ⟨_, rfl⟩
    obtain ⟨sn, hsn⟩ : ∃ sn, sm.length = sn := ⟨_, rfl⟩
    have hup := Lz.unpack_pack (b := b) (by rw [← HBn.out]; exact h1)
    rw [hsm, hsn, ← HBn.out] at hup
    obtain ⟨u1, u2, u3⟩ := hup
    have HPk := Lib.hid (show Lz.packB b = (0, sm) from Prod.ext u1 hsm)
    have HUp := Lib.hid u2
    have HSn := Lib.hid hsn
    have hsn1 : sn ≤ 1025 := by omega
    clear hsm hsn u1 u2 u3
    go_wp2_with (refine wpList_box_arr rfl 22 (.tmp 0) (u8s mk).toArray rfl rfl ?_; rw [HW0.out, HXm.out])
    refine (pack_at HP.out w0 Ab b bn bc 0 sm sn (HP.out.keep HGP.out Hb0.out) HBn.out ((HRb.out.below Hb0.out).more Hb0.out.size) hbc (by omega) HPk.out HSn.out.symm).mono ?_
    rintro e w1 ⟨A1, c1, rfl, hc1, hr1, hb1⟩
    have HR1 := Lib.hid hr1
    have HM1 := Lib.hid (HM0.out.below hb1 HM0.out.lt)
    have Hb1 := bb Hb0 hb1
    clear hr1 hb1 HM0
    obtain ⟨L, hL⟩ : ∃ L, L = keysL id gen ch := ⟨_, rfl⟩
    have HL := Lib.hid hL
    have HLl : Hid (L.length = 64) := Lib.hid (by rw [hL]; exact keysL_len _ _ _)
    clear hL
    go_wp2_with fail
    refine (wbKeys_at HD.out w1 id gen Ac ch cn cc L (HD.out.keep HGD.out Hb1.out) HCn.out HL.out ((HRc.out.below Hb1.out).more Hb1.out.size) hcc (by omega)).mono ?_
    rintro e w2 ⟨rfl, hb2⟩
    obtain ⟨w3, heq3, hB3, hb3, hZ3⟩ := wbKeys_laid w2 L
    have hb23 := hb2.trans (hb3.mono hb2.size)
    have HEq3 := Lib.hid heq3
    have HZ3 := Lib.hid hZ3
    have HSz := Lib.hid (size_64 L HLl.out)
    have HLn : Hid (z64.length = (u8s L).length) := Lib.hid (by rw [u8s_len, HLl.out]; rfl)
    obtain ⟨xk, hxk⟩ : ∃ x, w2.heap.size = x := ⟨_, rfl⟩
    have HXk := Lib.hid hxk
    have HK3 := Lib.hid (show Blk w3 xk 29 (u8s L) by rw [← hxk]; exact hB3)
    have HR3 := Lib.hid ((HR1.out.below hb23).more hb23.size)
    have HM3 := Lib.hid (HM1.out.below hb23 HM1.out.lt)
    have Hb3 := bb Hb1 hb23
    clear hb2 heq3 hB3 hb3 hZ3 hb23 hxk HR1 HM1 Hb1
    go_wp2_with (first | refine wpList_alloc_arr rfl 29 z64.toArray rfl zero_64 ?_ | (refine wpList_store_arr rfl 29 (.tmp 13) (.tmp 43) w2.heap.size z64 (u8s L) rfl rfl rfl rfl HZ3.out HSz.out HLn.out (u8s_one _) ?_; rw [HEq3.out, HXk.out]))
    obtain ⟨V, hV⟩ : ∃ V, V = ivL id gen ch := ⟨_, rfl⟩
    have HV := Lib.hid hV
    have HVl : Hid (V.length = 16) := Lib.hid (by rw [hV]; exact ivL_len _ _ _)
    obtain ⟨Z, hZ⟩ : ∃ Z, Z = sealS L V id gen sm := ⟨_, rfl⟩
    obtain ⟨zn, hzn⟩ : ∃ zn, zn = Z.length := ⟨_, rfl⟩
    have hzl : zn = 88 + sn / 16 * 16 := by rw [hzn, hZ, sealS_len _ _ _ _ _ HVl.out, HSn.out]
    have HZ := Lib.hid hZ
    have HZn := Lib.hid hzn
    have HZl := Lib.hid hzl
    clear hV hZ hzn hzl
    refine wp_region_G grows (by kernel_rfl) ?_
    have HK4 := Lib.hid HK3.out.drew
    have HR4 : Hid (Rd w3.drew w3.drew.heap.size A1 sm) := Lib.hid HR3.out
    have HM4 := Lib.hid HM3.out.drew
    have Hb4 := Lib.hid Hb3.out.drew
    clear HK3 HR3 HM3 Hb3 HEq3 HZ3
    generalize w3.drew = w4 at *
    have hld := wbKeys_later HK4.out HLl.out
    refine segG (by kernel_rfl) (fun _ _ _ _ _ h => h) [0, 1, 2, 3, 5, 6, 7] [_, _, _, _, _, _, _] 7 rfl rfl (by kernel_rfl) ?_
    refine wpQuiet_load_arr 29 (.tmp 13) rfl rfl (u8s L).toArray hld (by kernel_rfl) ?_
    simp only [Act.put, List.setIfInBounds_toArray, List.set]
    repeat (go_big_quiet_step (fail))
    refine wpQuiet_nil ?_
    clear hld
    refine oneG 4 6 rfl (by kernel_rfl) rfl ?_
    go_wp2_with fail
    refine (wbIV_at HD.out w4 id gen Ac ch cn cc V (HD.out.keep HGD.out Hb4.out) HCn.out HV.out ((HRc.out.below Hb4.out).more Hb4.out.size) hcc (by omega)).mono ?_
    rintro e w5 ⟨rfl, hb5⟩
    have HK5 := Lib.hid (HK4.out.below hb5 HK4.out.lt)
    have HR5 := Lib.hid ((HR4.out.below hb5).more hb5.size)
    have HM5 := Lib.hid (HM4.out.below hb5 HM4.out.lt)
    have Hb5 := bb Hb4 hb5
    clear HK4 HR4 HM4 Hb4
    go_wp2
    refine ⟨hb5, ?_⟩
    clear hb5
    refine oneG 8 5 rfl (by kernel_rfl) rfl ?_
    go_wp2_with fail
    refine (wbSeal_at HS.out w5 L V sm id gen A1 sn c1 zn Z (HS.out.keep HGS.out Hb5.out) HLl.out HVl.out HI.out HJ.out HR5.out HSn.out.symm hc1 (by omega) HZ.out HZn.out).mono ?_
    rintro e w6 ⟨A6, c6, rfl, hc6, hr6, hb6⟩
    have HS6 := Lib.hid hr6
    have HK6 := Lib.hid (HK5.out.below hb6 HK5.out.lt)
    have HM6 := Lib.hid (HM5.out.below hb6 HM5.out.lt)
    have Hb6 := bb Hb5 hb6
    clear hr6 HK5 HR5 HM5 Hb5
    go_wp2
    refine ⟨hb6, ?_⟩
    clear hb6
    refine segG (by kernel_rfl) (fun _ _ _ _ _ h => h) [9, 10, 11, 12, 13] [_, _, _, _, _] 0 rfl rfl (by kernel_rfl) ?_
    repeat (go_big_quiet_step (fail))
    refine wpQuiet_nil ?_
    refine wpAnyG_done (by kernel_rfl) ?_
    -- the keys wrapped
    obtain ⟨X, hX⟩ : ∃ X, X = Wrp.wrap_ mk L := ⟨_, rfl⟩
    have hc1' : sizeOk mk.length ∧ fits L.length := ⟨.inr (.inr HMk.out), by rw [HLl.out]; decide⟩
    have hXl : X.length = 72 := by rw [hX, Wrp.wrap_len mk L (by rw [HLl.out]) (by rw [HLl.out]; decide), HLl.out]
    have HXl := Lib.hid hXl
    have HE7 : Hid ((0 : Int) = ((wrapE mk L : Nat) : Int)) := Lib.hid (by rw [show wrapE mk L = 0 from if_pos hc1']; rfl)
    have HO7 : Hid (X = wrapB mk L) := Lib.hid (by rw [show wrapB mk L = Wrp.wrap_ mk L from if_pos hc1', hX])
    have hop : Wrp.unwrap_ mk X = some L := by rw [hX]; exact Wrp.unwrap_wrap mk L (by rw [HLl.out]) (by rw [HLl.out]; decide)
    have hc2 : sizeOk mk.length ∧ 8 ≤ X.length ∧ fits (X.length - 8) := ⟨.inr (.inr HMk.out), by omega, by rw [hXl]; decide⟩
    have HE8 : Hid ((0 : Int) = ((unwrapE mk X : Nat) : Int)) := Lib.hid (by rw [show unwrapE mk X = if (Wrp.unwrap_ mk X).isSome then 0 else 8 from if_pos hc2, hop]; rfl)
    have HO8 : Hid (L = unwrapB mk X) := Lib.hid (by rw [show unwrapB mk X = (Wrp.unwrap_ mk X).getD [] from if_pos hc2, hop]; rfl)
    clear hX hc1' hXl hop hc2
    go_wp2_with fail
    refine wp_region_G grows (by kernel_rfl) ?_
    have HK7 := Lib.hid HK6.out.drew
    have HS7 : Hid (Rd w6.drew w6.drew.heap.size A6 Z) := Lib.hid HS6.out
    have HM7 := Lib.hid HM6.out.drew
    have Hb7 := Lib.hid Hb6.out.drew
    clear HK6 HS6 HM6 Hb6
    generalize w6.drew = w7 at *
    have hld := wbKeys_later HK7.out HLl.out
    have hsl := slice_all32 xm
    refine segG (by kernel_rfl) (fun _ _ _ _ _ h => h) [0, 1] [_, _] 7 rfl rfl (by kernel_rfl) ?_
    go_big_quiet_step (fail)
    refine wpQuiet_load_arr 29 (.tmp 13) rfl rfl (u8s L).toArray hld (by kernel_rfl) ?_
    simp only [Act.put, List.setIfInBounds_toArray, List.set]
    refine wpQuiet_nil ?_
    clear hld
    refine oneG 2 6 rfl (by kernel_rfl) rfl ?_
    go_wp2_with fail
    refine (HD.out.bytes_ w7 L HLl.out).mono ?_
    rintro e w8 ⟨A8, c8, rfl, hc8, hr8, hb8⟩
    have HR8 := Lib.hid hr8
    have HK8 := Lib.hid (HK7.out.below hb8 HK7.out.lt)
    have HS8 := Lib.hid ((HS7.out.below hb8).more hb8.size)
    have HM8 := Lib.hid (HM7.out.below hb8 HM7.out.lt)
    have Hb8 := bb Hb7 hb8
    clear hr8 HK7 HS7 HM7 Hb7
    go_wp2
    refine ⟨hb8, ?_⟩
    clear hb8
    refine oneG 3 5 rfl (by kernel_rfl) rfl ?_
    go_wp2_with fail
    refine (wbWrap_at HW.out w8 (some ⟨xm, 0, none⟩) A8 mk L 32 32 64 c8 0 X 72 (HW.out.keep HGW.out Hb8.out) HMk.out.symm HLl.out.symm HE7.out HO7.out HXl.out.symm (Rd.of_all HM8.out) HR8.out (Nat.le_refl _) hc8 (by omega)).mono ?_
    rintro e w9 ⟨A9, c9, rfl, hc9, hr9, hb9⟩
    have HX9 := Lib.hid hr9
    have HK9 := Lib.hid (HK8.out.below hb9 HK8.out.lt)
    have HS9 := Lib.hid ((HS8.out.below hb9).more hb9.size)
    have HM9 := Lib.hid (HM8.out.below hb9 HM8.out.lt)
    have Hb9 := bb Hb8 hb9
    clear hr9 HR8 HK8 HS8 HM8 Hb8
    go_wp2
    refine ⟨hb9, ?_⟩
    clear hb9
    refine segG (by kernel_rfl) (fun _ _ _ _ _ h => h) [4, 5, 6, 7, 8] [_, _, _, _, _] 0 rfl rfl (by kernel_rfl) ?_
    repeat (go_big_quiet_step (fail))
    refine wpQuiet_nil ?_
    refine wpAnyG_done (by kernel_rfl) ?_
    have hsz : sizeN (sn : Int) = (zn : Int) := by
      unfold sizeN
      rw [if_pos (by omega), HZl.out]
      omega
    have hsi := HS.out.size w9 (sn : Int) (by unfold isI64; omega)
    rw [hsz] at hsi
    have Hsi := Lib.hid hsi
    clear hsz hsi
    go_wp2_with fail
    refine Hsi.out.mono ?_
    rintro e w10 ⟨rfl, hb10⟩
    clear Hsi
    have HX10 := Lib.hid ((HX9.out.below hb10).more hb10.size)
    have HK10 := Lib.hid (HK9.out.below hb10 HK9.out.lt)
    have HS10 := Lib.hid ((HS9.out.below hb10).more hb10.size)
    have HM10 := Lib.hid (HM9.out.below hb10 HM9.out.lt)
    have Hb10 := bb Hb9 hb10
    have hsl := slice_all32 xm
    clear hb10 HX9 HK9 HS9 HM9 Hb9
    go_wp2_with fail
    refine (wbUnwrap_at HW.out w10 (some ⟨xm, 0, none⟩) A9 mk X 32 32 72 c9 0 L 64 (HW.out.keep HGW.out Hb10.out) HMk.out.symm HXl.out.symm HE8.out HO8.out HLl.out.symm (Rd.of_all HM10.out) HX10.out (Nat.le_refl _) hc9 (by omega)).mono ?_
    rintro e w11 ⟨A11, c11, rfl, hc11, hr11, hb11⟩
    have HR11 := Lib.hid hr11
    have HK11 := Lib.hid (HK10.out.below hb11 HK10.out.lt)
    have HS11 := Lib.hid ((HS10.out.below hb11).more hb11.size)
    have Hb11 := bb Hb10 hb11
    clear hr11 hb11 HX10 HK10 HS10 HM10 Hb10 hsl
    have HE12 : Hid ((0 : Int) = ((fromE L : Nat) : Int)) := Lib.hid (by rw [fromE, if_pos HLl.out]; rfl)
    have HF12 : Hid (L = fromL L) := Lib.hid (by rw [fromL, if_pos HLl.out])
    go_wp2_with fail
    refine (wbFrom_at HD.out w11 A11 L 64 c11 0 L HLl.out.symm HE12.out HF12.out HR11.out hc11).mono ?_
    rintro e w12 ⟨rfl, hb12⟩
    obtain ⟨w13, heq13, hB13, hb13, hZ13⟩ := wbKeys_laid w12 L
    have hb123 := hb12.trans (hb13.mono hb12.size)
    have HEq13 := Lib.hid heq13
    have HZ13 := Lib.hid hZ13
    obtain ⟨xl, hxl⟩ : ∃ x, w12.heap.size = x := ⟨_, rfl⟩
    have HXl13 := Lib.hid hxl
    have HL13 := Lib.hid (show Blk w13 xl 29 (u8s L) by rw [← hxl]; exact hB13)
    have HK13 := Lib.hid (HK11.out.below hb123 HK11.out.lt)
    have HS13 := Lib.hid ((HS11.out.below hb123).more hb123.size)
    have Hb13 := bb Hb11 hb123
    have hld := load_keys HL13.out HLl.out
    clear hb12 heq13 hB13 hb13 hZ13 hb123 hxl HR11 HK11 HS11 Hb11
    go_wp2_with (first | refine wpList_alloc_arr rfl 29 z64.toArray rfl zero_64 ?_ | (refine wpList_store_arr rfl 29 (.tmp 20) (.tmp 95) w12.heap.size z64 (u8s L) rfl rfl rfl rfl HZ13.out HSz.out HLn.out (u8s_one _) ?_; rw [HEq13.out, HXl13.out]) | refine wpList_load_arr_w 29 (.tmp 20) rfl rfl (u8s L).toArray hld (by kernel_rfl) ?_)
    clear hld
    have hopn : openS L id gen Z = some sm := by rw [HZ.out]; exact openS_seal _ _ _ _ _ HVl.out
    have HE14 : Hid ((0 : Int) = ((openSE L id gen Z : Nat) : Int)) := Lib.hid (by rw [openSE, hopn]; rfl)
    have HO14 : Hid (sm = openSB L id gen Z) := Lib.hid (by rw [openSB, hopn]; rfl)
    clear hopn
    refine (wbOpen_at HS.out w13 L Z id gen A6 zn c6 sn 0 sm (HS.out.keep HGS.out Hb13.out) HLl.out HI.out HJ.out HS13.out HZn.out hc6 (by have := HZl.out; omega) HE14.out HO14.out HSn.out.symm).mono ?_
    rintro e w14 ⟨A14, c14, rfl, hc14, hr14, hb14⟩
    have HR14 := Lib.hid hr14
    have HL14 := Lib.hid (HL13.out.below hb14 HL13.out.lt)
    have HK14 := Lib.hid (HK13.out.below hb14 HK13.out.lt)
    have Hb14 := bb Hb13 hb14
    clear hr14 hb14 HL13 HK13 HS13 Hb13
    go_wp2_with fail
    refine (unpack_at HP.out w14 A14 sm sn c14 0 b bn (HP.out.keep HGP.out Hb14.out) HSn.out.symm HR14.out hc14 (by omega) HUp.out HBn.out).mono ?_
    rintro e w15 ⟨A15, c15, rfl, hc15, hr15, hb15⟩
    have HR15 := Lib.hid hr15
    have HL15 := Lib.hid (HL14.out.below hb15 HL14.out.lt)
    have HK15 := Lib.hid (HK14.out.below hb15 HK14.out.lt)
    have Hb15 := bb Hb14 hb15
    clear hr15 hb15 HL14 HK14 HR14 Hb14
    go_wp2_with fail
    refine (packs_any HP.out w15 (HP.out.keep HGP.out Hb15.out)).mono ?_
    rintro e w16 ⟨rfl, hb16⟩
    have hld1 := load_keys (HL15.out.below hb16 HL15.out.lt) HLl.out
    have hld2 := load_keys (HK15.out.below hb16 HK15.out.lt) HLl.out
    have hR16 := (HR15.out.below hb16).more hb16.size
    have Hb16 := bb Hb15 hb16
    have hRb := (HRb.out.below Hb16.out).more Hb16.out.size
    obtain ⟨S, hS⟩ : ∃ S : ByteArray, S = ⟨b.toArray⟩ := ⟨_, rfl⟩
    have p1 := wbString hR16 bn c15 HBn.out S hS
    have p2 := wbString hRb bn bc HBn.out S hS
    have heq := fun W => eqKeys L L HLl.out HLl.out W
    rw [decide_eq_true rfl] at heq
    clear hb16 hR16 hRb hS HR15 HL15 HK15 Hb15
    go_wp2_with (first | refine wpList_load_arr_w 29 (.tmp 20) rfl rfl (u8s L).toArray hld1 (by kernel_rfl) ?_ | refine wpList_load_arr_w 29 (.tmp 13) rfl rfl (u8s L).toArray hld2 (by kernel_rfl) ?_ | refine wpList_eql_arr_w 29 29 (.tmp 120) (.tmp 121) rfl rfl rfl true Tryz.guardKeys heq (by kernel_rfl) ?_)
    go_ret
    exact ⟨by simp, Hb16.out⟩
  · -- too long: the fixed fact alone
    have HPk := Lib.hid (packs_any HP.out w0 (HP.out.keep HGP.out Hb0.out))
    by_cases h1 : bn ≤ 1024
    · have d1 : decide ((1024 : Int) < (bn : Int)) = false := by simp; omega
      have d2 : decide ((200 : Int) < (cn : Int)) = true := by simp; omega
      go_wp2_with (refine wpList_box_arr rfl 22 (.tmp 0) (u8s mk).toArray rfl rfl ?_; rw [HW0.out, HXm.out])
      refine HPk.out.mono ?_
      rintro e w2 ⟨rfl, hb2⟩
      have Hb2 := bb Hb0 hb2
      clear hb2
      go_wp2
      go_ret
      exact ⟨rfl, Hb2.out⟩
    · have d1 : decide ((1024 : Int) < (bn : Int)) = true := by simp; omega
      go_wp2_with (refine wpList_box_arr rfl 22 (.tmp 0) (u8s mk).toArray rfl rfl ?_; rw [HW0.out, HXm.out])
      refine HPk.out.mono ?_
      rintro e w2 ⟨rfl, hb2⟩
      have Hb2 := bb Hb0 hb2
      clear hb2
      go_wp2
      go_ret
      exact ⟨rfl, Hb2.out⟩
end Go.Proofs.YtdipflchmooakaaGreatDoor
namespace Go.Gar
open Go.RowKit

theorem ofInt_u8 (a : Nat) (ha : a < 2 ^ 8) : (BitVec.ofInt 8 (a : Int)).toNat = a := by
  rw [BitVec.ofInt_natCast, BitVec.toNat_ofNat]; exact Nat.mod_eq_of_lt ha
theorem xor_u8 (a b : Nat) (ha : a < 2 ^ 8) (hb : b < 2 ^ 8) : bits .xor .u8 (a : Int) (b : Int) = ((a ^^^ b : Nat) : Int) := by
  show IntKind.u8.wrap ((BitVec.ofInt 8 (a : Int) ^^^ BitVec.ofInt 8 (b : Int)).toNat : Int) = _
  have hx : a ^^^ b < 2 ^ 8 := Nat.xor_lt_two_pow ha hb
  rw [BitVec.toNat_xor, ofInt_u8 a ha, ofInt_u8 b hb, IntKind.wrap_u8]
  omega
theorem and_u8 (a b : Nat) (ha : a < 2 ^ 8) (hb : b < 2 ^ 8) : bits .and .u8 (a : Int) (b : Int) = ((a &&& b : Nat) : Int) := by
  show IntKind.u8.wrap ((BitVec.ofInt 8 (a : Int) &&& BitVec.ofInt 8 (b : Int)).toNat : Int) = _
  have hx : a &&& b < 2 ^ 8 := Nat.lt_of_le_of_lt Nat.and_le_left ha
  rw [BitVec.toNat_and, ofInt_u8 a ha, ofInt_u8 b hb, IntKind.wrap_u8]
  omega
theorem or_u8 (a b : Nat) (ha : a < 2 ^ 8) (hb : b < 2 ^ 8) : bits .or .u8 (a : Int) (b : Int) = ((a ||| b : Nat) : Int) := by
  show IntKind.u8.wrap ((BitVec.ofInt 8 (a : Int) ||| BitVec.ofInt 8 (b : Int)).toNat : Int) = _
  have hx : a ||| b < 2 ^ 8 := Nat.or_lt_two_pow ha hb
  rw [BitVec.toNat_or, ofInt_u8 a ha, ofInt_u8 b hb, IntKind.wrap_u8]
  omega
theorem ofInt_u32 (a : Nat) (ha : a < 2 ^ 32) : (BitVec.ofInt 32 (a : Int)).toNat = a := by
  rw [BitVec.ofInt_natCast, BitVec.toNat_ofNat]; exact Nat.mod_eq_of_lt ha
theorem xor_u32 (a b : Nat) (ha : a < 2 ^ 32) (hb : b < 2 ^ 32) : bits .xor .u32 (a : Int) (b : Int) = ((a ^^^ b : Nat) : Int) := by
  show IntKind.u32.wrap ((BitVec.ofInt 32 (a : Int) ^^^ BitVec.ofInt 32 (b : Int)).toNat : Int) = _
  have hx : a ^^^ b < 2 ^ 32 := Nat.xor_lt_two_pow ha hb
  rw [BitVec.toNat_xor, ofInt_u32 a ha, ofInt_u32 b hb, IntKind.wrap_u32]
  omega
theorem and_u32 (a b : Nat) (ha : a < 2 ^ 32) (hb : b < 2 ^ 32) : bits .and .u32 (a : Int) (b : Int) = ((a &&& b : Nat) : Int) := by
  show IntKind.u32.wrap ((BitVec.ofInt 32 (a : Int) &&& BitVec.ofInt 32 (b : Int)).toNat : Int) = _
  have hx : a &&& b < 2 ^ 32 := Nat.lt_of_le_of_lt Nat.and_le_left ha
  rw [BitVec.toNat_and, ofInt_u32 a ha, ofInt_u32 b hb, IntKind.wrap_u32]
  omega
theorem or_u32 (a b : Nat) (ha : a < 2 ^ 32) (hb : b < 2 ^ 32) : bits .or .u32 (a : Int) (b : Int) = ((a ||| b : Nat) : Int) := by
  show IntKind.u32.wrap ((BitVec.ofInt 32 (a : Int) ||| BitVec.ofInt 32 (b : Int)).toNat : Int) = _
  have hx : a ||| b < 2 ^ 32 := Nat.or_lt_two_pow ha hb
  rw [BitVec.toNat_or, ofInt_u32 a ha, ofInt_u32 b hb, IntKind.wrap_u32]
  omega
theorem ofInt_u64 (a : Nat) (ha : a < 2 ^ 64) : (BitVec.ofInt 64 (a : Int)).toNat = a := by
  rw [BitVec.ofInt_natCast, BitVec.toNat_ofNat]; exact Nat.mod_eq_of_lt ha
theorem xor_u64 (a b : Nat) (ha : a < 2 ^ 64) (hb : b < 2 ^ 64) : bits .xor .u64 (a : Int) (b : Int) = ((a ^^^ b : Nat) : Int) := by
  show IntKind.u64.wrap ((BitVec.ofInt 64 (a : Int) ^^^ BitVec.ofInt 64 (b : Int)).toNat : Int) = _
  have hx : a ^^^ b < 2 ^ 64 := Nat.xor_lt_two_pow ha hb
  rw [BitVec.toNat_xor, ofInt_u64 a ha, ofInt_u64 b hb, IntKind.wrap_u64]
  omega
theorem and_u64 (a b : Nat) (ha : a < 2 ^ 64) (hb : b < 2 ^ 64) : bits .and .u64 (a : Int) (b : Int) = ((a &&& b : Nat) : Int) := by
  show IntKind.u64.wrap ((BitVec.ofInt 64 (a : Int) &&& BitVec.ofInt 64 (b : Int)).toNat : Int) = _
  have hx : a &&& b < 2 ^ 64 := Nat.lt_of_le_of_lt Nat.and_le_left ha
  rw [BitVec.toNat_and, ofInt_u64 a ha, ofInt_u64 b hb, IntKind.wrap_u64]
  omega
theorem or_u64 (a b : Nat) (ha : a < 2 ^ 64) (hb : b < 2 ^ 64) : bits .or .u64 (a : Int) (b : Int) = ((a ||| b : Nat) : Int) := by
  show IntKind.u64.wrap ((BitVec.ofInt 64 (a : Int) ||| BitVec.ofInt 64 (b : Int)).toNat : Int) = _
  have hx : a ||| b < 2 ^ 64 := Nat.or_lt_two_pow ha hb
  rw [BitVec.toNat_or, ofInt_u64 a ha, ofInt_u64 b hb, IntKind.wrap_u64]
  omega
end Go.Gar
namespace Go.Gar
open Go.RowKit
section
variable {F : Fence} {n : Nat} {P : Program} {w : World} {ops : Array Oper} {rest : List Oper} {o : Oper} {a : Act} {Q : Exit → Act → World → Prop}

/-- One operation that calls nothing and whose run is known. -/
theorem wpListIn_run (hgd : o.guard = none) (hab : o.about P w a.eval = none) (hnd : ∀ c, o.op ≠ .defer c) {v : Value} {w' : World}
    (hrun : (execOp a.eval o).run P w = .ok (.value v) w') (h : wpListIn F n P ops Q rest (a.put o.dst v) w') : wpListIn F n P ops Q (o :: rest) a w :=
  wpListIn_plain hgd fun K hK => by
    refine ⟨fun f hf => (by rw [hab] at hf; cases hf), ?_⟩
    rw [Oper.semAt_plain F _ _ hnd, hrun]
    exact hK _ _ h
theorem wpListIn_run_skip (hgd : o.guard = none) (hab : o.about P w a.eval = none) (hnd : ∀ c, o.op ≠ .defer c) {w' : World}
    (hrun : (execOp a.eval o).run P w = .ok .skip w') (hd : o.dst = none) (h : wpListIn F n P ops Q rest a w') : wpListIn F n P ops Q (o :: rest) a w :=
  wpListIn_plain hgd fun K hK => by
    refine ⟨fun f hf => (by rw [hab] at hf; cases hf), ?_⟩
    rw [Oper.semAt_plain F _ _ hnd, hrun]
    exact hK _ _ (by rw [hd]; exact h)

theorem wpListIn_alloc_arr (hgd : o.guard = none) (t : TypeId) (z : Array Value) (ho : o.op = .alloc t) (hz : ∀ w, (zeroValue t).run P w = .ok (.agg z) w)
    (h : wpListIn F n P ops Q rest (a.put o.dst (.pointer (some ⟨w.heap.size, 0, none⟩))) (w.alloc (.cells z t))) : wpListIn F n P ops Q (o :: rest) a w := by
  refine wpListIn_run hgd (by simp [Oper.about, ho]) (by simp [ho]) (v := .pointer (some ⟨w.heap.size, 0, none⟩)) (w' := w.alloc (.cells z t)) ?_ h
  unfold execOp
  simp [ho, Instr.alloc, hz, newVar, newRow, Sem.run_bind, Result.andThen, Value.cells]
theorem wpListIn_box_arr (hgd : o.guard = none) (t : TypeId) (x : Operand) (cs : Array Value) (ho : o.op = .box t x) (hx : a.eval x = .agg cs)
    (h : wpListIn F n P ops Q rest (a.put o.dst (.pointer (some ⟨w.heap.size, 0, none⟩))) (w.alloc (.cells cs t))) : wpListIn F n P ops Q (o :: rest) a w := by
  refine wpListIn_run hgd (by simp [Oper.about, ho]) (by simp [ho]) (v := .pointer (some ⟨w.heap.size, 0, none⟩)) (w' := w.alloc (.cells cs t)) ?_ h
  unfold execOp
  simp [ho, hx, Instr.box, newVar, newRow, Result.andThen, Value.cells]
theorem wpListIn_load_arr (hgd : o.guard = none) (t : TypeId) (p : Operand) (ho : o.op = .load t p) {g q : Nat} (hp : a.eval p = .pointer (some ⟨g, q, none⟩)) (x : Array Value)
    (hld : (loadVar t ⟨g, q, none⟩).run P w = .ok (.agg x) w) (h : wpListIn F n P ops Q rest (a.put o.dst (.agg x)) w) : wpListIn F n P ops Q (o :: rest) a w := by
  refine wpListIn_run hgd (by simp [Oper.about, ho]) (by simp [ho]) (v := .agg x) (w' := w) ?_ h
  unfold execOp
  simp only [ho, hp, Instr.loadAt, Instr.sureAddr, Sem.run_bind, hld, Result.andThen_ok, Sem.run_pure]
theorem wpListIn_store_arr (hgd : o.guard = none) (t : TypeId) (p x : Operand) (g : Nat) (old new : List Value)
    (hd : o.dst = none) (ho : o.op = .store t p x) (hp : a.eval p = .pointer (some ⟨g, 0, none⟩)) (hx : a.eval x = .agg new.toArray) (hb : Blk w g t old) (hi : (P.info? t).map (·.size) = some new.length) (hl : old.length = new.length) (h1 : ∀ u ∈ new, u.oneCell' = true)
    (h : wpListIn F n P ops Q rest a (w.setRow g new.toArray)) : wpListIn F n P ops Q (o :: rest) a w := by
  have hr := run_storeVar_row (P := P) w g t t old.toArray new.toArray hb (by simpa using hi) (by simpa using hl) (by simpa using h1)
  refine wpListIn_run_skip hgd (by simp [Oper.about, ho]) (by simp [ho]) (w' := w.setRow g new.toArray) ?_ hd h
  unfold execOp
  simp [ho, Instr.storeAt, Instr.sureAddr, hp, hx, hr, Result.andThen]
theorem wpListIn_copy_run (hgd : o.guard = none) (d s : Operand) (ts : Array TypeId) (ho : o.op = .call { callee := .builtin .copy, args := #[d, s], argTypes := ts }) {vd vs v : Value} {w' : World} (hs : a.eval d = vd) (hx : a.eval s = vs)
    (hrun : (Builtin.copy_ ts o.type #[vd, vs]).run P w = .ok v w') (h : wpListIn F n P ops Q rest (a.put o.dst v) w') : wpListIn F n P ops Q (o :: rest) a w := by
  refine wpListIn_run hgd (by simp [Oper.about, ho, resolve, Target.leads, Sem.run_pure]) (by simp [ho]) (v := v) (w' := w') ?_ h
  unfold execOp
  simp only [ho, resolve, invoke, builtin, Sem.run_bind, Sem.run_pure, Result.andThen_ok, List.map_toArray, List.map_cons, List.map_nil, hs, hx, hrun]
end

/-- copy of what a slice reads as over a part of a row that is known whole. -/
theorem run_copy_seg {P : Program} {w : World} (dT sT ty e : TypeId) (hu : P.underlying dT = some (.slice e)) (hs : (P.info? e).map (·.size) = some 1) (g o dLen dCap sLen sCap b q : Nat) (l : List UInt8) (k : Nat)
    (hc : ∀ i c, l[i]? = some c → w.cell? ⟨b, q + i, none⟩ = some (.int .u8 (c.toNat : Int))) (hsl : sLen = l.length) (hk : k = min l.length dLen) (cs : List Value) (t : TypeId) (hg : Blk w g t cs) (hfit : o + k ≤ cs.length) :
    (Builtin.copy_ #[dT, sT] ty #[.slice (some ⟨g, o, none⟩) dLen dCap, .slice (some ⟨b, q, none⟩) sLen sCap]).run P w = .ok (goInt k) (w.setRow g (cs.take o ++ u8s (l.take k) ++ cs.drop (o + k)).toArray) := by
  subst hsl
  have hlen : (u8s (l.take k)).length = k := by rw [u8s_len, List.length_take]; omega
  have h := run_copy_row (P := P) w dT sT ty e g o dLen dCap ⟨b, q, none⟩ l.length sCap cs.toArray t (u8s (l.take k)) hu hs hg (by rw [hlen, hk]) ?_ (by rw [hlen]; simpa using hfit) (u8s_one _)
  · rw [hlen] at h
    simpa using h
  · intro j v hj
    rw [u8s_get] at hj
    cases hq : (l.take k)[j]? with
    | none => simp [hq] at hj
    | some c =>
      rw [hq] at hj
      simp at hj
      subst hj
      have : (⟨b, q, none⟩ : Addr).add j = ⟨b, q + j, none⟩ := Addr.add_lit _ _ _
      rw [this]
      refine hc j c ?_
      rw [List.getElem?_take] at hq
      split at hq
      · exact hq
      · cases hq
end Go.Gar
namespace Go.Gar
open Go Go.RowKit
variable {F : Fence} {n : Nat} {P : Program}

/-- What is said is said of blocks below B alone. -/
def Low {β : Type} (B : Nat) (I : β → World → Prop) : Prop := ∀ s W W' row, I s W → W.grownBy W' row → (∀ r, row = some r → B ≤ r) → I s W'
theorem Low.alloc {β : Type} {B : Nat} {I : β → World → Prop} (h : Low B I) {s : β} {W : World} (o : Obj) (hs : I s W) : I s (W.alloc o) :=
  h s W _ none hs (World.grownBy_alloc W o none) (fun _ e => by cases e)
theorem Low.put {β : Type} {B : Nat} {I : β → World → Prop} (h : Low B I) {s : β} {W : World} {l : Nat} (o : Obj) (hs : I s W) (hl : B ≤ l) : I s (W.putObj l o) :=
  h s W _ (some l) hs (grownBy_putObj' W l o) (fun _ e => by cases e; exact hl)

/-- The iterator's contract: its rounds go on, each keeps Kp; it may lay blocks and turn what it laid. -/
def SeqC {α : Type} (F : Fence) (n : Nat) (P : Program) (g : Nat) (lb : Array Value) (encs : α → Array Value) (Kp : World → World → Prop) (S : List α → Prop) (w : World) : Prop :=
  ∀ (l : Nat) (J : List α → World → Prop) (W : World), Below w.heap.size w W → Low W.heap.size J →
    (∀ pre x W1, J pre W1 → YieldAt F (n - 1) P l (encs x) W1 fun e W' => e = .returned (.bool true) ∧ J (pre ++ [x]) W' ∧ Kp W1 W') →
    J [] W → CallsIn F n P g (#[.func (.yield l) #[] #[]] ++ lb) W fun e W' => (∃ v, e = .returned v) ∧ ∃ xs, S xs ∧ J xs W'

/-- The caller's law: the loop's variable may be laid anew in each round (Ax). -/
theorem rangeC {α : Type} {g : Operand} {ps : Array Tmp} {assign body : Code} {Q : Exit → Act → World → Prop} {a : Act} {w : World}
    (hro : F.round = none) (h1 : 1 ≤ n) {gf : Nat} {lb : Array Value} (hg : a.eval g = .func (.func gf) #[] lb) (hFg : F.fn gf) (eg : ∀ args w, (callFunc gf args).run P w = .ok (.enter gf args) w)
    {encs : α → Array Value} {Kp : World → World → Prop} {S : List α → Prop} (hseq : SeqC F (n - 1) P gf lb encs Kp S w)
    (hKt : ∀ {A B C : World}, Kp A B → Kp B C → Kp A C) (hKb : ∀ (W : World) (l : Nat) (o o' : Obj), W.heap[l]? = some o → o.isCells = false → Kp W (W.putObj l o')) (hps : ∀ x, (encs x).size = ps.size)
    (I : List α → World → Prop) (hI : Low w.heap.size I) (h0 : I [] w) (Ax : α → Act → World → Prop) (hAx : ∀ x a' W l o o', Ax x a' W → W.heap[l]? = some o → o.isCells = false → Ax x a' (W.putObj l o'))
    (hassign : ∀ (l : Nat) (pre : List α) (x : α) (W : World) (K : Act → World → Prop), I pre W → (∀ a' W', KeepsOthers W W' → Kp W W' → I pre W' → Ax x a' W' → K a' W') →
      assign.wpIn (F.inRound l) (n - 1 - 1) P (Exit.then K (fun _ _ _ => False)) { tmps := (ps.zip (encs x)).foldl (fun t (p, v) => t.setIfInBounds p v) a.tmps, defers := [] } W)
    (hbody : ∀ (l : Nat) (pre : List α) (x : α) (a' : Act) (W : World), I pre W → Ax x a' W → body.wpIn (F.inRound l) (n - 1 - 1) P (fun e _ W' => e = .normal ∧ KeepsOthers W W' ∧ Kp W W' ∧ I (pre ++ [x]) W') a' W)
    (hdone : ∀ (D : Nat) (xs : List α) (W : World), w.heap.size ≤ D → S xs → I xs W → W.heap[D]? = some (.deferred (some [])) → Q .normal { a with defers := { target := .collected D, args := #[] } :: a.defers } W) :
    (Code.rangeFunc g ps assign body).wpIn F n P Q a w := by
  refine wpIn_rangeFunc fun fn hfn => ?_
  rw [hro]
  -- the record, as it stands between two rounds
  let r0 : Loop := { state := .ready, pending := none, fn, tmps := a.tmps, params := ps, assign, body, defers := w.heap.size }
  let D := w.heap.size
  let l := w.heap.size + 1
  let W1 := (w.alloc (.deferred (some []))).alloc (.loop r0)
  have hs1 : W1.heap.size = w.heap.size + 2 := by simp [W1]
  have hDl : W1.heap[D]? = some (.deferred (some [])) := (Below.heap_alloc _ _ _ (by simp [D])).trans (World.alloc_heap_new w _)
  have hll : W1.heap[l]? = some (.loop r0) := by
    have := World.alloc_heap_new (w.alloc (.deferred (some []))) (.loop r0)
    rwa [World.size_alloc] at this
  have hbel : Below w.heap.size w W1 := ((Below.refl _ w).alloc (Nat.le_refl _) _).alloc (by simp) _
  let J : List α → World → Prop := fun pre W => I pre W ∧ W.heap[l]? = some (.loop r0) ∧ W.heap[D]? = some (.deferred (some []))
  have hJ : Low W1.heap.size J := fun s A B row hs hgr hr => by
    have far : ∀ k o, k < W1.heap.size → A.heap[k]? = some o → B.heap[k]? = some o := fun k o hk ho =>
      (hgr.block k (Array.getElem?_eq_some_iff.1 ho).1 (fun e => by have := hr k e.symm; omega)).trans ho
    exact ⟨hI s A B row hs.1 hgr (fun r e => by have := hr r e; omega), far l _ (by simp [l, hs1]) hs.2.1, far D _ (by simp [D, hs1]) hs.2.2⟩
  refine ⟨l, [{ target := .collected D, args := #[] }], W1, { target := .fn (.func gf) lb, args := #[.func (.yield l) #[] #[]] }, W1, gf, #[.func (.yield l) #[] #[]] ++ lb, W1, run_enterLoop_outer _ _ _ _ _, ?_, ?_, ?_, fun _ => h1, ?_⟩
  · simp only [resolve, hg]
    simp [go_sem]
  · intro f' hf'
    simp [Target.leads] at hf'
    subst hf'
    exact hFg
  · simp [invoke, go_sem, eg]
  refine (hseq l J W1 hbel hJ ?_ ⟨hI.alloc _ (hI.alloc _ h0), hll, hDl⟩).mono ?_
  · -- a round
    rintro pre x W ⟨hi, hl, hd⟩
    have hy := run_yield (P := P) (args := encs x) hl (hps x)
    refine ⟨fn, _, assign, body, hy, roundIn_of_wpIn hfn (hassign l pre x W _ hi fun a' W2 hk2 hp2 hi2 hx2 => ?_)⟩
    have hl2 := hk2.same l _ hl rfl
    have hd2 := hk2.same D _ hd rfl
    let rb : Loop := { r0 with state := .busy }
    refine ⟨_, run_beginRound hl2 rfl, ?_⟩
    have hl3 : (W2.putObj l (.loop rb)).heap[l]? = some (.loop rb) := World.putObj_heap_same (Array.getElem?_eq_some_iff.1 hl2).1
    have hd3 : (W2.putObj l (.loop rb)).heap[D]? = some (.deferred (some [])) := (World.putObj_heap_other (by simp [D, l])).trans hd2
    refine wpIn_mono (hbody l pre x a' _ (hI.put _ hi2 (by simp [l])) (hAx _ _ _ _ _ _ hx2 hl2 rfl)) ?_
    rintro e a3 W4 ⟨rfl, hk4, hp4, hi4⟩
    have hl4 := hk4.same l _ hl3 rfl
    have hd4 := hk4.same D _ hd3 rfl
    refine ⟨_, _, run_endRound none hl4, rfl, ⟨hI.put _ hi4 (by simp [l]), World.putObj_heap_same (Array.getElem?_eq_some_iff.1 hl4).1, (World.putObj_heap_other (by simp [D, l])).trans hd4⟩, ?_⟩
    exact hKt (hKt hp2 (hKb _ _ _ _ hl2 rfl)) (hKt hp4 (hKb _ _ _ _ hl4 rfl))
  · rintro e W2 ⟨⟨v, rfl⟩, xs, hS, hi, hl, hd⟩
    exact ⟨none, _, run_endLoop hl (by simp [r0]), hdone D xs _ (Nat.le_refl _) hS (hI.put _ hi (by simp [l])) ((World.putObj_heap_other (by simp [D, l])).trans hd)⟩
end Go.Gar
