/-
  Layer 13: PackBack, walked from the contract of pack's functions.
-/
import Derived.Test.YtjapohddfelgkaaPackJ07
import Derived.Test.YtjapohddfelgkaaLzRefDj
set_option maxRecDepth 100000
namespace Go.Proofs.Ytjapohddfelgkaa
open Go.RowKit Go.Gar

theorem Lz.unpack_cases (p : List UInt8) : (∃ y, Lz.unpackB p = (0, y)) ∨ Lz.unpackB p = (12, []) := by
  unfold Lz.unpackB
  split
  · exact .inr rfl
  · split
    · exact .inr rfl
    · split
      · split
        · exact .inr rfl
        · exact .inl ⟨_, rfl⟩
      · split
        · exact .inl ⟨_, rfl⟩
        · exact .inr rfl

set_option maxHeartbeats 2000000 in
theorem packback_walk {G : World → Prop} (hOK : PackOK G) (A B : Option Addr) (d q : List UInt8) (n c m r cb k : Nat) (w : World) (hG : G w) (hc : n ≤ c) (hm : m = min n 1100) (hdl : d.length = m) (hr : Rd w w.heap.size A d)
    (hcb : r ≤ cb) (hk : k = min r 1100) (hql : q.length = k) (hrq : Rd w w.heap.size B q) :
    Calls Try.prog 5 #[.slice A n c, .slice B r cb] w fun e w' => e = .returned (.bool true) ∧ Below w.heap.size w w' := by
  have hm1 : m ≤ 1100 := by omega
  have hmc : m ≤ c := by omega
  have hk1 : k ≤ 1100 := by omega
  have hkc : k ≤ cb := by omega
  have HOK := Lib.hid hOK
  have HG := Lib.hid hG
  have HM := Lib.hid hm
  have HDl := Lib.hid hdl
  have HR := Lib.hid hr
  have HK := Lib.hid hk
  have HQl := Lib.hid hql
  have HQ := Lib.hid hrq
  clear hOK hG hm hdl hr hk hql hrq
  by_cases hs : m ≤ 1024
  · obtain ⟨X, hX⟩ : ∃ X, (Lz.packB d).2 = X := ⟨_, rfl⟩
    obtain ⟨xn, hxn⟩ : ∃ xn, X.length = xn := ⟨_, rfl⟩
    have hpp := Lz.unpack_pack (b := d) (by rw [HDl.out]; exact hs)
    rw [hX, HDl.out, hxn] at hpp
    have HP := Lib.hid (show Lz.packB d = (0, X) from Prod.ext hpp.1 hX)
    have HU := Lib.hid hpp.2.1
    have hxm := hpp.2.2
    have HXn := Lib.hid hxn
    clear hX hxn hpp
    go_enter Try.func5, Try.ntmps5
    go_wp2_with fail
    refine (short13_any A n c m w HM.out hc).mono ?_
    rintro e w1 ⟨rfl, rfl⟩
    go_wp2_with fail
    refine (pack_at HOK.out w1 A d m c 0 X xn HG.out HDl.out.symm HR.out hmc (by omega) HP.out HXn.out.symm).mono ?_
    rintro e w2 ⟨A2, c2, rfl, hc2, hr2, hb2⟩
    have HR2 := Lib.hid hr2
    have Hb2 := Lib.hid hb2
    clear hr2 hb2
    go_wp2_with fail
    refine (unpack_at HOK.out w2 A2 X xn c2 0 d m (HOK.out.keep HG.out Hb2.out) HXn.out.symm HR2.out hc2 (by omega) HU.out HDl.out.symm).mono ?_
    rintro e w3 ⟨A3, c3, rfl, hc3, hr3, hb3⟩
    have Hb3 := bb Hb2 hb3
    have HR3 : Hid (Rd w3.drew w3.drew.heap.size A3 d) := Lib.hid hr3
    have Hb3d := Lib.hid Hb3.out.drew
    clear hr3 hb3 HR2 Hb2
    go_wp2_with fail
    refine wp_region_G grows (by kernel_rfl) ?_
    clear Hb3
    generalize w3.drew = w4 at *
    have hs1 := string_later_rd HR3.out c3
    have hs2 := string_later_rd ((HR.out.below Hb3d.out).more Hb3d.out.size) c
    rw [HDl.out] at hs1 hs2
    obtain ⟨S, hS⟩ : ∃ S : ByteArray, (⟨d.toArray⟩ : ByteArray) = S := ⟨_, rfl⟩
    rw [hS] at hs1 hs2
    have hw1 : IntKind.i64.wrap ((m : Int) + 1) = (m : Int) + 1 := IntWalk.i64_in _ (by omega)
    have hd1 : decide ((m : Int) + 1 < (xn : Int)) = false := by simp; omega
    clear hS HR3
    refine segG (by kernel_rfl) (fun _ _ _ _ _ h => h) [0, 1, 2, 3, 4, 5] [_, _, _, _, _, _] 12 rfl rfl (by kernel_rfl) ?_
    repeat (go_big_quiet_step (fail))
    refine wpQuiet_nil ?_
    refine oneG 6 11 rfl (by kernel_rfl) rfl ?_
    go_wp2_with fail
    refine (short13_any A n c m w4 HM.out hc).mono ?_
    rintro e w5 ⟨rfl, rfl⟩
    go_wp2
    refine ⟨grows.refl _, ?_⟩
    refine segG (by kernel_rfl) (fun _ _ _ _ _ h => h) [7, 8, 9, 10, 11, 12, 13, 14, 15, 16, 17] [_, _, _, _, _, _, _, _, _, _, _] 0 rfl rfl (by kernel_rfl) ?_
    repeat (go_big_quiet_step (fail))
    refine wpQuiet_nil ?_
    refine wpAnyG_done (by kernel_rfl) ?_
    have HbZ := Hb3d
    clear Hb3d hs1 hs2 hw1 hd1 HP HU HXn
    go_wp2_with fail
    refine (short13_any B r cb k _ HK.out hcb).mono ?_
    rintro e w5 ⟨rfl, rfl⟩
    rcases Lz.unpack_cases q with ⟨Y, hY⟩ | hY
    · have hy1 := Lz.unpack_len hY
      obtain ⟨yn, hyn⟩ : ∃ yn, Y.length = yn := ⟨_, rfl⟩
      rw [hyn] at hy1
      obtain ⟨Z, hZ⟩ : ∃ Z, (Lz.packB Y).2 = Z := ⟨_, rfl⟩
      obtain ⟨zn, hzn⟩ : ∃ zn, Z.length = zn := ⟨_, rfl⟩
      have hpp := Lz.unpack_pack (b := Y) (by omega)
      rw [hZ, hyn, hzn] at hpp
      have HP := Lib.hid (show Lz.packB Y = (0, Z) from Prod.ext hpp.1 hZ)
      have HU := Lib.hid hpp.2.1
      have hzy := hpp.2.2
      have HY := Lib.hid hY
      have HYn := Lib.hid hyn
      have HZn := Lib.hid hzn
      clear hY hyn hZ hzn hpp
      go_wp2_with fail
      refine (unpack_at HOK.out w5 B q k cb 0 Y yn (HOK.out.keep HG.out HbZ.out) HQl.out.symm ((HQ.out.below HbZ.out).more HbZ.out.size) hkc (by omega) HY.out HYn.out.symm).mono ?_
      rintro e w6 ⟨A6, c6, rfl, hc6, hr6, hb6⟩
      have HR6 := Lib.hid hr6
      have Hb6 := bb HbZ hb6
      clear hr6 hb6
      go_wp2_with fail
      refine (pack_at HOK.out w6 A6 Y yn c6 0 Z zn (HOK.out.keep HG.out Hb6.out) HYn.out.symm HR6.out hc6 (by omega) HP.out HZn.out.symm).mono ?_
      rintro e w7 ⟨A7, c7, rfl, hc7, hr7, hb7⟩
      have HR7 := Lib.hid hr7
      have HR67 := Lib.hid ((HR6.out.below hb7).more hb7.size)
      have Hb7 := bb Hb6 hb7
      clear hr7 hb7 HR6 Hb6
      go_wp2_with fail
      refine (unpack_at HOK.out w7 A7 Z zn c7 0 Y yn (HOK.out.keep HG.out Hb7.out) HZn.out.symm HR7.out hc7 (by omega) HU.out HYn.out.symm).mono ?_
      rintro e w8 ⟨A8, c8, rfl, hc8, hr8, hb8⟩
      have HR8 := Lib.hid hr8
      have HR68 := Lib.hid ((HR67.out.below hb8).more hb8.size)
      have Hb8 := bb Hb7 hb8
      clear hr8 hb8 HR7 HR67 Hb7
      go_wp2_with fail
      refine (awake13_any HOK.out w8 (HOK.out.keep HG.out Hb8.out)).mono ?_
      rintro e w9 ⟨rfl, hb9⟩
      have Hb9 := bb Hb8 hb9
      have hs3 := string_later_rd ((HR8.out.below hb9).more hb9.size) c8 ⟨w9, grows.refl _⟩
      have hs4 := string_later_rd ((HR68.out.below hb9).more hb9.size) c6 ⟨w9, grows.refl _⟩
      rw [HYn.out] at hs3 hs4
      obtain ⟨S2, hS2⟩ : ∃ S : ByteArray, (⟨Y.toArray⟩ : ByteArray) = S := ⟨_, rfl⟩
      rw [hS2] at hs3 hs4
      have hd5 : decide ((yn : Int) ≤ 1024) = true := by simp; omega
      clear hS2 hb9 HR8 HR68 Hb8
      go_wp2
      go_ret
      exact ⟨by simp, Hb9.out⟩
    · have HY := Lib.hid hY
      clear hY
      go_wp2_with fail
      refine (unpack_at HOK.out w5 B q k cb 12 [] 0 (HOK.out.keep HG.out HbZ.out) HQl.out.symm ((HQ.out.below HbZ.out).more HbZ.out.size) hkc (by omega) HY.out rfl).mono ?_
      rintro e w6 ⟨A6, c6, rfl, hc6, hr6, hb6⟩
      have Hb6 := bb HbZ hb6
      clear hr6 hb6
      go_wp2_with fail
      refine (awake13_any HOK.out w6 (HOK.out.keep HG.out Hb6.out)).mono ?_
      rintro e w7 ⟨rfl, hb7⟩
      have Hb7 := bb Hb6 hb7
      clear hb7
      go_wp2
      go_ret
      exact ⟨by simp, Hb7.out⟩
  · have HP := Lib.hid (show Lz.packB d = (2, []) by unfold Lz.packB; rw [if_pos (by have := HDl.out; omega)])
    have hd0 : decide ((m : Int) ≤ 1024) = false := by simp; omega
    go_enter Try.func5, Try.ntmps5
    go_wp2_with fail
    refine (short13_any A n c m w HM.out hc).mono ?_
    rintro e w1 ⟨rfl, rfl⟩
    go_wp2_with fail
    refine (pack_at HOK.out w1 A d m c 2 [] 0 HG.out HDl.out.symm HR.out hmc (by omega) HP.out rfl).mono ?_
    rintro e w2 ⟨A2, c2, rfl, hc2, hr2, hb2⟩
    have HbZ := Lib.hid hb2
    clear hr2 hb2
    go_wp2_with fail
    refine (short13_any A n c m w2 HM.out hc).mono ?_
    rintro e w4 ⟨rfl, rfl⟩
    clear HP
    go_wp2_with fail
    refine (short13_any B r cb k _ HK.out hcb).mono ?_
    rintro e w5 ⟨rfl, rfl⟩
    rcases Lz.unpack_cases q with ⟨Y, hY⟩ | hY
    · have hy1 := Lz.unpack_len hY
      obtain ⟨yn, hyn⟩ : ∃ yn, Y.length = yn := ⟨_, rfl⟩
      rw [hyn] at hy1
      obtain ⟨Z, hZ⟩ : ∃ Z, (Lz.packB Y).2 = Z := ⟨_, rfl⟩
      obtain ⟨zn, hzn⟩ : ∃ zn, Z.length = zn := ⟨_, rfl⟩
      have hpp := Lz.unpack_pack (b := Y) (by omega)
      rw [hZ, hyn, hzn] at hpp
      have HP := Lib.hid (show Lz.packB Y = (0, Z) from Prod.ext hpp.1 hZ)
      have HU := Lib.hid hpp.2.1
      have hzy := hpp.2.2
      have HY := Lib.hid hY
      have HYn := Lib.hid hyn
      have HZn := Lib.hid hzn
      clear hY hyn hZ hzn hpp
      go_wp2_with fail
      refine (unpack_at HOK.out w5 B q k cb 0 Y yn (HOK.out.keep HG.out HbZ.out) HQl.out.symm ((HQ.out.below HbZ.out).more HbZ.out.size) hkc (by omega) HY.out HYn.out.symm).mono ?_
      rintro e w6 ⟨A6, c6, rfl, hc6, hr6, hb6⟩
      have HR6 := Lib.hid hr6
      have Hb6 := bb HbZ hb6
      clear hr6 hb6
      go_wp2_with fail
      refine (pack_at HOK.out w6 A6 Y yn c6 0 Z zn (HOK.out.keep HG.out Hb6.out) HYn.out.symm HR6.out hc6 (by omega) HP.out HZn.out.symm).mono ?_
      rintro e w7 ⟨A7, c7, rfl, hc7, hr7, hb7⟩
      have HR7 := Lib.hid hr7
      have HR67 := Lib.hid ((HR6.out.below hb7).more hb7.size)
      have Hb7 := bb Hb6 hb7
      clear hr7 hb7 HR6 Hb6
      go_wp2_with fail
      refine (unpack_at HOK.out w7 A7 Z zn c7 0 Y yn (HOK.out.keep HG.out Hb7.out) HZn.out.symm HR7.out hc7 (by omega) HU.out HYn.out.symm).mono ?_
      rintro e w8 ⟨A8, c8, rfl, hc8, hr8, hb8⟩
      have HR8 := Lib.hid hr8
      have HR68 := Lib.hid ((HR67.out.below hb8).more hb8.size)
      have Hb8 := bb Hb7 hb8
      clear hr8 hb8 HR7 HR67 Hb7
      go_wp2_with fail
      refine (awake13_any HOK.out w8 (HOK.out.keep HG.out Hb8.out)).mono ?_
      rintro e w9 ⟨rfl, hb9⟩
      have Hb9 := bb Hb8 hb9
      have hs3 := string_later_rd ((HR8.out.below hb9).more hb9.size) c8 ⟨w9, grows.refl _⟩
      have hs4 := string_later_rd ((HR68.out.below hb9).more hb9.size) c6 ⟨w9, grows.refl _⟩
      rw [HYn.out] at hs3 hs4
      obtain ⟨S2, hS2⟩ : ∃ S : ByteArray, (⟨Y.toArray⟩ : ByteArray) = S := ⟨_, rfl⟩
      rw [hS2] at hs3 hs4
      have hd5 : decide ((yn : Int) ≤ 1024) = true := by simp; omega
      clear hS2 hb9 HR8 HR68 Hb8
      go_wp2
      go_ret
      exact ⟨by simp, Hb9.out⟩
    · have HY := Lib.hid hY
      clear hY
      go_wp2_with fail
      refine (unpack_at HOK.out w5 B q k cb 12 [] 0 (HOK.out.keep HG.out HbZ.out) HQl.out.symm ((HQ.out.below HbZ.out).more HbZ.out.size) hkc (by omega) HY.out rfl).mono ?_
      rintro e w6 ⟨A6, c6, rfl, hc6, hr6, hb6⟩
      have Hb6 := bb HbZ hb6
      clear hr6 hb6
      go_wp2_with fail
      refine (awake13_any HOK.out w6 (HOK.out.keep HG.out Hb6.out)).mono ?_
      rintro e w7 ⟨rfl, hb7⟩
      have Hb7 := bb Hb6 hb7
      clear hb7
      go_wp2
      go_ret
      exact ⟨by simp, Hb7.out⟩
end Go.Proofs.Ytjapohddfelgkaa
