/-
  Layer 8: WrapBack, walked from the contracts of wrap's functions.
-/
import Derived.Test.YtbcagjndbfpecaaDoorWrapAx
import Derived.Test.YtbcagjndbfpecaaDoorAesLem
import Derived.Test.YtbcagjndbfpecaaDoorApp2
import Derived.Test.YtbcagjndbfpecaaDoorReg2
namespace Go.Proofs.YtbcagjndbfpecaaDoor
open Go.ChangeShapes Go.WideShapes Go.ChangeAt Go.RowKit Go.Gar Go.Gar.Aes

/-- How many bytes are still to be appended. -/
def lackN (n : Nat) : Nat := if n < 16 then 16 - n else (8 - n % 8) % 8
theorem lackN_step (n : Nat) (h : n % 8 ≠ 0 ∨ n < 16) : lackN (n + 1) < lackN n := by
  unfold lackN
  split <;> split <;> omega

set_option maxHeartbeats 4000000 in
set_option maxRecDepth 100000 in
theorem wrapback_walk {G : World → Prop} (hOK : WrapOK G) (K A C : Option Addr) (key lb lc b c : List UInt8) (kc bc cc nn m mb mc : Nat) (w : World) (hG : G w) (hbc : lb.length ≤ bc) (hcc : lc.length ≤ cc) (hbl : b.length = mb) (hcl : c.length = mc) (hmb : mb = min lb.length 300) (hmc : mc = min lc.length 300)
    (hm : m = 16 + 8 * (nn % 3)) (hnn : nn < 256) (rK : Rd w w.heap.size K key) (rA : Rd w w.heap.size A b) (rC : Rd w w.heap.size C c) :
    Calls Tryd.prog 5 #[.slice K key.length kc, .int .u8 (nn : Int), .slice A lb.length bc, .slice C lc.length cc] w fun e w' => e = .returned (.bool true) ∧ Below w.heap.size w w' := by
  have hb300 : mb ≤ 300 := by omega
  have hbbc : mb ≤ bc := by omega
  have hc300 : mc ≤ 300 := by omega
  have hccc : mc ≤ cc := by omega
  obtain ⟨kx, hkk⟩ : ∃ kx, kx = fit key m := ⟨_, rfl⟩
  have hkl : kx.length = m := by rw [hkk]; exact fit_len key m
  have hs : sizeOk kx.length := by rw [hkl]; unfold sizeOk; omega
  obtain ⟨E3, hE3⟩ : ∃ E3 : Int, E3 = ((unwrapE kx c : Nat) : Int) := ⟨_, rfl⟩
  obtain ⟨O3, hO3⟩ : ∃ O3, O3 = unwrapB kx c := ⟨_, rfl⟩
  obtain ⟨n3, hn3⟩ : ∃ n3, n3 = O3.length := ⟨_, rfl⟩
  have hmk := run_make_bytes m m (Nat.le_refl _) (by omega) w
  have hBn := Blk.new w 5 (u8s (List.replicate m 0))
  have hb0 := below_alloc w (.cells (u8s (List.replicate m 0)).toArray 5)
  have hcp := run_copy_min (P := Tryd.prog) 22 22 3 5 Tryd.und22 Tryd.size5 w.heap.size m m kc K key w.heap.size (rK.below hb0) _ _ hBn (by simp [u8s_len])
  have hrow := hBn.row (u8s (key.take m) ++ (u8s (List.replicate m 0)).drop (min key.length m))
  have hfit : u8s (key.take m) ++ (u8s (List.replicate m 0)).drop (min key.length m) = u8s kx := by
    rw [hkk, u8s_drop, ← u8s_app, fit, List.drop_replicate]
    congr 3
    omega
  rw [hfit] at hcp hrow
  have Hb := Lib.hid (below_setRow hb0 (Nat.le_refl _) (u8s kx).toArray)
  have HK := Lib.hid hrow
  rw [show ((m : Nat) : Int) = 16 + 8 * ((nn : Int) % 3) from by omega] at hmk
  obtain ⟨w1, hw1⟩ : ∃ w1, World.setRow (w.alloc (.cells (u8s (List.replicate m 0)).toArray 5)) w.heap.size (u8s kx).toArray = w1 := ⟨_, rfl⟩
  rw [hw1] at hcp HK Hb
  clear hw1
  have HOK := Lib.hid hOK
  have HG := Lib.hid hG
  have HBL := Lib.hid hbl
  have HCL := Lib.hid hcl
  have HMB := Lib.hid hmb
  have HMC := Lib.hid hmc
  have HKL := Lib.hid hkl
  have HS := Lib.hid hs
  have HE3 := Lib.hid hE3
  have HO3 := Lib.hid hO3
  have HN3 := Lib.hid hn3
  have HRA := Lib.hid rA
  have HRC := Lib.hid rC
  clear hOK hG hbl hcl hmb hmc hkl hs hE3 hO3 hn3 rA rC rK hkk hBn hb0 hrow hfit hm
  go_enter Tryd.func5, Tryd.ntmps5
  go_wp2_with fail
  clear hmk hcp
  refine (short8_any A lb.length bc mb w1 HMB.out hbc).mono ?_
  rintro e w2 ⟨rfl, rfl⟩
  go_wp2
  go_loopw [10] (fun v w' => ∃ (Ax : Option Addr) (n cx : Nat) (x : List UInt8), v = .slice Ax n cx ∧ x.length = n ∧ n ≤ 304 ∧ n ≤ cx ∧ Rd w' w'.heap.size Ax x ∧ Below w2.heap.size w2 w') (fun v _ => lackN (match v with | .slice _ n _ => n | _ => 0))
  case atStart => exact ⟨A, mb, bc, b, rfl, HBL.out, by omega, hbbc, (HRA.out.below Hb.out).more Hb.out.size, Below.refl _ _⟩
  case round =>
    obtain ⟨Ax, n, cx, x, rfl, hxl, hn, hcx, hrx, hb⟩ := hrel
    by_cases hcont : n % 8 ≠ 0 ∨ n < 16
    · have hb0 := below_alloc wr (.cells #[] 5)
      obtain ⟨v1, w4, e1, ho1, hb1, _⟩ := app_rd (P := Tryd.prog) 22 22 Tryd.und22 Tryd.info5 (own_made wr wr.heap.size 5 (Nat.le_refl _)) (by rw [World.size_alloc]; omega) cx (hrx.below hb0) (by rw [hxl]; simp; omega)
      rw [List.nil_append] at ho1
      rw [hxl] at e1
      have hb4 := hb0.trans hb1
      obtain ⟨v2, w5, e2, ho2, hb2⟩ := app_one (P := Tryd.prog) 22 22 Tryd.und22 Tryd.info5 ho1 hb4.size 7 7 rfl (by rw [hxl]; omega)
      obtain ⟨g9, c9, rest9, rfl, _, hc9, hB9⟩ := ho2.blk (by simp)
      rw [List.length_append, hxl, List.length_singleton] at e2 hc9
      have HR9 := Lib.hid (Rd.of_row hB9)
      have Hb9 := Lib.hid (hb.trans ((hb4.trans hb2).mono hb.size))
      have HX9 : Hid ((x ++ [7]).length = n + 1) := Lib.hid (by rw [List.length_append, hxl]; rfl)
      have HST := Lib.hid (lackN_step n hcont)
      clear hb0 ho1 hb1 hb4 ho2 hb2 hB9 hrx hb hxl
      obtain ⟨r, hr⟩ : ∃ r, n % 8 = r := ⟨_, rfl⟩
      have hri : (n : Int) % 8 = (r : Int) := by omega
      by_cases hr0 : r = 0
      · have hlt : (n : Int) < 16 := by omega
        subst hr0
        clear hr hcont
        go_wp2_with (at_builtin; first | refine wpList_append_run rfl (.tmp 39) (.tmp 40) _ rfl rfl rfl e1 ?_ | refine wpList_append_run rfl (.tmp 41) (.tmp 42) _ rfl rfl rfl e2 ?_)
        exact ⟨⟨_, n + 1, c9, _, rfl, HX9.out, by omega, hc9, HR9.out, Hb9.out⟩, HST.out⟩
      · have hn304 : n + 1 ≤ 304 := by omega
        clear hr hcont
        go_wp2_with (at_builtin; first | refine wpList_append_run rfl (.tmp 39) (.tmp 40) _ rfl rfl rfl e1 ?_ | refine wpList_append_run rfl (.tmp 41) (.tmp 42) _ rfl rfl rfl e2 ?_)
        exact ⟨⟨_, n + 1, c9, _, rfl, HX9.out, hn304, hc9, HR9.out, Hb9.out⟩, HST.out⟩
    · have h80 : (n : Int) % 8 = 0 := by omega
      have h16 : ¬ (n : Int) < 16 := by omega
      have HC : Hid (n % 8 = 0 ∧ 16 ≤ n) := Lib.hid (by omega)
      have HR := Lib.hid hrx
      have HX := Lib.hid hxl
      have Hbw := Lib.hid hb
      clear hrx hxl hb hcont
      go_upto_if 46 with fail
      clear h80 h16
      go_cut [10] from 44 to 48 (fun v w' => ∃ (L c : Nat) (x : List UInt8), v = .slice Ax L c ∧ x.length = L ∧ fits L ∧ L ≤ c ∧ Rd wr wr.heap.size Ax x ∧ w' = wr)
      case first =>
        have hl := HC.out
        by_cases hgt : 256 < n
        · have hgt' : (256 : Int) < (n : Int) := by omega
          have hcx' : (256 : Int) ≤ (cx : Int) := by omega
          clear hl
          go_wp2
          go_meet
          case rel => exact ⟨256, cx, x.take 256, rfl, by rw [List.length_take, HX.out]; omega, by decide, by omega, HR.out.take 256, rfl⟩
        · have hgt' : ¬ (256 : Int) < (n : Int) := by omega
          clear hl
          go_wp2
          go_meet
          case rel => exact ⟨n, cx, x, rfl, HX.out, ⟨HC.out.1, HC.out.2, by omega⟩, hcx, HR.out, rfl⟩
      case rest =>
        obtain ⟨L, cL, y, rfl, hyl, hfL, hLc, hry, rfl⟩ := hcut
        have hL256 : L ≤ 256 := by have := hfL; unfold fits at this; omega
        have hc1 : sizeOk kx.length ∧ fits y.length := ⟨HS.out, by rw [hyl]; exact hfL⟩
        have h88 : y.length % 8 = 0 := by rw [hyl]; exact hfL.1
        have hy0 : 0 < y.length := by rw [hyl]; have := hfL.2.1; omega
        obtain ⟨X, hX⟩ : ∃ X, X = Wrp.wrap_ kx y := ⟨_, rfl⟩
        have hXl : X.length = L + 8 := by rw [hX, Wrp.wrap_len kx y h88 hy0, hyl]
        obtain ⟨nX, hnX⟩ : ∃ nX, nX = L + 8 := ⟨_, rfl⟩
        have HXl : Hid (nX = X.length) := Lib.hid (by rw [hXl, hnX])
        have HE1 : Hid ((0 : Int) = ((wrapE kx y : Nat) : Int)) := Lib.hid (by rw [show wrapE kx y = 0 from if_pos hc1]; rfl)
        have HO1 : Hid (X = wrapB kx y) := Lib.hid (by rw [show wrapB kx y = Wrp.wrap_ kx y from if_pos hc1, hX])
        have hop : Wrp.unwrap_ kx X = some y := by rw [hX]; exact Wrp.unwrap_wrap kx y h88 hy0
        have hc2 : sizeOk kx.length ∧ 8 ≤ X.length ∧ fits (X.length - 8) := ⟨HS.out, by omega, by rw [hXl, Nat.add_sub_cancel]; exact hfL⟩
        have HE2 : Hid ((0 : Int) = ((unwrapE kx X : Nat) : Int)) := Lib.hid (by rw [show unwrapE kx X = if (Wrp.unwrap_ kx X).isSome then 0 else 8 from if_pos hc2, hop]; rfl)
        have HO2 : Hid (y = unwrapB kx X) := Lib.hid (by rw [show unwrapB kx X = (Wrp.unwrap_ kx X).getD [] from if_pos hc2, hop]; rfl)
        have HYL := Lib.hid hyl
        have HRY := Lib.hid hry
        have HNX := Lib.hid hnX
        have hb1 := Hb.out.trans (Hbw.out.mono Hb.out.size)
        have HKc := Lib.hid (HK.out.below Hbw.out HK.out.lt)
        have Hbc := Lib.hid hb1
        have HGc := Lib.hid (HOK.out.keep HG.out hb1)
        clear hX hXl hnX hc1 h88 hy0 hop hc2 hyl hry hb1 HK Hb Hbw HR HX HC hfL HG
        go_wp2_with fail
        refine (wrap_at HOK.out wc _ Ax kx y m m L cL 0 X nX HGc.out HKL.out.symm HYL.out.symm HE1.out HO1.out HXl.out (Rd.of_all HKc.out) HRY.out (Nat.le_refl _) hLc (by omega)).mono ?_
        rintro e w4 ⟨B4, c4, rfl, hc4, r4, hb4⟩
        have HR4 := Lib.hid r4
        have HRY4 := Lib.hid ((HRY.out.below hb4).more hb4.size)
        have HK4 := Lib.hid (HKc.out.below hb4 HKc.out.lt)
        have Hb4 := bb Hbc hb4
        have HG4 := Lib.hid (HOK.out.keep HGc.out hb4)
        clear r4 hb4 HKc Hbc HGc HRY
        have HXb : Hid (nX ≤ 1048576) := Lib.hid (by rw [HNX.out]; omega)
        go_wp2_with fail
        refine (unwrap_at HOK.out w4 _ B4 kx X m m nX c4 0 y L HG4.out HKL.out.symm HXl.out HE2.out HO2.out HYL.out.symm (Rd.of_all HK4.out) HR4.out (Nat.le_refl _) hc4 HXb.out).mono ?_
        rintro e w5 ⟨B5, c5, rfl, hc5, r5, hb5⟩
        have hs1 := string_later_rd r5 c5 ⟨w5, grows.refl _⟩
        have hs2 := string_later_rd ((HRY4.out.below hb5).more hb5.size) cL ⟨w5, grows.refl _⟩
        rw [HYL.out] at hs1 hs2
        simp only at hs1 hs2
        generalize (⟨y.toArray⟩ : ByteArray) = S at hs1 hs2
        have HK5 := Lib.hid (HK4.out.below hb5 HK4.out.lt)
        have Hb5 := bb Hb4 hb5
        have HG5 := Lib.hid (HOK.out.keep HG4.out hb5)
        have hnx : (nX : Int) = (L : Int) + 8 := by have := HNX.out; omega
        clear r5 HK4 Hb4 HR4 HRY4 HG4 hb5
        go_wp2_with fail
        clear hs1 hs2 hnx
        refine (short8_any C lc.length cc mc w5 HMC.out hcc).mono ?_
        rintro e w6 ⟨rfl, rfl⟩
        go_wp2_with fail
        refine (unwrap_at HOK.out w6 _ C kx c m m mc cc E3 O3 n3 HG5.out HKL.out.symm HCL.out.symm HE3.out HO3.out HN3.out (Rd.of_all HK5.out) ((HRC.out.below Hb5.out).more Hb5.out.size) (Nat.le_refl _) hccc (by omega)).mono ?_
        rintro e w7 ⟨B7, c7, rfl, hc7, r7, hb7⟩
        have HR7 := Lib.hid r7
        have HK7 := Lib.hid (HK5.out.below hb7 HK5.out.lt)
        have Hb7 := bb Hb5 hb7
        have HG7 := Lib.hid (HOK.out.keep HG5.out hb7)
        clear r7 hb7 HK5 Hb5 HG5
        have hcase : (unwrapE kx c = 1 ∧ unwrapB kx c = []) ∨ (unwrapE kx c = 8 ∧ unwrapB kx c = []) ∨ (unwrapE kx c = 0 ∧ wrapE kx (unwrapB kx c) = 0 ∧ wrapB kx (unwrapB kx c) = c) := by
          by_cases hq : 8 ≤ c.length ∧ fits (c.length - 8)
          · have hq2 : sizeOk kx.length ∧ 8 ≤ c.length ∧ fits (c.length - 8) := ⟨HS.out, hq⟩
            have a1 : unwrapE kx c = if (Wrp.unwrap_ kx c).isSome then 0 else 8 := if_pos hq2
            have a2 : unwrapB kx c = (Wrp.unwrap_ kx c).getD [] := if_pos hq2
            rcases hop : Wrp.unwrap_ kx c with _ | z
            · rw [hop] at a1 a2
              exact .inr (.inl ⟨a1, a2⟩)
            · rw [hop] at a1 a2
              have a3 : unwrapB kx c = z := a2
              have hf := hq.2
              have hback := Wrp.wrap_unwrap kx c z (by have := hf.1; omega) (by have := hf.2.1; omega) hop
              have hq3 : sizeOk kx.length ∧ fits z.length := ⟨HS.out, by rw [hback.2]; exact hf⟩
              exact .inr (.inr ⟨a1, by rw [a3]; exact if_pos hq3, by rw [a3, show wrapB kx z = Wrp.wrap_ kx z from if_pos hq3, hback.1]⟩)
          · have hq2 : ¬ (sizeOk kx.length ∧ 8 ≤ c.length ∧ fits (c.length - 8)) := fun h => hq h.2
            exact .inl ⟨if_neg hq2, if_neg hq2⟩
        rcases hcase with ⟨hE3, hO3⟩ | ⟨hE3, hO3⟩ | ⟨hE3, hw1, hw2⟩
        · skip
          obtain rfl : E3 = 1 := by rw [HE3.out, hE3]; rfl
          obtain rfl : n3 = 0 := by rw [HN3.out, HO3.out, hO3]; rfl
          clear hE3 hO3 HE3 HO3 HN3
          go_wp2_with fail
          refine (awake8_any HOK.out w7 HG7.out).mono ?_
          rintro e w8 ⟨rfl, hb8⟩
          have Hb8 := bb Hb7 hb8
          clear hb8
          go_wp2
          go_ret
          exact ⟨by simp, Hb8.out⟩
        · skip
          obtain rfl : E3 = 8 := by rw [HE3.out, hE3]; rfl
          obtain rfl : n3 = 0 := by rw [HN3.out, HO3.out, hO3]; rfl
          clear hE3 hO3 HE3 HO3 HN3
          go_wp2_with fail
          refine (awake8_any HOK.out w7 HG7.out).mono ?_
          rintro e w8 ⟨rfl, hb8⟩
          have Hb8 := bb Hb7 hb8
          clear hb8
          go_wp2
          go_ret
          exact ⟨by simp, Hb8.out⟩
        · obtain rfl : E3 = 0 := by rw [HE3.out, hE3]; rfl
          rw [← HO3.out] at hw1 hw2
          have HE4 : Hid ((0 : Int) = ((wrapE kx O3 : Nat) : Int)) := Lib.hid (by rw [hw1]; rfl)
          have HO4 : Hid (c = wrapB kx O3) := Lib.hid hw2.symm
          have h3 : n3 ≤ 256 := by
            have h := hw1
            unfold wrapE at h
            split at h
            · next hh => rw [HN3.out]; exact hh.2.2.2
            · cases h
          clear hE3 hw1 hw2 HE3 HO3
          go_wp2_with fail
          refine (wrap_at HOK.out w7 _ B7 kx O3 m m n3 c7 0 c mc HG7.out HKL.out.symm HN3.out HE4.out HO4.out HCL.out.symm (Rd.of_all HK7.out) HR7.out (Nat.le_refl _) hc7 (by omega)).mono ?_
          rintro e w12 ⟨B12, c12, rfl, hc12, r12, hb12⟩
          have HR12 := Lib.hid r12
          have Hb12 := bb Hb7 hb12
          have HG12 := Lib.hid (HOK.out.keep HG7.out hb12)
          clear r12 HK7 Hb7 HR7 hb12 HG7
          go_wp2_with fail
          refine wp_region_G grows (by kernel_rfl) ?_
          have HR13 : Hid (Rd w12.drew w12.drew.heap.size B12 c) := HR12
          have Hb13 := Lib.hid Hb12.out.drew
          have HG13 := Lib.hid (HOK.out.keep HG12.out (Below.refl _ w12).drew)
          clear HR12 Hb12 HG12
          generalize w12.drew = w13 at HR13 Hb13 HG13 ⊢
          refine oneG 0 13 rfl (by kernel_rfl) rfl ?_
          go_wp2_with fail
          refine (awake8_any HOK.out w13 HG13.out).mono ?_
          rintro e w14 ⟨rfl, hb14⟩
          have Hb14 := bb Hb13 hb14
          have hs1 := string_later_rd ((HR13.out.below hb14).more hb14.size) c12
          have hs2 := string_later_rd ((HRC.out.below Hb14.out).more Hb14.out.size) cc
          rw [HCL.out] at hs1 hs2
          clear HR13 Hb13 HG13
          go_wp2
          refine ⟨hb14, ?_⟩
          clear hb14
          refine segG (by kernel_rfl) (fun _ _ _ _ _ h => h) [1, 2, 3, 4, 5, 6, 7, 8] [_, _, _, _, _, _, _, _] 5 rfl rfl (by kernel_rfl) ?_
          repeat (go_big_quiet_step (fail))
          refine wpQuiet_nil ?_
          refine oneG 9 4 rfl (by kernel_rfl) rfl ?_
          go_wp2_with fail
          refine (short8_any C lc.length cc mc w14 HMC.out hcc).mono ?_
          rintro e w15 ⟨rfl, rfl⟩
          go_wp2
          refine ⟨grows.refl _, ?_⟩
          refine segG (by kernel_rfl) (fun _ _ _ _ _ h => h) [10, 11, 12, 13] [_, _, _, _] 0 rfl rfl (by kernel_rfl) ?_
          repeat (go_big_quiet_step (fail))
          refine wpQuiet_nil ?_
          refine wpAnyG_done (by kernel_rfl) ?_
          go_wp2
          go_ret
          exact ⟨by simp, Hb14.out⟩
end Go.Proofs.YtbcagjndbfpecaaDoor
