/-
  Layer 4: AesEncrypts, walked from the contracts of aes's functions and of the reference.
-/
import Derived.Test.YtphlpedecnoooaaAesNon
import Derived.Test.YtphlpedecnoooaaAesEnc
import Derived.Test.YtphlpedecnoooaaAesDec
import Derived.Test.YtphlpedecnoooaaAesNew
import Derived.Test.YtphlpedecnoooaaAesAwake
import Derived.Test.YtphlpedecnoooaaAesTwo
namespace Go.Proofs.Ytphlpedecnoooaa
open Go.ChangeShapes Go.WideShapes Go.ChangeAt Go.RowKit Go.Gar Go.Gar.Aes

/-- The reference's cipher of a key. -/
def RefOf (w : World) (gc : Nat) (key : List UInt8) : Prop := ∃ gt gb gw cp, RefC w gc gt gb gw cp (words key (key.length / 4) (4 * (key.length / 4) + 28))
theorem RefOf.below {w w' : World} {gc : Nat} {key : List UInt8} (h : RefOf w gc key) (hb : Below w.heap.size w w') : RefOf w' gc key := by
  obtain ⟨gt, gb, gw, cp, h⟩ := h
  exact ⟨gt, gb, gw, cp, h.below hb⟩
theorem refNew_at (w : World) (A : Option Addr) (key : List UInt8) (len cap : Nat) (hok : sizeOk key.length) (hlen : len = key.length) (hc : len ≤ cap) (hr : Rd w w.heap.size A key) :
    Calls Try.prog 9 #[.slice A len cap] w fun e w' => ∃ gc, e = .returned (.tuple #[.pointer (some ⟨gc, 0, none⟩), .bool true]) ∧ RefOf w' gc key ∧ Below w.heap.size w w' := by
  unfold sizeOk at hok
  have h4 : 4 * (key.length / 4) = key.length := by omega
  obtain rfl : len = 4 * (key.length / 4) := by omega
  refine (refNew_yes w A key (key.length / 4) cap (by omega) hc h4.symm hr).mono fun e w' he => ?_
  obtain ⟨gc, gt, gb, gw, cp, h1, h2, h3⟩ := he
  exact ⟨gc, h1, ⟨gt, gb, gw, cp, h2⟩, h3⟩
theorem refNew_any (w : World) (A : Option Addr) (key : List UInt8) (cap : Nat) (hc : key.length ≤ cap) (hr : Rd w w.heap.size A key) (may : Bool) (hm : may = true ↔ sizeOk key.length) :
    Calls Try.prog 9 #[.slice A key.length cap] w fun e w' => ∃ p, e = .returned (.tuple #[.pointer p, .bool may]) ∧ Below w.heap.size w w' := by
  cases may with
  | true =>
    refine (refNew_at w A key _ cap (hm.1 rfl) rfl hc hr).mono fun e w' he => ?_
    obtain ⟨gc, h1, _, h3⟩ := he
    exact ⟨_, h1, h3⟩
  | false =>
    refine (refNew_no w A key.length cap (fun hs => by cases hm.2 hs)).mono fun e w' he => ?_
    obtain ⟨h1, rfl⟩ := he
    exact ⟨_, h1, Below.refl _ _⟩
theorem refEnc_at (w : World) (gc : Nat) (key : List UInt8) (h : RefOf w gc key) (A : Option Addr) (l : List UInt8) (c : Nat) (hl : l.length = 16) (hr : Rd w w.heap.size A l) :
    Calls Try.prog 13 #[.pointer (some ⟨gc, 0, none⟩), .slice A 16 c] w fun e w' => ∃ B cp, e = .returned (.slice B 16 cp) ∧ Rd w' w'.heap.size B (encrypt key l) ∧ Below w.heap.size w w' := by
  obtain ⟨gt, gb, gw, cp, h⟩ := h
  refine (refEncrypt_any w gc gt gb gw cp _ h (roundsOf key) (by rw [words_len, roundsOf]; omega) (by rw [roundsOf]; omega) A l c hl hr).mono fun e w' he => ?_
  obtain ⟨g, cp', rest, h1, _, h3, h4⟩ := he
  exact ⟨_, _, h1, Rd.of_row h3, h4⟩
theorem refDec_at (w : World) (gc : Nat) (key : List UInt8) (h : RefOf w gc key) (A : Option Addr) (l : List UInt8) (c : Nat) (hl : l.length = 16) (hr : Rd w w.heap.size A l) :
    Calls Try.prog 14 #[.pointer (some ⟨gc, 0, none⟩), .slice A 16 c] w fun e w' => ∃ B cp, e = .returned (.slice B 16 cp) ∧ Rd w' w'.heap.size B (decrypt key l) ∧ Below w.heap.size w w' := by
  obtain ⟨gt, gb, gw, cp, h⟩ := h
  refine (refDecrypt_any w gc gt gb gw cp _ h (roundsOf key) (by rw [words_len, roundsOf]; omega) (by rw [roundsOf]; omega) A l c hl hr).mono fun e w' he => ?_
  obtain ⟨g, cp', rest, h1, _, h3, h4⟩ := he
  exact ⟨_, _, h1, Rd.of_row h3, h4⟩

set_option maxHeartbeats 4000000 in
set_option maxRecDepth 100000 in
theorem aesencrypts_walk {Rep : World → Nat → List UInt8 → Prop} (hOK : AesOK Rep)
    (w : World) (A : Option Addr) (key l : List UInt8) (cap n : Nat) (x : Array Value) (hx : x = (u8s l).toArray) (hl : l.length = 16) (hn : n < 256) (hcap : key.length ≤ cap) (hr : Rd w w.heap.size A key) :
    Calls Try.prog 3 #[.slice A key.length cap, .int .u8 (n : Int), .agg x] w fun e w' => e = .returned (.bool true) ∧ Below w.heap.size w w' := by
  have HOK := Lib.hid hOK
  have HX := Lib.hid hx
  have HL := Lib.hid hl
  have HR0 := Lib.hid hr
  have HR := Lib.hid ((hr.below (below_alloc w (.cells x 23))).more (below_alloc w (.cells x 23)).size)
  have Hb0 := Lib.hid (below_alloc w (.cells x 23))
  have hB0 := Blk.new w 23 x.toList
  rw [Array.toArray_toList] at hB0
  have HB0 := Lib.hid hB0
  clear hOK hx hl hr hB0
  go_enter Try.func3, Try.ntmps3
  go_wp2_with fail
  generalize w.alloc (.cells x 23) = w1 at HR Hb0 HB0 ⊢
  refine (sized_any w1 A key cap n _ rfl hn HR.out).mono ?_
  rintro e w2 ⟨g2, rfl, hg2, hB2, hb2⟩
  have HB2 := Lib.hid (HB0.out.below hb2 HB0.out.lt)
  have Hb2 := bb Hb0 hb2
  have HK2 := Lib.hid (Rd.of_all hB2)
  have HKok := Lib.hid (fit_ok key n)
  have HKl := Lib.hid (fit_len key (16 + 8 * (n % 3)))
  clear hg2 hB2 hb2 HB0 Hb0 HR
  generalize hKe : fit key (16 + 8 * (n % 3)) = K at *
  have HKE := Lib.hid hKe
  clear hKe
  obtain ⟨m, hm⟩ : ∃ m, 16 + 8 * (n % 3) = m := ⟨_, rfl⟩
  have HM := Lib.hid hm
  rw [hm] at HKE HKl ⊢
  clear hm
  go_wp2_with fail
  refine (HOK.out.new_yes w2 _ K m m HKok.out HKl.out.symm (by rw [HKl.out]; exact Nat.le_refl _) HK2.out).mono ?_
  rintro e w3 ⟨gc, rfl, hRep, hb3⟩
  have HB3 := Lib.hid (HB2.out.below hb3 HB2.out.lt)
  have Hb3 := bb Hb2 hb3
  have HRep := Lib.hid hRep
  clear hRep hb3 HB2 Hb2 HK2
  go_wp2_with fail
  refine (sized_any w3 A key cap n m HM.out.symm hn ((HR0.out.below Hb3.out).more Hb3.out.size)).mono ?_
  rintro e w4 ⟨g4, rfl, hg4, hB4, hb4⟩
  rw [HKE.out] at hB4
  have HB4 := Lib.hid (HB3.out.below hb4 HB3.out.lt)
  have Hb4 := bb Hb3 hb4
  have HRep4 := Lib.hid (HOK.out.stay HRep.out hb4)
  have HK4 := Lib.hid (Rd.of_all hB4)
  clear hg4 hB4 hb4 HB3 Hb3 HRep
  go_wp2_with fail
  refine (refNew_at w4 _ K m m HKok.out HKl.out.symm (Nat.le_refl _) HK4.out).mono ?_
  rintro e w5 ⟨rc, rfl, hRef, hb5⟩
  have HB5 := Lib.hid (HB4.out.below hb5 HB4.out.lt)
  have Hb5 := bb Hb4 hb5
  have HRep5 := Lib.hid (HOK.out.stay HRep4.out hb5)
  have HRef := Lib.hid hRef
  clear hRef hb5 HB4 Hb4 HRep4 HK4
  go_wp2_with fail
  refine region_start fun a1 ha1 => ?_
  have e5 : a1.eval (.tmp 5) = .pointer (some ⟨w.heap.size, 0, none⟩) := by rw [ha1]; rfl
  have e7 : a1.eval (.tmp 7) = .pointer (some ⟨gc, 0, none⟩) := by rw [ha1]; rfl
  have sz : a1.tmps.size = 78 := by rw [ha1]; rfl
  have HA1 := Lib.hid ha1
  clear ha1
  obtain ⟨y, hy⟩ : ∃ y, y = (u8s (encrypt K l)).toArray := ⟨_, rfl⟩
  obtain ⟨z, hz⟩ : ∃ z, z = (u8s (decrypt K l)).toArray := ⟨_, rfl⟩
  have HY := Lib.hid hy
  have HZ := Lib.hid hz
  have HyS : Hid (y.toList.length = 16 ∧ ∀ u ∈ y.toList, u.oneCell' = true) := Lib.hid (by rw [hy]; exact ⟨by rw [u8s_len, encrypt_len], u8s_one _⟩)
  have HzS : Hid (z.toList.length = 16 ∧ ∀ u ∈ z.toList, u.oneCell' = true) := Lib.hid (by rw [hz]; exact ⟨by rw [u8s_len, decrypt_len], u8s_one _⟩)
  clear hy hz
  have HB6 := Lib.hid HB5.out.drew
  have HRep6 := Lib.hid (HOK.out.stay HRep5.out (Below.refl _ w5).drew)
  have HRef6 := Lib.hid (HRef.out.below (Below.refl _ w5).drew)
  have Hb6 := Lib.hid Hb5.out.drew
  clear HB5 HRep5 HRef Hb5
  refine wp_region_inv (fun L a w' => ∃ f, a = pc a1 f ∧ Two a1 w5.drew (fun i => match i with | 0 => .pointer (some ⟨gc, 0, none⟩) | 1 => .agg x | 2 => .agg y | 3 => .pointer (some ⟨gc, 0, none⟩) | 4 => .agg x | _ => .agg z) 37 11 12 23 y.toList z.toList z16 L f w') (by kernel_rfl) ⟨_, (pc_nil fun _ => rfl).symm, Two.start⟩ ?step ?fin
  case step =>
    rintro L a wx i ⟨f, rfl, hT⟩ hi
    generalize w5.drew = ws at *
    obtain ⟨hu, o, ho, hall⟩ := mem_ready.1 hi
    have hi10 : i < 10 := (Array.getElem?_eq_some_iff.1 ho).1
    have ev : ∀ k : Nat, k < 78 → k ≠ 11 → k ≠ 12 → (k < 37 ∨ 43 ≤ k) → (pc a1 f).eval (.tmp k) = a1.eval (.tmp k) := fun k h0 h1 h2 h3 => by
      rw [pc_eval (by omega), hT.none_ k h1 h2 h3]; rfl
    have evf : ∀ (k : Nat) (v : Value), k < 78 → f k = some v → (pc a1 f).eval (.tmp k) = v := fun k v h0 h1 => by
      rw [pc_eval (by omega), h1]; rfl
    have hld := load16 l x HX.out HL.out HB6.out ⟨wx, hT.below⟩
    have hrep := HOK.out.stay HRep6.out hT.below
    rcases (show i = 0 ∨ i = 1 ∨ i = 2 ∨ i = 3 ∨ i = 4 ∨ i = 5 ∨ i = 6 ∨ i = 7 ∨ i = 8 ∨ i = 9 by omega) with rfl | rfl | rfl | rfl | rfl | rfl | rfl | rfl | rfl | rfl
    · have ho' := ho
      simp at ho'
      subst ho'
      refine wpOp_value (v := .pointer (some ⟨gc, 0, none⟩)) (w' := wx) ho rfl ?_ ⟨_, pc_put _, hT.value (by omega) (by omega) (i := 0) (by omega) (Below.refl _ _)⟩
      show Sem.run Try.prog (pure (Next.value ((pc a1 f).eval (.tmp 7)))) wx = _
      rw [ev 7 (by omega) (by omega) (by omega) (by omega), e7]; rfl
    · have ho' := ho
      simp at ho'
      subst ho'
      refine wpOp_value (v := .agg x) (w' := wx) ho rfl ?_ ⟨_, pc_put _, hT.value (by omega) (by omega) (i := 1) (by omega) (Below.refl _ _)⟩
      unfold execOp
      simp only [ev 5 (by omega) (by omega) (by omega) (by omega), e5, Sem.run_bind, hld, Result.andThen_ok, Sem.run_pure]
    · have ho' := ho
      simp at ho'
      subst ho'
      have f0 := hT.vals 0 (by omega) (hall ⟨0, .data⟩ (by simp) rfl)
      have f1 := hT.vals 1 (by omega) (hall ⟨1, .data⟩ (by simp) rfl)
      refine wpOp_call (f := 10) (args := #[.pointer (some ⟨gc, 0, none⟩), .agg x]) ho rfl ?_ ?_
      · exact exec_call2 _ (.tmp 37) (.tmp 38) _ rfl (evf 37 _ (by omega) f0) (evf 38 _ (by omega) f1) Try.call10
      · refine (HOK.out.enc_at wx gc K l x HX.out HKok.out hrep HL.out).mono fun e w' he => ?_
        obtain ⟨y', rfl, hy', hb⟩ := he
        obtain rfl : y' = y := hy'.trans HY.out.symm
        exact ⟨_, rfl, _, pc_put _, hT.value (by omega) (by omega) (i := 2) (by omega) hb⟩
    · have ho' := ho
      simp at ho'
      subst ho'
      refine wpOp_value (v := .pointer (some ⟨gc, 0, none⟩)) (w' := wx) ho rfl ?_ ⟨_, pc_put _, hT.value (by omega) (by omega) (i := 3) (by omega) (Below.refl _ _)⟩
      show Sem.run Try.prog (pure (Next.value ((pc a1 f).eval (.tmp 7)))) wx = _
      rw [ev 7 (by omega) (by omega) (by omega) (by omega), e7]; rfl
    · have ho' := ho
      simp at ho'
      subst ho'
      refine wpOp_value (v := .agg x) (w' := wx) ho rfl ?_ ⟨_, pc_put _, hT.value (by omega) (by omega) (i := 4) (by omega) (Below.refl _ _)⟩
      unfold execOp
      simp only [ev 5 (by omega) (by omega) (by omega) (by omega), e5, Sem.run_bind, hld, Result.andThen_ok, Sem.run_pure]
    · have ho' := ho
      simp at ho'
      subst ho'
      have f0 := hT.vals 3 (by omega) (hall ⟨3, .data⟩ (by simp) rfl)
      have f1 := hT.vals 4 (by omega) (hall ⟨4, .data⟩ (by simp) rfl)
      refine wpOp_call (f := 11) (args := #[.pointer (some ⟨gc, 0, none⟩), .agg x]) ho rfl ?_ ?_
      · exact exec_call2 _ (.tmp 40) (.tmp 41) _ rfl (evf 40 _ (by omega) f0) (evf 41 _ (by omega) f1) Try.call11
      · refine (HOK.out.dec_at wx gc K l x HX.out HKok.out hrep HL.out).mono fun e w' he => ?_
        obtain ⟨z', rfl, hz', hb⟩ := he
        obtain rfl : z' = z := hz'.trans HZ.out.symm
        exact ⟨_, rfl, _, pc_put _, hT.value (by omega) (by omega) (i := 5) (by omega) hb⟩
    · have ho' := ho
      simp at ho'
      subst ho'
      exact wpOp_value ho rfl (exec_alloc_arr _ 23 z16.toArray rfl zero16) ⟨_, pc_put _, hT.alloc1 (by omega) (by omega) (unlisted hu)⟩
    · have ho' := ho
      simp at ho'
      subst ho'
      exact wpOp_value ho rfl (exec_alloc_arr _ 23 z16.toArray rfl zero16) ⟨_, pc_put _, hT.alloc2 (by omega) (by omega) (unlisted hu)⟩
    · have ho' := ho
      simp at ho'
      subst ho'
      have h6 := hall ⟨6, .data⟩ (by simp) rfl
      have h7 := hall ⟨7, .phase⟩ (by simp) rfl
      have f2 := hT.vals 2 (by omega) (hall ⟨2, .data⟩ (by simp) rfl)
      obtain ⟨g, hg, hgl, hgb⟩ := hT.one h6
      rw [unlisted hu] at hgb
      refine wpOp_store ho rfl (exec_store_arr 23 (.tmp 11) (.tmp 39) g z16 y.toList rfl (evf 11 _ (by omega) hg) (by rw [Array.toArray_toList]; exact evf 39 _ (by omega) f2) hgb (by rw [HyS.out.1]; exact Try.size16) (by rw [HyS.out.1]; rfl) HyS.out.2) ⟨f, rfl, ?_⟩
      exact hT.store1 h6 h7 hg
    · have ho' := ho
      simp at ho'
      subst ho'
      have h6 := hall ⟨6, .phase⟩ (by simp) rfl
      have h7 := hall ⟨7, .data⟩ (by simp) rfl
      have f5 := hT.vals 5 (by omega) (hall ⟨5, .data⟩ (by simp) rfl)
      obtain ⟨g, hg, hgl, hgb⟩ := hT.two h7
      rw [unlisted hu] at hgb
      refine wpOp_store ho rfl (exec_store_arr 23 (.tmp 12) (.tmp 42) g z16 z.toList rfl (evf 12 _ (by omega) hg) (by rw [Array.toArray_toList]; exact evf 42 _ (by omega) f5) hgb (by rw [HzS.out.1]; exact Try.size16) (by rw [HzS.out.1]; rfl) HzS.out.2) ⟨f, rfl, ?_⟩
      exact hT.store2 h6 h7 hg
  case fin =>
    rintro L a wx ⟨f, rfl, hT⟩ hr
    have hall := all_listed (by rw [hT.size]; rfl) (by kernel_rfl) hr 10
    obtain ⟨gx, hgx, hgxl, hBx⟩ := hT.one (hall 6 (by omega) (by decide))
    obtain ⟨gy, hgy, hgyl, hBy⟩ := hT.two (hall 7 (by omega) (by decide))
    rw [hall 8 (by omega) (by decide)] at hBx
    rw [hall 9 (by omega) (by decide)] at hBy
    have hv := fun i hi => hT.vals i hi (hall i (by omega) (by show i < 10; omega))
    rw [pc8 (by omega) (by omega) (by omega) hT.none_ hgx hgy (hv 0 (by omega)) (hv 1 (by omega)) (hv 2 (by omega)) (hv 3 (by omega)) (hv 4 (by omega)) (hv 5 (by omega)), HA1.out]
    have hbx := hT.below
    clear hv hall hr hT hgx hgy e5 e7 sz
    have HBx := Lib.hid hBx
    have HBy := Lib.hid hBy
    have HB7 := Lib.hid (HB6.out.below hbx HB6.out.lt)
    have HRef7 := Lib.hid (HRef6.out.below hbx)
    have Hb7 := bb Hb6 hbx
    clear hBx hBy hbx hgxl hgyl HB6 HRep6 HRef6 Hb6 HyS HzS HA1
    simp only [Act.put, List.setIfInBounds_toArray, List.set]
    obtain ⟨may, hmay⟩ : ∃ may : Bool, may = true ↔ sizeOk key.length := ⟨decide (key.length = 16 ∨ key.length = 24 ∨ key.length = 32), by simp [sizeOk]⟩
    have HMY := Lib.hid hmay
    clear hmay
    go_wp2_with fail
    refine (HOK.out.new_any wx A key cap hcap ((HR0.out.below Hb7.out).more Hb7.out.size) may HMY.out).mono ?_
    rintro e w8 ⟨p8, er, rfl, _, _, her0, hb8⟩
    have HBx8 := Lib.hid (HBx.out.below hb8 HBx.out.lt)
    have HBy8 := Lib.hid (HBy.out.below hb8 HBy.out.lt)
    have HB8 := Lib.hid (HB7.out.below hb8 HB7.out.lt)
    have HRef8 := Lib.hid (HRef7.out.below hb8)
    have Hb8 := bb Hb7 hb8
    have HER := Lib.hid her0
    clear hb8 her0 HBx HBy HB7 HRef7 Hb7
    go_wp2_with fail
    refine (refNew_any w8 A key cap hcap ((HR0.out.below Hb8.out).more Hb8.out.size) may HMY.out).mono ?_
    rintro e w9 ⟨p9, rfl, hb9⟩
    have HBx9 := Lib.hid (HBx8.out.below hb9 HBx8.out.lt).drew
    have HBy9 := Lib.hid (HBy8.out.below hb9 HBy8.out.lt).drew
    have HB9 := Lib.hid (HB8.out.below hb9 HB8.out.lt).drew
    have HRef9 := Lib.hid ((HRef8.out.below hb9).below (Below.refl _ w9).drew)
    have Hb9 := Lib.hid (bb Hb8 hb9).out.drew
    clear hb9 HBx8 HBy8 HB8 HRef8 Hb8
    go_wp2_with fail
    refine wp_region_G grows (by kernel_rfl) ?_
    generalize w9.drew = wa at HBx9 HBy9 HB9 HRef9 Hb9 ⊢
    refine oneG 0 25 rfl (by kernel_rfl) rfl ?_
    go_wp2_with fail
    refine (awake4_any HOK.out wa).mono ?_
    rintro e wb ⟨rfl, hb⟩
    have HBx := Lib.hid (HBx9.out.below hb HBx9.out.lt)
    have HBy := Lib.hid (HBy9.out.below hb HBy9.out.lt)
    have HB := Lib.hid (HB9.out.below hb HB9.out.lt)
    have HRef := Lib.hid (HRef9.out.below hb)
    have Hb := bb Hb9 hb
    have hxl : y.toList = u8s (encrypt K l) := by rw [HY.out]
    have hcx := string_later_rd (Rd.of_all (by rw [hxl] at HBx; exact HBx.out)) 16
    rw [encrypt_len] at hcx
    clear hxl
    go_wp2
    refine ⟨hb, ?_⟩
    clear hb HBx9 HBy9 HB9 HRef9 Hb9
    refine segG (by kernel_rfl) (fun _ _ _ _ _ h => h) [1, 2, 3, 4, 5] [_, _, _, _, _] 20 rfl rfl (by kernel_rfl) ?_
    repeat (go_big_quiet_step (fail))
    refine wpQuiet_nil ?_
    clear hcx
    refine oneG 6 19 rfl (by kernel_rfl) rfl ?_
    go_wp2_with fail
    refine (refEnc_at wb rc K HRef.out _ l 16 HL.out (Rd.of_all (by have := HB.out; rw [HX.out] at this; exact this))).mono ?_
    rintro e wd ⟨A1, c1, rfl, hr1, hb⟩
    have HBy1 := Lib.hid (HBy.out.below hb HBy.out.lt)
    have HB1 := Lib.hid (HB.out.below hb HB.out.lt)
    have HRef1 := Lib.hid (HRef.out.below hb)
    have Hb1 := bb Hb hb
    have hc1 := string_later_rd hr1 c1
    rw [encrypt_len] at hc1
    have hyl : z.toList = u8s (decrypt K l) := by rw [HZ.out]
    have hcy := string_later_rd (Rd.of_all (by rw [hyl] at HBy1; exact HBy1.out)) 16
    rw [decrypt_len] at hcy
    clear hyl hr1
    generalize (⟨(encrypt K l).toArray⟩ : ByteArray) = s1 at hc1 ⊢
    obtain ⟨s2, hs2⟩ : ∃ s2, (⟨(decrypt K l).toArray⟩ : ByteArray) = s2 := ⟨_, rfl⟩
    rw [hs2] at hcy
    have HS2 := Lib.hid hs2
    clear hs2
    go_wp2
    refine ⟨hb, ?_⟩
    clear hb HBx HBy HB HRef Hb
    refine segG (by kernel_rfl) (fun _ _ _ _ _ h => h) [7, 8, 9, 10, 11, 12, 13, 14] [_, _, _, _, _, _, _, _] 11 rfl rfl (by kernel_rfl) ?_
    repeat (go_big_quiet_step (fail))
    refine wpQuiet_nil ?_
    clear hc1 hcy
    refine oneG 15 10 rfl (by kernel_rfl) rfl ?_
    go_wp2_with fail
    refine (refDec_at wd rc K HRef1.out _ l 16 HL.out (Rd.of_all (by have := HB1.out; rw [HX.out] at this; exact this))).mono ?_
    rintro e we ⟨A2, c2, rfl, hr2, hb⟩
    have Hb2 := bb Hb1 hb
    have hc2 := string_later_rd hr2 c2
    rw [decrypt_len, HS2.out] at hc2
    have her := HER.out
    have hmm : (may == may) = true := by simp
    clear hr2
    go_wp2
    refine ⟨hb, ?_⟩
    clear hb HBy1 HB1 HRef1 Hb1
    refine segG (by kernel_rfl) (fun _ _ _ _ _ h => h) [16, 17, 18, 19, 20, 21, 22, 23, 24, 25] [_, _, _, _, _, _, _, _, _, _] 0 rfl rfl (by kernel_rfl) ?_
    repeat (go_big_quiet_step (fail))
    refine wpQuiet_nil ?_
    refine wpAnyG_done (by kernel_rfl) ?_
    go_wp2
    go_ret
    exact ⟨rfl, Hb2.out⟩
end Go.Proofs.Ytphlpedecnoooaa
