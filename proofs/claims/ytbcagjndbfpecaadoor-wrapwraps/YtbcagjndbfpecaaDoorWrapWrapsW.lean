/-
  Layer 8: WrapWraps, walked from the contracts of wrap's functions.
-/
import Derived.Test.YtbcagjndbfpecaaDoorWrapAx
import Derived.Test.YtbcagjndbfpecaaDoorWrapRV
namespace Go.Proofs.YtbcagjndbfpecaaDoor
open Go.ChangeShapes Go.WideShapes Go.ChangeAt Go.RowKit Go.Gar Go.Gar.Aes

set_option maxHeartbeats 4000000 in
set_option maxRecDepth 100000 in
theorem wrapwraps_walk {G : World → Prop} (hOK : WrapOK G) (K A : Option Addr) (key l b : List UInt8) (kc bc m : Nat) (w : World) (hG : G w) (hkc : key.length ≤ kc) (hbc : l.length ≤ bc) (hbl : b.length = m) (hm : m = min l.length 300)
    (rK : Rd w w.heap.size K key) (rA : Rd w w.heap.size A b) :
    Calls Tryd.prog 3 #[.slice K key.length kc, .slice A l.length bc] w fun e w' => e = .returned (.bool true) ∧ Below w.heap.size w w' := by
  have hm300 : m ≤ 300 := by omega
  have hmbc : m ≤ bc := by omega
  obtain ⟨E, hE⟩ : ∃ E : Int, E = ((wrapE key b : Nat) : Int) := ⟨_, rfl⟩
  obtain ⟨O, hO⟩ : ∃ O, O = wrapB key b := ⟨_, rfl⟩
  obtain ⟨n, hn⟩ : ∃ n, n = O.length := ⟨_, rfl⟩
  obtain ⟨kl, hkl⟩ : ∃ kl, kl = key.length := ⟨_, rfl⟩
  rw [← hkl] at hkc ⊢
  have HOK := Lib.hid hOK
  have HG := Lib.hid hG
  have HBL := Lib.hid hbl
  have HM := Lib.hid hm
  have HE := Lib.hid hE
  have HO := Lib.hid hO
  have HN := Lib.hid hn
  have HKL := Lib.hid hkl
  have HRK := Lib.hid rK
  have HRA := Lib.hid rA
  clear hOK hG hbl hm hE hO hn hkl rK rA
  go_enter Tryd.func3, Tryd.ntmps3
  go_wp2_with fail
  refine (short8_any A l.length bc m w HM.out hbc).mono ?_
  rintro e w0 ⟨rfl, rfl⟩
  go_wp2_with fail
  refine (wrap_at HOK.out w0 K A key b kl kc m bc E O n HG.out HKL.out HBL.out.symm HE.out HO.out HN.out HRK.out HRA.out hkc hmbc (by omega)).mono ?_
  rintro e w4 ⟨B4, c4, rfl, hc4, r4, hb4⟩
  have HR4 := Lib.hid r4
  have Hb4 := Lib.hid hb4
  clear r4 hb4
  go_wp2_with fail
  refine (short8_any A l.length bc m w4 HM.out hbc).mono ?_
  rintro e w5 ⟨rfl, rfl⟩
  go_wp2_with fail
  refine (refWrap_any w5 K A key b kl kc m bc E O HKL.out HBL.out.symm HE.out HO.out hkc (by omega) ((HRK.out.below Hb4.out).more Hb4.out.size) ((HRA.out.below Hb4.out).more Hb4.out.size)).mono ?_
  rintro e w7 ⟨v7, rfl, ⟨B7, c7, rfl, hc7, r7⟩, hb7⟩
  rw [← HN.out]
  have HR7 := Lib.hid r7
  have HR8 := Lib.hid ((HR4.out.below hb7).more hb7.size)
  have Hb7 := bb Hb4 hb7
  clear r7 hc7 HR4 Hb4 hb7
  go_wp2_with fail
  refine (awake8_any HOK.out w7 (HOK.out.keep HG.out Hb7.out)).mono ?_
  rintro e w8 ⟨rfl, hb8⟩
  have Hb8 := bb Hb7 hb8
  have hs1 := string_later_rd ((HR8.out.below hb8).more hb8.size) c4 ⟨w8, grows.refl _⟩
  have hs2 := string_later_rd ((HR7.out.below hb8).more hb8.size) c7 ⟨w8, grows.refl _⟩
  rw [← HN.out] at hs1 hs2
  simp only at hs1 hs2
  clear hb8 HR7 HR8 Hb7
  go_wp2
  go_ret
  exact ⟨by simp, Hb8.out⟩
end Go.Proofs.YtbcagjndbfpecaaDoor
