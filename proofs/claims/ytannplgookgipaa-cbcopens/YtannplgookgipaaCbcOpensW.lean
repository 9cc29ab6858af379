/-
  Layer 7: CbcOpens, walked from the contracts of cbc's functions.
-/
import Derived.Test.YtannplgookgipaaCbcAw
import Derived.Test.YtannplgookgipaaCbcRef
import Derived.RegionTactic
import Derived.BigRegion
namespace Go.Proofs.Ytannplgookgipaa
open Go.ChangeShapes Go.WideShapes Go.ChangeAt Go.RowKit Go.Gar Go.Gar.Aes

set_option maxHeartbeats 4000000 in
set_option maxRecDepth 100000 in
theorem cbcopens_walk (hOK : CbcOK) (K A : Option Addr) (key iv l b : List UInt8) (kc bc m : Nat) (x : Array Value) (w : World) (hx : x = (u8s iv).toArray) (hiv : iv.length = 16) (hkc : key.length ≤ kc) (hbc : l.length ≤ bc) (hbl : b.length = m) (hm : m = min l.length 200)
    (rK : Rd w w.heap.size K key) (rA : Rd w w.heap.size A b) :
    Calls Try.prog 4 #[.slice K key.length kc, .agg x, .slice A l.length bc] w fun e w' => e = .returned (.bool true) ∧ Below w.heap.size w w' := by
  have hm200 : m ≤ 200 := by omega
  have hmbc : m ≤ bc := by omega
  obtain ⟨E, hE⟩ : ∃ E : Int, E = ((openE key iv b : Nat) : Int) := ⟨_, rfl⟩
  obtain ⟨O, hO⟩ : ∃ O, O = openB key iv b := ⟨_, rfl⟩
  obtain ⟨n, hn⟩ : ∃ n, n = O.length := ⟨_, rfl⟩
  obtain ⟨kl, hkl⟩ : ∃ kl, kl = key.length := ⟨_, rfl⟩
  rw [← hkl] at hkc ⊢
  have HOK := Lib.hid hOK
  have HX := Lib.hid hx
  have HIV := Lib.hid hiv
  have HBL := Lib.hid hbl
  have HM := Lib.hid hm
  have HE := Lib.hid hE
  have HO := Lib.hid hO
  have HN := Lib.hid hn
  have HKL := Lib.hid hkl
  have HRK := Lib.hid rK
  have HRA := Lib.hid rA
  have HC := Lib.hid (show Blk (w.alloc (.cells x 23)) w.heap.size 23 x.toList from by
    have := Blk.new w 23 x.toList
    rw [Array.toArray_toList] at this
    exact this)
  have Hb := Lib.hid (below_alloc w (.cells x 23))
  clear hOK hx hiv hbl hm hE hO hn hkl rK rA
  go_enter Try.func4, Try.ntmps4
  go_wp2_with fail
  generalize w.alloc (.cells x 23) = w1 at HC Hb ⊢
  refine wp_region_G grows (by kernel_rfl) ?_
  have HC1 := Lib.hid HC.out.drew
  have Hb1 := Lib.hid Hb.out.drew
  clear HC Hb
  generalize w1.drew = w2 at HC1 Hb1 ⊢
  have HLD := Lib.hid (load16 iv x HX.out HIV.out HC1.out)
  refine segG (by kernel_rfl) (fun _ _ _ _ _ h => h) [0, 1, 2] [_, _, _] 7 rfl rfl (by kernel_rfl) ?_
  repeat (go_big_quiet_step (fail))
  refine wpQuiet_load_arr 23 (.tmp 4) rfl rfl x HLD.out (by kernel_rfl) ?_
  simp only [Act.put, List.setIfInBounds_toArray, List.set]
  repeat (go_big_quiet_step (fail))
  refine wpQuiet_nil ?_
  clear HLD
  refine oneG 3 6 rfl (by kernel_rfl) rfl ?_
  go_wp2_with fail
  refine (short7_any A l.length bc m w2 HM.out hbc).mono ?_
  rintro e w3 ⟨rfl, rfl⟩
  go_wp2
  refine ⟨grows.refl _, ?_⟩
  refine oneG 4 5 rfl (by kernel_rfl) rfl ?_
  go_wp2_with fail
  refine (open_at HOK.out w3 K A key iv b kl kc m bc x E O n HX.out HKL.out HBL.out.symm HE.out HO.out HN.out ((HRK.out.below Hb1.out).more Hb1.out.size) ((HRA.out.below Hb1.out).more Hb1.out.size) HIV.out hkc hmbc (by omega)).mono ?_
  rintro e w4 ⟨B4, c4, rfl, hc4, r4, hb4⟩
  have HR4 := Lib.hid r4
  have HC4 := Lib.hid (HC1.out.below hb4 HC1.out.lt)
  have Hb4 := bb Hb1 hb4
  clear r4 HC1 Hb1
  go_wp2
  refine ⟨hb4, ?_⟩
  clear hb4
  refine segG (by kernel_rfl) (fun _ _ _ _ _ h => h) [5, 6, 7, 8, 9] [_, _, _, _, _] 0 rfl rfl (by kernel_rfl) ?_
  repeat (go_big_quiet_step (fail))
  refine wpQuiet_nil ?_
  refine wpAnyG_done (by kernel_rfl) ?_
  go_wp2_with fail
  refine wp_region_G grows (by kernel_rfl) ?_
  have HC5 := Lib.hid HC4.out.drew
  have Hb5 := Lib.hid Hb4.out.drew
  have HR5 : Hid (Rd w4.drew w4.drew.heap.size B4 O) := Lib.hid HR4.out
  clear HC4 Hb4 HR4
  generalize w4.drew = w5 at HC5 Hb5 HR5 ⊢
  refine segG (by kernel_rfl) (fun _ _ _ _ _ h => h) [0, 1, 2] [_, _, _] 7 rfl rfl (by kernel_rfl) ?_
  repeat (go_big_quiet_step (fail))
  refine wpQuiet_nil ?_
  refine oneG 3 6 rfl (by kernel_rfl) rfl ?_
  go_wp2_with fail
  refine (short7_any A l.length bc m w5 HM.out hbc).mono ?_
  rintro e w6 ⟨rfl, rfl⟩
  go_wp2
  refine ⟨grows.refl _, ?_⟩
  refine oneG 4 5 rfl (by kernel_rfl) rfl ?_
  go_wp2_with fail
  have hV : Rd w6 w6.heap.size (some ⟨w.heap.size, 0, none⟩) iv := by
    have h := HC5.out
    rw [HX.out, List.toList_toArray] at h
    exact Rd.of_all h
  have href := refOpen_any w6 K _ A key iv b kl kc 16 m bc HKL.out HBL.out.symm hkc hmbc HIV.out ((HRK.out.below Hb5.out).more Hb5.out.size) hV ((HRA.out.below Hb5.out).more Hb5.out.size) (by rw [HBL.out]; omega)
  rw [← HO.out, ← HE.out] at href
  refine href.mono ?_
  clear href hV
  rintro e w7 ⟨v7, rfl, ⟨B7, c7, rfl, hc7, r7⟩, hb7⟩
  rw [← HN.out]
  have HR7 := Lib.hid r7
  have HR8 := Lib.hid ((HR5.out.below hb7).more hb7.size)
  have Hb7 := bb Hb5 hb7
  clear r7 HC5 Hb5 HR5 hc7
  go_wp2
  refine ⟨hb7, ?_⟩
  clear hb7
  refine segG (by kernel_rfl) (fun _ _ _ _ _ h => h) [5, 6, 7, 8, 9] [_, _, _, _, _] 0 rfl rfl (by kernel_rfl) ?_
  repeat (go_big_quiet_step (fail))
  refine wpQuiet_nil ?_
  refine wpAnyG_done (by kernel_rfl) ?_
  go_wp2_with fail
  refine (awake7_any HOK.out w7).mono ?_
  rintro e w8 ⟨rfl, hb8⟩
  have Hb8 := bb Hb7 hb8
  have hs1 := string_later_rd ((HR8.out.below hb8).more hb8.size) c4 ⟨w8, grows.refl _⟩
  have hs2 := string_later_rd ((HR7.out.below hb8).more hb8.size) c7 ⟨w8, grows.refl _⟩
  rw [← HN.out] at hs1 hs2
  simp only at hs1 hs2
  clear hb8 HR7 HR8 Hb7
  go_wp2
  go_ret
  exact ⟨by simp, Hb8.out⟩
end Go.Proofs.Ytannplgookgipaa
