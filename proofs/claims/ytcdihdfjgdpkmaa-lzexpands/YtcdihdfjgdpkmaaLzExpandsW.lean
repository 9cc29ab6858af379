/-
  Layer 11: LzExpands, walked from the contract of lz's functions.
-/
import Derived.Test.YtcdihdfjgdpkmaaLzAw
import Derived.Test.YtcdihdfjgdpkmaaReg2
set_option maxRecDepth 100000
namespace Go.Proofs.Ytcdihdfjgdpkmaa
open Go.RowKit Go.Gar

theorem few11_any (A : Option Addr) (len cap m : Nat) (w : World) (hm : m = min len 60) (hc : len ≤ cap) :
    Calls Try.prog 13 #[.slice A len cap] w fun e w' => e = .returned (.slice A m cap) ∧ w' = w := by
  by_cases h : len ≤ 60
  · obtain rfl : m = len := by omega
    clear hm
    go_enter Try.func13, Try.ntmps13
    go_wp2
    go_ret
    exact ⟨rfl, rfl⟩
  · obtain rfl : m = 60 := by omega
    clear hm
    go_enter Try.func13, Try.ntmps13
    go_wp2
    go_ret
    exact ⟨rfl, rfl⟩
theorem load_T_later {w : World} {g : Nat} {t : Tv} (h : Blk w g 30 t.cells) : ∀ W : Later grows w, (Instr.loadAt 30 (.pointer (some ⟨g, 0, none⟩))).run Try.prog W.to = .ok (.agg t.cells.toArray) W.to := by
  intro W
  have hx : Below w.heap.size w W.to := W.grown
  have := load_T0 (h.below hx h.lt)
  simp only [Instr.loadAt, Instr.sureAddr, Sem.run_bind, Sem.run_pure, Result.andThen]
  exact this

set_option maxHeartbeats 2000000 in
theorem lzexpands_walk {G : World → Prop} (hOK : LzOK G) (A : Option Addr) (us : List Tv) (t : Tv) (n c m : Nat) (most : Int) (w : World) (hG : G w) (hc : n ≤ c) (hm : m = min n 60) (hul : us.length = m) (hr : RdT w w.heap.size A us) (hmo : isI64 most) (hi : ∀ x ∈ us, isI64 x.n ∧ isI64 x.d) (ht : isI64 t.n ∧ isI64 t.d) :
    Calls Try.prog 4 #[.slice A n c, .int .i64 most, .agg t.cells.toArray] w fun e w' => e = .returned (.bool true) ∧ Below w.heap.size w w' := by
  have hm60 : m ≤ 60 := by omega
  have hmc : m ≤ c := by omega
  have hB0 := Blk.new w 30 t.cells
  have hb0 := below_alloc w (.cells t.cells.toArray 30)
  obtain ⟨w0, hw0⟩ : ∃ w0, w.alloc (.cells t.cells.toArray 30) = w0 := ⟨_, rfl⟩
  rw [hw0] at hB0 hb0
  obtain ⟨E, hE⟩ : ∃ E, (Lz.expand (us.map Tv.tok) most).1 = E := ⟨_, rfl⟩
  obtain ⟨O, hO⟩ : ∃ O, (Lz.expand (us.map Tv.tok) most).2 = O := ⟨_, rfl⟩
  obtain ⟨on, hon⟩ : ∃ on, on = O.length := ⟨_, rfl⟩
  have HOK := Lib.hid hOK
  have HG := Lib.hid hG
  have HM := Lib.hid hm
  have HUl := Lib.hid hul
  have HR := Lib.hid hr
  have HMo := Lib.hid hmo
  have HI := Lib.hid hi
  have HTi := Lib.hid ht
  have HW0 := Lib.hid hw0
  have HB0 := Lib.hid hB0
  have Hb0 := Lib.hid hb0
  have HE := Lib.hid hE
  have HO := Lib.hid hO
  have HOn := Lib.hid hon
  clear hOK hG hm hul hr hmo hi ht hw0 hB0 hb0 hE hO hon
  go_enter Try.func4, Try.ntmps4
  go_wp2_with (refine wpList_box_arr rfl 30 (.tmp 2) t.cells.toArray rfl rfl ?_; rw [HW0.out])
  refine (few11_any A n c m w0 HM.out hc).mono ?_
  rintro e w1 ⟨rfl, rfl⟩
  go_wp2_with fail
  refine (lzE_at HOK.out w1 A us m c most (E : Int) O on (HOK.out.keep HG.out Hb0.out) HUl.out.symm ((HR.out.below Hb0.out).more Hb0.out.size) hmc (by omega) HMo.out HI.out (by rw [HE.out]) HO.out.symm HOn.out).mono ?_
  rintro e w2 ⟨A2, c2, rfl, hc2, hr2, hb2⟩
  have HR2 := Lib.hid hr2
  have Hb2 := bb Hb0 hb2
  have HB2 := Lib.hid (HB0.out.below hb2 HB0.out.lt)
  clear hr2 hb2 HB0 Hb0 HW0
  go_wp2_with fail
  refine (few11_any A n c m w2 HM.out hc).mono ?_
  rintro e w3 ⟨rfl, rfl⟩
  go_wp2_with fail
  refine (refExpand_any A us m c most w3 HUl.out.symm ((HR.out.below Hb2.out).more Hb2.out.size) (by omega) E O (Prod.ext HE.out HO.out)).mono ?_
  rintro e w4 ⟨v4, rfl, hO4, hb4⟩
  obtain ⟨A4, c4, rfl, hr4⟩ := hO4.rd
  have HR4 := Lib.hid hr4
  have HR24 := Lib.hid ((HR2.out.below hb4).more hb4.size)
  have Hb4 := bb Hb2 hb4
  have HB4 := Lib.hid (HB2.out.below hb4 HB2.out.lt)
  rw [← HOn.out]
  clear hO4 hr4 hb4 HR2 Hb2 HB2
  obtain ⟨gt, hgt⟩ : ∃ g, w.heap.size = g := ⟨_, rfl⟩
  have HB4' : Hid (Blk w4 gt 30 t.cells) := Lib.hid (by rw [← hgt]; exact HB4.out)
  go_wp2_with fail
  refine wp_region_G grows (by kernel_rfl) ?_
  have HR4d : Hid (Rd w4.drew w4.drew.heap.size A4 O) := Lib.hid HR4.out
  have HR24d : Hid (Rd w4.drew w4.drew.heap.size A2 O) := Lib.hid HR24.out
  have Hb4d := Lib.hid Hb4.out.drew
  have HB4d := Lib.hid HB4'.out.drew
  clear HR4 HR24 Hb4 HB4 HB4' hgt
  generalize w4.drew = w5 at *
  refine oneG 0 20 rfl (by kernel_rfl) rfl ?_
  go_wp2_with fail
  refine (awake11_any HOK.out w5 (HOK.out.keep HG.out Hb4d.out)).mono ?_
  rintro e w6 ⟨rfl, hb6⟩
  have Hb6 := bb Hb4d hb6
  have HB6 := Lib.hid (HB4d.out.below hb6 HB4d.out.lt)
  have hs1 := string_later_rd ((HR24d.out.below hb6).more hb6.size) c2
  have hs2 := string_later_rd ((HR4d.out.below hb6).more hb6.size) c4
  rw [← HOn.out] at hs1 hs2
  obtain ⟨S, hS⟩ : ∃ S : ByteArray, (⟨O.toArray⟩ : ByteArray) = S := ⟨_, rfl⟩
  rw [hS] at hs1 hs2
  have hld := load_T_later HB6.out
  clear hS HR4d HR24d Hb4d HB4d
  go_wp2
  refine ⟨hb6, ?_⟩
  clear hb6
  refine segG (by kernel_rfl) (fun _ _ _ _ _ h => h) [1, 2, 3, 4, 5, 6, 7, 8, 9, 10, 11, 12, 13] [_, _, _, _, _, _, _, _, _, _, _, _, _] 7 rfl rfl (by kernel_rfl) ?_
  repeat (go_big_quiet_step (fail))
  refine wpQuiet_nil ?_
  refine segG (by kernel_rfl) (fun _ _ _ _ _ h => h) [14, 16] [_, _] 5 rfl rfl (by kernel_rfl) ?_
  refine wpQuiet_load_arr 30 (.tmp 5) rfl rfl t.cells.toArray hld (by kernel_rfl) ?_
  simp only [Act.put, List.setIfInBounds_toArray, List.set]
  refine wpQuiet_load_arr 30 (.tmp 5) rfl rfl t.cells.toArray hld (by kernel_rfl) ?_
  simp only [Act.put, List.setIfInBounds_toArray, List.set]
  refine wpQuiet_nil ?_
  clear hs1 hs2 hld
  obtain ⟨z, hz⟩ : ∃ z, z = Lz.good t.tok := ⟨_, rfl⟩
  have HZ := Lib.hid hz
  clear hz
  refine oneG 15 4 rfl (by kernel_rfl) rfl ?_
  go_wp2_with fail
  refine (lzG_at HOK.out w6 t z HZ.out (HOK.out.keep HG.out Hb6.out) HTi.out.1 HTi.out.2).mono ?_
  rintro e w7 ⟨rfl, hb7⟩
  have Hb7 := bb Hb6 hb7
  go_wp2
  refine ⟨hb7, ?_⟩
  clear hb7
  refine oneG 17 3 rfl (by kernel_rfl) rfl ?_
  go_wp2_with fail
  refine (refGood_any t w7 z HZ.out).mono ?_
  rintro e w8 ⟨rfl, hb8⟩
  have Hb8 := bb Hb7 hb8
  go_wp2
  refine ⟨hb8, ?_⟩
  clear hb8 HZ
  have hzz : (z == z) = true := by simp
  refine segG (by kernel_rfl) (fun _ _ _ _ _ h => h) [18, 19, 20] [_, _, _] 0 rfl rfl (by kernel_rfl) ?_
  repeat (go_big_quiet_step (fail))
  refine wpQuiet_nil ?_
  refine wpAnyG_done (by kernel_rfl) ?_
  go_wp2
  go_ret
  exact ⟨by simp, Hb8.out⟩
end Go.Proofs.Ytcdihdfjgdpkmaa
