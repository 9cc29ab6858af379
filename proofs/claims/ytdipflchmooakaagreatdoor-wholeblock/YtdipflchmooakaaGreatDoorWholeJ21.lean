/-
  The landed wrap: backward: its contract. The landed wrap: slices.Grow of nil, slices.Concat of two; Wrap: its contract.
-/
import Derived.Test.YtdipflchmooakaaGreatDoorWholeJ01
import Derived.Test.YtdipflchmooakaaGreatDoorWholeJ07
import Derived.Test.YtdipflchmooakaaGreatDoorWholeJ05
import Derived.Test.YtdipflchmooakaaGreatDoorWholeJ02
import Derived.Test.YtdipflchmooakaaGreatDoorWholeJ06
import Derived.Test.YtdipflchmooakaaGreatDoorWholeJ09
import Derived.Test.YtdipflchmooakaaGreatDoorWholeJ13
import Derived.Test.YtdipflchmooakaaGreatDoorWholeJ08
import Derived.Test.YtdipflchmooakaaGreatDoorWholeJ14
import Derived.Test.YtdipflchmooakaaGreatDoorWholeJ16
import Derived.Test.YtdipflchmooakaaGreatDoorWholeJ19
import Derived.Test.YtdipflchmooakaaGreatDoorWholeJ20
import Derived.BigRegion
import Derived.Deep.CutRange
import Derived.RegionTactic
set_option maxRecDepth 100000
namespace Go.Proofs.YtdipflchmooakaaGreatDoor
open Go.RowKit Go.Gar Go.Gar.Aes

set_option maxHeartbeats 4000000 in
set_option maxRecDepth 100000 in
theorem backward_any (w : World) (gc : Nat) (key a b : List UInt8) (A : Option Addr) (n L bc : Nat) (hs : sizeOk key.length) (hRep : Rep w gc key) (ha : a.length = 8) (hL : L = b.length) (hn : L = 8 * n) (h1 : 1 ≤ n) (h32 : n ≤ 32) (hr : Rd w w.heap.size A b)
    (Z : List UInt8 × List UInt8) (hZ : Z = Wrp.bw key n (a, b) (6 * n) (6 * n)) :
    Calls Tryz.prog 27 #[.pointer (some ⟨gc, 0, none⟩), .agg (u8s a).toArray, .slice A L bc] w fun e w' => ∃ g cp rest, e = .returned (.tuple #[.agg (u8s Z.1).toArray, .slice (some ⟨g, 0, none⟩) L cp]) ∧ L ≤ cp ∧ Blk w' g 5 (u8s Z.2 ++ rest) ∧ Below w.heap.size w w' := by
  obtain ⟨g, hg⟩ : ∃ g, w.heap.size = g := ⟨_, rfl⟩
  have hA1 := Blk.new w 55 (u8s a)
  have hb1 := below_alloc w (.cells (u8s a).toArray 55)
  have hs1 : (w.alloc (.cells (u8s a).toArray 55)).heap.size = w.heap.size + 1 := World.size_alloc _ _
  obtain ⟨w1, hw1⟩ : ∃ w1, w.alloc (.cells (u8s a).toArray 55) = w1 := ⟨_, rfl⟩
  rw [hw1] at hA1 hb1 hs1
  have hA2 := hA1.alloc (.cells zr8.toArray 55)
  have hO2 := Blk.new w1 55 zr8
  have hb2 := hb1.alloc hb1.size (.cells zr8.toArray 55)
  have hs2 : (w1.alloc (.cells zr8.toArray 55)).heap.size = w1.heap.size + 1 := World.size_alloc _ _
  obtain ⟨w2, hw2⟩ : ∃ w2, w1.alloc (.cells zr8.toArray 55) = w2 := ⟨_, rfl⟩
  rw [hw2] at hA2 hO2 hb2 hs2
  have hcl := cloneW_any w2 A b L bc hL (by omega) (by omega) ((hr.below hb2).more hb2.size)
  have HCl := Lib.hid hcl
  have HW1 := Lib.hid hw1
  have HW2 := Lib.hid hw2
  have HA2 := Lib.hid hA2
  have HO2 := Lib.hid hO2
  have Hb2 := Lib.hid hb2
  have HSz : Hid (w.heap.size = g ∧ w1.heap.size = g + 1 ∧ w2.heap.size = g + 1 + 1) := Lib.hid (by omega)
  have HRep := Lib.hid hRep
  have HS := Lib.hid hs
  have HL := Lib.hid hL
  have HN := Lib.hid hn
  have Ha := Lib.hid ha
  have HZ := Lib.hid hZ
  clear hA1 hb1 hs1 hw1 hA2 hO2 hb2 hs2 hw2 hcl hRep hs hL hn ha hZ hr
  go_enter Tryz.func27, Tryz.ntmps27
  go_wp2_with (first | (refine wpList_box_arr rfl 55 (.tmp 1) (u8s a).toArray rfl rfl ?_; rw [HW1.out]) | (refine wpList_alloc_arr rfl 55 zr8.toArray rfl zeroR8 ?_; rw [HW2.out]) | fail)
  refine HCl.out.mono ?_
  rintro e w3 ⟨gR, cp, rest, rfl, hcp, hgR, hR3, hb3⟩
  have hz := HSz.out
  have hW3 : Wq w w3 g (g + 1) gR a b rest := ⟨by have := HA2.out.below hb3 HA2.out.lt; rw [hz.1] at this; exact this, by have := HO2.out.below hb3 HO2.out.lt; rw [hz.2.1] at this; exact this, hR3, Hb2.out.trans (hb3.mono Hb2.out.size)⟩
  have HW3 := Lib.hid hW3
  have HCp := Lib.hid hcp
  have HgR : Hid (g + 1 + 1 ≤ gR) := Lib.hid (by omega)
  have Hg := Lib.hid hz.1
  clear hg hW3 hcp hgR hR3 hb3 HSz HA2 HO2 Hb2 HW1 HW2 HCl
  have hq8 : wrap64 ((L : Int) / 8) = (n : Int) := by
    have := HN.out
    rw [wrap64]
    omega
  go_wp2
  rw [hq8]
  clear hq8 hz
  go_loopw [19] (fun i w' => ∃ k : Nat, k ≤ 6 ∧ i = .int .i64 (k : Int) ∧ Wq w w' g (g + 1) gR (Wrp.bw key n (a, b) (6 * n) (k * n)).1 (Wrp.bw key n (a, b) (6 * n) (k * n)).2 rest) (fun i _ => 6 - (intOf i).toNat)
  case atStart => exact ⟨0, by omega, rfl, by rw [Nat.zero_mul]; exact HW3.out⟩
  case round =>
    obtain ⟨k, hk, rfl, hW⟩ := hrel
    clear HW3
    have HW := Lib.hid hW
    clear hW
    by_cases hlt : k < 6
    · have hlt2 : (k : Int) < 6 := by omega
      obtain ⟨m, hme⟩ : ∃ m, k * n = m := ⟨_, rfl⟩
      obtain ⟨q, hqe⟩ : ∃ q, (6 - k) * n = q := ⟨_, rfl⟩
      have h6k : (6 : Int) - (k : Int) = ((6 - k : Nat) : Int) := by omega
      have hqn : ((6 - k : Nat) : Int) * (n : Int) = (q : Int) := by rw [← hqe]; exact (Int.natCast_mul _ _).symm
      have hmq : m + q = 6 * n := by rw [← hme, ← hqe, ← Nat.add_mul]; congr 1; omega
      have hqn2 : n ≤ q := by rw [← hqe]; exact Nat.le_mul_of_pos_left n (by omega)
      have HKN : Hid (m + n = (k + 1) * n) := Lib.hid (by rw [← hme, Nat.add_mul, Nat.one_mul])
      have hmod : ∀ j, j < n → (6 * n - 1 - (m + j)) % n = n - 1 - j := fun j h => by
        have e1 : 6 * n - 1 - (m + j) = n * (5 - k) + (n - 1 - j) := by
          have : n * (5 - k) + n = q := by rw [← hqe, Nat.mul_comm n, ← Nat.succ_mul]; congr 1; omega
          omega
        rw [e1, Nat.mul_add_mod]
        exact Nat.mod_eq_of_lt (by omega)
      have HMod := Lib.hid hmod
      have HMQ := Lib.hid hmq
      have hqb : q ≤ 192 := by omega
      have hmb : m ≤ 192 := by omega
      clear hmod
      rw [hme] at HW
      generalize 6 - k = kk at h6k hqn hqe
      clear hmq hqe
      clear hme
      go_wp2
      go_loopw [23] (fun i w' => ∃ j : Nat, j ≤ n ∧ i = .int .i64 (j : Int) ∧ Wq w w' g (g + 1) gR (Wrp.bw key n (a, b) (6 * n) (m + j)).1 (Wrp.bw key n (a, b) (6 * n) (m + j)).2 rest) (fun i _ => n - (intOf i).toNat)
      case atStart => exact ⟨0, by omega, rfl, HW.out⟩
      case round =>
        obtain ⟨j, hj, rfl, hW⟩ := hrel
        clear HW
        by_cases hjn : j < n
        · have hok := Wrp.bw_ok (key := key) (n := n) (by omega) (s := (a, b)) ⟨Ha.out, by show b.length = _; rw [← HL.out, HN.out]⟩ (6 * n) (m + j)
          have hst : Wrp.bw key n (a, b) (6 * n) (m + (j + 1)) = Wrp.back key n (6 * n - 1 - (m + j)) (Wrp.bw key n (a, b) (6 * n) (m + j)) := rfl
          have ht : 6 * n - 1 - (m + j) + 1 = q - j := by have := HMQ.out; omega
          rw [Wrp.back, HMod.out j hjn, ht] at hst
          clear ht
          obtain ⟨i, hi⟩ : ∃ i, n - 1 - j = i := ⟨_, rfl⟩
          have hni : (n : Int) - 1 - (j : Int) = (i : Int) := by omega
          obtain ⟨t, ht⟩ : ∃ t, q - j = t := ⟨_, rfl⟩
          have hqt : (q : Int) - (j : Int) = (t : Int) := by omega
          have htb : t ≤ 192 := by omega
          rw [hi, ht] at hst
          have hin : i < n := by omega
          clear hi ht
          generalize Wrp.bw key n (a, b) (6 * n) (m + j) = st at hW hok hst
          obtain ⟨x, r⟩ := st
          obtain ⟨hx, hrl⟩ := hok
          simp only at hW hx hrl hst
          obtain ⟨y, hy⟩ : ∃ y, Wrp.b8 r i = y := ⟨_, rfl⟩
          have hyl : y.length = 8 := by rw [← hy]; exact Wrp.b8_len _ _ (by omega)
          obtain ⟨z, hz⟩ : ∃ z, decrypt key (Wrp.xt x t ++ y) = z := ⟨_, rfl⟩
          have hzl : z.length = 16 := by rw [← hz]; exact decrypt_len _ _
          rw [hy, hz] at hst
          have HST := Lib.hid hst
          have HX := Lib.hid hx
          have HRl := Lib.hid hrl
          have HY := Lib.hid hyl
          have HYE := Lib.hid hy
          have HZE := Lib.hid hz
          have HZl := Lib.hid hzl
          have HQ0 := Lib.hid hW
          have hj2 : (j : Int) < (n : Int) := by omega
          have hjL : (i : Int) * 8 + 8 ≤ (L : Int) := by have := HN.out; omega
          have hcp8 : (L : Int) ≤ (cp : Int) := by have := HCp.out; omega
          clear hst hx hrl hy hyl hz hzl hW
          go_wp2
          refine wp_region_G grows (by kernel_rfl) ?_
          have HQ1 := Lib.hid (HQ0.out.below (Below.refl _ wr).drew)
          clear HQ0
          generalize wr.drew = W1 at *
          have qa := load_arr_later (P := Tryz.prog) Tryz.und8 (by simpa using sizeA8 x HX.out) HQ1.out.a
          have qy : ∀ V : Later grows W1, (loadVar 55 ⟨gR, i * 8, none⟩).run Tryz.prog V.to = .ok (.agg (u8s y).toArray) V.to := fun V => load_at8 (HQ1.out.r.below V.grown HQ1.out.r.lt) HY.out (fun u v hv => by rw [Nat.mul_comm i 8]; exact part_get r rest i y HYE.out.symm (by have := HRl.out; omega) u v hv)
          have qp := fun V => run_arr8 gR (i * 8) (L - i * 8) (cp - i * 8) (by have := HN.out; omega) V
          refine segG (by kernel_rfl) (fun _ _ _ _ _ h => h) [0, 1, 2, 3, 4, 5, 6, 7, 9] [_, _, _, _, _, _, _, _, _] 7 rfl rfl (by kernel_rfl) ?_
          repeat (go_big_quiet_step (fail))
          refine wpQuiet_load_arr 55 (.tmp 4) rfl rfl (u8s x).toArray qa (by kernel_rfl) ?_
          simp only [Act.put, List.setIfInBounds_toArray, List.set]
          repeat (go_big_quiet_step (fail))
          refine wpQuiet_nil ?_
          refine firstG_arrayAt 55 (.tmp 42) (i := 10) (n := 6) (by kernel_rfl) (fun _ _ _ _ _ h => h) rfl rfl (by kernel_rfl) rfl rfl qp (by kernel_rfl) ?_
          simp only [Act.put, List.setIfInBounds_toArray, List.set]
          refine segG (by kernel_rfl) (fun _ _ _ _ _ h => h) [11] [_] 5 rfl rfl (by kernel_rfl) ?_
          refine wpQuiet_load_at 55 (.tmp 43) rfl rfl (u8s y).toArray qy (by kernel_rfl) ?_
          simp only [Act.put, List.setIfInBounds_toArray, List.set]
          refine wpQuiet_nil ?_
          clear qa qy qp
          refine twoG 8 14 4 rfl (by kernel_rfl) rfl rfl ?_ ?_
          · skip
            go_wp2_with fail
            refine (counted_any W1 x _ t _ rfl rfl HX.out (by omega)).mono ?_
            rintro e W2 ⟨rfl, hb⟩
            have HQ2 := Lib.hid (HQ1.out.below hb)
            clear HQ1
            go_wp2
            refine ⟨hb, ?_⟩
            clear hb
            refine twoG 12 14 3 rfl (by kernel_rfl) rfl rfl ?_ ?_
            · skip
              go_wp2_with fail
              refine (joinedW_any W2 (Wrp.xt x t) y _ _ rfl rfl (by rw [Wrp.xt_len]; exact HX.out) HY.out).mono ?_
              rintro e W3 ⟨rfl, hb⟩
              have HQ3 := Lib.hid (HQ2.out.below hb)
              clear HQ2
              go_wp2
              refine ⟨hb, ?_⟩
              clear hb
              refine twoG 13 14 2 rfl (by kernel_rfl) rfl rfl ?_ ?_
              · skip
                go_wp2_with fail
                refine (aesOK.dec W3 gc key (Wrp.xt x t ++ y) HS.out (aesOK.stay HRep.out (by have := HQ3.out.b; exact this)) (by rw [List.length_append, Wrp.xt_len, HX.out, HY.out])).mono ?_
                rintro e W4 ⟨rfl, hb⟩
                rw [HZE.out]
                have HQ4 := Lib.hid (HQ3.out.below hb)
                clear HQ3
                go_wp2
                refine ⟨hb, ?_⟩
                clear hb
                refine oneG 14 1 rfl (by kernel_rfl) rfl ?_
                go_wp2_with (refine wpList_alloc_arr rfl 32 zr16.toArray rfl zeroR16 ?_)
                refine ⟨below_alloc W4 _, ?_⟩
                have HB5 := Lib.hid (Blk.new W4 32 zr16)
                have HQ5 := Lib.hid (HQ4.out.below (below_alloc W4 (.cells zr16.toArray 32)))
                obtain ⟨gX, hgX⟩ : ∃ gX, W4.heap.size = gX := ⟨_, rfl⟩
                have HGX : Hid (g < gX ∧ g + 1 < gX ∧ gR < gX) := Lib.hid (by have h1 := HQ4.out.a.lt; have h2 := HQ4.out.o.lt; have h3 := HQ4.out.r.lt; rw [hgX] at h1 h2 h3; exact ⟨h1, h2, h3⟩)
                rw [hgX] at HB5 ⊢
                clear HQ4 hgX
                generalize W4.alloc (.cells zr16.toArray 32) = W5 at *
                simp only [Act.put, List.setIfInBounds_toArray, List.set]
                refine lateG 15 0 rfl (by kernel_rfl) (by kernel_rfl) rfl ?_
                have HSz := Lib.hid (sizeA16 z HZl.out)
                have HLn : Hid (zr16.length = (u8s z).length) := Lib.hid (by rw [u8s_len, HZl.out]; rfl)
                have HQ6 := Lib.hid (HQ5.out.setX gX (u8s z).toArray ⟨by have := HGX.out; omega, by have := HGX.out; omega, by have := HGX.out; omega, by have := HGX.out; have := Hg.out; omega⟩)
                have HB6 := Lib.hid (HB5.out.row (u8s z))
                obtain ⟨W6, hW6⟩ : ∃ W6, W5.setRow gX (u8s z).toArray = W6 := ⟨_, rfl⟩
                rw [hW6] at HQ6 HB6
                have HW6 := Lib.hid hW6
                clear hW6 HQ5
                go_wp2_with (refine wpList_store_arr rfl 32 (.tmp 13) (.tmp 46) gX zr16 (u8s z) rfl rfl rfl rfl HB5.out HSz.out HLn.out (u8s_one _) ?_; rw [HW6.out])
                refine ⟨trivial, ?_⟩
                refine wpAnyG_done (by kernel_rfl) ?_
                clear HW6 HB5 HSz HLn
                have hld := load_at8 (o := 0) HB6.out (x := z.take 8) (Wrp.half1 z HZl.out) (fun i v hv => by
                  have h1 : (u8s (z.take 8))[i]? = some v := hv
                  rw [← u8s_take, List.getElem?_take] at h1
                  split at h1
                  · rw [Nat.zero_add]; exact h1
                  · cases h1)
                have hat := run_arr8 gX 0 8 16 (by omega) W6
                have HH := Lib.hid (Wrp.half1 z HZl.out)
                generalize z.take 8 = zh at *
                have hdd : g + 1 ≠ g ∧ gR ≠ g ∧ w.heap.size ≤ g := ⟨by omega, by have := HgR.out; omega, by have := Hg.out; omega⟩
                have hQ7 := HQ6.out.setA zh hdd
                have hB7 := HB6.out.rowFar (g' := g) (by have := HGX.out; omega) (u8s zh).toArray
                obtain ⟨X, hX⟩ : ∃ X, zh = X := ⟨_, rfl⟩
                have hXl : X.length = 8 := by rw [← hX]; exact HH.out
                rw [hX] at hQ7 hB7 hld HST
                clear HH
                have HSz := Lib.hid (sizeA8 X hXl)
                have HLn : Hid ((u8s x).length = (u8s X).length) := Lib.hid (by rw [u8s_len, u8s_len, HX.out, hXl])
                obtain ⟨W7, hW7⟩ : ∃ W7, W6.setRow g (u8s X).toArray = W7 := ⟨_, rfl⟩
                rw [hW7] at hQ7 hB7
                have HW7 := Lib.hid hW7
                have hcp7 := run_copy_seg (P := Tryz.prog) (w := W7) 23 23 3 5 Tryz.und22 Tryz.size5 gR (i * 8) (L - i * 8) (cp - i * 8) 8 8 gX 8 (z.drop 8) 8 (fun u c hi => by
                  rw [hB7.cell, u8s_get]
                  rw [List.getElem?_drop] at hi
                  rw [hi]; rfl) (Wrp.half2 z HZl.out).symm (by rw [Wrp.half2 z HZl.out]; have := HN.out; omega) _ _ hQ7.r (by have h1 := HRl.out; have h2 := HN.out; rw [List.length_append, u8s_len]; omega)
                have hE : (u8s r ++ rest).take (i * 8) ++ u8s ((z.drop 8).take 8) ++ (u8s r ++ rest).drop (i * 8 + 8) = u8s (Wrp.p8 r i (z.drop 8)) ++ rest := by
                  rw [Nat.mul_comm i 8]
                  exact part_put r z rest i HZl.out (by have := HRl.out; omega)
                rw [hE] at hcp7
                have HQ8 := Lib.hid (hQ7.setR (Wrp.p8 r i (z.drop 8)) ⟨by have := HgR.out; omega, by have := HgR.out; omega, by have := HgR.out; have := Hg.out; omega⟩)
                have HE : Hid (Wrp.bw key n (a, b) (6 * n) (m + (j + 1)) = (X, Wrp.p8 r i (z.drop 8))) := Lib.hid (by rw [HST.out])
                clear hdd hQ7 hB7 hX hXl hW7 hE
                go_wp2_with (first | refine wpList_arrayAt 55 (.tmp 47) rfl rfl hat (by kernel_rfl) ?_ | refine wpList_load_at 55 (.tmp 48) rfl rfl (u8s X).toArray hld (by kernel_rfl) ?_ | (refine wpList_store_arr rfl 55 (.tmp 4) (.tmp 49) g (u8s x) (u8s X) rfl rfl rfl rfl HQ6.out.a HSz.out HLn.out (u8s_one _) ?_; rw [HW7.out]) | refine wpList_copy_runW rfl (.tmp 50) (.tmp 51) _ rfl rfl rfl hcp7 ?_ | fail)
                refine ⟨⟨j + 1, by omega, by go_num, ?_⟩, by simp [intOf]; omega⟩
                rw [HE.out]
                exact HQ8.out
              · skip
                go_wp2_with (refine wpList_alloc_arr rfl 32 zr16.toArray rfl zeroR16 ?_)
                refine ⟨below_alloc W3 _, ?_⟩
                have HB4 := Lib.hid (Blk.new W3 32 zr16)
                have HQ4 := Lib.hid (HQ3.out.below (below_alloc W3 (.cells zr16.toArray 32)))
                obtain ⟨gX, hgX⟩ : ∃ gX, W3.heap.size = gX := ⟨_, rfl⟩
                have HGX : Hid (g < gX ∧ g + 1 < gX ∧ gR < gX) := Lib.hid (by have h1 := HQ3.out.a.lt; have h2 := HQ3.out.o.lt; have h3 := HQ3.out.r.lt; rw [hgX] at h1 h2 h3; exact ⟨h1, h2, h3⟩)
                rw [hgX] at HB4 ⊢
                clear HQ3 hgX
                generalize W3.alloc (.cells zr16.toArray 32) = W4 at *
                simp only [Act.put, List.setIfInBounds_toArray, List.set]
                refine oneG 13 1 rfl (by kernel_rfl) rfl ?_
                go_wp2_with fail
                refine (aesOK.dec W4 gc key (Wrp.xt x t ++ y) HS.out (aesOK.stay HRep.out (by have := HQ4.out.b; exact this)) (by rw [List.length_append, Wrp.xt_len, HX.out, HY.out])).mono ?_
                rintro e W5 ⟨rfl, hb⟩
                rw [HZE.out]
                have HQ5 := Lib.hid (HQ4.out.below hb)
                have HB5 := Lib.hid (HB4.out.below hb HB4.out.lt)
                clear HQ4
                clear HB4
                go_wp2
                refine ⟨hb, ?_⟩
                clear hb
                refine lateG 15 0 rfl (by kernel_rfl) (by kernel_rfl) rfl ?_
                have HSz := Lib.hid (sizeA16 z HZl.out)
                have HLn : Hid (zr16.length = (u8s z).length) := Lib.hid (by rw [u8s_len, HZl.out]; rfl)
                have HQ6 := Lib.hid (HQ5.out.setX gX (u8s z).toArray ⟨by have := HGX.out; omega, by have := HGX.out; omega, by have := HGX.out; omega, by have := HGX.out; have := Hg.out; omega⟩)
                have HB6 := Lib.hid (HB5.out.row (u8s z))
                obtain ⟨W6, hW6⟩ : ∃ W6, W5.setRow gX (u8s z).toArray = W6 := ⟨_, rfl⟩
                rw [hW6] at HQ6 HB6
                have HW6 := Lib.hid hW6
                clear hW6 HQ5
                go_wp2_with (refine wpList_store_arr rfl 32 (.tmp 13) (.tmp 46) gX zr16 (u8s z) rfl rfl rfl rfl HB5.out HSz.out HLn.out (u8s_one _) ?_; rw [HW6.out])
                refine ⟨trivial, ?_⟩
                refine wpAnyG_done (by kernel_rfl) ?_
                clear HW6 HB5 HSz HLn
                have hld := load_at8 (o := 0) HB6.out (x := z.take 8) (Wrp.half1 z HZl.out) (fun i v hv => by
                  have h1 : (u8s (z.take 8))[i]? = some v := hv
                  rw [← u8s_take, List.getElem?_take] at h1
                  split at h1
                  · rw [Nat.zero_add]; exact h1
                  · cases h1)
                have hat := run_arr8 gX 0 8 16 (by omega) W6
                have HH := Lib.hid (Wrp.half1 z HZl.out)
                generalize z.take 8 = zh at *
                have hdd : g + 1 ≠ g ∧ gR ≠ g ∧ w.heap.size ≤ g := ⟨by omega, by have := HgR.out; omega, by have := Hg.out; omega⟩
                have hQ7 := HQ6.out.setA zh hdd
                have hB7 := HB6.out.rowFar (g' := g) (by have := HGX.out; omega) (u8s zh).toArray
                obtain ⟨X, hX⟩ : ∃ X, zh = X := ⟨_, rfl⟩
                have hXl : X.length = 8 := by rw [← hX]; exact HH.out
                rw [hX] at hQ7 hB7 hld HST
                clear HH
                have HSz := Lib.hid (sizeA8 X hXl)
                have HLn : Hid ((u8s x).length = (u8s X).length) := Lib.hid (by rw [u8s_len, u8s_len, HX.out, hXl])
                obtain ⟨W7, hW7⟩ : ∃ W7, W6.setRow g (u8s X).toArray = W7 := ⟨_, rfl⟩
                rw [hW7] at hQ7 hB7
                have HW7 := Lib.hid hW7
                have hcp7 := run_copy_seg (P := Tryz.prog) (w := W7) 23 23 3 5 Tryz.und22 Tryz.size5 gR (i * 8) (L - i * 8) (cp - i * 8) 8 8 gX 8 (z.drop 8) 8 (fun u c hi => by
                  rw [hB7.cell, u8s_get]
                  rw [List.getElem?_drop] at hi
                  rw [hi]; rfl) (Wrp.half2 z HZl.out).symm (by rw [Wrp.half2 z HZl.out]; have := HN.out; omega) _ _ hQ7.r (by have h1 := HRl.out; have h2 := HN.out; rw [List.length_append, u8s_len]; omega)
                have hE : (u8s r ++ rest).take (i * 8) ++ u8s ((z.drop 8).take 8) ++ (u8s r ++ rest).drop (i * 8 + 8) = u8s (Wrp.p8 r i (z.drop 8)) ++ rest := by
                  rw [Nat.mul_comm i 8]
                  exact part_put r z rest i HZl.out (by have := HRl.out; omega)
                rw [hE] at hcp7
                have HQ8 := Lib.hid (hQ7.setR (Wrp.p8 r i (z.drop 8)) ⟨by have := HgR.out; omega, by have := HgR.out; omega, by have := HgR.out; have := Hg.out; omega⟩)
                have HE : Hid (Wrp.bw key n (a, b) (6 * n) (m + (j + 1)) = (X, Wrp.p8 r i (z.drop 8))) := Lib.hid (by rw [HST.out])
                clear hdd hQ7 hB7 hX hXl hW7 hE
                go_wp2_with (first | refine wpList_arrayAt 55 (.tmp 47) rfl rfl hat (by kernel_rfl) ?_ | refine wpList_load_at 55 (.tmp 48) rfl rfl (u8s X).toArray hld (by kernel_rfl) ?_ | (refine wpList_store_arr rfl 55 (.tmp 4) (.tmp 49) g (u8s x) (u8s X) rfl rfl rfl rfl HQ6.out.a HSz.out HLn.out (u8s_one _) ?_; rw [HW7.out]) | refine wpList_copy_runW rfl (.tmp 50) (.tmp 51) _ rfl rfl rfl hcp7 ?_ | fail)
                refine ⟨⟨j + 1, by omega, by go_num, ?_⟩, by simp [intOf]; omega⟩
                rw [HE.out]
                exact HQ8.out
            · skip
              go_wp2_with (refine wpList_alloc_arr rfl 32 zr16.toArray rfl zeroR16 ?_)
              refine ⟨below_alloc W2 _, ?_⟩
              have HB3 := Lib.hid (Blk.new W2 32 zr16)
              have HQ3 := Lib.hid (HQ2.out.below (below_alloc W2 (.cells zr16.toArray 32)))
              obtain ⟨gX, hgX⟩ : ∃ gX, W2.heap.size = gX := ⟨_, rfl⟩
              have HGX : Hid (g < gX ∧ g + 1 < gX ∧ gR < gX) := Lib.hid (by have h1 := HQ2.out.a.lt; have h2 := HQ2.out.o.lt; have h3 := HQ2.out.r.lt; rw [hgX] at h1 h2 h3; exact ⟨h1, h2, h3⟩)
              rw [hgX] at HB3 ⊢
              clear HQ2 hgX
              generalize W2.alloc (.cells zr16.toArray 32) = W3 at *
              simp only [Act.put, List.setIfInBounds_toArray, List.set]
              refine oneG 12 2 rfl (by kernel_rfl) rfl ?_
              go_wp2_with fail
              refine (joinedW_any W3 (Wrp.xt x t) y _ _ rfl rfl (by rw [Wrp.xt_len]; exact HX.out) HY.out).mono ?_
              rintro e W4 ⟨rfl, hb⟩
              have HQ4 := Lib.hid (HQ3.out.below hb)
              have HB4 := Lib.hid (HB3.out.below hb HB3.out.lt)
              clear HQ3
              clear HB3
              go_wp2
              refine ⟨hb, ?_⟩
              clear hb
              refine oneG 13 1 rfl (by kernel_rfl) rfl ?_
              go_wp2_with fail
              refine (aesOK.dec W4 gc key (Wrp.xt x t ++ y) HS.out (aesOK.stay HRep.out (by have := HQ4.out.b; exact this)) (by rw [List.length_append, Wrp.xt_len, HX.out, HY.out])).mono ?_
              rintro e W5 ⟨rfl, hb⟩
              rw [HZE.out]
              have HQ5 := Lib.hid (HQ4.out.below hb)
              have HB5 := Lib.hid (HB4.out.below hb HB4.out.lt)
              clear HQ4
              clear HB4
              go_wp2
              refine ⟨hb, ?_⟩
              clear hb
              refine lateG 15 0 rfl (by kernel_rfl) (by kernel_rfl) rfl ?_
              have HSz := Lib.hid (sizeA16 z HZl.out)
              have HLn : Hid (zr16.length = (u8s z).length) := Lib.hid (by rw [u8s_len, HZl.out]; rfl)
              have HQ6 := Lib.hid (HQ5.out.setX gX (u8s z).toArray ⟨by have := HGX.out; omega, by have := HGX.out; omega, by have := HGX.out; omega, by have := HGX.out; have := Hg.out; omega⟩)
              have HB6 := Lib.hid (HB5.out.row (u8s z))
              obtain ⟨W6, hW6⟩ : ∃ W6, W5.setRow gX (u8s z).toArray = W6 := ⟨_, rfl⟩
              rw [hW6] at HQ6 HB6
              have HW6 := Lib.hid hW6
              clear hW6 HQ5
              go_wp2_with (refine wpList_store_arr rfl 32 (.tmp 13) (.tmp 46) gX zr16 (u8s z) rfl rfl rfl rfl HB5.out HSz.out HLn.out (u8s_one _) ?_; rw [HW6.out])
              refine ⟨trivial, ?_⟩
              refine wpAnyG_done (by kernel_rfl) ?_
              clear HW6 HB5 HSz HLn
              have hld := load_at8 (o := 0) HB6.out (x := z.take 8) (Wrp.half1 z HZl.out) (fun i v hv => by
                have h1 : (u8s (z.take 8))[i]? = some v := hv
                rw [← u8s_take, List.getElem?_take] at h1
                split at h1
                · rw [Nat.zero_add]; exact h1
                · cases h1)
              have hat := run_arr8 gX 0 8 16 (by omega) W6
              have HH := Lib.hid (Wrp.half1 z HZl.out)
              generalize z.take 8 = zh at *
              have hdd : g + 1 ≠ g ∧ gR ≠ g ∧ w.heap.size ≤ g := ⟨by omega, by have := HgR.out; omega, by have := Hg.out; omega⟩
              have hQ7 := HQ6.out.setA zh hdd
              have hB7 := HB6.out.rowFar (g' := g) (by have := HGX.out; omega) (u8s zh).toArray
              obtain ⟨X, hX⟩ : ∃ X, zh = X := ⟨_, rfl⟩
              have hXl : X.length = 8 := by rw [← hX]; exact HH.out
              rw [hX] at hQ7 hB7 hld HST
              clear HH
              have HSz := Lib.hid (sizeA8 X hXl)
              have HLn : Hid ((u8s x).length = (u8s X).length) := Lib.hid (by rw [u8s_len, u8s_len, HX.out, hXl])
              obtain ⟨W7, hW7⟩ : ∃ W7, W6.setRow g (u8s X).toArray = W7 := ⟨_, rfl⟩
              rw [hW7] at hQ7 hB7
              have HW7 := Lib.hid hW7
              have hcp7 := run_copy_seg (P := Tryz.prog) (w := W7) 23 23 3 5 Tryz.und22 Tryz.size5 gR (i * 8) (L - i * 8) (cp - i * 8) 8 8 gX 8 (z.drop 8) 8 (fun u c hi => by
                rw [hB7.cell, u8s_get]
                rw [List.getElem?_drop] at hi
                rw [hi]; rfl) (Wrp.half2 z HZl.out).symm (by rw [Wrp.half2 z HZl.out]; have := HN.out; omega) _ _ hQ7.r (by have h1 := HRl.out; have h2 := HN.out; rw [List.length_append, u8s_len]; omega)
              have hE : (u8s r ++ rest).take (i * 8) ++ u8s ((z.drop 8).take 8) ++ (u8s r ++ rest).drop (i * 8 + 8) = u8s (Wrp.p8 r i (z.drop 8)) ++ rest := by
                rw [Nat.mul_comm i 8]
                exact part_put r z rest i HZl.out (by have := HRl.out; omega)
              rw [hE] at hcp7
              have HQ8 := Lib.hid (hQ7.setR (Wrp.p8 r i (z.drop 8)) ⟨by have := HgR.out; omega, by have := HgR.out; omega, by have := HgR.out; have := Hg.out; omega⟩)
              have HE : Hid (Wrp.bw key n (a, b) (6 * n) (m + (j + 1)) = (X, Wrp.p8 r i (z.drop 8))) := Lib.hid (by rw [HST.out])
              clear hdd hQ7 hB7 hX hXl hW7 hE
              go_wp2_with (first | refine wpList_arrayAt 55 (.tmp 47) rfl rfl hat (by kernel_rfl) ?_ | refine wpList_load_at 55 (.tmp 48) rfl rfl (u8s X).toArray hld (by kernel_rfl) ?_ | (refine wpList_store_arr rfl 55 (.tmp 4) (.tmp 49) g (u8s x) (u8s X) rfl rfl rfl rfl HQ6.out.a HSz.out HLn.out (u8s_one _) ?_; rw [HW7.out]) | refine wpList_copy_runW rfl (.tmp 50) (.tmp 51) _ rfl rfl rfl hcp7 ?_ | fail)
              refine ⟨⟨j + 1, by omega, by go_num, ?_⟩, by simp [intOf]; omega⟩
              rw [HE.out]
              exact HQ8.out
          · skip
            go_wp2_with (refine wpList_alloc_arr rfl 32 zr16.toArray rfl zeroR16 ?_)
            refine ⟨below_alloc W1 _, ?_⟩
            have HB2 := Lib.hid (Blk.new W1 32 zr16)
            have HQ2 := Lib.hid (HQ1.out.below (below_alloc W1 (.cells zr16.toArray 32)))
            obtain ⟨gX, hgX⟩ : ∃ gX, W1.heap.size = gX := ⟨_, rfl⟩
            have HGX : Hid (g < gX ∧ g + 1 < gX ∧ gR < gX) := Lib.hid (by have h1 := HQ1.out.a.lt; have h2 := HQ1.out.o.lt; have h3 := HQ1.out.r.lt; rw [hgX] at h1 h2 h3; exact ⟨h1, h2, h3⟩)
            rw [hgX] at HB2 ⊢
            clear HQ1 hgX
            generalize W1.alloc (.cells zr16.toArray 32) = W2 at *
            simp only [Act.put, List.setIfInBounds_toArray, List.set]
            refine oneG 8 3 rfl (by kernel_rfl) rfl ?_
            go_wp2_with fail
            refine (counted_any W2 x _ t _ rfl rfl HX.out (by omega)).mono ?_
            rintro e W3 ⟨rfl, hb⟩
            have HQ3 := Lib.hid (HQ2.out.below hb)
            have HB3 := Lib.hid (HB2.out.below hb HB2.out.lt)
            clear HQ2
            clear HB2
            go_wp2
            refine ⟨hb, ?_⟩
            clear hb
            refine oneG 12 2 rfl (by kernel_rfl) rfl ?_
            go_wp2_with fail
            refine (joinedW_any W3 (Wrp.xt x t) y _ _ rfl rfl (by rw [Wrp.xt_len]; exact HX.out) HY.out).mono ?_
            rintro e W4 ⟨rfl, hb⟩
            have HQ4 := Lib.hid (HQ3.out.below hb)
            have HB4 := Lib.hid (HB3.out.below hb HB3.out.lt)
            clear HQ3
            clear HB3
            go_wp2
            refine ⟨hb, ?_⟩
            clear hb
            refine oneG 13 1 rfl (by kernel_rfl) rfl ?_
            go_wp2_with fail
            refine (aesOK.dec W4 gc key (Wrp.xt x t ++ y) HS.out (aesOK.stay HRep.out (by have := HQ4.out.b; exact this)) (by rw [List.length_append, Wrp.xt_len, HX.out, HY.out])).mono ?_
            rintro e W5 ⟨rfl, hb⟩
            rw [HZE.out]
            have HQ5 := Lib.hid (HQ4.out.below hb)
            have HB5 := Lib.hid (HB4.out.below hb HB4.out.lt)
            clear HQ4
            clear HB4
            go_wp2
            refine ⟨hb, ?_⟩
            clear hb
            refine lateG 15 0 rfl (by kernel_rfl) (by kernel_rfl) rfl ?_
            have HSz := Lib.hid (sizeA16 z HZl.out)
            have HLn : Hid (zr16.length = (u8s z).length) := Lib.hid (by rw [u8s_len, HZl.out]; rfl)
            have HQ6 := Lib.hid (HQ5.out.setX gX (u8s z).toArray ⟨by have := HGX.out; omega, by have := HGX.out; omega, by have := HGX.out; omega, by have := HGX.out; have := Hg.out; omega⟩)
            have HB6 := Lib.hid (HB5.out.row (u8s z))
            obtain ⟨W6, hW6⟩ : ∃ W6, W5.setRow gX (u8s z).toArray = W6 := ⟨_, rfl⟩
            rw [hW6] at HQ6 HB6
            have HW6 := Lib.hid hW6
            clear hW6 HQ5
            go_wp2_with (refine wpList_store_arr rfl 32 (.tmp 13) (.tmp 46) gX zr16 (u8s z) rfl rfl rfl rfl HB5.out HSz.out HLn.out (u8s_one _) ?_; rw [HW6.out])
            refine ⟨trivial, ?_⟩
            refine wpAnyG_done (by kernel_rfl) ?_
            clear HW6 HB5 HSz HLn
            have hld := load_at8 (o := 0) HB6.out (x := z.take 8) (Wrp.half1 z HZl.out) (fun i v hv => by
              have h1 : (u8s (z.take 8))[i]? = some v := hv
              rw [← u8s_take, List.getElem?_take] at h1
              split at h1
              · rw [Nat.zero_add]; exact h1
              · cases h1)
            have hat := run_arr8 gX 0 8 16 (by omega) W6
            have HH := Lib.hid (Wrp.half1 z HZl.out)
            generalize z.take 8 = zh at *
            have hdd : g + 1 ≠ g ∧ gR ≠ g ∧ w.heap.size ≤ g := ⟨by omega, by have := HgR.out; omega, by have := Hg.out; omega⟩
            have hQ7 := HQ6.out.setA zh hdd
            have hB7 := HB6.out.rowFar (g' := g) (by have := HGX.out; omega) (u8s zh).toArray
            obtain ⟨X, hX⟩ : ∃ X, zh = X := ⟨_, rfl⟩
            have hXl : X.length = 8 := by rw [← hX]; exact HH.out
            rw [hX] at hQ7 hB7 hld HST
            clear HH
            have HSz := Lib.hid (sizeA8 X hXl)
            have HLn : Hid ((u8s x).length = (u8s X).length) := Lib.hid (by rw [u8s_len, u8s_len, HX.out, hXl])
            obtain ⟨W7, hW7⟩ : ∃ W7, W6.setRow g (u8s X).toArray = W7 := ⟨_, rfl⟩
            rw [hW7] at hQ7 hB7
            have HW7 := Lib.hid hW7
            have hcp7 := run_copy_seg (P := Tryz.prog) (w := W7) 23 23 3 5 Tryz.und22 Tryz.size5 gR (i * 8) (L - i * 8) (cp - i * 8) 8 8 gX 8 (z.drop 8) 8 (fun u c hi => by
              rw [hB7.cell, u8s_get]
              rw [List.getElem?_drop] at hi
              rw [hi]; rfl) (Wrp.half2 z HZl.out).symm (by rw [Wrp.half2 z HZl.out]; have := HN.out; omega) _ _ hQ7.r (by have h1 := HRl.out; have h2 := HN.out; rw [List.length_append, u8s_len]; omega)
            have hE : (u8s r ++ rest).take (i * 8) ++ u8s ((z.drop 8).take 8) ++ (u8s r ++ rest).drop (i * 8 + 8) = u8s (Wrp.p8 r i (z.drop 8)) ++ rest := by
              rw [Nat.mul_comm i 8]
              exact part_put r z rest i HZl.out (by have := HRl.out; omega)
            rw [hE] at hcp7
            have HQ8 := Lib.hid (hQ7.setR (Wrp.p8 r i (z.drop 8)) ⟨by have := HgR.out; omega, by have := HgR.out; omega, by have := HgR.out; have := Hg.out; omega⟩)
            have HE : Hid (Wrp.bw key n (a, b) (6 * n) (m + (j + 1)) = (X, Wrp.p8 r i (z.drop 8))) := Lib.hid (by rw [HST.out])
            clear hdd hQ7 hB7 hX hXl hW7 hE
            go_wp2_with (first | refine wpList_arrayAt 55 (.tmp 47) rfl rfl hat (by kernel_rfl) ?_ | refine wpList_load_at 55 (.tmp 48) rfl rfl (u8s X).toArray hld (by kernel_rfl) ?_ | (refine wpList_store_arr rfl 55 (.tmp 4) (.tmp 49) g (u8s x) (u8s X) rfl rfl rfl rfl HQ6.out.a HSz.out HLn.out (u8s_one _) ?_; rw [HW7.out]) | refine wpList_copy_runW rfl (.tmp 50) (.tmp 51) _ rfl rfl rfl hcp7 ?_ | fail)
            refine ⟨⟨j + 1, by omega, by go_num, ?_⟩, by simp [intOf]; omega⟩
            rw [HE.out]
            exact HQ8.out
        · obtain rfl : j = n := by omega
          have HQ := Lib.hid hW
          have HE := Lib.hid HKN.out
          clear hW
          go_wp2
          exact ⟨⟨k + 1, by omega, by go_num, by rw [← HE.out]; exact HQ.out⟩, by simp [intOf]; omega⟩
    · obtain rfl : k = 6 := by omega
      rw [← HZ.out] at HW
      have hZl : Wrp.Ok n Z := by rw [HZ.out]; exact Wrp.bw_ok (by omega) ⟨Ha.out, by show b.length = _; rw [← HL.out, HN.out]⟩ _ _
      have HSz := Lib.hid (sizeA8 Z.1 hZl.1)
      have HLn : Hid (zr8.length = (u8s Z.1).length) := Lib.hid (by rw [u8s_len, hZl.1]; rfl)
      have hld := run_loadVar_row (P := Tryz.prog) wr g 55 55 (u8s Z.1).toArray (0, 0) _ HW.out.a Tryz.und8 rfl (by simpa using HSz.out)
      have hbk := run_loadVar_row (P := Tryz.prog) _ (g + 1) 55 55 (u8s Z.1).toArray (0, 0) _ (HW.out.o.row (u8s Z.1)) Tryz.und8 rfl (by simpa using HSz.out)
      have HR := Lib.hid (HW.out.r.rowFar (g' := g + 1) (by have := HgR.out; omega) (u8s Z.1).toArray)
      have Hb := Lib.hid (below_setRow HW.out.b (by have := Hg.out; omega : w.heap.size ≤ g + 1) (u8s Z.1).toArray)
      have HOe := Lib.hid (u8s_one Z.1)
      clear hZl
      go_wp2_with (first | refine wpList_load_arr_w 55 (.tmp 4) rfl rfl (u8s Z.1).toArray hld (by kernel_rfl) ?_ | refine wpList_store_arr rfl 55 (.tmp 6) (.tmp 55) (g + 1) _ _ rfl rfl rfl rfl HW.out.o HSz.out HLn.out HOe.out ?_)
      try simp only [Act.put, List.setIfInBounds_toArray, List.set]
      refine bodyPost_ret (v := .tuple #[.agg (u8s Z.1).toArray, .slice (some ⟨gR, 0, none⟩) L cp]) ?_ rfl ⟨gR, cp, rest, rfl, HCp.out, HR.out, Hb.out⟩
      generalize (u8s Z.1).toArray = X at hbk ⊢
      simp [results, Tryz.results27, asAddr, hbk]
end Go.Proofs.YtdipflchmooakaaGreatDoor
namespace Go.Proofs.YtdipflchmooakaaGreatDoor
open Go.RowKit Go.Gar Go.Gar.Aes

/-- Concat of two slices that the caller lists: some bytes there are. -/
theorem concat2 (w : World) (g : Nat) (A1 A2 : Option Addr) (l1 l2 l : List UInt8) (n1 n2 c1 c2 : Nat) (hg : g = w.heap.size) (hlv : l = l1 ++ l2) (h1 : n1 = l1.length) (h2 : n2 = l2.length) (r1 : Rd w w.heap.size A1 l1) (r2 : Rd w w.heap.size A2 l2) (h0 : 0 < n1 + n2) (hl : n1 + n2 ≤ 1048576) :
    Calls Tryz.prog 21 #[.slice (some ⟨g, 0, none⟩) 2 2] (w.alloc (.cells #[.slice A1 n1 c1, .slice A2 n2 c2] 23)) fun e w' => ∃ v, e = .returned v ∧ Out w' v l ∧ Below w.heap.size w w' := by
  subst hg
  have hbl := below_alloc w (.cells #[.slice A1 n1 c1, .slice A2 n2 c2] 23)
  refine (concat_any (w.alloc (.cells #[.slice A1 n1 c1, .slice A2 n2 c2] 23)) w.heap.size A1 A2 l1 l2 n1 n2 c1 c2 (Blk.new w _ _) h1 h2 ((r1.below hbl).more hbl.size) ((r2.below hbl).more hbl.size) h0 hl).mono ?_
  rintro e w' ⟨v, rfl, hO, hb⟩
  obtain ⟨gR, cp, rest, rfl, _, hcp, hB⟩ := hO.blk (by rw [List.length_append]; omega)
  rw [hlv]
  exact ⟨_, rfl, ⟨_, cp, rfl, hcp, Rd.of_row hB⟩, hbl.trans (hb.mono hbl.size)⟩
end Go.Proofs.YtdipflchmooakaaGreatDoor
