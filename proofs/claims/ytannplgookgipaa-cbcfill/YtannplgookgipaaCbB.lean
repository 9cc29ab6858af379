/-
  The landed cbc: sum, the XOR of two blocks; bytes.Equal, bytes.HasSuffix: contracts.
-/
import Derived.Test.YtannplgookgipaaAesA
import Derived.Test.YtannplgookgipaaMidB
import Derived.Test.YtannplgookgipaaShGh
import Derived.Test.YtannplgookgipaaAesC
import Derived.Test.YtannplgookgipaaCbcC
import Derived.RegionTactic
import Derived.BigRegion
namespace Go.Proofs.Ytannplgookgipaa
open Go.RowKit Go.Gar Go.Gar.Aes

set_option maxHeartbeats 2000000 in
set_option maxRecDepth 100000 in
theorem sum_any (w : World) (a b : List UInt8) (x y : Array Value) (hx : x = (u8s a).toArray) (hy : y = (u8s b).toArray) (ha : a.length = 16) (hb : b.length = 16) :
    Calls Try.prog 19 #[.agg x, .agg y] w fun e w' => e = .returned (.agg (u8s (addK a b)).toArray) ∧ Below w.heap.size w w' := by
  subst hx
  subst hy
  have HA := Lib.hid ha
  have HBl := Lib.hid hb
  obtain ⟨g, hg⟩ : ∃ g, w.heap.size = g := ⟨_, rfl⟩
  have hA1 := Blk.new w 23 (u8s a)
  have hb1 := below_alloc w (.cells (u8s a).toArray 23)
  have hs1 : (w.alloc (.cells (u8s a).toArray 23)).heap.size = w.heap.size + 1 := World.size_alloc _ _
  obtain ⟨w1, hw1⟩ : ∃ w1, w.alloc (.cells (u8s a).toArray 23) = w1 := ⟨_, rfl⟩
  rw [hw1] at hA1 hb1 hs1
  have hA2 := hA1.alloc (.cells (u8s b).toArray 23)
  have hB2 := Blk.new w1 23 (u8s b)
  have hb2 := hb1.alloc hb1.size (.cells (u8s b).toArray 23)
  have hs2 : (w1.alloc (.cells (u8s b).toArray 23)).heap.size = w1.heap.size + 1 := World.size_alloc _ _
  obtain ⟨w2, hw2⟩ : ∃ w2, w1.alloc (.cells (u8s b).toArray 23) = w2 := ⟨_, rfl⟩
  rw [hw2] at hA2 hB2 hb2 hs2
  have hA3 := hA2.alloc (.cells zr16.toArray 23)
  have hB3 := hB2.alloc (.cells zr16.toArray 23)
  have hR3 := Blk.new w2 23 zr16
  have hb3 := hb2.alloc hb2.size (.cells zr16.toArray 23)
  obtain ⟨w3, hw3⟩ : ∃ w3, w2.alloc (.cells zr16.toArray 23) = w3 := ⟨_, rfl⟩
  rw [hw3] at hA3 hB3 hR3 hb3
  rw [hs2, hs1] at hR3
  rw [hs1] at hB3
  rw [hg] at hA3 hB3 hR3 hb3 hs1 ⊢
  have HW1 := Lib.hid hw1
  have HW2 := Lib.hid hw2
  have HW3 := Lib.hid hw3
  have HG := Lib.hid hg
  have HS1 := Lib.hid hs1
  have HS2 : Hid (w2.heap.size = g + 1 + 1) := Lib.hid (by rw [hs2, hs1])
  have HA3 := Lib.hid hA3
  have HB3 := Lib.hid hB3
  have HR3 := Lib.hid hR3
  have Hb3 := Lib.hid hb3
  have HSz := Lib.hid (sizeA16 (addK a b) (addK_len a b))
  have HZe : Hid (zr16.length = (u8s (addK a b)).length) := Lib.hid (by rw [u8s_len, addK_len]; rfl)
  clear ha hb hA1 hb1 hA2 hB2 hb2 hA3 hB3 hR3 hb3 hs1 hs2 hw1 hw2 hw3 hg
  go_enter Try.func19, Try.ntmps19
  go_wp2_with (first | (refine wpList_box_arr rfl 23 (.tmp 0) (u8s a).toArray rfl rfl ?_; rw [HW1.out, HG.out]) | (refine wpList_box_arr rfl 23 (.tmp 1) (u8s b).toArray rfl rfl ?_; rw [HW2.out, HS1.out]) | (refine wpList_alloc_arr rfl 23 zr16.toArray rfl zeroR16 ?_; rw [HW3.out, HS2.out]))
  generalize (u8s a).toArray = xa
  generalize (u8s b).toArray = xb
  go_loopw [6] (fun i w' => ∃ j : Nat, j ≤ 16 ∧ i = .int .i64 (j : Int) ∧ Blk w' g 23 (u8s (prog a (addK a b) j)) ∧ Blk w' (g + 1) 23 (u8s b) ∧ Blk w' (g + 1 + 1) 23 zr16 ∧ Below g w w') (fun i _ => 16 - (intOf i).toNat)
  case atStart => exact ⟨0, by omega, rfl, by rw [prog_0]; exact HA3.out, HB3.out, HR3.out, Hb3.out⟩
  case round =>
    obtain ⟨j, hj, rfl, hA, hB, hR, hb⟩ := hrel
    clear HA3 HB3 HR3 Hb3
    have hL2 : (addK a b).length = a.length := by rw [addK_len, HA.out]
    by_cases hlt : j < 16
    · have hc1 := blk_byte hA (i := j) (c := at_ a j) (by rw [prog_get _ _ _ hL2 (by rw [HA.out]; exact hlt), at_get (by rw [HA.out]; exact hlt)])
      have hc2 := blk_byte hB (i := j) (c := at_ b j) (by rw [at_get (by rw [HBl.out]; exact hlt)])
      have hz : (addK a b)[j]? = some (at_ a j ^^^ at_ b j) := st_get _ _ hlt
      have hf := hA.frozen j
      have hS := hA.set_ j (.int .u8 ((at_ a j ^^^ at_ b j).toNat : Int))
      have hBf := hB.far (p := ⟨g, j, none⟩) (by show g + 1 ≠ g; omega) (.int .u8 ((at_ a j ^^^ at_ b j).toNat : Int))
      have hRf := hR.far (p := ⟨g, j, none⟩) (by show g + 1 + 1 ≠ g; omega) (.int .u8 ((at_ a j ^^^ at_ b j).toNat : Int))
      have hbf := hb.setCell (p := ⟨g, j, none⟩) (Nat.le_refl g) (.int .u8 ((at_ a j ^^^ at_ b j).toNat : Int))
      rw [u8s_set, prog_set _ _ _ _ hL2 hz, ← xor_byte] at hS
      rw [← xor_byte] at hBf hRf hbf
      have HS := Lib.hid hS
      have HBf := Lib.hid hBf
      have HRf := Lib.hid hRf
      have Hbf := Lib.hid hbf
      have hx8 := (at_ a j).toNat_lt
      have hy8 := (at_ b j).toNat_lt
      clear hS hBf hRf hbf hA hB hR hb hz hL2
      generalize (at_ a j).toNat = xn at *
      generalize (at_ b j).toNat = yn at *
      go_wp2
      go_region
      go_wp2
      exact ⟨⟨j + 1, by omega, by go_num, HS.out.drew, HBf.out.drew, HRf.out.drew, Hbf.out.drew⟩, by simp [intOf]; omega⟩
    · have hE : prog a (addK a b) j = addK a b := prog_end _ _ _ (by rw [HA.out]; omega) (by rw [addK_len]; omega)
      rw [hE] at hA
      have hld := run_loadVar_row (P := Try.prog) wr g 23 23 (u8s (addK a b)).toArray (0, 0) _ hA Try.und16 rfl (by simpa using HSz.out)
      have hbk := run_loadVar_row (P := Try.prog) _ (g + 1 + 1) 23 23 (u8s (addK a b)).toArray (0, 0) _ (hR.row (u8s (addK a b))) Try.und16 rfl (by simpa using HSz.out)
      have HR := Lib.hid hR
      have Hb := Lib.hid (below_setRow hb (by omega : g ≤ g + 1 + 1) (u8s (addK a b)).toArray)
      have HOe := Lib.hid (u8s_one (addK a b))
      clear hA hB hR hb hE hL2
      go_wp2_with (first | refine wpList_load_arr rfl 23 (.tmp 2) rfl rfl (u8s (addK a b)).toArray hld ?_ | refine wpList_store_arr rfl 23 (.tmp 4) (.tmp 18) (g + 1 + 1) _ _ rfl rfl rfl rfl HR.out HSz.out HZe.out HOe.out ?_)
      try simp only [Act.put, List.setIfInBounds_toArray, List.set]
      refine bodyPost_ret (v := .agg (u8s (addK a b)).toArray) ?_ rfl ⟨rfl, Hb.out⟩
      generalize (u8s (addK a b)).toArray = X at hbk ⊢
      simp [results, Try.results19, asAddr, hbk]
end Go.Proofs.Ytannplgookgipaa
