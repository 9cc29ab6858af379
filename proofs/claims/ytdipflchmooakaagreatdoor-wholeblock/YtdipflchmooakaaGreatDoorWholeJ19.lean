/-
  The landed wrap: wrappable, joined, counted: contracts.
-/
import Derived.Test.YtdipflchmooakaaGreatDoorWholeJ01
import Derived.Test.YtdipflchmooakaaGreatDoorWholeJ07
import Derived.Test.YtdipflchmooakaaGreatDoorWholeJ05
import Derived.Test.YtdipflchmooakaaGreatDoorWholeJ02
import Derived.Test.YtdipflchmooakaaGreatDoorWholeJ06
import Derived.Test.YtdipflchmooakaaGreatDoorWholeJ12
import Derived.Test.YtdipflchmooakaaGreatDoorWholeJ09
import Derived.Test.YtdipflchmooakaaGreatDoorWholeJ13
import Derived.Test.YtdipflchmooakaaGreatDoorWholeJ14
import Derived.Test.YtdipflchmooakaaGreatDoorWholeJ08
import Derived.RegionTactic
import Derived.BigRegion
import Derived.Deep.CutRange
set_option maxRecDepth 100000
namespace Go.Gar
open Go.RowKit
/-- copy, its run known. -/
theorem wpList_copy_runW {P : Program} {w : World} {ops : Array Oper} {rest : List Oper} {o : Oper} {a : Act} {Q : Exit → Act → World → Prop} (hgd : o.guard = none) (s x : Operand) (ts : Array TypeId)
    (ho : o.op = .call { callee := .builtin .copy, args := #[s, x], argTypes := ts }) {vs vx v : Value} {w' : World} (hs : a.eval s = vs) (hx : a.eval x = vx)
    (hrun : (Builtin.copy_ ts o.type #[vs, vx]).run P w = .ok v w') (h : wpList P ops Q rest (a.put o.dst v) w') : wpList P ops Q (o :: rest) a w := by
  refine wpList_run hgd (v := v) (w' := w') ?_ h
  unfold execOp
  simp only [ho, resolve, invoke, builtin, Sem.run_bind, Sem.run_pure, Result.andThen_ok, List.map_toArray, List.map_cons, List.map_nil, hs, hx, hrun]
end Go.Gar
namespace Go.Proofs.YtdipflchmooakaaGreatDoor
open Go.RowKit Go.Gar Go.Gar.Aes

theorem Tryz.und8 : Tryz.prog.underlying 55 = some (.array 8 5) := by kernel_rfl
theorem Tryz.size8 : (Tryz.prog.info? 55).map (·.size) = some 8 := by kernel_rfl
theorem Tryz.info8 : (Tryz.prog.info? 55).map (fun i => (i.zero, i.size)) = some (some (.agg (Array.replicate 8 (.int .u8 0))), 8) := by kernel_rfl
theorem sizeA8 (l : List UInt8) (h : l.length = 8) : (Tryz.prog.info? 55).map (·.size) = some (u8s l).length := by rw [u8s_len, h]; exact Tryz.size8
def zr8 : List Value := List.replicate 8 (.int .u8 0)
theorem zeroR8 (w : World) : (zeroValue 55).run Tryz.prog w = .ok (.agg zr8.toArray) w := by
  have := (zero_of_info Tryz.info8).1 w
  rw [this]
  rfl

theorem wrappable_any (w : World) (z : Int) (r : Bool) (hr : r = decide (z % 8 = 0 ∧ 16 ≤ z ∧ z ≤ 256)) (hz : -8 ≤ z) (hz2 : z ≤ 9223372036854775807) :
    Calls Tryz.prog 25 #[.int .i64 z] w fun e w' => e = .returned (.bool r) ∧ w' = w := by
  have ht : z.tmod 8 = 0 ↔ z % 8 = 0 := ⟨fun h => Int.emod_eq_zero_of_dvd (Int.dvd_of_tmod_eq_zero h), fun h => Int.tmod_eq_zero_of_dvd (Int.dvd_of_emod_eq_zero h)⟩
  have HT := Lib.hid ht
  have HR := Lib.hid hr
  clear hr ht
  go_enter Tryz.func25, Tryz.ntmps25
  go_wp2
  · go_ret
    rename_i h1 h2
    have h3 := HT.out.1 h1
    rw [HR.out]
    refine ⟨?_, rfl⟩
    simp [h3]
    try omega
  · go_ret
    rename_i h1 h2
    have h3 := HT.out.1 h1
    rw [HR.out]
    refine ⟨?_, rfl⟩
    simp [h3]
    try omega
  · go_ret
    rename_i h1
    have h3 : ¬ z % 8 = 0 := fun h => h1 (HT.out.2 h)
    rw [HR.out]
    refine ⟨?_, rfl⟩
    simp [h3]

theorem be_small (t : Nat) (ht : t < 256) (j : Nat) (hj : j < 8) : (be t 8)[j]? = some (if j = 7 then UInt8.ofNat t else 0) := by
  rw [be, List.getElem?_map, List.getElem?_range hj]
  simp only [Option.map_some]
  split
  · next h => subst h; simp
  · next h =>
    have h2 : t / 2 ^ (8 * (8 - 1 - j)) = 0 := by
      refine Nat.div_eq_of_lt (Nat.lt_of_lt_of_le ht ?_)
      have : 2 ^ 8 ≤ 2 ^ (8 * (8 - 1 - j)) := Nat.pow_le_pow_right (by omega) (by omega)
      exact this
    rw [h2]
    rfl
theorem xt_get (a : List UInt8) (t : Nat) (ha : a.length = 8) (ht : t < 256) (j : Nat) (hj : j < 8) : (Wrp.xt a t)[j]? = some (at_ a j ^^^ at_ (be t 8) j) := by
  have hb : at_ (be t 8) j = if j = 7 then UInt8.ofNat t else 0 := by rw [at_, List.getD_eq_getElem?_getD, be_small t ht j hj]; rfl
  rw [hb, Wrp.xt]
  split
  · next h => subst h; rw [List.getElem?_set_self (by omega)]
  · next h => rw [List.getElem?_set_ne (by omega), UInt8.xor_zero]; exact at_get (by omega)
theorem int_nil (n : Int) (w : World) : Calls Tryz.prog 39 #[.slice none 0 0, .int .i64 n] w fun e w' =>
      e = .returned (.slice (some ⟨w.heap.size, 0, none⟩) 8 8) ∧ Blk w' w.heap.size 5 (u8s (be (b64 n) 8)) ∧ Below w.heap.size w w' := by
  have := int_any none [] 0 n w Rd.nil (by simp)
  simpa using this

set_option maxHeartbeats 2000000 in
set_option maxRecDepth 100000 in
theorem counted_any (w : World) (a : List UInt8) (x : Array Value) (t : Nat) (z : Int) (hx : x = (u8s a).toArray) (hz : z = (t : Int)) (ha : a.length = 8) (ht : t < 256) :
    Calls Tryz.prog 54 #[.agg x, .int .i64 z] w fun e w' => e = .returned (.agg (u8s (Wrp.xt a t)).toArray) ∧ Below w.heap.size w w' := by
  subst hx
  subst hz
  have HA := Lib.hid ha
  have hA1 := Blk.new w 55 (u8s a)
  have hb1 := below_alloc w (.cells (u8s a).toArray 55)
  have hs1 : (w.alloc (.cells (u8s a).toArray 55)).heap.size = w.heap.size + 1 := World.size_alloc _ _
  obtain ⟨w1, hw1⟩ : ∃ w1, w.alloc (.cells (u8s a).toArray 55) = w1 := ⟨_, rfl⟩
  rw [hw1] at hA1 hb1 hs1
  have hA2 := hA1.alloc (.cells zr8.toArray 55)
  have hR2 := Blk.new w1 55 zr8
  have hb2 := hb1.alloc hb1.size (.cells zr8.toArray 55)
  have hs2 : (w1.alloc (.cells zr8.toArray 55)).heap.size = w1.heap.size + 1 := World.size_alloc _ _
  obtain ⟨w2, hw2⟩ : ∃ w2, w1.alloc (.cells zr8.toArray 55) = w2 := ⟨_, rfl⟩
  rw [hw2] at hA2 hR2 hb2 hs2
  have HW1 := Lib.hid hw1
  have HW2 := Lib.hid hw2
  have HS1 := Lib.hid hs1
  have HS2 := Lib.hid hs2
  have HA2 := Lib.hid hA2
  have HR2 := Lib.hid hR2
  have Hb2 := Lib.hid hb2
  have Ht := Lib.hid ht
  clear ha ht hA1 hb1 hA2 hR2 hb2 hs1 hs2 hw1 hw2
  go_enter Tryz.func54, Tryz.ntmps54
  go_wp2_with (first | (refine wpList_box_arr rfl 55 (.tmp 0) (u8s a).toArray rfl rfl ?_; rw [HW1.out]) | (refine wpList_alloc_arr rfl 55 zr8.toArray rfl zeroR8 ?_; rw [HW2.out]) | fail)
  refine (int_nil (t : Int) w2).mono ?_
  rintro e w3 ⟨rfl, hB3, hb3⟩
  rw [show b64 (t : Int) = t from by have := Ht.out; unfold b64; omega] at hB3
  obtain ⟨g, hg⟩ : ∃ g, w.heap.size = g := ⟨_, rfl⟩
  have HG := Lib.hid hg
  have h1 := HS1.out
  have h2 := HS2.out
  rw [h1, hg] at h2
  rw [h1, hg] at HR2
  rw [h2] at hB3 hb3 ⊢
  rw [h1]
  rw [hg] at HA2 Hb2 ⊢
  have HA3 := Lib.hid (HA2.out.below hb3 (by omega))
  have HR3 := Lib.hid (HR2.out.below hb3 (by omega))
  have HB3 := Lib.hid hB3
  have Hb3 := Lib.hid (Hb2.out.trans (hb3.mono (by omega)))
  have HSz := Lib.hid (sizeA8 (Wrp.xt a t) (by rw [Wrp.xt_len]; exact HA.out))
  have HZe : Hid (zr8.length = (u8s (Wrp.xt a t)).length) := Lib.hid (by rw [u8s_len, Wrp.xt_len, HA.out]; rfl)
  clear hB3 hb3 h1 h2 hg HA2 HR2 Hb2 HS1 HS2 HW1 HW2
  generalize (u8s a).toArray = xa
  go_wp2
  go_loopw [10] (fun i w' => ∃ j : Nat, j ≤ 8 ∧ i = .int .i64 (j : Int) ∧ Blk w' g 55 (u8s (prog a (Wrp.xt a t) j)) ∧ Blk w' (g + 1) 55 zr8 ∧ Blk w' (g + 1 + 1) 5 (u8s (be t 8)) ∧ Below g w w') (fun i _ => 8 - (intOf i).toNat)
  case atStart => exact ⟨0, by omega, rfl, by rw [prog_0]; exact HA3.out, HR3.out, HB3.out, Hb3.out⟩
  case round =>
    obtain ⟨j, hj, rfl, hA, hR, hB, hb⟩ := hrel
    clear HA3 HB3 HR3 Hb3
    have hL2 : (Wrp.xt a t).length = a.length := Wrp.xt_len _ _
    by_cases hlt : j < 8
    · have hc1 := blk_byte hA (i := j) (c := at_ a j) (by rw [prog_get _ _ _ hL2 (by rw [HA.out]; exact hlt), at_get (by rw [HA.out]; exact hlt)])
      have hc2 := blk_byte hB (i := j) (c := at_ (be t 8) j) (by rw [at_get (by rw [be_len]; exact hlt)])
      have hz := xt_get a t HA.out Ht.out j hlt
      have hf := hA.frozen j
      have hS := hA.set_ j (.int .u8 ((at_ a j ^^^ at_ (be t 8) j).toNat : Int))
      have hBf := hB.far (p := ⟨g, j, none⟩) (by show g + 1 + 1 ≠ g; omega) (.int .u8 ((at_ a j ^^^ at_ (be t 8) j).toNat : Int))
      have hRf := hR.far (p := ⟨g, j, none⟩) (by show g + 1 ≠ g; omega) (.int .u8 ((at_ a j ^^^ at_ (be t 8) j).toNat : Int))
      have hbf := hb.setCell (p := ⟨g, j, none⟩) (Nat.le_refl g) (.int .u8 ((at_ a j ^^^ at_ (be t 8) j).toNat : Int))
      rw [u8s_set, prog_set _ _ _ _ hL2 hz, ← xor_byte] at hS
      rw [← xor_byte] at hBf hRf hbf
      have HS := Lib.hid hS
      have HBf := Lib.hid hBf
      have HRf := Lib.hid hRf
      have Hbf := Lib.hid hbf
      have hx8 := (at_ a j).toNat_lt
      have hy8 := (at_ (be t 8) j).toNat_lt
      clear hS hBf hRf hbf hA hB hR hb hz hL2
      generalize (at_ a j).toNat = xn at *
      generalize (at_ (be t 8) j).toNat = yn at *
      go_wp2
      exact ⟨⟨j + 1, by omega, by go_num, HS.out, HRf.out, HBf.out, Hbf.out⟩, by simp [intOf]; omega⟩
    · have hE : prog a (Wrp.xt a t) j = Wrp.xt a t := prog_end _ _ _ (by rw [HA.out]; omega) (by rw [hL2, HA.out]; omega)
      rw [hE] at hA
      have hld := run_loadVar_row (P := Tryz.prog) wr g 55 55 (u8s (Wrp.xt a t)).toArray (0, 0) _ hA Tryz.und8 rfl (by simpa using HSz.out)
      have hbk := run_loadVar_row (P := Tryz.prog) _ (g + 1) 55 55 (u8s (Wrp.xt a t)).toArray (0, 0) _ (hR.row (u8s (Wrp.xt a t))) Tryz.und8 rfl (by simpa using HSz.out)
      have HR := Lib.hid hR
      have Hb := Lib.hid (below_setRow hb (by omega : g ≤ g + 1) (u8s (Wrp.xt a t)).toArray)
      have HOe := Lib.hid (u8s_one (Wrp.xt a t))
      clear hA hB hR hb hE hL2
      go_wp2_with (first | refine wpList_load_arr rfl 55 (.tmp 2) rfl rfl (u8s (Wrp.xt a t)).toArray hld ?_ | refine wpList_store_arr rfl 55 (.tmp 4) (.tmp 22) (g + 1) _ _ rfl rfl rfl rfl HR.out HSz.out HZe.out HOe.out ?_)
      try simp only [Act.put, List.setIfInBounds_toArray, List.set]
      refine bodyPost_ret (v := .agg (u8s (Wrp.xt a t)).toArray) ?_ rfl ⟨rfl, by rw [HG.out]; exact Hb.out⟩
      generalize (u8s (Wrp.xt a t)).toArray = X at hbk ⊢
      simp [results, Tryz.results54, asAddr, hbk]

set_option maxHeartbeats 2000000 in
set_option maxRecDepth 100000 in
theorem joinedW_any (w : World) (a b : List UInt8) (x y : Array Value) (hx : x = (u8s a).toArray) (hy : y = (u8s b).toArray) (ha : a.length = 8) (hb : b.length = 8) :
    Calls Tryz.prog 53 #[.agg x, .agg y] w fun e w' => e = .returned (.agg (u8s (a ++ b)).toArray) ∧ Below w.heap.size w w' := by
  subst hx
  subst hy
  obtain ⟨g, hg⟩ : ∃ g, w.heap.size = g := ⟨_, rfl⟩
  have hA1 := Blk.new w 55 (u8s a)
  have hb1 := below_alloc w (.cells (u8s a).toArray 55)
  have hs1 : (w.alloc (.cells (u8s a).toArray 55)).heap.size = w.heap.size + 1 := World.size_alloc _ _
  obtain ⟨w1, hw1⟩ : ∃ w1, w.alloc (.cells (u8s a).toArray 55) = w1 := ⟨_, rfl⟩
  rw [hw1] at hA1 hb1 hs1
  have hA2 := hA1.alloc (.cells (u8s b).toArray 55)
  have hB2 := Blk.new w1 55 (u8s b)
  have hb2 := hb1.alloc hb1.size (.cells (u8s b).toArray 55)
  have hs2 : (w1.alloc (.cells (u8s b).toArray 55)).heap.size = w1.heap.size + 1 := World.size_alloc _ _
  obtain ⟨w2, hw2⟩ : ∃ w2, w1.alloc (.cells (u8s b).toArray 55) = w2 := ⟨_, rfl⟩
  rw [hw2] at hA2 hB2 hb2 hs2
  have hA3 := hA2.alloc (.cells zr16.toArray 32)
  have hB3 := hB2.alloc (.cells zr16.toArray 32)
  have hR3 := Blk.new w2 32 zr16
  have hb3 := hb2.alloc hb2.size (.cells zr16.toArray 32)
  have hs3 : (w2.alloc (.cells zr16.toArray 32)).heap.size = w2.heap.size + 1 := World.size_alloc _ _
  obtain ⟨w3, hw3⟩ : ∃ w3, w2.alloc (.cells zr16.toArray 32) = w3 := ⟨_, rfl⟩
  rw [hw3] at hA3 hB3 hR3 hb3 hs3
  have hA4 := hA3.alloc (.cells zr16.toArray 32)
  have hB4 := hB3.alloc (.cells zr16.toArray 32)
  have hR4 := hR3.alloc (.cells zr16.toArray 32)
  have hX4 := Blk.new w3 32 zr16
  have hb4 := hb3.alloc hb3.size (.cells zr16.toArray 32)
  obtain ⟨w4, hw4⟩ : ∃ w4, w3.alloc (.cells zr16.toArray 32) = w4 := ⟨_, rfl⟩
  rw [hw4] at hA4 hB4 hR4 hX4 hb4
  rw [hs3, hs2, hs1] at hX4
  rw [hs2, hs1] at hR4
  rw [hs1] at hB4
  rw [hg] at hA4 hB4 hR4 hX4 hb4 hs1 ⊢
  have hA5 := hA4.drew
  have hB5 := hB4.drew
  have hR5 := hR4.drew
  have hX5 := hX4.drew
  have hb5 := hb4.drew
  have hcp1 := run_copy_seg (P := Tryz.prog) (w := w4.drew) 23 23 3 5 Tryz.und22 Tryz.size5 (g + 1 + 1 + 1) 0 16 16 8 8 g 0 a 8 (fun i c hi => by rw [Nat.zero_add]; exact blk_byte hA5 hi) ha.symm (by rw [ha]; rfl) _ _ hX5 (by decide)
  have e1 : zr16.take 0 ++ u8s (a.take 8) ++ zr16.drop (0 + 8) = u8s (a ++ List.replicate 8 0) := by
    rw [List.take_of_length_le (by omega : a.length ≤ 8), u8s_app]; rfl
  rw [e1] at hcp1
  have hX6 := (hX5.row (u8s (a ++ List.replicate 8 0))).drew
  have hB6 := (hB5.rowFar (g' := g + 1 + 1 + 1) (by omega) (u8s (a ++ List.replicate 8 0)).toArray).drew
  have hR6 := (hR5.rowFar (g' := g + 1 + 1 + 1) (by omega) (u8s (a ++ List.replicate 8 0)).toArray).drew
  have hb6 := (below_setRow hb5 (by omega : g ≤ g + 1 + 1 + 1) (u8s (a ++ List.replicate 8 0)).toArray).drew
  obtain ⟨w6, hw6⟩ : ∃ w6, (w4.drew.setRow (g + 1 + 1 + 1) (u8s (a ++ List.replicate 8 0)).toArray) = w6 := ⟨_, rfl⟩
  rw [hw6] at hcp1 hX6 hB6 hR6 hb6
  have hcp2 := run_copy_seg (P := Tryz.prog) (w := w6.drew) 23 23 3 5 Tryz.und22 Tryz.size5 (g + 1 + 1 + 1) 8 8 8 8 8 (g + 1) 0 b 8 (fun i c hi => by rw [Nat.zero_add]; exact blk_byte hB6 hi) hb.symm (by rw [hb]; rfl) _ _ hX6 (by rw [u8s_len, List.length_append, ha]; decide)
  have e2 : (u8s (a ++ List.replicate 8 0)).take 8 ++ u8s (b.take 8) ++ (u8s (a ++ List.replicate 8 0)).drop (8 + 8) = u8s (a ++ b) := by
    rw [List.take_of_length_le (by omega : b.length ≤ 8), u8s_app, List.take_left' (by rw [u8s_len, ha]), List.drop_eq_nil_of_le (by rw [List.length_append, u8s_len, u8s_len, ha]; simp), List.append_nil, u8s_app]
  rw [e2] at hcp2
  have hX7 := hX6.row (u8s (a ++ b))
  have hR7 := hR6.rowFar (g' := g + 1 + 1 + 1) (by omega) (u8s (a ++ b)).toArray
  have hb7 := below_setRow hb6 (by omega : g ≤ g + 1 + 1 + 1) (u8s (a ++ b)).toArray
  obtain ⟨w7, hw7⟩ : ∃ w7, (w6.drew.setRow (g + 1 + 1 + 1) (u8s (a ++ b)).toArray) = w7 := ⟨_, rfl⟩
  rw [hw7] at hcp2 hX7 hR7 hb7
  have hl16 : (a ++ b).length = 16 := by rw [List.length_append, ha, hb]
  have hSz := sizeA16 (a ++ b) hl16
  have hld := run_loadVar_row (P := Tryz.prog) w7 (g + 1 + 1 + 1) 32 32 (u8s (a ++ b)).toArray (0, 0) _ hX7 Tryz.und16 rfl (by simpa using hSz)
  have hbk := run_loadVar_row (P := Tryz.prog) _ (g + 1 + 1) 32 32 (u8s (a ++ b)).toArray (0, 0) _ (hR7.row (u8s (a ++ b))) Tryz.und16 rfl (by simpa using hSz)
  have HSz := Lib.hid hSz
  have HZe : Hid (zr16.length = (u8s (a ++ b)).length) := Lib.hid (by rw [u8s_len, hl16]; rfl)
  have HR := Lib.hid hR7
  have Hb := Lib.hid (below_setRow hb7 (by omega : g ≤ g + 1 + 1) (u8s (a ++ b)).toArray)
  have HOe := Lib.hid (u8s_one (a ++ b))
  have HW1 := Lib.hid hw1
  have HW2 := Lib.hid hw2
  have HW3 := Lib.hid hw3
  have HW4 := Lib.hid hw4
  have HG := Lib.hid hg
  have HS1 := Lib.hid hs1
  have HS2 : Hid (w2.heap.size = g + 1 + 1) := Lib.hid (by rw [hs2, hs1])
  have HS3 : Hid (w3.heap.size = g + 1 + 1 + 1) := Lib.hid (by rw [hs3, hs2, hs1])
  clear ha hb hA1 hb1 hA2 hB2 hb2 hA3 hB3 hR3 hb3 hs1 hs2 hs3 hw1 hw2 hw3 hw4 hg hA4 hB4 hR4 hX4 hb4 hA5 hB5 hR5 hX5 hb5 e1 e2 hX6 hB6 hR6 hb6 hw6 hX7 hR7 hb7 hw7 hl16 hSz
  go_enter Tryz.func53, Tryz.ntmps53
  go_wp2_with (first | (refine wpList_box_arr rfl 55 (.tmp 0) (u8s a).toArray rfl rfl ?_; rw [HW1.out, HG.out]) | (refine wpList_box_arr rfl 55 (.tmp 1) (u8s b).toArray rfl rfl ?_; rw [HW2.out, HS1.out]) | (refine wpList_alloc_arr rfl 32 zr16.toArray rfl zeroR16 ?_; rw [HW3.out, HS2.out]) | (refine wpList_alloc_arr rfl 32 zr16.toArray rfl zeroR16 ?_; rw [HW4.out, HS3.out]))
  go_region
  go_wp2
  go_region
  go_wp2_with (first | refine wpList_load_arr rfl 32 (.tmp 5) rfl rfl (u8s (a ++ b)).toArray hld ?_ | refine wpList_store_arr rfl 32 (.tmp 4) (.tmp 12) (g + 1 + 1) _ _ rfl rfl rfl rfl HR.out HSz.out HZe.out HOe.out ?_)
  try simp only [Act.put, List.setIfInBounds_toArray, List.set]
  refine bodyPost_ret (v := .agg (u8s (a ++ b)).toArray) ?_ rfl ⟨rfl, Hb.out⟩
  generalize (u8s (a ++ b)).toArray = X at hbk ⊢
  simp [results, Tryz.results53, asAddr, hbk]
end Go.Proofs.YtdipflchmooakaaGreatDoor
