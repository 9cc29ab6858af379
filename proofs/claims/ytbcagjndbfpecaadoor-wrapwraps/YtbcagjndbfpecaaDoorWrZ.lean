/-
  The landed wrap: wrappable, joined, counted: contracts. The landed wrap: bytes.Clone; what the rounds of forward and backward find; forward: its contract. The landed wrap: backward: its contract. The landed wrap: slices.Grow of nil, slices.Concat of two; Wrap: its contract. The landed wrap: Wrap and Unwrap: their contracts, wherever the package's variable lies as its text lays it. The landed wrap keeps its contract wherever the package's variable lies as its text lays it.
-/
import Derived.Test.YtbcagjndbfpecaaDoorAesC
import Derived.Test.YtbcagjndbfpecaaDoorMidB
import Derived.Test.YtbcagjndbfpecaaDoorShGh
import Derived.Test.YtbcagjndbfpecaaDoorOctI
import Derived.Test.YtbcagjndbfpecaaDoorWrapC
import Derived.RegionTactic
import Derived.BigRegion
import Derived.Test.YtbcagjndbfpecaaDoorAesN
import Derived.Test.YtbcagjndbfpecaaDoorApp2
import Derived.Test.YtbcagjndbfpecaaDoorReg3
import Derived.Lib.LazyBuf
import Derived.Lib.AppendZeros
namespace Go.Gar
open Go.RowKit
/-- copy, its run known. -/
theorem wpList_copy_run {P : Program} {w : World} {ops : Array Oper} {rest : List Oper} {o : Oper} {a : Act} {Q : Exit → Act → World → Prop} (hgd : o.guard = none) (s x : Operand) (ts : Array TypeId)
    (ho : o.op = .call { callee := .builtin .copy, args := #[s, x], argTypes := ts }) {vs vx v : Value} {w' : World} (hs : a.eval s = vs) (hx : a.eval x = vx)
    (hrun : (Builtin.copy_ ts o.type #[vs, vx]).run P w = .ok v w') (h : wpList P ops Q rest (a.put o.dst v) w') : wpList P ops Q (o :: rest) a w := by
  refine wpList_run hgd (v := v) (w' := w') ?_ h
  unfold execOp
  simp only [ho, resolve, invoke, builtin, Sem.run_bind, Sem.run_pure, Result.andThen_ok, List.map_toArray, List.map_cons, List.map_nil, hs, hx, hrun]
end Go.Gar
namespace Go.Proofs.YtbcagjndbfpecaaDoor
open Go.RowKit Go.Gar Go.Gar.Aes

theorem Tryd.und8 : Tryd.prog.underlying 36 = some (.array 8 5) := by kernel_rfl
theorem Tryd.size8 : (Tryd.prog.info? 36).map (·.size) = some 8 := by kernel_rfl
theorem Tryd.info8 : (Tryd.prog.info? 36).map (fun i => (i.zero, i.size)) = some (some (.agg (Array.replicate 8 (.int .u8 0))), 8) := by kernel_rfl
theorem sizeA8 (l : List UInt8) (h : l.length = 8) : (Tryd.prog.info? 36).map (·.size) = some (u8s l).length := by rw [u8s_len, h]; exact Tryd.size8
def zr8 : List Value := List.replicate 8 (.int .u8 0)
theorem zeroR8 (w : World) : (zeroValue 36).run Tryd.prog w = .ok (.agg zr8.toArray) w := by
  have := (zero_of_info Tryd.info8).1 w
  rw [this]
  rfl

theorem wrappable_any (w : World) (z : Int) (r : Bool) (hr : r = decide (z % 8 = 0 ∧ 16 ≤ z ∧ z ≤ 256)) (hz : -8 ≤ z) (hz2 : z ≤ 9223372036854775807) :
    Calls Tryd.prog 13 #[.int .i64 z] w fun e w' => e = .returned (.bool r) ∧ w' = w := by
  have ht : z.tmod 8 = 0 ↔ z % 8 = 0 := ⟨fun h => Int.emod_eq_zero_of_dvd (Int.dvd_of_tmod_eq_zero h), fun h => Int.tmod_eq_zero_of_dvd (Int.dvd_of_emod_eq_zero h)⟩
  have HT := Lib.hid ht
  have HR := Lib.hid hr
  clear hr ht
  go_enter Tryd.func13, Tryd.ntmps13
  go_wp2
  · go_ret
    rename_i h1 h2
    have h3 := HT.out.1 h1
    rw [HR.out]
    refine ⟨?_, rfl⟩
    simp [h3]
    try omega
  · go_ret
    rename_i h1 h2
    have h3 := HT.out.1 h1
    rw [HR.out]
    refine ⟨?_, rfl⟩
    simp [h3]
    try omega
  · go_ret
    rename_i h1
    have h3 : ¬ z % 8 = 0 := fun h => h1 (HT.out.2 h)
    rw [HR.out]
    refine ⟨?_, rfl⟩
    simp [h3]

theorem be_small (t : Nat) (ht : t < 256) (j : Nat) (hj : j < 8) : (be t 8)[j]? = some (if j = 7 then UInt8.ofNat t else 0) := by
  rw [be, List.getElem?_map, List.getElem?_range hj]
  simp only [Option.map_some]
  split
  · next h => subst h; simp
  · next h =>
    have h2 : t / 2 ^ (8 * (8 - 1 - j)) = 0 := by
      refine Nat.div_eq_of_lt (Nat.lt_of_lt_of_le ht ?_)
      have : 2 ^ 8 ≤ 2 ^ (8 * (8 - 1 - j)) := Nat.pow_le_pow_right (by omega) (by omega)
      exact this
    rw [h2]
    rfl
theorem xt_get (a : List UInt8) (t : Nat) (ha : a.length = 8) (ht : t < 256) (j : Nat) (hj : j < 8) : (Wrp.xt a t)[j]? = some (at_ a j ^^^ at_ (be t 8) j) := by
  have hb : at_ (be t 8) j = if j = 7 then UInt8.ofNat t else 0 := by rw [at_, List.getD_eq_getElem?_getD, be_small t ht j hj]; rfl
  rw [hb, Wrp.xt]
  split
  · next h => subst h; rw [List.getElem?_set_self (by omega)]
  · next h => rw [List.getElem?_set_ne (by omega), UInt8.xor_zero]; exact at_get (by omega)
theorem int_nil (n : Int) (w : World) : Calls Tryd.prog 42 #[.slice none 0 0, .int .i64 n] w fun e w' =>
      e = .returned (.slice (some ⟨w.heap.size, 0, none⟩) 8 8) ∧ Blk w' w.heap.size 5 (u8s (be (b64 n) 8)) ∧ Below w.heap.size w w' := by
  have := int_any none [] 0 n w Rd.nil (by simp)
  simpa using this

set_option maxHeartbeats 2000000 in
set_option maxRecDepth 100000 in
theorem counted_any (w : World) (a : List UInt8) (x : Array Value) (t : Nat) (z : Int) (hx : x = (u8s a).toArray) (hz : z = (t : Int)) (ha : a.length = 8) (ht : t < 256) :
    Calls Tryd.prog 27 #[.agg x, .int .i64 z] w fun e w' => e = .returned (.agg (u8s (Wrp.xt a t)).toArray) ∧ Below w.heap.size w w' := by
  subst hx
  subst hz
  have HA := Lib.hid ha
  have hA1 := Blk.new w 36 (u8s a)
  have hb1 := below_alloc w (.cells (u8s a).toArray 36)
  have hs1 : (w.alloc (.cells (u8s a).toArray 36)).heap.size = w.heap.size + 1 := World.size_alloc _ _
  obtain ⟨w1, hw1⟩ : ∃ w1, w.alloc (.cells (u8s a).toArray 36) = w1 := ⟨_, rfl⟩
  rw [hw1] at hA1 hb1 hs1
  have hA2 := hA1.alloc (.cells zr8.toArray 36)
  have hR2 := Blk.new w1 36 zr8
  have hb2 := hb1.alloc hb1.size (.cells zr8.toArray 36)
  have hs2 : (w1.alloc (.cells zr8.toArray 36)).heap.size = w1.heap.size + 1 := World.size_alloc _ _
  obtain ⟨w2, hw2⟩ : ∃ w2, w1.alloc (.cells zr8.toArray 36) = w2 := ⟨_, rfl⟩
  rw [hw2] at hA2 hR2 hb2 hs2
  have HW1 := Lib.hid hw1
  have HW2 := Lib.hid hw2
  have HS1 := Lib.hid hs1
  have HS2 := Lib.hid hs2
  have HA2 := Lib.hid hA2
  have HR2 := Lib.hid hR2
  have Hb2 := Lib.hid hb2
  have Ht := Lib.hid ht
  clear ha ht hA1 hb1 hA2 hR2 hb2 hs1 hs2 hw1 hw2
  go_enter Tryd.func27, Tryd.ntmps27
  go_wp2_with (first | (refine wpList_box_arr rfl 36 (.tmp 0) (u8s a).toArray rfl rfl ?_; rw [HW1.out]) | (refine wpList_alloc_arr rfl 36 zr8.toArray rfl zeroR8 ?_; rw [HW2.out]) | fail)
  refine (int_nil (t : Int) w2).mono ?_
  rintro e w3 ⟨rfl, hB3, hb3⟩
  rw [show b64 (t : Int) = t from by have := Ht.out; unfold b64; omega] at hB3
  obtain ⟨g, hg⟩ : ∃ g, w.heap.size = g := ⟨_, rfl⟩
  have HG := Lib.hid hg
  have h1 := HS1.out
  have h2 := HS2.out
  rw [h1, hg] at h2
  rw [h1, hg] at HR2
  rw [h2] at hB3 hb3 ⊢
  rw [h1]
  rw [hg] at HA2 Hb2 ⊢
  have HA3 := Lib.hid (HA2.out.below hb3 (by omega))
  have HR3 := Lib.hid (HR2.out.below hb3 (by omega))
  have HB3 := Lib.hid hB3
  have Hb3 := Lib.hid (Hb2.out.trans (hb3.mono (by omega)))
  have HSz := Lib.hid (sizeA8 (Wrp.xt a t) (by rw [Wrp.xt_len]; exact HA.out))
  have HZe : Hid (zr8.length = (u8s (Wrp.xt a t)).length) := Lib.hid (by rw [u8s_len, Wrp.xt_len, HA.out]; rfl)
  clear hB3 hb3 h1 h2 hg HA2 HR2 Hb2 HS1 HS2 HW1 HW2
  generalize (u8s a).toArray = xa
  go_wp2
  go_loopw [10] (fun i w' => ∃ j : Nat, j ≤ 8 ∧ i = .int .i64 (j : Int) ∧ Blk w' g 36 (u8s (prog a (Wrp.xt a t) j)) ∧ Blk w' (g + 1) 36 zr8 ∧ Blk w' (g + 1 + 1) 5 (u8s (be t 8)) ∧ Below g w w') (fun i _ => 8 - (intOf i).toNat)
  case atStart => exact ⟨0, by omega, rfl, by rw [prog_0]; exact HA3.out, HR3.out, HB3.out, Hb3.out⟩
  case round =>
    obtain ⟨j, hj, rfl, hA, hR, hB, hb⟩ := hrel
    clear HA3 HB3 HR3 Hb3
    have hL2 : (Wrp.xt a t).length = a.length := Wrp.xt_len _ _
    by_cases hlt : j < 8
    · have hc1 := blk_byte hA (i := j) (c := at_ a j) (by rw [prog_get _ _ _ hL2 (by rw [HA.out]; exact hlt), at_get (by rw [HA.out]; exact hlt)])
      have hc2 := blk_byte hB (i := j) (c := at_ (be t 8) j) (by rw [at_get (by rw [be_len]; exact hlt)])
      have hz := xt_get a t HA.out Ht.out j hlt
      have hf := hA.frozen j
      have hS := hA.set_ j (.int .u8 ((at_ a j ^^^ at_ (be t 8) j).toNat : Int))
      have hBf := hB.far (p := ⟨g, j, none⟩) (by show g + 1 + 1 ≠ g; omega) (.int .u8 ((at_ a j ^^^ at_ (be t 8) j).toNat : Int))
      have hRf := hR.far (p := ⟨g, j, none⟩) (by show g + 1 ≠ g; omega) (.int .u8 ((at_ a j ^^^ at_ (be t 8) j).toNat : Int))
      have hbf := hb.setCell (p := ⟨g, j, none⟩) (Nat.le_refl g) (.int .u8 ((at_ a j ^^^ at_ (be t 8) j).toNat : Int))
      rw [u8s_set, prog_set _ _ _ _ hL2 hz, ← xor_byte] at hS
      rw [← xor_byte] at hBf hRf hbf
      have HS := Lib.hid hS
      have HBf := Lib.hid hBf
      have HRf := Lib.hid hRf
      have Hbf := Lib.hid hbf
      have hx8 := (at_ a j).toNat_lt
      have hy8 := (at_ (be t 8) j).toNat_lt
      clear hS hBf hRf hbf hA hB hR hb hz hL2
      generalize (at_ a j).toNat = xn at *
      generalize (at_ (be t 8) j).toNat = yn at *
      go_wp2
      exact ⟨⟨j + 1, by omega, by go_num, HS.out, HRf.out, HBf.out, Hbf.out⟩, by simp [intOf]; omega⟩
    · have hE : prog a (Wrp.xt a t) j = Wrp.xt a t := prog_end _ _ _ (by rw [HA.out]; omega) (by rw [hL2, HA.out]; omega)
      rw [hE] at hA
      have hld := run_loadVar_row (P := Tryd.prog) wr g 36 36 (u8s (Wrp.xt a t)).toArray (0, 0) _ hA Tryd.und8 rfl (by simpa using HSz.out)
      have hbk := run_loadVar_row (P := Tryd.prog) _ (g + 1) 36 36 (u8s (Wrp.xt a t)).toArray (0, 0) _ (hR.row (u8s (Wrp.xt a t))) Tryd.und8 rfl (by simpa using HSz.out)
      have HR := Lib.hid hR
      have Hb := Lib.hid (below_setRow hb (by omega : g ≤ g + 1) (u8s (Wrp.xt a t)).toArray)
      have HOe := Lib.hid (u8s_one (Wrp.xt a t))
      clear hA hB hR hb hE hL2
      go_wp2_with (first | refine wpList_load_arr rfl 36 (.tmp 2) rfl rfl (u8s (Wrp.xt a t)).toArray hld ?_ | refine wpList_store_arr rfl 36 (.tmp 4) (.tmp 22) (g + 1) _ _ rfl rfl rfl rfl HR.out HSz.out HZe.out HOe.out ?_)
      try simp only [Act.put, List.setIfInBounds_toArray, List.set]
      refine bodyPost_ret (v := .agg (u8s (Wrp.xt a t)).toArray) ?_ rfl ⟨rfl, by rw [HG.out]; exact Hb.out⟩
      generalize (u8s (Wrp.xt a t)).toArray = X at hbk ⊢
      simp [results, Tryd.results27, asAddr, hbk]

set_option maxHeartbeats 2000000 in
set_option maxRecDepth 100000 in
theorem joined_any (w : World) (a b : List UInt8) (x y : Array Value) (hx : x = (u8s a).toArray) (hy : y = (u8s b).toArray) (ha : a.length = 8) (hb : b.length = 8) :
    Calls Tryd.prog 26 #[.agg x, .agg y] w fun e w' => e = .returned (.agg (u8s (a ++ b)).toArray) ∧ Below w.heap.size w w' := by
  subst hx
  subst hy
  obtain ⟨g, hg⟩ : ∃ g, w.heap.size = g := ⟨_, rfl⟩
  have hA1 := Blk.new w 36 (u8s a)
  have hb1 := below_alloc w (.cells (u8s a).toArray 36)
  have hs1 : (w.alloc (.cells (u8s a).toArray 36)).heap.size = w.heap.size + 1 := World.size_alloc _ _
  obtain ⟨w1, hw1⟩ : ∃ w1, w.alloc (.cells (u8s a).toArray 36) = w1 := ⟨_, rfl⟩
  rw [hw1] at hA1 hb1 hs1
  have hA2 := hA1.alloc (.cells (u8s b).toArray 36)
  have hB2 := Blk.new w1 36 (u8s b)
  have hb2 := hb1.alloc hb1.size (.cells (u8s b).toArray 36)
  have hs2 : (w1.alloc (.cells (u8s b).toArray 36)).heap.size = w1.heap.size + 1 := World.size_alloc _ _
  obtain ⟨w2, hw2⟩ : ∃ w2, w1.alloc (.cells (u8s b).toArray 36) = w2 := ⟨_, rfl⟩
  rw [hw2] at hA2 hB2 hb2 hs2
  have hA3 := hA2.alloc (.cells zr16.toArray 56)
  have hB3 := hB2.alloc (.cells zr16.toArray 56)
  have hR3 := Blk.new w2 56 zr16
  have hb3 := hb2.alloc hb2.size (.cells zr16.toArray 56)
  have hs3 : (w2.alloc (.cells zr16.toArray 56)).heap.size = w2.heap.size + 1 := World.size_alloc _ _
  obtain ⟨w3, hw3⟩ : ∃ w3, w2.alloc (.cells zr16.toArray 56) = w3 := ⟨_, rfl⟩
  rw [hw3] at hA3 hB3 hR3 hb3 hs3
  have hA4 := hA3.alloc (.cells zr16.toArray 56)
  have hB4 := hB3.alloc (.cells zr16.toArray 56)
  have hR4 := hR3.alloc (.cells zr16.toArray 56)
  have hX4 := Blk.new w3 56 zr16
  have hb4 := hb3.alloc hb3.size (.cells zr16.toArray 56)
  obtain ⟨w4, hw4⟩ : ∃ w4, w3.alloc (.cells zr16.toArray 56) = w4 := ⟨_, rfl⟩
  rw [hw4] at hA4 hB4 hR4 hX4 hb4
  rw [hs3, hs2, hs1] at hX4
  rw [hs2, hs1] at hR4
  rw [hs1] at hB4
  rw [hg] at hA4 hB4 hR4 hX4 hb4 hs1 ⊢
  have hA5 := hA4.drew
  have hB5 := hB4.drew
  have hR5 := hR4.drew
  have hX5 := hX4.drew
  have hb5 := hb4.drew
  have hcp1 := run_copy_seg (P := Tryd.prog) (w := w4.drew) 22 22 3 5 Tryd.und22 Tryd.size5 (g + 1 + 1 + 1) 0 16 16 8 8 g 0 a 8 (fun i c hi => by rw [Nat.zero_add]; exact blk_byte hA5 hi) ha.symm (by rw [ha]; rfl) _ _ hX5 (by decide)
  have e1 : zr16.take 0 ++ u8s (a.take 8) ++ zr16.drop (0 + 8) = u8s (a ++ List.replicate 8 0) := by
    rw [List.take_of_length_le (by omega : a.length ≤ 8), u8s_app]; rfl
  rw [e1] at hcp1
  have hX6 := (hX5.row (u8s (a ++ List.replicate 8 0))).drew
  have hB6 := (hB5.rowFar (g' := g + 1 + 1 + 1) (by omega) (u8s (a ++ List.replicate 8 0)).toArray).drew
  have hR6 := (hR5.rowFar (g' := g + 1 + 1 + 1) (by omega) (u8s (a ++ List.replicate 8 0)).toArray).drew
  have hb6 := (below_setRow hb5 (by omega : g ≤ g + 1 + 1 + 1) (u8s (a ++ List.replicate 8 0)).toArray).drew
  obtain ⟨w6, hw6⟩ : ∃ w6, (w4.drew.setRow (g + 1 + 1 + 1) (u8s (a ++ List.replicate 8 0)).toArray) = w6 := ⟨_, rfl⟩
  rw [hw6] at hcp1 hX6 hB6 hR6 hb6
  have hcp2 := run_copy_seg (P := Tryd.prog) (w := w6.drew) 22 22 3 5 Tryd.und22 Tryd.size5 (g + 1 + 1 + 1) 8 8 8 8 8 (g + 1) 0 b 8 (fun i c hi => by rw [Nat.zero_add]; exact blk_byte hB6 hi) hb.symm (by rw [hb]; rfl) _ _ hX6 (by rw [u8s_len, List.length_append, ha]; decide)
  have e2 : (u8s (a ++ List.replicate 8 0)).take 8 ++ u8s (b.take 8) ++ (u8s (a ++ List.replicate 8 0)).drop (8 + 8) = u8s (a ++ b) := by
    rw [List.take_of_length_le (by omega : b.length ≤ 8), u8s_app, List.take_left' (by rw [u8s_len, ha]), List.drop_eq_nil_of_le (by rw [List.length_append, u8s_len, u8s_len, ha]; simp), List.append_nil, u8s_app]
  rw [e2] at hcp2
  have hX7 := hX6.row (u8s (a ++ b))
  have hR7 := hR6.rowFar (g' := g + 1 + 1 + 1) (by omega) (u8s (a ++ b)).toArray
  have hb7 := below_setRow hb6 (by omega : g ≤ g + 1 + 1 + 1) (u8s (a ++ b)).toArray
  obtain ⟨w7, hw7⟩ : ∃ w7, (w6.drew.setRow (g + 1 + 1 + 1) (u8s (a ++ b)).toArray) = w7 := ⟨_, rfl⟩
  rw [hw7] at hcp2 hX7 hR7 hb7
  have hl16 : (a ++ b).length = 16 := by rw [List.length_append, ha, hb]
  have hSz := sizeA16 (a ++ b) hl16
  have hld := run_loadVar_row (P := Tryd.prog) w7 (g + 1 + 1 + 1) 56 56 (u8s (a ++ b)).toArray (0, 0) _ hX7 Tryd.und16 rfl (by simpa using hSz)
  have hbk := run_loadVar_row (P := Tryd.prog) _ (g + 1 + 1) 56 56 (u8s (a ++ b)).toArray (0, 0) _ (hR7.row (u8s (a ++ b))) Tryd.und16 rfl (by simpa using hSz)
  have HSz := Lib.hid hSz
  have HZe : Hid (zr16.length = (u8s (a ++ b)).length) := Lib.hid (by rw [u8s_len, hl16]; rfl)
  have HR := Lib.hid hR7
  have Hb := Lib.hid (below_setRow hb7 (by omega : g ≤ g + 1 + 1) (u8s (a ++ b)).toArray)
  have HOe := Lib.hid (u8s_one (a ++ b))
  have HW1 := Lib.hid hw1
  have HW2 := Lib.hid hw2
  have HW3 := Lib.hid hw3
  have HW4 := Lib.hid hw4
  have HG := Lib.hid hg
  have HS1 := Lib.hid hs1
  have HS2 : Hid (w2.heap.size = g + 1 + 1) := Lib.hid (by rw [hs2, hs1])
  have HS3 : Hid (w3.heap.size = g + 1 + 1 + 1) := Lib.hid (by rw [hs3, hs2, hs1])
  clear ha hb hA1 hb1 hA2 hB2 hb2 hA3 hB3 hR3 hb3 hs1 hs2 hs3 hw1 hw2 hw3 hw4 hg hA4 hB4 hR4 hX4 hb4 hA5 hB5 hR5 hX5 hb5 e1 e2 hX6 hB6 hR6 hb6 hw6 hX7 hR7 hb7 hw7 hl16 hSz
  go_enter Tryd.func26, Tryd.ntmps26
  go_wp2_with (first | (refine wpList_box_arr rfl 36 (.tmp 0) (u8s a).toArray rfl rfl ?_; rw [HW1.out, HG.out]) | (refine wpList_box_arr rfl 36 (.tmp 1) (u8s b).toArray rfl rfl ?_; rw [HW2.out, HS1.out]) | (refine wpList_alloc_arr rfl 56 zr16.toArray rfl zeroR16 ?_; rw [HW3.out, HS2.out]) | (refine wpList_alloc_arr rfl 56 zr16.toArray rfl zeroR16 ?_; rw [HW4.out, HS3.out]))
  go_region
  go_wp2
  go_region
  go_wp2_with (first | refine wpList_load_arr rfl 56 (.tmp 5) rfl rfl (u8s (a ++ b)).toArray hld ?_ | refine wpList_store_arr rfl 56 (.tmp 4) (.tmp 12) (g + 1 + 1) _ _ rfl rfl rfl rfl HR.out HSz.out HZe.out HOe.out ?_)
  try simp only [Act.put, List.setIfInBounds_toArray, List.set]
  refine bodyPost_ret (v := .agg (u8s (a ++ b)).toArray) ?_ rfl ⟨rfl, Hb.out⟩
  generalize (u8s (a ++ b)).toArray = X at hbk ⊢
  simp [results, Tryd.results26, asAddr, hbk]
end Go.Proofs.YtbcagjndbfpecaaDoor
namespace Go.Proofs.YtbcagjndbfpecaaDoor
open Go.RowKit Go.Gar Go.Gar.Aes

set_option maxHeartbeats 1000000 in
theorem clone_any (w : World) (A : Option Addr) (b : List UInt8) (n c : Nat) (hn : n = b.length) (h0 : 0 < n) (hl : n ≤ 1048576) (hr : Rd w w.heap.size A b) :
    Calls Tryd.prog 24 #[.slice A n c] w fun e w' => ∃ g cp rest, e = .returned (.slice (some ⟨g, 0, none⟩) n cp) ∧ n ≤ cp ∧ w.heap.size ≤ g ∧ Blk w' g 5 (u8s b ++ rest) ∧ Below w.heap.size w w' := by
  have hne : ∃ p, A = some p := by
    rcases hr with h | ⟨g, o, e, _⟩
    · rw [hn, h] at h0; exact absurd h0 (by simp)
    · exact ⟨_, e⟩
  obtain ⟨p, rfl⟩ := hne
  have hO := own_made w w.heap.size 5 (Nat.le_refl _)
  have hb0 := below_alloc w (.cells #[] 5)
  obtain ⟨v1, w1, e1, ho1, hb1, _⟩ := app_rd (P := Tryd.prog) 22 22 Tryd.und22 Tryd.info5 hO (by rw [World.size_alloc]; omega) c (hr.below hb0) (by simp; omega)
  rw [List.nil_append] at ho1
  rw [← hn] at e1
  obtain ⟨g, cp, rest, rfl, hg, hcp, hB⟩ := ho1.blk (by omega)
  rw [← hn] at hcp e1
  have Hb1 := Lib.hid (hb0.trans hb1)
  have HB := Lib.hid hB
  have Hcp := Lib.hid hcp
  have Hg := Lib.hid hg
  have hq := run_eql_slice_nil (P := Tryd.prog) w 22 5 (some p) n c Tryd.und22
  rw [Option.isNone_some] at hq
  clear hO hb0 hb1 ho1 hg hcp hB hr hn
  go_enter Tryd.func24, Tryd.ntmps24
  go_wp2_with (at_builtin; refine wpList_append_run rfl (.tmp 5) (.tmp 6) _ rfl rfl rfl e1 ?_)
  go_ret
  exact ⟨g, cp, rest, rfl, Hcp.out, Hg.out, HB.out, Hb1.out⟩

theorem run_arr8 (g o n c : Nat) (h : 8 ≤ n) (W : World) : (Instr.arrayAt 36 (.slice (some ⟨g, o, none⟩) n c)).run Tryd.prog W = .ok (.pointer (some ⟨g, o, none⟩)) W := by
  have h1 : ¬ n < 8 := by omega
  simp [Instr.arrayAt, run_underlying Tryd.und8 W, h1]
theorem load_at8 {W : World} {g o : Nat} {t : TypeId} {cs : List Value} {x : List UInt8} (h : Blk W g t cs) (hx : x.length = 8) (hc : ∀ j v, (u8s x)[j]? = some v → cs[o + j]? = some v) : (loadVar 36 ⟨g, o, none⟩).run Tryd.prog W = .ok (.agg (u8s x).toArray) W :=
  run_loadVar_seg (P := Tryd.prog) g o cs (u8s x) h hc Tryd.und8 rfl (sizeA8 x hx)
theorem part_get (r : List UInt8) (rest : List Value) (j : Nat) (x : List UInt8) (hx : x = Wrp.b8 r j) (h : 8 * j + 8 ≤ r.length) : ∀ i v, (u8s x)[i]? = some v → (u8s r ++ rest)[8 * j + i]? = some v := by
  subst hx
  intro i v hi
  have hlt : i < 8 := by
    have := (List.getElem?_eq_some_iff.1 hi).1
    rw [u8s_len, Wrp.b8_len _ _ h] at this
    exact this
  rw [List.getElem?_append_left (by rw [u8s_len]; omega), ← hi, u8s_get, u8s_get, Wrp.b8, List.getElem?_take_of_lt hlt, List.getElem?_drop]
theorem part_put (r z : List UInt8) (rest : List Value) (j : Nat) (hz : z.length = 16) (h : 8 * j + 8 ≤ r.length) : (u8s r ++ rest).take (8 * j) ++ u8s ((z.drop 8).take 8) ++ (u8s r ++ rest).drop (8 * j + 8) = u8s (Wrp.p8 r j (z.drop 8)) ++ rest := by
  have e1 : (z.drop 8).take 8 = z.drop 8 := List.take_of_length_le (by rw [List.length_drop]; omega)
  rw [e1, Wrp.p8, List.take_append_of_le_length (by rw [u8s_len]; omega), List.drop_append_of_le_length (by rw [u8s_len]; omega), u8s_take, u8s_drop, u8s_app, u8s_app, List.append_assoc, List.append_assoc, List.append_assoc]

/-- What a round finds: the part ahead, the result's variable, the other parts' row. -/
structure Wq (w0 W : World) (gA gO gR : Nat) (a r : List UInt8) (rest : List Value) : Prop where
  a : Blk W gA 36 (u8s a)
  o : Blk W gO 36 zr8
  r : Blk W gR 5 (u8s r ++ rest)
  b : Below w0.heap.size w0 W
section
variable {w0 W W' : World} {gA gO gR : Nat} {a r : List UInt8} {rest : List Value}
theorem Wq.below (h : Wq w0 W gA gO gR a r rest) (hb : Below W.heap.size W W') : Wq w0 W' gA gO gR a r rest :=
  ⟨h.a.below hb h.a.lt, h.o.below hb h.o.lt, h.r.below hb h.r.lt, h.b.trans (hb.mono h.b.size)⟩
theorem Wq.setA (h : Wq w0 W gA gO gR a r rest) (a' : List UInt8) (hd : gO ≠ gA ∧ gR ≠ gA ∧ w0.heap.size ≤ gA) : Wq w0 (W.setRow gA (u8s a').toArray) gA gO gR a' r rest :=
  ⟨h.a.row _, h.o.rowFar hd.1 _, h.r.rowFar hd.2.1 _, below_setRow h.b hd.2.2 _⟩
theorem Wq.setR (h : Wq w0 W gA gO gR a r rest) (r' : List UInt8) (hd : gA ≠ gR ∧ gO ≠ gR ∧ w0.heap.size ≤ gR) : Wq w0 (W.setRow gR (u8s r' ++ rest).toArray) gA gO gR a r' rest :=
  ⟨h.a.rowFar hd.1 _, h.o.rowFar hd.2.1 _, h.r.row _, below_setRow h.b hd.2.2 _⟩
theorem Wq.setX (h : Wq w0 W gA gO gR a r rest) (g : Nat) (cs : Array Value) (hd : gA ≠ g ∧ gO ≠ g ∧ gR ≠ g ∧ w0.heap.size ≤ g) : Wq w0 (W.setRow g cs) gA gO gR a r rest :=
  ⟨h.a.rowFar hd.1 _, h.o.rowFar hd.2.1 _, h.r.rowFar hd.2.2.1 _, below_setRow h.b hd.2.2.2 _⟩
end

set_option maxHeartbeats 4000000 in
set_option maxRecDepth 100000 in
theorem forward_any (w : World) (gc : Nat) (key a b : List UInt8) (A : Option Addr) (n L bc : Nat) (hs : sizeOk key.length) (hRep : Rep w gc key) (ha : a.length = 8) (hL : L = b.length) (hn : L = 8 * n) (h1 : 1 ≤ n) (h32 : n ≤ 32) (hr : Rd w w.heap.size A b)
    (Z : List UInt8 × List UInt8) (hZ : Z = Wrp.fw key n (a, b) (6 * n)) :
    Calls Tryd.prog 14 #[.pointer (some ⟨gc, 0, none⟩), .agg (u8s a).toArray, .slice A L bc] w fun e w' => ∃ g cp rest, e = .returned (.tuple #[.agg (u8s Z.1).toArray, .slice (some ⟨g, 0, none⟩) L cp]) ∧ L ≤ cp ∧ Blk w' g 5 (u8s Z.2 ++ rest) ∧ Below w.heap.size w w' := by
  obtain ⟨g, hg⟩ : ∃ g, w.heap.size = g := ⟨_, rfl⟩
  have hA1 := Blk.new w 36 (u8s a)
  have hb1 := below_alloc w (.cells (u8s a).toArray 36)
  have hs1 : (w.alloc (.cells (u8s a).toArray 36)).heap.size = w.heap.size + 1 := World.size_alloc _ _
  obtain ⟨w1, hw1⟩ : ∃ w1, w.alloc (.cells (u8s a).toArray 36) = w1 := ⟨_, rfl⟩
  rw [hw1] at hA1 hb1 hs1
  have hA2 := hA1.alloc (.cells zr8.toArray 36)
  have hO2 := Blk.new w1 36 zr8
  have hb2 := hb1.alloc hb1.size (.cells zr8.toArray 36)
  have hs2 : (w1.alloc (.cells zr8.toArray 36)).heap.size = w1.heap.size + 1 := World.size_alloc _ _
  obtain ⟨w2, hw2⟩ : ∃ w2, w1.alloc (.cells zr8.toArray 36) = w2 := ⟨_, rfl⟩
  rw [hw2] at hA2 hO2 hb2 hs2
  have hcl := clone_any w2 A b L bc hL (by omega) (by omega) ((hr.below hb2).more hb2.size)
  have HCl := Lib.hid hcl
  have HW1 := Lib.hid hw1
  have HW2 := Lib.hid hw2
  have HA2 := Lib.hid hA2
  have HO2 := Lib.hid hO2
  have Hb2 := Lib.hid hb2
  have HSz : Hid (w.heap.size = g ∧ w1.heap.size = g + 1 ∧ w2.heap.size = g + 1 + 1) := Lib.hid (by omega)
  have HRep := Lib.hid hRep
  have HS := Lib.hid hs
  have HL := Lib.hid hL
  have HN := Lib.hid hn
  have Ha := Lib.hid ha
  have HZ := Lib.hid hZ
  clear hA1 hb1 hs1 hw1 hA2 hO2 hb2 hs2 hw2 hcl hRep hs hL hn ha hZ hr
  go_enter Tryd.func14, Tryd.ntmps14
  go_wp2_with (first | (refine wpList_box_arr rfl 36 (.tmp 1) (u8s a).toArray rfl rfl ?_; rw [HW1.out]) | (refine wpList_alloc_arr rfl 36 zr8.toArray rfl zeroR8 ?_; rw [HW2.out]) | fail)
  refine HCl.out.mono ?_
  rintro e w3 ⟨gR, cp, rest, rfl, hcp, hgR, hR3, hb3⟩
  have hz := HSz.out
  have hW3 : Wq w w3 g (g + 1) gR a b rest := ⟨by have := HA2.out.below hb3 HA2.out.lt; rw [hz.1] at this; exact this, by have := HO2.out.below hb3 HO2.out.lt; rw [hz.2.1] at this; exact this, hR3, Hb2.out.trans (hb3.mono Hb2.out.size)⟩
  have HW3 := Lib.hid hW3
  have HCp := Lib.hid hcp
  have HgR : Hid (g + 1 + 1 ≤ gR) := Lib.hid (by omega)
  have Hg := Lib.hid hz.1
  clear hg hW3 hcp hgR hR3 hb3 HSz HA2 HO2 Hb2 HW1 HW2 HCl
  have hq8 : wrap64 ((L : Int) / 8) = (n : Int) := by
    have := HN.out
    rw [wrap64]
    omega
  go_wp2
  rw [hq8]
  clear hq8 hz
  go_loopw [19] (fun i w' => ∃ k : Nat, k ≤ 6 ∧ i = .int .i64 (k : Int) ∧ Wq w w' g (g + 1) gR (Wrp.fw key n (a, b) (k * n)).1 (Wrp.fw key n (a, b) (k * n)).2 rest) (fun i _ => 6 - (intOf i).toNat)
  case atStart => exact ⟨0, by omega, rfl, by rw [Nat.zero_mul]; exact HW3.out⟩
  case round =>
    obtain ⟨k, hk, rfl, hW⟩ := hrel
    clear HW3
    have HW := Lib.hid hW
    clear hW
    by_cases hlt : k < 6
    · have hlt2 : (k : Int) < 6 := by omega
      have hkn : (k : Int) * (n : Int) = ((k * n : Nat) : Int) := (Int.natCast_mul k n).symm
      have hm : k * n ≤ 160 := by
        have := Nat.mul_le_mul (show k ≤ 5 by omega) h32
        omega
      have HKN : Hid (k * n + n = (k + 1) * n) := Lib.hid (by rw [Nat.add_mul, Nat.one_mul])
      have hmod : ∀ j, j < n → (k * n + j) % n = j := fun j h => by rw [Nat.mul_comm, Nat.mul_add_mod]; exact Nat.mod_eq_of_lt h
      have HMod := Lib.hid hmod
      clear hmod
      obtain ⟨m, hme⟩ : ∃ m, k * n = m := ⟨_, rfl⟩
      rw [hme] at HW hkn hm HKN HMod
      clear hme
      go_wp2
      go_loopw [23] (fun i w' => ∃ j : Nat, j ≤ n ∧ i = .int .i64 (j : Int) ∧ Wq w w' g (g + 1) gR (Wrp.fw key n (a, b) (m + j)).1 (Wrp.fw key n (a, b) (m + j)).2 rest) (fun i _ => n - (intOf i).toNat)
      case atStart => exact ⟨0, by omega, rfl, HW.out⟩
      case round =>
        obtain ⟨j, hj, rfl, hW⟩ := hrel
        clear HW
        by_cases hjn : j < n
        · have hok := Wrp.fw_ok (key := key) (n := n) (by omega) (s := (a, b)) ⟨Ha.out, by show b.length = _; rw [← HL.out, HN.out]⟩ (m + j)
          have hst : Wrp.fw key n (a, b) (m + (j + 1)) = Wrp.step key n (m + j) (Wrp.fw key n (a, b) (m + j)) := rfl
          rw [Wrp.step, HMod.out j hjn] at hst
          generalize Wrp.fw key n (a, b) (m + j) = st at hW hok hst
          obtain ⟨x, r⟩ := st
          obtain ⟨hx, hrl⟩ := hok
          simp only at hW hx hrl hst
          obtain ⟨y, hy⟩ : ∃ y, Wrp.b8 r j = y := ⟨_, rfl⟩
          have hyl : y.length = 8 := by rw [← hy]; exact Wrp.b8_len _ _ (by omega)
          obtain ⟨z, hz⟩ : ∃ z, encrypt key (x ++ y) = z := ⟨_, rfl⟩
          have hzl : z.length = 16 := by rw [← hz]; exact encrypt_len _ _
          rw [hy, hz] at hst
          have HST := Lib.hid hst
          have HX := Lib.hid hx
          have HRl := Lib.hid hrl
          have HY := Lib.hid hyl
          have HYE := Lib.hid hy
          have HZE := Lib.hid hz
          have HZl := Lib.hid hzl
          have HQ0 := Lib.hid hW
          have hj2 : (j : Int) < (n : Int) := by omega
          have hjL : (j : Int) * 8 + 8 ≤ (L : Int) := by have := HN.out; omega
          have hcp8 : (L : Int) ≤ (cp : Int) := by have := HCp.out; omega
          clear hst hx hrl hy hyl hz hzl hW
          go_wp2
          refine wp_region_G grows (by kernel_rfl) ?_
          have HQ1 := Lib.hid (HQ0.out.below (Below.refl _ wr).drew)
          clear HQ0
          generalize wr.drew = W1 at *
          have qa := load_arr_later (P := Tryd.prog) Tryd.und8 (by simpa using sizeA8 x HX.out) HQ1.out.a
          have qy : ∀ V : Later grows W1, (loadVar 36 ⟨gR, j * 8, none⟩).run Tryd.prog V.to = .ok (.agg (u8s y).toArray) V.to := fun V => load_at8 (HQ1.out.r.below V.grown HQ1.out.r.lt) HY.out (fun i v hv => by rw [Nat.mul_comm j 8]; exact part_get r rest j y HYE.out.symm (by have := HRl.out; omega) i v hv)
          have qp := fun V => run_arr8 gR (j * 8) (L - j * 8) (cp - j * 8) (by have := HN.out; omega) V
          refine segG (by kernel_rfl) (fun _ _ _ _ _ h => h) [0, 1, 2] [_, _, _] 6 rfl rfl (by kernel_rfl) ?_
          repeat (go_big_quiet_step (fail))
          refine wpQuiet_load_arr 36 (.tmp 4) rfl rfl (u8s x).toArray qa (by kernel_rfl) ?_
          simp only [Act.put, List.setIfInBounds_toArray, List.set]
          repeat (go_big_quiet_step (fail))
          refine wpQuiet_nil ?_
          refine firstG_arrayAt 36 (.tmp 32) (i := 3) (n := 5) (by kernel_rfl) (fun _ _ _ _ _ h => h) rfl rfl (by kernel_rfl) rfl rfl qp (by kernel_rfl) ?_
          simp only [Act.put, List.setIfInBounds_toArray, List.set]
          refine segG (by kernel_rfl) (fun _ _ _ _ _ h => h) [4] [_] 4 rfl rfl (by kernel_rfl) ?_
          refine wpQuiet_load_at 36 (.tmp 33) rfl rfl (u8s y).toArray qy (by kernel_rfl) ?_
          simp only [Act.put, List.setIfInBounds_toArray, List.set]
          refine wpQuiet_nil ?_
          clear qa qy qp
          refine twoG 5 7 3 rfl (by kernel_rfl) rfl rfl ?_ ?_
          · skip
            go_wp2_with fail
            refine (joined_any W1 x y _ _ rfl rfl HX.out HY.out).mono ?_
            rintro e W2 ⟨rfl, hb⟩
            have HQ2 := Lib.hid (HQ1.out.below hb)
            clear HQ1
            go_wp2
            refine ⟨hb, ?_⟩
            clear hb
            refine twoG 6 7 2 rfl (by kernel_rfl) rfl rfl ?_ ?_
            · skip
              go_wp2_with fail
              refine (aesOK.enc W2 gc key (x ++ y) HS.out (aesOK.stay HRep.out (by have := HQ2.out.b; exact this)) (by rw [List.length_append, HX.out, HY.out])).mono ?_
              rintro e W3 ⟨rfl, hb⟩
              rw [HZE.out]
              have HQ3 := Lib.hid (HQ2.out.below hb)
              clear HQ2
              go_wp2
              refine ⟨hb, ?_⟩
              clear hb
              refine oneG 7 1 rfl (by kernel_rfl) rfl ?_
              go_wp2_with (refine wpList_alloc_arr rfl 56 zr16.toArray rfl zeroR16 ?_)
              refine ⟨below_alloc W3 _, ?_⟩
              have HB4 := Lib.hid (Blk.new W3 56 zr16)
              have HQ4 := Lib.hid (HQ3.out.below (below_alloc W3 (.cells zr16.toArray 56)))
              obtain ⟨gX, hgX⟩ : ∃ gX, W3.heap.size = gX := ⟨_, rfl⟩
              have HGX : Hid (g < gX ∧ g + 1 < gX ∧ gR < gX) := Lib.hid (by have h1 := HQ3.out.a.lt; have h2 := HQ3.out.o.lt; have h3 := HQ3.out.r.lt; rw [hgX] at h1 h2 h3; exact ⟨h1, h2, h3⟩)
              rw [hgX] at HB4 ⊢
              clear HQ3 hgX
              generalize W3.alloc (.cells zr16.toArray 56) = W4 at *
              simp only [Act.put, List.setIfInBounds_toArray, List.set]
              refine lateG 8 0 rfl (by kernel_rfl) (by kernel_rfl) rfl ?_
              have HSz := Lib.hid (sizeA16 z HZl.out)
              have HLn : Hid (zr16.length = (u8s z).length) := Lib.hid (by rw [u8s_len, HZl.out]; rfl)
              have HQ5 := Lib.hid (HQ4.out.setX gX (u8s z).toArray ⟨by have := HGX.out; omega, by have := HGX.out; omega, by have := HGX.out; omega, by have := HGX.out; have := Hg.out; omega⟩)
              have HB5 := Lib.hid (HB4.out.row (u8s z))
              obtain ⟨W5, hW5⟩ : ∃ W5, W4.setRow gX (u8s z).toArray = W5 := ⟨_, rfl⟩
              rw [hW5] at HQ5 HB5
              have HW5 := Lib.hid hW5
              clear hW5 HQ4
              go_wp2_with (refine wpList_store_arr rfl 56 (.tmp 13) (.tmp 36) gX zr16 (u8s z) rfl rfl rfl rfl HB4.out HSz.out HLn.out (u8s_one _) ?_; rw [HW5.out])
              refine ⟨trivial, ?_⟩
              refine wpAnyG_done (by kernel_rfl) ?_
              clear HW5 HB4 HSz HLn
              have hld := load_at8 (o := 0) HB5.out (x := z.take 8) (Wrp.half1 z HZl.out) (fun i v hv => by
                have h1 : (u8s (z.take 8))[i]? = some v := hv
                rw [← u8s_take, List.getElem?_take] at h1
                split at h1
                · rw [Nat.zero_add]; exact h1
                · cases h1)
              have hat := run_arr8 gX 0 8 16 (by omega) W5
              have HH := Lib.hid (Wrp.half1 z HZl.out)
              generalize z.take 8 = zh at *
              go_wp2_with (first | refine wpList_arrayAt 36 (.tmp 37) rfl rfl hat (by kernel_rfl) ?_ | refine wpList_load_at 36 (.tmp 38) rfl rfl (u8s zh).toArray hld (by kernel_rfl) ?_ | fail)
              refine (counted_any W5 zh _ (m + j + 1) _ rfl (by omega) HH.out (by omega)).mono ?_
              rintro e W6 ⟨rfl, hb⟩
              have HQ6 := Lib.hid (HQ5.out.below hb)
              have HB6 := Lib.hid (HB5.out.below hb HB5.out.lt)
              have hdd : g + 1 ≠ g ∧ gR ≠ g ∧ w.heap.size ≤ g := ⟨by omega, by have := HgR.out; omega, by have := Hg.out; omega⟩
              have hQ7 := HQ6.out.setA (Wrp.xt zh (m + j + 1)) hdd
              have hB7 := HB6.out.rowFar (g' := g) (by have := HGX.out; omega) (u8s (Wrp.xt zh (m + j + 1))).toArray
              obtain ⟨X, hX⟩ : ∃ X, Wrp.xt zh (m + j + 1) = X := ⟨_, rfl⟩
              have hXl : X.length = 8 := by rw [← hX, Wrp.xt_len]; exact HH.out
              rw [hX] at hQ7 hB7 ⊢
              have HSz := Lib.hid (sizeA8 X hXl)
              have HLn : Hid ((u8s x).length = (u8s X).length) := Lib.hid (by rw [u8s_len, u8s_len, HX.out, hXl])
              obtain ⟨W7, hW7⟩ : ∃ W7, W6.setRow g (u8s X).toArray = W7 := ⟨_, rfl⟩
              rw [hW7] at hQ7 hB7
              have HW7 := Lib.hid hW7
              have hcp7 := run_copy_seg (P := Tryd.prog) (w := W7) 22 22 3 5 Tryd.und22 Tryd.size5 gR (j * 8) (L - j * 8) (cp - j * 8) 8 8 gX 8 (z.drop 8) 8 (fun i c hi => by
                rw [hB7.cell, u8s_get]
                rw [List.getElem?_drop] at hi
                rw [hi]; rfl) (Wrp.half2 z HZl.out).symm (by rw [Wrp.half2 z HZl.out]; have := HN.out; omega) _ _ hQ7.r (by have h1 := HRl.out; have h2 := HN.out; rw [List.length_append, u8s_len]; omega)
              have hE : (u8s r ++ rest).take (j * 8) ++ u8s ((z.drop 8).take 8) ++ (u8s r ++ rest).drop (j * 8 + 8) = u8s (Wrp.p8 r j (z.drop 8)) ++ rest := by
                rw [Nat.mul_comm j 8]
                exact part_put r z rest j HZl.out (by have := HRl.out; omega)
              rw [hE] at hcp7
              have HQ8 := Lib.hid (hQ7.setR (Wrp.p8 r j (z.drop 8)) ⟨by have := HgR.out; omega, by have := HgR.out; omega, by have := HgR.out; have := Hg.out; omega⟩)
              have HE : Hid (Wrp.fw key n (a, b) (m + (j + 1)) = (X, Wrp.p8 r j (z.drop 8))) := Lib.hid (by rw [HST.out, hX])
              clear hb hdd hQ7 hB7 hX hXl hW7 hE hld hat HQ5 HB5 HB6
              go_wp2_with (first | (refine wpList_store_arr rfl 36 (.tmp 4) (.tmp 46) g (u8s x) (u8s X) rfl rfl rfl rfl HQ6.out.a HSz.out HLn.out (u8s_one _) ?_; rw [HW7.out]) | refine wpList_copy_run rfl (.tmp 47) (.tmp 48) _ rfl rfl rfl hcp7 ?_ | fail)
              refine ⟨⟨j + 1, by omega, by go_num, ?_⟩, by simp [intOf]; omega⟩
              rw [HE.out]
              exact HQ8.out
            · skip
              go_wp2_with (refine wpList_alloc_arr rfl 56 zr16.toArray rfl zeroR16 ?_)
              refine ⟨below_alloc W2 _, ?_⟩
              have HB3 := Lib.hid (Blk.new W2 56 zr16)
              have HQ3 := Lib.hid (HQ2.out.below (below_alloc W2 (.cells zr16.toArray 56)))
              obtain ⟨gX, hgX⟩ : ∃ gX, W2.heap.size = gX := ⟨_, rfl⟩
              have HGX : Hid (g < gX ∧ g + 1 < gX ∧ gR < gX) := Lib.hid (by have h1 := HQ2.out.a.lt; have h2 := HQ2.out.o.lt; have h3 := HQ2.out.r.lt; rw [hgX] at h1 h2 h3; exact ⟨h1, h2, h3⟩)
              rw [hgX] at HB3 ⊢
              clear HQ2 hgX
              generalize W2.alloc (.cells zr16.toArray 56) = W3 at *
              simp only [Act.put, List.setIfInBounds_toArray, List.set]
              refine oneG 6 1 rfl (by kernel_rfl) rfl ?_
              go_wp2_with fail
              refine (aesOK.enc W3 gc key (x ++ y) HS.out (aesOK.stay HRep.out (by have := HQ3.out.b; exact this)) (by rw [List.length_append, HX.out, HY.out])).mono ?_
              rintro e W4 ⟨rfl, hb⟩
              rw [HZE.out]
              have HQ4 := Lib.hid (HQ3.out.below hb)
              have HB4 := Lib.hid (HB3.out.below hb HB3.out.lt)
              clear HQ3
              clear HB3
              go_wp2
              refine ⟨hb, ?_⟩
              clear hb
              refine lateG 8 0 rfl (by kernel_rfl) (by kernel_rfl) rfl ?_
              have HSz := Lib.hid (sizeA16 z HZl.out)
              have HLn : Hid (zr16.length = (u8s z).length) := Lib.hid (by rw [u8s_len, HZl.out]; rfl)
              have HQ5 := Lib.hid (HQ4.out.setX gX (u8s z).toArray ⟨by have := HGX.out; omega, by have := HGX.out; omega, by have := HGX.out; omega, by have := HGX.out; have := Hg.out; omega⟩)
              have HB5 := Lib.hid (HB4.out.row (u8s z))
              obtain ⟨W5, hW5⟩ : ∃ W5, W4.setRow gX (u8s z).toArray = W5 := ⟨_, rfl⟩
              rw [hW5] at HQ5 HB5
              have HW5 := Lib.hid hW5
              clear hW5 HQ4
              go_wp2_with (refine wpList_store_arr rfl 56 (.tmp 13) (.tmp 36) gX zr16 (u8s z) rfl rfl rfl rfl HB4.out HSz.out HLn.out (u8s_one _) ?_; rw [HW5.out])
              refine ⟨trivial, ?_⟩
              refine wpAnyG_done (by kernel_rfl) ?_
              clear HW5 HB4 HSz HLn
              have hld := load_at8 (o := 0) HB5.out (x := z.take 8) (Wrp.half1 z HZl.out) (fun i v hv => by
                have h1 : (u8s (z.take 8))[i]? = some v := hv
                rw [← u8s_take, List.getElem?_take] at h1
                split at h1
                · rw [Nat.zero_add]; exact h1
                · cases h1)
              have hat := run_arr8 gX 0 8 16 (by omega) W5
              have HH := Lib.hid (Wrp.half1 z HZl.out)
              generalize z.take 8 = zh at *
              go_wp2_with (first | refine wpList_arrayAt 36 (.tmp 37) rfl rfl hat (by kernel_rfl) ?_ | refine wpList_load_at 36 (.tmp 38) rfl rfl (u8s zh).toArray hld (by kernel_rfl) ?_ | fail)
              refine (counted_any W5 zh _ (m + j + 1) _ rfl (by omega) HH.out (by omega)).mono ?_
              rintro e W6 ⟨rfl, hb⟩
              have HQ6 := Lib.hid (HQ5.out.below hb)
              have HB6 := Lib.hid (HB5.out.below hb HB5.out.lt)
              have hdd : g + 1 ≠ g ∧ gR ≠ g ∧ w.heap.size ≤ g := ⟨by omega, by have := HgR.out; omega, by have := Hg.out; omega⟩
              have hQ7 := HQ6.out.setA (Wrp.xt zh (m + j + 1)) hdd
              have hB7 := HB6.out.rowFar (g' := g) (by have := HGX.out; omega) (u8s (Wrp.xt zh (m + j + 1))).toArray
              obtain ⟨X, hX⟩ : ∃ X, Wrp.xt zh (m + j + 1) = X := ⟨_, rfl⟩
              have hXl : X.length = 8 := by rw [← hX, Wrp.xt_len]; exact HH.out
              rw [hX] at hQ7 hB7 ⊢
              have HSz := Lib.hid (sizeA8 X hXl)
              have HLn : Hid ((u8s x).length = (u8s X).length) := Lib.hid (by rw [u8s_len, u8s_len, HX.out, hXl])
              obtain ⟨W7, hW7⟩ : ∃ W7, W6.setRow g (u8s X).toArray = W7 := ⟨_, rfl⟩
              rw [hW7] at hQ7 hB7
              have HW7 := Lib.hid hW7
              have hcp7 := run_copy_seg (P := Tryd.prog) (w := W7) 22 22 3 5 Tryd.und22 Tryd.size5 gR (j * 8) (L - j * 8) (cp - j * 8) 8 8 gX 8 (z.drop 8) 8 (fun i c hi => by
                rw [hB7.cell, u8s_get]
                rw [List.getElem?_drop] at hi
                rw [hi]; rfl) (Wrp.half2 z HZl.out).symm (by rw [Wrp.half2 z HZl.out]; have := HN.out; omega) _ _ hQ7.r (by have h1 := HRl.out; have h2 := HN.out; rw [List.length_append, u8s_len]; omega)
              have hE : (u8s r ++ rest).take (j * 8) ++ u8s ((z.drop 8).take 8) ++ (u8s r ++ rest).drop (j * 8 + 8) = u8s (Wrp.p8 r j (z.drop 8)) ++ rest := by
                rw [Nat.mul_comm j 8]
                exact part_put r z rest j HZl.out (by have := HRl.out; omega)
              rw [hE] at hcp7
              have HQ8 := Lib.hid (hQ7.setR (Wrp.p8 r j (z.drop 8)) ⟨by have := HgR.out; omega, by have := HgR.out; omega, by have := HgR.out; have := Hg.out; omega⟩)
              have HE : Hid (Wrp.fw key n (a, b) (m + (j + 1)) = (X, Wrp.p8 r j (z.drop 8))) := Lib.hid (by rw [HST.out, hX])
              clear hb hdd hQ7 hB7 hX hXl hW7 hE hld hat HQ5 HB5 HB6
              go_wp2_with (first | (refine wpList_store_arr rfl 36 (.tmp 4) (.tmp 46) g (u8s x) (u8s X) rfl rfl rfl rfl HQ6.out.a HSz.out HLn.out (u8s_one _) ?_; rw [HW7.out]) | refine wpList_copy_run rfl (.tmp 47) (.tmp 48) _ rfl rfl rfl hcp7 ?_ | fail)
              refine ⟨⟨j + 1, by omega, by go_num, ?_⟩, by simp [intOf]; omega⟩
              rw [HE.out]
              exact HQ8.out
          · skip
            go_wp2_with (refine wpList_alloc_arr rfl 56 zr16.toArray rfl zeroR16 ?_)
            refine ⟨below_alloc W1 _, ?_⟩
            have HB2 := Lib.hid (Blk.new W1 56 zr16)
            have HQ2 := Lib.hid (HQ1.out.below (below_alloc W1 (.cells zr16.toArray 56)))
            obtain ⟨gX, hgX⟩ : ∃ gX, W1.heap.size = gX := ⟨_, rfl⟩
            have HGX : Hid (g < gX ∧ g + 1 < gX ∧ gR < gX) := Lib.hid (by have h1 := HQ1.out.a.lt; have h2 := HQ1.out.o.lt; have h3 := HQ1.out.r.lt; rw [hgX] at h1 h2 h3; exact ⟨h1, h2, h3⟩)
            rw [hgX] at HB2 ⊢
            clear HQ1 hgX
            generalize W1.alloc (.cells zr16.toArray 56) = W2 at *
            simp only [Act.put, List.setIfInBounds_toArray, List.set]
            refine oneG 5 2 rfl (by kernel_rfl) rfl ?_
            go_wp2_with fail
            refine (joined_any W2 x y _ _ rfl rfl HX.out HY.out).mono ?_
            rintro e W3 ⟨rfl, hb⟩
            have HQ3 := Lib.hid (HQ2.out.below hb)
            have HB3 := Lib.hid (HB2.out.below hb HB2.out.lt)
            clear HQ2
            clear HB2
            go_wp2
            refine ⟨hb, ?_⟩
            clear hb
            refine oneG 6 1 rfl (by kernel_rfl) rfl ?_
            go_wp2_with fail
            refine (aesOK.enc W3 gc key (x ++ y) HS.out (aesOK.stay HRep.out (by have := HQ3.out.b; exact this)) (by rw [List.length_append, HX.out, HY.out])).mono ?_
            rintro e W4 ⟨rfl, hb⟩
            rw [HZE.out]
            have HQ4 := Lib.hid (HQ3.out.below hb)
            have HB4 := Lib.hid (HB3.out.below hb HB3.out.lt)
            clear HQ3
            clear HB3
            go_wp2
            refine ⟨hb, ?_⟩
            clear hb
            refine lateG 8 0 rfl (by kernel_rfl) (by kernel_rfl) rfl ?_
            have HSz := Lib.hid (sizeA16 z HZl.out)
            have HLn : Hid (zr16.length = (u8s z).length) := Lib.hid (by rw [u8s_len, HZl.out]; rfl)
            have HQ5 := Lib.hid (HQ4.out.setX gX (u8s z).toArray ⟨by have := HGX.out; omega, by have := HGX.out; omega, by have := HGX.out; omega, by have := HGX.out; have := Hg.out; omega⟩)
            have HB5 := Lib.hid (HB4.out.row (u8s z))
            obtain ⟨W5, hW5⟩ : ∃ W5, W4.setRow gX (u8s z).toArray = W5 := ⟨_, rfl⟩
            rw [hW5] at HQ5 HB5
            have HW5 := Lib.hid hW5
            clear hW5 HQ4
            go_wp2_with (refine wpList_store_arr rfl 56 (.tmp 13) (.tmp 36) gX zr16 (u8s z) rfl rfl rfl rfl HB4.out HSz.out HLn.out (u8s_one _) ?_; rw [HW5.out])
            refine ⟨trivial, ?_⟩
            refine wpAnyG_done (by kernel_rfl) ?_
            clear HW5 HB4 HSz HLn
            have hld := load_at8 (o := 0) HB5.out (x := z.take 8) (Wrp.half1 z HZl.out) (fun i v hv => by
              have h1 : (u8s (z.take 8))[i]? = some v := hv
              rw [← u8s_take, List.getElem?_take] at h1
              split at h1
              · rw [Nat.zero_add]; exact h1
              · cases h1)
            have hat := run_arr8 gX 0 8 16 (by omega) W5
            have HH := Lib.hid (Wrp.half1 z HZl.out)
            generalize z.take 8 = zh at *
            go_wp2_with (first | refine wpList_arrayAt 36 (.tmp 37) rfl rfl hat (by kernel_rfl) ?_ | refine wpList_load_at 36 (.tmp 38) rfl rfl (u8s zh).toArray hld (by kernel_rfl) ?_ | fail)
            refine (counted_any W5 zh _ (m + j + 1) _ rfl (by omega) HH.out (by omega)).mono ?_
            rintro e W6 ⟨rfl, hb⟩
            have HQ6 := Lib.hid (HQ5.out.below hb)
            have HB6 := Lib.hid (HB5.out.below hb HB5.out.lt)
            have hdd : g + 1 ≠ g ∧ gR ≠ g ∧ w.heap.size ≤ g := ⟨by omega, by have := HgR.out; omega, by have := Hg.out; omega⟩
            have hQ7 := HQ6.out.setA (Wrp.xt zh (m + j + 1)) hdd
            have hB7 := HB6.out.rowFar (g' := g) (by have := HGX.out; omega) (u8s (Wrp.xt zh (m + j + 1))).toArray
            obtain ⟨X, hX⟩ : ∃ X, Wrp.xt zh (m + j + 1) = X := ⟨_, rfl⟩
            have hXl : X.length = 8 := by rw [← hX, Wrp.xt_len]; exact HH.out
            rw [hX] at hQ7 hB7 ⊢
            have HSz := Lib.hid (sizeA8 X hXl)
            have HLn : Hid ((u8s x).length = (u8s X).length) := Lib.hid (by rw [u8s_len, u8s_len, HX.out, hXl])
            obtain ⟨W7, hW7⟩ : ∃ W7, W6.setRow g (u8s X).toArray = W7 := ⟨_, rfl⟩
            rw [hW7] at hQ7 hB7
            have HW7 := Lib.hid hW7
            have hcp7 := run_copy_seg (P := Tryd.prog) (w := W7) 22 22 3 5 Tryd.und22 Tryd.size5 gR (j * 8) (L - j * 8) (cp - j * 8) 8 8 gX 8 (z.drop 8) 8 (fun i c hi => by
              rw [hB7.cell, u8s_get]
              rw [List.getElem?_drop] at hi
              rw [hi]; rfl) (Wrp.half2 z HZl.out).symm (by rw [Wrp.half2 z HZl.out]; have := HN.out; omega) _ _ hQ7.r (by have h1 := HRl.out; have h2 := HN.out; rw [List.length_append, u8s_len]; omega)
            have hE : (u8s r ++ rest).take (j * 8) ++ u8s ((z.drop 8).take 8) ++ (u8s r ++ rest).drop (j * 8 + 8) = u8s (Wrp.p8 r j (z.drop 8)) ++ rest := by
              rw [Nat.mul_comm j 8]
              exact part_put r z rest j HZl.out (by have := HRl.out; omega)
            rw [hE] at hcp7
            have HQ8 := Lib.hid (hQ7.setR (Wrp.p8 r j (z.drop 8)) ⟨by have := HgR.out; omega, by have := HgR.out; omega, by have := HgR.out; have := Hg.out; omega⟩)
            have HE : Hid (Wrp.fw key n (a, b) (m + (j + 1)) = (X, Wrp.p8 r j (z.drop 8))) := Lib.hid (by rw [HST.out, hX])
            clear hb hdd hQ7 hB7 hX hXl hW7 hE hld hat HQ5 HB5 HB6
            go_wp2_with (first | (refine wpList_store_arr rfl 36 (.tmp 4) (.tmp 46) g (u8s x) (u8s X) rfl rfl rfl rfl HQ6.out.a HSz.out HLn.out (u8s_one _) ?_; rw [HW7.out]) | refine wpList_copy_run rfl (.tmp 47) (.tmp 48) _ rfl rfl rfl hcp7 ?_ | fail)
            refine ⟨⟨j + 1, by omega, by go_num, ?_⟩, by simp [intOf]; omega⟩
            rw [HE.out]
            exact HQ8.out
        · obtain rfl : j = n := by omega
          have HQ := Lib.hid hW
          have HE := Lib.hid HKN.out
          clear hW
          go_wp2
          exact ⟨⟨k + 1, by omega, by go_num, by rw [← HE.out]; exact HQ.out⟩, by simp [intOf]; omega⟩
    · obtain rfl : k = 6 := by omega
      rw [← HZ.out] at HW
      have hZl : Wrp.Ok n Z := by rw [HZ.out]; exact Wrp.fw_ok (by omega) ⟨Ha.out, by show b.length = _; rw [← HL.out, HN.out]⟩ _
      have HSz := Lib.hid (sizeA8 Z.1 hZl.1)
      have HLn : Hid (zr8.length = (u8s Z.1).length) := Lib.hid (by rw [u8s_len, hZl.1]; rfl)
      have hld := run_loadVar_row (P := Tryd.prog) wr g 36 36 (u8s Z.1).toArray (0, 0) _ HW.out.a Tryd.und8 rfl (by simpa using HSz.out)
      have hbk := run_loadVar_row (P := Tryd.prog) _ (g + 1) 36 36 (u8s Z.1).toArray (0, 0) _ (HW.out.o.row (u8s Z.1)) Tryd.und8 rfl (by simpa using HSz.out)
      have HR := Lib.hid (HW.out.r.rowFar (g' := g + 1) (by have := HgR.out; omega) (u8s Z.1).toArray)
      have Hb := Lib.hid (below_setRow HW.out.b (by have := Hg.out; omega : w.heap.size ≤ g + 1) (u8s Z.1).toArray)
      have HOe := Lib.hid (u8s_one Z.1)
      clear hZl
      go_wp2_with (first | refine wpList_load_arr_w 36 (.tmp 4) rfl rfl (u8s Z.1).toArray hld (by kernel_rfl) ?_ | refine wpList_store_arr rfl 36 (.tmp 6) (.tmp 52) (g + 1) _ _ rfl rfl rfl rfl HW.out.o HSz.out HLn.out HOe.out ?_)
      try simp only [Act.put, List.setIfInBounds_toArray, List.set]
      refine bodyPost_ret (v := .tuple #[.agg (u8s Z.1).toArray, .slice (some ⟨gR, 0, none⟩) L cp]) ?_ rfl ⟨gR, cp, rest, rfl, HCp.out, HR.out, Hb.out⟩
      generalize (u8s Z.1).toArray = X at hbk ⊢
      simp [results, Tryd.results14, asAddr, hbk]
end Go.Proofs.YtbcagjndbfpecaaDoor
namespace Go.Proofs.YtbcagjndbfpecaaDoor
open Go.RowKit Go.Gar Go.Gar.Aes

set_option maxHeartbeats 4000000 in
set_option maxRecDepth 100000 in
theorem backward_any (w : World) (gc : Nat) (key a b : List UInt8) (A : Option Addr) (n L bc : Nat) (hs : sizeOk key.length) (hRep : Rep w gc key) (ha : a.length = 8) (hL : L = b.length) (hn : L = 8 * n) (h1 : 1 ≤ n) (h32 : n ≤ 32) (hr : Rd w w.heap.size A b)
    (Z : List UInt8 × List UInt8) (hZ : Z = Wrp.bw key n (a, b) (6 * n) (6 * n)) :
    Calls Tryd.prog 18 #[.pointer (some ⟨gc, 0, none⟩), .agg (u8s a).toArray, .slice A L bc] w fun e w' => ∃ g cp rest, e = .returned (.tuple #[.agg (u8s Z.1).toArray, .slice (some ⟨g, 0, none⟩) L cp]) ∧ L ≤ cp ∧ Blk w' g 5 (u8s Z.2 ++ rest) ∧ Below w.heap.size w w' := by
  obtain ⟨g, hg⟩ : ∃ g, w.heap.size = g := ⟨_, rfl⟩
  have hA1 := Blk.new w 36 (u8s a)
  have hb1 := below_alloc w (.cells (u8s a).toArray 36)
  have hs1 : (w.alloc (.cells (u8s a).toArray 36)).heap.size = w.heap.size + 1 := World.size_alloc _ _
  obtain ⟨w1, hw1⟩ : ∃ w1, w.alloc (.cells (u8s a).toArray 36) = w1 := ⟨_, rfl⟩
  rw [hw1] at hA1 hb1 hs1
  have hA2 := hA1.alloc (.cells zr8.toArray 36)
  have hO2 := Blk.new w1 36 zr8
  have hb2 := hb1.alloc hb1.size (.cells zr8.toArray 36)
  have hs2 : (w1.alloc (.cells zr8.toArray 36)).heap.size = w1.heap.size + 1 := World.size_alloc _ _
  obtain ⟨w2, hw2⟩ : ∃ w2, w1.alloc (.cells zr8.toArray 36) = w2 := ⟨_, rfl⟩
  rw [hw2] at hA2 hO2 hb2 hs2
  have hcl := clone_any w2 A b L bc hL (by omega) (by omega) ((hr.below hb2).more hb2.size)
  have HCl := Lib.hid hcl
  have HW1 := Lib.hid hw1
  have HW2 := Lib.hid hw2
  have HA2 := Lib.hid hA2
  have HO2 := Lib.hid hO2
  have Hb2 := Lib.hid hb2
  have HSz : Hid (w.heap.size = g ∧ w1.heap.size = g + 1 ∧ w2.heap.size = g + 1 + 1) := Lib.hid (by omega)
  have HRep := Lib.hid hRep
  have HS := Lib.hid hs
  have HL := Lib.hid hL
  have HN := Lib.hid hn
  have Ha := Lib.hid ha
  have HZ := Lib.hid hZ
  clear hA1 hb1 hs1 hw1 hA2 hO2 hb2 hs2 hw2 hcl hRep hs hL hn ha hZ hr
  go_enter Tryd.func18, Tryd.ntmps18
  go_wp2_with (first | (refine wpList_box_arr rfl 36 (.tmp 1) (u8s a).toArray rfl rfl ?_; rw [HW1.out]) | (refine wpList_alloc_arr rfl 36 zr8.toArray rfl zeroR8 ?_; rw [HW2.out]) | fail)
  refine HCl.out.mono ?_
  rintro e w3 ⟨gR, cp, rest, rfl, hcp, hgR, hR3, hb3⟩
  have hz := HSz.out
  have hW3 : Wq w w3 g (g + 1) gR a b rest := ⟨by have := HA2.out.below hb3 HA2.out.lt; rw [hz.1] at this; exact this, by have := HO2.out.below hb3 HO2.out.lt; rw [hz.2.1] at this; exact this, hR3, Hb2.out.trans (hb3.mono Hb2.out.size)⟩
  have HW3 := Lib.hid hW3
  have HCp := Lib.hid hcp
  have HgR : Hid (g + 1 + 1 ≤ gR) := Lib.hid (by omega)
  have Hg := Lib.hid hz.1
  clear hg hW3 hcp hgR hR3 hb3 HSz HA2 HO2 Hb2 HW1 HW2 HCl
  have hq8 : wrap64 ((L : Int) / 8) = (n : Int) := by
    have := HN.out
    rw [wrap64]
    omega
  go_wp2
  rw [hq8]
  clear hq8 hz
  go_loopw [19] (fun i w' => ∃ k : Nat, k ≤ 6 ∧ i = .int .i64 (k : Int) ∧ Wq w w' g (g + 1) gR (Wrp.bw key n (a, b) (6 * n) (k * n)).1 (Wrp.bw key n (a, b) (6 * n) (k * n)).2 rest) (fun i _ => 6 - (intOf i).toNat)
  case atStart => exact ⟨0, by omega, rfl, by rw [Nat.zero_mul]; exact HW3.out⟩
  case round =>
    obtain ⟨k, hk, rfl, hW⟩ := hrel
    clear HW3
    have HW := Lib.hid hW
    clear hW
    by_cases hlt : k < 6
    · have hlt2 : (k : Int) < 6 := by omega
      obtain ⟨m, hme⟩ : ∃ m, k * n = m := ⟨_, rfl⟩
      obtain ⟨q, hqe⟩ : ∃ q, (6 - k) * n = q := ⟨_, rfl⟩
      have h6k : (6 : Int) - (k : Int) = ((6 - k : Nat) : Int) := by omega
      have hqn : ((6 - k : Nat) : Int) * (n : Int) = (q : Int) := by rw [← hqe]; exact (Int.natCast_mul _ _).symm
      have hmq : m + q = 6 * n := by rw [← hme, ← hqe, ← Nat.add_mul]; congr 1; omega
      have hqn2 : n ≤ q := by rw [← hqe]; exact Nat.le_mul_of_pos_left n (by omega)
      have HKN : Hid (m + n = (k + 1) * n) := Lib.hid (by rw [← hme, Nat.add_mul, Nat.one_mul])
      have hmod : ∀ j, j < n → (6 * n - 1 - (m + j)) % n = n - 1 - j := fun j h => by
        have e1 : 6 * n - 1 - (m + j) = n * (5 - k) + (n - 1 - j) := by
          have : n * (5 - k) + n = q := by rw [← hqe, Nat.mul_comm n, ← Nat.succ_mul]; congr 1; omega
          omega
        rw [e1, Nat.mul_add_mod]
        exact Nat.mod_eq_of_lt (by omega)
      have HMod := Lib.hid hmod
      have HMQ := Lib.hid hmq
      have hqb : q ≤ 192 := by omega
      have hmb : m ≤ 192 := by omega
      clear hmod
      rw [hme] at HW
      generalize 6 - k = kk at h6k hqn hqe
      clear hmq hqe
      clear hme
      go_wp2
      go_loopw [23] (fun i w' => ∃ j : Nat, j ≤ n ∧ i = .int .i64 (j : Int) ∧ Wq w w' g (g + 1) gR (Wrp.bw key n (a, b) (6 * n) (m + j)).1 (Wrp.bw key n (a, b) (6 * n) (m + j)).2 rest) (fun i _ => n - (intOf i).toNat)
      case atStart => exact ⟨0, by omega, rfl, HW.out⟩
      case round =>
        obtain ⟨j, hj, rfl, hW⟩ := hrel
        clear HW
        by_cases hjn : j < n
        · have hok := Wrp.bw_ok (key := key) (n := n) (by omega) (s := (a, b)) ⟨Ha.out, by show b.length = _; rw [← HL.out, HN.out]⟩ (6 * n) (m + j)
          have hst : Wrp.bw key n (a, b) (6 * n) (m + (j + 1)) = Wrp.back key n (6 * n - 1 - (m + j)) (Wrp.bw key n (a, b) (6 * n) (m + j)) := rfl
          have ht : 6 * n - 1 - (m + j) + 1 = q - j := by have := HMQ.out; omega
          rw [Wrp.back, HMod.out j hjn, ht] at hst
          clear ht
          obtain ⟨i, hi⟩ : ∃ i, n - 1 - j = i := ⟨_, rfl⟩
          have hni : (n : Int) - 1 - (j : Int) = (i : Int) := by omega
          obtain ⟨t, ht⟩ : ∃ t, q - j = t := ⟨_, rfl⟩
          have hqt : (q : Int) - (j : Int) = (t : Int) := by omega
          have htb : t ≤ 192 := by omega
          rw [hi, ht] at hst
          have hin : i < n := by omega
          clear hi ht
          generalize Wrp.bw key n (a, b) (6 * n) (m + j) = st at hW hok hst
          obtain ⟨x, r⟩ := st
          obtain ⟨hx, hrl⟩ := hok
          simp only at hW hx hrl hst
          obtain ⟨y, hy⟩ : ∃ y, Wrp.b8 r i = y := ⟨_, rfl⟩
          have hyl : y.length = 8 := by rw [← hy]; exact Wrp.b8_len _ _ (by omega)
          obtain ⟨z, hz⟩ : ∃ z, decrypt key (Wrp.xt x t ++ y) = z := ⟨_, rfl⟩
          have hzl : z.length = 16 := by rw [← hz]; exact decrypt_len _ _
          rw [hy, hz] at hst
          have HST := Lib.hid hst
          have HX := Lib.hid hx
          have HRl := Lib.hid hrl
          have HY := Lib.hid hyl
          have HYE := Lib.hid hy
          have HZE := Lib.hid hz
          have HZl := Lib.hid hzl
          have HQ0 := Lib.hid hW
          have hj2 : (j : Int) < (n : Int) := by omega
          have hjL : (i : Int) * 8 + 8 ≤ (L : Int) := by have := HN.out; omega
          have hcp8 : (L : Int) ≤ (cp : Int) := by have := HCp.out; omega
          clear hst hx hrl hy hyl hz hzl hW
          go_wp2
          refine wp_region_G grows (by kernel_rfl) ?_
          have HQ1 := Lib.hid (HQ0.out.below (Below.refl _ wr).drew)
          clear HQ0
          generalize wr.drew = W1 at *
          have qa := load_arr_later (P := Tryd.prog) Tryd.und8 (by simpa using sizeA8 x HX.out) HQ1.out.a
          have qy : ∀ V : Later grows W1, (loadVar 36 ⟨gR, i * 8, none⟩).run Tryd.prog V.to = .ok (.agg (u8s y).toArray) V.to := fun V => load_at8 (HQ1.out.r.below V.grown HQ1.out.r.lt) HY.out (fun u v hv => by rw [Nat.mul_comm i 8]; exact part_get r rest i y HYE.out.symm (by have := HRl.out; omega) u v hv)
          have qp := fun V => run_arr8 gR (i * 8) (L - i * 8) (cp - i * 8) (by have := HN.out; omega) V
          refine segG (by kernel_rfl) (fun _ _ _ _ _ h => h) [0, 1, 2, 3, 4, 5, 6, 7, 9] [_, _, _, _, _, _, _, _, _] 7 rfl rfl (by kernel_rfl) ?_
          repeat (go_big_quiet_step (fail))
          refine wpQuiet_load_arr 36 (.tmp 4) rfl rfl (u8s x).toArray qa (by kernel_rfl) ?_
          simp only [Act.put, List.setIfInBounds_toArray, List.set]
          repeat (go_big_quiet_step (fail))
          refine wpQuiet_nil ?_
          refine firstG_arrayAt 36 (.tmp 42) (i := 10) (n := 6) (by kernel_rfl) (fun _ _ _ _ _ h => h) rfl rfl (by kernel_rfl) rfl rfl qp (by kernel_rfl) ?_
          simp only [Act.put, List.setIfInBounds_toArray, List.set]
          refine segG (by kernel_rfl) (fun _ _ _ _ _ h => h) [11] [_] 5 rfl rfl (by kernel_rfl) ?_
          refine wpQuiet_load_at 36 (.tmp 43) rfl rfl (u8s y).toArray qy (by kernel_rfl) ?_
          simp only [Act.put, List.setIfInBounds_toArray, List.set]
          refine wpQuiet_nil ?_
          clear qa qy qp
          refine twoG 8 14 4 rfl (by kernel_rfl) rfl rfl ?_ ?_
          · skip
            go_wp2_with fail
            refine (counted_any W1 x _ t _ rfl rfl HX.out (by omega)).mono ?_
            rintro e W2 ⟨rfl, hb⟩
            have HQ2 := Lib.hid (HQ1.out.below hb)
            clear HQ1
            go_wp2
            refine ⟨hb, ?_⟩
            clear hb
            refine twoG 12 14 3 rfl (by kernel_rfl) rfl rfl ?_ ?_
            · skip
              go_wp2_with fail
              refine (joined_any W2 (Wrp.xt x t) y _ _ rfl rfl (by rw [Wrp.xt_len]; exact HX.out) HY.out).mono ?_
              rintro e W3 ⟨rfl, hb⟩
              have HQ3 := Lib.hid (HQ2.out.below hb)
              clear HQ2
              go_wp2
              refine ⟨hb, ?_⟩
              clear hb
              refine twoG 13 14 2 rfl (by kernel_rfl) rfl rfl ?_ ?_
              · skip
                go_wp2_with fail
                refine (aesOK.dec W3 gc key (Wrp.xt x t ++ y) HS.out (aesOK.stay HRep.out (by have := HQ3.out.b; exact this)) (by rw [List.length_append, Wrp.xt_len, HX.out, HY.out])).mono ?_
                rintro e W4 ⟨rfl, hb⟩
                rw [HZE.out]
                have HQ4 := Lib.hid (HQ3.out.below hb)
                clear HQ3
                go_wp2
                refine ⟨hb, ?_⟩
                clear hb
                refine oneG 14 1 rfl (by kernel_rfl) rfl ?_
                go_wp2_with (refine wpList_alloc_arr rfl 56 zr16.toArray rfl zeroR16 ?_)
                refine ⟨below_alloc W4 _, ?_⟩
                have HB5 := Lib.hid (Blk.new W4 56 zr16)
                have HQ5 := Lib.hid (HQ4.out.below (below_alloc W4 (.cells zr16.toArray 56)))
                obtain ⟨gX, hgX⟩ : ∃ gX, W4.heap.size = gX := ⟨_, rfl⟩
                have HGX : Hid (g < gX ∧ g + 1 < gX ∧ gR < gX) := Lib.hid (by have h1 := HQ4.out.a.lt; have h2 := HQ4.out.o.lt; have h3 := HQ4.out.r.lt; rw [hgX] at h1 h2 h3; exact ⟨h1, h2, h3⟩)
                rw [hgX] at HB5 ⊢
                clear HQ4 hgX
                generalize W4.alloc (.cells zr16.toArray 56) = W5 at *
                simp only [Act.put, List.setIfInBounds_toArray, List.set]
                refine lateG 15 0 rfl (by kernel_rfl) (by kernel_rfl) rfl ?_
                have HSz := Lib.hid (sizeA16 z HZl.out)
                have HLn : Hid (zr16.length = (u8s z).length) := Lib.hid (by rw [u8s_len, HZl.out]; rfl)
                have HQ6 := Lib.hid (HQ5.out.setX gX (u8s z).toArray ⟨by have := HGX.out; omega, by have := HGX.out; omega, by have := HGX.out; omega, by have := HGX.out; have := Hg.out; omega⟩)
                have HB6 := Lib.hid (HB5.out.row (u8s z))
                obtain ⟨W6, hW6⟩ : ∃ W6, W5.setRow gX (u8s z).toArray = W6 := ⟨_, rfl⟩
                rw [hW6] at HQ6 HB6
                have HW6 := Lib.hid hW6
                clear hW6 HQ5
                go_wp2_with (refine wpList_store_arr rfl 56 (.tmp 13) (.tmp 46) gX zr16 (u8s z) rfl rfl rfl rfl HB5.out HSz.out HLn.out (u8s_one _) ?_; rw [HW6.out])
                refine ⟨trivial, ?_⟩
                refine wpAnyG_done (by kernel_rfl) ?_
                clear HW6 HB5 HSz HLn
                have hld := load_at8 (o := 0) HB6.out (x := z.take 8) (Wrp.half1 z HZl.out) (fun i v hv => by
                  have h1 : (u8s (z.take 8))[i]? = some v := hv
                  rw [← u8s_take, List.getElem?_take] at h1
                  split at h1
                  · rw [Nat.zero_add]; exact h1
                  · cases h1)
                have hat := run_arr8 gX 0 8 16 (by omega) W6
                have HH := Lib.hid (Wrp.half1 z HZl.out)
                generalize z.take 8 = zh at *
                have hdd : g + 1 ≠ g ∧ gR ≠ g ∧ w.heap.size ≤ g := ⟨by omega, by have := HgR.out; omega, by have := Hg.out; omega⟩
                have hQ7 := HQ6.out.setA zh hdd
                have hB7 := HB6.out.rowFar (g' := g) (by have := HGX.out; omega) (u8s zh).toArray
                obtain ⟨X, hX⟩ : ∃ X, zh = X := ⟨_, rfl⟩
                have hXl : X.length = 8 := by rw [← hX]; exact HH.out
                rw [hX] at hQ7 hB7 hld HST
                clear HH
                have HSz := Lib.hid (sizeA8 X hXl)
                have HLn : Hid ((u8s x).length = (u8s X).length) := Lib.hid (by rw [u8s_len, u8s_len, HX.out, hXl])
                obtain ⟨W7, hW7⟩ : ∃ W7, W6.setRow g (u8s X).toArray = W7 := ⟨_, rfl⟩
                rw [hW7] at hQ7 hB7
                have HW7 := Lib.hid hW7
                have hcp7 := run_copy_seg (P := Tryd.prog) (w := W7) 22 22 3 5 Tryd.und22 Tryd.size5 gR (i * 8) (L - i * 8) (cp - i * 8) 8 8 gX 8 (z.drop 8) 8 (fun u c hi => by
                  rw [hB7.cell, u8s_get]
                  rw [List.getElem?_drop] at hi
                  rw [hi]; rfl) (Wrp.half2 z HZl.out).symm (by rw [Wrp.half2 z HZl.out]; have := HN.out; omega) _ _ hQ7.r (by have h1 := HRl.out; have h2 := HN.out; rw [List.length_append, u8s_len]; omega)
                have hE : (u8s r ++ rest).take (i * 8) ++ u8s ((z.drop 8).take 8) ++ (u8s r ++ rest).drop (i * 8 + 8) = u8s (Wrp.p8 r i (z.drop 8)) ++ rest := by
                  rw [Nat.mul_comm i 8]
                  exact part_put r z rest i HZl.out (by have := HRl.out; omega)
                rw [hE] at hcp7
                have HQ8 := Lib.hid (hQ7.setR (Wrp.p8 r i (z.drop 8)) ⟨by have := HgR.out; omega, by have := HgR.out; omega, by have := HgR.out; have := Hg.out; omega⟩)
                have HE : Hid (Wrp.bw key n (a, b) (6 * n) (m + (j + 1)) = (X, Wrp.p8 r i (z.drop 8))) := Lib.hid (by rw [HST.out])
                clear hdd hQ7 hB7 hX hXl hW7 hE
                go_wp2_with (first | refine wpList_arrayAt 36 (.tmp 47) rfl rfl hat (by kernel_rfl) ?_ | refine wpList_load_at 36 (.tmp 48) rfl rfl (u8s X).toArray hld (by kernel_rfl) ?_ | (refine wpList_store_arr rfl 36 (.tmp 4) (.tmp 49) g (u8s x) (u8s X) rfl rfl rfl rfl HQ6.out.a HSz.out HLn.out (u8s_one _) ?_; rw [HW7.out]) | refine wpList_copy_run rfl (.tmp 50) (.tmp 51) _ rfl rfl rfl hcp7 ?_ | fail)
                refine ⟨⟨j + 1, by omega, by go_num, ?_⟩, by simp [intOf]; omega⟩
                rw [HE.out]
                exact HQ8.out
              · skip
                go_wp2_with (refine wpList_alloc_arr rfl 56 zr16.toArray rfl zeroR16 ?_)
                refine ⟨below_alloc W3 _, ?_⟩
                have HB4 := Lib.hid (Blk.new W3 56 zr16)
                have HQ4 := Lib.hid (HQ3.out.below (below_alloc W3 (.cells zr16.toArray 56)))
                obtain ⟨gX, hgX⟩ : ∃ gX, W3.heap.size = gX := ⟨_, rfl⟩
                have HGX : Hid (g < gX ∧ g + 1 < gX ∧ gR < gX) := Lib.hid (by have h1 := HQ3.out.a.lt; have h2 := HQ3.out.o.lt; have h3 := HQ3.out.r.lt; rw [hgX] at h1 h2 h3; exact ⟨h1, h2, h3⟩)
                rw [hgX] at HB4 ⊢
                clear HQ3 hgX
                generalize W3.alloc (.cells zr16.toArray 56) = W4 at *
                simp only [Act.put, List.setIfInBounds_toArray, List.set]
                refine oneG 13 1 rfl (by kernel_rfl) rfl ?_
                go_wp2_with fail
                refine (aesOK.dec W4 gc key (Wrp.xt x t ++ y) HS.out (aesOK.stay HRep.out (by have := HQ4.out.b; exact this)) (by rw [List.length_append, Wrp.xt_len, HX.out, HY.out])).mono ?_
                rintro e W5 ⟨rfl, hb⟩
                rw [HZE.out]
                have HQ5 := Lib.hid (HQ4.out.below hb)
                have HB5 := Lib.hid (HB4.out.below hb HB4.out.lt)
                clear HQ4
                clear HB4
                go_wp2
                refine ⟨hb, ?_⟩
                clear hb
                refine lateG 15 0 rfl (by kernel_rfl) (by kernel_rfl) rfl ?_
                have HSz := Lib.hid (sizeA16 z HZl.out)
                have HLn : Hid (zr16.length = (u8s z).length) := Lib.hid (by rw [u8s_len, HZl.out]; rfl)
                have HQ6 := Lib.hid (HQ5.out.setX gX (u8s z).toArray ⟨by have := HGX.out; omega, by have := HGX.out; omega, by have := HGX.out; omega, by have := HGX.out; have := Hg.out; omega⟩)
                have HB6 := Lib.hid (HB5.out.row (u8s z))
                obtain ⟨W6, hW6⟩ : ∃ W6, W5.setRow gX (u8s z).toArray = W6 := ⟨_, rfl⟩
                rw [hW6] at HQ6 HB6
                have HW6 := Lib.hid hW6
                clear hW6 HQ5
                go_wp2_with (refine wpList_store_arr rfl 56 (.tmp 13) (.tmp 46) gX zr16 (u8s z) rfl rfl rfl rfl HB5.out HSz.out HLn.out (u8s_one _) ?_; rw [HW6.out])
                refine ⟨trivial, ?_⟩
                refine wpAnyG_done (by kernel_rfl) ?_
                clear HW6 HB5 HSz HLn
                have hld := load_at8 (o := 0) HB6.out (x := z.take 8) (Wrp.half1 z HZl.out) (fun i v hv => by
                  have h1 : (u8s (z.take 8))[i]? = some v := hv
                  rw [← u8s_take, List.getElem?_take] at h1
                  split at h1
                  · rw [Nat.zero_add]; exact h1
                  · cases h1)
                have hat := run_arr8 gX 0 8 16 (by omega) W6
                have HH := Lib.hid (Wrp.half1 z HZl.out)
                generalize z.take 8 = zh at *
                have hdd : g + 1 ≠ g ∧ gR ≠ g ∧ w.heap.size ≤ g := ⟨by omega, by have := HgR.out; omega, by have := Hg.out; omega⟩
                have hQ7 := HQ6.out.setA zh hdd
                have hB7 := HB6.out.rowFar (g' := g) (by have := HGX.out; omega) (u8s zh).toArray
                obtain ⟨X, hX⟩ : ∃ X, zh = X := ⟨_, rfl⟩
                have hXl : X.length = 8 := by rw [← hX]; exact HH.out
                rw [hX] at hQ7 hB7 hld HST
                clear HH
                have HSz := Lib.hid (sizeA8 X hXl)
                have HLn : Hid ((u8s x).length = (u8s X).length) := Lib.hid (by rw [u8s_len, u8s_len, HX.out, hXl])
                obtain ⟨W7, hW7⟩ : ∃ W7, W6.setRow g (u8s X).toArray = W7 := ⟨_, rfl⟩
                rw [hW7] at hQ7 hB7
                have HW7 := Lib.hid hW7
                have hcp7 := run_copy_seg (P := Tryd.prog) (w := W7) 22 22 3 5 Tryd.und22 Tryd.size5 gR (i * 8) (L - i * 8) (cp - i * 8) 8 8 gX 8 (z.drop 8) 8 (fun u c hi => by
                  rw [hB7.cell, u8s_get]
                  rw [List.getElem?_drop] at hi
                  rw [hi]; rfl) (Wrp.half2 z HZl.out).symm (by rw [Wrp.half2 z HZl.out]; have := HN.out; omega) _ _ hQ7.r (by have h1 := HRl.out; have h2 := HN.out; rw [List.length_append, u8s_len]; omega)
                have hE : (u8s r ++ rest).take (i * 8) ++ u8s ((z.drop 8).take 8) ++ (u8s r ++ rest).drop (i * 8 + 8) = u8s (Wrp.p8 r i (z.drop 8)) ++ rest := by
                  rw [Nat.mul_comm i 8]
                  exact part_put r z rest i HZl.out (by have := HRl.out; omega)
                rw [hE] at hcp7
                have HQ8 := Lib.hid (hQ7.setR (Wrp.p8 r i (z.drop 8)) ⟨by have := HgR.out; omega, by have := HgR.out; omega, by have := HgR.out; have := Hg.out; omega⟩)
                have HE : Hid (Wrp.bw key n (a, b) (6 * n) (m + (j + 1)) = (X, Wrp.p8 r i (z.drop 8))) := Lib.hid (by rw [HST.out])
                clear hdd hQ7 hB7 hX hXl hW7 hE
                go_wp2_with (first | refine wpList_arrayAt 36 (.tmp 47) rfl rfl hat (by kernel_rfl) ?_ | refine wpList_load_at 36 (.tmp 48) rfl rfl (u8s X).toArray hld (by kernel_rfl) ?_ | (refine wpList_store_arr rfl 36 (.tmp 4) (.tmp 49) g (u8s x) (u8s X) rfl rfl rfl rfl HQ6.out.a HSz.out HLn.out (u8s_one _) ?_; rw [HW7.out]) | refine wpList_copy_run rfl (.tmp 50) (.tmp 51) _ rfl rfl rfl hcp7 ?_ | fail)
                refine ⟨⟨j + 1, by omega, by go_num, ?_⟩, by simp [intOf]; omega⟩
                rw [HE.out]
                exact HQ8.out
            · skip
              go_wp2_with (refine wpList_alloc_arr rfl 56 zr16.toArray rfl zeroR16 ?_)
              refine ⟨below_alloc W2 _, ?_⟩
              have HB3 := Lib.hid (Blk.new W2 56 zr16)
              have HQ3 := Lib.hid (HQ2.out.below (below_alloc W2 (.cells zr16.toArray 56)))
              obtain ⟨gX, hgX⟩ : ∃ gX, W2.heap.size = gX := ⟨_, rfl⟩
              have HGX : Hid (g < gX ∧ g + 1 < gX ∧ gR < gX) := Lib.hid (by have h1 := HQ2.out.a.lt; have h2 := HQ2.out.o.lt; have h3 := HQ2.out.r.lt; rw [hgX] at h1 h2 h3; exact ⟨h1, h2, h3⟩)
              rw [hgX] at HB3 ⊢
              clear HQ2 hgX
              generalize W2.alloc (.cells zr16.toArray 56) = W3 at *
              simp only [Act.put, List.setIfInBounds_toArray, List.set]
              refine oneG 12 2 rfl (by kernel_rfl) rfl ?_
              go_wp2_with fail
              refine (joined_any W3 (Wrp.xt x t) y _ _ rfl rfl (by rw [Wrp.xt_len]; exact HX.out) HY.out).mono ?_
              rintro e W4 ⟨rfl, hb⟩
              have HQ4 := Lib.hid (HQ3.out.below hb)
              have HB4 := Lib.hid (HB3.out.below hb HB3.out.lt)
              clear HQ3
              clear HB3
              go_wp2
              refine ⟨hb, ?_⟩
              clear hb
              refine oneG 13 1 rfl (by kernel_rfl) rfl ?_
              go_wp2_with fail
              refine (aesOK.dec W4 gc key (Wrp.xt x t ++ y) HS.out (aesOK.stay HRep.out (by have := HQ4.out.b; exact this)) (by rw [List.length_append, Wrp.xt_len, HX.out, HY.out])).mono ?_
              rintro e W5 ⟨rfl, hb⟩
              rw [HZE.out]
              have HQ5 := Lib.hid (HQ4.out.below hb)
              have HB5 := Lib.hid (HB4.out.below hb HB4.out.lt)
              clear HQ4
              clear HB4
              go_wp2
              refine ⟨hb, ?_⟩
              clear hb
              refine lateG 15 0 rfl (by kernel_rfl) (by kernel_rfl) rfl ?_
              have HSz := Lib.hid (sizeA16 z HZl.out)
              have HLn : Hid (zr16.length = (u8s z).length) := Lib.hid (by rw [u8s_len, HZl.out]; rfl)
              have HQ6 := Lib.hid (HQ5.out.setX gX (u8s z).toArray ⟨by have := HGX.out; omega, by have := HGX.out; omega, by have := HGX.out; omega, by have := HGX.out; have := Hg.out; omega⟩)
              have HB6 := Lib.hid (HB5.out.row (u8s z))
              obtain ⟨W6, hW6⟩ : ∃ W6, W5.setRow gX (u8s z).toArray = W6 := ⟨_, rfl⟩
              rw [hW6] at HQ6 HB6
              have HW6 := Lib.hid hW6
              clear hW6 HQ5
              go_wp2_with (refine wpList_store_arr rfl 56 (.tmp 13) (.tmp 46) gX zr16 (u8s z) rfl rfl rfl rfl HB5.out HSz.out HLn.out (u8s_one _) ?_; rw [HW6.out])
              refine ⟨trivial, ?_⟩
              refine wpAnyG_done (by kernel_rfl) ?_
              clear HW6 HB5 HSz HLn
              have hld := load_at8 (o := 0) HB6.out (x := z.take 8) (Wrp.half1 z HZl.out) (fun i v hv => by
                have h1 : (u8s (z.take 8))[i]? = some v := hv
                rw [← u8s_take, List.getElem?_take] at h1
                split at h1
                · rw [Nat.zero_add]; exact h1
                · cases h1)
              have hat := run_arr8 gX 0 8 16 (by omega) W6
              have HH := Lib.hid (Wrp.half1 z HZl.out)
              generalize z.take 8 = zh at *
              have hdd : g + 1 ≠ g ∧ gR ≠ g ∧ w.heap.size ≤ g := ⟨by omega, by have := HgR.out; omega, by have := Hg.out; omega⟩
              have hQ7 := HQ6.out.setA zh hdd
              have hB7 := HB6.out.rowFar (g' := g) (by have := HGX.out; omega) (u8s zh).toArray
              obtain ⟨X, hX⟩ : ∃ X, zh = X := ⟨_, rfl⟩
              have hXl : X.length = 8 := by rw [← hX]; exact HH.out
              rw [hX] at hQ7 hB7 hld HST
              clear HH
              have HSz := Lib.hid (sizeA8 X hXl)
              have HLn : Hid ((u8s x).length = (u8s X).length) := Lib.hid (by rw [u8s_len, u8s_len, HX.out, hXl])
              obtain ⟨W7, hW7⟩ : ∃ W7, W6.setRow g (u8s X).toArray = W7 := ⟨_, rfl⟩
              rw [hW7] at hQ7 hB7
              have HW7 := Lib.hid hW7
              have hcp7 := run_copy_seg (P := Tryd.prog) (w := W7) 22 22 3 5 Tryd.und22 Tryd.size5 gR (i * 8) (L - i * 8) (cp - i * 8) 8 8 gX 8 (z.drop 8) 8 (fun u c hi => by
                rw [hB7.cell, u8s_get]
                rw [List.getElem?_drop] at hi
                rw [hi]; rfl) (Wrp.half2 z HZl.out).symm (by rw [Wrp.half2 z HZl.out]; have := HN.out; omega) _ _ hQ7.r (by have h1 := HRl.out; have h2 := HN.out; rw [List.length_append, u8s_len]; omega)
              have hE : (u8s r ++ rest).take (i * 8) ++ u8s ((z.drop 8).take 8) ++ (u8s r ++ rest).drop (i * 8 + 8) = u8s (Wrp.p8 r i (z.drop 8)) ++ rest := by
                rw [Nat.mul_comm i 8]
                exact part_put r z rest i HZl.out (by have := HRl.out; omega)
              rw [hE] at hcp7
              have HQ8 := Lib.hid (hQ7.setR (Wrp.p8 r i (z.drop 8)) ⟨by have := HgR.out; omega, by have := HgR.out; omega, by have := HgR.out; have := Hg.out; omega⟩)
              have HE : Hid (Wrp.bw key n (a, b) (6 * n) (m + (j + 1)) = (X, Wrp.p8 r i (z.drop 8))) := Lib.hid (by rw [HST.out])
              clear hdd hQ7 hB7 hX hXl hW7 hE
              go_wp2_with (first | refine wpList_arrayAt 36 (.tmp 47) rfl rfl hat (by kernel_rfl) ?_ | refine wpList_load_at 36 (.tmp 48) rfl rfl (u8s X).toArray hld (by kernel_rfl) ?_ | (refine wpList_store_arr rfl 36 (.tmp 4) (.tmp 49) g (u8s x) (u8s X) rfl rfl rfl rfl HQ6.out.a HSz.out HLn.out (u8s_one _) ?_; rw [HW7.out]) | refine wpList_copy_run rfl (.tmp 50) (.tmp 51) _ rfl rfl rfl hcp7 ?_ | fail)
              refine ⟨⟨j + 1, by omega, by go_num, ?_⟩, by simp [intOf]; omega⟩
              rw [HE.out]
              exact HQ8.out
          · skip
            go_wp2_with (refine wpList_alloc_arr rfl 56 zr16.toArray rfl zeroR16 ?_)
            refine ⟨below_alloc W1 _, ?_⟩
            have HB2 := Lib.hid (Blk.new W1 56 zr16)
            have HQ2 := Lib.hid (HQ1.out.below (below_alloc W1 (.cells zr16.toArray 56)))
            obtain ⟨gX, hgX⟩ : ∃ gX, W1.heap.size = gX := ⟨_, rfl⟩
            have HGX : Hid (g < gX ∧ g + 1 < gX ∧ gR < gX) := Lib.hid (by have h1 := HQ1.out.a.lt; have h2 := HQ1.out.o.lt; have h3 := HQ1.out.r.lt; rw [hgX] at h1 h2 h3; exact ⟨h1, h2, h3⟩)
            rw [hgX] at HB2 ⊢
            clear HQ1 hgX
            generalize W1.alloc (.cells zr16.toArray 56) = W2 at *
            simp only [Act.put, List.setIfInBounds_toArray, List.set]
            refine oneG 8 3 rfl (by kernel_rfl) rfl ?_
            go_wp2_with fail
            refine (counted_any W2 x _ t _ rfl rfl HX.out (by omega)).mono ?_
            rintro e W3 ⟨rfl, hb⟩
            have HQ3 := Lib.hid (HQ2.out.below hb)
            have HB3 := Lib.hid (HB2.out.below hb HB2.out.lt)
            clear HQ2
            clear HB2
            go_wp2
            refine ⟨hb, ?_⟩
            clear hb
            refine oneG 12 2 rfl (by kernel_rfl) rfl ?_
            go_wp2_with fail
            refine (joined_any W3 (Wrp.xt x t) y _ _ rfl rfl (by rw [Wrp.xt_len]; exact HX.out) HY.out).mono ?_
            rintro e W4 ⟨rfl, hb⟩
            have HQ4 := Lib.hid (HQ3.out.below hb)
            have HB4 := Lib.hid (HB3.out.below hb HB3.out.lt)
            clear HQ3
            clear HB3
            go_wp2
            refine ⟨hb, ?_⟩
            clear hb
            refine oneG 13 1 rfl (by kernel_rfl) rfl ?_
            go_wp2_with fail
            refine (aesOK.dec W4 gc key (Wrp.xt x t ++ y) HS.out (aesOK.stay HRep.out (by have := HQ4.out.b; exact this)) (by rw [List.length_append, Wrp.xt_len, HX.out, HY.out])).mono ?_
            rintro e W5 ⟨rfl, hb⟩
            rw [HZE.out]
            have HQ5 := Lib.hid (HQ4.out.below hb)
            have HB5 := Lib.hid (HB4.out.below hb HB4.out.lt)
            clear HQ4
            clear HB4
            go_wp2
            refine ⟨hb, ?_⟩
            clear hb
            refine lateG 15 0 rfl (by kernel_rfl) (by kernel_rfl) rfl ?_
            have HSz := Lib.hid (sizeA16 z HZl.out)
            have HLn : Hid (zr16.length = (u8s z).length) := Lib.hid (by rw [u8s_len, HZl.out]; rfl)
            have HQ6 := Lib.hid (HQ5.out.setX gX (u8s z).toArray ⟨by have := HGX.out; omega, by have := HGX.out; omega, by have := HGX.out; omega, by have := HGX.out; have := Hg.out; omega⟩)
            have HB6 := Lib.hid (HB5.out.row (u8s z))
            obtain ⟨W6, hW6⟩ : ∃ W6, W5.setRow gX (u8s z).toArray = W6 := ⟨_, rfl⟩
            rw [hW6] at HQ6 HB6
            have HW6 := Lib.hid hW6
            clear hW6 HQ5
            go_wp2_with (refine wpList_store_arr rfl 56 (.tmp 13) (.tmp 46) gX zr16 (u8s z) rfl rfl rfl rfl HB5.out HSz.out HLn.out (u8s_one _) ?_; rw [HW6.out])
            refine ⟨trivial, ?_⟩
            refine wpAnyG_done (by kernel_rfl) ?_
            clear HW6 HB5 HSz HLn
            have hld := load_at8 (o := 0) HB6.out (x := z.take 8) (Wrp.half1 z HZl.out) (fun i v hv => by
              have h1 : (u8s (z.take 8))[i]? = some v := hv
              rw [← u8s_take, List.getElem?_take] at h1
              split at h1
              · rw [Nat.zero_add]; exact h1
              · cases h1)
            have hat := run_arr8 gX 0 8 16 (by omega) W6
            have HH := Lib.hid (Wrp.half1 z HZl.out)
            generalize z.take 8 = zh at *
            have hdd : g + 1 ≠ g ∧ gR ≠ g ∧ w.heap.size ≤ g := ⟨by omega, by have := HgR.out; omega, by have := Hg.out; omega⟩
            have hQ7 := HQ6.out.setA zh hdd
            have hB7 := HB6.out.rowFar (g' := g) (by have := HGX.out; omega) (u8s zh).toArray
            obtain ⟨X, hX⟩ : ∃ X, zh = X := ⟨_, rfl⟩
            have hXl : X.length = 8 := by rw [← hX]; exact HH.out
            rw [hX] at hQ7 hB7 hld HST
            clear HH
            have HSz := Lib.hid (sizeA8 X hXl)
            have HLn : Hid ((u8s x).length = (u8s X).length) := Lib.hid (by rw [u8s_len, u8s_len, HX.out, hXl])
            obtain ⟨W7, hW7⟩ : ∃ W7, W6.setRow g (u8s X).toArray = W7 := ⟨_, rfl⟩
            rw [hW7] at hQ7 hB7
            have HW7 := Lib.hid hW7
            have hcp7 := run_copy_seg (P := Tryd.prog) (w := W7) 22 22 3 5 Tryd.und22 Tryd.size5 gR (i * 8) (L - i * 8) (cp - i * 8) 8 8 gX 8 (z.drop 8) 8 (fun u c hi => by
              rw [hB7.cell, u8s_get]
              rw [List.getElem?_drop] at hi
              rw [hi]; rfl) (Wrp.half2 z HZl.out).symm (by rw [Wrp.half2 z HZl.out]; have := HN.out; omega) _ _ hQ7.r (by have h1 := HRl.out; have h2 := HN.out; rw [List.length_append, u8s_len]; omega)
            have hE : (u8s r ++ rest).take (i * 8) ++ u8s ((z.drop 8).take 8) ++ (u8s r ++ rest).drop (i * 8 + 8) = u8s (Wrp.p8 r i (z.drop 8)) ++ rest := by
              rw [Nat.mul_comm i 8]
              exact part_put r z rest i HZl.out (by have := HRl.out; omega)
            rw [hE] at hcp7
            have HQ8 := Lib.hid (hQ7.setR (Wrp.p8 r i (z.drop 8)) ⟨by have := HgR.out; omega, by have := HgR.out; omega, by have := HgR.out; have := Hg.out; omega⟩)
            have HE : Hid (Wrp.bw key n (a, b) (6 * n) (m + (j + 1)) = (X, Wrp.p8 r i (z.drop 8))) := Lib.hid (by rw [HST.out])
            clear hdd hQ7 hB7 hX hXl hW7 hE
            go_wp2_with (first | refine wpList_arrayAt 36 (.tmp 47) rfl rfl hat (by kernel_rfl) ?_ | refine wpList_load_at 36 (.tmp 48) rfl rfl (u8s X).toArray hld (by kernel_rfl) ?_ | (refine wpList_store_arr rfl 36 (.tmp 4) (.tmp 49) g (u8s x) (u8s X) rfl rfl rfl rfl HQ6.out.a HSz.out HLn.out (u8s_one _) ?_; rw [HW7.out]) | refine wpList_copy_run rfl (.tmp 50) (.tmp 51) _ rfl rfl rfl hcp7 ?_ | fail)
            refine ⟨⟨j + 1, by omega, by go_num, ?_⟩, by simp [intOf]; omega⟩
            rw [HE.out]
            exact HQ8.out
        · obtain rfl : j = n := by omega
          have HQ := Lib.hid hW
          have HE := Lib.hid HKN.out
          clear hW
          go_wp2
          exact ⟨⟨k + 1, by omega, by go_num, by rw [← HE.out]; exact HQ.out⟩, by simp [intOf]; omega⟩
    · obtain rfl : k = 6 := by omega
      rw [← HZ.out] at HW
      have hZl : Wrp.Ok n Z := by rw [HZ.out]; exact Wrp.bw_ok (by omega) ⟨Ha.out, by show b.length = _; rw [← HL.out, HN.out]⟩ _ _
      have HSz := Lib.hid (sizeA8 Z.1 hZl.1)
      have HLn : Hid (zr8.length = (u8s Z.1).length) := Lib.hid (by rw [u8s_len, hZl.1]; rfl)
      have hld := run_loadVar_row (P := Tryd.prog) wr g 36 36 (u8s Z.1).toArray (0, 0) _ HW.out.a Tryd.und8 rfl (by simpa using HSz.out)
      have hbk := run_loadVar_row (P := Tryd.prog) _ (g + 1) 36 36 (u8s Z.1).toArray (0, 0) _ (HW.out.o.row (u8s Z.1)) Tryd.und8 rfl (by simpa using HSz.out)
      have HR := Lib.hid (HW.out.r.rowFar (g' := g + 1) (by have := HgR.out; omega) (u8s Z.1).toArray)
      have Hb := Lib.hid (below_setRow HW.out.b (by have := Hg.out; omega : w.heap.size ≤ g + 1) (u8s Z.1).toArray)
      have HOe := Lib.hid (u8s_one Z.1)
      clear hZl
      go_wp2_with (first | refine wpList_load_arr_w 36 (.tmp 4) rfl rfl (u8s Z.1).toArray hld (by kernel_rfl) ?_ | refine wpList_store_arr rfl 36 (.tmp 6) (.tmp 55) (g + 1) _ _ rfl rfl rfl rfl HW.out.o HSz.out HLn.out HOe.out ?_)
      try simp only [Act.put, List.setIfInBounds_toArray, List.set]
      refine bodyPost_ret (v := .tuple #[.agg (u8s Z.1).toArray, .slice (some ⟨gR, 0, none⟩) L cp]) ?_ rfl ⟨gR, cp, rest, rfl, HCp.out, HR.out, Hb.out⟩
      generalize (u8s Z.1).toArray = X at hbk ⊢
      simp [results, Tryd.results18, asAddr, hbk]
end Go.Proofs.YtbcagjndbfpecaaDoor
namespace Go.Proofs.YtbcagjndbfpecaaDoor
open Go.RowKit Go.Gar Go.Gar.Aes

theorem Tryd.und3 : Tryd.prog.underlying 3 = some (.int .i64) := by kernel_rfl
theorem slice_to0 (g n c : Nat) (W : World) : (Instr.sliceAt 22 (.slice (some ⟨g, 0, none⟩) n c) none (some (.int .i64 0)) none).run Tryd.prog W = .ok (.slice (some ⟨g, 0, none⟩) 0 c) W := by
  obtain ⟨i, hi, hs⟩ := Option.map_eq_some_iff.1 Tryd.size5
  simp [Instr.sliceAt, Instr.sliceBounds, Instr.sureAddr, run_underlying Tryd.und22 W, sizeOf, typeInfo, hi, hs, go_sem]
set_option maxHeartbeats 1000000 in
theorem grow_any (w : World) (n : Nat) (h0 : 0 < n) (hl : n ≤ 1048576) :
    Calls Tryd.prog 28 #[.slice none 0 0, .int .i64 (n : Int)] w fun e w' => ∃ v, e = .returned v ∧ OwnB w' w.heap.size 5 v [] ∧ Below w.heap.size w w' := by
  obtain ⟨i, hi, hzz⟩ := Option.map_eq_some_iff.1 Tryd.info5
  simp only [Prod.mk.injEq] at hzz
  obtain ⟨hz, hs, hby⟩ := hzz
  have hrun := Lib.run_append_nil_zeros (P := Tryd.prog) w 22 3 22 5 i _ .i64 .i64 Tryd.und22 Tryd.und3 hi hz n h0 (by omega) (by omega) (by rw [hby]; omega)
  have hge := grownCap_ge w n 0 5
  have hle := grownCap_le_maxLen w n 0 5 (by simp only [maxLen]; omega)
  generalize grownCap w n 0 5 = cp at hrun hge hle
  have hO : OwnB (w.drew.alloc (.cells (Builtin.zeroCells (Value.int .u8 0).cells n ++ Builtin.zeroCells (Value.int .u8 0).cells (cp - n)) 5)) w.heap.size 5 (.slice (some ⟨w.heap.size, 0, none⟩) 0 cp) [] :=
    World.ownsRow_made w.drew _ cp (Nat.le_refl _) hle (by simp [size_zeroCells, Value.cells]; omega)
  have hb : Below w.heap.size w (w.drew.alloc (.cells (Builtin.zeroCells (Value.int .u8 0).cells n ++ Builtin.zeroCells (Value.int .u8 0).cells (cp - n)) 5)) := (Below.refl _ w).drew.alloc (Nat.le_refl _) _
  generalize w.drew.alloc (.cells (Builtin.zeroCells (Value.int .u8 0).cells n ++ Builtin.zeroCells (Value.int .u8 0).cells (cp - n)) 5) = w1 at *
  have hsl := fun W => slice_to0 w.heap.size n cp W
  have HO := Lib.hid hO
  have Hb := Lib.hid hb
  have hn1 : (0 : Int) < (n : Int) := by omega
  clear hO hb hi hz hs hby hge hle h0
  go_enter Tryd.func28, Tryd.ntmps28
  go_wp2_with (at_builtin; refine wpList_append_run rfl (.tmp 20) (.tmp 21) _ rfl rfl rfl hrun ?_)
  go_ret
  exact ⟨_, rfl, HO.out, Hb.out⟩

set_option maxHeartbeats 2000000 in
theorem concat_any (w : World) (gC : Nat) (A1 A2 : Option Addr) (l1 l2 : List UInt8) (n1 n2 c1 c2 : Nat) (hC : Blk w gC 22 [.slice A1 n1 c1, .slice A2 n2 c2]) (h1 : n1 = l1.length) (h2 : n2 = l2.length) (r1 : Rd w w.heap.size A1 l1) (r2 : Rd w w.heap.size A2 l2) (h0 : 0 < n1 + n2) (hl : n1 + n2 ≤ 1048576) :
    Calls Tryd.prog 15 #[.slice (some ⟨gC, 0, none⟩) 2 2] w fun e w' => ∃ v, e = .returned v ∧ OwnB w' w.heap.size 5 v (l1 ++ l2) ∧ Below w.heap.size w w' := by
  have HC := Lib.hid hC
  have H1 := Lib.hid h1
  have H2 := Lib.hid h2
  have R1 := Lib.hid r1
  have R2 := Lib.hid r2
  have q1 := hC.cell 0
  have q2 := hC.cell 1
  rw [show ([.slice A1 n1 c1, .slice A2 n2 c2] : List Value)[0]? = some (.slice A1 n1 c1) from rfl] at q1
  rw [show ([.slice A1 n1 c1, .slice A2 n2 c2] : List Value)[1]? = some (.slice A2 n2 c2) from rfl] at q2
  clear hC h1 h2 r1 r2
  go_enter Tryd.func15, Tryd.ntmps15
  go_wp2
  go_loopw [3, 11] (fun z i w' => w' = w ∧ ((i = .int .i64 0 ∧ z = .int .i64 0) ∨ (i = .int .i64 1 ∧ z = .int .i64 (n1 : Int)) ∨ (i = .int .i64 2 ∧ z = .int .i64 ((n1 + n2 : Nat) : Int)))) (fun _ i _ => 2 - (intOf i).toNat)
  case atStart => exact ⟨rfl, .inl ⟨rfl, rfl⟩⟩
  case round =>
    obtain ⟨rfl, h | h | h⟩ := hrel
    · obtain ⟨rfl, rfl⟩ := h
      go_wp2
      exact ⟨⟨trivial, .inr (.inl ⟨by go_num, by go_num⟩)⟩, by simp [intOf]⟩
    · obtain ⟨rfl, rfl⟩ := h
      have hnn : ¬ ((n1 : Int) + (n2 : Int) < 0) := by omega
      go_wp2
      exact ⟨⟨trivial, .inr (.inr ⟨by go_num, by go_num⟩)⟩, by simp [intOf]⟩
    · obtain ⟨rfl, rfl⟩ := h
      go_wp2_with fail
      refine (grow_any wr (n1 + n2) h0 hl).mono ?_
      rintro e w1 ⟨v, rfl, hO, hb⟩
      have HO := Lib.hid hO
      have Hb := Lib.hid hb
      clear q1 q2 hO hb
      go_wp2
      go_loopw [6, 27] (fun v i w' => Below wr.heap.size wr w' ∧ ((i = .int .i64 0 ∧ OwnB w' wr.heap.size 5 v []) ∨ (i = .int .i64 1 ∧ OwnB w' wr.heap.size 5 v l1) ∨ (i = .int .i64 2 ∧ OwnB w' wr.heap.size 5 v (l1 ++ l2)))) (fun _ i _ => 2 - (intOf i).toNat)
      case atStart => exact ⟨Hb.out, .inl ⟨rfl, HO.out⟩⟩
      case round =>
        obtain ⟨hb, h | h | h⟩ := hrel
        · obtain ⟨rfl, hO⟩ := h
          have q := (HC.out.below hb HC.out.lt).cell 0
          rw [show ([.slice A1 n1 c1, .slice A2 n2 c2] : List Value)[0]? = some (.slice A1 n1 c1) from rfl] at q
          obtain ⟨v', w', e1, ho1, hb1, _⟩ := app_rd (P := Tryd.prog) 22 22 Tryd.und22 Tryd.info5 hO hb.size c1 (R1.out.below hb) (by have := H1.out; have := H2.out; simp; omega)
          rw [← H1.out] at e1
          have HO1 := Lib.hid ho1
          have Hb1 := Lib.hid (hb.trans hb1)
          clear ho1 hb1 hO hb
          go_wp2_with (at_builtin; refine wpList_append_run rfl (.tmp 31) (.tmp 32) _ rfl rfl rfl e1 ?_)
          exact ⟨⟨Hb1.out, .inr (.inl ⟨by go_num, by simpa using HO1.out⟩)⟩, by simp [intOf]⟩
        · obtain ⟨rfl, hO⟩ := h
          have q := (HC.out.below hb HC.out.lt).cell 1
          rw [show ([.slice A1 n1 c1, .slice A2 n2 c2] : List Value)[1]? = some (.slice A2 n2 c2) from rfl] at q
          obtain ⟨v', w', e1, ho1, hb1, _⟩ := app_rd (P := Tryd.prog) 22 22 Tryd.und22 Tryd.info5 hO hb.size c2 (R2.out.below hb) (by have := H1.out; have := H2.out; simp; omega)
          rw [← H2.out] at e1
          have HO1 := Lib.hid ho1
          have Hb1 := Lib.hid (hb.trans hb1)
          clear ho1 hb1 hO hb
          go_wp2_with (at_builtin; refine wpList_append_run rfl (.tmp 31) (.tmp 32) _ rfl rfl rfl e1 ?_)
          exact ⟨⟨Hb1.out, .inr (.inr ⟨by go_num, HO1.out⟩)⟩, by simp [intOf]⟩
        · obtain ⟨rfl, hO⟩ := h
          have HO1 := Lib.hid hO
          have Hb1 := Lib.hid hb
          clear hO hb
          go_wp2
          go_ret
          exact ⟨_, rfl, HO1.out, Hb1.out⟩

/-- Concat of two slices that the caller lists: some bytes there are. -/
theorem concat2 (w : World) (g : Nat) (A1 A2 : Option Addr) (l1 l2 l : List UInt8) (n1 n2 c1 c2 : Nat) (hg : g = w.heap.size) (hlv : l = l1 ++ l2) (h1 : n1 = l1.length) (h2 : n2 = l2.length) (r1 : Rd w w.heap.size A1 l1) (r2 : Rd w w.heap.size A2 l2) (h0 : 0 < n1 + n2) (hl : n1 + n2 ≤ 1048576) :
    Calls Tryd.prog 15 #[.slice (some ⟨g, 0, none⟩) 2 2] (w.alloc (.cells #[.slice A1 n1 c1, .slice A2 n2 c2] 22)) fun e w' => ∃ v, e = .returned v ∧ Out w' v l ∧ Below w.heap.size w w' := by
  subst hg
  have hbl := below_alloc w (.cells #[.slice A1 n1 c1, .slice A2 n2 c2] 22)
  refine (concat_any (w.alloc (.cells #[.slice A1 n1 c1, .slice A2 n2 c2] 22)) w.heap.size A1 A2 l1 l2 n1 n2 c1 c2 (Blk.new w _ _) h1 h2 ((r1.below hbl).more hbl.size) ((r2.below hbl).more hbl.size) h0 hl).mono ?_
  rintro e w' ⟨v, rfl, hO, hb⟩
  obtain ⟨gR, cp, rest, rfl, _, hcp, hB⟩ := hO.blk (by rw [List.length_append]; omega)
  rw [hlv]
  exact ⟨_, rfl, ⟨_, cp, rfl, hcp, Rd.of_row hB⟩, hbl.trans (hb.mono hbl.size)⟩
end Go.Proofs.YtbcagjndbfpecaaDoor
namespace Go.Proofs.YtbcagjndbfpecaaDoor
open Go.RowKit Go.Gar Go.Gar.Aes

/-- The package's variable holds eight bytes 0xa6. -/
def Gl (w : World) : Prop := ∀ i, i < 8 → w.cell? ⟨0, i, none⟩ = some (.int .u8 166)
theorem Gl.keep {w w' : World} (h : Gl w) (hb : Below w.heap.size w w') : Gl w' := fun i hi => cell_stays hb (h i hi)
theorem iv_get (i : Nat) (v : Value) (h : (u8s Wrp.iv8)[i]? = some v) : i < 8 ∧ v = .int .u8 166 := by
  have hl : i < 8 := by
    have := (List.getElem?_eq_some_iff.1 h).1
    rw [u8s_len] at this
    exact this
  refine ⟨hl, ?_⟩
  rw [u8s_get, Wrp.iv8, List.getElem?_replicate, if_pos hl] at h
  exact (Option.some.inj h).symm
theorem Gl.load {w : World} (h : Gl w) : (loadVar 36 ⟨0, 0, none⟩).run Tryd.prog w = .ok (.agg (u8s Wrp.iv8).toArray) w :=
  run_loadVar_mid (P := Tryd.prog) w 0 0 36 (u8s Wrp.iv8) _ (fun j v hv => by
    obtain ⟨h1, rfl⟩ := iv_get j v hv
    rw [Nat.zero_add]; exact h j h1) Tryd.und8 rfl (by rw [u8s_len]; kernel_rfl)

set_option maxRecDepth 100000 in
set_option maxHeartbeats 2000000 in
theorem wrap_no (w : World) (K A : Option Addr) (kl kc bl bc : Nat) (hno : ¬ sizeOk kl) :
    Calls Tryd.prog 6 #[.slice K kl kc, .slice A bl bc] w fun e w' => e = .returned (.tuple #[.slice none 0 0, .int .i64 1]) ∧ Below w.heap.size w w' := by
  go_enter Tryd.func6, Tryd.ntmps6
  go_wp2_with fail
  refine (aesOK.new_no w K kl kc hno).mono ?_
  rintro e w1 ⟨rfl, hb1⟩
  have Hb1 := Lib.hid hb1
  clear hb1
  go_wp2
  go_ret2
  exact ⟨rfl, Hb1.out⟩
set_option maxRecDepth 100000 in
set_option maxHeartbeats 2000000 in
theorem unwrap_no (w : World) (K A : Option Addr) (kl kc bl bc : Nat) (hno : ¬ sizeOk kl) :
    Calls Tryd.prog 10 #[.slice K kl kc, .slice A bl bc] w fun e w' => e = .returned (.tuple #[.slice none 0 0, .int .i64 1]) ∧ Below w.heap.size w w' := by
  go_enter Tryd.func10, Tryd.ntmps10
  go_wp2_with fail
  refine (aesOK.new_no w K kl kc hno).mono ?_
  rintro e w1 ⟨rfl, hb1⟩
  have Hb1 := Lib.hid hb1
  clear hb1
  go_wp2
  go_ret2
  exact ⟨rfl, Hb1.out⟩
set_option maxRecDepth 100000 in
set_option maxHeartbeats 2000000 in
theorem wrap_arg (w : World) (K A : Option Addr) (key : List UInt8) (kl kc bl bc : Nat) (hkl : kl = key.length) (hkc : kl ≤ kc) (rK : Rd w w.heap.size K key) (hs : sizeOk kl) (hno : ¬ fits bl) (hbl : bl ≤ 1048576) :
    Calls Tryd.prog 6 #[.slice K kl kc, .slice A bl bc] w fun e w' => e = .returned (.tuple #[.slice none 0 0, .int .i64 1]) ∧ Below w.heap.size w w' := by
  have hsk : sizeOk key.length := by rw [← hkl]; exact hs
  have HN := Lib.hid hno
  have HNew := Lib.hid (aesOK.new_yes w K key kl kc hsk hkl (by omega) rK)
  clear hno hsk hs hkl rK hkc
  go_enter Tryd.func6, Tryd.ntmps6
  go_wp2_with fail
  refine HNew.out.mono ?_
  rintro e w1 ⟨gc, rfl, _, hb1⟩
  have Hb1 := Lib.hid hb1
  clear hb1
  go_wp2_with fail
  refine (wrappable_any w1 (bl : Int) false (by have := HN.out; unfold fits at this; simp; omega) (by omega) (by omega)).mono ?_
  rintro e w2 ⟨rfl, rfl⟩
  go_wp2
  go_ret2
  exact ⟨rfl, Hb1.out⟩
set_option maxRecDepth 100000 in
set_option maxHeartbeats 2000000 in
theorem unwrap_arg (w : World) (K A : Option Addr) (key : List UInt8) (kl kc bl bc : Nat) (hkl : kl = key.length) (hkc : kl ≤ kc) (rK : Rd w w.heap.size K key) (hs : sizeOk kl) (hno : ¬ (8 ≤ bl ∧ fits (bl - 8))) (hbl : bl ≤ 1048576) :
    Calls Tryd.prog 10 #[.slice K kl kc, .slice A bl bc] w fun e w' => e = .returned (.tuple #[.slice none 0 0, .int .i64 1]) ∧ Below w.heap.size w w' := by
  have hsk : sizeOk key.length := by rw [← hkl]; exact hs
  have HN := Lib.hid hno
  have HNew := Lib.hid (aesOK.new_yes w K key kl kc hsk hkl (by omega) rK)
  clear hno hsk hs hkl rK hkc
  go_enter Tryd.func10, Tryd.ntmps10
  go_wp2_with fail
  refine HNew.out.mono ?_
  rintro e w1 ⟨gc, rfl, _, hb1⟩
  have Hb1 := Lib.hid hb1
  clear hb1
  go_wp2_with fail
  refine (wrappable_any w1 ((bl : Int) - 8) false (by have := HN.out; unfold fits at this; simp; omega) (by omega) (by omega)).mono ?_
  rintro e w2 ⟨rfl, rfl⟩
  go_wp2
  go_ret2
  exact ⟨rfl, Hb1.out⟩

set_option maxRecDepth 100000 in
set_option maxHeartbeats 2000000 in
theorem wrap_yes (w : World) (hG : Gl w) (K A : Option Addr) (key b : List UInt8) (kl kc bl bc : Nat) (hkl : kl = key.length) (hkc : kl ≤ kc) (hbe : bl = b.length) (rK : Rd w w.heap.size K key) (rA : Rd w w.heap.size A b) (hs : sizeOk kl) (hf : fits bl) (O : List UInt8) (hO : O = Wrp.wrap_ key b) :
    Calls Tryd.prog 6 #[.slice K kl kc, .slice A bl bc] w fun e w' => ∃ v, e = .returned (.tuple #[v, .int .i64 0]) ∧ Out w' v O ∧ Below w.heap.size w w' := by
  have hsk : sizeOk key.length := by rw [← hkl]; exact hs
  have HF := Lib.hid hf
  have HS := Lib.hid hsk
  have HNew := Lib.hid (aesOK.new_yes w K key kl kc hsk hkl (by omega) rK)
  have HG := Lib.hid hG
  have HA := Lib.hid rA
  have HBE := Lib.hid hbe
  obtain ⟨n, hn⟩ : ∃ n, bl / 8 = n := ⟨_, rfl⟩
  have hn8 : bl = 8 * n := by unfold fits at hf; omega
  have hn1 : 1 ≤ n ∧ n ≤ 32 := by unfold fits at hf; omega
  obtain ⟨Z, hZ⟩ : ∃ Z, Z = Wrp.fw key n (Wrp.iv8, b) (6 * n) := ⟨_, rfl⟩
  have hZo : Wrp.Ok n Z := by rw [hZ]; exact Wrp.fw_ok (by omega) ⟨rfl, by show b.length = _; omega⟩ _
  have hOZ : O = Z.1 ++ Z.2 := by rw [hO, Wrp.wrap_, ← hbe, hn, ← hZ]
  have HN8 := Lib.hid hn8
  have HN1 := Lib.hid hn1
  have HZ := Lib.hid hZ
  have HZo := Lib.hid hZo
  have HOZ := Lib.hid hOZ
  clear hf hsk hs hkl rK hkc hG rA hbe hn hn8 hn1 hZ hZo hOZ hO
  go_enter Tryd.func6, Tryd.ntmps6
  go_wp2_with fail
  refine HNew.out.mono ?_
  rintro e w1 ⟨gc, rfl, hRep, hb1⟩
  have Hb1 := Lib.hid hb1
  have HRep := Lib.hid hRep
  have HG1 := Lib.hid (HG.out.keep hb1)
  have hld := HG1.out.load
  clear hb1 hRep HNew
  go_wp2_with fail
  refine (wrappable_any w1 (bl : Int) true (by have := HF.out; unfold fits at this; simp; omega) (by have := HF.out; unfold fits at this; omega) (by have := HF.out; unfold fits at this; omega)).mono ?_
  rintro e w2 ⟨rfl, rfl⟩
  go_wp2_with (first | refine wpList_load_arr_w 36 (.global 0) rfl rfl (u8s Wrp.iv8).toArray hld (by kernel_rfl) ?_ | fail)
  refine (forward_any w2 gc key Wrp.iv8 b A n bl bc HS.out HRep.out rfl HBE.out HN8.out HN1.out.1 HN1.out.2 ((HA.out.below Hb1.out).more Hb1.out.size) Z HZ.out).mono ?_
  rintro e w3 ⟨gR, cp, rest, rfl, hcp, hR3, hb3⟩
  have hZ4 := Blk.new w3 36 zr8
  have hX4 := hZ4.row (u8s Z.1)
  have hb4 : Below w3.heap.size w3 ((w3.alloc (.cells zr8.toArray 36)).setRow w3.heap.size (u8s Z.1).toArray) := below_setRow (below_alloc w3 _) (Nat.le_refl _) _
  have HZ4 := Lib.hid hZ4
  obtain ⟨w4, hw4⟩ : ∃ w4, (w3.alloc (.cells zr8.toArray 36)).setRow w3.heap.size (u8s Z.1).toArray = w4 := ⟨_, rfl⟩
  rw [hw4] at hX4 hb4
  have HW4 := Lib.hid hw4
  have HX4 := Lib.hid hX4
  have HR4 := Lib.hid (hR3.below hb4 hR3.lt)
  have Hb4 := Lib.hid (Hb1.out.trans ((hb3.trans (hb4.mono hb3.size)).mono Hb1.out.size))
  have HSz := Lib.hid (sizeA8 Z.1 HZo.out.1)
  have HLn : Hid (zr8.length = (u8s Z.1).length) := Lib.hid (by rw [u8s_len, HZo.out.1]; rfl)
  have Hcp := Lib.hid hcp
  clear hZ4 hX4 hb4 hw4 hR3 hb3 hcp hld
  go_wp2_with (first | refine wpList_alloc_arr rfl 36 zr8.toArray rfl zeroR8 ?_ | (refine wpList_store_arr rfl 36 (.tmp 8) (.tmp 27) w3.heap.size zr8 (u8s Z.1) rfl rfl rfl rfl HZ4.out HSz.out HLn.out (u8s_one _) ?_; rw [HW4.out]) | fail)
  refine (concat2 w4 _ (some ⟨w3.heap.size, 0, none⟩) (some ⟨gR, 0, none⟩) Z.1 Z.2 O 8 bl 8 cp rfl HOZ.out HZo.out.1.symm (by rw [HZo.out.2]; exact HN8.out) (Rd.of_all HX4.out) (Rd.of_row HR4.out) (by omega) (by have := HF.out; unfold fits at this; omega)).mono ?_
  rintro e w5 ⟨v, rfl, hOut, hb5⟩
  have HO5 := Lib.hid hOut
  have Hb5 := Lib.hid (Hb4.out.trans (hb5.mono Hb4.out.size))
  clear hOut hb5
  go_wp2
  go_ret2
  exact ⟨v, rfl, HO5.out, Hb5.out⟩

end Go.Proofs.YtbcagjndbfpecaaDoor
namespace Go.Gar
open Go.RowKit
theorem wpList_neq_arr_w {P : Program} {w : World} {ops : Array Oper} {rest : List Oper} {o : Oper} {a : Act} {Q : Exit → Act → World → Prop} (t t2 : TypeId) (p q : Operand) (ho : o.op = .binOp .neq t p q t2) {x y : Array Value} (hp : a.eval p = .agg x) (hq : a.eval q = .agg y) (r : Bool)
    (hg : P.eqGuardType P.depth t = false) (heq : ∀ w, (Op.equalIn 10000 t (.agg x) (.agg y)).run P w = .ok r w) (hw : Region.wanted o (yielded ops a.tmps) = true)
    (h : wpList P ops Q rest (a.put o.dst (.bool (!r))) w) : wpList P ops Q (o :: rest) a w := by
  refine wpList_run_w hw (v := .bool (!r)) (w' := w) ?_ h
  have h1 : (eqGuard .neq t p q (.agg x) (.agg y)).run P w = .ok () w := by
    simp [eqGuard, hg, Sem.run_bind]
  have h2 : (binOp .neq t (.agg x) (.agg y)).run P w = .ok (.bool (!r)) w := by
    have := heq w
    simp [binOp, Op.equal, Op.maxDepth, this, Result.andThen]
  unfold execOp
  simp only [ho, hp, hq, Sem.run_bind, h1, h2, Result.andThen_ok, Sem.run_pure]
end Go.Gar
namespace Go.Proofs.YtbcagjndbfpecaaDoor
open Go.RowKit Go.Gar Go.Gar.Aes
theorem Tryd.guard8 : Tryd.prog.eqGuardType Tryd.prog.depth 36 = false := by kernel_rfl

set_option maxRecDepth 100000 in
set_option maxHeartbeats 200000 in
theorem unwrap_yes (w : World) (hG : Gl w) (K A : Option Addr) (key b : List UInt8) (kl kc bl bc : Nat) (hkl : kl = key.length) (hkc : kl ≤ kc) (hbe : bl = b.length) (hbc : bl ≤ bc) (rK : Rd w w.heap.size K key) (rA : Rd w w.heap.size A b) (hs : sizeOk kl) (h8 : 8 ≤ bl) (hf : fits (bl - 8)) (O : List UInt8) (E : Nat)
    (hO : O = (Wrp.unwrap_ key b).getD []) (hE : E = if (Wrp.unwrap_ key b).isSome then 0 else 8) :
    Calls Tryd.prog 10 #[.slice K kl kc, .slice A bl bc] w fun e w' => ∃ v, e = .returned (.tuple #[v, .int .i64 (E : Int)]) ∧ Out w' v O ∧ Below w.heap.size w w' := by
  obtain ⟨gb, ob, rfl, hgb, hcell⟩ : ∃ gb ob, A = some ⟨gb, ob, none⟩ ∧ gb < w.heap.size ∧ ∀ i c, b[i]? = some c → w.cell? ⟨gb, ob + i, none⟩ = some (.int .u8 (c.toNat : Int)) := by
    rcases rA with h0 | ⟨gb, ob, e, h1, h2⟩
    · rw [hbe, h0] at h8; exact absurd h8 (by simp)
    · exact ⟨gb, ob, e, h1, h2⟩
  have hsk : sizeOk key.length := by rw [← hkl]; exact hs
  have HF := Lib.hid hf
  have HS := Lib.hid hsk
  have HNew := Lib.hid (aesOK.new_yes w K key kl kc hsk hkl (by omega) rK)
  have HG := Lib.hid hG
  have HBE := Lib.hid hbe
  have HCell := Lib.hid hcell
  have Hgb := Lib.hid hgb
  obtain ⟨n, hn⟩ : ∃ n, bl / 8 - 1 = n := ⟨_, rfl⟩
  have hn8 : bl - 8 = 8 * n := by unfold fits at hf; omega
  have hn1 : 1 ≤ n ∧ n ≤ 32 := by unfold fits at hf; omega
  obtain ⟨Z, hZ⟩ : ∃ Z, Z = Wrp.bw key n (b.take 8, b.drop 8) (6 * n) (6 * n) := ⟨_, rfl⟩
  have hl1 : (b.take 8).length = 8 := by rw [List.length_take]; omega
  have hl2 : (b.drop 8).length = 8 * n := by rw [List.length_drop, ← hbe]; exact hn8
  have hZo : Wrp.Ok n Z := by rw [hZ]; exact Wrp.bw_ok (s := (b.take 8, b.drop 8)) hn1.1 ⟨hl1, hl2⟩ _ _
  have hU : Wrp.unwrap_ key b = if Z.1 = Wrp.iv8 then some Z.2 else none := by rw [Wrp.unwrap_, ← hbe, hn, ← hZ]
  rw [hU] at hO hE
  have HN8 := Lib.hid hn8
  have HN1 := Lib.hid hn1
  have HZ := Lib.hid hZ
  have HZo := Lib.hid hZo
  have HO := Lib.hid hO
  have HE := Lib.hid hE
  have h8b : (8 : Int) ≤ (bl : Int) := by omega
  have h8c : (8 : Int) ≤ (bc : Int) := by omega
  have h8d : (bl : Int) ≤ 264 := by unfold fits at hf; omega
  clear hf hsk hs hkl rK hkc hG rA hbe hn hn8 hn1 hZ hZo hU hO hE hcell hgb
  go_enter Tryd.func10, Tryd.ntmps10
  go_wp2_with fail
  refine HNew.out.mono ?_
  rintro e w1 ⟨gc, rfl, hRep, hb1⟩
  have Hb1 := Lib.hid hb1
  have HRep := Lib.hid hRep
  clear hb1 hRep HNew
  go_wp2_with fail
  refine (wrappable_any w1 ((bl : Int) - 8) true (by have := HF.out; unfold fits at this; simp; omega) (by omega) (by have := HF.out; unfold fits at this; omega)).mono ?_
  rintro e w2 ⟨rfl, rfl⟩
  go_wp2_with fail
  refine wp_region_G (belowG w2.heap.size) (by kernel_rfl) ?_
  have hb20 : Below w2.heap.size w2 w2.drew := (Below.refl _ w2).drew
  have HL1 := Lib.hid hl1
  have HL2 : Hid ((b.drop 8).length = bl - 8) := Lib.hid (by rw [List.length_drop, ← HBE.out])
  have HRd : Hid (Rd w2 w2.heap.size (some ⟨gb, ob + 8, none⟩) (b.drop 8)) := Lib.hid (.inr ⟨gb, ob + 8, rfl, Nat.lt_of_lt_of_le Hgb.out Hb1.out.size, fun i c hi => by
    rw [List.getElem?_drop] at hi
    rw [Nat.add_assoc]
    exact cell_stays Hb1.out (HCell.out (8 + i) c hi)⟩)
  have hgb2 : gb < w2.heap.size := Nat.lt_of_lt_of_le Hgb.out Hb1.out.size
  have hcl2 : ∀ i c, b[i]? = some c → w2.cell? ⟨gb, ob + i, none⟩ = some (.int .u8 (c.toNat : Int)) := fun i c hi => cell_stays Hb1.out (HCell.out i c hi)
  obtain ⟨B, hB⟩ : ∃ B, w2.heap.size = B := ⟨_, rfl⟩
  rw [hB] at hb20 HRd hgb2 ⊢
  have HQ1 := Lib.hid hb20
  generalize w2.drew = W1 at *
  have HBe := Lib.hid hB
  have h8e : ¬ bc = 8 := by have := HF.out; unfold fits at this; omega
  have qp := fun V => run_arr8 gb ob bl bc (by omega) V
  have qy : ∀ V : Later (belowG B) W1, (loadVar 36 ⟨gb, ob, none⟩).run Tryd.prog V.to = .ok (.agg (u8s (b.take 8)).toArray) V.to := fun V =>
    run_loadVar_mid (P := Tryd.prog) V.to gb ob 36 (u8s (b.take 8)) _ (fun j v hv => by
      have hV : Below B W1 V.to := V.grown
      rw [u8s_get] at hv
      cases hq : (b.take 8)[j]? with
      | none => rw [hq] at hv; cases hv
      | some c =>
        rw [hq] at hv
        obtain rfl := Option.some.inj hv
        rw [List.getElem?_take] at hq
        split at hq
        · exact ((HQ1.out.trans hV).cell (p := ⟨gb, ob + j, none⟩) hgb2).trans (hcl2 j c hq)
        · cases hq) Tryd.und8 rfl (by rw [u8s_len, HL1.out]; kernel_rfl)
  clear hl1 hl2 hb20 hB
  refine segG (by kernel_rfl) (fun _ _ _ _ _ h => h) [0, 1] [_, _] 11 rfl rfl (by kernel_rfl) ?_
  repeat (go_big_quiet_step (fail))
  refine wpQuiet_nil ?_
  refine firstG_arrayAt 36 (.tmp 25) (i := 2) (n := 10) (by kernel_rfl) (fun _ _ _ _ _ h => h) rfl rfl (by kernel_rfl) rfl rfl qp (by kernel_rfl) ?_
  simp only [Act.put, List.setIfInBounds_toArray, List.set]
  refine segG (by kernel_rfl) (fun _ _ _ _ _ h => h) [3, 4, 5] [_, _, _] 7 rfl rfl (by kernel_rfl) ?_
  refine wpQuiet_load_at 36 (.tmp 26) rfl rfl (u8s (b.take 8)).toArray qy (by kernel_rfl) ?_
  simp only [Act.put, List.setIfInBounds_toArray, List.set]
  clear qy qp hcl2 hgb2
  repeat (go_big_quiet_step (fail))
  refine wpQuiet_nil ?_
  refine twoG 6 10 6 rfl (by kernel_rfl) rfl rfl ?_ ?_
  · skip
    go_wp2_with fail
    refine (backward_any W1 gc key (b.take 8) (b.drop 8) (some ⟨gb, ob + 8, none⟩) n (bl - 8) (bc - 8) HS.out (aesOK.stay HRep.out (by have h := HQ1.out; rw [← HBe.out] at h; exact h)) HL1.out HL2.out.symm HN8.out HN1.out.1 HN1.out.2 ((HRd.out.below HQ1.out).more (by have := HQ1.out.size; have := HBe.out; omega)) Z HZ.out).mono ?_
    rintro e W2 ⟨gR, cp, rest, rfl, hcp, hR, hb⟩
    have HQ2 := Lib.hid (HQ1.out.trans (hb.mono (by have := HQ1.out.size; have := HBe.out; omega)))
    have HR2 := Lib.hid hR
    have Hcp := Lib.hid hcp
    have Hle : Hid (B ≤ W1.heap.size) := Lib.hid (by have := HQ1.out.size; have := HBe.out; omega)
    clear hR hcp HQ1
    go_wp2
    refine ⟨hb.mono Hle.out, ?_⟩
    clear hb Hle
    refine segG (by kernel_rfl) (fun _ _ _ _ _ h => h) [7, 8, 9] [_, _, _] 3 rfl rfl (by kernel_rfl) ?_
    repeat (go_big_quiet_step (fail))
    refine wpQuiet_nil ?_
    refine oneG 10 2 rfl (by kernel_rfl) rfl ?_
    go_wp2_with (refine wpList_alloc_arr rfl 36 zr8.toArray rfl zeroR8 ?_)
    refine ⟨(below_alloc W2 _).mono (by have := HQ2.out.size; have := HBe.out; omega), ?_⟩
    have HX3 := Lib.hid (Blk.new W2 36 zr8)
    have HQ3 := Lib.hid (HQ2.out.trans ((below_alloc W2 (.cells zr8.toArray 36)).mono (by have := HQ2.out.size; have := HBe.out; omega)))
    obtain ⟨gX, hgX⟩ : ∃ gX, W2.heap.size = gX := ⟨_, rfl⟩
    have HGX : Hid (B ≤ gX) := Lib.hid (by rw [← hgX]; exact (by have := HQ2.out.size; have := HBe.out; omega))
    have HR3 := Lib.hid (HR2.out.alloc (.cells zr8.toArray 36))
    rw [hgX] at HX3 ⊢
    clear HQ2 hgX HR2
    generalize W2.alloc (.cells zr8.toArray 36) = W3 at *
    simp only [Act.put, List.setIfInBounds_toArray, List.set]
    have HSz := Lib.hid (sizeA8 Z.1 HZo.out.1)
    have HLn : Hid (zr8.length = (u8s Z.1).length) := Lib.hid (by rw [u8s_len, HZo.out.1]; rfl)
    have HX4 := Lib.hid (HX3.out.row (u8s Z.1))
    have HR4 := Lib.hid (HR3.out.rowFar (g' := gX) (HR3.out.ne HX3.out (by decide)) (u8s Z.1).toArray)
    have hst := below_setRow (Below.refl B W3) HGX.out (u8s Z.1).toArray
    have HQ4 := Lib.hid (HQ3.out.trans hst)
    have Hst := Lib.hid hst
    obtain ⟨W4, hW4⟩ : ∃ W4, W3.setRow gX (u8s Z.1).toArray = W4 := ⟨_, rfl⟩
    rw [hW4] at HX4 HR4 HQ4 Hst
    have HW4 := Lib.hid hW4
    clear hW4 hst HQ3
    refine oneG 11 1 rfl (by kernel_rfl) rfl ?_
    go_wp2_with (refine wpList_store_arr rfl 36 (.tmp 8) (.tmp 31) gX zr8 (u8s Z.1) rfl rfl rfl rfl HX3.out HSz.out HLn.out (u8s_one _) ?_; rw [HW4.out])
    refine ⟨Hst.out, ?_⟩
    refine segG (by kernel_rfl) (fun _ _ _ _ _ h => h) [12] [_] 0 rfl rfl (by kernel_rfl) ?_
    repeat (go_big_quiet_step (fail))
    refine wpQuiet_nil ?_
    refine wpAnyG_done (by kernel_rfl) ?_
    have hb4 : Below w2.heap.size w2 W4 := by rw [HBe.out]; exact HQ4.out
    have hld := run_loadVar_row (P := Tryd.prog) W4 gX 36 36 (u8s Z.1).toArray (0, 0) _ HX4.out Tryd.und8 rfl (by simpa using HSz.out)
    have hld2 := ((HG.out.keep Hb1.out).keep hb4).load
    have Hb4 := Lib.hid (Hb1.out.trans (hb4.mono Hb1.out.size))
    have hI8 : Wrp.iv8.length = 8 := rfl
    by_cases hz : Z.1 = Wrp.iv8
    · have hE0 : E = 0 := by have := HE.out; rw [if_pos hz] at this; simpa using this
      have hO0 : O = Z.2 := by have := HO.out; rw [if_pos hz] at this; simpa using this
      have heq := fun W => run_equalIn_u8s Tryd.und8 Tryd.plain5 Tryd.und5 Tryd.cells5 9998 Z.1 Wrp.iv8 HZo.out.1 hI8 (w := W)
      rw [decide_eq_true hz] at heq
      have HO0 := Lib.hid hO0
      have Hlen : Hid (bl - 8 = O.length) := Lib.hid (by rw [hO0, HZo.out.2]; exact HN8.out)
      have Hout : Hid (Out W4 (.slice (some ⟨gR, 0, none⟩) (bl - 8) cp) O) := Lib.hid ⟨_, cp, by rw [← Hlen.out], by rw [← Hlen.out]; exact Hcp.out, by rw [hO0]; exact Rd.of_row HR4.out⟩
      clear HO HE hz hO0 hb4 HR4 HX4 hI8
      subst hE0
      go_wp2_with (first | refine wpList_load_arr_w 36 (.tmp 8) rfl rfl (u8s Z.1).toArray hld (by kernel_rfl) ?_ | refine wpList_load_arr_w 36 (.global 0) rfl rfl (u8s Wrp.iv8).toArray hld2 (by kernel_rfl) ?_ | refine wpList_neq_arr_w 36 36 (.tmp 33) (.tmp 34) rfl rfl rfl true Tryd.guard8 heq (by kernel_rfl) ?_)
      go_ret2
      exact ⟨_, rfl, Hout.out, Hb4.out⟩
    · have hE8 : E = 8 := by have := HE.out; rw [if_neg hz] at this; simpa using this
      have hO0 : O = [] := by have := HO.out; rw [if_neg hz] at this; simpa using this
      have heq := fun W => run_equalIn_u8s Tryd.und8 Tryd.plain5 Tryd.und5 Tryd.cells5 9998 Z.1 Wrp.iv8 HZo.out.1 hI8 (w := W)
      rw [decide_eq_false hz] at heq
      clear HO HE hz hb4 HR4 HX4 hI8
      subst hE8
      subst hO0
      go_wp2_with (first | refine wpList_load_arr_w 36 (.tmp 8) rfl rfl (u8s Z.1).toArray hld (by kernel_rfl) ?_ | refine wpList_load_arr_w 36 (.global 0) rfl rfl (u8s Wrp.iv8).toArray hld2 (by kernel_rfl) ?_ | refine wpList_neq_arr_w 36 36 (.tmp 33) (.tmp 34) rfl rfl rfl false Tryd.guard8 heq (by kernel_rfl) ?_)
      go_ret2
      exact ⟨_, rfl, Out.nil _, Hb4.out⟩
  · skip
    go_wp2_with (refine wpList_alloc_arr rfl 36 zr8.toArray rfl zeroR8 ?_)
    refine ⟨(below_alloc W1 _).mono (by have := HQ1.out.size; have := HBe.out; omega), ?_⟩
    have HX2 := Lib.hid (Blk.new W1 36 zr8)
    have HQ2 := Lib.hid (HQ1.out.trans ((below_alloc W1 (.cells zr8.toArray 36)).mono (by have := HQ1.out.size; have := HBe.out; omega)))
    obtain ⟨gX, hgX⟩ : ∃ gX, W1.heap.size = gX := ⟨_, rfl⟩
    have HGX : Hid (B ≤ gX) := Lib.hid (by rw [← hgX]; exact (by have := HQ1.out.size; have := HBe.out; omega))
    rw [hgX] at HX2 ⊢
    clear HQ1 hgX
    generalize W1.alloc (.cells zr8.toArray 36) = W2 at *
    simp only [Act.put, List.setIfInBounds_toArray, List.set]
    refine oneG 6 5 rfl (by kernel_rfl) rfl ?_
    go_wp2_with fail
    refine (backward_any W2 gc key (b.take 8) (b.drop 8) (some ⟨gb, ob + 8, none⟩) n (bl - 8) (bc - 8) HS.out (aesOK.stay HRep.out (by have h := HQ2.out; rw [← HBe.out] at h; exact h)) HL1.out HL2.out.symm HN8.out HN1.out.1 HN1.out.2 ((HRd.out.below HQ2.out).more (by have := HQ2.out.size; have := HBe.out; omega)) Z HZ.out).mono ?_
    rintro e W3 ⟨gR, cp, rest, rfl, hcp, hR, hb⟩
    have HQ3 := Lib.hid (HQ2.out.trans (hb.mono (by have := HQ2.out.size; have := HBe.out; omega)))
    have HR3 := Lib.hid hR
    have Hcp := Lib.hid hcp
    have Hle : Hid (B ≤ W2.heap.size) := Lib.hid (by have := HQ2.out.size; have := HBe.out; omega)
    have HX3 := Lib.hid (HX2.out.below hb HX2.out.lt)
    clear hR hcp HQ2 HX2
    go_wp2
    refine ⟨hb.mono Hle.out, ?_⟩
    clear hb Hle
    refine segG (by kernel_rfl) (fun _ _ _ _ _ h => h) [7, 8, 9] [_, _, _] 2 rfl rfl (by kernel_rfl) ?_
    repeat (go_big_quiet_step (fail))
    refine wpQuiet_nil ?_
    have HSz := Lib.hid (sizeA8 Z.1 HZo.out.1)
    have HLn : Hid (zr8.length = (u8s Z.1).length) := Lib.hid (by rw [u8s_len, HZo.out.1]; rfl)
    have HX4 := Lib.hid (HX3.out.row (u8s Z.1))
    have HR4 := Lib.hid (HR3.out.rowFar (g' := gX) (HR3.out.ne HX3.out (by decide)) (u8s Z.1).toArray)
    have hst := below_setRow (Below.refl B W3) HGX.out (u8s Z.1).toArray
    have HQ4 := Lib.hid (HQ3.out.trans hst)
    have Hst := Lib.hid hst
    obtain ⟨W4, hW4⟩ : ∃ W4, W3.setRow gX (u8s Z.1).toArray = W4 := ⟨_, rfl⟩
    rw [hW4] at HX4 HR4 HQ4 Hst
    have HW4 := Lib.hid hW4
    clear hW4 hst HQ3
    refine oneG 11 1 rfl (by kernel_rfl) rfl ?_
    go_wp2_with (refine wpList_store_arr rfl 36 (.tmp 8) (.tmp 31) gX zr8 (u8s Z.1) rfl rfl rfl rfl HX3.out HSz.out HLn.out (u8s_one _) ?_; rw [HW4.out])
    refine ⟨Hst.out, ?_⟩
    refine segG (by kernel_rfl) (fun _ _ _ _ _ h => h) [12] [_] 0 rfl rfl (by kernel_rfl) ?_
    repeat (go_big_quiet_step (fail))
    refine wpQuiet_nil ?_
    refine wpAnyG_done (by kernel_rfl) ?_
    have hb4 : Below w2.heap.size w2 W4 := by rw [HBe.out]; exact HQ4.out
    have hld := run_loadVar_row (P := Tryd.prog) W4 gX 36 36 (u8s Z.1).toArray (0, 0) _ HX4.out Tryd.und8 rfl (by simpa using HSz.out)
    have hld2 := ((HG.out.keep Hb1.out).keep hb4).load
    have Hb4 := Lib.hid (Hb1.out.trans (hb4.mono Hb1.out.size))
    have hI8 : Wrp.iv8.length = 8 := rfl
    by_cases hz : Z.1 = Wrp.iv8
    · have hE0 : E = 0 := by have := HE.out; rw [if_pos hz] at this; simpa using this
      have hO0 : O = Z.2 := by have := HO.out; rw [if_pos hz] at this; simpa using this
      have heq := fun W => run_equalIn_u8s Tryd.und8 Tryd.plain5 Tryd.und5 Tryd.cells5 9998 Z.1 Wrp.iv8 HZo.out.1 hI8 (w := W)
      rw [decide_eq_true hz] at heq
      have HO0 := Lib.hid hO0
      have Hlen : Hid (bl - 8 = O.length) := Lib.hid (by rw [hO0, HZo.out.2]; exact HN8.out)
      have Hout : Hid (Out W4 (.slice (some ⟨gR, 0, none⟩) (bl - 8) cp) O) := Lib.hid ⟨_, cp, by rw [← Hlen.out], by rw [← Hlen.out]; exact Hcp.out, by rw [hO0]; exact Rd.of_row HR4.out⟩
      clear HO HE hz hO0 hb4 HR4 HX4 hI8
      subst hE0
      go_wp2_with (first | refine wpList_load_arr_w 36 (.tmp 8) rfl rfl (u8s Z.1).toArray hld (by kernel_rfl) ?_ | refine wpList_load_arr_w 36 (.global 0) rfl rfl (u8s Wrp.iv8).toArray hld2 (by kernel_rfl) ?_ | refine wpList_neq_arr_w 36 36 (.tmp 33) (.tmp 34) rfl rfl rfl true Tryd.guard8 heq (by kernel_rfl) ?_)
      go_ret2
      exact ⟨_, rfl, Hout.out, Hb4.out⟩
    · have hE8 : E = 8 := by have := HE.out; rw [if_neg hz] at this; simpa using this
      have hO0 : O = [] := by have := HO.out; rw [if_neg hz] at this; simpa using this
      have heq := fun W => run_equalIn_u8s Tryd.und8 Tryd.plain5 Tryd.und5 Tryd.cells5 9998 Z.1 Wrp.iv8 HZo.out.1 hI8 (w := W)
      rw [decide_eq_false hz] at heq
      clear HO HE hz hb4 HR4 HX4 hI8
      subst hE8
      subst hO0
      go_wp2_with (first | refine wpList_load_arr_w 36 (.tmp 8) rfl rfl (u8s Z.1).toArray hld (by kernel_rfl) ?_ | refine wpList_load_arr_w 36 (.global 0) rfl rfl (u8s Wrp.iv8).toArray hld2 (by kernel_rfl) ?_ | refine wpList_neq_arr_w 36 36 (.tmp 33) (.tmp 34) rfl rfl rfl false Tryd.guard8 heq (by kernel_rfl) ?_)
      go_ret2
      exact ⟨_, rfl, Out.nil _, Hb4.out⟩
end Go.Proofs.YtbcagjndbfpecaaDoor
namespace Go.Proofs.YtbcagjndbfpecaaDoor
open Go.RowKit Go.Gar Go.Gar.Aes

theorem wrapOK : WrapOK Gl where
  keep := fun h hb => h.keep hb
  wrap_ := fun w K A key b kc bc hG rK rA hk hbc hl => by
    unfold wrapB wrapE
    by_cases hs : sizeOk key.length
    · by_cases hf : fits b.length
      · have hc : sizeOk key.length ∧ fits b.length := ⟨hs, hf⟩
        rw [if_pos hc, if_pos hc]
        exact wrap_yes w hG K A key b _ kc _ bc rfl hk rfl rK rA hs hf _ rfl
      · rw [if_neg (fun h => hf h.2), if_neg (fun h => hf h.2)]
        exact (wrap_arg w K A key _ kc _ bc rfl hk rK hs hf hl).mono fun e w' ⟨h1, h2⟩ => ⟨_, h1, Out.nil _, h2⟩
    · rw [if_neg (fun h => hs h.1), if_neg (fun h => hs h.1)]
      exact (wrap_no w K A _ kc _ bc hs).mono fun e w' ⟨h1, h2⟩ => ⟨_, h1, Out.nil _, h2⟩
  unwrap_ := fun w K A key b kc bc hG rK rA hk hbc hl => by
    unfold unwrapB unwrapE
    by_cases hs : sizeOk key.length
    · by_cases hf : 8 ≤ b.length ∧ fits (b.length - 8)
      · have hc : sizeOk key.length ∧ 8 ≤ b.length ∧ fits (b.length - 8) := ⟨hs, hf⟩
        rw [if_pos hc, if_pos hc]
        exact unwrap_yes w hG K A key b _ kc _ bc rfl hk rfl hbc rK rA hs hf.1 hf.2 _ _ rfl rfl
      · rw [if_neg (fun h => hf h.2), if_neg (fun h => hf h.2)]
        exact (unwrap_arg w K A key _ kc _ bc rfl hk rK hs hf hl).mono fun e w' ⟨h1, h2⟩ => ⟨_, h1, Out.nil _, h2⟩
    · rw [if_neg (fun h => hs h.1), if_neg (fun h => hs h.1)]
      exact (unwrap_no w K A _ kc _ bc hs).mono fun e w' ⟨h1, h2⟩ => ⟨_, h1, Out.nil _, h2⟩
end Go.Proofs.YtbcagjndbfpecaaDoor
