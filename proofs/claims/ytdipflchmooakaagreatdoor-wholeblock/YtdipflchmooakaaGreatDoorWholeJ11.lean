/-
  The landed sha: words: the 64 numbers that a block expands to. The landed sha: blocks, the iterator over the 64 bytes each of a message that lies in parts: its contract.
-/
import Derived.Test.YtdipflchmooakaaGreatDoorWholeJ01
import Derived.Test.YtdipflchmooakaaGreatDoorWholeJ06
import Derived.Test.YtdipflchmooakaaGreatDoorWholeJ09
import Derived.Test.YtdipflchmooakaaGreatDoorWholeJ02
import Derived.Test.YtdipflchmooakaaGreatDoorWholeJ10
import Derived.RegionTactic
import Derived.BigRegion
import Derived.RangeFuncNested
import Derived.RangeFuncBound
import Derived.RangeFuncCalls
import Derived.RangeFuncLeaves
import Derived.Shelf.Abstract
import Derived.Shelf.RegionOpen
import Derived.WalkKit
import Derived.OwnWalkIn
import Derived.TacticsInMore
import Derived.LoopNIn
import Derived.LoopIn
set_option maxRecDepth 100000
namespace Go.Proofs.YtdipflchmooakaaGreatDoor
open Go.RowKit Go.Gar

/-- The numbers when i bytes of the block have come. -/
def wb (m : List UInt8) : Nat → List Nat
  | 0 => List.replicate 64 0
  | i + 1 => (wb m i).set (i / 4) ((wb m i).getD (i / 4) 0 * 256 % 4294967296 ||| Sha.at8 m i)
theorem wb_len (m : List UInt8) : ∀ i, (wb m i).length = 64
  | 0 => List.length_replicate
  | i + 1 => by rw [wb, List.length_set, wb_len m i]
theorem at_mid (l r : List Nat) (t x : Nat) (h : l.length = t) : (l ++ x :: r).getD t 0 = x := by
  subst h; simp [List.getD_eq_getElem?_getD]
theorem set_mid' (l r : List Nat) (t x y : Nat) (h : l.length = t) : (l ++ x :: r).set t y = l ++ y :: r := by
  subst h; rw [List.set_append_right _ _ (Nat.le_refl _)]; simp
theorem or_byte (x c : Nat) (hx : x < 16777216) (hc : c < 256) : x * 256 % 4294967296 ||| c = x * 256 + c := by
  rw [Nat.mod_eq_of_lt (by omega), show x * 256 = x <<< 8 from by rw [Nat.shiftLeft_eq], ← Nat.shiftLeft_add_eq_or_of_lt (by simpa using hc)]
theorem wb_step (m : List UInt8) (l r : List Nat) (t x i : Nat) (hl : l.length = t) (hi : i / 4 = t) (h : wb m i = l ++ x :: r) (hx : x < 16777216) : wb m (i + 1) = l ++ (x * 256 + Sha.at8 m i) :: r := by
  rw [wb, hi, h, at_mid _ _ _ _ hl, set_mid' _ _ _ _ _ hl, or_byte _ _ hx (Sha.at8_lt _ _)]
theorem cell_bel' {w w' : World} (hb : Below w.heap.size w w') {p : Addr} {v : Value} (h : w.cell? p = some v) : w'.cell? p = some v := by
  rw [hb.cell (p := p) (World.block_lt_of_cell? w p h), h]
theorem four_bytes (a b c d : Nat) : (((0 * 256 + a) * 256 + b) * 256 + c) * 256 + d = a * 16777216 + b * 65536 + c * 256 + d := by omega
theorem wb_four (m : List UInt8) : ∀ t, t ≤ 16 → wb m (4 * t) = Sha.wK m 0 t ++ List.replicate (64 - t) 0
  | 0, _ => by simp [wb, Sha.wK]
  | t + 1, h => by
    have ih := wb_four m t (by omega)
    rw [show 64 - t = (64 - (t + 1)) + 1 from by omega, List.replicate_succ] at ih
    have hl := Sha.wK_len m 0 t
    have b0 := Sha.at8_lt m (4 * t)
    have b1 := Sha.at8_lt m (4 * t + 1)
    have b2 := Sha.at8_lt m (4 * t + 1 + 1)
    have h1 := wb_step m _ _ t _ _ hl (by omega) ih (by omega)
    have h2 := wb_step m _ _ t _ _ hl (by omega) h1 (by omega)
    have h3 := wb_step m _ _ t _ _ hl (by omega) h2 (by omega)
    have h4 := wb_step m _ _ t _ _ hl (by omega) h3 (by omega)
    have e : (((0 * 256 + Sha.at8 m (4 * t)) * 256 + Sha.at8 m (4 * t + 1)) * 256 + Sha.at8 m (4 * t + 1 + 1)) * 256 + Sha.at8 m (4 * t + 1 + 1 + 1) = Sha.word m (0 + 4 * t) := by
      rw [four_bytes, Nat.zero_add, Sha.word]
    rw [e] at h4
    rw [show 4 * (t + 1) = 4 * t + 1 + 1 + 1 + 1 from by omega, h4, Sha.wK, Sha.wStep, if_pos (by omega), List.append_assoc]
    rfl
theorem wb_end (m : List UInt8) : wb m 64 = Sha.wK m 0 16 ++ List.replicate 48 0 := wb_four m 16 (by omega)
theorem wb_lt (m : List UInt8) : ∀ i, ∀ x ∈ wb m i, x < 4294967296
  | 0 => by intro x hx; rw [wb, List.mem_replicate] at hx; omega
  | i + 1 => by
    intro x hx
    rw [wb] at hx
    rcases List.mem_or_eq_of_mem_set hx with h | h
    · exact wb_lt m i x h
    · rw [h]
      exact Nat.or_lt_two_pow (n := 32) (Nat.mod_lt _ (by omega)) (Nat.lt_of_lt_of_le (Sha.at8_lt m i) (by omega))
/-- The numbers, t of them made. -/
def wq (m : List UInt8) (t : Nat) : List Nat := Sha.wK m 0 t ++ List.replicate (64 - t) 0
theorem wq_len (m : List UInt8) (t : Nat) (h : t ≤ 64) : (wq m t).length = 64 := by
  rw [wq, List.length_append, Sha.wK_len, List.length_replicate]; omega
theorem wq_end (m : List UInt8) : wq m 64 = Sha.wK m 0 64 := by simp [wq]
theorem wq_get (m : List UInt8) (t j : Nat) (h : j < t) : (wq m t).getD j 0 = (Sha.wK m 0 t).getD j 0 := by
  rw [wq, List.getD_eq_getElem?_getD, List.getElem?_append_left (by rw [Sha.wK_len]; exact h), ← List.getD_eq_getElem?_getD]
theorem wq_set (m : List UInt8) (t : Nat) (h : t < 64) (h16 : 16 ≤ t) : (wq m t).set t (Sha.wNext (Sha.wK m 0 t) t) = wq m (t + 1) := by
  unfold wq
  rw [show 64 - t = (64 - (t + 1)) + 1 from by omega, List.replicate_succ, set_mid' _ _ _ _ _ (Sha.wK_len m 0 t), Sha.wK, Sha.wStep, if_neg (by omega), List.append_assoc]
  rfl
theorem wq_lt (m : List UInt8) (t j : Nat) : (wq m t).getD j 0 < 4294967296 := by
  refine Sha.getD_lt (fun x hx => ?_) j
  rw [wq, List.mem_append, List.mem_replicate] at hx
  rcases hx with h | h
  · exact Sha.wK_lt _ _ _ x h
  · omega

theorem rightL_z (x : Nat) (k : Int) (w : World) (hx : x < 4294967296) (h0 : 0 < k) (h : k < 32) :
    Calls Tryz.prog 93 #[.int .u32 (x : Int), .int .i64 k] w fun e w' => e = .returned (.int .u32 ((Sha.rotr x k.toNat : Nat) : Int)) ∧ w' = w := by
  have := rightL_any x k.toNat w hx (by omega) (by omega)
  rw [Int.toNat_of_nonneg (by omega)] at this
  exact this
theorem Tryz.undB64 : Tryz.prog.underlying 78 = some (.array 64 5) := by kernel_rfl
theorem Tryz.sizeB64 : (Tryz.prog.info? 78).map (·.size) = some 64 := by kernel_rfl
theorem Tryz.undW64 : Tryz.prog.underlying 125 = some (.array 64 116) := by kernel_rfl
theorem Tryz.sizeW64 : (Tryz.prog.info? 125).map (·.size) = some 64 := by kernel_rfl
theorem Tryz.infoW64 : (Tryz.prog.info? 125).map (fun i => (i.zero, i.size)) = some (some (.agg (Array.replicate 64 (.int .u32 0))), 64) := by kernel_rfl
def zW : List Nat := List.replicate 64 0
theorem zW_len : zW.length = 64 := List.length_replicate
theorem zero64W (w : World) : (zeroValue 125).run Tryz.prog w = .ok (.agg (u32s zW).toArray) w := by
  rw [(zero_of_info (P := Tryz.prog) Tryz.infoW64).1 w, zW, u32s, List.map_replicate]; rfl
theorem size64W (l : List Nat) (h : l.length = 64) : (Tryz.prog.info? 125).map (·.size) = some (u32s l).length := by
  rw [u32s_len, h]; exact Tryz.sizeW64
theorem at8_get (m : List UInt8) (i : Nat) (h : i < m.length) : m[i]? = some (UInt8.ofNat (Sha.at8 m i)) := by
  rw [List.getElem?_eq_getElem h, Sha.at8, List.getD_eq_getElem?_getD, List.getElem?_eq_getElem h]; simp

set_option maxHeartbeats 2000000 in
set_option maxRecDepth 100000 in
theorem words_at (m : List UInt8) (W : List Nat) (w : World) (hm : m.length = 64) (hW0 : W = Sha.wK m 0 64) :
    Calls Tryz.prog 72 #[.agg (u8s m).toArray] w fun e w' => e = .returned (.agg (u32s W).toArray) ∧ Below w.heap.size w w' := by
  have HW0 := Lib.hid hW0
  clear hW0
  have hB0 := Blk.new w 78 (u8s m)
  have hb0 := below_alloc w (.cells (u8s m).toArray 78)
  have hs0 : (w.alloc (.cells (u8s m).toArray 78)).heap.size = w.heap.size + 1 := World.size_alloc _ _
  obtain ⟨w1, hw1⟩ : ∃ w1, w.alloc (.cells (u8s m).toArray 78) = w1 := ⟨_, rfl⟩
  rw [hw1] at hB0 hb0 hs0
  have hR1 := Blk.new w1 125 (u32s zW)
  have hb1 := hb0.alloc (by omega) (.cells (u32s zW).toArray 125)
  have hB1 := hB0.alloc (.cells (u32s zW).toArray 125)
  have hs1 : (w1.alloc (.cells (u32s zW).toArray 125)).heap.size = w1.heap.size + 1 := World.size_alloc _ _
  obtain ⟨w2, hw2⟩ : ∃ w2, w1.alloc (.cells (u32s zW).toArray 125) = w2 := ⟨_, rfl⟩
  rw [hw2] at hB1 hb1 hs1 hR1
  have hT2 := Blk.new w2 125 (u32s zW)
  have hb2 := hb1.alloc (by omega) (.cells (u32s zW).toArray 125)
  have hB2 := hB1.alloc (.cells (u32s zW).toArray 125)
  have hR2 := hR1.alloc (.cells (u32s zW).toArray 125)
  obtain ⟨w3, hw3⟩ : ∃ w3, w2.alloc (.cells (u32s zW).toArray 125) = w3 := ⟨_, rfl⟩
  rw [hw3] at hB2 hb2 hT2 hR2
  have hld := run_loadVar_row (P := Tryz.prog) w3 w.heap.size 78 78 (u8s m).toArray (0, 0) _ hB2 Tryz.undB64 rfl (by simpa [u8s_len, hm] using Tryz.sizeB64)
  have HT2 := Lib.hid hT2
  have HR2 := Lib.hid hR2
  have Hb2 := Lib.hid hb2
  have HS : Hid (w.heap.size < w1.heap.size ∧ w1.heap.size < w2.heap.size) := Lib.hid (by omega)
  have HW1 := Lib.hid hw1
  have HW2 := Lib.hid hw2
  have HW3 := Lib.hid hw3
  have HL := Lib.hid hm
  clear hB0 hb0 hs0 hR1 hb1 hB1 hs1 hT2 hb2 hB2 hR2 hw1 hw2 hw3 hm
  go_enter Tryz.func72, Tryz.ntmps72
  go_wp2_with (first | (refine wpList_box_arr rfl 78 (.tmp 0) (u8s m).toArray rfl rfl ?_; rw [HW1.out]) | (refine wpList_alloc_arr rfl 125 (u32s zW).toArray rfl zero64W ?_; first | rw [HW2.out] | rw [HW3.out]) | refine wpList_load_arr_w 78 (.tmp 1) rfl rfl (u8s m).toArray hld (by kernel_rfl) ?_)
  generalize w2.heap.size = gT at *
  generalize w1.heap.size = gR at *
  clear hld HW1 HW2 HW3
  go_loopw [12] (fun i w' => ∃ j : Nat, j ≤ 64 ∧ i = .int .i64 (j : Int) ∧ Blk w' gT 125 (u32s (wb m j)) ∧ Blk w' gR 125 (u32s zW) ∧ Below w.heap.size w w') (fun i _ => 64 - (intOf i).toNat)
  case atStart => exact ⟨0, by omega, rfl, HT2.out, HR2.out, Hb2.out⟩
  case round =>
    obtain ⟨i, hi, rfl, hT, hR, hb⟩ := hrel
    clear HT2 HR2 Hb2
    by_cases hlt : i < 64
    · have hix := run_index_u8 (P := Tryz.prog) (w := wr) Tryz.undB64 Tryz.und5 Tryz.size5 m i hlt _ (at8_get m i (by rw [HL.out]; exact hlt))
      have hb8 := Sha.at8_lt m i
      rw [show (UInt8.ofNat (Sha.at8 m i)).toNat = Sha.at8 m i from by simp; omega] at hix
      have hx : (wb m i).getD (i / 4) 0 < 4294967296 := Sha.getD_lt (wb_lt m i) _
      have hcx : wr.cell? ⟨gT, i / 4, none⟩ = some (.int .u32 (((wb m i).getD (i / 4) 0 : Nat) : Int)) := by rw [hT.cell, u32s_get _ _ (by rw [wb_len]; omega)]
      have hf := hT.frozen (i / 4)
      have hS := hT.set_ (i / 4) (.int .u32 (((wb m i).getD (i / 4) 0 * 256 % 4294967296 ||| Sha.at8 m i : Nat) : Int))
      rw [u32s_set, show (wb m i).set (i / 4) ((wb m i).getD (i / 4) 0 * 256 % 4294967296 ||| Sha.at8 m i) = wb m (i + 1) from rfl] at hS
      have hV : bits .or .u32 ((((wb m i).getD (i / 4) 0 : Nat) : Int) * 256 % 4294967296) ((Sha.at8 m i : Nat) : Int) = (((wb m i).getD (i / 4) 0 * 256 % 4294967296 ||| Sha.at8 m i : Nat) : Int) := by
        rw [← or_u32 _ _ (Nat.mod_lt _ (by omega)) (by omega)]; simp
      generalize (wb m i).getD (i / 4) 0 = x at *
      generalize (x * 256 % 4294967296 ||| Sha.at8 m i) = y at *
      have HTn := Lib.hid hS
      have HRn := Lib.hid (hR.far (p := ⟨gT, i / 4, none⟩) (by have := HS.out; show gR ≠ gT; omega) (.int .u32 (y : Int)))
      have Hbn := Lib.hid (hb.setCell (p := ⟨gT, i / 4, none⟩) (by have := HS.out; show w.heap.size ≤ gT; omega) (.int .u32 (y : Int)))
      have HV := Lib.hid hV
      clear hS hT hR hb hV
      go_wp2_with (refine wpList_index_u8 78 (.tmp 11) (.tmp 12) rfl rfl rfl hix (by kernel_rfl) ?_)
      rw [HV.out]
      exact ⟨⟨i + 1, by omega, by go_num, HTn.out, HRn.out, Hbn.out⟩, by simp [intOf]; omega⟩
    · have hT16 : Blk wr gT 125 (u32s (wq m 16)) := by
        have e : i = 64 := by omega
        rw [e, wb_end] at hT
        exact hT
      have HT := Lib.hid hT16
      have HR := Lib.hid hR
      have Hb := Lib.hid hb
      clear hT16 hT hR hb
      go_wp2
      go_loopw [6] (fun i w' => ∃ j : Nat, 16 ≤ j ∧ j ≤ 64 ∧ i = .int .i64 (j : Int) ∧ Blk w' gT 125 (u32s (wq m j)) ∧ Blk w' gR 125 (u32s zW) ∧ Below w.heap.size w w') (fun i _ => 64 - (intOf i).toNat)
      case atStart => exact ⟨16, by omega, by omega, rfl, HT.out, HR.out, Hb.out⟩
      case round =>
        obtain ⟨t, ht16, ht, rfl, hT, hR, hb⟩ := hrel
        clear HT HR Hb
        have hlen := wq_len m t ht
        by_cases htl : t < 64
        · have c2 : wr.cell? ⟨gT, t - 2, none⟩ = some (.int .u32 (((wq m t).getD (t - 2) 0 : Nat) : Int)) := by rw [hT.cell, u32s_get _ _ (by rw [hlen]; omega)]
          have c15 : wr.cell? ⟨gT, t - 15, none⟩ = some (.int .u32 (((wq m t).getD (t - 15) 0 : Nat) : Int)) := by rw [hT.cell, u32s_get _ _ (by rw [hlen]; omega)]
          have c7 : wr.cell? ⟨gT, t - 7, none⟩ = some (.int .u32 (((wq m t).getD (t - 7) 0 : Nat) : Int)) := by rw [hT.cell, u32s_get _ _ (by rw [hlen]; omega)]
          have c16 : wr.cell? ⟨gT, t - 16, none⟩ = some (.int .u32 (((wq m t).getD (t - 16) 0 : Nat) : Int)) := by rw [hT.cell, u32s_get _ _ (by rw [hlen]; omega)]
          have c0 : wr.cell? ⟨gT, t, none⟩ = some (.int .u32 (((wq m t).getD t 0 : Nat) : Int)) := by rw [hT.cell, u32s_get _ _ (by rw [hlen]; omega)]
          have l2 := wq_lt m t (t - 2)
          have l7 := wq_lt m t (t - 7)
          have l15 := wq_lt m t (t - 15)
          have l16 := wq_lt m t (t - 16)
          have hf := hT.frozen t
          have hS := hT.set_ t (.int .u32 ((Sha.wNext (Sha.wK m 0 t) t : Nat) : Int))
          rw [u32s_set, wq_set m t htl ht16] at hS
          have hW : Sha.wNext (Sha.wK m 0 t) t = (Sha.s1 ((wq m t).getD (t - 2) 0) + (wq m t).getD (t - 7) 0 + Sha.s0 ((wq m t).getD (t - 15) 0) + (wq m t).getD (t - 16) 0) % 4294967296 := by
            rw [wq_get _ _ _ (by omega), wq_get _ _ _ (by omega), wq_get _ _ _ (by omega), wq_get _ _ _ (by omega)]
            rfl
          generalize (wq m t).getD (t - 2) 0 = x2 at *
          generalize (wq m t).getD (t - 7) 0 = x7 at *
          generalize (wq m t).getD (t - 15) 0 = x15 at *
          generalize (wq m t).getD (t - 16) 0 = x16 at *
          generalize (wq m t).getD t 0 = x0 at *
          generalize Sha.wNext (Sha.wK m 0 t) t = y at *
          have HTn := Lib.hid hS
          have HRn := Lib.hid (hR.far (p := ⟨gT, t, none⟩) (by have := HS.out; show gR ≠ gT; omega) (.int .u32 (y : Int)))
          have Hbn := Lib.hid (hb.setCell (p := ⟨gT, t, none⟩) (by have := HS.out; show w.heap.size ≤ gT; omega) (.int .u32 (y : Int)))
          have HW := Lib.hid hW
          clear hS hT hR hb hW hlen
          go_wp2_with fail
          refine wp_region_G grows (by kernel_rfl) ?_
          have hcl : ∀ {p : Addr} {v : Value}, wr.cell? p = some v → ∀ x : Later grows wr.drew, x.to.cell? p = some v := fun h x => by
            have hb : Below wr.drew.heap.size wr.drew x.to := x.grown
            exact cell_bel' (w := wr.drew) hb h
          have q2 := hcl c2
          have q15 := hcl c15
          refine segG (by kernel_rfl) (fun _ _ _ _ _ h => h) [0, 1, 2, 3, 4, 5, 6, 7, 8, 9] [_, _, _, _, _, _, _, _, _, _] 0 rfl rfl (by kernel_rfl) ?_
          repeat (go_big_quiet_step (fail))
          refine wpQuiet_nil ?_
          refine wpAnyG_done (by kernel_rfl) ?_
          clear q2 q15 hcl c2 c15
          have HV1 : Hid (bits .xor .u32 (bits .xor .u32 ((Sha.rotr x2 17 : Nat) : Int) ((Sha.rotr x2 19 : Nat) : Int)) ((x2 : Int) / 1024) = ((Sha.s1 x2 : Nat) : Int)) := Lib.hid (by
            rw [show (x2 : Int) / 1024 = ((x2 / 1024 : Nat) : Int) from by simp, xor_u32 _ _ (Sha.rotr_lt _ _ l2) (Sha.rotr_lt _ _ l2), xor_u32 _ _ (Sha.xor_lt (Sha.rotr_lt _ _ l2) (Sha.rotr_lt _ _ l2)) (by omega)]
            rfl)
          have HV0 : Hid (bits .xor .u32 (bits .xor .u32 ((Sha.rotr x15 7 : Nat) : Int) ((Sha.rotr x15 18 : Nat) : Int)) ((x15 : Int) / 8) = ((Sha.s0 x15 : Nat) : Int)) := Lib.hid (by
            rw [show (x15 : Int) / 8 = ((x15 / 8 : Nat) : Int) from by simp, xor_u32 _ _ (Sha.rotr_lt _ _ l15) (Sha.rotr_lt _ _ l15), xor_u32 _ _ (Sha.xor_lt (Sha.rotr_lt _ _ l15) (Sha.rotr_lt _ _ l15)) (by omega)]
            rfl)
          go_wp2_with (refine (rightL_z _ _ _ (by assumption) (by decide) (by decide)).mono ?_; rintro e w' ⟨rfl, rfl⟩; simp only [Int.reduceToNat])
          rw [HV1.out, HV0.out]
          have ls1 := Sha.s1_lt x2 l2
          have ls0 := Sha.s0_lt x15 l15
          have HY : Hid ((((Sha.s1 x2 : Nat) : Int) + (x7 : Int) + ((Sha.s0 x15 : Nat) : Int) + (x16 : Int)) % 4294967296 = ((y : Nat) : Int)) := Lib.hid (by rw [HW.out]; omega)
          clear HV1 HV0 HW
          generalize Sha.s1 x2 = y1 at *
          generalize Sha.s0 x15 = y0 at *
          refine wp_region_G grows (by kernel_rfl) ?_
          have hcl : ∀ {p : Addr} {v : Value}, wr.cell? p = some v → ∀ x : Later grows wr.drew.drew, x.to.cell? p = some v := fun h x => by
            have hb : Below wr.drew.drew.heap.size wr.drew.drew x.to := x.grown
            exact cell_bel' (w := wr.drew.drew) hb h
          have q7 := hcl c7
          have q16 := hcl c16
          refine segG (by kernel_rfl) (fun _ _ _ _ _ h => h) [0, 1, 2, 3, 4, 5, 6, 7, 8, 9] [_, _, _, _, _, _, _, _, _, _] 6 rfl rfl (by kernel_rfl) ?_
          repeat (go_big_quiet_step (fail))
          refine wpQuiet_nil ?_
          refine segG (by kernel_rfl) (fun _ _ _ _ _ h => h) [10, 11, 12, 13, 14] [_, _, _, _, _] 1 rfl rfl (by kernel_rfl) ?_
          repeat (go_big_quiet_step (fail))
          refine wpQuiet_nil ?_
          refine lateG 15 0 rfl (by kernel_rfl) (by kernel_rfl) rfl ?_
          clear q7 q16 hcl
          go_wp2
          refine ⟨trivial, ?_⟩
          refine wpAnyG_done (by kernel_rfl) ?_
          go_wp2
          rw [HY.out]
          exact ⟨⟨t + 1, by omega, by omega, by go_num, HTn.out, HRn.out, ⟨Hbn.out.os, Hbn.out.tape, Hbn.out.output, Hbn.out.size, Hbn.out.block⟩⟩, by simp [intOf]; omega⟩
        · have hE : wq m t = W := by rw [show t = 64 from by omega, wq_end, HW0.out]
          rw [hE] at hT
          have hwl : W.length = 64 := by rw [HW0.out]; exact Sha.wK_len m 0 64
          have HR := Lib.hid hR
          have Hb := Lib.hid hb
          have hld := run_loadVar_row (P := Tryz.prog) wr gT 125 125 (u32s W).toArray (0, 0) _ hT Tryz.undW64 rfl (by simpa using size64W _ hwl)
          have HS2 := Lib.hid (size64W _ hwl)
          have HZ2 : Hid ((u32s zW).length = (u32s W).length) := Lib.hid (by rw [u32s_len, u32s_len, hwl, zW_len])
          have HO2 := Lib.hid (u32s_one W)
          have hl2 := run_loadVar_row (P := Tryz.prog) (wr.setRow gR (u32s W).toArray) gR 125 125 (u32s W).toArray (0, 0) _ (HR.out.row _) Tryz.undW64 rfl (by simpa using size64W _ hwl)
          have Hbn := Lib.hid (below_setRow Hb.out (by have := HS.out; omega : w.heap.size ≤ gR) (u32s W).toArray)
          clear hE hT hR hb hlen
          have d1 : decide ((t : Int) < 64) = false := by simp; omega
          clear hwl HL
          go_wp2_with (first | refine wpList_load_at 125 (.tmp 3) (by exact rfl) (g := gT) (q := 0) (by exact rfl) (u32s W).toArray hld (by kernel_rfl) ?_ | refine wpList_store_arr rfl 125 (.tmp 2) (.tmp 71) gR (u32s zW) (u32s W) (by exact rfl) (by exact rfl) (by exact rfl) (by exact rfl) HR.out HS2.out HZ2.out HO2.out ?_)
          simp only [Act.put, List.setIfInBounds_toArray, List.set]
          refine bodyPost_ret (v := .agg (u32s W).toArray) ?_ rfl ⟨rfl, Hbn.out⟩
          generalize (u32s W).toArray = X at hl2 ⊢
          simp [results, Tryz.results72, asAddr, hl2]
theorem words_any (m : List UInt8) (w : World) (hm : m.length = 64) :
    Calls Tryz.prog 72 #[.agg (u8s m).toArray] w fun e w' => e = .returned (.agg (u32s (Sha.wK m 0 64)).toArray) ∧ Below w.heap.size w w' :=
  words_at m _ w hm rfl
end Go.Proofs.YtdipflchmooakaaGreatDoor
namespace Go.Proofs.YtdipflchmooakaaGreatDoor
open Go.RowKit Go.Shelf Go.Gar
attribute [local go_sem] Oper.semAt_some

/-- 64 bytes. -/
abbrev B64 := { m : List UInt8 // m.length = 64 }
def flat (xs : List B64) : List UInt8 := (xs.map (·.1)).flatten
theorem flat_snoc (xs : List B64) (x : B64) : flat (xs ++ [x]) = flat xs ++ x.1 := by simp [flat]
theorem flat_lenS (xs : List B64) : (flat xs).length = 64 * xs.length := by
  induction xs with
  | nil => rfl
  | cons x xs ih =>
    have : flat (x :: xs) = x.1 ++ flat xs := by simp [flat]
    rw [this, List.length_append, x.2, ih, List.length_cons]; omega

/-- A round keeps all cells but those of block gs. -/
structure KpS (gs : Nat) (W W' : World) : Prop where
  size : W.heap.size ≤ W'.heap.size
  same : ∀ (k : Nat) (o : Obj), W.heap[k]? = some o → o.isCells = true → k ≠ gs → W'.heap[k]? = some o
theorem KpS.trans {gs : Nat} {A B C : World} (h : KpS gs A B) (k : KpS gs B C) : KpS gs A C :=
  ⟨Nat.le_trans h.size k.size, fun i o hi hc hn => k.same i o (h.same i o hi hc hn) hc hn⟩
theorem KpS.put (gs : Nat) (W : World) (l : Nat) (o o' : Obj) (hl : W.heap[l]? = some o) (ho : o.isCells = false) : KpS gs W (W.putObj l o') :=
  ⟨by simp, fun k p hk hp _ => by
    have : k ≠ l := by rintro rfl; rw [hl] at hk; cases hk; rw [ho] at hp; cases hp
    exact (World.putObj_heap_other this).trans hk⟩
theorem KpS.cell {gs : Nat} {W W' : World} (h : KpS gs W W') {p : Addr} {v : Value} (hp : W.cell? p = some v) (hn : p.block ≠ gs) : W'.cell? p = some v := by
  obtain ⟨o, ho, hc⟩ := cells_of_cell hp
  rw [← hp]
  exact World.cell?_of_block ((h.same _ _ ho hc hn).trans ho.symm)
theorem KpS.blk {gs : Nat} {W W' : World} (h : KpS gs W W') {g : Nat} {t : TypeId} {cs : List Value} (hb : Blk W g t cs) (hn : g ≠ gs) : Blk W' g t cs := h.same _ _ hb rfl hn

/-- The parts of a message in memory: their row in block g, all below B and none in block gs. -/
structure Lay (B gs : Nat) (W : World) (g : Nat) (qs : List Part) : Prop where
  g1 : g < B
  g2 : g ≠ gs
  row : ∀ i p, qs[i]? = some p → W.cell? ⟨g, i, none⟩ = some (partV p)
  parts : ∀ p ∈ qs, RdN W B gs p
  caps : ∀ p ∈ qs, p.2.1.length ≤ p.2.2
theorem RdN.keep {B gs : Nat} {W W' : World} {p : Part} (h : RdN W B gs p) (hk : ∀ (p : Addr) (v : Value), p.block < B → p.block ≠ gs → W.cell? p = some v → W'.cell? p = some v) : RdN W' B gs p := by
  rcases h with h | ⟨b, o, e, hn, hb, hc⟩
  · exact .inl h
  · exact .inr ⟨b, o, e, hn, hb, fun i c hi => hk ⟨b, o + i, none⟩ _ hb hn (hc i c hi)⟩
theorem Lay.keep {B gs g : Nat} {W W' : World} {qs : List Part} (h : Lay B gs W g qs) (hk : ∀ (p : Addr) (v : Value), p.block < B → p.block ≠ gs → W.cell? p = some v → W'.cell? p = some v) : Lay B gs W' g qs :=
  ⟨h.g1, h.g2, fun i p hi => hk ⟨g, i, none⟩ _ h.g1 h.g2 (h.row i p hi), fun p hp => (h.parts p hp).keep hk, h.caps⟩
theorem keep_grown {B gs r : Nat} {W W' : World} (hg : W.grownBy W' (some r)) (hr : B ≤ r) : ∀ (p : Addr) (v : Value), p.block < B → p.block ≠ gs → W.cell? p = some v → W'.cell? p = some v := fun p v hp _ hv => by
  have hb := hg.block p.block (World.block_lt_of_cell? W p hv) (fun e => by cases e; omega)
  rw [← hv]
  exact World.cell?_of_block hb
theorem keep_kp {B gs : Nat} {W W' : World} (hk : KpS gs W W') : ∀ (p : Addr) (v : Value), p.block < B → p.block ≠ gs → W.cell? p = some v → W'.cell? p = some v := fun _ _ _ hn hv => hk.cell hv hn
theorem grown_rowS {W : World} {g : Nat} {cs : Array Value} : W.grownBy (W.setRow g cs) (some g) :=
  ⟨rfl, rfl, rfl, by simp, fun k _ hr => setRow_other W g k cs (fun e => hr (by rw [e]))⟩

theorem Tryz.infoB64 : (Tryz.prog.info? 78).map (fun i => (i.zero, i.size)) = some (some (.agg (Array.replicate 64 (.int .u8 0))), 64) := by kernel_rfl
theorem zero64B (w : World) : (zeroValue 78).run Tryz.prog w = .ok (.agg (u8s (zB 64)).toArray) w := by
  rw [(zero_of_info (P := Tryz.prog) Tryz.infoB64).1 w, zB, u8s, List.map_replicate]; rfl

theorem slice64 (g l : Nat) (h : l < 64) (W : World) :
    (Instr.sliceAt 78 (.pointer (some ⟨g, 0, none⟩)) (some (.int .i64 (l : Int))) none none).run Tryz.prog W = .ok (.slice (some ⟨g, l, none⟩) (64 - l) (64 - l)) W := by
  cases hq : Tryz.prog.info? 5 with
  | none => have := Tryz.size5; simp [hq] at this
  | some i =>
    have hs : i.size = 1 := by have := Tryz.size5; simpa [hq] using this
    have h1 : (l : Int) ≤ 64 := by omega
    have h2 : ¬ 64 = l := by omega
    simp [Instr.sliceAt, Instr.sliceBounds, Instr.sureAddr, run_underlying Tryz.undB64 W, sizeOf, typeInfo, hq, hs, go_sem, h1, h2]

set_option maxRecDepth 100000 in
set_option maxHeartbeats 2000000 in
theorem blocks1_in (n : Nat) (hn : 1 ≤ n) (l Bs gs g cap : Nat) (qs : List Part) (J : List B64 → World → Prop) (W : World) (hJ : Low W.heap.size J)
    (hY : ∀ pre (x : B64) W1, J pre W1 → YieldAt Fence.wide (n - 1) Tryz.prog l #[.agg (u8s x.1).toArray] W1 fun e W' => e = .returned (.bool true) ∧ J (pre ++ [x]) W' ∧ KpS gs W1 W')
    (hBs : W.cell? ⟨Bs, 0, none⟩ = some (.slice (some ⟨g, 0, none⟩) qs.length cap)) (hL : Lay W.heap.size gs W g qs) (hgs : gs < W.heap.size) (hm : (cat qs).length % 64 = 0) (hx : (cat qs).length ≤ 2000000) (hq : qs.length ≤ 1001) (h0 : J [] W) :
    CallsIn Fence.wide n Tryz.prog 90 #[.func (.yield l) #[] #[], .pointer (some ⟨Bs, 0, none⟩)] W fun e W' => (∃ v, e = .returned v) ∧ ∃ xs, flat xs = cat qs ∧ J xs W' := by
  have HY := Lib.hid hY
  have HJ := Lib.hid hJ
  have HX := Lib.hid hx
  have HM := Lib.hid hm
  have hB0 := Blk.new W 78 (u8s (zB 64))
  have hgr0 : W.grownBy (W.alloc (.cells (u8s (zB 64)).toArray 78)) (some W.heap.size) := World.grownBy_alloc W _ _
  have HL0 := Lib.hid (hL.keep (keep_grown hgr0 (Nat.le_refl _)))
  have HJ0 : Hid (J [] (W.alloc (.cells (u8s (zB 64)).toArray 78))) := Lib.hid (hJ _ _ _ _ h0 hgr0 (fun r e => by cases e; exact Nat.le_refl _))
  have hBs0 : (W.alloc (.cells (u8s (zB 64)).toArray 78)).cell? ⟨Bs, 0, none⟩ = some (.slice (some ⟨g, 0, none⟩) qs.length cap) := cell_bel' (below_alloc W _) hBs
  obtain ⟨W1, hW1⟩ : ∃ W1, W.alloc (.cells (u8s (zB 64)).toArray 78) = W1 := ⟨_, rfl⟩
  rw [hW1] at hB0 HL0 HJ0 hBs0
  have HW1 := Lib.hid hW1
  have HB0 := Lib.hid hB0
  have HGs := Lib.hid hgs
  obtain ⟨N, hN⟩ : ∃ N, qs.length = N := ⟨_, rfl⟩
  rw [hN] at hBs0 hq
  have HN := Lib.hid hN
  clear hY hJ hx hm hB0 hgr0 hL h0 hBs hW1 hgs hN
  refine callsIn_of_wp Tryz.func90 rfl trivial ?_ rfl
  simp only [Tryz.ntmps90, List.size_toArray, List.length_cons, List.length_nil, Nat.reduceAdd, Nat.reduceSub, Array.replicate_succ, Array.replicate_zero, List.push_toArray, List.append_toArray, List.nil_append, List.cons_append]
  gi_wp2_with (refine wpListIn_alloc_arr rfl 78 (u8s (zB 64)).toArray rfl zero64B ?_; rw [HW1.out])
  clear HW1 hBs0
  generalize W.heap.size = gB at HJ HL0 HB0 HGs ⊢
  gi_loopw [4, 10] (fun f i wr => ∃ (j : Nat) (pre : List B64) (cur junk : List UInt8), j ≤ N ∧ i = .int .i64 (j : Int) ∧ f = .int .i64 (cur.length : Int) ∧ cur.length < 64 ∧ (cur ++ junk).length = 64 ∧ cat (qs.take j) = flat pre ++ cur ∧ Blk wr gB 78 (u8s (cur ++ junk)) ∧ Lay gB gs wr g qs ∧ J pre wr) (fun _ i _ => N - (intOf i).toNat)
  case atStart => exact ⟨0, [], [], zB 64, by omega, rfl, rfl, by simp, by simp [zB_len], rfl, HB0.out, HL0.out, HJ0.out⟩
  case round =>
    obtain ⟨j, pre, cur, junk, hj, rfl, rfl, hc64, hcj, hcat, hB, hL, hJp⟩ := hrel
    clear HL0 HB0 HJ0
    by_cases hlt : j < N
    · have hjq : j < qs.length := by rw [HN.out]; exact hlt
      have hrow := hL.row j qs[j] (List.getElem?_eq_getElem hjq)
      have hpart := hL.parts qs[j] (List.getElem_mem hjq)
      have hcap := hL.caps qs[j] (List.getElem_mem hjq)
      have hct : cat (qs.take (j + 1)) = cat (qs.take j) ++ qs[j].2.1 := by
        rw [List.take_succ_eq_append_getElem hjq]; unfold cat; rw [List.flatMap_append, List.flatMap_singleton]
      generalize qs[j] = p at hrow hpart hcap hct
      obtain ⟨Ap, lp, cp⟩ := p
      simp only [partV] at hrow hpart hcap hct
      have hlp : lp.length ≤ 2000000 := by
        have h1 := some_le qs (j + 1)
        unfold some_ at h1
        rw [hct, List.length_append] at h1
        have := HX.out
        omega
      have HRW := Lib.hid hpart
      have HCat := Lib.hid hcat
      have HCt := Lib.hid hct
      have HB := Lib.hid hB
      have HL := Lib.hid hL
      have HJp := Lib.hid hJp
      have HCj := Lib.hid hcj
      clear hpart hcat hct hB hL hJp hcj hjq
      gi_wp2
      gi_loopw [4, 6] (fun f v wr => ∃ (pre : List B64) (cur junk r : List UInt8) (Ar : Option Addr) (cr : Nat), v = .slice Ar r.length cr ∧ r.length ≤ cr ∧ r.length ≤ lp.length ∧ f = .int .i64 (cur.length : Int) ∧ cur.length < 64 ∧ (cur ++ junk).length = 64 ∧ cat (qs.take j) ++ lp = flat pre ++ (cur ++ r) ∧ Blk wr gB 78 (u8s (cur ++ junk)) ∧ Lay gB gs wr g qs ∧ RdN wr gB gs (Ar, r, cr) ∧ J pre wr)
        (fun _ v _ => match v with | .slice _ k _ => k | _ => 0)
      case atStart => exact ⟨pre, cur, junk, lp, Ap, cp, rfl, hcap, Nat.le_refl _, rfl, hc64, HCj.out, by rw [HCat.out, List.append_assoc], HB.out, HL.out, HRW.out, HJp.out⟩
      case round =>
        clear HB HL HJp HCj HRW HCat hc64 hrow
        obtain ⟨pre, cur, junk, r, Ar, cr, rfl, hrc, hrl, rfl, hc64, hcj, hcat, hB, hL, hR, hJp⟩ := hrel
        have HJp := Lib.hid hJp
        have HL := Lib.hid hL
        have HCat2 := Lib.hid hcat
        clear hJp hL hcat
        obtain ⟨k, hk⟩ : ∃ k, r.length = k := ⟨_, rfl⟩
        obtain ⟨f0, hf0⟩ : ∃ f0, cur.length = f0 := ⟨_, rfl⟩
        rw [hk] at hrc hrl
        rw [hk, hf0]
        rw [hf0] at hc64
        have HK := Lib.hid hk
        have HF0 := Lib.hid hf0
        by_cases hr0 : k = 0
        · subst hr0
          have hd : decide ((0 : Int) < ((0 : Nat) : Int)) = false := by simp
          have HB := Lib.hid hB
          have HCj := Lib.hid hcj
          clear hB hcj hR hk hf0
          gi_wp2
          exact ⟨⟨j + 1, pre, cur, junk, by omega, by go_num, by rw [HF0.out], by rw [HF0.out]; exact hc64, HCj.out, by rw [HCt.out, HCat2.out, List.eq_nil_of_length_eq_zero HK.out, List.append_nil], HB.out, HL.out, HJp.out⟩, by simp [intOf]; omega⟩
        · rcases hR with h | ⟨b, o, rfl, hbn, hbB, hc⟩
          · simp only at h
            rw [h] at hk
            exact absurd hk.symm hr0
          simp only at hc
          obtain ⟨m, hm⟩ : ∃ m, m = min k (64 - f0) := ⟨_, rfl⟩
          have hcp := run_copy_seg (P := Tryz.prog) (w := wr) 23 23 3 5 Tryz.und22 Tryz.size5 gB f0 (64 - f0) (64 - f0) k cr b o r m hc hk.symm (by rw [hk]; exact hm) _ _ hB (by rw [u8s_len, hcj]; omega)
          have hE : (u8s (cur ++ junk)).take f0 ++ u8s (r.take m) ++ (u8s (cur ++ junk)).drop (f0 + m) = u8s (cur ++ r.take m ++ junk.drop m) := by
            rw [u8s_take, u8s_drop, ← u8s_app, ← u8s_app, ← hf0, List.take_left, List.drop_append, List.drop_eq_nil_of_le (Nat.le_add_right _ _)]
            simp
          rw [hE] at hcp
          have hB2 := hB.row (u8s (cur ++ r.take m ++ junk.drop m))
          have hgr := grown_rowS (W := wr) (g := gB) (cs := (u8s (cur ++ r.take m ++ junk.drop m)).toArray)
          have hL2 := HL.out.keep (keep_grown hgr (Nat.le_refl _))
          have hJ2 : J pre (wr.setRow gB (u8s (cur ++ r.take m ++ junk.drop m)).toArray) := HJ.out _ _ _ _ HJp.out hgr (fun x e => by cases e; exact Nat.le_refl _)
          have hc2 : ∀ i c, r[i]? = some c → (wr.setRow gB (u8s (cur ++ r.take m ++ junk.drop m)).toArray).cell? ⟨b, o + i, none⟩ = some (.int .u8 (c.toNat : Int)) := fun i c hi =>
            keep_grown (gs := gs) hgr (Nat.le_refl _) ⟨b, o + i, none⟩ _ hbB hbn (hc i c hi)
          have hjl : cur.length + junk.length = 64 := by rw [← List.length_append]; exact hcj
          have hln : (cur ++ r.take m).length = f0 + m := by rw [List.length_append, List.length_take, hf0, hk]; omega
          have hln2 : (cur ++ r.take m ++ junk.drop m).length = 64 := by rw [List.length_append, hln, List.length_drop]; omega
          generalize wr.setRow gB (u8s (cur ++ r.take m ++ junk.drop m)).toArray = w2 at *
          have HL2 := Lib.hid hL2
          have HJ2 := Lib.hid hJ2
          have HB2 := Lib.hid hB2
          have HC2 := Lib.hid hc2
          have HLn := Lib.hid hln
          have HLn2 := Lib.hid hln2
          have hmk : m ≤ k := by omega
          have hm64 : f0 + m ≤ 64 := by omega
          have HKd : Hid ((r.drop m).length = k - m) := Lib.hid (by rw [List.length_drop, hk])
          have HRest : Hid (RdN w2 gB gs ((if cr = m then some ⟨b, o, none⟩ else some ⟨b, o + m, none⟩), r.drop m, cr - m)) := Lib.hid (by
            by_cases hcm : cr = m
            · refine .inl ?_
              simp only
              exact List.eq_nil_of_length_eq_zero (by rw [List.length_drop, hk]; omega)
            · rw [if_neg hcm]
              refine .inr ⟨b, o + m, rfl, hbn, hbB, fun i c hi => ?_⟩
              simp only [List.getElem?_drop] at hi
              rw [Nat.add_assoc]
              exact hc2 _ _ hi)
          have hkp : 0 < k := by omega
          have hsl := slice64 gB f0 hc64
          have HM := Lib.hid hm
          clear hc hB hcj hf0 hE hgr hL2 hJ2 hB2 hc2 hln hln2 hjl
          by_cases hcase : k < 64 - f0
          · have hmE : m = k := by omega
            clear hm
            have hr1 : Hid (r.take m = r) := Lib.hid (List.take_of_length_le (by rw [hk]; omega))
            have hlt : f0 + m < 64 := by omega
            have hd64 : decide ((f0 : Int) + (m : Int) < 64) = true := by simp; omega
            have HME := Lib.hid hmE
            clear hk hmE hcase
            gi_wp2_with (refine wpListIn_copy_run rfl (.tmp 18) (.tmp 19) _ rfl rfl rfl hcp ?_)
            refine ⟨⟨pre, cur ++ r.take m, junk.drop m, r.drop m, _, _, by rw [HKd.out], by rw [HKd.out]; omega, by rw [HKd.out]; omega, by rw [HLn.out]; go_num, by rw [HLn.out]; exact hlt, HLn2.out, ?_, HB2.out, HL2.out, HRest.out, HJ2.out⟩, ?_⟩
            · rw [HCat2.out, List.append_assoc, List.take_append_drop]
            · have := HME.out
              show k - m < k
              omega
          · have hmE : f0 + m = 64 := by omega
            have hx64 : (cur ++ r.take m).length = 64 := by rw [HLn.out]; exact hmE
            have hj0 : junk.drop m = [] := by
              have := HLn2.out
              rw [List.length_append, hx64] at this
              exact List.eq_nil_of_length_eq_zero (by omega)
            rw [hj0, List.append_nil] at HB2
            have hld := run_loadVar_row (P := Tryz.prog) w2 gB 78 78 (u8s (cur ++ r.take m)).toArray (0, 0) _ HB2.out Tryz.undB64 rfl (by simpa [u8s_len, hx64] using Tryz.sizeB64)
            obtain ⟨x, hxe⟩ : ∃ x : B64, x.1 = cur ++ r.take m := ⟨⟨_, hx64⟩, rfl⟩
            obtain ⟨fn, tmps, assign, body, hy, hR⟩ := HY.out pre x w2 HJ2.out
            rw [hxe] at hy
            have hd64 : decide ((f0 : Int) + (m : Int) < 64) = false := by simp; omega
            have HXE := Lib.hid hxe
            have HM64 := Lib.hid hmE
            have HEnd : ∀ W3 : World, J (pre ++ [x]) W3 → KpS gs w2 W3 → ∀ Ar kk cr', Ar = (if cr = m then some ⟨b, o, none⟩ else some ⟨b, o + m, none⟩) → kk = k - m → cr' = cr - m → ∃ (pre : List B64) (cur junk r : List UInt8) (Ar' : Option Addr) (cr'' : Nat), Value.slice Ar kk cr' = .slice Ar' r.length cr'' ∧ r.length ≤ cr'' ∧ r.length ≤ lp.length ∧ Value.int .i64 0 = .int .i64 (cur.length : Int) ∧ cur.length < 64 ∧ (cur ++ junk).length = 64 ∧ cat (qs.take j) ++ lp = flat pre ++ (cur ++ r) ∧ Blk W3 gB 78 (u8s (cur ++ junk)) ∧ Lay gB gs W3 g qs ∧ RdN W3 gB gs (Ar', r, cr'') ∧ J pre W3 := by
              intro W3 hJ3 hk3 Ar kk cr' hAr hkk hcr
              subst hAr
              subst hkk
              subst hcr
              refine ⟨pre ++ [x], [], cur ++ r.take m, r.drop m, _, _, by rw [HKd.out], by rw [HKd.out]; omega, by rw [HKd.out]; omega, rfl, by simp, by simpa using hx64, ?_, ?_, HL2.out.keep (keep_kp hk3), HRest.out.keep (keep_kp hk3), hJ3⟩
              · rw [HCat2.out, flat_snoc, HXE.out]
                simp
              · exact hk3.blk HB2.out (by have := HGs.out; omega)
            have HEND := Lib.hid HEnd
            clear hk hmE hcase hm hx64 hj0 hxe HEnd
            by_cases hcm : cr = m
            · subst hcm
              gi_wp2_with (first | refine wpListIn_copy_run rfl (.tmp 18) (.tmp 19) _ rfl rfl rfl hcp ?_ | refine wpListIn_load_arr rfl 78 (.tmp 3) rfl rfl (u8s (cur ++ r.take _)).toArray hld ?_)
              refine hR.mono ?_
              rintro e W3 ⟨rfl, hJ3, hk3⟩
              have HE3 := Lib.hid (HEND.out W3 hJ3 hk3 (some ⟨b, o, none⟩) 0 0 (by simp) (by omega) (by omega))
              clear hJ3 hk3 hR hy hld hcp
              gi_wp2
              exact ⟨HE3.out, by show 0 < k; omega⟩
            · gi_wp2_with (first | refine wpListIn_copy_run rfl (.tmp 18) (.tmp 19) _ rfl rfl rfl hcp ?_ | refine wpListIn_load_arr rfl 78 (.tmp 3) rfl rfl (u8s (cur ++ r.take _)).toArray hld ?_)
              refine hR.mono ?_
              rintro e W3 ⟨rfl, hJ3, hk3⟩
              have HE3 := Lib.hid (HEND.out W3 hJ3 hk3 (some ⟨b, o + m, none⟩) (k - m) (cr - m) (by rw [if_neg hcm]) rfl rfl)
              clear hJ3 hk3 hR hy hld hcp
              gi_wp2
              exact ⟨HE3.out, by have := HM64.out; show k - m < k; omega⟩
    · have hall : cat qs = flat pre ++ cur := by
        have e : qs.take j = qs := List.take_of_length_le (by rw [HN.out]; omega)
        rw [← hcat, e]
      have hc0 : cur = [] := by
        have h1 := HM.out
        rw [hall, List.length_append, flat_lenS] at h1
        exact List.eq_nil_of_length_eq_zero (by omega)
      have HE : Hid (flat pre = cat qs) := Lib.hid (by rw [hall, hc0, List.append_nil])
      have HJp := Lib.hid hJp
      clear hB hL hJp hcat hcj hall hc0
      gi_wp2
      go_end0
      exact ⟨⟨_, rfl⟩, pre, HE.out, HJp.out⟩

theorem blocks_seq (n : Nat) (hn : 1 ≤ n) (Bs gs g cap : Nat) (qs : List Part) (w : World) (hBs : w.cell? ⟨Bs, 0, none⟩ = some (.slice (some ⟨g, 0, none⟩) qs.length cap)) (hL : Lay w.heap.size gs w g qs) (hgs : gs < w.heap.size) (hm : (cat qs).length % 64 = 0) (hx : (cat qs).length ≤ 2000000) (hq : qs.length ≤ 1001) :
    SeqC Fence.wide n Tryz.prog 90 #[.pointer (some ⟨Bs, 0, none⟩)] (fun x : B64 => #[.agg (u8s x.1).toArray]) (KpS gs) (fun xs => flat xs = cat qs) w := by
  intro l J W hW hJ hY h0
  have hk : ∀ (p : Addr) (v : Value), p.block < w.heap.size → p.block ≠ gs → w.cell? p = some v → W.cell? p = some v := fun p v _ _ hv => cell_bel' hW hv
  have hL1 := hL.keep hk
  have hL2 : Lay W.heap.size gs W g qs := ⟨Nat.lt_of_lt_of_le hL1.g1 hW.size, hL1.g2, hL1.row, fun p hp => (hL1.parts p hp).more hW.size, hL1.caps⟩
  exact blocks1_in n hn l Bs gs g cap qs J W hJ hY (cell_bel' hW hBs) hL2 (Nat.lt_of_lt_of_le hgs hW.size) hm hx hq h0

set_option maxRecDepth 100000 in
set_option maxHeartbeats 1000000 in
theorem blocks_in (n : Nat) (A : Option Addr) (len cap : Nat) (w : World) :
    CallsIn Fence.wide n Tryz.prog 69 #[.slice A len cap] w fun e w' => e = .returned (.func (.func 90) #[] #[.pointer (some ⟨w.heap.size, 0, none⟩)]) ∧ w' = w.alloc (.cells #[.slice A len cap] 77) := by
  refine callsIn_of_wp Tryz.func69 rfl trivial ?_ rfl
  simp only [Tryz.ntmps69, List.size_toArray, List.length_cons, List.length_nil, Nat.reduceAdd, Nat.reduceSub, Array.replicate_succ, Array.replicate_zero, List.push_toArray, List.append_toArray, List.nil_append, List.cons_append]
  gi_wp2
  refine bodyPost_ret (results_tmp rfl _ _ _) rfl ?_
  exact ⟨rfl, rfl⟩
end Go.Proofs.YtdipflchmooakaaGreatDoor
