/-
  The landed sha: words: the 64 numbers that a block expands to.
-/
import Derived.Test.YtpaagjhohfjopaaDoorShGa
import Derived.RegionTactic
import Derived.BigRegion
set_option maxRecDepth 100000
namespace Go.Proofs.YtpaagjhohfjopaaDoor
open Go.RowKit Go.Gar

/-- The numbers when i bytes of the block have come. -/
def wb (m : List UInt8) : Nat → List Nat
  | 0 => List.replicate 64 0
  | i + 1 => (wb m i).set (i / 4) ((wb m i).getD (i / 4) 0 * 256 % 4294967296 ||| Sha.at8 m i)
theorem wb_len (m : List UInt8) : ∀ i, (wb m i).length = 64
  | 0 => List.length_replicate
  | i + 1 => by rw [wb, List.length_set, wb_len m i]
theorem at_mid (l r : List Nat) (t x : Nat) (h : l.length = t) : (l ++ x :: r).getD t 0 = x := by
  subst h; simp [List.getD_eq_getElem?_getD]
theorem set_mid' (l r : List Nat) (t x y : Nat) (h : l.length = t) : (l ++ x :: r).set t y = l ++ y :: r := by
  subst h; rw [List.set_append_right _ _ (Nat.le_refl _)]; simp
theorem or_byte (x c : Nat) (hx : x < 16777216) (hc : c < 256) : x * 256 % 4294967296 ||| c = x * 256 + c := by
  rw [Nat.mod_eq_of_lt (by omega), show x * 256 = x <<< 8 from by rw [Nat.shiftLeft_eq], ← Nat.shiftLeft_add_eq_or_of_lt (by simpa using hc)]
theorem wb_step (m : List UInt8) (l r : List Nat) (t x i : Nat) (hl : l.length = t) (hi : i / 4 = t) (h : wb m i = l ++ x :: r) (hx : x < 16777216) : wb m (i + 1) = l ++ (x * 256 + Sha.at8 m i) :: r := by
  rw [wb, hi, h, at_mid _ _ _ _ hl, set_mid' _ _ _ _ _ hl, or_byte _ _ hx (Sha.at8_lt _ _)]
theorem cell_bel' {w w' : World} (hb : Below w.heap.size w w') {p : Addr} {v : Value} (h : w.cell? p = some v) : w'.cell? p = some v := by
  rw [hb.cell (p := p) (World.block_lt_of_cell? w p h), h]
theorem four_bytes (a b c d : Nat) : (((0 * 256 + a) * 256 + b) * 256 + c) * 256 + d = a * 16777216 + b * 65536 + c * 256 + d := by omega
theorem wb_four (m : List UInt8) : ∀ t, t ≤ 16 → wb m (4 * t) = Sha.wK m 0 t ++ List.replicate (64 - t) 0
  | 0, _ => by simp [wb, Sha.wK]
  | t + 1, h => by
    have ih := wb_four m t (by omega)
    rw [show 64 - t = (64 - (t + 1)) + 1 from by omega, List.replicate_succ] at ih
    have hl := Sha.wK_len m 0 t
    have b0 := Sha.at8_lt m (4 * t)
    have b1 := Sha.at8_lt m (4 * t + 1)
    have b2 := Sha.at8_lt m (4 * t + 1 + 1)
    have h1 := wb_step m _ _ t _ _ hl (by omega) ih (by omega)
    have h2 := wb_step m _ _ t _ _ hl (by omega) h1 (by omega)
    have h3 := wb_step m _ _ t _ _ hl (by omega) h2 (by omega)
    have h4 := wb_step m _ _ t _ _ hl (by omega) h3 (by omega)
    have e : (((0 * 256 + Sha.at8 m (4 * t)) * 256 + Sha.at8 m (4 * t + 1)) * 256 + Sha.at8 m (4 * t + 1 + 1)) * 256 + Sha.at8 m (4 * t + 1 + 1 + 1) = Sha.word m (0 + 4 * t) := by
      rw [four_bytes, Nat.zero_add, Sha.word]
    rw [e] at h4
    rw [show 4 * (t + 1) = 4 * t + 1 + 1 + 1 + 1 from by omega, h4, Sha.wK, Sha.wStep, if_pos (by omega), List.append_assoc]
    rfl
theorem wb_end (m : List UInt8) : wb m 64 = Sha.wK m 0 16 ++ List.replicate 48 0 := wb_four m 16 (by omega)
theorem wb_lt (m : List UInt8) : ∀ i, ∀ x ∈ wb m i, x < 4294967296
  | 0 => by intro x hx; rw [wb, List.mem_replicate] at hx; omega
  | i + 1 => by
    intro x hx
    rw [wb] at hx
    rcases List.mem_or_eq_of_mem_set hx with h | h
    · exact wb_lt m i x h
    · rw [h]
      exact Nat.or_lt_two_pow (n := 32) (Nat.mod_lt _ (by omega)) (Nat.lt_of_lt_of_le (Sha.at8_lt m i) (by omega))
/-- The numbers, t of them made. -/
def wq (m : List UInt8) (t : Nat) : List Nat := Sha.wK m 0 t ++ List.replicate (64 - t) 0
theorem wq_len (m : List UInt8) (t : Nat) (h : t ≤ 64) : (wq m t).length = 64 := by
  rw [wq, List.length_append, Sha.wK_len, List.length_replicate]; omega
theorem wq_end (m : List UInt8) : wq m 64 = Sha.wK m 0 64 := by simp [wq]
theorem wq_get (m : List UInt8) (t j : Nat) (h : j < t) : (wq m t).getD j 0 = (Sha.wK m 0 t).getD j 0 := by
  rw [wq, List.getD_eq_getElem?_getD, List.getElem?_append_left (by rw [Sha.wK_len]; exact h), ← List.getD_eq_getElem?_getD]
theorem wq_set (m : List UInt8) (t : Nat) (h : t < 64) (h16 : 16 ≤ t) : (wq m t).set t (Sha.wNext (Sha.wK m 0 t) t) = wq m (t + 1) := by
  unfold wq
  rw [show 64 - t = (64 - (t + 1)) + 1 from by omega, List.replicate_succ, set_mid' _ _ _ _ _ (Sha.wK_len m 0 t), Sha.wK, Sha.wStep, if_neg (by omega), List.append_assoc]
  rfl
theorem wq_lt (m : List UInt8) (t j : Nat) : (wq m t).getD j 0 < 4294967296 := by
  refine Sha.getD_lt (fun x hx => ?_) j
  rw [wq, List.mem_append, List.mem_replicate] at hx
  rcases hx with h | h
  · exact Sha.wK_lt _ _ _ x h
  · omega

theorem rightL_z (x : Nat) (k : Int) (w : World) (hx : x < 4294967296) (h0 : 0 < k) (h : k < 32) :
    Calls Tryd.prog 40 #[.int .u32 (x : Int), .int .i64 k] w fun e w' => e = .returned (.int .u32 ((Sha.rotr x k.toNat : Nat) : Int)) ∧ w' = w := by
  have := rightL_any x k.toNat w hx (by omega) (by omega)
  rw [Int.toNat_of_nonneg (by omega)] at this
  exact this
theorem Tryd.undB64 : Tryd.prog.underlying 64 = some (.array 64 5) := by kernel_rfl
theorem Tryd.sizeB64 : (Tryd.prog.info? 64).map (·.size) = some 64 := by kernel_rfl
theorem Tryd.undW64 : Tryd.prog.underlying 67 = some (.array 64 44) := by kernel_rfl
theorem Tryd.sizeW64 : (Tryd.prog.info? 67).map (·.size) = some 64 := by kernel_rfl
theorem Tryd.infoW64 : (Tryd.prog.info? 67).map (fun i => (i.zero, i.size)) = some (some (.agg (Array.replicate 64 (.int .u32 0))), 64) := by kernel_rfl
def zW : List Nat := List.replicate 64 0
theorem zW_len : zW.length = 64 := List.length_replicate
theorem zero64W (w : World) : (zeroValue 67).run Tryd.prog w = .ok (.agg (u32s zW).toArray) w := by
  rw [(zero_of_info (P := Tryd.prog) Tryd.infoW64).1 w, zW, u32s, List.map_replicate]; rfl
theorem size64W (l : List Nat) (h : l.length = 64) : (Tryd.prog.info? 67).map (·.size) = some (u32s l).length := by
  rw [u32s_len, h]; exact Tryd.sizeW64
theorem at8_get (m : List UInt8) (i : Nat) (h : i < m.length) : m[i]? = some (UInt8.ofNat (Sha.at8 m i)) := by
  rw [List.getElem?_eq_getElem h, Sha.at8, List.getD_eq_getElem?_getD, List.getElem?_eq_getElem h]; simp

set_option maxHeartbeats 2000000 in
set_option maxRecDepth 100000 in
theorem words_at (m : List UInt8) (W : List Nat) (w : World) (hm : m.length = 64) (hW0 : W = Sha.wK m 0 64) :
    Calls Tryd.prog 33 #[.agg (u8s m).toArray] w fun e w' => e = .returned (.agg (u32s W).toArray) ∧ Below w.heap.size w w' := by
  have HW0 := Lib.hid hW0
  clear hW0
  have hB0 := Blk.new w 64 (u8s m)
  have hb0 := below_alloc w (.cells (u8s m).toArray 64)
  have hs0 : (w.alloc (.cells (u8s m).toArray 64)).heap.size = w.heap.size + 1 := World.size_alloc _ _
  obtain ⟨w1, hw1⟩ : ∃ w1, w.alloc (.cells (u8s m).toArray 64) = w1 := ⟨_, rfl⟩
  rw [hw1] at hB0 hb0 hs0
  have hR1 := Blk.new w1 67 (u32s zW)
  have hb1 := hb0.alloc (by omega) (.cells (u32s zW).toArray 67)
  have hB1 := hB0.alloc (.cells (u32s zW).toArray 67)
  have hs1 : (w1.alloc (.cells (u32s zW).toArray 67)).heap.size = w1.heap.size + 1 := World.size_alloc _ _
  obtain ⟨w2, hw2⟩ : ∃ w2, w1.alloc (.cells (u32s zW).toArray 67) = w2 := ⟨_, rfl⟩
  rw [hw2] at hB1 hb1 hs1 hR1
  have hT2 := Blk.new w2 67 (u32s zW)
  have hb2 := hb1.alloc (by omega) (.cells (u32s zW).toArray 67)
  have hB2 := hB1.alloc (.cells (u32s zW).toArray 67)
  have hR2 := hR1.alloc (.cells (u32s zW).toArray 67)
  obtain ⟨w3, hw3⟩ : ∃ w3, w2.alloc (.cells (u32s zW).toArray 67) = w3 := ⟨_, rfl⟩
  rw [hw3] at hB2 hb2 hT2 hR2
  have hld := run_loadVar_row (P := Tryd.prog) w3 w.heap.size 64 64 (u8s m).toArray (0, 0) _ hB2 Tryd.undB64 rfl (by simpa [u8s_len, hm] using Tryd.sizeB64)
  have HT2 := Lib.hid hT2
  have HR2 := Lib.hid hR2
  have Hb2 := Lib.hid hb2
  have HS : Hid (w.heap.size < w1.heap.size ∧ w1.heap.size < w2.heap.size) := Lib.hid (by omega)
  have HW1 := Lib.hid hw1
  have HW2 := Lib.hid hw2
  have HW3 := Lib.hid hw3
  have HL := Lib.hid hm
  clear hB0 hb0 hs0 hR1 hb1 hB1 hs1 hT2 hb2 hB2 hR2 hw1 hw2 hw3 hm
  go_enter Tryd.func33, Tryd.ntmps33
  go_wp2_with (first | (refine wpList_box_arr rfl 64 (.tmp 0) (u8s m).toArray rfl rfl ?_; rw [HW1.out]) | (refine wpList_alloc_arr rfl 67 (u32s zW).toArray rfl zero64W ?_; first | rw [HW2.out] | rw [HW3.out]) | refine wpList_load_arr_w 64 (.tmp 1) rfl rfl (u8s m).toArray hld (by kernel_rfl) ?_)
  generalize w2.heap.size = gT at *
  generalize w1.heap.size = gR at *
  clear hld HW1 HW2 HW3
  go_loopw [12] (fun i w' => ∃ j : Nat, j ≤ 64 ∧ i = .int .i64 (j : Int) ∧ Blk w' gT 67 (u32s (wb m j)) ∧ Blk w' gR 67 (u32s zW) ∧ Below w.heap.size w w') (fun i _ => 64 - (intOf i).toNat)
  case atStart => exact ⟨0, by omega, rfl, HT2.out, HR2.out, Hb2.out⟩
  case round =>
    obtain ⟨i, hi, rfl, hT, hR, hb⟩ := hrel
    clear HT2 HR2 Hb2
    by_cases hlt : i < 64
    · have hix := run_index_u8 (P := Tryd.prog) (w := wr) Tryd.undB64 Tryd.und5 Tryd.size5 m i hlt _ (at8_get m i (by rw [HL.out]; exact hlt))
      have hb8 := Sha.at8_lt m i
      rw [show (UInt8.ofNat (Sha.at8 m i)).toNat = Sha.at8 m i from by simp; omega] at hix
      have hx : (wb m i).getD (i / 4) 0 < 4294967296 := Sha.getD_lt (wb_lt m i) _
      have hcx : wr.cell? ⟨gT, i / 4, none⟩ = some (.int .u32 (((wb m i).getD (i / 4) 0 : Nat) : Int)) := by rw [hT.cell, u32s_get _ _ (by rw [wb_len]; omega)]
      have hf := hT.frozen (i / 4)
      have hS := hT.set_ (i / 4) (.int .u32 (((wb m i).getD (i / 4) 0 * 256 % 4294967296 ||| Sha.at8 m i : Nat) : Int))
      rw [u32s_set, show (wb m i).set (i / 4) ((wb m i).getD (i / 4) 0 * 256 % 4294967296 ||| Sha.at8 m i) = wb m (i + 1) from rfl] at hS
      have hV : bits .or .u32 ((((wb m i).getD (i / 4) 0 : Nat) : Int) * 256 % 4294967296) ((Sha.at8 m i : Nat) : Int) = (((wb m i).getD (i / 4) 0 * 256 % 4294967296 ||| Sha.at8 m i : Nat) : Int) := by
        rw [← or_u32 _ _ (Nat.mod_lt _ (by omega)) (by omega)]; simp
      generalize (wb m i).getD (i / 4) 0 = x at *
      generalize (x * 256 % 4294967296 ||| Sha.at8 m i) = y at *
      have HTn := Lib.hid hS
      have HRn := Lib.hid (hR.far (p := ⟨gT, i / 4, none⟩) (by have := HS.out; show gR ≠ gT; omega) (.int .u32 (y : Int)))
      have Hbn := Lib.hid (hb.setCell (p := ⟨gT, i / 4, none⟩) (by have := HS.out; show w.heap.size ≤ gT; omega) (.int .u32 (y : Int)))
      have HV := Lib.hid hV
      clear hS hT hR hb hV
      go_wp2_with (refine wpList_index_u8 64 (.tmp 11) (.tmp 12) rfl rfl rfl hix (by kernel_rfl) ?_)
      rw [HV.out]
      exact ⟨⟨i + 1, by omega, by go_num, HTn.out, HRn.out, Hbn.out⟩, by simp [intOf]; omega⟩
    · have hT16 : Blk wr gT 67 (u32s (wq m 16)) := by
        have e : i = 64 := by omega
        rw [e, wb_end] at hT
        exact hT
      have HT := Lib.hid hT16
      have HR := Lib.hid hR
      have Hb := Lib.hid hb
      clear hT16 hT hR hb
      go_wp2
      go_loopw [6] (fun i w' => ∃ j : Nat, 16 ≤ j ∧ j ≤ 64 ∧ i = .int .i64 (j : Int) ∧ Blk w' gT 67 (u32s (wq m j)) ∧ Blk w' gR 67 (u32s zW) ∧ Below w.heap.size w w') (fun i _ => 64 - (intOf i).toNat)
      case atStart => exact ⟨16, by omega, by omega, rfl, HT.out, HR.out, Hb.out⟩
      case round =>
        obtain ⟨t, ht16, ht, rfl, hT, hR, hb⟩ := hrel
        clear HT HR Hb
        have hlen := wq_len m t ht
        by_cases htl : t < 64
        · have c2 : wr.cell? ⟨gT, t - 2, none⟩ = some (.int .u32 (((wq m t).getD (t - 2) 0 : Nat) : Int)) := by rw [hT.cell, u32s_get _ _ (by rw [hlen]; omega)]
          have c15 : wr.cell? ⟨gT, t - 15, none⟩ = some (.int .u32 (((wq m t).getD (t - 15) 0 : Nat) : Int)) := by rw [hT.cell, u32s_get _ _ (by rw [hlen]; omega)]
          have c7 : wr.cell? ⟨gT, t - 7, none⟩ = some (.int .u32 (((wq m t).getD (t - 7) 0 : Nat) : Int)) := by rw [hT.cell, u32s_get _ _ (by rw [hlen]; omega)]
          have c16 : wr.cell? ⟨gT, t - 16, none⟩ = some (.int .u32 (((wq m t).getD (t - 16) 0 : Nat) : Int)) := by rw [hT.cell, u32s_get _ _ (by rw [hlen]; omega)]
          have c0 : wr.cell? ⟨gT, t, none⟩ = some (.int .u32 (((wq m t).getD t 0 : Nat) : Int)) := by rw [hT.cell, u32s_get _ _ (by rw [hlen]; omega)]
          have l2 := wq_lt m t (t - 2)
          have l7 := wq_lt m t (t - 7)
          have l15 := wq_lt m t (t - 15)
          have l16 := wq_lt m t (t - 16)
          have hf := hT.frozen t
          have hS := hT.set_ t (.int .u32 ((Sha.wNext (Sha.wK m 0 t) t : Nat) : Int))
          rw [u32s_set, wq_set m t htl ht16] at hS
          have hW : Sha.wNext (Sha.wK m 0 t) t = (Sha.s1 ((wq m t).getD (t - 2) 0) + (wq m t).getD (t - 7) 0 + Sha.s0 ((wq m t).getD (t - 15) 0) + (wq m t).getD (t - 16) 0) % 4294967296 := by
            rw [wq_get _ _ _ (by omega), wq_get _ _ _ (by omega), wq_get _ _ _ (by omega), wq_get _ _ _ (by omega)]
            rfl
          generalize (wq m t).getD (t - 2) 0 = x2 at *
          generalize (wq m t).getD (t - 7) 0 = x7 at *
          generalize (wq m t).getD (t - 15) 0 = x15 at *
          generalize (wq m t).getD (t - 16) 0 = x16 at *
          generalize (wq m t).getD t 0 = x0 at *
          generalize Sha.wNext (Sha.wK m 0 t) t = y at *
          have HTn := Lib.hid hS
          have HRn := Lib.hid (hR.far (p := ⟨gT, t, none⟩) (by have := HS.out; show gR ≠ gT; omega) (.int .u32 (y : Int)))
          have Hbn := Lib.hid (hb.setCell (p := ⟨gT, t, none⟩) (by have := HS.out; show w.heap.size ≤ gT; omega) (.int .u32 (y : Int)))
          have HW := Lib.hid hW
          clear hS hT hR hb hW hlen
          go_wp2_with fail
          refine wp_region_G grows (by kernel_rfl) ?_
          have hcl : ∀ {p : Addr} {v : Value}, wr.cell? p = some v → ∀ x : Later grows wr.drew, x.to.cell? p = some v := fun h x => by
            have hb : Below wr.drew.heap.size wr.drew x.to := x.grown
            exact cell_bel' (w := wr.drew) hb h
          have q2 := hcl c2
          have q15 := hcl c15
          refine segG (by kernel_rfl) (fun _ _ _ _ _ h => h) [0, 1, 2, 3, 4, 5, 6, 7, 8, 9] [_, _, _, _, _, _, _, _, _, _] 0 rfl rfl (by kernel_rfl) ?_
          repeat (go_big_quiet_step (fail))
          refine wpQuiet_nil ?_
          refine wpAnyG_done (by kernel_rfl) ?_
          clear q2 q15 hcl c2 c15
          have HV1 : Hid (bits .xor .u32 (bits .xor .u32 ((Sha.rotr x2 17 : Nat) : Int) ((Sha.rotr x2 19 : Nat) : Int)) ((x2 : Int) / 1024) = ((Sha.s1 x2 : Nat) : Int)) := Lib.hid (by
            rw [show (x2 : Int) / 1024 = ((x2 / 1024 : Nat) : Int) from by simp, xor_u32 _ _ (Sha.rotr_lt _ _ l2) (Sha.rotr_lt _ _ l2), xor_u32 _ _ (Sha.xor_lt (Sha.rotr_lt _ _ l2) (Sha.rotr_lt _ _ l2)) (by omega)]
            rfl)
          have HV0 : Hid (bits .xor .u32 (bits .xor .u32 ((Sha.rotr x15 7 : Nat) : Int) ((Sha.rotr x15 18 : Nat) : Int)) ((x15 : Int) / 8) = ((Sha.s0 x15 : Nat) : Int)) := Lib.hid (by
            rw [show (x15 : Int) / 8 = ((x15 / 8 : Nat) : Int) from by simp, xor_u32 _ _ (Sha.rotr_lt _ _ l15) (Sha.rotr_lt _ _ l15), xor_u32 _ _ (Sha.xor_lt (Sha.rotr_lt _ _ l15) (Sha.rotr_lt _ _ l15)) (by omega)]
            rfl)
          go_wp2_with (refine (rightL_z _ _ _ (by assumption) (by decide) (by decide)).mono ?_; rintro e w' ⟨rfl, rfl⟩; simp only [Int.reduceToNat])
          rw [HV1.out, HV0.out]
          have ls1 := Sha.s1_lt x2 l2
          have ls0 := Sha.s0_lt x15 l15
          have HY : Hid ((((Sha.s1 x2 : Nat) : Int) + (x7 : Int) + ((Sha.s0 x15 : Nat) : Int) + (x16 : Int)) % 4294967296 = ((y : Nat) : Int)) := Lib.hid (by rw [HW.out]; omega)
          clear HV1 HV0 HW
          generalize Sha.s1 x2 = y1 at *
          generalize Sha.s0 x15 = y0 at *
          refine wp_region_G grows (by kernel_rfl) ?_
          have hcl : ∀ {p : Addr} {v : Value}, wr.cell? p = some v → ∀ x : Later grows wr.drew.drew, x.to.cell? p = some v := fun h x => by
            have hb : Below wr.drew.drew.heap.size wr.drew.drew x.to := x.grown
            exact cell_bel' (w := wr.drew.drew) hb h
          have q7 := hcl c7
          have q16 := hcl c16
          refine segG (by kernel_rfl) (fun _ _ _ _ _ h => h) [0, 1, 2, 3, 4, 5, 6, 7, 8, 9] [_, _, _, _, _, _, _, _, _, _] 6 rfl rfl (by kernel_rfl) ?_
          repeat (go_big_quiet_step (fail))
          refine wpQuiet_nil ?_
          refine segG (by kernel_rfl) (fun _ _ _ _ _ h => h) [10, 11, 12, 13, 14] [_, _, _, _, _] 1 rfl rfl (by kernel_rfl) ?_
          repeat (go_big_quiet_step (fail))
          refine wpQuiet_nil ?_
          refine lateG 15 0 rfl (by kernel_rfl) (by kernel_rfl) rfl ?_
          clear q7 q16 hcl
          go_wp2
          refine ⟨trivial, ?_⟩
          refine wpAnyG_done (by kernel_rfl) ?_
          go_wp2
          rw [HY.out]
          exact ⟨⟨t + 1, by omega, by omega, by go_num, HTn.out, HRn.out, ⟨Hbn.out.os, Hbn.out.tape, Hbn.out.output, Hbn.out.size, Hbn.out.block⟩⟩, by simp [intOf]; omega⟩
        · have hE : wq m t = W := by rw [show t = 64 from by omega, wq_end, HW0.out]
          rw [hE] at hT
          have hwl : W.length = 64 := by rw [HW0.out]; exact Sha.wK_len m 0 64
          have HR := Lib.hid hR
          have Hb := Lib.hid hb
          have hld := run_loadVar_row (P := Tryd.prog) wr gT 67 67 (u32s W).toArray (0, 0) _ hT Tryd.undW64 rfl (by simpa using size64W _ hwl)
          have HS2 := Lib.hid (size64W _ hwl)
          have HZ2 : Hid ((u32s zW).length = (u32s W).length) := Lib.hid (by rw [u32s_len, u32s_len, hwl, zW_len])
          have HO2 := Lib.hid (u32s_one W)
          have hl2 := run_loadVar_row (P := Tryd.prog) (wr.setRow gR (u32s W).toArray) gR 67 67 (u32s W).toArray (0, 0) _ (HR.out.row _) Tryd.undW64 rfl (by simpa using size64W _ hwl)
          have Hbn := Lib.hid (below_setRow Hb.out (by have := HS.out; omega : w.heap.size ≤ gR) (u32s W).toArray)
          clear hE hT hR hb hlen
          have d1 : decide ((t : Int) < 64) = false := by simp; omega
          clear hwl HL
          go_wp2_with (first | refine wpList_load_at 67 (.tmp 3) (by exact rfl) (g := gT) (q := 0) (by exact rfl) (u32s W).toArray hld (by kernel_rfl) ?_ | refine wpList_store_arr rfl 67 (.tmp 2) (.tmp 71) gR (u32s zW) (u32s W) (by exact rfl) (by exact rfl) (by exact rfl) (by exact rfl) HR.out HS2.out HZ2.out HO2.out ?_)
          simp only [Act.put, List.setIfInBounds_toArray, List.set]
          refine bodyPost_ret (v := .agg (u32s W).toArray) ?_ rfl ⟨rfl, Hbn.out⟩
          generalize (u32s W).toArray = X at hl2 ⊢
          simp [results, Tryd.results33, asAddr, hl2]
theorem words_any (m : List UInt8) (w : World) (hm : m.length = 64) :
    Calls Tryd.prog 33 #[.agg (u8s m).toArray] w fun e w' => e = .returned (.agg (u32s (Sha.wK m 0 64)).toArray) ∧ Below w.heap.size w w' :=
  words_at m _ w hm rfl
end Go.Proofs.YtpaagjhohfjopaaDoor
