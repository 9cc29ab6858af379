/-
  Package aes: products.
-/
import Derived.Test.YtbcagjndbfpecaaDoorAesB
import Derived.Test.YtbcagjndbfpecaaDoorMidB
namespace Go.Proofs.YtbcagjndbfpecaaDoor
open Go.RowKit Go.Gar Go.Gar.Aes

theorem Tryd.undA4 : Tryd.prog.underlying 51 = some (.array 4 5) := by kernel_rfl
theorem Tryd.undA4k : Tryd.prog.underlying 44 = some (.array 4 43) := by kernel_rfl
theorem Tryd.sizeA4 : (Tryd.prog.info? 51).map (·.size) = some 4 := by kernel_rfl
theorem Tryd.sizeA4k : (Tryd.prog.info? 44).map (·.size) = some 1024 := by kernel_rfl
theorem Tryd.infoA4k : (Tryd.prog.info? 44).map (fun i => (i.zero, i.size)) = some (some (.agg (Array.replicate 1024 (.int .u8 0))), 1024) := by kernel_rfl
def z1024 : List UInt8 := List.replicate 1024 0
theorem z1024_len : z1024.length = 1024 := List.length_replicate
theorem zero1024 (w : World) : (zeroValue 44).run Tryd.prog w = .ok (.agg (u8s z1024).toArray) w := by
  rw [(zero_of_info (P := Tryd.prog) Tryd.infoA4k).1 w, z1024, u8s, List.map_replicate]; rfl
theorem size1024 (l : List UInt8) (h : l.length = 1024) : (Tryd.prog.info? 44).map (·.size) = some (u8s l).length := by
  rw [u8s_len, h]; exact Tryd.sizeA4k

theorem mulB (hM : MulC) (a : Nat) (b : UInt8) (w : World) (ha : a < 256) : Calls Tryd.prog 35 #[.int .u8 (a : Int), .int .u8 (b.toNat : Int)] w fun e w' => e = .returned (.int .u8 ((gm (UInt8.ofNat a) b).toNat : Int)) ∧ w' = w :=
  (hM a b.toNat w ha b.toNat_lt).mono fun e w' h => ⟨by rw [h.1, gm_toNat, Box.ofNat_toNat a ha], h.2⟩

set_option maxHeartbeats 4000000 in
set_option maxRecDepth 100000 in
theorem products_any (hM : MulC) (w : World) (F : List UInt8) (hF : F.length = 4) :
    Calls Tryd.prog 21 #[.agg (u8s F).toArray] w fun e w' => e = .returned (.agg (u8s (prodT F)).toArray) ∧ Below w.heap.size w w' := by
  have HM := Lib.hid hM
  have HL := Lib.hid hF
  have hB0 := Blk.new w 51 (u8s F)
  have hb0 := below_alloc w (.cells (u8s F).toArray 51)
  have hs0 : (w.alloc (.cells (u8s F).toArray 51)).heap.size = w.heap.size + 1 := World.size_alloc _ _
  obtain ⟨w1, hw1⟩ : ∃ w1, w.alloc (.cells (u8s F).toArray 51) = w1 := ⟨_, rfl⟩
  rw [hw1] at hB0 hb0 hs0
  have hR1 := Blk.new w1 44 (u8s z1024)
  have hb1 := hb0.alloc (by omega) (.cells (u8s z1024).toArray 44)
  have hB1 := hB0.alloc (.cells (u8s z1024).toArray 44)
  have hs1 : (w1.alloc (.cells (u8s z1024).toArray 44)).heap.size = w1.heap.size + 1 := World.size_alloc _ _
  obtain ⟨w2, hw2⟩ : ∃ w2, w1.alloc (.cells (u8s z1024).toArray 44) = w2 := ⟨_, rfl⟩
  rw [hw2] at hB1 hb1 hs1 hR1
  have hT2 := Blk.new w2 44 (u8s z1024)
  have hb2 := hb1.alloc (by omega) (.cells (u8s z1024).toArray 44)
  have hB2 := hB1.alloc (.cells (u8s z1024).toArray 44)
  have hR2 := hR1.alloc (.cells (u8s z1024).toArray 44)
  obtain ⟨w3, hw3⟩ : ∃ w3, w2.alloc (.cells (u8s z1024).toArray 44) = w3 := ⟨_, rfl⟩
  rw [hw3] at hB2 hb2 hT2 hR2
  have hld := run_loadVar_row (P := Tryd.prog) w3 w.heap.size 51 51 (u8s F).toArray (0, 0) _ hB2 Tryd.undA4 rfl (by simpa [u8s_len, hF] using Tryd.sizeA4)
  have HT2 := Lib.hid hT2
  have HR2 := Lib.hid hR2
  have Hb2 := Lib.hid hb2
  have HS : Hid (w.heap.size ≤ w1.heap.size ∧ w1.heap.size < w2.heap.size) := Lib.hid (by omega)
  have HW1 := Lib.hid hw1
  have HW2 := Lib.hid hw2
  have HW3 := Lib.hid hw3
  clear hF hB0 hb0 hs0 hR1 hb1 hB1 hs1 hT2 hb2 hB2 hR2 hw1 hw2 hw3 hM
  go_enter Tryd.func21, Tryd.ntmps21
  go_wp2_with (first | (refine wpList_box_arr rfl 51 (.tmp 0) (u8s F).toArray rfl rfl ?_; rw [HW1.out]) | (refine wpList_alloc_arr rfl 44 (u8s z1024).toArray rfl zero1024 ?_; first | rw [HW2.out] | rw [HW3.out]) | refine wpList_load_arr_w 51 (.tmp 1) rfl rfl (u8s F).toArray hld (by kernel_rfl) ?_)
  generalize w2.heap.size = gT at *
  generalize w1.heap.size = gR at *
  clear hld HW1 HW2 HW3
  go_loopw [8] (fun i w' => ∃ j : Nat, j ≤ 4 ∧ i = .int .i64 (j : Int) ∧ Blk w' gT 44 (u8s (prog z1024 (prodT F) (j * 256))) ∧ Blk w' gR 44 (u8s z1024) ∧ Below w.heap.size w w') (fun i _ => 4 - (intOf i).toNat)
  case atStart => exact ⟨0, by omega, rfl, by rw [Nat.zero_mul, prog_0]; exact HT2.out, HR2.out, Hb2.out⟩
  case round =>
    obtain ⟨i, hi, rfl, hT, hR, hb⟩ := hrel
    clear HT2 HR2 Hb2
    have HT := Lib.hid hT
    have HR := Lib.hid hR
    have Hb := Lib.hid hb
    clear hT hR hb
    by_cases hlt : i < 4
    · have hgF := four_get F HL.out i hlt
      have hix := run_index_u8 (P := Tryd.prog) (w := wr) Tryd.undA4 Tryd.und5 Tryd.size5 F i hlt (at_ F i) hgF
      clear hgF
      go_wp2_with (refine wpList_index_u8 51 (.tmp 7) (.tmp 8) rfl rfl rfl hix (by kernel_rfl) ?_)
      clear hix
      have hf8 := (at_ F i).toNat_lt
      obtain ⟨f, hfe⟩ : ∃ f, at_ F i = f := ⟨_, rfl⟩
      rw [hfe] at hf8 ⊢
      have HFE := Lib.hid hfe
      clear hfe
      go_loopw [12] (fun q w' => ∃ a : Nat, a ≤ 256 ∧ q = .int .i64 (a : Int) ∧ Blk w' gT 44 (u8s (prog z1024 (prodT F) (i * 256 + a))) ∧ Blk w' gR 44 (u8s z1024) ∧ Below w.heap.size w w') (fun q _ => 256 - (intOf q).toNat)
      case atStart => exact ⟨0, by omega, rfl, HT.out, HR.out, Hb.out⟩
      case round =>
        obtain ⟨a, ha, rfl, hT, hR, hb⟩ := hrel
        clear HT HR Hb
        have hPL : (prodT F).length = z1024.length := by rw [prodT_len, z1024_len]
        by_cases hal : a < 256
        · have hg := prodT_get F i a hlt hal
          rw [HFE.out, show 256 * i + a = i * 256 + a from by omega] at hg
          obtain ⟨v0, hc0⟩ : ∃ v0, wr.cell? ⟨gT, i * 256 + a, none⟩ = some v0 := ⟨_, blk_byte hT (i := i * 256 + a) (c := at_ z1024 (i * 256 + a)) (by rw [prog_get _ _ _ hPL (by rw [z1024_len]; omega), at_get (by rw [z1024_len]; omega)])⟩
          have hf := hT.frozen (i * 256 + a)
          have hS := hT.set_ (i * 256 + a) (.int .u8 ((gm (UInt8.ofNat a) f).toNat : Int))
          rw [u8s_set, prog_set _ _ _ _ hPL hg] at hS
          have HTn := Lib.hid hS
          have HRn := Lib.hid (hR.far (p := ⟨gT, i * 256 + a, none⟩) (by have := HS.out; show gR ≠ gT; omega) (.int .u8 ((gm (UInt8.ofNat a) f).toNat : Int)))
          have Hbn := Lib.hid (hb.setCell (p := ⟨gT, i * 256 + a, none⟩) (by have := HS.out; show w.heap.size ≤ gT; omega) (.int .u8 ((gm (UInt8.ofNat a) f).toNat : Int)))
          clear hS hT hR hb hg hPL
          go_wp2_with fail
          refine wp_region_G grows (by kernel_rfl) ?_
          refine segG (by kernel_rfl) (fun _ _ _ _ _ h => h) [0, 1, 2, 3, 4, 6] [_, _, _, _, _, _] 3 rfl rfl (by kernel_rfl) ?_
          repeat (go_big_quiet_step (fail))
          refine wpQuiet_nil ?_
          refine oneG 5 2 rfl (by kernel_rfl) rfl ?_
          go_wp2_with fail
          refine (mulB HM.out a f _ hal).mono ?_
          rintro e w' ⟨rfl, rfl⟩
          have hp8 := (gm (UInt8.ofNat a) f).toNat_lt
          generalize (gm (UInt8.ofNat a) f).toNat = pn at *
          go_wp2
          refine ⟨grows.refl _, ?_⟩
          refine segG (by kernel_rfl) (fun _ _ _ _ _ h => h) [7] [_] 1 rfl rfl (by kernel_rfl) ?_
          repeat (go_big_quiet_step (fail))
          refine wpQuiet_nil ?_
          refine lateG 8 0 rfl (by kernel_rfl) (by kernel_rfl) rfl ?_
          go_wp2
          refine ⟨trivial, ?_⟩
          refine wpAnyG_done (by kernel_rfl) ?_
          go_wp2
          exact ⟨⟨a + 1, by omega, by go_num, HTn.out, HRn.out, ⟨Hbn.out.os, Hbn.out.tape, Hbn.out.output, Hbn.out.size, Hbn.out.block⟩⟩, by simp [intOf]; omega⟩
        · have HTn : Hid (Blk wr gT 44 (u8s (prog z1024 (prodT F) ((i + 1) * 256)))) := Lib.hid (by rw [show (i + 1) * 256 = i * 256 + a from by omega]; exact hT)
          have HRn := Lib.hid hR
          have Hbn := Lib.hid hb
          clear hT hR hb hPL
          go_wp2
          exact ⟨⟨i + 1, by omega, by go_num, HTn.out, HRn.out, Hbn.out⟩, by simp [intOf]; omega⟩
    · have hE : prog z1024 (prodT F) (i * 256) = prodT F := prog_end _ _ _ (by rw [z1024_len]; omega) (by rw [prodT_len]; omega)
      rw [hE] at HT
      have hld := run_loadVar_row (P := Tryd.prog) wr gT 44 44 (u8s (prodT F)).toArray (0, 0) _ HT.out Tryd.undA4k rfl (by simpa using size1024 _ (prodT_len F))
      have HS2 := Lib.hid (size1024 _ (prodT_len F))
      have HZ2 : Hid ((u8s z1024).length = (u8s (prodT F)).length) := Lib.hid (by rw [u8s_len, u8s_len, prodT_len, z1024_len])
      have HO2 := Lib.hid (u8s_one (prodT F))
      have hl2 := run_loadVar_row (P := Tryd.prog) (wr.setRow gR (u8s (prodT F)).toArray) gR 44 44 (u8s (prodT F)).toArray (0, 0) _ (HR.out.row _) Tryd.undA4k rfl (by simpa using size1024 _ (prodT_len F))
      have Hbn := Lib.hid (below_setRow Hb.out (by have := HS.out; omega : w.heap.size ≤ gR) (u8s (prodT F)).toArray)
      clear hE
      go_wp2_with (first | refine wpList_load_arr_w 44 (.tmp 3) rfl rfl (u8s (prodT F)).toArray hld (by kernel_rfl) ?_ | refine wpList_store_arr rfl 44 (.tmp 2) (.tmp 25) gR _ _ rfl rfl rfl rfl HR.out HS2.out HZ2.out HO2.out ?_)
      simp only [Act.put, List.setIfInBounds_toArray, List.set]
      refine bodyPost_ret (v := .agg (u8s (prodT F)).toArray) ?_ rfl ⟨rfl, Hbn.out⟩
      generalize (u8s (prodT F)).toArray = X at hl2 ⊢
      simp [results, Tryd.results21, asAddr, hl2]
end Go.Proofs.YtbcagjndbfpecaaDoor
