/-
  Package aes: products. Package aes: temporary.
-/
import Derived.Test.YtdipflchmooakaaGreatDoorWholeJ01
import Derived.Test.YtdipflchmooakaaGreatDoorWholeJ05
import Derived.Test.YtdipflchmooakaaGreatDoorWholeJ02
import Derived.Test.YtdipflchmooakaaGreatDoorWholeJ12
import Derived.Test.YtdipflchmooakaaGreatDoorWholeJ09
import Derived.Test.YtdipflchmooakaaGreatDoorWholeJ13
import Derived.Test.YtdipflchmooakaaGreatDoorWholeJ14
import Derived.BigRegion
import Derived.Deep.CutRange
import Derived.RegionTactic
set_option maxRecDepth 100000
namespace Go.Proofs.YtdipflchmooakaaGreatDoor
open Go.RowKit Go.Gar Go.Gar.Aes

theorem Tryz.undA4 : Tryz.prog.underlying 89 = some (.array 4 5) := by kernel_rfl
theorem Tryz.undA4k : Tryz.prog.underlying 82 = some (.array 4 81) := by kernel_rfl
theorem Tryz.sizeA4 : (Tryz.prog.info? 89).map (·.size) = some 4 := by kernel_rfl
theorem Tryz.sizeA4k : (Tryz.prog.info? 82).map (·.size) = some 1024 := by kernel_rfl
theorem Tryz.infoA4k : (Tryz.prog.info? 82).map (fun i => (i.zero, i.size)) = some (some (.agg (Array.replicate 1024 (.int .u8 0))), 1024) := by kernel_rfl
def z1024 : List UInt8 := List.replicate 1024 0
theorem z1024_len : z1024.length = 1024 := List.length_replicate
theorem zero1024 (w : World) : (zeroValue 82).run Tryz.prog w = .ok (.agg (u8s z1024).toArray) w := by
  rw [(zero_of_info (P := Tryz.prog) Tryz.infoA4k).1 w, z1024, u8s, List.map_replicate]; rfl
theorem size1024 (l : List UInt8) (h : l.length = 1024) : (Tryz.prog.info? 82).map (·.size) = some (u8s l).length := by
  rw [u8s_len, h]; exact Tryz.sizeA4k

theorem mulB (hM : MulC) (a : Nat) (b : UInt8) (w : World) (ha : a < 256) : Calls Tryz.prog 83 #[.int .u8 (a : Int), .int .u8 (b.toNat : Int)] w fun e w' => e = .returned (.int .u8 ((gm (UInt8.ofNat a) b).toNat : Int)) ∧ w' = w :=
  (hM a b.toNat w ha b.toNat_lt).mono fun e w' h => ⟨by rw [h.1, gm_toNat, Box.ofNat_toNat a ha], h.2⟩

set_option maxHeartbeats 4000000 in
set_option maxRecDepth 100000 in
theorem products_any (hM : MulC) (w : World) (F : List UInt8) (hF : F.length = 4) :
    Calls Tryz.prog 49 #[.agg (u8s F).toArray] w fun e w' => e = .returned (.agg (u8s (prodT F)).toArray) ∧ Below w.heap.size w w' := by
  have HM := Lib.hid hM
  have HL := Lib.hid hF
  have hB0 := Blk.new w 89 (u8s F)
  have hb0 := below_alloc w (.cells (u8s F).toArray 89)
  have hs0 : (w.alloc (.cells (u8s F).toArray 89)).heap.size = w.heap.size + 1 := World.size_alloc _ _
  obtain ⟨w1, hw1⟩ : ∃ w1, w.alloc (.cells (u8s F).toArray 89) = w1 := ⟨_, rfl⟩
  rw [hw1] at hB0 hb0 hs0
  have hR1 := Blk.new w1 82 (u8s z1024)
  have hb1 := hb0.alloc (by omega) (.cells (u8s z1024).toArray 82)
  have hB1 := hB0.alloc (.cells (u8s z1024).toArray 82)
  have hs1 : (w1.alloc (.cells (u8s z1024).toArray 82)).heap.size = w1.heap.size + 1 := World.size_alloc _ _
  obtain ⟨w2, hw2⟩ : ∃ w2, w1.alloc (.cells (u8s z1024).toArray 82) = w2 := ⟨_, rfl⟩
  rw [hw2] at hB1 hb1 hs1 hR1
  have hT2 := Blk.new w2 82 (u8s z1024)
  have hb2 := hb1.alloc (by omega) (.cells (u8s z1024).toArray 82)
  have hB2 := hB1.alloc (.cells (u8s z1024).toArray 82)
  have hR2 := hR1.alloc (.cells (u8s z1024).toArray 82)
  obtain ⟨w3, hw3⟩ : ∃ w3, w2.alloc (.cells (u8s z1024).toArray 82) = w3 := ⟨_, rfl⟩
  rw [hw3] at hB2 hb2 hT2 hR2
  have hld := run_loadVar_row (P := Tryz.prog) w3 w.heap.size 89 89 (u8s F).toArray (0, 0) _ hB2 Tryz.undA4 rfl (by simpa [u8s_len, hF] using Tryz.sizeA4)
  have HT2 := Lib.hid hT2
  have HR2 := Lib.hid hR2
  have Hb2 := Lib.hid hb2
  have HS : Hid (w.heap.size ≤ w1.heap.size ∧ w1.heap.size < w2.heap.size) := Lib.hid (by omega)
  have HW1 := Lib.hid hw1
  have HW2 := Lib.hid hw2
  have HW3 := Lib.hid hw3
  clear hF hB0 hb0 hs0 hR1 hb1 hB1 hs1 hT2 hb2 hB2 hR2 hw1 hw2 hw3 hM
  go_enter Tryz.func49, Tryz.ntmps49
  go_wp2_with (first | (refine wpList_box_arr rfl 89 (.tmp 0) (u8s F).toArray rfl rfl ?_; rw [HW1.out]) | (refine wpList_alloc_arr rfl 82 (u8s z1024).toArray rfl zero1024 ?_; first | rw [HW2.out] | rw [HW3.out]) | refine wpList_load_arr_w 89 (.tmp 1) rfl rfl (u8s F).toArray hld (by kernel_rfl) ?_)
  generalize w2.heap.size = gT at *
  generalize w1.heap.size = gR at *
  clear hld HW1 HW2 HW3
  go_loopw [8] (fun i w' => ∃ j : Nat, j ≤ 4 ∧ i = .int .i64 (j : Int) ∧ Blk w' gT 82 (u8s (prog z1024 (prodT F) (j * 256))) ∧ Blk w' gR 82 (u8s z1024) ∧ Below w.heap.size w w') (fun i _ => 4 - (intOf i).toNat)
  case atStart => exact ⟨0, by omega, rfl, by rw [Nat.zero_mul, prog_0]; exact HT2.out, HR2.out, Hb2.out⟩
  case round =>
    obtain ⟨i, hi, rfl, hT, hR, hb⟩ := hrel
    clear HT2 HR2 Hb2
    have HT := Lib.hid hT
    have HR := Lib.hid hR
    have Hb := Lib.hid hb
    clear hT hR hb
    by_cases hlt : i < 4
    · have hgF := four_get F HL.out i hlt
      have hix := run_index_u8 (P := Tryz.prog) (w := wr) Tryz.undA4 Tryz.und5 Tryz.size5 F i hlt (at_ F i) hgF
      clear hgF
      go_wp2_with (refine wpList_index_u8 89 (.tmp 7) (.tmp 8) rfl rfl rfl hix (by kernel_rfl) ?_)
      clear hix
      have hf8 := (at_ F i).toNat_lt
      obtain ⟨f, hfe⟩ : ∃ f, at_ F i = f := ⟨_, rfl⟩
      rw [hfe] at hf8 ⊢
      have HFE := Lib.hid hfe
      clear hfe
      go_loopw [12] (fun q w' => ∃ a : Nat, a ≤ 256 ∧ q = .int .i64 (a : Int) ∧ Blk w' gT 82 (u8s (prog z1024 (prodT F) (i * 256 + a))) ∧ Blk w' gR 82 (u8s z1024) ∧ Below w.heap.size w w') (fun q _ => 256 - (intOf q).toNat)
      case atStart => exact ⟨0, by omega, rfl, HT.out, HR.out, Hb.out⟩
      case round =>
        obtain ⟨a, ha, rfl, hT, hR, hb⟩ := hrel
        clear HT HR Hb
        have hPL : (prodT F).length = z1024.length := by rw [prodT_len, z1024_len]
        by_cases hal : a < 256
        · have hg := prodT_get F i a hlt hal
          rw [HFE.out, show 256 * i + a = i * 256 + a from by omega] at hg
          obtain ⟨v0, hc0⟩ : ∃ v0, wr.cell? ⟨gT, i * 256 + a, none⟩ = some v0 := ⟨_, blk_byte hT (i := i * 256 + a) (c := at_ z1024 (i * 256 + a)) (by rw [prog_get _ _ _ hPL (by rw [z1024_len]; omega), at_get (by rw [z1024_len]; omega)])⟩
          have hf := hT.frozen (i * 256 + a)
          have hS := hT.set_ (i * 256 + a) (.int .u8 ((gm (UInt8.ofNat a) f).toNat : Int))
          rw [u8s_set, prog_set _ _ _ _ hPL hg] at hS
          have HTn := Lib.hid hS
          have HRn := Lib.hid (hR.far (p := ⟨gT, i * 256 + a, none⟩) (by have := HS.out; show gR ≠ gT; omega) (.int .u8 ((gm (UInt8.ofNat a) f).toNat : Int)))
          have Hbn := Lib.hid (hb.setCell (p := ⟨gT, i * 256 + a, none⟩) (by have := HS.out; show w.heap.size ≤ gT; omega) (.int .u8 ((gm (UInt8.ofNat a) f).toNat : Int)))
          clear hS hT hR hb hg hPL
          go_wp2_with fail
          refine wp_region_G grows (by kernel_rfl) ?_
          refine segG (by kernel_rfl) (fun _ _ _ _ _ h => h) [0, 1, 2, 3, 4, 6] [_, _, _, _, _, _] 3 rfl rfl (by kernel_rfl) ?_
          repeat (go_big_quiet_step (fail))
          refine wpQuiet_nil ?_
          refine oneG 5 2 rfl (by kernel_rfl) rfl ?_
          go_wp2_with fail
          refine (mulB HM.out a f _ hal).mono ?_
          rintro e w' ⟨rfl, rfl⟩
          have hp8 := (gm (UInt8.ofNat a) f).toNat_lt
          generalize (gm (UInt8.ofNat a) f).toNat = pn at *
          go_wp2
          refine ⟨grows.refl _, ?_⟩
          refine segG (by kernel_rfl) (fun _ _ _ _ _ h => h) [7] [_] 1 rfl rfl (by kernel_rfl) ?_
          repeat (go_big_quiet_step (fail))
          refine wpQuiet_nil ?_
          refine lateG 8 0 rfl (by kernel_rfl) (by kernel_rfl) rfl ?_
          go_wp2
          refine ⟨trivial, ?_⟩
          refine wpAnyG_done (by kernel_rfl) ?_
          go_wp2
          exact ⟨⟨a + 1, by omega, by go_num, HTn.out, HRn.out, ⟨Hbn.out.os, Hbn.out.tape, Hbn.out.output, Hbn.out.size, Hbn.out.block⟩⟩, by simp [intOf]; omega⟩
        · have HTn : Hid (Blk wr gT 82 (u8s (prog z1024 (prodT F) ((i + 1) * 256)))) := Lib.hid (by rw [show (i + 1) * 256 = i * 256 + a from by omega]; exact hT)
          have HRn := Lib.hid hR
          have Hbn := Lib.hid hb
          clear hT hR hb hPL
          go_wp2
          exact ⟨⟨i + 1, by omega, by go_num, HTn.out, HRn.out, Hbn.out⟩, by simp [intOf]; omega⟩
    · have hE : prog z1024 (prodT F) (i * 256) = prodT F := prog_end _ _ _ (by rw [z1024_len]; omega) (by rw [prodT_len]; omega)
      rw [hE] at HT
      have hld := run_loadVar_row (P := Tryz.prog) wr gT 82 82 (u8s (prodT F)).toArray (0, 0) _ HT.out Tryz.undA4k rfl (by simpa using size1024 _ (prodT_len F))
      have HS2 := Lib.hid (size1024 _ (prodT_len F))
      have HZ2 : Hid ((u8s z1024).length = (u8s (prodT F)).length) := Lib.hid (by rw [u8s_len, u8s_len, prodT_len, z1024_len])
      have HO2 := Lib.hid (u8s_one (prodT F))
      have hl2 := run_loadVar_row (P := Tryz.prog) (wr.setRow gR (u8s (prodT F)).toArray) gR 82 82 (u8s (prodT F)).toArray (0, 0) _ (HR.out.row _) Tryz.undA4k rfl (by simpa using size1024 _ (prodT_len F))
      have Hbn := Lib.hid (below_setRow Hb.out (by have := HS.out; omega : w.heap.size ≤ gR) (u8s (prodT F)).toArray)
      clear hE
      go_wp2_with (first | refine wpList_load_arr_w 82 (.tmp 3) rfl rfl (u8s (prodT F)).toArray hld (by kernel_rfl) ?_ | refine wpList_store_arr rfl 82 (.tmp 2) (.tmp 25) gR _ _ rfl rfl rfl rfl HR.out HS2.out HZ2.out HO2.out ?_)
      simp only [Act.put, List.setIfInBounds_toArray, List.set]
      refine bodyPost_ret (v := .agg (u8s (prodT F)).toArray) ?_ rfl ⟨rfl, Hbn.out⟩
      generalize (u8s (prodT F)).toArray = X at hl2 ⊢
      simp [results, Tryz.results49, asAddr, hl2]
end Go.Proofs.YtdipflchmooakaaGreatDoor
namespace Go.Proofs.YtdipflchmooakaaGreatDoor
open Go.RowKit Go.Gar Go.Gar.Aes

theorem Tryz.infoA4 : (Tryz.prog.info? 89).map (fun i => (i.zero, i.size)) = some (some (.agg (Array.replicate 4 (.int .u8 0))), 4) := by kernel_rfl
def z4 : List Value := List.replicate 4 (.int .u8 0)
theorem zero4 (w : World) : (zeroValue 89).run Tryz.prog w = .ok (.agg z4.toArray) w := by
  rw [(zero_of_info (P := Tryz.prog) Tryz.infoA4).1 w]; rfl
theorem sizeA4 (l : List UInt8) (h : l.length = 4) : (Tryz.prog.info? 89).map (·.size) = some (u8s l).length := by
  rw [u8s_len, h]; exact Tryz.sizeA4
theorem power_at (hM : MulC) (k : Nat) (m : Int) (hm : m = (k : Int)) (hk : k < 1000) (w : World) : Calls Tryz.prog 98 #[.int .i64 m] w fun e w' => e = .returned (.int .u8 ((xp k).toNat : Int)) ∧ w' = w := by
  subst hm
  exact power_any hM k hk w
/-- The argument and the result in memory. -/
structure Two4 (w0 w : World) (l : List UInt8) : Prop where
  x : Blk w w0.heap.size 89 (u8s l)
  r : Blk w (w0.heap.size + 1) 89 z4
  b : Below w0.heap.size w0 w
theorem Two4.start (w : World) (l : List UInt8) : Two4 w ((w.alloc (.cells (u8s l).toArray 89)).alloc (.cells z4.toArray 89)) l where
  x := (Blk.new w _ _).alloc _
  r := by
    have := Blk.new (w.alloc (.cells (u8s l).toArray 89)) 89 z4
    rwa [World.size_alloc] at this
  b := (below_alloc w _).alloc (by rw [World.size_alloc]; omega) _
theorem Two4.row {w0 w : World} {l : List UInt8} (h : Two4 w0 w l) (k : List UInt8) : Two4 w0 (w.setRow w0.heap.size (u8s k).toArray) k :=
  ⟨h.x.row _, h.r.rowFar (by omega) _, below_setRow h.b (Nat.le_refl _) _⟩
theorem Two4.turn {w0 w w' : World} {l k : List UInt8} (h : Two4 w0 w l) (hB : Blk w' w0.heap.size 89 (u8s k)) (hg : w.grownBy w' (some w0.heap.size)) : Two4 w0 w' k :=
  ⟨hB, h.r.grown hg (by simp), ⟨hg.os.trans h.b.os, hg.tape.trans h.b.tape, hg.output.trans h.b.output, Nat.le_trans h.b.size hg.size, fun k hk => (hg.block k (Nat.lt_of_lt_of_le hk h.b.size) (by simp; omega)).trans (h.b.block k hk)⟩⟩

/-- The end: what the variable holds is returned. -/
theorem Two4.load {w0 w : World} {l : List UInt8} (h : Two4 w0 w l) (hl : l.length = 4) : (loadVar 89 ⟨w0.heap.size, 0, none⟩).run Tryz.prog w = .ok (.agg (u8s l).toArray) w :=
  run_loadVar_row (P := Tryz.prog) w w0.heap.size 89 89 (u8s l).toArray (0, 0) _ h.x Tryz.undA4 rfl (by simpa using sizeA4 l hl)
theorem Two4.back {w0 w : World} {l : List UInt8} (h : Two4 w0 w l) (hl : l.length = 4) : (loadVar 89 ⟨w0.heap.size + 1, 0, none⟩).run Tryz.prog (w.setRow (w0.heap.size + 1) (u8s l).toArray) = .ok (.agg (u8s l).toArray) (w.setRow (w0.heap.size + 1) (u8s l).toArray) :=
  run_loadVar_row (P := Tryz.prog) _ (w0.heap.size + 1) 89 89 (u8s l).toArray (0, 0) _ (h.r.row _) Tryz.undA4 rfl (by simpa using sizeA4 l hl)

theorem turnW_len (n i : Nat) (l : List UInt8) : (turnW n i l).length = 4 := by
  unfold turnW; split
  · rfl
  · split <;> rfl
theorem list4' (l : List UInt8) (h : l.length = 4) : l = [at_ l 0, at_ l 1, at_ l 2, at_ l 3] := by
  match l, h with
  | [a, b, c, d], _ => rfl
set_option maxHeartbeats 4000000 in
set_option maxRecDepth 100000 in
theorem temporary_4 (hM : MulC) (w : World) (gt o i : Nat) (l : List UInt8) (hl : l.length = 4) (hi : 4 ≤ i) (hi2 : i < 1000) (hT : Tbl w gt o sb) (hlt : gt < w.heap.size) :
    Calls Tryz.prog 84 #[.agg (u8s l).toArray, .int .i64 (i : Int), .int .i64 4, .pointer (some ⟨gt, o, none⟩)] w fun e w' => e = .returned (.agg (u8s (turnW 4 i l)).toArray) ∧ Below w.heap.size w w' := by
  have HM := Lib.hid hM
  have HL := Lib.hid hl
  have H2 := Two4.start w l
  have hs1 : (w.alloc (.cells (u8s l).toArray 89)).heap.size = w.heap.size + 1 := World.size_alloc _ _
  obtain ⟨w1, hw1⟩ : ∃ w1, w.alloc (.cells (u8s l).toArray 89) = w1 := ⟨_, rfl⟩
  rw [hw1] at H2 hs1
  obtain ⟨w2, hw2⟩ : ∃ w2, w1.alloc (.cells z4.toArray 89) = w2 := ⟨_, rfl⟩
  rw [hw2] at H2
  have hT2 := hT.below H2.b hlt
  have HW1 := Lib.hid hw1
  have HW2 := Lib.hid hw2
  have HS1 := Lib.hid hs1
  have HT2 := Lib.hid hT2
  have HNe : Hid (gt ≠ w.heap.size) := Lib.hid (by omega)
  have HH := Lib.hid H2
  clear hl hT hw1 hw2 hs1 hT2 hM hlt
  go_enter Tryz.func84, Tryz.ntmps84
  by_cases hz : i % 4 = 0
  · have d1 : ((i : Int) % 4 == 0) = true := by rw [show (i : Int) % 4 = 0 from by omega]; rfl
    have HK : Hid (turnW 4 i l = ([at_ l 1, at_ l 2, at_ l 3, at_ l 0].map sb).set 0 (sb (at_ l 1) ^^^ xp (i / 4 - 1))) := Lib.hid (by unfold turnW; rw [if_pos hz]; rfl)
    have hc0 := blk_byte H2.x (four_get l HL.out 0 (by omega))
    have hc1 := blk_byte H2.x (four_get l HL.out 1 (by omega))
    have hc2 := blk_byte H2.x (four_get l HL.out 2 (by omega))
    have hc3 := blk_byte H2.x (four_get l HL.out 3 (by omega))
    have HR := Lib.hid (H2.row [at_ l 1, at_ l 2, at_ l 3, at_ l 0])
    have HZL : Hid ((u8s l).length = (u8s [at_ l 1, at_ l 2, at_ l 3, at_ l 0]).length) := Lib.hid (by rw [u8s_len, HL.out]; rfl)
    have HSz := Lib.hid (sizeA4 [at_ l 1, at_ l 2, at_ l 3, at_ l 0] rfl)
    have HO := Lib.hid (u8s_one [at_ l 1, at_ l 2, at_ l 3, at_ l 0])
    have HTr : Hid (Tbl (w2.setRow w.heap.size (u8s [at_ l 1, at_ l 2, at_ l 3, at_ l 0]).toArray) gt o sb) := Lib.hid (HT2.out.grown (row := some w.heap.size) ⟨rfl, rfl, rfl, by simp [World.setRow], fun k hk hne => setRow_other w2 w.heap.size k _ (by simpa using hne)⟩ (by have := HNe.out; simp; exact this))
    clear hz H2
    go_wp2_with (first | (refine wpList_box_arr rfl 89 (.tmp 0) (u8s l).toArray rfl rfl ?_; rw [HW1.out]) | (refine wpList_alloc_arr rfl 89 z4.toArray rfl zero4 ?_; rw [HW2.out, HS1.out]) | refine wpList_store_arr rfl 89 (.tmp 4) (.tmp 22) w.heap.size (u8s l) (u8s [at_ l 1, at_ l 2, at_ l 3, at_ l 0]) rfl rfl rfl rfl HH.out.x HSz.out HZL.out HO.out ?_)
    refine (replaceWord_any _ w.heap.size gt o [at_ l 1, at_ l 2, at_ l 3, at_ l 0] sb rfl HR.out.x HTr.out HNe.out).mono ?_
    rintro e w4 ⟨⟨rv, rfl⟩, hB4, hg4⟩
    have H4 := HR.out.turn hB4 hg4
    have HH4 := Lib.hid H4
    have hx0 : w4.drew.cell? ⟨w.heap.size, 0, none⟩ = some (.int .u8 ((sb (at_ l 1)).toNat : Int)) := blk_byte H4.x.drew rfl
    have hL0 : ∀ x : Later grows w4.drew, x.to.cell? ⟨w.heap.size, 0, none⟩ = some (.int .u8 ((sb (at_ l 1)).toNat : Int)) := cell_later H4.x.drew rfl
    have hf0 := H4.x.drew.frozen 0
    have hS := H4.x.set_ 0 (.int .u8 ((sb (at_ l 1) ^^^ xp (i / 4 - 1)).toNat : Int))
    have HS5 : Hid (Blk (w4.setCell ⟨w.heap.size, 0, none⟩ (.int .u8 ((sb (at_ l 1) ^^^ xp (i / 4 - 1)).toNat : Int))) w.heap.size 89 (u8s (turnW 4 i l))) := Lib.hid (by rw [HK.out, ← u8s_set]; exact hS)
    have HE : Hid (Two4 w (w4.setCell ⟨w.heap.size, 0, none⟩ (.int .u8 ((sb (at_ l 1) ^^^ xp (i / 4 - 1)).toNat : Int))).drew (turnW 4 i l)) := Lib.hid ⟨HS5.out.drew, (H4.r.far (by simp) _).drew, (H4.b.setCell (Nat.le_refl _) _).drew⟩
    rw [← xor_byte] at HE
    clear hB4 hg4 H4 hS HS5 hc0 hc1 hc2 hc3 HR HZL HSz HO HTr HH
    have hx8 := (sb (at_ l 1)).toNat_lt
    go_wp2_with fail
    refine wp_region_G grows (by kernel_rfl) ?_
    refine segG (by kernel_rfl) (fun _ _ _ _ _ h => h) [0, 1, 2, 3, 4, 5] [_, _, _, _, _, _] 4 rfl rfl (by kernel_rfl) ?_
    repeat (go_big_quiet_step (fail))
    refine wpQuiet_nil ?_
    refine oneG 6 3 rfl (by kernel_rfl) rfl ?_
    go_wp2_with fail
    refine (power_at HM.out (i / 4 - 1) _ (by omega) (by omega) _).mono ?_
    rintro e w' ⟨rfl, rfl⟩
    have hp8 := (xp (i / 4 - 1)).toNat_lt
    go_wp2
    refine ⟨grows.refl _, ?_⟩
    refine segG (by kernel_rfl) (fun _ _ _ _ _ h => h) [7, 8] [_, _] 1 rfl rfl (by kernel_rfl) ?_
    repeat (go_big_quiet_step (fail))
    refine wpQuiet_nil ?_
    refine lateG 9 0 rfl (by kernel_rfl) (by kernel_rfl) rfl ?_
    go_wp2
    refine ⟨trivial, ?_⟩
    refine wpAnyG_done (by kernel_rfl) ?_
    generalize (w4.setCell ⟨w.heap.size, 0, none⟩ (.int .u8 (bits .xor .u8 ((sb (at_ l 1)).toNat : Int) ((xp (i / 4 - 1)).toNat : Int)))).drew = w5 at HE ⊢
    clear hx0 hL0 hf0 hx8 hp8
    have hld := HE.out.load (turnW_len 4 i l)
    have hbk := HE.out.back (turnW_len 4 i l)
    have HSe := Lib.hid (sizeA4 (turnW 4 i l) (turnW_len 4 i l))
    have HZe : Hid (z4.length = (u8s (turnW 4 i l)).length) := Lib.hid (by rw [u8s_len, turnW_len]; rfl)
    have HOe := Lib.hid (u8s_one (turnW 4 i l))
    have HbE := Lib.hid (below_setRow HE.out.b (by omega : w.heap.size ≤ w.heap.size + 1) (u8s (turnW 4 i l)).toArray)
    go_wp2_with (first | refine wpList_load_arr_w 89 (.tmp 4) rfl rfl (u8s (turnW 4 i l)).toArray hld (by kernel_rfl) ?_ | refine wpList_store_arr rfl 89 (.tmp 8) (.tmp 44) (w.heap.size + 1) _ _ rfl rfl rfl rfl HE.out.r HSe.out HZe.out HOe.out ?_)
    try simp only [Act.put, List.setIfInBounds_toArray, List.set]
    refine bodyPost_ret (v := .agg (u8s (turnW 4 i l)).toArray) ?_ rfl ⟨rfl, HbE.out⟩
    generalize (u8s (turnW 4 i l)).toArray = X at hbk ⊢
    simp [results, Tryz.results84, asAddr, hbk]
  · have d1 : ((i : Int) % 4 == 0) = false := by rw [beq_eq_false_iff_ne]; omega
    have HK : Hid (turnW 4 i l = l) := Lib.hid (by unfold turnW; rw [if_neg hz, if_neg (by omega)]; exact (list4' l HL.out).symm)
    have HE : Hid (Two4 w w2 (turnW 4 i l)) := Lib.hid (by rw [HK.out]; exact H2)
    clear H2 HH hz
    have hld := HE.out.load (turnW_len 4 i l)
    have hbk := HE.out.back (turnW_len 4 i l)
    have HSe := Lib.hid (sizeA4 (turnW 4 i l) (turnW_len 4 i l))
    have HZe : Hid (z4.length = (u8s (turnW 4 i l)).length) := Lib.hid (by rw [u8s_len, turnW_len]; rfl)
    have HOe := Lib.hid (u8s_one (turnW 4 i l))
    have HbE := Lib.hid (below_setRow HE.out.b (by omega : w.heap.size ≤ w.heap.size + 1) (u8s (turnW 4 i l)).toArray)
    go_wp2_with (first | (refine wpList_box_arr rfl 89 (.tmp 0) (u8s l).toArray rfl rfl ?_; rw [HW1.out]) | (refine wpList_alloc_arr rfl 89 z4.toArray rfl zero4 ?_; rw [HW2.out, HS1.out]) | refine wpList_load_arr_w 89 (.tmp 4) rfl rfl (u8s (turnW 4 i l)).toArray hld (by kernel_rfl) ?_ | refine wpList_store_arr rfl 89 (.tmp 8) (.tmp 44) (w.heap.size + 1) _ _ rfl rfl rfl rfl HE.out.r HSe.out HZe.out HOe.out ?_)
    try simp only [Act.put, List.setIfInBounds_toArray, List.set]
    refine bodyPost_ret (v := .agg (u8s (turnW 4 i l)).toArray) ?_ rfl ⟨rfl, HbE.out⟩
    generalize (u8s (turnW 4 i l)).toArray = X at hbk ⊢
    simp [results, Tryz.results84, asAddr, hbk]

set_option maxHeartbeats 4000000 in
set_option maxRecDepth 100000 in
theorem temporary_6 (hM : MulC) (w : World) (gt o i : Nat) (l : List UInt8) (hl : l.length = 4) (hi : 6 ≤ i) (hi2 : i < 1000) (hT : Tbl w gt o sb) (hlt : gt < w.heap.size) :
    Calls Tryz.prog 84 #[.agg (u8s l).toArray, .int .i64 (i : Int), .int .i64 6, .pointer (some ⟨gt, o, none⟩)] w fun e w' => e = .returned (.agg (u8s (turnW 6 i l)).toArray) ∧ Below w.heap.size w w' := by
  have HM := Lib.hid hM
  have HL := Lib.hid hl
  have H2 := Two4.start w l
  have hs1 : (w.alloc (.cells (u8s l).toArray 89)).heap.size = w.heap.size + 1 := World.size_alloc _ _
  obtain ⟨w1, hw1⟩ : ∃ w1, w.alloc (.cells (u8s l).toArray 89) = w1 := ⟨_, rfl⟩
  rw [hw1] at H2 hs1
  obtain ⟨w2, hw2⟩ : ∃ w2, w1.alloc (.cells z4.toArray 89) = w2 := ⟨_, rfl⟩
  rw [hw2] at H2
  have hT2 := hT.below H2.b hlt
  have HW1 := Lib.hid hw1
  have HW2 := Lib.hid hw2
  have HS1 := Lib.hid hs1
  have HT2 := Lib.hid hT2
  have HNe : Hid (gt ≠ w.heap.size) := Lib.hid (by omega)
  have HH := Lib.hid H2
  clear hl hT hw1 hw2 hs1 hT2 hM hlt
  go_enter Tryz.func84, Tryz.ntmps84
  by_cases hz : i % 6 = 0
  · have d1 : ((i : Int) % 6 == 0) = true := by rw [show (i : Int) % 6 = 0 from by omega]; rfl
    have HK : Hid (turnW 6 i l = ([at_ l 1, at_ l 2, at_ l 3, at_ l 0].map sb).set 0 (sb (at_ l 1) ^^^ xp (i / 6 - 1))) := Lib.hid (by unfold turnW; rw [if_pos hz]; rfl)
    have hc0 := blk_byte H2.x (four_get l HL.out 0 (by omega))
    have hc1 := blk_byte H2.x (four_get l HL.out 1 (by omega))
    have hc2 := blk_byte H2.x (four_get l HL.out 2 (by omega))
    have hc3 := blk_byte H2.x (four_get l HL.out 3 (by omega))
    have HR := Lib.hid (H2.row [at_ l 1, at_ l 2, at_ l 3, at_ l 0])
    have HZL : Hid ((u8s l).length = (u8s [at_ l 1, at_ l 2, at_ l 3, at_ l 0]).length) := Lib.hid (by rw [u8s_len, HL.out]; rfl)
    have HSz := Lib.hid (sizeA4 [at_ l 1, at_ l 2, at_ l 3, at_ l 0] rfl)
    have HO := Lib.hid (u8s_one [at_ l 1, at_ l 2, at_ l 3, at_ l 0])
    have HTr : Hid (Tbl (w2.setRow w.heap.size (u8s [at_ l 1, at_ l 2, at_ l 3, at_ l 0]).toArray) gt o sb) := Lib.hid (HT2.out.grown (row := some w.heap.size) ⟨rfl, rfl, rfl, by simp [World.setRow], fun k hk hne => setRow_other w2 w.heap.size k _ (by simpa using hne)⟩ (by have := HNe.out; simp; exact this))
    clear hz H2
    go_wp2_with (first | (refine wpList_box_arr rfl 89 (.tmp 0) (u8s l).toArray rfl rfl ?_; rw [HW1.out]) | (refine wpList_alloc_arr rfl 89 z4.toArray rfl zero4 ?_; rw [HW2.out, HS1.out]) | refine wpList_store_arr rfl 89 (.tmp 4) (.tmp 22) w.heap.size (u8s l) (u8s [at_ l 1, at_ l 2, at_ l 3, at_ l 0]) rfl rfl rfl rfl HH.out.x HSz.out HZL.out HO.out ?_)
    refine (replaceWord_any _ w.heap.size gt o [at_ l 1, at_ l 2, at_ l 3, at_ l 0] sb rfl HR.out.x HTr.out HNe.out).mono ?_
    rintro e w4 ⟨⟨rv, rfl⟩, hB4, hg4⟩
    have H4 := HR.out.turn hB4 hg4
    have HH4 := Lib.hid H4
    have hx0 : w4.drew.cell? ⟨w.heap.size, 0, none⟩ = some (.int .u8 ((sb (at_ l 1)).toNat : Int)) := blk_byte H4.x.drew rfl
    have hL0 : ∀ x : Later grows w4.drew, x.to.cell? ⟨w.heap.size, 0, none⟩ = some (.int .u8 ((sb (at_ l 1)).toNat : Int)) := cell_later H4.x.drew rfl
    have hf0 := H4.x.drew.frozen 0
    have hS := H4.x.set_ 0 (.int .u8 ((sb (at_ l 1) ^^^ xp (i / 6 - 1)).toNat : Int))
    have HS5 : Hid (Blk (w4.setCell ⟨w.heap.size, 0, none⟩ (.int .u8 ((sb (at_ l 1) ^^^ xp (i / 6 - 1)).toNat : Int))) w.heap.size 89 (u8s (turnW 6 i l))) := Lib.hid (by rw [HK.out, ← u8s_set]; exact hS)
    have HE : Hid (Two4 w (w4.setCell ⟨w.heap.size, 0, none⟩ (.int .u8 ((sb (at_ l 1) ^^^ xp (i / 6 - 1)).toNat : Int))).drew (turnW 6 i l)) := Lib.hid ⟨HS5.out.drew, (H4.r.far (by simp) _).drew, (H4.b.setCell (Nat.le_refl _) _).drew⟩
    rw [← xor_byte] at HE
    clear hB4 hg4 H4 hS HS5 hc0 hc1 hc2 hc3 HR HZL HSz HO HTr HH
    have hx8 := (sb (at_ l 1)).toNat_lt
    go_wp2_with fail
    refine wp_region_G grows (by kernel_rfl) ?_
    refine segG (by kernel_rfl) (fun _ _ _ _ _ h => h) [0, 1, 2, 3, 4, 5] [_, _, _, _, _, _] 4 rfl rfl (by kernel_rfl) ?_
    repeat (go_big_quiet_step (fail))
    refine wpQuiet_nil ?_
    refine oneG 6 3 rfl (by kernel_rfl) rfl ?_
    go_wp2_with fail
    refine (power_at HM.out (i / 6 - 1) _ (by omega) (by omega) _).mono ?_
    rintro e w' ⟨rfl, rfl⟩
    have hp8 := (xp (i / 6 - 1)).toNat_lt
    go_wp2
    refine ⟨grows.refl _, ?_⟩
    refine segG (by kernel_rfl) (fun _ _ _ _ _ h => h) [7, 8] [_, _] 1 rfl rfl (by kernel_rfl) ?_
    repeat (go_big_quiet_step (fail))
    refine wpQuiet_nil ?_
    refine lateG 9 0 rfl (by kernel_rfl) (by kernel_rfl) rfl ?_
    go_wp2
    refine ⟨trivial, ?_⟩
    refine wpAnyG_done (by kernel_rfl) ?_
    generalize (w4.setCell ⟨w.heap.size, 0, none⟩ (.int .u8 (bits .xor .u8 ((sb (at_ l 1)).toNat : Int) ((xp (i / 6 - 1)).toNat : Int)))).drew = w5 at HE ⊢
    clear hx0 hL0 hf0 hx8 hp8
    have hld := HE.out.load (turnW_len 6 i l)
    have hbk := HE.out.back (turnW_len 6 i l)
    have HSe := Lib.hid (sizeA4 (turnW 6 i l) (turnW_len 6 i l))
    have HZe : Hid (z4.length = (u8s (turnW 6 i l)).length) := Lib.hid (by rw [u8s_len, turnW_len]; rfl)
    have HOe := Lib.hid (u8s_one (turnW 6 i l))
    have HbE := Lib.hid (below_setRow HE.out.b (by omega : w.heap.size ≤ w.heap.size + 1) (u8s (turnW 6 i l)).toArray)
    go_wp2_with (first | refine wpList_load_arr_w 89 (.tmp 4) rfl rfl (u8s (turnW 6 i l)).toArray hld (by kernel_rfl) ?_ | refine wpList_store_arr rfl 89 (.tmp 8) (.tmp 44) (w.heap.size + 1) _ _ rfl rfl rfl rfl HE.out.r HSe.out HZe.out HOe.out ?_)
    try simp only [Act.put, List.setIfInBounds_toArray, List.set]
    refine bodyPost_ret (v := .agg (u8s (turnW 6 i l)).toArray) ?_ rfl ⟨rfl, HbE.out⟩
    generalize (u8s (turnW 6 i l)).toArray = X at hbk ⊢
    simp [results, Tryz.results84, asAddr, hbk]
  · have d1 : ((i : Int) % 6 == 0) = false := by rw [beq_eq_false_iff_ne]; omega
    have HK : Hid (turnW 6 i l = l) := Lib.hid (by unfold turnW; rw [if_neg hz, if_neg (by omega)]; exact (list4' l HL.out).symm)
    have HE : Hid (Two4 w w2 (turnW 6 i l)) := Lib.hid (by rw [HK.out]; exact H2)
    clear H2 HH hz
    have hld := HE.out.load (turnW_len 6 i l)
    have hbk := HE.out.back (turnW_len 6 i l)
    have HSe := Lib.hid (sizeA4 (turnW 6 i l) (turnW_len 6 i l))
    have HZe : Hid (z4.length = (u8s (turnW 6 i l)).length) := Lib.hid (by rw [u8s_len, turnW_len]; rfl)
    have HOe := Lib.hid (u8s_one (turnW 6 i l))
    have HbE := Lib.hid (below_setRow HE.out.b (by omega : w.heap.size ≤ w.heap.size + 1) (u8s (turnW 6 i l)).toArray)
    go_wp2_with (first | (refine wpList_box_arr rfl 89 (.tmp 0) (u8s l).toArray rfl rfl ?_; rw [HW1.out]) | (refine wpList_alloc_arr rfl 89 z4.toArray rfl zero4 ?_; rw [HW2.out, HS1.out]) | refine wpList_load_arr_w 89 (.tmp 4) rfl rfl (u8s (turnW 6 i l)).toArray hld (by kernel_rfl) ?_ | refine wpList_store_arr rfl 89 (.tmp 8) (.tmp 44) (w.heap.size + 1) _ _ rfl rfl rfl rfl HE.out.r HSe.out HZe.out HOe.out ?_)
    try simp only [Act.put, List.setIfInBounds_toArray, List.set]
    refine bodyPost_ret (v := .agg (u8s (turnW 6 i l)).toArray) ?_ rfl ⟨rfl, HbE.out⟩
    generalize (u8s (turnW 6 i l)).toArray = X at hbk ⊢
    simp [results, Tryz.results84, asAddr, hbk]

set_option maxHeartbeats 4000000 in
set_option maxRecDepth 100000 in
theorem temporary_8 (hM : MulC) (w : World) (gt o i : Nat) (l : List UInt8) (hl : l.length = 4) (hi : 8 ≤ i) (hi2 : i < 1000) (hT : Tbl w gt o sb) (hlt : gt < w.heap.size) :
    Calls Tryz.prog 84 #[.agg (u8s l).toArray, .int .i64 (i : Int), .int .i64 8, .pointer (some ⟨gt, o, none⟩)] w fun e w' => e = .returned (.agg (u8s (turnW 8 i l)).toArray) ∧ Below w.heap.size w w' := by
  have HM := Lib.hid hM
  have HL := Lib.hid hl
  have H2 := Two4.start w l
  have hs1 : (w.alloc (.cells (u8s l).toArray 89)).heap.size = w.heap.size + 1 := World.size_alloc _ _
  obtain ⟨w1, hw1⟩ : ∃ w1, w.alloc (.cells (u8s l).toArray 89) = w1 := ⟨_, rfl⟩
  rw [hw1] at H2 hs1
  obtain ⟨w2, hw2⟩ : ∃ w2, w1.alloc (.cells z4.toArray 89) = w2 := ⟨_, rfl⟩
  rw [hw2] at H2
  have hT2 := hT.below H2.b hlt
  have HW1 := Lib.hid hw1
  have HW2 := Lib.hid hw2
  have HS1 := Lib.hid hs1
  have HT2 := Lib.hid hT2
  have HNe : Hid (gt ≠ w.heap.size) := Lib.hid (by omega)
  have HH := Lib.hid H2
  clear hl hT hw1 hw2 hs1 hT2 hM hlt
  go_enter Tryz.func84, Tryz.ntmps84
  by_cases hz : i % 8 = 0
  · have d1 : ((i : Int) % 8 == 0) = true := by rw [show (i : Int) % 8 = 0 from by omega]; rfl
    have HK : Hid (turnW 8 i l = ([at_ l 1, at_ l 2, at_ l 3, at_ l 0].map sb).set 0 (sb (at_ l 1) ^^^ xp (i / 8 - 1))) := Lib.hid (by unfold turnW; rw [if_pos hz]; rfl)
    have hc0 := blk_byte H2.x (four_get l HL.out 0 (by omega))
    have hc1 := blk_byte H2.x (four_get l HL.out 1 (by omega))
    have hc2 := blk_byte H2.x (four_get l HL.out 2 (by omega))
    have hc3 := blk_byte H2.x (four_get l HL.out 3 (by omega))
    have HR := Lib.hid (H2.row [at_ l 1, at_ l 2, at_ l 3, at_ l 0])
    have HZL : Hid ((u8s l).length = (u8s [at_ l 1, at_ l 2, at_ l 3, at_ l 0]).length) := Lib.hid (by rw [u8s_len, HL.out]; rfl)
    have HSz := Lib.hid (sizeA4 [at_ l 1, at_ l 2, at_ l 3, at_ l 0] rfl)
    have HO := Lib.hid (u8s_one [at_ l 1, at_ l 2, at_ l 3, at_ l 0])
    have HTr : Hid (Tbl (w2.setRow w.heap.size (u8s [at_ l 1, at_ l 2, at_ l 3, at_ l 0]).toArray) gt o sb) := Lib.hid (HT2.out.grown (row := some w.heap.size) ⟨rfl, rfl, rfl, by simp [World.setRow], fun k hk hne => setRow_other w2 w.heap.size k _ (by simpa using hne)⟩ (by have := HNe.out; simp; exact this))
    clear hz H2
    go_wp2_with (first | (refine wpList_box_arr rfl 89 (.tmp 0) (u8s l).toArray rfl rfl ?_; rw [HW1.out]) | (refine wpList_alloc_arr rfl 89 z4.toArray rfl zero4 ?_; rw [HW2.out, HS1.out]) | refine wpList_store_arr rfl 89 (.tmp 4) (.tmp 22) w.heap.size (u8s l) (u8s [at_ l 1, at_ l 2, at_ l 3, at_ l 0]) rfl rfl rfl rfl HH.out.x HSz.out HZL.out HO.out ?_)
    refine (replaceWord_any _ w.heap.size gt o [at_ l 1, at_ l 2, at_ l 3, at_ l 0] sb rfl HR.out.x HTr.out HNe.out).mono ?_
    rintro e w4 ⟨⟨rv, rfl⟩, hB4, hg4⟩
    have H4 := HR.out.turn hB4 hg4
    have HH4 := Lib.hid H4
    have hx0 : w4.drew.cell? ⟨w.heap.size, 0, none⟩ = some (.int .u8 ((sb (at_ l 1)).toNat : Int)) := blk_byte H4.x.drew rfl
    have hL0 : ∀ x : Later grows w4.drew, x.to.cell? ⟨w.heap.size, 0, none⟩ = some (.int .u8 ((sb (at_ l 1)).toNat : Int)) := cell_later H4.x.drew rfl
    have hf0 := H4.x.drew.frozen 0
    have hS := H4.x.set_ 0 (.int .u8 ((sb (at_ l 1) ^^^ xp (i / 8 - 1)).toNat : Int))
    have HS5 : Hid (Blk (w4.setCell ⟨w.heap.size, 0, none⟩ (.int .u8 ((sb (at_ l 1) ^^^ xp (i / 8 - 1)).toNat : Int))) w.heap.size 89 (u8s (turnW 8 i l))) := Lib.hid (by rw [HK.out, ← u8s_set]; exact hS)
    have HE : Hid (Two4 w (w4.setCell ⟨w.heap.size, 0, none⟩ (.int .u8 ((sb (at_ l 1) ^^^ xp (i / 8 - 1)).toNat : Int))).drew (turnW 8 i l)) := Lib.hid ⟨HS5.out.drew, (H4.r.far (by simp) _).drew, (H4.b.setCell (Nat.le_refl _) _).drew⟩
    rw [← xor_byte] at HE
    clear hB4 hg4 H4 hS HS5 hc0 hc1 hc2 hc3 HR HZL HSz HO HTr HH
    have hx8 := (sb (at_ l 1)).toNat_lt
    go_wp2_with fail
    refine wp_region_G grows (by kernel_rfl) ?_
    refine segG (by kernel_rfl) (fun _ _ _ _ _ h => h) [0, 1, 2, 3, 4, 5] [_, _, _, _, _, _] 4 rfl rfl (by kernel_rfl) ?_
    repeat (go_big_quiet_step (fail))
    refine wpQuiet_nil ?_
    refine oneG 6 3 rfl (by kernel_rfl) rfl ?_
    go_wp2_with fail
    refine (power_at HM.out (i / 8 - 1) _ (by omega) (by omega) _).mono ?_
    rintro e w' ⟨rfl, rfl⟩
    have hp8 := (xp (i / 8 - 1)).toNat_lt
    go_wp2
    refine ⟨grows.refl _, ?_⟩
    refine segG (by kernel_rfl) (fun _ _ _ _ _ h => h) [7, 8] [_, _] 1 rfl rfl (by kernel_rfl) ?_
    repeat (go_big_quiet_step (fail))
    refine wpQuiet_nil ?_
    refine lateG 9 0 rfl (by kernel_rfl) (by kernel_rfl) rfl ?_
    go_wp2
    refine ⟨trivial, ?_⟩
    refine wpAnyG_done (by kernel_rfl) ?_
    generalize (w4.setCell ⟨w.heap.size, 0, none⟩ (.int .u8 (bits .xor .u8 ((sb (at_ l 1)).toNat : Int) ((xp (i / 8 - 1)).toNat : Int)))).drew = w5 at HE ⊢
    clear hx0 hL0 hf0 hx8 hp8
    have hld := HE.out.load (turnW_len 8 i l)
    have hbk := HE.out.back (turnW_len 8 i l)
    have HSe := Lib.hid (sizeA4 (turnW 8 i l) (turnW_len 8 i l))
    have HZe : Hid (z4.length = (u8s (turnW 8 i l)).length) := Lib.hid (by rw [u8s_len, turnW_len]; rfl)
    have HOe := Lib.hid (u8s_one (turnW 8 i l))
    have HbE := Lib.hid (below_setRow HE.out.b (by omega : w.heap.size ≤ w.heap.size + 1) (u8s (turnW 8 i l)).toArray)
    go_wp2_with (first | refine wpList_load_arr_w 89 (.tmp 4) rfl rfl (u8s (turnW 8 i l)).toArray hld (by kernel_rfl) ?_ | refine wpList_store_arr rfl 89 (.tmp 8) (.tmp 44) (w.heap.size + 1) _ _ rfl rfl rfl rfl HE.out.r HSe.out HZe.out HOe.out ?_)
    try simp only [Act.put, List.setIfInBounds_toArray, List.set]
    refine bodyPost_ret (v := .agg (u8s (turnW 8 i l)).toArray) ?_ rfl ⟨rfl, HbE.out⟩
    generalize (u8s (turnW 8 i l)).toArray = X at hbk ⊢
    simp [results, Tryz.results84, asAddr, hbk]
  · have d1 : ((i : Int) % 8 == 0) = false := by rw [beq_eq_false_iff_ne]; omega
    by_cases h4 : i % 8 = 4
    · skip
      have HK : Hid (turnW 8 i l = l.map sb) := Lib.hid (by unfold turnW; rw [if_neg hz, if_pos ⟨rfl, h4⟩]; exact (congrArg (List.map sb) (list4' l HL.out)).symm)
      have d2 : ((i : Int) % 8 == 4) = true := by rw [show (i : Int) % 8 = 4 from by omega]; rfl
      clear H2 hz h4
      go_wp2_with (first | (refine wpList_box_arr rfl 89 (.tmp 0) (u8s l).toArray rfl rfl ?_; rw [HW1.out]) | (refine wpList_alloc_arr rfl 89 z4.toArray rfl zero4 ?_; rw [HW2.out, HS1.out]))
      refine (replaceWord_any _ w.heap.size gt o l sb HL.out HH.out.x HT2.out HNe.out).mono ?_
      rintro e w4 ⟨⟨rv, rfl⟩, hB4, hg4⟩
      have HE : Hid (Two4 w w4 (turnW 8 i l)) := Lib.hid (by rw [HK.out]; exact HH.out.turn hB4 hg4)
      clear hB4 hg4 HH
      have hld := HE.out.load (turnW_len 8 i l)
      have hbk := HE.out.back (turnW_len 8 i l)
      have HSe := Lib.hid (sizeA4 (turnW 8 i l) (turnW_len 8 i l))
      have HZe : Hid (z4.length = (u8s (turnW 8 i l)).length) := Lib.hid (by rw [u8s_len, turnW_len]; rfl)
      have HOe := Lib.hid (u8s_one (turnW 8 i l))
      have HbE := Lib.hid (below_setRow HE.out.b (by omega : w.heap.size ≤ w.heap.size + 1) (u8s (turnW 8 i l)).toArray)
      go_wp2_with (first | refine wpList_load_arr_w 89 (.tmp 4) rfl rfl (u8s (turnW 8 i l)).toArray hld (by kernel_rfl) ?_ | refine wpList_store_arr rfl 89 (.tmp 8) (.tmp 44) (w.heap.size + 1) _ _ rfl rfl rfl rfl HE.out.r HSe.out HZe.out HOe.out ?_)
      try simp only [Act.put, List.setIfInBounds_toArray, List.set]
      refine bodyPost_ret (v := .agg (u8s (turnW 8 i l)).toArray) ?_ rfl ⟨rfl, HbE.out⟩
      generalize (u8s (turnW 8 i l)).toArray = X at hbk ⊢
      simp [results, Tryz.results84, asAddr, hbk]
    · have d2 : ((i : Int) % 8 == 4) = false := by rw [beq_eq_false_iff_ne]; omega
      have HK : Hid (turnW 8 i l = l) := Lib.hid (by unfold turnW; rw [if_neg hz, if_neg (by omega)]; exact (list4' l HL.out).symm)
      have HE : Hid (Two4 w w2 (turnW 8 i l)) := Lib.hid (by rw [HK.out]; exact H2)
      clear H2 HH hz
      have hld := HE.out.load (turnW_len 8 i l)
      have hbk := HE.out.back (turnW_len 8 i l)
      have HSe := Lib.hid (sizeA4 (turnW 8 i l) (turnW_len 8 i l))
      have HZe : Hid (z4.length = (u8s (turnW 8 i l)).length) := Lib.hid (by rw [u8s_len, turnW_len]; rfl)
      have HOe := Lib.hid (u8s_one (turnW 8 i l))
      have HbE := Lib.hid (below_setRow HE.out.b (by omega : w.heap.size ≤ w.heap.size + 1) (u8s (turnW 8 i l)).toArray)
      go_wp2_with (first | (refine wpList_box_arr rfl 89 (.tmp 0) (u8s l).toArray rfl rfl ?_; rw [HW1.out]) | (refine wpList_alloc_arr rfl 89 z4.toArray rfl zero4 ?_; rw [HW2.out, HS1.out]) | refine wpList_load_arr_w 89 (.tmp 4) rfl rfl (u8s (turnW 8 i l)).toArray hld (by kernel_rfl) ?_ | refine wpList_store_arr rfl 89 (.tmp 8) (.tmp 44) (w.heap.size + 1) _ _ rfl rfl rfl rfl HE.out.r HSe.out HZe.out HOe.out ?_)
      try simp only [Act.put, List.setIfInBounds_toArray, List.set]
      refine bodyPost_ret (v := .agg (u8s (turnW 8 i l)).toArray) ?_ rfl ⟨rfl, HbE.out⟩
      generalize (u8s (turnW 8 i l)).toArray = X at hbk ⊢
      simp [results, Tryz.results84, asAddr, hbk]
end Go.Proofs.YtdipflchmooakaaGreatDoor
