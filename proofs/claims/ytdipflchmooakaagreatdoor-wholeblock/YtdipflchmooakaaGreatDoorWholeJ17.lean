/-
  Package aes: roundKeys. Package box: contracts of Mul, Inv and Tables.
-/
import Derived.Test.YtdipflchmooakaaGreatDoorWholeJ01
import Derived.Test.YtdipflchmooakaaGreatDoorWholeJ05
import Derived.Test.YtdipflchmooakaaGreatDoorWholeJ02
import Derived.Test.YtdipflchmooakaaGreatDoorWholeJ09
import Derived.Test.YtdipflchmooakaaGreatDoorWholeJ13
import Derived.Test.YtdipflchmooakaaGreatDoorWholeJ14
import Derived.Test.YtdipflchmooakaaGreatDoorWholeJ15
import Derived.Test.YtdipflchmooakaaGreatDoorWholeJ16
import Derived.BigRegion
import Derived.Deep.CutRange
import Derived.RegionTactic
import Derived.Test.YtdipflchmooakaaGreatDoorWholeJ12
set_option maxRecDepth 100000
namespace Go.Proofs.YtdipflchmooakaaGreatDoor
open Go.RowKit Go.Gar Go.Gar.Aes

theorem copy4 (w : World) (g o dl dc g5 : Nat) (t t5 : TypeId) (cs : List Value) (x : List UInt8) (hg : Blk w g t cs) (h5 : Blk w g5 t5 (u8s x)) (hx : x.length = 4) (hd : 4 ≤ dl) (hfit : o + 4 ≤ cs.length) :
    (Builtin.copy_ #[23, 23] 3 #[.slice (some ⟨g, o, none⟩) dl dc, .slice (some ⟨g5, 0, none⟩) 4 4]).run Tryz.prog w = .ok (goInt 4) (w.setRow g (seg cs o (u8s x)).toArray) := by
  have hlen : (u8s x).length = 4 := by rw [u8s_len, hx]
  have h := run_copy_row (P := Tryz.prog) w 23 23 3 5 g o dl dc ⟨g5, 0, none⟩ 4 4 cs.toArray t (u8s x) Tryz.und22 Tryz.size5 hg (by rw [hlen]; exact (Nat.min_eq_left hd).symm) (fun j v hv => by
    have : (⟨g5, 0, none⟩ : Addr).add j = ⟨g5, 0 + j, none⟩ := Addr.add_lit _ _ _
    rw [this, Nat.zero_add, h5.cell]; exact hv) (by rw [hlen]; simpa using hfit) (u8s_one _)
  rw [h, hlen]
  simp [seg, hlen]

theorem run_slice16 (W : World) (g o l : Nat) (z : Int) (hz : z = (l : Int)) (hl : l < 16) :
    (Instr.sliceAt 32 (.pointer (some ⟨g, o, none⟩)) (some (.int .i64 z)) none none).run Tryz.prog W = .ok (.slice (some ⟨g, o + l, none⟩) (16 - l) (16 - l)) W := by
  subst hz
  obtain ⟨i, hi, hs⟩ := Option.map_eq_some_iff.1 Tryz.size5
  have h1 : ¬ (16 = l) := by omega
  simp [Instr.sliceAt, Instr.sliceBounds, Instr.sureAddr, run_underlying Tryz.undA16 W, sizeOf, typeInfo, hi, hs, go_sem, h1]
  omega
theorem wpQuiet_slice {P : Program} {C : World → Prop} {ops : Array Oper} {Q : Act → Prop} {rest : List Oper} {o : Oper} {a : Act} (t : TypeId) (p q : Operand) (ho : o.op = .slice t p (some q) none none) {x y v : Value} (hp : a.eval p = x) (hq : a.eval q = y)
    (hrun : ∀ W, (Instr.sliceAt t x (some y) none none).run P W = .ok v W) (hw : Region.wanted o (yielded ops a.tmps) = true)
    (h : wpQuiet P ops C Q rest (a.put o.dst v)) : wpQuiet P ops C Q (o :: rest) a := by
  refine wpQuiet_val hw (fun W _ => ?_) h
  unfold execOp
  simp only [ho, hp, hq, Option.map_some, Option.map_none, Sem.run_bind, hrun W, Result.andThen_ok, Sem.run_pure]

set_option maxHeartbeats 1000000 in
set_option maxRecDepth 100000 in
theorem roundKeys_4 (w : World) (gw cap : Nat) (key W : List UInt8) (x : Nat → List UInt8) (hE : Exp 4 44 key W x) (hW : Blk w gw 89 (u8s W)) :
    Calls Tryz.prog 50 #[.slice (some ⟨gw, 0, none⟩) 44 cap] w fun e w' => ∃ g, e = .returned (.slice (some ⟨g, 0, none⟩) 11 11) ∧ w.heap.size ≤ g ∧ Blk w' g 32 (u8s W) ∧ Below w.heap.size w w' := by
  have HE := Lib.hid hE
  have HWb := Lib.hid hW
  have hmk : (Instr.makeSlice 83 (.int .i64 11) (.int .i64 11)).run Tryz.prog w = .ok (.slice (some ⟨w.heap.size, 0, none⟩) 11 11) (w.alloc (.cells (u8s (List.replicate (11 * 16) 0)).toArray 32)) := run_make_zeros (P := Tryz.prog) 83 32 16 (by omega) Tryz.und40 Tryz.make40 11 (by omega) (by omega) w
  have HB := Lib.hid (Blk.new w 32 (u8s (List.replicate (11 * 16) 0)))
  have Hb := Lib.hid (below_alloc w (.cells (u8s (List.replicate (11 * 16) 0)).toArray 32))
  have HKL : Hid (W.length = (List.replicate (11 * 16) (0 : UInt8)).length) := Lib.hid (by rw [hE.len, List.length_replicate])
  generalize hZ : List.replicate (11 * 16) (0 : UInt8) = Z at *
  generalize w.alloc (.cells (u8s Z).toArray 32) = w1 at *
  clear hE hZ hW
  go_enter Tryz.func50, Tryz.ntmps50
  go_wp2
  clear hmk
  go_loopw [12] (fun v w' => ∃ i : Nat, i ≤ 44 ∧ v = .int .i64 (i : Int) ∧ Blk w' w.heap.size 32 (u8s (prog Z W (i * 4))) ∧ Below w.heap.size w w') (fun v _ => 44 - (intOf v).toNat)
  case atStart => exact ⟨0, by omega, rfl, by rw [Nat.zero_mul, prog_0]; exact HB.out, Hb.out⟩
  case round =>
    obtain ⟨i, hi, rfl, hB, hbl⟩ := hrel
    clear HB Hb
    have HB := Lib.hid hB
    have Hb := Lib.hid hbl
    clear hB hbl
    by_cases hiM : i < 44
    · have d1 : decide ((i : Int) < 44) = true := by simp; omega
      have hld := run_loadVar_seg (P := Tryz.prog) (w := wr) (t := 89) (ty := 89) gw (i * 4) (u8s W) (u8s (x i)) (HWb.out.below Hb.out HWb.out.lt) (fun j v hv => by
          have hj : j < 4 := by
            have := (List.getElem?_eq_some_iff.1 hv).1
            rw [u8s_len, HE.out.word i hiM] at this
            exact this
          rw [u8s_get, four_get _ (HE.out.word i hiM) j hj] at hv
          rw [u8s_get, HE.out.get i hiM j hj]
          exact hv) Tryz.undA4 rfl (sizeA4 _ (HE.out.word i hiM))
      have hxl := HE.out.word i hiM
      have hSeg : seg (u8s (prog Z W (i * 4))) (i * 4) (u8s (x i)) = u8s (prog Z W ((i + 1) * 4)) := by
        rw [HE.out.cut i (by omega), show (i + 1) * 4 = i * 4 + 4 from by omega]
        exact prog_seg _ _ _ _ HKL.out (by rw [HE.out.len]; omega)
      have HLn : Hid ((u8s (prog Z W (i * 4))).length = 44 * 4) := Lib.hid (by rw [u8s_len, prog_len _ _ _ HKL.out, ← HKL.out, HE.out.len])
      obtain ⟨xx, hxx⟩ : ∃ xx, x i = xx := ⟨_, rfl⟩
      rw [hxx] at hld hxl hSeg
      have HT5 := Lib.hid (Blk.new wr 89 (u8s xx))
      have HB5 := Lib.hid (HB.out.alloc (.cells (u8s xx).toArray 89))
      have Hb5 := Lib.hid (Hb.out.alloc Hb.out.size (.cells (u8s xx).toArray 89))
      have HZ := Lib.hid (Blk.new wr 89 z4)
      have HSz := Lib.hid (sizeA4 xx hxl)
      have HZL : Hid (z4.length = (u8s xx).length) := Lib.hid (by rw [u8s_len, hxl]; rfl)
      have HO := Lib.hid (u8s_one xx)
      have HEa := Lib.hid (alloc_row wr z4.toArray 89 (u8s xx))
      have HXL := Lib.hid hxl
      have HSeg := Lib.hid hSeg
      clear hxx hxl hSeg HB Hb
      go_wp2_with (first | refine wpList_load_at 89 (.tmp 15) rfl rfl (u8s xx).toArray hld (by kernel_rfl) ?_ | refine wpList_alloc_arr rfl 89 z4.toArray rfl zero4 ?_ | refine wpList_store_arr rfl 89 (.tmp 5) (.tmp 16) wr.heap.size _ _ rfl rfl rfl rfl HZ.out HSz.out HZL.out HO.out ?_)
      rw [HEa.out]
      clear HZ HSz HZL HO HEa hld
      generalize wr.alloc (.cells (u8s xx).toArray 89) = w5 at *
      generalize wr.heap.size = g5 at *
      have hcp := copy4 w5.drew w.heap.size (i / 4 * 16 + i % 4 * 4) (16 - i % 4 * 4) (16 - i % 4 * 4) g5 32 89 (u8s (prog Z W (i * 4))) xx HB5.out.drew HT5.out.drew HXL.out (by omega) (by rw [HLn.out]; omega)
      have HR6 := Lib.hid (HB5.out.drew.row (seg (u8s (prog Z W (i * 4))) (i / 4 * 16 + i % 4 * 4) (u8s xx)))
      have Hb6 := Lib.hid (below_setRow Hb5.out.drew (Nat.le_refl _) (seg (u8s (prog Z W (i * 4))) (i / 4 * 16 + i % 4 * 4) (u8s xx)).toArray)
      have HR7 : Hid (Blk (w5.drew.setRow w.heap.size (seg (u8s (prog Z W (i * 4))) (i / 4 * 16 + i % 4 * 4) (u8s xx)).toArray) w.heap.size 32 (u8s (prog Z W ((i + 1) * 4)))) := Lib.hid (by
        rw [← HSeg.out]
        have := HR6.out
        rw [show i / 4 * 16 + i % 4 * 4 = i * 4 from by omega] at this ⊢
        exact this)
      generalize seg (u8s (prog Z W (i * 4))) (i / 4 * 16 + i % 4 * 4) (u8s xx) = row at *
      clear HR6 HB5 Hb5 HSeg HLn
      refine wp_region_G grows (by kernel_rfl) ?_
      generalize w5.drew = w6 at *
      refine segG (by kernel_rfl) (fun _ _ _ _ _ h => h) [0, 1, 2, 3, 4, 5, 6, 7, 8] [_, _, _, _, _, _, _, _, _] 1 rfl rfl (by kernel_rfl) ?_
      repeat (go_big_quiet_step (fail))
      refine wpQuiet_slice 32 (.tmp 20) (.tmp 23) rfl rfl rfl (fun W => run_slice16 W w.heap.size (i / 4 * 16) (i % 4 * 4) _ (by omega) (by omega)) (by kernel_rfl) ?_
      simp only [Act.put, List.setIfInBounds_toArray, List.set]
      repeat (go_big_quiet_step (fail))
      refine wpQuiet_nil ?_
      refine lateG 9 0 rfl (by kernel_rfl) (by kernel_rfl) rfl ?_
      go_wp2
      refine ⟨trivial, ?_⟩
      refine wpAnyG_done (by kernel_rfl) ?_
      go_wp2
      exact ⟨⟨i + 1, by omega, by go_num, HR7.out, Hb6.out⟩, by simp [intOf]; omega⟩
    · have hEn : prog Z W (i * 4) = W := prog_end _ _ _ (by rw [← HKL.out, HE.out.len]; omega) (by rw [HE.out.len]; omega)
      rw [hEn] at HB
      clear hEn
      have d1 : decide ((i : Int) < 44) = false := by simp; omega
      go_wp2
      go_ret
      exact ⟨_, rfl, Nat.le_refl _, HB.out, Hb.out⟩

set_option maxHeartbeats 1000000 in
set_option maxRecDepth 100000 in
theorem roundKeys_6 (w : World) (gw cap : Nat) (key W : List UInt8) (x : Nat → List UInt8) (hE : Exp 6 52 key W x) (hW : Blk w gw 89 (u8s W)) :
    Calls Tryz.prog 50 #[.slice (some ⟨gw, 0, none⟩) 52 cap] w fun e w' => ∃ g, e = .returned (.slice (some ⟨g, 0, none⟩) 13 13) ∧ w.heap.size ≤ g ∧ Blk w' g 32 (u8s W) ∧ Below w.heap.size w w' := by
  have HE := Lib.hid hE
  have HWb := Lib.hid hW
  have hmk : (Instr.makeSlice 83 (.int .i64 13) (.int .i64 13)).run Tryz.prog w = .ok (.slice (some ⟨w.heap.size, 0, none⟩) 13 13) (w.alloc (.cells (u8s (List.replicate (13 * 16) 0)).toArray 32)) := run_make_zeros (P := Tryz.prog) 83 32 16 (by omega) Tryz.und40 Tryz.make40 13 (by omega) (by omega) w
  have HB := Lib.hid (Blk.new w 32 (u8s (List.replicate (13 * 16) 0)))
  have Hb := Lib.hid (below_alloc w (.cells (u8s (List.replicate (13 * 16) 0)).toArray 32))
  have HKL : Hid (W.length = (List.replicate (13 * 16) (0 : UInt8)).length) := Lib.hid (by rw [hE.len, List.length_replicate])
  generalize hZ : List.replicate (13 * 16) (0 : UInt8) = Z at *
  generalize w.alloc (.cells (u8s Z).toArray 32) = w1 at *
  clear hE hZ hW
  go_enter Tryz.func50, Tryz.ntmps50
  go_wp2
  clear hmk
  go_loopw [12] (fun v w' => ∃ i : Nat, i ≤ 52 ∧ v = .int .i64 (i : Int) ∧ Blk w' w.heap.size 32 (u8s (prog Z W (i * 4))) ∧ Below w.heap.size w w') (fun v _ => 52 - (intOf v).toNat)
  case atStart => exact ⟨0, by omega, rfl, by rw [Nat.zero_mul, prog_0]; exact HB.out, Hb.out⟩
  case round =>
    obtain ⟨i, hi, rfl, hB, hbl⟩ := hrel
    clear HB Hb
    have HB := Lib.hid hB
    have Hb := Lib.hid hbl
    clear hB hbl
    by_cases hiM : i < 52
    · have d1 : decide ((i : Int) < 52) = true := by simp; omega
      have hld := run_loadVar_seg (P := Tryz.prog) (w := wr) (t := 89) (ty := 89) gw (i * 4) (u8s W) (u8s (x i)) (HWb.out.below Hb.out HWb.out.lt) (fun j v hv => by
          have hj : j < 4 := by
            have := (List.getElem?_eq_some_iff.1 hv).1
            rw [u8s_len, HE.out.word i hiM] at this
            exact this
          rw [u8s_get, four_get _ (HE.out.word i hiM) j hj] at hv
          rw [u8s_get, HE.out.get i hiM j hj]
          exact hv) Tryz.undA4 rfl (sizeA4 _ (HE.out.word i hiM))
      have hxl := HE.out.word i hiM
      have hSeg : seg (u8s (prog Z W (i * 4))) (i * 4) (u8s (x i)) = u8s (prog Z W ((i + 1) * 4)) := by
        rw [HE.out.cut i (by omega), show (i + 1) * 4 = i * 4 + 4 from by omega]
        exact prog_seg _ _ _ _ HKL.out (by rw [HE.out.len]; omega)
      have HLn : Hid ((u8s (prog Z W (i * 4))).length = 52 * 4) := Lib.hid (by rw [u8s_len, prog_len _ _ _ HKL.out, ← HKL.out, HE.out.len])
      obtain ⟨xx, hxx⟩ : ∃ xx, x i = xx := ⟨_, rfl⟩
      rw [hxx] at hld hxl hSeg
      have HT5 := Lib.hid (Blk.new wr 89 (u8s xx))
      have HB5 := Lib.hid (HB.out.alloc (.cells (u8s xx).toArray 89))
      have Hb5 := Lib.hid (Hb.out.alloc Hb.out.size (.cells (u8s xx).toArray 89))
      have HZ := Lib.hid (Blk.new wr 89 z4)
      have HSz := Lib.hid (sizeA4 xx hxl)
      have HZL : Hid (z4.length = (u8s xx).length) := Lib.hid (by rw [u8s_len, hxl]; rfl)
      have HO := Lib.hid (u8s_one xx)
      have HEa := Lib.hid (alloc_row wr z4.toArray 89 (u8s xx))
      have HXL := Lib.hid hxl
      have HSeg := Lib.hid hSeg
      clear hxx hxl hSeg HB Hb
      go_wp2_with (first | refine wpList_load_at 89 (.tmp 15) rfl rfl (u8s xx).toArray hld (by kernel_rfl) ?_ | refine wpList_alloc_arr rfl 89 z4.toArray rfl zero4 ?_ | refine wpList_store_arr rfl 89 (.tmp 5) (.tmp 16) wr.heap.size _ _ rfl rfl rfl rfl HZ.out HSz.out HZL.out HO.out ?_)
      rw [HEa.out]
      clear HZ HSz HZL HO HEa hld
      generalize wr.alloc (.cells (u8s xx).toArray 89) = w5 at *
      generalize wr.heap.size = g5 at *
      have hcp := copy4 w5.drew w.heap.size (i / 4 * 16 + i % 4 * 4) (16 - i % 4 * 4) (16 - i % 4 * 4) g5 32 89 (u8s (prog Z W (i * 4))) xx HB5.out.drew HT5.out.drew HXL.out (by omega) (by rw [HLn.out]; omega)
      have HR6 := Lib.hid (HB5.out.drew.row (seg (u8s (prog Z W (i * 4))) (i / 4 * 16 + i % 4 * 4) (u8s xx)))
      have Hb6 := Lib.hid (below_setRow Hb5.out.drew (Nat.le_refl _) (seg (u8s (prog Z W (i * 4))) (i / 4 * 16 + i % 4 * 4) (u8s xx)).toArray)
      have HR7 : Hid (Blk (w5.drew.setRow w.heap.size (seg (u8s (prog Z W (i * 4))) (i / 4 * 16 + i % 4 * 4) (u8s xx)).toArray) w.heap.size 32 (u8s (prog Z W ((i + 1) * 4)))) := Lib.hid (by
        rw [← HSeg.out]
        have := HR6.out
        rw [show i / 4 * 16 + i % 4 * 4 = i * 4 from by omega] at this ⊢
        exact this)
      generalize seg (u8s (prog Z W (i * 4))) (i / 4 * 16 + i % 4 * 4) (u8s xx) = row at *
      clear HR6 HB5 Hb5 HSeg HLn
      refine wp_region_G grows (by kernel_rfl) ?_
      generalize w5.drew = w6 at *
      refine segG (by kernel_rfl) (fun _ _ _ _ _ h => h) [0, 1, 2, 3, 4, 5, 6, 7, 8] [_, _, _, _, _, _, _, _, _] 1 rfl rfl (by kernel_rfl) ?_
      repeat (go_big_quiet_step (fail))
      refine wpQuiet_slice 32 (.tmp 20) (.tmp 23) rfl rfl rfl (fun W => run_slice16 W w.heap.size (i / 4 * 16) (i % 4 * 4) _ (by omega) (by omega)) (by kernel_rfl) ?_
      simp only [Act.put, List.setIfInBounds_toArray, List.set]
      repeat (go_big_quiet_step (fail))
      refine wpQuiet_nil ?_
      refine lateG 9 0 rfl (by kernel_rfl) (by kernel_rfl) rfl ?_
      go_wp2
      refine ⟨trivial, ?_⟩
      refine wpAnyG_done (by kernel_rfl) ?_
      go_wp2
      exact ⟨⟨i + 1, by omega, by go_num, HR7.out, Hb6.out⟩, by simp [intOf]; omega⟩
    · have hEn : prog Z W (i * 4) = W := prog_end _ _ _ (by rw [← HKL.out, HE.out.len]; omega) (by rw [HE.out.len]; omega)
      rw [hEn] at HB
      clear hEn
      have d1 : decide ((i : Int) < 52) = false := by simp; omega
      go_wp2
      go_ret
      exact ⟨_, rfl, Nat.le_refl _, HB.out, Hb.out⟩

set_option maxHeartbeats 1000000 in
set_option maxRecDepth 100000 in
theorem roundKeys_8 (w : World) (gw cap : Nat) (key W : List UInt8) (x : Nat → List UInt8) (hE : Exp 8 60 key W x) (hW : Blk w gw 89 (u8s W)) :
    Calls Tryz.prog 50 #[.slice (some ⟨gw, 0, none⟩) 60 cap] w fun e w' => ∃ g, e = .returned (.slice (some ⟨g, 0, none⟩) 15 15) ∧ w.heap.size ≤ g ∧ Blk w' g 32 (u8s W) ∧ Below w.heap.size w w' := by
  have HE := Lib.hid hE
  have HWb := Lib.hid hW
  have hmk : (Instr.makeSlice 83 (.int .i64 15) (.int .i64 15)).run Tryz.prog w = .ok (.slice (some ⟨w.heap.size, 0, none⟩) 15 15) (w.alloc (.cells (u8s (List.replicate (15 * 16) 0)).toArray 32)) := run_make_zeros (P := Tryz.prog) 83 32 16 (by omega) Tryz.und40 Tryz.make40 15 (by omega) (by omega) w
  have HB := Lib.hid (Blk.new w 32 (u8s (List.replicate (15 * 16) 0)))
  have Hb := Lib.hid (below_alloc w (.cells (u8s (List.replicate (15 * 16) 0)).toArray 32))
  have HKL : Hid (W.length = (List.replicate (15 * 16) (0 : UInt8)).length) := Lib.hid (by rw [hE.len, List.length_replicate])
  generalize hZ : List.replicate (15 * 16) (0 : UInt8) = Z at *
  generalize w.alloc (.cells (u8s Z).toArray 32) = w1 at *
  clear hE hZ hW
  go_enter Tryz.func50, Tryz.ntmps50
  go_wp2
  clear hmk
  go_loopw [12] (fun v w' => ∃ i : Nat, i ≤ 60 ∧ v = .int .i64 (i : Int) ∧ Blk w' w.heap.size 32 (u8s (prog Z W (i * 4))) ∧ Below w.heap.size w w') (fun v _ => 60 - (intOf v).toNat)
  case atStart => exact ⟨0, by omega, rfl, by rw [Nat.zero_mul, prog_0]; exact HB.out, Hb.out⟩
  case round =>
    obtain ⟨i, hi, rfl, hB, hbl⟩ := hrel
    clear HB Hb
    have HB := Lib.hid hB
    have Hb := Lib.hid hbl
    clear hB hbl
    by_cases hiM : i < 60
    · have d1 : decide ((i : Int) < 60) = true := by simp; omega
      have hld := run_loadVar_seg (P := Tryz.prog) (w := wr) (t := 89) (ty := 89) gw (i * 4) (u8s W) (u8s (x i)) (HWb.out.below Hb.out HWb.out.lt) (fun j v hv => by
          have hj : j < 4 := by
            have := (List.getElem?_eq_some_iff.1 hv).1
            rw [u8s_len, HE.out.word i hiM] at this
            exact this
          rw [u8s_get, four_get _ (HE.out.word i hiM) j hj] at hv
          rw [u8s_get, HE.out.get i hiM j hj]
          exact hv) Tryz.undA4 rfl (sizeA4 _ (HE.out.word i hiM))
      have hxl := HE.out.word i hiM
      have hSeg : seg (u8s (prog Z W (i * 4))) (i * 4) (u8s (x i)) = u8s (prog Z W ((i + 1) * 4)) := by
        rw [HE.out.cut i (by omega), show (i + 1) * 4 = i * 4 + 4 from by omega]
        exact prog_seg _ _ _ _ HKL.out (by rw [HE.out.len]; omega)
      have HLn : Hid ((u8s (prog Z W (i * 4))).length = 60 * 4) := Lib.hid (by rw [u8s_len, prog_len _ _ _ HKL.out, ← HKL.out, HE.out.len])
      obtain ⟨xx, hxx⟩ : ∃ xx, x i = xx := ⟨_, rfl⟩
      rw [hxx] at hld hxl hSeg
      have HT5 := Lib.hid (Blk.new wr 89 (u8s xx))
      have HB5 := Lib.hid (HB.out.alloc (.cells (u8s xx).toArray 89))
      have Hb5 := Lib.hid (Hb.out.alloc Hb.out.size (.cells (u8s xx).toArray 89))
      have HZ := Lib.hid (Blk.new wr 89 z4)
      have HSz := Lib.hid (sizeA4 xx hxl)
      have HZL : Hid (z4.length = (u8s xx).length) := Lib.hid (by rw [u8s_len, hxl]; rfl)
      have HO := Lib.hid (u8s_one xx)
      have HEa := Lib.hid (alloc_row wr z4.toArray 89 (u8s xx))
      have HXL := Lib.hid hxl
      have HSeg := Lib.hid hSeg
      clear hxx hxl hSeg HB Hb
      go_wp2_with (first | refine wpList_load_at 89 (.tmp 15) rfl rfl (u8s xx).toArray hld (by kernel_rfl) ?_ | refine wpList_alloc_arr rfl 89 z4.toArray rfl zero4 ?_ | refine wpList_store_arr rfl 89 (.tmp 5) (.tmp 16) wr.heap.size _ _ rfl rfl rfl rfl HZ.out HSz.out HZL.out HO.out ?_)
      rw [HEa.out]
      clear HZ HSz HZL HO HEa hld
      generalize wr.alloc (.cells (u8s xx).toArray 89) = w5 at *
      generalize wr.heap.size = g5 at *
      have hcp := copy4 w5.drew w.heap.size (i / 4 * 16 + i % 4 * 4) (16 - i % 4 * 4) (16 - i % 4 * 4) g5 32 89 (u8s (prog Z W (i * 4))) xx HB5.out.drew HT5.out.drew HXL.out (by omega) (by rw [HLn.out]; omega)
      have HR6 := Lib.hid (HB5.out.drew.row (seg (u8s (prog Z W (i * 4))) (i / 4 * 16 + i % 4 * 4) (u8s xx)))
      have Hb6 := Lib.hid (below_setRow Hb5.out.drew (Nat.le_refl _) (seg (u8s (prog Z W (i * 4))) (i / 4 * 16 + i % 4 * 4) (u8s xx)).toArray)
      have HR7 : Hid (Blk (w5.drew.setRow w.heap.size (seg (u8s (prog Z W (i * 4))) (i / 4 * 16 + i % 4 * 4) (u8s xx)).toArray) w.heap.size 32 (u8s (prog Z W ((i + 1) * 4)))) := Lib.hid (by
        rw [← HSeg.out]
        have := HR6.out
        rw [show i / 4 * 16 + i % 4 * 4 = i * 4 from by omega] at this ⊢
        exact this)
      generalize seg (u8s (prog Z W (i * 4))) (i / 4 * 16 + i % 4 * 4) (u8s xx) = row at *
      clear HR6 HB5 Hb5 HSeg HLn
      refine wp_region_G grows (by kernel_rfl) ?_
      generalize w5.drew = w6 at *
      refine segG (by kernel_rfl) (fun _ _ _ _ _ h => h) [0, 1, 2, 3, 4, 5, 6, 7, 8] [_, _, _, _, _, _, _, _, _] 1 rfl rfl (by kernel_rfl) ?_
      repeat (go_big_quiet_step (fail))
      refine wpQuiet_slice 32 (.tmp 20) (.tmp 23) rfl rfl rfl (fun W => run_slice16 W w.heap.size (i / 4 * 16) (i % 4 * 4) _ (by omega) (by omega)) (by kernel_rfl) ?_
      simp only [Act.put, List.setIfInBounds_toArray, List.set]
      repeat (go_big_quiet_step (fail))
      refine wpQuiet_nil ?_
      refine lateG 9 0 rfl (by kernel_rfl) (by kernel_rfl) rfl ?_
      go_wp2
      refine ⟨trivial, ?_⟩
      refine wpAnyG_done (by kernel_rfl) ?_
      go_wp2
      exact ⟨⟨i + 1, by omega, by go_num, HR7.out, Hb6.out⟩, by simp [intOf]; omega⟩
    · have hEn : prog Z W (i * 4) = W := prog_end _ _ _ (by rw [← HKL.out, HE.out.len]; omega) (by rw [HE.out.len]; omega)
      rw [hEn] at HB
      clear hEn
      have d1 : decide ((i : Int) < 60) = false := by simp; omega
      go_wp2
      go_ret
      exact ⟨_, rfl, Nat.le_refl _, HB.out, Hb.out⟩
end Go.Proofs.YtdipflchmooakaaGreatDoor
namespace Go.Proofs.YtdipflchmooakaaGreatDoor
open Go.RowKit Go.Gar

theorem mulN_more (n : Nat) : ∀ a b p, Box.mulN (n + 1) a b p = Box.mulN n (Box.xt a) (b / 2) (if b % 2 = 1 then p ^^^ a else p) := fun _ _ _ => rfl
theorem and_high (a : Nat) (h : a < 256) : bits .and .u8 (a : Int) 128 = ((a &&& 128 : Nat) : Int) := and_u8 a 128 h (by omega)
theorem high_zero : ∀ a, a < 256 → ((a &&& 128 = 0) ↔ a < 128) := by decide +kernel
theorem xt_low (a : Nat) (h : a < 128) : Box.xt a = 2 * a := if_pos h
theorem xt_high (a : Nat) (h : ¬ a < 128) : Box.xt a = (2 * a - 256) ^^^ 27 := if_neg h
theorem and_one8 (b j : Nat) (h : b < 256) : bits .and .u8 ((b : Int) / 2 ^ j) 1 = ((b / 2 ^ j % 2 : Nat) : Int) := by
  have hl : b / 2 ^ j < 256 := Nat.lt_of_le_of_lt (Nat.div_le_self _ _) h
  rw [show (b : Int) / 2 ^ j = ((b / 2 ^ j : Nat) : Int) from by simp, show (1 : Int) = ((1 : Nat) : Int) from rfl, and_u8 _ 1 hl (by omega), Nat.and_one_is_mod]

/-- double: times x. -/
theorem double_any (a : Nat) (w : World) (ha : a < 256) : Calls Tryz.prog 96 #[.int .u8 (a : Int)] w fun e w' => e = .returned (.int .u8 ((Box.xt a : Nat) : Int)) ∧ w' = w := by
  have hh := high_zero a ha
  have hah := and_high a ha
  go_enter Tryz.func96, Tryz.ntmps96
  by_cases h2 : a < 128
  · have d2 : (bits .and .u8 (a : Int) 128 == 0) = true := by rw [hah, hh.2 h2]; rfl
    have HX : Hid (Box.xt a = 2 * a) := Lib.hid (xt_low a h2)
    clear hh hah
    go_wp2
    go_ret
    exact ⟨congrArg (fun v => Ending.returned (.int .u8 v)) (by rw [HX.out]; omega), rfl⟩
  · have d2 : (bits .and .u8 (a : Int) 128 == 0) = false := by rw [hah, beq_eq_false_iff_ne]; omega
    have HY : Hid (bits .xor .u8 ((a : Int) * 2 % 256) 27 = ((Box.xt a : Nat) : Int)) := Lib.hid (by
      rw [show (a : Int) * 2 % 256 = ((2 * a - 256 : Nat) : Int) from by omega, show (27 : Int) = ((27 : Nat) : Int) from rfl, xor_u8 _ 27 (by omega) (by omega), xt_high a h2])
    clear hh hah
    go_wp2
    go_ret
    exact ⟨congrArg (fun v => Ending.returned (.int .u8 v)) HY.out, rfl⟩

set_option maxHeartbeats 1000000 in
set_option maxRecDepth 100000 in
theorem mulC : MulC := by
  intro a b w ha hb
  go_enter Tryz.func83, Tryz.ntmps83
  go_wp2
  go_loop [0, 5, 7] (fun x p i => ∃ j a' p' : Nat, j ≤ 8 ∧ i = .int .i64 (j : Int) ∧ x = .int .u8 (a' : Int) ∧ p = .int .u8 (p' : Int) ∧ a' < 256 ∧ p' < 256 ∧ Box.mul a b = Box.mulN (8 - j) a' (b / 2 ^ j) p') (fun _ _ i => 8 - (intOf i).toNat)
  case atStart => exact ⟨0, a, 0, by omega, rfl, rfl, rfl, ha, by omega, by simp [Box.mul]⟩
  case round =>
    obtain ⟨j, a', p', hj, rfl, rfl, rfl, ha', hp', hm⟩ := hrel
    have HM := Lib.hid hm
    clear hm
    by_cases hj8 : j < 8
    · have HS : Hid (8 - j = (8 - (j + 1)) + 1) := Lib.hid (by omega)
      have HH : Hid (b / 2 ^ j / 2 = b / 2 ^ (j + 1)) := Lib.hid (by rw [Nat.div_div_eq_div_mul, Nat.pow_succ])
      have hx := xor_u8 p' a' hp' ha'
      have hpx := Box.xor_lt hp' ha'
      have hxt := Box.xt_lt a' ha'
      have HX := Lib.hid hx
      have hbo := and_one8 b j hb
      clear hx
      by_cases h1 : b / 2 ^ j % 2 = 1
      · have d1 : (bits .and .u8 ((b : Int) / 2 ^ j) 1 == 1) = true := by rw [hbo, h1]; rfl
        have H1 := Lib.hid h1
        clear h1 hbo
        go_wp2_with fail
        refine (double_any a' w ha').mono ?_
        rintro e w' ⟨rfl, rfl⟩
        go_wp2
        refine ⟨⟨j + 1, Box.xt a', p' ^^^ a', by omega, by go_num, rfl, by rw [HX.out], hxt, hpx, ?_⟩, by simp [intOf]; omega⟩
        rw [HM.out, HS.out, mulN_more, if_pos H1.out, HH.out]
      · have d1 : (bits .and .u8 ((b : Int) / 2 ^ j) 1 == 1) = false := by rw [hbo, beq_eq_false_iff_ne]; omega
        have H1 := Lib.hid h1
        clear h1 hbo
        go_wp2_with fail
        refine (double_any a' w ha').mono ?_
        rintro e w' ⟨rfl, rfl⟩
        go_wp2
        refine ⟨⟨j + 1, Box.xt a', p', by omega, by go_num, rfl, rfl, hxt, hp', ?_⟩, by simp [intOf]; omega⟩
        rw [HM.out, HS.out, mulN_more, if_neg H1.out, HH.out]
    · obtain rfl : j = 8 := by omega
      go_wp2
      go_ret
      exact ⟨congrArg (fun v => Ending.returned (.int .u8 v)) (by rw [HM.out]; rfl), rfl⟩

/-- The powers 2, 4, .. of a, and their products. -/
def sqK (a : Nat) : Nat → Nat
  | 0 => a
  | j + 1 => Box.mul (sqK a j) (sqK a j)
def invK (a : Nat) : Nat → Nat
  | 0 => 1
  | j + 1 => Box.mul (invK a j) (sqK a (j + 1))
theorem sqK_lt (a : Nat) (h : a < 256) (j : Nat) : sqK a j < 256 := by
  induction j with
  | zero => exact h
  | succ j ih => exact Box.mul_lt _ _ ih
theorem invK_lt (a : Nat) (j : Nat) : invK a j < 256 := by
  induction j with
  | zero => show 1 < 256; omega
  | succ j ih => exact Box.mul_lt _ _ ih
theorem invK_end (a : Nat) (h : a < 256) : invK a 7 = Box.inv a := Nat.eq_of_beq_eq_true (Box.all_spec (f := fun a => (invK a 7).beq (Box.inv a)) (n := 256) (by decide +kernel) a h)

set_option maxHeartbeats 1000000 in
set_option maxRecDepth 100000 in
theorem invC : InvC := by
  intro a w ha
  go_enter Tryz.func82, Tryz.ntmps82
  go_wp2
  go_loop [3, 4, 6] (fun v s i => ∃ j v' s' : Nat, j ≤ 7 ∧ i = .int .i64 (j : Int) ∧ v = .int .u8 (v' : Int) ∧ s = .int .u8 (s' : Int) ∧ v' = invK a j ∧ s' = sqK a j) (fun _ _ i => 7 - (intOf i).toNat)
  case atStart => exact ⟨0, 1, a, by omega, rfl, rfl, rfl, rfl, rfl⟩
  case round =>
    obtain ⟨j, v', s', hj, rfl, rfl, rfl, hv, hs⟩ := hrel
    have hvl : v' < 256 := by rw [hv]; exact invK_lt a j
    have hsl : s' < 256 := by rw [hs]; exact sqK_lt a ha j
    have HV := Lib.hid hv
    have HS := Lib.hid hs
    clear hv hs
    by_cases hlt : j < 7
    · go_wp2_with fail
      refine (mulC s' s' w hsl hsl).mono ?_
      rintro e w' ⟨rfl, rfl⟩
      have hql := Box.mul_lt s' s' hsl
      have HQ : Hid (Box.mul s' s' = sqK a (j + 1)) := Lib.hid (by rw [HS.out]; rfl)
      generalize Box.mul s' s' = q at hql HQ ⊢
      go_wp2_with fail
      refine (mulC v' q w' hvl hql).mono ?_
      rintro e w2 ⟨rfl, rfl⟩
      have HP : Hid (Box.mul v' q = invK a (j + 1)) := Lib.hid (by rw [HV.out, HQ.out]; rfl)
      generalize Box.mul v' q = r at HP ⊢
      go_wp2
      exact ⟨⟨j + 1, r, q, by omega, by go_num, rfl, rfl, HP.out, HQ.out⟩, by simp [intOf]; omega⟩
    · obtain rfl : j = 7 := by omega
      have HE : Hid (v' = Box.inv a) := Lib.hid (by rw [HV.out, invK_end a ha])
      go_wp2
      go_ret
      exact ⟨by rw [HE.out]; rfl, rfl⟩

theorem rot_lt (c k : Nat) : Box.rot c k < 256 := Nat.mod_lt _ (by omega)
theorem rot_nat (c k : Nat) (hc : c < 256) (hk : k < 8) : (c * 2 ^ k % 256 ||| c / 2 ^ (8 - k)) = Box.rot c k := by
  have h1 := Box.all_spec (f := fun k => Box.all 256 fun c => (c * 2 ^ k % 256 ||| c / 2 ^ (8 - k)).beq (Box.rot c k)) (n := 8) (by decide +kernel) k hk
  exact Nat.eq_of_beq_eq_true (Box.all_spec h1 c hc)

set_option maxHeartbeats 1000000 in
set_option maxRecDepth 100000 in
/-- math/bits.RotateLeft8, by less than eight. -/
theorem rotl8_any (c k : Nat) (w : World) (hc : c < 256) (hk : k < 8) : Calls Tryz.prog 95 #[.int .u8 (c : Int), .int .i64 (k : Int)] w fun e w' => e = .returned (.int .u8 ((Box.rot c k : Nat) : Int)) ∧ w' = w := by
  have ha : bits .and .u64 (k : Int) 7 = (k : Int) := by
    rw [show (7 : Int) = ((7 : Nat) : Int) from rfl, and_u64 k 7 (by omega) (by omega)]
    congr 1
    have : ∀ k, k < 8 → k &&& 7 = k := by decide
    exact this k hk
  have HO : Hid (bits .or .u8 ((c : Int) * 2 ^ k % 256) ((c : Int) / 2 ^ (8 - k)) = ((Box.rot c k : Nat) : Int)) := Lib.hid (by
    rw [show (c : Int) * 2 ^ k % 256 = ((c * 2 ^ k % 256 : Nat) : Int) from by push_cast; rfl, show (c : Int) / 2 ^ (8 - k) = ((c / 2 ^ (8 - k) : Nat) : Int) from by simp,
      or_u8 _ _ (Nat.mod_lt _ (by omega)) (Nat.lt_of_le_of_lt (Nat.div_le_self _ _) hc), rot_nat c k hc hk])
  go_enter Tryz.func95, Tryz.ntmps95
  go_wp2
  go_ret
  exact ⟨congrArg (fun v => Ending.returned (.int .u8 v)) HO.out, rfl⟩

def subK (c : Nat) : Nat → Nat
  | 0 => c ^^^ 99
  | j + 1 => subK c j ^^^ Box.rot c (j + 1)
theorem subK_lt (c : Nat) (h : c < 256) (j : Nat) : subK c j < 256 := by
  induction j with
  | zero => exact Box.xor_lt h (by omega)
  | succ j ih => exact Box.xor_lt ih (rot_lt _ _)
theorem subK_end (c : Nat) (h : c < 256) : subK c 4 = Box.affine c := Nat.eq_of_beq_eq_true (Box.all_spec (f := fun c => (subK c 4).beq (Box.affine c)) (n := 256) (by decide +kernel) c h)

set_option maxHeartbeats 1000000 in
set_option maxRecDepth 100000 in
theorem subst_any (c : Nat) (w : World) (hc : c < 256) : Calls Tryz.prog 81 #[.int .u8 (c : Int)] w fun e w' => e = .returned (.int .u8 ((Box.affine c : Nat) : Int)) ∧ w' = w := by
  have h99 : bits .xor .u8 (c : Int) 99 = ((c ^^^ 99 : Nat) : Int) := xor_u8 c 99 hc (by omega)
  have H99 := Lib.hid h99
  clear h99
  go_enter Tryz.func81, Tryz.ntmps81
  go_wp2
  go_loop [3, 7] (fun s i => ∃ j s' : Nat, j ≤ 4 ∧ i = .int .i64 (j : Int) ∧ s = .int .u8 (s' : Int) ∧ s' = subK c j) (fun _ i => 4 - (intOf i).toNat)
  case atStart => exact ⟨0, c ^^^ 99, by omega, rfl, by rw [H99.out], rfl⟩
  case round =>
    obtain ⟨j, s', hj, rfl, rfl, hs⟩ := hrel
    have hsl : s' < 256 := by rw [hs]; exact subK_lt c hc j
    have HS := Lib.hid hs
    clear hs
    by_cases hlt : j < 4
    · go_wp2_with fail
      refine (rotl8_any c (j + 1) w hc (by omega)).mono ?_
      rintro e w' ⟨rfl, rfl⟩
      have hx := xor_u8 s' (Box.rot c (j + 1)) hsl (rot_lt _ _)
      have HX := Lib.hid hx
      have HK : Hid (s' ^^^ Box.rot c (j + 1) = subK c (j + 1)) := Lib.hid (by rw [HS.out]; rfl)
      clear hx
      generalize Box.rot c (j + 1) = r at HX HK ⊢
      go_wp2
      exact ⟨⟨j + 1, s' ^^^ r, by omega, by go_num, by rw [HX.out], HK.out⟩, by simp [intOf]; omega⟩
    · obtain rfl : j = 4 := by omega
      have HE : Hid (s' = Box.affine c) := Lib.hid (by rw [HS.out, subK_end c hc])
      go_wp2
      go_ret
      exact ⟨by rw [HE.out]; rfl, rfl⟩

theorem zs_u8 : zs = u8s (List.replicate 256 0) := by
  unfold zs u8s
  rw [List.map_replicate]
  rfl
set_option maxHeartbeats 2000000 in
set_option maxRecDepth 100000 in
theorem tabC : TabC := by
  intro w
  have hT0 := laid_0 w
  have hB0 := laid_1 w
  have hb0 := (below_alloc w (.cells zs.toArray 81)).alloc (by rw [World.size_alloc]; omega) (.cells zs.toArray 81)
  have HT0 := Lib.hid hT0
  have HB0 := Lib.hid hB0
  have Hb0 := Lib.hid hb0
  clear hT0 hB0 hb0
  go_enter Tryz.func48, Tryz.ntmps48
  go_wp2_with (refine wpList_alloc_arr rfl 81 zs.toArray rfl zero_arr ?_)
  generalize (w.alloc (.cells zs.toArray 81)).alloc (.cells zs.toArray 81) = w1 at HT0 HB0 Hb0 ⊢
  go_loopw [4] (fun i w' => ∃ a : Nat, a ≤ 256 ∧ i = .int .i64 (a : Int) ∧ Blk w' w.heap.size 81 (u8s (Box.ttab a)) ∧ Blk w' (w.heap.size + 1) 81 (u8s (Box.btab a)) ∧ Below w.heap.size w w') (fun i _ => 256 - (intOf i).toNat)
  case atStart => exact ⟨0, by omega, rfl, by show Blk _ _ _ (u8s (List.replicate 256 0)); rw [← zs_u8]; exact HT0.out, by show Blk _ _ _ (u8s (List.replicate 256 0)); rw [← zs_u8]; exact HB0.out, Hb0.out⟩
  case round =>
    obtain ⟨a, ha, rfl, hT, hB, hb⟩ := hrel
    clear HT0 HB0 Hb0
    by_cases hlt : a < 256
    · have HT := Lib.hid hT
      have HB := Lib.hid hB
      have Hb := Lib.hid hb
      clear hT hB hb
      go_wp2_with fail
      refine (invC a wr hlt).mono ?_
      rintro e w' ⟨rfl, rfl⟩
      have hcl := Box.inv_lt a hlt
      have hsl := Box.sbox_lt a hlt
      have HD := Lib.hid (Box.sbox_def a hlt)
      obtain ⟨c, hc⟩ : ∃ c, Box.inv a = c := ⟨_, rfl⟩
      rw [hc] at hcl HD ⊢
      clear hc
      go_wp2_with fail
      refine (subst_any c w' hcl).mono ?_
      rintro e w2 ⟨rfl, rfl⟩
      rw [← HD.out]
      obtain ⟨v0, hcs⟩ : ∃ v0, w2.cell? ⟨w.heap.size, a, none⟩ = some v0 := ⟨_, by
        rw [HT.out.cell, List.getElem?_eq_getElem (by rw [u8s_len, Box.ttab_len a (by omega)]; exact hlt)]⟩
      have hf := HT.out.frozen a
      have hne : w.heap.size + 1 ≠ w.heap.size := by omega
      obtain ⟨v1, hcb⟩ : ∃ v1, (w2.setCell ⟨w.heap.size, a, none⟩ (.int .u8 ((Box.sbox a : Nat) : Int))).cell? ⟨w.heap.size + 1, Box.sbox a, none⟩ = some v1 := ⟨_, by
        rw [(HB.out.far (p := ⟨w.heap.size, a, none⟩) hne _).cell, List.getElem?_eq_getElem (by rw [u8s_len, Box.btab_len]; exact hsl)]⟩
      have hfb := (HB.out.far (p := ⟨w.heap.size, a, none⟩) hne (.int .u8 ((Box.sbox a : Nat) : Int))).frozen (Box.sbox a)
      have HT2 := Lib.hid ((HT.out.set_ a (.int .u8 ((UInt8.ofNat (Box.sbox a)).toNat : Int))).far (p := ⟨w.heap.size + 1, Box.sbox a, none⟩) (Ne.symm hne) (.int .u8 ((UInt8.ofNat a).toNat : Int)))
      have HBk2 := Lib.hid ((HB.out.far (p := ⟨w.heap.size, a, none⟩) hne (.int .u8 ((UInt8.ofNat (Box.sbox a)).toNat : Int))).set_ (Box.sbox a) (.int .u8 ((UInt8.ofNat a).toNat : Int)))
      have HB2 := Lib.hid ((Hb.out.setCell (p := ⟨w.heap.size, a, none⟩) (Nat.le_refl _) (.int .u8 ((UInt8.ofNat (Box.sbox a)).toNat : Int))).setCell (p := ⟨w.heap.size + 1, Box.sbox a, none⟩) (by simp) (.int .u8 ((UInt8.ofNat a).toNat : Int)))
      rw [u8s_set, Box.ttab_set a hlt] at HT2
      rw [u8s_set] at HBk2
      rw [Box.ofNat_toNat _ hsl, Box.ofNat_toNat a hlt] at HT2 HBk2 HB2
      have HBk3 : Hid (Blk _ (w.heap.size + 1) 81 (u8s (Box.btab (a + 1)))) := HBk2
      clear HBk2 HD hne
      generalize Box.sbox a = q at *
      go_wp2
      exact ⟨⟨a + 1, by omega, by go_num, HT2.out, HBk3.out, HB2.out⟩, by simp [intOf]; omega⟩
    · obtain rfl : a = 256 := by omega
      rw [Box.ttab_end] at hT
      rw [Box.btab_end] at hB
      have HT := Lib.hid hT.drew
      have HB := Lib.hid hB.drew
      have Hb := Lib.hid hb.drew
      clear hT hB hb
      go_wp2_with fail
      refine wp_region_G grows (by kernel_rfl) ?_
      generalize wr.drew = wa at HT HB Hb ⊢
      have HL1 := Lib.hid (load_arr_later (P := Tryz.prog) Tryz.undArr (size_arr _ Box.sboxB_len) HT.out)
      have HL2 := Lib.hid (load_arr_later (P := Tryz.prog) Tryz.undArr (size_arr _ Box.backB_len) HB.out)
      refine segG (by kernel_rfl) (fun _ _ _ _ _ h => h) [0, 1] [_, _] 2 rfl rfl (by kernel_rfl) ?_
      refine wpQuiet_load_arr 81 (.tmp 0) rfl rfl _ HL1.out (by kernel_rfl) ?_
      simp only [Act.put, List.setIfInBounds_toArray, List.set]
      refine wpQuiet_load_arr 81 (.tmp 1) rfl rfl _ HL2.out (by kernel_rfl) ?_
      simp only [Act.put, List.setIfInBounds_toArray, List.set]
      refine wpQuiet_nil ?_
      refine oneG 2 1 rfl (by kernel_rfl) rfl ?_
      refine wpList_store_arr rfl 81 (.tmp 0) (.tmp 19) w.heap.size _ _ rfl rfl rfl rfl HT.out (size_arr _ Box.sboxB_len) rfl (u8s_one _) ?_
      rw [setRow_self wa w.heap.size _ _ _ HT.out]
      go_wp2
      refine ⟨grows.refl _, ?_⟩
      refine oneG 3 0 rfl (by kernel_rfl) rfl ?_
      refine wpList_store_arr rfl 81 (.tmp 1) (.tmp 20) (w.heap.size + 1) _ _ rfl rfl rfl rfl HB.out (size_arr _ Box.backB_len) rfl (u8s_one _) ?_
      rw [setRow_self wa (w.heap.size + 1) _ _ _ HB.out]
      go_wp2
      refine ⟨grows.refl _, ?_⟩
      refine wpAnyG_done (by kernel_rfl) ?_
      go_wp2
      have hl1 := run_loadVar_row (P := Tryz.prog) wa w.heap.size 81 81 (u8s Box.sboxB).toArray (0, 0) _ HT.out Tryz.undArr rfl (by simpa using size_arr _ Box.sboxB_len)
      have hl2 := run_loadVar_row (P := Tryz.prog) wa (w.heap.size + 1) 81 81 (u8s Box.backB).toArray (0, 0) _ HB.out Tryz.undArr rfl (by simpa using size_arr _ Box.backB_len)
      refine bodyPost_ret (v := .tuple #[.agg (u8s Box.sboxB).toArray, .agg (u8s Box.backB).toArray]) ?_ rfl ⟨rfl, Hb.out⟩
      generalize (u8s Box.sboxB).toArray = X at hl1 ⊢
      generalize (u8s Box.backB).toArray = Y at hl2 ⊢
      simp [results, Tryz.results48, asAddr, Result.andThen, hl1, hl2]
end Go.Proofs.YtdipflchmooakaaGreatDoor
