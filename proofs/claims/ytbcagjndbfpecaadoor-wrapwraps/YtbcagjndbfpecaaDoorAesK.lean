/-
  Package aes: roundKeys.
-/
import Derived.Test.YtbcagjndbfpecaaDoorAesX
namespace Go.Proofs.YtbcagjndbfpecaaDoor
open Go.RowKit Go.Gar Go.Gar.Aes

theorem copy4 (w : World) (g o dl dc g5 : Nat) (t t5 : TypeId) (cs : List Value) (x : List UInt8) (hg : Blk w g t cs) (h5 : Blk w g5 t5 (u8s x)) (hx : x.length = 4) (hd : 4 ≤ dl) (hfit : o + 4 ≤ cs.length) :
    (Builtin.copy_ #[22, 22] 3 #[.slice (some ⟨g, o, none⟩) dl dc, .slice (some ⟨g5, 0, none⟩) 4 4]).run Tryd.prog w = .ok (goInt 4) (w.setRow g (seg cs o (u8s x)).toArray) := by
  have hlen : (u8s x).length = 4 := by rw [u8s_len, hx]
  have h := run_copy_row (P := Tryd.prog) w 22 22 3 5 g o dl dc ⟨g5, 0, none⟩ 4 4 cs.toArray t (u8s x) Tryd.und22 Tryd.size5 hg (by rw [hlen]; exact (Nat.min_eq_left hd).symm) (fun j v hv => by
    have : (⟨g5, 0, none⟩ : Addr).add j = ⟨g5, 0 + j, none⟩ := Addr.add_lit _ _ _
    rw [this, Nat.zero_add, h5.cell]; exact hv) (by rw [hlen]; simpa using hfit) (u8s_one _)
  rw [h, hlen]
  simp [seg, hlen]

theorem run_slice16 (W : World) (g o l : Nat) (z : Int) (hz : z = (l : Int)) (hl : l < 16) :
    (Instr.sliceAt 56 (.pointer (some ⟨g, o, none⟩)) (some (.int .i64 z)) none none).run Tryd.prog W = .ok (.slice (some ⟨g, o + l, none⟩) (16 - l) (16 - l)) W := by
  subst hz
  obtain ⟨i, hi, hs⟩ := Option.map_eq_some_iff.1 Tryd.size5
  have h1 : ¬ (16 = l) := by omega
  simp [Instr.sliceAt, Instr.sliceBounds, Instr.sureAddr, run_underlying Tryd.undA16 W, sizeOf, typeInfo, hi, hs, go_sem, h1]
  omega
theorem wpQuiet_slice {P : Program} {C : World → Prop} {ops : Array Oper} {Q : Act → Prop} {rest : List Oper} {o : Oper} {a : Act} (t : TypeId) (p q : Operand) (ho : o.op = .slice t p (some q) none none) {x y v : Value} (hp : a.eval p = x) (hq : a.eval q = y)
    (hrun : ∀ W, (Instr.sliceAt t x (some y) none none).run P W = .ok v W) (hw : Region.wanted o (yielded ops a.tmps) = true)
    (h : wpQuiet P ops C Q rest (a.put o.dst v)) : wpQuiet P ops C Q (o :: rest) a := by
  refine wpQuiet_val hw (fun W _ => ?_) h
  unfold execOp
  simp only [ho, hp, hq, Option.map_some, Option.map_none, Sem.run_bind, hrun W, Result.andThen_ok, Sem.run_pure]

set_option maxHeartbeats 1000000 in
set_option maxRecDepth 100000 in
theorem roundKeys_4 (w : World) (gw cap : Nat) (key W : List UInt8) (x : Nat → List UInt8) (hE : Exp 4 44 key W x) (hW : Blk w gw 51 (u8s W)) :
    Calls Tryd.prog 22 #[.slice (some ⟨gw, 0, none⟩) 44 cap] w fun e w' => ∃ g, e = .returned (.slice (some ⟨g, 0, none⟩) 11 11) ∧ w.heap.size ≤ g ∧ Blk w' g 56 (u8s W) ∧ Below w.heap.size w w' := by
  have HE := Lib.hid hE
  have HWb := Lib.hid hW
  have hmk : (Instr.makeSlice 45 (.int .i64 11) (.int .i64 11)).run Tryd.prog w = .ok (.slice (some ⟨w.heap.size, 0, none⟩) 11 11) (w.alloc (.cells (u8s (List.replicate (11 * 16) 0)).toArray 56)) := run_make_zeros (P := Tryd.prog) 45 56 16 (by omega) Tryd.und40 Tryd.make40 11 (by omega) (by omega) w
  have HB := Lib.hid (Blk.new w 56 (u8s (List.replicate (11 * 16) 0)))
  have Hb := Lib.hid (below_alloc w (.cells (u8s (List.replicate (11 * 16) 0)).toArray 56))
  have HKL : Hid (W.length = (List.replicate (11 * 16) (0 : UInt8)).length) := Lib.hid (by rw [hE.len, List.length_replicate])
  generalize hZ : List.replicate (11 * 16) (0 : UInt8) = Z at *
  generalize w.alloc (.cells (u8s Z).toArray 56) = w1 at *
  clear hE hZ hW
  go_enter Tryd.func22, Tryd.ntmps22
  go_wp2
  clear hmk
  go_loopw [12] (fun v w' => ∃ i : Nat, i ≤ 44 ∧ v = .int .i64 (i : Int) ∧ Blk w' w.heap.size 56 (u8s (prog Z W (i * 4))) ∧ Below w.heap.size w w') (fun v _ => 44 - (intOf v).toNat)
  case atStart => exact ⟨0, by omega, rfl, by rw [Nat.zero_mul, prog_0]; exact HB.out, Hb.out⟩
  case round =>
    obtain ⟨i, hi, rfl, hB, hbl⟩ := hrel
    clear HB Hb
    have HB := Lib.hid hB
    have Hb := Lib.hid hbl
    clear hB hbl
    by_cases hiM : i < 44
    · have d1 : decide ((i : Int) < 44) = true := by simp; omega
      have hld := run_loadVar_seg (P := Tryd.prog) (w := wr) (t := 51) (ty := 51) gw (i * 4) (u8s W) (u8s (x i)) (HWb.out.below Hb.out HWb.out.lt) (fun j v hv => by
          have hj : j < 4 := by
            have := (List.getElem?_eq_some_iff.1 hv).1
            rw [u8s_len, HE.out.word i hiM] at this
            exact this
          rw [u8s_get, four_get _ (HE.out.word i hiM) j hj] at hv
          rw [u8s_get, HE.out.get i hiM j hj]
          exact hv) Tryd.undA4 rfl (sizeA4 _ (HE.out.word i hiM))
      have hxl := HE.out.word i hiM
      have hSeg : seg (u8s (prog Z W (i * 4))) (i * 4) (u8s (x i)) = u8s (prog Z W ((i + 1) * 4)) := by
        rw [HE.out.cut i (by omega), show (i + 1) * 4 = i * 4 + 4 from by omega]
        exact prog_seg _ _ _ _ HKL.out (by rw [HE.out.len]; omega)
      have HLn : Hid ((u8s (prog Z W (i * 4))).length = 44 * 4) := Lib.hid (by rw [u8s_len, prog_len _ _ _ HKL.out, ← HKL.out, HE.out.len])
      obtain ⟨xx, hxx⟩ : ∃ xx, x i = xx := ⟨_, rfl⟩
      rw [hxx] at hld hxl hSeg
      have HT5 := Lib.hid (Blk.new wr 51 (u8s xx))
      have HB5 := Lib.hid (HB.out.alloc (.cells (u8s xx).toArray 51))
      have Hb5 := Lib.hid (Hb.out.alloc Hb.out.size (.cells (u8s xx).toArray 51))
      have HZ := Lib.hid (Blk.new wr 51 z4)
      have HSz := Lib.hid (sizeA4 xx hxl)
      have HZL : Hid (z4.length = (u8s xx).length) := Lib.hid (by rw [u8s_len, hxl]; rfl)
      have HO := Lib.hid (u8s_one xx)
      have HEa := Lib.hid (alloc_row wr z4.toArray 51 (u8s xx))
      have HXL := Lib.hid hxl
      have HSeg := Lib.hid hSeg
      clear hxx hxl hSeg HB Hb
      go_wp2_with (first | refine wpList_load_at 51 (.tmp 15) rfl rfl (u8s xx).toArray hld (by kernel_rfl) ?_ | refine wpList_alloc_arr rfl 51 z4.toArray rfl zero4 ?_ | refine wpList_store_arr rfl 51 (.tmp 5) (.tmp 16) wr.heap.size _ _ rfl rfl rfl rfl HZ.out HSz.out HZL.out HO.out ?_)
      rw [HEa.out]
      clear HZ HSz HZL HO HEa hld
      generalize wr.alloc (.cells (u8s xx).toArray 51) = w5 at *
      generalize wr.heap.size = g5 at *
      have hcp := copy4 w5.drew w.heap.size (i / 4 * 16 + i % 4 * 4) (16 - i % 4 * 4) (16 - i % 4 * 4) g5 56 51 (u8s (prog Z W (i * 4))) xx HB5.out.drew HT5.out.drew HXL.out (by omega) (by rw [HLn.out]; omega)
      have HR6 := Lib.hid (HB5.out.drew.row (seg (u8s (prog Z W (i * 4))) (i / 4 * 16 + i % 4 * 4) (u8s xx)))
      have Hb6 := Lib.hid (below_setRow Hb5.out.drew (Nat.le_refl _) (seg (u8s (prog Z W (i * 4))) (i / 4 * 16 + i % 4 * 4) (u8s xx)).toArray)
      have HR7 : Hid (Blk (w5.drew.setRow w.heap.size (seg (u8s (prog Z W (i * 4))) (i / 4 * 16 + i % 4 * 4) (u8s xx)).toArray) w.heap.size 56 (u8s (prog Z W ((i + 1) * 4)))) := Lib.hid (by
        rw [← HSeg.out]
        have := HR6.out
        rw [show i / 4 * 16 + i % 4 * 4 = i * 4 from by omega] at this ⊢
        exact this)
      generalize seg (u8s (prog Z W (i * 4))) (i / 4 * 16 + i % 4 * 4) (u8s xx) = row at *
      clear HR6 HB5 Hb5 HSeg HLn
      refine wp_region_G grows (by kernel_rfl) ?_
      generalize w5.drew = w6 at *
      refine segG (by kernel_rfl) (fun _ _ _ _ _ h => h) [0, 1, 2, 3, 4, 5, 6, 7, 8] [_, _, _, _, _, _, _, _, _] 1 rfl rfl (by kernel_rfl) ?_
      repeat (go_big_quiet_step (fail))
      refine wpQuiet_slice 56 (.tmp 20) (.tmp 23) rfl rfl rfl (fun W => run_slice16 W w.heap.size (i / 4 * 16) (i % 4 * 4) _ (by omega) (by omega)) (by kernel_rfl) ?_
      simp only [Act.put, List.setIfInBounds_toArray, List.set]
      repeat (go_big_quiet_step (fail))
      refine wpQuiet_nil ?_
      refine lateG 9 0 rfl (by kernel_rfl) (by kernel_rfl) rfl ?_
      go_wp2
      refine ⟨trivial, ?_⟩
      refine wpAnyG_done (by kernel_rfl) ?_
      go_wp2
      exact ⟨⟨i + 1, by omega, by go_num, HR7.out, Hb6.out⟩, by simp [intOf]; omega⟩
    · have hEn : prog Z W (i * 4) = W := prog_end _ _ _ (by rw [← HKL.out, HE.out.len]; omega) (by rw [HE.out.len]; omega)
      rw [hEn] at HB
      clear hEn
      have d1 : decide ((i : Int) < 44) = false := by simp; omega
      go_wp2
      go_ret
      exact ⟨_, rfl, Nat.le_refl _, HB.out, Hb.out⟩

set_option maxHeartbeats 1000000 in
set_option maxRecDepth 100000 in
theorem roundKeys_6 (w : World) (gw cap : Nat) (key W : List UInt8) (x : Nat → List UInt8) (hE : Exp 6 52 key W x) (hW : Blk w gw 51 (u8s W)) :
    Calls Tryd.prog 22 #[.slice (some ⟨gw, 0, none⟩) 52 cap] w fun e w' => ∃ g, e = .returned (.slice (some ⟨g, 0, none⟩) 13 13) ∧ w.heap.size ≤ g ∧ Blk w' g 56 (u8s W) ∧ Below w.heap.size w w' := by
  have HE := Lib.hid hE
  have HWb := Lib.hid hW
  have hmk : (Instr.makeSlice 45 (.int .i64 13) (.int .i64 13)).run Tryd.prog w = .ok (.slice (some ⟨w.heap.size, 0, none⟩) 13 13) (w.alloc (.cells (u8s (List.replicate (13 * 16) 0)).toArray 56)) := run_make_zeros (P := Tryd.prog) 45 56 16 (by omega) Tryd.und40 Tryd.make40 13 (by omega) (by omega) w
  have HB := Lib.hid (Blk.new w 56 (u8s (List.replicate (13 * 16) 0)))
  have Hb := Lib.hid (below_alloc w (.cells (u8s (List.replicate (13 * 16) 0)).toArray 56))
  have HKL : Hid (W.length = (List.replicate (13 * 16) (0 : UInt8)).length) := Lib.hid (by rw [hE.len, List.length_replicate])
  generalize hZ : List.replicate (13 * 16) (0 : UInt8) = Z at *
  generalize w.alloc (.cells (u8s Z).toArray 56) = w1 at *
  clear hE hZ hW
  go_enter Tryd.func22, Tryd.ntmps22
  go_wp2
  clear hmk
  go_loopw [12] (fun v w' => ∃ i : Nat, i ≤ 52 ∧ v = .int .i64 (i : Int) ∧ Blk w' w.heap.size 56 (u8s (prog Z W (i * 4))) ∧ Below w.heap.size w w') (fun v _ => 52 - (intOf v).toNat)
  case atStart => exact ⟨0, by omega, rfl, by rw [Nat.zero_mul, prog_0]; exact HB.out, Hb.out⟩
  case round =>
    obtain ⟨i, hi, rfl, hB, hbl⟩ := hrel
    clear HB Hb
    have HB := Lib.hid hB
    have Hb := Lib.hid hbl
    clear hB hbl
    by_cases hiM : i < 52
    · have d1 : decide ((i : Int) < 52) = true := by simp; omega
      have hld := run_loadVar_seg (P := Tryd.prog) (w := wr) (t := 51) (ty := 51) gw (i * 4) (u8s W) (u8s (x i)) (HWb.out.below Hb.out HWb.out.lt) (fun j v hv => by
          have hj : j < 4 := by
            have := (List.getElem?_eq_some_iff.1 hv).1
            rw [u8s_len, HE.out.word i hiM] at this
            exact this
          rw [u8s_get, four_get _ (HE.out.word i hiM) j hj] at hv
          rw [u8s_get, HE.out.get i hiM j hj]
          exact hv) Tryd.undA4 rfl (sizeA4 _ (HE.out.word i hiM))
      have hxl := HE.out.word i hiM
      have hSeg : seg (u8s (prog Z W (i * 4))) (i * 4) (u8s (x i)) = u8s (prog Z W ((i + 1) * 4)) := by
        rw [HE.out.cut i (by omega), show (i + 1) * 4 = i * 4 + 4 from by omega]
        exact prog_seg _ _ _ _ HKL.out (by rw [HE.out.len]; omega)
      have HLn : Hid ((u8s (prog Z W (i * 4))).length = 52 * 4) := Lib.hid (by rw [u8s_len, prog_len _ _ _ HKL.out, ← HKL.out, HE.out.len])
      obtain ⟨xx, hxx⟩ : ∃ xx, x i = xx := ⟨_, rfl⟩
      rw [hxx] at hld hxl hSeg
      have HT5 := Lib.hid (Blk.new wr 51 (u8s xx))
      have HB5 := Lib.hid (HB.out.alloc (.cells (u8s xx).toArray 51))
      have Hb5 := Lib.hid (Hb.out.alloc Hb.out.size (.cells (u8s xx).toArray 51))
      have HZ := Lib.hid (Blk.new wr 51 z4)
      have HSz := Lib.hid (sizeA4 xx hxl)
      have HZL : Hid (z4.length = (u8s xx).length) := Lib.hid (by rw [u8s_len, hxl]; rfl)
      have HO := Lib.hid (u8s_one xx)
      have HEa := Lib.hid (alloc_row wr z4.toArray 51 (u8s xx))
      have HXL := Lib.hid hxl
      have HSeg := Lib.hid hSeg
      clear hxx hxl hSeg HB Hb
      go_wp2_with (first | refine wpList_load_at 51 (.tmp 15) rfl rfl (u8s xx).toArray hld (by kernel_rfl) ?_ | refine wpList_alloc_arr rfl 51 z4.toArray rfl zero4 ?_ | refine wpList_store_arr rfl 51 (.tmp 5) (.tmp 16) wr.heap.size _ _ rfl rfl rfl rfl HZ.out HSz.out HZL.out HO.out ?_)
      rw [HEa.out]
      clear HZ HSz HZL HO HEa hld
      generalize wr.alloc (.cells (u8s xx).toArray 51) = w5 at *
      generalize wr.heap.size = g5 at *
      have hcp := copy4 w5.drew w.heap.size (i / 4 * 16 + i % 4 * 4) (16 - i % 4 * 4) (16 - i % 4 * 4) g5 56 51 (u8s (prog Z W (i * 4))) xx HB5.out.drew HT5.out.drew HXL.out (by omega) (by rw [HLn.out]; omega)
      have HR6 := Lib.hid (HB5.out.drew.row (seg (u8s (prog Z W (i * 4))) (i / 4 * 16 + i % 4 * 4) (u8s xx)))
      have Hb6 := Lib.hid (below_setRow Hb5.out.drew (Nat.le_refl _) (seg (u8s (prog Z W (i * 4))) (i / 4 * 16 + i % 4 * 4) (u8s xx)).toArray)
      have HR7 : Hid (Blk (w5.drew.setRow w.heap.size (seg (u8s (prog Z W (i * 4))) (i / 4 * 16 + i % 4 * 4) (u8s xx)).toArray) w.heap.size 56 (u8s (prog Z W ((i + 1) * 4)))) := Lib.hid (by
        rw [← HSeg.out]
        have := HR6.out
        rw [show i / 4 * 16 + i % 4 * 4 = i * 4 from by omega] at this ⊢
        exact this)
      generalize seg (u8s (prog Z W (i * 4))) (i / 4 * 16 + i % 4 * 4) (u8s xx) = row at *
      clear HR6 HB5 Hb5 HSeg HLn
      refine wp_region_G grows (by kernel_rfl) ?_
      generalize w5.drew = w6 at *
      refine segG (by kernel_rfl) (fun _ _ _ _ _ h => h) [0, 1, 2, 3, 4, 5, 6, 7, 8] [_, _, _, _, _, _, _, _, _] 1 rfl rfl (by kernel_rfl) ?_
      repeat (go_big_quiet_step (fail))
      refine wpQuiet_slice 56 (.tmp 20) (.tmp 23) rfl rfl rfl (fun W => run_slice16 W w.heap.size (i / 4 * 16) (i % 4 * 4) _ (by omega) (by omega)) (by kernel_rfl) ?_
      simp only [Act.put, List.setIfInBounds_toArray, List.set]
      repeat (go_big_quiet_step (fail))
      refine wpQuiet_nil ?_
      refine lateG 9 0 rfl (by kernel_rfl) (by kernel_rfl) rfl ?_
      go_wp2
      refine ⟨trivial, ?_⟩
      refine wpAnyG_done (by kernel_rfl) ?_
      go_wp2
      exact ⟨⟨i + 1, by omega, by go_num, HR7.out, Hb6.out⟩, by simp [intOf]; omega⟩
    · have hEn : prog Z W (i * 4) = W := prog_end _ _ _ (by rw [← HKL.out, HE.out.len]; omega) (by rw [HE.out.len]; omega)
      rw [hEn] at HB
      clear hEn
      have d1 : decide ((i : Int) < 52) = false := by simp; omega
      go_wp2
      go_ret
      exact ⟨_, rfl, Nat.le_refl _, HB.out, Hb.out⟩

set_option maxHeartbeats 1000000 in
set_option maxRecDepth 100000 in
theorem roundKeys_8 (w : World) (gw cap : Nat) (key W : List UInt8) (x : Nat → List UInt8) (hE : Exp 8 60 key W x) (hW : Blk w gw 51 (u8s W)) :
    Calls Tryd.prog 22 #[.slice (some ⟨gw, 0, none⟩) 60 cap] w fun e w' => ∃ g, e = .returned (.slice (some ⟨g, 0, none⟩) 15 15) ∧ w.heap.size ≤ g ∧ Blk w' g 56 (u8s W) ∧ Below w.heap.size w w' := by
  have HE := Lib.hid hE
  have HWb := Lib.hid hW
  have hmk : (Instr.makeSlice 45 (.int .i64 15) (.int .i64 15)).run Tryd.prog w = .ok (.slice (some ⟨w.heap.size, 0, none⟩) 15 15) (w.alloc (.cells (u8s (List.replicate (15 * 16) 0)).toArray 56)) := run_make_zeros (P := Tryd.prog) 45 56 16 (by omega) Tryd.und40 Tryd.make40 15 (by omega) (by omega) w
  have HB := Lib.hid (Blk.new w 56 (u8s (List.replicate (15 * 16) 0)))
  have Hb := Lib.hid (below_alloc w (.cells (u8s (List.replicate (15 * 16) 0)).toArray 56))
  have HKL : Hid (W.length = (List.replicate (15 * 16) (0 : UInt8)).length) := Lib.hid (by rw [hE.len, List.length_replicate])
  generalize hZ : List.replicate (15 * 16) (0 : UInt8) = Z at *
  generalize w.alloc (.cells (u8s Z).toArray 56) = w1 at *
  clear hE hZ hW
  go_enter Tryd.func22, Tryd.ntmps22
  go_wp2
  clear hmk
  go_loopw [12] (fun v w' => ∃ i : Nat, i ≤ 60 ∧ v = .int .i64 (i : Int) ∧ Blk w' w.heap.size 56 (u8s (prog Z W (i * 4))) ∧ Below w.heap.size w w') (fun v _ => 60 - (intOf v).toNat)
  case atStart => exact ⟨0, by omega, rfl, by rw [Nat.zero_mul, prog_0]; exact HB.out, Hb.out⟩
  case round =>
    obtain ⟨i, hi, rfl, hB, hbl⟩ := hrel
    clear HB Hb
    have HB := Lib.hid hB
    have Hb := Lib.hid hbl
    clear hB hbl
    by_cases hiM : i < 60
    · have d1 : decide ((i : Int) < 60) = true := by simp; omega
      have hld := run_loadVar_seg (P := Tryd.prog) (w := wr) (t := 51) (ty := 51) gw (i * 4) (u8s W) (u8s (x i)) (HWb.out.below Hb.out HWb.out.lt) (fun j v hv => by
          have hj : j < 4 := by
            have := (List.getElem?_eq_some_iff.1 hv).1
            rw [u8s_len, HE.out.word i hiM] at this
            exact this
          rw [u8s_get, four_get _ (HE.out.word i hiM) j hj] at hv
          rw [u8s_get, HE.out.get i hiM j hj]
          exact hv) Tryd.undA4 rfl (sizeA4 _ (HE.out.word i hiM))
      have hxl := HE.out.word i hiM
      have hSeg : seg (u8s (prog Z W (i * 4))) (i * 4) (u8s (x i)) = u8s (prog Z W ((i + 1) * 4)) := by
        rw [HE.out.cut i (by omega), show (i + 1) * 4 = i * 4 + 4 from by omega]
        exact prog_seg _ _ _ _ HKL.out (by rw [HE.out.len]; omega)
      have HLn : Hid ((u8s (prog Z W (i * 4))).length = 60 * 4) := Lib.hid (by rw [u8s_len, prog_len _ _ _ HKL.out, ← HKL.out, HE.out.len])
      obtain ⟨xx, hxx⟩ : ∃ xx, x i = xx := ⟨_, rfl⟩
      rw [hxx] at hld hxl hSeg
      have HT5 := Lib.hid (Blk.new wr 51 (u8s xx))
      have HB5 := Lib.hid (HB.out.alloc (.cells (u8s xx).toArray 51))
      have Hb5 := Lib.hid (Hb.out.alloc Hb.out.size (.cells (u8s xx).toArray 51))
      have HZ := Lib.hid (Blk.new wr 51 z4)
      have HSz := Lib.hid (sizeA4 xx hxl)
      have HZL : Hid (z4.length = (u8s xx).length) := Lib.hid (by rw [u8s_len, hxl]; rfl)
      have HO := Lib.hid (u8s_one xx)
      have HEa := Lib.hid (alloc_row wr z4.toArray 51 (u8s xx))
      have HXL := Lib.hid hxl
      have HSeg := Lib.hid hSeg
      clear hxx hxl hSeg HB Hb
      go_wp2_with (first | refine wpList_load_at 51 (.tmp 15) rfl rfl (u8s xx).toArray hld (by kernel_rfl) ?_ | refine wpList_alloc_arr rfl 51 z4.toArray rfl zero4 ?_ | refine wpList_store_arr rfl 51 (.tmp 5) (.tmp 16) wr.heap.size _ _ rfl rfl rfl rfl HZ.out HSz.out HZL.out HO.out ?_)
      rw [HEa.out]
      clear HZ HSz HZL HO HEa hld
      generalize wr.alloc (.cells (u8s xx).toArray 51) = w5 at *
      generalize wr.heap.size = g5 at *
      have hcp := copy4 w5.drew w.heap.size (i / 4 * 16 + i % 4 * 4) (16 - i % 4 * 4) (16 - i % 4 * 4) g5 56 51 (u8s (prog Z W (i * 4))) xx HB5.out.drew HT5.out.drew HXL.out (by omega) (by rw [HLn.out]; omega)
      have HR6 := Lib.hid (HB5.out.drew.row (seg (u8s (prog Z W (i * 4))) (i / 4 * 16 + i % 4 * 4) (u8s xx)))
      have Hb6 := Lib.hid (below_setRow Hb5.out.drew (Nat.le_refl _) (seg (u8s (prog Z W (i * 4))) (i / 4 * 16 + i % 4 * 4) (u8s xx)).toArray)
      have HR7 : Hid (Blk (w5.drew.setRow w.heap.size (seg (u8s (prog Z W (i * 4))) (i / 4 * 16 + i % 4 * 4) (u8s xx)).toArray) w.heap.size 56 (u8s (prog Z W ((i + 1) * 4)))) := Lib.hid (by
        rw [← HSeg.out]
        have := HR6.out
        rw [show i / 4 * 16 + i % 4 * 4 = i * 4 from by omega] at this ⊢
        exact this)
      generalize seg (u8s (prog Z W (i * 4))) (i / 4 * 16 + i % 4 * 4) (u8s xx) = row at *
      clear HR6 HB5 Hb5 HSeg HLn
      refine wp_region_G grows (by kernel_rfl) ?_
      generalize w5.drew = w6 at *
      refine segG (by kernel_rfl) (fun _ _ _ _ _ h => h) [0, 1, 2, 3, 4, 5, 6, 7, 8] [_, _, _, _, _, _, _, _, _] 1 rfl rfl (by kernel_rfl) ?_
      repeat (go_big_quiet_step (fail))
      refine wpQuiet_slice 56 (.tmp 20) (.tmp 23) rfl rfl rfl (fun W => run_slice16 W w.heap.size (i / 4 * 16) (i % 4 * 4) _ (by omega) (by omega)) (by kernel_rfl) ?_
      simp only [Act.put, List.setIfInBounds_toArray, List.set]
      repeat (go_big_quiet_step (fail))
      refine wpQuiet_nil ?_
      refine lateG 9 0 rfl (by kernel_rfl) (by kernel_rfl) rfl ?_
      go_wp2
      refine ⟨trivial, ?_⟩
      refine wpAnyG_done (by kernel_rfl) ?_
      go_wp2
      exact ⟨⟨i + 1, by omega, by go_num, HR7.out, Hb6.out⟩, by simp [intOf]; omega⟩
    · have hEn : prog Z W (i * 4) = W := prog_end _ _ _ (by rw [← HKL.out, HE.out.len]; omega) (by rw [HE.out.len]; omega)
      rw [hEn] at HB
      clear hEn
      have d1 : decide ((i : Int) < 60) = false := by simp; omega
      go_wp2
      go_ret
      exact ⟨_, rfl, Nat.le_refl _, HB.out, Hb.out⟩
end Go.Proofs.YtbcagjndbfpecaaDoor
