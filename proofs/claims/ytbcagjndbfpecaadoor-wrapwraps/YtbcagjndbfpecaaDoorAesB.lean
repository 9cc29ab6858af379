/-
  Package aes, helpers that turn a block in place: rotate, mix.
-/
import Derived.Test.YtbcagjndbfpecaaDoorAesA
import Derived.Test.YtbcagjndbfpecaaDoorAesG
namespace Go.Gar
open Go.RowKit
theorem alloc_row (w : World) (z : Array Value) (t : TypeId) (cs : List Value) : (w.alloc (.cells z t)).setRow w.heap.size cs.toArray = w.alloc (.cells cs.toArray t) := World.setRow_alloc_new w _ _ t
end Go.Gar
namespace Go.Proofs.YtbcagjndbfpecaaDoor
open Go.RowKit Go.Gar Go.Gar.Aes

theorem Tryd.undA16 : Tryd.prog.underlying 56 = some (.array 16 5) := by kernel_rfl
theorem Tryd.infoA16 : (Tryd.prog.info? 56).map (fun i => (i.zero, i.size)) = some (some (.agg (Array.replicate 16 (.int .u8 0))), 16) := by kernel_rfl
def zr16 : List Value := List.replicate 16 (.int .u8 0)
theorem zeroR16 (w : World) : (zeroValue 56).run Tryd.prog w = .ok (.agg zr16.toArray) w := by
  rw [(zero_of_info (P := Tryd.prog) Tryd.infoA16).1 w]; rfl
theorem sizeA16 (l : List UInt8) (h : l.length = 16) : (Tryd.prog.info? 56).map (·.size) = some (u8s l).length := by
  rw [u8s_len, h]; kernel_rfl

set_option maxHeartbeats 2000000 in
set_option maxRecDepth 100000 in
theorem rotate_1 (w : World) (gb : Nat) (l : List UInt8) (hl : l.length = 16) (hB : Blk w gb 56 (u8s l)) :
    Calls Tryd.prog 40 #[.pointer (some ⟨gb, 0, none⟩), .int .i64 1] w fun e w' => (∃ v, e = .returned v) ∧ Blk w' gb 56 (u8s (rot 1 l)) ∧ w.grownBy w' (some gb) := by
  have HL := Lib.hid hl
  have HBa := Lib.hid (hB.alloc (.cells (u8s l).toArray 56))
  have HF := Lib.hid (Blk.new w 56 (u8s l))
  have HG := Lib.hid (grown_alloc (World.grownBy.refl w (some gb)) (.cells (u8s l).toArray 56))
  have HNe : Hid (w.heap.size ≠ gb) := Lib.hid (by have := hB.lt; omega)
  have hld := run_loadVar_row (P := Tryd.prog) w gb 56 56 (u8s l).toArray (0, 0) _ hB Tryd.undA16 rfl (by simpa using sizeA16 l hl)
  have HZ := Lib.hid (Blk.new w 56 zr16)
  have HS := Lib.hid (sizeA16 l hl)
  have HZL : Hid (zr16.length = (u8s l).length) := Lib.hid (by rw [u8s_len, hl]; rfl)
  have HO := Lib.hid (u8s_one l)
  have HE := Lib.hid (alloc_row w zr16.toArray 56 (u8s l))
  have hL2 : Hid ((rot 1 l).length = l.length) := Lib.hid (by rw [rot_len, hl])
  clear hl hB
  go_enter Tryd.func40, Tryd.ntmps40
  go_wp2_with (first | refine wpList_load_arr_w 56 (.tmp 8) rfl rfl (u8s l).toArray hld (by kernel_rfl) ?_ | refine wpList_alloc_arr rfl 56 zr16.toArray rfl zeroR16 ?_ | refine wpList_store_arr rfl 56 (.tmp 4) (.tmp 9) w.heap.size _ _ rfl rfl rfl rfl HZ.out HS.out HZL.out HO.out ?_)
  rw [HE.out]
  clear hld HZ HS HZL HO HE
  generalize w.alloc (.cells (u8s l).toArray 56) = w1 at *
  go_loopw [10] (fun i w' => ∃ j : Nat, j ≤ 16 ∧ i = .int .i64 (j : Int) ∧ Blk w' gb 56 (u8s (prog l (rot 1 l) j)) ∧ Blk w' w.heap.size 56 (u8s l) ∧ w.grownBy w' (some gb)) (fun i _ => 16 - (intOf i).toNat)
  case atStart => exact ⟨0, by omega, rfl, by rw [prog_0]; exact HBa.out, HF.out, HG.out⟩
  case round =>
    obtain ⟨j, hj, rfl, hB, hF, hg⟩ := hrel
    clear HBa HF HG
    by_cases hlt : j < 16
    · obtain ⟨v0, hc1⟩ : ∃ v0, wr.cell? ⟨gb, j, none⟩ = some v0 := ⟨_, blk_byte hB (i := j) (c := at_ l j) (by rw [prog_get _ _ _ hL2.out (by rw [HL.out]; exact hlt), at_get (by rw [HL.out]; exact hlt)])⟩
      have hc2 := blk_byte hF (i := (j + 4 * (j % 4)) % 16) (c := at_ l ((j + 4 * (j % 4) * 1) % 16)) (by rw [show (j + 4 * (j % 4) * 1) % 16 = (j + 4 * (j % 4)) % 16 from by omega]; exact at_get (by rw [HL.out]; omega))
      have hz : (rot 1 l)[j]? = some (at_ l ((j + 4 * (j % 4) * 1) % 16)) := st_get _ _ hlt
      have hf := hB.frozen j
      have hS := hB.set_ j (.int .u8 ((at_ l ((j + 4 * (j % 4) * 1) % 16)).toNat : Int))
      rw [u8s_set, prog_set _ _ _ _ hL2.out hz] at hS
      have HS := Lib.hid hS
      have HF := Lib.hid (hF.far (p := ⟨gb, j, none⟩) HNe.out (.int .u8 ((at_ l ((j + 4 * (j % 4) * 1) % 16)).toNat : Int)))
      have Hg := Lib.hid (grown_set (i := j) hg (.int .u8 ((at_ l ((j + 4 * (j % 4) * 1) % 16)).toNat : Int)))
      have hx8 := (at_ l ((j + 4 * (j % 4) * 1) % 16)).toNat_lt
      clear hS hB hF hg hz
      generalize (at_ l ((j + 4 * (j % 4) * 1) % 16)).toNat = xn at *
      go_wp2
      go_region
      go_wp2
      exact ⟨⟨j + 1, by omega, by go_num, HS.out, HF.out, grown_re Hg.out rfl rfl rfl rfl⟩, by simp [intOf]; omega⟩
    · obtain rfl : j = 16 := by omega
      rw [prog_end _ _ _ HL.out.symm (by rw [rot_len])] at hB
      go_wp2
      refine bodyPost_end (results_none rfl _ _ _) rfl ?_
      exact ⟨⟨_, rfl⟩, hB, hg⟩
set_option maxHeartbeats 2000000 in
set_option maxRecDepth 100000 in
theorem rotate_3 (w : World) (gb : Nat) (l : List UInt8) (hl : l.length = 16) (hB : Blk w gb 56 (u8s l)) :
    Calls Tryd.prog 40 #[.pointer (some ⟨gb, 0, none⟩), .int .i64 3] w fun e w' => (∃ v, e = .returned v) ∧ Blk w' gb 56 (u8s (rot 3 l)) ∧ w.grownBy w' (some gb) := by
  have HL := Lib.hid hl
  have HBa := Lib.hid (hB.alloc (.cells (u8s l).toArray 56))
  have HF := Lib.hid (Blk.new w 56 (u8s l))
  have HG := Lib.hid (grown_alloc (World.grownBy.refl w (some gb)) (.cells (u8s l).toArray 56))
  have HNe : Hid (w.heap.size ≠ gb) := Lib.hid (by have := hB.lt; omega)
  have hld := run_loadVar_row (P := Tryd.prog) w gb 56 56 (u8s l).toArray (0, 0) _ hB Tryd.undA16 rfl (by simpa using sizeA16 l hl)
  have HZ := Lib.hid (Blk.new w 56 zr16)
  have HS := Lib.hid (sizeA16 l hl)
  have HZL : Hid (zr16.length = (u8s l).length) := Lib.hid (by rw [u8s_len, hl]; rfl)
  have HO := Lib.hid (u8s_one l)
  have HE := Lib.hid (alloc_row w zr16.toArray 56 (u8s l))
  have hL2 : Hid ((rot 3 l).length = l.length) := Lib.hid (by rw [rot_len, hl])
  clear hl hB
  go_enter Tryd.func40, Tryd.ntmps40
  go_wp2_with (first | refine wpList_load_arr_w 56 (.tmp 8) rfl rfl (u8s l).toArray hld (by kernel_rfl) ?_ | refine wpList_alloc_arr rfl 56 zr16.toArray rfl zeroR16 ?_ | refine wpList_store_arr rfl 56 (.tmp 4) (.tmp 9) w.heap.size _ _ rfl rfl rfl rfl HZ.out HS.out HZL.out HO.out ?_)
  rw [HE.out]
  clear hld HZ HS HZL HO HE
  generalize w.alloc (.cells (u8s l).toArray 56) = w1 at *
  go_loopw [10] (fun i w' => ∃ j : Nat, j ≤ 16 ∧ i = .int .i64 (j : Int) ∧ Blk w' gb 56 (u8s (prog l (rot 3 l) j)) ∧ Blk w' w.heap.size 56 (u8s l) ∧ w.grownBy w' (some gb)) (fun i _ => 16 - (intOf i).toNat)
  case atStart => exact ⟨0, by omega, rfl, by rw [prog_0]; exact HBa.out, HF.out, HG.out⟩
  case round =>
    obtain ⟨j, hj, rfl, hB, hF, hg⟩ := hrel
    clear HBa HF HG
    by_cases hlt : j < 16
    · obtain ⟨v0, hc1⟩ : ∃ v0, wr.cell? ⟨gb, j, none⟩ = some v0 := ⟨_, blk_byte hB (i := j) (c := at_ l j) (by rw [prog_get _ _ _ hL2.out (by rw [HL.out]; exact hlt), at_get (by rw [HL.out]; exact hlt)])⟩
      have hc2 := blk_byte hF (i := (j + 4 * (j % 4) * 3) % 16) (c := at_ l ((j + 4 * (j % 4) * 3) % 16)) (by rw [show (j + 4 * (j % 4) * 3) % 16 = (j + 4 * (j % 4) * 3) % 16 from by omega]; exact at_get (by rw [HL.out]; omega))
      have hz : (rot 3 l)[j]? = some (at_ l ((j + 4 * (j % 4) * 3) % 16)) := st_get _ _ hlt
      have hf := hB.frozen j
      have hS := hB.set_ j (.int .u8 ((at_ l ((j + 4 * (j % 4) * 3) % 16)).toNat : Int))
      rw [u8s_set, prog_set _ _ _ _ hL2.out hz] at hS
      have HS := Lib.hid hS
      have HF := Lib.hid (hF.far (p := ⟨gb, j, none⟩) HNe.out (.int .u8 ((at_ l ((j + 4 * (j % 4) * 3) % 16)).toNat : Int)))
      have Hg := Lib.hid (grown_set (i := j) hg (.int .u8 ((at_ l ((j + 4 * (j % 4) * 3) % 16)).toNat : Int)))
      have hx8 := (at_ l ((j + 4 * (j % 4) * 3) % 16)).toNat_lt
      clear hS hB hF hg hz
      generalize (at_ l ((j + 4 * (j % 4) * 3) % 16)).toNat = xn at *
      go_wp2
      go_region
      go_wp2
      exact ⟨⟨j + 1, by omega, by go_num, HS.out, HF.out, grown_re Hg.out rfl rfl rfl rfl⟩, by simp [intOf]; omega⟩
    · obtain rfl : j = 16 := by omega
      rw [prog_end _ _ _ HL.out.symm (by rw [rot_len])] at hB
      go_wp2
      refine bodyPost_end (results_none rfl _ _ _) rfl ?_
      exact ⟨⟨_, rfl⟩, hB, hg⟩

set_option maxHeartbeats 4000000 in
set_option maxRecDepth 100000 in
theorem mix_any (w : World) (gb gt o : Nat) (l : List UInt8) (T : Nat → UInt8 → UInt8) (hl : l.length = 16) (hB : Blk w gb 56 (u8s l)) (hT : ∀ j, j < 4 → Tbl w gt (o + j * 256) (T j)) (hne : gt ≠ gb) :
    Calls Tryd.prog 41 #[.pointer (some ⟨gb, 0, none⟩), .pointer (some ⟨gt, o, none⟩)] w fun e w' => (∃ v, e = .returned v) ∧ Blk w' gb 56 (u8s (mixT T l)) ∧ w.grownBy w' (some gb) := by
  have HL := Lib.hid hl
  have HT := Lib.hid hT
  have HN := Lib.hid hne
  have HBa := Lib.hid (hB.alloc (.cells (u8s l).toArray 56))
  have HF := Lib.hid (Blk.new w 56 (u8s l))
  have HG := Lib.hid (grown_alloc (World.grownBy.refl w (some gb)) (.cells (u8s l).toArray 56))
  have HNe : Hid (w.heap.size ≠ gb) := Lib.hid (by have := hB.lt; omega)
  have hld := run_loadVar_row (P := Tryd.prog) w gb 56 56 (u8s l).toArray (0, 0) _ hB Tryd.undA16 rfl (by simpa using sizeA16 l hl)
  have HZ := Lib.hid (Blk.new w 56 zr16)
  have HS := Lib.hid (sizeA16 l hl)
  have HZL : Hid (zr16.length = (u8s l).length) := Lib.hid (by rw [u8s_len, hl]; rfl)
  have HO := Lib.hid (u8s_one l)
  have HE := Lib.hid (alloc_row w zr16.toArray 56 (u8s l))
  have hL2 : Hid ((mixT T l).length = l.length) := Lib.hid (by rw [mixT_len, hl])
  have HMG : Hid (∀ i, i < 16 → (mixT T l)[i]? = some (mixA T l i 4)) := Lib.hid fun i hi => st_get _ _ hi
  clear hl hT hB hne
  go_enter Tryd.func41, Tryd.ntmps41
  go_wp2_with (first | refine wpList_load_arr_w 56 (.tmp 10) rfl rfl (u8s l).toArray hld (by kernel_rfl) ?_ | refine wpList_alloc_arr rfl 56 zr16.toArray rfl zeroR16 ?_ | refine wpList_store_arr rfl 56 (.tmp 4) (.tmp 11) w.heap.size _ _ rfl rfl rfl rfl HZ.out HS.out HZL.out HO.out ?_)
  rw [HE.out]
  clear hld HZ HS HZL HO HE
  generalize w.alloc (.cells (u8s l).toArray 56) = w1 at *
  go_loopw [12] (fun i w' => ∃ j : Nat, j ≤ 16 ∧ i = .int .i64 (j : Int) ∧ Blk w' gb 56 (u8s (prog l (mixT T l) j)) ∧ Blk w' w.heap.size 56 (u8s l) ∧ w.grownBy w' (some gb)) (fun i _ => 16 - (intOf i).toNat)
  case atStart => exact ⟨0, by omega, rfl, by rw [prog_0]; exact HBa.out, HF.out, HG.out⟩
  case round =>
    obtain ⟨i, hi, rfl, hB, hF, hg⟩ := hrel
    clear HBa HF HG
    by_cases hlt : i < 16
    · have hf := hB.frozen i
      obtain ⟨v0, hc0⟩ : ∃ v0, wr.cell? ⟨gb, i, none⟩ = some v0 := ⟨_, blk_byte hB (i := i) (c := at_ l i) (by rw [prog_get _ _ _ hL2.out (by rw [HL.out]; exact hlt), at_get (by rw [HL.out]; exact hlt)])⟩
      have hS := hB.set_ i (.int .u8 (((0 : UInt8)).toNat : Int))
      rw [u8s_set] at hS
      have HS0 : Hid (Blk (wr.setCell ⟨gb, i, none⟩ (.int .u8 0)) gb 56 (u8s ((prog l (mixT T l) i).set i (mixA T l i 0)))) := Lib.hid hS
      have HF0 := Lib.hid (hF.far (p := ⟨gb, i, none⟩) HNe.out (.int .u8 0))
      have Hg0 := Lib.hid (grown_set (i := i) hg (.int .u8 0))
      have HPL : Hid ((prog l (mixT T l) i).length = 16) := Lib.hid (by rw [prog_len _ _ _ hL2.out, HL.out])
      clear hS hB hF hg
      go_wp2
      generalize wr.setCell ⟨gb, i, none⟩ (.int .u8 0) = w2 at *
      clear hc0 hf
      go_loopw [25] (fun q w' => ∃ k : Nat, k ≤ 4 ∧ q = .int .i64 (k : Int) ∧ Blk w' gb 56 (u8s ((prog l (mixT T l) i).set i (mixA T l i k))) ∧ Blk w' w.heap.size 56 (u8s l) ∧ w.grownBy w' (some gb)) (fun q _ => 4 - (intOf q).toNat)
      case atStart => exact ⟨0, by omega, rfl, HS0.out, HF0.out, Hg0.out⟩
      case round =>
        obtain ⟨k, hk, rfl, hB, hF, hg⟩ := hrel
        clear HS0 HF0 Hg0
        by_cases hkl : k < 4
        · have hf := hB.frozen i
          have hc1 := blk_byte hB (i := i) (c := mixA T l i k) (by rw [List.getElem?_set_self (by rw [HPL.out]; exact hlt)])
          have hc2 := blk_byte hF (i := i - i % 4 + (i + k) % 4) (c := at_ l (i - i % 4 + (i % 4 + k) % 4)) (by rw [show (i % 4 + k) % 4 = (i + k) % 4 from by omega]; exact at_get (by rw [HL.out]; omega))
          have hc3 := (HT.out k hkl).grown hg (fun h => HN.out (Option.some.inj h)) (at_ l (i - i % 4 + (i % 4 + k) % 4))
          have hS := hB.set_ i (.int .u8 ((mixA T l i k ^^^ T k (at_ l (i - i % 4 + (i % 4 + k) % 4))).toNat : Int))
          rw [u8s_set, List.set_set, ← xor_byte] at hS
          have HS : Hid (Blk _ gb 56 (u8s ((prog l (mixT T l) i).set i (mixA T l i (k + 1))))) := Lib.hid hS
          have HF := Lib.hid (hF.far (p := ⟨gb, i, none⟩) HNe.out (.int .u8 (bits .xor .u8 ((mixA T l i k).toNat : Int) ((T k (at_ l (i - i % 4 + (i % 4 + k) % 4))).toNat : Int))))
          have Hg := Lib.hid (grown_set (i := i) hg (.int .u8 (bits .xor .u8 ((mixA T l i k).toNat : Int) ((T k (at_ l (i - i % 4 + (i % 4 + k) % 4))).toNat : Int))))
          have hx8 := (mixA T l i k).toNat_lt
          have hy8 := (at_ l (i - i % 4 + (i % 4 + k) % 4)).toNat_lt
          have hz8 := (T k (at_ l (i - i % 4 + (i % 4 + k) % 4))).toNat_lt
          clear hS hB hF hg
          generalize (mixA T l i k).toNat = xn at *
          generalize (T k (at_ l (i - i % 4 + (i % 4 + k) % 4))).toNat = zn at *
          generalize (at_ l (i - i % 4 + (i % 4 + k) % 4)).toNat = yn at *
          go_wp2
          go_region
          go_wp2
          exact ⟨⟨k + 1, by omega, by go_num, HS.out, HF.out, grown_re Hg.out rfl rfl rfl rfl⟩, by simp [intOf]; omega⟩
        · have hK : Hid (k = 4) := Lib.hid (by omega)
          have hB2 : Blk wr gb 56 (u8s (prog l (mixT T l) (i + 1))) := by
            rw [← prog_set l (mixT T l) i _ hL2.out (HMG.out i hlt), ← hK.out]; exact hB
          have HB2 := Lib.hid hB2
          have HF := Lib.hid hF
          have Hg := Lib.hid hg
          clear hB hB2 hF hg hK
          go_wp2
          exact ⟨⟨i + 1, by omega, by go_num, HB2.out, HF.out, Hg.out⟩, by simp [intOf]; omega⟩
    · obtain rfl : i = 16 := by omega
      rw [prog_end _ _ _ HL.out.symm (by rw [mixT_len])] at hB
      go_wp2
      refine bodyPost_end (results_none rfl _ _ _) rfl ?_
      exact ⟨⟨_, rfl⟩, hB, hg⟩
end Go.Proofs.YtbcagjndbfpecaaDoor
