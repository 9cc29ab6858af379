/-
  Package aes, helpers that turn a block in place: rotate, mix. Package aes: Encrypt and Decrypt, of a cipher in memory (Rep). Package aes: Encrypt and Decrypt, walked.
-/
import Derived.Test.YtdipflchmooakaaGreatDoorWholeJ01
import Derived.Test.YtdipflchmooakaaGreatDoorWholeJ05
import Derived.Test.YtdipflchmooakaaGreatDoorWholeJ02
import Derived.Test.YtdipflchmooakaaGreatDoorWholeJ12
import Derived.Test.YtdipflchmooakaaGreatDoorWholeJ09
import Derived.Test.YtdipflchmooakaaGreatDoorWholeJ13
import Derived.BigRegion
import Derived.Deep.CutRange
import Derived.RegionTactic
import Derived.Test.YtdipflchmooakaaGreatDoorWholeJ06
set_option maxRecDepth 100000
namespace Go.Gar
open Go.RowKit
theorem alloc_row (w : World) (z : Array Value) (t : TypeId) (cs : List Value) : (w.alloc (.cells z t)).setRow w.heap.size cs.toArray = w.alloc (.cells cs.toArray t) := World.setRow_alloc_new w _ _ t
end Go.Gar
namespace Go.Proofs.YtdipflchmooakaaGreatDoor
open Go.RowKit Go.Gar Go.Gar.Aes

theorem Tryz.undA16 : Tryz.prog.underlying 32 = some (.array 16 5) := by kernel_rfl
theorem Tryz.infoA16 : (Tryz.prog.info? 32).map (fun i => (i.zero, i.size)) = some (some (.agg (Array.replicate 16 (.int .u8 0))), 16) := by kernel_rfl
def zr16 : List Value := List.replicate 16 (.int .u8 0)
theorem zeroR16 (w : World) : (zeroValue 32).run Tryz.prog w = .ok (.agg zr16.toArray) w := by
  rw [(zero_of_info (P := Tryz.prog) Tryz.infoA16).1 w]; rfl
theorem sizeA16 (l : List UInt8) (h : l.length = 16) : (Tryz.prog.info? 32).map (·.size) = some (u8s l).length := by
  rw [u8s_len, h]; kernel_rfl

set_option maxHeartbeats 2000000 in
set_option maxRecDepth 100000 in
theorem rotate_1 (w : World) (gb : Nat) (l : List UInt8) (hl : l.length = 16) (hB : Blk w gb 32 (u8s l)) :
    Calls Tryz.prog 79 #[.pointer (some ⟨gb, 0, none⟩), .int .i64 1] w fun e w' => (∃ v, e = .returned v) ∧ Blk w' gb 32 (u8s (rot 1 l)) ∧ w.grownBy w' (some gb) := by
  have HL := Lib.hid hl
  have HBa := Lib.hid (hB.alloc (.cells (u8s l).toArray 32))
  have HF := Lib.hid (Blk.new w 32 (u8s l))
  have HG := Lib.hid (grown_alloc (World.grownBy.refl w (some gb)) (.cells (u8s l).toArray 32))
  have HNe : Hid (w.heap.size ≠ gb) := Lib.hid (by have := hB.lt; omega)
  have hld := run_loadVar_row (P := Tryz.prog) w gb 32 32 (u8s l).toArray (0, 0) _ hB Tryz.undA16 rfl (by simpa using sizeA16 l hl)
  have HZ := Lib.hid (Blk.new w 32 zr16)
  have HS := Lib.hid (sizeA16 l hl)
  have HZL : Hid (zr16.length = (u8s l).length) := Lib.hid (by rw [u8s_len, hl]; rfl)
  have HO := Lib.hid (u8s_one l)
  have HE := Lib.hid (alloc_row w zr16.toArray 32 (u8s l))
  have hL2 : Hid ((rot 1 l).length = l.length) := Lib.hid (by rw [rot_len, hl])
  clear hl hB
  go_enter Tryz.func79, Tryz.ntmps79
  go_wp2_with (first | refine wpList_load_arr_w 32 (.tmp 8) rfl rfl (u8s l).toArray hld (by kernel_rfl) ?_ | refine wpList_alloc_arr rfl 32 zr16.toArray rfl zeroR16 ?_ | refine wpList_store_arr rfl 32 (.tmp 4) (.tmp 9) w.heap.size _ _ rfl rfl rfl rfl HZ.out HS.out HZL.out HO.out ?_)
  rw [HE.out]
  clear hld HZ HS HZL HO HE
  generalize w.alloc (.cells (u8s l).toArray 32) = w1 at *
  go_loopw [10] (fun i w' => ∃ j : Nat, j ≤ 16 ∧ i = .int .i64 (j : Int) ∧ Blk w' gb 32 (u8s (prog l (rot 1 l) j)) ∧ Blk w' w.heap.size 32 (u8s l) ∧ w.grownBy w' (some gb)) (fun i _ => 16 - (intOf i).toNat)
  case atStart => exact ⟨0, by omega, rfl, by rw [prog_0]; exact HBa.out, HF.out, HG.out⟩
  case round =>
    obtain ⟨j, hj, rfl, hB, hF, hg⟩ := hrel
    clear HBa HF HG
    by_cases hlt : j < 16
    · obtain ⟨v0, hc1⟩ : ∃ v0, wr.cell? ⟨gb, j, none⟩ = some v0 := ⟨_, blk_byte hB (i := j) (c := at_ l j) (by rw [prog_get _ _ _ hL2.out (by rw [HL.out]; exact hlt), at_get (by rw [HL.out]; exact hlt)])⟩
      have hc2 := blk_byte hF (i := (j + 4 * (j % 4)) % 16) (c := at_ l ((j + 4 * (j % 4) * 1) % 16)) (by rw [show (j + 4 * (j % 4) * 1) % 16 = (j + 4 * (j % 4)) % 16 from by omega]; exact at_get (by rw [HL.out]; omega))
      have hz : (rot 1 l)[j]? = some (at_ l ((j + 4 * (j % 4) * 1) % 16)) := st_get _ _ hlt
      have hf := hB.frozen j
      have hS := hB.set_ j (.int .u8 ((at_ l ((j + 4 * (j % 4) * 1) % 16)).toNat : Int))
      rw [u8s_set, prog_set _ _ _ _ hL2.out hz] at hS
      have HS := Lib.hid hS
      have HF := Lib.hid (hF.far (p := ⟨gb, j, none⟩) HNe.out (.int .u8 ((at_ l ((j + 4 * (j % 4) * 1) % 16)).toNat : Int)))
      have Hg := Lib.hid (grown_set (i := j) hg (.int .u8 ((at_ l ((j + 4 * (j % 4) * 1) % 16)).toNat : Int)))
      have hx8 := (at_ l ((j + 4 * (j % 4) * 1) % 16)).toNat_lt
      clear hS hB hF hg hz
      generalize (at_ l ((j + 4 * (j % 4) * 1) % 16)).toNat = xn at *
      go_wp2
      go_region
      go_wp2
      exact ⟨⟨j + 1, by omega, by go_num, HS.out, HF.out, grown_re Hg.out rfl rfl rfl rfl⟩, by simp [intOf]; omega⟩
    · obtain rfl : j = 16 := by omega
      rw [prog_end _ _ _ HL.out.symm (by rw [rot_len])] at hB
      go_wp2
      refine bodyPost_end (results_none rfl _ _ _) rfl ?_
      exact ⟨⟨_, rfl⟩, hB, hg⟩
set_option maxHeartbeats 2000000 in
set_option maxRecDepth 100000 in
theorem rotate_3 (w : World) (gb : Nat) (l : List UInt8) (hl : l.length = 16) (hB : Blk w gb 32 (u8s l)) :
    Calls Tryz.prog 79 #[.pointer (some ⟨gb, 0, none⟩), .int .i64 3] w fun e w' => (∃ v, e = .returned v) ∧ Blk w' gb 32 (u8s (rot 3 l)) ∧ w.grownBy w' (some gb) := by
  have HL := Lib.hid hl
  have HBa := Lib.hid (hB.alloc (.cells (u8s l).toArray 32))
  have HF := Lib.hid (Blk.new w 32 (u8s l))
  have HG := Lib.hid (grown_alloc (World.grownBy.refl w (some gb)) (.cells (u8s l).toArray 32))
  have HNe : Hid (w.heap.size ≠ gb) := Lib.hid (by have := hB.lt; omega)
  have hld := run_loadVar_row (P := Tryz.prog) w gb 32 32 (u8s l).toArray (0, 0) _ hB Tryz.undA16 rfl (by simpa using sizeA16 l hl)
  have HZ := Lib.hid (Blk.new w 32 zr16)
  have HS := Lib.hid (sizeA16 l hl)
  have HZL : Hid (zr16.length = (u8s l).length) := Lib.hid (by rw [u8s_len, hl]; rfl)
  have HO := Lib.hid (u8s_one l)
  have HE := Lib.hid (alloc_row w zr16.toArray 32 (u8s l))
  have hL2 : Hid ((rot 3 l).length = l.length) := Lib.hid (by rw [rot_len, hl])
  clear hl hB
  go_enter Tryz.func79, Tryz.ntmps79
  go_wp2_with (first | refine wpList_load_arr_w 32 (.tmp 8) rfl rfl (u8s l).toArray hld (by kernel_rfl) ?_ | refine wpList_alloc_arr rfl 32 zr16.toArray rfl zeroR16 ?_ | refine wpList_store_arr rfl 32 (.tmp 4) (.tmp 9) w.heap.size _ _ rfl rfl rfl rfl HZ.out HS.out HZL.out HO.out ?_)
  rw [HE.out]
  clear hld HZ HS HZL HO HE
  generalize w.alloc (.cells (u8s l).toArray 32) = w1 at *
  go_loopw [10] (fun i w' => ∃ j : Nat, j ≤ 16 ∧ i = .int .i64 (j : Int) ∧ Blk w' gb 32 (u8s (prog l (rot 3 l) j)) ∧ Blk w' w.heap.size 32 (u8s l) ∧ w.grownBy w' (some gb)) (fun i _ => 16 - (intOf i).toNat)
  case atStart => exact ⟨0, by omega, rfl, by rw [prog_0]; exact HBa.out, HF.out, HG.out⟩
  case round =>
    obtain ⟨j, hj, rfl, hB, hF, hg⟩ := hrel
    clear HBa HF HG
    by_cases hlt : j < 16
    · obtain ⟨v0, hc1⟩ : ∃ v0, wr.cell? ⟨gb, j, none⟩ = some v0 := ⟨_, blk_byte hB (i := j) (c := at_ l j) (by rw [prog_get _ _ _ hL2.out (by rw [HL.out]; exact hlt), at_get (by rw [HL.out]; exact hlt)])⟩
      have hc2 := blk_byte hF (i := (j + 4 * (j % 4) * 3) % 16) (c := at_ l ((j + 4 * (j % 4) * 3) % 16)) (by rw [show (j + 4 * (j % 4) * 3) % 16 = (j + 4 * (j % 4) * 3) % 16 from by omega]; exact at_get (by rw [HL.out]; omega))
      have hz : (rot 3 l)[j]? = some (at_ l ((j + 4 * (j % 4) * 3) % 16)) := st_get _ _ hlt
      have hf := hB.frozen j
      have hS := hB.set_ j (.int .u8 ((at_ l ((j + 4 * (j % 4) * 3) % 16)).toNat : Int))
      rw [u8s_set, prog_set _ _ _ _ hL2.out hz] at hS
      have HS := Lib.hid hS
      have HF := Lib.hid (hF.far (p := ⟨gb, j, none⟩) HNe.out (.int .u8 ((at_ l ((j + 4 * (j % 4) * 3) % 16)).toNat : Int)))
      have Hg := Lib.hid (grown_set (i := j) hg (.int .u8 ((at_ l ((j + 4 * (j % 4) * 3) % 16)).toNat : Int)))
      have hx8 := (at_ l ((j + 4 * (j % 4) * 3) % 16)).toNat_lt
      clear hS hB hF hg hz
      generalize (at_ l ((j + 4 * (j % 4) * 3) % 16)).toNat = xn at *
      go_wp2
      go_region
      go_wp2
      exact ⟨⟨j + 1, by omega, by go_num, HS.out, HF.out, grown_re Hg.out rfl rfl rfl rfl⟩, by simp [intOf]; omega⟩
    · obtain rfl : j = 16 := by omega
      rw [prog_end _ _ _ HL.out.symm (by rw [rot_len])] at hB
      go_wp2
      refine bodyPost_end (results_none rfl _ _ _) rfl ?_
      exact ⟨⟨_, rfl⟩, hB, hg⟩

set_option maxHeartbeats 4000000 in
set_option maxRecDepth 100000 in
theorem mix_any (w : World) (gb gt o : Nat) (l : List UInt8) (T : Nat → UInt8 → UInt8) (hl : l.length = 16) (hB : Blk w gb 32 (u8s l)) (hT : ∀ j, j < 4 → Tbl w gt (o + j * 256) (T j)) (hne : gt ≠ gb) :
    Calls Tryz.prog 80 #[.pointer (some ⟨gb, 0, none⟩), .pointer (some ⟨gt, o, none⟩)] w fun e w' => (∃ v, e = .returned v) ∧ Blk w' gb 32 (u8s (mixT T l)) ∧ w.grownBy w' (some gb) := by
  have HL := Lib.hid hl
  have HT := Lib.hid hT
  have HN := Lib.hid hne
  have HBa := Lib.hid (hB.alloc (.cells (u8s l).toArray 32))
  have HF := Lib.hid (Blk.new w 32 (u8s l))
  have HG := Lib.hid (grown_alloc (World.grownBy.refl w (some gb)) (.cells (u8s l).toArray 32))
  have HNe : Hid (w.heap.size ≠ gb) := Lib.hid (by have := hB.lt; omega)
  have hld := run_loadVar_row (P := Tryz.prog) w gb 32 32 (u8s l).toArray (0, 0) _ hB Tryz.undA16 rfl (by simpa using sizeA16 l hl)
  have HZ := Lib.hid (Blk.new w 32 zr16)
  have HS := Lib.hid (sizeA16 l hl)
  have HZL : Hid (zr16.length = (u8s l).length) := Lib.hid (by rw [u8s_len, hl]; rfl)
  have HO := Lib.hid (u8s_one l)
  have HE := Lib.hid (alloc_row w zr16.toArray 32 (u8s l))
  have hL2 : Hid ((mixT T l).length = l.length) := Lib.hid (by rw [mixT_len, hl])
  have HMG : Hid (∀ i, i < 16 → (mixT T l)[i]? = some (mixA T l i 4)) := Lib.hid fun i hi => st_get _ _ hi
  clear hl hT hB hne
  go_enter Tryz.func80, Tryz.ntmps80
  go_wp2_with (first | refine wpList_load_arr_w 32 (.tmp 10) rfl rfl (u8s l).toArray hld (by kernel_rfl) ?_ | refine wpList_alloc_arr rfl 32 zr16.toArray rfl zeroR16 ?_ | refine wpList_store_arr rfl 32 (.tmp 4) (.tmp 11) w.heap.size _ _ rfl rfl rfl rfl HZ.out HS.out HZL.out HO.out ?_)
  rw [HE.out]
  clear hld HZ HS HZL HO HE
  generalize w.alloc (.cells (u8s l).toArray 32) = w1 at *
  go_loopw [12] (fun i w' => ∃ j : Nat, j ≤ 16 ∧ i = .int .i64 (j : Int) ∧ Blk w' gb 32 (u8s (prog l (mixT T l) j)) ∧ Blk w' w.heap.size 32 (u8s l) ∧ w.grownBy w' (some gb)) (fun i _ => 16 - (intOf i).toNat)
  case atStart => exact ⟨0, by omega, rfl, by rw [prog_0]; exact HBa.out, HF.out, HG.out⟩
  case round =>
    obtain ⟨i, hi, rfl, hB, hF, hg⟩ := hrel
    clear HBa HF HG
    by_cases hlt : i < 16
    · have hf := hB.frozen i
      obtain ⟨v0, hc0⟩ : ∃ v0, wr.cell? ⟨gb, i, none⟩ = some v0 := ⟨_, blk_byte hB (i := i) (c := at_ l i) (by rw [prog_get _ _ _ hL2.out (by rw [HL.out]; exact hlt), at_get (by rw [HL.out]; exact hlt)])⟩
      have hS := hB.set_ i (.int .u8 (((0 : UInt8)).toNat : Int))
      rw [u8s_set] at hS
      have HS0 : Hid (Blk (wr.setCell ⟨gb, i, none⟩ (.int .u8 0)) gb 32 (u8s ((prog l (mixT T l) i).set i (mixA T l i 0)))) := Lib.hid hS
      have HF0 := Lib.hid (hF.far (p := ⟨gb, i, none⟩) HNe.out (.int .u8 0))
      have Hg0 := Lib.hid (grown_set (i := i) hg (.int .u8 0))
      have HPL : Hid ((prog l (mixT T l) i).length = 16) := Lib.hid (by rw [prog_len _ _ _ hL2.out, HL.out])
      clear hS hB hF hg
      go_wp2
      generalize wr.setCell ⟨gb, i, none⟩ (.int .u8 0) = w2 at *
      clear hc0 hf
      go_loopw [25] (fun q w' => ∃ k : Nat, k ≤ 4 ∧ q = .int .i64 (k : Int) ∧ Blk w' gb 32 (u8s ((prog l (mixT T l) i).set i (mixA T l i k))) ∧ Blk w' w.heap.size 32 (u8s l) ∧ w.grownBy w' (some gb)) (fun q _ => 4 - (intOf q).toNat)
      case atStart => exact ⟨0, by omega, rfl, HS0.out, HF0.out, Hg0.out⟩
      case round =>
        obtain ⟨k, hk, rfl, hB, hF, hg⟩ := hrel
        clear HS0 HF0 Hg0
        by_cases hkl : k < 4
        · have hf := hB.frozen i
          have hc1 := blk_byte hB (i := i) (c := mixA T l i k) (by rw [List.getElem?_set_self (by rw [HPL.out]; exact hlt)])
          have hc2 := blk_byte hF (i := i - i % 4 + (i + k) % 4) (c := at_ l (i - i % 4 + (i % 4 + k) % 4)) (by rw [show (i % 4 + k) % 4 = (i + k) % 4 from by omega]; exact at_get (by rw [HL.out]; omega))
          have hc3 := (HT.out k hkl).grown hg (fun h => HN.out (Option.some.inj h)) (at_ l (i - i % 4 + (i % 4 + k) % 4))
          have hS := hB.set_ i (.int .u8 ((mixA T l i k ^^^ T k (at_ l (i - i % 4 + (i % 4 + k) % 4))).toNat : Int))
          rw [u8s_set, List.set_set, ← xor_byte] at hS
          have HS : Hid (Blk _ gb 32 (u8s ((prog l (mixT T l) i).set i (mixA T l i (k + 1))))) := Lib.hid hS
          have HF := Lib.hid (hF.far (p := ⟨gb, i, none⟩) HNe.out (.int .u8 (bits .xor .u8 ((mixA T l i k).toNat : Int) ((T k (at_ l (i - i % 4 + (i % 4 + k) % 4))).toNat : Int))))
          have Hg := Lib.hid (grown_set (i := i) hg (.int .u8 (bits .xor .u8 ((mixA T l i k).toNat : Int) ((T k (at_ l (i - i % 4 + (i % 4 + k) % 4))).toNat : Int))))
          have hx8 := (mixA T l i k).toNat_lt
          have hy8 := (at_ l (i - i % 4 + (i % 4 + k) % 4)).toNat_lt
          have hz8 := (T k (at_ l (i - i % 4 + (i % 4 + k) % 4))).toNat_lt
          clear hS hB hF hg
          generalize (mixA T l i k).toNat = xn at *
          generalize (T k (at_ l (i - i % 4 + (i % 4 + k) % 4))).toNat = zn at *
          generalize (at_ l (i - i % 4 + (i % 4 + k) % 4)).toNat = yn at *
          go_wp2
          go_region
          go_wp2
          exact ⟨⟨k + 1, by omega, by go_num, HS.out, HF.out, grown_re Hg.out rfl rfl rfl rfl⟩, by simp [intOf]; omega⟩
        · have hK : Hid (k = 4) := Lib.hid (by omega)
          have hB2 : Blk wr gb 32 (u8s (prog l (mixT T l) (i + 1))) := by
            rw [← prog_set l (mixT T l) i _ hL2.out (HMG.out i hlt), ← hK.out]; exact hB
          have HB2 := Lib.hid hB2
          have HF := Lib.hid hF
          have Hg := Lib.hid hg
          clear hB hB2 hF hg hK
          go_wp2
          exact ⟨⟨i + 1, by omega, by go_num, HB2.out, HF.out, Hg.out⟩, by simp [intOf]; omega⟩
    · obtain rfl : i = 16 := by omega
      rw [prog_end _ _ _ HL.out.symm (by rw [mixT_len])] at hB
      go_wp2
      refine bodyPost_end (results_none rfl _ _ _) rfl ?_
      exact ⟨⟨_, rfl⟩, hB, hg⟩
end Go.Proofs.YtdipflchmooakaaGreatDoor
namespace Go.Proofs.YtdipflchmooakaaGreatDoor
open Go.RowKit Go.Gar Go.Gar.Aes

/-- The cipher in block gc is made of key. -/
structure Rep (w : World) (gc : Nat) (key : List UInt8) : Prop where
  there : Tbl w gc 0 sb
  back : Tbl w gc 256 ib
  mixed : ∀ j, j < 4 → Tbl w gc (512 + j * 256) (facs [2, 3, 1, 1] j)
  parted : ∀ j, j < 4 → Tbl w gc (1536 + j * 256) (facs [14, 11, 13, 9] j)
  keys : ∃ gk cap, w.cell? ⟨gc, 2560, none⟩ = some (.slice (some ⟨gk, 0, none⟩) (roundsOf key + 1) cap) ∧ ∀ r, r ≤ roundsOf key → ∀ i, i < 16 → w.cell? ⟨gk, r * 16 + i, none⟩ = some (.int .u8 ((at_ (keysOf key r) i).toNat : Int))
theorem cell_lt {w : World} {b o : Nat} {v : Value} (h : w.cell? ⟨b, o, none⟩ = some v) : b < w.heap.size := by
  unfold World.cell? at h
  rcases Nat.lt_or_ge b w.heap.size with h' | h'
  · exact h'
  · simp [Array.getElem?_eq_none h'] at h
theorem cell_stays {w w' : World} (hb : Below w.heap.size w w') {b o : Nat} {v : Value} (h : w.cell? ⟨b, o, none⟩ = some v) : w'.cell? ⟨b, o, none⟩ = some v := by
  have hlt := cell_lt h
  unfold World.cell? at h ⊢
  rw [← h]
  simp only [hb.block b hlt]
theorem tbl_stays {w w' : World} (hb : Below w.heap.size w w') {g o : Nat} {f : UInt8 → UInt8} (h : Tbl w g o f) : Tbl w' g o f := fun a => cell_stays hb (h a)
theorem Rep.stay {w w' : World} {gc : Nat} {key : List UInt8} (h : Rep w gc key) (hb : Below w.heap.size w w') : Rep w' gc key where
  there := tbl_stays hb h.there
  back := tbl_stays hb h.back
  mixed := fun j hj => tbl_stays hb (h.mixed j hj)
  parted := fun j hj => tbl_stays hb (h.parted j hj)
  keys := by
    obtain ⟨gk, cap, h1, h2⟩ := h.keys
    exact ⟨gk, cap, cell_stays hb h1, fun r hr i hi => cell_stays hb (h2 r hr i hi)⟩

/-- The block and the result in memory. -/
structure Two16 (w0 w : World) (l : List UInt8) : Prop where
  x : Blk w w0.heap.size 32 (u8s l)
  r : Blk w (w0.heap.size + 1) 32 zr16
  b : Below w0.heap.size w0 w
theorem Two16.start (w : World) (l : List UInt8) : Two16 w ((w.alloc (.cells (u8s l).toArray 32)).alloc (.cells zr16.toArray 32)) l where
  x := (Blk.new w _ _).alloc _
  r := by
    have := Blk.new (w.alloc (.cells (u8s l).toArray 32)) 32 zr16
    rwa [World.size_alloc] at this
  b := (below_alloc w _).alloc (by rw [World.size_alloc]; omega) _
theorem Two16.turn {w0 w w' : World} {l k : List UInt8} (h : Two16 w0 w l) (hB : Blk w' w0.heap.size 32 (u8s k)) (hg : w.grownBy w' (some w0.heap.size)) : Two16 w0 w' k :=
  ⟨hB, h.r.grown hg (by simp), ⟨hg.os.trans h.b.os, hg.tape.trans h.b.tape, hg.output.trans h.b.output, Nat.le_trans h.b.size hg.size, fun k hk => (hg.block k (Nat.lt_of_lt_of_le hk h.b.size) (by simp; omega)).trans (h.b.block k hk)⟩⟩
theorem Two16.load {w0 w : World} {l : List UInt8} (h : Two16 w0 w l) (hl : l.length = 16) : (loadVar 32 ⟨w0.heap.size, 0, none⟩).run Tryz.prog w = .ok (.agg (u8s l).toArray) w :=
  run_loadVar_row (P := Tryz.prog) w w0.heap.size 32 32 (u8s l).toArray (0, 0) _ h.x Tryz.undA16 rfl (by simpa using sizeA16 l hl)
theorem Two16.back {w0 w : World} {l : List UInt8} (h : Two16 w0 w l) (hl : l.length = 16) : (loadVar 32 ⟨w0.heap.size + 1, 0, none⟩).run Tryz.prog (w.setRow (w0.heap.size + 1) (u8s l).toArray) = .ok (.agg (u8s l).toArray) (w.setRow (w0.heap.size + 1) (u8s l).toArray) :=
  run_loadVar_row (P := Tryz.prog) _ (w0.heap.size + 1) 32 32 (u8s l).toArray (0, 0) _ (h.r.row _) Tryz.undA16 rfl (by simpa using sizeA16 l hl)

/-- What the walks need of a cipher, in every later world. -/
structure Ready (w0 : World) (gc gk nk cap : Nat) (K : Nat → List UInt8) : Prop where
  lt : gc < w0.heap.size
  ltk : gk < w0.heap.size
  there : Tbl w0 gc 0 sb
  back : Tbl w0 gc 256 ib
  mixed : ∀ j, j < 4 → Tbl w0 gc (512 + j * 256) (facs [2, 3, 1, 1] j)
  parted : ∀ j, j < 4 → Tbl w0 gc (1536 + j * 256) (facs [14, 11, 13, 9] j)
  cell : w0.cell? ⟨gc, 2560, none⟩ = some (.slice (some ⟨gk, 0, none⟩) nk cap)
  keys : ∀ r, r < nk → ∀ i, i < 16 → w0.cell? ⟨gk, r * 16 + i, none⟩ = some (.int .u8 ((at_ (K r) i).toNat : Int))
theorem Ready.at_ {w0 w : World} {gc gk nk cap : Nat} {K : Nat → List UInt8} (h : Ready w0 gc gk nk cap K) (hb : Below w0.heap.size w0 w) : w.cell? ⟨gc, 2560, none⟩ = some (.slice (some ⟨gk, 0, none⟩) nk cap) := cell_stays hb h.cell
theorem Rep.ready {w : World} {gc : Nat} {key : List UInt8} (h : Rep w gc key) : ∃ gk cap, Ready w gc gk (roundsOf key + 1) cap (keysOf key) := by
  obtain ⟨gk, cap, h1, h2⟩ := h.keys
  exact ⟨gk, cap, cell_lt h1, cell_lt (h2 0 (by omega) 0 (by omega)), h.there, h.back, h.mixed, h.parted, h1, fun r hr i hi => h2 r (by omega) i hi⟩
theorem Ready.add {w0 w : World} {gc gk nk cap : Nat} {K : Nat → List UInt8} (h : Ready w0 gc gk nk cap K) {l : List UInt8} (hl : l.length = 16) (h2 : Two16 w0 w l) (r o : Nat) (ho : o = r * 16) (hr : r < nk) :
    Calls Tryz.prog 77 #[.pointer (some ⟨w0.heap.size, 0, none⟩), .pointer (some ⟨gk, o, none⟩)] w fun e w' => (∃ v, e = .returned v) ∧ Two16 w0 w' (addK l (K r)) := by
  subst ho
  refine (add_any w w0.heap.size gk (r * 16) l (K r) hl h2.x (fun i hi => cell_stays h2.b (h.keys r hr i hi)) (by have := h.ltk; omega)).mono ?_
  rintro e w' ⟨he, hB, hg⟩
  exact ⟨he, h2.turn hB hg⟩
theorem Ready.sub {w0 w : World} {gc gk nk cap : Nat} {K : Nat → List UInt8} (h : Ready w0 gc gk nk cap K) {l : List UInt8} (hl : l.length = 16) (h2 : Two16 w0 w l) :
    Calls Tryz.prog 78 #[.pointer (some ⟨w0.heap.size, 0, none⟩), .pointer (some ⟨gc, 0, none⟩)] w fun e w' => (∃ v, e = .returned v) ∧ Two16 w0 w' (l.map sb) := by
  refine (replace_any w w0.heap.size gc 0 l sb hl h2.x (tbl_stays h2.b h.there) (by have := h.lt; omega)).mono ?_
  rintro e w' ⟨he, hB, hg⟩
  exact ⟨he, h2.turn hB hg⟩
theorem Ready.unsub {w0 w : World} {gc gk nk cap : Nat} {K : Nat → List UInt8} (h : Ready w0 gc gk nk cap K) {l : List UInt8} (hl : l.length = 16) (h2 : Two16 w0 w l) :
    Calls Tryz.prog 78 #[.pointer (some ⟨w0.heap.size, 0, none⟩), .pointer (some ⟨gc, 256, none⟩)] w fun e w' => (∃ v, e = .returned v) ∧ Two16 w0 w' (l.map ib) := by
  refine (replace_any w w0.heap.size gc 256 l ib hl h2.x (tbl_stays h2.b h.back) (by have := h.lt; omega)).mono ?_
  rintro e w' ⟨he, hB, hg⟩
  exact ⟨he, h2.turn hB hg⟩
theorem Two16.rot1 {w0 w : World} {l : List UInt8} (hl : l.length = 16) (h2 : Two16 w0 w l) :
    Calls Tryz.prog 79 #[.pointer (some ⟨w0.heap.size, 0, none⟩), .int .i64 1] w fun e w' => (∃ v, e = .returned v) ∧ Two16 w0 w' (rot 1 l) := by
  refine (rotate_1 w w0.heap.size l hl h2.x).mono ?_
  rintro e w' ⟨he, hB, hg⟩
  exact ⟨he, h2.turn hB hg⟩
theorem Two16.rot3 {w0 w : World} {l : List UInt8} (hl : l.length = 16) (h2 : Two16 w0 w l) :
    Calls Tryz.prog 79 #[.pointer (some ⟨w0.heap.size, 0, none⟩), .int .i64 3] w fun e w' => (∃ v, e = .returned v) ∧ Two16 w0 w' (rot 3 l) := by
  refine (rotate_3 w w0.heap.size l hl h2.x).mono ?_
  rintro e w' ⟨he, hB, hg⟩
  exact ⟨he, h2.turn hB hg⟩
theorem Ready.mix {w0 w : World} {gc gk nk cap : Nat} {K : Nat → List UInt8} (h : Ready w0 gc gk nk cap K) {l : List UInt8} (hl : l.length = 16) (h2 : Two16 w0 w l) :
    Calls Tryz.prog 80 #[.pointer (some ⟨w0.heap.size, 0, none⟩), .pointer (some ⟨gc, 512, none⟩)] w fun e w' => (∃ v, e = .returned v) ∧ Two16 w0 w' (mix l) := by
  refine (mix_any w w0.heap.size gc 512 l (facs [2, 3, 1, 1]) hl h2.x (fun j hj => tbl_stays h2.b (h.mixed j hj)) (by have := h.lt; omega)).mono ?_
  rintro e w' ⟨he, hB, hg⟩
  rw [mixT_there] at hB
  exact ⟨he, h2.turn hB hg⟩
theorem Ready.unmix {w0 w : World} {gc gk nk cap : Nat} {K : Nat → List UInt8} (h : Ready w0 gc gk nk cap K) {l : List UInt8} (hl : l.length = 16) (h2 : Two16 w0 w l) :
    Calls Tryz.prog 80 #[.pointer (some ⟨w0.heap.size, 0, none⟩), .pointer (some ⟨gc, 1536, none⟩)] w fun e w' => (∃ v, e = .returned v) ∧ Two16 w0 w' (mix3 l) := by
  refine (mix_any w w0.heap.size gc 1536 l (facs [14, 11, 13, 9]) hl h2.x (fun j hj => tbl_stays h2.b (h.parted j hj)) (by have := h.lt; omega)).mono ?_
  rintro e w' ⟨he, hB, hg⟩
  rw [mixT_back l hl] at hB
  exact ⟨he, h2.turn hB hg⟩
end Go.Proofs.YtdipflchmooakaaGreatDoor
namespace Go.Proofs.YtdipflchmooakaaGreatDoor
open Go.RowKit Go.Gar Go.Gar.Aes

set_option maxHeartbeats 1000000 in
set_option maxRecDepth 100000 in
theorem enc_nil (w : World) (l : List UInt8) (hl : l.length = 16) :
    Calls Tryz.prog 43 #[.pointer none, .agg (u8s l).toArray] w fun e w' => e = .returned (.agg (u8s l).toArray) ∧ Below w.heap.size w w' := by
  have H2 := Two16.start w l
  have hs1 : (w.alloc (.cells (u8s l).toArray 32)).heap.size = w.heap.size + 1 := World.size_alloc _ _
  obtain ⟨w1, hw1⟩ : ∃ w1, w.alloc (.cells (u8s l).toArray 32) = w1 := ⟨_, rfl⟩
  rw [hw1] at H2 hs1
  obtain ⟨w2, hw2⟩ : ∃ w2, w1.alloc (.cells zr16.toArray 32) = w2 := ⟨_, rfl⟩
  rw [hw2] at H2
  have HW1 := Lib.hid hw1
  have HW2 := Lib.hid hw2
  have HS1 := Lib.hid hs1
  have HE := Lib.hid H2
  have hld := H2.load hl
  have hbk := H2.back hl
  have HSe := Lib.hid (sizeA16 l hl)
  have HZe : Hid (zr16.length = (u8s l).length) := Lib.hid (by rw [u8s_len, hl]; rfl)
  have HOe := Lib.hid (u8s_one l)
  have HbE := Lib.hid (below_setRow H2.b (by omega : w.heap.size ≤ w.heap.size + 1) (u8s l).toArray)
  clear hl hw1 hw2 hs1 H2
  go_enter Tryz.func43, Tryz.ntmps43
  go_wp2_with (first | (refine wpList_box_arr rfl 32 (.tmp 1) (u8s l).toArray rfl rfl ?_; rw [HW1.out]) | (refine wpList_alloc_arr rfl 32 zr16.toArray rfl zeroR16 ?_; rw [HW2.out, HS1.out]))
  refine (ready_nil w2).mono ?_
  rintro e w3 ⟨rfl, rfl⟩
  go_wp2_with (first | refine wpList_load_arr_w 32 (.tmp 3) rfl rfl (u8s l).toArray hld (by kernel_rfl) ?_ | refine wpList_store_arr rfl 32 (.tmp 4) (.tmp 9) (w.heap.size + 1) _ _ rfl rfl rfl rfl HE.out.r HSe.out HZe.out HOe.out ?_)
  try simp only [Act.put, List.setIfInBounds_toArray, List.set]
  refine bodyPost_ret (v := .agg (u8s l).toArray) ?_ rfl ⟨rfl, HbE.out⟩
  generalize (u8s l).toArray = X at hbk ⊢
  simp [results, Tryz.results43, asAddr, hbk]
set_option maxHeartbeats 1000000 in
set_option maxRecDepth 100000 in
theorem dec_nil (w : World) (l : List UInt8) (hl : l.length = 16) :
    Calls Tryz.prog 55 #[.pointer none, .agg (u8s l).toArray] w fun e w' => e = .returned (.agg (u8s l).toArray) ∧ Below w.heap.size w w' := by
  have H2 := Two16.start w l
  have hs1 : (w.alloc (.cells (u8s l).toArray 32)).heap.size = w.heap.size + 1 := World.size_alloc _ _
  obtain ⟨w1, hw1⟩ : ∃ w1, w.alloc (.cells (u8s l).toArray 32) = w1 := ⟨_, rfl⟩
  rw [hw1] at H2 hs1
  obtain ⟨w2, hw2⟩ : ∃ w2, w1.alloc (.cells zr16.toArray 32) = w2 := ⟨_, rfl⟩
  rw [hw2] at H2
  have HW1 := Lib.hid hw1
  have HW2 := Lib.hid hw2
  have HS1 := Lib.hid hs1
  have HE := Lib.hid H2
  have hld := H2.load hl
  have hbk := H2.back hl
  have HSe := Lib.hid (sizeA16 l hl)
  have HZe : Hid (zr16.length = (u8s l).length) := Lib.hid (by rw [u8s_len, hl]; rfl)
  have HOe := Lib.hid (u8s_one l)
  have HbE := Lib.hid (below_setRow H2.b (by omega : w.heap.size ≤ w.heap.size + 1) (u8s l).toArray)
  clear hl hw1 hw2 hs1 H2
  go_enter Tryz.func55, Tryz.ntmps55
  go_wp2_with (first | (refine wpList_box_arr rfl 32 (.tmp 1) (u8s l).toArray rfl rfl ?_; rw [HW1.out]) | (refine wpList_alloc_arr rfl 32 zr16.toArray rfl zeroR16 ?_; rw [HW2.out, HS1.out]))
  refine (ready_nil w2).mono ?_
  rintro e w3 ⟨rfl, rfl⟩
  go_wp2_with (first | refine wpList_load_arr_w 32 (.tmp 3) rfl rfl (u8s l).toArray hld (by kernel_rfl) ?_ | refine wpList_store_arr rfl 32 (.tmp 4) (.tmp 9) (w.heap.size + 1) _ _ rfl rfl rfl rfl HE.out.r HSe.out HZe.out HOe.out ?_)
  try simp only [Act.put, List.setIfInBounds_toArray, List.set]
  refine bodyPost_ret (v := .agg (u8s l).toArray) ?_ rfl ⟨rfl, HbE.out⟩
  generalize (u8s l).toArray = X at hbk ⊢
  simp [results, Tryz.results55, asAddr, hbk]

set_option maxHeartbeats 2000000 in
set_option maxRecDepth 100000 in
theorem encrypt_at (w : World) (gc gk nk cap last : Nat) (K : Nat → List UInt8) (l : List UInt8) (hl : l.length = 16) (hR : Ready w gc gk nk cap K) (hn : nk = last + 1) (h1 : 1 ≤ last) (h2 : last ≤ 100) :
    Calls Tryz.prog 43 #[.pointer (some ⟨gc, 0, none⟩), .agg (u8s l).toArray] w fun e w' => e = .returned (.agg (u8s (enc K last l)).toArray) ∧ Below w.heap.size w w' := by
  have HR := Lib.hid hR
  have HL := Lib.hid hl
  have HN := Lib.hid hn
  have hnk : 2 ≤ nk ∧ nk ≤ 101 := by omega
  have H2 := Two16.start w l
  have hs1 : (w.alloc (.cells (u8s l).toArray 32)).heap.size = w.heap.size + 1 := World.size_alloc _ _
  obtain ⟨w1, hw1⟩ : ∃ w1, w.alloc (.cells (u8s l).toArray 32) = w1 := ⟨_, rfl⟩
  rw [hw1] at H2 hs1
  obtain ⟨w2, hw2⟩ : ∃ w2, w1.alloc (.cells zr16.toArray 32) = w2 := ⟨_, rfl⟩
  rw [hw2] at H2
  have HW1 := Lib.hid hw1
  have HW2 := Lib.hid hw2
  have HS1 := Lib.hid hs1
  have HH := Lib.hid H2
  have hcell := hR.at_ H2.b
  clear hl hR hw1 hw2 hs1 H2 hn h1 h2
  obtain ⟨hnk1, hnk2⟩ := hnk
  go_enter Tryz.func43, Tryz.ntmps43
  go_wp2_with (first | (refine wpList_box_arr rfl 32 (.tmp 1) (u8s l).toArray rfl rfl ?_; rw [HW1.out]) | (refine wpList_alloc_arr rfl 32 zr16.toArray rfl zeroR16 ?_; rw [HW2.out, HS1.out]))
  refine (ready_yes w2 gc nk cap _ (by omega) hcell).mono ?_
  rintro e w3 ⟨rfl, rfl⟩
  go_wp2_with fail
  refine (HR.out.add HL.out HH.out 0 0 rfl (by omega)).mono ?_
  rintro e w4 ⟨⟨rv, rfl⟩, h4⟩
  have H4 : Hid (Two16 w w4 (encN K last l 0)) := Lib.hid h4
  clear h4 HH hcell HW1 HW2 HS1
  go_wp2_with fail
  go_loopw [5] (fun v w' => ∃ r : Nat, r < nk ∧ v = .int .i64 ((r : Int) + 1) ∧ Two16 w w' (encN K last l r)) (fun v _ => nk - (intOf v).toNat)
  case atStart => exact ⟨0, by omega, rfl, H4.out⟩
  case round =>
    obtain ⟨r, hr, rfl, h5⟩ := hrel
    clear H4
    have hcell := HR.out.at_ h5.b
    have H5 := Lib.hid h5
    clear h5
    by_cases hlt : r + 1 < nk
    · have d1 : decide ((r : Int) + 1 < (nk : Int)) = true := by simp; omega
      go_wp2_with fail
      refine (HR.out.sub (encN_len K last l r) H5.out).mono ?_
      rintro e w6 ⟨⟨rv6, rfl⟩, h6⟩
      have H6 := Lib.hid h6
      clear h6 hcell
      go_wp2_with fail
      refine (Two16.rot1 (by rw [List.length_map]; exact encN_len K last l r) H6.out).mono ?_
      rintro e w7 ⟨⟨rv7, rfl⟩, h7⟩
      rw [shift_rot _ (encN_len K last l r)] at h7
      have hcell := HR.out.at_ h7.b
      have H7 := Lib.hid h7
      clear h7 H6 H5
      by_cases hlm : r + 1 < last
      · have d2 : decide ((r : Int) + 1 < (nk : Int) - 1) = true := by have := HN.out; simp; omega
        go_wp2_with fail
        refine (HR.out.mix (shift_len _) H7.out).mono ?_
        rintro e w8 ⟨⟨rv8, rfl⟩, h8⟩
        have hcell := HR.out.at_ h8.b
        have H8 := Lib.hid h8
        clear h8
        go_wp2_with fail
        refine (HR.out.add (mix_len _) H8.out (r + 1) _ rfl (by omega)).mono ?_
        rintro e w9 ⟨⟨rv9, rfl⟩, h9⟩
        have H9 : Hid (Two16 w w9 (encN K last l (r + 1))) := Lib.hid (by rw [encN, if_pos hlm]; exact h9)
        clear h9
        go_wp2
        exact ⟨⟨r + 1, by omega, by go_num, H9.out⟩, by simp [intOf]; omega⟩
      · have d2 : decide ((r : Int) + 1 < (nk : Int) - 1) = false := by have := HN.out; simp; omega
        have H8 := H7
        go_wp2_with fail
        refine (HR.out.add (shift_len _) H8.out (r + 1) _ rfl (by omega)).mono ?_
        rintro e w9 ⟨⟨rv9, rfl⟩, h9⟩
        have H9 : Hid (Two16 w w9 (encN K last l (r + 1))) := Lib.hid (by rw [encN, if_neg hlm]; exact h9)
        clear h9
        go_wp2
        exact ⟨⟨r + 1, by omega, by go_num, H9.out⟩, by simp [intOf]; omega⟩
    · have d1 : decide ((r : Int) + 1 < (nk : Int)) = false := by simp; omega
      have hrl : r = last := by have := HN.out; omega
      have HE : Hid (Two16 w wr (enc K last l)) := Lib.hid (by unfold enc; have := H5.out; rw [hrl] at this; exact this)
      have hel := enc_len K last l
      clear hrl H5
      obtain ⟨out, hout⟩ : ∃ out, enc K last l = out := ⟨_, rfl⟩
      rw [hout] at HE hel
      have HOut := Lib.hid hout
      clear hout
      have hld := HE.out.load hel
      have hbk := HE.out.back hel
      have HSe := Lib.hid (sizeA16 out hel)
      have HZe : Hid (zr16.length = (u8s out).length) := Lib.hid (by rw [u8s_len, hel]; rfl)
      have HOe := Lib.hid (u8s_one out)
      have HbE := Lib.hid (below_setRow HE.out.b (by omega : w.heap.size ≤ w.heap.size + 1) (u8s out).toArray)
      go_wp2_with (first | refine wpList_load_arr_w 32 (.tmp 3) rfl rfl (u8s out).toArray hld (by kernel_rfl) ?_ | refine wpList_store_arr rfl 32 (.tmp 4) (.tmp 49) (w.heap.size + 1) _ _ rfl rfl rfl rfl HE.out.r HSe.out HZe.out HOe.out ?_)
      try simp only [Act.put, List.setIfInBounds_toArray, List.set]
      refine bodyPost_ret (v := .agg (u8s out).toArray) ?_ rfl ⟨by rw [HOut.out], HbE.out⟩
      generalize (u8s out).toArray = X at hbk ⊢
      simp [results, Tryz.results43, asAddr, hbk]
set_option maxHeartbeats 2000000 in
set_option maxRecDepth 100000 in
theorem decrypt_at (w : World) (gc gk nk cap last : Nat) (K : Nat → List UInt8) (l : List UInt8) (hl : l.length = 16) (hR : Ready w gc gk nk cap K) (hn : nk = last + 1) (h1 : 1 ≤ last) (h2 : last ≤ 100) :
    Calls Tryz.prog 55 #[.pointer (some ⟨gc, 0, none⟩), .agg (u8s l).toArray] w fun e w' => e = .returned (.agg (u8s (dec K last l)).toArray) ∧ Below w.heap.size w w' := by
  have HR := Lib.hid hR
  have HL := Lib.hid hl
  have HN := Lib.hid hn
  have hnk : 2 ≤ nk ∧ nk ≤ 101 := by omega
  have H2 := Two16.start w l
  have hs1 : (w.alloc (.cells (u8s l).toArray 32)).heap.size = w.heap.size + 1 := World.size_alloc _ _
  obtain ⟨w1, hw1⟩ : ∃ w1, w.alloc (.cells (u8s l).toArray 32) = w1 := ⟨_, rfl⟩
  rw [hw1] at H2 hs1
  obtain ⟨w2, hw2⟩ : ∃ w2, w1.alloc (.cells zr16.toArray 32) = w2 := ⟨_, rfl⟩
  rw [hw2] at H2
  have HW1 := Lib.hid hw1
  have HW2 := Lib.hid hw2
  have HS1 := Lib.hid hs1
  have HH := Lib.hid H2
  have hcell := hR.at_ H2.b
  clear hl hR hw1 hw2 hs1 H2 hn h1 h2
  obtain ⟨hnk1, hnk2⟩ := hnk
  go_enter Tryz.func55, Tryz.ntmps55
  go_wp2_with (first | (refine wpList_box_arr rfl 32 (.tmp 1) (u8s l).toArray rfl rfl ?_; rw [HW1.out]) | (refine wpList_alloc_arr rfl 32 zr16.toArray rfl zeroR16 ?_; rw [HW2.out, HS1.out]))
  refine (ready_yes w2 gc nk cap _ (by omega) hcell).mono ?_
  rintro e w3 ⟨rfl, rfl⟩
  have H4 : Hid (Two16 w w3 (decN K last l 0)) := HH
  clear HH HW1 HW2 HS1
  go_wp2_with fail
  clear hcell
  go_loopw [5] (fun v w' => ∃ r : Nat, r < nk ∧ v = .int .i64 ((r : Int)) ∧ Two16 w w' (decN K last l (last - r))) (fun v _ => (intOf v).toNat)
  case atStart => exact ⟨nk - 1, by omega, by go_num, by have := HN.out; rw [show last - (nk - 1) = 0 from by omega]; exact H4.out⟩
  case round =>
    obtain ⟨r, hr, rfl, h5⟩ := hrel
    clear H4
    have hcell := HR.out.at_ h5.b
    have hl5 := decN_len K last l HL.out (last - r)
    by_cases hlt : 0 < r
    · have hD : decN K last l (last - (r - 1)) = unshift (if r < last then mix3 (addK (decN K last l (last - r)) (K r)) else addK (decN K last l (last - r)) (K r)) := by
        have := HN.out
        rw [show last - (r - 1) = (last - r) + 1 from by omega, decN, show last - (last - r) = r from by omega]
      have HD := Lib.hid hD
      have H5 := Lib.hid h5
      have HL5 := Lib.hid hl5
      clear h5 hl5 hD
      go_wp2_with fail
      refine (HR.out.add HL5.out H5.out r _ rfl hr).mono ?_
      rintro e w6 ⟨⟨rv6, rfl⟩, h6⟩
      have hcell := HR.out.at_ h6.b
      have H6 := Lib.hid h6
      clear h6
      by_cases hlm : r < last
      · have d2 : decide ((r : Int) < (nk : Int) - 1) = true := by have := HN.out; simp; omega
        rw [if_pos hlm] at HD
        go_wp2_with fail
        refine (HR.out.unmix (addK_len _ _) H6.out).mono ?_
        rintro e w7 ⟨⟨rv7, rfl⟩, h7⟩
        have H7 := Lib.hid h7
        have HL7 : Hid ((mix3 (addK (decN K last l (last - r)) (K r))).length = 16) := Lib.hid (mix_len _)
        clear h7 hcell
        generalize mix3 (addK (decN K last l (last - r)) (K r)) = m7 at *
        go_wp2_with fail
        refine (Two16.rot3 HL7.out H7.out).mono ?_
        rintro e w8 ⟨⟨rv8, rfl⟩, h8⟩
        have H8 := Lib.hid h8
        clear h8
        go_wp2_with fail
        refine (HR.out.unsub (rot_len _ _) H8.out).mono ?_
        rintro e w9 ⟨⟨rv9, rfl⟩, h9⟩
        rw [unshift_rot, ← HD.out] at h9
        have H9 := Lib.hid h9
        clear h9
        go_wp2
        exact ⟨⟨r - 1, by omega, by go_num, H9.out⟩, by simp [intOf]; omega⟩
      · have d2 : decide ((r : Int) < (nk : Int) - 1) = false := by have := HN.out; simp; omega
        rw [if_neg hlm] at HD
        have H7 := H6
        have HL7 : Hid ((addK (decN K last l (last - r)) (K r)).length = 16) := Lib.hid (addK_len _ _)
        generalize addK (decN K last l (last - r)) (K r) = m7 at *
        go_wp2_with fail
        refine (Two16.rot3 HL7.out H7.out).mono ?_
        rintro e w8 ⟨⟨rv8, rfl⟩, h8⟩
        have H8 := Lib.hid h8
        clear h8
        go_wp2_with fail
        refine (HR.out.unsub (rot_len _ _) H8.out).mono ?_
        rintro e w9 ⟨⟨rv9, rfl⟩, h9⟩
        rw [unshift_rot, ← HD.out] at h9
        have H9 := Lib.hid h9
        clear h9
        go_wp2
        exact ⟨⟨r - 1, by omega, by go_num, H9.out⟩, by simp [intOf]; omega⟩
    · obtain rfl : r = 0 := by omega
      rw [Nat.sub_zero] at h5 hl5
      have H5 := Lib.hid h5
      have HL5 := Lib.hid hl5
      clear h5 hl5
      go_wp2_with fail
      refine (HR.out.add HL5.out H5.out 0 0 rfl (by omega)).mono ?_
      rintro e w9 ⟨⟨rv9, rfl⟩, h9⟩
      have HE : Hid (Two16 w w9 (dec K last l)) := Lib.hid h9
      have hel := dec_len K last l
      clear h9 H5 HL5 hcell
      obtain ⟨out, hout⟩ : ∃ out, dec K last l = out := ⟨_, rfl⟩
      rw [hout] at HE hel
      have HOut := Lib.hid hout
      clear hout
      have hld := HE.out.load hel
      have hbk := HE.out.back hel
      have HSe := Lib.hid (sizeA16 out hel)
      have HZe : Hid (zr16.length = (u8s out).length) := Lib.hid (by rw [u8s_len, hel]; rfl)
      have HOe := Lib.hid (u8s_one out)
      have HbE := Lib.hid (below_setRow HE.out.b (by omega : w.heap.size ≤ w.heap.size + 1) (u8s out).toArray)
      go_wp2_with (first | refine wpList_load_arr_w 32 (.tmp 3) rfl rfl (u8s out).toArray hld (by kernel_rfl) ?_ | refine wpList_store_arr rfl 32 (.tmp 4) (.tmp 50) (w.heap.size + 1) _ _ rfl rfl rfl rfl HE.out.r HSe.out HZe.out HOe.out ?_)
      try simp only [Act.put, List.setIfInBounds_toArray, List.set]
      refine bodyPost_ret (v := .agg (u8s out).toArray) ?_ rfl ⟨by rw [HOut.out], HbE.out⟩
      generalize (u8s out).toArray = X at hbk ⊢
      simp [results, Tryz.results55, asAddr, hbk]
end Go.Proofs.YtdipflchmooakaaGreatDoor
