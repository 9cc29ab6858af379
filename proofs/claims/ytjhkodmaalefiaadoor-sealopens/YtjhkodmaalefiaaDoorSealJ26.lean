/-
  Package aes, helpers that turn a block in place: rotate, mix. Package aes: Encrypt and Decrypt, of a cipher in memory (Rep). The landed cbc: sum, the XOR of two blocks; bytes.Equal, bytes.HasSuffix: contracts. A range over an iterator, as in ShGe, where the caller may rest on what the iterator has yielded so far (Pf). Of no program.
-/
import Derived.Test.YtjhkodmaalefiaaDoorSealJ25
import Derived.Test.YtjhkodmaalefiaaDoorSealJ02
import Derived.Test.YtjhkodmaalefiaaDoorSealJ09
import Derived.RegionTactic
import Derived.BigRegion
import Derived.RangeFuncNested
import Derived.RangeFuncBound
import Derived.RangeFuncCalls
import Derived.RangeFuncLeaves
import Derived.Shelf.Abstract
import Derived.WalkKit
import Derived.Test.YtjhkodmaalefiaaDoorSealJ01
set_option maxRecDepth 100000
namespace Go.Gar
open Go.RowKit
theorem alloc_row (w : World) (z : Array Value) (t : TypeId) (cs : List Value) : (w.alloc (.cells z t)).setRow w.heap.size cs.toArray = w.alloc (.cells cs.toArray t) := World.setRow_alloc_new w _ _ t
end Go.Gar
namespace Go.Proofs.YtjhkodmaalefiaaDoor
open Go.RowKit Go.Gar Go.Gar.Aes

theorem Tryd.undA16 : Tryd.prog.underlying 25 = some (.array 16 5) := by kernel_rfl
theorem Tryd.infoA16 : (Tryd.prog.info? 25).map (fun i => (i.zero, i.size)) = some (some (.agg (Array.replicate 16 (.int .u8 0))), 16) := by kernel_rfl
def zr16 : List Value := List.replicate 16 (.int .u8 0)
theorem zeroR16 (w : World) : (zeroValue 25).run Tryd.prog w = .ok (.agg zr16.toArray) w := by
  rw [(zero_of_info (P := Tryd.prog) Tryd.infoA16).1 w]; rfl
theorem sizeA16 (l : List UInt8) (h : l.length = 16) : (Tryd.prog.info? 25).map (·.size) = some (u8s l).length := by
  rw [u8s_len, h]; kernel_rfl

set_option maxHeartbeats 2000000 in
set_option maxRecDepth 100000 in
theorem rotate_1 (w : World) (gb : Nat) (l : List UInt8) (hl : l.length = 16) (hB : Blk w gb 25 (u8s l)) :
    Calls Tryd.prog 68 #[.pointer (some ⟨gb, 0, none⟩), .int .i64 1] w fun e w' => (∃ v, e = .returned v) ∧ Blk w' gb 25 (u8s (rot 1 l)) ∧ w.grownBy w' (some gb) := by
  have HL := Lib.hid hl
  have HBa := Lib.hid (hB.alloc (.cells (u8s l).toArray 25))
  have HF := Lib.hid (Blk.new w 25 (u8s l))
  have HG := Lib.hid (grown_alloc (World.grownBy.refl w (some gb)) (.cells (u8s l).toArray 25))
  have HNe : Hid (w.heap.size ≠ gb) := Lib.hid (by have := hB.lt; omega)
  have hld := run_loadVar_row (P := Tryd.prog) w gb 25 25 (u8s l).toArray (0, 0) _ hB Tryd.undA16 rfl (by simpa using sizeA16 l hl)
  have HZ := Lib.hid (Blk.new w 25 zr16)
  have HS := Lib.hid (sizeA16 l hl)
  have HZL : Hid (zr16.length = (u8s l).length) := Lib.hid (by rw [u8s_len, hl]; rfl)
  have HO := Lib.hid (u8s_one l)
  have HE := Lib.hid (alloc_row w zr16.toArray 25 (u8s l))
  have hL2 : Hid ((rot 1 l).length = l.length) := Lib.hid (by rw [rot_len, hl])
  clear hl hB
  go_enter Tryd.func68, Tryd.ntmps68
  go_wp2_with (first | refine wpList_load_arr_w 25 (.tmp 8) rfl rfl (u8s l).toArray hld (by kernel_rfl) ?_ | refine wpList_alloc_arr rfl 25 zr16.toArray rfl zeroR16 ?_ | refine wpList_store_arr rfl 25 (.tmp 4) (.tmp 9) w.heap.size _ _ rfl rfl rfl rfl HZ.out HS.out HZL.out HO.out ?_)
  rw [HE.out]
  clear hld HZ HS HZL HO HE
  generalize w.alloc (.cells (u8s l).toArray 25) = w1 at *
  go_loopw [10] (fun i w' => ∃ j : Nat, j ≤ 16 ∧ i = .int .i64 (j : Int) ∧ Blk w' gb 25 (u8s (prog l (rot 1 l) j)) ∧ Blk w' w.heap.size 25 (u8s l) ∧ w.grownBy w' (some gb)) (fun i _ => 16 - (intOf i).toNat)
  case atStart => exact ⟨0, by omega, rfl, by rw [prog_0]; exact HBa.out, HF.out, HG.out⟩
  case round =>
    obtain ⟨j, hj, rfl, hB, hF, hg⟩ := hrel
    clear HBa HF HG
    by_cases hlt : j < 16
    · obtain ⟨v0, hc1⟩ : ∃ v0, wr.cell? ⟨gb, j, none⟩ = some v0 := ⟨_, blk_byte hB (i := j) (c := at_ l j) (by rw [prog_get _ _ _ hL2.out (by rw [HL.out]; exact hlt), at_get (by rw [HL.out]; exact hlt)])⟩
      have hc2 := blk_byte hF (i := (j + 4 * (j % 4)) % 16) (c := at_ l ((j + 4 * (j % 4) * 1) % 16)) (by rw [show (j + 4 * (j % 4) * 1) % 16 = (j + 4 * (j % 4)) % 16 from by omega]; exact at_get (by rw [HL.out]; omega))
      have hz : (rot 1 l)[j]? = some (at_ l ((j + 4 * (j % 4) * 1) % 16)) := st_get _ _ hlt
      have hf := hB.frozen j
      have hS := hB.set_ j (.int .u8 ((at_ l ((j + 4 * (j % 4) * 1) % 16)).toNat : Int))
      rw [u8s_set, prog_set _ _ _ _ hL2.out hz] at hS
      have HS := Lib.hid hS
      have HF := Lib.hid (hF.far (p := ⟨gb, j, none⟩) HNe.out (.int .u8 ((at_ l ((j + 4 * (j % 4) * 1) % 16)).toNat : Int)))
      have Hg := Lib.hid (grown_set (i := j) hg (.int .u8 ((at_ l ((j + 4 * (j % 4) * 1) % 16)).toNat : Int)))
      have hx8 := (at_ l ((j + 4 * (j % 4) * 1) % 16)).toNat_lt
      clear hS hB hF hg hz
      generalize (at_ l ((j + 4 * (j % 4) * 1) % 16)).toNat = xn at *
      go_wp2
      go_region
      go_wp2
      exact ⟨⟨j + 1, by omega, by go_num, HS.out, HF.out, grown_re Hg.out rfl rfl rfl rfl⟩, by simp [intOf]; omega⟩
    · obtain rfl : j = 16 := by omega
      rw [prog_end _ _ _ HL.out.symm (by rw [rot_len])] at hB
      go_wp2
      refine bodyPost_end (results_none rfl _ _ _) rfl ?_
      exact ⟨⟨_, rfl⟩, hB, hg⟩
set_option maxHeartbeats 2000000 in
set_option maxRecDepth 100000 in
theorem rotate_3 (w : World) (gb : Nat) (l : List UInt8) (hl : l.length = 16) (hB : Blk w gb 25 (u8s l)) :
    Calls Tryd.prog 68 #[.pointer (some ⟨gb, 0, none⟩), .int .i64 3] w fun e w' => (∃ v, e = .returned v) ∧ Blk w' gb 25 (u8s (rot 3 l)) ∧ w.grownBy w' (some gb) := by
  have HL := Lib.hid hl
  have HBa := Lib.hid (hB.alloc (.cells (u8s l).toArray 25))
  have HF := Lib.hid (Blk.new w 25 (u8s l))
  have HG := Lib.hid (grown_alloc (World.grownBy.refl w (some gb)) (.cells (u8s l).toArray 25))
  have HNe : Hid (w.heap.size ≠ gb) := Lib.hid (by have := hB.lt; omega)
  have hld := run_loadVar_row (P := Tryd.prog) w gb 25 25 (u8s l).toArray (0, 0) _ hB Tryd.undA16 rfl (by simpa using sizeA16 l hl)
  have HZ := Lib.hid (Blk.new w 25 zr16)
  have HS := Lib.hid (sizeA16 l hl)
  have HZL : Hid (zr16.length = (u8s l).length) := Lib.hid (by rw [u8s_len, hl]; rfl)
  have HO := Lib.hid (u8s_one l)
  have HE := Lib.hid (alloc_row w zr16.toArray 25 (u8s l))
  have hL2 : Hid ((rot 3 l).length = l.length) := Lib.hid (by rw [rot_len, hl])
  clear hl hB
  go_enter Tryd.func68, Tryd.ntmps68
  go_wp2_with (first | refine wpList_load_arr_w 25 (.tmp 8) rfl rfl (u8s l).toArray hld (by kernel_rfl) ?_ | refine wpList_alloc_arr rfl 25 zr16.toArray rfl zeroR16 ?_ | refine wpList_store_arr rfl 25 (.tmp 4) (.tmp 9) w.heap.size _ _ rfl rfl rfl rfl HZ.out HS.out HZL.out HO.out ?_)
  rw [HE.out]
  clear hld HZ HS HZL HO HE
  generalize w.alloc (.cells (u8s l).toArray 25) = w1 at *
  go_loopw [10] (fun i w' => ∃ j : Nat, j ≤ 16 ∧ i = .int .i64 (j : Int) ∧ Blk w' gb 25 (u8s (prog l (rot 3 l) j)) ∧ Blk w' w.heap.size 25 (u8s l) ∧ w.grownBy w' (some gb)) (fun i _ => 16 - (intOf i).toNat)
  case atStart => exact ⟨0, by omega, rfl, by rw [prog_0]; exact HBa.out, HF.out, HG.out⟩
  case round =>
    obtain ⟨j, hj, rfl, hB, hF, hg⟩ := hrel
    clear HBa HF HG
    by_cases hlt : j < 16
    · obtain ⟨v0, hc1⟩ : ∃ v0, wr.cell? ⟨gb, j, none⟩ = some v0 := ⟨_, blk_byte hB (i := j) (c := at_ l j) (by rw [prog_get _ _ _ hL2.out (by rw [HL.out]; exact hlt), at_get (by rw [HL.out]; exact hlt)])⟩
      have hc2 := blk_byte hF (i := (j + 4 * (j % 4) * 3) % 16) (c := at_ l ((j + 4 * (j % 4) * 3) % 16)) (by rw [show (j + 4 * (j % 4) * 3) % 16 = (j + 4 * (j % 4) * 3) % 16 from by omega]; exact at_get (by rw [HL.out]; omega))
      have hz : (rot 3 l)[j]? = some (at_ l ((j + 4 * (j % 4) * 3) % 16)) := st_get _ _ hlt
      have hf := hB.frozen j
      have hS := hB.set_ j (.int .u8 ((at_ l ((j + 4 * (j % 4) * 3) % 16)).toNat : Int))
      rw [u8s_set, prog_set _ _ _ _ hL2.out hz] at hS
      have HS := Lib.hid hS
      have HF := Lib.hid (hF.far (p := ⟨gb, j, none⟩) HNe.out (.int .u8 ((at_ l ((j + 4 * (j % 4) * 3) % 16)).toNat : Int)))
      have Hg := Lib.hid (grown_set (i := j) hg (.int .u8 ((at_ l ((j + 4 * (j % 4) * 3) % 16)).toNat : Int)))
      have hx8 := (at_ l ((j + 4 * (j % 4) * 3) % 16)).toNat_lt
      clear hS hB hF hg hz
      generalize (at_ l ((j + 4 * (j % 4) * 3) % 16)).toNat = xn at *
      go_wp2
      go_region
      go_wp2
      exact ⟨⟨j + 1, by omega, by go_num, HS.out, HF.out, grown_re Hg.out rfl rfl rfl rfl⟩, by simp [intOf]; omega⟩
    · obtain rfl : j = 16 := by omega
      rw [prog_end _ _ _ HL.out.symm (by rw [rot_len])] at hB
      go_wp2
      refine bodyPost_end (results_none rfl _ _ _) rfl ?_
      exact ⟨⟨_, rfl⟩, hB, hg⟩

set_option maxHeartbeats 4000000 in
set_option maxRecDepth 100000 in
theorem mix_any (w : World) (gb gt o : Nat) (l : List UInt8) (T : Nat → UInt8 → UInt8) (hl : l.length = 16) (hB : Blk w gb 25 (u8s l)) (hT : ∀ j, j < 4 → Tbl w gt (o + j * 256) (T j)) (hne : gt ≠ gb) :
    Calls Tryd.prog 69 #[.pointer (some ⟨gb, 0, none⟩), .pointer (some ⟨gt, o, none⟩)] w fun e w' => (∃ v, e = .returned v) ∧ Blk w' gb 25 (u8s (mixT T l)) ∧ w.grownBy w' (some gb) := by
  have HL := Lib.hid hl
  have HT := Lib.hid hT
  have HN := Lib.hid hne
  have HBa := Lib.hid (hB.alloc (.cells (u8s l).toArray 25))
  have HF := Lib.hid (Blk.new w 25 (u8s l))
  have HG := Lib.hid (grown_alloc (World.grownBy.refl w (some gb)) (.cells (u8s l).toArray 25))
  have HNe : Hid (w.heap.size ≠ gb) := Lib.hid (by have := hB.lt; omega)
  have hld := run_loadVar_row (P := Tryd.prog) w gb 25 25 (u8s l).toArray (0, 0) _ hB Tryd.undA16 rfl (by simpa using sizeA16 l hl)
  have HZ := Lib.hid (Blk.new w 25 zr16)
  have HS := Lib.hid (sizeA16 l hl)
  have HZL : Hid (zr16.length = (u8s l).length) := Lib.hid (by rw [u8s_len, hl]; rfl)
  have HO := Lib.hid (u8s_one l)
  have HE := Lib.hid (alloc_row w zr16.toArray 25 (u8s l))
  have hL2 : Hid ((mixT T l).length = l.length) := Lib.hid (by rw [mixT_len, hl])
  have HMG : Hid (∀ i, i < 16 → (mixT T l)[i]? = some (mixA T l i 4)) := Lib.hid fun i hi => st_get _ _ hi
  clear hl hT hB hne
  go_enter Tryd.func69, Tryd.ntmps69
  go_wp2_with (first | refine wpList_load_arr_w 25 (.tmp 10) rfl rfl (u8s l).toArray hld (by kernel_rfl) ?_ | refine wpList_alloc_arr rfl 25 zr16.toArray rfl zeroR16 ?_ | refine wpList_store_arr rfl 25 (.tmp 4) (.tmp 11) w.heap.size _ _ rfl rfl rfl rfl HZ.out HS.out HZL.out HO.out ?_)
  rw [HE.out]
  clear hld HZ HS HZL HO HE
  generalize w.alloc (.cells (u8s l).toArray 25) = w1 at *
  go_loopw [12] (fun i w' => ∃ j : Nat, j ≤ 16 ∧ i = .int .i64 (j : Int) ∧ Blk w' gb 25 (u8s (prog l (mixT T l) j)) ∧ Blk w' w.heap.size 25 (u8s l) ∧ w.grownBy w' (some gb)) (fun i _ => 16 - (intOf i).toNat)
  case atStart => exact ⟨0, by omega, rfl, by rw [prog_0]; exact HBa.out, HF.out, HG.out⟩
  case round =>
    obtain ⟨i, hi, rfl, hB, hF, hg⟩ := hrel
    clear HBa HF HG
    by_cases hlt : i < 16
    · have hf := hB.frozen i
      obtain ⟨v0, hc0⟩ : ∃ v0, wr.cell? ⟨gb, i, none⟩ = some v0 := ⟨_, blk_byte hB (i := i) (c := at_ l i) (by rw [prog_get _ _ _ hL2.out (by rw [HL.out]; exact hlt), at_get (by rw [HL.out]; exact hlt)])⟩
      have hS := hB.set_ i (.int .u8 (((0 : UInt8)).toNat : Int))
      rw [u8s_set] at hS
      have HS0 : Hid (Blk (wr.setCell ⟨gb, i, none⟩ (.int .u8 0)) gb 25 (u8s ((prog l (mixT T l) i).set i (mixA T l i 0)))) := Lib.hid hS
      have HF0 := Lib.hid (hF.far (p := ⟨gb, i, none⟩) HNe.out (.int .u8 0))
      have Hg0 := Lib.hid (grown_set (i := i) hg (.int .u8 0))
      have HPL : Hid ((prog l (mixT T l) i).length = 16) := Lib.hid (by rw [prog_len _ _ _ hL2.out, HL.out])
      clear hS hB hF hg
      go_wp2
      generalize wr.setCell ⟨gb, i, none⟩ (.int .u8 0) = w2 at *
      clear hc0 hf
      go_loopw [25] (fun q w' => ∃ k : Nat, k ≤ 4 ∧ q = .int .i64 (k : Int) ∧ Blk w' gb 25 (u8s ((prog l (mixT T l) i).set i (mixA T l i k))) ∧ Blk w' w.heap.size 25 (u8s l) ∧ w.grownBy w' (some gb)) (fun q _ => 4 - (intOf q).toNat)
      case atStart => exact ⟨0, by omega, rfl, HS0.out, HF0.out, Hg0.out⟩
      case round =>
        obtain ⟨k, hk, rfl, hB, hF, hg⟩ := hrel
        clear HS0 HF0 Hg0
        by_cases hkl : k < 4
        · have hf := hB.frozen i
          have hc1 := blk_byte hB (i := i) (c := mixA T l i k) (by rw [List.getElem?_set_self (by rw [HPL.out]; exact hlt)])
          have hc2 := blk_byte hF (i := i - i % 4 + (i + k) % 4) (c := at_ l (i - i % 4 + (i % 4 + k) % 4)) (by rw [show (i % 4 + k) % 4 = (i + k) % 4 from by omega]; exact at_get (by rw [HL.out]; omega))
          have hc3 := (HT.out k hkl).grown hg (fun h => HN.out (Option.some.inj h)) (at_ l (i - i % 4 + (i % 4 + k) % 4))
          have hS := hB.set_ i (.int .u8 ((mixA T l i k ^^^ T k (at_ l (i - i % 4 + (i % 4 + k) % 4))).toNat : Int))
          rw [u8s_set, List.set_set, ← xor_byte] at hS
          have HS : Hid (Blk _ gb 25 (u8s ((prog l (mixT T l) i).set i (mixA T l i (k + 1))))) := Lib.hid hS
          have HF := Lib.hid (hF.far (p := ⟨gb, i, none⟩) HNe.out (.int .u8 (bits .xor .u8 ((mixA T l i k).toNat : Int) ((T k (at_ l (i - i % 4 + (i % 4 + k) % 4))).toNat : Int))))
          have Hg := Lib.hid (grown_set (i := i) hg (.int .u8 (bits .xor .u8 ((mixA T l i k).toNat : Int) ((T k (at_ l (i - i % 4 + (i % 4 + k) % 4))).toNat : Int))))
          have hx8 := (mixA T l i k).toNat_lt
          have hy8 := (at_ l (i - i % 4 + (i % 4 + k) % 4)).toNat_lt
          have hz8 := (T k (at_ l (i - i % 4 + (i % 4 + k) % 4))).toNat_lt
          clear hS hB hF hg
          generalize (mixA T l i k).toNat = xn at *
          generalize (T k (at_ l (i - i % 4 + (i % 4 + k) % 4))).toNat = zn at *
          generalize (at_ l (i - i % 4 + (i % 4 + k) % 4)).toNat = yn at *
          go_wp2
          go_region
          go_wp2
          exact ⟨⟨k + 1, by omega, by go_num, HS.out, HF.out, grown_re Hg.out rfl rfl rfl rfl⟩, by simp [intOf]; omega⟩
        · have hK : Hid (k = 4) := Lib.hid (by omega)
          have hB2 : Blk wr gb 25 (u8s (prog l (mixT T l) (i + 1))) := by
            rw [← prog_set l (mixT T l) i _ hL2.out (HMG.out i hlt), ← hK.out]; exact hB
          have HB2 := Lib.hid hB2
          have HF := Lib.hid hF
          have Hg := Lib.hid hg
          clear hB hB2 hF hg hK
          go_wp2
          exact ⟨⟨i + 1, by omega, by go_num, HB2.out, HF.out, Hg.out⟩, by simp [intOf]; omega⟩
    · obtain rfl : i = 16 := by omega
      rw [prog_end _ _ _ HL.out.symm (by rw [mixT_len])] at hB
      go_wp2
      refine bodyPost_end (results_none rfl _ _ _) rfl ?_
      exact ⟨⟨_, rfl⟩, hB, hg⟩
end Go.Proofs.YtjhkodmaalefiaaDoor
namespace Go.Proofs.YtjhkodmaalefiaaDoor
open Go.RowKit Go.Gar Go.Gar.Aes

/-- The cipher in block gc is made of key. -/
structure Rep (w : World) (gc : Nat) (key : List UInt8) : Prop where
  there : Tbl w gc 0 sb
  back : Tbl w gc 256 ib
  mixed : ∀ j, j < 4 → Tbl w gc (512 + j * 256) (facs [2, 3, 1, 1] j)
  parted : ∀ j, j < 4 → Tbl w gc (1536 + j * 256) (facs [14, 11, 13, 9] j)
  keys : ∃ gk cap, w.cell? ⟨gc, 2560, none⟩ = some (.slice (some ⟨gk, 0, none⟩) (roundsOf key + 1) cap) ∧ ∀ r, r ≤ roundsOf key → ∀ i, i < 16 → w.cell? ⟨gk, r * 16 + i, none⟩ = some (.int .u8 ((at_ (keysOf key r) i).toNat : Int))
theorem cell_lt {w : World} {b o : Nat} {v : Value} (h : w.cell? ⟨b, o, none⟩ = some v) : b < w.heap.size := by
  unfold World.cell? at h
  rcases Nat.lt_or_ge b w.heap.size with h' | h'
  · exact h'
  · simp [Array.getElem?_eq_none h'] at h
theorem cell_stays {w w' : World} (hb : Below w.heap.size w w') {b o : Nat} {v : Value} (h : w.cell? ⟨b, o, none⟩ = some v) : w'.cell? ⟨b, o, none⟩ = some v := by
  have hlt := cell_lt h
  unfold World.cell? at h ⊢
  rw [← h]
  simp only [hb.block b hlt]
theorem tbl_stays {w w' : World} (hb : Below w.heap.size w w') {g o : Nat} {f : UInt8 → UInt8} (h : Tbl w g o f) : Tbl w' g o f := fun a => cell_stays hb (h a)
theorem Rep.stay {w w' : World} {gc : Nat} {key : List UInt8} (h : Rep w gc key) (hb : Below w.heap.size w w') : Rep w' gc key where
  there := tbl_stays hb h.there
  back := tbl_stays hb h.back
  mixed := fun j hj => tbl_stays hb (h.mixed j hj)
  parted := fun j hj => tbl_stays hb (h.parted j hj)
  keys := by
    obtain ⟨gk, cap, h1, h2⟩ := h.keys
    exact ⟨gk, cap, cell_stays hb h1, fun r hr i hi => cell_stays hb (h2 r hr i hi)⟩

/-- The block and the result in memory. -/
structure Two16 (w0 w : World) (l : List UInt8) : Prop where
  x : Blk w w0.heap.size 25 (u8s l)
  r : Blk w (w0.heap.size + 1) 25 zr16
  b : Below w0.heap.size w0 w
theorem Two16.start (w : World) (l : List UInt8) : Two16 w ((w.alloc (.cells (u8s l).toArray 25)).alloc (.cells zr16.toArray 25)) l where
  x := (Blk.new w _ _).alloc _
  r := by
    have := Blk.new (w.alloc (.cells (u8s l).toArray 25)) 25 zr16
    rwa [World.size_alloc] at this
  b := (below_alloc w _).alloc (by rw [World.size_alloc]; omega) _
theorem Two16.turn {w0 w w' : World} {l k : List UInt8} (h : Two16 w0 w l) (hB : Blk w' w0.heap.size 25 (u8s k)) (hg : w.grownBy w' (some w0.heap.size)) : Two16 w0 w' k :=
  ⟨hB, h.r.grown hg (by simp), ⟨hg.os.trans h.b.os, hg.tape.trans h.b.tape, hg.output.trans h.b.output, Nat.le_trans h.b.size hg.size, fun k hk => (hg.block k (Nat.lt_of_lt_of_le hk h.b.size) (by simp; omega)).trans (h.b.block k hk)⟩⟩
theorem Two16.load {w0 w : World} {l : List UInt8} (h : Two16 w0 w l) (hl : l.length = 16) : (loadVar 25 ⟨w0.heap.size, 0, none⟩).run Tryd.prog w = .ok (.agg (u8s l).toArray) w :=
  run_loadVar_row (P := Tryd.prog) w w0.heap.size 25 25 (u8s l).toArray (0, 0) _ h.x Tryd.undA16 rfl (by simpa using sizeA16 l hl)
theorem Two16.back {w0 w : World} {l : List UInt8} (h : Two16 w0 w l) (hl : l.length = 16) : (loadVar 25 ⟨w0.heap.size + 1, 0, none⟩).run Tryd.prog (w.setRow (w0.heap.size + 1) (u8s l).toArray) = .ok (.agg (u8s l).toArray) (w.setRow (w0.heap.size + 1) (u8s l).toArray) :=
  run_loadVar_row (P := Tryd.prog) _ (w0.heap.size + 1) 25 25 (u8s l).toArray (0, 0) _ (h.r.row _) Tryd.undA16 rfl (by simpa using sizeA16 l hl)

/-- What the walks need of a cipher, in every later world. -/
structure Ready (w0 : World) (gc gk nk cap : Nat) (K : Nat → List UInt8) : Prop where
  lt : gc < w0.heap.size
  ltk : gk < w0.heap.size
  there : Tbl w0 gc 0 sb
  back : Tbl w0 gc 256 ib
  mixed : ∀ j, j < 4 → Tbl w0 gc (512 + j * 256) (facs [2, 3, 1, 1] j)
  parted : ∀ j, j < 4 → Tbl w0 gc (1536 + j * 256) (facs [14, 11, 13, 9] j)
  cell : w0.cell? ⟨gc, 2560, none⟩ = some (.slice (some ⟨gk, 0, none⟩) nk cap)
  keys : ∀ r, r < nk → ∀ i, i < 16 → w0.cell? ⟨gk, r * 16 + i, none⟩ = some (.int .u8 ((at_ (K r) i).toNat : Int))
theorem Ready.at_ {w0 w : World} {gc gk nk cap : Nat} {K : Nat → List UInt8} (h : Ready w0 gc gk nk cap K) (hb : Below w0.heap.size w0 w) : w.cell? ⟨gc, 2560, none⟩ = some (.slice (some ⟨gk, 0, none⟩) nk cap) := cell_stays hb h.cell
theorem Rep.ready {w : World} {gc : Nat} {key : List UInt8} (h : Rep w gc key) : ∃ gk cap, Ready w gc gk (roundsOf key + 1) cap (keysOf key) := by
  obtain ⟨gk, cap, h1, h2⟩ := h.keys
  exact ⟨gk, cap, cell_lt h1, cell_lt (h2 0 (by omega) 0 (by omega)), h.there, h.back, h.mixed, h.parted, h1, fun r hr i hi => h2 r (by omega) i hi⟩
theorem Ready.add {w0 w : World} {gc gk nk cap : Nat} {K : Nat → List UInt8} (h : Ready w0 gc gk nk cap K) {l : List UInt8} (hl : l.length = 16) (h2 : Two16 w0 w l) (r o : Nat) (ho : o = r * 16) (hr : r < nk) :
    Calls Tryd.prog 66 #[.pointer (some ⟨w0.heap.size, 0, none⟩), .pointer (some ⟨gk, o, none⟩)] w fun e w' => (∃ v, e = .returned v) ∧ Two16 w0 w' (addK l (K r)) := by
  subst ho
  refine (add_any w w0.heap.size gk (r * 16) l (K r) hl h2.x (fun i hi => cell_stays h2.b (h.keys r hr i hi)) (by have := h.ltk; omega)).mono ?_
  rintro e w' ⟨he, hB, hg⟩
  exact ⟨he, h2.turn hB hg⟩
theorem Ready.sub {w0 w : World} {gc gk nk cap : Nat} {K : Nat → List UInt8} (h : Ready w0 gc gk nk cap K) {l : List UInt8} (hl : l.length = 16) (h2 : Two16 w0 w l) :
    Calls Tryd.prog 67 #[.pointer (some ⟨w0.heap.size, 0, none⟩), .pointer (some ⟨gc, 0, none⟩)] w fun e w' => (∃ v, e = .returned v) ∧ Two16 w0 w' (l.map sb) := by
  refine (replace_any w w0.heap.size gc 0 l sb hl h2.x (tbl_stays h2.b h.there) (by have := h.lt; omega)).mono ?_
  rintro e w' ⟨he, hB, hg⟩
  exact ⟨he, h2.turn hB hg⟩
theorem Ready.unsub {w0 w : World} {gc gk nk cap : Nat} {K : Nat → List UInt8} (h : Ready w0 gc gk nk cap K) {l : List UInt8} (hl : l.length = 16) (h2 : Two16 w0 w l) :
    Calls Tryd.prog 67 #[.pointer (some ⟨w0.heap.size, 0, none⟩), .pointer (some ⟨gc, 256, none⟩)] w fun e w' => (∃ v, e = .returned v) ∧ Two16 w0 w' (l.map ib) := by
  refine (replace_any w w0.heap.size gc 256 l ib hl h2.x (tbl_stays h2.b h.back) (by have := h.lt; omega)).mono ?_
  rintro e w' ⟨he, hB, hg⟩
  exact ⟨he, h2.turn hB hg⟩
theorem Two16.rot1 {w0 w : World} {l : List UInt8} (hl : l.length = 16) (h2 : Two16 w0 w l) :
    Calls Tryd.prog 68 #[.pointer (some ⟨w0.heap.size, 0, none⟩), .int .i64 1] w fun e w' => (∃ v, e = .returned v) ∧ Two16 w0 w' (rot 1 l) := by
  refine (rotate_1 w w0.heap.size l hl h2.x).mono ?_
  rintro e w' ⟨he, hB, hg⟩
  exact ⟨he, h2.turn hB hg⟩
theorem Two16.rot3 {w0 w : World} {l : List UInt8} (hl : l.length = 16) (h2 : Two16 w0 w l) :
    Calls Tryd.prog 68 #[.pointer (some ⟨w0.heap.size, 0, none⟩), .int .i64 3] w fun e w' => (∃ v, e = .returned v) ∧ Two16 w0 w' (rot 3 l) := by
  refine (rotate_3 w w0.heap.size l hl h2.x).mono ?_
  rintro e w' ⟨he, hB, hg⟩
  exact ⟨he, h2.turn hB hg⟩
theorem Ready.mix {w0 w : World} {gc gk nk cap : Nat} {K : Nat → List UInt8} (h : Ready w0 gc gk nk cap K) {l : List UInt8} (hl : l.length = 16) (h2 : Two16 w0 w l) :
    Calls Tryd.prog 69 #[.pointer (some ⟨w0.heap.size, 0, none⟩), .pointer (some ⟨gc, 512, none⟩)] w fun e w' => (∃ v, e = .returned v) ∧ Two16 w0 w' (mix l) := by
  refine (mix_any w w0.heap.size gc 512 l (facs [2, 3, 1, 1]) hl h2.x (fun j hj => tbl_stays h2.b (h.mixed j hj)) (by have := h.lt; omega)).mono ?_
  rintro e w' ⟨he, hB, hg⟩
  rw [mixT_there] at hB
  exact ⟨he, h2.turn hB hg⟩
theorem Ready.unmix {w0 w : World} {gc gk nk cap : Nat} {K : Nat → List UInt8} (h : Ready w0 gc gk nk cap K) {l : List UInt8} (hl : l.length = 16) (h2 : Two16 w0 w l) :
    Calls Tryd.prog 69 #[.pointer (some ⟨w0.heap.size, 0, none⟩), .pointer (some ⟨gc, 1536, none⟩)] w fun e w' => (∃ v, e = .returned v) ∧ Two16 w0 w' (mix3 l) := by
  refine (mix_any w w0.heap.size gc 1536 l (facs [14, 11, 13, 9]) hl h2.x (fun j hj => tbl_stays h2.b (h.parted j hj)) (by have := h.lt; omega)).mono ?_
  rintro e w' ⟨he, hB, hg⟩
  rw [mixT_back l hl] at hB
  exact ⟨he, h2.turn hB hg⟩
end Go.Proofs.YtjhkodmaalefiaaDoor
namespace Go.Proofs.YtjhkodmaalefiaaDoor
open Go.RowKit Go.Gar Go.Gar.Aes

set_option maxHeartbeats 2000000 in
set_option maxRecDepth 100000 in
theorem sum_any (w : World) (a b : List UInt8) (x y : Array Value) (hx : x = (u8s a).toArray) (hy : y = (u8s b).toArray) (ha : a.length = 16) (hb : b.length = 16) :
    Calls Tryd.prog 38 #[.agg x, .agg y] w fun e w' => e = .returned (.agg (u8s (addK a b)).toArray) ∧ Below w.heap.size w w' := by
  subst hx
  subst hy
  have HA := Lib.hid ha
  have HBl := Lib.hid hb
  obtain ⟨g, hg⟩ : ∃ g, w.heap.size = g := ⟨_, rfl⟩
  have hA1 := Blk.new w 25 (u8s a)
  have hb1 := below_alloc w (.cells (u8s a).toArray 25)
  have hs1 : (w.alloc (.cells (u8s a).toArray 25)).heap.size = w.heap.size + 1 := World.size_alloc _ _
  obtain ⟨w1, hw1⟩ : ∃ w1, w.alloc (.cells (u8s a).toArray 25) = w1 := ⟨_, rfl⟩
  rw [hw1] at hA1 hb1 hs1
  have hA2 := hA1.alloc (.cells (u8s b).toArray 25)
  have hB2 := Blk.new w1 25 (u8s b)
  have hb2 := hb1.alloc hb1.size (.cells (u8s b).toArray 25)
  have hs2 : (w1.alloc (.cells (u8s b).toArray 25)).heap.size = w1.heap.size + 1 := World.size_alloc _ _
  obtain ⟨w2, hw2⟩ : ∃ w2, w1.alloc (.cells (u8s b).toArray 25) = w2 := ⟨_, rfl⟩
  rw [hw2] at hA2 hB2 hb2 hs2
  have hA3 := hA2.alloc (.cells zr16.toArray 25)
  have hB3 := hB2.alloc (.cells zr16.toArray 25)
  have hR3 := Blk.new w2 25 zr16
  have hb3 := hb2.alloc hb2.size (.cells zr16.toArray 25)
  obtain ⟨w3, hw3⟩ : ∃ w3, w2.alloc (.cells zr16.toArray 25) = w3 := ⟨_, rfl⟩
  rw [hw3] at hA3 hB3 hR3 hb3
  rw [hs2, hs1] at hR3
  rw [hs1] at hB3
  rw [hg] at hA3 hB3 hR3 hb3 hs1 ⊢
  have HW1 := Lib.hid hw1
  have HW2 := Lib.hid hw2
  have HW3 := Lib.hid hw3
  have HG := Lib.hid hg
  have HS1 := Lib.hid hs1
  have HS2 : Hid (w2.heap.size = g + 1 + 1) := Lib.hid (by rw [hs2, hs1])
  have HA3 := Lib.hid hA3
  have HB3 := Lib.hid hB3
  have HR3 := Lib.hid hR3
  have Hb3 := Lib.hid hb3
  have HSz := Lib.hid (sizeA16 (addK a b) (addK_len a b))
  have HZe : Hid (zr16.length = (u8s (addK a b)).length) := Lib.hid (by rw [u8s_len, addK_len]; rfl)
  clear ha hb hA1 hb1 hA2 hB2 hb2 hA3 hB3 hR3 hb3 hs1 hs2 hw1 hw2 hw3 hg
  go_enter Tryd.func38, Tryd.ntmps38
  go_wp2_with (first | (refine wpList_box_arr rfl 25 (.tmp 0) (u8s a).toArray rfl rfl ?_; rw [HW1.out, HG.out]) | (refine wpList_box_arr rfl 25 (.tmp 1) (u8s b).toArray rfl rfl ?_; rw [HW2.out, HS1.out]) | (refine wpList_alloc_arr rfl 25 zr16.toArray rfl zeroR16 ?_; rw [HW3.out, HS2.out]))
  generalize (u8s a).toArray = xa
  generalize (u8s b).toArray = xb
  go_loopw [6] (fun i w' => ∃ j : Nat, j ≤ 16 ∧ i = .int .i64 (j : Int) ∧ Blk w' g 25 (u8s (prog a (addK a b) j)) ∧ Blk w' (g + 1) 25 (u8s b) ∧ Blk w' (g + 1 + 1) 25 zr16 ∧ Below g w w') (fun i _ => 16 - (intOf i).toNat)
  case atStart => exact ⟨0, by omega, rfl, by rw [prog_0]; exact HA3.out, HB3.out, HR3.out, Hb3.out⟩
  case round =>
    obtain ⟨j, hj, rfl, hA, hB, hR, hb⟩ := hrel
    clear HA3 HB3 HR3 Hb3
    have hL2 : (addK a b).length = a.length := by rw [addK_len, HA.out]
    by_cases hlt : j < 16
    · have hc1 := blk_byte hA (i := j) (c := at_ a j) (by rw [prog_get _ _ _ hL2 (by rw [HA.out]; exact hlt), at_get (by rw [HA.out]; exact hlt)])
      have hc2 := blk_byte hB (i := j) (c := at_ b j) (by rw [at_get (by rw [HBl.out]; exact hlt)])
      have hz : (addK a b)[j]? = some (at_ a j ^^^ at_ b j) := st_get _ _ hlt
      have hf := hA.frozen j
      have hS := hA.set_ j (.int .u8 ((at_ a j ^^^ at_ b j).toNat : Int))
      have hBf := hB.far (p := ⟨g, j, none⟩) (by show g + 1 ≠ g; omega) (.int .u8 ((at_ a j ^^^ at_ b j).toNat : Int))
      have hRf := hR.far (p := ⟨g, j, none⟩) (by show g + 1 + 1 ≠ g; omega) (.int .u8 ((at_ a j ^^^ at_ b j).toNat : Int))
      have hbf := hb.setCell (p := ⟨g, j, none⟩) (Nat.le_refl g) (.int .u8 ((at_ a j ^^^ at_ b j).toNat : Int))
      rw [u8s_set, prog_set _ _ _ _ hL2 hz, ← xor_byte] at hS
      rw [← xor_byte] at hBf hRf hbf
      have HS := Lib.hid hS
      have HBf := Lib.hid hBf
      have HRf := Lib.hid hRf
      have Hbf := Lib.hid hbf
      have hx8 := (at_ a j).toNat_lt
      have hy8 := (at_ b j).toNat_lt
      clear hS hBf hRf hbf hA hB hR hb hz hL2
      generalize (at_ a j).toNat = xn at *
      generalize (at_ b j).toNat = yn at *
      go_wp2
      go_region
      go_wp2
      exact ⟨⟨j + 1, by omega, by go_num, HS.out.drew, HBf.out.drew, HRf.out.drew, Hbf.out.drew⟩, by simp [intOf]; omega⟩
    · have hE : prog a (addK a b) j = addK a b := prog_end _ _ _ (by rw [HA.out]; omega) (by rw [addK_len]; omega)
      rw [hE] at hA
      have hld := run_loadVar_row (P := Tryd.prog) wr g 25 25 (u8s (addK a b)).toArray (0, 0) _ hA Tryd.und16 rfl (by simpa using HSz.out)
      have hbk := run_loadVar_row (P := Tryd.prog) _ (g + 1 + 1) 25 25 (u8s (addK a b)).toArray (0, 0) _ (hR.row (u8s (addK a b))) Tryd.und16 rfl (by simpa using HSz.out)
      have HR := Lib.hid hR
      have Hb := Lib.hid (below_setRow hb (by omega : g ≤ g + 1 + 1) (u8s (addK a b)).toArray)
      have HOe := Lib.hid (u8s_one (addK a b))
      clear hA hB hR hb hE hL2
      go_wp2_with (first | refine wpList_load_arr rfl 25 (.tmp 2) rfl rfl (u8s (addK a b)).toArray hld ?_ | refine wpList_store_arr rfl 25 (.tmp 4) (.tmp 18) (g + 1 + 1) _ _ rfl rfl rfl rfl HR.out HSz.out HZe.out HOe.out ?_)
      try simp only [Act.put, List.setIfInBounds_toArray, List.set]
      refine bodyPost_ret (v := .agg (u8s (addK a b)).toArray) ?_ rfl ⟨rfl, Hb.out⟩
      generalize (u8s (addK a b)).toArray = X at hbk ⊢
      simp [results, Tryd.results38, asAddr, hbk]
end Go.Proofs.YtjhkodmaalefiaaDoor
namespace Go.Gar
open Go Go.RowKit
variable {F : Fence} {n : Nat} {P : Program}

/-- The iterator's contract: its rounds go on, each keeps Kp; it may lay blocks and turn what it laid. -/
def SeqP {α : Type} (F : Fence) (n : Nat) (P : Program) (g : Nat) (lb : Array Value) (encs : α → Array Value) (Kp : World → World → Prop) (S Pf : List α → Prop) (w : World) : Prop :=
  ∀ (l : Nat) (J : List α → World → Prop) (W : World), Below w.heap.size w W → Low W.heap.size J →
    (∀ pre x W1, Pf (pre ++ [x]) → J pre W1 → YieldAt F (n - 1) P l (encs x) W1 fun e W' => e = .returned (.bool true) ∧ J (pre ++ [x]) W' ∧ Kp W1 W') →
    J [] W → CallsIn F n P g (#[.func (.yield l) #[] #[]] ++ lb) W fun e W' => (∃ v, e = .returned v) ∧ ∃ xs, S xs ∧ J xs W'

/-- The caller's law: the loop's variable may be laid anew in each round (Ax). -/
theorem rangeP {α : Type} {g : Operand} {ps : Array Tmp} {assign body : Code} {Q : Exit → Act → World → Prop} {a : Act} {w : World}
    (hro : F.round = none) (h1 : 1 ≤ n) {gf : Nat} {lb : Array Value} (hg : a.eval g = .func (.func gf) #[] lb) (hFg : F.fn gf) (eg : ∀ args w, (callFunc gf args).run P w = .ok (.enter gf args) w)
    {encs : α → Array Value} {Kp : World → World → Prop} {S Pf : List α → Prop} (hseq : SeqP F (n - 1) P gf lb encs Kp S Pf w)
    (hKt : ∀ {A B C : World}, Kp A B → Kp B C → Kp A C) (hKb : ∀ (W : World) (l : Nat) (o o' : Obj), W.heap[l]? = some o → o.isCells = false → Kp W (W.putObj l o')) (hps : ∀ x, (encs x).size = ps.size)
    (I : List α → World → Prop) (hI : Low w.heap.size I) (h0 : I [] w) (Ax : α → Act → World → Prop) (hAx : ∀ x a' W l o o', Ax x a' W → W.heap[l]? = some o → o.isCells = false → Ax x a' (W.putObj l o'))
    (hassign : ∀ (l : Nat) (pre : List α) (x : α) (W : World) (K : Act → World → Prop), Pf (pre ++ [x]) → I pre W → (∀ a' W', KeepsOthers W W' → Kp W W' → I pre W' → Ax x a' W' → K a' W') →
      assign.wpIn (F.inRound l) (n - 1 - 1) P (Exit.then K (fun _ _ _ => False)) { tmps := (ps.zip (encs x)).foldl (fun t (p, v) => t.setIfInBounds p v) a.tmps, defers := [] } W)
    (hbody : ∀ (l : Nat) (pre : List α) (x : α) (a' : Act) (W : World), Pf (pre ++ [x]) → I pre W → Ax x a' W → body.wpIn (F.inRound l) (n - 1 - 1) P (fun e _ W' => e = .normal ∧ KeepsOthers W W' ∧ Kp W W' ∧ I (pre ++ [x]) W') a' W)
    (hdone : ∀ (D : Nat) (xs : List α) (W : World), w.heap.size ≤ D → S xs → I xs W → W.heap[D]? = some (.deferred (some [])) → Q .normal { a with defers := { target := .collected D, args := #[] } :: a.defers } W) :
    (Code.rangeFunc g ps assign body).wpIn F n P Q a w := by
  refine wpIn_rangeFunc fun fn hfn => ?_
  rw [hro]
  -- the record, as it stands between two rounds
  let r0 : Loop := { state := .ready, pending := none, fn, tmps := a.tmps, params := ps, assign, body, defers := w.heap.size }
  let D := w.heap.size
  let l := w.heap.size + 1
  let W1 := (w.alloc (.deferred (some []))).alloc (.loop r0)
  have hs1 : W1.heap.size = w.heap.size + 2 := by simp [W1]
  have hDl : W1.heap[D]? = some (.deferred (some [])) := (Below.heap_alloc _ _ _ (by simp [D])).trans (World.alloc_heap_new w _)
  have hll : W1.heap[l]? = some (.loop r0) := by
    have := World.alloc_heap_new (w.alloc (.deferred (some []))) (.loop r0)
    rwa [World.size_alloc] at this
  have hbel : Below w.heap.size w W1 := ((Below.refl _ w).alloc (Nat.le_refl _) _).alloc (by simp) _
  let J : List α → World → Prop := fun pre W => I pre W ∧ W.heap[l]? = some (.loop r0) ∧ W.heap[D]? = some (.deferred (some []))
  have hJ : Low W1.heap.size J := fun s A B row hs hgr hr => by
    have far : ∀ k o, k < W1.heap.size → A.heap[k]? = some o → B.heap[k]? = some o := fun k o hk ho =>
      (hgr.block k (Array.getElem?_eq_some_iff.1 ho).1 (fun e => by have := hr k e.symm; omega)).trans ho
    exact ⟨hI s A B row hs.1 hgr (fun r e => by have := hr r e; omega), far l _ (by simp [l, hs1]) hs.2.1, far D _ (by simp [D, hs1]) hs.2.2⟩
  refine ⟨l, [{ target := .collected D, args := #[] }], W1, { target := .fn (.func gf) lb, args := #[.func (.yield l) #[] #[]] }, W1, gf, #[.func (.yield l) #[] #[]] ++ lb, W1, run_enterLoop_outer _ _ _ _ _, ?_, ?_, ?_, fun _ => h1, ?_⟩
  · simp only [resolve, hg]
    simp [go_sem]
  · intro f' hf'
    simp [Target.leads] at hf'
    subst hf'
    exact hFg
  · simp [invoke, go_sem, eg]
  refine (hseq l J W1 hbel hJ ?_ ⟨hI.alloc _ (hI.alloc _ h0), hll, hDl⟩).mono ?_
  · -- a round
    rintro pre x W hpf ⟨hi, hl, hd⟩
    have hy := run_yield (P := P) (args := encs x) hl (hps x)
    refine ⟨fn, _, assign, body, hy, roundIn_of_wpIn hfn (hassign l pre x W _ hpf hi fun a' W2 hk2 hp2 hi2 hx2 => ?_)⟩
    have hl2 := hk2.same l _ hl rfl
    have hd2 := hk2.same D _ hd rfl
    let rb : Loop := { r0 with state := .busy }
    refine ⟨_, run_beginRound hl2 rfl, ?_⟩
    have hl3 : (W2.putObj l (.loop rb)).heap[l]? = some (.loop rb) := World.putObj_heap_same (Array.getElem?_eq_some_iff.1 hl2).1
    have hd3 : (W2.putObj l (.loop rb)).heap[D]? = some (.deferred (some [])) := (World.putObj_heap_other (by simp [D, l])).trans hd2
    refine wpIn_mono (hbody l pre x a' _ hpf (hI.put _ hi2 (by simp [l])) (hAx _ _ _ _ _ _ hx2 hl2 rfl)) ?_
    rintro e a3 W4 ⟨rfl, hk4, hp4, hi4⟩
    have hl4 := hk4.same l _ hl3 rfl
    have hd4 := hk4.same D _ hd3 rfl
    refine ⟨_, _, run_endRound none hl4, rfl, ⟨hI.put _ hi4 (by simp [l]), World.putObj_heap_same (Array.getElem?_eq_some_iff.1 hl4).1, (World.putObj_heap_other (by simp [D, l])).trans hd4⟩, ?_⟩
    exact hKt (hKt hp2 (hKb _ _ _ _ hl2 rfl)) (hKt hp4 (hKb _ _ _ _ hl4 rfl))
  · rintro e W2 ⟨⟨v, rfl⟩, xs, hS, hi, hl, hd⟩
    exact ⟨none, _, run_endLoop hl (by simp [r0]), hdone D xs _ (Nat.le_refl _) hS (hI.put _ hi (by simp [l])) ((World.putObj_heap_other (by simp [D, l])).trans hd)⟩
end Go.Gar
