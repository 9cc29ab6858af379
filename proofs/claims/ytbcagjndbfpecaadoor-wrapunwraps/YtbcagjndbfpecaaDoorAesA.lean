/-
  Package aes, helpers that turn a block in place: add, replace, rotate, replaceWord; power, ready.
-/
import Derived.Test.YtbcagjndbfpecaaDoorAesLem
import Derived.Test.YtbcagjndbfpecaaDoorBoxC
import Derived.Test.YtbcagjndbfpecaaDoorArrEq
import Derived.RegionTactic
import Derived.BigRegion
namespace Go.Gar
open Go.RowKit
theorem cell_grown {w w' : World} {row : Option Nat} (h : w.grownBy w' row) {b o : Nat} (hp : some b ≠ row) {v : Value} (hc : w.cell? ⟨b, o, none⟩ = some v) : w'.cell? ⟨b, o, none⟩ = some v := by
  have hlt : b < w.heap.size := by
    unfold World.cell? at hc
    rcases Nat.lt_or_ge b w.heap.size with h' | h'
    · exact h'
    · simp [Array.getElem?_eq_none h'] at hc
  unfold World.cell? at hc ⊢
  rw [← hc]
  simp only [h.block b hlt hp]
/-- A table of bytes in memory. -/
def Tbl (w : World) (g o : Nat) (f : UInt8 → UInt8) : Prop := ∀ a : UInt8, w.cell? ⟨g, o + a.toNat, none⟩ = some (.int .u8 ((f a).toNat : Int))
theorem Tbl.grown {w w' : World} {row : Option Nat} {g o : Nat} {f : UInt8 → UInt8} (h : Tbl w g o f) (hg : w.grownBy w' row) (hp : some g ≠ row) : Tbl w' g o f := fun a => cell_grown hg hp (h a)
theorem Tbl.below {w w' : World} {B : Nat} {g o : Nat} {f : UInt8 → UInt8} (h : Tbl w g o f) (hb : Below B w w') (hp : g < B) : Tbl w' g o f := fun a => by
  have := h a
  unfold World.cell? at this ⊢
  rw [← this]
  simp only [hb.block g hp]
theorem grown_re {w w' w2 : World} {row : Option Nat} (h : w.grownBy w' row) (h1 : w2.os = w'.os) (h2 : w2.tape = w'.tape) (h3 : w2.output = w'.output) (h4 : w2.heap = w'.heap) : w.grownBy w2 row :=
  ⟨by rw [h1]; exact h.os, by rw [h2]; exact h.tape, by rw [h3]; exact h.output, by rw [h4]; exact h.size, by rw [h4]; exact h.block⟩
end Go.Gar
namespace Go.Proofs.YtbcagjndbfpecaaDoor
open Go.RowKit Go.Gar Go.Gar.Aes

set_option maxHeartbeats 2000000 in
set_option maxRecDepth 100000 in
theorem add_any (w : World) (gb gk o : Nat) (l k : List UInt8) (hl : l.length = 16) (hB : Blk w gb 56 (u8s l)) (hk : ∀ i, i < 16 → w.cell? ⟨gk, o + i, none⟩ = some (.int .u8 ((at_ k i).toNat : Int))) (hne : gk ≠ gb) :
    Calls Tryd.prog 38 #[.pointer (some ⟨gb, 0, none⟩), .pointer (some ⟨gk, o, none⟩)] w fun e w' => (∃ v, e = .returned v) ∧ Blk w' gb 56 (u8s (addK l k)) ∧ w.grownBy w' (some gb) := by
  have HL := Lib.hid hl
  have HK := Lib.hid hk
  have HN := Lib.hid hne
  have HB := Lib.hid hB
  clear hl hk hB hne
  go_enter Tryd.func38, Tryd.ntmps38
  go_wp2
  go_loopw [5] (fun i w' => ∃ j : Nat, j ≤ 16 ∧ i = .int .i64 (j : Int) ∧ Blk w' gb 56 (u8s (prog l (addK l k) j)) ∧ w.grownBy w' (some gb)) (fun i _ => 16 - (intOf i).toNat)
  case atStart => exact ⟨0, by omega, rfl, by rw [prog_0]; exact HB.out, World.grownBy.refl w _⟩
  case round =>
    obtain ⟨j, hj, rfl, hB, hg⟩ := hrel
    clear HB
    have hL2 : (addK l k).length = l.length := by rw [addK_len, HL.out]
    by_cases hlt : j < 16
    · have hc1 := blk_byte hB (i := j) (c := at_ l j) (by rw [prog_get _ _ _ hL2 (by rw [HL.out]; exact hlt), at_get (by rw [HL.out]; exact hlt)])
      have hc2 := cell_grown hg (fun h => HN.out (Option.some.inj h)) (HK.out j hlt)
      have hz : (addK l k)[j]? = some (at_ l j ^^^ at_ k j) := st_get _ _ hlt
      have hf := hB.frozen j
      have hS := hB.set_ j (.int .u8 ((at_ l j ^^^ at_ k j).toNat : Int))
      rw [u8s_set, prog_set _ _ _ _ hL2 hz, ← xor_byte] at hS
      have HS := Lib.hid hS
      have Hg := Lib.hid (grown_set (i := j) hg (.int .u8 (bits .xor .u8 ((at_ l j).toNat : Int) ((at_ k j).toNat : Int))))
      have hx8 := (at_ l j).toNat_lt
      have hy8 := (at_ k j).toNat_lt
      clear hS hB hg hz hL2
      generalize (at_ l j).toNat = xn at *
      generalize (at_ k j).toNat = yn at *
      go_wp2
      go_region
      go_wp2
      exact ⟨⟨j + 1, by omega, by go_num, HS.out, grown_re Hg.out rfl rfl rfl rfl⟩, by simp [intOf]; omega⟩
    · obtain rfl : j = 16 := by omega
      rw [prog_end _ _ _ HL.out.symm (by rw [addK_len])] at hB
      go_wp2
      refine bodyPost_end (results_none rfl _ _ _) rfl ?_
      exact ⟨⟨_, rfl⟩, hB, hg⟩

theorem map_get (l : List UInt8) (f : UInt8 → UInt8) {j : Nat} (h : j < l.length) : (l.map f)[j]? = some (f (at_ l j)) := by
  rw [List.getElem?_map, at_get h]; rfl

set_option maxHeartbeats 2000000 in
set_option maxRecDepth 100000 in
theorem replace_any (w : World) (gb gt o : Nat) (l : List UInt8) (f : UInt8 → UInt8) (hl : l.length = 16) (hB : Blk w gb 56 (u8s l)) (hT : Tbl w gt o f) (hne : gt ≠ gb) :
    Calls Tryd.prog 39 #[.pointer (some ⟨gb, 0, none⟩), .pointer (some ⟨gt, o, none⟩)] w fun e w' => (∃ v, e = .returned v) ∧ Blk w' gb 56 (u8s (l.map f)) ∧ w.grownBy w' (some gb) := by
  have HL := Lib.hid hl
  have HT := Lib.hid hT
  have HN := Lib.hid hne
  have HB := Lib.hid hB
  clear hl hT hB hne
  go_enter Tryd.func39, Tryd.ntmps39
  go_wp2
  go_loopw [5] (fun i w' => ∃ j : Nat, j ≤ 16 ∧ i = .int .i64 (j : Int) ∧ Blk w' gb 56 (u8s (prog l (l.map f) j)) ∧ w.grownBy w' (some gb)) (fun i _ => 16 - (intOf i).toNat)
  case atStart => exact ⟨0, by omega, rfl, by rw [prog_0]; exact HB.out, World.grownBy.refl w _⟩
  case round =>
    obtain ⟨j, hj, rfl, hB, hg⟩ := hrel
    clear HB
    have hL2 : (l.map f).length = l.length := List.length_map _
    by_cases hlt : j < 16
    · have hc1 := blk_byte hB (i := j) (c := at_ l j) (by rw [prog_get _ _ _ hL2 (by rw [HL.out]; exact hlt), at_get (by rw [HL.out]; exact hlt)])
      have hc2 := HT.out.grown hg (fun h => HN.out (Option.some.inj h)) (at_ l j)
      have hz := map_get l f (j := j) (by rw [HL.out]; exact hlt)
      have hf := hB.frozen j
      have hS := hB.set_ j (.int .u8 ((f (at_ l j)).toNat : Int))
      rw [u8s_set, prog_set _ _ _ _ hL2 hz] at hS
      have HS := Lib.hid hS
      have Hg := Lib.hid (grown_set (i := j) hg (.int .u8 ((f (at_ l j)).toNat : Int)))
      have hx8 := (at_ l j).toNat_lt
      have hy8 := (f (at_ l j)).toNat_lt
      clear hS hB hg hz hL2
      generalize (f (at_ l j)).toNat = yn at *
      generalize (at_ l j).toNat = xn at *
      go_wp2
      go_region
      go_wp2
      exact ⟨⟨j + 1, by omega, by go_num, HS.out, grown_re Hg.out rfl rfl rfl rfl⟩, by simp [intOf]; omega⟩
    · obtain rfl : j = 16 := by omega
      rw [prog_end _ _ _ HL.out.symm (by rw [hL2, HL.out])] at hB
      go_wp2
      refine bodyPost_end (results_none rfl _ _ _) rfl ?_
      exact ⟨⟨_, rfl⟩, hB, hg⟩

set_option maxHeartbeats 2000000 in
set_option maxRecDepth 100000 in
theorem replaceWord_any (w : World) (gb gt o : Nat) (l : List UInt8) (f : UInt8 → UInt8) (hl : l.length = 4) (hB : Blk w gb 51 (u8s l)) (hT : Tbl w gt o f) (hne : gt ≠ gb) :
    Calls Tryd.prog 46 #[.pointer (some ⟨gb, 0, none⟩), .pointer (some ⟨gt, o, none⟩)] w fun e w' => (∃ v, e = .returned v) ∧ Blk w' gb 51 (u8s (l.map f)) ∧ w.grownBy w' (some gb) := by
  have HL := Lib.hid hl
  have HT := Lib.hid hT
  have HN := Lib.hid hne
  have HB := Lib.hid hB
  clear hl hT hB hne
  go_enter Tryd.func46, Tryd.ntmps46
  go_wp2
  go_loopw [5] (fun i w' => ∃ j : Nat, j ≤ 4 ∧ i = .int .i64 (j : Int) ∧ Blk w' gb 51 (u8s (prog l (l.map f) j)) ∧ w.grownBy w' (some gb)) (fun i _ => 4 - (intOf i).toNat)
  case atStart => exact ⟨0, by omega, rfl, by rw [prog_0]; exact HB.out, World.grownBy.refl w _⟩
  case round =>
    obtain ⟨j, hj, rfl, hB, hg⟩ := hrel
    clear HB
    have hL2 : (l.map f).length = l.length := List.length_map _
    by_cases hlt : j < 4
    · have hc1 := blk_byte hB (i := j) (c := at_ l j) (by rw [prog_get _ _ _ hL2 (by rw [HL.out]; exact hlt), at_get (by rw [HL.out]; exact hlt)])
      have hc2 := HT.out.grown hg (fun h => HN.out (Option.some.inj h)) (at_ l j)
      have hz := map_get l f (j := j) (by rw [HL.out]; exact hlt)
      have hf := hB.frozen j
      have hS := hB.set_ j (.int .u8 ((f (at_ l j)).toNat : Int))
      rw [u8s_set, prog_set _ _ _ _ hL2 hz] at hS
      have HS := Lib.hid hS
      have Hg := Lib.hid (grown_set (i := j) hg (.int .u8 ((f (at_ l j)).toNat : Int)))
      have hx8 := (at_ l j).toNat_lt
      have hy8 := (f (at_ l j)).toNat_lt
      clear hS hB hg hz hL2
      generalize (f (at_ l j)).toNat = yn at *
      generalize (at_ l j).toNat = xn at *
      go_wp2
      go_region
      go_wp2
      exact ⟨⟨j + 1, by omega, by go_num, HS.out, grown_re Hg.out rfl rfl rfl rfl⟩, by simp [intOf]; omega⟩
    · obtain rfl : j = 4 := by omega
      rw [prog_end _ _ _ HL.out.symm (by rw [hL2, HL.out])] at hB
      go_wp2
      refine bodyPost_end (results_none rfl _ _ _) rfl ?_
      exact ⟨⟨_, rfl⟩, hB, hg⟩

theorem mul2 (hM : MulC) (a : UInt8) (w : World) : Calls Tryd.prog 35 #[.int .u8 (a.toNat : Int), .int .u8 2] w fun e w' => e = .returned (.int .u8 ((gm a 2).toNat : Int)) ∧ w' = w :=
  (hM a.toNat 2 w a.toNat_lt (by omega)).mono fun e w' h => ⟨by rw [h.1, gm_toNat]; rfl, h.2⟩
set_option maxHeartbeats 1000000 in
set_option maxRecDepth 100000 in
theorem power_any (hM : MulC) (k : Nat) (hk : k < 1000) (w : World) : Calls Tryd.prog 47 #[.int .i64 (k : Int)] w fun e w' => e = .returned (.int .u8 ((xp k).toNat : Int)) ∧ w' = w := by
  have HM := Lib.hid hM
  clear hM
  go_enter Tryd.func47, Tryd.ntmps47
  go_wp2
  go_loop [3, 5] (fun p i => ∃ (j : Nat) (x : UInt8), j ≤ k ∧ i = .int .i64 (j : Int) ∧ p = .int .u8 (x.toNat : Int) ∧ x = xp j) (fun _ i => k - (intOf i).toNat)
  case atStart => exact ⟨0, 1, by omega, rfl, rfl, rfl⟩
  case round =>
    obtain ⟨j, x, hj, rfl, rfl, hx⟩ := hrel
    have HX := Lib.hid hx
    clear hx
    by_cases hlt : j < k
    · go_wp2_with fail
      refine (mul2 HM.out x w).mono ?_
      rintro e w' ⟨rfl, rfl⟩
      have HY : Hid (gm x 2 = xp (j + 1)) := Lib.hid (by rw [HX.out]; rfl)
      generalize gm x 2 = y at HY ⊢
      go_wp2
      exact ⟨⟨j + 1, y, by omega, by go_num, rfl, HY.out⟩, by simp [intOf]; omega⟩
    · have HJ : Hid (j = k) := Lib.hid (by omega)
      go_wp2
      go_ret
      exact ⟨by rw [HX.out, HJ.out]; rfl, rfl⟩

theorem ready_nil (w : World) : Calls Tryd.prog 37 #[.pointer none] w fun e w' => e = .returned (.bool false) ∧ w' = w := by
  go_enter Tryd.func37, Tryd.ntmps37
  go_wp2
  go_ret
  exact ⟨rfl, rfl⟩
theorem ready_yes (w : World) (gc n c : Nat) (A : Option Addr) (h0 : 0 < n) (hc : w.cell? ⟨gc, 2560, none⟩ = some (.slice A n c)) : Calls Tryd.prog 37 #[.pointer (some ⟨gc, 0, none⟩)] w fun e w' => e = .returned (.bool true) ∧ w' = w := by
  go_enter Tryd.func37, Tryd.ntmps37
  go_wp2
  go_ret
  exact ⟨rfl, rfl⟩
end Go.Proofs.YtbcagjndbfpecaaDoor
