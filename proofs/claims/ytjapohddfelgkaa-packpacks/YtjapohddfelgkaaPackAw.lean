/-
  Layer 13: the fixed fact awake, and short, from the contract of pack's functions.
-/
import Derived.Test.YtjapohddfelgkaaPackC
import Derived.Test.YtjapohddfelgkaaPackM
import Derived.Test.YtjapohddfelgkaaLzRefC
import Derived.Test.YtjapohddfelgkaaParts
set_option maxRecDepth 100000
namespace Go.Proofs.Ytjapohddfelgkaa
open Go.RowKit Go.Gar

theorem short13_any (A : Option Addr) (len cap m : Nat) (w : World) (hm : m = min len 1100) (hc : len ≤ cap) :
    Calls Try.prog 7 #[.slice A len cap] w fun e w' => e = .returned (.slice A m cap) ∧ w' = w := by
  by_cases h : len ≤ 1100
  · obtain rfl : m = len := by omega
    clear hm
    go_enter Try.func7, Try.ntmps7
    go_wp2
    go_ret
    exact ⟨rfl, rfl⟩
  · obtain rfl : m = 1100 := by omega
    clear hm
    go_enter Try.func7, Try.ntmps7
    go_wp2
    go_ret
    exact ⟨rfl, rfl⟩
theorem make_zeros (N : Nat) (hN : N = 1000) : ∃ Z : List UInt8, Z.length = N ∧ (Lz.packB Z).1 = 0 ∧ (Lz.packB Z).2.length = 27 ∧ Lz.unpackB (Lz.packB Z).2 = (0, Z) ∧
    ∀ W : World, (Instr.makeSlice 22 (.int .i64 1000) (.int .i64 1000)).run Try.prog W = .ok (.slice (some ⟨W.heap.size, 0, none⟩) N N) (W.alloc (.cells (u8s Z).toArray 5)) := by
  refine ⟨List.replicate N 0, List.length_replicate, (Lz.pack_zeros N hN).1, (Lz.pack_zeros N hN).2.1, (Lz.pack_zeros N hN).2.2, fun W => ?_⟩
  have h := run_make_bytes N N (Nat.le_refl _) (by omega) W
  rw [show ((N : Nat) : Int) = 1000 by omega] at h
  exact h
theorem make_more (N : Nat) (hN : N = 1025) : ∃ Z : List UInt8, Z.length = N ∧ Lz.packB Z = (2, []) ∧
    ∀ W : World, (Instr.makeSlice 22 (.int .i64 1025) (.int .i64 1025)).run Try.prog W = .ok (.slice (some ⟨W.heap.size, 0, none⟩) N N) (W.alloc (.cells (u8s Z).toArray 5)) := by
  refine ⟨List.replicate N 0, List.length_replicate, ?_, fun W => ?_⟩
  · unfold Lz.packB
    rw [if_pos (by rw [List.length_replicate]; omega)]
  · have h := run_make_bytes N N (Nat.le_refl _) (by omega) W
    rw [show ((N : Nat) : Int) = 1025 by omega] at h
    exact h

set_option maxHeartbeats 400000 in
theorem awake13_any {G : World → Prop} (hOK : PackOK G) (w : World) (hG : G w) :
    Calls Try.prog 9 #[] w fun e w' => e = .returned (.bool true) ∧ Below w.heap.size w w' := by
  have HOK := Lib.hid hOK
  have HG := Lib.hid hG
  clear hOK hG
  obtain ⟨Z, hZl, hZ1, hZ2, hZ3, hmk⟩ := make_zeros 1000 rfl
  obtain ⟨Y, hYl, hY1, hmk2⟩ := make_more 1025 rfl
  obtain ⟨X, hX⟩ : ∃ X, (Lz.packB Z).2 = X := ⟨_, rfl⟩
  rw [hX] at hZ2 hZ3
  have HP := Lib.hid (show Lz.packB Z = (0, X) from Prod.ext hZ1 hX)
  have HZl := Lib.hid hZl
  have HXl := Lib.hid hZ2
  have HU := Lib.hid hZ3
  have HYl := Lib.hid hYl
  have HY := Lib.hid hY1
  have HU0 := Lib.hid (show Lz.unpackB [] = (12, []) from rfl)
  clear hZl hZ1 hZ2 hZ3 hYl hY1 hX
  have hB1 := Blk.new w 5 (u8s Z)
  have hb1 := below_alloc w (.cells (u8s Z).toArray 5)
  have HR1 := Lib.hid (Rd.of_all hB1)
  have Hb1 := Lib.hid hb1
  clear hB1 hb1
  go_enter Try.func9, Try.ntmps9
  go_wp2_with fail
  refine (pack_at HOK.out _ _ Z 1000 1000 0 X 27 (HOK.out.keep HG.out Hb1.out) HZl.out.symm HR1.out (Nat.le_refl _) (by omega) HP.out HXl.out.symm).mono ?_
  rintro e w2 ⟨A2, c2, rfl, hc2, hr2, hb2⟩
  have HR2 := Lib.hid hr2
  have Hb2 := bb Hb1 hb2
  clear hr2 hb2 HR1 Hb1
  go_wp2_with fail
  refine (unpack_at HOK.out w2 A2 X 27 c2 0 Z 1000 (HOK.out.keep HG.out Hb2.out) HXl.out.symm HR2.out hc2 (by omega) HU.out HZl.out.symm).mono ?_
  rintro e w3 ⟨A3, c3, rfl, hc3, hr3, hb3⟩
  have Hb3 := bb Hb2 hb3
  clear hr3 hb3 HR2 Hb2
  go_wp2_with fail
  refine (unpack_at HOK.out w3 none [] 0 0 12 [] 0 (HOK.out.keep HG.out Hb3.out) rfl (.inl rfl) (Nat.le_refl _) (by omega) HU0.out rfl).mono ?_
  rintro e w4 ⟨A4, c4, rfl, hc4, hr4, hb4⟩
  have Hb4 := bb Hb3 hb4
  clear hr4 hb4 Hb3
  have hB5 := Blk.new w4 5 (u8s Y)
  have hb5 := below_alloc w4 (.cells (u8s Y).toArray 5)
  have HR5 := Lib.hid (Rd.of_all hB5)
  have Hb5 := bb Hb4 hb5
  clear hB5 hb5
  go_wp2_with fail
  refine (pack_at HOK.out _ _ Y 1025 1025 2 [] 0 (HOK.out.keep HG.out Hb5.out) HYl.out.symm HR5.out (Nat.le_refl _) (by omega) HY.out rfl).mono ?_
  rintro e w6 ⟨A6, c6, rfl, hc6, hr6, hb6⟩
  have Hb6 := bb Hb5 hb6
  clear hr6 hb6 HR5 Hb4 Hb5
  go_wp2
  go_ret
  exact ⟨by simp, Hb6.out⟩
end Go.Proofs.Ytjapohddfelgkaa
