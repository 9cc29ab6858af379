/-
  The landed disk keeps its contract, a nil pointer too.
-/
import Derived.Test.YtampdfmakhdliaaDiskJ12
import Derived.Test.YtampdfmakhdliaaDiskJ10
set_option maxRecDepth 100000
namespace Go.Proofs.Ytampdfmakhdliaa
open Go.RowKit Go.Gar
open Go.Gar.Dsk (Dsk Sec)

theorem nilSize (w : World) : Calls Try.prog 11 #[.pointer none] w fun e w' => e = .returned (.int .i64 0) ∧ w' = w := by
  go_enter Try.func11, Try.ntmps11
  go_wp2
  go_ret
  exact ⟨rfl, rfl⟩
theorem nilHas (w : World) (i : Int) : Calls Try.prog 37 #[.pointer none, .int .i64 i] w fun e w' => e = .returned (.bool false) ∧ w' = w := by
  have Hs := Lib.hid (nilSize w)
  by_cases h0 : 0 ≤ i
  · have d1 : decide (i ≥ 0) = true := by simpa using h0
    have d2 : decide (i < 0) = false := by simpa using h0
    go_enter Try.func37, Try.ntmps37
    go_wp2_with fail
    refine Hs.out.mono ?_
    rintro e w1 ⟨rfl, rfl⟩
    go_wp2
    go_ret
    exact ⟨rfl, rfl⟩
  · have d1 : decide (i ≥ 0) = false := by simpa using h0
    go_enter Try.func37, Try.ntmps37
    go_wp2
    go_ret
    exact ⟨rfl, rfl⟩
theorem nilRead (w : World) (i : Int) : Calls Try.prog 20 #[.pointer none, .int .i64 i] w fun e w' => ∃ A c, e = .returned (.tuple #[.slice A 0 c, .int .i64 1]) ∧ Below w.heap.size w w' := by
  have Hs := Lib.hid (nilHas w i)
  go_enter Try.func20, Try.ntmps20
  go_wp2_with fail
  refine Hs.out.mono ?_
  rintro e w1 ⟨rfl, rfl⟩
  go_wp2
  go_ret2
  exact ⟨_, _, rfl, Below.refl _ _⟩
theorem nilWrite (w : World) (i : Int) (A : Option Addr) (n c : Nat) : Calls Try.prog 17 #[.pointer none, .int .i64 i, .slice A n c] w fun e w' => e = .returned (.int .i64 1) ∧ Below w.heap.size w w' := by
  have Hs := Lib.hid (nilHas w i)
  go_enter Try.func17, Try.ntmps17
  go_wp2_with fail
  refine Hs.out.mono ?_
  rintro e w1 ⟨rfl, rfl⟩
  go_wp2
  go_ret
  exact ⟨rfl, Below.refl _ _⟩
theorem nilFlush (w : World) : Calls Try.prog 12 #[.pointer none] w fun e w' => e = .returned (.int .i64 1) ∧ Below w.heap.size w w' := by
  have Hb := Lib.hid (below_alloc w (.cells #[.pointer none] 23))
  go_enter Try.func12, Try.ntmps12
  go_wp2
  go_ret
  exact ⟨rfl, Hb.out⟩
theorem nilPending (w : World) : Calls Try.prog 24 #[.pointer none] w fun e w' => e = .returned (.int .i64 0) ∧ Below w.heap.size w w' := by
  go_enter Try.func24, Try.ntmps24
  go_wp2
  go_ret
  exact ⟨rfl, Below.refl _ _⟩
theorem nilWrites (w : World) : Calls Try.prog 26 #[.pointer none] w fun e w' => e = .returned (.int .i64 0) ∧ Below w.heap.size w w' := by
  go_enter Try.func26, Try.ntmps26
  go_wp2
  go_ret
  exact ⟨rfl, Below.refl _ _⟩
theorem nilSince (w : World) (i : Int) : Calls Try.prog 22 #[.pointer none, .int .i64 i] w fun e w' => e = .returned (.int .i64 0) ∧ Below w.heap.size w w' := by
  have Hs := Lib.hid (nilHas w i)
  go_enter Try.func22, Try.ntmps22
  go_wp2_with fail
  refine Hs.out.mono ?_
  rintro e w1 ⟨rfl, rfl⟩
  go_wp2
  go_ret
  exact ⟨rfl, Below.refl _ _⟩
theorem nilFuse (w : World) (n : Int) : Calls Try.prog 16 #[.pointer none, .int .i64 n] w fun e w' => e = .returned (.tuple #[]) ∧ Below w.heap.size w w' := by
  go_enter Try.func16, Try.ntmps16
  go_wp2
  go_end0
  exact ⟨rfl, Below.refl _ _⟩
theorem nilCrash (w : World) (keep torn cut : Int) : Calls Try.prog 14 #[.pointer none, .int .i64 keep, .int .i64 torn, .int .i64 cut] w fun e w' => e = .returned (.tuple #[]) ∧ Below w.heap.size w w' := by
  have B1 : Blk (w.alloc (.cells #[.pointer none] 23)) w.heap.size 23 [.pointer none] := Blk.new _ _ _
  have b1 := below_alloc w (.cells #[.pointer none] 23)
  obtain ⟨w1, hw1⟩ : ∃ w1, w.alloc (.cells #[.pointer none] 23) = w1 := ⟨_, rfl⟩
  rw [hw1] at b1 B1
  have B4 := ((B1.alloc (.cells #[.int .i64 keep] 3)).alloc (.cells #[.int .i64 torn] 3)).alloc (.cells #[.int .i64 cut] 3)
  have b2 := b1.alloc b1.size (.cells #[.int .i64 keep] 3)
  have b3 := b2.alloc b2.size (.cells #[.int .i64 torn] 3)
  have b4 := b3.alloc b3.size (.cells #[.int .i64 cut] 3)
  obtain ⟨w2, hw2⟩ : ∃ w2, w1.alloc (.cells #[.int .i64 keep] 3) = w2 := ⟨_, rfl⟩
  rw [hw2] at B4 b4
  obtain ⟨w3, hw3⟩ : ∃ w3, w2.alloc (.cells #[.int .i64 torn] 3) = w3 := ⟨_, rfl⟩
  rw [hw3] at B4 b4
  obtain ⟨w4, hw4⟩ : ∃ w4, w3.alloc (.cells #[.int .i64 cut] 3) = w4 := ⟨_, rfl⟩
  rw [hw4] at B4 b4
  have q1 := B4.cell 0
  simp only [List.getElem?_cons_zero] at q1
  have Hb := Lib.hid b4
  have HW1 := Lib.hid hw1
  have HW2 := Lib.hid hw2
  have HW3 := Lib.hid hw3
  have HW4 := Lib.hid hw4
  clear B1 b1 B4 b2 b3 b4 hw1 hw2 hw3 hw4
  go_enter Try.func14, Try.ntmps14
  go_wp2_with (first | rw [HW1.out] | rw [HW2.out] | rw [HW3.out] | rw [HW4.out])
  refine bodyPost_ret (results_none rfl _ _ _) rfl ?_
  exact ⟨rfl, Hb.out⟩
theorem diskOK : DiskOK RepD := { repD_rep with
  new := new_any
  size := fun h => (size_any h).mono (by rintro e w' ⟨rfl, rfl⟩; exact ⟨rfl, Below.refl _ _⟩)
  read := fun i h _ => read_any h i
  write := write_any
  flush := flush_any
  pending := pending_any
  writes := writes_any
  since := fun i h _ => since_any h i
  fuse := fun n h hn => fuse_any h n hn
  crash := crash_any
  }
theorem diskNil : DiskNil where
  size := fun w => (nilSize w).mono (by rintro e w' ⟨rfl, rfl⟩; exact ⟨rfl, Below.refl _ _⟩)
  read := nilRead
  write := nilWrite
  flush := nilFlush
  pending := nilPending
  writes := nilWrites
  since := nilSince
  fuse := nilFuse
  crash := nilCrash
end Go.Proofs.Ytampdfmakhdliaa
