/-
  The fixed fact that every statement of layer 1 asks: it holds in every memory.
-/
import Derived.Test.YtpfibdloaddbdaaMeth
namespace Go.Proofs.Ytpfibdloaddbdaa
open Go.RowKit Go.Gar

theorem below_alloc (w : World) (o : Obj) : Below w.heap.size w (w.alloc o) := (Below.refl _ _).alloc (Nat.le_refl _) o

def aw9 : List UInt8 := [9, 0, 0, 0, 0, 0, 0, 1, 2]
def aw13 : List UInt8 := [9, 0, 0, 0, 0, 0, 0, 1, 2, 0, 2, 97, 98]
def awS : ByteArray := ⟨aw13.toArray⟩
def aw12 : List UInt8 := [0, 0, 0, 0, 0, 0, 1, 2, 0, 2, 97, 98]

theorem int_at (A : Option Addr) (l k : List UInt8) (len c B : Nat) (n : Int) (w : World) (hB : B = w.heap.size) (hl : len = l.length) (hk : l ++ be (b64 n) 8 = k) (hr : Rd w B A l) (hsz : l.length ≤ 1000000000) :
    Calls Try.prog 11 #[.slice A len c, .int .i64 n] w fun e w' =>
      e = .returned (.slice (some ⟨B, 0, none⟩) (len + 8) (len + 8)) ∧ Blk w' B 5 (u8s k) ∧ Below B w w' := by
  subst hB; subst hl; subst hk
  exact int_any A l c n w hr hsz
theorem text_at (A : Option Addr) (l k : List UInt8) (len c B : Nat) (s : ByteArray) (w : World) (hB : B = w.heap.size) (hl : len = l.length) (hk : l ++ be s.size 2 ++ s.data.toList = k) (hr : Rd w B A l) (hsz : l.length ≤ 1000000000) (h : s.size ≤ 65535) :
    Calls Try.prog 8 #[.slice A len c, .string s] w fun e w' =>
      e = .returned (.tuple #[.slice (some ⟨B, 0, none⟩) (len + 2 + s.size) (len + 2 + s.size), .int .i64 0]) ∧ Blk w' B 5 (u8s k) ∧ Below B w w' := by
  subst hB; subst hl; subst hk
  exact text_any A l c s w hr hsz h
theorem new_at (A : Option Addr) (l : List UInt8) (len c B : Nat) (w : World) (hB : B = w.heap.size) (hl : len = l.length) (hr : Rd w B A l) (hsz : l.length ≤ 1000000000) :
    Calls Try.prog 14 #[.slice A len c] w fun e w' =>
      e = .returned (.pointer (some ⟨B + 1, 0, none⟩)) ∧ Rdr w' (B + 1) B l 0 false ∧ Below B w w' := by
  subst hB; subst hl
  exact new_any A l c w hr hsz

set_option maxHeartbeats 1000000 in
theorem awake_any (w : World) : Calls Try.prog 10 #[] w fun e w' => e = .returned (.bool true) ∧ Below w.heap.size w w' := by
  go_enter Try.func10, Try.ntmps10
  go_wp2_with fail
  have hr0 : Rd (w.alloc (.cells #[.int .u8 9] 5)) (w.heap.size + 1) (some ⟨w.heap.size, 0, none⟩) [9] :=
    Rd.of_blk0 [9] (Blk.new w 5 (u8s [9])) (by simp) 1
  refine (int_at _ [9] aw9 _ _ (w.heap.size + 1) _ _ (by simp) rfl (by decide +kernel) hr0 (by simp)).mono ?_
  rintro e w1 ⟨rfl, hB1, hb1⟩
  have Hb1 := Lib.hid ((below_alloc w _).trans (hb1.mono (Nat.le_succ _)))
  have Hz1 := Lib.hid (show w.heap.size + 1 < w1.heap.size from hB1.lt)
  have HB1 := Lib.hid hB1
  clear hB1 hb1 hr0
  go_wp2_with fail
  refine (text_at _ aw9 aw13 9 9 _ _ _ rfl (by decide) (by decide +kernel) (by simpa [aw9] using Rd.of_blk0 aw9 HB1.out Hz1.out 9) (by simp [aw9]) (by decide)).mono ?_
  rintro e w2 ⟨rfl, hB2, hb2⟩
  have Hb2 := Lib.hid (Hb1.out.trans (hb2.mono Hb1.out.size))
  have HB2 := Lib.hid hB2
  clear hB2 hb2
  generalize hg1 : w1.heap.size = g1 at *
  have Hg1 := Lib.hid hg1
  clear hg1
  go_wp2_with fail
  refine (new_at _ aw12 12 12 _ _ rfl (by decide) (by simpa [aw13, aw12] using Rd.of_blk aw13 HB2.out HB2.out.lt 1 12) (by simp [aw12])).mono ?_
  rintro e w3 ⟨rfl, hr3, hb3⟩
  have Hb3 := Lib.hid (Hb2.out.trans (hb3.mono Hb2.out.size))
  have HB3 := Lib.hid (HB2.out.below hb3 HB2.out.lt)
  have Hn := Lib.hid (show g1 ≠ w2.heap.size + 1 from by have := HB2.out.lt; omega)
  have Hw := Lib.hid (show w.heap.size ≤ w2.heap.size + 1 from by have := Hb2.out.size; omega)
  have HR3 := Lib.hid hr3
  clear hr3 hb3
  generalize w2.heap.size + 1 = g at *
  generalize w2.heap.size = d at *
  go_wp2_with fail
  refine (rint_fit g d 0 aw12 _ HR3.out (by decide) (by decide)).mono ?_
  rw [show s64 (val ((aw12.drop 0).take 8)) = 258 from by decide +kernel]
  rintro e w4 ⟨rfl, hr4, hg4⟩
  have HR4 := Lib.hid hr4
  have HB4 := Lib.hid (HB3.out.grown hg4 (fun e => Hn.out (by injection e)))
  have Hb4 := Lib.hid (Hb3.out.grown hg4 Hb3.out.size (fun k hk => by injection hk with hk; have := Hw.out; omega))
  clear hr4 hg4
  go_wp2_with fail
  refine (left_good g d 8 aw12 _ HR4.out (by decide) (by decide)).mono ?_
  rw [show (aw12.length : Int) - ((8 : Nat) : Int) = 4 from by decide]
  rintro e w5 ⟨rfl, n5, rfl⟩
  have HR5 := Lib.hid (HR4.out.drewN n5)
  have HB5 := Lib.hid (HB4.out.drewN n5)
  have Hb5 := Lib.hid (show Below w.heap.size w (w4.drewN n5) from ⟨Hb4.out.os, Hb4.out.tape, Hb4.out.output, Hb4.out.size, Hb4.out.block⟩)
  generalize w4.drewN n5 = w5 at *
  go_wp2_with fail
  refine (rtext_fit g d 8 aw12 _ 2 [97, 98] _ HR5.out (by decide) (by decide) (by decide +kernel) (by decide +kernel) (by decide) (by decide)).mono ?_
  rintro e w6 ⟨rfl, hr6, hg6⟩
  have HR6 := Lib.hid hr6
  have HB6 := Lib.hid (HB5.out.grown hg6 (fun e => Hn.out (by injection e)))
  have Hb6 := Lib.hid (Hb5.out.grown hg6 Hb5.out.size (fun k hk => by injection hk with hk; have := Hw.out; omega))
  clear hr6 hg6
  go_wp2_with fail
  refine (end_good g d 12 aw12 _ HR6.out).mono ?_
  rw [show decide (12 = aw12.length) = true from by decide]
  rintro e w7 ⟨rfl, n7, rfl⟩
  have HR7 := Lib.hid (HR6.out.drewN n7)
  have HB7 := Lib.hid (HB6.out.drewN n7)
  have Hb7 := Lib.hid (show Below w.heap.size w (w6.drewN n7) from ⟨Hb6.out.os, Hb6.out.tape, Hb6.out.output, Hb6.out.size, Hb6.out.block⟩)
  generalize w6.drewN n7 = w7 at *
  have hcv := run_string_rd (P := Try.prog) 22 9 5 Try.und22 Try.und5 Try.und9 _ (aw13.take 13) _ 13 (Rd.of_blk0 aw13 HB7.out HB7.out.lt 13)
  rw [show (aw13.take 13).length = 13 from rfl, show (⟨(aw13.take 13).toArray⟩ : ByteArray) = awS from rfl] at hcv
  have hcv2 := run_string_rd (P := Try.prog) (w := w7.alloc (.cells #[.int .u8 9, .int .u8 0, .int .u8 0, .int .u8 0, .int .u8 0, .int .u8 0, .int .u8 0, .int .u8 1, .int .u8 2, .int .u8 0, .int .u8 2, .int .u8 97, .int .u8 98] 5))
    22 9 5 Try.und22 Try.und5 Try.und9 (some ⟨w7.heap.size, 0, none⟩) (aw13.take 13) (w7.heap.size + 1) 13 (Rd.of_blk0 aw13 (Blk.new w7 5 (u8s aw13)) (by omega) 13)
  rw [show (aw13.take 13).length = 13 from rfl, show (⟨(aw13.take 13).toArray⟩ : ByteArray) = awS from rfl] at hcv2
  have HR8 := Lib.hid (show Rdr (w7.alloc (.cells #[.int .u8 9, .int .u8 0, .int .u8 0, .int .u8 0, .int .u8 0, .int .u8 0, .int .u8 0, .int .u8 1, .int .u8 2, .int .u8 0, .int .u8 2, .int .u8 97, .int .u8 98] 5)) g d aw12 12 false from ⟨HR7.out.1.alloc _, HR7.out.2.alloc _⟩)
  go_wp2_with fail
  refine (rint_not g d 12 aw12 false _ HR8.out (by decide) (by decide) (by decide)).mono ?_
  rintro e w9 ⟨rfl, hr9, hg9⟩
  have HR9 := Lib.hid hr9
  have Hb9 := Lib.hid ((Hb7.out.alloc Hb7.out.size _).grown hg9 (Nat.le_trans Hb7.out.size (by simp)) (fun k hk => by injection hk with hk; have := Hw.out; omega))
  clear hr9 hg9 hcv hcv2
  go_wp2_with fail
  refine (end_bad g d 12 aw12 _ HR9.out).mono ?_
  rintro e w10 ⟨rfl, n10, rfl⟩
  go_wp2
  go_ret
  exact ⟨rfl, ⟨Hb9.out.os, Hb9.out.tape, Hb9.out.output, Hb9.out.size, Hb9.out.block⟩⟩
end Go.Proofs.Ytpfibdloaddbdaa
