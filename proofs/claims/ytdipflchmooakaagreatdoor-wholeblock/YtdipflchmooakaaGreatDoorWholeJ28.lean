/-
  The landed cbc: what a round of Seal and Open finds and leaves; Seal with a key that is none. The landed cbc: Seal: its contract.
-/
import Derived.Test.YtdipflchmooakaaGreatDoorWholeJ01
import Derived.Test.YtdipflchmooakaaGreatDoorWholeJ05
import Derived.Test.YtdipflchmooakaaGreatDoorWholeJ02
import Derived.Test.YtdipflchmooakaaGreatDoorWholeJ06
import Derived.Test.YtdipflchmooakaaGreatDoorWholeJ09
import Derived.Test.YtdipflchmooakaaGreatDoorWholeJ13
import Derived.Test.YtdipflchmooakaaGreatDoorWholeJ08
import Derived.Test.YtdipflchmooakaaGreatDoorWholeJ23
import Derived.Test.YtdipflchmooakaaGreatDoorWholeJ24
import Derived.Test.YtdipflchmooakaaGreatDoorWholeJ27
import Derived.Test.YtdipflchmooakaaGreatDoorWholeJ26
import Derived.Test.YtdipflchmooakaaGreatDoorWholeJ18
import Derived.BigRegion
import Derived.Deep.CutRange
import Derived.RegionTactic
import Derived.Test.YtdipflchmooakaaGreatDoorWholeJ14
set_option maxRecDepth 100000
namespace Go.Proofs.YtdipflchmooakaaGreatDoor
open Go.RowKit Go.Shelf Go.Gar Go.Gar.Aes
attribute [local go_sem] Oper.semAt_some

/-- What lies behind some blocks: the last one, encrypted, and all of them. -/
def stX (key iv : List UInt8) (pre : List B16) : List UInt8 × List UInt8 := pre.foldl (fun s x => (encrypt key (addK x.1 s.1), s.2 ++ encrypt key (addK x.1 s.1))) (iv, [])
theorem stX_snoc (key iv : List UInt8) (pre : List B16) (x : B16) : stX key iv (pre ++ [x]) = (encrypt key (addK x.1 (stX key iv pre).1), (stX key iv pre).2 ++ encrypt key (addK x.1 (stX key iv pre).1)) := by simp [stX]
theorem flat_blk (xs : List B16) (k : Nat) (hk : k < xs.length) : Cbc.blk (flatC xs) k = xs[k].1 := by
  unfold Cbc.blk
  induction xs generalizing k with
  | nil => simp at hk
  | cons x xs ih =>
    have e : flatC (x :: xs) = x.1 ++ flatC xs := by simp [flatC]
    cases k with
    | zero =>
      rw [e, Nat.mul_zero, List.drop_zero]
      exact List.take_left' x.2
    | succ k =>
      rw [e, show 16 * (k + 1) = x.1.length + 16 * k from by rw [x.2]; omega, List.drop_append, List.drop_eq_nil_of_le (Nat.le_add_right _ _), List.nil_append, Nat.add_sub_cancel_left]
      exact ih k (by simpa using hk)
theorem stX_take (key iv : List UInt8) (xs : List B16) : ∀ k, k ≤ xs.length → stX key iv (xs.take k) = (Cbc.last key iv (flatC xs) k, Cbc.outK key iv (flatC xs) k)
  | 0, _ => rfl
  | k + 1, h => by
    rw [List.take_succ_eq_append_getElem h, stX_snoc, stX_take key iv xs k (by omega), ← flat_blk xs k h]
    rfl
theorem stX_all (key iv : List UInt8) (xs : List B16) : (stX key iv xs).2 = Cbc.outK key iv (flatC xs) ((flatC xs).length / 16) := by
  have := stX_take key iv xs xs.length (Nat.le_refl _)
  rw [List.take_length] at this
  rw [this, flatC_len, Nat.mul_div_cancel_left _ (by omega)]
theorem stX_len1 (key iv : List UInt8) (hiv : iv.length = 16) (pre : List B16) : (stX key iv pre).1.length = 16 := by
  rcases List.eq_nil_or_concat pre with rfl | ⟨q, x, rfl⟩
  · exact hiv
  · rw [List.concat_eq_append, stX_snoc]; exact encrypt_len _ _
theorem stX_len2 (key iv : List UInt8) (pre : List B16) : (stX key iv pre).2.length = 16 * pre.length := by
  have := stX_take key iv pre pre.length (Nat.le_refl _)
  rw [List.take_length] at this
  rw [this]
  exact Cbc.outK_len _ _ _ _

/-- What a round finds: the cipher's variable, the variable of the bytes so far, their row with its room, the block before. -/
structure Lp (w1 : World) (g8 g11 gS g12 gc N : Nat) (q o : List UInt8) (W : World) : Prop where
  c8 : Blk W g8 51 [.pointer (some ⟨gc, 0, none⟩)]
  c11 : Blk W g11 23 [.slice (some ⟨gS, 0, none⟩) o.length N]
  row : ∃ junk, Blk W gS 5 (u8s o ++ junk) ∧ o.length + junk.length = N
  c12 : Blk W g12 32 (u8s q)
  b : Below w1.heap.size w1 W
theorem Lp.grown {w1 W W' : World} {g8 g11 gS g12 gc N B : Nat} {q o : List UInt8} {row : Option Nat} (h : Lp w1 g8 g11 gS g12 gc N q o W) (hg : W.grownBy W' row) (hB : g8 < B ∧ g11 < B ∧ gS < B ∧ g12 < B ∧ w1.heap.size ≤ B) (hr : ∀ r, row = some r → B ≤ r) : Lp w1 g8 g11 gS g12 gc N q o W' := by
  have far : ∀ k, k < B → some k ≠ row := fun k hk e => by have := hr k e.symm; omega
  obtain ⟨junk, h1, h2⟩ := h.row
  exact ⟨h.c8.grown hg (far _ hB.1), h.c11.grown hg (far _ hB.2.1), ⟨junk, h1.grown hg (far _ hB.2.2.1), h2⟩, h.c12.grown hg (far _ hB.2.2.2.1), h.b.grown hg h.b.size (fun k e => by have := hr k e; omega)⟩
theorem Lp.below {w1 W W' : World} {g8 g11 gS g12 gc N : Nat} {q o : List UInt8} (h : Lp w1 g8 g11 gS g12 gc N q o W) (hb : Below W.heap.size W W') : Lp w1 g8 g11 gS g12 gc N q o W' := by
  obtain ⟨junk, h1, h2⟩ := h.row
  exact ⟨h.c8.below hb h.c8.lt, h.c11.below hb h.c11.lt, ⟨junk, h1.below hb h1.lt, h2⟩, h.c12.below hb h.c12.lt, h.b.trans (hb.mono h.b.size)⟩
theorem Lp.prev {w1 W : World} {g8 g11 gS g12 gc N : Nat} {q o : List UInt8} (h : Lp w1 g8 g11 gS g12 gc N q o W) (q' : List UInt8) (hd : g8 ≠ g12 ∧ g11 ≠ g12 ∧ gS ≠ g12 ∧ w1.heap.size ≤ g12) : Lp w1 g8 g11 gS g12 gc N q' o (W.setRow g12 (u8s q').toArray) := by
  obtain ⟨junk, h1, h2⟩ := h.row
  exact ⟨h.c8.rowFar hd.1 _, h.c11.rowFar hd.2.1 _, ⟨junk, h1.rowFar hd.2.2.1 _, h2⟩, h.c12.row _, below_setRow h.b hd.2.2.2 _⟩
/-- 16 bytes appended: where they lie, there is room. -/
theorem Lp.app {w1 W : World} {g8 g11 gS g12 gc N : Nat} {q o : List UInt8} (h : Lp w1 g8 g11 gS g12 gc N q o W) {gq : Nat} {t : TypeId} {z : List UInt8} (hz : Blk W gq t (u8s z)) (hz16 : z.length = 16) (hroom : o.length + 16 ≤ N) (hd : g8 ≠ gS ∧ g11 ≠ gS ∧ g12 ≠ gS ∧ w1.heap.size ≤ gS ∧ g8 ≠ g11 ∧ g12 ≠ g11 ∧ w1.heap.size ≤ g11) :
    ∃ W', (Builtin.append_ #[23, 23] 23 #[.slice (some ⟨gS, 0, none⟩) o.length N, .slice (some ⟨gq, 0, none⟩) 16 16]).run Tryz.prog W = .ok (.slice (some ⟨gS, 0, none⟩) (o.length + 16) N) W' ∧ W.grownBy W' (some gS) ∧ Blk W' g11 23 [.slice (some ⟨gS, 0, none⟩) o.length N] ∧
      Lp w1 g8 g11 gS g12 gc N q (o ++ z) (W'.setCell ⟨g11, 0, none⟩ (.slice (some ⟨gS, 0, none⟩) (o.length + 16) N)) := by
  obtain ⟨junk, h1, h2⟩ := h.row
  have hol : (u8s o).length = o.length := u8s_len o
  have hr := run_append_rd (P := Tryz.prog) (w := W) 23 23 5 Tryz.und22 Tryz.size5 gS o.length N 16 (some ⟨gq, 0, none⟩) z _ (Rd.of_all hz) rfl _ h1 (by omega) (by rw [List.length_append, hol]; omega)
  have hE : (u8s o ++ junk).take o.length ++ u8s z ++ (u8s o ++ junk).drop (o.length + z.length) = u8s (o ++ z) ++ junk.drop 16 := by
    rw [List.take_left' hol, List.drop_append, hol, List.drop_eq_nil_of_le (by omega), List.nil_append, Nat.add_sub_cancel_left, hz16, u8s_app]
  rw [hE, hz16] at hr
  have hg : W.grownBy (W.setRow gS (u8s (o ++ z) ++ junk.drop 16).toArray) (some gS) := grown_row
  refine ⟨_, hr, hg, h.c11.rowFar hd.2.1 _, ?_, ?_, ⟨junk.drop 16, ?_, ?_⟩, ?_, ?_⟩
  · exact (h.c8.rowFar hd.1 _).far hd.2.2.2.2.1 _
  · have := (h.c11.rowFar hd.2.1 (u8s (o ++ z) ++ junk.drop 16).toArray).set_ 0 (.slice (some ⟨gS, 0, none⟩) (o.length + 16) N)
    rw [List.length_append, hz16]
    exact this
  · exact (h1.row _).far (fun e => hd.2.1 e.symm) _
  · rw [List.length_append, hz16, List.length_drop]; omega
  · exact (h.c12.rowFar hd.2.2.1 _).far hd.2.2.2.2.2.1 _
  · exact (below_setRow h.b hd.2.2.2.1 _).setCell hd.2.2.2.2.2.2 _
theorem keeps_cells {W W' : World} {g : Nat} {t : TypeId} {cs : List Value} (hg : W.grownBy W' (some g)) (hB : Blk W g t cs) : KeepsOthers W W' :=
  KeepsOthers.of_grownBy hg fun j o e ho => by
    have e1 := Option.some.inj e
    subst e1
    rw [show W.heap[g]? = _ from hB] at ho
    cases ho
    rfl

set_option maxRecDepth 100000 in
set_option maxHeartbeats 2000000 in
theorem seal_no (w : World) (K A : Option Addr) (kl kc bl bc : Nat) (x : Array Value) (hno : ¬ sizeOk kl) :
    Calls Tryz.prog 20 #[.slice K kl kc, .agg x, .slice A bl bc] w fun e w' => e = .returned (.tuple #[.slice none 0 0, .int .i64 1]) ∧ Below w.heap.size w w' := by
  have hb0 := below_alloc w (.cells x 32)
  obtain ⟨w0, hw0⟩ : ∃ w0, w.alloc (.cells x 32) = w0 := ⟨_, rfl⟩
  rw [hw0] at hb0
  have HW0 := Lib.hid hw0
  have Hb0 := Lib.hid hb0
  clear hw0 hb0
  go_enter Tryz.func20, Tryz.ntmps20
  go_wp2_with (refine wpList_box_arr rfl 32 (.tmp 1) x rfl rfl ?_; rw [HW0.out])
  refine (aesOK.new_no w0 K kl kc hno).mono ?_
  rintro e w1 ⟨rfl, hb1⟩
  have Hb1 := bb Hb0 hb1
  clear hb1
  go_wp2
  go_ret2
  exact ⟨rfl, Hb1.out.alloc Hb1.out.size _⟩

end Go.Proofs.YtdipflchmooakaaGreatDoor
namespace Go.Proofs.YtdipflchmooakaaGreatDoor
open Go.RowKit Go.Shelf Go.Gar Go.Gar.Aes
attribute [local go_sem] Oper.semAt_some

set_option maxRecDepth 100000 in
set_option maxHeartbeats 2000000 in
theorem seal_in (w : World) (K A : Option Addr) (key iv b : List UInt8) (kl kc bl bc : Nat) (hkl : kl = key.length) (hbl : bl = b.length) (hs : sizeOk key.length) (hiv : iv.length = 16) (hkc : kl ≤ kc) (hb : bl ≤ 1048576)
    (rK : Rd w w.heap.size K key) (rA : Rd w w.heap.size A b) (O : List UInt8) (hOo : O = Cbc.seal_ key iv b) :
    CallsIn Fence.wide 10 Tryz.prog 20 #[.slice K kl kc, .agg (u8s iv).toArray, .slice A bl bc] w fun e w' => ∃ v, e = .returned (.tuple #[v, .int .i64 0]) ∧ Out w' v O ∧ Below w.heap.size w w' := by
  have hI0 := Blk.new w 32 (u8s iv)
  have hb0 := below_alloc w (.cells (u8s iv).toArray 32)
  obtain ⟨w0, hw0⟩ : ∃ w0, w.alloc (.cells (u8s iv).toArray 32) = w0 := ⟨_, rfl⟩
  rw [hw0] at hI0 hb0
  have HW0 := Lib.hid hw0
  have HI0 := Lib.hid hI0
  have Hb0 := Lib.hid hb0
  have HOo := Lib.hid hOo
  have HS := Lib.hid hs
  have HIV := Lib.hid hiv
  have HK := Lib.hid rK
  have HA := Lib.hid rA
  have HKL := Lib.hid hkl
  have HBL := Lib.hid hbl
  have hble : (bl : Int) ≤ 1048576 := by omega
  clear hw0 hI0 hb0 hOo hs hiv rK rA hkl hbl
  refine callsIn_of_wp_marks Tryz.func20 rfl trivial ?_ rfl
  simp only [Tryz.ntmps20, List.size_toArray, List.length_cons, List.length_nil, Nat.reduceAdd, Nat.reduceSub, Array.replicate_succ, Array.replicate_zero, List.push_toArray, List.append_toArray, List.nil_append, List.cons_append]
  gi_wp2_with (refine wpListIn_box_arr rfl 32 (.tmp 1) (u8s iv).toArray rfl rfl ?_; rw [HW0.out])
  refine ⟨trivial, ?_⟩
  refine (callsIn_wide.2 (aesOK.new_yes w0 K key kl kc HS.out HKL.out (by have := HKL.out; omega) (HK.out.below Hb0.out |>.more Hb0.out.size))).mono ?_
  rintro e w1 ⟨gc, rfl, hRep, hb1⟩
  have HRep := Lib.hid hRep
  have Hb1 := bb Hb0 hb1
  have HI1 := Lib.hid (HI0.out.below hb1 HI0.out.lt)
  clear hRep hb1 HI0
  gi_wp2_with fail
  refine ⟨trivial, ?_⟩
  have h82 := Blk.new w1 51 [.pointer (some ⟨gc, 0, none⟩)]
  have hb2 := below_alloc w1 (.cells #[.pointer (some ⟨gc, 0, none⟩)] 51)
  rw [show ([.pointer (some ⟨gc, 0, none⟩)] : List Value).toArray = #[.pointer (some ⟨gc, 0, none⟩)] from rfl] at h82
  have hz2 : (w1.alloc (.cells #[.pointer (some ⟨gc, 0, none⟩)] 51)).heap.size = w1.heap.size + 1 := World.size_alloc _ _
  obtain ⟨w2, hw2⟩ : ∃ w2, w1.alloc (.cells #[.pointer (some ⟨gc, 0, none⟩)] 51) = w2 := ⟨_, rfl⟩
  rw [hw2] at h82 hb2 hz2 ⊢
  have hbw2 : Below w.heap.size w w2 := Hb1.out.trans (hb2.mono Hb1.out.size)
  refine (callsIn_wide.2 (padded_any w2 A b bl bc HBL.out hb ((HA.out.below hbw2).more hbw2.size))).mono ?_
  rintro e w3 ⟨gt, cp, rest, N, rfl, hN, hNc, hgt, hBt, hb3⟩
  have hI3 := (HI1.out.below hb2 HI1.out.lt).below hb3 (by have := HI1.out.lt; omega)
  have h83 := h82.below hb3 h82.lt
  have hb13 : Below w1.heap.size w1 w3 := hb2.trans (hb3.mono hb2.size)
  have hbw3 : Below w.heap.size w w3 := hbw2.trans (hb3.mono hbw2.size)
  have hgt3 := hBt.lt
  have hz13 := hb3.size
  have hNN : N = b.length / 16 * 16 + 16 := by rw [hN, Cbc.pad_len]
  have hNle : N ≤ 1048600 := by have := HBL.out; omega
  have hmk : (Instr.makeSlice 23 (.int .i64 0) (.int .i64 (N : Int))).run Tryz.prog w3 = .ok (.slice (some ⟨w3.heap.size, 0, none⟩) 0 N) (w3.alloc (.cells (u8s (List.replicate N 0)).toArray 5)) := run_make_bytes 0 N (by omega) (by omega) w3
  -- the sealed bytes' row
  have hS4 := Blk.new w3 5 (u8s (List.replicate N 0))
  have hb4 := below_alloc w3 (.cells (u8s (List.replicate N 0)).toArray 5)
  have hz4 : (w3.alloc (.cells (u8s (List.replicate N 0)).toArray 5)).heap.size = w3.heap.size + 1 := World.size_alloc _ _
  obtain ⟨w4, hw4⟩ : ∃ w4, w3.alloc (.cells (u8s (List.replicate N 0)).toArray 5) = w4 := ⟨_, rfl⟩
  rw [hw4] at hmk hS4 hb4 hz4
  obtain ⟨gS, hgS⟩ : ∃ gS, w3.heap.size = gS := ⟨_, rfl⟩
  rw [hgS] at hmk hS4 hz4
  -- the variable of the sealed bytes
  have h115 := Blk.new w4 23 [.slice (some ⟨gS, 0, none⟩) 0 N]
  have hb5 := below_alloc w4 (.cells #[.slice (some ⟨gS, 0, none⟩) 0 N] 23)
  rw [show ([.slice (some ⟨gS, 0, none⟩) 0 N] : List Value).toArray = #[.slice (some ⟨gS, 0, none⟩) 0 N] from rfl] at h115
  have hz5 : (w4.alloc (.cells #[.slice (some ⟨gS, 0, none⟩) 0 N] 23)).heap.size = w4.heap.size + 1 := World.size_alloc _ _
  have hI5 := (hI3.below hb4 hI3.lt).below hb5 (by have := hI3.lt; omega)
  have hld5 := run_loadVar_row (P := Tryz.prog) (w4.alloc (.cells #[.slice (some ⟨gS, 0, none⟩) 0 N] 23)) w.heap.size 32 32 (u8s iv).toArray (0, 0) _ hI5 Tryz.und16 rfl (by simpa using sizeA16 iv HIV.out)
  obtain ⟨w5, hw5⟩ : ∃ w5, w4.alloc (.cells #[.slice (some ⟨gS, 0, none⟩) 0 N] 23) = w5 := ⟨_, rfl⟩
  have HW5 := Lib.hid hw5
  rw [hw5] at h115 hb5 hz5 hI5
  -- the last block
  have h126 := Blk.new w5 32 zr16
  have hb6 := below_alloc w5 (.cells zr16.toArray 32)
  have hz6 : (w5.alloc (.cells zr16.toArray 32)).heap.size = w5.heap.size + 1 := World.size_alloc _ _
  obtain ⟨w6, hw6⟩ : ∃ w6, w5.alloc (.cells zr16.toArray 32) = w6 := ⟨_, rfl⟩
  have HW6 := Lib.hid hw6
  rw [hw6] at h126 hb6 hz6
  have HN := Lib.hid hN
  have HNN := Lib.hid hNN
  have HBt := Lib.hid hBt
  have H83 := Lib.hid h83
  have Hb13 := Lib.hid hb13
  have Hbw3 := Lib.hid hbw3
  have HZ : Hid (w1.heap.size < gt ∧ gt < gS ∧ w3.heap.size = gS ∧ w4.heap.size = gS + 1 ∧ w5.heap.size = gS + 1 + 1 ∧ w6.heap.size = gS + 1 + 1 + 1) := Lib.hid (by omega)
  have HS4 := Lib.hid hS4
  have Hb4 := Lib.hid hb4
  have H115 := Lib.hid h115
  have Hb5 := Lib.hid hb5
  have H126 := Lib.hid h126
  have Hb6 := Lib.hid hb6
  have HNc := Lib.hid hNc
  have HSz := Lib.hid (sizeA16 iv HIV.out)
  have HZl : Hid (zr16.length = (u8s iv).length) := Lib.hid (by rw [u8s_len, HIV.out]; rfl)
  clear hw2 hN hNN hBt h83 hb13 hbw3 hz2 hz4 hz5 hz6 hgS hw4 hw5 hw6 hS4 hb4 h115 hb5 h126 hb6 hNc hI3 hI5 hb2 h82 hbw2 hb3 hgt hgt3 hz13 HI1
  gi_wp2_with (first | refine wpListIn_load_arr rfl 32 (.tmp 4) rfl rfl (u8s iv).toArray hld5 ?_ | (rw [HW5.out]; refine wpListIn_alloc_arr rfl 32 zr16.toArray rfl zeroR16 ?_; rw [HW6.out]) | refine wpListIn_store_arr rfl 32 (.tmp 12) (.tmp 30) w5.heap.size zr16 (u8s iv) rfl rfl rfl rfl H126.out HSz.out HZl.out (u8s_one _) ?_)
  refine ⟨trivial, ?_⟩
  have hZ := HZ.out
  have h127 := H126.out.row (u8s iv)
  have h87 := (((H83.out.below Hb4.out H83.out.lt).below Hb5.out (by omega)).below Hb6.out (by omega)).rowFar (g' := w5.heap.size) (by omega) (u8s iv).toArray
  have hS7 := ((HS4.out.below Hb5.out HS4.out.lt).below Hb6.out (by omega)).rowFar (g' := w5.heap.size) (by omega) (u8s iv).toArray
  have h117 := (H115.out.below Hb6.out H115.out.lt).rowFar (g' := w5.heap.size) (by omega) (u8s iv).toArray
  have ht7 := (((HBt.out.below Hb4.out HBt.out.lt).below Hb5.out (by omega)).below Hb6.out (by omega)).rowFar (g' := w5.heap.size) (by omega) (u8s iv).toArray
  have hb16 : Below w1.heap.size w1 w6 := ((Hb13.out.trans (Hb4.out.mono Hb13.out.size)).trans (Hb5.out.mono (by omega))).trans (Hb6.out.mono (by omega))
  have hb17 := below_setRow hb16 (by omega : w1.heap.size ≤ w5.heap.size) (u8s iv).toArray
  have hz7 : (w6.setRow w5.heap.size (u8s iv).toArray).heap.size = w6.heap.size := by simp
  obtain ⟨w7, hw7⟩ : ∃ w7, w6.setRow w5.heap.size (u8s iv).toArray = w7 := ⟨_, rfl⟩
  rw [hw7] at h127 h87 hS7 h117 ht7 hb17 hz7 ⊢
  refine (blocksC_in 9 _ _ _ w7).mono ?_
  rintro e w8 ⟨rfl, hw8⟩
  have hBs := Blk.new w7 23 [.slice (some ⟨gt, 0, none⟩) N cp]
  have hb8 := below_alloc w7 (.cells #[.slice (some ⟨gt, 0, none⟩) N cp] 23)
  have hz8 : (w7.alloc (.cells #[.slice (some ⟨gt, 0, none⟩) N cp] 23)).heap.size = w7.heap.size + 1 := World.size_alloc _ _
  rw [show ([.slice (some ⟨gt, 0, none⟩) N cp] : List Value).toArray = #[.slice (some ⟨gt, 0, none⟩) N cp] from rfl, ← hw8] at hBs
  rw [← hw8] at hb8 hz8
  have hAt : At w8 gt 0 (Cbc.pad b) := fun i c hi => by
    rw [Nat.zero_add]
    exact row_get (ht7.below hb8 ht7.lt) hi
  have hseq := blocksC_seq 9 (by omega) w7.heap.size gt N cp (some ⟨gt, 0, none⟩) (Cbc.pad b) w8 (hBs.cell 0) HN.out HNc.out (fun _ => ⟨0, rfl, hAt⟩) (by rw [Cbc.pad_len]; omega) (by rw [← HN.out]; omega)
  have hL8 : Lp w1 w1.heap.size w4.heap.size gS w5.heap.size gc N iv [] w8 :=
    ⟨h87.below hb8 h87.lt, h117.below hb8 h117.lt, ⟨_, hS7.below hb8 hS7.lt, by simp⟩, h127.below hb8 h127.lt, hb17.trans (hb8.mono hb17.size)⟩
  have HSeq := Lib.hid hseq
  have HL8 := Lib.hid hL8
  have HZ8 : Hid (w1.heap.size < gt ∧ gt < gS ∧ w4.heap.size = gS + 1 ∧ w5.heap.size = gS + 1 + 1 ∧ w8.heap.size = gS + 1 + 1 + 1 + 1) := Lib.hid (by omega)
  clear hZ h127 h87 hS7 h117 ht7 hb16 hb17 hz7 hw7 hw8 hBs hb8 hz8 hAt hseq hL8 HZ HBt H83 Hb13 Hbw3 HS4 Hb4 H115 Hb5 H126 Hb6 HW5 HW6 hmk hld5 HW0
  gi_wp2
  refine rangeP (α := B16) rfl (by omega) (gf := 75) (lb := #[.pointer (some ⟨w7.heap.size, 0, none⟩)]) rfl trivial (enters_of Tryz.func75 (by kernel_rfl) rfl) HSeq.out (fun h k => h.trans k) (fun W l o o' h1 h2 => KpT.put _ W l o o' h1 h2) (fun _ => rfl)
    (fun pre W => Lp w1 w1.heap.size w4.heap.size gS w5.heap.size gc N (stX key iv pre).1 (stX key iv pre).2 W)
    ?low HL8.out
    (fun x a' W => ∃ Bx, a' = { tmps := #[Value.slice K kl kc, Value.agg (u8s iv).toArray, Value.slice A bl bc, undef,
                Value.pointer (some { block := w.heap.size, off := 0 }), undef, Value.slice none 0 0,
                Value.int IntKind.i64 0, Value.pointer (some { block := w1.heap.size, off := 0 }),
                Value.int IntKind.i64 0, Value.slice (some { block := gt, off := 0 }) N cp,
                Value.pointer (some { block := w4.heap.size, off := 0 }),
                Value.pointer (some { block := w5.heap.size, off := 0 }), Value.pointer (some { block := Bx, off := 0 }),
                Value.tuple #[Value.pointer (some { block := gc, off := 0 }), Value.int IntKind.i64 0],
                Value.slice K kl kc,
                Value.tuple #[Value.pointer (some { block := gc, off := 0 }), Value.int IntKind.i64 0],
                Value.pointer (some { block := gc, off := 0 }), Value.int IntKind.i64 0, Value.int IntKind.i64 0,
                Value.bool false, undef, Value.slice A bl bc, Value.int IntKind.i64 (bl : Int),
                Value.bool (decide (1048576 < (bl : Int))), Value.slice A bl bc,
                Value.slice (some { block := gt, off := 0 }) N cp, Value.slice (some { block := gt, off := 0 }) N cp,
                Value.int IntKind.i64 (N : Int), Value.slice (some { block := gS, off := 0 }) 0 N, Value.agg (u8s iv).toArray,
                Value.slice (some { block := gt, off := 0 }) N cp, .func (.func 75) #[] #[.pointer (some ⟨w7.heap.size, 0, none⟩)], .agg (u8s x.1).toArray, undef, undef, undef, undef, undef, undef,
                undef, undef, undef], defers := [] } ∧ Blk W Bx 32 (u8s x.1) ∧ gS + 1 + 1 < Bx)
    ?ax ?assign ?body ?done
  case low =>
    rintro pre W W' row h hgr hrow
    have hx := HZ8.out
    exact h.grown hgr (B := w8.heap.size) (by omega) (fun r e => hrow r e)
  case ax =>
    rintro x a' W l o o' ⟨Bx, rfl, hB, hne⟩ hl ho
    refine ⟨Bx, rfl, ?_, hne⟩
    have : Bx ≠ l := by rintro rfl; rw [show W.heap[Bx]? = _ from hB] at hl; cases hl; simp [Obj.isCells] at ho
    exact (World.putObj_heap_other this).trans hB
  case assign =>
    rintro l pre x W K _ h hK
    have hZ := Blk.new W 32 zr16
    have hB1 := hZ.row (u8s x.1)
    have hb1 : Below W.heap.size W ((W.alloc (.cells zr16.toArray 32)).setRow W.heap.size (u8s x.1).toArray) := below_setRow (below_alloc W _) (Nat.le_refl _) _
    have HZr := Lib.hid hZ
    have HK := Lib.hid (hK _ _ (keepsC_below hb1) (kpT_below hb1) (h.below hb1) ⟨W.heap.size, rfl, hB1, by have := h.c12.lt; have := HZ8.out; omega⟩)
    have HSx := Lib.hid (sizeA16 x.1 x.2)
    have HLn : Hid (zr16.length = (u8s x.1).length) := Lib.hid (by rw [u8s_len, x.2]; rfl)
    clear hK h hZ hB1 hb1
    simp only [List.zip_toArray, List.zip_cons_cons, List.zip_nil_right, List.foldl_toArray, List.foldl_cons, List.foldl_nil, List.setIfInBounds_toArray, List.set]
    gi_wp2_with (first | refine wpListIn_alloc_arr rfl 32 zr16.toArray rfl zeroR16 ?_ | refine wpListIn_store_arr rfl 32 (.tmp 13) (.tmp 33) W.heap.size zr16 (u8s x.1) rfl rfl rfl rfl HZr.out HSx.out HLn.out (u8s_one _) ?_)
    exact HK.out
  case body =>
    rintro l pre x a' W hpf h ⟨Bx, rfl, hB, hne⟩
    have hx := HZ8.out
    have hroom : (stX key iv pre).2.length + 16 ≤ N := by
      rw [flatC_snoc, List.length_append, flatC_len, x.2, ← HN.out] at hpf
      rw [stX_len2]
      omega
    have hql := stX_len1 key iv HIV.out pre
    have hsn := stX_snoc key iv pre x
    generalize (stX key iv pre).1 = q at h hql hsn
    generalize (stX key iv pre).2 = o at h hroom hsn
    rw [hsn]
    simp only
    have hLd := h.below (Below.refl _ W).drew
    have hBd : Blk W.drew Bx 32 (u8s x.1) := hB
    have HQL := Lib.hid hql
    have HRoom := Lib.hid hroom
    have HL := Lib.hid hLd
    have HBx := Lib.hid hBd
    have Hne := Lib.hid hne
    have HXX := Lib.hid hx
    have HK0 := Lib.hid (keepsC_below (Below.refl _ W).drew)
    have HP0 := Lib.hid (kpT_below (gt := gt) (Below.refl _ W).drew)
    clear hx hroom hql hsn h hpf hB hne hLd hBd
    gi_wp2_with fail
    refine wpIn_region_G grows (by kernel_rfl) (by kernel_rfl) (by rintro ⟨_, _, hh⟩; exact absurd hh.1 (by simp)) ?_
    generalize W.drew = W0 at *
    have q1 := cell_later HL.out.c8 (i := 0) rfl
    have q2 := load_arr_later (P := Tryz.prog) Tryz.und16 (sizeA16 x.1 x.2) HBx.out
    have q3 := load_arr_later (P := Tryz.prog) Tryz.und16 (sizeA16 q HQL.out) HL.out.c12
    refine segG (by kernel_rfl) (fun _ _ _ _ _ h => h) [0, 1, 2] [_, _, _] 3 rfl rfl (by kernel_rfl) ?_
    repeat (go_big_quiet_step (fail))
    refine wpQuiet_load_arr 32 (.tmp 13) rfl rfl (u8s x.1).toArray q2 (by kernel_rfl) ?_
    simp only [Act.put, List.setIfInBounds_toArray, List.set]
    refine wpQuiet_load_arr 32 (.tmp 12) rfl rfl (u8s q).toArray q3 (by kernel_rfl) ?_
    simp only [Act.put, List.setIfInBounds_toArray, List.set]
    refine wpQuiet_nil ?_
    clear q1 q2 q3
    refine oneG 3 2 rfl (by kernel_rfl) rfl ?_
    go_wp2_with fail
    refine (sum_any W0 x.1 q _ _ rfl rfl x.2 HQL.out).mono ?_
    rintro e W1 ⟨rfl, hb1⟩
    have HL1 := Lib.hid (HL.out.below hb1)
    have HK1 := Lib.hid (HK0.out.trans (keepsC_below hb1))
    have HP1 := Lib.hid (HP0.out.trans (kpT_below hb1))
    clear HL HK0 HP0 HBx
    go_wp2
    refine ⟨hb1, ?_⟩
    clear hb1
    refine oneG 4 1 rfl (by kernel_rfl) rfl ?_
    go_wp2_with fail
    refine (aesOK.enc W1 gc key (addK x.1 q) HS.out (aesOK.stay HRep.out HL1.out.b) (addK_len _ _)).mono ?_
    rintro e W2 ⟨rfl, hb2⟩
    obtain ⟨z, hz⟩ : ∃ z, encrypt key (addK x.1 q) = z := ⟨_, rfl⟩
    have hzl : z.length = 16 := by rw [← hz]; exact encrypt_len _ _
    rw [hz]
    have hL2 := HL1.out.below hb2
    have hxx := HXX.out
    have hL3 := hL2.prev z (by omega)
    have hg3 : W2.grownBy (W2.setRow w5.heap.size (u8s z).toArray) (some w5.heap.size) := grown_row
    have HK3 := Lib.hid ((HK1.out.trans (keepsC_below hb2)).trans (keeps_cells hg3 hL2.c12))
    have HP3 := Lib.hid ((HP1.out.trans (kpT_below hb2)).trans (kpT_grown hg3 (by omega)))
    have HC2 := Lib.hid hL2.c12
    have HZ16 := Lib.hid hzl
    have HSz2 := Lib.hid (sizeA16 z hzl)
    have HLn2 : Hid ((u8s q).length = (u8s z).length) := Lib.hid (by rw [u8s_len, u8s_len, HQL.out, hzl])
    obtain ⟨W3, hW3⟩ : ∃ W3, W2.setRow w5.heap.size (u8s z).toArray = W3 := ⟨_, rfl⟩
    rw [hW3] at hL3 HK3 HP3
    have HW3 := Lib.hid hW3
    have HL3 := Lib.hid hL3
    have HZE := Lib.hid hz
    clear hz hzl hL2 hxx hL3 hg3 hW3 HL1 HK1 HP1
    go_wp2
    refine ⟨hb2, ?_⟩
    clear hb2
    refine lateG 5 0 rfl (by kernel_rfl) (by kernel_rfl) rfl ?_
    go_wp2_with (refine wpList_store_arr rfl 32 (.tmp 12) (.tmp 38) w5.heap.size (u8s q) (u8s z) rfl rfl rfl rfl HC2.out HSz2.out HLn2.out (u8s_one _) ?_; rw [HW3.out])
    refine ⟨trivial, ?_⟩
    refine wpAnyG_done (by kernel_rfl) ?_
    gi_wp2_with fail
    refine wpIn_region_G grows (by kernel_rfl) (by kernel_rfl) (by rintro ⟨_, _, hh⟩; exact absurd hh.1 (by simp)) ?_
    have hxx := HXX.out
    have hL4 := HL3.out.below (Below.refl _ W3).drew
    have hk4 := HK3.out.trans (keepsC_below (Below.refl _ W3).drew)
    have hp4 := HP3.out.trans (kpT_below (gt := gt) (Below.refl _ W3).drew)
    generalize W3.drew = W4 at *
    have q1 := cell_later hL4.c11 (i := 0) rfl
    obtain ⟨W5, e5, hg5, hc5, hL5⟩ := hL4.app hL4.c12 HZ16.out HRoom.out (by omega)
    have hg6 : W5.grownBy (W5.setCell ⟨w4.heap.size, 0, none⟩ (.slice (some ⟨gS, 0, none⟩) (o.length + 16) N)) (some w4.heap.size) := only_set _
    obtain ⟨junk, hj1, _⟩ := hL4.row
    have HK6 := Lib.hid ((hk4.trans (keeps_cells hg5 hj1)).trans (keeps_cells hg6 hc5))
    have HP6 := Lib.hid ((hp4.trans (kpT_grown hg5 (by omega))).trans (kpT_grown hg6 (by omega)))
    have HL6 := Lib.hid hL5
    have hcell5 := hc5.cell 0
    have hfr5 := hc5.frozen 0
    have hce : ([.slice (some ⟨gS, 0, none⟩) o.length N] : List Value)[0]? = some (.slice (some ⟨gS, 0, none⟩) o.length N) := rfl
    rw [hce] at hcell5
    clear hL4 hk4 hp4 hg5 hc5 hL5 hg6 hj1 hxx hce HL3 HK3 HP3 HW3 HC2 HSz2 HLn2
    refine segG (by kernel_rfl) (fun _ _ _ _ _ h => h) [0, 1] [_, _] 2 rfl rfl (by kernel_rfl) ?_
    repeat (go_big_quiet_step (fail))
    refine wpQuiet_nil ?_
    clear q1
    refine lateG 2 1 rfl (by kernel_rfl) (by kernel_rfl) rfl ?_
    go_wp2_with (at_builtin; refine wpList_append_run rfl (.tmp 39) (.tmp 40) _ rfl rfl rfl e5 ?_)
    refine ⟨trivial, ?_⟩
    simp only [Act.put, List.setIfInBounds_toArray, List.set]
    refine lateG 3 0 rfl (by kernel_rfl) (by kernel_rfl) rfl ?_
    go_wp2
    refine ⟨trivial, ?_⟩
    refine wpAnyG_done (by kernel_rfl) ?_
    gi_wp2
    exact ⟨HK6.out, HP6.out, by rw [HZE.out]; exact HL6.out⟩
  case done =>
    rintro D xs W hD hxs h hK
    have hO : O = (stX key iv xs).2 := by
      rw [stX_all, hxs, ← HN.out, HNN.out, HOo.out, Cbc.seal_]
      congr 1
      omega
    rw [← hO] at h
    have hz := HZ8.out
    obtain ⟨junk, hj1, hj2⟩ := h.row
    have hcell := h.c11.cell 0
    rw [show ([.slice (some ⟨gS, 0, none⟩) O.length N] : List Value)[0]? = some (.slice (some ⟨gS, 0, none⟩) O.length N) from rfl] at hcell
    have hB6 : Blk (W.putObj D (.deferred none)) gS 5 (u8s O ++ junk) := (World.putObj_heap_other (by omega)).trans hj1
    have hbw : Below w.heap.size w W := Hb1.out.trans (h.b.mono Hb1.out.size)
    have hb6 : Below w.heap.size w (W.putObj D (.deferred none)) := hbw.grown (grownBy_putObj' _ D _) hbw.size (fun k e => by have := Option.some.inj e; have := Hb1.out.size; omega)
    have HB6 := Lib.hid hB6
    have Hb6 := Lib.hid hb6
    have HK := Lib.hid hK
    have HJ2 : Hid (O.length ≤ N) := Lib.hid (by omega)
    clear hO hz hj1 hj2 h hB6 hbw hb6 hK hxs hD
    gi_wp2
    refine ⟨by simp, .inl ⟨_, _, rfl, run_takeDeferred HK.out, ?_⟩⟩
    refine ⟨.tuple #[.slice (some ⟨gS, 0, none⟩) O.length N, .int .i64 0], ?_, .slice (some ⟨gS, 0, none⟩) O.length N, rfl, ⟨_, N, rfl, HJ2.out, Rd.of_row HB6.out⟩, Hb6.out⟩
    simp [results, Tryz.results20]
end Go.Proofs.YtdipflchmooakaaGreatDoor
