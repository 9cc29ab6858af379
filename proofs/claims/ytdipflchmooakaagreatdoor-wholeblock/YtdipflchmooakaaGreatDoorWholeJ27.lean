/-
  math/bits.Mul and bytes.Repeat of one byte: contracts. The landed cbc: padding, padded. The landed cbc: sum, the XOR of two blocks; bytes.Equal, bytes.HasSuffix: contracts. The landed cbc: blocks, the iterator over the whole blocks of 16 bytes: its contract.
-/
import Derived.Test.YtdipflchmooakaaGreatDoorWholeJ01
import Derived.Test.YtdipflchmooakaaGreatDoorWholeJ05
import Derived.Test.YtdipflchmooakaaGreatDoorWholeJ02
import Derived.Test.YtdipflchmooakaaGreatDoorWholeJ06
import Derived.Test.YtdipflchmooakaaGreatDoorWholeJ09
import Derived.Test.YtdipflchmooakaaGreatDoorWholeJ13
import Derived.Test.YtdipflchmooakaaGreatDoorWholeJ08
import Derived.Test.YtdipflchmooakaaGreatDoorWholeJ23
import Derived.Test.YtdipflchmooakaaGreatDoorWholeJ24
import Derived.Lib.Mul64
import Derived.Lib.MakeNoZero
import Derived.Laws.Externs
import Derived.RegionTactic
import Derived.BigRegion
import Derived.Deep.CutRange
import Derived.Test.YtdipflchmooakaaGreatDoorWholeJ12
import Derived.Test.YtdipflchmooakaaGreatDoorWholeJ14
import Derived.Test.YtdipflchmooakaaGreatDoorWholeJ26
import Derived.RangeFuncNested
import Derived.RangeFuncBound
import Derived.RangeFuncCalls
import Derived.RangeFuncLeaves
import Derived.Shelf.Abstract
import Derived.Shelf.RegionOpen
import Derived.WalkKit
import Derived.OwnWalkIn
import Derived.TacticsInMore
import Derived.LoopNIn
import Derived.LoopIn
set_option maxRecDepth 100000
namespace Go.Gar
open Go.RowKit
end Go.Gar
namespace Go.Proofs.YtdipflchmooakaaGreatDoor
open Go.RowKit Go.Gar



set_option maxHeartbeats 1000000 in
theorem bitsMul_one (n : Nat) (hn : n < 18446744073709551616) (w : World) :
    Calls Tryz.prog 102 #[.int .u64 1, .int .u64 (n : Int)] w fun e w' => e = .returned (.tuple #[.int .u64 0, .int .u64 (n : Int)]) ∧ w' = w := by
  go_enter Tryz.func102, Tryz.ntmps102
  go_wp2_with fail
  refine (mul64_any 1 n (by omega) hn w).mono ?_
  rintro e w' ⟨rfl, rfl⟩
  rw [Nat.one_mul, Nat.div_eq_of_lt hn, Nat.mod_eq_of_lt hn]
  go_wp2
  go_ret2
  exact ⟨rfl, rfl⟩

theorem min_at (n m : Nat) (w : World) : (Builtin.min_ #[3, 3] 3 #[.int .i64 (n : Int), .int .i64 (m : Int)]).run Tryz.prog w = .ok (.int .i64 ((min n m : Nat) : Int)) w := by
  rcases Nat.lt_or_ge n m with h | h
  · rw [show min n m = n by omega]
    simp [Builtin.min_, Builtin.min2]
    omega
  · rw [show min n m = m by omega]
    simp [Builtin.min_, Builtin.min2]
    omega
end Go.Proofs.YtdipflchmooakaaGreatDoor
namespace Go.Gar
open Go.RowKit
theorem grown_row {W : World} {g : Nat} {cs : Array Value} : W.grownBy (W.setRow g cs) (some g) :=
  ⟨rfl, rfl, rfl, by simp, fun k _ hr => setRow_other W g k cs (fun e => hr (by rw [e]))⟩
/-- A cut of a slice, its run known. -/
theorem wpQuiet_slice_run {P : Program} {C : World → Prop} {ops : Array Oper} {Q : Act → Prop} {rest : List Oper} {o : Oper} {a : Act} (t : TypeId) (p : Operand) (lo hi : Option Operand) (ho : o.op = .slice t p lo hi none) {x v : Value} {vl vh : Option Value} (hp : a.eval p = x) (hl : lo.map a.eval = vl) (hh : hi.map a.eval = vh)
    (hrun : ∀ W, (Instr.sliceAt t x vl vh none).run P W = .ok v W) (hw : Region.wanted o (yielded ops a.tmps) = true)
    (h : wpQuiet P ops C Q rest (a.put o.dst v)) : wpQuiet P ops C Q (o :: rest) a := by
  refine wpQuiet_val hw (fun W _ => ?_) h
  unfold execOp
  simp only [ho, hp, hl, hh, Option.map_none, Sem.run_bind, hrun W, Result.andThen_ok, Sem.run_pure]
/-- min, its run known. -/
theorem wpList_min_run {P : Program} {w : World} {ops : Array Oper} {rest : List Oper} {o : Oper} {a : Act} {Q : Exit → Act → World → Prop} (hgd : o.guard = none) (s x : Operand) (ts : Array TypeId)
    (ho : o.op = .call { callee := .builtin .min, args := #[s, x], argTypes := ts }) {vs vx v : Value} {w' : World} (hs : a.eval s = vs) (hx : a.eval x = vx)
    (hrun : (Builtin.min_ ts o.type #[vs, vx]).run P w = .ok v w') (h : wpList P ops Q rest (a.put o.dst v) w') : wpList P ops Q (o :: rest) a w := by
  refine wpList_run hgd (v := v) (w' := w') ?_ h
  unfold execOp
  simp only [ho, resolve, invoke, builtin, Sem.run_bind, Sem.run_pure, Result.andThen_ok, List.map_toArray, List.map_cons, List.map_nil, hs, hx, hrun]
theorem rep_row (k q : Nat) (c : UInt8) (junk : List Value) (hq : q ≤ k) : (u8s (List.replicate k c) ++ junk).take k ++ u8s ((List.replicate k c).take q) ++ (u8s (List.replicate k c) ++ junk).drop (k + q) = u8s (List.replicate (k + q) c) ++ junk.drop q := by
  have hl : (u8s (List.replicate k c)).length = k := by rw [u8s_len, List.length_replicate]
  rw [List.take_left' hl, List.drop_append, hl, List.drop_eq_nil_of_le (by omega), List.nil_append, Nat.add_sub_cancel_left, List.take_replicate, Nat.min_eq_left hq, ← u8s_app, List.replicate_append_replicate]
end Go.Gar
namespace Go.Proofs.YtdipflchmooakaaGreatDoor
open Go.RowKit Go.Gar

set_option maxHeartbeats 2000000 in
set_option maxRecDepth 100000 in
theorem repeat_any (w : World) (g : Nat) (c : UInt8) (n : Nat) (h1 : 1 ≤ n) (h16 : n ≤ 16) (hB : Blk w g 5 (u8s [c])) :
    Calls Tryz.prog 94 #[.slice (some ⟨g, 0, none⟩) 1 1, .int .i64 (n : Int)] w fun e w' => ∃ gN rest, e = .returned (.slice (some ⟨gN, 0, none⟩) n n) ∧ w.heap.size ≤ gN ∧ Blk w' gN 5 (u8s (List.replicate n c) ++ rest) ∧ Below w.heap.size w w' := by
  obtain ⟨cs, hrunM, hle, hmax⟩ := Lib.run_makeNoZero (P := Tryz.prog) w #[3] 23 5 Tryz.und22 n (by omega)
  have hcall : (callFunc 103 #[.int .i64 (n : Int)]).run Tryz.prog w = .ok (.value (.slice (some ⟨w.heap.size, 0, none⟩) n cs.size)) ((w.alloc (.cells cs 5)).drewN 2) := by
    rw [run_callFunc_extern Tryz.func103 (by kernel_rfl) (by kernel_rfl) (by kernel_rfl) (e := Extern.BytealgMakeNoZero.makeNoZero #[3] #[23]) (by kernel_rfl), hrunM]
    rfl
  have hBN : Blk ((w.alloc (.cells cs 5)).drewN 2) w.heap.size 5 cs.toList := by
    have := Blk.new w 5 cs.toList
    rw [Array.toArray_toList] at this
    exact this
  have hb0 : Below w.heap.size w ((w.alloc (.cells cs 5)).drewN 2) := by
    have h := below_alloc w (.cells cs 5)
    exact ⟨h.os, h.tape, h.output, h.size, h.block⟩
  have hB0 : Blk ((w.alloc (.cells cs 5)).drewN 2) g 5 (u8s [c]) := hB.below hb0 hB.lt
  obtain ⟨gN, hgN⟩ : ∃ gN, w.heap.size = gN := ⟨_, rfl⟩
  obtain ⟨w1, hw1⟩ : ∃ w1, (w.alloc (.cells cs 5)).drewN 2 = w1 := ⟨_, rfl⟩
  rw [hw1] at hcall hBN hb0 hB0
  rw [hgN] at hcall hBN hb0 ⊢
  have hcp := run_copy_seg (P := Tryz.prog) (w := w1) 23 23 3 5 Tryz.und22 Tryz.size5 gN 0 n n 1 1 g 0 [c] 1 (fun i x hi => by rw [Nat.zero_add, hB0.cell, u8s_get, hi]; rfl) rfl (by simp; omega) _ _ hBN (by simp; omega)
  have hE : cs.toList.take 0 ++ u8s ([c].take 1) ++ cs.toList.drop (0 + 1) = u8s (List.replicate 1 c) ++ cs.toList.drop 1 := by simp
  rw [hE] at hcp
  have hB1 := hBN.row (u8s (List.replicate 1 c) ++ cs.toList.drop 1)
  have hb1 := below_setRow hb0 (Nat.le_refl _) (u8s (List.replicate 1 c) ++ cs.toList.drop 1).toArray
  obtain ⟨w2, hw2⟩ : ∃ w2, w1.setRow gN (u8s (List.replicate 1 c) ++ cs.toList.drop 1).toArray = w2 := ⟨_, rfl⟩
  rw [hw2] at hcp hB1 hb1
  have hj1 : (cs.toList.drop 1).length = cs.size - 1 := by simp
  generalize cs.toList.drop 1 = junk1 at *
  have HB1 := Lib.hid hB1
  have Hb1 := Lib.hid hb1
  have HJ1 := Lib.hid hj1
  have hcl : (n : Int) ≤ (cs.size : Int) := by omega
  generalize cs.size = cz at *
  clear hrunM hmax hBN hb0 hB0 hE hB1 hb1 hj1 hB hgN hw1 hw2
  go_enter Tryz.func94, Tryz.ntmps94
  go_wp2_with fail
  refine (bitsMul_one n (by omega) w).mono ?_
  rintro e wq ⟨rfl, rfl⟩
  go_wp2_with (refine wpList_copy_run rfl (.tmp 58) (.tmp 59) _ rfl rfl rfl hcp ?_)
  clear hcp hcall
  go_loopw [10] (fun i w' => ∃ (k : Nat) (junk : List Value), 1 ≤ k ∧ k ≤ n ∧ i = .int .i64 (k : Int) ∧ Blk w' gN 5 (u8s (List.replicate k c) ++ junk) ∧ junk.length = cz - k ∧ Below gN wq w') (fun i _ => n - (intOf i).toNat)
  case atStart => exact ⟨1, junk1, by omega, h1, rfl, HB1.out, HJ1.out, Hb1.out⟩
  case round =>
    obtain ⟨k, junk, hk1, hk, rfl, hB, hj, hb⟩ := hrel
    clear HB1 Hb1 HJ1
    by_cases hlt : k < n
    · obtain ⟨q, hq⟩ : ∃ q, q = min k (n - k) := ⟨_, rfl⟩
      have hmin : (Builtin.min_ #[3, 3] 3 #[.int .i64 (k : Int), .int .i64 (n : Int)]).run Tryz.prog wr = .ok (.int .i64 (k : Int)) wr := by
        have := min_at k n wr
        rw [Nat.min_eq_left hk] at this
        exact this
      have hcp := run_copy_seg (P := Tryz.prog) (w := wr.drew) 23 23 3 5 Tryz.und22 Tryz.size5 gN k (n - k) (n - k) k n gN 0 (List.replicate k c) q (fun i x hi => by
        rw [Nat.zero_add]
        exact row_get hB hi) (by simp) (by rw [List.length_replicate]; exact hq) _ _ hB.drew (by rw [List.length_append, u8s_len, List.length_replicate, hj]; omega)
      rw [rep_row k q c junk (by omega), show goInt (q : Int) = Value.int .i64 (q : Int) from rfl] at hcp
      have hB2 := hB.drew.row (u8s (List.replicate (k + q) c) ++ junk.drop q)
      have hb2 := below_setRow hb.drew (Nat.le_refl gN) (u8s (List.replicate (k + q) c) ++ junk.drop q).toArray
      have hg2 : (turns gN).rel wr.drew (wr.drew.setRow gN (u8s (List.replicate (k + q) c) ++ junk.drop q).toArray) := grown_row
      have hj2 : (junk.drop q).length = cz - (k + q) := by rw [List.length_drop, hj]; omega
      generalize wr.drew.setRow gN (u8s (List.replicate (k + q) c) ++ junk.drop q).toArray = w3 at hcp hB2 hb2 hg2
      have HB2 := Lib.hid hB2
      have Hb2 := Lib.hid hb2
      have HJ2 := Lib.hid hj2
      have Hg2 := Lib.hid hg2
      have Hq := Lib.hid hq
      have hq1 : 1 ≤ q := by omega
      have hq2 : k + q ≤ n := by omega
      have hd1 : (k : Int) < (n : Int) := by omega
      clear hB2 hb2 hg2 hj2 hB hj hb hq
      go_wp2_with (refine wpList_min_run rfl (.tmp 64) (.tmp 65) _ rfl rfl rfl hmin ?_)
      refine wp_region_G (turns gN) (by kernel_rfl) ?_
      generalize wr.drew = w4 at *
      refine segG (by kernel_rfl) (fun _ _ _ _ _ h => h) [0, 1, 2, 3, 4, 5, 6] [_, _, _, _, _, _, _] 3 rfl rfl (by kernel_rfl) ?_
      repeat (go_big_quiet_step (fail))
      refine wpQuiet_nil ?_
      refine oneG 7 2 rfl (by kernel_rfl) rfl ?_
      go_wp2_with (refine wpList_copy_run rfl (.tmp 70) (.tmp 73) _ rfl rfl rfl hcp ?_)
      refine ⟨Hg2.out, ?_⟩
      simp only [Act.put, List.setIfInBounds_toArray, List.set]
      refine segG (by kernel_rfl) (fun _ _ _ _ _ h => h) [8, 9] [_, _] 0 rfl rfl (by kernel_rfl) ?_
      repeat (go_big_quiet_step (fail))
      refine wpQuiet_nil ?_
      refine wpAnyG_done (by kernel_rfl) ?_
      go_wp2
      exact ⟨⟨k + q, junk.drop q, by omega, hq2, by go_num, HB2.out, HJ2.out, Hb2.out⟩, by simp [intOf]; omega⟩
    · obtain rfl : k = n := by omega
      have HB := Lib.hid hB
      have Hb := Lib.hid hb
      clear hB hb
      go_wp2
      go_ret
      exact ⟨gN, junk, rfl, by omega, HB.out, Hb.out⟩

theorem byte_small (n : Nat) (h : n ≤ 16) : (((UInt8.ofNat n).toNat : Nat) : Int) = (n : Int) := by
  rw [UInt8.toNat_ofNat']; omega
set_option maxHeartbeats 2000000 in
set_option maxRecDepth 100000 in
theorem padding_any (w : World) (n : Nat) (h1 : 1 ≤ n) (h16 : n ≤ 16) :
    Calls Tryz.prog 74 #[.int .i64 (n : Int)] w fun e w' => ∃ g, e = .returned (.slice (some ⟨g, 0, none⟩) n n) ∧ Rd w' w'.heap.size (some ⟨g, 0, none⟩) (List.replicate n (UInt8.ofNat n)) ∧ Below w.heap.size w w' := by
  have hB0 := Blk.new w 5 (u8s [UInt8.ofNat n])
  have hu : u8s [UInt8.ofNat n] = [.int .u8 (n : Int)] := by
    show [Value.int .u8 (((UInt8.ofNat n).toNat : Nat) : Int)] = _
    rw [byte_small n h16]
  have hb0 := below_alloc w (.cells (u8s [UInt8.ofNat n]).toArray 5)
  have hrep := fun g hB => repeat_any (w.alloc (.cells (u8s [UInt8.ofNat n]).toArray 5)) g (UInt8.ofNat n) n h1 h16 hB
  have HR := Lib.hid (hrep _ hB0)
  have Hb0 := Lib.hid hb0
  rw [hu] at HR Hb0
  clear hrep hB0 hu hb0
  go_enter Tryz.func74, Tryz.ntmps74
  go_wp2_with fail
  refine HR.out.mono ?_
  rintro e w2 ⟨gN, rest, rfl, hg, hB, hb⟩
  have HB := Lib.hid (Rd.of_row hB)
  have Hb := bb Hb0 hb
  clear hg hB hb HR Hb0
  go_wp2
  go_ret
  exact ⟨gN, rfl, HB.out, Hb.out⟩

theorem own_room (w : World) (base cap : Nat) (hb : base ≤ w.heap.size) (hc : cap ≤ 1099511627776) : OwnB (w.alloc (.cells (u8s (List.replicate cap 0)).toArray 5)) base 5 (.slice (some ⟨w.heap.size, 0, none⟩) 0 cap) [] :=
  World.ownsRow_made w (u8s (List.replicate cap 0)).toArray cap hb (by simp only [maxLen]; omega) (by simp [u8s_len])

set_option maxHeartbeats 2000000 in
set_option maxRecDepth 100000 in
theorem padded_any (w : World) (A : Option Addr) (b : List UInt8) (n bc : Nat) (hn : n = b.length) (hl : n ≤ 1048576) (hr : Rd w w.heap.size A b) :
    Calls Tryz.prog 41 #[.slice A n bc] w fun e w' => ∃ g cp rest N, e = .returned (.slice (some ⟨g, 0, none⟩) N cp) ∧ N = (Cbc.pad b).length ∧ N ≤ cp ∧ w.heap.size ≤ g ∧ Blk w' g 5 (u8s (Cbc.pad b) ++ rest) ∧ Below w.heap.size w w' := by
  have hmk : (Instr.makeSlice 23 (.int .i64 0) (.int .i64 ((n + 16 : Nat) : Int))).run Tryz.prog w = .ok (.slice (some ⟨w.heap.size, 0, none⟩) 0 (n + 16)) (w.alloc (.cells (u8s (List.replicate (n + 16) 0)).toArray 5)) := run_make_bytes 0 (n + 16) (by omega) (by omega) w
  have hO := own_room w w.heap.size (n + 16) (Nat.le_refl _) (by omega)
  have hb0 := below_alloc w (.cells (u8s (List.replicate (n + 16) 0)).toArray 5)
  obtain ⟨v1, w1, e1, ho1, hb1, _⟩ := app_rd (P := Tryz.prog) 23 23 Tryz.und22 Tryz.info5 hO (by rw [World.size_alloc]; omega) bc (hr.below hb0) (by simp; omega)
  rw [List.nil_append] at ho1
  rw [← hn] at e1
  have Hb1 := Lib.hid (hb0.trans hb1)
  have HO1 := Lib.hid ho1
  generalize w.alloc (.cells (u8s (List.replicate (n + 16) 0)).toArray 5) = w0 at hmk e1
  have hnn : ((n + 16 : Nat) : Int) = (n : Int) + 16 := by omega
  rw [hnn] at hmk
  obtain ⟨f, hf⟩ : ∃ f, f = Cbc.fillN b := ⟨_, rfl⟩
  have hf1 : 1 ≤ f ∧ f ≤ 16 := by rw [hf]; exact Cbc.fillN_lt b
  have hfi : 16 - (n : Int) % 16 = (f : Int) := by
    rw [hf, Cbc.fillN, ← hn]; omega
  have Hf := Lib.hid hf
  have HN := Lib.hid hn
  clear hO hb0 hb1 ho1 hr hnn hf hn
  go_enter Tryz.func41, Tryz.ntmps41
  go_wp2_with (at_builtin; refine wpList_append_run rfl (.tmp 8) (.tmp 9) _ rfl rfl rfl e1 ?_)
  refine (padding_any w1 f hf1.1 hf1.2).mono ?_
  rintro e w2 ⟨gp, rfl, hrp, hb2⟩
  have ho2 : OwnB w2 w.heap.size 5 v1 b := HO1.out.keep fun g hv => hb2.block g (HO1.out.block_lt hv).2
  have hbw : Below w.heap.size w w2 := Hb1.out.trans (hb2.mono Hb1.out.size)
  obtain ⟨v3, w3, e3, ho3, hb3, _⟩ := app_rd (P := Tryz.prog) 23 23 Tryz.und22 Tryz.info5 ho2 hbw.size f hrp (by rw [List.length_replicate, ← HN.out]; omega)
  rw [List.length_replicate] at e3
  have hpad : b ++ List.replicate f (UInt8.ofNat f) = Cbc.pad b := by rw [Hf.out]; rfl
  rw [hpad] at ho3
  obtain ⟨g, cp, rest, rfl, hg, hcp, hB⟩ := ho3.blk (by rw [Cbc.pad_len]; omega)
  have HB := Lib.hid hB
  have Hb := Lib.hid (hbw.trans hb3)
  have Hg := Lib.hid hg
  have Hcp := Lib.hid hcp
  clear ho2 hbw ho3 hb3 hpad hB hg hcp HO1 Hb1 hb2 hrp e1 hmk
  go_wp2_with (at_builtin; refine wpList_append_run rfl (.tmp 11) (.tmp 16) _ rfl rfl rfl e3 ?_)
  go_ret
  exact ⟨g, cp, rest, _, rfl, rfl, Hcp.out, Hg.out, HB.out, Hb.out⟩
end Go.Proofs.YtdipflchmooakaaGreatDoor
namespace Go.Proofs.YtdipflchmooakaaGreatDoor
open Go.RowKit Go.Gar Go.Gar.Aes

set_option maxHeartbeats 2000000 in
set_option maxRecDepth 100000 in
theorem sum_any (w : World) (a b : List UInt8) (x y : Array Value) (hx : x = (u8s a).toArray) (hy : y = (u8s b).toArray) (ha : a.length = 16) (hb : b.length = 16) :
    Calls Tryz.prog 44 #[.agg x, .agg y] w fun e w' => e = .returned (.agg (u8s (addK a b)).toArray) ∧ Below w.heap.size w w' := by
  subst hx
  subst hy
  have HA := Lib.hid ha
  have HBl := Lib.hid hb
  obtain ⟨g, hg⟩ : ∃ g, w.heap.size = g := ⟨_, rfl⟩
  have hA1 := Blk.new w 32 (u8s a)
  have hb1 := below_alloc w (.cells (u8s a).toArray 32)
  have hs1 : (w.alloc (.cells (u8s a).toArray 32)).heap.size = w.heap.size + 1 := World.size_alloc _ _
  obtain ⟨w1, hw1⟩ : ∃ w1, w.alloc (.cells (u8s a).toArray 32) = w1 := ⟨_, rfl⟩
  rw [hw1] at hA1 hb1 hs1
  have hA2 := hA1.alloc (.cells (u8s b).toArray 32)
  have hB2 := Blk.new w1 32 (u8s b)
  have hb2 := hb1.alloc hb1.size (.cells (u8s b).toArray 32)
  have hs2 : (w1.alloc (.cells (u8s b).toArray 32)).heap.size = w1.heap.size + 1 := World.size_alloc _ _
  obtain ⟨w2, hw2⟩ : ∃ w2, w1.alloc (.cells (u8s b).toArray 32) = w2 := ⟨_, rfl⟩
  rw [hw2] at hA2 hB2 hb2 hs2
  have hA3 := hA2.alloc (.cells zr16.toArray 32)
  have hB3 := hB2.alloc (.cells zr16.toArray 32)
  have hR3 := Blk.new w2 32 zr16
  have hb3 := hb2.alloc hb2.size (.cells zr16.toArray 32)
  obtain ⟨w3, hw3⟩ : ∃ w3, w2.alloc (.cells zr16.toArray 32) = w3 := ⟨_, rfl⟩
  rw [hw3] at hA3 hB3 hR3 hb3
  rw [hs2, hs1] at hR3
  rw [hs1] at hB3
  rw [hg] at hA3 hB3 hR3 hb3 hs1 ⊢
  have HW1 := Lib.hid hw1
  have HW2 := Lib.hid hw2
  have HW3 := Lib.hid hw3
  have HG := Lib.hid hg
  have HS1 := Lib.hid hs1
  have HS2 : Hid (w2.heap.size = g + 1 + 1) := Lib.hid (by rw [hs2, hs1])
  have HA3 := Lib.hid hA3
  have HB3 := Lib.hid hB3
  have HR3 := Lib.hid hR3
  have Hb3 := Lib.hid hb3
  have HSz := Lib.hid (sizeA16 (addK a b) (addK_len a b))
  have HZe : Hid (zr16.length = (u8s (addK a b)).length) := Lib.hid (by rw [u8s_len, addK_len]; rfl)
  clear ha hb hA1 hb1 hA2 hB2 hb2 hA3 hB3 hR3 hb3 hs1 hs2 hw1 hw2 hw3 hg
  go_enter Tryz.func44, Tryz.ntmps44
  go_wp2_with (first | (refine wpList_box_arr rfl 32 (.tmp 0) (u8s a).toArray rfl rfl ?_; rw [HW1.out, HG.out]) | (refine wpList_box_arr rfl 32 (.tmp 1) (u8s b).toArray rfl rfl ?_; rw [HW2.out, HS1.out]) | (refine wpList_alloc_arr rfl 32 zr16.toArray rfl zeroR16 ?_; rw [HW3.out, HS2.out]))
  generalize (u8s a).toArray = xa
  generalize (u8s b).toArray = xb
  go_loopw [6] (fun i w' => ∃ j : Nat, j ≤ 16 ∧ i = .int .i64 (j : Int) ∧ Blk w' g 32 (u8s (prog a (addK a b) j)) ∧ Blk w' (g + 1) 32 (u8s b) ∧ Blk w' (g + 1 + 1) 32 zr16 ∧ Below g w w') (fun i _ => 16 - (intOf i).toNat)
  case atStart => exact ⟨0, by omega, rfl, by rw [prog_0]; exact HA3.out, HB3.out, HR3.out, Hb3.out⟩
  case round =>
    obtain ⟨j, hj, rfl, hA, hB, hR, hb⟩ := hrel
    clear HA3 HB3 HR3 Hb3
    have hL2 : (addK a b).length = a.length := by rw [addK_len, HA.out]
    by_cases hlt : j < 16
    · have hc1 := blk_byte hA (i := j) (c := at_ a j) (by rw [prog_get _ _ _ hL2 (by rw [HA.out]; exact hlt), at_get (by rw [HA.out]; exact hlt)])
      have hc2 := blk_byte hB (i := j) (c := at_ b j) (by rw [at_get (by rw [HBl.out]; exact hlt)])
      have hz : (addK a b)[j]? = some (at_ a j ^^^ at_ b j) := st_get _ _ hlt
      have hf := hA.frozen j
      have hS := hA.set_ j (.int .u8 ((at_ a j ^^^ at_ b j).toNat : Int))
      have hBf := hB.far (p := ⟨g, j, none⟩) (by show g + 1 ≠ g; omega) (.int .u8 ((at_ a j ^^^ at_ b j).toNat : Int))
      have hRf := hR.far (p := ⟨g, j, none⟩) (by show g + 1 + 1 ≠ g; omega) (.int .u8 ((at_ a j ^^^ at_ b j).toNat : Int))
      have hbf := hb.setCell (p := ⟨g, j, none⟩) (Nat.le_refl g) (.int .u8 ((at_ a j ^^^ at_ b j).toNat : Int))
      rw [u8s_set, prog_set _ _ _ _ hL2 hz, ← xor_byte] at hS
      rw [← xor_byte] at hBf hRf hbf
      have HS := Lib.hid hS
      have HBf := Lib.hid hBf
      have HRf := Lib.hid hRf
      have Hbf := Lib.hid hbf
      have hx8 := (at_ a j).toNat_lt
      have hy8 := (at_ b j).toNat_lt
      clear hS hBf hRf hbf hA hB hR hb hz hL2
      generalize (at_ a j).toNat = xn at *
      generalize (at_ b j).toNat = yn at *
      go_wp2
      go_region
      go_wp2
      exact ⟨⟨j + 1, by omega, by go_num, HS.out.drew, HBf.out.drew, HRf.out.drew, Hbf.out.drew⟩, by simp [intOf]; omega⟩
    · have hE : prog a (addK a b) j = addK a b := prog_end _ _ _ (by rw [HA.out]; omega) (by rw [addK_len]; omega)
      rw [hE] at hA
      have hld := run_loadVar_row (P := Tryz.prog) wr g 32 32 (u8s (addK a b)).toArray (0, 0) _ hA Tryz.und16 rfl (by simpa using HSz.out)
      have hbk := run_loadVar_row (P := Tryz.prog) _ (g + 1 + 1) 32 32 (u8s (addK a b)).toArray (0, 0) _ (hR.row (u8s (addK a b))) Tryz.und16 rfl (by simpa using HSz.out)
      have HR := Lib.hid hR
      have Hb := Lib.hid (below_setRow hb (by omega : g ≤ g + 1 + 1) (u8s (addK a b)).toArray)
      have HOe := Lib.hid (u8s_one (addK a b))
      clear hA hB hR hb hE hL2
      go_wp2_with (first | refine wpList_load_arr rfl 32 (.tmp 2) rfl rfl (u8s (addK a b)).toArray hld ?_ | refine wpList_store_arr rfl 32 (.tmp 4) (.tmp 18) (g + 1 + 1) _ _ rfl rfl rfl rfl HR.out HSz.out HZe.out HOe.out ?_)
      try simp only [Act.put, List.setIfInBounds_toArray, List.set]
      refine bodyPost_ret (v := .agg (u8s (addK a b)).toArray) ?_ rfl ⟨rfl, Hb.out⟩
      generalize (u8s (addK a b)).toArray = X at hbk ⊢
      simp [results, Tryz.results44, asAddr, hbk]
end Go.Proofs.YtdipflchmooakaaGreatDoor
namespace Go.Proofs.YtdipflchmooakaaGreatDoor
open Go.RowKit Go.Shelf Go.Gar Go.Gar.Aes
attribute [local go_sem] Oper.semAt_some

theorem cellC_bel' {w w' : World} (hb : Below w.heap.size w w') {p : Addr} {v : Value} (h : w.cell? p = some v) : w'.cell? p = some v := by
  rw [hb.cell (p := p) (World.block_lt_of_cell? w p h), h]
/-- 16 bytes. -/
abbrev B16 := { m : List UInt8 // m.length = 16 }
def flatC (xs : List B16) : List UInt8 := (xs.map (·.1)).flatten
theorem flatC_snoc (xs : List B16) (x : B16) : flatC (xs ++ [x]) = flatC xs ++ x.1 := by simp [flatC]
theorem flatC_len (xs : List B16) : (flatC xs).length = 16 * xs.length := by
  induction xs with
  | nil => rfl
  | cons x xs ih =>
    have : flatC (x :: xs) = x.1 ++ flatC xs := by simp [flatC]
    rw [this, List.length_append, x.2, ih, List.length_cons]; omega

/-- A round keeps block gt. -/
structure KpT (gt : Nat) (W W' : World) : Prop where
  size : W.heap.size ≤ W'.heap.size
  same : ∀ (o : Obj), W.heap[gt]? = some o → o.isCells = true → W'.heap[gt]? = some o
theorem KpT.trans {gt : Nat} {A B C : World} (h : KpT gt A B) (k : KpT gt B C) : KpT gt A C :=
  ⟨Nat.le_trans h.size k.size, fun o hi hc => k.same o (h.same o hi hc) hc⟩
theorem KpT.put (gt : Nat) (W : World) (l : Nat) (o o' : Obj) (hl : W.heap[l]? = some o) (ho : o.isCells = false) : KpT gt W (W.putObj l o') :=
  ⟨by simp, fun p hk hp => by
    have : gt ≠ l := by rintro rfl; rw [hl] at hk; cases hk; rw [ho] at hp; cases hp
    exact (World.putObj_heap_other this).trans hk⟩
theorem KpT.cell {gt : Nat} {W W' : World} (h : KpT gt W W') {o : Nat} {v : Value} (hp : W.cell? ⟨gt, o, none⟩ = some v) : W'.cell? ⟨gt, o, none⟩ = some v := by
  obtain ⟨ob, ho, hc⟩ := cells_of_cell hp
  rw [← hp]
  exact World.cell?_of_block ((h.same _ ho hc).trans ho.symm)
theorem kpT_below {gt : Nat} {W W' : World} (h : Below W.heap.size W W') : KpT gt W W' := ⟨h.size, fun _ hk _ => (h.block gt (Array.getElem?_eq_some_iff.1 hk).1).trans hk⟩
theorem kpT_grown {gt g : Nat} {W W' : World} (h : W.grownBy W' (some g)) (hne : gt ≠ g) : KpT gt W W' := ⟨h.size, fun _ hk _ => (h.block gt (Array.getElem?_eq_some_iff.1 hk).1 (fun e => hne (Option.some.inj e))).trans hk⟩
theorem keepsC_below {W W' : World} (h : Below W.heap.size W W') : KeepsOthers W W' := ⟨h.size, fun k _ hk _ => (h.block k (Array.getElem?_eq_some_iff.1 hk).1).trans hk⟩

/-- The bytes l from cell o of block gt on. -/
def At (W : World) (gt o : Nat) (l : List UInt8) : Prop := ∀ i c, l[i]? = some c → W.cell? ⟨gt, o + i, none⟩ = some (.int .u8 (c.toNat : Int))
theorem At.kept {W W' : World} {gt o : Nat} {l : List UInt8} (h : At W gt o l) (hk : KpT gt W W') : At W' gt o l := fun i c hi => hk.cell (h i c hi)
theorem At.dropped {W : World} {gt o : Nat} {l : List UInt8} (h : At W gt o l) (k : Nat) : At W gt (o + k) (l.drop k) := fun i c hi => by
  rw [List.getElem?_drop] at hi
  rw [Nat.add_assoc]
  exact h _ _ hi

theorem run_arr16 (g o n c : Nat) (h : 16 ≤ n) (W : World) : (Instr.arrayAt 32 (.slice (some ⟨g, o, none⟩) n c)).run Tryz.prog W = .ok (.pointer (some ⟨g, o, none⟩)) W := by
  have h1 : ¬ n < 16 := by omega
  simp [Instr.arrayAt, run_underlying Tryz.und16 W, h1]
theorem load_at16 {W : World} {gt o : Nat} {l : List UInt8} (h : At W gt o l) (hl : 16 ≤ l.length) : (loadVar 32 ⟨gt, o, none⟩).run Tryz.prog W = .ok (.agg (u8s (l.take 16)).toArray) W := by
  refine run_loadVar_mid (P := Tryz.prog) W gt o 32 (u8s (l.take 16)) _ (fun j v hv => ?_) Tryz.und16 rfl (by rw [u8s_len, List.length_take, Nat.min_eq_left hl]; kernel_rfl)
  rw [u8s_get] at hv
  cases hq : (l.take 16)[j]? with
  | none => rw [hq] at hv; cases hv
  | some c =>
    rw [hq] at hv
    obtain rfl := Option.some.inj hv
    rw [List.getElem?_take] at hq
    split at hq
    · exact h j c hq
    · cases hq

set_option maxRecDepth 100000 in
set_option maxHeartbeats 2000000 in
theorem blocks1C_in (n : Nat) (hn : 1 ≤ n) (l Bs gt len cap : Nat) (A : Option Addr) (m : List UInt8) (J : List B16 → World → Prop) (W : World)
    (hY : ∀ pre (x : B16) W1, (flatC (pre ++ [x])).length ≤ m.length → J pre W1 → YieldAt Fence.wide (n - 1) Tryz.prog l #[.agg (u8s x.1).toArray] W1 fun e W' => e = .returned (.bool true) ∧ J (pre ++ [x]) W' ∧ KpT gt W1 W')
    (hBs : W.cell? ⟨Bs, 0, none⟩ = some (.slice A len cap)) (hlen : len = m.length) (hcap : len ≤ cap) (hA : 0 < len → ∃ o, A = some ⟨gt, o, none⟩ ∧ At W gt o m) (hm : m.length % 16 = 0) (hx : m.length ≤ 2000000) (h0 : J [] W) :
    CallsIn Fence.wide n Tryz.prog 75 #[.func (.yield l) #[] #[], .pointer (some ⟨Bs, 0, none⟩)] W fun e W' => (∃ v, e = .returned v) ∧ ∃ xs, flatC xs = m ∧ J xs W' := by
  have HY := Lib.hid hY
  have HM := Lib.hid hm
  have HX := Lib.hid hx
  have HA := Lib.hid hA
  have H0 := Lib.hid h0
  have HL := Lib.hid hlen
  have hlx : len ≤ 2000000 := by omega
  clear hY hm hx hA h0 hlen
  refine callsIn_of_wp Tryz.func75 rfl trivial ?_ rfl
  simp only [Tryz.ntmps75, List.size_toArray, List.length_cons, List.length_nil, Nat.reduceAdd, Nat.reduceSub, Array.replicate_succ, Array.replicate_zero, List.push_toArray, List.append_toArray, List.nil_append, List.cons_append]
  gi_wp2
  gi_loopw [3] (fun v wr => ∃ (k : Nat) (pre : List B16) (B : Option Addr) (c : Nat), 16 * k ≤ len ∧ v = .slice B (len - 16 * k) c ∧ len - 16 * k ≤ c ∧ flatC pre = m.take (16 * k) ∧ (16 * k < len → ∃ p, B = some ⟨gt, p, none⟩ ∧ At wr gt p (m.drop (16 * k))) ∧ J pre wr)
    (fun v _ => match v with | .slice _ k _ => k | _ => 0)
  case atStart => exact ⟨0, [], A, cap, by omega, rfl, hcap, rfl, fun h => HA.out (by omega), H0.out⟩
  case round =>
    obtain ⟨k, pre, B, c, hk, rfl, hkc, hflat, hAt, hJ⟩ := hrel
    clear HA H0 hBs
    have hM := HM.out
    have hL := HL.out
    obtain ⟨r, hr⟩ : ∃ r, r = len - 16 * k := ⟨_, rfl⟩
    rw [← hr] at hkc ⊢
    by_cases hlt : 16 * k < len
    · have h16 : 16 ≤ r := by omega
      obtain ⟨p, hBp, hAp⟩ := hAt hlt
      clear hAt
      subst hBp
      have hAt := hAp
      clear hAp
      have hld := load_at16 hAt (by rw [List.length_drop]; omega)
      have hx16 : ((m.drop (16 * k)).take 16).length = 16 := by rw [List.length_take, List.length_drop]; omega
      obtain ⟨x, hxe⟩ : ∃ x : B16, x.1 = (m.drop (16 * k)).take 16 := ⟨⟨_, hx16⟩, rfl⟩
      rw [← hxe] at hld
      have hfl2 : flatC (pre ++ [x]) = m.take (16 * (k + 1)) := by
        rw [flatC_snoc, hflat, hxe, show 16 * (k + 1) = 16 * k + 16 from by omega, List.take_add]
      obtain ⟨fn, tmps, assign, body, hy, hR⟩ := HY.out pre x wr (by rw [hfl2, List.length_take]; omega) hJ
      have HF := Lib.hid hfl2
      have HAt := Lib.hid hAt
      have har := run_arr16 gt p r c h16
      have hd : decide ((16 : Int) ≤ (r : Int)) = true := by simp; omega
      have Hr := Lib.hid hr
      clear hflat hAt hJ hM hL hx16 hxe hfl2 hr
      gi_wp2_with (refine wpListIn_load_arr rfl 32 (.tmp 12) rfl rfl (u8s x.1).toArray hld ?_)
      refine hR.mono ?_
      rintro e W3 ⟨rfl, hJ3, hk3⟩
      have HJ3 := Lib.hid hJ3
      have HAt3 : Hid (16 < r → At W3 gt (p + 16) (m.drop (16 * (k + 1)))) := Lib.hid (fun _ => by
        have := (HAt.out.kept hk3).dropped 16
        rw [List.drop_drop, show 16 * k + 16 = 16 * (k + 1) from by omega] at this
        exact this)
      clear hJ3 hk3 hR hy hld HAt har
      by_cases hc16 : c = 16
      · subst hc16
        have hr16 : r = 16 := by omega
        subst hr16
        gi_wp2
        refine ⟨⟨k + 1, pre ++ [x], some ⟨gt, p, none⟩, 0, by have := Hr.out; omega, ?_, by have := Hr.out; omega, HF.out, fun h => by have := Hr.out; omega, HJ3.out⟩, by show 0 < 16; omega⟩
        rw [show len - 16 * (k + 1) = 0 from by have := Hr.out; omega]
      · have hsl := slice_from gt p r c 16 h16 (by omega)
        have hsl2 : ∀ W, (Instr.sliceAt 23 (.slice (some ⟨gt, p, none⟩) r c) (some (.int .i64 16)) none none).run Tryz.prog W = .ok (.slice (some ⟨gt, p + 16, none⟩) (r - 16) (c - 16)) W := hsl
        clear hsl
        gi_wp2
        refine ⟨⟨k + 1, pre ++ [x], some ⟨gt, p + 16, none⟩, c - 16, by have := Hr.out; omega, ?_, by have := Hr.out; omega, HF.out, fun h => ⟨_, rfl, HAt3.out (by have := Hr.out; omega)⟩, HJ3.out⟩, by show r - 16 < r; omega⟩
        rw [show len - 16 * (k + 1) = r - 16 from by have := Hr.out; omega]
    · have hd : decide ((16 : Int) ≤ (r : Int)) = false := by simp; omega
      have HE : Hid (flatC pre = m) := Lib.hid (by rw [hflat]; exact List.take_of_length_le (by omega))
      have HJp := Lib.hid hJ
      clear hflat hAt hJ hr hM hL
      gi_wp2
      go_end0
      exact ⟨⟨_, rfl⟩, pre, HE.out, HJp.out⟩

theorem blocksC_seq (n : Nat) (hn : 1 ≤ n) (Bs gt len cap : Nat) (A : Option Addr) (m : List UInt8) (w : World) (hBs : w.cell? ⟨Bs, 0, none⟩ = some (.slice A len cap)) (hlen : len = m.length) (hcap : len ≤ cap) (hA : 0 < len → ∃ o, A = some ⟨gt, o, none⟩ ∧ At w gt o m) (hm : m.length % 16 = 0) (hx : m.length ≤ 2000000) :
    SeqP Fence.wide n Tryz.prog 75 #[.pointer (some ⟨Bs, 0, none⟩)] (fun x : B16 => #[.agg (u8s x.1).toArray]) (KpT gt) (fun xs => flatC xs = m) (fun xs => (flatC xs).length ≤ m.length) w := by
  intro l J W hW hJ hY h0
  refine blocks1C_in n hn l Bs gt len cap A m J W hY (cellC_bel' hW hBs) hlen hcap (fun h => ?_) hm hx h0
  obtain ⟨o, h1, h2⟩ := hA h
  exact ⟨o, h1, fun i c hi => cellC_bel' hW (h2 i c hi)⟩

set_option maxRecDepth 100000 in
set_option maxHeartbeats 1000000 in
theorem blocksC_in (n : Nat) (A : Option Addr) (len cap : Nat) (w : World) :
    CallsIn Fence.wide n Tryz.prog 42 #[.slice A len cap] w fun e w' => e = .returned (.func (.func 75) #[] #[.pointer (some ⟨w.heap.size, 0, none⟩)]) ∧ w' = w.alloc (.cells #[.slice A len cap] 23) := by
  refine callsIn_of_wp Tryz.func42 rfl trivial ?_ rfl
  simp only [Tryz.ntmps42, List.size_toArray, List.length_cons, List.length_nil, Nat.reduceAdd, Nat.reduceSub, Array.replicate_succ, Array.replicate_zero, List.push_toArray, List.append_toArray, List.nil_append, List.cons_append]
  gi_wp2
  refine bodyPost_ret (results_tmp rfl _ _ _) rfl ?_
  exact ⟨rfl, rfl⟩
end Go.Proofs.YtdipflchmooakaaGreatDoor
