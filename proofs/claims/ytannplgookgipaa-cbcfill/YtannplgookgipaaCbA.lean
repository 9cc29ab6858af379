/-
  math/bits.Mul and bytes.Repeat of one byte: contracts. The landed cbc: padding, padded.
-/
import Derived.Test.YtannplgookgipaaBase
import Derived.Test.YtannplgookgipaaBits
import Derived.Test.YtannplgookgipaaShGh
import Derived.Test.YtannplgookgipaaApp2
import Derived.Test.YtannplgookgipaaReg2
import Derived.Test.YtannplgookgipaaCbcC
import Derived.Test.YtannplgookgipaaAesRef
import Derived.Lib.Mul64
import Derived.Lib.MakeNoZero
import Derived.Laws.Externs
import Derived.RegionTactic
import Derived.BigRegion
namespace Go.Gar
open Go.RowKit
/-- copy, its run known. -/
theorem wpList_copy_run {P : Program} {w : World} {ops : Array Oper} {rest : List Oper} {o : Oper} {a : Act} {Q : Exit → Act → World → Prop} (hgd : o.guard = none) (s x : Operand) (ts : Array TypeId)
    (ho : o.op = .call { callee := .builtin .copy, args := #[s, x], argTypes := ts }) {vs vx v : Value} {w' : World} (hs : a.eval s = vs) (hx : a.eval x = vx)
    (hrun : (Builtin.copy_ ts o.type #[vs, vx]).run P w = .ok v w') (h : wpList P ops Q rest (a.put o.dst v) w') : wpList P ops Q (o :: rest) a w := by
  refine wpList_run hgd (v := v) (w' := w') ?_ h
  unfold execOp
  simp only [ho, resolve, invoke, builtin, Sem.run_bind, Sem.run_pure, Result.andThen_ok, List.map_toArray, List.map_cons, List.map_nil, hs, hx, hrun]
end Go.Gar
namespace Go.Proofs.Ytannplgookgipaa
open Go.RowKit Go.Gar

namespace M64
theorem maskN (a : Nat) (ha : a < 18446744073709551616) : bits .and .u64 (a : Int) 4294967295 = ((a % 4294967296 : Nat) : Int) := by
  have h := and_u64 a 4294967295 ha (by omega)
  have e : a &&& 4294967295 = a % 4294967296 := Nat.and_two_pow_sub_one_eq_mod a 32
  rw [e] at h
  exact h
theorem divN (a : Nat) : (a : Int) / 4294967296 = ((a / 4294967296 : Nat) : Int) := by omega
theorem mulN (a b : Nat) : (a : Int) * (b : Int) = ((a * b : Nat) : Int) := (Int.natCast_mul a b).symm
theorem addN (a b : Nat) : (a : Int) + (b : Int) = ((a + b : Nat) : Int) := (Int.natCast_add a b).symm
theorem wrapN (a : Nat) (ha : a < 18446744073709551616) : IntKind.u64.wrap (a : Int) = (a : Int) := by rw [IntKind.wrap_u64]; omega
theorem wrapM (a : Nat) : IntKind.u64.wrap (a : Int) = ((a % 18446744073709551616 : Nat) : Int) := by rw [IntKind.wrap_u64]; omega
end M64

set_option maxHeartbeats 1000000 in
theorem mul64_any (x y : Nat) (hx : x < 18446744073709551616) (hy : y < 18446744073709551616) (w : World) :
    Calls Try.prog 52 #[.int .u64 x, .int .u64 y] w fun e w' => e = .returned (.tuple #[.int .u64 ((x * y / 18446744073709551616 : Nat) : Int), .int .u64 ((x * y % 18446744073709551616 : Nat) : Int)]) ∧ w' = w := by
  obtain ⟨bd, bt, bw, hhi⟩ := Lib.mul64_hi x y hx hy
  have ba := Lib.half_mul_le (a := x / 4294967296) (b := y / 4294967296) (by omega) (by omega)
  have bb := Lib.half_mul_le (a := x / 4294967296) (b := y % 4294967296) (by omega) (by omega)
  have bc := Lib.half_mul_le (a := x % 4294967296) (b := y / 4294967296) (by omega) (by omega)
  have ba' : x / 4294967296 * (y / 4294967296) < 18446744073709551616 := by omega
  have bb' : x / 4294967296 * (y % 4294967296) < 18446744073709551616 := by omega
  have bc' : x % 4294967296 * (y / 4294967296) < 18446744073709551616 := by omega
  have bh1 : x / 4294967296 * (y / 4294967296) + (x / 4294967296 * (y % 4294967296) + x % 4294967296 * (y % 4294967296) / 4294967296) / 4294967296 < 18446744073709551616 := by omega
  have bh : x / 4294967296 * (y / 4294967296) + (x / 4294967296 * (y % 4294967296) + x % 4294967296 * (y % 4294967296) / 4294967296) / 4294967296 + ((x / 4294967296 * (y % 4294967296) + x % 4294967296 * (y % 4294967296) / 4294967296) % 4294967296 + x % 4294967296 * (y / 4294967296)) / 4294967296 < 18446744073709551616 := by omega
  go_enter Try.func52, Try.ntmps52
  go_wp2
  simp only [M64.maskN x hx, M64.maskN y hy, M64.divN, M64.mulN, M64.addN, M64.wrapN _ bd, M64.wrapN _ bb', M64.wrapN _ bt, M64.maskN _ bt, M64.wrapN _ bc', M64.wrapN _ bw, M64.wrapN _ ba', M64.wrapN _ bh1, M64.wrapN _ bh, M64.wrapM (x * y)]
  rw [hhi]
  go_ret2
  exact ⟨rfl, rfl⟩


set_option maxHeartbeats 1000000 in
theorem bitsMul_one (n : Nat) (hn : n < 18446744073709551616) (w : World) :
    Calls Try.prog 49 #[.int .u64 1, .int .u64 (n : Int)] w fun e w' => e = .returned (.tuple #[.int .u64 0, .int .u64 (n : Int)]) ∧ w' = w := by
  go_enter Try.func49, Try.ntmps49
  go_wp2_with fail
  refine (mul64_any 1 n (by omega) hn w).mono ?_
  rintro e w' ⟨rfl, rfl⟩
  rw [Nat.one_mul, Nat.div_eq_of_lt hn, Nat.mod_eq_of_lt hn]
  go_wp2
  go_ret2
  exact ⟨rfl, rfl⟩

theorem min_at (n m : Nat) (w : World) : (Builtin.min_ #[3, 3] 3 #[.int .i64 (n : Int), .int .i64 (m : Int)]).run Try.prog w = .ok (.int .i64 ((min n m : Nat) : Int)) w := by
  rcases Nat.lt_or_ge n m with h | h
  · rw [show min n m = n by omega]
    simp [Builtin.min_, Builtin.min2]
    omega
  · rw [show min n m = m by omega]
    simp [Builtin.min_, Builtin.min2]
    omega
end Go.Proofs.Ytannplgookgipaa
namespace Go.Gar
open Go.RowKit
theorem grown_row {W : World} {g : Nat} {cs : Array Value} : W.grownBy (W.setRow g cs) (some g) :=
  ⟨rfl, rfl, rfl, by simp, fun k _ hr => setRow_other W g k cs (fun e => hr (by rw [e]))⟩
/-- A cut of a slice, its run known. -/
theorem wpQuiet_slice_run {P : Program} {C : World → Prop} {ops : Array Oper} {Q : Act → Prop} {rest : List Oper} {o : Oper} {a : Act} (t : TypeId) (p : Operand) (lo hi : Option Operand) (ho : o.op = .slice t p lo hi none) {x v : Value} {vl vh : Option Value} (hp : a.eval p = x) (hl : lo.map a.eval = vl) (hh : hi.map a.eval = vh)
    (hrun : ∀ W, (Instr.sliceAt t x vl vh none).run P W = .ok v W) (hw : Region.wanted o (yielded ops a.tmps) = true)
    (h : wpQuiet P ops C Q rest (a.put o.dst v)) : wpQuiet P ops C Q (o :: rest) a := by
  refine wpQuiet_val hw (fun W _ => ?_) h
  unfold execOp
  simp only [ho, hp, hl, hh, Option.map_none, Sem.run_bind, hrun W, Result.andThen_ok, Sem.run_pure]
/-- min, its run known. -/
theorem wpList_min_run {P : Program} {w : World} {ops : Array Oper} {rest : List Oper} {o : Oper} {a : Act} {Q : Exit → Act → World → Prop} (hgd : o.guard = none) (s x : Operand) (ts : Array TypeId)
    (ho : o.op = .call { callee := .builtin .min, args := #[s, x], argTypes := ts }) {vs vx v : Value} {w' : World} (hs : a.eval s = vs) (hx : a.eval x = vx)
    (hrun : (Builtin.min_ ts o.type #[vs, vx]).run P w = .ok v w') (h : wpList P ops Q rest (a.put o.dst v) w') : wpList P ops Q (o :: rest) a w := by
  refine wpList_run hgd (v := v) (w' := w') ?_ h
  unfold execOp
  simp only [ho, resolve, invoke, builtin, Sem.run_bind, Sem.run_pure, Result.andThen_ok, List.map_toArray, List.map_cons, List.map_nil, hs, hx, hrun]
theorem rep_row (k q : Nat) (c : UInt8) (junk : List Value) (hq : q ≤ k) : (u8s (List.replicate k c) ++ junk).take k ++ u8s ((List.replicate k c).take q) ++ (u8s (List.replicate k c) ++ junk).drop (k + q) = u8s (List.replicate (k + q) c) ++ junk.drop q := by
  have hl : (u8s (List.replicate k c)).length = k := by rw [u8s_len, List.length_replicate]
  rw [List.take_left' hl, List.drop_append, hl, List.drop_eq_nil_of_le (by omega), List.nil_append, Nat.add_sub_cancel_left, List.take_replicate, Nat.min_eq_left hq, ← u8s_app, List.replicate_append_replicate]
end Go.Gar
namespace Go.Proofs.Ytannplgookgipaa
open Go.RowKit Go.Gar

theorem slice_from (g o n c k : Nat) (h : k ≤ n) (h3 : k < c) (W : World) :
    (Instr.sliceAt 22 (.slice (some ⟨g, o, none⟩) n c) (some (.int .i64 (k : Int))) none none).run Try.prog W = .ok (.slice (some ⟨g, o + k, none⟩) (n - k) (c - k)) W := by
  obtain ⟨i, hi, hs⟩ := Option.map_eq_some_iff.1 Try.size5
  have h1 : (k : Int) ≤ (n : Int) := by omega
  have h5 : ¬ c = k := by omega
  simp [Instr.sliceAt, Instr.sliceBounds, Instr.sureAddr, run_underlying Try.und22 W, sizeOf, typeInfo, hi, hs, go_sem, h1, h5, Addr.add_lit]
theorem slice_upto (g o n c k : Nat) (h2 : k ≤ c) (W : World) :
    (Instr.sliceAt 22 (.slice (some ⟨g, o, none⟩) n c) none (some (.int .i64 (k : Int))) none).run Try.prog W = .ok (.slice (some ⟨g, o, none⟩) k c) W := by
  obtain ⟨i, hi, hs⟩ := Option.map_eq_some_iff.1 Try.size5
  have h4 : (k : Int) ≤ (c : Int) := by omega
  simp [Instr.sliceAt, Instr.sliceBounds, Instr.sureAddr, run_underlying Try.und22 W, sizeOf, typeInfo, hi, hs, go_sem, h4]

set_option maxHeartbeats 2000000 in
set_option maxRecDepth 100000 in
theorem repeat_any (w : World) (g : Nat) (c : UInt8) (n : Nat) (h1 : 1 ≤ n) (h16 : n ≤ 16) (hB : Blk w g 5 (u8s [c])) :
    Calls Try.prog 43 #[.slice (some ⟨g, 0, none⟩) 1 1, .int .i64 (n : Int)] w fun e w' => ∃ gN rest, e = .returned (.slice (some ⟨gN, 0, none⟩) n n) ∧ w.heap.size ≤ gN ∧ Blk w' gN 5 (u8s (List.replicate n c) ++ rest) ∧ Below w.heap.size w w' := by
  obtain ⟨cs, hrunM, hle, hmax⟩ := Lib.run_makeNoZero (P := Try.prog) w #[3] 22 5 Try.und22 n (by omega)
  have hcall : (callFunc 50 #[.int .i64 (n : Int)]).run Try.prog w = .ok (.value (.slice (some ⟨w.heap.size, 0, none⟩) n cs.size)) ((w.alloc (.cells cs 5)).drewN 2) := by
    rw [run_callFunc_extern Try.func50 (by kernel_rfl) (by kernel_rfl) (by kernel_rfl) (e := Extern.BytealgMakeNoZero.makeNoZero #[3] #[22]) (by kernel_rfl), hrunM]
    rfl
  have hBN : Blk ((w.alloc (.cells cs 5)).drewN 2) w.heap.size 5 cs.toList := by
    have := Blk.new w 5 cs.toList
    rw [Array.toArray_toList] at this
    exact this
  have hb0 : Below w.heap.size w ((w.alloc (.cells cs 5)).drewN 2) := by
    have h := below_alloc w (.cells cs 5)
    exact ⟨h.os, h.tape, h.output, h.size, h.block⟩
  have hB0 : Blk ((w.alloc (.cells cs 5)).drewN 2) g 5 (u8s [c]) := hB.below hb0 hB.lt
  obtain ⟨gN, hgN⟩ : ∃ gN, w.heap.size = gN := ⟨_, rfl⟩
  obtain ⟨w1, hw1⟩ : ∃ w1, (w.alloc (.cells cs 5)).drewN 2 = w1 := ⟨_, rfl⟩
  rw [hw1] at hcall hBN hb0 hB0
  rw [hgN] at hcall hBN hb0 ⊢
  have hcp := run_copy_seg (P := Try.prog) (w := w1) 22 22 3 5 Try.und22 Try.size5 gN 0 n n 1 1 g 0 [c] 1 (fun i x hi => by rw [Nat.zero_add, hB0.cell, u8s_get, hi]; rfl) rfl (by simp; omega) _ _ hBN (by simp; omega)
  have hE : cs.toList.take 0 ++ u8s ([c].take 1) ++ cs.toList.drop (0 + 1) = u8s (List.replicate 1 c) ++ cs.toList.drop 1 := by simp
  rw [hE] at hcp
  have hB1 := hBN.row (u8s (List.replicate 1 c) ++ cs.toList.drop 1)
  have hb1 := below_setRow hb0 (Nat.le_refl _) (u8s (List.replicate 1 c) ++ cs.toList.drop 1).toArray
  obtain ⟨w2, hw2⟩ : ∃ w2, w1.setRow gN (u8s (List.replicate 1 c) ++ cs.toList.drop 1).toArray = w2 := ⟨_, rfl⟩
  rw [hw2] at hcp hB1 hb1
  have hj1 : (cs.toList.drop 1).length = cs.size - 1 := by simp
  generalize cs.toList.drop 1 = junk1 at *
  have HB1 := Lib.hid hB1
  have Hb1 := Lib.hid hb1
  have HJ1 := Lib.hid hj1
  have hcl : (n : Int) ≤ (cs.size : Int) := by omega
  generalize cs.size = cz at *
  clear hrunM hmax hBN hb0 hB0 hE hB1 hb1 hj1 hB hgN hw1 hw2
  go_enter Try.func43, Try.ntmps43
  go_wp2_with fail
  refine (bitsMul_one n (by omega) w).mono ?_
  rintro e wq ⟨rfl, rfl⟩
  go_wp2_with (refine wpList_copy_run rfl (.tmp 58) (.tmp 59) _ rfl rfl rfl hcp ?_)
  clear hcp hcall
  go_loopw [10] (fun i w' => ∃ (k : Nat) (junk : List Value), 1 ≤ k ∧ k ≤ n ∧ i = .int .i64 (k : Int) ∧ Blk w' gN 5 (u8s (List.replicate k c) ++ junk) ∧ junk.length = cz - k ∧ Below gN wq w') (fun i _ => n - (intOf i).toNat)
  case atStart => exact ⟨1, junk1, by omega, h1, rfl, HB1.out, HJ1.out, Hb1.out⟩
  case round =>
    obtain ⟨k, junk, hk1, hk, rfl, hB, hj, hb⟩ := hrel
    clear HB1 Hb1 HJ1
    by_cases hlt : k < n
    · obtain ⟨q, hq⟩ : ∃ q, q = min k (n - k) := ⟨_, rfl⟩
      have hmin : (Builtin.min_ #[3, 3] 3 #[.int .i64 (k : Int), .int .i64 (n : Int)]).run Try.prog wr = .ok (.int .i64 (k : Int)) wr := by
        have := min_at k n wr
        rw [Nat.min_eq_left hk] at this
        exact this
      have hcp := run_copy_seg (P := Try.prog) (w := wr.drew) 22 22 3 5 Try.und22 Try.size5 gN k (n - k) (n - k) k n gN 0 (List.replicate k c) q (fun i x hi => by
        rw [Nat.zero_add]
        exact row_get hB hi) (by simp) (by rw [List.length_replicate]; exact hq) _ _ hB.drew (by rw [List.length_append, u8s_len, List.length_replicate, hj]; omega)
      rw [rep_row k q c junk (by omega), show goInt (q : Int) = Value.int .i64 (q : Int) from rfl] at hcp
      have hB2 := hB.drew.row (u8s (List.replicate (k + q) c) ++ junk.drop q)
      have hb2 := below_setRow hb.drew (Nat.le_refl gN) (u8s (List.replicate (k + q) c) ++ junk.drop q).toArray
      have hg2 : (turns gN).rel wr.drew (wr.drew.setRow gN (u8s (List.replicate (k + q) c) ++ junk.drop q).toArray) := grown_row
      have hj2 : (junk.drop q).length = cz - (k + q) := by rw [List.length_drop, hj]; omega
      generalize wr.drew.setRow gN (u8s (List.replicate (k + q) c) ++ junk.drop q).toArray = w3 at hcp hB2 hb2 hg2
      have HB2 := Lib.hid hB2
      have Hb2 := Lib.hid hb2
      have HJ2 := Lib.hid hj2
      have Hg2 := Lib.hid hg2
      have Hq := Lib.hid hq
      have hq1 : 1 ≤ q := by omega
      have hq2 : k + q ≤ n := by omega
      have hd1 : (k : Int) < (n : Int) := by omega
      clear hB2 hb2 hg2 hj2 hB hj hb hq
      go_wp2_with (refine wpList_min_run rfl (.tmp 64) (.tmp 65) _ rfl rfl rfl hmin ?_)
      refine wp_region_G (turns gN) (by kernel_rfl) ?_
      generalize wr.drew = w4 at *
      refine segG (by kernel_rfl) (fun _ _ _ _ _ h => h) [0, 1, 2, 3, 4, 5, 6] [_, _, _, _, _, _, _] 3 rfl rfl (by kernel_rfl) ?_
      repeat (go_big_quiet_step (fail))
      refine wpQuiet_nil ?_
      refine oneG 7 2 rfl (by kernel_rfl) rfl ?_
      go_wp2_with (refine wpList_copy_run rfl (.tmp 70) (.tmp 73) _ rfl rfl rfl hcp ?_)
      refine ⟨Hg2.out, ?_⟩
      simp only [Act.put, List.setIfInBounds_toArray, List.set]
      refine segG (by kernel_rfl) (fun _ _ _ _ _ h => h) [8, 9] [_, _] 0 rfl rfl (by kernel_rfl) ?_
      repeat (go_big_quiet_step (fail))
      refine wpQuiet_nil ?_
      refine wpAnyG_done (by kernel_rfl) ?_
      go_wp2
      exact ⟨⟨k + q, junk.drop q, by omega, hq2, by go_num, HB2.out, HJ2.out, Hb2.out⟩, by simp [intOf]; omega⟩
    · obtain rfl : k = n := by omega
      have HB := Lib.hid hB
      have Hb := Lib.hid hb
      clear hB hb
      go_wp2
      go_ret
      exact ⟨gN, junk, rfl, by omega, HB.out, Hb.out⟩

theorem byte_small (n : Nat) (h : n ≤ 16) : (((UInt8.ofNat n).toNat : Nat) : Int) = (n : Int) := by
  rw [UInt8.toNat_ofNat']; omega
set_option maxHeartbeats 2000000 in
set_option maxRecDepth 100000 in
theorem padding_any (w : World) (n : Nat) (h1 : 1 ≤ n) (h16 : n ≤ 16) :
    Calls Try.prog 30 #[.int .i64 (n : Int)] w fun e w' => ∃ g, e = .returned (.slice (some ⟨g, 0, none⟩) n n) ∧ Rd w' w'.heap.size (some ⟨g, 0, none⟩) (List.replicate n (UInt8.ofNat n)) ∧ Below w.heap.size w w' := by
  have hB0 := Blk.new w 5 (u8s [UInt8.ofNat n])
  have hu : u8s [UInt8.ofNat n] = [.int .u8 (n : Int)] := by
    show [Value.int .u8 (((UInt8.ofNat n).toNat : Nat) : Int)] = _
    rw [byte_small n h16]
  have hb0 := below_alloc w (.cells (u8s [UInt8.ofNat n]).toArray 5)
  have hrep := fun g hB => repeat_any (w.alloc (.cells (u8s [UInt8.ofNat n]).toArray 5)) g (UInt8.ofNat n) n h1 h16 hB
  have HR := Lib.hid (hrep _ hB0)
  have Hb0 := Lib.hid hb0
  rw [hu] at HR Hb0
  clear hrep hB0 hu hb0
  go_enter Try.func30, Try.ntmps30
  go_wp2_with fail
  refine HR.out.mono ?_
  rintro e w2 ⟨gN, rest, rfl, hg, hB, hb⟩
  have HB := Lib.hid (Rd.of_row hB)
  have Hb := bb Hb0 hb
  clear hg hB hb HR Hb0
  go_wp2
  go_ret
  exact ⟨gN, rfl, HB.out, Hb.out⟩

theorem own_room (w : World) (base cap : Nat) (hb : base ≤ w.heap.size) (hc : cap ≤ 1099511627776) : OwnB (w.alloc (.cells (u8s (List.replicate cap 0)).toArray 5)) base 5 (.slice (some ⟨w.heap.size, 0, none⟩) 0 cap) [] :=
  World.ownsRow_made w (u8s (List.replicate cap 0)).toArray cap hb (by simp only [maxLen]; omega) (by simp [u8s_len])

set_option maxHeartbeats 2000000 in
set_option maxRecDepth 100000 in
theorem padded_any (w : World) (A : Option Addr) (b : List UInt8) (n bc : Nat) (hn : n = b.length) (hl : n ≤ 1048576) (hr : Rd w w.heap.size A b) :
    Calls Try.prog 16 #[.slice A n bc] w fun e w' => ∃ g cp rest N, e = .returned (.slice (some ⟨g, 0, none⟩) N cp) ∧ N = (Cbc.pad b).length ∧ N ≤ cp ∧ w.heap.size ≤ g ∧ Blk w' g 5 (u8s (Cbc.pad b) ++ rest) ∧ Below w.heap.size w w' := by
  have hmk : (Instr.makeSlice 22 (.int .i64 0) (.int .i64 ((n + 16 : Nat) : Int))).run Try.prog w = .ok (.slice (some ⟨w.heap.size, 0, none⟩) 0 (n + 16)) (w.alloc (.cells (u8s (List.replicate (n + 16) 0)).toArray 5)) := run_make_bytes 0 (n + 16) (by omega) (by omega) w
  have hO := own_room w w.heap.size (n + 16) (Nat.le_refl _) (by omega)
  have hb0 := below_alloc w (.cells (u8s (List.replicate (n + 16) 0)).toArray 5)
  obtain ⟨v1, w1, e1, ho1, hb1, _⟩ := app_rd (P := Try.prog) 22 22 Try.und22 Try.info5 hO (by rw [World.size_alloc]; omega) bc (hr.below hb0) (by simp; omega)
  rw [List.nil_append] at ho1
  rw [← hn] at e1
  have Hb1 := Lib.hid (hb0.trans hb1)
  have HO1 := Lib.hid ho1
  generalize w.alloc (.cells (u8s (List.replicate (n + 16) 0)).toArray 5) = w0 at hmk e1
  have hnn : ((n + 16 : Nat) : Int) = (n : Int) + 16 := by omega
  rw [hnn] at hmk
  obtain ⟨f, hf⟩ : ∃ f, f = Cbc.fillN b := ⟨_, rfl⟩
  have hf1 : 1 ≤ f ∧ f ≤ 16 := by rw [hf]; exact Cbc.fillN_lt b
  have hfi : 16 - (n : Int) % 16 = (f : Int) := by
    rw [hf, Cbc.fillN, ← hn]; omega
  have Hf := Lib.hid hf
  have HN := Lib.hid hn
  clear hO hb0 hb1 ho1 hr hnn hf hn
  go_enter Try.func16, Try.ntmps16
  go_wp2_with (at_builtin; refine wpList_append_run rfl (.tmp 8) (.tmp 9) _ rfl rfl rfl e1 ?_)
  refine (padding_any w1 f hf1.1 hf1.2).mono ?_
  rintro e w2 ⟨gp, rfl, hrp, hb2⟩
  have ho2 : OwnB w2 w.heap.size 5 v1 b := HO1.out.keep fun g hv => hb2.block g (HO1.out.block_lt hv).2
  have hbw : Below w.heap.size w w2 := Hb1.out.trans (hb2.mono Hb1.out.size)
  obtain ⟨v3, w3, e3, ho3, hb3, _⟩ := app_rd (P := Try.prog) 22 22 Try.und22 Try.info5 ho2 hbw.size f hrp (by rw [List.length_replicate, ← HN.out]; omega)
  rw [List.length_replicate] at e3
  have hpad : b ++ List.replicate f (UInt8.ofNat f) = Cbc.pad b := by rw [Hf.out]; rfl
  rw [hpad] at ho3
  obtain ⟨g, cp, rest, rfl, hg, hcp, hB⟩ := ho3.blk (by rw [Cbc.pad_len]; omega)
  have HB := Lib.hid hB
  have Hb := Lib.hid (hbw.trans hb3)
  have Hg := Lib.hid hg
  have Hcp := Lib.hid hcp
  clear ho2 hbw ho3 hb3 hpad hB hg hcp HO1 Hb1 hb2 hrp e1 hmk
  go_wp2_with (at_builtin; refine wpList_append_run rfl (.tmp 11) (.tmp 16) _ rfl rfl rfl e3 ?_)
  go_ret
  exact ⟨g, cp, rest, _, rfl, rfl, Hcp.out, Hg.out, HB.out, Hb.out⟩
end Go.Proofs.Ytannplgookgipaa
