/-
  math/bits.Mul and bytes.Repeat of one byte: contracts. The landed cbc: padding, padded. What is asked of box's functions (contracts). Package aes, helpers that turn a block in place: add, replace, rotate, replaceWord; power, ready. The mathematics of the landed aes: columns mixed by tables, rows rotated, the expanded key as one row of bytes.
-/
import Derived.Test.YtjhkodmaalefiaaDoorSealJ03
import Derived.Test.YtjhkodmaalefiaaDoorSealJ23
import Derived.Test.YtjhkodmaalefiaaDoorSealJ16
import Derived.Test.YtjhkodmaalefiaaDoorSealJ22
import Derived.Test.YtjhkodmaalefiaaDoorSealJ04
import Derived.Test.YtjhkodmaalefiaaDoorSealJ02
import Derived.Test.YtjhkodmaalefiaaDoorSealJ15
import Derived.Test.YtjhkodmaalefiaaDoorSealJ09
import Derived.Test.YtjhkodmaalefiaaDoorSealJ11
import Derived.Lib.Mul64
import Derived.Lib.MakeNoZero
import Derived.Laws.Externs
import Derived.RegionTactic
import Derived.BigRegion
import Derived.Test.YtjhkodmaalefiaaDoorSealJ01
set_option maxRecDepth 100000
namespace Go.Gar
open Go.RowKit
end Go.Gar
namespace Go.Proofs.YtjhkodmaalefiaaDoor
open Go.RowKit Go.Gar



set_option maxHeartbeats 1000000 in
theorem bitsMul_one (n : Nat) (hn : n < 18446744073709551616) (w : World) :
    Calls Tryd.prog 96 #[.int .u64 1, .int .u64 (n : Int)] w fun e w' => e = .returned (.tuple #[.int .u64 0, .int .u64 (n : Int)]) ∧ w' = w := by
  go_enter Tryd.func96, Tryd.ntmps96
  go_wp2_with fail
  refine (mul64_any 1 n (by omega) hn w).mono ?_
  rintro e w' ⟨rfl, rfl⟩
  rw [Nat.one_mul, Nat.div_eq_of_lt hn, Nat.mod_eq_of_lt hn]
  go_wp2
  go_ret2
  exact ⟨rfl, rfl⟩

theorem min_at (n m : Nat) (w : World) : (Builtin.min_ #[3, 3] 3 #[.int .i64 (n : Int), .int .i64 (m : Int)]).run Tryd.prog w = .ok (.int .i64 ((min n m : Nat) : Int)) w := by
  rcases Nat.lt_or_ge n m with h | h
  · rw [show min n m = n by omega]
    simp [Builtin.min_, Builtin.min2]
    omega
  · rw [show min n m = m by omega]
    simp [Builtin.min_, Builtin.min2]
    omega
end Go.Proofs.YtjhkodmaalefiaaDoor
namespace Go.Gar
open Go.RowKit
theorem grown_row {W : World} {g : Nat} {cs : Array Value} : W.grownBy (W.setRow g cs) (some g) :=
  ⟨rfl, rfl, rfl, by simp, fun k _ hr => setRow_other W g k cs (fun e => hr (by rw [e]))⟩
/-- A cut of a slice, its run known. -/
theorem wpQuiet_slice_run {P : Program} {C : World → Prop} {ops : Array Oper} {Q : Act → Prop} {rest : List Oper} {o : Oper} {a : Act} (t : TypeId) (p : Operand) (lo hi : Option Operand) (ho : o.op = .slice t p lo hi none) {x v : Value} {vl vh : Option Value} (hp : a.eval p = x) (hl : lo.map a.eval = vl) (hh : hi.map a.eval = vh)
    (hrun : ∀ W, (Instr.sliceAt t x vl vh none).run P W = .ok v W) (hw : Region.wanted o (yielded ops a.tmps) = true)
    (h : wpQuiet P ops C Q rest (a.put o.dst v)) : wpQuiet P ops C Q (o :: rest) a := by
  refine wpQuiet_val hw (fun W _ => ?_) h
  unfold execOp
  simp only [ho, hp, hl, hh, Option.map_none, Sem.run_bind, hrun W, Result.andThen_ok, Sem.run_pure]
/-- min, its run known. -/
theorem wpList_min_run {P : Program} {w : World} {ops : Array Oper} {rest : List Oper} {o : Oper} {a : Act} {Q : Exit → Act → World → Prop} (hgd : o.guard = none) (s x : Operand) (ts : Array TypeId)
    (ho : o.op = .call { callee := .builtin .min, args := #[s, x], argTypes := ts }) {vs vx v : Value} {w' : World} (hs : a.eval s = vs) (hx : a.eval x = vx)
    (hrun : (Builtin.min_ ts o.type #[vs, vx]).run P w = .ok v w') (h : wpList P ops Q rest (a.put o.dst v) w') : wpList P ops Q (o :: rest) a w := by
  refine wpList_run hgd (v := v) (w' := w') ?_ h
  unfold execOp
  simp only [ho, resolve, invoke, builtin, Sem.run_bind, Sem.run_pure, Result.andThen_ok, List.map_toArray, List.map_cons, List.map_nil, hs, hx, hrun]
theorem rep_row (k q : Nat) (c : UInt8) (junk : List Value) (hq : q ≤ k) : (u8s (List.replicate k c) ++ junk).take k ++ u8s ((List.replicate k c).take q) ++ (u8s (List.replicate k c) ++ junk).drop (k + q) = u8s (List.replicate (k + q) c) ++ junk.drop q := by
  have hl : (u8s (List.replicate k c)).length = k := by rw [u8s_len, List.length_replicate]
  rw [List.take_left' hl, List.drop_append, hl, List.drop_eq_nil_of_le (by omega), List.nil_append, Nat.add_sub_cancel_left, List.take_replicate, Nat.min_eq_left hq, ← u8s_app, List.replicate_append_replicate]
end Go.Gar
namespace Go.Proofs.YtjhkodmaalefiaaDoor
open Go.RowKit Go.Gar

set_option maxHeartbeats 2000000 in
set_option maxRecDepth 100000 in
theorem repeat_any (w : World) (g : Nat) (c : UInt8) (n : Nat) (h1 : 1 ≤ n) (h16 : n ≤ 16) (hB : Blk w g 5 (u8s [c])) :
    Calls Tryd.prog 87 #[.slice (some ⟨g, 0, none⟩) 1 1, .int .i64 (n : Int)] w fun e w' => ∃ gN rest, e = .returned (.slice (some ⟨gN, 0, none⟩) n n) ∧ w.heap.size ≤ gN ∧ Blk w' gN 5 (u8s (List.replicate n c) ++ rest) ∧ Below w.heap.size w w' := by
  obtain ⟨cs, hrunM, hle, hmax⟩ := Lib.run_makeNoZero (P := Tryd.prog) w #[3] 26 5 Tryd.und22 n (by omega)
  have hcall : (callFunc 97 #[.int .i64 (n : Int)]).run Tryd.prog w = .ok (.value (.slice (some ⟨w.heap.size, 0, none⟩) n cs.size)) ((w.alloc (.cells cs 5)).drewN 2) := by
    rw [run_callFunc_extern Tryd.func97 (by kernel_rfl) (by kernel_rfl) (by kernel_rfl) (e := Extern.BytealgMakeNoZero.makeNoZero #[3] #[26]) (by kernel_rfl), hrunM]
    rfl
  have hBN : Blk ((w.alloc (.cells cs 5)).drewN 2) w.heap.size 5 cs.toList := by
    have := Blk.new w 5 cs.toList
    rw [Array.toArray_toList] at this
    exact this
  have hb0 : Below w.heap.size w ((w.alloc (.cells cs 5)).drewN 2) := by
    have h := below_alloc w (.cells cs 5)
    exact ⟨h.os, h.tape, h.output, h.size, h.block⟩
  have hB0 : Blk ((w.alloc (.cells cs 5)).drewN 2) g 5 (u8s [c]) := hB.below hb0 hB.lt
  obtain ⟨gN, hgN⟩ : ∃ gN, w.heap.size = gN := ⟨_, rfl⟩
  obtain ⟨w1, hw1⟩ : ∃ w1, (w.alloc (.cells cs 5)).drewN 2 = w1 := ⟨_, rfl⟩
  rw [hw1] at hcall hBN hb0 hB0
  rw [hgN] at hcall hBN hb0 ⊢
  have hcp := run_copy_seg (P := Tryd.prog) (w := w1) 26 26 3 5 Tryd.und22 Tryd.size5 gN 0 n n 1 1 g 0 [c] 1 (fun i x hi => by rw [Nat.zero_add, hB0.cell, u8s_get, hi]; rfl) rfl (by simp; omega) _ _ hBN (by simp; omega)
  have hE : cs.toList.take 0 ++ u8s ([c].take 1) ++ cs.toList.drop (0 + 1) = u8s (List.replicate 1 c) ++ cs.toList.drop 1 := by simp
  rw [hE] at hcp
  have hB1 := hBN.row (u8s (List.replicate 1 c) ++ cs.toList.drop 1)
  have hb1 := below_setRow hb0 (Nat.le_refl _) (u8s (List.replicate 1 c) ++ cs.toList.drop 1).toArray
  obtain ⟨w2, hw2⟩ : ∃ w2, w1.setRow gN (u8s (List.replicate 1 c) ++ cs.toList.drop 1).toArray = w2 := ⟨_, rfl⟩
  rw [hw2] at hcp hB1 hb1
  have hj1 : (cs.toList.drop 1).length = cs.size - 1 := by simp
  generalize cs.toList.drop 1 = junk1 at *
  have HB1 := Lib.hid hB1
  have Hb1 := Lib.hid hb1
  have HJ1 := Lib.hid hj1
  have hcl : (n : Int) ≤ (cs.size : Int) := by omega
  generalize cs.size = cz at *
  clear hrunM hmax hBN hb0 hB0 hE hB1 hb1 hj1 hB hgN hw1 hw2
  go_enter Tryd.func87, Tryd.ntmps87
  go_wp2_with fail
  refine (bitsMul_one n (by omega) w).mono ?_
  rintro e wq ⟨rfl, rfl⟩
  go_wp2_with (refine wpList_copy_run rfl (.tmp 58) (.tmp 59) _ rfl rfl rfl hcp ?_)
  clear hcp hcall
  go_loopw [10] (fun i w' => ∃ (k : Nat) (junk : List Value), 1 ≤ k ∧ k ≤ n ∧ i = .int .i64 (k : Int) ∧ Blk w' gN 5 (u8s (List.replicate k c) ++ junk) ∧ junk.length = cz - k ∧ Below gN wq w') (fun i _ => n - (intOf i).toNat)
  case atStart => exact ⟨1, junk1, by omega, h1, rfl, HB1.out, HJ1.out, Hb1.out⟩
  case round =>
    obtain ⟨k, junk, hk1, hk, rfl, hB, hj, hb⟩ := hrel
    clear HB1 Hb1 HJ1
    by_cases hlt : k < n
    · obtain ⟨q, hq⟩ : ∃ q, q = min k (n - k) := ⟨_, rfl⟩
      have hmin : (Builtin.min_ #[3, 3] 3 #[.int .i64 (k : Int), .int .i64 (n : Int)]).run Tryd.prog wr = .ok (.int .i64 (k : Int)) wr := by
        have := min_at k n wr
        rw [Nat.min_eq_left hk] at this
        exact this
      have hcp := run_copy_seg (P := Tryd.prog) (w := wr.drew) 26 26 3 5 Tryd.und22 Tryd.size5 gN k (n - k) (n - k) k n gN 0 (List.replicate k c) q (fun i x hi => by
        rw [Nat.zero_add]
        exact row_get hB hi) (by simp) (by rw [List.length_replicate]; exact hq) _ _ hB.drew (by rw [List.length_append, u8s_len, List.length_replicate, hj]; omega)
      rw [rep_row k q c junk (by omega), show goInt (q : Int) = Value.int .i64 (q : Int) from rfl] at hcp
      have hB2 := hB.drew.row (u8s (List.replicate (k + q) c) ++ junk.drop q)
      have hb2 := below_setRow hb.drew (Nat.le_refl gN) (u8s (List.replicate (k + q) c) ++ junk.drop q).toArray
      have hg2 : (turns gN).rel wr.drew (wr.drew.setRow gN (u8s (List.replicate (k + q) c) ++ junk.drop q).toArray) := grown_row
      have hj2 : (junk.drop q).length = cz - (k + q) := by rw [List.length_drop, hj]; omega
      generalize wr.drew.setRow gN (u8s (List.replicate (k + q) c) ++ junk.drop q).toArray = w3 at hcp hB2 hb2 hg2
      have HB2 := Lib.hid hB2
      have Hb2 := Lib.hid hb2
      have HJ2 := Lib.hid hj2
      have Hg2 := Lib.hid hg2
      have Hq := Lib.hid hq
      have hq1 : 1 ≤ q := by omega
      have hq2 : k + q ≤ n := by omega
      have hd1 : (k : Int) < (n : Int) := by omega
      clear hB2 hb2 hg2 hj2 hB hj hb hq
      go_wp2_with (refine wpList_min_run rfl (.tmp 64) (.tmp 65) _ rfl rfl rfl hmin ?_)
      refine wp_region_G (turns gN) (by kernel_rfl) ?_
      generalize wr.drew = w4 at *
      refine segG (by kernel_rfl) (fun _ _ _ _ _ h => h) [0, 1, 2, 3, 4, 5, 6] [_, _, _, _, _, _, _] 3 rfl rfl (by kernel_rfl) ?_
      repeat (go_big_quiet_step (fail))
      refine wpQuiet_nil ?_
      refine oneG 7 2 rfl (by kernel_rfl) rfl ?_
      go_wp2_with (refine wpList_copy_run rfl (.tmp 70) (.tmp 73) _ rfl rfl rfl hcp ?_)
      refine ⟨Hg2.out, ?_⟩
      simp only [Act.put, List.setIfInBounds_toArray, List.set]
      refine segG (by kernel_rfl) (fun _ _ _ _ _ h => h) [8, 9] [_, _] 0 rfl rfl (by kernel_rfl) ?_
      repeat (go_big_quiet_step (fail))
      refine wpQuiet_nil ?_
      refine wpAnyG_done (by kernel_rfl) ?_
      go_wp2
      exact ⟨⟨k + q, junk.drop q, by omega, hq2, by go_num, HB2.out, HJ2.out, Hb2.out⟩, by simp [intOf]; omega⟩
    · obtain rfl : k = n := by omega
      have HB := Lib.hid hB
      have Hb := Lib.hid hb
      clear hB hb
      go_wp2
      go_ret
      exact ⟨gN, junk, rfl, by omega, HB.out, Hb.out⟩

theorem byte_small (n : Nat) (h : n ≤ 16) : (((UInt8.ofNat n).toNat : Nat) : Int) = (n : Int) := by
  rw [UInt8.toNat_ofNat']; omega
set_option maxHeartbeats 2000000 in
set_option maxRecDepth 100000 in
theorem padding_any (w : World) (n : Nat) (h1 : 1 ≤ n) (h16 : n ≤ 16) :
    Calls Tryd.prog 63 #[.int .i64 (n : Int)] w fun e w' => ∃ g, e = .returned (.slice (some ⟨g, 0, none⟩) n n) ∧ Rd w' w'.heap.size (some ⟨g, 0, none⟩) (List.replicate n (UInt8.ofNat n)) ∧ Below w.heap.size w w' := by
  have hB0 := Blk.new w 5 (u8s [UInt8.ofNat n])
  have hu : u8s [UInt8.ofNat n] = [.int .u8 (n : Int)] := by
    show [Value.int .u8 (((UInt8.ofNat n).toNat : Nat) : Int)] = _
    rw [byte_small n h16]
  have hb0 := below_alloc w (.cells (u8s [UInt8.ofNat n]).toArray 5)
  have hrep := fun g hB => repeat_any (w.alloc (.cells (u8s [UInt8.ofNat n]).toArray 5)) g (UInt8.ofNat n) n h1 h16 hB
  have HR := Lib.hid (hrep _ hB0)
  have Hb0 := Lib.hid hb0
  rw [hu] at HR Hb0
  clear hrep hB0 hu hb0
  go_enter Tryd.func63, Tryd.ntmps63
  go_wp2_with fail
  refine HR.out.mono ?_
  rintro e w2 ⟨gN, rest, rfl, hg, hB, hb⟩
  have HB := Lib.hid (Rd.of_row hB)
  have Hb := bb Hb0 hb
  clear hg hB hb HR Hb0
  go_wp2
  go_ret
  exact ⟨gN, rfl, HB.out, Hb.out⟩

theorem own_room (w : World) (base cap : Nat) (hb : base ≤ w.heap.size) (hc : cap ≤ 1099511627776) : OwnB (w.alloc (.cells (u8s (List.replicate cap 0)).toArray 5)) base 5 (.slice (some ⟨w.heap.size, 0, none⟩) 0 cap) [] :=
  World.ownsRow_made w (u8s (List.replicate cap 0)).toArray cap hb (by simp only [maxLen]; omega) (by simp [u8s_len])

set_option maxHeartbeats 2000000 in
set_option maxRecDepth 100000 in
theorem padded_any (w : World) (A : Option Addr) (b : List UInt8) (n bc : Nat) (hn : n = b.length) (hl : n ≤ 1048576) (hr : Rd w w.heap.size A b) :
    Calls Tryd.prog 35 #[.slice A n bc] w fun e w' => ∃ g cp rest N, e = .returned (.slice (some ⟨g, 0, none⟩) N cp) ∧ N = (Cbc.pad b).length ∧ N ≤ cp ∧ w.heap.size ≤ g ∧ Blk w' g 5 (u8s (Cbc.pad b) ++ rest) ∧ Below w.heap.size w w' := by
  have hmk : (Instr.makeSlice 26 (.int .i64 0) (.int .i64 ((n + 16 : Nat) : Int))).run Tryd.prog w = .ok (.slice (some ⟨w.heap.size, 0, none⟩) 0 (n + 16)) (w.alloc (.cells (u8s (List.replicate (n + 16) 0)).toArray 5)) := run_make_bytes 0 (n + 16) (by omega) (by omega) w
  have hO := own_room w w.heap.size (n + 16) (Nat.le_refl _) (by omega)
  have hb0 := below_alloc w (.cells (u8s (List.replicate (n + 16) 0)).toArray 5)
  obtain ⟨v1, w1, e1, ho1, hb1, _⟩ := app_rd (P := Tryd.prog) 26 26 Tryd.und22 Tryd.info5 hO (by rw [World.size_alloc]; omega) bc (hr.below hb0) (by simp; omega)
  rw [List.nil_append] at ho1
  rw [← hn] at e1
  have Hb1 := Lib.hid (hb0.trans hb1)
  have HO1 := Lib.hid ho1
  generalize w.alloc (.cells (u8s (List.replicate (n + 16) 0)).toArray 5) = w0 at hmk e1
  have hnn : ((n + 16 : Nat) : Int) = (n : Int) + 16 := by omega
  rw [hnn] at hmk
  obtain ⟨f, hf⟩ : ∃ f, f = Cbc.fillN b := ⟨_, rfl⟩
  have hf1 : 1 ≤ f ∧ f ≤ 16 := by rw [hf]; exact Cbc.fillN_lt b
  have hfi : 16 - (n : Int) % 16 = (f : Int) := by
    rw [hf, Cbc.fillN, ← hn]; omega
  have Hf := Lib.hid hf
  have HN := Lib.hid hn
  clear hO hb0 hb1 ho1 hr hnn hf hn
  go_enter Tryd.func35, Tryd.ntmps35
  go_wp2_with (at_builtin; refine wpList_append_run rfl (.tmp 8) (.tmp 9) _ rfl rfl rfl e1 ?_)
  refine (padding_any w1 f hf1.1 hf1.2).mono ?_
  rintro e w2 ⟨gp, rfl, hrp, hb2⟩
  have ho2 : OwnB w2 w.heap.size 5 v1 b := HO1.out.keep fun g hv => hb2.block g (HO1.out.block_lt hv).2
  have hbw : Below w.heap.size w w2 := Hb1.out.trans (hb2.mono Hb1.out.size)
  obtain ⟨v3, w3, e3, ho3, hb3, _⟩ := app_rd (P := Tryd.prog) 26 26 Tryd.und22 Tryd.info5 ho2 hbw.size f hrp (by rw [List.length_replicate, ← HN.out]; omega)
  rw [List.length_replicate] at e3
  have hpad : b ++ List.replicate f (UInt8.ofNat f) = Cbc.pad b := by rw [Hf.out]; rfl
  rw [hpad] at ho3
  obtain ⟨g, cp, rest, rfl, hg, hcp, hB⟩ := ho3.blk (by rw [Cbc.pad_len]; omega)
  have HB := Lib.hid hB
  have Hb := Lib.hid (hbw.trans hb3)
  have Hg := Lib.hid hg
  have Hcp := Lib.hid hcp
  clear ho2 hbw ho3 hb3 hpad hB hg hcp HO1 Hb1 hb2 hrp e1 hmk
  go_wp2_with (at_builtin; refine wpList_append_run rfl (.tmp 11) (.tmp 16) _ rfl rfl rfl e3 ?_)
  go_ret
  exact ⟨g, cp, rest, _, rfl, rfl, Hcp.out, Hg.out, HB.out, Hb.out⟩
end Go.Proofs.YtjhkodmaalefiaaDoor
namespace Go.Proofs.YtjhkodmaalefiaaDoor
open Go.RowKit Go.Gar

theorem Tryd.undArr : Tryd.prog.underlying 99 = some (.array 256 5) := by kernel_rfl
theorem Tryd.infoArr : (Tryd.prog.info? 99).map (fun i => (i.zero, i.size)) = some (some (.agg (Array.replicate 256 (.int .u8 0))), 256) := by kernel_rfl
def zs : List Value := List.replicate 256 (.int .u8 0)
theorem zero_arr (w : World) : (zeroValue 99).run Tryd.prog w = .ok (.agg zs.toArray) w := by
  have := (zero_of_info Tryd.infoArr).1 w
  rw [this]
  rfl
theorem size_arr (l : List UInt8) (h : l.length = 256) : (Tryd.prog.info? 99).map (·.size) = some (u8s l).length := by
  rw [u8s_len, h]; exact (zero_of_info Tryd.infoArr).2
theorem zs_len : zs.length = 256 := List.length_replicate

def MulC : Prop := ∀ (a b : Nat) (w : World), a < 256 → b < 256 → Calls Tryd.prog 85 #[.int .u8 (a : Int), .int .u8 (b : Int)] w fun e w' => e = .returned (.int .u8 ((Box.mul a b : Nat) : Int)) ∧ w' = w
def InvC : Prop := ∀ (a : Nat) (w : World), a < 256 → Calls Tryd.prog 84 #[.int .u8 (a : Int)] w fun e w' => e = .returned (.int .u8 ((Box.inv a : Nat) : Int)) ∧ w' = w
def TabC : Prop := ∀ (w : World), Calls Tryd.prog 59 #[] w fun e w' => e = .returned (.tuple #[.agg (u8s Box.sboxB).toArray, .agg (u8s Box.backB).toArray]) ∧ Below w.heap.size w w'

/-- The world behind 't, b := box.Tables()'. -/
def laidT (w : World) (x y : List Value) : World := (((w.alloc (.cells zs.toArray 99)).alloc (.cells zs.toArray 99)).setRow w.heap.size x.toArray).setRow (w.heap.size + 1) y.toArray
theorem laid_0 (w : World) : Blk ((w.alloc (.cells zs.toArray 99)).alloc (.cells zs.toArray 99)) w.heap.size 99 zs := (Blk.new w _ zs).alloc _
theorem laid_1 (w : World) : Blk ((w.alloc (.cells zs.toArray 99)).alloc (.cells zs.toArray 99)) (w.heap.size + 1) 99 zs := by
  have h2 := Blk.new (w.alloc (.cells zs.toArray 99)) 99 zs
  rw [World.size_alloc] at h2
  exact h2
theorem laid_2 (w : World) (x : List Value) : Blk (((w.alloc (.cells zs.toArray 99)).alloc (.cells zs.toArray 99)).setRow w.heap.size x.toArray) (w.heap.size + 1) 99 zs :=
  (laid_1 w).rowFar (by omega) _
theorem laid_t (w : World) (x y : List Value) : Blk (laidT w x y) w.heap.size 99 x := ((laid_0 w).row x).rowFar (by omega) _
theorem laid_b (w : World) (x y : List Value) : Blk (laidT w x y) (w.heap.size + 1) 99 y := (laid_2 w x).row y
theorem laid_below (w : World) (x y : List Value) : Below w.heap.size w (laidT w x y) :=
  below_setRow (below_setRow (((below_alloc w _).alloc (by rw [World.size_alloc]; omega) _)) (Nat.le_refl _) _) (by omega) _

/-- A table as a value: 256 bytes. -/
def Tab (x : List Value) (l : List UInt8) : Prop := x = u8s l ∧ l.length = 256
theorem Tab.size {x : List Value} {l : List UInt8} (h : Tab x l) : (Tryd.prog.info? 99).map (·.size) = some x.length := by rw [h.1]; exact size_arr _ h.2
theorem Tab.len {x : List Value} {l : List UInt8} (h : Tab x l) : zs.length = x.length := by rw [h.1, u8s_len, h.2, zs_len]
theorem Tab.one {x : List Value} {l : List UInt8} (h : Tab x l) : ∀ u ∈ x, u.oneCell' = true := by rw [h.1]; exact u8s_one _
theorem Tab.get {w : World} {g : Nat} {t : TypeId} {x : List Value} {l : List UInt8} (h : Tab x l) (hb : Blk w g t x) {i c : Nat} (hc : l[i]? = some (UInt8.ofNat c)) (h8 : c < 256) : w.cell? ⟨g, i, none⟩ = some (.int .u8 (c : Int)) := by
  rw [hb.cell, h.1, u8s_get, hc, Option.map_some, Box.ofNat_toNat c h8]
theorem tab_s : Tab (u8s Box.sboxB) Box.sboxB := ⟨rfl, Box.sboxB_len⟩
theorem tab_b : Tab (u8s Box.backB) Box.backB := ⟨rfl, Box.backB_len⟩
end Go.Proofs.YtjhkodmaalefiaaDoor
namespace Go.Gar
open Go.RowKit
theorem cell_grown {w w' : World} {row : Option Nat} (h : w.grownBy w' row) {b o : Nat} (hp : some b ≠ row) {v : Value} (hc : w.cell? ⟨b, o, none⟩ = some v) : w'.cell? ⟨b, o, none⟩ = some v := by
  have hlt : b < w.heap.size := by
    unfold World.cell? at hc
    rcases Nat.lt_or_ge b w.heap.size with h' | h'
    · exact h'
    · simp [Array.getElem?_eq_none h'] at hc
  unfold World.cell? at hc ⊢
  rw [← hc]
  simp only [h.block b hlt hp]
/-- A table of bytes in memory. -/
def Tbl (w : World) (g o : Nat) (f : UInt8 → UInt8) : Prop := ∀ a : UInt8, w.cell? ⟨g, o + a.toNat, none⟩ = some (.int .u8 ((f a).toNat : Int))
theorem Tbl.grown {w w' : World} {row : Option Nat} {g o : Nat} {f : UInt8 → UInt8} (h : Tbl w g o f) (hg : w.grownBy w' row) (hp : some g ≠ row) : Tbl w' g o f := fun a => cell_grown hg hp (h a)
theorem Tbl.below {w w' : World} {B : Nat} {g o : Nat} {f : UInt8 → UInt8} (h : Tbl w g o f) (hb : Below B w w') (hp : g < B) : Tbl w' g o f := fun a => by
  have := h a
  unfold World.cell? at this ⊢
  rw [← this]
  simp only [hb.block g hp]
theorem grown_re {w w' w2 : World} {row : Option Nat} (h : w.grownBy w' row) (h1 : w2.os = w'.os) (h2 : w2.tape = w'.tape) (h3 : w2.output = w'.output) (h4 : w2.heap = w'.heap) : w.grownBy w2 row :=
  ⟨by rw [h1]; exact h.os, by rw [h2]; exact h.tape, by rw [h3]; exact h.output, by rw [h4]; exact h.size, by rw [h4]; exact h.block⟩
end Go.Gar
namespace Go.Proofs.YtjhkodmaalefiaaDoor
open Go.RowKit Go.Gar Go.Gar.Aes

set_option maxHeartbeats 2000000 in
set_option maxRecDepth 100000 in
theorem add_any (w : World) (gb gk o : Nat) (l k : List UInt8) (hl : l.length = 16) (hB : Blk w gb 25 (u8s l)) (hk : ∀ i, i < 16 → w.cell? ⟨gk, o + i, none⟩ = some (.int .u8 ((at_ k i).toNat : Int))) (hne : gk ≠ gb) :
    Calls Tryd.prog 66 #[.pointer (some ⟨gb, 0, none⟩), .pointer (some ⟨gk, o, none⟩)] w fun e w' => (∃ v, e = .returned v) ∧ Blk w' gb 25 (u8s (addK l k)) ∧ w.grownBy w' (some gb) := by
  have HL := Lib.hid hl
  have HK := Lib.hid hk
  have HN := Lib.hid hne
  have HB := Lib.hid hB
  clear hl hk hB hne
  go_enter Tryd.func66, Tryd.ntmps66
  go_wp2
  go_loopw [5] (fun i w' => ∃ j : Nat, j ≤ 16 ∧ i = .int .i64 (j : Int) ∧ Blk w' gb 25 (u8s (prog l (addK l k) j)) ∧ w.grownBy w' (some gb)) (fun i _ => 16 - (intOf i).toNat)
  case atStart => exact ⟨0, by omega, rfl, by rw [prog_0]; exact HB.out, World.grownBy.refl w _⟩
  case round =>
    obtain ⟨j, hj, rfl, hB, hg⟩ := hrel
    clear HB
    have hL2 : (addK l k).length = l.length := by rw [addK_len, HL.out]
    by_cases hlt : j < 16
    · have hc1 := blk_byte hB (i := j) (c := at_ l j) (by rw [prog_get _ _ _ hL2 (by rw [HL.out]; exact hlt), at_get (by rw [HL.out]; exact hlt)])
      have hc2 := cell_grown hg (fun h => HN.out (Option.some.inj h)) (HK.out j hlt)
      have hz : (addK l k)[j]? = some (at_ l j ^^^ at_ k j) := st_get _ _ hlt
      have hf := hB.frozen j
      have hS := hB.set_ j (.int .u8 ((at_ l j ^^^ at_ k j).toNat : Int))
      rw [u8s_set, prog_set _ _ _ _ hL2 hz, ← xor_byte] at hS
      have HS := Lib.hid hS
      have Hg := Lib.hid (grown_set (i := j) hg (.int .u8 (bits .xor .u8 ((at_ l j).toNat : Int) ((at_ k j).toNat : Int))))
      have hx8 := (at_ l j).toNat_lt
      have hy8 := (at_ k j).toNat_lt
      clear hS hB hg hz hL2
      generalize (at_ l j).toNat = xn at *
      generalize (at_ k j).toNat = yn at *
      go_wp2
      go_region
      go_wp2
      exact ⟨⟨j + 1, by omega, by go_num, HS.out, grown_re Hg.out rfl rfl rfl rfl⟩, by simp [intOf]; omega⟩
    · obtain rfl : j = 16 := by omega
      rw [prog_end _ _ _ HL.out.symm (by rw [addK_len])] at hB
      go_wp2
      refine bodyPost_end (results_none rfl _ _ _) rfl ?_
      exact ⟨⟨_, rfl⟩, hB, hg⟩

theorem map_get (l : List UInt8) (f : UInt8 → UInt8) {j : Nat} (h : j < l.length) : (l.map f)[j]? = some (f (at_ l j)) := by
  rw [List.getElem?_map, at_get h]; rfl

set_option maxHeartbeats 2000000 in
set_option maxRecDepth 100000 in
theorem replace_any (w : World) (gb gt o : Nat) (l : List UInt8) (f : UInt8 → UInt8) (hl : l.length = 16) (hB : Blk w gb 25 (u8s l)) (hT : Tbl w gt o f) (hne : gt ≠ gb) :
    Calls Tryd.prog 67 #[.pointer (some ⟨gb, 0, none⟩), .pointer (some ⟨gt, o, none⟩)] w fun e w' => (∃ v, e = .returned v) ∧ Blk w' gb 25 (u8s (l.map f)) ∧ w.grownBy w' (some gb) := by
  have HL := Lib.hid hl
  have HT := Lib.hid hT
  have HN := Lib.hid hne
  have HB := Lib.hid hB
  clear hl hT hB hne
  go_enter Tryd.func67, Tryd.ntmps67
  go_wp2
  go_loopw [5] (fun i w' => ∃ j : Nat, j ≤ 16 ∧ i = .int .i64 (j : Int) ∧ Blk w' gb 25 (u8s (prog l (l.map f) j)) ∧ w.grownBy w' (some gb)) (fun i _ => 16 - (intOf i).toNat)
  case atStart => exact ⟨0, by omega, rfl, by rw [prog_0]; exact HB.out, World.grownBy.refl w _⟩
  case round =>
    obtain ⟨j, hj, rfl, hB, hg⟩ := hrel
    clear HB
    have hL2 : (l.map f).length = l.length := List.length_map _
    by_cases hlt : j < 16
    · have hc1 := blk_byte hB (i := j) (c := at_ l j) (by rw [prog_get _ _ _ hL2 (by rw [HL.out]; exact hlt), at_get (by rw [HL.out]; exact hlt)])
      have hc2 := HT.out.grown hg (fun h => HN.out (Option.some.inj h)) (at_ l j)
      have hz := map_get l f (j := j) (by rw [HL.out]; exact hlt)
      have hf := hB.frozen j
      have hS := hB.set_ j (.int .u8 ((f (at_ l j)).toNat : Int))
      rw [u8s_set, prog_set _ _ _ _ hL2 hz] at hS
      have HS := Lib.hid hS
      have Hg := Lib.hid (grown_set (i := j) hg (.int .u8 ((f (at_ l j)).toNat : Int)))
      have hx8 := (at_ l j).toNat_lt
      have hy8 := (f (at_ l j)).toNat_lt
      clear hS hB hg hz hL2
      generalize (f (at_ l j)).toNat = yn at *
      generalize (at_ l j).toNat = xn at *
      go_wp2
      go_region
      go_wp2
      exact ⟨⟨j + 1, by omega, by go_num, HS.out, grown_re Hg.out rfl rfl rfl rfl⟩, by simp [intOf]; omega⟩
    · obtain rfl : j = 16 := by omega
      rw [prog_end _ _ _ HL.out.symm (by rw [hL2, HL.out])] at hB
      go_wp2
      refine bodyPost_end (results_none rfl _ _ _) rfl ?_
      exact ⟨⟨_, rfl⟩, hB, hg⟩

set_option maxHeartbeats 2000000 in
set_option maxRecDepth 100000 in
theorem replaceWord_any (w : World) (gb gt o : Nat) (l : List UInt8) (f : UInt8 → UInt8) (hl : l.length = 4) (hB : Blk w gb 107 (u8s l)) (hT : Tbl w gt o f) (hne : gt ≠ gb) :
    Calls Tryd.prog 94 #[.pointer (some ⟨gb, 0, none⟩), .pointer (some ⟨gt, o, none⟩)] w fun e w' => (∃ v, e = .returned v) ∧ Blk w' gb 107 (u8s (l.map f)) ∧ w.grownBy w' (some gb) := by
  have HL := Lib.hid hl
  have HT := Lib.hid hT
  have HN := Lib.hid hne
  have HB := Lib.hid hB
  clear hl hT hB hne
  go_enter Tryd.func94, Tryd.ntmps94
  go_wp2
  go_loopw [5] (fun i w' => ∃ j : Nat, j ≤ 4 ∧ i = .int .i64 (j : Int) ∧ Blk w' gb 107 (u8s (prog l (l.map f) j)) ∧ w.grownBy w' (some gb)) (fun i _ => 4 - (intOf i).toNat)
  case atStart => exact ⟨0, by omega, rfl, by rw [prog_0]; exact HB.out, World.grownBy.refl w _⟩
  case round =>
    obtain ⟨j, hj, rfl, hB, hg⟩ := hrel
    clear HB
    have hL2 : (l.map f).length = l.length := List.length_map _
    by_cases hlt : j < 4
    · have hc1 := blk_byte hB (i := j) (c := at_ l j) (by rw [prog_get _ _ _ hL2 (by rw [HL.out]; exact hlt), at_get (by rw [HL.out]; exact hlt)])
      have hc2 := HT.out.grown hg (fun h => HN.out (Option.some.inj h)) (at_ l j)
      have hz := map_get l f (j := j) (by rw [HL.out]; exact hlt)
      have hf := hB.frozen j
      have hS := hB.set_ j (.int .u8 ((f (at_ l j)).toNat : Int))
      rw [u8s_set, prog_set _ _ _ _ hL2 hz] at hS
      have HS := Lib.hid hS
      have Hg := Lib.hid (grown_set (i := j) hg (.int .u8 ((f (at_ l j)).toNat : Int)))
      have hx8 := (at_ l j).toNat_lt
      have hy8 := (f (at_ l j)).toNat_lt
      clear hS hB hg hz hL2
      generalize (f (at_ l j)).toNat = yn at *
      generalize (at_ l j).toNat = xn at *
      go_wp2
      go_region
      go_wp2
      exact ⟨⟨j + 1, by omega, by go_num, HS.out, grown_re Hg.out rfl rfl rfl rfl⟩, by simp [intOf]; omega⟩
    · obtain rfl : j = 4 := by omega
      rw [prog_end _ _ _ HL.out.symm (by rw [hL2, HL.out])] at hB
      go_wp2
      refine bodyPost_end (results_none rfl _ _ _) rfl ?_
      exact ⟨⟨_, rfl⟩, hB, hg⟩

theorem mul2 (hM : MulC) (a : UInt8) (w : World) : Calls Tryd.prog 85 #[.int .u8 (a.toNat : Int), .int .u8 2] w fun e w' => e = .returned (.int .u8 ((gm a 2).toNat : Int)) ∧ w' = w :=
  (hM a.toNat 2 w a.toNat_lt (by omega)).mono fun e w' h => ⟨by rw [h.1, gm_toNat]; rfl, h.2⟩
set_option maxHeartbeats 1000000 in
set_option maxRecDepth 100000 in
theorem power_any (hM : MulC) (k : Nat) (hk : k < 1000) (w : World) : Calls Tryd.prog 95 #[.int .i64 (k : Int)] w fun e w' => e = .returned (.int .u8 ((xp k).toNat : Int)) ∧ w' = w := by
  have HM := Lib.hid hM
  clear hM
  go_enter Tryd.func95, Tryd.ntmps95
  go_wp2
  go_loop [3, 5] (fun p i => ∃ (j : Nat) (x : UInt8), j ≤ k ∧ i = .int .i64 (j : Int) ∧ p = .int .u8 (x.toNat : Int) ∧ x = xp j) (fun _ i => k - (intOf i).toNat)
  case atStart => exact ⟨0, 1, by omega, rfl, rfl, rfl⟩
  case round =>
    obtain ⟨j, x, hj, rfl, rfl, hx⟩ := hrel
    have HX := Lib.hid hx
    clear hx
    by_cases hlt : j < k
    · go_wp2_with fail
      refine (mul2 HM.out x w).mono ?_
      rintro e w' ⟨rfl, rfl⟩
      have HY : Hid (gm x 2 = xp (j + 1)) := Lib.hid (by rw [HX.out]; rfl)
      generalize gm x 2 = y at HY ⊢
      go_wp2
      exact ⟨⟨j + 1, y, by omega, by go_num, rfl, HY.out⟩, by simp [intOf]; omega⟩
    · have HJ : Hid (j = k) := Lib.hid (by omega)
      go_wp2
      go_ret
      exact ⟨by rw [HX.out, HJ.out]; rfl, rfl⟩

theorem ready_nil (w : World) : Calls Tryd.prog 65 #[.pointer none] w fun e w' => e = .returned (.bool false) ∧ w' = w := by
  go_enter Tryd.func65, Tryd.ntmps65
  go_wp2
  go_ret
  exact ⟨rfl, rfl⟩
theorem ready_yes (w : World) (gc n c : Nat) (A : Option Addr) (h0 : 0 < n) (hc : w.cell? ⟨gc, 2560, none⟩ = some (.slice A n c)) : Calls Tryd.prog 65 #[.pointer (some ⟨gc, 0, none⟩)] w fun e w' => e = .returned (.bool true) ∧ w' = w := by
  go_enter Tryd.func65, Tryd.ntmps65
  go_wp2
  go_ret
  exact ⟨rfl, rfl⟩
end Go.Proofs.YtjhkodmaalefiaaDoor
namespace Go.Gar.Aes
open Go.RowKit Go.Gar

def mixA (T : Nat → UInt8 → UInt8) (l : List UInt8) (i : Nat) : Nat → UInt8
  | 0 => 0
  | j + 1 => mixA T l i j ^^^ T j (at_ l (i - i % 4 + (i % 4 + j) % 4))
def mixT (T : Nat → UInt8 → UInt8) (l : List UInt8) : List UInt8 := st fun i => mixA T l i 4
theorem mixT_len (T : Nat → UInt8 → UInt8) (l : List UInt8) : (mixT T l).length = 16 := st_len _
def facs (F : List UInt8) (j : Nat) (a : UInt8) : UInt8 := gm a (at_ F j)
theorem mixT_there (l : List UInt8) : mixT (facs [2, 3, 1, 1]) l = mix l := by
  apply st_congr
  intro i hi
  show 0 ^^^ gm _ 2 ^^^ gm _ 3 ^^^ gm _ 1 ^^^ gm _ 1 = m _ _ _ _
  rw [show i - i % 4 = i / 4 * 4 from by omega, show i / 4 * 4 + (i % 4 + 0) % 4 = i from by omega]
  unfold m
  rw [UInt8.zero_xor, gm_one, gm_one, gm_comm _ 2, gm_comm _ 3]
theorem all256 (p : UInt8 → Bool) (h : Box.all 256 (fun n => p (UInt8.ofNat n)) = true) (a : UInt8) : p a = true := by
  have := Box.all_spec h a.toNat a.toNat_lt
  rwa [UInt8.ofNat_toNat] at this
theorem gm14 (a : UInt8) : gm a 14 = gm 2 (gm 2 (gm 2 a)) ^^^ gm 2 (gm 2 a) ^^^ gm 2 a := by
  have := all256 (fun a => gm a 14 == gm 2 (gm 2 (gm 2 a)) ^^^ gm 2 (gm 2 a) ^^^ gm 2 a) (by decide +kernel) a
  exact eq_of_beq this
theorem gm11 (a : UInt8) : gm a 11 = gm 2 (gm 2 (gm 2 a)) ^^^ gm 2 a ^^^ a := by
  have := all256 (fun a => gm a 11 == gm 2 (gm 2 (gm 2 a)) ^^^ gm 2 a ^^^ a) (by decide +kernel) a
  exact eq_of_beq this
theorem gm13 (a : UInt8) : gm a 13 = gm 2 (gm 2 (gm 2 a)) ^^^ gm 2 (gm 2 a) ^^^ a := by
  have := all256 (fun a => gm a 13 == gm 2 (gm 2 (gm 2 a)) ^^^ gm 2 (gm 2 a) ^^^ a) (by decide +kernel) a
  exact eq_of_beq this
theorem gm9 (a : UInt8) : gm a 9 = gm 2 (gm 2 (gm 2 a)) ^^^ a := by
  have := all256 (fun a => gm a 9 == gm 2 (gm 2 (gm 2 a)) ^^^ a) (by decide +kernel) a
  exact eq_of_beq this
/-- A column mixed three times. -/
theorem m_thrice (a b c d : UInt8) : m (gm 2 (gm 2 a) ^^^ a ^^^ gm 2 (gm 2 c)) (gm 2 (gm 2 b) ^^^ b ^^^ gm 2 (gm 2 d)) (gm 2 (gm 2 c) ^^^ c ^^^ gm 2 (gm 2 a)) (gm 2 (gm 2 d) ^^^ d ^^^ gm 2 (gm 2 b)) = 0 ^^^ gm a 14 ^^^ gm b 11 ^^^ gm c 13 ^^^ gm d 9 := by
  rw [gm14, gm11, gm13, gm9]
  simp only [m, gm_three, gm_right, UInt8.xor_assoc]
  simp only [UInt8.xor_assoc, UInt8.xor_comm, xlc, xc, UInt8.xor_self, UInt8.zero_xor]
theorem mixT_back (l : List UInt8) (h : l.length = 16) : mixT (facs [14, 11, 13, 9]) l = mix3 l := by
  obtain ⟨a0, a1, a2, a3, a4, a5, a6, a7, a8, a9, a10, a11, a12, a13, a14, a15, rfl⟩ := list16 l h
  have e : ∀ a0 a1 a2 a3 a4 a5 a6 a7 a8 a9 a10 a11 a12 a13 a14 a15 : UInt8, mix [a0, a1, a2, a3, a4, a5, a6, a7, a8, a9, a10, a11, a12, a13, a14, a15] =
    [m a0 a1 a2 a3, m a1 a2 a3 a0, m a2 a3 a0 a1, m a3 a0 a1 a2, m a4 a5 a6 a7, m a5 a6 a7 a4, m a6 a7 a4 a5, m a7 a4 a5 a6, m a8 a9 a10 a11, m a9 a10 a11 a8, m a10 a11 a8 a9, m a11 a8 a9 a10, m a12 a13 a14 a15, m a13 a14 a15 a12, m a14 a15 a12 a13, m a15 a12 a13 a14] := fun _ _ _ _ _ _ _ _ _ _ _ _ _ _ _ _ => rfl
  unfold mix3
  rw [e, e]
  simp only [m_twice]
  rw [e]
  simp only [m_thrice]
  rfl

/-- Rows rotated. -/
def rot (n : Nat) (l : List UInt8) : List UInt8 := st fun i => at_ l ((i + 4 * (i % 4) * n) % 16)
theorem rot_len (n : Nat) (l : List UInt8) : (rot n l).length = 16 := st_len _
theorem at_map (l : List UInt8) (f : UInt8 → UInt8) {j : Nat} (h : j < l.length) : at_ (l.map f) j = f (at_ l j) := by
  simp [at_, h]
theorem shift_rot (l : List UInt8) (h : l.length = 16) : rot 1 (l.map sb) = shift l := by
  apply st_congr
  intro i hi
  rw [at_map l sb (by omega), show (i + 4 * (i % 4) * 1) % 16 = (i + i % 4 * 4) % 16 from by omega]
theorem st_map (f : Nat → UInt8) (g : UInt8 → UInt8) : (st f).map g = st fun i => g (f i) := by
  unfold st; rw [List.map_map]; rfl
theorem unshift_rot (l : List UInt8) : (rot 3 l).map ib = unshift l := by
  unfold rot unshift
  rw [st_map]
  apply st_congr
  intro i hi
  rw [show (i + 4 * (i % 4) * 3) % 16 = (i + (4 - i % 4) * 4) % 16 from by omega]

/-- The products of every byte with each factor. -/
def prodT (F : List UInt8) : List UInt8 := (List.range 1024).map fun q => gm (UInt8.ofNat (q % 256)) (at_ F (q / 256))
theorem prodT_len (F : List UInt8) : (prodT F).length = 1024 := by simp [prodT]
theorem prodT_get (F : List UInt8) (i a : Nat) (hi : i < 4) (ha : a < 256) : (prodT F)[256 * i + a]? = some (gm (UInt8.ofNat a) (at_ F i)) := by
  unfold prodT
  rw [List.getElem?_map, List.getElem?_range (by omega), Option.map_some, show (256 * i + a) % 256 = a from by omega, show (256 * i + a) / 256 = i from by omega]
theorem prodT_facs (F : List UInt8) (i : Nat) (a : UInt8) (hi : i < 4) : (prodT F)[256 * i + a.toNat]? = some (facs F i a) := by
  rw [prodT_get F i _ hi a.toNat_lt, UInt8.ofNat_toNat]; rfl

/-- The expanded key, byte by byte. -/
def exK (key : List UInt8) : List UInt8 := (words key (key.length / 4) (4 * (key.length / 4) + 28)).flatten
theorem flat_len (ws : List (List UInt8)) (h : ∀ w ∈ ws, w.length = 4) : ws.flatten.length = 4 * ws.length := by
  induction ws with
  | nil => rfl
  | cons a ws ih => rw [List.flatten_cons, List.length_append, ih (fun w hw => h w (by simp [hw])), h a (by simp), List.length_cons]; omega
theorem flat_get (ws : List (List UInt8)) (h : ∀ w ∈ ws, w.length = 4) (i r : Nat) (hr : r < 4) : ws.flatten[4 * i + r]? = (ws[i]?).bind (·[r]?) := by
  induction ws generalizing i with
  | nil => simp
  | cons a ws ih =>
    have ha := h a (by simp)
    rw [List.flatten_cons]
    cases i with
    | zero => rw [List.getElem?_append_left (by omega)]; simp
    | succ i =>
      rw [List.getElem?_append_right (by omega), ha, show 4 * (i + 1) + r - 4 = 4 * i + r from by omega, ih (fun w hw => h w (by simp [hw]))]
      simp
theorem words_four (key : List UInt8) (n N : Nat) : ∀ w ∈ words key n N, w.length = 4 := by
  intro w hw
  obtain ⟨i, hi⟩ := List.getElem?_of_mem hw
  have hlt : i < N := by
    have := (List.getElem?_eq_some_iff.1 hi).1
    rwa [words_len] at this
  rw [words_get key n hlt] at hi
  injection hi with hi
  rw [← hi]
  exact nextW_len _ _ _ _
theorem exK_len (key : List UInt8) : (exK key).length = 4 * (4 * (key.length / 4) + 28) := by
  unfold exK
  rw [flat_len _ (words_four _ _ _), words_len]
theorem four_get (l : List UInt8) (h : l.length = 4) (r : Nat) (hr : r < 4) : l[r]? = some (at_ l r) := by rw [List.getElem?_eq_getElem (by omega)]; simp [at_, List.getD_eq_getElem?_getD, h, hr]
theorem exK_word (key : List UInt8) (i r : Nat) (hi : i < 4 * (key.length / 4) + 28) (hr : r < 4) : (exK key)[4 * i + r]? = some (at_ (wordAt (words key (key.length / 4) (4 * (key.length / 4) + 28)) i) r) := by
  unfold exK
  rw [flat_get _ (words_four _ _ _) i r hr]
  obtain ⟨x, hx⟩ : ∃ x, (words key (key.length / 4) (4 * (key.length / 4) + 28))[i]? = some x := ⟨_, List.getElem?_eq_getElem (by rw [words_len]; exact hi)⟩
  have h4 := words_four key _ _ x (List.mem_of_getElem? hx)
  rw [hx, Option.bind_some, four_get x h4 r hr, wordAt, List.getD_eq_getElem?_getD, hx]
  rfl
/-- A round's key lies in it. -/
theorem exK_key (key : List UInt8) (q i : Nat) (hq : q ≤ roundsOf key) (hi : i < 16) : (exK key)[16 * q + i]? = some (at_ (keysOf key q) i) := by
  unfold roundsOf at hq
  rw [show 16 * q + i = 4 * (4 * q + i / 4) + i % 4 from by omega, exK_word key _ _ (by omega) (by omega)]
  unfold keysOf rk
  rw [at_st _ _ hi]
/-- Word i of the expanded key. -/
def exW (key : List UInt8) (i : Nat) : List UInt8 := ((exK key).drop (4 * i)).take 4
theorem exW_eq (key : List UInt8) (i : Nat) (hi : i < 4 * (key.length / 4) + 28) : exW key i = nextW key (key.length / 4) (words key (key.length / 4) i) i := by
  have hl := exK_len key
  have hn := nextW_len key (key.length / 4) (words key (key.length / 4) i) i
  apply List.ext_getElem?
  intro r
  by_cases hr : r < 4
  · unfold exW
    rw [List.getElem?_take_of_lt hr, List.getElem?_drop]
    unfold exK
    rw [flat_get _ (words_four _ _ _) i r hr, words_get _ _ hi, Option.bind_some]
  · rw [List.getElem?_eq_none (by unfold exW; simp; omega), List.getElem?_eq_none (by omega)]
theorem exW_key (key : List UInt8) (i : Nat) (hi : i < key.length / 4) : exW key i = [at_ key (4 * i), at_ key (4 * i + 1), at_ key (4 * i + 2), at_ key (4 * i + 3)] := by
  rw [exW_eq key i (by omega), nextW, if_pos hi]
theorem wordAt_words (key : List UInt8) (n i j : Nat) (h : i < j) : wordAt (words key n j) i = nextW key n (words key n i) i := by
  rw [wordAt, List.getD_eq_getElem?_getD, words_get key n h]; rfl
theorem exW_next (key : List UInt8) (i : Nat) (h0 : 0 < key.length / 4) (hi : key.length / 4 ≤ i) (hN : i < 4 * (key.length / 4) + 28) : exW key i = xor4 (turnW (key.length / 4) i (exW key (i - 1))) (exW key (i - key.length / 4)) := by
  rw [exW_eq key i hN, nextW, if_neg (by omega), wordAt_words key _ _ _ (by omega), wordAt_words key _ _ _ (by omega), exW_eq key (i - 1) (by omega), exW_eq key (i - key.length / 4) (by omega)]
theorem exW_len (key : List UInt8) (i : Nat) (hi : i < 4 * (key.length / 4) + 28) : (exW key i).length = 4 := by
  rw [exW_eq key i hi]; exact nextW_len _ _ _ _
theorem exK_at (key : List UInt8) (i r : Nat) (hi : i < 4 * (key.length / 4) + 28) (hr : r < 4) : (exK key)[4 * i + r]? = some (at_ (exW key i) r) := by
  have h := four_get (exW key i) (exW_len key i hi) r hr
  rw [← h, exW, List.getElem?_take_of_lt hr, List.getElem?_drop]
end Go.Gar.Aes
