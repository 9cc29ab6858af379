/-
  The landed mac: at, Equal, masked: their contracts.
-/
import Derived.Test.YtlbmpjikaoenoaaDoorShGg
import Derived.Test.YtlbmpjikaoenoaaDoorMacC
import Derived.Test.YtlbmpjikaoenoaaDoorReg2
namespace Go.Gar
open Go.RowKit
theorem Rd.cell_at {w : World} {B : Nat} {A : Option Addr} {l : List UInt8} (h : Rd w B A l) {i : Nat} (hi : i < l.length) : ∃ b o, A = some ⟨b, o, none⟩ ∧ w.cell? ⟨b, o + i, none⟩ = some (.int .u8 ((l.getD i 0).toNat : Int)) := by
  rcases h with rfl | ⟨b, o, e, _, hc⟩
  · simp at hi
  · exact ⟨b, o, e, hc i _ (by rw [List.getD_eq_getElem?_getD, List.getElem?_eq_getElem hi]; rfl)⟩
/-- max, its run known. -/
theorem wpList_max_run {P : Program} {w : World} {ops : Array Oper} {rest : List Oper} {o : Oper} {a : Act} {Q : Exit → Act → World → Prop} (hgd : o.guard = none) (s x : Operand) (ts : Array TypeId)
    (ho : o.op = .call { callee := .builtin .max, args := #[s, x], argTypes := ts }) {vs vx v : Value} {w' : World} (hs : a.eval s = vs) (hx : a.eval x = vx)
    (hrun : (Builtin.max_ ts o.type #[vs, vx]).run P w = .ok v w') (h : wpList P ops Q rest (a.put o.dst v) w') : wpList P ops Q (o :: rest) a w := by
  refine wpList_run hgd (v := v) (w' := w') ?_ h
  unfold execOp
  simp only [ho, resolve, invoke, builtin, Sem.run_bind, Sem.run_pure, Result.andThen_ok, List.map_toArray, List.map_cons, List.map_nil, hs, hx, hrun]
/-- The differences up to k, or-ed. -/
def orX (a b : List UInt8) : Nat → UInt8
  | 0 => 0
  | k + 1 => orX a b k ||| (a.getD k 0 ^^^ b.getD k 0)
theorem or_zero8 (x y : UInt8) : x ||| y = 0 ↔ x = 0 ∧ y = 0 := by
  constructor
  · intro h
    have h2 := congrArg UInt8.toBitVec h
    simp only [UInt8.toBitVec_or] at h2
    have h3 := BitVec.or_eq_zero_iff.1 h2
    exact ⟨UInt8.toBitVec_inj.1 h3.1, UInt8.toBitVec_inj.1 h3.2⟩
  · rintro ⟨rfl, rfl⟩; rfl
theorem orX_zero (a b : List UInt8) : ∀ k, orX a b k = 0 ↔ ∀ j, j < k → a.getD j 0 = b.getD j 0
  | 0 => by simp [orX]
  | k + 1 => by
    rw [orX, or_zero8, orX_zero a b k, UInt8.xor_eq_zero_iff]
    constructor
    · rintro ⟨h, e⟩ j hj
      rcases Nat.lt_succ_iff_lt_or_eq.1 hj with h' | rfl
      · exact h j h'
      · exact e
    · intro h
      exact ⟨fun j hj => h j (by omega), h k (by omega)⟩
theorem orX_eq (a b : List UInt8) : (decide (orX a b (max a.length b.length) = 0) && decide (a.length = b.length)) = decide (a = b) := by
  rw [Bool.eq_iff_iff, Bool.and_eq_true, decide_eq_true_iff, decide_eq_true_iff, decide_eq_true_iff, orX_zero]
  constructor
  · rintro ⟨h, e⟩
    refine List.ext_getElem e fun i h1 h2 => ?_
    have := h i (by omega)
    simpa [List.getD_eq_getElem?_getD, List.getElem?_eq_getElem h1, List.getElem?_eq_getElem h2] using this
  · rintro rfl
    exact ⟨fun _ _ => rfl, rfl⟩
end Go.Gar
namespace Go.Proofs.YtlbmpjikaoenoaaDoor
open Go.RowKit Go.Gar

set_option maxHeartbeats 1000000 in
theorem at_any (w : World) (A : Option Addr) (a : List UInt8) (n ac i : Nat) (hn : n = a.length) (rA : Rd w w.heap.size A a) :
    Calls Tryd.prog 18 #[.slice A n ac, .int .i64 (i : Int)] w fun e w' => e = .returned (.int .u8 ((a.getD i 0).toNat : Int)) ∧ w' = w := by
  by_cases hlt : i < a.length
  · obtain ⟨b, o, rfl, hc⟩ := rA.cell_at hlt
    rw [← hn] at hlt
    clear hn rA
    have h8 := (a.getD i 0).toNat_lt
    generalize (a.getD i 0).toNat = x at *
    go_enter Tryd.func18, Tryd.ntmps18
    go_wp2
    go_ret
    exact ⟨rfl, rfl⟩
  · have e : a.getD i 0 = 0 := by rw [List.getD_eq_getElem?_getD, List.getElem?_eq_none (by omega)]; rfl
    rw [e]
    rw [← hn] at hlt
    clear hn rA e
    go_enter Tryd.func18, Tryd.ntmps18
    go_wp2
    go_ret
    exact ⟨rfl, rfl⟩

theorem max_at (n m : Nat) (w : World) : (Builtin.max_ #[3, 3] 3 #[.int .i64 (n : Int), .int .i64 (m : Int)]).run Tryd.prog w = .ok (.int .i64 ((max n m : Nat) : Int)) w := by
  rcases Nat.lt_or_ge n m with h | h
  · rw [show max n m = m by omega]
    simp [Builtin.max_, Builtin.max2]
    omega
  · rw [show max n m = n by omega]
    simp [Builtin.max_, Builtin.max2]
    omega
set_option maxHeartbeats 2000000 in
set_option maxRecDepth 100000 in
theorem equal_any (w : World) (A B : Option Addr) (a b : List UInt8) (n m ac bc : Nat) (hn : n = a.length) (hm : m = b.length) (rA : Rd w w.heap.size A a) (rB : Rd w w.heap.size B b) (hn' : n ≤ 9223372036854775807) (hm' : m ≤ 9223372036854775807) :
    Calls Tryd.prog 11 #[.slice A n ac, .slice B m bc] w fun e w' => e = .returned (.bool (decide (a = b))) ∧ w' = w := by
  have HN := Lib.hid hn
  have HM := Lib.hid hm
  have HA := Lib.hid rA
  have HB := Lib.hid rB
  clear hn hm rA rB
  obtain ⟨x, hx, hx1, hx2⟩ : ∃ x : Nat, x = max n m ∧ x ≤ 9223372036854775807 ∧ (Builtin.max_ #[3, 3] 3 #[.int .i64 (n : Int), .int .i64 (m : Int)]).run Tryd.prog w = .ok (.int .i64 (x : Int)) w := ⟨_, rfl, by omega, max_at n m w⟩
  have HX := Lib.hid hx
  have HX2 := Lib.hid hx2
  clear hx hx2
  go_enter Tryd.func11, Tryd.ntmps11
  go_wp2_with (refine wpList_max_run rfl (.tmp 8) (.tmp 10) _ rfl rfl rfl HX2.out ?_)
  go_loopw [5, 12] (fun d i w' => ∃ k : Nat, k ≤ x ∧ i = .int .i64 (k : Int) ∧ d = .int .u8 ((orX a b k).toNat : Int) ∧ w' = w) (fun _ i _ => x - (intOf i).toNat)
  case atStart => exact ⟨0, by omega, rfl, rfl, rfl⟩
  case round =>
    obtain ⟨k, hk, rfl, rfl, rfl⟩ := hrel
    by_cases hlt : k < x
    · go_wp2_with fail
      refine (at_any wr A a n ac k HN.out HA.out).mono ?_
      rintro e w1 ⟨rfl, h1⟩
      subst h1
      go_wp2_with fail
      refine (at_any w1 B b m bc k HM.out HB.out).mono ?_
      rintro e w2 ⟨rfl, h2⟩
      subst h2
      have hs : orX a b (k + 1) = orX a b k ||| (a.getD k 0 ^^^ b.getD k 0) := rfl
      have e1 := xor_u8 (a.getD k 0).toNat (b.getD k 0).toNat (a.getD k 0).toNat_lt (b.getD k 0).toNat_lt
      have e2 := or_u8 (orX a b k).toNat (a.getD k 0 ^^^ b.getD k 0).toNat (orX a b k).toNat_lt (a.getD k 0 ^^^ b.getD k 0).toNat_lt
      have e3 : bits .or .u8 ((orX a b k).toNat : Int) (bits .xor .u8 ((a.getD k 0).toNat : Int) ((b.getD k 0).toNat : Int)) = ((orX a b (k + 1)).toNat : Int) := by
        rw [e1, hs, UInt8.toNat_or, UInt8.toNat_xor]
        rw [UInt8.toNat_xor] at e2
        exact e2
      have E3 := Lib.hid e3
      clear e1 e2 e3 hs
      go_wp2
      exact ⟨⟨k + 1, by omega, by go_num, congrArg (Value.int .u8) E3.out, trivial⟩, by simp [intOf]; omega⟩
    · have hE := orX_eq a b
      rw [← HN.out, ← HM.out, ← HX.out, show x = k by omega] at hE
      have HE := Lib.hid hE
      clear hE
      have hz : (orX a b k).toNat = 0 ↔ orX a b k = 0 := ⟨fun h => UInt8.toNat_inj.1 h, fun h => by rw [h]; rfl⟩
      have HZ := Lib.hid hz
      clear hz
      go_wp2
      · rename_i h0
        go_ret
        refine ⟨?_, rfl⟩
        rw [← HE.out, decide_eq_true (HZ.out.1 h0), Bool.true_and, beq_cast]
        rfl
      · rename_i h0
        go_ret
        refine ⟨?_, rfl⟩
        rw [← HE.out, decide_eq_false (fun h => h0 (HZ.out.2 h)), Bool.false_and]
        rfl

theorem pg_get {α : Type} (z t : List α) (k : Nat) (h : t.length = z.length) (hk : k < z.length) : (pg z t k)[k]? = z[k]? := by
  have hl : (t.take k).length = k := by rw [List.length_take]; omega
  unfold pg
  rw [List.getElem?_append_right (by omega), hl, Nat.sub_self, List.getElem?_drop, Nat.add_zero]
set_option maxHeartbeats 2000000 in
set_option maxRecDepth 100000 in
theorem masked_any (w : World) (k : List UInt8) (c : UInt8) (m : Int) (hm : m = (c.toNat : Int)) (hk : k.length = 64) :
    Calls Tryd.prog 13 #[.agg (u8s k).toArray, .int .u8 m] w fun e w' => e = .returned (.slice (some ⟨w.heap.size, 0, none⟩) 64 64) ∧ Blk w' w.heap.size 37 (u8s (Mac.xs c k)) ∧ Below w.heap.size w w' := by
  subst hm
  have hB0 := Blk.new w 37 (u8s k)
  have hb0 := below_alloc w (.cells (u8s k).toArray 37)
  obtain ⟨w1, hw1⟩ : ∃ w1, w.alloc (.cells (u8s k).toArray 37) = w1 := ⟨_, rfl⟩
  rw [hw1] at hB0 hb0
  obtain ⟨g, hg⟩ : ∃ g, w.heap.size = g := ⟨_, rfl⟩
  rw [hg] at hB0 hb0 ⊢
  have HB0 := Lib.hid hB0
  have Hb0 := Lib.hid hb0
  have HW1 := Lib.hid hw1
  have HK := Lib.hid hk
  have HG := Lib.hid hg
  clear hB0 hb0 hw1 hk hg
  go_enter Tryd.func13, Tryd.ntmps13
  go_wp2_with (refine wpList_box_arr rfl 37 (.tmp 0) (u8s k).toArray rfl rfl ?_; rw [HW1.out, HG.out])
  have hc8 := c.toNat_lt
  go_loopw [6] (fun i w' => ∃ j : Nat, j ≤ 64 ∧ i = .int .i64 (j : Int) ∧ Blk w' g 37 (u8s (pg k (Mac.xs c k) j)) ∧ Below g w w') (fun i _ => 64 - (intOf i).toNat)
  case atStart => exact ⟨0, by omega, rfl, by rw [pg_0]; exact HB0.out, Hb0.out⟩
  case round =>
    obtain ⟨j, hj, rfl, hB, hb⟩ := hrel
    have hL2 : (Mac.xs c k).length = k.length := Mac.xs_len _ _
    by_cases hlt : j < 64
    · have hjk : j < k.length := by rw [HK.out]; exact hlt
      have hc1 : wr.cell? ⟨g, j, none⟩ = some (.int .u8 ((k[j]).toNat : Int)) := by
        rw [hB.cell, u8s_get, pg_get k (Mac.xs c k) j hL2 hjk, List.getElem?_eq_getElem hjk]; rfl
      have hz : (Mac.xs c k)[j]? = some (k[j] ^^^ c) := by rw [Mac.xs, List.getElem?_map, List.getElem?_eq_getElem hjk]; rfl
      have hf := hB.frozen j
      have hS := hB.set_ j (.int .u8 ((k[j] ^^^ c).toNat : Int))
      rw [u8s_set', pg_set _ _ _ _ hL2 hz] at hS
      have e1 := xor_u8 (k[j]).toNat c.toNat (k[j]).toNat_lt hc8
      rw [← UInt8.toNat_xor] at e1
      rw [← e1] at hS
      have HS := Lib.hid hS
      have Hb := Lib.hid (hb.setCell (p := ⟨g, j, none⟩) (Nat.le_refl _) (.int .u8 (bits .xor .u8 ((k[j]).toNat : Int) (c.toNat : Int))))
      have hx8 := (k[j]).toNat_lt
      clear hS hB hb hz hL2 e1 HB0 Hb0
      generalize (k[j]).toNat = xn at *
      generalize c.toNat = cn at *
      go_wp2
      exact ⟨⟨j + 1, by omega, by go_num, HS.out, Hb.out⟩, by simp [intOf]; omega⟩
    · have hE : pg k (Mac.xs c k) j = Mac.xs c k := pg_end _ _ _ (by rw [HK.out]; omega) (by rw [hL2, HK.out]; omega)
      rw [hE] at hB
      have HB := Lib.hid hB
      have Hb := Lib.hid hb
      clear hE hB hb hL2 HB0 Hb0
      go_wp2
      go_ret
      exact ⟨rfl, HB.out, Hb.out⟩
end Go.Proofs.YtlbmpjikaoenoaaDoor
