/-
  The landed mac: at, Equal, masked: their contracts. The landed mac: fitted, Of; its contract. The reference's sums, as a value; Sums.Of and Int in forms with plain variables. Layer 10: loads in every later world, the reference's sums: what the laws' walks share.
-/
import Derived.Test.YtdipflchmooakaaGreatDoorWholeJ01
import Derived.Test.YtdipflchmooakaaGreatDoorWholeJ06
import Derived.Test.YtdipflchmooakaaGreatDoorWholeJ07
import Derived.Test.YtdipflchmooakaaGreatDoorWholeJ09
import Derived.Test.YtdipflchmooakaaGreatDoorWholeJ08
import Derived.Test.YtdipflchmooakaaGreatDoorWholeJ02
import Derived.Test.YtdipflchmooakaaGreatDoorWholeJ10
import Derived.Test.YtdipflchmooakaaGreatDoorWholeJ12
import Derived.Test.YtdipflchmooakaaGreatDoorWholeJ11
import Derived.Test.YtdipflchmooakaaGreatDoorWholeJ24
import Derived.Test.YtdipflchmooakaaGreatDoorWholeJ22
import Derived.Test.YtdipflchmooakaaGreatDoorWholeJ23
import Derived.BigQuiet
import Derived.BigRegion
import Derived.Lib.Mul64
import Derived.RegionTactic
import Derived.Test.YtdipflchmooakaaGreatDoorWholeJ05
import Derived.Test.YtdipflchmooakaaGreatDoorWholeJ13
import Derived.Deep.CutRange
set_option maxRecDepth 100000
namespace Go.Gar
open Go.RowKit
theorem Rd.cell_at {w : World} {B : Nat} {A : Option Addr} {l : List UInt8} (h : Rd w B A l) {i : Nat} (hi : i < l.length) : ∃ b o, A = some ⟨b, o, none⟩ ∧ w.cell? ⟨b, o + i, none⟩ = some (.int .u8 ((l.getD i 0).toNat : Int)) := by
  rcases h with rfl | ⟨b, o, e, _, hc⟩
  · simp at hi
  · exact ⟨b, o, e, hc i _ (by rw [List.getD_eq_getElem?_getD, List.getElem?_eq_getElem hi]; rfl)⟩
/-- max, its run known. -/
theorem wpList_max_run {P : Program} {w : World} {ops : Array Oper} {rest : List Oper} {o : Oper} {a : Act} {Q : Exit → Act → World → Prop} (hgd : o.guard = none) (s x : Operand) (ts : Array TypeId)
    (ho : o.op = .call { callee := .builtin .max, args := #[s, x], argTypes := ts }) {vs vx v : Value} {w' : World} (hs : a.eval s = vs) (hx : a.eval x = vx)
    (hrun : (Builtin.max_ ts o.type #[vs, vx]).run P w = .ok v w') (h : wpList P ops Q rest (a.put o.dst v) w') : wpList P ops Q (o :: rest) a w := by
  refine wpList_run hgd (v := v) (w' := w') ?_ h
  unfold execOp
  simp only [ho, resolve, invoke, builtin, Sem.run_bind, Sem.run_pure, Result.andThen_ok, List.map_toArray, List.map_cons, List.map_nil, hs, hx, hrun]
/-- The differences up to k, or-ed. -/
def orX (a b : List UInt8) : Nat → UInt8
  | 0 => 0
  | k + 1 => orX a b k ||| (a.getD k 0 ^^^ b.getD k 0)
theorem or_zero8 (x y : UInt8) : x ||| y = 0 ↔ x = 0 ∧ y = 0 := by
  constructor
  · intro h
    have h2 := congrArg UInt8.toBitVec h
    simp only [UInt8.toBitVec_or] at h2
    have h3 := BitVec.or_eq_zero_iff.1 h2
    exact ⟨UInt8.toBitVec_inj.1 h3.1, UInt8.toBitVec_inj.1 h3.2⟩
  · rintro ⟨rfl, rfl⟩; rfl
theorem orX_zero (a b : List UInt8) : ∀ k, orX a b k = 0 ↔ ∀ j, j < k → a.getD j 0 = b.getD j 0
  | 0 => by simp [orX]
  | k + 1 => by
    rw [orX, or_zero8, orX_zero a b k, UInt8.xor_eq_zero_iff]
    constructor
    · rintro ⟨h, e⟩ j hj
      rcases Nat.lt_succ_iff_lt_or_eq.1 hj with h' | rfl
      · exact h j h'
      · exact e
    · intro h
      exact ⟨fun j hj => h j (by omega), h k (by omega)⟩
theorem orX_eq (a b : List UInt8) : (decide (orX a b (max a.length b.length) = 0) && decide (a.length = b.length)) = decide (a = b) := by
  rw [Bool.eq_iff_iff, Bool.and_eq_true, decide_eq_true_iff, decide_eq_true_iff, decide_eq_true_iff, orX_zero]
  constructor
  · rintro ⟨h, e⟩
    refine List.ext_getElem e fun i h1 h2 => ?_
    have := h i (by omega)
    simpa [List.getD_eq_getElem?_getD, List.getElem?_eq_getElem h1, List.getElem?_eq_getElem h2] using this
  · rintro rfl
    exact ⟨fun _ _ => rfl, rfl⟩
end Go.Gar
namespace Go.Proofs.YtdipflchmooakaaGreatDoor
open Go.RowKit Go.Gar

set_option maxHeartbeats 1000000 in
theorem at_any (w : World) (A : Option Addr) (a : List UInt8) (n ac i : Nat) (hn : n = a.length) (rA : Rd w w.heap.size A a) :
    Calls Tryz.prog 85 #[.slice A n ac, .int .i64 (i : Int)] w fun e w' => e = .returned (.int .u8 ((a.getD i 0).toNat : Int)) ∧ w' = w := by
  by_cases hlt : i < a.length
  · obtain ⟨b, o, rfl, hc⟩ := rA.cell_at hlt
    rw [← hn] at hlt
    clear hn rA
    have h8 := (a.getD i 0).toNat_lt
    generalize (a.getD i 0).toNat = x at *
    go_enter Tryz.func85, Tryz.ntmps85
    go_wp2
    go_ret
    exact ⟨rfl, rfl⟩
  · have e : a.getD i 0 = 0 := by rw [List.getD_eq_getElem?_getD, List.getElem?_eq_none (by omega)]; rfl
    rw [e]
    rw [← hn] at hlt
    clear hn rA e
    go_enter Tryz.func85, Tryz.ntmps85
    go_wp2
    go_ret
    exact ⟨rfl, rfl⟩

theorem max_at (n m : Nat) (w : World) : (Builtin.max_ #[3, 3] 3 #[.int .i64 (n : Int), .int .i64 (m : Int)]).run Tryz.prog w = .ok (.int .i64 ((max n m : Nat) : Int)) w := by
  rcases Nat.lt_or_ge n m with h | h
  · rw [show max n m = m by omega]
    simp [Builtin.max_, Builtin.max2]
    omega
  · rw [show max n m = n by omega]
    simp [Builtin.max_, Builtin.max2]
    omega
set_option maxHeartbeats 2000000 in
set_option maxRecDepth 100000 in
theorem equal_any (w : World) (A B : Option Addr) (a b : List UInt8) (n m ac bc : Nat) (hn : n = a.length) (hm : m = b.length) (rA : Rd w w.heap.size A a) (rB : Rd w w.heap.size B b) (hn' : n ≤ 9223372036854775807) (hm' : m ≤ 9223372036854775807) :
    Calls Tryz.prog 57 #[.slice A n ac, .slice B m bc] w fun e w' => e = .returned (.bool (decide (a = b))) ∧ w' = w := by
  have HN := Lib.hid hn
  have HM := Lib.hid hm
  have HA := Lib.hid rA
  have HB := Lib.hid rB
  clear hn hm rA rB
  obtain ⟨x, hx, hx1, hx2⟩ : ∃ x : Nat, x = max n m ∧ x ≤ 9223372036854775807 ∧ (Builtin.max_ #[3, 3] 3 #[.int .i64 (n : Int), .int .i64 (m : Int)]).run Tryz.prog w = .ok (.int .i64 (x : Int)) w := ⟨_, rfl, by omega, max_at n m w⟩
  have HX := Lib.hid hx
  have HX2 := Lib.hid hx2
  clear hx hx2
  go_enter Tryz.func57, Tryz.ntmps57
  go_wp2_with (refine wpList_max_run rfl (.tmp 8) (.tmp 10) _ rfl rfl rfl HX2.out ?_)
  go_loopw [5, 12] (fun d i w' => ∃ k : Nat, k ≤ x ∧ i = .int .i64 (k : Int) ∧ d = .int .u8 ((orX a b k).toNat : Int) ∧ w' = w) (fun _ i _ => x - (intOf i).toNat)
  case atStart => exact ⟨0, by omega, rfl, rfl, rfl⟩
  case round =>
    obtain ⟨k, hk, rfl, rfl, rfl⟩ := hrel
    by_cases hlt : k < x
    · go_wp2_with fail
      refine (at_any wr A a n ac k HN.out HA.out).mono ?_
      rintro e w1 ⟨rfl, h1⟩
      subst h1
      go_wp2_with fail
      refine (at_any w1 B b m bc k HM.out HB.out).mono ?_
      rintro e w2 ⟨rfl, h2⟩
      subst h2
      have hs : orX a b (k + 1) = orX a b k ||| (a.getD k 0 ^^^ b.getD k 0) := rfl
      have e1 := xor_u8 (a.getD k 0).toNat (b.getD k 0).toNat (a.getD k 0).toNat_lt (b.getD k 0).toNat_lt
      have e2 := or_u8 (orX a b k).toNat (a.getD k 0 ^^^ b.getD k 0).toNat (orX a b k).toNat_lt (a.getD k 0 ^^^ b.getD k 0).toNat_lt
      have e3 : bits .or .u8 ((orX a b k).toNat : Int) (bits .xor .u8 ((a.getD k 0).toNat : Int) ((b.getD k 0).toNat : Int)) = ((orX a b (k + 1)).toNat : Int) := by
        rw [e1, hs, UInt8.toNat_or, UInt8.toNat_xor]
        rw [UInt8.toNat_xor] at e2
        exact e2
      have E3 := Lib.hid e3
      clear e1 e2 e3 hs
      go_wp2
      exact ⟨⟨k + 1, by omega, by go_num, congrArg (Value.int .u8) E3.out, trivial⟩, by simp [intOf]; omega⟩
    · have hE := orX_eq a b
      rw [← HN.out, ← HM.out, ← HX.out, show x = k by omega] at hE
      have HE := Lib.hid hE
      clear hE
      have hz : (orX a b k).toNat = 0 ↔ orX a b k = 0 := ⟨fun h => UInt8.toNat_inj.1 h, fun h => by rw [h]; rfl⟩
      have HZ := Lib.hid hz
      clear hz
      go_wp2
      · rename_i h0
        go_ret
        refine ⟨?_, rfl⟩
        rw [← HE.out, decide_eq_true (HZ.out.1 h0), Bool.true_and, beq_cast]
        rfl
      · rename_i h0
        go_ret
        refine ⟨?_, rfl⟩
        rw [← HE.out, decide_eq_false (fun h => h0 (HZ.out.2 h)), Bool.false_and]
        rfl

theorem pg_get {α : Type} (z t : List α) (k : Nat) (h : t.length = z.length) (hk : k < z.length) : (pg z t k)[k]? = z[k]? := by
  have hl : (t.take k).length = k := by rw [List.length_take]; omega
  unfold pg
  rw [List.getElem?_append_right (by omega), hl, Nat.sub_self, List.getElem?_drop, Nat.add_zero]
set_option maxHeartbeats 2000000 in
set_option maxRecDepth 100000 in
theorem masked_any (w : World) (k : List UInt8) (c : UInt8) (m : Int) (hm : m = (c.toNat : Int)) (hk : k.length = 64) :
    Calls Tryz.prog 47 #[.agg (u8s k).toArray, .int .u8 m] w fun e w' => e = .returned (.slice (some ⟨w.heap.size, 0, none⟩) 64 64) ∧ Blk w' w.heap.size 78 (u8s (Mac.xs c k)) ∧ Below w.heap.size w w' := by
  subst hm
  have hB0 := Blk.new w 78 (u8s k)
  have hb0 := below_alloc w (.cells (u8s k).toArray 78)
  obtain ⟨w1, hw1⟩ : ∃ w1, w.alloc (.cells (u8s k).toArray 78) = w1 := ⟨_, rfl⟩
  rw [hw1] at hB0 hb0
  obtain ⟨g, hg⟩ : ∃ g, w.heap.size = g := ⟨_, rfl⟩
  rw [hg] at hB0 hb0 ⊢
  have HB0 := Lib.hid hB0
  have Hb0 := Lib.hid hb0
  have HW1 := Lib.hid hw1
  have HK := Lib.hid hk
  have HG := Lib.hid hg
  clear hB0 hb0 hw1 hk hg
  go_enter Tryz.func47, Tryz.ntmps47
  go_wp2_with (refine wpList_box_arr rfl 78 (.tmp 0) (u8s k).toArray rfl rfl ?_; rw [HW1.out, HG.out])
  have hc8 := c.toNat_lt
  go_loopw [6] (fun i w' => ∃ j : Nat, j ≤ 64 ∧ i = .int .i64 (j : Int) ∧ Blk w' g 78 (u8s (pg k (Mac.xs c k) j)) ∧ Below g w w') (fun i _ => 64 - (intOf i).toNat)
  case atStart => exact ⟨0, by omega, rfl, by rw [pg_0]; exact HB0.out, Hb0.out⟩
  case round =>
    obtain ⟨j, hj, rfl, hB, hb⟩ := hrel
    have hL2 : (Mac.xs c k).length = k.length := Mac.xs_len _ _
    by_cases hlt : j < 64
    · have hjk : j < k.length := by rw [HK.out]; exact hlt
      have hc1 : wr.cell? ⟨g, j, none⟩ = some (.int .u8 ((k[j]).toNat : Int)) := by
        rw [hB.cell, u8s_get, pg_get k (Mac.xs c k) j hL2 hjk, List.getElem?_eq_getElem hjk]; rfl
      have hz : (Mac.xs c k)[j]? = some (k[j] ^^^ c) := by rw [Mac.xs, List.getElem?_map, List.getElem?_eq_getElem hjk]; rfl
      have hf := hB.frozen j
      have hS := hB.set_ j (.int .u8 ((k[j] ^^^ c).toNat : Int))
      rw [u8s_set', pg_set _ _ _ _ hL2 hz] at hS
      have e1 := xor_u8 (k[j]).toNat c.toNat (k[j]).toNat_lt hc8
      rw [← UInt8.toNat_xor] at e1
      rw [← e1] at hS
      have HS := Lib.hid hS
      have Hb := Lib.hid (hb.setCell (p := ⟨g, j, none⟩) (Nat.le_refl _) (.int .u8 (bits .xor .u8 ((k[j]).toNat : Int) (c.toNat : Int))))
      have hx8 := (k[j]).toNat_lt
      clear hS hB hb hz hL2 e1 HB0 Hb0
      generalize (k[j]).toNat = xn at *
      generalize c.toNat = cn at *
      go_wp2
      exact ⟨⟨j + 1, by omega, by go_num, HS.out, Hb.out⟩, by simp [intOf]; omega⟩
    · have hE : pg k (Mac.xs c k) j = Mac.xs c k := pg_end _ _ _ (by rw [HK.out]; omega) (by rw [hL2, HK.out]; omega)
      rw [hE] at hB
      have HB := Lib.hid hB
      have Hb := Lib.hid hb
      clear hE hB hb hL2 HB0 Hb0
      go_wp2
      go_ret
      exact ⟨rfl, HB.out, Hb.out⟩
end Go.Proofs.YtdipflchmooakaaGreatDoor
namespace Go.Gar
open Go.RowKit
/-- copy of what a slice reads as over the head of a row that is known whole, the row's slice being longer. -/
theorem run_copy_head {P : Program} {w : World} (dT sT ty e : TypeId) (hu : P.underlying dT = some (.slice e)) (hs : (P.info? e).map (·.size) = some 1) (g dLen dCap sLen sCap : Nat) (A : Option Addr) (l : List UInt8) (B : Nat)
    (hr : Rd w B A l) (hsl : sLen = l.length) (cs : List Value) (t : TypeId) (hg : Blk w g t cs) (hl : l.length ≤ dLen) (hfit : dLen ≤ cs.length) :
    (Builtin.copy_ #[dT, sT] ty #[.slice (some ⟨g, 0, none⟩) dLen dCap, .slice A sLen sCap]).run P w = .ok (goInt l.length) (w.setRow g (u8s l ++ cs.drop l.length).toArray) := by
  rcases hr with rfl | ⟨b, q, rfl, _, hc⟩
  · subst hsl
    rw [run_copy_none w dT sT ty e _ _ _ _ _ _ hu hs (by simp)]
    have := setRow_self w g cs.toArray t (0, 0) hg
    simp only [List.length_nil, u8s, List.map_nil, List.drop_zero, List.nil_append]
    rw [this]
    rfl
  · have h := run_copy_seg (P := P) (w := w) dT sT ty e hu hs g 0 dLen dCap sLen sCap b q l l.length hc hsl (by omega) cs t hg (by omega)
    simpa using h
/-- append of what a slice reads as, behind an own row. -/
theorem appV_any {P : Program} {w : World} {base B : Nat} {e : TypeId} {v : Value} {vs : List Value} {z : Value} {by_ : Nat} (t ty : TypeId) (ht : P.underlying t = some (.slice e)) (hinfo : (P.info? e).map (fun i => (i.zero, i.size, i.bytes)) = some (some z, 1, by_)) (hz : z.cells.size = 1)
    (hown : OwnV w base e v vs) (hbase : base ≤ w.heap.size) (A : Option Addr) (c m : Nat) (xs : List Value) (hone : ∀ u ∈ xs, u.oneCell' = true) (hm : m = xs.length)
    (hC : Cells w B A xs) (hlen : vs.length + xs.length ≤ 1099511627776) (hby : by_ ≤ 32) :
    ∃ v' w', (Builtin.append_ #[t, t] ty #[v, .slice A m c]).run P w = .ok v' w' ∧ OwnV w' base e v' (vs ++ xs) ∧ Below base w w' ∧ w.grownBy w' v.ownBlock := by
  cases A with
  | none =>
    have hl : xs = [] := by
      rcases hC with hl | ⟨b, o, h, _⟩
      · exact hl
      · cases h
    subst hl
    subst hm
    obtain ⟨i, hi, _⟩ := Option.map_eq_some_iff.1 hinfo
    refine ⟨v, w, ?_, by simpa using hown, Below.refl _ _, World.grownBy.refl _ _⟩
    rcases hown.2 with ⟨rfl, hn⟩ | ⟨g, cap, cur, rfl, _, _, hnc, _⟩
    · simp [Builtin.append_, run_underlying ht, sizeOf, typeInfo, hi, Builtin.lenOf, Builtin.firstCells]
    · simp [Builtin.append_, run_underlying ht, sizeOf, typeInfo, hi, Builtin.lenOf, Builtin.firstCells, hnc, storeCells]
  | some a =>
    refine appV (P := P) t ty ht hinfo hz hown hbase a c m xs hone hm (fun j u hj => ?_) hlen hby
    rcases hC with rfl | ⟨b, o, hA, _, hc⟩
    · simp at hj
    · injection hA with hA
      subst hA
      have : (⟨b, o, none⟩ : Addr).add j = ⟨b, o + j, none⟩ := Addr.add_lit _ _ _
      rw [this]
      exact hc j u hj
end Go.Gar
namespace Go.Proofs.YtdipflchmooakaaGreatDoor
open Go.RowKit Go.Gar

theorem pad_row (key : List UInt8) (l : List UInt8) (h : l = Mac.key0 key) : u8s l ++ (u8s (zB 64)).drop l.length = u8s (Mac.pad key) := by
  subst h
  unfold Mac.pad zB
  rw [u8s_app, u8s_drop, List.drop_replicate]
theorem size64B (l : List UInt8) (h : l.length = 64) : (Tryz.prog.info? 78).map (·.size) = some (u8s l).length := by
  rw [u8s_len, h]; exact Tryz.sizeB64

/-- The end of fitted: the facts that its walk needs. -/
theorem fit_facts (wX : World) (g : Nat) (l X : List UInt8) (hl : u8s l ++ (u8s (zB 64)).drop l.length = u8s X) (hX : X.length = 64) (hll : l.length ≤ 64) (A : Option Addr) (n c : Nat) (hn : n = l.length) (r : Rd wX wX.heap.size A l) (hB : Blk wX g 78 (u8s (zB 64))) :
    ∃ w4 w5, wX.alloc (.cells (u8s (zB 64)).toArray 78) = w4 ∧ (Builtin.copy_ #[23, 23] 3 #[.slice (some ⟨wX.heap.size, 0, none⟩) 64 64, .slice A n c]).run Tryz.prog w4 = .ok (goInt l.length) w5 ∧
      (loadVar 78 ⟨wX.heap.size, 0, none⟩).run Tryz.prog w5 = .ok (.agg (u8s X).toArray) w5 ∧ Blk w5 g 78 (u8s (zB 64)) ∧ Below wX.heap.size wX w5 ∧
      (loadVar 78 ⟨g, 0, none⟩).run Tryz.prog (w5.setRow g (u8s X).toArray) = .ok (.agg (u8s X).toArray) (w5.setRow g (u8s X).toArray) := by
  have hK := Blk.new wX 78 (u8s (zB 64))
  have hcp := run_copy_head (P := Tryz.prog) (w := wX.alloc (.cells (u8s (zB 64)).toArray 78)) 23 23 3 5 Tryz.und22 Tryz.size5 wX.heap.size 64 64 n c A l wX.heap.size (r.alloc (Nat.le_refl _) _) hn _ _ hK hll (by rw [u8s_len, zB_len]; omega)
  rw [hl, World.setRow_alloc_new] at hcp
  have hB5 := hB.alloc (.cells (u8s X).toArray 78)
  exact ⟨_, _, rfl, hcp, run_loadVar_row (P := Tryz.prog) _ wX.heap.size 78 78 (u8s X).toArray (0, 0) _ (Blk.new wX _ (u8s X)) Tryz.undB64 rfl (by simpa using size64B X hX), hB5, below_alloc wX _,
    run_loadVar_row (P := Tryz.prog) _ g 78 78 (u8s X).toArray (0, 0) _ (hB5.row _) Tryz.undB64 rfl (by simpa using size64B X hX)⟩

set_option maxHeartbeats 2000000 in
set_option maxRecDepth 100000 in
theorem fitted_any (w : World) (hG : Gl w) (K : Option Addr) (key : List UInt8) (n kc : Nat) (hn : n = key.length) (rK : Rd w w.heap.size K key) (hc : key.length ≤ kc) (hl : key.length ≤ 1048576) :
    Calls Tryz.prog 46 #[.slice K n kc] w fun e w' => e = .returned (.agg (u8s (Mac.pad key)).toArray) ∧ Below w.heap.size w w' := by
  obtain ⟨X, hX⟩ : ∃ X, Mac.pad key = X := ⟨_, rfl⟩
  have hXl : X.length = 64 := by rw [← hX]; exact Mac.pad_len key
  have hpr := pad_row key (Mac.key0 key) rfl
  rw [hX] at hpr ⊢
  have HXl := Lib.hid hXl
  have HP := Lib.hid hpr
  have hR0 := Blk.new w 78 (u8s (zB 64))
  have hb0 := below_alloc w (.cells (u8s (zB 64)).toArray 78)
  have hs0 : (w.alloc (.cells (u8s (zB 64)).toArray 78)).heap.size = w.heap.size + 1 := World.size_alloc _ _
  obtain ⟨w0, hw0⟩ : ∃ w0, w.alloc (.cells (u8s (zB 64)).toArray 78) = w0 := ⟨_, rfl⟩
  rw [hw0] at hR0 hb0 hs0
  have hrK0 : Rd w0 w0.heap.size K key := (rK.below hb0).more hb0.size
  have HG := Lib.hid (Gl.keep hG hb0)
  have HR0 := Lib.hid hR0
  have Hb0 := Lib.hid hb0
  have HS0 := Lib.hid hs0
  have HRK := Lib.hid hrK0
  have HN := Lib.hid hn
  have HC := Lib.hid hc
  have HL := Lib.hid hl
  have HW0 := Lib.hid hw0
  obtain ⟨g, hg⟩ : ∃ g, w.heap.size = g := ⟨_, rfl⟩
  rw [hg]
  have Hg := Lib.hid hg
  clear hX hXl hpr hR0 hb0 hs0 hrK0 hG rK hc hl hw0 hg
  by_cases h64 : 64 < n
  · have hk0 : Mac.key0 key = Sha.of key := if_pos (by rw [← hn]; exact h64)
    rw [hk0] at HP
    clear hn hk0
    go_enter Tryz.func46, Tryz.ntmps46
    go_wp2_with (refine wpList_alloc_arr rfl 78 (u8s (zB 64)).toArray rfl zero64B ?_; rw [HW0.out, Hg.out])
    obtain ⟨D, hD⟩ : ∃ D, Sha.of key = D := ⟨_, rfl⟩
    have hDl : D.length = 32 := by rw [← hD]; exact Sha.of_len _
    rw [hD] at HP
    refine (sha1 shaOK K key n kc _ w0 (u8s D).toArray (by rw [hD]) HG.out rfl HN.out HRK.out HL.out HC.out).mono ?_
    rintro e w1 ⟨rfl, hb1⟩
    have HDl := Lib.hid hDl
    have Hb1 := Lib.hid hb1
    clear hDl hb1 hD
    have hEa : (w1.alloc (.cells z32.toArray 22)).setRow w1.heap.size (u8s D).toArray = w1.alloc (.cells (u8s D).toArray 22) := World.setRow_alloc_new w1 _ _ _
    obtain ⟨w2, hw2⟩ : ∃ w2, w1.alloc (.cells (u8s D).toArray 22) = w2 := ⟨_, rfl⟩
    have hBD := Blk.new w1 22 (u8s D)
    have hb2 := below_alloc w1 (.cells (u8s D).toArray 22)
    rw [hw2] at hEa hBD hb2
    have HEa := Lib.hid hEa
    have HS := Lib.hid (size_32 D HDl.out)
    have HZ : Hid (z32.length = (u8s D).length) := Lib.hid (by rw [u8s_len, HDl.out, z32_len])
    have hbx : Below w0.heap.size w0 w2 := Hb1.out.trans (hb2.mono Hb1.out.size)
    have HbX : Hid (Below g w w2) := Lib.hid (by have := Hb0.out; rw [Hg.out] at this; exact this.trans (hbx.mono (by have := HS0.out; have := Hg.out; omega)))
    have HRg : Hid (Blk w2 g 78 (u8s (zB 64))) := Lib.hid (by have := HR0.out; rw [Hg.out] at this; exact this.below hbx (by have := HS0.out; have := Hg.out; omega))
    clear hEa hw2 hb2 hbx
    obtain ⟨w4, w5, hw4, hcp, hld, hB5, hb5, hl6⟩ := fit_facts w2 g D X HP.out HXl.out (by rw [HDl.out]; omega) (some ⟨w1.heap.size, 0, none⟩) 32 32 HDl.out.symm (Rd.of_all hBD) HRg.out
    have HW4 := Lib.hid hw4
    have HCP := Lib.hid hcp
    have HB5 := Lib.hid hB5
    have HSz := Lib.hid (size64B X HXl.out)
    have HLn : Hid ((u8s (zB 64)).length = (u8s X).length) := Lib.hid (by rw [u8s_len, u8s_len, HXl.out, zB_len])
    have HL6 := Lib.hid hl6
    have HLD := Lib.hid hld
    have Hb6 := Lib.hid (below_setRow (HbX.out.trans (hb5.mono (by rw [← Hg.out]; exact HbX.out.size))) (Nat.le_refl _) (u8s X).toArray)
    clear hw4 hcp hB5 hl6 hld hb5
    clear hBD
    have HO := Lib.hid (u8s_one D)
    have HZ1 := Lib.hid (Blk.new w1 22 z32)
    go_wp2_with (first | refine wpList_alloc_arr rfl 22 z32.toArray rfl zero_32 ?_ | (refine wpList_store_arr rfl 22 (.tmp 3) (.tmp 10) w1.heap.size z32 (u8s D) rfl rfl rfl rfl HZ1.out HS.out HZ.out HO.out ?_; rw [HEa.out]) | (refine wpList_alloc_arr rfl 78 (u8s (zB 64)).toArray rfl zero64B ?_; rw [HW4.out]) | refine wpList_copy_run rfl (.tmp 12) (.tmp 13) _ rfl rfl rfl HCP.out ?_ | refine wpList_load_arr_w 78 (.tmp 4) rfl rfl (u8s X).toArray HLD.out (by kernel_rfl) ?_ | refine wpList_store_arr rfl 78 (.tmp 2) (.tmp 15) g _ _ rfl rfl rfl rfl HB5.out HSz.out HLn.out (u8s_one _) ?_)
    simp only [Act.put, List.setIfInBounds_toArray, List.set]
    refine bodyPost_ret (v := .agg (u8s X).toArray) ?_ rfl ⟨rfl, Hb6.out⟩
    have hl2 := HL6.out
    generalize (u8s X).toArray = Y at hl2 ⊢
    simp [results, Tryz.results46, asAddr, hl2]
  · have hk0 : Mac.key0 key = key := if_neg (by rw [← hn]; exact h64)
    rw [hk0] at HP
    clear hn hk0
    have HbX : Hid (Below g w w0) := Lib.hid (by have := Hb0.out; rw [Hg.out] at this; exact this)
    have HRg : Hid (Blk w0 g 78 (u8s (zB 64))) := Lib.hid (by have := HR0.out; rw [Hg.out] at this; exact this)
    obtain ⟨w4, w5, hw4, hcp, hld, hB5, hb5, hl6⟩ := fit_facts w0 g key X HP.out HXl.out (by rw [← HN.out]; omega) K n kc HN.out HRK.out HRg.out
    have HW4 := Lib.hid hw4
    have HCP := Lib.hid hcp
    have HB5 := Lib.hid hB5
    have HSz := Lib.hid (size64B X HXl.out)
    have HLn : Hid ((u8s (zB 64)).length = (u8s X).length) := Lib.hid (by rw [u8s_len, u8s_len, HXl.out, zB_len])
    have HL6 := Lib.hid hl6
    have HLD := Lib.hid hld
    have Hb6 := Lib.hid (below_setRow (HbX.out.trans (hb5.mono (by rw [← Hg.out]; exact HbX.out.size))) (Nat.le_refl _) (u8s X).toArray)
    clear hw4 hcp hB5 hl6 hld hb5
    go_enter Tryz.func46, Tryz.ntmps46
    go_wp2_with (first | (refine wpList_alloc_arr rfl 78 (u8s (zB 64)).toArray rfl zero64B ?_; first | rw [HW0.out, Hg.out] | rw [HW4.out]) | refine wpList_copy_run rfl (.tmp 12) (.tmp 13) _ rfl rfl rfl HCP.out ?_ | refine wpList_load_arr_w 78 (.tmp 4) rfl rfl (u8s X).toArray HLD.out (by kernel_rfl) ?_ | refine wpList_store_arr rfl 78 (.tmp 2) (.tmp 15) g _ _ rfl rfl rfl rfl HB5.out HSz.out HLn.out (u8s_one _) ?_)
    simp only [Act.put, List.setIfInBounds_toArray, List.set]
    refine bodyPost_ret (v := .agg (u8s X).toArray) ?_ rfl ⟨rfl, Hb6.out⟩
    have hl2 := HL6.out
    generalize (u8s X).toArray = Y at hl2 ⊢
    simp [results, Tryz.results46, asAddr, hl2]

set_option maxHeartbeats 4000000 in
set_option maxRecDepth 100000 in
theorem macOf_any (w : World) (hG : Gl w) (K : Option Addr) (key : List UInt8) (n kc : Nat) (hn : n = key.length) (rK : Rd w w.heap.size K key) (hc : key.length ≤ kc) (hl : key.length ≤ 1048576)
    (A : Option Addr) (ps : List Part) (np cap : Nat) (hnp : np = ps.length) (hC : Cells w w.heap.size A (ps.map partV)) (hR : ∀ p ∈ ps, Rd w w.heap.size p.1 p.2.1 ∧ p.2.1.length ≤ p.2.2) (hcl : (cat ps).length ≤ 1000000) (hpl : ps.length ≤ 900) (O : List UInt8) (hO : O = Mac.of key (cat ps)) :
    Calls Tryz.prog 23 #[.slice K n kc, .slice A np cap] w fun e w' => e = .returned (.agg (u8s O).toArray) ∧ Below w.heap.size w w' := by
  have hPl := Mac.pad_len key
  obtain ⟨X, hX⟩ : ∃ X, Mac.pad key = X := ⟨_, rfl⟩
  rw [hX] at hPl
  have hOl : O.length = 32 := by rw [hO]; exact Mac.of_len _ _
  rw [Mac.of, hX] at hO
  obtain ⟨D, hD⟩ : ∃ D, Sha.of (Mac.xs 54 X ++ cat ps) = D := ⟨_, rfl⟩
  have hDl : D.length = 32 := by rw [← hD]; exact Sha.of_len _
  rw [hD] at hO
  have HX := Lib.hid hX
  have HXl := Lib.hid hPl
  have HO := Lib.hid hO
  have HOl := Lib.hid hOl
  have HD := Lib.hid hD
  have HDl := Lib.hid hDl
  have HNP := Lib.hid hnp
  have HC := Lib.hid hC
  have HR := Lib.hid hR
  have HCL := Lib.hid hcl
  have HPL := Lib.hid hpl
  have HG := Lib.hid hG
  have HN := Lib.hid hn
  have HRK := Lib.hid rK
  have HKC := Lib.hid hc
  have HKL := Lib.hid hl
  clear hX hPl hO hOl hD hDl hnp hC hR hcl hpl hG hn rK hc hl
  have hR0 := Blk.new w 22 z32
  have hb0 := below_alloc w (.cells z32.toArray 22)
  have hs0 : (w.alloc (.cells z32.toArray 22)).heap.size = w.heap.size + 1 := World.size_alloc _ _
  obtain ⟨w0, hw0⟩ : ∃ w0, w.alloc (.cells z32.toArray 22) = w0 := ⟨_, rfl⟩
  rw [hw0] at hR0 hb0 hs0
  have HR0 := Lib.hid hR0
  have Hb0 := Lib.hid hb0
  have HS0 := Lib.hid hs0
  have HW0 := Lib.hid hw0
  clear hR0 hb0 hs0 hw0
  go_enter Tryz.func23, Tryz.ntmps23
  go_wp2_with (refine wpList_alloc_arr rfl 22 z32.toArray rfl zero_32 ?_; rw [HW0.out])
  refine (fitted_any w0 (Gl.keep HG.out Hb0.out) K key n kc HN.out ((HRK.out.below Hb0.out).more Hb0.out.size) HKC.out HKL.out).mono ?_
  rintro e w1 ⟨rfl, hb1⟩
  rw [HX.out]
  clear HX
  have hEa : (w1.alloc (.cells (u8s (zB 64)).toArray 78)).setRow w1.heap.size (u8s X).toArray = w1.alloc (.cells (u8s X).toArray 78) := World.setRow_alloc_new w1 _ _ _
  have hB2 := Blk.new w1 78 (u8s X)
  have hb2 := below_alloc w1 (.cells (u8s X).toArray 78)
  have hs2 : (w1.alloc (.cells (u8s X).toArray 78)).heap.size = w1.heap.size + 1 := World.size_alloc _ _
  obtain ⟨w2, hw2⟩ : ∃ w2, w1.alloc (.cells (u8s X).toArray 78) = w2 := ⟨_, rfl⟩
  rw [hw2] at hEa hB2 hb2 hs2
  have hld := run_loadVar_row (P := Tryz.prog) w2 w1.heap.size 78 78 (u8s X).toArray (0, 0) _ hB2 Tryz.undB64 rfl (by simpa using size64B X HXl.out)
  have hbw2 : Below w.heap.size w w2 := Hb0.out.trans ((hb1.trans (hb2.mono hb1.size)).mono Hb0.out.size)
  have hR2 : Blk w2 w.heap.size 22 z32 := (HR0.out.below (hb1.trans (hb2.mono hb1.size)) (by have := HS0.out; omega))
  have HEa := Lib.hid hEa
  have HZ1 := Lib.hid (Blk.new w1 78 (u8s (zB 64)))
  have HSz := Lib.hid (size64B X HXl.out)
  have HLn : Hid ((u8s (zB 64)).length = (u8s X).length) := Lib.hid (by rw [u8s_len, u8s_len, HXl.out, zB_len])
  have HB2 := Lib.hid hB2
  have HLD := Lib.hid hld
  have Hb2 := Lib.hid hbw2
  have HR2 := Lib.hid hR2
  have HS2 : Hid (w.heap.size < w1.heap.size ∧ w2.heap.size = w1.heap.size + 1) := Lib.hid (by have := HS0.out; have := hb1.size; omega)
  clear hEa hB2 hb2 hs2 hw2 hld hbw2 hR2 hb1 HR0 Hb0 HS0 HW0
  go_wp2_with (first | refine wpList_alloc_arr rfl 78 (u8s (zB 64)).toArray rfl zero64B ?_ | (refine wpList_store_arr rfl 78 (.tmp 5) (.tmp 9) w1.heap.size _ _ rfl rfl rfl rfl HZ1.out HSz.out HLn.out (u8s_one _) ?_; rw [HEa.out]) | refine wpList_load_arr_w 78 (.tmp 5) rfl rfl (u8s X).toArray HLD.out (by kernel_rfl) ?_)
  clear HEa HZ1 HLD
  refine (masked_any w2 X 54 54 rfl HXl.out).mono ?_
  rintro e w3 ⟨rfl, hM3, hb3⟩
  have hown := World.ownsRow_lit (base := w3.heap.size) (e := 23) (size := 1) w3 #[.slice (some ⟨w2.heap.size, 0, none⟩) 64 64] 1 (Nat.le_refl _) (by simp [maxLen]) (by simp)
  have hb4 := below_alloc w3 (.cells #[.slice (some ⟨w2.heap.size, 0, none⟩) 64 64] 23)
  have hs4 : (w3.alloc (.cells #[.slice (some ⟨w2.heap.size, 0, none⟩) 64 64] 23)).heap.size = w3.heap.size + 1 := World.size_alloc _ _
  have hbw3 : Below w.heap.size w w3 := Hb2.out.trans (hb3.mono Hb2.out.size)
  have hC4 := cells_below HC.out (hbw3.trans (hb4.mono hbw3.size)) (Nat.le_trans hbw3.size hb4.size)
  obtain ⟨v6, w5, a1, a2, a3, _⟩ := appV_any (P := Tryz.prog) 77 77 Tryz.undPs Tryz.infoPs rfl (vs := [.slice (some ⟨w2.heap.size, 0, none⟩) 64 64]) hown (by rw [hs4]; omega) A cap np (ps.map partV) (parts_one ps) (by rw [List.length_map]; exact HNP.out) hC4 (by have := HPL.out; simp; omega) (by omega)
  have hb5 : Below w3.heap.size w3 w5 := hb4.trans a3
  have hbw5 : Below w.heap.size w w5 := hbw3.trans (hb5.mono hbw3.size)
  have hs3 := hb3.size
  have hs5 := hb5.size
  obtain ⟨g6, c6, rest, hv6, hg6, hc6, hB6⟩ := a2.blk (by simp)
  subst hv6
  have HA1 := Lib.hid a1
  have HB6 := Lib.hid hB6
  have Hb5 := Lib.hid hbw5
  have HM5 := Lib.hid (hM3.below hb5 hM3.lt)
  have HB5 := Lib.hid (HB2.out.below (hb3.trans (hb5.mono hb3.size)) HB2.out.lt)
  have HR5 := Lib.hid (HR2.out.below (hb3.trans (hb5.mono hb3.size)) HR2.out.lt)
  have HS5 : Hid (w2.heap.size < w5.heap.size ∧ w1.heap.size < w5.heap.size) := Lib.hid (by have := HS2.out; have := hM3.lt; omega)
  clear hown hb4 hs4 hbw3 hC4 a1 a2 a3 hb5 hbw5 hs3 hs5 hg6 hc6 hB6 hM3 hb3 HB2 HR2 Hb2
  go_wp2_with (at_builtin; refine wpList_append_run rfl (.tmp 12) (.tmp 13) _ rfl rfl rfl HA1.out ?_)
  have hxl : (Mac.xs 54 X).length = 64 := by rw [Mac.xs_len, HXl.out]
  have hsha := shaOK.of w5 (some ⟨g6, 0, none⟩) ((some ⟨w2.heap.size, 0, none⟩, Mac.xs 54 X, 64) :: ps) c6 (Gl.keep HG.out Hb5.out)
    (.inr ⟨g6, 0, rfl, HB6.out.lt, fun i v hi => by
      rw [Nat.zero_add, HB6.out.cell, List.getElem?_append_left (by have := (List.getElem?_eq_some_iff.1 hi).1; simpa using this), ← hi, List.map_cons, partV, hxl]; rfl⟩)
    (by
      intro p hp
      rcases List.mem_cons.1 hp with rfl | hp
      · exact ⟨Rd.of_all HM5.out, by rw [hxl]; exact Nat.le_refl _⟩
      · exact ⟨((HR.out p hp).1.below Hb5.out).more Hb5.out.size, (HR.out p hp).2⟩)
    (by have := HCL.out; rw [cat, List.flatMap_cons, List.length_append, hxl]; unfold cat at this; omega) (by have := HPL.out; simp; omega)
  rw [show cat ((some ⟨w2.heap.size, 0, none⟩, Mac.xs 54 X, 64) :: ps) = Mac.xs 54 X ++ cat ps from rfl, HD.out, List.length_cons] at hsha
  refine hsha.mono ?_
  rintro e w6 ⟨rfl, hb6⟩
  clear hsha hxl
  have hEa : (w6.alloc (.cells z32.toArray 22)).setRow w6.heap.size (u8s D).toArray = w6.alloc (.cells (u8s D).toArray 22) := World.setRow_alloc_new w6 _ _ _
  have hD7 := Blk.new w6 22 (u8s D)
  have hb7 := below_alloc w6 (.cells (u8s D).toArray 22)
  have hs7 : (w6.alloc (.cells (u8s D).toArray 22)).heap.size = w6.heap.size + 1 := World.size_alloc _ _
  obtain ⟨w7, hw7⟩ : ∃ w7, w6.alloc (.cells (u8s D).toArray 22) = w7 := ⟨_, rfl⟩
  rw [hw7] at hEa hD7 hb7 hs7
  have hb57 := hb6.trans (hb7.mono hb6.size)
  have HEa := Lib.hid hEa
  have HZ6 := Lib.hid (Blk.new w6 22 z32)
  have HSD := Lib.hid (size_32 D HDl.out)
  have HZD : Hid (z32.length = (u8s D).length) := Lib.hid (by rw [u8s_len, HDl.out, z32_len])
  have HD7 := Lib.hid hD7
  have HB7 := Lib.hid (HB5.out.below hb57 HB5.out.lt)
  have HR7 := Lib.hid (HR5.out.below hb57 HR5.out.lt)
  have Hb7 := Lib.hid (Hb5.out.trans (hb57.mono Hb5.out.size))
  clear hEa hD7 hb7 hs7 hw7 hb57 hb6 HB5 HR5 HM5 HB6 HA1
  generalize Value.slice (some ⟨g6, 0, none⟩) (ps.length + 1) c6 = T6 at *
  go_wp2_with (first | refine wpList_alloc_arr rfl 22 z32.toArray rfl zero_32 ?_ | (refine wpList_store_arr rfl 22 (.tmp 7) (.tmp 16) w6.heap.size z32 (u8s D) rfl rfl rfl rfl HZ6.out HSD.out HZD.out (u8s_one _) ?_; rw [HEa.out]))
  clear HEa HZ6 HSD HZD
  simp only [Act.put, List.setIfInBounds_toArray, List.set]
  refine wp_region_G grows (by kernel_rfl) ?_
  have HD8 := Lib.hid HD7.out.drew
  have HB8 := Lib.hid HB7.out.drew
  have HR8 := Lib.hid HR7.out.drew
  have Hb8 := Lib.hid Hb7.out.drew
  clear HD7 HB7 HR7 Hb7
  generalize w7.drew = w8 at *
  have hll := load_arr_later (P := Tryz.prog) Tryz.undB64 (by simpa using size64B X HXl.out) HB8.out
  refine segG (by kernel_rfl) (fun _ _ _ _ _ h => h) [0, 2] [_, _] 4 rfl rfl (by kernel_rfl) ?_
  refine wpQuiet_load_arr 78 (.tmp 5) rfl rfl (u8s X).toArray hll (by kernel_rfl) ?_
  simp only [Act.put, List.setIfInBounds_toArray, List.set]
  repeat (go_big_quiet_step (fail))
  refine wpQuiet_nil ?_
  clear hll
  refine oneG 1 3 rfl (by kernel_rfl) rfl ?_
  go_wp2_with fail
  refine (masked_any w8 X 92 92 rfl HXl.out).mono ?_
  rintro e w9 ⟨rfl, hM9, hb9⟩
  have Hb9' := Lib.hid hb9
  have HM9 := Lib.hid hM9
  have HD9 := Lib.hid (HD8.out.below hb9 HD8.out.lt)
  have HR9 := Lib.hid (HR8.out.below hb9 HR8.out.lt)
  have Hb9 := Lib.hid (Hb8.out.trans (hb9.mono Hb8.out.size))
  clear hb9 hM9 HD8 HR8 Hb8 HB8
  go_wp2
  refine ⟨Hb9'.out, ?_⟩
  refine oneG 3 2 rfl (by kernel_rfl) rfl ?_
  go_wp2
  refine ⟨below_alloc w9 _, ?_⟩
  refine oneG 4 1 rfl (by kernel_rfl) rfl ?_
  go_wp2_with fail
  have hxl : (Mac.xs 92 X).length = 64 := by rw [Mac.xs_len, HXl.out]
  refine (sha2 shaOK _ _ (Mac.xs 92 X) D 64 32 64 32 _ w9 (u8s O).toArray (by rw [HO.out]) (Gl.keep HG.out Hb9.out) rfl hxl.symm HDl.out.symm (Rd.of_all HM9.out) (Rd.of_all HD9.out) (by rw [List.length_append, hxl, HDl.out]; omega) (by rw [hxl]; exact Nat.le_refl _) (by rw [HDl.out]; exact Nat.le_refl _)).mono ?_
  rintro e w10 ⟨rfl, hb10, hbA⟩
  have HR10 := Lib.hid (HR9.out.below hb10 HR9.out.lt)
  have Hb10 := Lib.hid (below_setRow (Hb9.out.trans (hb10.mono Hb9.out.size)) (Nat.le_refl _) (u8s O).toArray)
  have HbA := Lib.hid hbA
  have HSz := Lib.hid (size_32 O HOl.out)
  have HLn : Hid (z32.length = (u8s O).length) := Lib.hid (by rw [u8s_len, HOl.out, z32_len])
  have hl2 := run_loadVar_row (P := Tryz.prog) (w10.setRow w.heap.size (u8s O).toArray) w.heap.size 22 22 (u8s O).toArray (0, 0) _ (HR10.out.row _) Tryz.und32 rfl (by simpa using size_32 O HOl.out)
  have HL2 := Lib.hid hl2
  clear hb10 hbA hxl HR9 Hb9 HM9 HD9 hl2
  go_wp2
  refine ⟨HbA.out, ?_⟩
  clear HbA
  refine lateG 5 0 rfl (by kernel_rfl) (by kernel_rfl) rfl ?_
  refine wpList_store_arr rfl 22 (.tmp 4) (.tmp 21) w.heap.size z32 (u8s O) rfl rfl rfl rfl HR10.out HSz.out HLn.out (u8s_one _) ?_
  go_wp2
  refine ⟨trivial, ?_⟩
  refine wpAnyG_done (by kernel_rfl) ?_
  go_wp2
  refine bodyPost_ret (v := .agg (u8s O).toArray) ?_ rfl ⟨rfl, Hb10.out⟩
  have hl2 := HL2.out
  generalize (u8s O).toArray = Y at hl2 ⊢
  simp [results, Tryz.results23, asAddr, hl2]

/-- The landed mac keeps its contract wherever sha's table lies as its text lays it. -/
theorem macOK : MacOK Gl :=
  ⟨fun h hb => h.keep hb, fun w K key kcap A ps cap hG rK hk hl hC hR hcl hpl => macOf_any w hG K key _ kcap rfl rK hk hl A ps _ cap rfl hC hR hcl hpl _ rfl,
    fun w A B a b ac bc _ rA rB _ _ ha hb => (equal_any w A B a b _ _ ac bc rfl rfl rA rB ha hb).mono fun _ _ ⟨h1, h2⟩ => ⟨h1, by rw [h2]; exact Below.refl _ _⟩⟩
end Go.Proofs.YtdipflchmooakaaGreatDoor

namespace Go.Proofs.YtdipflchmooakaaGreatDoor
open Go.RowKit Go.Gar

/-- The reference's sums, as a value. -/
def SumsV (w : World) (x : Array Value) : Prop := ∃ AK AH cK cH, x = #[.slice AK 64 cK, .slice AH 8 cH] ∧ RdV w w.heap.size AK (u32s Sha.kL) ∧ RdV w w.heap.size AH (u32s Sha.hL)
theorem SumsV.below {w w' : World} {x : Array Value} (h : SumsV w x) (hb : Below w.heap.size w w') : SumsV w' x := by
  obtain ⟨AK, AH, cK, cH, h1, h2, h3⟩ := h
  exact ⟨AK, AH, cK, cH, h1, (h2.below hb).more hb.size, (h3.below hb).more hb.size⟩
theorem SumsV.size {w : World} {x : Array Value} (h : SumsV w x) : x.size = 2 := by
  obtain ⟨AK, AH, cK, cH, rfl, _⟩ := h
  rfl
end Go.Proofs.YtdipflchmooakaaGreatDoor

namespace Go.Proofs.YtdipflchmooakaaGreatDoor
section
open Go.ChangeShapes Go.WideShapes Go.ChangeAt Go.RowKit Go.Gar
theorem sumsV_of {w0 w : World} {v u : Value} (hv : Go.Gar.OwnV w w0.heap.size 116 v (u32s Sha.kL)) (hu : Go.Gar.OwnV w w0.heap.size 116 u (u32s Sha.hL)) : SumsV w #[v, u] := by
  have hkl : (u32s Sha.kL).length = 64 := by rw [u32s_len, Sha.kL_len]
  have hhl : (u32s Sha.hL).length = 8 := by rw [u32s_len, Sha.hL_len]
  obtain ⟨bk, cK, restk, hvk, hbk, -, hBk⟩ := hv.blk (by rw [hkl]; omega)
  obtain ⟨bh, cH, resth, hvh, hbh, -, hBh⟩ := hu.blk (by rw [hhl]; omega)
  rw [hkl] at hvk
  rw [hhl] at hvh
  subst hvk
  subst hvh
  exact ⟨_, _, _, _, rfl, RdV.of_blk hBk hBk.lt, RdV.of_blk hBh hBh.lt⟩
end
open Go.RowKit Go.Gar Go.Gar.Aes

theorem load_k_later {w : World} {g : Nat} {l : List UInt8} (h : Blk w g 29 (u8s l)) (hl : l.length = 64) :
    ∀ W : Later grows w, (Instr.loadAt 29 (.pointer (some ⟨g, 0, none⟩))).run Tryz.prog W.to = .ok (.agg (u8s l).toArray) W.to :=
  load_keys_later hl (fun W => h.below (show Below w.heap.size w W.to from W.grown) h.lt)
theorem load_v_later {w : World} {g : Nat} {l : List UInt8} (h : Blk w g 32 (u8s l)) (hl : l.length = 16) :
    ∀ W : Later grows w, (Instr.loadAt 32 (.pointer (some ⟨g, 0, none⟩))).run Tryz.prog W.to = .ok (.agg (u8s l).toArray) W.to :=
  load16 l (u8s l).toArray rfl hl h
theorem cut_to (g o n c k : Nat) (z : Int) (hz : z = (k : Int)) (h2 : k ≤ c) (W : World) :
    (Instr.sliceAt 23 (.slice (some ⟨g, o, none⟩) n c) none (some (.int .i64 z)) none).run Tryz.prog W = .ok (.slice (some ⟨g, o, none⟩) k c) W := by
  subst hz
  obtain ⟨i, hi, hs⟩ := Option.map_eq_some_iff.1 Tryz.size5
  have h4 : (k : Int) ≤ (c : Int) := by omega
  simp [Instr.sliceAt, Instr.sliceBounds, Instr.sureAddr, run_underlying Tryz.und22 W, sizeOf, typeInfo, hi, hs, go_sem, h4]
end Go.Proofs.YtdipflchmooakaaGreatDoor
