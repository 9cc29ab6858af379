/-
  The reference's product, powers and tables of GF(256): contracts.
-/
import Derived.Test.YtbcagjndbfpecaaDoorBase
import Derived.Test.YtbcagjndbfpecaaDoorApp
import Derived.Test.YtbcagjndbfpecaaDoorBoxM
namespace Go.Proofs.YtbcagjndbfpecaaDoor
open Go.RowKit Go.Gar

theorem ofInt64 (a : Nat) (ha : a < 9223372036854775808) : (BitVec.ofInt 64 (a : Int)).toNat = a := by
  rw [BitVec.ofInt_natCast, BitVec.toNat_ofNat]; exact Nat.mod_eq_of_lt (by omega)
theorem and64 (a b : Nat) (ha : a < 9223372036854775808) (hb : b < 9223372036854775808) : bits .and .i64 (a : Int) (b : Int) = ((a &&& b : Nat) : Int) := by
  show IntKind.i64.wrap ((BitVec.ofInt 64 (a : Int) &&& BitVec.ofInt 64 (b : Int)).toNat : Int) = _
  have hx : a &&& b ≤ a := Nat.and_le_left
  rw [BitVec.toNat_and, ofInt64 a ha, ofInt64 b hb, IntKind.wrap_i64]
  omega
theorem xor64 (a b : Nat) (ha : a < 9223372036854775808) (hb : b < 9223372036854775808) : bits .xor .i64 (a : Int) (b : Int) = ((a ^^^ b : Nat) : Int) := by
  show IntKind.i64.wrap ((BitVec.ofInt 64 (a : Int) ^^^ BitVec.ofInt 64 (b : Int)).toNat : Int) = _
  have hx : a ^^^ b < 2 ^ 63 := Nat.xor_lt_two_pow (by omega) (by omega)
  rw [BitVec.toNat_xor, ofInt64 a ha, ofInt64 b hb, IntKind.wrap_i64]
  omega
theorem tb_and (n k : Nat) : n / 2 ^ k &&& 1 = (n.testBit k).toNat := by
  rw [Nat.and_one_is_mod, Nat.testBit_eq_decide_div_mod_eq]
  rcases Nat.mod_two_eq_zero_or_one (n / 2 ^ k) with h | h <;> simp [h]
theorem bit64 (n k : Nat) (hn : n < 9223372036854775808) : bits .and .i64 ((n : Int) / 2 ^ k) 1 = ((n.testBit k).toNat : Int) := by
  have h : n / 2 ^ k ≤ n := Nat.div_le_self _ _
  have e := and64 (n / 2 ^ k) 1 (by omega) (by omega)
  rw [show (n : Int) / 2 ^ k = ((n / 2 ^ k : Nat) : Int) from by simp, show (1 : Int) = ((1 : Nat) : Int) from rfl, e, tb_and]
theorem bool_one (b : Bool) : (((b.toNat : Nat) : Int) == 1) = b := by cases b <;> rfl

theorem shl64 (a k : Nat) (ha : a * 2 ^ k < 9223372036854775808) : wrap64 ((a : Int) * 2 ^ k) = ((a <<< k : Nat) : Int) := by
  rw [Nat.shiftLeft_eq, show (a : Int) * 2 ^ k = ((a * 2 ^ k : Nat) : Int) from by push_cast; rfl]
  unfold wrap64; omega
theorem shl_small (a k : Nat) (ha : a < 512) (hk : k < 8) : a * 2 ^ k < 65536 := by
  have h1 : 2 ^ k ≤ 2 ^ 7 := Nat.pow_le_pow_right (by omega) (by omega)
  have h2 : a * 2 ^ k ≤ 511 * 2 ^ 7 := Nat.mul_le_mul (by omega) h1
  omega
theorem long_lt (a b i : Nat) (ha : a < 256) (hi : i ≤ 8) : Box.long a b i < 2 ^ 16 := by
  induction i with
  | zero => simp [Box.long]
  | succ i ih =>
    refine Nat.xor_lt_two_pow (ih (by omega)) ?_
    split
    · rw [Nat.shiftLeft_eq]
      have : 2 ^ i ≤ 2 ^ 7 := Nat.pow_le_pow_right (by omega) (by omega)
      calc a * 2 ^ i ≤ 255 * 2 ^ 7 := Nat.mul_le_mul (by omega) this
        _ < 2 ^ 16 := by decide
    · decide
theorem red_lt (n i : Nat) (hn : n < 2 ^ 16) (hi : i ≤ 7) : Box.red n i < 2 ^ 16 := by
  induction i with
  | zero => exact hn
  | succ i ih =>
    refine Nat.xor_lt_two_pow (ih (by omega)) ?_
    split
    · have h : ∀ j, j < 7 → 0x11b <<< (14 - j - 8) < 2 ^ 16 := by decide
      exact h i (by omega)
    · decide

set_option maxHeartbeats 1000000 in
theorem refMul_any (a b : Nat) (w : World) (ha : a < 256) (hb : b < 256) :
    Calls Tryd.prog 30 #[.int .u8 (a : Int), .int .u8 (b : Int)] w fun e w' => e = .returned (.int .u8 ((Box.mul a b : Nat) : Int)) ∧ w' = w := by
  go_enter Tryd.func30, Tryd.ntmps30
  go_wp2
  go_loop [5, 6] (fun n i => ∃ k m : Nat, k ≤ 8 ∧ i = .int .i64 k ∧ n = .int .i64 (m : Int) ∧ m = Box.long a b k) (fun _ i => 8 - (intOf i).toNat)
  case atStart => exact ⟨0, 0, by omega, rfl, rfl, rfl⟩
  case round =>
    obtain ⟨k, m, hk, rfl, rfl, hm⟩ := hrel
    have hml : m < 65536 := by rw [hm]; exact long_lt a b k ha hk
    by_cases hlt : k < 8
    · obtain ⟨t, ht⟩ : ∃ t, b.testBit k = t := ⟨_, rfl⟩
      have hbit : (bits .and .i64 ((b : Int) / 2 ^ k) 1 == 1) = t := by rw [bit64 b k (by omega), bool_one, ht]
      have HT := Lib.hid ht
      have HM := Lib.hid hm
      clear ht hm
      cases t with
      | true =>
        have HX : Hid (bits .xor .i64 (m : Int) (wrap64 ((a : Int) * 2 ^ k)) = ((m ^^^ a <<< k : Nat) : Int)) := Lib.hid (by
          have := shl_small a k (by omega) hlt
          rw [shl64 a k (by omega), xor64 m _ (by omega) (by rw [Nat.shiftLeft_eq]; omega)])
        go_wp2
        exact ⟨⟨k + 1, m ^^^ a <<< k, by omega, by go_num, by rw [HX.out], by rw [HM.out, Box.long, if_pos HT.out]⟩, by simp [intOf]; omega⟩
      | false =>
        go_wp2
        exact ⟨⟨k + 1, m, by omega, by go_num, rfl, by rw [HM.out, Box.long, if_neg (by rw [HT.out]; simp), Nat.xor_zero]⟩, by simp [intOf]; omega⟩
    · obtain rfl : k = 8 := by omega
      have HM := Lib.hid hm
      clear hm
      go_wp2
      go_loop [5, 7] (fun n i => ∃ p m : Nat, 7 ≤ p ∧ p ≤ 14 ∧ i = .int .i64 (p : Int) ∧ n = .int .i64 (m : Int) ∧ m = Box.red (Box.long a b 8) (14 - p)) (fun _ i => (intOf i).toNat)
      case atStart => exact ⟨14, m, by omega, by omega, rfl, rfl, HM.out⟩
      case round =>
        obtain ⟨p, r, hp7, hp14, rfl, rfl, hr⟩ := hrel
        have hrl : r < 65536 := by rw [hr]; exact red_lt _ _ (long_lt a b 8 ha (by omega)) (by omega)
        by_cases hlt : 7 < p
        · obtain ⟨t, ht⟩ : ∃ t, r.testBit p = t := ⟨_, rfl⟩
          have hbit : (bits .and .i64 ((r : Int) / 2 ^ p) 1 == 1) = t := by rw [bit64 r p (by omega), bool_one, ht]
          have HT := Lib.hid ht
          have HR := Lib.hid hr
          have HS : Hid (14 - (p - 1) = (14 - p) + 1) := Lib.hid (by omega)
          have HP : Hid (14 - (14 - p) = p) := Lib.hid (by omega)
          clear ht hr
          cases t with
          | true =>
            have HX : Hid (bits .xor .i64 (r : Int) (wrap64 (283 * 2 ^ (p - 8))) = ((r ^^^ 283 <<< (p - 8) : Nat) : Int)) := Lib.hid (by
              have := shl_small 283 (p - 8) (by omega) (by omega)
              have := shl64 283 (p - 8) (by omega)
              rw [show (283 : Int) = ((283 : Nat) : Int) from rfl, this, xor64 r _ (by omega) (by rw [Nat.shiftLeft_eq]; omega)])
            go_wp2
            exact ⟨⟨p - 1, r ^^^ 283 <<< (p - 8), by omega, by omega, by go_num, by rw [HX.out], by rw [HS.out, Box.red, HP.out, ← HR.out, if_pos HT.out]⟩, by simp [intOf]; omega⟩
          | false =>
            go_wp2
            exact ⟨⟨p - 1, r, by omega, by omega, by go_num, rfl, by rw [HS.out, Box.red, HP.out, ← HR.out, if_neg (by rw [HT.out]; simp), Nat.xor_zero]⟩, by simp [intOf]; omega⟩
        · obtain rfl : p = 7 := by omega
          have HR := Lib.hid hr
          clear hr
          go_wp2
          go_ret
          exact ⟨congrArg (fun v => Ending.returned (.int .u8 v)) (by rw [← Box.refmul_eq a b ha hb, Box.refmul, ← HR.out]; rfl), rfl⟩

theorem own_new (w : World) (base : Nat) (e : TypeId) (l : List UInt8) (hb : base ≤ w.heap.size) (hl : l.length ≤ 1000000000) : OwnB (w.alloc (.cells (u8s l).toArray e)) base e (.slice (some ⟨w.heap.size, 0, none⟩) l.length l.length) l := by
  refine ⟨by simp [u8s_len], .inr ⟨w.heap.size, l.length, (u8s l).toArray, rfl, hb, heap_alloc_new w _, Nat.le_refl _, by simp [maxLen]; omega, by simp [u8s_len], ?_⟩⟩
  rw [Nat.mul_one, ← u8s_len l, List.take_of_length_le (by simp)]

set_option maxHeartbeats 1000000 in
set_option maxRecDepth 100000 in
theorem refPowers_any (w : World) :
    Calls Tryd.prog 43 #[] w fun e w' => ∃ v, e = .returned v ∧ OwnB w' w.heap.size 5 v (Box.pows 255) ∧ Below w.heap.size w w' := by
  have HB0 := Lib.hid (own_new w w.heap.size 5 [1] (Nat.le_refl _) (by simp))
  have Hb0 := Lib.hid (below_alloc w (.cells (u8s [1]).toArray 5))
  go_enter Tryd.func43, Tryd.ntmps43
  go_wp2
  go_loopw [1, 2] (fun v i w' => ∃ k : Nat, 1 ≤ k ∧ k ≤ 255 ∧ i = .int .i64 (k : Int) ∧ OwnB w' w.heap.size 5 v (Box.pows k) ∧ Below w.heap.size w w') (fun _ i _ => 255 - (intOf i).toNat)
  case atStart => exact ⟨1, by omega, by omega, rfl, HB0.out, Hb0.out⟩
  case round =>
    obtain ⟨k, hk1, hk, rfl, hO, hb⟩ := hrel
    have HO := Lib.hid hO
    have Hb := Lib.hid hb
    clear hO hb
    by_cases hlt : k < 255
    · obtain ⟨g, cap, rest, rfl, hg, hcap, hB⟩ := HO.out.blk (by rw [Box.pows_len]; omega)
      have hc : wr.cell? ⟨g, k - 1, none⟩ = some (.int .u8 ((Box.pow (k - 1) : Nat) : Int)) := by
        rw [hB.cell, List.getElem?_append_left (by rw [u8s_len, Box.pows_len]; omega), u8s_get, Box.pows_get k (k - 1) (by omega)]
        simp [Box.ofNat_toNat _ (Box.pow_small _)]
      rw [Box.pows_len] at *
      clear hB
      obtain ⟨q, hq⟩ : ∃ q, Box.pow (k - 1) = q := ⟨_, rfl⟩
      have hq256 := Box.pow_small (k - 1)
      rw [hq] at hc hq256
      have HQ := Lib.hid hq
      clear hq
      go_wp2_with fail
      refine (refMul_any q 3 wr hq256 (by omega)).mono ?_
      rintro e w' ⟨rfl, rfl⟩
      have HP : Hid (Box.mul q 3 = Box.pow k) := Lib.hid (by
        obtain ⟨j, rfl⟩ : ∃ j, k = j + 1 := ⟨k - 1, by omega⟩
        rw [← HQ.out]; rfl)
      obtain ⟨v', w1, e1, ho1, hb1⟩ := app_one (P := Tryd.prog) 22 22 Tryd.und22 Tryd.info5 HO.out (Below.size Hb.out) (UInt8.ofNat (Box.mul q 3)) ((Box.mul q 3 : Nat) : Int) (by rw [Box.ofNat_toNat _ (Box.mul_lt q 3 hq256)]) (by rw [Box.pows_len]; omega)
      have HO1 := Lib.hid ho1
      have HB1 := Lib.hid (Below.trans Hb.out hb1)
      clear ho1 hb1
      go_wp2_with (at_builtin; refine wpList_append_run rfl (.tmp 8) (.tmp 15) _ rfl rfl rfl e1 ?_)
      exact ⟨⟨k + 1, by omega, by omega, by go_num, by rw [Box.pows_succ, ← HP.out]; exact HO1.out, HB1.out⟩, by simp [intOf]; omega⟩
    · obtain rfl : k = 255 := by omega
      go_wp2
      go_ret
      exact ⟨_, rfl, HO.out, Hb.out⟩
end Go.Proofs.YtbcagjndbfpecaaDoor
