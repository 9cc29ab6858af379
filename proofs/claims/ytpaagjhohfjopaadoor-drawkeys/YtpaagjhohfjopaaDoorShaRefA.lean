/-
  The reference's primes and roots, and math/bits.Mul64: contracts.
-/
import Derived.Test.YtpaagjhohfjopaaDoorBase
import Derived.Test.YtpaagjhohfjopaaDoorRow
import Derived.Test.YtpaagjhohfjopaaDoorBits
import Derived.Test.YtpaagjhohfjopaaDoorShaM
import Derived.Lib.Mul64
set_option maxRecDepth 100000
namespace Go.Proofs.YtpaagjhohfjopaaDoor
open Go.RowKit Go.Gar

namespace M64
theorem maskN (a : Nat) (ha : a < 18446744073709551616) : bits .and .u64 (a : Int) 4294967295 = ((a % 4294967296 : Nat) : Int) := by
  have h := and_u64 a 4294967295 ha (by omega)
  have e : a &&& 4294967295 = a % 4294967296 := Nat.and_two_pow_sub_one_eq_mod a 32
  rw [e] at h
  exact h
theorem divN (a : Nat) : (a : Int) / 4294967296 = ((a / 4294967296 : Nat) : Int) := by omega
theorem mulN (a b : Nat) : (a : Int) * (b : Int) = ((a * b : Nat) : Int) := (Int.natCast_mul a b).symm
theorem addN (a b : Nat) : (a : Int) + (b : Int) = ((a + b : Nat) : Int) := (Int.natCast_add a b).symm
theorem wrapN (a : Nat) (ha : a < 18446744073709551616) : IntKind.u64.wrap (a : Int) = (a : Int) := by rw [IntKind.wrap_u64]; omega
theorem wrapM (a : Nat) : IntKind.u64.wrap (a : Int) = ((a % 18446744073709551616 : Nat) : Int) := by rw [IntKind.wrap_u64]; omega
end M64

set_option maxHeartbeats 1000000 in
theorem mul64_any (x y : Nat) (hx : x < 18446744073709551616) (hy : y < 18446744073709551616) (w : World) :
    Calls Tryd.prog 26 #[.int .u64 x, .int .u64 y] w fun e w' => e = .returned (.tuple #[.int .u64 ((x * y / 18446744073709551616 : Nat) : Int), .int .u64 ((x * y % 18446744073709551616 : Nat) : Int)]) ∧ w' = w := by
  obtain ⟨bd, bt, bw, hhi⟩ := Lib.mul64_hi x y hx hy
  have ba := Lib.half_mul_le (a := x / 4294967296) (b := y / 4294967296) (by omega) (by omega)
  have bb := Lib.half_mul_le (a := x / 4294967296) (b := y % 4294967296) (by omega) (by omega)
  have bc := Lib.half_mul_le (a := x % 4294967296) (b := y / 4294967296) (by omega) (by omega)
  have ba' : x / 4294967296 * (y / 4294967296) < 18446744073709551616 := by omega
  have bb' : x / 4294967296 * (y % 4294967296) < 18446744073709551616 := by omega
  have bc' : x % 4294967296 * (y / 4294967296) < 18446744073709551616 := by omega
  have bh1 : x / 4294967296 * (y / 4294967296) + (x / 4294967296 * (y % 4294967296) + x % 4294967296 * (y % 4294967296) / 4294967296) / 4294967296 < 18446744073709551616 := by omega
  have bh : x / 4294967296 * (y / 4294967296) + (x / 4294967296 * (y % 4294967296) + x % 4294967296 * (y % 4294967296) / 4294967296) / 4294967296 + ((x / 4294967296 * (y % 4294967296) + x % 4294967296 * (y % 4294967296) / 4294967296) % 4294967296 + x % 4294967296 * (y / 4294967296)) / 4294967296 < 18446744073709551616 := by omega
  go_enter Tryd.func26, Tryd.ntmps26
  go_wp2
  simp only [M64.maskN x hx, M64.maskN y hy, M64.divN, M64.mulN, M64.addN, M64.wrapN _ bd, M64.wrapN _ bb', M64.wrapN _ bt, M64.maskN _ bt, M64.wrapN _ bc', M64.wrapN _ bw, M64.wrapN _ ba', M64.wrapN _ bh1, M64.wrapN _ bh, M64.wrapM (x * y)]
  rw [hhi]
  go_ret2
  exact ⟨rfl, rfl⟩

/-- Below 2^36 squares and cubes do not pass 2^108. -/
theorem sq_lt (n : Nat) (hn : n < 68719476736) : n * n < 4722366482869645213696 := Nat.mul_lt_mul'' hn hn
theorem cu_lt (n : Nat) (hn : n < 68719476736) : n * n * n < 324518553658426726783156020576256 := Nat.mul_lt_mul'' (sq_lt n hn) hn
theorem cu_hi (n : Nat) : n * n / 18446744073709551616 * n + n * n % 18446744073709551616 * n / 18446744073709551616 = n * n * n / 18446744073709551616 := by
  have e : n * n * n = 18446744073709551616 * (n * n / 18446744073709551616 * n) + n * n % 18446744073709551616 * n := by
    rw [← Nat.mul_assoc, ← Nat.add_mul, Nat.div_add_mod]
  rw [e, Nat.mul_add_div (by omega)]
theorem cu_lo (n : Nat) : n * n % 18446744073709551616 * n % 18446744073709551616 = n * n * n % 18446744073709551616 := by
  rw [Nat.mod_mul_mod]

set_option maxHeartbeats 1000000 in
theorem square_any (n p : Nat) (hn : n < 68719476736) (hp : p < 65536) (w : World) :
    Calls Tryd.prog 20 #[.int .u64 n, .int .i64 p] w fun e w' => e = .returned (.bool (Sha.good2 n p)) ∧ w' = w := by
  go_enter Tryd.func20, Tryd.ntmps20
  go_wp2_with fail
  refine (mul64_any n n (by omega) (by omega) w).mono ?_
  rintro e w' ⟨rfl, rfl⟩
  have hg : Sha.good2 n p = (decide (n * n / 18446744073709551616 < p) || (n * n / 18446744073709551616 == p && n * n % 18446744073709551616 == 0)) := rfl
  have HG := Lib.hid hg
  clear hg
  generalize n * n / 18446744073709551616 = h at HG ⊢
  generalize n * n % 18446744073709551616 = l at HG ⊢
  by_cases h1 : h < p
  · have H1 : Hid (decide (h < p) = true) := Lib.hid (by simpa using h1)
    go_wp2
    go_ret
    refine ⟨?_, rfl⟩
    rw [HG.out, H1.out]; rfl
  · have H1 : Hid (decide (h < p) = false) := Lib.hid (by simpa using h1)
    have h1' : p ≤ h := by omega
    clear h1
    by_cases h2 : h = p
    · have d2 : ((h : Int) == (p : Int)) = true := by simp; omega
      have H2 : Hid ((h == p) = true) := Lib.hid (by simpa using h2)
      clear h2
      go_wp2
      go_ret
      refine ⟨?_, rfl⟩
      rw [HG.out, H1.out, H2.out]
      show Ending.returned (.bool ((l : Int) == 0)) = _
      rw [show (0 : Int) = ((0 : Nat) : Int) from rfl, beq_cast]
      rfl
    · have d2 : ((h : Int) == (p : Int)) = false := by simp; omega
      have H2 : Hid ((h == p) = false) := Lib.hid (by simpa using h2)
      clear h2
      go_wp2
      go_ret
      refine ⟨?_, rfl⟩
      rw [HG.out, H1.out, H2.out]
      rfl

set_option maxHeartbeats 1000000 in
theorem cube_any (n p : Nat) (hn : n < 68719476736) (hp : p < 65536) (w : World) :
    Calls Tryd.prog 19 #[.int .u64 n, .int .i64 p] w fun e w' => e = .returned (.bool (Sha.good3 n p)) ∧ w' = w := by
  go_enter Tryd.func19, Tryd.ntmps19
  go_wp2_with fail
  refine (mul64_any n n (by omega) (by omega) w).mono ?_
  rintro e w' ⟨rfl, rfl⟩
  have hc := cu_hi n
  have hl := cu_lo n
  have hu := cu_lt n hn
  have hq : n * n % 18446744073709551616 < 18446744073709551616 := Nat.mod_lt _ (by omega)
  have hg : Sha.good3 n p = (decide (n * n * n / 18446744073709551616 < p * 4294967296) || (n * n * n / 18446744073709551616 == p * 4294967296 && n * n * n % 18446744073709551616 == 0)) := rfl
  have HG := Lib.hid hg
  clear hg
  have hcb : n * n * n / 18446744073709551616 < 18446744073709551616 := by omega
  clear hu
  generalize n * n / 18446744073709551616 = h at hc ⊢
  generalize n * n % 18446744073709551616 = q at hc hl hq ⊢
  generalize n * n * n / 18446744073709551616 = c at hc HG hcb
  generalize n * n * n % 18446744073709551616 = l at hl HG
  have HL := Lib.hid hl
  have HC := Lib.hid hc
  clear hl hc
  go_wp2_with fail
  refine (mul64_any q n hq (by omega) w').mono ?_
  rintro e w2 ⟨rfl, rfl⟩
  rw [HL.out]
  have hc := HC.out
  clear HC HL
  generalize q * n / 18446744073709551616 = a at hc ⊢
  have hE : IntKind.u64.wrap (IntKind.u64.wrap ((h : Int) * (n : Int)) + (a : Int)) = (c : Int) := by
    have hm : (h : Int) * (n : Int) = ((h * n : Nat) : Int) := (Int.natCast_mul _ _).symm
    rw [IntKind.wrap_u64, IntKind.wrap_u64, hm]; omega
  have HPb : Hid (p * 4294967296 < 18446744073709551616) := Lib.hid (by omega)
  clear hc
  by_cases h1 : c < p * 4294967296
  · have H1 : Hid (decide (c < p * 4294967296) = true) := Lib.hid (by simpa using h1)
    have d1 : decide ((c : Int) < (p : Int) * 4294967296) = true := by simp; omega
    clear h1
    go_wp2
    go_ret
    refine ⟨?_, rfl⟩
    rw [HG.out, H1.out]; rfl
  · have H1 : Hid (decide (c < p * 4294967296) = false) := Lib.hid (by simpa using h1)
    have d1 : decide ((c : Int) < (p : Int) * 4294967296) = false := by simp; omega
    by_cases h2 : c = p * 4294967296
    · have d2 : ((c : Int) == (p : Int) * 4294967296) = true := by simp; omega
      have H2 : Hid ((c == p * 4294967296) = true) := Lib.hid (by simpa using h2)
      clear h2 h1
      go_wp2
      go_ret
      refine ⟨?_, rfl⟩
      rw [HG.out, H1.out, H2.out]
      show Ending.returned (.bool ((l : Int) == 0)) = _
      rw [show (0 : Int) = ((0 : Nat) : Int) from rfl, beq_cast]
      rfl
    · have d2 : ((c : Int) == (p : Int) * 4294967296) = false := by simp; omega
      have H2 : Hid ((c == p * 4294967296) = false) := Lib.hid (by simpa using h2)
      clear h2 h1
      go_wp2
      go_ret
      refine ⟨?_, rfl⟩
      rw [HG.out, H1.out, H2.out]
      rfl

set_option maxHeartbeats 1000000 in
theorem root_any (p : Nat) (third : Bool) (hp : p < 65536) (w : World) :
    Calls Tryd.prog 15 #[.int .i64 p, .bool third] w fun e w' => e = .returned (.int .u32 ((Sha.root p third : Nat) : Int)) ∧ w' = w := by
  go_enter Tryd.func15, Tryd.ntmps15
  go_wp2
  go_loop [5, 6] (fun n i => ∃ k m : Nat, k ≤ 36 ∧ i = .int .i64 (35 - (k : Int)) ∧ n = .int .u64 (m : Int) ∧ m = Sha.rootK p third k) (fun _ i => (intOf i + 1).toNat)
  case atStart => exact ⟨0, 0, by omega, rfl, rfl, rfl⟩
  case round =>
    obtain ⟨k, m, hk, rfl, rfl, hm⟩ := hrel
    have hle := Sha.rootK_le p third k hk
    rw [← hm] at hle
    have HM := Lib.hid hm
    clear hm
    by_cases hlt : k < 36
    · have hz : ((35 : Int) - (k : Int)).toNat = 35 - k := by omega
      have he : 2 ^ (36 - k) = 2 ^ (35 - k) + 2 ^ (35 - k) := by rw [show 36 - k = (35 - k) + 1 from by omega, Nat.pow_succ]; omega
      have hp2 : 0 < 2 ^ (35 - k) := Nat.pow_pos (by omega)
      have hnx : m + 2 ^ (35 - k) < 68719476736 := by omega
      have HK : Hid (Sha.rootK p third (k + 1) = if Sha.good third (m + 2 ^ (35 - k)) p then m + 2 ^ (35 - k) else m) := Lib.hid (by rw [HM.out]; rfl)
      have hE : IntKind.u64.wrap ((m : Int) + IntKind.u64.wrap (2 ^ (35 - k))) = ((m + 2 ^ (35 - k) : Nat) : Int) := by
        have hb : 2 ^ (35 - k) ≤ 2 ^ 35 := Nat.pow_le_pow_right (by omega) (by omega)
        have h2 : ((2 : Int) ^ (35 - k)) = ((2 ^ (35 - k) : Nat) : Int) := by simp
        rw [IntKind.wrap_u64, IntKind.wrap_u64, h2]; omega
      clear he hle hp2
      obtain ⟨y, hy⟩ : ∃ y, m + 2 ^ (35 - k) = y := ⟨_, rfl⟩
      rw [hy] at hE HK hnx
      clear hy
      cases third with
      | true =>
        go_wp2_with fail
        refine (cube_any y p hnx hp w).mono ?_
        rintro e w' ⟨rfl, rfl⟩
        have HG : Hid (Sha.good true y p = Sha.good3 y p) := Lib.hid rfl
        cases hg : Sha.good3 y p with
        | true =>
          have HY : Hid (Sha.rootK p true (k + 1) = y) := Lib.hid (by rw [HK.out, HG.out, hg]; rfl)
          clear hg HK HG
          go_wp2
          exact ⟨⟨k + 1, y, by omega, by simp; omega, rfl, HY.out.symm⟩, by simp [intOf]; omega⟩
        | false =>
          have HY : Hid (Sha.rootK p true (k + 1) = m) := Lib.hid (by rw [HK.out, HG.out, hg]; rfl)
          clear hg HK HG
          go_wp2
          exact ⟨⟨k + 1, m, by omega, by simp; omega, rfl, HY.out.symm⟩, by simp [intOf]; omega⟩
      | false =>
        go_wp2_with fail
        refine (square_any y p hnx hp w).mono ?_
        rintro e w' ⟨rfl, rfl⟩
        have HG : Hid (Sha.good false y p = Sha.good2 y p) := Lib.hid rfl
        cases hg : Sha.good2 y p with
        | true =>
          have HY : Hid (Sha.rootK p false (k + 1) = y) := Lib.hid (by rw [HK.out, HG.out, hg]; rfl)
          clear hg HK HG
          go_wp2
          exact ⟨⟨k + 1, y, by omega, by simp; omega, rfl, HY.out.symm⟩, by simp [intOf]; omega⟩
        | false =>
          have HY : Hid (Sha.rootK p false (k + 1) = m) := Lib.hid (by rw [HK.out, HG.out, hg]; rfl)
          clear hg HK HG
          go_wp2
          exact ⟨⟨k + 1, m, by omega, by simp; omega, rfl, HY.out.symm⟩, by simp [intOf]; omega⟩
    · obtain rfl : k = 36 := by omega
      have HR : Hid ((m % 4294967296 : Nat) = Sha.root p third) := Lib.hid (by rw [HM.out]; rfl)
      clear hle
      go_wp2
      go_ret
      refine ⟨?_, rfl⟩
      rw [← HR.out]
      rfl

end Go.Proofs.YtpaagjhohfjopaaDoor
