/-
  The arithmetic of GF(256) as plain mathematics on numbers below 256: the product is bilinear, commutative, associative; its definition by long multiplication and reduction agrees with the one by doubling. No program's text. AES as plain mathematics on lists of bytes: the rounds, their inverses, the expanded key. No program's text. How a law's row is closed: a call that returned true and left every old block alone meets the row's demand, whatever its parameters' types. No program's text. Two closed facts on the translated program that every row asks.
-/
import Derived.WalkKit
import Derived.ProofKit
import Derived.OpenShut
import Derived.ShutString
import Derived.Carry
import Derived.Test.YtdipflchmooakaaGreatDoorWholeJ01
import Derived.Test.YtdipflchmooakaaGreatDoorRows
set_option maxRecDepth 100000
namespace Go.Gar.Box

/-- For all numbers below n. -/
def all (n : Nat) (f : Nat → Bool) : Bool := Nat.rec true (fun k r => f k && r) n
theorem all_spec {f : Nat → Bool} : ∀ {n : Nat}, all n f = true → ∀ k, k < n → f k = true
  | 0, _, k, hk => by omega
  | n + 1, h, k, hk => by
    have h' : (f n && all n f) = true := h
    rw [Bool.and_eq_true] at h'
    by_cases hkn : k = n
    · rw [hkn]; exact h'.1
    · exact all_spec h'.2 k (by omega)

/-- Times x. -/
def xt (a : Nat) : Nat := if a < 128 then 2 * a else (2 * a - 256) ^^^ 27
def mulN : Nat → Nat → Nat → Nat → Nat
  | 0, _, _, p => p
  | n + 1, a, b, p => mulN n (xt a) (b / 2) (if b % 2 = 1 then p ^^^ a else p)
def mul (a b : Nat) : Nat := mulN 8 a b 0

theorem xt_lt (a : Nat) (h : a < 256) : xt a < 256 := by
  have := all_spec (f := fun a => Nat.blt (xt a) 256) (n := 256) (by decide +kernel) a h
  exact Nat.le_of_ble_eq_true this
theorem xt_xor (a b : Nat) (ha : a < 256) (hb : b < 256) : xt (a ^^^ b) = xt a ^^^ xt b := by
  have h1 := all_spec (f := fun a => all 256 fun b => (xt (a ^^^ b)).beq (xt a ^^^ xt b)) (n := 256) (by decide +kernel) a ha
  have h2 := all_spec h1 b hb
  exact Nat.eq_of_beq_eq_true h2
theorem xor_lt {a b : Nat} (ha : a < 256) (hb : b < 256) : a ^^^ b < 256 := Nat.xor_lt_two_pow (n := 8) ha hb

theorem mulN_acc (n : Nat) : ∀ a b p : Nat, mulN n a b p = mulN n a b 0 ^^^ p := by
  induction n with
  | zero => intro a b p; simp [mulN]
  | succ n ih =>
    intro a b p
    simp only [mulN]
    rw [ih _ _ (if b % 2 = 1 then p ^^^ a else p), ih _ _ (if b % 2 = 1 then 0 ^^^ a else 0)]
    by_cases h : b % 2 = 1
    · simp only [h, if_true, Nat.zero_xor]
      rw [Nat.xor_assoc, Nat.xor_comm a p]
    · simp [h]
theorem mulN_left (n : Nat) : ∀ a c b : Nat, a < 256 → c < 256 → mulN n (a ^^^ c) b 0 = mulN n a b 0 ^^^ mulN n c b 0 := by
  induction n with
  | zero => intro a c b _ _; simp [mulN]
  | succ n ih =>
    intro a c b ha hc
    simp only [mulN]
    rw [mulN_acc n (xt (a ^^^ c)), mulN_acc n (xt a), mulN_acc n (xt c), xt_xor a c ha hc, ih _ _ _ (xt_lt a ha) (xt_lt c hc)]
    by_cases h : b % 2 = 1
    · simp only [h, if_true, Nat.zero_xor]
      generalize mulN n (xt a) (b / 2) 0 = x
      generalize mulN n (xt c) (b / 2) 0 = y
      rw [Nat.xor_assoc, Nat.xor_assoc, ← Nat.xor_assoc y, ← Nat.xor_assoc a, Nat.xor_comm y a]
    · simp [h]
theorem half_xor (b c : Nat) : (b ^^^ c) / 2 = b / 2 ^^^ c / 2 := by
  exact Nat.xor_div_two
theorem mulN_right (n : Nat) : ∀ a b c : Nat, mulN n a (b ^^^ c) 0 = mulN n a b 0 ^^^ mulN n a c 0 := by
  induction n with
  | zero => intro a b c; simp [mulN]
  | succ n ih =>
    intro a b c
    simp only [mulN]
    rw [mulN_acc n (xt a) ((b ^^^ c) / 2), mulN_acc n (xt a) (b / 2), mulN_acc n (xt a) (c / 2), half_xor, ih]
    generalize mulN n (xt a) (b / 2) 0 = x
    generalize mulN n (xt a) (c / 2) 0 = y
    have hb : b % 2 = 0 ∨ b % 2 = 1 := by omega
    have hc : c % 2 = 0 ∨ c % 2 = 1 := by omega
    rcases hb with hb | hb <;> rcases hc with hc | hc <;> simp [hb, hc, Nat.xor_mod_two_eq_one]
    · rw [Nat.xor_assoc]
    · rw [Nat.xor_assoc, Nat.xor_assoc, Nat.xor_comm y a]
    · rw [Nat.xor_assoc, Nat.xor_comm a, Nat.xor_assoc y, Nat.xor_self, Nat.xor_zero]
theorem mulN_lt (n : Nat) : ∀ a b p : Nat, a < 256 → p < 256 → mulN n a b p < 256 := by
  induction n with
  | zero => intro a b p _ hp; exact hp
  | succ n ih =>
    intro a b p ha hp
    simp only [mulN]
    refine ih _ _ _ (xt_lt a ha) ?_
    split
    · exact xor_lt hp ha
    · exact hp
theorem mul_lt (a b : Nat) (ha : a < 256) : mul a b < 256 := mulN_lt 8 a b 0 ha (by omega)
theorem mul_left (a c b : Nat) (ha : a < 256) (hc : c < 256) : mul (a ^^^ c) b = mul a b ^^^ mul c b := mulN_left 8 a c b ha hc
theorem mul_right (a b c : Nat) : mul a (b ^^^ c) = mul a b ^^^ mul a c := mulN_right 8 a b c

/-- Two linear functions that agree on the powers of two agree below 256. -/
theorem lin_ext (f g : Nat → Nat) (hf : ∀ a b, a < 256 → b < 256 → f (a ^^^ b) = f a ^^^ f b) (hg : ∀ a b, a < 256 → b < 256 → g (a ^^^ b) = g a ^^^ g b) (h0 : f 0 = g 0) (h : ∀ i, i < 8 → f (2 ^ i) = g (2 ^ i)) : ∀ b, b < 256 → f b = g b := by
  suffices H : ∀ n, n ≤ 8 → ∀ b, b < 2 ^ n → f b = g b from fun b hb => H 8 (by omega) b hb
  intro n
  induction n with
  | zero =>
    intro _ b hb
    obtain rfl : b = 0 := by omega
    exact h0
  | succ n ih =>
    intro hn b hb
    have hp : 2 ^ n ≤ 128 := by
      have : 2 ^ n ≤ 2 ^ 7 := Nat.pow_le_pow_right (by omega) (by omega)
      omega
    rw [Nat.pow_succ] at hb
    by_cases hlt : b < 2 ^ n
    · exact ih (by omega) b hlt
    · have hb1 : b - 2 ^ n < 2 ^ n := by omega
      have e : b = 2 ^ n ^^^ (b - 2 ^ n) := by
        apply Nat.eq_of_testBit_eq
        intro j
        have e1 : b = 2 ^ n * 1 + (b - 2 ^ n) := by omega
        rw [Nat.testBit_xor, Nat.testBit_two_pow]
        conv => lhs; rw [e1, Nat.testBit_two_pow_mul_add _ hb1]
        by_cases hj : j < n
        · have hne : ¬ n = j := by omega
          simp [hj, hne]
        · have h2 : (b - 2 ^ n).testBit j = false := Nat.testBit_lt_two_pow (Nat.lt_of_lt_of_le hb1 (Nat.pow_le_pow_right (by omega) (by omega)))
          rw [if_neg hj, h2]
          by_cases hjn : n = j
          · subst hjn; simp
          · have h3 : Nat.testBit 1 (j - n) = false := Nat.testBit_lt_two_pow (by
              have : 2 ^ 1 ≤ 2 ^ (j - n) := Nat.pow_le_pow_right (by omega) (by omega)
              omega)
            simp [hjn, h3]
      rw [e, hf _ _ (by omega) (by omega), hg _ _ (by omega) (by omega), h n (by omega), ih (by omega) _ hb1]

theorem mulN_zero (n : Nat) : ∀ b, mulN n 0 b 0 = 0 := by
  induction n with
  | zero => intro b; rfl
  | succ n ih =>
    intro b
    simp only [mulN]
    rw [show xt 0 = 0 from rfl]
    split
    · exact ih _
    · exact ih _
theorem mul_zero_left (b : Nat) : mul 0 b = 0 := mulN_zero 8 b
theorem mulN_zero_right (n : Nat) : ∀ a, mulN n a 0 0 = 0 := by
  induction n with
  | zero => intro a; rfl
  | succ n ih => intro a; simp only [mulN]; exact ih _
theorem mul_zero_right (a : Nat) : mul a 0 = 0 := mulN_zero_right 8 a
theorem pow_lt (i : Nat) (h : i < 8) : 2 ^ i < 256 := by
  have : 2 ^ i ≤ 2 ^ 7 := Nat.pow_le_pow_right (by omega) (by omega)
  omega

theorem mul_comm (a b : Nat) (ha : a < 256) (hb : b < 256) : mul a b = mul b a := by
  refine lin_ext (fun b => mul a b) (fun b => mul b a) (fun b c _ _ => mul_right a b c) (fun b c hb hc => mul_left b c a hb hc) (by simp [mul_zero_left, mul_zero_right]) (fun i hi => ?_) b hb
  refine lin_ext (fun a => mul a (2 ^ i)) (fun a => mul (2 ^ i) a) (fun a c ha hc => mul_left a c _ ha hc) (fun a c _ _ => mul_right _ a c) (by simp [mul_zero_left, mul_zero_right]) (fun j hj => ?_) a ha
  have h1 := all_spec (f := fun i => all 8 fun j => (mul (2 ^ j) (2 ^ i)).beq (mul (2 ^ i) (2 ^ j))) (n := 8) (by decide +kernel) i hi
  exact Nat.eq_of_beq_eq_true (all_spec h1 j hj)
theorem mul_assoc (a b c : Nat) (ha : a < 256) (hb : b < 256) (hc : c < 256) : mul a (mul b c) = mul (mul a b) c := by
  refine lin_ext (fun c => mul a (mul b c)) (fun c => mul (mul a b) c) (fun c d _ _ => ?_) (fun c d _ _ => mul_right _ c d) (by simp [mul_zero_right]) (fun k hk => ?_) c hc
  · show mul a (mul b (c ^^^ d)) = _
    rw [mul_right, mul_right]
  refine lin_ext (fun b => mul a (mul b (2 ^ k))) (fun b => mul (mul a b) (2 ^ k)) (fun b d hb hd => ?_) (fun b d _ _ => ?_) (by simp [mul_zero_right, mul_zero_left]) (fun j hj => ?_) b hb
  · show mul a (mul (b ^^^ d) _) = _
    rw [mul_left b d _ hb hd, mul_right]
  · show mul (mul a (b ^^^ d)) _ = _
    rw [mul_right, mul_left _ _ _ (mul_lt a b ha) (mul_lt a d ha)]
  refine lin_ext (fun a => mul a (mul (2 ^ j) (2 ^ k))) (fun a => mul (mul a (2 ^ j)) (2 ^ k)) (fun a d ha hd => mul_left a d _ ha hd) (fun a d ha hd => ?_) (by simp [mul_zero_left]) (fun i hi => ?_) a ha
  · show mul (mul (a ^^^ d) _) _ = _
    rw [mul_left a d _ ha hd, mul_left _ _ _ (mul_lt a _ ha) (mul_lt d _ hd)]
  have h1 := all_spec (f := fun k => all 8 fun j => all 8 fun i => (mul (2 ^ i) (mul (2 ^ j) (2 ^ k))).beq (mul (mul (2 ^ i) (2 ^ j)) (2 ^ k))) (n := 8) (by decide +kernel) k hk
  exact Nat.eq_of_beq_eq_true (all_spec (all_spec h1 j hj) i hi)
theorem mul_one (a : Nat) : mul a 1 = a := by simp [mul, mulN]

/-- Long multiplication: a shifted by i wherever bit i of b is set. -/
def long (a b : Nat) : Nat → Nat
  | 0 => 0
  | i + 1 => long a b i ^^^ (if b.testBit i then a <<< i else 0)
/-- The reduction, from bit 14 down to bit 8. -/
def red (n : Nat) : Nat → Nat
  | 0 => n
  | i + 1 => red n i ^^^ (if (red n i).testBit (14 - i) then 0x11b <<< (14 - i - 8) else 0)
def refmul (a b : Nat) : Nat := red (long a b 8) 7 % 256
theorem long_left (a c b : Nat) (i : Nat) : long (a ^^^ c) b i = long a b i ^^^ long c b i := by
  induction i with
  | zero => simp [long]
  | succ i ih =>
    simp only [long]
    rw [ih]
    split
    · rw [Nat.shiftLeft_xor_distrib]; ac_rfl
    · simp
theorem long_right (a b c : Nat) (i : Nat) : long a (b ^^^ c) i = long a b i ^^^ long a c i := by
  induction i with
  | zero => simp [long]
  | succ i ih =>
    simp only [long]
    rw [ih, Nat.testBit_xor]
    have e : (if (b.testBit i ^^ c.testBit i) = true then a <<< i else 0) = (if b.testBit i = true then a <<< i else 0) ^^^ (if c.testBit i = true then a <<< i else 0) := by
      cases b.testBit i <;> cases c.testBit i <;> simp
    rw [e]; ac_rfl
theorem red_xor (n m : Nat) (i : Nat) : red (n ^^^ m) i = red n i ^^^ red m i := by
  induction i with
  | zero => rfl
  | succ i ih =>
    simp only [red]
    rw [ih, Nat.testBit_xor]
    have e : (if ((red n i).testBit (14 - i) ^^ (red m i).testBit (14 - i)) = true then 0x11b <<< (14 - i - 8) else 0) = (if (red n i).testBit (14 - i) = true then 0x11b <<< (14 - i - 8) else 0) ^^^ (if (red m i).testBit (14 - i) = true then 0x11b <<< (14 - i - 8) else 0) := by
      cases (red n i).testBit (14 - i) <;> cases (red m i).testBit (14 - i) <;> simp
    rw [e]; ac_rfl
theorem mod_xor (n m : Nat) : (n ^^^ m) % 256 = n % 256 ^^^ m % 256 := Nat.xor_mod_two_pow (n := 8)
theorem refmul_left (a c b : Nat) : refmul (a ^^^ c) b = refmul a b ^^^ refmul c b := by
  unfold refmul; rw [long_left, red_xor, mod_xor]
theorem refmul_right (a b c : Nat) : refmul a (b ^^^ c) = refmul a b ^^^ refmul a c := by
  unfold refmul; rw [long_right, red_xor, mod_xor]
theorem refmul_zero (b : Nat) : refmul 0 b = 0 := by
  have h := refmul_left 0 0 b
  rw [Nat.xor_self] at h
  rw [Nat.xor_self] at h
  exact h
theorem refmul_zero_right (a : Nat) : refmul a 0 = 0 := by
  have h := refmul_right a 0 0
  rw [Nat.xor_self] at h
  rw [Nat.xor_self] at h
  exact h
theorem refmul_eq (a b : Nat) (ha : a < 256) (hb : b < 256) : refmul a b = mul a b := by
  refine lin_ext (fun b => refmul a b) (fun b => mul a b) (fun b c _ _ => refmul_right a b c) (fun b c _ _ => mul_right a b c) (by simp [refmul_zero_right, mul_zero_right]) (fun i hi => ?_) b hb
  refine lin_ext (fun a => refmul a (2 ^ i)) (fun a => mul a (2 ^ i)) (fun a c _ _ => refmul_left a c _) (fun a c ha hc => mul_left a c _ ha hc) (by simp [refmul_zero, mul_zero_left]) (fun j hj => ?_) a ha
  have h1 := all_spec (f := fun i => all 8 fun j => (refmul (2 ^ j) (2 ^ i)).beq (mul (2 ^ j) (2 ^ i))) (n := 8) (by decide +kernel) i hi
  exact Nat.eq_of_beq_eq_true (all_spec h1 j hj)

def invL : List Nat := [0, 1, 141, 246, 203, 82, 123, 209, 232, 79, 41, 192, 176, 225, 229, 199, 116, 180, 170, 75, 153, 43, 96, 95, 88, 63, 253, 204, 255, 64, 238, 178, 58, 110, 90, 241, 85, 77, 168, 201, 193, 10, 152, 21, 48, 68, 162, 194, 44, 69, 146, 108, 243, 57, 102, 66, 242, 53, 32, 111, 119, 187, 89, 25, 29, 254, 55, 103, 45, 49, 245, 105, 167, 100, 171, 19, 84, 37, 233, 9, 237, 92, 5, 202, 76, 36, 135, 191, 24, 62, 34, 240, 81, 236, 97, 23, 22, 94, 175, 211, 73, 166, 54, 67, 244, 71, 145, 223, 51, 147, 33, 59, 121, 183, 151, 133, 16, 181, 186, 60, 182, 112, 208, 6, 161, 250, 129, 130, 131, 126, 127, 128, 150, 115, 190, 86, 155, 158, 149, 217, 247, 2, 185, 164, 222, 106, 50, 109, 216, 138, 132, 114, 42, 20, 159, 136, 249, 220, 137, 154, 251, 124, 46, 195, 143, 184, 101, 72, 38, 200, 18, 74, 206, 231, 210, 98, 12, 224, 31, 239, 17, 117, 120, 113, 165, 142, 118, 61, 189, 188, 134, 87, 11, 40, 47, 163, 218, 212, 228, 15, 169, 39, 83, 4, 27, 252, 172, 230, 122, 7, 174, 99, 197, 219, 226, 234, 148, 139, 196, 213, 157, 248, 144, 107, 177, 13, 214, 235, 198, 14, 207, 173, 8, 78, 215, 227, 93, 80, 30, 179, 91, 35, 56, 52, 104, 70, 3, 140, 221, 156, 125, 160, 205, 26, 65, 28]
def sboxL : List Nat := [99, 124, 119, 123, 242, 107, 111, 197, 48, 1, 103, 43, 254, 215, 171, 118, 202, 130, 201, 125, 250, 89, 71, 240, 173, 212, 162, 175, 156, 164, 114, 192, 183, 253, 147, 38, 54, 63, 247, 204, 52, 165, 229, 241, 113, 216, 49, 21, 4, 199, 35, 195, 24, 150, 5, 154, 7, 18, 128, 226, 235, 39, 178, 117, 9, 131, 44, 26, 27, 110, 90, 160, 82, 59, 214, 179, 41, 227, 47, 132, 83, 209, 0, 237, 32, 252, 177, 91, 106, 203, 190, 57, 74, 76, 88, 207, 208, 239, 170, 251, 67, 77, 51, 133, 69, 249, 2, 127, 80, 60, 159, 168, 81, 163, 64, 143, 146, 157, 56, 245, 188, 182, 218, 33, 16, 255, 243, 210, 205, 12, 19, 236, 95, 151, 68, 23, 196, 167, 126, 61, 100, 93, 25, 115, 96, 129, 79, 220, 34, 42, 144, 136, 70, 238, 184, 20, 222, 94, 11, 219, 224, 50, 58, 10, 73, 6, 36, 92, 194, 211, 172, 98, 145, 149, 228, 121, 231, 200, 55, 109, 141, 213, 78, 169, 108, 86, 244, 234, 101, 122, 174, 8, 186, 120, 37, 46, 28, 166, 180, 198, 232, 221, 116, 31, 75, 189, 139, 138, 112, 62, 181, 102, 72, 3, 246, 14, 97, 53, 87, 185, 134, 193, 29, 158, 225, 248, 152, 17, 105, 217, 142, 148, 155, 30, 135, 233, 206, 85, 40, 223, 140, 161, 137, 13, 191, 230, 66, 104, 65, 153, 45, 15, 176, 84, 187, 22]
def backL : List Nat := [82, 9, 106, 213, 48, 54, 165, 56, 191, 64, 163, 158, 129, 243, 215, 251, 124, 227, 57, 130, 155, 47, 255, 135, 52, 142, 67, 68, 196, 222, 233, 203, 84, 123, 148, 50, 166, 194, 35, 61, 238, 76, 149, 11, 66, 250, 195, 78, 8, 46, 161, 102, 40, 217, 36, 178, 118, 91, 162, 73, 109, 139, 209, 37, 114, 248, 246, 100, 134, 104, 152, 22, 212, 164, 92, 204, 93, 101, 182, 146, 108, 112, 72, 80, 253, 237, 185, 218, 94, 21, 70, 87, 167, 141, 157, 132, 144, 216, 171, 0, 140, 188, 211, 10, 247, 228, 88, 5, 184, 179, 69, 6, 208, 44, 30, 143, 202, 63, 15, 2, 193, 175, 189, 3, 1, 19, 138, 107, 58, 145, 17, 65, 79, 103, 220, 234, 151, 242, 207, 206, 240, 180, 230, 115, 150, 172, 116, 34, 231, 173, 53, 133, 226, 249, 55, 232, 28, 117, 223, 110, 71, 241, 26, 113, 29, 41, 197, 137, 111, 183, 98, 14, 170, 24, 190, 27, 252, 86, 62, 75, 198, 210, 121, 32, 154, 219, 192, 254, 120, 205, 90, 244, 31, 221, 168, 51, 136, 7, 199, 49, 177, 18, 16, 89, 39, 128, 236, 95, 96, 81, 127, 169, 25, 181, 74, 13, 45, 229, 122, 159, 147, 201, 156, 239, 160, 224, 59, 77, 174, 42, 245, 176, 200, 235, 187, 60, 131, 83, 153, 97, 23, 43, 4, 126, 186, 119, 214, 38, 225, 105, 20, 99, 85, 33, 12, 125]
def inv (a : Nat) : Nat := invL.getD a 0
def sbox (a : Nat) : Nat := sboxL.getD a 0
def back (a : Nat) : Nat := backL.getD a 0
def rot (c i : Nat) : Nat := (c <<< i ||| c >>> (8 - i)) % 256
def affine (c : Nat) : Nat := c ^^^ rot c 1 ^^^ rot c 2 ^^^ rot c 3 ^^^ rot c 4 ^^^ 0x63

theorem inv_lt (a : Nat) (h : a < 256) : inv a < 256 := Nat.le_of_ble_eq_true (all_spec (f := fun a => Nat.ble (inv a + 1) 256) (n := 256) (by decide +kernel) a h)
theorem sbox_lt (a : Nat) (h : a < 256) : sbox a < 256 := Nat.le_of_ble_eq_true (all_spec (f := fun a => Nat.ble (sbox a + 1) 256) (n := 256) (by decide +kernel) a h)
theorem back_lt (a : Nat) (h : a < 256) : back a < 256 := Nat.le_of_ble_eq_true (all_spec (f := fun a => Nat.ble (back a + 1) 256) (n := 256) (by decide +kernel) a h)
theorem inv_zero : inv 0 = 0 := rfl
theorem inv_mul (a : Nat) (h0 : 0 < a) (h : a < 256) : mul a (inv a) = 1 := by
  have := all_spec (f := fun a => (mul a (inv a)).beq (if a = 0 then 0 else 1)) (n := 256) (by decide +kernel) a h
  have := Nat.eq_of_beq_eq_true this
  rw [if_neg (by omega)] at this
  exact this
theorem inv_unique (a b : Nat) (ha : a < 256) (hb : b < 256) (h : mul a b = 1) : b = inv a := by
  have h0 : 0 < a := by
    rcases Nat.eq_zero_or_pos a with h0 | h0
    · rw [h0, mul_zero_left] at h; cases h
    · exact h0
  have h1 := inv_mul a h0 ha
  have hi := inv_lt a ha
  have h2 := mul_assoc (inv a) a b hi ha hb
  rw [h, mul_comm (inv a) a hi ha, h1, mul_one, mul_comm 1 b (by omega) hb, mul_one] at h2
  exact h2.symm
theorem sbox_def (a : Nat) (h : a < 256) : sbox a = affine (inv a) := Nat.eq_of_beq_eq_true (all_spec (f := fun a => (sbox a).beq (affine (inv a))) (n := 256) (by decide +kernel) a h)
theorem back_sbox (a : Nat) (h : a < 256) : back (sbox a) = a := Nat.eq_of_beq_eq_true (all_spec (f := fun a => (back (sbox a)).beq a) (n := 256) (by decide +kernel) a h)
theorem sbox_back (a : Nat) (h : a < 256) : sbox (back a) = a := Nat.eq_of_beq_eq_true (all_spec (f := fun a => (sbox (back a)).beq a) (n := 256) (by decide +kernel) a h)
theorem sbox_ne (a : Nat) (h : a < 256) : sbox a ≠ a := by
  have := all_spec (f := fun a => !(sbox a).beq a) (n := 256) (by decide +kernel) a h
  intro e
  rw [e] at this
  simp at this
/-- The powers of 3. -/
def pow : Nat → Nat
  | 0 => 1
  | i + 1 => mul (pow i) 3
theorem pow_small (i : Nat) : pow i < 256 := by
  induction i with
  | zero => decide
  | succ i ih => exact mul_lt _ _ ih
def pows (n : Nat) : List UInt8 := (List.range n).map fun i => UInt8.ofNat (pow i)
theorem pows_len (n : Nat) : (pows n).length = n := by simp [pows]
theorem pows_succ (n : Nat) : pows (n + 1) = pows n ++ [UInt8.ofNat (pow n)] := by simp [pows, List.range_succ]
theorem pows_get (n i : Nat) (h : i < n) : (pows n)[i]? = some (UInt8.ofNat (pow i)) := by
  simp [pows, h]
/-- A bit of the substitution, after k of its four further terms; the sum of the bits, after i of them. -/
def bitK (c i : Nat) : Nat → Nat
  | 0 => (c.testBit i).toNat
  | k + 1 => bitK c i k ^^^ (c.testBit ((i + (4 + k)) % 8)).toNat
def sumK (c : Nat) : Nat → Nat
  | 0 => 0
  | i + 1 => sumK c i + bitK c i 4 <<< i
theorem toNat_lt2 (b : Bool) : b.toNat < 2 := by cases b <;> decide
theorem bitK_lt (c i k : Nat) : bitK c i k < 2 := by
  induction k with
  | zero => exact toNat_lt2 _
  | succ k ih => exact Nat.xor_lt_two_pow (n := 1) ih (toNat_lt2 _)
theorem sumK_lt (c i : Nat) : sumK c i < 2 ^ i := by
  induction i with
  | zero => simp [sumK]
  | succ i ih =>
    have h := bitK_lt c i 4
    have h2 : bitK c i 4 * 2 ^ i ≤ 1 * 2 ^ i := Nat.mul_le_mul_right _ (by omega)
    rw [sumK, Nat.shiftLeft_eq, Nat.pow_succ]
    omega
theorem sumK_affine (c : Nat) (h : c < 256) : sumK c 8 ^^^ 99 = affine c := Nat.eq_of_beq_eq_true (all_spec (f := fun c => (sumK c 8 ^^^ 99).beq (affine c)) (n := 256) (by decide +kernel) c h)
def itab : Nat → List UInt8
  | 0 => List.replicate 256 0
  | k + 1 => (itab k).set (pow k) (UInt8.ofNat (pow ((255 - k) % 255)))
theorem itab_len (k : Nat) : (itab k).length = 256 := by
  induction k with
  | zero => exact List.length_replicate
  | succ k ih => simp [itab, ih]
def invB : List UInt8 := invL.map UInt8.ofNat
def sboxB : List UInt8 := sboxL.map UInt8.ofNat
def backB : List UInt8 := backL.map UInt8.ofNat
theorem itab_end : itab 255 = invB := by decide +kernel
def ttab (k : Nat) : List UInt8 := sboxB.take k ++ List.replicate (256 - k) 0
theorem sboxB_len : sboxB.length = 256 := by decide +kernel
theorem invB_len : invB.length = 256 := by decide +kernel
theorem backB_len : backB.length = 256 := by decide +kernel
theorem ttab_end : ttab 256 = sboxB := by rw [ttab, List.take_of_length_le (by rw [sboxB_len]; omega)]; simp
theorem ttab_len (k : Nat) (h : k ≤ 256) : (ttab k).length = 256 := by simp [ttab, sboxB_len]; omega
def btab : Nat → List UInt8
  | 0 => List.replicate 256 0
  | k + 1 => (btab k).set (sbox k) (UInt8.ofNat k)
theorem btab_len (k : Nat) : (btab k).length = 256 := by
  induction k with
  | zero => exact List.length_replicate
  | succ k ih => simp [btab, ih]
theorem btab_end : btab 256 = backB := by decide +kernel
theorem invB_get (a : Nat) (h : a < 256) : invB[a]? = some (UInt8.ofNat (inv a)) := by
  have : a < invL.length := by rw [show invL.length = 256 from by decide +kernel]; exact h
  simp [invB, inv, this]
theorem sboxB_get (a : Nat) (h : a < 256) : sboxB[a]? = some (UInt8.ofNat (sbox a)) := by
  have : a < sboxL.length := by rw [show sboxL.length = 256 from by decide +kernel]; exact h
  simp [sboxB, sbox, this]
theorem backB_get (a : Nat) (h : a < 256) : backB[a]? = some (UInt8.ofNat (back a)) := by
  have : a < backL.length := by rw [show backL.length = 256 from by decide +kernel]; exact h
  simp [backB, back, this]
theorem ttab_set (a : Nat) (h : a < 256) : (ttab a).set a (UInt8.ofNat (sbox a)) = ttab (a + 1) := by
  have hs := sboxB_len
  have hg := sboxB_get a h
  rw [List.getElem?_eq_getElem (by omega)] at hg
  injection hg with hg
  unfold ttab
  rw [List.take_succ_eq_append_getElem (by omega), hg, show 256 - a = (256 - (a + 1)) + 1 from by omega, List.replicate_succ]
  rw [List.set_append_right _ _ (by simp [hs]; omega)]
  have : a - (sboxB.take a).length = 0 := by simp [hs]; omega
  rw [this]
  simp
theorem ofNat_toNat (a : Nat) (h : a < 256) : (UInt8.ofNat a).toNat = a := by
  rw [UInt8.toNat_ofNat']; exact Nat.mod_eq_of_lt h
end Go.Gar.Box
namespace Go.Gar.Aes
open Go.Gar

def gm (a b : UInt8) : UInt8 := UInt8.ofNat (Box.mul a.toNat b.toNat)
def sb (a : UInt8) : UInt8 := UInt8.ofNat (Box.sbox a.toNat)
def ib (a : UInt8) : UInt8 := UInt8.ofNat (Box.back a.toNat)
theorem u8lt (a : UInt8) : a.toNat < 256 := a.toNat_lt
theorem gm_toNat (a b : UInt8) : (gm a b).toNat = Box.mul a.toNat b.toNat := Box.ofNat_toNat _ (Box.mul_lt _ _ (u8lt a))
theorem sb_toNat (a : UInt8) : (sb a).toNat = Box.sbox a.toNat := Box.ofNat_toNat _ (Box.sbox_lt _ (u8lt a))
theorem ib_toNat (a : UInt8) : (ib a).toNat = Box.back a.toNat := Box.ofNat_toNat _ (Box.back_lt _ (u8lt a))
theorem u8ext {a b : UInt8} (h : a.toNat = b.toNat) : a = b := UInt8.toNat_inj.1 h
theorem gm_right (a b c : UInt8) : gm a (b ^^^ c) = gm a b ^^^ gm a c := u8ext (by
  rw [gm_toNat, UInt8.toNat_xor, UInt8.toNat_xor, gm_toNat, gm_toNat, Box.mul_right])
theorem gm_left (a c b : UInt8) : gm (a ^^^ c) b = gm a b ^^^ gm c b := u8ext (by
  rw [gm_toNat, UInt8.toNat_xor, UInt8.toNat_xor, gm_toNat, gm_toNat, Box.mul_left _ _ _ (u8lt a) (u8lt c)])
theorem gm_one (a : UInt8) : gm a 1 = a := u8ext (by rw [gm_toNat]; exact Box.mul_one _)
theorem gm_comm (a b : UInt8) : gm a b = gm b a := u8ext (by rw [gm_toNat, gm_toNat, Box.mul_comm _ _ (u8lt a) (u8lt b)])
theorem gm_three (a : UInt8) : gm 3 a = gm 2 a ^^^ a := by
  rw [show (3 : UInt8) = 2 ^^^ 1 from by decide, gm_left, gm_comm 1 a, gm_one]
theorem ib_sb (a : UInt8) : ib (sb a) = a := u8ext (by rw [ib_toNat, sb_toNat, Box.back_sbox _ (u8lt a)])
theorem sb_ib (a : UInt8) : sb (ib a) = a := u8ext (by rw [sb_toNat, ib_toNat, Box.sbox_back _ (u8lt a)])

/-- A byte of a list; 0 past its end. -/
def at_ (l : List UInt8) (i : Nat) : UInt8 := l.getD i 0
/-- Sixteen bytes by their numbers. -/
def st (f : Nat → UInt8) : List UInt8 := (List.range 16).map f
theorem st_len (f : Nat → UInt8) : (st f).length = 16 := by simp [st]
theorem st_get (f : Nat → UInt8) (i : Nat) (h : i < 16) : (st f)[i]? = some (f i) := by simp [st, h]
theorem at_st (f : Nat → UInt8) (i : Nat) (h : i < 16) : at_ (st f) i = f i := by simp [at_, st_get f i h]
theorem st_at (l : List UInt8) (h : l.length = 16) : st (at_ l) = l := by
  apply List.ext_getElem?
  intro i
  by_cases hi : i < 16
  · rw [st_get _ i hi, at_]
    simp [List.getElem?_eq_getElem (show i < l.length by omega)]
  · rw [List.getElem?_eq_none (by rw [st_len]; omega), List.getElem?_eq_none (by omega)]
theorem st_congr {f g : Nat → UInt8} (h : ∀ i, i < 16 → f i = g i) : st f = st g := by
  unfold st
  apply List.map_congr_left
  intro i hi
  exact h i (by simpa using hi)

def addK (l k : List UInt8) : List UInt8 := st fun i => at_ l i ^^^ at_ k i
def shift (l : List UInt8) : List UInt8 := st fun i => sb (at_ l ((i + i % 4 * 4) % 16))
def unshift (l : List UInt8) : List UInt8 := st fun j => ib (at_ l ((j + (4 - j % 4) * 4) % 16))
/-- A column's first byte after mixing; the others by turning. -/
def m (a b c d : UInt8) : UInt8 := gm 2 a ^^^ gm 3 b ^^^ c ^^^ d
def mix (l : List UInt8) : List UInt8 := st fun i => m (at_ l i) (at_ l (i / 4 * 4 + (i % 4 + 1) % 4)) (at_ l (i / 4 * 4 + (i % 4 + 2) % 4)) (at_ l (i / 4 * 4 + (i % 4 + 3) % 4))
def mix3 (l : List UInt8) : List UInt8 := mix (mix (mix l))
theorem addK_len (l k : List UInt8) : (addK l k).length = 16 := st_len _
theorem shift_len (l : List UInt8) : (shift l).length = 16 := st_len _
theorem unshift_len (l : List UInt8) : (unshift l).length = 16 := st_len _
theorem mix_len (l : List UInt8) : (mix l).length = 16 := st_len _

theorem addK_addK (l k : List UInt8) (h : l.length = 16) : addK (addK l k) k = l := by
  rw [← st_at l h]
  unfold addK
  refine st_congr fun i hi => ?_
  rw [at_st _ i hi, UInt8.xor_assoc, UInt8.xor_self, UInt8.xor_zero, at_st _ i hi]
theorem idx1 : ∀ i, i < 16 → (((i + (4 - i % 4) * 4) % 16) + ((i + (4 - i % 4) * 4) % 16) % 4 * 4) % 16 = i := by decide
theorem idx2 : ∀ i, i < 16 → (((i + i % 4 * 4) % 16) + (4 - ((i + i % 4 * 4) % 16) % 4) * 4) % 16 = i := by decide
theorem unshift_shift (l : List UInt8) (h : l.length = 16) : unshift (shift l) = l := by
  rw [← st_at l h]
  unfold unshift shift
  refine st_congr fun i hi => ?_
  rw [at_st _ _ (Nat.mod_lt _ (by omega)), ib_sb, idx1 i hi, at_st _ i hi]
theorem shift_unshift (l : List UInt8) (h : l.length = 16) : shift (unshift l) = l := by
  rw [← st_at l h]
  unfold unshift shift
  refine st_congr fun i hi => ?_
  rw [at_st _ _ (Nat.mod_lt _ (by omega)), sb_ib, idx2 i hi, at_st _ i hi]

theorem xc (x y : UInt8) : x ^^^ (x ^^^ y) = y := by rw [← UInt8.xor_assoc, UInt8.xor_self, UInt8.zero_xor]
theorem xlc (x y z : UInt8) : x ^^^ (y ^^^ z) = y ^^^ (x ^^^ z) := by rw [← UInt8.xor_assoc, UInt8.xor_comm x y, UInt8.xor_assoc]
/-- A column mixed twice. -/
theorem m_twice (a b c d : UInt8) : m (m a b c d) (m b c d a) (m c d a b) (m d a b c) = gm 2 (gm 2 a) ^^^ a ^^^ gm 2 (gm 2 c) := by
  simp only [m, gm_three, gm_right, UInt8.xor_assoc]
  simp only [UInt8.xor_assoc, UInt8.xor_comm, xlc, xc, UInt8.xor_self, UInt8.zero_xor]
theorem m_four (a c : UInt8) : gm 2 (gm 2 (gm 2 (gm 2 a) ^^^ a ^^^ gm 2 (gm 2 c))) ^^^ (gm 2 (gm 2 a) ^^^ a ^^^ gm 2 (gm 2 c)) ^^^ gm 2 (gm 2 (gm 2 (gm 2 c) ^^^ c ^^^ gm 2 (gm 2 a))) = a := by
  simp only [gm_right, UInt8.xor_assoc]
  simp only [UInt8.xor_comm, xlc, xc, UInt8.xor_self, UInt8.xor_zero]
theorem list16 (l : List UInt8) (h : l.length = 16) : ∃ a0 a1 a2 a3 a4 a5 a6 a7 a8 a9 a10 a11 a12 a13 a14 a15, l = [a0, a1, a2, a3, a4, a5, a6, a7, a8, a9, a10, a11, a12, a13, a14, a15] :=
  ⟨at_ l 0, at_ l 1, at_ l 2, at_ l 3, at_ l 4, at_ l 5, at_ l 6, at_ l 7, at_ l 8, at_ l 9, at_ l 10, at_ l 11, at_ l 12, at_ l 13, at_ l 14, at_ l 15, (st_at l h).symm⟩
theorem mix_four (l : List UInt8) (h : l.length = 16) : mix (mix (mix (mix l))) = l := by
  obtain ⟨a0, a1, a2, a3, a4, a5, a6, a7, a8, a9, a10, a11, a12, a13, a14, a15, rfl⟩ := list16 l h
  have e : ∀ a0 a1 a2 a3 a4 a5 a6 a7 a8 a9 a10 a11 a12 a13 a14 a15 : UInt8, mix [a0, a1, a2, a3, a4, a5, a6, a7, a8, a9, a10, a11, a12, a13, a14, a15] =
    [m a0 a1 a2 a3, m a1 a2 a3 a0, m a2 a3 a0 a1, m a3 a0 a1 a2, m a4 a5 a6 a7, m a5 a6 a7 a4, m a6 a7 a4 a5, m a7 a4 a5 a6, m a8 a9 a10 a11, m a9 a10 a11 a8, m a10 a11 a8 a9, m a11 a8 a9 a10, m a12 a13 a14 a15, m a13 a14 a15 a12, m a14 a15 a12 a13, m a15 a12 a13 a14] := fun _ _ _ _ _ _ _ _ _ _ _ _ _ _ _ _ => rfl
  rw [e, e]
  simp only [m_twice]
  rw [e, e]
  simp only [m_twice, m_four]
theorem mix3_mix (l : List UInt8) (h : l.length = 16) : mix3 (mix l) = l := mix_four l h
theorem mix_mix3 (l : List UInt8) (h : l.length = 16) : mix (mix3 l) = l := mix_four l h

section
variable (K : Nat → List UInt8) (last : Nat) (b : List UInt8)
/-- The block after n rounds. -/
def encN : Nat → List UInt8
  | 0 => addK b (K 0)
  | n + 1 => addK (if n + 1 < last then mix (shift (encN n)) else shift (encN n)) (K (n + 1))
def enc : List UInt8 := encN K last b last
/-- The block after j rounds back. -/
def decN : Nat → List UInt8
  | 0 => b
  | j + 1 => unshift (if last - j < last then mix3 (addK (decN j) (K (last - j))) else addK (decN j) (K (last - j)))
def dec : List UInt8 := addK (decN K last b last) (K 0)
theorem encN_len (n : Nat) : (encN K last b n).length = 16 := by cases n <;> exact st_len _
theorem enc_len : (enc K last b).length = 16 := encN_len K last b last
theorem decN_len (h : b.length = 16) (n : Nat) : (decN K last b n).length = 16 := by
  cases n with
  | zero => exact h
  | succ n => exact st_len _
theorem dec_len : (dec K last b).length = 16 := st_len _
theorem decN_enc (j : Nat) (hj : j ≤ last) : decN K last (enc K last b) j = encN K last b (last - j) := by
  induction j with
  | zero => rfl
  | succ j ih =>
    obtain ⟨n, hn⟩ : ∃ n, last - j = n + 1 := ⟨last - j - 1, by omega⟩
    rw [decN, ih (by omega), hn, show last - (j + 1) = n from by omega, encN]
    by_cases h : n + 1 < last
    · rw [if_pos h, if_pos h, addK_addK _ _ (mix_len _), mix3_mix _ (shift_len _), unshift_shift _ (encN_len _ _ _ _)]
    · rw [if_neg h, if_neg h, addK_addK _ _ (shift_len _), unshift_shift _ (encN_len _ _ _ _)]
theorem dec_enc (h : b.length = 16) : dec K last (enc K last b) = b := by
  rw [dec, decN_enc K last b last (Nat.le_refl _), Nat.sub_self, encN, addK_addK _ _ h]
theorem encN_dec (h : b.length = 16) (n : Nat) (hn : n ≤ last) : encN K last (dec K last b) n = decN K last b (last - n) := by
  induction n with
  | zero => rw [encN, dec, addK_addK _ _ (decN_len _ _ _ h _), Nat.sub_zero]
  | succ n ih =>
    rw [encN, ih (by omega), show last - n = (last - (n + 1)) + 1 from by omega, decN, show last - (last - (n + 1)) = n + 1 from by omega]
    by_cases h2 : n + 1 < last
    · rw [if_pos h2, if_pos h2, shift_unshift _ (show (mix3 _).length = 16 from mix_len _), mix_mix3 _ (addK_len _ _), addK_addK _ _ (decN_len _ _ _ h _)]
    · rw [if_neg h2, if_neg h2, shift_unshift _ (addK_len _ _), addK_addK _ _ (decN_len _ _ _ h _)]
theorem enc_dec (h : b.length = 16) : enc K last (dec K last b) = b := by
  rw [enc, encN_dec K last b h last (Nat.le_refl _), Nat.sub_self, decN]
end

/-- The expanded key: n words of the key first. -/
def xp : Nat → UInt8
  | 0 => 1
  | k + 1 => gm (xp k) 2
def turnW (n i : Nat) (w : List UInt8) : List UInt8 :=
  if i % n = 0 then [sb (at_ w 1) ^^^ xp (i / n - 1), sb (at_ w 2), sb (at_ w 3), sb (at_ w 0)]
  else if n = 8 ∧ i % 8 = 4 then [sb (at_ w 0), sb (at_ w 1), sb (at_ w 2), sb (at_ w 3)]
  else [at_ w 0, at_ w 1, at_ w 2, at_ w 3]
def xor4 (a b : List UInt8) : List UInt8 := [at_ a 0 ^^^ at_ b 0, at_ a 1 ^^^ at_ b 1, at_ a 2 ^^^ at_ b 2, at_ a 3 ^^^ at_ b 3]
def wordAt (ws : List (List UInt8)) (i : Nat) : List UInt8 := ws.getD i []
def nextW (key : List UInt8) (n : Nat) (ws : List (List UInt8)) (i : Nat) : List UInt8 :=
  if i < n then [at_ key (4 * i), at_ key (4 * i + 1), at_ key (4 * i + 2), at_ key (4 * i + 3)]
  else xor4 (turnW n i (wordAt ws (i - 1))) (wordAt ws (i - n))
def words (key : List UInt8) (n : Nat) : Nat → List (List UInt8)
  | 0 => []
  | i + 1 => words key n i ++ [nextW key n (words key n i) i]
theorem words_len (key : List UInt8) (n i : Nat) : (words key n i).length = i := by
  induction i with
  | zero => rfl
  | succ i ih => simp [words, ih]
theorem words_get (key : List UInt8) (n : Nat) {i j : Nat} (h : i < j) : (words key n j)[i]? = some (nextW key n (words key n i) i) := by
  induction j with
  | zero => omega
  | succ j ih =>
    by_cases hij : i < j
    · rw [words, List.getElem?_append_left (by rw [words_len]; exact hij), ih hij]
    · obtain rfl : i = j := by omega
      rw [words, List.getElem?_append_right (by rw [words_len]; exact Nat.le_refl _), words_len]
      simp
theorem nextW_len (key : List UInt8) (n : Nat) (ws : List (List UInt8)) (i : Nat) : (nextW key n ws i).length = 4 := by
  unfold nextW xor4
  split <;> rfl
/-- A round's key. -/
def rk (ws : List (List UInt8)) (r : Nat) : List UInt8 := st fun i => at_ (wordAt ws (4 * r + i / 4)) (i % 4)
def roundsOf (key : List UInt8) : Nat := key.length / 4 + 6
def keysOf (key : List UInt8) : Nat → List UInt8 := rk (words key (key.length / 4) (4 * (key.length / 4) + 28))
/-- AES by a key of 16, 24 or 32 bytes. -/
def encrypt (key b : List UInt8) : List UInt8 := enc (keysOf key) (roundsOf key) b
def decrypt (key b : List UInt8) : List UInt8 := dec (keysOf key) (roundsOf key) b
def sizeOk (n : Nat) : Prop := n = 16 ∨ n = 24 ∨ n = 32
theorem encrypt_len (key b : List UInt8) : (encrypt key b).length = 16 := enc_len _ _ _
theorem decrypt_len (key b : List UInt8) : (decrypt key b).length = 16 := dec_len _ _ _
theorem decrypt_encrypt (key b : List UInt8) (h : b.length = 16) : decrypt key (encrypt key b) = b := dec_enc _ _ _ h
theorem encrypt_decrypt (key b : List UInt8) (h : b.length = 16) : encrypt key (decrypt key b) = b := enc_dec _ _ _ h
theorem encrypt_inj (key : List UInt8) {a b : List UInt8} (ha : a.length = 16) (hb : b.length = 16) : encrypt key a = encrypt key b ↔ a = b :=
  ⟨fun h => by rw [← decrypt_encrypt key a ha, h, decrypt_encrypt key b hb], fun h => by rw [h]⟩
theorem decrypt_inj (key : List UInt8) {a b : List UInt8} (ha : a.length = 16) (hb : b.length = 16) : decrypt key a = decrypt key b ↔ a = b :=
  ⟨fun h => by rw [← encrypt_decrypt key a ha, h, encrypt_decrypt key b hb], fun h => by rw [h]⟩
end Go.Gar.Aes
namespace Go.Gar
open Go.ChangeShapes Go.WideShapes Go.ChangeAt Go.RowKit

theorem trodAll_below {H : Type} {enc : TypeId × Value → H} {P : Program} (hl : laidOutB P = true) {W W' : World} (hb : Below W.heap.size W W') :
    ∀ (ts : List TypeId) (vs : List Value) (ds : List (DataW H)) (ps : List MemPlace), (∀ t ∈ ts, P.readableRec t = true ∧ t < P.types.size) →
      DataW.TrodAll enc P W 0 (fun _ => true) true ts vs ds ps → (∀ x ∈ ps, x.block < W.heap.size) → DataW.TrodAll enc P W' 0 (fun b => decide (b < W.heap.size)) true ts vs ds ps
  | [], vs, ds, ps, _, h, _ => by
    obtain ⟨rfl, rfl, rfl⟩ := trodAll_nil h
    exact trodAll_mk0
  | t :: ts, vs, ds, ps, ht, h, hp => by
    obtain ⟨v, vs', d, ds', p, q, rfl, rfl, rfl, h0, r0⟩ := trodAll_cons h
    have h1 := (ht t (by simp))
    exact trodAll_cons_mk (Below.trod hl h1.1 h1.2 h0 hb (fun x hx => hp x (by simp [hx]))) (trodAll_below hl hb ts vs' ds' q (fun u hu => ht u (by simp [hu])) r0 (fun x hx => hp x (by simp [hx])))

/-- The demand of a law's row. -/
theorem law_post {H : Type} {enc : TypeId × Value → H} {P : Program} {f : Func} {s : ChangeSpec} {W W' : World} {args : Array Value} {ds : List (DataW H)} {before : List MemPlace} {tb : TypeId} (hl : laidOutB P = true)
    (ht : f.params.toList.all (fun t => P.readableRec t && decide (t < P.types.size)) = true) (hvars : s.vars = []) (hres : f.resultTypes = #[tb]) (htb : P.underlying tb = some .bool)
    (hW : DataW.Whole enc P f.params.toList s.vars false W args.toList ds [] before) (hfn : s.fn H (ds ++ []) = { results := [.lit (.bool true)], args := ds }) (hb : Below W.heap.size W W') :
    s.post enc P f false true false false W args (.bool true) W' := by
  have hlt : ∀ p ∈ before, p.block < W.heap.size := fun p hp => hW.lt p hp
  have hW' := hW
  obtain ⟨p, q, hA, hV, rfl, _, _⟩ := hW
  rw [hvars] at hV
  obtain ⟨_, rfl⟩ := trodVars_none hV
  refine ⟨ds, [], p ++ [], [], p, [], hW', ?_, ?_, ?_, hb.frame _, fun h => by cases h⟩
  · rw [hfn, hres]
    exact trodAll_cons_mk (shut_bool htb true) trodAll_mk0
  · rw [hfn]
    refine trodAll_below hl hb _ _ _ _ (fun t h => ?_) hA (fun x hx => hlt x (by simp [hx]))
    have := List.all_eq_true.1 ht t h
    simpa using this
  · rw [hfn, hvars]
    rfl

/-- A []byte argument: it reads as bytes. -/
theorem open_bytes {H : Type} {enc : TypeId × Value → H} {P : Program} {t e : TypeId} (ht : P.underlying t = some (.slice e)) (he : P.underlying e = some (.int .u8)) (hce : P.cellsOf e = 1) {W : World} {base : Nat} {v : Value} {d : DataW H} {p : List MemPlace}
    (hok : Value.okWide P W .any base t v) (h : DataW.Trod enc P W 0 (fun _ => true) true t v d p) : ∃ A l cap, v = .slice A l.length cap ∧ l.length ≤ cap ∧ Rd W W.heap.size A l := by
  obtain ⟨a0, len0, cap0, rfl⟩ := okWide_slice ht hok
  obtain ⟨fuel, hf⟩ := h
  rcases open_ints ht he hce hf with ⟨hcs, _⟩ | ⟨x, l, c, zs, hcs, _, hl, hm, hz, _, hcell, hwz⟩
  · simp [Value.cells] at hcs
    obtain ⟨rfl, rfl, rfl⟩ := hcs
    exact ⟨none, [], 0, rfl, Nat.le_refl _, .inl rfl⟩
  · simp [Value.cells] at hcs
    obtain ⟨rfl, rfl, rfl⟩ := hcs
    simp only [if_true] at hz
    have hlen : ((zs.take len0).map fun n => UInt8.ofNat n.toNat).length = len0 := by simp; omega
    refine ⟨some x, (zs.take len0).map fun n => UInt8.ofNat n.toNat, cap0, by rw [hlen], by omega, ?_⟩
    by_cases h0 : len0 = 0
    · subst h0; exact .inl (by simp)
    · obtain ⟨b, o, rfl, hc⟩ := ints_at hcell (by omega)
      have hb : b < W.heap.size := World.block_lt_of_cell? W ⟨b, o + 0, none⟩ (hc 0 (by omega))
      refine .inr ⟨b, o, rfl, hb, fun i c hi => ?_⟩
      rw [List.getElem?_map, List.getElem?_take] at hi
      split at hi
      · rename_i hlt
        have hzi : i < zs.length := by omega
        rw [List.getElem?_eq_getElem hzi] at hi
        simp only [Option.map_some, Option.some.injEq] at hi
        subst hi
        rw [hc i hzi]
        have hb8 := bounds_u8 (hwz _ (List.getElem_mem hzi))
        simp only [List.getD, List.getElem?_eq_getElem hzi, Option.getD_some]
        congr 2
        simp
        omega
      · simp at hi
/-- A []byte argument's room has a number. -/
theorem bytes_max {H : Type} {enc : TypeId × Value → H} {P : Program} {t e : TypeId} (ht : P.underlying t = some (.slice e)) (he : P.underlying e = some (.int .u8)) (hce : P.cellsOf e = 1) {W : World} {A : Option Addr} {n cap : Nat} {d : DataW H} {p : List MemPlace}
    (h : DataW.Trod enc P W 0 (fun _ => true) true t (.slice A n cap) d p) : cap ≤ 9223372036854775807 := by
  obtain ⟨fuel, hf⟩ := h
  rcases open_ints ht he hce hf with ⟨hcs, _⟩ | ⟨x, l, c, zs, hcs, _, hl, hm, _⟩
  · simp [Value.cells] at hcs
    obtain ⟨rfl, rfl, rfl⟩ := hcs
    omega
  · simp [Value.cells] at hcs
    obtain ⟨rfl, rfl, rfl⟩ := hcs
    exact hm
end Go.Gar
namespace Go.Proofs.YtdipflchmooakaaGreatDoor
theorem own : ownKnob Tryz.prog.godebug = none := by kernel_rfl
theorem laid : laidOutB Tryz.prog = true := by kernel_rfl
end Go.Proofs.YtdipflchmooakaaGreatDoor
