/-
  Plain facts on the encoding: the bytes of a number say that number again; pieces of a list that was joined.
-/
import Derived.Test.YtpfibdloaddbdaaAwake
namespace Go.Proofs.Ytpfibdloaddbdaa
open Go.RowKit Go.Gar

theorem seg {α : Type} (a b c : List α) (k n m : Nat) (hn : a.length = n) (hm : b.length = m) (h : n + m ≤ k) : (((a ++ (b ++ c)).take k).drop n).take m = b := by
  subst hn; subst hm
  rw [List.drop_take, List.drop_left, List.take_take, Nat.min_eq_left (by omega), List.take_left]
theorem len_str (s : ByteArray) : s.data.toList.length = s.size := Array.length_toList
theorem str_back (s : ByteArray) : (⟨s.data.toList.toArray⟩ : ByteArray) = s := by cases s; simp

theorem be_succ (n k : Nat) : be n (k + 1) = be (n / 256) k ++ [UInt8.ofNat n] := by
  unfold be
  rw [List.range_succ, List.map_append]
  congr 1
  · apply List.map_congr_left
    intro i hi
    have hi := List.mem_range.1 hi
    have e : (256 : Nat) = 2 ^ 8 := by decide
    rw [e, Nat.div_div_eq_div_mul, ← Nat.pow_add]
    congr 3
    omega
  · simp
theorem val_be (k : Nat) : ∀ n : Nat, val (be n k) = n % 256 ^ k := by
  induction k with
  | zero => intro n; simp [be, val, Nat.mod_one]
  | succ k ih =>
    intro n
    rw [be_succ, val_snoc, ih, Nat.pow_succ, Nat.mul_comm (256 ^ k) 256, Nat.mod_mul]
    simp
    omega
theorem val_be8 (n : Int) : val (be (b64 n) 8) = b64 n := by
  rw [val_be]
  apply Nat.mod_eq_of_lt
  unfold b64
  have : (256 : Nat) ^ 8 = 18446744073709551616 := by decide
  omega
theorem val_be2 (n : Nat) (h : n ≤ 65535) : val (be n 2) = n := by
  rw [val_be]
  apply Nat.mod_eq_of_lt
  have : (256 : Nat) ^ 2 = 65536 := by decide
  omega
theorem s64_u64 (n : Int) (h0 : -9223372036854775808 ≤ n) (h1 : n ≤ 9223372036854775807) : s64 (b64 n) = n := by
  unfold s64 b64 wrap64
  omega
theorem bg {w0 w w' : World} {g : Nat} (Hb : Hid (Below w0.heap.size w0 w)) (hg : w.grownBy w' (some g)) (Hw : Hid (w0.heap.size ≤ g)) : Hid (Below w0.heap.size w0 w') :=
  Below.grown Hb hg (Below.size Hb) (fun k hk => by injection hk with hk; have := Hw.out; omega)
theorem bd {w0 w : World} (Hb : Hid (Below w0.heap.size w0 w)) (n : Nat) : Hid (Below w0.heap.size w0 (w.drewN n)) :=
  ⟨Hb.out.os, Hb.out.tape, Hb.out.output, Hb.out.size, Hb.out.block⟩
theorem bb {w0 w w' : World} (Hb : Hid (Below w0.heap.size w0 w)) (hb : Below w.heap.size w w') : Hid (Below w0.heap.size w0 w') :=
  Below.trans Hb (hb.mono (Below.size Hb))
end Go.Proofs.Ytpfibdloaddbdaa
