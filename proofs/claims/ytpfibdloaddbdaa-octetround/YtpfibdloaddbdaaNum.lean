/-
  octet.Reader's number, Int, Text, Left, End: contracts, for a nil Reader and for every Reader in memory.
-/
import Derived.Test.YtpfibdloaddbdaaRdr
import Derived.Lib.EndianBits
namespace Go.Proofs.Ytpfibdloaddbdaa
open Go.RowKit Go.Gar

/-- The number that bytes say, the highest first. -/
def val (l : List UInt8) : Nat := l.foldl (fun n c => n * 256 + c.toNat) 0
theorem val_snoc (l : List UInt8) (c : UInt8) : val (l ++ [c]) = val l * 256 + c.toNat := by simp [val]
theorem val_lt (l : List UInt8) : val l < 256 ^ l.length := by
  suffices h : ∀ k : List UInt8, val k.reverse < 256 ^ k.length by simpa using h l.reverse
  intro k
  induction k with
  | nil => simp [val]
  | cons c k ih =>
    rw [List.reverse_cons, val_snoc, List.length_cons, Nat.pow_succ]
    have := c.toNat_lt
    omega

theorem or_comm_u64 (x y : Int) : bits .or .u64 x y = bits .or .u64 y x := by
  show IntKind.u64.wrap ((BitVec.ofInt 64 x ||| BitVec.ofInt 64 y).toNat : Int) = IntKind.u64.wrap ((BitVec.ofInt 64 y ||| BitVec.ofInt 64 x).toNat : Int)
  rw [BitVec.or_comm]
theorem step_u64 (n c : Nat) (hn : n < 72057594037927936) (hc : c < 256) : bits .or .u64 (IntKind.u64.wrap ((n : Int) * 256)) (IntKind.u64.wrap (c : Int)) = ((n * 256 + c : Nat) : Int) := by
  rw [or_comm_u64, wraps_u64 (c : Int) (by omega) (by omega), wraps_u64 ((n : Int) * 256) (by omega) (by omega), u64_or8 (c : Int) ((n : Int) * 256) (by omega) (by omega) (by omega) (by omega) (by omega)]
  omega
theorem val_take_lt (x : List UInt8) (k : Nat) (h : k < 8) : val (x.take k) < 72057594037927936 := by
  refine Nat.lt_of_lt_of_le (val_lt _) ?_
  refine Nat.le_trans (Nat.pow_le_pow_right (by omega) (show (x.take k).length ≤ 7 by rw [List.length_take]; omega)) (by decide)

set_option maxHeartbeats 400000 in
theorem rnum_nil (n : Int) (w : World) : Calls Try.prog 23 #[.pointer none, .int .i64 n] w fun e w' => e = .returned (.int .u64 0) ∧ w' = w := by
  go_enter Try.func23, Try.ntmps23
  go_wp2_with (go_at_call 25; refine (take_nil _ _).mono ?_; rintro e w' ⟨rfl, rfl⟩)
  refine wp_loop_rounds 1 ?_
  rw [rounds_succ]
  go_wp2
  go_ret
  exact ⟨rfl, rfl⟩

set_option maxHeartbeats 400000 in
theorem rnum_bad (g d at_ : Nat) (l : List UInt8) (n : Int) (w : World) (h : Rdr w g d l at_ true) : Calls Try.prog 23 #[.pointer (some ⟨g, 0, none⟩), .int .i64 n] w fun e w' => e = .returned (.int .u64 0) ∧ w' = w := by
  go_enter Try.func23, Try.ntmps23
  go_wp2_with (go_at_call 25; refine (take_bad g d at_ l _ _ h).mono ?_; rintro e w' ⟨rfl, rfl⟩)
  refine wp_loop_rounds 1 ?_
  rw [rounds_succ]
  go_wp2
  go_ret
  exact ⟨rfl, rfl⟩

set_option maxHeartbeats 400000 in
theorem rnum_short (g d at_ : Nat) (l : List UInt8) (n : Nat) (w : World) (h : Rdr w g d l at_ false) (hat : at_ ≤ l.length) (hl : l.length ≤ 1000000000) (hn : l.length < at_ + n) (hn2 : n ≤ 1000000000) :
    Calls Try.prog 23 #[.pointer (some ⟨g, 0, none⟩), .int .i64 (n : Int)] w fun e w' => e = .returned (.int .u64 0) ∧ Rdr w' g d l at_ true ∧ w.grownBy w' (some g) := by
  go_enter Try.func23, Try.ntmps23
  go_wp2_with (go_at_call 25; refine (take_short g d at_ l n _ h hat hl hn hn2).mono ?_; rintro e w2 ⟨rfl, hr, hg⟩; have HR := Lib.hid hr; have HG := Lib.hid hg; clear hr hg)
  refine wp_loop_rounds 1 ?_
  rw [rounds_succ]
  go_wp2
  go_ret
  exact ⟨rfl, HR.out, HG.out⟩

set_option maxHeartbeats 400000 in
theorem rnum_fit (g d at_ : Nat) (l : List UInt8) (n : Nat) (w : World) (h : Rdr w g d l at_ false) (hl : l.length ≤ 1000000000) (hn : at_ + n ≤ l.length) (hn2 : n ≤ 8) :
    Calls Try.prog 23 #[.pointer (some ⟨g, 0, none⟩), .int .i64 (n : Int)] w fun e w' => e = .returned (.int .u64 (val ((l.drop at_).take n) : Int)) ∧ Rdr w' g d l (at_ + n) false ∧ w.grownBy w' (some g) := by
  go_enter Try.func23, Try.ntmps23
  go_wp2_with fail
  refine (take_fit g d at_ l n _ h hl hn).mono ?_
  rintro e w2 ⟨⟨A, c, rfl, hrd⟩, hr, hg⟩
  have HR := Lib.hid hr
  have HG := Lib.hid hg
  have hlen : ((l.drop at_).take n).length = n := by simp; omega
  clear hr hg
  generalize hx : (l.drop at_).take n = x at *
  have HX := Lib.hid hx
  have HRD := Lib.hid hrd
  clear hx hrd
  subst hlen
  go_wp2_with fail
  go_loop [5, 12] (fun a i => ∃ k : Nat, k ≤ x.length ∧ i = .int .i64 k ∧ a = .int .u64 (val (x.take k) : Int)) (fun _ i => x.length - (intOf i).toNat)
  case atStart => exact ⟨0, by omega, rfl, rfl⟩
  case round =>
    obtain ⟨k, hk, rfl, rfl⟩ := hrel
    by_cases hlt : k < x.length
    · rcases HRD.out with hnil | ⟨b, o, rfl, hb, hc⟩
      · rw [hnil] at hlt; simp at hlt
      · have hck := hc k x[k] (List.getElem?_eq_getElem hlt)
        have hs := step_u64 (val (x.take k)) x[k].toNat (val_take_lt x k (by omega)) x[k].toNat_lt
        rw [← val_snoc, ← List.take_succ_eq_append_getElem hlt] at hs
        have HS := Lib.hid hs
        clear hc hs
        go_wp2
        exact ⟨⟨k + 1, by omega, by go_num, by rw [HS.out]⟩, by simp [intOf]; omega⟩
    · obtain rfl : k = x.length := by omega
      go_wp2
      go_ret
      exact ⟨by rw [HX.out]; simp, HR.out, HG.out⟩
end Go.Proofs.Ytpfibdloaddbdaa
