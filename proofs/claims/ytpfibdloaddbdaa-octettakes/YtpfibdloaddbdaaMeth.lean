/-
  octet.Reader's Int, Text, Left, End: contracts, for a nil Reader and for every Reader in memory.
-/
import Derived.Test.YtpfibdloaddbdaaNum
namespace Go.Proofs.Ytpfibdloaddbdaa
open Go.RowKit Go.Gar

theorem rnum_not (g d at_ : Nat) (l : List UInt8) (bad : Bool) (n : Nat) (w : World) (h : Rdr w g d l at_ bad) (hat : at_ ≤ l.length) (hl : l.length ≤ 1000000000) (hn : bad = true ∨ l.length < at_ + n) (hn2 : n ≤ 1000000000) :
    Calls Try.prog 23 #[.pointer (some ⟨g, 0, none⟩), .int .i64 (n : Int)] w fun e w' => e = .returned (.int .u64 0) ∧ Rdr w' g d l at_ true ∧ w.grownBy w' (some g) := by
  cases bad with
  | true => exact (rnum_bad g d at_ l n w h).mono fun e w' ⟨he, hw⟩ => ⟨he, by rw [hw]; exact h, by rw [hw]; exact World.grownBy.refl w _⟩
  | false => exact rnum_short g d at_ l n w h hat hl (by simpa using hn) hn2

theorem take_not (g d at_ : Nat) (l : List UInt8) (bad : Bool) (n : Nat) (w : World) (h : Rdr w g d l at_ bad) (hat : at_ ≤ l.length) (hl : l.length ≤ 1000000000) (hn : bad = true ∨ l.length < at_ + n) (hn2 : n ≤ 1000000000) :
    Calls Try.prog 25 #[.pointer (some ⟨g, 0, none⟩), .int .i64 (n : Int)] w fun e w' => e = .returned (.slice none 0 0) ∧ Rdr w' g d l at_ true ∧ w.grownBy w' (some g) := by
  cases bad with
  | true => exact (take_bad g d at_ l n w h).mono fun e w' ⟨he, hw⟩ => ⟨he, by rw [hw]; exact h, by rw [hw]; exact World.grownBy.refl w _⟩
  | false => exact take_short g d at_ l n w h hat hl (by simpa using hn) hn2

theorem valid_bad (g d at_ : Nat) (l : List UInt8) (w : World) (h : Rdr w g d l at_ true) : Calls Try.prog 26 #[.pointer (some ⟨g, 0, none⟩)] w fun e w' => e = .returned (.bool false) ∧ w' = w := valid_any g d at_ l true w h
theorem valid_good (g d at_ : Nat) (l : List UInt8) (w : World) (h : Rdr w g d l at_ false) : Calls Try.prog 26 #[.pointer (some ⟨g, 0, none⟩)] w fun e w' => e = .returned (.bool true) ∧ w' = w := valid_any g d at_ l false w h
theorem ret_bool {a b : Bool} (h : a = b) : Ending.returned (.bool a) = .returned (.bool b) := by rw [h]
theorem beq_cast (a b : Nat) : ((a : Int) == (b : Int)) = decide (a = b) := by
  rw [Bool.eq_iff_iff]; simp; omega

theorem grown_trans {a b c : World} {row : Option Nat} (h : a.grownBy b row) (k : b.grownBy c row) : a.grownBy c row :=
  ⟨k.os.trans h.os, k.tape.trans h.tape, k.output.trans h.output, Nat.le_trans h.size k.size, fun i hi hne => (k.block i (Nat.lt_of_lt_of_le hi h.size) hne).trans (h.block i hi hne)⟩

/-- 64 bits as a signed number. -/
def s64 (n : Nat) : Int := wrap64 (n : Int)

set_option maxHeartbeats 400000 in
theorem rint_nil (w : World) : Calls Try.prog 16 #[.pointer none] w fun e w' => e = .returned (.int .i64 0) ∧ w' = w := by
  go_enter Try.func16, Try.ntmps16
  go_wp2_with (go_at_call 23; refine (rnum_nil _ _).mono ?_; rintro e w' ⟨rfl, rfl⟩)
  go_ret
  exact ⟨rfl, rfl⟩

set_option maxHeartbeats 400000 in
theorem rint_not (g d at_ : Nat) (l : List UInt8) (bad : Bool) (w : World) (h : Rdr w g d l at_ bad) (hat : at_ ≤ l.length) (hl : l.length ≤ 1000000000) (hn : bad = true ∨ l.length < at_ + 8) :
    Calls Try.prog 16 #[.pointer (some ⟨g, 0, none⟩)] w fun e w' => e = .returned (.int .i64 0) ∧ Rdr w' g d l at_ true ∧ w.grownBy w' (some g) := by
  go_enter Try.func16, Try.ntmps16
  go_wp2_with fail
  refine (rnum_not g d at_ l bad 8 _ h hat hl hn (by omega)).mono ?_
  rintro e w2 ⟨rfl, hr, hg⟩
  have HR := Lib.hid hr
  have HG := Lib.hid hg
  clear hr hg hn
  go_wp2
  go_ret
  exact ⟨rfl, HR.out, HG.out⟩

set_option maxHeartbeats 400000 in
theorem rint_fit (g d at_ : Nat) (l : List UInt8) (w : World) (h : Rdr w g d l at_ false) (hl : l.length ≤ 1000000000) (hn : at_ + 8 ≤ l.length) :
    Calls Try.prog 16 #[.pointer (some ⟨g, 0, none⟩)] w fun e w' => e = .returned (.int .i64 (s64 (val ((l.drop at_).take 8)))) ∧ Rdr w' g d l (at_ + 8) false ∧ w.grownBy w' (some g) := by
  go_enter Try.func16, Try.ntmps16
  go_wp2_with fail
  refine (rnum_fit g d at_ l 8 _ h hl hn (by omega)).mono ?_
  rintro e w2 ⟨rfl, hr, hg⟩
  have HR := Lib.hid hr
  have HG := Lib.hid hg
  clear hr hg hn
  go_wp2
  go_ret
  exact ⟨rfl, HR.out, HG.out⟩

set_option maxHeartbeats 400000 in
theorem left_nil (w : World) : Calls Try.prog 19 #[.pointer none] w fun e w' => e = .returned (.int .i64 0) ∧ w' = w := by
  go_enter Try.func19, Try.ntmps19
  go_wp2_with (go_at_call 26; refine (valid_nil _).mono ?_; rintro e w' ⟨rfl, rfl⟩)
  go_ret
  exact ⟨rfl, rfl⟩

set_option maxHeartbeats 400000 in
theorem left_bad (g d at_ : Nat) (l : List UInt8) (w : World) (h : Rdr w g d l at_ true) : Calls Try.prog 19 #[.pointer (some ⟨g, 0, none⟩)] w fun e w' => e = .returned (.int .i64 0) ∧ ∃ n, w' = w.drewN n := by
  go_enter Try.func19, Try.ntmps19
  go_wp2_with (go_at_call 26; refine (valid_any g d at_ l true _ h).mono ?_; rintro e w' ⟨rfl, rfl⟩)
  go_ret
  exact ⟨rfl, 0, rfl⟩

set_option maxHeartbeats 400000 in
theorem left_good (g d at_ : Nat) (l : List UInt8) (w : World) (h : Rdr w g d l at_ false) (_hat : at_ ≤ l.length) (_hl : l.length ≤ 1000000000) : Calls Try.prog 19 #[.pointer (some ⟨g, 0, none⟩)] w fun e w' => e = .returned (.int .i64 ((l.length : Int) - (at_ : Int))) ∧ ∃ n, w' = w.drewN n := by
  have h0 := h.c0
  have h1 := h.c1
  go_enter Try.func19, Try.ntmps19
  go_wp2_with (go_at_call 26; refine (valid_any g d at_ l false _ h).mono ?_; rintro e w' ⟨rfl, rfl⟩)
  go_quiet (fail)
  go_wp2
  go_ret
  exact ⟨rfl, _, rfl⟩

set_option maxHeartbeats 400000 in
theorem end_nil (w : World) : Calls Try.prog 20 #[.pointer none] w fun e w' => e = .returned (.bool false) ∧ ∃ n, w' = w.drewN n := by
  go_enter Try.func20, Try.ntmps20
  go_wp2_with fail
  go_quiet ((go_at_call 26; exact Calls.quiet_of_same (valid_nil _)))
  go_wp2
  go_ret
  exact ⟨rfl, _, rfl⟩

set_option maxHeartbeats 400000 in
theorem end_bad (g d at_ : Nat) (l : List UInt8) (w : World) (h : Rdr w g d l at_ true) : Calls Try.prog 20 #[.pointer (some ⟨g, 0, none⟩)] w fun e w' => e = .returned (.bool false) ∧ ∃ n, w' = w.drewN n := by
  go_enter Try.func20, Try.ntmps20
  go_wp2_with fail
  go_quiet ((go_at_call 26; exact Calls.quiet_of_same (valid_bad g d at_ l _ (h.drewN _))))
  go_wp2
  go_ret
  exact ⟨rfl, _, rfl⟩

set_option maxHeartbeats 400000 in
theorem end_good (g d at_ : Nat) (l : List UInt8) (w : World) (h : Rdr w g d l at_ false) : Calls Try.prog 20 #[.pointer (some ⟨g, 0, none⟩)] w fun e w' => e = .returned (.bool (decide (at_ = l.length))) ∧ ∃ n, w' = w.drewN n := by
  have h0 := h.c0
  have h1 := h.c1
  go_enter Try.func20, Try.ntmps20
  go_wp2_with fail
  go_quiet ((go_at_call 26; exact Calls.quiet_of_same (valid_good g d at_ l _ (h.drewN _))))
  go_wp2
  go_ret
  exact ⟨ret_bool (beq_cast _ _), _, rfl⟩

set_option maxHeartbeats 400000 in
theorem rtext_nil (most : Int) (w : World) : Calls Try.prog 18 #[.pointer none, .int .i64 most] w fun e w' => e = .returned (.string ByteArray.empty) ∧ w' = w := by
  have hcv := fun W => run_string_rd (P := Try.prog) (w := W) 22 9 5 Try.und22 Try.und5 Try.und9 none [] 0 0 Rd.nil
  simp only [List.length_nil] at hcv
  by_cases hm : (0 : Int) ≤ most
  · go_enter Try.func18, Try.ntmps18
    go_wp2_with (first | (go_at_call 23; refine (rnum_nil _ _).mono ?_; rintro e w' ⟨rfl, rfl⟩) | (go_at_call 25; refine (take_nil _ _).mono ?_; rintro e w' ⟨rfl, rfl⟩))
    go_ret
    exact ⟨rfl, rfl⟩
  · go_enter Try.func18, Try.ntmps18
    go_wp2_with (first | (go_at_call 23; refine (rnum_nil _ _).mono ?_; rintro e w' ⟨rfl, rfl⟩) | (go_at_call 24; refine (fail_nil _).mono ?_; rintro e w' ⟨rfl, rfl⟩))
    go_ret
    exact ⟨rfl, rfl⟩

set_option maxHeartbeats 400000 in
theorem rtext_fit (g d at_ : Nat) (l : List UInt8) (most : Int) (v : Nat) (x : List UInt8) (w : World) (h : Rdr w g d l at_ false) (hl : l.length ≤ 1000000000) (hn : at_ + 2 ≤ l.length)
    (hv : val ((l.drop at_).take 2) = v) (hx : (l.drop (at_ + 2)).take v = x) (hk : at_ + 2 + v ≤ l.length) (hm : (v : Int) ≤ most) :
    Calls Try.prog 18 #[.pointer (some ⟨g, 0, none⟩), .int .i64 most] w fun e w' =>
      e = .returned (.string ⟨x.toArray⟩) ∧ Rdr w' g d l (at_ + 2 + v) false ∧ w.grownBy w' (some g) := by
  have HV := Lib.hid hv
  have HX := Lib.hid hx
  clear hv hx
  go_enter Try.func18, Try.ntmps18
  go_wp2_with fail
  refine (rnum_fit g d at_ l 2 _ h hl hn (by omega)).mono ?_
  rw [HV.out]
  rintro e w2 ⟨rfl, hr, hg⟩
  have HR := Lib.hid hr
  have HG := Lib.hid hg
  clear hr hg
  go_wp2_with fail
  refine (take_fit g d (at_ + 2) l v w2 HR.out hl hk).mono ?_
  rw [HX.out]
  rintro e w3 ⟨⟨A, c, rfl, hrd⟩, hr, hg⟩
  have hcv := run_string_rd (P := Try.prog) 22 9 5 Try.und22 Try.und5 Try.und9 A _ _ c hrd
  have HR3 := Lib.hid hr
  have HG3 := Lib.hid hg
  clear hr hg hrd
  go_wp2
  go_ret
  exact ⟨rfl, HR3.out, grown_trans HG.out HG3.out⟩

/-- A string that cannot be taken: its length is not there, or too great, or its bytes are not all there. -/
def NoText (l : List UInt8) (at_ : Nat) (bad : Bool) (most : Int) : Prop :=
  (bad = true ∨ l.length < at_ + 2) ∨ (bad = false ∧ at_ + 2 ≤ l.length ∧ (most < (val ((l.drop at_).take 2) : Int) ∨ l.length < at_ + 2 + val ((l.drop at_).take 2)))

theorem val2_lt (x : List UInt8) : val (x.take 2) < 65536 := by
  refine Nat.lt_of_lt_of_le (val_lt _) ?_
  refine Nat.le_trans (Nat.pow_le_pow_right (by omega) (show (x.take 2).length ≤ 2 by rw [List.length_take]; omega)) (by decide)

set_option maxHeartbeats 400000 in
theorem rtext_not1 (g d at_ : Nat) (l : List UInt8) (bad : Bool) (most : Int) (w : World) (h : Rdr w g d l at_ bad) (hat : at_ ≤ l.length) (hl : l.length ≤ 1000000000) (hn : bad = true ∨ l.length < at_ + 2) :
    Calls Try.prog 18 #[.pointer (some ⟨g, 0, none⟩), .int .i64 most] w fun e w' =>
      e = .returned (.string ByteArray.empty) ∧ (∃ a, a ≤ l.length ∧ Rdr w' g d l a true) ∧ w.grownBy w' (some g) := by
  have hcv := fun W => run_string_rd (P := Try.prog) (w := W) 22 9 5 Try.und22 Try.und5 Try.und9 none [] 0 0 Rd.nil
  simp only [List.length_nil] at hcv
  have HN := Lib.hid hn
  clear hn
  by_cases hm : (0 : Int) ≤ most
  · go_enter Try.func18, Try.ntmps18
    go_wp2_with fail
    refine (rnum_not g d at_ l bad 2 _ h hat hl HN.out (by omega)).mono ?_
    rintro e w2 ⟨rfl, hr, hg⟩
    have HR := Lib.hid hr
    have HG := Lib.hid hg
    clear hr hg
    go_wp2_with fail
    refine (take_bad g d at_ l 0 w2 HR.out).mono ?_
    rintro e w3 ⟨rfl, rfl⟩
    go_wp2
    go_ret
    exact ⟨rfl, ⟨at_, hat, HR.out⟩, HG.out⟩
  · go_enter Try.func18, Try.ntmps18
    go_wp2_with fail
    refine (rnum_not g d at_ l bad 2 _ h hat hl HN.out (by omega)).mono ?_
    rintro e w2 ⟨rfl, hr, hg⟩
    have HR := Lib.hid hr
    have HG := Lib.hid hg
    clear hr hg
    go_wp2_with fail
    refine (fail_any g d at_ l true w2 HR.out).mono ?_
    rintro e w3 ⟨rfl, rfl⟩
    have HR3 := Lib.hid (HR.out.setBad true)
    have HG3 := Lib.hid (grown_set (i := 2) HG.out (.bool true))
    generalize w2.setCell ⟨g, 2, none⟩ (.bool true) = w3 at *
    go_wp2
    go_ret
    exact ⟨rfl, ⟨at_, hat, HR3.out⟩, HG3.out⟩

set_option maxHeartbeats 400000 in
theorem rtext_not2 (g d at_ : Nat) (l : List UInt8) (most : Int) (v : Nat) (w : World) (h : Rdr w g d l at_ false) (hl : l.length ≤ 1000000000) (hn : at_ + 2 ≤ l.length)
    (hv : val ((l.drop at_).take 2) = v) (hk : most < (v : Int) ∨ l.length < at_ + 2 + v) :
    Calls Try.prog 18 #[.pointer (some ⟨g, 0, none⟩), .int .i64 most] w fun e w' =>
      e = .returned (.string ByteArray.empty) ∧ (∃ a, a ≤ l.length ∧ Rdr w' g d l a true) ∧ w.grownBy w' (some g) := by
  have hcv := fun W => run_string_rd (P := Try.prog) (w := W) 22 9 5 Try.und22 Try.und5 Try.und9 none [] 0 0 Rd.nil
  simp only [List.length_nil] at hcv
  have hv6 : v < 65536 := by rw [← hv]; exact val2_lt _
  have HV := Lib.hid hv
  have HK := Lib.hid hk
  clear hv hk
  by_cases hm : (v : Int) ≤ most
  · go_enter Try.func18, Try.ntmps18
    go_wp2_with fail
    refine (rnum_fit g d at_ l 2 _ h hl hn (by omega)).mono ?_
    rw [HV.out]
    rintro e w2 ⟨rfl, hr, hg⟩
    have HR := Lib.hid hr
    have HG := Lib.hid hg
    clear hr hg
    go_wp2_with fail
    refine (take_short g d (at_ + 2) l v w2 HR.out hn hl (by have := HK.out; omega) (by omega)).mono ?_
    rintro e w3 ⟨rfl, hr, hg⟩
    have HR3 := Lib.hid hr
    have HG3 := Lib.hid hg
    clear hr hg
    go_wp2
    go_ret
    exact ⟨rfl, ⟨at_ + 2, hn, HR3.out⟩, grown_trans HG.out HG3.out⟩
  · go_enter Try.func18, Try.ntmps18
    go_wp2_with fail
    refine (rnum_fit g d at_ l 2 _ h hl hn (by omega)).mono ?_
    rw [HV.out]
    rintro e w2 ⟨rfl, hr, hg⟩
    have HR := Lib.hid hr
    have HG := Lib.hid hg
    clear hr hg
    go_wp2_with fail
    refine (fail_any g d (at_ + 2) l false w2 HR.out).mono ?_
    rintro e w3 ⟨rfl, rfl⟩
    have HR3 := Lib.hid (HR.out.setBad true)
    have HG3 := Lib.hid (grown_set (i := 2) HG.out (.bool true))
    generalize w2.setCell ⟨g, 2, none⟩ (.bool true) = w3 at *
    go_wp2
    go_ret
    exact ⟨rfl, ⟨at_ + 2, hn, HR3.out⟩, HG3.out⟩

theorem rtext_not (g d at_ : Nat) (l : List UInt8) (bad : Bool) (most : Int) (w : World) (h : Rdr w g d l at_ bad) (hat : at_ ≤ l.length) (hl : l.length ≤ 1000000000) (hn : NoText l at_ bad most) :
    Calls Try.prog 18 #[.pointer (some ⟨g, 0, none⟩), .int .i64 most] w fun e w' =>
      e = .returned (.string ByteArray.empty) ∧ (∃ a, a ≤ l.length ∧ Rdr w' g d l a true) ∧ w.grownBy w' (some g) := by
  rcases hn with hn | ⟨rfl, hn, hk⟩
  · exact rtext_not1 g d at_ l bad most w h hat hl hn
  · exact rtext_not2 g d at_ l most _ w h hl hn rfl hk
end Go.Proofs.Ytpfibdloaddbdaa
