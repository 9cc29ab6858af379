/-
  What the methods of octet.Reader do to memory: contracts, for a nil Reader and for every Reader in memory.
-/
import Derived.Test.YtpfibdloaddbdaaOct
namespace Go.Proofs.Ytpfibdloaddbdaa
open Go.RowKit Go.Gar

section
variable {w w' : World} {g d at_ : Nat} {l : List UInt8} {bad : Bool}
theorem Rdr.c0 (h : Rdr w g d l at_ bad) : w.cell? ⟨g, 0, none⟩ = some (.slice (some ⟨d, 0, none⟩) l.length l.length) := by rw [h.1.cell]; rfl
theorem Rdr.c1 (h : Rdr w g d l at_ bad) : w.cell? ⟨g, 1, none⟩ = some (.int .i64 (at_ : Int)) := by rw [h.1.cell]; rfl
theorem Rdr.c2 (h : Rdr w g d l at_ bad) : w.cell? ⟨g, 2, none⟩ = some (.bool bad) := by rw [h.1.cell]; rfl
theorem Rdr.ne (h : Rdr w g d l at_ bad) : d ≠ g := (h.2.ne h.1 (by decide))
theorem Rdr.setBad (h : Rdr w g d l at_ bad) (b : Bool) : Rdr (w.setCell ⟨g, 2, none⟩ (.bool b)) g d l at_ b := ⟨h.1.set_ 2 _, h.2.far h.ne _⟩
theorem Rdr.setAt (h : Rdr w g d l at_ bad) (k : Nat) : Rdr (w.setCell ⟨g, 1, none⟩ (.int .i64 (k : Int))) g d l k bad := ⟨h.1.set_ 1 _, h.2.far h.ne _⟩
theorem Rdr.drewN (h : Rdr w g d l at_ bad) (n : Nat) : Rdr (w.drewN n) g d l at_ bad := h
theorem Rdr.below {B : Nat} (h : Rdr w g d l at_ bad) (hb : Below B w w') (hg : g < B) (hd : d < B) : Rdr w' g d l at_ bad := ⟨h.1.below hb hg, h.2.below hb hd⟩
end

theorem only_set {w : World} {g i : Nat} (u : Value) : w.grownBy (w.setCell ⟨g, i, none⟩ u) (some g) := grown_set (World.grownBy.refl w _) u
theorem only_drewN {a w : World} {row : Option Nat} (h : a.grownBy w row) (n : Nat) : a.grownBy (w.drewN n) row := ⟨h.os, h.tape, h.output, h.size, h.block⟩

set_option maxHeartbeats 400000 in
theorem valid_nil (w : World) : Calls Try.prog 26 #[.pointer none] w fun e w' => e = .returned (.bool false) ∧ w' = w := by
  go_enter Try.func26, Try.ntmps26
  go_wp2
  go_ret
  exact ⟨rfl, rfl⟩

set_option maxHeartbeats 400000 in
theorem valid_any (g d at_ : Nat) (l : List UInt8) (bad : Bool) (w : World) (h : Rdr w g d l at_ bad) : Calls Try.prog 26 #[.pointer (some ⟨g, 0, none⟩)] w fun e w' => e = .returned (.bool (!bad)) ∧ w' = w := by
  have h2 := h.c2
  go_enter Try.func26, Try.ntmps26
  go_wp2
  go_ret
  exact ⟨rfl, rfl⟩

set_option maxHeartbeats 400000 in
theorem fail_nil (w : World) : Calls Try.prog 24 #[.pointer none] w fun e w' => e = .returned (.tuple #[]) ∧ w' = w := by
  go_enter Try.func24, Try.ntmps24
  go_wp2
  go_end0
  exact ⟨rfl, rfl⟩

set_option maxHeartbeats 400000 in
theorem fail_any (g d at_ : Nat) (l : List UInt8) (bad : Bool) (w : World) (h : Rdr w g d l at_ bad) : Calls Try.prog 24 #[.pointer (some ⟨g, 0, none⟩)] w fun e w' => e = .returned (.tuple #[]) ∧ w' = w.setCell ⟨g, 2, none⟩ (.bool true) := by
  have h2 := h.c2
  have hf := h.1.frozen 2
  go_enter Try.func24, Try.ntmps24
  go_wp2
  go_end0
  exact ⟨rfl, rfl⟩

set_option maxHeartbeats 400000 in
theorem take_nil (n : Int) (w : World) : Calls Try.prog 25 #[.pointer none, .int .i64 n] w fun e w' => e = .returned (.slice none 0 0) ∧ w' = w := by
  go_enter Try.func25, Try.ntmps25
  go_wp2_with (go_at_call 26; refine (valid_nil _).mono ?_; rintro e w' ⟨rfl, rfl⟩)
  go_ret
  exact ⟨rfl, rfl⟩

set_option maxHeartbeats 400000 in
theorem take_bad (g d at_ : Nat) (l : List UInt8) (n : Int) (w : World) (h : Rdr w g d l at_ true) : Calls Try.prog 25 #[.pointer (some ⟨g, 0, none⟩), .int .i64 n] w fun e w' => e = .returned (.slice none 0 0) ∧ w' = w := by
  go_enter Try.func25, Try.ntmps25
  go_wp2_with (go_at_call 26; refine (valid_any g d at_ l true _ h).mono ?_; rintro e w' ⟨rfl, rfl⟩)
  go_ret
  exact ⟨rfl, rfl⟩

set_option maxHeartbeats 400000 in
theorem take_short (g d at_ : Nat) (l : List UInt8) (n : Nat) (w : World) (h : Rdr w g d l at_ false) (_hat : at_ ≤ l.length) (_hl : l.length ≤ 1000000000) (_hn : l.length < at_ + n) (_hn2 : n ≤ 1000000000) :
    Calls Try.prog 25 #[.pointer (some ⟨g, 0, none⟩), .int .i64 (n : Int)] w fun e w' => e = .returned (.slice none 0 0) ∧ Rdr w' g d l at_ true ∧ w.grownBy w' (some g) := by
  have h0 := h.c0
  have h1 := h.c1
  go_enter Try.func25, Try.ntmps25
  go_wp2_with (go_at_call 26; refine (valid_any g d at_ l false _ h).mono ?_; rintro e w' ⟨rfl, rfl⟩)
  go_quiet (fail)
  go_wp2_with fail
  refine (fail_any g d at_ l false (w'.drewN nq) (h.drewN nq)).mono ?_
  rintro e w2 ⟨rfl, rfl⟩
  have hr : Rdr ((w'.drewN nq).setCell ⟨g, 2, none⟩ (.bool true)) g d l at_ true := Rdr.setBad (w := w'.drewN nq) h true
  have hg : w'.grownBy ((w'.drewN nq).setCell ⟨g, 2, none⟩ (.bool true)) (some g) := grown_set (only_drewN (World.grownBy.refl w' _) nq) _
  have HR := Lib.hid hr
  have HG := Lib.hid hg
  clear hr hg h h0 h1
  generalize (w'.drewN nq).setCell ⟨g, 2, none⟩ (.bool true) = w3 at *
  go_wp2
  go_ret
  exact ⟨rfl, HR.out, HG.out⟩

/-- The value is a slice of n elements that reads as l. -/
def GotSlice (w' : World) (l : List UInt8) (e : Ending) : Prop := ∃ A c, e = .returned (.slice A l.length c) ∧ Rd w' w'.heap.size A l

theorem take_end {w : World} {g d at_ n : Nat} {l : List UInt8} (h : Rdr w g d l at_ false) (hn : at_ + n ≤ l.length) (p q : Nat) (A : Option Addr) (c : Nat) (hA : n = 0 ∨ A = some ⟨d, at_, none⟩ ) :
    GotSlice (((w.drewN p).setCell ⟨g, 1, none⟩ (.int .i64 ((at_ : Int) + (n : Int)))).drewN q) ((l.drop at_).take n) (.returned (.slice A n c)) ∧
      Rdr (((w.drewN p).setCell ⟨g, 1, none⟩ (.int .i64 ((at_ : Int) + (n : Int)))).drewN q) g d l (at_ + n) false ∧ w.grownBy (((w.drewN p).setCell ⟨g, 1, none⟩ (.int .i64 ((at_ : Int) + (n : Int)))).drewN q) (some g) := by
  have hr : Rdr (((w.drewN p).setCell ⟨g, 1, none⟩ (.int .i64 ((at_ : Int) + (n : Int)))).drewN q) g d l (at_ + n) false := by
    have := (h.drewN p).setAt (at_ + n)
    rw [Int.natCast_add] at this
    exact this.drewN q
  refine ⟨⟨A, c, ?_, ?_⟩, hr, only_drewN (grown_set (only_drewN (World.grownBy.refl w _) p) _) q⟩
  · simp [Nat.min_eq_left (show n ≤ l.length - at_ by omega)]
  · rcases hA with rfl | rfl
    · exact .inl (by simp)
    · exact Rd.of_blk l hr.2 hr.2.lt at_ n

set_option maxHeartbeats 400000 in
theorem take_fit (g d at_ : Nat) (l : List UInt8) (n : Nat) (w : World) (h : Rdr w g d l at_ false) (hl : l.length ≤ 1000000000) (hn : at_ + n ≤ l.length) :
    Calls Try.prog 25 #[.pointer (some ⟨g, 0, none⟩), .int .i64 (n : Int)] w fun e w' => GotSlice w' ((l.drop at_).take n) e ∧ Rdr w' g d l (at_ + n) false ∧ w.grownBy w' (some g) := by
  have h0 := h.c0
  have h1 := h.c1
  have hf1 := h.1.frozen 1
  go_enter Try.func25, Try.ntmps25
  go_wp2_with (go_at_call 26; refine (valid_any g d at_ l false _ h).mono ?_; rintro e w' ⟨rfl, rfl⟩)
  go_quiet (fail)
  go_wp2
  go_quiet (fail)
  go_wp2
  all_goals go_ret
  · exact take_end ‹_› hn _ _ _ _ (.inl (by omega))
  · exact take_end ‹_› hn _ _ _ _ (.inr rfl)
end Go.Proofs.Ytpfibdloaddbdaa
