/-
  The landed lz: Good and Expand: their contracts.
-/
import Derived.Test.YtjapohddfelgkaaLzTz
import Derived.Test.YtjapohddfelgkaaLzC0
set_option maxRecDepth 100000
namespace Go.Proofs.Ytjapohddfelgkaa
open Go.RowKit Go.Gar

theorem good_lit_eq {t : Lz.Tok} {ln : Nat} (h : t.lit.length = ln) (h0 : 0 < ln) : Lz.good t = (decide (ln ≤ 128) && (decide (t.len = 0) && decide (t.dist = 0))) := by
  unfold Lz.good
  rw [if_neg (fun e => by rw [e] at h; simp at h; omega), h]
  by_cases h1 : ln ≤ 128 <;> by_cases h2 : t.len = 0 <;> by_cases h3 : t.dist = 0 <;> simp [h1, h2, h3] <;> omega
theorem good_mat_eq {t : Lz.Tok} (h : t.lit.length = 0) : Lz.good t = (decide (3 ≤ t.len) && (decide (t.len ≤ 130) && (decide (1 ≤ t.dist) && decide (t.dist ≤ 4096)))) := by
  unfold Lz.good
  rw [if_pos (List.eq_nil_of_length_eq_zero h)]
  by_cases h1 : 3 ≤ t.len <;> by_cases h2 : t.len ≤ 130 <;> by_cases h3 : 1 ≤ t.dist <;> by_cases h4 : t.dist ≤ 4096 <;> simp [h1, h2, h3, h4] <;> omega

set_option maxHeartbeats 1000000 in
theorem lzGood_any (t : Tv) (w : World) (z : Bool) (hz : z = Lz.good t.tok) :
    Calls Try.prog 21 #[.agg t.cells.toArray] w fun e w' => e = .returned (.bool z) ∧ Below w.heap.size w w' := by
  rcases t with ⟨A, l, c, n, d⟩
  unfold Tv.cells
  simp only
  obtain ⟨ln, hln⟩ : ∃ ln, l.length = ln := ⟨_, rfl⟩
  rw [hln]
  have hb := below_alloc w (.cells #[.slice A ln c, .int .i64 n, .int .i64 d] 41)
  have Hb := Lib.hid hb
  by_cases h0 : 0 < ln
  · rw [good_lit_eq (t := (⟨A, l, c, n, d⟩ : Tv).tok) hln h0] at hz
    simp only [Tv.tok] at hz
    have d0 : decide ((0 : Int) < (ln : Int)) = true := by simp; omega
    by_cases h1 : ln ≤ 128
    · have d1 : decide ((ln : Int) ≤ 128) = true := by simp; omega
      by_cases h2 : n = 0
      · subst h2
        by_cases h3 : d = 0
        · subst h3
          have HZ := Lib.hid (show z = true by rw [hz]; simp [h1])
          clear hz hb hln
          go_enter Try.func21, Try.ntmps21
          go_wp2
          go_ret
          exact ⟨by rw [HZ.out]; rfl, Hb.out⟩
        · have d3 : (d == 0) = false := by simp [h3]
          have HZ := Lib.hid (show z = false by rw [hz]; simp [h3])
          clear hz hb hln
          go_enter Try.func21, Try.ntmps21
          go_wp2
          go_ret
          exact ⟨by rw [HZ.out]; rfl, Hb.out⟩
      · have d2 : (n == 0) = false := by simp [h2]
        have HZ := Lib.hid (show z = false by rw [hz]; simp [h2])
        clear hz hb hln
        go_enter Try.func21, Try.ntmps21
        go_wp2
        go_ret
        exact ⟨by rw [HZ.out]; rfl, Hb.out⟩
    · have d1 : decide ((ln : Int) ≤ 128) = false := by simp; omega
      have HZ := Lib.hid (show z = false by rw [hz]; simp [h1])
      clear hz hb hln
      go_enter Try.func21, Try.ntmps21
      go_wp2
      go_ret
      exact ⟨by rw [HZ.out]; rfl, Hb.out⟩
  · obtain rfl : ln = 0 := by omega
    rw [good_mat_eq (t := (⟨A, l, c, n, d⟩ : Tv).tok) hln] at hz
    simp only [Tv.tok] at hz
    by_cases h1 : 3 ≤ n
    · have d1 : decide (3 ≤ n) = true := by simp [h1]
      by_cases h2 : n ≤ 130
      · have d2 : decide (n ≤ 130) = true := by simp [h2]
        by_cases h3 : 1 ≤ d
        · have d3 : decide (1 ≤ d) = true := by simp [h3]
          by_cases h4 : d ≤ 4096
          · have d4 : decide (d ≤ 4096) = true := by simp [h4]
            have HZ := Lib.hid (show z = true by rw [hz]; simp [h1, h2, h3, h4])
            clear hz hb hln
            go_enter Try.func21, Try.ntmps21
            go_wp2
            go_ret
            exact ⟨by rw [HZ.out]; rfl, Hb.out⟩
          · have d4 : decide (d ≤ 4096) = false := by simp [h4]
            have HZ := Lib.hid (show z = false by rw [hz]; simp [h4])
            clear hz hb hln
            go_enter Try.func21, Try.ntmps21
            go_wp2
            go_ret
            exact ⟨by rw [HZ.out]; rfl, Hb.out⟩
        · have d3 : decide (1 ≤ d) = false := by simp [h3]
          have HZ := Lib.hid (show z = false by rw [hz]; simp [h3])
          clear hz hb hln
          go_enter Try.func21, Try.ntmps21
          go_wp2
          go_ret
          exact ⟨by rw [HZ.out]; rfl, Hb.out⟩
      · have d2 : decide (n ≤ 130) = false := by simp [h2]
        have HZ := Lib.hid (show z = false by rw [hz]; simp [h2])
        clear hz hb hln
        go_enter Try.func21, Try.ntmps21
        go_wp2
        go_ret
        exact ⟨by rw [HZ.out]; rfl, Hb.out⟩
    · have d1 : decide (3 ≤ n) = false := by simp [h1]
      have HZ := Lib.hid (show z = false by rw [hz]; simp [h1])
      clear hz hb hln
      go_enter Try.func21, Try.ntmps21
      go_wp2
      go_ret
      exact ⟨by rw [HZ.out]; rfl, Hb.out⟩
end Go.Proofs.Ytjapohddfelgkaa
