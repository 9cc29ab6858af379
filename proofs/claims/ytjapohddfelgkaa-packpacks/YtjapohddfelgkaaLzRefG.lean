/-
  The reference of layer 11: Good: its contract.
-/
import Derived.Test.YtjapohddfelgkaaLzT
import Derived.IntWalk
set_option maxRecDepth 100000
namespace Go.Proofs.Ytjapohddfelgkaa
open Go.RowKit Go.Gar

theorem refGood_any (t : Tv) (w : World) (z : Bool) (hz : z = Lz.good t.tok) :
    Calls Try.prog 26 #[.agg t.cells.toArray] w fun e w' => e = .returned (.bool z) ∧ Below w.heap.size w w' := by
  rcases t with ⟨A, l, c, n, d⟩
  unfold Tv.cells
  simp only
  obtain ⟨ln, hln⟩ : ∃ ln, l.length = ln := ⟨_, rfl⟩
  rw [hln]
  have hb := below_alloc w (.cells #[.slice A ln c, .int .i64 n, .int .i64 d] 41)
  have Hb := Lib.hid hb
  unfold Lz.good Tv.tok at hz
  simp only at hz
  by_cases h0 : ln = 0
  · obtain rfl : l = [] := List.eq_nil_of_length_eq_zero (by omega)
    rw [if_pos rfl] at hz
    subst h0
    have HZ := Lib.hid hz
    clear hz hb hln
    by_cases h1 : 2 < n
    · have d1 : decide (2 < n) = true := by simp [h1]
      by_cases h2 : n < 131
      · have d2 : decide (n < 131) = true := by simp [h2]
        by_cases h3 : 0 < d
        · have d3 : decide (0 < d) = true := by simp [h3]
          by_cases h4 : d < 4097
          · have d4 : decide (d < 4097) = true := by simp [h4]
            have hzt : z = true := by rw [HZ.out]; simp [h1, h2, h3, h4]
            subst hzt
            go_enter Try.func26, Try.ntmps26
            go_wp2
            go_ret
            exact ⟨rfl, Hb.out⟩
          · have d4 : decide (d < 4097) = false := by simp; omega
            have hzt : z = false := by rw [HZ.out]; simp [h4]
            subst hzt
            go_enter Try.func26, Try.ntmps26
            go_wp2
            go_ret
            exact ⟨rfl, Hb.out⟩
        · have d3 : decide (0 < d) = false := by simp; omega
          have hzt : z = false := by rw [HZ.out]; simp [h3]
          subst hzt
          go_enter Try.func26, Try.ntmps26
          go_wp2
          go_ret
          exact ⟨rfl, Hb.out⟩
      · have d2 : decide (n < 131) = false := by simp; omega
        have hzt : z = false := by rw [HZ.out]; simp [h2]
        subst hzt
        go_enter Try.func26, Try.ntmps26
        go_wp2
        go_ret
        exact ⟨rfl, Hb.out⟩
    · have d1 : decide (2 < n) = false := by simp; omega
      have hzt : z = false := by rw [HZ.out]; simp [h1]
      subst hzt
      go_enter Try.func26, Try.ntmps26
      go_wp2
      go_ret
      exact ⟨rfl, Hb.out⟩
  · rw [if_neg (fun e => h0 (by rw [← hln, e]; rfl)), hln] at hz
    have hq : ((ln : Int) == 0) = false := by simp; omega
    have HZ := Lib.hid hz
    clear hz hb hln
    by_cases h1 : ln < 129
    · have d1 : decide ((ln : Int) < 129) = true := by simp; omega
      by_cases h2 : n = 0
      · subst h2
        by_cases h3 : d = 0
        · subst h3
          have hzt : z = true := by rw [HZ.out]; simp [h1]
          subst hzt
          go_enter Try.func26, Try.ntmps26
          go_wp2
          go_ret
          exact ⟨rfl, Hb.out⟩
        · have d3 : (d == 0) = false := by simp [h3]
          have hzt : z = false := by rw [HZ.out]; simp [h3]
          subst hzt
          go_enter Try.func26, Try.ntmps26
          go_wp2
          go_ret
          exact ⟨rfl, Hb.out⟩
      · have d2 : (n == 0) = false := by simp [h2]
        have hzt : z = false := by rw [HZ.out]; simp [h2]
        subst hzt
        go_enter Try.func26, Try.ntmps26
        go_wp2
        go_ret
        exact ⟨rfl, Hb.out⟩
    · have d1 : decide ((ln : Int) < 129) = false := by simp; omega
      have hzt : z = false := by rw [HZ.out]; simp [h1]
      subst hzt
      go_enter Try.func26, Try.ntmps26
      go_wp2
      go_ret
      exact ⟨rfl, Hb.out⟩
end Go.Proofs.Ytjapohddfelgkaa
