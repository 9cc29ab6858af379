/-
  The landed lz: common: its contract.
-/
import Derived.Test.YtjapohddfelgkaaLzC
import Derived.IntWalk
import Derived.BigQuiet
set_option maxRecDepth 100000
namespace Go.Proofs.Ytjapohddfelgkaa
open Go.RowKit Go.Gar

theorem run_min130 (n m : Nat) (h : m = min n 130) (W : World) : (Builtin.min_ #[3, 3] 3 #[.int .i64 (n : Int), .int .i64 130]).run Try.prog W = .ok (.int .i64 (m : Int)) W := by
  by_cases hc : (130 : Int) < (n : Int)
  · obtain rfl : m = 130 := by omega
    simp [Builtin.min_, Builtin.min2, hc]
  · obtain rfl : m = n := by omega
    simp [Builtin.min_, Builtin.min2, hc]
theorem common_any (g o1 o2 n1 n2 c1 c2 : Nat) (b : List UInt8) (n i k : Nat) (w : World) (hn : n = b.length) (hik : i < k) (hk : k < n) (hl : n ≤ 1099511627776) (h1 : n1 + i = n) (h2 : n2 + k = n) (hgB : g < w.heap.size)
    (hc1 : ∀ j c, b[i + j]? = some c → w.cell? ⟨g, o1 + j, none⟩ = some (.int .u8 (c.toNat : Int))) (hc2 : ∀ j c, b[k + j]? = some c → w.cell? ⟨g, o2 + j, none⟩ = some (.int .u8 (c.toNat : Int))) (r : Nat) (hrr : r = Lz.same b i k) :
    Calls Try.prog 32 #[.slice (some ⟨g, o1, none⟩) n1 c1, .slice (some ⟨g, o2, none⟩) n2 c2] w fun e w' => e = .returned (.int .i64 (r : Int)) ∧ Below w.heap.size w w' := by
  have HN := Lib.hid hn
  have HC1 := Lib.hid hc1
  have HC2 := Lib.hid hc2
  have HR := Lib.hid hrr
  have H1 := Lib.hid h1
  have H2 := Lib.hid h2
  obtain ⟨q, hq⟩ : ∃ q, q = min n2 130 := ⟨_, rfl⟩
  have HQ := Lib.hid hq
  have hmin := run_min130 n2 q hq
  have hq1 : q ≤ 130 := by omega
  clear hn hc1 hc2 hrr h1 h2 hq
  go_enter Try.func32, Try.ntmps32
  go_wp2
  go_loopw [5] (fun v w' => ∃ m : Nat, m ≤ q ∧ v = .int .i64 (m : Int) ∧ Lz.run b i k (130 - m) m = r ∧ Below w.heap.size w w') (fun v _ => 130 - (intOf v).toNat)
  case atStart => exact ⟨0, by omega, rfl, HR.out.symm, Below.refl _ _⟩
  case round =>
    obtain ⟨m, hm, rfl, hrun, hbe⟩ := hrel
    have Hbe := Lib.hid hbe
    have Hbd : Hid (∀ q, Below w.heap.size w (wr.drewN q)) := Lib.hid (fun q => ⟨hbe.os, hbe.tape, hbe.output, hbe.size, hbe.block⟩)
    clear hbe
    by_cases hmq : m < q
    · have hd1 : decide ((m : Int) < (q : Int)) = true := by simp; omega
      have htn := Lz.run_turn (b := b) (i := i) (k := k) (n := m) (by omega)
      rw [hrun] at htn
      have hkb : k + m < b.length := by rw [← HN.out]; have := HQ.out; have := H2.out; omega
      have hib : i + m < b.length := by omega
      have d1 := (Hbe.out.cell (p := ⟨g, o1 + m, none⟩) hgB).trans (HC1.out m b[i + m] (List.getElem?_eq_getElem hib))
      have d2 := (Hbe.out.cell (p := ⟨g, o2 + m, none⟩) hgB).trans (HC2.out m b[k + m] (List.getElem?_eq_getElem hkb))
      rw [List.getElem?_eq_getElem hib, List.getElem?_eq_getElem hkb] at htn
      generalize b[i + m] = x at d1 htn
      generalize b[k + m] = y at d2 htn
      have hin : (m : Int) < (n1 : Int) := by have := H1.out; have := H2.out; have := HQ.out; omega
      have hkn : (m : Int) < (n2 : Int) := by have := HQ.out; omega
      by_cases hxy : x = y
      · have hqq : ((x.toNat : Int) == (y.toNat : Int)) = true := by rw [hxy]; simp
        rw [if_pos ⟨hkb, by rw [hxy]⟩] at htn
        have HT := Lib.hid htn.symm
        clear htn hrun hxy hkb hib
        go_wp2
        go_quiet (fail)
        go_wp2
        exact ⟨⟨m + 1, by omega, by go_num, HT.out, Hbd.out _⟩, by simp [intOf]; omega⟩
      · have hqq : ((x.toNat : Int) == (y.toNat : Int)) = false := by
          rw [beq_eq_false_iff_ne]
          intro e
          exact hxy (UInt8.toNat_inj.1 (by omega))
        rw [if_neg (fun e => hxy (Option.some.inj e.2))] at htn
        have HT := Lib.hid htn
        clear htn hrun hxy hkb hib
        go_wp2
        go_quiet (fail)
        go_wp2
        go_ret
        exact ⟨by rw [← HT.out]; rfl, Hbd.out _⟩
    · have hd1 : decide ((m : Int) < (q : Int)) = false := by simp; omega
      have HT : Hid (m = r) := Lib.hid (by
        have h3 := HQ.out
        have h4 := H2.out
        by_cases h130 : m = 130
        · subst h130; rw [← hrun]; rfl
        · rw [← hrun, Lz.run_turn (by omega), if_neg (by rw [← HN.out]; omega)])
      clear hrun
      go_wp2
      go_quiet (fail)
      go_wp2
      go_ret
      exact ⟨by rw [← HT.out]; rfl, Hbd.out _⟩
end Go.Proofs.Ytjapohddfelgkaa
