/-
  The reference of layer 11: same, Good: contracts.
-/
import Derived.Test.YtjapohddfelgkaaLzRefG
import Derived.IntWalk
set_option maxRecDepth 100000
namespace Go.Proofs.Ytjapohddfelgkaa
open Go.RowKit Go.Gar

theorem refSame_any (A : Option Addr) (b : List UInt8) (n c i k : Nat) (w : World) (hn : n = b.length) (hr : Rd w w.heap.size A b) (hik : i < k) (hk : k < n) (hl : n ≤ 1099511627776) (r : Nat) (hrr : r = Lz.same b i k) :
    Calls Try.prog 27 #[.slice A n c, .int .i64 (i : Int), .int .i64 (k : Int)] w fun e w' => e = .returned (.int .i64 (r : Int)) ∧ Below w.heap.size w w' := by
  obtain ⟨g, o, rfl, hgB, hcell⟩ : ∃ g o, A = some ⟨g, o, none⟩ ∧ g < w.heap.size ∧ ∀ (i : Nat) (x : UInt8), b[i]? = some x → w.cell? ⟨g, o + i, none⟩ = some (.int .u8 (x.toNat : Int)) := by
    rcases hr with h | ⟨g, o, h1, h2, h3⟩
    · rw [hn, h] at hk; simp at hk
    · exact ⟨g, o, h1, h2, h3⟩
  have HN := Lib.hid hn
  have HC := Lib.hid hcell
  have HR := Lib.hid hrr
  clear hn hcell hrr hr
  go_enter Try.func27, Try.ntmps27
  go_wp2
  go_loopw [7] (fun v w' => ∃ m : Nat, m ≤ 130 ∧ v = .int .i64 (m : Int) ∧ Lz.run b i k (130 - m) m = r ∧ Below w.heap.size w w') (fun v _ => 130 - (intOf v).toNat)
  case atStart => exact ⟨0, by omega, rfl, HR.out.symm, Below.refl _ _⟩
  case round =>
    obtain ⟨m, hm, rfl, hrun, hbe⟩ := hrel
    have Hbe := Lib.hid hbe
    have Hbd : Hid (∀ q, Below w.heap.size w (wr.drewN q)) := Lib.hid (fun q => ⟨hbe.os, hbe.tape, hbe.output, hbe.size, hbe.block⟩)
    clear hbe
    by_cases h1 : m < 130
    · have hd1 : decide ((m : Int) < 130) = true := by simp; omega
      have wk : IntKind.i64.wrap ((k : Int) + (m : Int)) = (k : Int) + (m : Int) := IntWalk.i64_in _ (by omega)
      have tk : ((k : Int) + (m : Int)).toNat = k + m := by omega
      have zk : (0 : Int) ≤ (k : Int) + (m : Int) := by omega
      have wi : IntKind.i64.wrap ((i : Int) + (m : Int)) = (i : Int) + (m : Int) := IntWalk.i64_in _ (by omega)
      have ti : ((i : Int) + (m : Int)).toNat = i + m := by omega
      have zi : (0 : Int) ≤ (i : Int) + (m : Int) := by omega
      have htn := Lz.run_turn (b := b) (i := i) (k := k) h1
      rw [hrun] at htn
      by_cases h2 : k + m < n
      · have hd2 : decide ((k : Int) + (m : Int) < (n : Int)) = true := by simp; omega
        have hkb : k + m < b.length := by rw [← HN.out]; exact h2
        have hib : i + m < b.length := by omega
        have c1 := (Hbe.out.cell (p := ⟨g, o + (i + m), none⟩) hgB).trans (HC.out (i + m) b[i + m] (List.getElem?_eq_getElem hib))
        have c2 := (Hbe.out.cell (p := ⟨g, o + (k + m), none⟩) hgB).trans (HC.out (k + m) b[k + m] (List.getElem?_eq_getElem hkb))
        rw [List.getElem?_eq_getElem hib, List.getElem?_eq_getElem hkb] at htn
        generalize b[i + m] = x at c1 htn
        generalize b[k + m] = y at c2 htn
        have hin : ((i : Int) + (m : Int)) < (n : Int) := by omega
        have hkn : ((k : Int) + (m : Int)) < (n : Int) := by omega
        by_cases hxy : x = y
        · have hq : ((x.toNat : Int) == (y.toNat : Int)) = true := by rw [hxy]; simp
          rw [if_pos ⟨hkb, by rw [hxy]⟩] at htn
          have HT := Lib.hid htn.symm
          clear htn hrun hxy h2 hkb hib
          go_wp2
          go_quiet (fail)
          clear wk tk zk wi ti zi
          go_wp2
          exact ⟨⟨m + 1, by omega, by go_num, HT.out, Hbd.out _⟩, by simp [intOf]; omega⟩
        · have hq : ((x.toNat : Int) == (y.toNat : Int)) = false := by
            rw [beq_eq_false_iff_ne]
            intro e
            exact hxy (UInt8.toNat_inj.1 (by omega))
          rw [if_neg (fun e => hxy (Option.some.inj e.2))] at htn
          have HT := Lib.hid htn
          clear htn hrun hxy h2 hkb hib
          go_wp2
          go_quiet (fail)
          go_wp2
          go_ret
          exact ⟨by rw [← HT.out]; rfl, Hbd.out _⟩
      · have hd2 : decide ((k : Int) + (m : Int) < (n : Int)) = false := by simp; omega
        rw [if_neg (fun e => h2 (by rw [HN.out]; exact e.1))] at htn
        have HT := Lib.hid htn
        clear htn hrun h2
        go_wp2
        go_quiet (fail)
        go_wp2
        go_ret
        exact ⟨by rw [← HT.out]; rfl, Hbd.out _⟩
    · have hd1 : decide ((m : Int) < 130) = false := by simp; omega
      obtain rfl : m = 130 := by omega
      have HT : Hid (130 = r) := Lib.hid (by rw [← hrun]; rfl)
      clear hrun
      go_wp2
      go_quiet (fail)
      go_wp2
      go_ret
      exact ⟨by rw [← HT.out]; rfl, Hbd.out _⟩
end Go.Proofs.Ytjapohddfelgkaa
