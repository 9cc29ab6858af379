/-
  The reference's right and Message: contracts.
-/
import Derived.Test.YtpaagjhohfjopaaDoorBase
import Derived.Test.YtpaagjhohfjopaaDoorRow
import Derived.Test.YtpaagjhohfjopaaDoorBits
import Derived.Test.YtpaagjhohfjopaaDoorShaM
set_option maxRecDepth 100000
namespace Go.Proofs.YtpaagjhohfjopaaDoor
open Go.RowKit Go.Gar

set_option maxRecDepth 100000 in
theorem rotr_bits (x n : Nat) (hx : x < 4294967296) : bits .or .u32 ((x : Int) / 2 ^ n) ((x : Int) * 2 ^ (32 - n) % 4294967296) = ((Sha.rotr x n : Nat) : Int) := by
  rw [show (x : Int) / 2 ^ n = ((x / 2 ^ n : Nat) : Int) from by simp, show (x : Int) * 2 ^ (32 - n) % 4294967296 = ((x * 2 ^ (32 - n) % 4294967296 : Nat) : Int) from by rw [Int.natCast_emod, Int.natCast_mul, Int.natCast_pow]; rfl,
    or_u32 _ _ (Nat.lt_of_le_of_lt (Nat.div_le_self _ _) hx) (Nat.mod_lt _ (by omega))]
  rfl

set_option maxHeartbeats 1000000 in
set_option maxRecDepth 100000 in
theorem right_any (x n : Nat) (w : World) (hx : x < 4294967296) (hn : n ≤ 32) :
    Calls Tryd.prog 36 #[.int .u32 (x : Int), .int .i64 (n : Int)] w fun e w' => e = .returned (.int .u32 ((Sha.rotr x n : Nat) : Int)) ∧ w' = w := by
  have HO := Lib.hid (rotr_bits x n hx)
  have hz : ((32 : Int) - (n : Int)).toNat = 32 - n := by omega
  go_enter Tryd.func36, Tryd.ntmps36
  go_wp2
  go_ret
  exact ⟨congrArg (fun v => Ending.returned (.int .u32 v)) HO.out, rfl⟩

set_option maxHeartbeats 1000000 in
set_option maxRecDepth 100000 in
theorem message_any (w : World) (A : Option Addr) (l : List UInt8) (len cap : Nat) (hlen : len = l.length) (hr : Rd w w.heap.size A l) (hl : l.length ≤ 1048576) :
    Calls Tryd.prog 35 #[.slice A len cap] w fun e w' => ∃ v, e = .returned v ∧ OwnB w' w.heap.size 5 v (Sha.msg l) ∧ Below w.heap.size w w' := by
  have h1 : ∃ v1 w1, (Builtin.append_ #[22, 22] 22 #[.slice (some ⟨w.heap.size, 0, none⟩) 0 0, .slice A len cap]).run Tryd.prog (w.alloc (.cells #[] 5)) = .ok v1 w1 ∧ OwnB w1 w.heap.size 5 v1 l ∧ Below w.heap.size w w1 := by
    obtain ⟨v1, w1, a1, a2, a3, _⟩ := app_rd (P := Tryd.prog) 22 22 Tryd.und22 Tryd.info5 (own_made w w.heap.size 5 (Nat.le_refl _)) (by rw [World.size_alloc]; omega) cap (hr.alloc (Nat.le_refl _) _) (by simp; omega)
    rw [← hlen] at a1
    exact ⟨v1, w1, a1, by simpa using a2, (below_alloc w _).trans a3⟩
  obtain ⟨v1, w1, a1, a2, hb1⟩ := h1
  obtain ⟨v2, w2, b1, b2, b3⟩ := app_one (P := Tryd.prog) 22 22 Tryd.und22 Tryd.info5 a2 hb1.size 128 128 rfl (by omega)
  have HO : Hid (OwnB w2 w.heap.size 5 v2 (Sha.msgK l 0)) := Lib.hid (by simpa [Sha.msgK] using b2)
  have HB := Lib.hid (hb1.trans b3)
  have HL := Lib.hid hlen
  have hl20 : len ≤ 1048576 := by omega
  clear a2 b2 b3 hb1 hr hlen hl
  go_enter Tryd.func35, Tryd.ntmps35
  go_wp2_with (first | (at_builtin; refine wpList_append_run rfl (.tmp 6) (.tmp 7) _ rfl rfl rfl a1 ?_) | (at_builtin; refine wpList_append_run rfl (.tmp 8) (.tmp 9) _ rfl rfl rfl b1 ?_))
  clear a1 b1
  go_loopw [3] (fun v w' => ∃ z : Nat, z ≤ Sha.zeros l ∧ OwnB w' w.heap.size 5 v (Sha.msgK l z) ∧ Below w.heap.size w w') (fun v _ => len + 65 - (match v with | .slice _ n _ => n | _ => 0))
  case atStart => exact ⟨0, Nat.zero_le _, HO.out, HB.out⟩
  case round =>
    obtain ⟨z, hz, hO, hB⟩ := hrel
    clear HO HB
    have ht := Sha.msgK_test l z hz
    have hzl : Sha.zeros l < 64 := Nat.mod_lt _ (by omega)
    obtain ⟨A2, c2, rfl, _⟩ := hO.rd
    have hml := Sha.msgK_len l z
    rw [hml, ← HL.out] at ht
    rw [hml, ← HL.out] at hO ⊢
    clear hml
    have HO := Lib.hid hO
    have HB := Lib.hid hB
    clear hO hB
    by_cases hzz : z = Sha.zeros l
    · have hm := ht.2 hzz
      have HZ := Lib.hid hzz
      clear ht hzz
      have d1 : (((len : Int) + 1 + (z : Int)) % 64 != 56) = false := by simp; omega
      go_wp2
      have HO0 : Hid (OwnB wr w.heap.size 5 (.slice A2 (len + 1 + z) c2) (Sha.msgK l (Sha.zeros l) ++ Sha.be8K (8 * len) 0)) := Lib.hid (by rw [← HZ.out, show Sha.be8K (8 * len) 0 = [] from rfl, List.append_nil]; exact HO.out)
      have HM : Hid ((Sha.msgK l (Sha.zeros l)).length ≤ 1048700) := Lib.hid (by rw [Sha.msgK_len, ← HL.out]; omega)
      clear HO d1 hm
      have HF : Hid (Sha.msg l = Sha.msgK l (Sha.zeros l) ++ Sha.be8K (8 * len) 8) := Lib.hid (by rw [HL.out]; rfl)
      generalize Sha.msgK l (Sha.zeros l) = mk at HO0 HM HF
      generalize Value.slice A2 (len + 1 + z) c2 = v0 at HO0 ⊢
      clear HZ HL hz hzl
      go_loopw [3, 5] (fun v i w' => ∃ k : Nat, k ≤ 8 ∧ i = .int .i64 (7 - (k : Int)) ∧ OwnB w' w.heap.size 5 v (mk ++ Sha.be8K (8 * len) k) ∧ Below w.heap.size w w') (fun _ i _ => (intOf i + 1).toNat)
      case atStart => exact ⟨0, by omega, rfl, HO0.out, HB.out⟩
      case round =>
        obtain ⟨k, hk, rfl, hO, hB⟩ := hrel
        clear HO0 HB
        have HO := Lib.hid hO
        have HB := Lib.hid hB
        clear hO hB
        by_cases hk8 : k < 8
        · have hz : (8 * ((7 : Int) - (k : Int))).toNat = 56 - 8 * k := by omega
          obtain ⟨v', w3, h1, h2, h3⟩ := app_one (P := Tryd.prog) 22 22 Tryd.und22 Tryd.info5 HO.out HB.out.size (UInt8.ofNat (8 * len / 2 ^ (56 - 8 * k))) (8 * (len : Int) / 2 ^ (56 - 8 * k) % 256) (by
            rw [UInt8.toNat_ofNat']; simp) (by rw [List.length_append, Sha.be8K_len]; have := HM.out; omega)
          rw [List.append_assoc, ← Sha.be8K_succ] at h2
          have H2 := Lib.hid h2
          have H3 := Lib.hid h3
          clear h2 h3
          go_wp2_with (at_builtin; refine wpList_append_run rfl (.tmp 26) (.tmp 33) _ rfl rfl rfl h1 ?_)
          exact ⟨⟨k + 1, by omega, by simp; omega, H2.out, HB.out.trans H3.out⟩, by simp [intOf]; omega⟩
        · obtain rfl : k = 8 := by omega
          go_wp2
          go_ret
          exact ⟨_, rfl, by rw [HF.out]; exact HO.out, HB.out⟩
    · have hm : ¬ ((len + 1 + z) % 64 = 56) := fun h => hzz (ht.1 h)
      have d1 : (((len : Int) + 1 + (z : Int)) % 64 != 56) = true := by simp; omega
      clear ht
      obtain ⟨v', w3, h1, h2, h3⟩ := app_one (P := Tryd.prog) 22 22 Tryd.und22 Tryd.info5 HO.out HB.out.size 0 0 rfl (by rw [Sha.msgK_len, ← HL.out]; omega)
      rw [Sha.msgK_succ] at h2
      obtain ⟨A3, c3, rfl, _⟩ := h2.rd
      have H2 := Lib.hid h2
      have H3 := Lib.hid h3
      clear h2 h3
      go_wp2_with (at_builtin; refine wpList_append_run rfl (.tmp 15) (.tmp 16) _ rfl rfl rfl h1 ?_)
      refine ⟨⟨z + 1, by omega, H2.out, HB.out.trans H3.out⟩, ?_⟩
      simp [Sha.msgK_len, ← HL.out]
      omega
end Go.Proofs.YtpaagjhohfjopaaDoor
