/-
  Package crc: contracts of More and Of: they return the sum as CrcM has it.
-/
import Derived.Test.YtildnmlcildaoaaCrcRef
namespace Go.Proofs.Ytildnmlcildaoaa
open Go.RowKit Go.Gar Go.Gar.Crc

theorem not32 (x : BitVec 32) : bits .xor .u32 IntKind.u32.max (x.toNat : Int) = ((~~~ x).toNat : Int) := by
  have h := xor32 (BitVec.allOnes 32) x
  rw [show ((BitVec.allOnes 32).toNat : Int) = IntKind.u32.max from by decide] at h
  rw [h]
  congr 2
theorem half32 (x : BitVec 32) : (x.toNat : Int) / (2 : Int) = ((x >>> (1 : Nat)).toNat : Int) := by
  rw [BitVec.toNat_ushiftRight, Nat.shiftRight_eq_div_pow]; simp
theorem lsb32 (x : BitVec 32) : bits .and .u32 (x.toNat : Int) 1 = ((gb x 0).toNat : Int) := by
  have := bit32 x 0
  simpa [gb] using this
theorem step_one (x : BitVec 32) (h : gb x 0 = true) : bits .xor .u32 ((x.toNat : Int) / 2) 3988292384 = ((stp x).toNat : Int) := by
  have := xor32 (x >>> 1) poly
  rw [show (poly.toNat : Int) = 3988292384 from by decide] at this
  rw [half32, this, stp, if_pos (show x.getLsbD 0 = true from h)]
theorem step_nil (x : BitVec 32) (h : gb x 0 = false) : (x.toNat : Int) / 2 = ((stp x).toNat : Int) := by
  rw [half32, stp, if_neg (by rw [show x.getLsbD 0 = false from h]; simp), BitVec.xor_zero]
theorem steps_next (n : Nat) (x : BitVec 32) : steps (n + 1) x = stp (steps n x) := by rw [steps_add]; rfl
theorem run_next (x : BitVec 32) (l : List UInt8) (k : Nat) (h : k < l.length) : run x (l.take (k + 1)) = byte (run x (l.take k)) l[k] := by
  rw [List.take_succ_eq_append_getElem h, run_append]; rfl

set_option maxHeartbeats 1000000 in
theorem crcShifted_any (y1 : BitVec 32) (w : World) :
    Calls Try.prog 12 #[.int .u32 (y1.toNat : Int)] w fun e w' => e = .returned (.int .u32 ((steps 8 y1).toNat : Int)) ∧ w' = w := by
  go_enter Try.func12, Try.ntmps12
  go_wp2
  go_loop [0, 4] (fun x i => ∃ (j : Nat) (z : BitVec 32), j ≤ 8 ∧ i = .int .i64 j ∧ x = .int .u32 (z.toNat : Int) ∧ z = steps j y1) (fun _ i => 8 - (intOf i).toNat)
  case atStart => exact ⟨0, y1, by omega, rfl, rfl, rfl⟩
  case round =>
    obtain ⟨j, z, hj, rfl, rfl, hz⟩ := hrel
    have HZ := Lib.hid hz
    clear hz
    by_cases hj8 : j < 8
    · have hl1 := lsb32 z
      generalize hgz : gb z 0 = v at *
      cases v with
      | true =>
        have hb1 : (bits .and .u32 (z.toNat : Int) 1 == 1) = true := by rw [hl1]; rfl
        have HS := Lib.hid (step_one z hgz)
        clear hl1 hgz
        go_wp2
        exact ⟨⟨j + 1, stp z, by omega, by go_num, by rw [HS.out], by rw [steps_next, HZ.out]⟩, by simp [intOf]; omega⟩
      | false =>
        have hb1 : (bits .and .u32 (z.toNat : Int) 1 == 1) = false := by rw [hl1]; rfl
        have HS := Lib.hid (step_nil z hgz)
        clear hl1 hgz
        go_wp2
        exact ⟨⟨j + 1, stp z, by omega, by go_num, by rw [HS.out], by rw [steps_next, HZ.out]⟩, by simp [intOf]; omega⟩
    · obtain rfl : j = 8 := by omega
      go_wp2
      go_ret
      exact ⟨by rw [HZ.out]; rfl, rfl⟩

set_option maxHeartbeats 1000000 in
theorem crcMore_any (s : BitVec 32) (A : Option Addr) (l : List UInt8) (cap : Nat) (w : World) (B : Nat) (hr : Rd w B A l) (hl : l.length ≤ 1000000000) :
    Calls Try.prog 8 #[.int .u32 (s.toNat : Int), .slice A l.length cap] w fun e w' => e = .returned (.int .u32 ((more s l).toNat : Int)) ∧ w' = w := by
  have hs := s.isLt
  have hsg : IntKind.u32.signed = false := rfl
  go_enter Try.func8, Try.ntmps8
  go_wp2
  go_loop [5, 12] (fun x i => ∃ (k : Nat) (y : BitVec 32), k ≤ l.length ∧ i = .int .i64 k ∧ x = .int .u32 (y.toNat : Int) ∧ y = run (~~~ s) (l.take k)) (fun _ i => l.length - (intOf i).toNat)
  case atStart => exact ⟨0, ~~~ s, by omega, rfl, by rw [not32], by simp [run]⟩
  case round =>
    obtain ⟨k, y, hk, rfl, rfl, hy⟩ := hrel
    have HY := Lib.hid hy
    clear hy
    by_cases hlt : k < l.length
    · obtain ⟨b0, o0, rfl, hcb⟩ : ∃ b o, A = some ⟨b, o, none⟩ ∧ w.cell? ⟨b, o + k, none⟩ = some (.int .u8 ((l[k]).toNat : Int)) := by
        rcases hr with rfl | ⟨b, o, e, hbb, hcc⟩
        · simp at hlt
        · exact ⟨b, o, e, hcc k _ (List.getElem?_eq_getElem hlt)⟩
      have hc8 := (l[k]).toNat_lt
      have hx1 := xor32 y (BitVec.ofNat 32 (l[k]).toNat)
      rw [show (BitVec.ofNat 32 (l[k]).toNat).toNat = (l[k]).toNat from by simp] at hx1
      obtain ⟨c, hcc⟩ : ∃ c, (l[k]).toNat = c := ⟨_, rfl⟩
      obtain ⟨y1, hy1⟩ : ∃ y1, y ^^^ BitVec.ofNat 32 (l[k]).toNat = y1 := ⟨_, rfl⟩
      rw [hy1] at hx1
      rw [hcc] at hx1 hcb hc8
      have HY1 := Lib.hid hy1
      clear hy1 hcc
      go_wp2_with fail
      refine (crcShifted_any y1 w).mono ?_
      rintro e w' ⟨rfl, rfl⟩
      go_wp2
      exact ⟨⟨k + 1, steps 8 y1, by omega, by go_num, rfl, by rw [run_next _ _ _ hlt, ← HY.out, ← HY1.out]; rfl⟩, by simp [intOf]; omega⟩
    · obtain rfl : k = l.length := by omega
      rw [List.take_length] at HY
      have HN := Lib.hid (not32 y)
      go_wp2
      go_ret
      exact ⟨by rw [more, ← HY.out]; exact congrArg (fun v => Ending.returned (.int .u32 v)) HN.out, rfl⟩

/-- A part: where its slice lies, what it reads as, its capacity. -/
def partV (p : Option Addr × List UInt8 × Nat) : Value := .slice p.1 p.2.1.length p.2.2
def cat (ps : List (Option Addr × List UInt8 × Nat)) : List UInt8 := ps.flatMap (·.2.1)

set_option maxHeartbeats 1000000 in
theorem crcOf_any (A : Option Addr) (ps : List (Option Addr × List UInt8 × Nat)) (cap : Nat) (w : World) (B : Nat) (hc : Cells w B A (ps.map partV)) (hp : ∀ p ∈ ps, Rd w B p.1 p.2.1 ∧ p.2.1.length ≤ 1000000000) (hl : ps.length ≤ 1000) :
    Calls Try.prog 11 #[.slice A ps.length cap] w fun e w' => e = .returned (.int .u32 ((more 0#32 (cat ps)).toNat : Int)) ∧ w' = w := by
  have HC := Lib.hid hc
  have HP := Lib.hid hp
  clear hc hp
  go_enter Try.func11, Try.ntmps11
  go_wp2
  go_loop [3, 8] (fun x i => ∃ (k : Nat) (y : BitVec 32), k ≤ ps.length ∧ i = .int .i64 k ∧ x = .int .u32 (y.toNat : Int) ∧ y = more 0#32 (cat (ps.take k))) (fun _ i => ps.length - (intOf i).toNat)
  case atStart => exact ⟨0, 0#32, by omega, rfl, rfl, by simp [cat, more_nil]⟩
  case round =>
    obtain ⟨k, y, hk, rfl, rfl, hy⟩ := hrel
    have HY := Lib.hid hy
    clear hy
    by_cases hlt : k < ps.length
    · obtain ⟨b, o, rfl, _, hcell⟩ := HC.out.at_ (i := k) (by simpa using hlt)
      rw [List.getElem_map] at hcell
      obtain ⟨hrd, hln⟩ := HP.out ps[k] (List.getElem_mem hlt)
      have hnx : more y ps[k].2.1 = more 0#32 (cat (ps.take (k + 1))) := by
        rw [HY.out, ← more_append, List.take_succ_eq_append_getElem hlt]
        simp only [cat, List.flatMap_append, List.flatMap_cons, List.flatMap_nil, List.append_nil]
      generalize ps[k] = p at *
      obtain ⟨A1, l1, c1⟩ := p
      simp only [partV] at hcell
      have HN := Lib.hid hnx
      clear hnx
      go_wp2_with fail
      refine (crcMore_any y A1 l1 c1 w B hrd hln).mono ?_
      rintro e w' ⟨rfl, rfl⟩
      go_wp2
      exact ⟨⟨k + 1, _, by omega, by go_num, rfl, HN.out⟩, by simp [intOf]; omega⟩
    · obtain rfl : k = ps.length := by omega
      rw [List.take_length] at HY
      go_wp2
      go_ret
      exact ⟨by rw [← HY.out]; rfl, rfl⟩
end Go.Proofs.Ytildnmlcildaoaa
