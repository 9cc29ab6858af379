/-
  What the functions of package octet do to memory: extended, number, Int: contracts, of every slice and number within the stated bounds.
-/
import Derived.Test.YtpaagjhohfjopaaDoorBase
set_option maxRecDepth 100000
namespace Go.Proofs.YtpaagjhohfjopaaDoor
open Go.RowKit Go.Gar

set_option maxHeartbeats 400000 in
theorem extended_any (A : Option Addr) (l : List UInt8) (c more : Nat) (w : World) (hr : Rd w w.heap.size A l) (hsz : l.length + more ≤ 1099511627776) :
    Calls Tryd.prog 28 #[.slice A l.length c, .int .i64 (more : Int)] w fun e w' =>
      e = .returned (.slice (some ⟨w.heap.size, 0, none⟩) l.length (l.length + more)) ∧ Blk w' w.heap.size 5 (u8s (l ++ List.replicate more 0)) ∧ Below w.heap.size w w' ∧ w'.heap.size = w.heap.size + 1 := by
  have hmk := run_make_bytes l.length (l.length + more) (by omega) (by omega) w
  simp only [Int.natCast_add] at hmk
  have hB := Blk.new w 5 (u8s (List.replicate (l.length + more) 0))
  have hcp := run_copy_rd (P := Tryd.prog) 22 22 3 5 Tryd.und22 Tryd.size5 w.heap.size (l.length + more) c A l w.heap.size (hr.alloc (Nat.le_refl _) _) _ _ hB (by simp [u8s_len])
  have hrow := hB.row (u8s l ++ (u8s (List.replicate (l.length + more) 0)).drop l.length)
  have hbel : Below w.heap.size w ((w.alloc (.cells (u8s (List.replicate (l.length + more) 0)).toArray 5)).setRow w.heap.size (u8s l ++ (u8s (List.replicate (l.length + more) 0)).drop l.length).toArray) :=
    below_setRow ((Below.refl _ _).alloc (Nat.le_refl _) _) (Nat.le_refl _) _
  have hsize : ((w.alloc (.cells (u8s (List.replicate (l.length + more) 0)).toArray 5)).setRow w.heap.size (u8s l ++ (u8s (List.replicate (l.length + more) 0)).drop l.length).toArray).heap.size = w.heap.size + 1 := by simp
  have HR := Lib.hid hrow
  have HS := Lib.hid hsize
  have HL := Lib.hid hbel
  clear hrow hsize hB hbel
  generalize ((w.alloc (.cells (u8s (List.replicate (l.length + more) 0)).toArray 5)).setRow w.heap.size (u8s l ++ (u8s (List.replicate (l.length + more) 0)).drop l.length).toArray) = w2 at *
  go_enter Tryd.func28, Tryd.ntmps28
  go_wp2
  go_ret
  refine ⟨rfl, ?_, HL.out, HS.out⟩
  have := HR.out
  rw [u8s_drop, ← u8s_app] at this
  simpa using this

/-- The low bytes of n, size of them, the highest first. -/
def be (n size : Nat) : List UInt8 := (List.range size).map fun i => UInt8.ofNat (n / 2 ^ (8 * (size - 1 - i)))

theorem be_len (n size : Nat) : (be n size).length = size := by simp [be]
theorem be_set (l rest : List UInt8) (n size k : Nat) (hk : k < size) (hs : size ≤ rest.length) :
    (u8s (l ++ (be n size).take k ++ rest.drop k)).set (l.length + k) (.int .u8 ((n : Int) / 2 ^ (8 * (size - 1 - k)) % 256)) = u8s (l ++ (be n size).take (k + 1) ++ rest.drop (k + 1)) := by
  have e1 : (be n size).take (k + 1) = (be n size).take k ++ [UInt8.ofNat (n / 2 ^ (8 * (size - 1 - k)))] := by
    rw [List.take_succ_eq_append_getElem (by rw [be_len]; exact hk)]
    simp [be]
  have e2 : rest.drop k = rest[k] :: rest.drop (k + 1) := List.drop_eq_getElem_cons (by omega)
  have e3 : ((be n size).take k).length = k := by rw [List.length_take, be_len]; omega
  have e4 : (Value.int .u8 ((n : Int) / 2 ^ (8 * (size - 1 - k)) % 256)) = Value.int .u8 ((UInt8.ofNat (n / 2 ^ (8 * (size - 1 - k)))).toNat : Int) := by
    simp
  have e5 : u8s (l ++ (be n size).take k ++ rest.drop k) = u8s (l ++ (be n size).take k) ++ (Value.int .u8 (rest[k].toNat : Int) :: u8s (rest.drop (k + 1))) := by
    rw [u8s_app (l ++ (be n size).take k), e2]; rfl
  have e6 : (u8s (l ++ (be n size).take k)).length = l.length + k := by rw [u8s_len, List.length_append, e3]
  rw [e5, e4, ← e6, set_mid, e1, ← List.append_assoc, u8s_app (l ++ (be n size).take k ++ [_]), u8s_app (l ++ (be n size).take k)]
  simp [u8s]
set_option maxHeartbeats 400000 in
theorem number_any (g : Nat) (l rest : List UInt8) (n size : Nat) (w : World) (hs8 : size ≤ 8) (hs : size ≤ rest.length) (hsz : l.length + rest.length ≤ 1099511627776)
    (hB : Blk w g 5 (u8s (l ++ rest))) :
    Calls Tryd.prog 27 #[.slice (some ⟨g, 0, none⟩) l.length (l.length + rest.length), .int .u64 (n : Int), .int .i64 (size : Int)] w fun e w' =>
      e = .returned (.slice (some ⟨g, 0, none⟩) (l.length + size) (l.length + rest.length)) ∧ Blk w' g 5 (u8s (l ++ be n size ++ rest.drop size)) ∧ w.grownBy w' (some g) := by
  go_enter Tryd.func27, Tryd.ntmps27
  go_wp2
  go_loopw [0, 9] (fun b i w' => ∃ k : Nat, k ≤ size ∧ i = .int .i64 k ∧ b = .slice (some ⟨g, 0, none⟩) (l.length + k) (l.length + rest.length) ∧ Blk w' g 5 (u8s (l ++ (be n size).take k ++ rest.drop k)) ∧ w.grownBy w' (some g)) (fun _ i _ => size - (intOf i).toNat)
  case atStart => exact ⟨0, by omega, rfl, rfl, by simpa using hB, World.grownBy.refl _ _⟩
  case round =>
    obtain ⟨k, hk, rfl, rfl, hBk, hg⟩ := hrel
    by_cases hlt : k < size
    · have hne : g < wr.heap.size := hBk.lt
      have hlen : l.length + k < (u8s (l ++ (be n size).take k ++ rest.drop k)).length := by
        simp [u8s_len, be]; omega
      obtain ⟨v0, hc⟩ : ∃ v0, ∀ o : Obj, (wr.alloc o).cell? ⟨g, l.length + k, none⟩ = some v0 := ⟨_, fun o => by
        rw [(hBk.alloc o).cell, List.getElem?_eq_getElem hlen]⟩
      have hf : ∀ o : Obj, (wr.alloc o).frozen? ⟨g, l.length + k, none⟩ = false := fun o => (hBk.alloc o).frozen _
      have hstep : ∀ o : Obj, Blk ((wr.setCell ⟨g, l.length + k, none⟩ (.int .u8 ((n : Int) / 2 ^ (8 * (size - 1 - k)) % 256))).alloc o) g 5 (u8s (l ++ (be n size).take (k + 1) ++ rest.drop (k + 1))) := fun o => by
        have h := hBk.set_ (l.length + k) (.int .u8 ((n : Int) / 2 ^ (8 * (size - 1 - k)) % 256))
        rw [be_set l rest n size k hlt hs] at h
        exact h.alloc o
      have hgr : ∀ o : Obj, ∀ v : Value, w.grownBy ((wr.setCell ⟨g, l.length + k, none⟩ v).alloc o) (some g) := fun o v => grown_alloc (grown_set hg v) o
      have HS := Lib.hid hstep
      have HG := Lib.hid hgr
      clear hstep hgr hBk hg hlen
      go_wp2
      exact ⟨⟨k + 1, by omega, by go_num, by simp [Nat.add_assoc], HS.out _, HG.out _ _⟩, by simp [intOf]; omega⟩
    · obtain rfl : k = size := by omega
      go_wp2
      go_ret
      have hl : (be n k).length = k := by simp [be]
      rw [List.take_of_length_le (by omega)] at hBk
      exact ⟨rfl, hBk, hg⟩

/-- The number that 64 bits hold: an int's bits as an unsigned number. -/
def b64 (n : Int) : Nat := (n % 18446744073709551616).toNat

theorem number_at (g : Nat) (l rest : List UInt8) (cap len : Nat) (m sz : Int) (n size : Nat) (w : World) (hm : m = n) (hz : sz = size) (hc : cap = l.length + rest.length) (hl : len = l.length) (hs8 : size ≤ 8) (hs : size ≤ rest.length)
    (hsz : l.length + rest.length ≤ 1099511627776) (hB : Blk w g 5 (u8s (l ++ rest))) :
    Calls Tryd.prog 27 #[.slice (some ⟨g, 0, none⟩) len cap, .int .u64 m, .int .i64 sz] w fun e w' =>
      e = .returned (.slice (some ⟨g, 0, none⟩) (len + size) cap) ∧ Blk w' g 5 (u8s (l ++ be n size ++ rest.drop size)) ∧ w.grownBy w' (some g) := by
  subst hm; subst hz; subst hc; subst hl
  exact number_any g l rest n size w hs8 hs hsz hB
theorem wrap_u64_eq (n : Int) : IntKind.u64.wrap n = (b64 n : Int) := by
  unfold b64
  rw [IntKind.wrap_u64]; omega

set_option maxHeartbeats 400000 in
theorem int_any (A : Option Addr) (l : List UInt8) (c : Nat) (n : Int) (w : World) (hr : Rd w w.heap.size A l) (hsz : l.length ≤ 1000000000) :
    Calls Tryd.prog 21 #[.slice A l.length c, .int .i64 n] w fun e w' =>
      e = .returned (.slice (some ⟨w.heap.size, 0, none⟩) (l.length + 8) (l.length + 8)) ∧ Blk w' w.heap.size 5 (u8s (l ++ be (b64 n) 8)) ∧ Below w.heap.size w w' := by
  go_enter Tryd.func21, Tryd.ntmps21
  go_wp2_with fail
  refine (extended_any A l c 8 w hr (by omega)).mono ?_
  rintro e w1 ⟨rfl, hB, hb, hsz1⟩
  have HB := Lib.hid hB
  have Hb := Lib.hid hb
  clear hB hb hsz1
  go_wp2_with fail
  refine (number_at w.heap.size l (List.replicate 8 0) _ _ _ _ (b64 n) 8 w1 (wrap_u64_eq n) rfl (by simp) rfl (by omega) (by simp) (by simp; omega) HB.out).mono ?_
  rintro e w2 ⟨rfl, hB, hg⟩
  have HB2 := Lib.hid hB
  have Hg := Lib.hid hg
  clear hB hg
  go_wp2
  go_ret
  exact ⟨rfl, by simpa using HB2.out, Hb.out.grown Hg.out Hb.out.size (fun k hk => by injection hk; omega)⟩
end Go.Proofs.YtpaagjhohfjopaaDoor
