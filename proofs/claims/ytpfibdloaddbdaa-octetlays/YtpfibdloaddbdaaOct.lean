/-
  What the functions of package octet do to memory: contracts, of every slice, number and string within the stated bounds.
-/
import Derived.Test.YtpfibdloaddbdaaRows
import Derived.Test.YtpfibdloaddbdaaMem
import Derived.BigQuiet
import Derived.Deep.QuietTactic
namespace Go.Proofs.Ytpfibdloaddbdaa
open Go.RowKit Go.Gar

theorem Try.und22 : Try.prog.underlying 22 = some (.slice 5) := by kernel_rfl
theorem Try.und5 : Try.prog.underlying 5 = some (.int .u8) := by kernel_rfl
theorem Try.und9 : Try.prog.underlying 9 = some .string := by kernel_rfl
theorem Try.info5 : (Try.prog.info? 5).map (fun i => (i.zero, i.size, i.bytes)) = some (some (.int .u8 0), 1, 1) := by kernel_rfl
theorem Try.size5 : (Try.prog.info? 5).map (·.size) = some 1 := by kernel_rfl

/-- make([]byte, n, c): a new row of zeros. -/
theorem run_make_bytes (n c : Nat) (hnc : n ≤ c) (hc : c ≤ 281474976710656) (w : World) :
    (Instr.makeSlice 22 (.int .i64 (n : Int)) (.int .i64 (c : Int))).run Try.prog w = .ok (.slice (some ⟨w.heap.size, 0, none⟩) n c) (w.alloc (.cells (u8s (List.replicate c 0)).toArray 5)) := by
  obtain ⟨i, hi, hzz⟩ := Option.map_eq_some_iff.1 Try.info5
  simp only [Prod.mk.injEq] at hzz
  obtain ⟨hz, hs, hb⟩ := hzz
  have hr := run_make (P := Try.prog) w 22 5 i _ Try.und22 hi hz .i64 .i64 n c (by omega) (by omega) (by rw [hb]; omega) (by omega)
  rw [hr]
  simp only [Int.toNat_natCast, hs, Nat.mul_one]
  congr 3
  apply Array.ext'
  apply List.ext_getElem?
  intro k
  simp [madeCells, u8s, Value.cells, List.getElem?_replicate]
  by_cases hk : k < c
  · simp [hk, Nat.mod_one]
  · simp [hk]

set_option maxHeartbeats 400000 in
theorem extended_any (A : Option Addr) (l : List UInt8) (c more : Nat) (w : World) (hr : Rd w w.heap.size A l) (hsz : l.length + more ≤ 1099511627776) :
    Calls Try.prog 22 #[.slice A l.length c, .int .i64 (more : Int)] w fun e w' =>
      e = .returned (.slice (some ⟨w.heap.size, 0, none⟩) l.length (l.length + more)) ∧ Blk w' w.heap.size 5 (u8s (l ++ List.replicate more 0)) ∧ Below w.heap.size w w' ∧ w'.heap.size = w.heap.size + 1 := by
  have hmk := run_make_bytes l.length (l.length + more) (by omega) (by omega) w
  simp only [Int.natCast_add] at hmk
  have hB := Blk.new w 5 (u8s (List.replicate (l.length + more) 0))
  have hcp := run_copy_rd (P := Try.prog) 22 22 3 5 Try.und22 Try.size5 w.heap.size (l.length + more) c A l w.heap.size (hr.alloc (Nat.le_refl _) _) _ _ hB (by simp [u8s_len])
  have hrow := hB.row (u8s l ++ (u8s (List.replicate (l.length + more) 0)).drop l.length)
  have hbel : Below w.heap.size w ((w.alloc (.cells (u8s (List.replicate (l.length + more) 0)).toArray 5)).setRow w.heap.size (u8s l ++ (u8s (List.replicate (l.length + more) 0)).drop l.length).toArray) :=
    below_setRow ((Below.refl _ _).alloc (Nat.le_refl _) _) (Nat.le_refl _) _
  have hsize : ((w.alloc (.cells (u8s (List.replicate (l.length + more) 0)).toArray 5)).setRow w.heap.size (u8s l ++ (u8s (List.replicate (l.length + more) 0)).drop l.length).toArray).heap.size = w.heap.size + 1 := by simp
  have HR := Lib.hid hrow
  have HS := Lib.hid hsize
  have HL := Lib.hid hbel
  clear hrow hsize hB hbel
  generalize ((w.alloc (.cells (u8s (List.replicate (l.length + more) 0)).toArray 5)).setRow w.heap.size (u8s l ++ (u8s (List.replicate (l.length + more) 0)).drop l.length).toArray) = w2 at *
  go_enter Try.func22, Try.ntmps22
  go_wp2
  go_ret
  refine ⟨rfl, ?_, HL.out, HS.out⟩
  have := HR.out
  rw [u8s_drop, ← u8s_app] at this
  simpa using this

/-- The low bytes of n, size of them, the highest first. -/
def be (n size : Nat) : List UInt8 := (List.range size).map fun i => UInt8.ofNat (n / 2 ^ (8 * (size - 1 - i)))

theorem be_len (n size : Nat) : (be n size).length = size := by simp [be]
theorem set_mid {α : Type} (a b : List α) (x y : α) : (a ++ x :: b).set a.length y = a ++ y :: b := by
  rw [List.set_append_right _ _ (Nat.le_refl _)]; simp
theorem be_set (l rest : List UInt8) (n size k : Nat) (hk : k < size) (hs : size ≤ rest.length) :
    (u8s (l ++ (be n size).take k ++ rest.drop k)).set (l.length + k) (.int .u8 ((n : Int) / 2 ^ (8 * (size - 1 - k)) % 256)) = u8s (l ++ (be n size).take (k + 1) ++ rest.drop (k + 1)) := by
  have e1 : (be n size).take (k + 1) = (be n size).take k ++ [UInt8.ofNat (n / 2 ^ (8 * (size - 1 - k)))] := by
    rw [List.take_succ_eq_append_getElem (by rw [be_len]; exact hk)]
    simp [be]
  have e2 : rest.drop k = rest[k] :: rest.drop (k + 1) := List.drop_eq_getElem_cons (by omega)
  have e3 : ((be n size).take k).length = k := by rw [List.length_take, be_len]; omega
  have e4 : (Value.int .u8 ((n : Int) / 2 ^ (8 * (size - 1 - k)) % 256)) = Value.int .u8 ((UInt8.ofNat (n / 2 ^ (8 * (size - 1 - k)))).toNat : Int) := by
    simp
  have e5 : u8s (l ++ (be n size).take k ++ rest.drop k) = u8s (l ++ (be n size).take k) ++ (Value.int .u8 (rest[k].toNat : Int) :: u8s (rest.drop (k + 1))) := by
    rw [u8s_app (l ++ (be n size).take k), e2]; rfl
  have e6 : (u8s (l ++ (be n size).take k)).length = l.length + k := by rw [u8s_len, List.length_append, e3]
  rw [e5, e4, ← e6, set_mid, e1, ← List.append_assoc, u8s_app (l ++ (be n size).take k ++ [_]), u8s_app (l ++ (be n size).take k)]
  simp [u8s]
theorem grown_alloc {a w : World} {row : Option Nat} (h : a.grownBy w row) (o : Obj) : a.grownBy (w.alloc o) row :=
  ⟨h.os, h.tape, h.output, Nat.le_trans h.size (by simp), fun i hi hne => (Below.heap_alloc w o i (Nat.lt_of_lt_of_le hi h.size)).trans (h.block i hi hne)⟩
theorem grown_set {a w : World} {g i : Nat} (h : a.grownBy w (some g)) (u : Value) : a.grownBy (w.setCell ⟨g, i, none⟩ u) (some g) :=
  ⟨h.os, h.tape, h.output, by simpa [World.setCell] using h.size, fun k hk hne => (Below.heap_setCell w _ u k (fun e => hne (by simp [e]))).trans (h.block k hk hne)⟩

set_option maxHeartbeats 400000 in
theorem number_any (g : Nat) (l rest : List UInt8) (n size : Nat) (w : World) (hs8 : size ≤ 8) (hs : size ≤ rest.length) (hsz : l.length + rest.length ≤ 1099511627776)
    (hB : Blk w g 5 (u8s (l ++ rest))) :
    Calls Try.prog 21 #[.slice (some ⟨g, 0, none⟩) l.length (l.length + rest.length), .int .u64 (n : Int), .int .i64 (size : Int)] w fun e w' =>
      e = .returned (.slice (some ⟨g, 0, none⟩) (l.length + size) (l.length + rest.length)) ∧ Blk w' g 5 (u8s (l ++ be n size ++ rest.drop size)) ∧ w.grownBy w' (some g) := by
  go_enter Try.func21, Try.ntmps21
  go_wp2
  go_loopw [0, 9] (fun b i w' => ∃ k : Nat, k ≤ size ∧ i = .int .i64 k ∧ b = .slice (some ⟨g, 0, none⟩) (l.length + k) (l.length + rest.length) ∧ Blk w' g 5 (u8s (l ++ (be n size).take k ++ rest.drop k)) ∧ w.grownBy w' (some g)) (fun _ i _ => size - (intOf i).toNat)
  case atStart => exact ⟨0, by omega, rfl, rfl, by simpa using hB, World.grownBy.refl _ _⟩
  case round =>
    obtain ⟨k, hk, rfl, rfl, hBk, hg⟩ := hrel
    by_cases hlt : k < size
    · have hne : g < wr.heap.size := hBk.lt
      have hlen : l.length + k < (u8s (l ++ (be n size).take k ++ rest.drop k)).length := by
        simp [u8s_len, be]; omega
      obtain ⟨v0, hc⟩ : ∃ v0, ∀ o : Obj, (wr.alloc o).cell? ⟨g, l.length + k, none⟩ = some v0 := ⟨_, fun o => by
        rw [(hBk.alloc o).cell, List.getElem?_eq_getElem hlen]⟩
      have hf : ∀ o : Obj, (wr.alloc o).frozen? ⟨g, l.length + k, none⟩ = false := fun o => (hBk.alloc o).frozen _
      have hstep : ∀ o : Obj, Blk ((wr.setCell ⟨g, l.length + k, none⟩ (.int .u8 ((n : Int) / 2 ^ (8 * (size - 1 - k)) % 256))).alloc o) g 5 (u8s (l ++ (be n size).take (k + 1) ++ rest.drop (k + 1))) := fun o => by
        have h := hBk.set_ (l.length + k) (.int .u8 ((n : Int) / 2 ^ (8 * (size - 1 - k)) % 256))
        rw [be_set l rest n size k hlt hs] at h
        exact h.alloc o
      have hgr : ∀ o : Obj, ∀ v : Value, w.grownBy ((wr.setCell ⟨g, l.length + k, none⟩ v).alloc o) (some g) := fun o v => grown_alloc (grown_set hg v) o
      have HS := Lib.hid hstep
      have HG := Lib.hid hgr
      clear hstep hgr hBk hg hlen
      go_wp2
      exact ⟨⟨k + 1, by omega, by go_num, by simp [Nat.add_assoc], HS.out _, HG.out _ _⟩, by simp [intOf]; omega⟩
    · obtain rfl : k = size := by omega
      go_wp2
      go_ret
      have hl : (be n k).length = k := by simp [be]
      rw [List.take_of_length_le (by omega)] at hBk
      exact ⟨rfl, hBk, hg⟩

/-- The number that 64 bits hold: an int's bits as an unsigned number. -/
def b64 (n : Int) : Nat := (n % 18446744073709551616).toNat

theorem number_at (g : Nat) (l rest : List UInt8) (cap len : Nat) (m sz : Int) (n size : Nat) (w : World) (hm : m = n) (hz : sz = size) (hc : cap = l.length + rest.length) (hl : len = l.length) (hs8 : size ≤ 8) (hs : size ≤ rest.length)
    (hsz : l.length + rest.length ≤ 1099511627776) (hB : Blk w g 5 (u8s (l ++ rest))) :
    Calls Try.prog 21 #[.slice (some ⟨g, 0, none⟩) len cap, .int .u64 m, .int .i64 sz] w fun e w' =>
      e = .returned (.slice (some ⟨g, 0, none⟩) (len + size) cap) ∧ Blk w' g 5 (u8s (l ++ be n size ++ rest.drop size)) ∧ w.grownBy w' (some g) := by
  subst hm; subst hz; subst hc; subst hl
  exact number_any g l rest n size w hs8 hs hsz hB
theorem wrap_u64_eq (n : Int) : IntKind.u64.wrap n = (b64 n : Int) := by
  unfold b64
  rw [IntKind.wrap_u64]; omega

set_option maxHeartbeats 400000 in
theorem int_any (A : Option Addr) (l : List UInt8) (c : Nat) (n : Int) (w : World) (hr : Rd w w.heap.size A l) (hsz : l.length ≤ 1000000000) :
    Calls Try.prog 11 #[.slice A l.length c, .int .i64 n] w fun e w' =>
      e = .returned (.slice (some ⟨w.heap.size, 0, none⟩) (l.length + 8) (l.length + 8)) ∧ Blk w' w.heap.size 5 (u8s (l ++ be (b64 n) 8)) ∧ Below w.heap.size w w' := by
  go_enter Try.func11, Try.ntmps11
  go_wp2_with fail
  refine (extended_any A l c 8 w hr (by omega)).mono ?_
  rintro e w1 ⟨rfl, hB, hb, hsz1⟩
  have HB := Lib.hid hB
  have Hb := Lib.hid hb
  clear hB hb hsz1
  go_wp2_with fail
  refine (number_at w.heap.size l (List.replicate 8 0) _ _ _ _ (b64 n) 8 w1 (wrap_u64_eq n) rfl (by simp) rfl (by omega) (by simp) (by simp; omega) HB.out).mono ?_
  rintro e w2 ⟨rfl, hB, hg⟩
  have HB2 := Lib.hid hB
  have Hg := Lib.hid hg
  clear hB hg
  go_wp2
  go_ret
  exact ⟨rfl, by simpa using HB2.out, Hb.out.grown Hg.out Hb.out.size (fun k hk => by injection hk; omega)⟩

set_option maxHeartbeats 400000 in
theorem text_over (A : Option Addr) (n c : Nat) (s : ByteArray) (w : World) (h : 65535 < s.size) :
    Calls Try.prog 8 #[.slice A n c, .string s] w fun e w' => e = .returned (.tuple #[.slice none 0 0, .int .i64 2]) ∧ w = w' := by
  go_enter Try.func8, Try.ntmps8
  go_wp2
  go_ret2
  exact ⟨rfl, rfl⟩

set_option maxHeartbeats 400000 in
theorem text_any (A : Option Addr) (l : List UInt8) (c : Nat) (s : ByteArray) (w : World) (hr : Rd w w.heap.size A l) (hsz : l.length ≤ 1000000000) (h : s.size ≤ 65535) :
    Calls Try.prog 8 #[.slice A l.length c, .string s] w fun e w' =>
      e = .returned (.tuple #[.slice (some ⟨w.heap.size, 0, none⟩) (l.length + 2 + s.size) (l.length + 2 + s.size), .int .i64 0]) ∧ Blk w' w.heap.size 5 (u8s (l ++ be s.size 2 ++ s.data.toList)) ∧ Below w.heap.size w w' := by
  go_enter Try.func8, Try.ntmps8
  go_wp2_with fail
  refine (extended_any A l c (2 + s.size) w hr (by omega)).mono ?_
  rintro e w1 ⟨rfl, hB, hb, hsz1⟩
  have HB := Lib.hid hB
  have Hb := Lib.hid hb
  clear hB hb hsz1
  go_wp2_with fail
  refine (number_at w.heap.size l (List.replicate (2 + s.size) 0) _ _ _ _ s.size 2 w1 (by go_num) rfl (by simp) rfl (by omega) (by simp) (by simp; omega) HB.out).mono ?_
  rintro e w2 ⟨rfl, hB, hg⟩
  have hap := run_append_str (P := Try.prog) 22 9 22 5 Try.und22 Try.und9 Try.size5 w.heap.size (l.length + 2) (l.length + (2 + s.size)) s _ hB (by omega) (by simp [u8s_len, be_len]; omega)
  have hrow := hB.row ((u8s (l ++ be s.size 2 ++ List.drop 2 (List.replicate (2 + s.size) 0))).take (l.length + 2) ++ u8s s.data.toList ++ (u8s (l ++ be s.size 2 ++ List.drop 2 (List.replicate (2 + s.size) 0))).drop (l.length + 2 + s.size))
  have hbel : Below w.heap.size w (w2.setRow w.heap.size ((u8s (l ++ be s.size 2 ++ List.drop 2 (List.replicate (2 + s.size) 0))).take (l.length + 2) ++ u8s s.data.toList ++ (u8s (l ++ be s.size 2 ++ List.drop 2 (List.replicate (2 + s.size) 0))).drop (l.length + 2 + s.size)).toArray) :=
    below_setRow (Hb.out.grown hg Hb.out.size (fun k hk => by injection hk; omega)) (Nat.le_refl _) _
  have HB2 := Lib.hid hrow
  have Hg := Lib.hid hbel
  clear hB hg hbel hrow
  generalize (w2.setRow w.heap.size ((u8s (l ++ be s.size 2 ++ List.drop 2 (List.replicate (2 + s.size) 0))).take (l.length + 2) ++ u8s s.data.toList ++ (u8s (l ++ be s.size 2 ++ List.drop 2 (List.replicate (2 + s.size) 0))).drop (l.length + 2 + s.size)).toArray) = w3 at *
  go_wp2_with (at_builtin; refine wpList_append_run rfl (.tmp 19) (.tmp 20) _ rfl rfl rfl hap ?_)
  go_ret2
  refine ⟨by simp [Nat.add_assoc], ?_, Hg.out⟩
  have := HB2.out
  rw [u8s_take, u8s_drop, ← u8s_app, ← u8s_app] at this
  have e : (l ++ be s.size 2 ++ List.drop 2 (List.replicate (2 + s.size) 0)).take (l.length + 2) ++ s.data.toList ++ (l ++ be s.size 2 ++ List.drop 2 (List.replicate (2 + s.size) 0)).drop (l.length + 2 + s.size) = l ++ be s.size 2 ++ s.data.toList := by
    have hl : (l ++ be s.size 2).length = l.length + 2 := by simp [be_len]
    rw [← hl, List.take_left, List.drop_append]
    simp [be_len]
  rwa [e] at this

/-- A Reader in memory: block g holds the struct, block d its bytes l; it stands at place at. -/
def Rdr (w : World) (g d : Nat) (l : List UInt8) (at_ : Nat) (bad : Bool) : Prop :=
  Blk w g 51 [.slice (some ⟨d, 0, none⟩) l.length l.length, .int .i64 (at_ : Int), .bool bad] ∧ Blk w d 5 (u8s l)

set_option maxHeartbeats 400000 in
theorem new_any (A : Option Addr) (l : List UInt8) (c : Nat) (w : World) (hr : Rd w w.heap.size A l) (hsz : l.length ≤ 1000000000) :
    Calls Try.prog 14 #[.slice A l.length c] w fun e w' =>
      e = .returned (.pointer (some ⟨w.heap.size + 1, 0, none⟩)) ∧ Rdr w' (w.heap.size + 1) w.heap.size l 0 false ∧ Below w.heap.size w w' := by
  go_enter Try.func14, Try.ntmps14
  go_wp2_with fail
  refine (extended_any A l c 0 w hr (by omega)).mono ?_
  rintro e w1 ⟨rfl, hB, hb, hsz1⟩
  have HB := Lib.hid hB
  have Hb := Lib.hid hb
  have Hz := Lib.hid hsz1
  clear hB hb hsz1
  go_wp2
  go_ret
  have hz := Hz.out
  refine ⟨?_, ⟨?_, ?_⟩, Hb.out.alloc Hb.out.size _⟩
  · show Ending.returned (.pointer (some ⟨w1.heap.size, 0, none⟩)) = _
    rw [hz]
  · rw [← hz]
    exact Blk.new w1 _ [_, _, _]
  · have := HB.out
    rw [List.replicate_zero, List.append_nil] at this
    exact this.alloc _
end Go.Proofs.Ytpfibdloaddbdaa
