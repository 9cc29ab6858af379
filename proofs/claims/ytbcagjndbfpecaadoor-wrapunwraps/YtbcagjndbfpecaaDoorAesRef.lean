/-
  The reference's cipher: its representation in memory, and the contract of its round key's addition.
-/
import Derived.Test.YtbcagjndbfpecaaDoorBoxTab
import Derived.Test.YtbcagjndbfpecaaDoorAesM
import Derived.Test.YtbcagjndbfpecaaDoorBits
namespace Go.Proofs.YtbcagjndbfpecaaDoor
open Go.RowKit Go.Gar Go.Gar.Aes

/-- The reference's cipher lies in block gc: two tables and its words. -/
structure RefC (w : World) (gc gt gb gw cap : Nat) (ws : List (List UInt8)) : Prop where
  at0 : w.cell? ⟨gc, 0, none⟩ = some (.slice (some ⟨gt, 0, none⟩) 256 256)
  at1 : w.cell? ⟨gc, 1, none⟩ = some (.slice (some ⟨gb, 0, none⟩) 256 256)
  at2 : w.cell? ⟨gc, 2, none⟩ = some (.slice (some ⟨gw, 0, none⟩) ws.length cap)
  there : Blk w gt 5 (u8s Box.sboxB)
  back : Blk w gb 5 (u8s Box.backB)
  len : ws.length ≤ 60
  word : ∀ i l, ws[i]? = some l → ∃ g o c, w.cell? ⟨gw, i, none⟩ = some (.slice (some ⟨g, o, none⟩) 4 c) ∧ l.length = 4 ∧ ∀ k x, l[k]? = some x → w.cell? ⟨g, o + k, none⟩ = some (.int .u8 (x.toNat : Int))

theorem cell_below {w w' : World} (hb : Below w.heap.size w w') {p : Addr} {v : Value} (h : w.cell? p = some v) : w'.cell? p = some v := by
  rw [hb.cell (p := p) (World.block_lt_of_cell? w p h), h]
theorem RefC.below {w w' : World} {gc gt gb gw cap : Nat} {ws : List (List UInt8)} (h : RefC w gc gt gb gw cap ws) (hb : Below w.heap.size w w') : RefC w' gc gt gb gw cap ws where
  at0 := cell_below hb h.at0
  at1 := cell_below hb h.at1
  at2 := cell_below hb h.at2
  there := h.there.below hb h.there.lt
  back := h.back.below hb h.back.lt
  len := h.len
  word := fun i l hl => by
    obtain ⟨g, o, c, h1, h2, h3⟩ := h.word i l hl
    exact ⟨g, o, c, cell_below hb h1, h2, fun k x hx => cell_below hb (h3 k x hx)⟩

/-- A row that is turned from l to l2, byte by byte. -/
def prog (l l2 : List UInt8) (k : Nat) : List UInt8 := l2.take k ++ l.drop k
theorem prog_0 (l l2 : List UInt8) : prog l l2 0 = l := by simp [prog]
theorem prog_end (l l2 : List UInt8) (k : Nat) (h1 : k = l.length) (h2 : k = l2.length) : prog l l2 k = l2 := by
  unfold prog
  rw [List.take_of_length_le (by omega), List.drop_of_length_le (by omega), List.append_nil]
theorem prog_len (l l2 : List UInt8) (k : Nat) (h : l2.length = l.length) : (prog l l2 k).length = l.length := by simp [prog]; omega
theorem prog_set (l l2 : List UInt8) (k : Nat) (x : UInt8) (h : l2.length = l.length) (hx : l2[k]? = some x) : (prog l l2 k).set k x = prog l l2 (k + 1) := by
  have hk : k < l2.length := (List.getElem?_eq_some_iff.1 hx).1
  unfold prog
  rw [List.take_succ_eq_append_getElem hk, (List.getElem?_eq_some_iff.1 hx).2, List.set_append_right _ _ (by simp; omega)]
  have : k - (l2.take k).length = 0 := by simp; omega
  rw [this, List.drop_eq_getElem_cons (show k < l.length by omega), List.set_cons_zero]
  simp only [List.append_assoc, List.cons_append, List.nil_append]
theorem prog_get (l l2 : List UInt8) (k : Nat) (h : l2.length = l.length) (hk : k < l.length) : (prog l l2 k)[k]? = l[k]? := by
  unfold prog
  rw [List.getElem?_append_right (by simp; omega)]
  have : k - (l2.take k).length = 0 := by simp; omega
  rw [this]
  simp

theorem div4 (k : Nat) : (k : Int).tdiv 4 = ((k / 4 : Nat) : Int) := by
  rw [Int.tdiv_eq_ediv_of_nonneg (by omega)]; simp
theorem mod4 (k : Nat) : (k : Int).tmod 4 = ((k % 4 : Nat) : Int) := by
  rw [Int.tmod_eq_emod_of_nonneg (by omega)]; simp
theorem u8s_row_set (l : List UInt8) (rest : List Value) (i : Nat) (c : UInt8) (h : i < l.length) : (u8s l ++ rest).set i (.int .u8 (c.toNat : Int)) = u8s (l.set i c) ++ rest := by
  rw [List.set_append_left _ _ (by rw [u8s_len]; exact h), u8s_set]
theorem row_get {w : World} {g : Nat} {t : TypeId} {l : List UInt8} {rest : List Value} (h : Blk w g t (u8s l ++ rest)) {i : Nat} {c : UInt8} (hc : l[i]? = some c) : w.cell? ⟨g, i, none⟩ = some (.int .u8 (c.toNat : Int)) := by
  rw [h.cell, List.getElem?_append_left (by rw [u8s_len]; exact (List.getElem?_eq_some_iff.1 hc).1), u8s_get, hc]; rfl
theorem xor_byte (a b : UInt8) : bits .xor .u8 (a.toNat : Int) (b.toNat : Int) = ((a ^^^ b).toNat : Int) := by
  rw [xor_u8 _ _ a.toNat_lt b.toNat_lt, UInt8.toNat_xor]

theorem own_nil (w : World) (base : Nat) (e : TypeId) (hb : base ≤ w.heap.size) : OwnB (w.alloc (.cells #[] e)) base e (.slice (some ⟨w.heap.size, 0, none⟩) 0 0) [] := own_made w base e hb

set_option maxHeartbeats 2000000 in
set_option maxRecDepth 100000 in
theorem refAdd_any2 (w : World) (gc gt gb gw cap : Nat) (ws : List (List UInt8)) (hC : RefC w gc gt gb gw cap ws) (A : Option Addr) (l : List UInt8) (c r : Nat) (hl : l.length = 16) (hr : Rd w w.heap.size A l) (hrr : 4 * r + 4 ≤ ws.length) :
    Calls Tryd.prog 31 #[.pointer (some ⟨gc, 0, none⟩), .slice A 16 c, .int .i64 (r : Int)] w fun e w' => ∃ g cp rest, e = .returned (.slice (some ⟨g, 0, none⟩) 16 cp) ∧ w.heap.size ≤ g ∧ Blk w' g 5 (u8s (addK l (rk ws r)) ++ rest) ∧ Below w.heap.size w w' ∧ 16 ≤ cp := by
  have hO := own_nil w w.heap.size 5 (Nat.le_refl _)
  have hb0 := below_alloc w (.cells #[] 5)
  obtain ⟨v1, w1, e1, ho1, hb1, _⟩ := app_rd (P := Tryd.prog) 22 22 Tryd.und22 Tryd.info5 hO (by rw [World.size_alloc]; omega) c (hr.below hb0) (by simp [hl])
  rw [List.nil_append] at ho1
  rw [hl] at e1
  obtain ⟨g, cp, rest, rfl, hg, hcp, hB⟩ := ho1.blk (by omega)
  have HL := Lib.hid hl
  rw [hl] at e1 hcp
  have HCP : Hid (16 ≤ cp) := Lib.hid (by omega)
  have HB := Lib.hid hB
  have Hb := Lib.hid (hb0.trans hb1)
  have HC := Lib.hid hC
  have HG := Lib.hid hg
  clear hb0 hb1 hB ho1 hO hr hC hg hl
  have hlen := HC.out.len
  go_enter Tryd.func31, Tryd.ntmps31
  go_wp2_with (at_builtin; refine wpList_append_run rfl (.tmp 9) (.tmp 10) _ rfl rfl rfl e1 ?_)
  clear e1
  go_loopw [8] (fun i w' => ∃ k : Nat, k ≤ 16 ∧ i = .int .i64 (k : Int) ∧ Blk w' g 5 (u8s (prog l (addK l (rk ws r)) k) ++ rest) ∧ Below w.heap.size w w') (fun i _ => 16 - (intOf i).toNat)
  case atStart => exact ⟨0, by omega, rfl, by rw [prog_0]; exact HB.out, Hb.out⟩
  case round =>
    obtain ⟨k, hk, rfl, hB, hb⟩ := hrel
    clear HB Hb
    have hL2 : (addK l (rk ws r)).length = l.length := by rw [addK_len, HL.out]
    by_cases hlt : k < 16
    · have hC2 := HC.out.below hb
      obtain ⟨x, hx⟩ : ∃ x, l[k]? = some x := ⟨_, List.getElem?_eq_getElem (by rw [HL.out]; exact hlt)⟩
      obtain ⟨ww, hww⟩ : ∃ ww, ws[4 * r + k / 4]? = some ww := ⟨_, List.getElem?_eq_getElem (by omega)⟩
      obtain ⟨g2, o2, c2, hw1, hw2, hw3⟩ := hC2.word _ _ hww
      obtain ⟨y, hy⟩ : ∃ y, ww[k % 4]? = some y := ⟨_, List.getElem?_eq_getElem (by rw [hw2]; omega)⟩
      have hc1 := row_get hB (c := x) (by rw [prog_get _ _ _ hL2 (by rw [HL.out]; exact hlt), hx])
      have hc2 := hC2.at2
      have hc3 := hw3 _ _ hy
      have hz : (addK l (rk ws r))[k]? = some (x ^^^ y) := by
        unfold addK
        rw [st_get _ _ hlt]
        unfold rk
        rw [at_st _ _ hlt]
        simp [at_, wordAt, hx, hww, hy]
      have hf := hB.frozen k
      have hS := hB.set_ k (.int .u8 ((x ^^^ y).toNat : Int))
      rw [u8s_row_set _ _ _ _ (by rw [prog_len _ _ _ hL2, HL.out]; exact hlt), prog_set _ _ _ _ hL2 hz, ← xor_byte] at hS
      have HS := Lib.hid hS
      have Hb := Lib.hid (hb.setCell (p := ⟨g, k, none⟩) HG.out (.int .u8 (bits .xor .u8 (x.toNat : Int) (y.toNat : Int))))
      have hx8 := x.toNat_lt
      have hy8 := y.toNat_lt
      clear hS hB hb hC2 hw3 hy hz hx hww hw2
      generalize x.toNat = xn at *
      generalize y.toNat = yn at *
      go_wp2
      go_region
      go_wp2
      exact ⟨⟨k + 1, by omega, by go_num, HS.out, ⟨Hb.out.os, Hb.out.tape, Hb.out.output, Hb.out.size, Hb.out.block⟩⟩, by simp [intOf]; omega⟩
    · obtain rfl : k = 16 := by omega
      rw [prog_end _ _ _ HL.out.symm (by rw [addK_len])] at hB
      go_wp2
      go_ret
      exact ⟨g, cp, rest, rfl, HG.out, hB, hb, HCP.out⟩
theorem refAdd_any (w : World) (gc gt gb gw cap : Nat) (ws : List (List UInt8)) (hC : RefC w gc gt gb gw cap ws) (A : Option Addr) (l : List UInt8) (c r : Nat) (hl : l.length = 16) (hr : Rd w w.heap.size A l) (hrr : 4 * r + 4 ≤ ws.length) :
    Calls Tryd.prog 31 #[.pointer (some ⟨gc, 0, none⟩), .slice A 16 c, .int .i64 (r : Int)] w fun e w' => ∃ g cp rest, e = .returned (.slice (some ⟨g, 0, none⟩) 16 cp) ∧ w.heap.size ≤ g ∧ Blk w' g 5 (u8s (addK l (rk ws r)) ++ rest) ∧ Below w.heap.size w w' := by
  refine (refAdd_any2 w gc gt gb gw cap ws hC A l c r hl hr hrr).mono fun e w' he => ?_
  obtain ⟨g, cp, rest, h1, h2, h3, h4, _⟩ := he
  exact ⟨g, cp, rest, h1, h2, h3, h4⟩
end Go.Proofs.YtbcagjndbfpecaaDoor
