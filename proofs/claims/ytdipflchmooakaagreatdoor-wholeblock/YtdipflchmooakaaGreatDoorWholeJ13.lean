/-
  The reference's cipher: its representation in memory, and the contract of its round key's addition. slices.Grow of nil, slices.Concat of two: of no program. Small facts on AES's bytes in memory, and the reference's product of bytes. What is asked of box's functions (contracts). Package aes, helpers that turn a block in place: add, replace, rotate, replaceWord; power, ready. The mathematics of the landed aes: columns mixed by tables, rows rotated, the expanded key as one row of bytes.
-/
import Derived.Test.YtdipflchmooakaaGreatDoorWholeJ01
import Derived.Test.YtdipflchmooakaaGreatDoorWholeJ05
import Derived.Test.YtdipflchmooakaaGreatDoorWholeJ02
import Derived.Test.YtdipflchmooakaaGreatDoorWholeJ12
import Derived.Test.YtdipflchmooakaaGreatDoorWholeJ09
import Derived.BigRegion
import Derived.Deep.CutRange
import Derived.RegionTactic
import Derived.Lib.AppendZeros
set_option maxRecDepth 100000

namespace Go.Proofs.YtdipflchmooakaaGreatDoor
open Go.RowKit Go.Gar Go.Gar.Aes

/-- The reference's cipher lies in block gc: two tables and its words. -/
structure RefC (w : World) (gc gt gb gw cap : Nat) (ws : List (List UInt8)) : Prop where
  at0 : w.cell? ⟨gc, 0, none⟩ = some (.slice (some ⟨gt, 0, none⟩) 256 256)
  at1 : w.cell? ⟨gc, 1, none⟩ = some (.slice (some ⟨gb, 0, none⟩) 256 256)
  at2 : w.cell? ⟨gc, 2, none⟩ = some (.slice (some ⟨gw, 0, none⟩) ws.length cap)
  there : Blk w gt 5 (u8s Box.sboxB)
  back : Blk w gb 5 (u8s Box.backB)
  len : ws.length ≤ 60
  word : ∀ i l, ws[i]? = some l → ∃ g o c, w.cell? ⟨gw, i, none⟩ = some (.slice (some ⟨g, o, none⟩) 4 c) ∧ l.length = 4 ∧ ∀ k x, l[k]? = some x → w.cell? ⟨g, o + k, none⟩ = some (.int .u8 (x.toNat : Int))

theorem cell_below {w w' : World} (hb : Below w.heap.size w w') {p : Addr} {v : Value} (h : w.cell? p = some v) : w'.cell? p = some v := by
  rw [hb.cell (p := p) (World.block_lt_of_cell? w p h), h]
theorem RefC.below {w w' : World} {gc gt gb gw cap : Nat} {ws : List (List UInt8)} (h : RefC w gc gt gb gw cap ws) (hb : Below w.heap.size w w') : RefC w' gc gt gb gw cap ws where
  at0 := cell_below hb h.at0
  at1 := cell_below hb h.at1
  at2 := cell_below hb h.at2
  there := h.there.below hb h.there.lt
  back := h.back.below hb h.back.lt
  len := h.len
  word := fun i l hl => by
    obtain ⟨g, o, c, h1, h2, h3⟩ := h.word i l hl
    exact ⟨g, o, c, cell_below hb h1, h2, fun k x hx => cell_below hb (h3 k x hx)⟩

/-- A row that is turned from l to l2, byte by byte. -/
def prog (l l2 : List UInt8) (k : Nat) : List UInt8 := l2.take k ++ l.drop k
theorem prog_0 (l l2 : List UInt8) : prog l l2 0 = l := by simp [prog]
theorem prog_end (l l2 : List UInt8) (k : Nat) (h1 : k = l.length) (h2 : k = l2.length) : prog l l2 k = l2 := by
  unfold prog
  rw [List.take_of_length_le (by omega), List.drop_of_length_le (by omega), List.append_nil]
theorem prog_len (l l2 : List UInt8) (k : Nat) (h : l2.length = l.length) : (prog l l2 k).length = l.length := by simp [prog]; omega
theorem prog_set (l l2 : List UInt8) (k : Nat) (x : UInt8) (h : l2.length = l.length) (hx : l2[k]? = some x) : (prog l l2 k).set k x = prog l l2 (k + 1) := by
  have hk : k < l2.length := (List.getElem?_eq_some_iff.1 hx).1
  unfold prog
  rw [List.take_succ_eq_append_getElem hk, (List.getElem?_eq_some_iff.1 hx).2, List.set_append_right _ _ (by simp; omega)]
  have : k - (l2.take k).length = 0 := by simp; omega
  rw [this, List.drop_eq_getElem_cons (show k < l.length by omega), List.set_cons_zero]
  simp only [List.append_assoc, List.cons_append, List.nil_append]
theorem prog_get (l l2 : List UInt8) (k : Nat) (h : l2.length = l.length) (hk : k < l.length) : (prog l l2 k)[k]? = l[k]? := by
  unfold prog
  rw [List.getElem?_append_right (by simp; omega)]
  have : k - (l2.take k).length = 0 := by simp; omega
  rw [this]
  simp

theorem div4 (k : Nat) : (k : Int).tdiv 4 = ((k / 4 : Nat) : Int) := by
  rw [Int.tdiv_eq_ediv_of_nonneg (by omega)]; simp
theorem mod4 (k : Nat) : (k : Int).tmod 4 = ((k % 4 : Nat) : Int) := by
  rw [Int.tmod_eq_emod_of_nonneg (by omega)]; simp
theorem u8s_row_set (l : List UInt8) (rest : List Value) (i : Nat) (c : UInt8) (h : i < l.length) : (u8s l ++ rest).set i (.int .u8 (c.toNat : Int)) = u8s (l.set i c) ++ rest := by
  rw [List.set_append_left _ _ (by rw [u8s_len]; exact h), u8s_set]
theorem row_get {w : World} {g : Nat} {t : TypeId} {l : List UInt8} {rest : List Value} (h : Blk w g t (u8s l ++ rest)) {i : Nat} {c : UInt8} (hc : l[i]? = some c) : w.cell? ⟨g, i, none⟩ = some (.int .u8 (c.toNat : Int)) := by
  rw [h.cell, List.getElem?_append_left (by rw [u8s_len]; exact (List.getElem?_eq_some_iff.1 hc).1), u8s_get, hc]; rfl
theorem xor_byte (a b : UInt8) : bits .xor .u8 (a.toNat : Int) (b.toNat : Int) = ((a ^^^ b).toNat : Int) := by
  rw [xor_u8 _ _ a.toNat_lt b.toNat_lt, UInt8.toNat_xor]

theorem own_nil (w : World) (base : Nat) (e : TypeId) (hb : base ≤ w.heap.size) : OwnB (w.alloc (.cells #[] e)) base e (.slice (some ⟨w.heap.size, 0, none⟩) 0 0) [] := own_made w base e hb

end Go.Proofs.YtdipflchmooakaaGreatDoor
namespace Go.Proofs.YtdipflchmooakaaGreatDoor
open Go.RowKit Go.Gar

theorem Tryz.und3 : Tryz.prog.underlying 3 = some (.int .i64) := by kernel_rfl
theorem slice_to0 (g n c : Nat) (W : World) : (Instr.sliceAt 23 (.slice (some ⟨g, 0, none⟩) n c) none (some (.int .i64 0)) none).run Tryz.prog W = .ok (.slice (some ⟨g, 0, none⟩) 0 c) W := by
  obtain ⟨i, hi, hs⟩ := Option.map_eq_some_iff.1 Tryz.size5
  simp [Instr.sliceAt, Instr.sliceBounds, Instr.sureAddr, run_underlying Tryz.und22 W, sizeOf, typeInfo, hi, hs, go_sem]
set_option maxHeartbeats 1000000 in
theorem grow_any (w : World) (n : Nat) (h0 : 0 < n) (hl : n ≤ 1048576) :
    Calls Tryz.prog 45 #[.slice none 0 0, .int .i64 (n : Int)] w fun e w' => ∃ v, e = .returned v ∧ OwnB w' w.heap.size 5 v [] ∧ Below w.heap.size w w' := by
  obtain ⟨i, hi, hzz⟩ := Option.map_eq_some_iff.1 Tryz.info5
  simp only [Prod.mk.injEq] at hzz
  obtain ⟨hz, hs, hby⟩ := hzz
  have hrun := Lib.run_append_nil_zeros (P := Tryz.prog) w 23 3 23 5 i _ .i64 .i64 Tryz.und22 Tryz.und3 hi hz n h0 (by omega) (by omega) (by rw [hby]; omega)
  have hge := grownCap_ge w n 0 5
  have hle := grownCap_le_maxLen w n 0 5 (by simp only [maxLen]; omega)
  generalize grownCap w n 0 5 = cp at hrun hge hle
  have hO : OwnB (w.drew.alloc (.cells (Builtin.zeroCells (Value.int .u8 0).cells n ++ Builtin.zeroCells (Value.int .u8 0).cells (cp - n)) 5)) w.heap.size 5 (.slice (some ⟨w.heap.size, 0, none⟩) 0 cp) [] :=
    World.ownsRow_made w.drew _ cp (Nat.le_refl _) hle (by simp [size_zeroCells, Value.cells]; omega)
  have hb : Below w.heap.size w (w.drew.alloc (.cells (Builtin.zeroCells (Value.int .u8 0).cells n ++ Builtin.zeroCells (Value.int .u8 0).cells (cp - n)) 5)) := (Below.refl _ w).drew.alloc (Nat.le_refl _) _
  generalize w.drew.alloc (.cells (Builtin.zeroCells (Value.int .u8 0).cells n ++ Builtin.zeroCells (Value.int .u8 0).cells (cp - n)) 5) = w1 at *
  have hsl := fun W => slice_to0 w.heap.size n cp W
  have HO := Lib.hid hO
  have Hb := Lib.hid hb
  have hn1 : (0 : Int) < (n : Int) := by omega
  clear hO hb hi hz hs hby hge hle h0
  go_enter Tryz.func45, Tryz.ntmps45
  go_wp2_with (at_builtin; refine wpList_append_run rfl (.tmp 20) (.tmp 21) _ rfl rfl rfl hrun ?_)
  go_ret
  exact ⟨_, rfl, HO.out, Hb.out⟩

set_option maxHeartbeats 2000000 in
theorem concat_any (w : World) (gC : Nat) (A1 A2 : Option Addr) (l1 l2 : List UInt8) (n1 n2 c1 c2 : Nat) (hC : Blk w gC 23 [.slice A1 n1 c1, .slice A2 n2 c2]) (h1 : n1 = l1.length) (h2 : n2 = l2.length) (r1 : Rd w w.heap.size A1 l1) (r2 : Rd w w.heap.size A2 l2) (h0 : 0 < n1 + n2) (hl : n1 + n2 ≤ 1048576) :
    Calls Tryz.prog 21 #[.slice (some ⟨gC, 0, none⟩) 2 2] w fun e w' => ∃ v, e = .returned v ∧ OwnB w' w.heap.size 5 v (l1 ++ l2) ∧ Below w.heap.size w w' := by
  have HC := Lib.hid hC
  have H1 := Lib.hid h1
  have H2 := Lib.hid h2
  have R1 := Lib.hid r1
  have R2 := Lib.hid r2
  have q1 := hC.cell 0
  have q2 := hC.cell 1
  rw [show ([.slice A1 n1 c1, .slice A2 n2 c2] : List Value)[0]? = some (.slice A1 n1 c1) from rfl] at q1
  rw [show ([.slice A1 n1 c1, .slice A2 n2 c2] : List Value)[1]? = some (.slice A2 n2 c2) from rfl] at q2
  clear hC h1 h2 r1 r2
  go_enter Tryz.func21, Tryz.ntmps21
  go_wp2
  go_loopw [3, 11] (fun z i w' => w' = w ∧ ((i = .int .i64 0 ∧ z = .int .i64 0) ∨ (i = .int .i64 1 ∧ z = .int .i64 (n1 : Int)) ∨ (i = .int .i64 2 ∧ z = .int .i64 ((n1 + n2 : Nat) : Int)))) (fun _ i _ => 2 - (intOf i).toNat)
  case atStart => exact ⟨rfl, .inl ⟨rfl, rfl⟩⟩
  case round =>
    obtain ⟨rfl, h | h | h⟩ := hrel
    · obtain ⟨rfl, rfl⟩ := h
      go_wp2
      exact ⟨⟨trivial, .inr (.inl ⟨by go_num, by go_num⟩)⟩, by simp [intOf]⟩
    · obtain ⟨rfl, rfl⟩ := h
      have hnn : ¬ ((n1 : Int) + (n2 : Int) < 0) := by omega
      go_wp2
      exact ⟨⟨trivial, .inr (.inr ⟨by go_num, by go_num⟩)⟩, by simp [intOf]⟩
    · obtain ⟨rfl, rfl⟩ := h
      go_wp2_with fail
      refine (grow_any wr (n1 + n2) h0 hl).mono ?_
      rintro e w1 ⟨v, rfl, hO, hb⟩
      have HO := Lib.hid hO
      have Hb := Lib.hid hb
      clear q1 q2 hO hb
      go_wp2
      go_loopw [6, 27] (fun v i w' => Below wr.heap.size wr w' ∧ ((i = .int .i64 0 ∧ OwnB w' wr.heap.size 5 v []) ∨ (i = .int .i64 1 ∧ OwnB w' wr.heap.size 5 v l1) ∨ (i = .int .i64 2 ∧ OwnB w' wr.heap.size 5 v (l1 ++ l2)))) (fun _ i _ => 2 - (intOf i).toNat)
      case atStart => exact ⟨Hb.out, .inl ⟨rfl, HO.out⟩⟩
      case round =>
        obtain ⟨hb, h | h | h⟩ := hrel
        · obtain ⟨rfl, hO⟩ := h
          have q := (HC.out.below hb HC.out.lt).cell 0
          rw [show ([.slice A1 n1 c1, .slice A2 n2 c2] : List Value)[0]? = some (.slice A1 n1 c1) from rfl] at q
          obtain ⟨v', w', e1, ho1, hb1, _⟩ := app_rd (P := Tryz.prog) 23 23 Tryz.und22 Tryz.info5 hO hb.size c1 (R1.out.below hb) (by have := H1.out; have := H2.out; simp; omega)
          rw [← H1.out] at e1
          have HO1 := Lib.hid ho1
          have Hb1 := Lib.hid (hb.trans hb1)
          clear ho1 hb1 hO hb
          go_wp2_with (at_builtin; refine wpList_append_run rfl (.tmp 31) (.tmp 32) _ rfl rfl rfl e1 ?_)
          exact ⟨⟨Hb1.out, .inr (.inl ⟨by go_num, by simpa using HO1.out⟩)⟩, by simp [intOf]⟩
        · obtain ⟨rfl, hO⟩ := h
          have q := (HC.out.below hb HC.out.lt).cell 1
          rw [show ([.slice A1 n1 c1, .slice A2 n2 c2] : List Value)[1]? = some (.slice A2 n2 c2) from rfl] at q
          obtain ⟨v', w', e1, ho1, hb1, _⟩ := app_rd (P := Tryz.prog) 23 23 Tryz.und22 Tryz.info5 hO hb.size c2 (R2.out.below hb) (by have := H1.out; have := H2.out; simp; omega)
          rw [← H2.out] at e1
          have HO1 := Lib.hid ho1
          have Hb1 := Lib.hid (hb.trans hb1)
          clear ho1 hb1 hO hb
          go_wp2_with (at_builtin; refine wpList_append_run rfl (.tmp 31) (.tmp 32) _ rfl rfl rfl e1 ?_)
          exact ⟨⟨Hb1.out, .inr (.inr ⟨by go_num, HO1.out⟩)⟩, by simp [intOf]⟩
        · obtain ⟨rfl, hO⟩ := h
          have HO1 := Lib.hid hO
          have Hb1 := Lib.hid hb
          clear hO hb
          go_wp2
          go_ret
          exact ⟨_, rfl, HO1.out, Hb1.out⟩

/-- Concat of two slices that the caller lists: some bytes there are. -/
theorem concat2o (w : World) (g : Nat) (A1 A2 : Option Addr) (l1 l2 l : List UInt8) (n1 n2 c1 c2 : Nat) (hg : g = w.heap.size) (hlv : l = l1 ++ l2) (h1 : n1 = l1.length) (h2 : n2 = l2.length) (r1 : Rd w w.heap.size A1 l1) (r2 : Rd w w.heap.size A2 l2) (h0 : 0 < n1 + n2) (hl : n1 + n2 ≤ 1048576) :
    Calls Tryz.prog 21 #[.slice (some ⟨g, 0, none⟩) 2 2] (w.alloc (.cells #[.slice A1 n1 c1, .slice A2 n2 c2] 23)) fun e w' => ∃ A c, e = .returned (.slice A l.length c) ∧ l.length ≤ c ∧ Rd w' w'.heap.size A l ∧ Below w.heap.size w w' := by
  subst hg
  have hbl := below_alloc w (.cells #[.slice A1 n1 c1, .slice A2 n2 c2] 23)
  refine (concat_any (w.alloc (.cells #[.slice A1 n1 c1, .slice A2 n2 c2] 23)) w.heap.size A1 A2 l1 l2 n1 n2 c1 c2 (Blk.new w _ _) h1 h2 ((r1.below hbl).more hbl.size) ((r2.below hbl).more hbl.size) h0 hl).mono ?_
  rintro e w' ⟨v, rfl, hO, hb⟩
  obtain ⟨gR, cp, rest, rfl, _, hcp, hB⟩ := hO.blk (by rw [List.length_append]; omega)
  rw [hlv]
  exact ⟨_, cp, rfl, hcp, Rd.of_row hB, hbl.trans (hb.mono hbl.size)⟩
end Go.Proofs.YtdipflchmooakaaGreatDoor

namespace Go.Proofs.YtdipflchmooakaaGreatDoor
open Go.RowKit Go.Gar Go.Gar.Aes

theorem gm_call (a b : UInt8) : ((Box.mul a.toNat b.toNat : Nat) : Int) = ((gm a b).toNat : Int) := by rw [gm_toNat]
theorem at_get {l : List UInt8} {i : Nat} (h : i < l.length) : l[i]? = some (at_ l i) := by
  simp [at_, List.getElem?_eq_getElem h]
theorem prog_later (l l2 : List UInt8) (k j : Nat) (h : l2.length = l.length) (hj : k ≤ j) (hl : j < l.length) : (prog l l2 k)[j]? = some (at_ l j) := by
  unfold prog
  rw [List.getElem?_append_right (by simp; omega)]
  have : k + (j - (l2.take k).length) = j := by simp; omega
  rw [List.getElem?_drop, this, at_get hl]
theorem mixcol (T : List UInt8) (col : Nat) (hc : col < 4) : (mix T)[4 * col]? = some (gm 2 (at_ T (4 * col)) ^^^ gm 3 (at_ T (4 * col + 1)) ^^^ at_ T (4 * col + 2) ^^^ at_ T (4 * col + 3)) ∧
    (mix T)[4 * col + 1]? = some (at_ T (4 * col) ^^^ gm 2 (at_ T (4 * col + 1)) ^^^ gm 3 (at_ T (4 * col + 2)) ^^^ at_ T (4 * col + 3)) ∧
    (mix T)[4 * col + 2]? = some (at_ T (4 * col) ^^^ at_ T (4 * col + 1) ^^^ gm 2 (at_ T (4 * col + 2)) ^^^ gm 3 (at_ T (4 * col + 3))) ∧
    (mix T)[4 * col + 3]? = some (gm 3 (at_ T (4 * col)) ^^^ at_ T (4 * col + 1) ^^^ at_ T (4 * col + 2) ^^^ gm 2 (at_ T (4 * col + 3))) := by
  unfold mix
  rw [st_get _ _ (by omega), st_get _ _ (by omega), st_get _ _ (by omega), st_get _ _ (by omega)]
  have d0 : 4 * col / 4 * 4 = 4 * col := by omega
  have d1 : (4 * col + 1) / 4 * 4 = 4 * col := by omega
  have d2 : (4 * col + 2) / 4 * 4 = 4 * col := by omega
  have d3 : (4 * col + 3) / 4 * 4 = 4 * col := by omega
  have m0 : 4 * col % 4 = 0 := by omega
  have m1 : (4 * col + 1) % 4 = 1 := by omega
  have m2 : (4 * col + 2) % 4 = 2 := by omega
  have m3 : (4 * col + 3) % 4 = 3 := by omega
  rw [d0, d1, d2, d3, m0, m1, m2, m3]
  refine ⟨rfl, ?_, ?_, ?_⟩
  · show some (m (at_ T (4 * col + 1)) (at_ T (4 * col + 2)) (at_ T (4 * col + 3)) (at_ T (4 * col))) = _
    unfold m; congr 1; ac_rfl
  · show some (m (at_ T (4 * col + 2)) (at_ T (4 * col + 3)) (at_ T (4 * col)) (at_ T (4 * col + 1))) = _
    unfold m; congr 1; ac_rfl
  · show some (m (at_ T (4 * col + 3)) (at_ T (4 * col)) (at_ T (4 * col + 1)) (at_ T (4 * col + 2))) = _
    unfold m; congr 1; ac_rfl
theorem shift_idx (s : List UInt8) (col r : Nat) (hc : col < 4) (hr : r < 4) : (shift s)[4 * col + r]? = some (sb (at_ s (4 * ((col + r) % 4) + r))) := by
  unfold shift
  rw [st_get _ _ (by omega)]
  congr 3
  omega
theorem sboxB_byte (a : UInt8) : Box.sboxB[a.toNat]? = some (sb a) := by rw [Box.sboxB_get _ a.toNat_lt]; rfl
theorem backB_byte (a : UInt8) : Box.backB[a.toNat]? = some (ib a) := by rw [Box.backB_get _ a.toNat_lt]; rfl
theorem blk_byte {w : World} {g : Nat} {t : TypeId} {l : List UInt8} (h : Blk w g t (u8s l)) {i : Nat} {c : UInt8} (hc : l[i]? = some c) : w.cell? ⟨g, i, none⟩ = some (.int .u8 (c.toNat : Int)) := by
  rw [h.cell, u8s_get, hc]; rfl

end Go.Proofs.YtdipflchmooakaaGreatDoor
namespace Go.Proofs.YtdipflchmooakaaGreatDoor
open Go.RowKit Go.Gar

theorem Tryz.undArr : Tryz.prog.underlying 81 = some (.array 256 5) := by kernel_rfl
theorem Tryz.infoArr : (Tryz.prog.info? 81).map (fun i => (i.zero, i.size)) = some (some (.agg (Array.replicate 256 (.int .u8 0))), 256) := by kernel_rfl
def zs : List Value := List.replicate 256 (.int .u8 0)
theorem zero_arr (w : World) : (zeroValue 81).run Tryz.prog w = .ok (.agg zs.toArray) w := by
  have := (zero_of_info Tryz.infoArr).1 w
  rw [this]
  rfl
theorem size_arr (l : List UInt8) (h : l.length = 256) : (Tryz.prog.info? 81).map (·.size) = some (u8s l).length := by
  rw [u8s_len, h]; exact (zero_of_info Tryz.infoArr).2
theorem zs_len : zs.length = 256 := List.length_replicate

def MulC : Prop := ∀ (a b : Nat) (w : World), a < 256 → b < 256 → Calls Tryz.prog 83 #[.int .u8 (a : Int), .int .u8 (b : Int)] w fun e w' => e = .returned (.int .u8 ((Box.mul a b : Nat) : Int)) ∧ w' = w
def InvC : Prop := ∀ (a : Nat) (w : World), a < 256 → Calls Tryz.prog 82 #[.int .u8 (a : Int)] w fun e w' => e = .returned (.int .u8 ((Box.inv a : Nat) : Int)) ∧ w' = w
def TabC : Prop := ∀ (w : World), Calls Tryz.prog 48 #[] w fun e w' => e = .returned (.tuple #[.agg (u8s Box.sboxB).toArray, .agg (u8s Box.backB).toArray]) ∧ Below w.heap.size w w'

/-- The world behind 't, b := box.Tables()'. -/
def laidT (w : World) (x y : List Value) : World := (((w.alloc (.cells zs.toArray 81)).alloc (.cells zs.toArray 81)).setRow w.heap.size x.toArray).setRow (w.heap.size + 1) y.toArray
theorem laid_0 (w : World) : Blk ((w.alloc (.cells zs.toArray 81)).alloc (.cells zs.toArray 81)) w.heap.size 81 zs := (Blk.new w _ zs).alloc _
theorem laid_1 (w : World) : Blk ((w.alloc (.cells zs.toArray 81)).alloc (.cells zs.toArray 81)) (w.heap.size + 1) 81 zs := by
  have h2 := Blk.new (w.alloc (.cells zs.toArray 81)) 81 zs
  rw [World.size_alloc] at h2
  exact h2
theorem laid_2 (w : World) (x : List Value) : Blk (((w.alloc (.cells zs.toArray 81)).alloc (.cells zs.toArray 81)).setRow w.heap.size x.toArray) (w.heap.size + 1) 81 zs :=
  (laid_1 w).rowFar (by omega) _
theorem laid_t (w : World) (x y : List Value) : Blk (laidT w x y) w.heap.size 81 x := ((laid_0 w).row x).rowFar (by omega) _
theorem laid_b (w : World) (x y : List Value) : Blk (laidT w x y) (w.heap.size + 1) 81 y := (laid_2 w x).row y
theorem laid_below (w : World) (x y : List Value) : Below w.heap.size w (laidT w x y) :=
  below_setRow (below_setRow (((below_alloc w _).alloc (by rw [World.size_alloc]; omega) _)) (Nat.le_refl _) _) (by omega) _

/-- A table as a value: 256 bytes. -/
def Tab (x : List Value) (l : List UInt8) : Prop := x = u8s l ∧ l.length = 256
theorem Tab.size {x : List Value} {l : List UInt8} (h : Tab x l) : (Tryz.prog.info? 81).map (·.size) = some x.length := by rw [h.1]; exact size_arr _ h.2
theorem Tab.len {x : List Value} {l : List UInt8} (h : Tab x l) : zs.length = x.length := by rw [h.1, u8s_len, h.2, zs_len]
theorem Tab.one {x : List Value} {l : List UInt8} (h : Tab x l) : ∀ u ∈ x, u.oneCell' = true := by rw [h.1]; exact u8s_one _
theorem Tab.get {w : World} {g : Nat} {t : TypeId} {x : List Value} {l : List UInt8} (h : Tab x l) (hb : Blk w g t x) {i c : Nat} (hc : l[i]? = some (UInt8.ofNat c)) (h8 : c < 256) : w.cell? ⟨g, i, none⟩ = some (.int .u8 (c : Int)) := by
  rw [hb.cell, h.1, u8s_get, hc, Option.map_some, Box.ofNat_toNat c h8]
theorem tab_s : Tab (u8s Box.sboxB) Box.sboxB := ⟨rfl, Box.sboxB_len⟩
theorem tab_b : Tab (u8s Box.backB) Box.backB := ⟨rfl, Box.backB_len⟩
end Go.Proofs.YtdipflchmooakaaGreatDoor
namespace Go.Gar
open Go.RowKit
theorem cell_grown {w w' : World} {row : Option Nat} (h : w.grownBy w' row) {b o : Nat} (hp : some b ≠ row) {v : Value} (hc : w.cell? ⟨b, o, none⟩ = some v) : w'.cell? ⟨b, o, none⟩ = some v := by
  have hlt : b < w.heap.size := by
    unfold World.cell? at hc
    rcases Nat.lt_or_ge b w.heap.size with h' | h'
    · exact h'
    · simp [Array.getElem?_eq_none h'] at hc
  unfold World.cell? at hc ⊢
  rw [← hc]
  simp only [h.block b hlt hp]
/-- A table of bytes in memory. -/
def Tbl (w : World) (g o : Nat) (f : UInt8 → UInt8) : Prop := ∀ a : UInt8, w.cell? ⟨g, o + a.toNat, none⟩ = some (.int .u8 ((f a).toNat : Int))
theorem Tbl.grown {w w' : World} {row : Option Nat} {g o : Nat} {f : UInt8 → UInt8} (h : Tbl w g o f) (hg : w.grownBy w' row) (hp : some g ≠ row) : Tbl w' g o f := fun a => cell_grown hg hp (h a)
theorem Tbl.below {w w' : World} {B : Nat} {g o : Nat} {f : UInt8 → UInt8} (h : Tbl w g o f) (hb : Below B w w') (hp : g < B) : Tbl w' g o f := fun a => by
  have := h a
  unfold World.cell? at this ⊢
  rw [← this]
  simp only [hb.block g hp]
theorem grown_re {w w' w2 : World} {row : Option Nat} (h : w.grownBy w' row) (h1 : w2.os = w'.os) (h2 : w2.tape = w'.tape) (h3 : w2.output = w'.output) (h4 : w2.heap = w'.heap) : w.grownBy w2 row :=
  ⟨by rw [h1]; exact h.os, by rw [h2]; exact h.tape, by rw [h3]; exact h.output, by rw [h4]; exact h.size, by rw [h4]; exact h.block⟩
end Go.Gar
namespace Go.Proofs.YtdipflchmooakaaGreatDoor
open Go.RowKit Go.Gar Go.Gar.Aes

set_option maxHeartbeats 2000000 in
set_option maxRecDepth 100000 in
theorem add_any (w : World) (gb gk o : Nat) (l k : List UInt8) (hl : l.length = 16) (hB : Blk w gb 32 (u8s l)) (hk : ∀ i, i < 16 → w.cell? ⟨gk, o + i, none⟩ = some (.int .u8 ((at_ k i).toNat : Int))) (hne : gk ≠ gb) :
    Calls Tryz.prog 77 #[.pointer (some ⟨gb, 0, none⟩), .pointer (some ⟨gk, o, none⟩)] w fun e w' => (∃ v, e = .returned v) ∧ Blk w' gb 32 (u8s (addK l k)) ∧ w.grownBy w' (some gb) := by
  have HL := Lib.hid hl
  have HK := Lib.hid hk
  have HN := Lib.hid hne
  have HB := Lib.hid hB
  clear hl hk hB hne
  go_enter Tryz.func77, Tryz.ntmps77
  go_wp2
  go_loopw [5] (fun i w' => ∃ j : Nat, j ≤ 16 ∧ i = .int .i64 (j : Int) ∧ Blk w' gb 32 (u8s (prog l (addK l k) j)) ∧ w.grownBy w' (some gb)) (fun i _ => 16 - (intOf i).toNat)
  case atStart => exact ⟨0, by omega, rfl, by rw [prog_0]; exact HB.out, World.grownBy.refl w _⟩
  case round =>
    obtain ⟨j, hj, rfl, hB, hg⟩ := hrel
    clear HB
    have hL2 : (addK l k).length = l.length := by rw [addK_len, HL.out]
    by_cases hlt : j < 16
    · have hc1 := blk_byte hB (i := j) (c := at_ l j) (by rw [prog_get _ _ _ hL2 (by rw [HL.out]; exact hlt), at_get (by rw [HL.out]; exact hlt)])
      have hc2 := cell_grown hg (fun h => HN.out (Option.some.inj h)) (HK.out j hlt)
      have hz : (addK l k)[j]? = some (at_ l j ^^^ at_ k j) := st_get _ _ hlt
      have hf := hB.frozen j
      have hS := hB.set_ j (.int .u8 ((at_ l j ^^^ at_ k j).toNat : Int))
      rw [u8s_set, prog_set _ _ _ _ hL2 hz, ← xor_byte] at hS
      have HS := Lib.hid hS
      have Hg := Lib.hid (grown_set (i := j) hg (.int .u8 (bits .xor .u8 ((at_ l j).toNat : Int) ((at_ k j).toNat : Int))))
      have hx8 := (at_ l j).toNat_lt
      have hy8 := (at_ k j).toNat_lt
      clear hS hB hg hz hL2
      generalize (at_ l j).toNat = xn at *
      generalize (at_ k j).toNat = yn at *
      go_wp2
      go_region
      go_wp2
      exact ⟨⟨j + 1, by omega, by go_num, HS.out, grown_re Hg.out rfl rfl rfl rfl⟩, by simp [intOf]; omega⟩
    · obtain rfl : j = 16 := by omega
      rw [prog_end _ _ _ HL.out.symm (by rw [addK_len])] at hB
      go_wp2
      refine bodyPost_end (results_none rfl _ _ _) rfl ?_
      exact ⟨⟨_, rfl⟩, hB, hg⟩

theorem map_get (l : List UInt8) (f : UInt8 → UInt8) {j : Nat} (h : j < l.length) : (l.map f)[j]? = some (f (at_ l j)) := by
  rw [List.getElem?_map, at_get h]; rfl

set_option maxHeartbeats 2000000 in
set_option maxRecDepth 100000 in
theorem replace_any (w : World) (gb gt o : Nat) (l : List UInt8) (f : UInt8 → UInt8) (hl : l.length = 16) (hB : Blk w gb 32 (u8s l)) (hT : Tbl w gt o f) (hne : gt ≠ gb) :
    Calls Tryz.prog 78 #[.pointer (some ⟨gb, 0, none⟩), .pointer (some ⟨gt, o, none⟩)] w fun e w' => (∃ v, e = .returned v) ∧ Blk w' gb 32 (u8s (l.map f)) ∧ w.grownBy w' (some gb) := by
  have HL := Lib.hid hl
  have HT := Lib.hid hT
  have HN := Lib.hid hne
  have HB := Lib.hid hB
  clear hl hT hB hne
  go_enter Tryz.func78, Tryz.ntmps78
  go_wp2
  go_loopw [5] (fun i w' => ∃ j : Nat, j ≤ 16 ∧ i = .int .i64 (j : Int) ∧ Blk w' gb 32 (u8s (prog l (l.map f) j)) ∧ w.grownBy w' (some gb)) (fun i _ => 16 - (intOf i).toNat)
  case atStart => exact ⟨0, by omega, rfl, by rw [prog_0]; exact HB.out, World.grownBy.refl w _⟩
  case round =>
    obtain ⟨j, hj, rfl, hB, hg⟩ := hrel
    clear HB
    have hL2 : (l.map f).length = l.length := List.length_map _
    by_cases hlt : j < 16
    · have hc1 := blk_byte hB (i := j) (c := at_ l j) (by rw [prog_get _ _ _ hL2 (by rw [HL.out]; exact hlt), at_get (by rw [HL.out]; exact hlt)])
      have hc2 := HT.out.grown hg (fun h => HN.out (Option.some.inj h)) (at_ l j)
      have hz := map_get l f (j := j) (by rw [HL.out]; exact hlt)
      have hf := hB.frozen j
      have hS := hB.set_ j (.int .u8 ((f (at_ l j)).toNat : Int))
      rw [u8s_set, prog_set _ _ _ _ hL2 hz] at hS
      have HS := Lib.hid hS
      have Hg := Lib.hid (grown_set (i := j) hg (.int .u8 ((f (at_ l j)).toNat : Int)))
      have hx8 := (at_ l j).toNat_lt
      have hy8 := (f (at_ l j)).toNat_lt
      clear hS hB hg hz hL2
      generalize (f (at_ l j)).toNat = yn at *
      generalize (at_ l j).toNat = xn at *
      go_wp2
      go_region
      go_wp2
      exact ⟨⟨j + 1, by omega, by go_num, HS.out, grown_re Hg.out rfl rfl rfl rfl⟩, by simp [intOf]; omega⟩
    · obtain rfl : j = 16 := by omega
      rw [prog_end _ _ _ HL.out.symm (by rw [hL2, HL.out])] at hB
      go_wp2
      refine bodyPost_end (results_none rfl _ _ _) rfl ?_
      exact ⟨⟨_, rfl⟩, hB, hg⟩

set_option maxHeartbeats 2000000 in
set_option maxRecDepth 100000 in
theorem replaceWord_any (w : World) (gb gt o : Nat) (l : List UInt8) (f : UInt8 → UInt8) (hl : l.length = 4) (hB : Blk w gb 89 (u8s l)) (hT : Tbl w gt o f) (hne : gt ≠ gb) :
    Calls Tryz.prog 97 #[.pointer (some ⟨gb, 0, none⟩), .pointer (some ⟨gt, o, none⟩)] w fun e w' => (∃ v, e = .returned v) ∧ Blk w' gb 89 (u8s (l.map f)) ∧ w.grownBy w' (some gb) := by
  have HL := Lib.hid hl
  have HT := Lib.hid hT
  have HN := Lib.hid hne
  have HB := Lib.hid hB
  clear hl hT hB hne
  go_enter Tryz.func97, Tryz.ntmps97
  go_wp2
  go_loopw [5] (fun i w' => ∃ j : Nat, j ≤ 4 ∧ i = .int .i64 (j : Int) ∧ Blk w' gb 89 (u8s (prog l (l.map f) j)) ∧ w.grownBy w' (some gb)) (fun i _ => 4 - (intOf i).toNat)
  case atStart => exact ⟨0, by omega, rfl, by rw [prog_0]; exact HB.out, World.grownBy.refl w _⟩
  case round =>
    obtain ⟨j, hj, rfl, hB, hg⟩ := hrel
    clear HB
    have hL2 : (l.map f).length = l.length := List.length_map _
    by_cases hlt : j < 4
    · have hc1 := blk_byte hB (i := j) (c := at_ l j) (by rw [prog_get _ _ _ hL2 (by rw [HL.out]; exact hlt), at_get (by rw [HL.out]; exact hlt)])
      have hc2 := HT.out.grown hg (fun h => HN.out (Option.some.inj h)) (at_ l j)
      have hz := map_get l f (j := j) (by rw [HL.out]; exact hlt)
      have hf := hB.frozen j
      have hS := hB.set_ j (.int .u8 ((f (at_ l j)).toNat : Int))
      rw [u8s_set, prog_set _ _ _ _ hL2 hz] at hS
      have HS := Lib.hid hS
      have Hg := Lib.hid (grown_set (i := j) hg (.int .u8 ((f (at_ l j)).toNat : Int)))
      have hx8 := (at_ l j).toNat_lt
      have hy8 := (f (at_ l j)).toNat_lt
      clear hS hB hg hz hL2
      generalize (f (at_ l j)).toNat = yn at *
      generalize (at_ l j).toNat = xn at *
      go_wp2
      go_region
      go_wp2
      exact ⟨⟨j + 1, by omega, by go_num, HS.out, grown_re Hg.out rfl rfl rfl rfl⟩, by simp [intOf]; omega⟩
    · obtain rfl : j = 4 := by omega
      rw [prog_end _ _ _ HL.out.symm (by rw [hL2, HL.out])] at hB
      go_wp2
      refine bodyPost_end (results_none rfl _ _ _) rfl ?_
      exact ⟨⟨_, rfl⟩, hB, hg⟩

theorem mul2 (hM : MulC) (a : UInt8) (w : World) : Calls Tryz.prog 83 #[.int .u8 (a.toNat : Int), .int .u8 2] w fun e w' => e = .returned (.int .u8 ((gm a 2).toNat : Int)) ∧ w' = w :=
  (hM a.toNat 2 w a.toNat_lt (by omega)).mono fun e w' h => ⟨by rw [h.1, gm_toNat]; rfl, h.2⟩
set_option maxHeartbeats 1000000 in
set_option maxRecDepth 100000 in
theorem power_any (hM : MulC) (k : Nat) (hk : k < 1000) (w : World) : Calls Tryz.prog 98 #[.int .i64 (k : Int)] w fun e w' => e = .returned (.int .u8 ((xp k).toNat : Int)) ∧ w' = w := by
  have HM := Lib.hid hM
  clear hM
  go_enter Tryz.func98, Tryz.ntmps98
  go_wp2
  go_loop [3, 5] (fun p i => ∃ (j : Nat) (x : UInt8), j ≤ k ∧ i = .int .i64 (j : Int) ∧ p = .int .u8 (x.toNat : Int) ∧ x = xp j) (fun _ i => k - (intOf i).toNat)
  case atStart => exact ⟨0, 1, by omega, rfl, rfl, rfl⟩
  case round =>
    obtain ⟨j, x, hj, rfl, rfl, hx⟩ := hrel
    have HX := Lib.hid hx
    clear hx
    by_cases hlt : j < k
    · go_wp2_with fail
      refine (mul2 HM.out x w).mono ?_
      rintro e w' ⟨rfl, rfl⟩
      have HY : Hid (gm x 2 = xp (j + 1)) := Lib.hid (by rw [HX.out]; rfl)
      generalize gm x 2 = y at HY ⊢
      go_wp2
      exact ⟨⟨j + 1, y, by omega, by go_num, rfl, HY.out⟩, by simp [intOf]; omega⟩
    · have HJ : Hid (j = k) := Lib.hid (by omega)
      go_wp2
      go_ret
      exact ⟨by rw [HX.out, HJ.out]; rfl, rfl⟩

theorem ready_nil (w : World) : Calls Tryz.prog 76 #[.pointer none] w fun e w' => e = .returned (.bool false) ∧ w' = w := by
  go_enter Tryz.func76, Tryz.ntmps76
  go_wp2
  go_ret
  exact ⟨rfl, rfl⟩
theorem ready_yes (w : World) (gc n c : Nat) (A : Option Addr) (h0 : 0 < n) (hc : w.cell? ⟨gc, 2560, none⟩ = some (.slice A n c)) : Calls Tryz.prog 76 #[.pointer (some ⟨gc, 0, none⟩)] w fun e w' => e = .returned (.bool true) ∧ w' = w := by
  go_enter Tryz.func76, Tryz.ntmps76
  go_wp2
  go_ret
  exact ⟨rfl, rfl⟩
end Go.Proofs.YtdipflchmooakaaGreatDoor
namespace Go.Gar.Aes
open Go.RowKit Go.Gar

def mixA (T : Nat → UInt8 → UInt8) (l : List UInt8) (i : Nat) : Nat → UInt8
  | 0 => 0
  | j + 1 => mixA T l i j ^^^ T j (at_ l (i - i % 4 + (i % 4 + j) % 4))
def mixT (T : Nat → UInt8 → UInt8) (l : List UInt8) : List UInt8 := st fun i => mixA T l i 4
theorem mixT_len (T : Nat → UInt8 → UInt8) (l : List UInt8) : (mixT T l).length = 16 := st_len _
def facs (F : List UInt8) (j : Nat) (a : UInt8) : UInt8 := gm a (at_ F j)
theorem mixT_there (l : List UInt8) : mixT (facs [2, 3, 1, 1]) l = mix l := by
  apply st_congr
  intro i hi
  show 0 ^^^ gm _ 2 ^^^ gm _ 3 ^^^ gm _ 1 ^^^ gm _ 1 = m _ _ _ _
  rw [show i - i % 4 = i / 4 * 4 from by omega, show i / 4 * 4 + (i % 4 + 0) % 4 = i from by omega]
  unfold m
  rw [UInt8.zero_xor, gm_one, gm_one, gm_comm _ 2, gm_comm _ 3]
theorem all256 (p : UInt8 → Bool) (h : Box.all 256 (fun n => p (UInt8.ofNat n)) = true) (a : UInt8) : p a = true := by
  have := Box.all_spec h a.toNat a.toNat_lt
  rwa [UInt8.ofNat_toNat] at this
theorem gm14 (a : UInt8) : gm a 14 = gm 2 (gm 2 (gm 2 a)) ^^^ gm 2 (gm 2 a) ^^^ gm 2 a := by
  have := all256 (fun a => gm a 14 == gm 2 (gm 2 (gm 2 a)) ^^^ gm 2 (gm 2 a) ^^^ gm 2 a) (by decide +kernel) a
  exact eq_of_beq this
theorem gm11 (a : UInt8) : gm a 11 = gm 2 (gm 2 (gm 2 a)) ^^^ gm 2 a ^^^ a := by
  have := all256 (fun a => gm a 11 == gm 2 (gm 2 (gm 2 a)) ^^^ gm 2 a ^^^ a) (by decide +kernel) a
  exact eq_of_beq this
theorem gm13 (a : UInt8) : gm a 13 = gm 2 (gm 2 (gm 2 a)) ^^^ gm 2 (gm 2 a) ^^^ a := by
  have := all256 (fun a => gm a 13 == gm 2 (gm 2 (gm 2 a)) ^^^ gm 2 (gm 2 a) ^^^ a) (by decide +kernel) a
  exact eq_of_beq this
theorem gm9 (a : UInt8) : gm a 9 = gm 2 (gm 2 (gm 2 a)) ^^^ a := by
  have := all256 (fun a => gm a 9 == gm 2 (gm 2 (gm 2 a)) ^^^ a) (by decide +kernel) a
  exact eq_of_beq this
/-- A column mixed three times. -/
theorem m_thrice (a b c d : UInt8) : m (gm 2 (gm 2 a) ^^^ a ^^^ gm 2 (gm 2 c)) (gm 2 (gm 2 b) ^^^ b ^^^ gm 2 (gm 2 d)) (gm 2 (gm 2 c) ^^^ c ^^^ gm 2 (gm 2 a)) (gm 2 (gm 2 d) ^^^ d ^^^ gm 2 (gm 2 b)) = 0 ^^^ gm a 14 ^^^ gm b 11 ^^^ gm c 13 ^^^ gm d 9 := by
  rw [gm14, gm11, gm13, gm9]
  simp only [m, gm_three, gm_right, UInt8.xor_assoc]
  simp only [UInt8.xor_assoc, UInt8.xor_comm, xlc, xc, UInt8.xor_self, UInt8.zero_xor]
theorem mixT_back (l : List UInt8) (h : l.length = 16) : mixT (facs [14, 11, 13, 9]) l = mix3 l := by
  obtain ⟨a0, a1, a2, a3, a4, a5, a6, a7, a8, a9, a10, a11, a12, a13, a14, a15, rfl⟩ := list16 l h
  have e : ∀ a0 a1 a2 a3 a4 a5 a6 a7 a8 a9 a10 a11 a12 a13 a14 a15 : UInt8, mix [a0, a1, a2, a3, a4, a5, a6, a7, a8, a9, a10, a11, a12, a13, a14, a15] =
    [m a0 a1 a2 a3, m a1 a2 a3 a0, m a2 a3 a0 a1, m a3 a0 a1 a2, m a4 a5 a6 a7, m a5 a6 a7 a4, m a6 a7 a4 a5, m a7 a4 a5 a6, m a8 a9 a10 a11, m a9 a10 a11 a8, m a10 a11 a8 a9, m a11 a8 a9 a10, m a12 a13 a14 a15, m a13 a14 a15 a12, m a14 a15 a12 a13, m a15 a12 a13 a14] := fun _ _ _ _ _ _ _ _ _ _ _ _ _ _ _ _ => rfl
  unfold mix3
  rw [e, e]
  simp only [m_twice]
  rw [e]
  simp only [m_thrice]
  rfl

/-- Rows rotated. -/
def rot (n : Nat) (l : List UInt8) : List UInt8 := st fun i => at_ l ((i + 4 * (i % 4) * n) % 16)
theorem rot_len (n : Nat) (l : List UInt8) : (rot n l).length = 16 := st_len _
theorem at_map (l : List UInt8) (f : UInt8 → UInt8) {j : Nat} (h : j < l.length) : at_ (l.map f) j = f (at_ l j) := by
  simp [at_, h]
theorem shift_rot (l : List UInt8) (h : l.length = 16) : rot 1 (l.map sb) = shift l := by
  apply st_congr
  intro i hi
  rw [at_map l sb (by omega), show (i + 4 * (i % 4) * 1) % 16 = (i + i % 4 * 4) % 16 from by omega]
theorem st_map (f : Nat → UInt8) (g : UInt8 → UInt8) : (st f).map g = st fun i => g (f i) := by
  unfold st; rw [List.map_map]; rfl
theorem unshift_rot (l : List UInt8) : (rot 3 l).map ib = unshift l := by
  unfold rot unshift
  rw [st_map]
  apply st_congr
  intro i hi
  rw [show (i + 4 * (i % 4) * 3) % 16 = (i + (4 - i % 4) * 4) % 16 from by omega]

/-- The products of every byte with each factor. -/
def prodT (F : List UInt8) : List UInt8 := (List.range 1024).map fun q => gm (UInt8.ofNat (q % 256)) (at_ F (q / 256))
theorem prodT_len (F : List UInt8) : (prodT F).length = 1024 := by simp [prodT]
theorem prodT_get (F : List UInt8) (i a : Nat) (hi : i < 4) (ha : a < 256) : (prodT F)[256 * i + a]? = some (gm (UInt8.ofNat a) (at_ F i)) := by
  unfold prodT
  rw [List.getElem?_map, List.getElem?_range (by omega), Option.map_some, show (256 * i + a) % 256 = a from by omega, show (256 * i + a) / 256 = i from by omega]
theorem prodT_facs (F : List UInt8) (i : Nat) (a : UInt8) (hi : i < 4) : (prodT F)[256 * i + a.toNat]? = some (facs F i a) := by
  rw [prodT_get F i _ hi a.toNat_lt, UInt8.ofNat_toNat]; rfl

/-- The expanded key, byte by byte. -/
def exK (key : List UInt8) : List UInt8 := (words key (key.length / 4) (4 * (key.length / 4) + 28)).flatten
theorem flat_len (ws : List (List UInt8)) (h : ∀ w ∈ ws, w.length = 4) : ws.flatten.length = 4 * ws.length := by
  induction ws with
  | nil => rfl
  | cons a ws ih => rw [List.flatten_cons, List.length_append, ih (fun w hw => h w (by simp [hw])), h a (by simp), List.length_cons]; omega
theorem flat_get (ws : List (List UInt8)) (h : ∀ w ∈ ws, w.length = 4) (i r : Nat) (hr : r < 4) : ws.flatten[4 * i + r]? = (ws[i]?).bind (·[r]?) := by
  induction ws generalizing i with
  | nil => simp
  | cons a ws ih =>
    have ha := h a (by simp)
    rw [List.flatten_cons]
    cases i with
    | zero => rw [List.getElem?_append_left (by omega)]; simp
    | succ i =>
      rw [List.getElem?_append_right (by omega), ha, show 4 * (i + 1) + r - 4 = 4 * i + r from by omega, ih (fun w hw => h w (by simp [hw]))]
      simp
theorem words_four (key : List UInt8) (n N : Nat) : ∀ w ∈ words key n N, w.length = 4 := by
  intro w hw
  obtain ⟨i, hi⟩ := List.getElem?_of_mem hw
  have hlt : i < N := by
    have := (List.getElem?_eq_some_iff.1 hi).1
    rwa [words_len] at this
  rw [words_get key n hlt] at hi
  injection hi with hi
  rw [← hi]
  exact nextW_len _ _ _ _
theorem exK_len (key : List UInt8) : (exK key).length = 4 * (4 * (key.length / 4) + 28) := by
  unfold exK
  rw [flat_len _ (words_four _ _ _), words_len]
theorem four_get (l : List UInt8) (h : l.length = 4) (r : Nat) (hr : r < 4) : l[r]? = some (at_ l r) := by rw [List.getElem?_eq_getElem (by omega)]; simp [at_, List.getD_eq_getElem?_getD, h, hr]
theorem exK_word (key : List UInt8) (i r : Nat) (hi : i < 4 * (key.length / 4) + 28) (hr : r < 4) : (exK key)[4 * i + r]? = some (at_ (wordAt (words key (key.length / 4) (4 * (key.length / 4) + 28)) i) r) := by
  unfold exK
  rw [flat_get _ (words_four _ _ _) i r hr]
  obtain ⟨x, hx⟩ : ∃ x, (words key (key.length / 4) (4 * (key.length / 4) + 28))[i]? = some x := ⟨_, List.getElem?_eq_getElem (by rw [words_len]; exact hi)⟩
  have h4 := words_four key _ _ x (List.mem_of_getElem? hx)
  rw [hx, Option.bind_some, four_get x h4 r hr, wordAt, List.getD_eq_getElem?_getD, hx]
  rfl
/-- A round's key lies in it. -/
theorem exK_key (key : List UInt8) (q i : Nat) (hq : q ≤ roundsOf key) (hi : i < 16) : (exK key)[16 * q + i]? = some (at_ (keysOf key q) i) := by
  unfold roundsOf at hq
  rw [show 16 * q + i = 4 * (4 * q + i / 4) + i % 4 from by omega, exK_word key _ _ (by omega) (by omega)]
  unfold keysOf rk
  rw [at_st _ _ hi]
/-- Word i of the expanded key. -/
def exW (key : List UInt8) (i : Nat) : List UInt8 := ((exK key).drop (4 * i)).take 4
theorem exW_eq (key : List UInt8) (i : Nat) (hi : i < 4 * (key.length / 4) + 28) : exW key i = nextW key (key.length / 4) (words key (key.length / 4) i) i := by
  have hl := exK_len key
  have hn := nextW_len key (key.length / 4) (words key (key.length / 4) i) i
  apply List.ext_getElem?
  intro r
  by_cases hr : r < 4
  · unfold exW
    rw [List.getElem?_take_of_lt hr, List.getElem?_drop]
    unfold exK
    rw [flat_get _ (words_four _ _ _) i r hr, words_get _ _ hi, Option.bind_some]
  · rw [List.getElem?_eq_none (by unfold exW; simp; omega), List.getElem?_eq_none (by omega)]
theorem exW_key (key : List UInt8) (i : Nat) (hi : i < key.length / 4) : exW key i = [at_ key (4 * i), at_ key (4 * i + 1), at_ key (4 * i + 2), at_ key (4 * i + 3)] := by
  rw [exW_eq key i (by omega), nextW, if_pos hi]
theorem wordAt_words (key : List UInt8) (n i j : Nat) (h : i < j) : wordAt (words key n j) i = nextW key n (words key n i) i := by
  rw [wordAt, List.getD_eq_getElem?_getD, words_get key n h]; rfl
theorem exW_next (key : List UInt8) (i : Nat) (h0 : 0 < key.length / 4) (hi : key.length / 4 ≤ i) (hN : i < 4 * (key.length / 4) + 28) : exW key i = xor4 (turnW (key.length / 4) i (exW key (i - 1))) (exW key (i - key.length / 4)) := by
  rw [exW_eq key i hN, nextW, if_neg (by omega), wordAt_words key _ _ _ (by omega), wordAt_words key _ _ _ (by omega), exW_eq key (i - 1) (by omega), exW_eq key (i - key.length / 4) (by omega)]
theorem exW_len (key : List UInt8) (i : Nat) (hi : i < 4 * (key.length / 4) + 28) : (exW key i).length = 4 := by
  rw [exW_eq key i hi]; exact nextW_len _ _ _ _
theorem exK_at (key : List UInt8) (i r : Nat) (hi : i < 4 * (key.length / 4) + 28) (hr : r < 4) : (exK key)[4 * i + r]? = some (at_ (exW key i) r) := by
  have h := four_get (exW key i) (exW_len key i hi) r hr
  rw [← h, exW, List.getElem?_take_of_lt hr, List.getElem?_drop]
end Go.Gar.Aes
