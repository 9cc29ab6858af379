/-
  slices.Grow of nil, slices.Concat of two: of no program.
-/
import Derived.Test.YtpaagjhohfjopaaDoorApp
import Derived.Test.YtpaagjhohfjopaaDoorBase
import Derived.Lib.AppendZeros
set_option maxRecDepth 100000
namespace Go.Proofs.YtpaagjhohfjopaaDoor
open Go.RowKit Go.Gar

theorem Tryd.und3 : Tryd.prog.underlying 3 = some (.int .i64) := by kernel_rfl
theorem slice_to0 (g n c : Nat) (W : World) : (Instr.sliceAt 22 (.slice (some ⟨g, 0, none⟩) n c) none (some (.int .i64 0)) none).run Tryd.prog W = .ok (.slice (some ⟨g, 0, none⟩) 0 c) W := by
  obtain ⟨i, hi, hs⟩ := Option.map_eq_some_iff.1 Tryd.size5
  simp [Instr.sliceAt, Instr.sliceBounds, Instr.sureAddr, run_underlying Tryd.und22 W, sizeOf, typeInfo, hi, hs, go_sem]
set_option maxHeartbeats 1000000 in
theorem grow_any (w : World) (n : Nat) (h0 : 0 < n) (hl : n ≤ 1048576) :
    Calls Tryd.prog 23 #[.slice none 0 0, .int .i64 (n : Int)] w fun e w' => ∃ v, e = .returned v ∧ OwnB w' w.heap.size 5 v [] ∧ Below w.heap.size w w' := by
  obtain ⟨i, hi, hzz⟩ := Option.map_eq_some_iff.1 Tryd.info5
  simp only [Prod.mk.injEq] at hzz
  obtain ⟨hz, hs, hby⟩ := hzz
  have hrun := Lib.run_append_nil_zeros (P := Tryd.prog) w 22 3 22 5 i _ .i64 .i64 Tryd.und22 Tryd.und3 hi hz n h0 (by omega) (by omega) (by rw [hby]; omega)
  have hge := grownCap_ge w n 0 5
  have hle := grownCap_le_maxLen w n 0 5 (by simp only [maxLen]; omega)
  generalize grownCap w n 0 5 = cp at hrun hge hle
  have hO : OwnB (w.drew.alloc (.cells (Builtin.zeroCells (Value.int .u8 0).cells n ++ Builtin.zeroCells (Value.int .u8 0).cells (cp - n)) 5)) w.heap.size 5 (.slice (some ⟨w.heap.size, 0, none⟩) 0 cp) [] :=
    World.ownsRow_made w.drew _ cp (Nat.le_refl _) hle (by simp [size_zeroCells, Value.cells]; omega)
  have hb : Below w.heap.size w (w.drew.alloc (.cells (Builtin.zeroCells (Value.int .u8 0).cells n ++ Builtin.zeroCells (Value.int .u8 0).cells (cp - n)) 5)) := (Below.refl _ w).drew.alloc (Nat.le_refl _) _
  generalize w.drew.alloc (.cells (Builtin.zeroCells (Value.int .u8 0).cells n ++ Builtin.zeroCells (Value.int .u8 0).cells (cp - n)) 5) = w1 at *
  have hsl := fun W => slice_to0 w.heap.size n cp W
  have HO := Lib.hid hO
  have Hb := Lib.hid hb
  have hn1 : (0 : Int) < (n : Int) := by omega
  clear hO hb hi hz hs hby hge hle h0
  go_enter Tryd.func23, Tryd.ntmps23
  go_wp2_with (at_builtin; refine wpList_append_run rfl (.tmp 20) (.tmp 21) _ rfl rfl rfl hrun ?_)
  go_ret
  exact ⟨_, rfl, HO.out, Hb.out⟩

set_option maxHeartbeats 2000000 in
theorem concat_any (w : World) (gC : Nat) (A1 A2 : Option Addr) (l1 l2 : List UInt8) (n1 n2 c1 c2 : Nat) (hC : Blk w gC 22 [.slice A1 n1 c1, .slice A2 n2 c2]) (h1 : n1 = l1.length) (h2 : n2 = l2.length) (r1 : Rd w w.heap.size A1 l1) (r2 : Rd w w.heap.size A2 l2) (h0 : 0 < n1 + n2) (hl : n1 + n2 ≤ 1048576) :
    Calls Tryd.prog 17 #[.slice (some ⟨gC, 0, none⟩) 2 2] w fun e w' => ∃ v, e = .returned v ∧ OwnB w' w.heap.size 5 v (l1 ++ l2) ∧ Below w.heap.size w w' := by
  have HC := Lib.hid hC
  have H1 := Lib.hid h1
  have H2 := Lib.hid h2
  have R1 := Lib.hid r1
  have R2 := Lib.hid r2
  have q1 := hC.cell 0
  have q2 := hC.cell 1
  rw [show ([.slice A1 n1 c1, .slice A2 n2 c2] : List Value)[0]? = some (.slice A1 n1 c1) from rfl] at q1
  rw [show ([.slice A1 n1 c1, .slice A2 n2 c2] : List Value)[1]? = some (.slice A2 n2 c2) from rfl] at q2
  clear hC h1 h2 r1 r2
  go_enter Tryd.func17, Tryd.ntmps17
  go_wp2
  go_loopw [3, 11] (fun z i w' => w' = w ∧ ((i = .int .i64 0 ∧ z = .int .i64 0) ∨ (i = .int .i64 1 ∧ z = .int .i64 (n1 : Int)) ∨ (i = .int .i64 2 ∧ z = .int .i64 ((n1 + n2 : Nat) : Int)))) (fun _ i _ => 2 - (intOf i).toNat)
  case atStart => exact ⟨rfl, .inl ⟨rfl, rfl⟩⟩
  case round =>
    obtain ⟨rfl, h | h | h⟩ := hrel
    · obtain ⟨rfl, rfl⟩ := h
      go_wp2
      exact ⟨⟨trivial, .inr (.inl ⟨by go_num, by go_num⟩)⟩, by simp [intOf]⟩
    · obtain ⟨rfl, rfl⟩ := h
      have hnn : ¬ ((n1 : Int) + (n2 : Int) < 0) := by omega
      go_wp2
      exact ⟨⟨trivial, .inr (.inr ⟨by go_num, by go_num⟩)⟩, by simp [intOf]⟩
    · obtain ⟨rfl, rfl⟩ := h
      go_wp2_with fail
      refine (grow_any wr (n1 + n2) h0 hl).mono ?_
      rintro e w1 ⟨v, rfl, hO, hb⟩
      have HO := Lib.hid hO
      have Hb := Lib.hid hb
      clear q1 q2 hO hb
      go_wp2
      go_loopw [6, 27] (fun v i w' => Below wr.heap.size wr w' ∧ ((i = .int .i64 0 ∧ OwnB w' wr.heap.size 5 v []) ∨ (i = .int .i64 1 ∧ OwnB w' wr.heap.size 5 v l1) ∨ (i = .int .i64 2 ∧ OwnB w' wr.heap.size 5 v (l1 ++ l2)))) (fun _ i _ => 2 - (intOf i).toNat)
      case atStart => exact ⟨Hb.out, .inl ⟨rfl, HO.out⟩⟩
      case round =>
        obtain ⟨hb, h | h | h⟩ := hrel
        · obtain ⟨rfl, hO⟩ := h
          have q := (HC.out.below hb HC.out.lt).cell 0
          rw [show ([.slice A1 n1 c1, .slice A2 n2 c2] : List Value)[0]? = some (.slice A1 n1 c1) from rfl] at q
          obtain ⟨v', w', e1, ho1, hb1, _⟩ := app_rd (P := Tryd.prog) 22 22 Tryd.und22 Tryd.info5 hO hb.size c1 (R1.out.below hb) (by have := H1.out; have := H2.out; simp; omega)
          rw [← H1.out] at e1
          have HO1 := Lib.hid ho1
          have Hb1 := Lib.hid (hb.trans hb1)
          clear ho1 hb1 hO hb
          go_wp2_with (at_builtin; refine wpList_append_run rfl (.tmp 31) (.tmp 32) _ rfl rfl rfl e1 ?_)
          exact ⟨⟨Hb1.out, .inr (.inl ⟨by go_num, by simpa using HO1.out⟩)⟩, by simp [intOf]⟩
        · obtain ⟨rfl, hO⟩ := h
          have q := (HC.out.below hb HC.out.lt).cell 1
          rw [show ([.slice A1 n1 c1, .slice A2 n2 c2] : List Value)[1]? = some (.slice A2 n2 c2) from rfl] at q
          obtain ⟨v', w', e1, ho1, hb1, _⟩ := app_rd (P := Tryd.prog) 22 22 Tryd.und22 Tryd.info5 hO hb.size c2 (R2.out.below hb) (by have := H1.out; have := H2.out; simp; omega)
          rw [← H2.out] at e1
          have HO1 := Lib.hid ho1
          have Hb1 := Lib.hid (hb.trans hb1)
          clear ho1 hb1 hO hb
          go_wp2_with (at_builtin; refine wpList_append_run rfl (.tmp 31) (.tmp 32) _ rfl rfl rfl e1 ?_)
          exact ⟨⟨Hb1.out, .inr (.inr ⟨by go_num, HO1.out⟩)⟩, by simp [intOf]⟩
        · obtain ⟨rfl, hO⟩ := h
          have HO1 := Lib.hid hO
          have Hb1 := Lib.hid hb
          clear hO hb
          go_wp2
          go_ret
          exact ⟨_, rfl, HO1.out, Hb1.out⟩

/-- Concat of two slices that the caller lists: some bytes there are. -/
theorem concat2o (w : World) (g : Nat) (A1 A2 : Option Addr) (l1 l2 l : List UInt8) (n1 n2 c1 c2 : Nat) (hg : g = w.heap.size) (hlv : l = l1 ++ l2) (h1 : n1 = l1.length) (h2 : n2 = l2.length) (r1 : Rd w w.heap.size A1 l1) (r2 : Rd w w.heap.size A2 l2) (h0 : 0 < n1 + n2) (hl : n1 + n2 ≤ 1048576) :
    Calls Tryd.prog 17 #[.slice (some ⟨g, 0, none⟩) 2 2] (w.alloc (.cells #[.slice A1 n1 c1, .slice A2 n2 c2] 22)) fun e w' => ∃ A c, e = .returned (.slice A l.length c) ∧ l.length ≤ c ∧ Rd w' w'.heap.size A l ∧ Below w.heap.size w w' := by
  subst hg
  have hbl := below_alloc w (.cells #[.slice A1 n1 c1, .slice A2 n2 c2] 22)
  refine (concat_any (w.alloc (.cells #[.slice A1 n1 c1, .slice A2 n2 c2] 22)) w.heap.size A1 A2 l1 l2 n1 n2 c1 c2 (Blk.new w _ _) h1 h2 ((r1.below hbl).more hbl.size) ((r2.below hbl).more hbl.size) h0 hl).mono ?_
  rintro e w' ⟨v, rfl, hO, hb⟩
  obtain ⟨gR, cp, rest, rfl, _, hcp, hB⟩ := hO.blk (by rw [List.length_append]; omega)
  rw [hlv]
  exact ⟨_, cp, rfl, hcp, Rd.of_row hB, hbl.trans (hb.mono hbl.size)⟩
end Go.Proofs.YtpaagjhohfjopaaDoor
