/-
  The landed lz: leave: its contract.
-/
import Derived.Test.YtjapohddfelgkaaLzWo
import Derived.Test.YtjapohddfelgkaaLzTz
import Derived.Test.YtjapohddfelgkaaIvM3
import Derived.Test.YtjapohddfelgkaaMapRun
set_option maxRecDepth 100000
namespace Go.Proofs.Ytjapohddfelgkaa
open Go.RowKit Go.Gar

theorem slice_ints (g o n c : Nat) (h : 1 ≤ n) (h3 : 1 < c) (W : World) :
    (Instr.sliceAt 57 (.slice (some ⟨g, o, none⟩) n c) (some (.int .i64 1)) none none).run Try.prog W = .ok (.slice (some ⟨g, o + 1, none⟩) (n - 1) (c - 1)) W := by
  obtain ⟨i, hi, hs⟩ := Option.map_eq_some_iff.1 Try.infoIntL
  simp only [Prod.mk.injEq] at hs
  have h1 : (1 : Int) ≤ (n : Int) := by omega
  have h5 : ¬ c = 1 := by omega
  simp [Instr.sliceAt, Instr.sliceBounds, Instr.sureAddr, run_underlying Try.undIntsL W, sizeOf, typeInfo, hi, hs.2.1, go_sem, h1, h5, Addr.add_lit]
theorem slice_ints1 (g o : Nat) (W : World) (c : Nat) (h : 1 ≤ c) :
    ∃ p, (Instr.sliceAt 57 (.slice (some ⟨g, o, none⟩) 1 c) (some (.int .i64 1)) none none).run Try.prog W = .ok (.slice p 0 (c - 1)) W := by
  obtain ⟨i, hi, hs⟩ := Option.map_eq_some_iff.1 Try.infoIntL
  simp only [Prod.mk.injEq] at hs
  by_cases h5 : c = 1
  · subst h5
    refine ⟨some ⟨g, o, none⟩, ?_⟩
    simp [Instr.sliceAt, Instr.sliceBounds, Instr.sureAddr, run_underlying Try.undIntsL W, sizeOf, typeInfo, hi, hs.2.1, go_sem]
  · refine ⟨some ⟨g, o + 1, none⟩, ?_⟩
    simp [Instr.sliceAt, Instr.sliceBounds, Instr.sureAddr, run_underlying Try.undIntsL W, sizeOf, typeInfo, hi, hs.2.1, go_sem, h5, Addr.add_lit]
theorem leave_any (w : World) (base gm n : Nat) (f : List UInt8 → Value) (ps : List UInt8 → List Nat) (s : List UInt8) (p : Nat) (zs : List Nat) (hW : Win w base gm n f ps) (hn : n < maxLen) (hs : s.length = 3) (hps : ps s = p :: zs) :
    Calls Try.prog 33 #[.map (some gm), keyV s] w fun e w' => (∃ v, e = .returned v) ∧ ∃ f' n', n' ≤ n + 1 ∧ Win w' base gm n' f' (upd ps s zs) ∧ Only (FI base gm w) w w' := by
  have hb := below_alloc w (.cells (u8s s).toArray 58)
  have hW1 := hW.below hb
  have hB := Blk.new w 58 (u8s s)
  have ho1 : Only (FI base gm w) w (w.alloc (.cells (u8s s).toArray 58)) := .of_below _ hb
  unfold keyV
  obtain ⟨w1, hw1⟩ : ∃ w1, w.alloc (.cells (u8s s).toArray 58) = w1 := ⟨_, rfl⟩
  rw [hw1] at hW1 hB ho1
  have hld := loadK_arr hs hB
  have HW1 := Lib.hid hw1
  have HLd := Lib.hid hld
  have Ho1 := Lib.hid ho1
  cases zs with
  | nil =>
    obtain ⟨g, o, c, hf, hc, w', hr, hW2, ho⟩ := hW1.gone hs hps 0
    have hlook := hW1.map.look hs
    rw [hf] at hlook
    obtain ⟨p0, hsl⟩ := slice_ints1 g o w1 c hc
    unfold keyV at hlook hr
    have HR := Lib.hid (show Win w' base gm n (upd f s noInts) (upd ps s []) ∧ Only (FI base gm w) w w' from ⟨hW2, only_FI Ho1.out ho⟩)
    have HD := Lib.hid hr
    clear hb hW1 hB hW hw1 hld hf hps hW2 ho ho1 hr
    go_enter Try.func33, Try.ntmps33
    go_wp2_with (first | (refine wpList_box_arr rfl 58 (.tmp 1) (u8s s).toArray rfl rfl ?_; rw [HW1.out]) | refine wpList_load_arr_w 58 (.tmp 3) rfl rfl (u8s s).toArray HLd.out (by kernel_rfl) ?_ | refine wpList_delete_run rfl (.tmp 15) (.tmp 16) _ rfl rfl rfl HD.out ?_ | refine wpList_mapUpdate_run rfl 45 (.tmp 12) (.tmp 13) (.tmp 14) rfl rfl rfl rfl HD.out ?_)
    refine bodyPost_end (results_none rfl _ _ _) rfl ?_
    exact ⟨⟨_, rfl⟩, _, n, by omega, HR.out.1, HR.out.2⟩
  | cons q zs =>
    obtain ⟨g, o, c, hf, hc, w', hr, hW2, ho⟩ := hW1.cut hn hs hps
    have hlook := hW1.map.look hs
    rw [hf] at hlook
    have hsl := slice_ints g o (zs.length + 2) c (by omega) (by omega) w1
    unfold keyV at hlook hr
    have HR := Lib.hid (show Win w' base gm (n + 1) _ (upd ps s (q :: zs)) ∧ Only (FI base gm w) w w' from ⟨hW2, only_FI Ho1.out ho⟩)
    have HD := Lib.hid hr
    clear hb hW1 hB hW hw1 hld hf hps hW2 ho ho1 hr
    go_enter Try.func33, Try.ntmps33
    go_wp2_with (first | (refine wpList_box_arr rfl 58 (.tmp 1) (u8s s).toArray rfl rfl ?_; rw [HW1.out]) | refine wpList_load_arr_w 58 (.tmp 3) rfl rfl (u8s s).toArray HLd.out (by kernel_rfl) ?_ | refine wpList_delete_run rfl (.tmp 15) (.tmp 16) _ rfl rfl rfl HD.out ?_ | refine wpList_mapUpdate_run rfl 45 (.tmp 12) (.tmp 13) (.tmp 14) rfl rfl rfl rfl HD.out ?_)
    refine bodyPost_end (results_none rfl _ _ _) rfl ?_
    exact ⟨⟨_, rfl⟩, _, n + 1, Nat.le_refl _, HR.out.1, HR.out.2⟩
end Go.Proofs.Ytjapohddfelgkaa
