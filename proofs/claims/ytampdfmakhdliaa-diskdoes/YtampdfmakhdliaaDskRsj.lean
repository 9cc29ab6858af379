/-
  Layer 14: the reference's disk: settle, Flush.
-/
import Derived.Test.YtampdfmakhdliaaDskRwj
set_option maxRecDepth 100000
namespace Go.Proofs.Ytampdfmakhdliaa
open Go.RowKit Go.Gar
open Go.Gar.Dsk (Dsk Sec)

theorem Hold.neRow {w : World} {s : Slc} {l : List UInt8} (hh : Hold w s l) {j : Nat} {t : TypeId} {v : Value} {vs : List Value} (hr : RowA w t v vs) (hj : v.ownBlock = some j) (ht : 5 ≠ t) : s.b ≠ j := by
  rcases hr with ⟨rfl, _⟩ | ⟨g', c', rest, rfl, _, hB⟩
  · simp [Value.ownBlock] at hj
  · obtain rfl : g' = j := by simpa [Value.ownBlock] using hj
    exact hh.ne hB ht
set_option maxHeartbeats 4000000 in
set_option maxRecDepth 100000 in
theorem refSettle_any {w : World} {F : Nat → Prop} {g : Nat} {d : Dsk} (h : RefD w F g d) (k : Nat) (x : Sec) (hx : d.secs[k]? = some x) :
    Calls Try.prog 34 #[.pointer (some ⟨g, 0, none⟩), .int .i64 (k : Int)] w fun e w' => e = .returned (.tuple #[]) ∧ RefD w' F g { d with secs := d.secs.set k (Dsk.settle x) } ∧ Only F w w' := by
  obtain ⟨vG, vS, vA, vO, vW, gs, ss, f, h⟩ := h
  have hk : k < d.secs.length := (List.getElem?_eq_some_iff.1 hx).1
  have hk4 : k < 4096 := Nat.lt_of_lt_of_le hk h.ok.len
  have H := Lib.hid h
  have Hx := Lib.hid hx
  have Hk := Lib.hid hk
  clear h hx hk
  go_enter Try.func34, Try.ntmps34
  go_wp2_with fail
  refine wp_region_G (onlyG (rows3 vS vO vW w.drew.heap.size)) (by kernel_rfl) ?_
  have H3 := Lib.hid (H.out.below (Below.refl _ w).drew)
  have Ho3 := Lib.hid (show Only F w w.drew from (Only.refl F w).drew)
  clear H
  generalize w.drew = W at *
  have hRg : ¬ rows3 vS vO vW W.heap.size g := by
    rintro (h | h | h | h)
    · exact H3.out.neS h rfl
    · exact H3.out.neO h rfl
    · exact H3.out.neW h rfl
    · have := H3.out.blk.lt; omega
  have hl0 := cell_laterR H3.out.blk hRg (i := 0) rfl
  have hl1 := cell_laterR H3.out.blk hRg (i := 1) rfl
  have hl2 := cell_laterR H3.out.blk hRg (i := 2) rfl
  have hl3 := cell_laterR H3.out.blk hRg (i := 3) rfl
  have hl4 := cell_laterR H3.out.blk hRg (i := 4) rfl
  obtain ⟨s0, hs0⟩ : ∃ s0, gs[k]? = some s0 := ⟨_, List.getElem?_eq_getElem (show k < gs.length by rw [H3.out.lG]; exact Hk.out)⟩
  obtain ⟨s1, hs1⟩ : ∃ s1, ss[k]? = some s1 := ⟨_, List.getElem?_eq_getElem (show k < ss.length by rw [H3.out.lS]; exact Hk.out)⟩
  have huG : (gs.map Slc.v)[k]? = some s0.v := by rw [List.getElem?_map, hs0]; rfl
  have huS : (ss.map Slc.v)[k]? = some s1.v := by rw [List.getElem?_map, hs1]; rfl
  have huA : (d.secs.map fun s => Value.int .i64 (s.age : Int))[k]? = some (.int .i64 (x.age : Int)) := by rw [List.getElem?_map, Hx.out]; rfl
  have huO : (d.secs.map fun s => Value.int .i64 (s.old : Int))[k]? = some (.int .i64 (x.old : Int)) := by rw [List.getElem?_map, Hx.out]; rfl
  have huW : (d.secs.map fun s => Value.bool s.wet)[k]? = some (.bool x.wet) := by rw [List.getElem?_map, Hx.out]; rfl
  obtain ⟨gG, hixG, oG, ltG, cellG, _⟩ := row_at Try.undSls Try.sizeSl H3.out.rG huG
  obtain ⟨gS, hixS, oS, _, cellS, fzS⟩ := row_at Try.undSls Try.sizeSl H3.out.rS huS
  obtain ⟨gA, hixA, oA, ltA, cellA, _⟩ := row_at Try.undIs Try.sizeI1 H3.out.rA huA
  obtain ⟨gO, hixO, oO, _, cellO, fzO⟩ := row_at Try.undIs Try.sizeI1 H3.out.rO huO
  obtain ⟨gW, hixW, oW, _, cellW, fzW⟩ := row_at Try.undBs Try.sizeB1 H3.out.rW huW
  have nGS : gG ≠ gS := fun e => H3.out.nGS gG oG (by rw [e]; exact oS)
  have nAO : gA ≠ gO := fun e => H3.out.nAO gA oA (by rw [e]; exact oO)
  have nGO : gG ≠ gO := RowA.ne H3.out.rG H3.out.rO (by decide) oG oO
  have nGW : gG ≠ gW := RowA.ne H3.out.rG H3.out.rW (by decide) oG oW
  have nAS : gA ≠ gS := RowA.ne H3.out.rA H3.out.rS (by decide) oA oS
  have nAW : gA ≠ gW := RowA.ne H3.out.rA H3.out.rW (by decide) oA oW
  have nOS : gO ≠ gS := RowA.ne H3.out.rO H3.out.rS (by decide) oO oS
  have nWS : gW ≠ gS := RowA.ne H3.out.rW H3.out.rS (by decide) oW oS
  have nWO : gW ≠ gO := RowA.ne H3.out.rW H3.out.rO (by decide) oW oO
  have hRG : ¬ rows3 vS vO vW W.heap.size gG := by
    rintro (h | h | h | h)
    · rw [oS] at h; exact nGS (Option.some.inj h).symm
    · rw [oO] at h; exact nGO (Option.some.inj h).symm
    · rw [oW] at h; exact nGW (Option.some.inj h).symm
    · omega
  have hRA : ¬ rows3 vS vO vW W.heap.size gA := by
    rintro (h | h | h | h)
    · rw [oS] at h; exact nAS (Option.some.inj h).symm
    · rw [oO] at h; exact nAO (Option.some.inj h).symm
    · rw [oW] at h; exact nAW (Option.some.inj h).symm
    · omega
  have hlG : ∀ y : Later (onlyG (rows3 vS vO vW W.heap.size)) W, y.to.cell? ⟨gG, k, none⟩ = some (.slice (some ⟨s0.b, 0, none⟩) 32 s0.c) := fun y =>
    (World.cell?_of_block (w := W) (w' := y.to) (a := ⟨gG, k, none⟩) ((show Only (rows3 vS vO vW W.heap.size) W y.to from y.grown).block gG ltG hRG)).trans cellG
  have hlA : ∀ y : Later (onlyG (rows3 vS vO vW W.heap.size)) W, y.to.cell? ⟨gA, k, none⟩ = some (.int .i64 (x.age : Int)) := fun y =>
    (World.cell?_of_block (w := W) (w' := y.to) (a := ⟨gA, k, none⟩) ((show Only (rows3 vS vO vW W.heap.size) W y.to from y.grown).block gA ltA hRA)).trans cellA
  have cellO3 : (W.setCell ⟨gS, k, none⟩ (.slice (some ⟨s0.b, 0, none⟩) 32 s0.c)).cell? ⟨gO, k, none⟩ = some (.int .i64 (x.old : Int)) := (cell_set_ne nOS).trans cellO
  have fzO3 : (W.setCell ⟨gS, k, none⟩ (.slice (some ⟨s0.b, 0, none⟩) 32 s0.c)).frozen? ⟨gO, k, none⟩ = false := (frozen_set_ne nOS).trans fzO
  have cellW3 : ((W.setCell ⟨gS, k, none⟩ (.slice (some ⟨s0.b, 0, none⟩) 32 s0.c)).setCell ⟨gO, k, none⟩ (.int .i64 (x.age : Int))).cell? ⟨gW, k, none⟩ = some (.bool x.wet) := (cell_set_ne nWO).trans ((cell_set_ne nWS).trans cellW)
  have fzW3 : ((W.setCell ⟨gS, k, none⟩ (.slice (some ⟨s0.b, 0, none⟩) 32 s0.c)).setCell ⟨gO, k, none⟩ (.int .i64 (x.age : Int))).frozen? ⟨gW, k, none⟩ = false := (frozen_set_ne nWO).trans ((frozen_set_ne nWS).trans fzW)
  have OS := Lib.hid oS
  have OO := Lib.hid oO
  have OW := Lib.hid oW
  have OG := Lib.hid oG
  have OA := Lib.hid oA
  have NS := Lib.hid (show gG ≠ gS ∧ gA ≠ gO ∧ gG ≠ gO ∧ gG ≠ gW ∧ gA ≠ gS ∧ gA ≠ gW ∧ gO ≠ gS ∧ gW ≠ gS ∧ gW ≠ gO from ⟨nGS, nAO, nGO, nGW, nAS, nAW, nOS, nWS, nWO⟩)
  have Hs0 := Lib.hid hs0
  clear huG huS huA huO huW oG oS oA oO oW nGS nAO nGO nGW nAS nAW nOS nWS nWO cellG cellA cellO fzO cellW fzW hRg hRG hRA hs0 hs1 ltG ltA
  refine segG (by kernel_rfl) (fun _ _ _ _ _ h => h) [0, 1, 2, 3, 4, 5, 6, 7, 8, 9] [_, _, _, _, _, _, _, _, _, _] 25 rfl rfl (by kernel_rfl) ?_
  repeat (go_big_quiet_step (fail))
  refine wpQuiet_nil ?_
  refine segG (by kernel_rfl) (fun _ _ _ _ _ h => h) [10, 11, 12, 13, 14, 15, 16, 17, 18, 19, 20, 21] [_, _, _, _, _, _, _, _, _, _, _, _] 13 rfl rfl (by kernel_rfl) ?_
  repeat (go_big_quiet_step (fail))
  refine wpQuiet_nil ?_
  refine segG (by kernel_rfl) (fun _ _ _ _ _ h => h) [22, 23, 24, 25, 26, 27, 28, 29] [_, _, _, _, _, _, _, _] 5 rfl rfl (by kernel_rfl) ?_
  repeat (go_big_quiet_step (fail))
  refine wpQuiet_nil ?_
  clear hl0 hl1 hl2 hl3 hl4 hlG hlA hixG hixA hixS
  refine oneG 30 4 rfl (by kernel_rfl) rfl ?_
  go_wp2
  refine ⟨Only.set (p := ⟨gS, k, none⟩) (.inl OS.out) _, ?_⟩
  refine segG (by kernel_rfl) (fun _ _ _ _ _ h => h) [31] [_] 3 rfl rfl (by kernel_rfl) ?_
  repeat (go_big_quiet_step (fail))
  refine wpQuiet_nil ?_
  refine oneG 32 2 rfl (by kernel_rfl) rfl ?_
  go_wp2
  refine ⟨Only.set (p := ⟨gO, k, none⟩) (.inr (.inl OO.out)) _, ?_⟩
  refine segG (by kernel_rfl) (fun _ _ _ _ _ h => h) [33] [_] 1 rfl rfl (by kernel_rfl) ?_
  repeat (go_big_quiet_step (fail))
  refine wpQuiet_nil ?_
  refine oneG 34 0 rfl (by kernel_rfl) rfl ?_
  go_wp2
  refine ⟨Only.set (p := ⟨gW, k, none⟩) (.inr (.inr (.inl OW.out))) _, ?_⟩
  refine wpAnyG_done (by kernel_rfl) ?_
  clear hixO hixW cellS fzS cellO3 fzO3 cellW3 fzW3
  go_wp2
  go_end0
  refine ⟨rfl, ?_⟩
  obtain ⟨nGS, nAO, nGO, nGW, nAS, nAW, nOS, nWS, nWO⟩ := NS.out
  obtain ⟨W5, hW5⟩ : ∃ W5, ((W.setCell ⟨gS, k, none⟩ (.slice (some ⟨s0.b, 0, none⟩) 32 s0.c)).setCell ⟨gO, k, none⟩ (.int .i64 (x.age : Int))).setCell ⟨gW, k, none⟩ (.bool false) = W5 := ⟨_, rfl⟩
  have hfar : ∀ j, j ≠ gS → j ≠ gO → j ≠ gW → W5.heap[j]? = W.heap[j]? := fun j h1 h2 h3 => by rw [← hW5]; exact far3 h1 h2 h3
  have hsz : W5.heap.size = W.heap.size := by rw [← hW5]; simp [World.setCell]
  have hh := H3.out.hG k s0 _ Hs0.out Hx.out
  have hS0 : Hold W5 s0 x.good := hh.keep (hfar s0.b (hh.neRow H3.out.rS OS.out (by decide)) (hh.neRow H3.out.rO OO.out (by decide)) (hh.neRow H3.out.rW OW.out (by decide)))
  have hfin : Dsk.Fine d.many (Dsk.settle x) := (H3.out.ok.secs _ (List.mem_of_getElem? Hx.out)).settle
  have rG' : RowA W5 40 vG ((gs.set k s0).map Slc.v) := by
    rw [set_same Hs0.out]
    exact H3.out.rG.keep fun j hj => by
      rw [OG.out] at hj
      obtain rfl := Option.some.inj hj
      exact hfar gG nGS nGO nGW
  have rS' : RowA W5 40 vS ((ss.set k s0).map Slc.v) := by
    rw [List.map_set, ← hW5]
    have h1 := H3.out.rS.setAt OS.out (i := k) (by rw [List.length_map, H3.out.lS]; exact Hk.out) (.slice (some ⟨s0.b, 0, none⟩) 32 s0.c)
    refine h1.keep fun j hj => ?_
    rw [OS.out] at hj
    obtain rfl := Option.some.inj hj
    rw [Below.heap_setCell _ ⟨gW, k, none⟩ _ _ (fun e => nWS e.symm), Below.heap_setCell _ ⟨gO, k, none⟩ _ _ (fun e => nOS e.symm)]
  have rA' : RowA W5 3 vA ((d.secs.set k (Dsk.settle x)).map fun s => .int .i64 (s.age : Int)) := by
    rw [List.map_set, set_same (by rw [List.getElem?_map, Hx.out]; rfl)]
    exact H3.out.rA.keep fun j hj => by
      rw [OA.out] at hj
      obtain rfl := Option.some.inj hj
      exact hfar gA nAS nAO nAW
  have rO' : RowA W5 3 vO ((d.secs.set k (Dsk.settle x)).map fun s => .int .i64 (s.old : Int)) := by
    rw [List.map_set, ← hW5]
    have h0 : RowA (W.setCell ⟨gS, k, none⟩ (.slice (some ⟨s0.b, 0, none⟩) 32 s0.c)) 3 vO (d.secs.map fun s => .int .i64 (s.old : Int)) := H3.out.rO.keep fun j hj => by
      rw [OO.out] at hj
      obtain rfl := Option.some.inj hj
      exact Below.heap_setCell _ ⟨gS, k, none⟩ _ _ nOS
    have h1 := h0.setAt OO.out (i := k) (by rw [List.length_map]; exact Hk.out) (.int .i64 (x.age : Int))
    refine h1.keep fun j hj => ?_
    rw [OO.out] at hj
    obtain rfl := Option.some.inj hj
    exact Below.heap_setCell _ ⟨gW, k, none⟩ _ _ (fun e => nWO e.symm)
  have rW' : RowA W5 4 vW ((d.secs.set k (Dsk.settle x)).map fun s => .bool s.wet) := by
    rw [List.map_set, ← hW5]
    have h0 : RowA ((W.setCell ⟨gS, k, none⟩ (.slice (some ⟨s0.b, 0, none⟩) 32 s0.c)).setCell ⟨gO, k, none⟩ (.int .i64 (x.age : Int))) 4 vW (d.secs.map fun s => .bool s.wet) := H3.out.rW.keep fun j hj => by
      rw [OW.out] at hj
      obtain rfl := Option.some.inj hj
      rw [Below.heap_setCell _ ⟨gO, k, none⟩ _ _ nWO, Below.heap_setCell _ ⟨gS, k, none⟩ _ _ nWS]
    exact h0.setAt OW.out (i := k) (by rw [List.length_map]; exact Hk.out) (.bool false)
  have hRR := H3.out.one (F' := F) (w' := W5) (x' := Dsk.settle x) Hk.out hfin s0 s0
    (fun j _ _ n2 _ n4 n5 => hfar j (fun e => n2 (by rw [e]; exact OS.out)) (fun e => n4 (by rw [e]; exact OO.out)) (fun e => n5 (by rw [e]; exact OW.out)))
    rG' rS' rA' rO' rW' hS0 hS0 (fun j hj => hj) (H3.out.fgs _ (List.mem_of_getElem? Hs0.out)) (H3.out.fgs _ (List.mem_of_getElem? Hs0.out)) (fun j hj => by rw [hsz]; exact H3.out.lt j hj)
  refine ⟨?_, ?_⟩
  · rw [hW5]
    exact ⟨vG, vS, vA, vO, vW, _, _, f, hRR⟩
  · refine Ho3.out.trans ?_
    exact ((Only.set (p := ⟨gS, k, none⟩) (H3.out.fS _ OS.out) _).trans (Only.set (p := ⟨gO, k, none⟩) (H3.out.fO _ OO.out) _)).trans (Only.set (p := ⟨gW, k, none⟩) (H3.out.fW _ OW.out) _)
end Go.Proofs.Ytampdfmakhdliaa
