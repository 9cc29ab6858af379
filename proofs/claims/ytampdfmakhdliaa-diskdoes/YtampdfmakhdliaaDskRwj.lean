/-
  Layer 14: the reference's disk: Write.
-/
import Derived.Test.YtampdfmakhdliaaDskRdj
set_option maxRecDepth 100000
namespace Go.Proofs.Ytampdfmakhdliaa
open Go.RowKit Go.Gar
open Go.Gar.Dsk (Dsk Sec)

set_option maxHeartbeats 4000000 in
set_option maxRecDepth 100000 in
theorem refWrite14_any {w : World} {F : Nat → Prop} {g : Nat} {d : Dsk} (h : RefD w F g d) (i : Int) (A : Option Addr) (b : List UInt8) (n c : Nat) (hn : n = b.length) (hr : Rd w w.heap.size A b) (hA : ∀ p, A = some p → ¬ F p.block) (hl : n ≤ 1000000) (hm : d.many < 4611686018427387904) :
    Calls Try.prog 19 #[.pointer (some ⟨g, 0, none⟩), .int .i64 i, .slice A n c] w fun e w' => e = .returned (.int .i64 ((Dsk.writeE d i b : Nat) : Int)) ∧ ∃ F', RefD w' F' g (Dsk.write d i b) ∧ (∀ k, F' k → F k ∨ w.heap.size ≤ k) ∧ Only F w w' := by
  have hD := h
  obtain ⟨vG, vS, vA, vO, vW, gs, ss, f, h⟩ := h
  have hq := h.blk.cell 0
  simp only [List.getElem?_cons_zero] at hq
  obtain ⟨m, hmm⟩ : ∃ m, m = d.secs.length := ⟨_, rfl⟩
  obtain ⟨AG, cG, eG, _⟩ := h.rG.slice
  rw [List.length_map, h.lG, ← hmm] at eG
  rw [eG] at hq
  have hno : ∀ E : Nat, Dsk.writeE d i b = E → Dsk.write d i b = d → Dsk.writeE d i b = E ∧ ∃ F', RefD w F' g (Dsk.write d i b) ∧ (∀ k, F' k → F k ∨ w.heap.size ≤ k) ∧ Only F w w := fun E h1 h2 => ⟨h1, F, by rw [h2]; exact hD, fun k hk => .inl hk, Only.refl _ _⟩
  have out : (Dsk.there d i = false ∨ n ≠ 32) → Dsk.writeE d i b = 1 ∧ Dsk.write d i b = d := fun hc => by
    have hc2 : (Dsk.there d i && decide (b.length = 32)) = false := by
      rw [← hn]
      rcases hc with h | h <;> simp [h]
    unfold Dsk.writeE Dsk.write
    rw [hc2]
    exact ⟨rfl, rfl⟩
  rcases there_cases d i with ⟨h0, ht⟩ | ⟨h0, h1, ht⟩ | ⟨k, rfl, hk, ht⟩
  · obtain ⟨o1, o2⟩ := out (.inl ht)
    obtain ⟨p1, p2⟩ := hno 1 o1 o2
    rw [p1]
    have hd : decide (i < 0) = true := by simpa using h0
    have P2 := Lib.hid p2
    clear h hD hno out ht eG h0 hmm o1 o2 p1 p2 hn hr hA hl hm
    go_enter Try.func19, Try.ntmps19
    go_wp2
    go_ret
    exact ⟨rfl, P2.out⟩
  · obtain ⟨o1, o2⟩ := out (.inl ht)
    obtain ⟨p1, p2⟩ := hno 1 o1 o2
    rw [p1]
    rw [← hmm] at h1
    have hd : decide (i < 0) = false := by simp; omega
    have hd1 : decide ((m : Int) ≤ i) = true := by simpa using h1
    have P2 := Lib.hid p2
    clear h hD hno out ht eG h0 h1 hmm o1 o2 p1 p2 hn hr hA hl hm
    go_enter Try.func19, Try.ntmps19
    go_wp2
    go_ret
    exact ⟨rfl, P2.out⟩
  · have hkm : k < m := by omega
    by_cases h32 : n = 32
    · have hb32 : b.length = 32 := by rw [← hn]; exact h32
      clear hno out
      subst h32
      have hgo := refGoes_any hD
      have Hgo := Lib.hid hgo
      have Hr := Lib.hid hr
      have HA := Lib.hid hA
      have Hk := Lib.hid hk
      have Ht := Lib.hid ht
      have Hb32 := Lib.hid hb32
      have Hm := Lib.hid hm
      have HmK := Lib.hid hmm
      have Hlt := Lib.hid h.lt
      obtain ⟨E, hE⟩ : ∃ E, E = Dsk.writeE d (k : Int) b := ⟨_, rfl⟩
      obtain ⟨D, hDD⟩ : ∃ D, D = Dsk.write d (k : Int) b := ⟨_, rfl⟩
      rw [← hE, ← hDD]
      have HE := Lib.hid hE
      have HD := Lib.hid hDD
      clear h hD hgo eG hr hA hk ht hb32 hn hl hm hmm hE hDD
      go_enter Try.func19, Try.ntmps19
      go_wp2_with fail
      refine Hgo.out.mono ?_
      rintro e w1 ⟨rfl, hR1, ho1⟩
      obtain ⟨M, hM⟩ : ∃ M, M = d.many := ⟨_, rfl⟩
      have hM2 : M < 4611686018427387904 := by rw [hM]; exact Hm.out
      have HM := Lib.hid hM
      have hc2 : (Dsk.there d (k : Int) && decide (b.length = 32)) = true := by rw [Ht.out, Hb32.out]; rfl
      cases hg : Dsk.goes d.fuse with
      | none =>
        have e1 : Dsk.writeE d (k : Int) b = 10 := by unfold Dsk.writeE; rw [hc2, hg]; rfl
        have e2 : Dsk.write d (k : Int) b = d := by unfold Dsk.write; rw [hc2, hg]; rfl
        rw [hg] at hR1
        have HE0 := Lib.hid (HE.out.trans e1)
        have HD0 := Lib.hid (HD.out.trans e2)
        have HR1 := Lib.hid (show RefD w1 F g d from hR1)
        have Ho1 := Lib.hid ho1
        clear hR1 ho1 e1 e2 hg hc2 hM hM2 Hgo
        go_wp2
        go_ret
        exact ⟨by rw [HE0.out]; rfl, F, by rw [HD0.out]; exact HR1.out, fun j hj => .inl hj, Ho1.out⟩
      | some f' =>
        have e1 : Dsk.writeE d (k : Int) b = 0 := by unfold Dsk.writeE; rw [hc2, hg]; rfl
        have e2 : Dsk.write d (k : Int) b = ⟨d.secs.set k (Dsk.put (Dsk.at_ d (k : Int)) b (M + 1)), f', M + 1⟩ := by unfold Dsk.write; rw [hc2, hg, hM]; rfl
        rw [hg] at hR1
        have HE0 := Lib.hid (HE.out.trans e1)
        have HD0 := Lib.hid (HD.out.trans e2)
        obtain ⟨vG, vS, vA, vO, vW, gs, ss, f, h1⟩ := (show RefD w1 F g { d with fuse := f' } from hR1)
        have h2 := h1.cells (i := 6) (u := .int .i64 ((M : Int) + 1)) (f' := f) (d' := ⟨d.secs, f', M + 1⟩) (by rw [hM]; rfl) h1.fuse rfl ⟨h1.ok.len, fun s hs => (h1.ok.secs s hs).mono (by rw [hM]; exact Nat.le_succ _)⟩
        have hq6 := h1.blk.cell 6
        simp only [List.getElem?_cons_zero, List.getElem?_cons_succ] at hq6
        rw [← hM] at hq6
        have hfz6 := h1.blk.frozen 6
        have Ho2 := Lib.hid (ho1.trans (Only.set (p := ⟨g, 6, none⟩) h1.fg (.int .i64 ((M : Int) + 1))))
        have H2 := Lib.hid h2
        have Hat := Lib.hid (Dsk.at_get Ht.out)
        clear hR1 ho1 e1 e2 hg hc2 hM h1 h2 Hgo
        go_wp2_with fail
        refine wp_region_G (onlyG (rows3 vG vA vW (w1.setCell ⟨g, 6, none⟩ (.int .i64 ((M : Int) + 1))).drew.heap.size)) (by kernel_rfl) ?_
        generalize w1.setCell ⟨g, 6, none⟩ (.int .i64 ((M : Int) + 1)) = w2 at *
        have H3 := Lib.hid (H2.out.below (Below.refl _ w2).drew)
        have Ho3 := Lib.hid Ho2.out.drew
        clear H2 Ho2
        generalize w2.drew = W at *
        have hRg : ¬ rows3 vG vA vW W.heap.size g := by
          rintro (h | h | h | h)
          · exact H3.out.neG h rfl
          · exact H3.out.neA h rfl
          · exact H3.out.neW h rfl
          · have := H3.out.blk.lt; omega
        have hl0 := cell_laterR H3.out.blk hRg (i := 0) rfl
        have hl2 := cell_laterR H3.out.blk hRg (i := 2) rfl
        have hl4 := cell_laterR H3.out.blk hRg (i := 4) rfl
        have hl6 := cell_laterR H3.out.blk hRg (i := 6) rfl
        refine segG (by kernel_rfl) (fun _ _ _ _ _ h => h) [0, 1, 2, 3, 4, 5, 6, 7, 8, 9] [_, _, _, _, _, _, _, _, _, _] 18 rfl rfl (by kernel_rfl) ?_
        repeat (go_big_quiet_step (fail))
        refine wpQuiet_nil ?_
        refine segG (by kernel_rfl) (fun _ _ _ _ _ h => h) [10, 11, 12, 13, 14, 16, 18, 19, 20, 21] [_, _, _, _, _, _, _, _, _, _] 8 rfl rfl (by kernel_rfl) ?_
        repeat (go_big_quiet_step (fail))
        refine wpQuiet_nil ?_
        clear hl0 hl2 hl4 hl6 hRg
        have hr1 := Ho3.out.rd Hr.out (Nat.le_refl _) HA.out
        have hbl := below_alloc W (.cells #[] 5)
        obtain ⟨v', W2, e1, ho', hb', _⟩ := app_rd (P := Try.prog) (w := W.alloc (.cells #[] 5)) (B := w.heap.size) 40 40 Try.und22 Try.info5 (own_made W W.heap.size 5 (Nat.le_refl _)) hbl.size c (hr1.alloc Ho3.out.size _) (by rw [Hb32.out]; simp)
        rw [Hb32.out] at e1
        rw [List.nil_append] at ho'
        obtain ⟨g9, cap, rest, e9, hg9, hcap, hB9⟩ := ho'.blk (by rw [Hb32.out]; omega)
        rw [Hb32.out] at e9 hcap
        subst e9
        have hbW := hbl.trans hb'
        have H4 := Lib.hid (H3.out.below hbW)
        have Hg9 := Lib.hid hg9
        have HS9 := Lib.hid (show Hold W2 ⟨g9, cap⟩ b from ⟨hcap, Hb32.out, rest, hB9⟩)
        have Ho4 := Lib.hid (Ho3.out.trans (Only.of_below F hbW))
        have Hbr := Lib.hid (show Only (rows3 vG vA vW W.heap.size) (W.alloc (.cells #[] 5)) W2 from only_of_low hb' (fun j hj => .inr (.inr (.inr hj))))
        have Hbl := Lib.hid (show Only (rows3 vG vA vW W.heap.size) W (W.alloc (.cells #[] 5)) from Only.of_below _ hbl)
        have HE1 := Lib.hid e1
        have HltW := Lib.hid H3.out.lt
        have HwW := Lib.hid Ho3.out.size
        clear hr1 hbl e1 ho' hb' hg9 hcap hB9 hbW H3 Ho3
        refine oneG 15 7 rfl (by kernel_rfl) rfl ?_
        go_wp2
        refine ⟨Hbl.out, ?_⟩
        refine oneG 17 6 rfl (by kernel_rfl) rfl ?_
        refine wpList_append_w (.tmp 48) (.tmp 49) _ rfl rfl rfl HE1.out (by kernel_rfl) ?_
        simp only [Act.put, List.setIfInBounds_toArray, List.set]
        go_wp2
        refine ⟨Hbr.out, ?_⟩
        clear Hbl Hbr HE1
        obtain ⟨s0, hs0⟩ : ∃ s0, gs[k]? = some s0 := ⟨_, List.getElem?_eq_getElem (show k < gs.length by rw [H4.out.lG]; exact Hk.out)⟩
        have huG : (gs.map Slc.v)[k]? = some s0.v := by rw [List.getElem?_map, hs0]; rfl
        have huA : (d.secs.map fun s => Value.int .i64 (s.age : Int))[k]? = some (.int .i64 ((Dsk.at_ d (k : Int)).age : Int)) := by rw [List.getElem?_map, show d.secs[k]? = some (Dsk.at_ d (k : Int)) from Hat.out]; rfl
        have huW : (d.secs.map fun s => Value.bool s.wet)[k]? = some (.bool (Dsk.at_ d (k : Int)).wet) := by rw [List.getElem?_map, show d.secs[k]? = some (Dsk.at_ d (k : Int)) from Hat.out]; rfl
        obtain ⟨gG, hixG, oG, _, cellG, fzG⟩ := row_at Try.undSls Try.sizeSl H4.out.rG huG
        obtain ⟨gA, hixA, oA, _, cellA, fzA⟩ := row_at Try.undIs Try.sizeI1 H4.out.rA huA
        obtain ⟨gW, hixW, oW, _, cellW, fzW⟩ := row_at Try.undBs Try.sizeB1 H4.out.rW huW
        have nAG : gA ≠ gG := RowA.ne H4.out.rA H4.out.rG (by decide) oA oG
        have nWG : gW ≠ gG := RowA.ne H4.out.rW H4.out.rG (by decide) oW oG
        have nWA : gW ≠ gA := RowA.ne H4.out.rW H4.out.rA (by decide) oW oA
        have cellA3 : (W2.setCell ⟨gG, k, none⟩ (.slice (some ⟨g9, 0, none⟩) 32 cap)).cell? ⟨gA, k, none⟩ = some (.int .i64 ((Dsk.at_ d (k : Int)).age : Int)) := (cell_set_ne nAG).trans cellA
        have fzA3 : (W2.setCell ⟨gG, k, none⟩ (.slice (some ⟨g9, 0, none⟩) 32 cap)).frozen? ⟨gA, k, none⟩ = false := (frozen_set_ne nAG).trans fzA
        have cellW3 : ((W2.setCell ⟨gG, k, none⟩ (.slice (some ⟨g9, 0, none⟩) 32 cap)).setCell ⟨gA, k, none⟩ (.int .i64 ((M : Int) + 1))).cell? ⟨gW, k, none⟩ = some (.bool (Dsk.at_ d (k : Int)).wet) := (cell_set_ne nWA).trans ((cell_set_ne nWG).trans cellW)
        have fzW3 : ((W2.setCell ⟨gG, k, none⟩ (.slice (some ⟨g9, 0, none⟩) 32 cap)).setCell ⟨gA, k, none⟩ (.int .i64 ((M : Int) + 1))).frozen? ⟨gW, k, none⟩ = false := (frozen_set_ne nWA).trans ((frozen_set_ne nWG).trans fzW)
        have OG := Lib.hid oG
        have OA := Lib.hid oA
        have OW := Lib.hid oW
        have NAG := Lib.hid nAG
        have NWG := Lib.hid nWG
        have NWA := Lib.hid nWA
        clear huG huA huW oG oA oW nAG nWG nWA cellA fzA cellW fzW hs0
        refine segG (by kernel_rfl) (fun _ _ _ _ _ h => h) [22] [_] 5 rfl rfl (by kernel_rfl) ?_
        repeat (go_big_quiet_step (fail))
        refine wpQuiet_nil ?_
        refine oneG 23 4 rfl (by kernel_rfl) rfl ?_
        go_wp2
        refine ⟨Only.set (p := ⟨gG, k, none⟩) (.inl OG.out) _, ?_⟩
        refine segG (by kernel_rfl) (fun _ _ _ _ _ h => h) [24] [_] 3 rfl rfl (by kernel_rfl) ?_
        repeat (go_big_quiet_step (fail))
        refine wpQuiet_nil ?_
        refine oneG 25 2 rfl (by kernel_rfl) rfl ?_
        go_wp2
        refine ⟨Only.set (p := ⟨gA, k, none⟩) (.inr (.inl OA.out)) _, ?_⟩
        refine segG (by kernel_rfl) (fun _ _ _ _ _ h => h) [26] [_] 1 rfl rfl (by kernel_rfl) ?_
        repeat (go_big_quiet_step (fail))
        refine wpQuiet_nil ?_
        refine oneG 27 0 rfl (by kernel_rfl) rfl ?_
        go_wp2
        refine ⟨Only.set (p := ⟨gW, k, none⟩) (.inr (.inr (.inl OW.out))) _, ?_⟩
        refine wpAnyG_done (by kernel_rfl) ?_
        clear hixG hixA hixW cellG fzG cellA3 fzA3 cellW3 fzW3
        go_wp2
        go_ret
        have hgl : k < gs.length := by rw [H4.out.lG]; exact Hk.out
        obtain ⟨s1, hs1⟩ : ∃ s1, ss[k]? = some s1 := ⟨_, List.getElem?_eq_getElem (show k < ss.length by rw [H4.out.lS]; exact Hk.out)⟩
        have hg9 := Hg9.out
        have hlow : ∀ j, F j → j < g9 := fun j hj => Nat.lt_of_lt_of_le (HltW.out j hj) hg9
        have hx : d.secs[k]? = some (Dsk.at_ d (k : Int)) := Hat.out
        have hfin : Dsk.Fine (M + 1) (Dsk.put (Dsk.at_ d (k : Int)) b (M + 1)) := by
          have hf := H4.out.ok.secs _ (List.mem_of_getElem? hx)
          exact ⟨Hb32.out, hf.sure, Nat.le_refl _, hf.old, fun e => by cases e⟩
        obtain ⟨W5, hW5⟩ : ∃ W5, ((W2.setCell ⟨gG, k, none⟩ (.slice (some ⟨g9, 0, none⟩) 32 cap)).setCell ⟨gA, k, none⟩ (.int .i64 ((M : Int) + 1))).setCell ⟨gW, k, none⟩ (.bool true) = W5 := ⟨_, rfl⟩
        have hfar : ∀ j, j ≠ gG → j ≠ gA → j ≠ gW → W5.heap[j]? = W2.heap[j]? := fun j h1 h2 h3 => by rw [← hW5]; exact far3 h1 h2 h3
        have hsz : W5.heap.size = W2.heap.size := by rw [← hW5]; simp [World.setCell]
        have hS9 : Hold W5 ⟨g9, cap⟩ b := HS9.out.keep (hfar g9 (fun e => by have := hlow _ (H4.out.fG _ OG.out); omega) (fun e => by have := hlow _ (H4.out.fA _ OA.out); omega) (fun e => by have := hlow _ (H4.out.fW _ OW.out); omega))
        have rG' : RowA W5 40 vG ((gs.set k ⟨g9, cap⟩).map Slc.v) := by
          rw [List.map_set, ← hW5]
          have h1 := H4.out.rG.setAt OG.out (i := k) (by rw [List.length_map]; exact hgl) (.slice (some ⟨g9, 0, none⟩) 32 cap)
          refine h1.keep fun j hj => ?_
          rw [OG.out] at hj
          obtain rfl := Option.some.inj hj
          rw [Below.heap_setCell _ ⟨gW, k, none⟩ _ _ (fun e => NWG.out e.symm), Below.heap_setCell _ ⟨gA, k, none⟩ _ _ (fun e => NAG.out e.symm)]
        have rS' : RowA W5 40 vS ((ss.set k s1).map Slc.v) := by
          rw [set_same hs1]
          exact H4.out.rS.keep fun j hj => hfar j (fun e => by subst e; exact H4.out.nGS _ OG.out hj) (RowA.ne H4.out.rS H4.out.rA (by decide) hj OA.out) (RowA.ne H4.out.rS H4.out.rW (by decide) hj OW.out)
        have rA' : RowA W5 3 vA ((d.secs.set k (Dsk.put (Dsk.at_ d (k : Int)) b (M + 1))).map fun s => .int .i64 (s.age : Int)) := by
          rw [List.map_set, ← hW5]
          have h0 : RowA (W2.setCell ⟨gG, k, none⟩ (.slice (some ⟨g9, 0, none⟩) 32 cap)) 3 vA (d.secs.map fun s => .int .i64 (s.age : Int)) := H4.out.rA.keep fun j hj => by
            rw [OA.out] at hj
            obtain rfl := Option.some.inj hj
            exact Below.heap_setCell _ ⟨gG, k, none⟩ _ _ NAG.out
          have h1 := h0.setAt OA.out (i := k) (by rw [List.length_map]; exact Hk.out) (.int .i64 ((M : Int) + 1))
          refine h1.keep fun j hj => ?_
          rw [OA.out] at hj
          obtain rfl := Option.some.inj hj
          exact Below.heap_setCell _ ⟨gW, k, none⟩ _ _ (fun e => NWA.out e.symm)
        have rO' : RowA W5 3 vO ((d.secs.set k (Dsk.put (Dsk.at_ d (k : Int)) b (M + 1))).map fun s => .int .i64 (s.old : Int)) := by
          rw [List.map_set, set_same (by rw [List.getElem?_map, hx]; rfl)]
          exact H4.out.rO.keep fun j hj => hfar j (RowA.ne H4.out.rO H4.out.rG (by decide) hj OG.out) (fun e => by subst e; exact H4.out.nAO _ OA.out hj) (RowA.ne H4.out.rO H4.out.rW (by decide) hj OW.out)
        have rW' : RowA W5 4 vW ((d.secs.set k (Dsk.put (Dsk.at_ d (k : Int)) b (M + 1))).map fun s => .bool s.wet) := by
          rw [List.map_set, ← hW5]
          have h0 : RowA ((W2.setCell ⟨gG, k, none⟩ (.slice (some ⟨g9, 0, none⟩) 32 cap)).setCell ⟨gA, k, none⟩ (.int .i64 ((M : Int) + 1))) 4 vW (d.secs.map fun s => .bool s.wet) := H4.out.rW.keep fun j hj => by
            rw [OW.out] at hj
            obtain rfl := Option.some.inj hj
            rw [Below.heap_setCell _ ⟨gA, k, none⟩ _ _ NWA.out, Below.heap_setCell _ ⟨gG, k, none⟩ _ _ NWG.out]
          exact h0.setAt OW.out (i := k) (by rw [List.length_map]; exact Hk.out) (.bool true)
        have hS1 : Hold W5 s1 (Dsk.at_ d (k : Int)).sure := by
          have hh := H4.out.hS k s1 _ hs1 hx
          have hne : ∀ {j : Nat} {t : TypeId} {v : Value} {vs : List Value}, RowA W2 t v vs → v.ownBlock = some j → 5 ≠ t → s1.b ≠ j := fun {j t v vs} hr hj ht => by
            rcases hr with ⟨rfl, _⟩ | ⟨g', c', rest, rfl, _, hB⟩
            · simp [Value.ownBlock] at hj
            · obtain rfl : g' = j := by simpa [Value.ownBlock] using hj
              exact hh.ne hB ht
          exact hh.keep (hfar s1.b (hne H4.out.rG OG.out (by decide)) (hne H4.out.rA OA.out (by decide)) (hne H4.out.rW OW.out (by decide)))
        have hRR := H4.out.one (F' := fun j => F j ∨ j = g9) (w' := W5) (x' := Dsk.put (Dsk.at_ d (k : Int)) b (M + 1)) Hk.out hfin ⟨g9, cap⟩ s1
          (fun j _ n1 _ n3 _ n5 => hfar j (fun e => n1 (by rw [e]; exact OG.out)) (fun e => n3 (by rw [e]; exact OA.out)) (fun e => n5 (by rw [e]; exact OW.out)))
          rG' rS' rA' rO' rW' hS9 hS1 (fun j hj => .inl hj) (.inr rfl) (.inl (H4.out.fss _ (List.mem_of_getElem? hs1))) (fun j hj => by
            rw [hsz]
            rcases hj with hj | rfl
            · exact H4.out.lt j hj
            · obtain ⟨_, _, rest, hB⟩ := HS9.out; exact hB.lt)
        refine ⟨by rw [HE0.out]; rfl, fun j => F j ∨ j = g9, ?_, fun j hj => ?_, ?_⟩
        · rw [HD0.out, hW5]
          exact ⟨vG, vS, vA, vO, vW, _, _, f, hRR⟩
        · rcases hj with hj | rfl
          · exact .inl hj
          · exact .inr (Nat.le_trans HwW.out hg9)
        · refine Ho4.out.trans ?_
          exact ((Only.set (p := ⟨gG, k, none⟩) (H4.out.fG _ OG.out) _).trans (Only.set (p := ⟨gA, k, none⟩) (H4.out.fA _ OA.out) _)).trans (Only.set (p := ⟨gW, k, none⟩) (H4.out.fW _ OW.out) _)
    · obtain ⟨o1, o2⟩ := out (.inr h32)
      obtain ⟨p1, p2⟩ := hno 1 o1 o2
      rw [p1]
      have hne : ((n : Int) != 32) = true := by simp; omega
      have P2 := Lib.hid p2
      clear h hD hno out ht eG hk hmm o1 o2 p1 p2 hn hr hA hl hm
      go_enter Try.func19, Try.ntmps19
      go_wp2
      go_ret
      exact ⟨rfl, P2.out⟩
end Go.Proofs.Ytampdfmakhdliaa
