/-
  The reference of layer 11: Same: its contract.
-/
import Derived.Test.YtnphmppngjfjfaaLzTz
import Derived.IntWalk
import Derived.Test.YtnphmppngjfjfaaReg3
import Derived.Lib.Strings
set_option maxRecDepth 100000
namespace Go.Proofs.Ytnphmppngjfjfaa
open Go.RowKit Go.Gar

theorem rdT_later {W : World} {A : Option Addr} {ts : List Tv} (h : RdT W W.heap.size A ts) {i : Nat} {t : Tv} (ht : ts[i]? = some t) : ∃ b o, A = some ⟨b, o, none⟩ ∧ (∀ x : Later grows W, x.to.cell? ⟨b, o + i * 3, none⟩ = some (.slice t.A t.l.length t.c)) ∧ (∀ x : Later grows W, x.to.cell? ⟨b, o + i * 3 + 1, none⟩ = some (.int .i64 t.n)) ∧ (∀ x : Later grows W, x.to.cell? ⟨b, o + i * 3 + 2, none⟩ = some (.int .i64 t.d)) := by
  obtain ⟨b, o, hA, hb, hc⟩ := h.at_ ht
  have key : ∀ j v, j < 3 → t.cells[j]? = some v → ∀ x : Later grows W, x.to.cell? ⟨b, o + i * 3 + j, none⟩ = some v := fun j v hj hv x => by
    have hx : Below W.heap.size W x.to := x.grown
    rw [show o + i * 3 + j = o + (3 * i + j) by omega]
    exact (hx.cell (p := ⟨b, o + (3 * i + j), none⟩) hb).trans (hc j v hj hv)
  exact ⟨b, o, hA, key 0 _ (by omega) rfl, key 1 _ (by omega) rfl, key 2 _ (by omega) rfl⟩
theorem take_step {α : Type} {xs ys : List α} {i : Nat} {x y : α} (h : xs.take i = ys.take i) (hx : xs[i]? = some x) (hy : ys[i]? = some y) (e : x = y) : xs.take (i + 1) = ys.take (i + 1) := by
  rw [List.take_add_one, List.take_add_one, h, hx, hy, e]
theorem get_tok {ts : List Tv} {i : Nat} {t : Tv} (h : ts[i]? = some t) : (ts.map Tv.tok)[i]? = some t.tok := by rw [List.getElem?_map, h]; rfl

set_option maxHeartbeats 4000000 in
theorem refEven_any (A B : Option Addr) (xs ys : List Tv) (n m c d : Nat) (w : World) (hn : n = xs.length) (hm : m = ys.length) (ra : RdT w w.heap.size A xs) (rb : RdT w w.heap.size B ys) (hl : n ≤ 1099511627776) (z : Bool) (hz : z = decide (xs.map Tv.tok = ys.map Tv.tok)) :
    Calls Try.prog 13 #[.slice A n c, .slice B m d] w fun e w' => e = .returned (.bool z) ∧ Below w.heap.size w w' := by
  have HN := Lib.hid hn
  have HM := Lib.hid hm
  have RA := Lib.hid ra
  have RB := Lib.hid rb
  have HZ := Lib.hid hz
  clear hn hm ra rb hz
  by_cases hnm : n = m
  · subst hnm
    go_enter Try.func13, Try.ntmps13
    go_wp2
    go_loopw [5] (fun v W => ∃ i : Nat, i ≤ n ∧ v = .int .i64 (i : Int) ∧ (xs.map Tv.tok).take i = (ys.map Tv.tok).take i ∧ Below w.heap.size w W) (fun v _ => n - (intOf v).toNat)
    case atStart => exact ⟨0, by omega, rfl, rfl, Below.refl _ _⟩
    case round =>
      obtain ⟨i, hi, rfl, htk, hb⟩ := hrel
      have HTk := Lib.hid htk
      have Hb := Lib.hid hb
      clear htk hb
      by_cases hlt : i < n
      · obtain ⟨s, hs⟩ : ∃ s, xs[i]? = some s := ⟨_, List.getElem?_eq_getElem (by rw [← HN.out]; exact hlt)⟩
        obtain ⟨t, ht⟩ : ∃ t, ys[i]? = some t := ⟨_, List.getElem?_eq_getElem (by rw [← HM.out]; exact hlt)⟩
        have HS := Lib.hid hs
        have HT := Lib.hid ht
        have Hdb : Hid (Below w.heap.size w wr.drew) := Lib.hid Hb.out.drew
        have raD : RdT wr.drew wr.drew.heap.size A xs := (RA.out.below Hdb.out).more Hdb.out.size
        have rbD : RdT wr.drew wr.drew.heap.size B ys := (RB.out.below Hdb.out).more Hdb.out.size
        obtain ⟨ga, oa, rfl, a0, a1, a2⟩ := rdT_later raD hs
        obtain ⟨gb, ob, rfl, b0, b1, b2⟩ := rdT_later rbD ht
        have s1 := string_later_rd (raD.lits s (List.mem_of_getElem? hs)).1 s.c
        have s2 := string_later_rd (rbD.lits t (List.mem_of_getElem? ht)).1 t.c
        obtain ⟨S1, hS1⟩ : ∃ S : ByteArray, (⟨s.l.toArray⟩ : ByteArray) = S := ⟨_, rfl⟩
        obtain ⟨S2, hS2⟩ : ∃ S : ByteArray, (⟨t.l.toArray⟩ : ByteArray) = S := ⟨_, rfl⟩
        obtain ⟨sl, hsl⟩ : ∃ sl, s.l.length = sl := ⟨_, rfl⟩
        obtain ⟨tl, htl⟩ : ∃ tl, t.l.length = tl := ⟨_, rfl⟩
        rw [hS1, hsl] at s1
        rw [hS2, htl] at s2
        rw [hsl] at a0
        rw [htl] at b0
        have HS1 := Lib.hid hS1
        have HS2 := Lib.hid hS2
        clear hs ht raD rbD hS1 hS2 hsl htl
        have fin : ∀ q : Bool, s.tok ≠ t.tok → q = false → q = z := fun q hne hq => by
          rw [hq, HZ.out, eq_comm, decide_eq_false_iff_not]
          intro e
          have h1 := get_tok HS.out
          rw [e, get_tok HT.out] at h1
          exact hne (Option.some.inj h1).symm
        have HFin := Lib.hid fin
        clear fin
        by_cases e1 : s.l = t.l
        · obtain rfl : S1 = S2 := by rw [← HS1.out, ← HS2.out, e1]
          by_cases e2 : s.n = t.n
          · by_cases e3 : s.d = t.d
            · have HNx : Hid ((xs.map Tv.tok).take (i + 1) = (ys.map Tv.tok).take (i + 1)) := Lib.hid (take_step HTk.out (get_tok HS.out) (get_tok HT.out) (by
                rcases s with ⟨_, _, _, _, _⟩
                rcases t with ⟨_, _, _, _, _⟩
                simp only at e1 e2 e3
                simp only [Tv.tok, e1, e2, e3]))
              rw [e2] at a1
              rw [e3] at a2
              clear e1 e2 e3
              go_wp2_with fail
              refine wp_region_G grows (by kernel_rfl) ?_
              generalize wr.drew = wq at *
              refine segG (by kernel_rfl) (fun _ _ _ _ _ h => h) [0, 1, 2, 3, 4, 5, 6, 7, 8, 9, 10, 11, 12] [_, _, _, _, _, _, _, _, _, _, _, _, _] 26 rfl rfl (by kernel_rfl) ?_
              repeat (go_big_quiet_step (fail))
              refine wpQuiet_nil ?_
              refine segG (by kernel_rfl) (fun _ _ _ _ _ h => h) [13, 14, 15, 16, 17, 18, 19, 20, 21, 22, 23, 24, 25] [_, _, _, _, _, _, _, _, _, _, _, _, _] 13 rfl rfl (by kernel_rfl) ?_
              repeat (go_big_quiet_step (fail))
              refine wpQuiet_nil ?_
              refine segG (by kernel_rfl) (fun _ _ _ _ _ h => h) [26, 27, 28, 29, 30, 31, 32, 33, 34, 35, 36, 37, 38] [_, _, _, _, _, _, _, _, _, _, _, _, _] 0 rfl rfl (by kernel_rfl) ?_
              repeat (go_big_quiet_step (fail))
              refine wpQuiet_nil ?_
              refine wpAnyG_done (by kernel_rfl) ?_
              clear s1 s2 a0 a1 a2 b0 b1 b2
              go_wp2
              exact ⟨⟨i + 1, by omega, by go_num, HNx.out, Hdb.out⟩, by simp [intOf]; omega⟩
            · have hd : (s.d != t.d) = true := by simp [e3]
              rw [e2] at a1
              have HF : Hid (false = z) := Lib.hid (HFin.out false (fun h => e3 (congrArg Lz.Tok.dist h)) rfl)
              clear e1 e2 e3
              go_wp2_with fail
              refine wp_region_G grows (by kernel_rfl) ?_
              generalize wr.drew = wq at *
              refine segG (by kernel_rfl) (fun _ _ _ _ _ h => h) [0, 1, 2, 3, 4, 5, 6, 7, 8, 9, 10, 11, 12] [_, _, _, _, _, _, _, _, _, _, _, _, _] 26 rfl rfl (by kernel_rfl) ?_
              repeat (go_big_quiet_step (fail))
              refine wpQuiet_nil ?_
              refine segG (by kernel_rfl) (fun _ _ _ _ _ h => h) [13, 14, 15, 16, 17, 18, 19, 20, 21, 22, 23, 24, 25] [_, _, _, _, _, _, _, _, _, _, _, _, _] 13 rfl rfl (by kernel_rfl) ?_
              repeat (go_big_quiet_step (fail))
              refine wpQuiet_nil ?_
              refine segG (by kernel_rfl) (fun _ _ _ _ _ h => h) [26, 27, 28, 29, 30, 31, 32, 33, 34, 35, 36, 37, 38] [_, _, _, _, _, _, _, _, _, _, _, _, _] 0 rfl rfl (by kernel_rfl) ?_
              repeat (go_big_quiet_step (fail))
              refine wpQuiet_nil ?_
              refine wpAnyG_done (by kernel_rfl) ?_
              clear s1 s2 a0 a1 a2 b0 b1 b2
              go_wp2
              go_ret
              exact ⟨by rw [← HF.out]; rfl, Hdb.out⟩
          · have hd : (s.n != t.n) = true := by simp [e2]
            have HF : Hid (false = z) := Lib.hid (HFin.out false (fun h => e2 (congrArg Lz.Tok.len h)) rfl)
            clear e1 e2
            go_wp2_with fail
            refine wp_region_G grows (by kernel_rfl) ?_
            generalize wr.drew = wq at *
            refine segG (by kernel_rfl) (fun _ _ _ _ _ h => h) [0, 1, 2, 3, 4, 5, 6, 7, 8, 9, 10, 11, 12] [_, _, _, _, _, _, _, _, _, _, _, _, _] 26 rfl rfl (by kernel_rfl) ?_
            repeat (go_big_quiet_step (fail))
            refine wpQuiet_nil ?_
            refine segG (by kernel_rfl) (fun _ _ _ _ _ h => h) [13, 14, 15, 16, 17, 18, 19, 20, 21, 22, 23, 24, 25] [_, _, _, _, _, _, _, _, _, _, _, _, _] 13 rfl rfl (by kernel_rfl) ?_
            repeat (go_big_quiet_step (fail))
            refine wpQuiet_nil ?_
            refine segG (by kernel_rfl) (fun _ _ _ _ _ h => h) [26, 27, 28, 29, 30, 31, 32, 33, 34, 35, 36, 37, 38] [_, _, _, _, _, _, _, _, _, _, _, _, _] 0 rfl rfl (by kernel_rfl) ?_
            repeat (go_big_quiet_step (fail))
            refine wpQuiet_nil ?_
            refine wpAnyG_done (by kernel_rfl) ?_
            clear s1 s2 a0 a1 a2 b0 b1 b2
            go_wp2
            go_ret
            exact ⟨by rw [← HF.out]; rfl, Hdb.out⟩
        · have hne : (S1.toList == S2.toList) = false := by
            rw [← HS1.out, ← HS2.out, Lib.toList_data, Lib.toList_data]
            simpa using e1
          have hne2 : (S1.toList != S2.toList) = true := by rw [bne, hne]; rfl
          have HF : Hid (false = z) := Lib.hid (HFin.out false (fun h => e1 (congrArg Lz.Tok.lit h)) rfl)
          clear e1
          go_wp2_with fail
          refine wp_region_G grows (by kernel_rfl) ?_
          generalize wr.drew = wq at *
          refine segG (by kernel_rfl) (fun _ _ _ _ _ h => h) [0, 1, 2, 3, 4, 5, 6, 7, 8, 9, 10, 11, 12] [_, _, _, _, _, _, _, _, _, _, _, _, _] 26 rfl rfl (by kernel_rfl) ?_
          repeat (go_big_quiet_step (fail))
          refine wpQuiet_nil ?_
          refine segG (by kernel_rfl) (fun _ _ _ _ _ h => h) [13, 14, 15, 16, 17, 18, 19, 20, 21, 22, 23, 24, 25] [_, _, _, _, _, _, _, _, _, _, _, _, _] 13 rfl rfl (by kernel_rfl) ?_
          repeat (go_big_quiet_step (fail))
          refine wpQuiet_nil ?_
          refine segG (by kernel_rfl) (fun _ _ _ _ _ h => h) [26, 27, 28, 29, 30, 31, 32, 33, 34, 35, 36, 37, 38] [_, _, _, _, _, _, _, _, _, _, _, _, _] 0 rfl rfl (by kernel_rfl) ?_
          repeat (go_big_quiet_step (fail))
          refine wpQuiet_nil ?_
          refine wpAnyG_done (by kernel_rfl) ?_
          clear s1 s2 a0 a1 a2 b0 b1 b2
          go_wp2
          go_ret
          exact ⟨by rw [← HF.out]; rfl, Hdb.out⟩
      · obtain rfl : i = n := by omega
        have hzt : true = z := by
          rw [HZ.out, eq_comm, decide_eq_true_iff]
          have h := HTk.out
          rw [List.take_of_length_le (by rw [List.length_map, ← HN.out]; exact Nat.le_refl _), List.take_of_length_le (by rw [List.length_map, ← HM.out]; exact Nat.le_refl _)] at h
          exact h
        have HZt := Lib.hid hzt
        clear hzt
        go_wp2
        go_ret
        exact ⟨by rw [← HZt.out]; rfl, Hb.out⟩
  · have hq : ((n : Int) != (m : Int)) = true := by simp; omega
    have hzf : z = false := by
      rw [HZ.out, decide_eq_false_iff_not]
      intro e
      have := congrArg List.length e
      rw [List.length_map, List.length_map, ← HN.out, ← HM.out] at this
      exact hnm this
    subst hzf
    go_enter Try.func13, Try.ntmps13
    go_wp2
    go_ret
    exact ⟨rfl, Below.refl _ _⟩
end Go.Proofs.Ytnphmppngjfjfaa
