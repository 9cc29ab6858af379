/-
  The reference of layer 11: Tokens: its contract.
-/
import Derived.Test.YtjapohddfelgkaaPackJ05
import Derived.Laws.Tables
import Derived.Deep.Cut
import Derived.Deep.CutRange
set_option maxRecDepth 100000
namespace Go.Proofs.Ytjapohddfelgkaa
open Go.RowKit Go.Gar

theorem Lz.put_snoc_map (init : List Tv) (t : Tv) (c : UInt8) : Lz.put ((init ++ [t]).map Tv.tok) c = if t.tok.len = 0 ∧ t.tok.lit.length < 128 then init.map Tv.tok ++ [⟨t.tok.lit ++ [c], t.tok.len, t.tok.dist⟩] else init.map Tv.tok ++ [t.tok] ++ [⟨[c], 0, 0⟩] := by
  rw [List.map_append]
  exact Lz.put_snoc _ _ _
theorem refSame_at (A : Option Addr) (b : List UInt8) (n c i k : Nat) (iz : Int) (hiz : iz = (i : Int)) (w : World) (hn : n = b.length) (hr : Rd w w.heap.size A b) (hik : i < k) (hk : k < n) (hl : n ≤ 1099511627776) (r : Nat) (hrr : r = Lz.same b i k) :
    Calls Try.prog 27 #[.slice A n c, .int .i64 iz, .int .i64 (k : Int)] w fun e w' => e = .returned (.int .i64 (r : Int)) ∧ Below w.heap.size w w' := by
  subst hiz
  exact refSame_any A b n c i k w hn hr hik hk hl r hrr
set_option maxHeartbeats 4000000 in
theorem refTokens_any (A : Option Addr) (b : List UInt8) (n c : Nat) (w : World) (hn : n = b.length) (hr : Rd w w.heap.size A b) (hl : n ≤ 100000) :
    Calls Try.prog 16 #[.slice A n c] w fun e w' => ∃ v tvs, e = .returned v ∧ OwnT w' w.heap.size 41 5 v tvs ∧ tvs.map Tv.tok = Lz.tokens b ∧ Below w.heap.size w w' := by
  have hO0 := ownT_made w w.heap.size 41 5 (Nat.le_refl _)
  have hb0 := below_alloc w (.cells #[] 41)
  have HO0 := Lib.hid hO0
  have Hb0 := Lib.hid hb0
  have HN := Lib.hid hn
  have HR := Lib.hid hr
  clear hO0 hb0 hn hr
  go_enter Try.func16, Try.ntmps16
  go_wp2
  go_loopw [3, 4] (fun v av W => ∃ (a : Nat) (ts : List Tv), a ≤ n ∧ av = .int .i64 (a : Int) ∧ OwnT W w.heap.size 41 5 v ts ∧ Lz.rest b a (ts.map Tv.tok) = Lz.tokens b ∧ ts.length ≤ a ∧ Below w.heap.size w W) (fun _ av _ => n - (intOf av).toNat)
  case atStart => exact ⟨0, [], by omega, rfl, HO0.out, Lz.rest_start b, Nat.le_refl _, Hb0.out⟩
  case round =>
    obtain ⟨a, ts, ha, rfl, hO, hx, hla, hb⟩ := hrel
    clear HO0 Hb0
    have Hx := Lib.hid hx
    have HO := Lib.hid hO
    have Hb := Lib.hid hb
    clear hx hO hb
    by_cases hlt : a < n
    · have halen : a < b.length := by rw [← HN.out]; exact hlt
      have HAl := Lib.hid halen
      obtain ⟨v3, rfl⟩ : ∃ v3, v3 = u3 := ⟨_, rfl⟩
      clear halen
      obtain ⟨wo, rfl⟩ : ∃ wo, wo = wr := ⟨_, rfl⟩
      go_wp2
      go_loopw [5, 6, 7] (fun bv dv kv W => ∃ D : Nat, D ≤ a ∧ D ≤ 4096 ∧ kv = .int .i64 ((D : Int) + 1) ∧ bv = .int .i64 (((Lz.bestTo b a D).1 : Nat) : Int) ∧ dv = .int .i64 (((Lz.bestTo b a D).2 : Nat) : Int) ∧ Below wo.heap.size wo W) (fun _ _ kv _ => 5000 - (intOf kv).toNat)
      case atStart => exact ⟨0, by omega, by omega, rfl, rfl, rfl, Below.refl _ _⟩
      case round =>
        obtain ⟨D, hDa, hD4, rfl, rfl, rfl, hbi⟩ := hrel
        have Hbi := Lib.hid hbi
        clear hbi
        go_upto_region 6 with fail
        go_cut [21] from 15 to 38 (fun z wx => z = .bool (decide (D + 1 ≤ a ∧ D + 1 ≤ 4096)) ∧ wx = wr)
        case first =>
          by_cases h1 : D + 1 ≤ a
          · have d1 : decide ((D : Int) + 1 ≤ (a : Int)) = true := by simp; omega
            by_cases h2 : D + 1 ≤ 4096
            · have d2 : decide ((D : Int) + 1 ≤ 4096) = true := by simp; omega
              go_wp2
              go_meet
              case rel => exact ⟨by simp [h1, h2], rfl⟩
            · have d2 : decide ((D : Int) + 1 ≤ 4096) = false := by simp; omega
              go_wp2
              go_meet
              case rel => exact ⟨by simp [h2], rfl⟩
          · have d1 : decide ((D : Int) + 1 ≤ (a : Int)) = false := by simp; omega
            go_wp2
            go_meet
            case rel => exact ⟨by simp [h1], rfl⟩
        case rest =>
          obtain ⟨rfl, rfl⟩ := hcut
          by_cases hgo : D + 1 ≤ a ∧ D + 1 ≤ 4096
          · have hz : decide (D + 1 ≤ a ∧ D + 1 ≤ 4096) = true := decide_eq_true hgo
            obtain ⟨q, hq⟩ : ∃ q : Bool, decide (D + 1 ≤ a ∧ D + 1 ≤ 4096) = q := ⟨_, rfl⟩
            rw [hq] at hz ⊢
            subst hz
            obtain ⟨g1, g2⟩ := hgo
            obtain ⟨p1, hp1⟩ : ∃ p1, (Lz.bestTo b a D).1 = p1 := ⟨_, rfl⟩
            obtain ⟨p2, hp2⟩ : ∃ p2, (Lz.bestTo b a D).2 = p2 := ⟨_, rfl⟩
            obtain ⟨r, hrr⟩ : ∃ r, r = Lz.same b (a - (D + 1)) a := ⟨_, rfl⟩
            have hnext : Lz.bestTo b a (D + 1) = if 3 ≤ r ∧ p1 < r then (r, D + 1) else (p1, p2) := by
              rw [Lz.bestTo, ← hrr, hp1, ← hp1, ← hp2]
            have HNx := Lib.hid hnext
            have HRr := Lib.hid hrr
            rw [hp1, hp2]
            clear hq hp1 hp2 hnext hrr
            go_wp2_with fail
            refine (refSame_at A b n c (a - (D + 1)) a _ (by omega) wc HN.out ((HR.out.below (Hb.out.trans (Hbi.out.mono Hb.out.size))).more (Nat.le_trans Hb.out.size Hbi.out.size)) (by omega) hlt (by omega) r HRr.out).mono ?_
            rintro e wd ⟨rfl, hbd⟩
            have Hbd := Lib.hid (Hbi.out.trans (hbd.mono Hbi.out.size))
            clear hbd
            by_cases h3 : 3 ≤ r
            · have d3 : decide (3 ≤ (r : Int)) = true := by simp; omega
              by_cases h4 : p1 < r
              · have d4 : decide ((p1 : Int) < (r : Int)) = true := by simp; omega
                have Hx2 : Hid (Lz.bestTo b a (D + 1) = (r, D + 1)) := Lib.hid (by rw [HNx.out, if_pos ⟨h3, h4⟩])
                clear HNx
                go_wp2
                exact ⟨⟨D + 1, g1, g2, by go_num, by rw [Hx2.out], by rw [Hx2.out]; rfl, Hbd.out⟩, by simp [intOf]; omega⟩
              · have d4 : decide ((p1 : Int) < (r : Int)) = false := by simp; omega
                have Hx2 : Hid (Lz.bestTo b a (D + 1) = (p1, p2)) := Lib.hid (by rw [HNx.out, if_neg (fun h => h4 h.2)])
                clear HNx
                go_wp2
                exact ⟨⟨D + 1, g1, g2, by go_num, by rw [Hx2.out], by rw [Hx2.out], Hbd.out⟩, by simp [intOf]; omega⟩
            · have d3 : decide (3 ≤ (r : Int)) = false := by simp; omega
              have Hx2 : Hid (Lz.bestTo b a (D + 1) = (p1, p2)) := Lib.hid (by rw [HNx.out, if_neg (fun h => h3 h.1)])
              clear HNx
              go_wp2
              exact ⟨⟨D + 1, g1, g2, by go_num, by rw [Hx2.out], by rw [Hx2.out], Hbd.out⟩, by simp [intOf]; omega⟩
          · have hbest : Lz.bestTo b a D = Lz.best b a := by
              unfold Lz.best
              congr 1
              omega
            have hz : decide (D + 1 ≤ a ∧ D + 1 ≤ 4096) = false := decide_eq_false hgo
            obtain ⟨q, hq⟩ : ∃ q : Bool, decide (D + 1 ≤ a ∧ D + 1 ≤ 4096) = q := ⟨_, rfl⟩
            rw [hq] at hz ⊢
            subst hz
            obtain ⟨p1, hp1⟩ : ∃ p1, (Lz.best b a).1 = p1 := ⟨_, rfl⟩
            obtain ⟨p2, hp2⟩ : ∃ p2, (Lz.best b a).2 = p2 := ⟨_, rfl⟩
            rw [hbest, hp1, hp2]
            have HP1 := Lib.hid hp1
            have HP2 := Lib.hid hp2
            have HOc := Lib.hid (HO.out.below Hbi.out)
            have Hbc := Lib.hid (Hb.out.trans (Hbi.out.mono Hb.out.size))
            clear hq hp1 hp2 hbest hgo HO Hb Hbi
            by_cases hp : 0 < p1
            · have hp' : (0 : Int) < (p1 : Int) := by omega
              have hfit : a + p1 ≤ n := by
                rcases Lz.best_ok b a with h0 | h0
                · rw [h0] at HP1; have := HP1.out; simp at this; omega
                · have := h0.2.2.2.2.2.2; rw [HP1.out] at this; rw [HN.out]; exact this
              have hrest : Lz.rest b (a + p1) ((ts ++ [(⟨none, [], 0, p1, p2⟩ : Tv)]).map Tv.tok) = Lz.tokens b := by
                rw [← Hx.out, Lz.rest_match HAl.out (by rw [HP1.out]; exact hp), HP1.out, HP2.out, List.map_append]
                rfl
              have hal := below_alloc wc (.cells (Tv.cells ⟨none, [], 0, p1, p2⟩).toArray 41)
              have hBn := Blk.new wc 41 (Tv.cells ⟨none, [], 0, p1, p2⟩)
              obtain ⟨v4, w4, e4, hO4, hb4, _⟩ := appT (P := Try.prog) 33 33 Try.undToks Try.infoTok rfl (by decide) (HOc.out.alloc (.cells (Tv.cells ⟨none, [], 0, p1, p2⟩).toArray 41)) (Nat.le_trans Hbc.out.size hal.size) wc.heap.size ⟨none, [], 0, p1, p2⟩ hBn (.inl rfl) (Nat.le_refl _) (by omega) 1
              have HO4 := Lib.hid hO4
              have Hb4 := Lib.hid (Hbc.out.trans ((hal.mono Hbc.out.size).trans hb4))
              have He4 := Lib.hid e4
              have HRest := Lib.hid hrest
              have HLa : Hid ((ts ++ [(⟨none, [], 0, p1, p2⟩ : Tv)]).length ≤ a + p1) := Lib.hid (by rw [List.length_append, List.length_singleton]; omega)
              clear hrest hal hBn e4 hO4 hb4
              have hcl : (Tv.cells ⟨none, [], 0, p1, p2⟩).length = 3 := rfl
              go_wp2_with (first | refine wpList_build_w 41 _ rfl (by simp [Act.eval]) (built_match p1 p2) (by kernel_rfl) ?_ | (at_builtin; refine wpList_append_run rfl (.tmp 41) (.tmp 45) _ rfl rfl rfl He4.out ?_))
              exact ⟨⟨a + p1, ts ++ [⟨none, [], 0, p1, p2⟩], hfit, by go_num, HO4.out, HRest.out, HLa.out, Hb4.out⟩, by simp [intOf]; omega⟩
            · obtain rfl : p1 = 0 := by omega
              have hc2 := List.getElem?_eq_getElem HAl.out
              obtain ⟨g, o, rfl, hgB, hcell⟩ : ∃ g o, A = some ⟨g, o, none⟩ ∧ g < w.heap.size ∧ ∀ (i : Nat) (x : UInt8), b[i]? = some x → w.cell? ⟨g, o + i, none⟩ = some (.int .u8 (x.toNat : Int)) := by
                rcases HR.out with h | ⟨g, o, h1, h2, h3⟩
                · have := HAl.out; rw [h] at this; simp at this
                · exact ⟨g, o, h1, h2, h3⟩
              obtain ⟨ch, hch⟩ : ∃ ch, b[a]'HAl.out = ch := ⟨_, rfl⟩
              rw [hch] at hc2
              have hbc : wc.cell? ⟨g, o + a, none⟩ = some (.int .u8 (ch.toNat : Int)) := (Hbc.out.cell (p := ⟨g, o + a, none⟩) hgB).trans (hcell a ch hc2)
              have HBc := Lib.hid hbc
              have hput : Lz.rest b (a + 1) (Lz.put (ts.map Tv.tok) ch) = Lz.tokens b := by
                rw [← Hx.out, Lz.rest_put HAl.out (by rw [HP1.out]; omega), List.getD_eq_getElem?_getD, hc2]
                rfl
              have HPut := Lib.hid hput
              have HCh := Lib.hid hc2
              clear hc2 hcell hch hbc hput
              have hd0 : decide (0 < (0 : Int)) = false := by decide
              rcases List.eq_nil_or_concat ts with rfl | ⟨init, t, rfl⟩
              · obtain ⟨Av, cv, rfl, _, _⟩ := HOc.out.slice
                have hbc := HBc.out
                have hA := below_alloc wc (.cells #[.int .u8 (ch.toNat : Int)] 5)
                have hBl : Blk (wc.alloc (.cells #[.int .u8 (ch.toNat : Int)] 5)) wc.heap.size 5 (u8s [ch] ++ []) := by rw [List.append_nil]; exact Blk.new wc 5 (u8s [ch])
                have hOA := HOc.out.alloc (.cells #[.int .u8 (ch.toNat : Int)] 5)
                have hsA : (wc.alloc (.cells #[.int .u8 (ch.toNat : Int)] 5)).heap.size = wc.heap.size + 1 := World.size_alloc _ _
                obtain ⟨tv, htv⟩ : ∃ tv : Tv, tv = ⟨some ⟨wc.heap.size, 0, none⟩, [ch], 1, 0, 0⟩ := ⟨_, rfl⟩
                have hbt := built_lit (some ⟨wc.heap.size, 0, none⟩) [ch] 1 1 rfl
                rw [← htv] at hbt
                have hal := below_alloc (wc.alloc (.cells #[.int .u8 (ch.toNat : Int)] 5)) (.cells tv.cells.toArray 41)
                have hBn := Blk.new (wc.alloc (.cells #[.int .u8 (ch.toNat : Int)] 5)) 41 tv.cells
                rw [hsA] at hBn
                have hLB : RdB ((wc.alloc (.cells #[.int .u8 (ch.toNat : Int)] 5)).alloc (.cells tv.cells.toArray 41)) 5 tv.A tv.l := by
                  rw [htv]
                  exact RdB.of_row (hBl.alloc _)
                obtain ⟨v4, w4, e4, hO4, hb4, _⟩ := appT (P := Try.prog) 33 33 Try.undToks Try.infoTok rfl (by decide) (hOA.alloc (.cells tv.cells.toArray 41)) (Nat.le_trans Hbc.out.size (Nat.le_trans hA.size hal.size)) (wc.heap.size + 1) tv hBn hLB (by rw [htv]; exact Nat.le_refl _) (by omega) 1
                have HO4 := Lib.hid hO4
                have Hb4 := Lib.hid (Hbc.out.trans ((hA.mono Hbc.out.size).trans ((hal.mono (Nat.le_trans Hbc.out.size hA.size)).trans hb4)))
                have He4 := Lib.hid e4
                have HBt := Lib.hid hbt
                have hmap : ([] ++ [tv]).map Tv.tok = Lz.put ([].map Tv.tok) ch := by
                  rw [List.map_append, htv]
                  rfl
                have HMap : Hid (Lz.rest b (a + 1) (([] ++ [tv]).map Tv.tok) = Lz.tokens b) := Lib.hid (by rw [hmap]; exact HPut.out)
                have HLa : Hid (([] ++ [tv]).length ≤ a + 1) := Lib.hid (by rw [List.length_append, List.length_singleton]; omega)
                have hcl : tv.cells.length = 3 := rfl
                clear hA hBl hOA hsA hbt hal hBn hLB e4 hO4 hb4 hmap htv
                go_wp2_with (first | refine wpList_build_w 41 _ rfl (by simp [Act.eval]) HBt.out (by kernel_rfl) ?_ | (at_builtin; refine wpList_append_run rfl (.tmp 89) (.tmp 96) _ rfl rfl rfl He4.out ?_))
                exact ⟨⟨a + 1, [] ++ [tv], by omega, by go_num, HO4.out, HMap.out, HLa.out, Hb4.out⟩, by simp [intOf]; omega⟩
              · rw [List.concat_eq_append] at Hx HOc HPut hla
                obtain ⟨m, hm⟩ : ∃ m, init.length = m := ⟨_, rfl⟩
                have hlen : (init ++ [t]).length = m + 1 := by rw [List.length_append, hm]; rfl
                obtain ⟨g3, cap, rest3, hv3, hg3, hcap, hB3⟩ := HOc.out.blk (by omega)
                rw [hlen] at hcap hla
                have ht : (init ++ [t])[m]? = some t := by rw [← hm]; simp
                have hc3 : ∀ j v, j < 3 → t.cells[j]? = some v → wc.cell? ⟨g3, m * 3 + j, none⟩ = some v := fun j v hj hv => by
                  rw [hB3.cell, List.getElem?_append_left (by rw [cellsT_len, hlen]; omega), Nat.mul_comm, cellsT_get _ m t ht j hj, hv]
                obtain ⟨ln, hln⟩ : ∃ ln, t.l.length = ln := ⟨_, rfl⟩
                have k0 := hc3 0 _ (by omega) (show t.cells[0]? = some (.slice t.A t.l.length t.c) from rfl)
                have k1 := hc3 1 _ (by omega) (show t.cells[1]? = some (.int .i64 t.n) from rfl)
                rw [Nat.add_zero, hln] at k0
                have hlt3 := hB3.lt
                have HB3 := Lib.hid hB3
                have HLn := Lib.hid hln
                have HT := Lib.hid ht
                have HLen := Lib.hid hlen
                have HLB := Lib.hid (HOc.out.lits t (by simp))
                have HV3 : Hid (v3 = .slice (some ⟨g3, 0, none⟩) (init ++ [t]).length cap) := Lib.hid hv3
                rw [hlen] at hv3
                subst hv3
                clear hB3 hlen hm ht hc3 hln
                by_cases hn0 : t.n = 0
                · rw [hn0] at k1
                  by_cases h128 : ln < 128
                  · have d2 : decide ((ln : Int) < 128) = true := by simp; omega
                    have hbc := HBc.out
                    have hHn0 := Lib.hid hn0
                    clear hn0
                    go_wp2
                    refine wp_region_G (belowG wc.heap.size) (by kernel_rfl) ?_
                    obtain ⟨B, hBs⟩ : ∃ B, wc.heap.size = B := ⟨_, rfl⟩
                    have HBs := Lib.hid hBs
                    have Hs0 : Hid (Below B wc wc.drew) := Lib.hid (by rw [← hBs]; exact (Below.refl _ wc).drew)
                    have q0 : ∀ x : Later (belowG B) wc.drew, x.to.cell? ⟨g3, m * 3, none⟩ = some (.slice t.A ln t.c) := fun x => ((Hs0.out.trans (show Below B wc.drew x.to from x.grown)).cell (p := ⟨g3, m * 3, none⟩) (by rw [← hBs]; exact hlt3)).trans k0
                    have q1 : ∀ x : Later (belowG B) wc.drew, x.to.cell? ⟨g, o + a, none⟩ = some (.int .u8 (ch.toNat : Int)) := fun x => ((Hs0.out.trans (show Below B wc.drew x.to from x.grown)).cell (p := ⟨g, o + a, none⟩) (Nat.lt_of_lt_of_le hgB (by rw [← hBs]; exact Hbc.out.size))).trans hbc
                    rw [hBs]
                    clear k0 k1 hbc hBs
                    generalize wc.drew = wq0 at *
                    refine segG (by kernel_rfl) (fun _ _ _ _ _ h => h) [0, 1, 3, 4, 5, 6, 7, 9, 10, 11, 12] [_, _, _, _, _, _, _, _, _, _, _] 7 rfl rfl (by kernel_rfl) ?_
                    repeat (go_big_quiet_step (fail))
                    refine wpQuiet_nil ?_
                    clear q0 q1
                    refine twoG 2 13 6 rfl (by kernel_rfl) rfl rfl ?_ ?_
                    · go_wp2
                      have hbl := (Below.refl B wq0).alloc (by have := Hs0.out.size; rw [HBs.out] at this; exact this) (.cells #[] 5)
                      refine ⟨hbl, ?_⟩
                      have HE := Lib.hid (own_made wq0 B 5 (by have := Hs0.out.size; rw [HBs.out] at this; exact this))
                      have Hs1 := Lib.hid (Hs0.out.trans hbl)
                      obtain ⟨gE, hgE⟩ : ∃ g, wq0.heap.size = g := ⟨_, rfl⟩
                      have HgE : Hid (gE < (wq0.alloc (.cells #[] 5)).heap.size) := Lib.hid (by rw [World.size_alloc]; omega)
                      rw [hgE] at HE ⊢
                      clear hbl hgE Hs0
                      generalize wq0.alloc (.cells #[] 5) = wq1 at *
                      refine twoG 8 13 5 rfl (by kernel_rfl) rfl rfl ?_ ?_
                      · obtain ⟨v8, wq2, e8, hO8, hg8, _⟩ := app_at (P := Try.prog) 22 22 Try.und22 Try.info5 HE.out (by have := Hs1.out.size; rw [HBs.out] at this; exact this) ln t.c HLn.out.symm (HLB.out.1.rd.below (by rw [HBs.out]; exact Hs1.out)) (by rw [HLn.out]; simp; omega)
                        have hb8 := HE.out.below hg8 (by have := Hs1.out.size; rw [HBs.out] at this; exact this)
                        rw [List.nil_append] at hO8
                        have He8 := Lib.hid e8
                        have HL := Lib.hid hO8
                        have Hs2 := Lib.hid (Hs1.out.trans hb8)
                        have Hb8 := Lib.hid hb8
                        clear e8 hO8 hb8 hg8 Hs1 HE HgE
                        go_wp2_with (at_builtin; refine wpList_append_run rfl (.tmp 74) (.tmp 79) _ rfl rfl rfl He8.out ?_)
                        refine ⟨Hb8.out, ?_⟩
                        clear Hb8 He8
                        simp only [Act.put, List.setIfInBounds_toArray, List.set]
                        refine oneG 13 4 rfl (by kernel_rfl) rfl ?_
                        go_wp2
                        have hbl := (Below.refl B wq2).alloc (by have := Hs2.out.size; rw [HBs.out] at this; exact this) (.cells #[.int .u8 (ch.toNat : Int)] 5)
                        refine ⟨hbl, ?_⟩
                        have HC : Hid (Blk (wq2.alloc (.cells #[.int .u8 (ch.toNat : Int)] 5)) wq2.heap.size 5 (u8s [ch])) := Lib.hid (Blk.new wq2 5 (u8s [ch]))
                        have Hs3 := Lib.hid (Hs2.out.trans hbl)
                        have HL2 := Lib.hid (HL.out.alloc (.cells #[.int .u8 (ch.toNat : Int)] 5))
                        obtain ⟨gC, hgC⟩ : ∃ g, wq2.heap.size = g := ⟨_, rfl⟩
                        rw [hgC] at HC ⊢
                        clear hbl hgC Hs2 HL
                        generalize wq2.alloc (.cells #[.int .u8 (ch.toNat : Int)] 5) = wq3 at *
                        have HL := HL2
                        clear HL2
                        refine oneG 14 3 rfl (by kernel_rfl) rfl ?_
                        obtain ⟨v14, wq4, e14, hO14, hb14, _⟩ := app_rd (P := Try.prog) 22 22 Try.und22 Try.info5 HL.out (by have := Hs3.out.size; rw [HBs.out] at this; exact this) 1 (Rd.of_all HC.out) (l := [ch]) (by rw [HLn.out]; simp; omega)
                        have He14 := Lib.hid e14
                        have HP := Lib.hid hO14
                        have Hs4 := Lib.hid (Hs3.out.trans hb14)
                        have Hb14 := Lib.hid hb14
                        clear e14 hO14 hb14 Hs3 HL HC
                        go_wp2_with (at_builtin; refine wpList_append_run rfl (.tmp 80) (.tmp 85) _ rfl rfl rfl He14.out ?_)
                        refine ⟨Hb14.out, ?_⟩
                        clear Hb14 He14
                        simp only [Act.put, List.setIfInBounds_toArray, List.set]
                        refine segG (by kernel_rfl) (fun _ _ _ _ _ h => h) [15, 16] [_, _] 1 rfl rfl (by kernel_rfl) ?_
                        repeat (go_big_quiet_step (fail))
                        refine wpQuiet_nil ?_
                        refine lateG 17 0 rfl (by kernel_rfl) (by kernel_rfl) rfl ?_
                        obtain ⟨g5, c5, r5, rfl, hg5, hc5, hB5⟩ := HP.out.blk (by rw [List.length_append]; simp)
                        have hl5 : (t.l ++ [ch]).length = ln + 1 := by rw [List.length_append, HLn.out]; rfl
                        have hrb : RdB wq4 5 (some ⟨g5, 0, none⟩) (t.l ++ [ch]) := RdB.of_row hB5
                        have hOw : OwnT wq4 w.heap.size 41 5 (.slice (some ⟨g3, 0, none⟩) (init ++ [t]).length cap) (init ++ [t]) := by
                          have h := HOc.out.below (w' := wq4) (by rw [HBs.out]; exact Hs4.out)
                          rw [HLen.out]
                          exact h
                        have hset := hOw.setLit (by decide) rfl HT.out (some ⟨g5, 0, none⟩) (t.l ++ [ch]) c5 hrb (by rw [hl5] at hc5; rw [hl5]; exact hc5)
                        rw [hl5] at hset hc5 ⊢
                        have hcur := (HB3.out.below (show Below wc.heap.size wc wq4 by rw [HBs.out]; exact Hs4.out) HB3.out.lt)
                        have hfz := hcur.frozen (m * 3)
                        have hcel : wq4.cell? ⟨g3, m * 3, none⟩ = some (.slice t.A ln t.c) := by
                          rw [hcur.cell, List.getElem?_append_left (by rw [cellsT_len, HLen.out]; omega)]
                          have := cellsT_get _ m t HT.out 0 (by omega)
                          rw [Nat.add_zero, Nat.mul_comm] at this
                          rw [this, ← HLn.out]; rfl
                        have hbf : Below w.heap.size w (wq4.setCell ⟨g3, m * 3, none⟩ (.slice (some ⟨g5, 0, none⟩) (ln + 1) c5)) := (Hbc.out.trans ((show Below wc.heap.size wc wq4 by rw [HBs.out]; exact Hs4.out).mono Hbc.out.size)).setCell (p := ⟨g3, m * 3, none⟩) hg3 _
                        have hsl : (init ++ [t]).set m ⟨some ⟨g5, 0, none⟩, t.l ++ [ch], c5, t.n, t.d⟩ = init ++ [⟨some ⟨g5, 0, none⟩, t.l ++ [ch], c5, t.n, t.d⟩] := by
                          have hmi : m = init.length := by have := HLen.out; rw [List.length_append] at this; simpa using this.symm
                          rw [hmi, List.set_append_right _ _ (Nat.le_refl _), Nat.sub_self]
                          rfl
                        rw [hsl, Nat.mul_comm 3 m] at hset
                        have hln2 : (init ++ [(⟨some ⟨g5, 0, none⟩, t.l ++ [ch], c5, t.n, t.d⟩ : Tv)]).length = m + 1 := by have := HLen.out; rw [List.length_append] at this ⊢; simpa using this
                        rw [HLen.out] at hset
                        have HSet := Lib.hid hset
                        have Hbf := Lib.hid hbf
                        have HMap : Hid (Lz.rest b (a + 1) ((init ++ [(⟨some ⟨g5, 0, none⟩, t.l ++ [ch], c5, t.n, t.d⟩ : Tv)]).map Tv.tok) = Lz.tokens b) := Lib.hid (by
                          rw [← HPut.out, Lz.put_snoc_map, if_pos ⟨hHn0.out, show t.l.length < 128 by rw [HLn.out]; omega⟩, List.map_append]
                          rfl)
                        have Hln2 := Lib.hid hln2
                        clear hrb hOw hset hcur hbf hsl hln2 hB5 hl5
                        go_wp2
                        refine ⟨trivial, ?_⟩
                        refine wpAnyG_done (by kernel_rfl) ?_
                        go_wp2
                        exact ⟨⟨a + 1, _, by omega, by go_num, HSet.out, HMap.out, by rw [Hln2.out]; omega, Hbf.out⟩, by simp [intOf]; omega⟩
                      · go_wp2
                        have hbl := (Below.refl B wq1).alloc (by have := Hs1.out.size; rw [HBs.out] at this; exact this) (.cells #[.int .u8 (ch.toNat : Int)] 5)
                        refine ⟨hbl, ?_⟩
                        have HC : Hid (Blk (wq1.alloc (.cells #[.int .u8 (ch.toNat : Int)] 5)) wq1.heap.size 5 (u8s [ch])) := Lib.hid (Blk.new wq1 5 (u8s [ch]))
                        have Hs2 := Lib.hid (Hs1.out.trans hbl)
                        have HE2 := Lib.hid (HE.out.alloc (.cells #[.int .u8 (ch.toNat : Int)] 5))
                        obtain ⟨gC, hgC⟩ : ∃ g, wq1.heap.size = g := ⟨_, rfl⟩
                        rw [hgC] at HC ⊢
                        have HNe : Hid (gC ≠ gE) := Lib.hid (by have := HgE.out; omega)
                        clear hbl hgC Hs1 HE HgE
                        generalize wq1.alloc (.cells #[.int .u8 (ch.toNat : Int)] 5) = wq2 at *
                        have HE := HE2
                        clear HE2
                        refine oneG 8 4 rfl (by kernel_rfl) rfl ?_
                        obtain ⟨v8, wq3, e8, hO8, hg8, _⟩ := app_at (P := Try.prog) 22 22 Try.und22 Try.info5 HE.out (by have := Hs2.out.size; rw [HBs.out] at this; exact this) ln t.c HLn.out.symm (HLB.out.1.rd.below (by rw [HBs.out]; exact Hs2.out)) (by rw [HLn.out]; simp; omega)
                        have hb8 := HE.out.below hg8 (by have := Hs2.out.size; rw [HBs.out] at this; exact this)
                        rw [List.nil_append] at hO8
                        have He8 := Lib.hid e8
                        have HL := Lib.hid hO8
                        have Hs3 := Lib.hid (Hs2.out.trans hb8)
                        have Hb8 := Lib.hid hb8
                        have HC2 := Lib.hid (HC.out.grown hg8 (fun e => HNe.out (by simpa [Value.ownBlock] using e)))
                        clear e8 hO8 hb8 hg8 Hs2 HE HC HNe
                        have HC := HC2
                        clear HC2
                        go_wp2_with (at_builtin; refine wpList_append_run rfl (.tmp 74) (.tmp 79) _ rfl rfl rfl He8.out ?_)
                        refine ⟨Hb8.out, ?_⟩
                        clear Hb8 He8
                        simp only [Act.put, List.setIfInBounds_toArray, List.set]
                        refine oneG 14 3 rfl (by kernel_rfl) rfl ?_
                        obtain ⟨v14, wq4, e14, hO14, hb14, _⟩ := app_rd (P := Try.prog) 22 22 Try.und22 Try.info5 HL.out (by have := Hs3.out.size; rw [HBs.out] at this; exact this) 1 (Rd.of_all HC.out) (l := [ch]) (by rw [HLn.out]; simp; omega)
                        have He14 := Lib.hid e14
                        have HP := Lib.hid hO14
                        have Hs4 := Lib.hid (Hs3.out.trans hb14)
                        have Hb14 := Lib.hid hb14
                        clear e14 hO14 hb14 Hs3 HL HC
                        go_wp2_with (at_builtin; refine wpList_append_run rfl (.tmp 80) (.tmp 85) _ rfl rfl rfl He14.out ?_)
                        refine ⟨Hb14.out, ?_⟩
                        clear Hb14 He14
                        simp only [Act.put, List.setIfInBounds_toArray, List.set]
                        refine segG (by kernel_rfl) (fun _ _ _ _ _ h => h) [15, 16] [_, _] 1 rfl rfl (by kernel_rfl) ?_
                        repeat (go_big_quiet_step (fail))
                        refine wpQuiet_nil ?_
                        refine lateG 17 0 rfl (by kernel_rfl) (by kernel_rfl) rfl ?_
                        obtain ⟨g5, c5, r5, rfl, hg5, hc5, hB5⟩ := HP.out.blk (by rw [List.length_append]; simp)
                        have hl5 : (t.l ++ [ch]).length = ln + 1 := by rw [List.length_append, HLn.out]; rfl
                        have hrb : RdB wq4 5 (some ⟨g5, 0, none⟩) (t.l ++ [ch]) := RdB.of_row hB5
                        have hOw : OwnT wq4 w.heap.size 41 5 (.slice (some ⟨g3, 0, none⟩) (init ++ [t]).length cap) (init ++ [t]) := by
                          have h := HOc.out.below (w' := wq4) (by rw [HBs.out]; exact Hs4.out)
                          rw [HLen.out]
                          exact h
                        have hset := hOw.setLit (by decide) rfl HT.out (some ⟨g5, 0, none⟩) (t.l ++ [ch]) c5 hrb (by rw [hl5] at hc5; rw [hl5]; exact hc5)
                        rw [hl5] at hset hc5 ⊢
                        have hcur := (HB3.out.below (show Below wc.heap.size wc wq4 by rw [HBs.out]; exact Hs4.out) HB3.out.lt)
                        have hfz := hcur.frozen (m * 3)
                        have hcel : wq4.cell? ⟨g3, m * 3, none⟩ = some (.slice t.A ln t.c) := by
                          rw [hcur.cell, List.getElem?_append_left (by rw [cellsT_len, HLen.out]; omega)]
                          have := cellsT_get _ m t HT.out 0 (by omega)
                          rw [Nat.add_zero, Nat.mul_comm] at this
                          rw [this, ← HLn.out]; rfl
                        have hbf : Below w.heap.size w (wq4.setCell ⟨g3, m * 3, none⟩ (.slice (some ⟨g5, 0, none⟩) (ln + 1) c5)) := (Hbc.out.trans ((show Below wc.heap.size wc wq4 by rw [HBs.out]; exact Hs4.out).mono Hbc.out.size)).setCell (p := ⟨g3, m * 3, none⟩) hg3 _
                        have hsl : (init ++ [t]).set m ⟨some ⟨g5, 0, none⟩, t.l ++ [ch], c5, t.n, t.d⟩ = init ++ [⟨some ⟨g5, 0, none⟩, t.l ++ [ch], c5, t.n, t.d⟩] := by
                          have hmi : m = init.length := by have := HLen.out; rw [List.length_append] at this; simpa using this.symm
                          rw [hmi, List.set_append_right _ _ (Nat.le_refl _), Nat.sub_self]
                          rfl
                        rw [hsl, Nat.mul_comm 3 m] at hset
                        have hln2 : (init ++ [(⟨some ⟨g5, 0, none⟩, t.l ++ [ch], c5, t.n, t.d⟩ : Tv)]).length = m + 1 := by have := HLen.out; rw [List.length_append] at this ⊢; simpa using this
                        rw [HLen.out] at hset
                        have HSet := Lib.hid hset
                        have Hbf := Lib.hid hbf
                        have HMap : Hid (Lz.rest b (a + 1) ((init ++ [(⟨some ⟨g5, 0, none⟩, t.l ++ [ch], c5, t.n, t.d⟩ : Tv)]).map Tv.tok) = Lz.tokens b) := Lib.hid (by
                          rw [← HPut.out, Lz.put_snoc_map, if_pos ⟨hHn0.out, show t.l.length < 128 by rw [HLn.out]; omega⟩, List.map_append]
                          rfl)
                        have Hln2 := Lib.hid hln2
                        clear hrb hOw hset hcur hbf hsl hln2 hB5 hl5
                        go_wp2
                        refine ⟨trivial, ?_⟩
                        refine wpAnyG_done (by kernel_rfl) ?_
                        go_wp2
                        exact ⟨⟨a + 1, _, by omega, by go_num, HSet.out, HMap.out, by rw [Hln2.out]; omega, Hbf.out⟩, by simp [intOf]; omega⟩
                    · go_wp2
                      have hbl := (Below.refl B wq0).alloc (by have := Hs0.out.size; rw [HBs.out] at this; exact this) (.cells #[.int .u8 (ch.toNat : Int)] 5)
                      refine ⟨hbl, ?_⟩
                      have HC : Hid (Blk (wq0.alloc (.cells #[.int .u8 (ch.toNat : Int)] 5)) wq0.heap.size 5 (u8s [ch])) := Lib.hid (Blk.new wq0 5 (u8s [ch]))
                      have Hs1 := Lib.hid (Hs0.out.trans hbl)
                      obtain ⟨gC, hgC⟩ : ∃ g, wq0.heap.size = g := ⟨_, rfl⟩
                      rw [hgC] at HC ⊢
                      clear hbl hgC Hs0
                      generalize wq0.alloc (.cells #[.int .u8 (ch.toNat : Int)] 5) = wq1 at *
                      refine oneG 2 5 rfl (by kernel_rfl) rfl ?_
                      go_wp2
                      have hbl := (Below.refl B wq1).alloc (by have := Hs1.out.size; rw [HBs.out] at this; exact this) (.cells #[] 5)
                      refine ⟨hbl, ?_⟩
                      have HE := Lib.hid (own_made wq1 B 5 (by have := Hs1.out.size; rw [HBs.out] at this; exact this))
                      have Hs2 := Lib.hid (Hs1.out.trans hbl)
                      obtain ⟨gE, hgE⟩ : ∃ g, wq1.heap.size = g := ⟨_, rfl⟩
                      have HgE : Hid (gE < (wq1.alloc (.cells #[] 5)).heap.size) := Lib.hid (by rw [World.size_alloc]; omega)
                      have HC2 := Lib.hid (HC.out.alloc (.cells #[] 5))
                      have HNe : Hid (gC ≠ gE) := Lib.hid (by have := HC.out.lt; omega)
                      rw [hgE] at HE ⊢
                      clear hbl hgE Hs1 HC
                      generalize wq1.alloc (.cells #[] 5) = wq2 at *
                      have HC := HC2
                      clear HC2
                      refine oneG 8 4 rfl (by kernel_rfl) rfl ?_
                      obtain ⟨v8, wq3, e8, hO8, hg8, _⟩ := app_at (P := Try.prog) 22 22 Try.und22 Try.info5 HE.out (by have := Hs2.out.size; rw [HBs.out] at this; exact this) ln t.c HLn.out.symm (HLB.out.1.rd.below (by rw [HBs.out]; exact Hs2.out)) (by rw [HLn.out]; simp; omega)
                      have hb8 := HE.out.below hg8 (by have := Hs2.out.size; rw [HBs.out] at this; exact this)
                      rw [List.nil_append] at hO8
                      have He8 := Lib.hid e8
                      have HL := Lib.hid hO8
                      have Hs3 := Lib.hid (Hs2.out.trans hb8)
                      have Hb8 := Lib.hid hb8
                      have HC2 := Lib.hid (HC.out.grown hg8 (fun e => HNe.out (by simpa [Value.ownBlock] using e)))
                      clear e8 hO8 hb8 hg8 Hs2 HE HC HNe
                      have HC := HC2
                      clear HC2
                      go_wp2_with (at_builtin; refine wpList_append_run rfl (.tmp 74) (.tmp 79) _ rfl rfl rfl He8.out ?_)
                      refine ⟨Hb8.out, ?_⟩
                      clear Hb8 He8
                      simp only [Act.put, List.setIfInBounds_toArray, List.set]
                      refine oneG 14 3 rfl (by kernel_rfl) rfl ?_
                      obtain ⟨v14, wq4, e14, hO14, hb14, _⟩ := app_rd (P := Try.prog) 22 22 Try.und22 Try.info5 HL.out (by have := Hs3.out.size; rw [HBs.out] at this; exact this) 1 (Rd.of_all HC.out) (l := [ch]) (by rw [HLn.out]; simp; omega)
                      have He14 := Lib.hid e14
                      have HP := Lib.hid hO14
                      have Hs4 := Lib.hid (Hs3.out.trans hb14)
                      have Hb14 := Lib.hid hb14
                      clear e14 hO14 hb14 Hs3 HL HC
                      go_wp2_with (at_builtin; refine wpList_append_run rfl (.tmp 80) (.tmp 85) _ rfl rfl rfl He14.out ?_)
                      refine ⟨Hb14.out, ?_⟩
                      clear Hb14 He14
                      simp only [Act.put, List.setIfInBounds_toArray, List.set]
                      refine segG (by kernel_rfl) (fun _ _ _ _ _ h => h) [15, 16] [_, _] 1 rfl rfl (by kernel_rfl) ?_
                      repeat (go_big_quiet_step (fail))
                      refine wpQuiet_nil ?_
                      refine lateG 17 0 rfl (by kernel_rfl) (by kernel_rfl) rfl ?_
                      obtain ⟨g5, c5, r5, rfl, hg5, hc5, hB5⟩ := HP.out.blk (by rw [List.length_append]; simp)
                      have hl5 : (t.l ++ [ch]).length = ln + 1 := by rw [List.length_append, HLn.out]; rfl
                      have hrb : RdB wq4 5 (some ⟨g5, 0, none⟩) (t.l ++ [ch]) := RdB.of_row hB5
                      have hOw : OwnT wq4 w.heap.size 41 5 (.slice (some ⟨g3, 0, none⟩) (init ++ [t]).length cap) (init ++ [t]) := by
                        have h := HOc.out.below (w' := wq4) (by rw [HBs.out]; exact Hs4.out)
                        rw [HLen.out]
                        exact h
                      have hset := hOw.setLit (by decide) rfl HT.out (some ⟨g5, 0, none⟩) (t.l ++ [ch]) c5 hrb (by rw [hl5] at hc5; rw [hl5]; exact hc5)
                      rw [hl5] at hset hc5 ⊢
                      have hcur := (HB3.out.below (show Below wc.heap.size wc wq4 by rw [HBs.out]; exact Hs4.out) HB3.out.lt)
                      have hfz := hcur.frozen (m * 3)
                      have hcel : wq4.cell? ⟨g3, m * 3, none⟩ = some (.slice t.A ln t.c) := by
                        rw [hcur.cell, List.getElem?_append_left (by rw [cellsT_len, HLen.out]; omega)]
                        have := cellsT_get _ m t HT.out 0 (by omega)
                        rw [Nat.add_zero, Nat.mul_comm] at this
                        rw [this, ← HLn.out]; rfl
                      have hbf : Below w.heap.size w (wq4.setCell ⟨g3, m * 3, none⟩ (.slice (some ⟨g5, 0, none⟩) (ln + 1) c5)) := (Hbc.out.trans ((show Below wc.heap.size wc wq4 by rw [HBs.out]; exact Hs4.out).mono Hbc.out.size)).setCell (p := ⟨g3, m * 3, none⟩) hg3 _
                      have hsl : (init ++ [t]).set m ⟨some ⟨g5, 0, none⟩, t.l ++ [ch], c5, t.n, t.d⟩ = init ++ [⟨some ⟨g5, 0, none⟩, t.l ++ [ch], c5, t.n, t.d⟩] := by
                        have hmi : m = init.length := by have := HLen.out; rw [List.length_append] at this; simpa using this.symm
                        rw [hmi, List.set_append_right _ _ (Nat.le_refl _), Nat.sub_self]
                        rfl
                      rw [hsl, Nat.mul_comm 3 m] at hset
                      have hln2 : (init ++ [(⟨some ⟨g5, 0, none⟩, t.l ++ [ch], c5, t.n, t.d⟩ : Tv)]).length = m + 1 := by have := HLen.out; rw [List.length_append] at this ⊢; simpa using this
                      rw [HLen.out] at hset
                      have HSet := Lib.hid hset
                      have Hbf := Lib.hid hbf
                      have HMap : Hid (Lz.rest b (a + 1) ((init ++ [(⟨some ⟨g5, 0, none⟩, t.l ++ [ch], c5, t.n, t.d⟩ : Tv)]).map Tv.tok) = Lz.tokens b) := Lib.hid (by
                        rw [← HPut.out, Lz.put_snoc_map, if_pos ⟨hHn0.out, show t.l.length < 128 by rw [HLn.out]; omega⟩, List.map_append]
                        rfl)
                      have Hln2 := Lib.hid hln2
                      clear hrb hOw hset hcur hbf hsl hln2 hB5 hl5
                      go_wp2
                      refine ⟨trivial, ?_⟩
                      refine wpAnyG_done (by kernel_rfl) ?_
                      go_wp2
                      exact ⟨⟨a + 1, _, by omega, by go_num, HSet.out, HMap.out, by rw [Hln2.out]; omega, Hbf.out⟩, by simp [intOf]; omega⟩
                  · have d2 : decide ((ln : Int) < 128) = false := by simp; omega
                    have hbc := HBc.out
                    have hA := below_alloc wc (.cells #[.int .u8 (ch.toNat : Int)] 5)
                    have hBl : Blk (wc.alloc (.cells #[.int .u8 (ch.toNat : Int)] 5)) wc.heap.size 5 (u8s [ch] ++ []) := by rw [List.append_nil]; exact Blk.new wc 5 (u8s [ch])
                    have hOA := HOc.out.alloc (.cells #[.int .u8 (ch.toNat : Int)] 5)
                    have hsA : (wc.alloc (.cells #[.int .u8 (ch.toNat : Int)] 5)).heap.size = wc.heap.size + 1 := World.size_alloc _ _
                    obtain ⟨tv, htv⟩ : ∃ tv : Tv, tv = ⟨some ⟨wc.heap.size, 0, none⟩, [ch], 1, 0, 0⟩ := ⟨_, rfl⟩
                    have hbt := built_lit (some ⟨wc.heap.size, 0, none⟩) [ch] 1 1 rfl
                    rw [← htv] at hbt
                    have hal := below_alloc (wc.alloc (.cells #[.int .u8 (ch.toNat : Int)] 5)) (.cells tv.cells.toArray 41)
                    have hBn := Blk.new (wc.alloc (.cells #[.int .u8 (ch.toNat : Int)] 5)) 41 tv.cells
                    rw [hsA] at hBn
                    have hLB : RdB ((wc.alloc (.cells #[.int .u8 (ch.toNat : Int)] 5)).alloc (.cells tv.cells.toArray 41)) 5 tv.A tv.l := by
                      rw [htv]
                      exact RdB.of_row (hBl.alloc _)
                    obtain ⟨v4, w4, e4, hO4, hb4, _⟩ := appT (P := Try.prog) 33 33 Try.undToks Try.infoTok rfl (by decide) (hOA.alloc (.cells tv.cells.toArray 41)) (Nat.le_trans Hbc.out.size (Nat.le_trans hA.size hal.size)) (wc.heap.size + 1) tv hBn hLB (by rw [htv]; exact Nat.le_refl _) (by rw [HLen.out]; omega) 1
                    have HO4 := Lib.hid hO4
                    have Hb4 := Lib.hid (Hbc.out.trans ((hA.mono Hbc.out.size).trans ((hal.mono (Nat.le_trans Hbc.out.size hA.size)).trans hb4)))
                    have He4 := Lib.hid e4
                    have HBt := Lib.hid hbt
                    have hmap : ((init ++ [t]) ++ [tv]).map Tv.tok = Lz.put ((init ++ [t]).map Tv.tok) ch := by
                      rw [List.map_append, htv]
                      rw [Lz.put_snoc_map, if_neg (by simp only [Tv.tok]; rw [HLn.out]; omega), List.map_append]; rfl
                    have HMap : Hid (Lz.rest b (a + 1) (((init ++ [t]) ++ [tv]).map Tv.tok) = Lz.tokens b) := Lib.hid (by rw [hmap]; exact HPut.out)
                    have HLa : Hid (((init ++ [t]) ++ [tv]).length ≤ a + 1) := Lib.hid (by rw [List.length_append, HLen.out, List.length_singleton]; omega)
                    have hcl : tv.cells.length = 3 := rfl
                    clear hA hBl hOA hsA hbt hal hBn hLB e4 hO4 hb4 hmap htv
                    go_wp2_with (first | refine wpList_build_w 41 _ rfl (by simp [Act.eval]) HBt.out (by kernel_rfl) ?_ | (at_builtin; refine wpList_append_run rfl (.tmp 89) (.tmp 96) _ rfl rfl rfl He4.out ?_))
                    exact ⟨⟨a + 1, (init ++ [t]) ++ [tv], by omega, by go_num, HO4.out, HMap.out, HLa.out, Hb4.out⟩, by simp [intOf]; omega⟩
                · have d1 : (t.n == 0) = false := by simp [hn0]
                  have hbc := HBc.out
                  have hA := below_alloc wc (.cells #[.int .u8 (ch.toNat : Int)] 5)
                  have hBl : Blk (wc.alloc (.cells #[.int .u8 (ch.toNat : Int)] 5)) wc.heap.size 5 (u8s [ch] ++ []) := by rw [List.append_nil]; exact Blk.new wc 5 (u8s [ch])
                  have hOA := HOc.out.alloc (.cells #[.int .u8 (ch.toNat : Int)] 5)
                  have hsA : (wc.alloc (.cells #[.int .u8 (ch.toNat : Int)] 5)).heap.size = wc.heap.size + 1 := World.size_alloc _ _
                  obtain ⟨tv, htv⟩ : ∃ tv : Tv, tv = ⟨some ⟨wc.heap.size, 0, none⟩, [ch], 1, 0, 0⟩ := ⟨_, rfl⟩
                  have hbt := built_lit (some ⟨wc.heap.size, 0, none⟩) [ch] 1 1 rfl
                  rw [← htv] at hbt
                  have hal := below_alloc (wc.alloc (.cells #[.int .u8 (ch.toNat : Int)] 5)) (.cells tv.cells.toArray 41)
                  have hBn := Blk.new (wc.alloc (.cells #[.int .u8 (ch.toNat : Int)] 5)) 41 tv.cells
                  rw [hsA] at hBn
                  have hLB : RdB ((wc.alloc (.cells #[.int .u8 (ch.toNat : Int)] 5)).alloc (.cells tv.cells.toArray 41)) 5 tv.A tv.l := by
                    rw [htv]
                    exact RdB.of_row (hBl.alloc _)
                  obtain ⟨v4, w4, e4, hO4, hb4, _⟩ := appT (P := Try.prog) 33 33 Try.undToks Try.infoTok rfl (by decide) (hOA.alloc (.cells tv.cells.toArray 41)) (Nat.le_trans Hbc.out.size (Nat.le_trans hA.size hal.size)) (wc.heap.size + 1) tv hBn hLB (by rw [htv]; exact Nat.le_refl _) (by rw [HLen.out]; omega) 1
                  have HO4 := Lib.hid hO4
                  have Hb4 := Lib.hid (Hbc.out.trans ((hA.mono Hbc.out.size).trans ((hal.mono (Nat.le_trans Hbc.out.size hA.size)).trans hb4)))
                  have He4 := Lib.hid e4
                  have HBt := Lib.hid hbt
                  have hmap : ((init ++ [t]) ++ [tv]).map Tv.tok = Lz.put ((init ++ [t]).map Tv.tok) ch := by
                    rw [List.map_append, htv]
                    rw [Lz.put_snoc_map, if_neg (by simp only [Tv.tok]; rw [HLn.out]; omega), List.map_append]; rfl
                  have HMap : Hid (Lz.rest b (a + 1) (((init ++ [t]) ++ [tv]).map Tv.tok) = Lz.tokens b) := Lib.hid (by rw [hmap]; exact HPut.out)
                  have HLa : Hid (((init ++ [t]) ++ [tv]).length ≤ a + 1) := Lib.hid (by rw [List.length_append, HLen.out, List.length_singleton]; omega)
                  have hcl : tv.cells.length = 3 := rfl
                  clear hA hBl hOA hsA hbt hal hBn hLB e4 hO4 hb4 hmap htv
                  go_wp2_with (first | refine wpList_build_w 41 _ rfl (by simp [Act.eval]) HBt.out (by kernel_rfl) ?_ | (at_builtin; refine wpList_append_run rfl (.tmp 89) (.tmp 96) _ rfl rfl rfl He4.out ?_))
                  exact ⟨⟨a + 1, (init ++ [t]) ++ [tv], by omega, by go_num, HO4.out, HMap.out, HLa.out, Hb4.out⟩, by simp [intOf]; omega⟩

    · obtain rfl : a = n := by omega
      have hx := Hx.out
      rw [Lz.rest_end (by rw [HN.out]; exact Nat.le_refl _)] at hx
      have Hx2 := Lib.hid hx
      clear hx
      go_wp2
      go_ret
      exact ⟨_, ts, rfl, HO.out, Hx2.out, Hb.out⟩
end Go.Proofs.Ytjapohddfelgkaa
