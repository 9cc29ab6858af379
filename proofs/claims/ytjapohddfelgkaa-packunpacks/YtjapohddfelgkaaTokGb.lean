/-
  The landed token: first: its contract.
-/
import Derived.Test.YtjapohddfelgkaaTokGa
set_option maxRecDepth 100000
namespace Go.Proofs.Ytjapohddfelgkaa
open Go.RowKit Go.Gar

theorem built_none0 : Try.prog.built 41 [] = some #[.slice none 0 0, .int .i64 0, .int .i64 0] := built_tok _ _ rfl
theorem fst1_lit {x : UInt8} {r : List UInt8} (h1 : x.toNat < 128) (h2 : x.toNat < r.length) : Lz.fst1 (x :: r) = (⟨r.take (x.toNat + 1), 0, 0⟩, r.drop (x.toNat + 1)) := by
  rw [Lz.fst1, if_pos h1, if_pos h2]
theorem fst1_mat {x : UInt8} {r : List UInt8} (h1 : ¬ x.toNat < 128) (h2 : 2 ≤ r.length) : Lz.fst1 (x :: r) = (⟨[], (x.toNat : Int) - 125, ((256 * (r.getD 0 0).toNat + (r.getD 1 0).toNat + 1 : Nat) : Int)⟩, r.drop 2) := by
  rw [Lz.fst1, if_neg h1, if_pos h2]
theorem fst1_no {x : UInt8} {r : List UInt8} (h : (x.toNat < 128 ∧ ¬ x.toNat < r.length) ∨ (¬ x.toNat < 128 ∧ ¬ 2 ≤ r.length)) : Lz.fst1 (x :: r) = (⟨[], 0, 0⟩, []) := by
  rw [Lz.fst1]
  rcases h with ⟨h1, h2⟩ | ⟨h1, h2⟩
  · rw [if_pos h1, if_neg h2]
  · rw [if_neg h1, if_neg h2]

set_option maxHeartbeats 2000000 in
theorem first_any (w : World) (A : Option Addr) (b : List UInt8) (n c : Nat) (hn : n = b.length) (h0 : 0 < n) (hc : n ≤ c) (hl : n ≤ 100000) (hr : Rd w w.heap.size A b) (T : Lz.Tok) (R : List UInt8) (hf : Lz.fst1 b = (T, R)) :
    Calls Try.prog 34 #[.slice A n c] w fun e w' => ∃ t A' m c', e = .returned (.tuple #[.agg (Tv.cells t).toArray, .slice A' m c']) ∧ t.tok = T ∧ m = R.length ∧ m ≤ c' ∧ RdB w' 5 t.A t.l ∧ t.l.length ≤ t.c ∧ (∀ (V : World) (C : Nat), Rd V C A b → Rd V C A' R) ∧ Below w.heap.size w w' := by
  obtain ⟨x, r, rfl⟩ : ∃ x r, b = x :: r := by
    cases b with
    | nil => rw [hn] at h0; simp at h0
    | cons x r => exact ⟨x, r, rfl⟩
  obtain ⟨g, o, rfl, hgB, hcell⟩ : ∃ g o, A = some ⟨g, o, none⟩ ∧ g < w.heap.size ∧ ∀ (i : Nat) (y : UInt8), (x :: r)[i]? = some y → w.cell? ⟨g, o + i, none⟩ = some (.int .u8 (y.toNat : Int)) := by
    rcases hr with h | ⟨g, o, h1, h2, h3⟩
    · cases h
    · exact ⟨g, o, h1, h2, h3⟩
  obtain ⟨A1, hs1, hrV⟩ := slice_tail n c 1 hn hr h0 (by omega) hc
  rw [show (x :: r).drop 1 = r from rfl] at hrV
  have hr1 := hrV _ _ hr
  have HRV := Lib.hid hrV
  rw [show ((1 : Nat) : Int) = 1 from rfl] at hs1
  obtain ⟨rl, hrl⟩ : ∃ rl, rl = n - 1 := ⟨_, rfl⟩
  have hrl2 : rl = r.length := by rw [hrl, hn, List.length_cons]; omega
  rw [← hrl] at hs1
  obtain ⟨c1, hc1⟩ : ∃ c1, c1 = c - 1 := ⟨_, rfl⟩
  have hlc1 : rl ≤ c1 := by omega
  rw [← hc1] at hs1
  have hR0 := Blk.new w 41 zT
  have hb0 := below_alloc w (.cells zT.toArray 41)
  obtain ⟨w0, hw0⟩ : ∃ w0, w.alloc (.cells zT.toArray 41) = w0 := ⟨_, rfl⟩
  rw [hw0] at hR0 hb0
  have k0 := (hb0.cell (p := ⟨g, o + 0, none⟩) hgB).trans (hcell 0 x rfl)
  rw [Nat.add_zero] at k0
  have hx8 := x.toNat_lt
  have hn1 : (0 : Int) < (n : Int) := by omega
  have HW0 := Lib.hid hw0
  have HR0 := Lib.hid hR0
  have Hb0 := Lib.hid hb0
  have HF := Lib.hid hf
  have HR1 := Lib.hid hr1
  have HL := Lib.hid hrl2
  have HLc := Lib.hid hlc1
  have HN := Lib.hid hn
  clear hw0 hR0 hb0 hf hr1 hrV hrl2 hrl hc1 hn hr hcell hlc1
  go_enter Try.func34, Try.ntmps34
  go_wp2_with (refine wpList_alloc_arr rfl 41 zT.toArray rfl zero_T ?_; rw [HW0.out])
  go_quiet (fail)
  have Hb1 : Hid (Below w.heap.size w (w0.drewN nq)) := Lib.hid (by have h := Hb0.out; exact ⟨h.os, h.tape, h.output, h.size, h.block⟩)
  have HR2 : Hid (Blk (w0.drewN nq) w.heap.size 41 zT) := Lib.hid (HR0.out.drewN nq)
  obtain ⟨W0, hW0⟩ : ∃ W0, w0.drewN nq = W0 := ⟨_, rfl⟩
  rw [hW0] at Hb1 HR2 ⊢
  clear hW0 HW0 HR0 Hb0 k0 hn1 hs1
  by_cases h1 : x.toNat < 128
  · have d1 : decide ((x.toNat : Int) < 128) = true := by simp; omega
    by_cases h2 : x.toNat < rl
    · have d2 : decide ((rl : Int) > (x.toNat : Int)) = true := by simp; omega
      have d2' : decide ((x.toNat : Int) < (rl : Int)) = true := by simp; omega
      rw [fst1_lit h1 (by rw [← HL.out]; exact h2)] at HF
      obtain ⟨rfl, rfl⟩ := Prod.mk.inj HF.out
      obtain ⟨g1, o1, rfl, hg1, hcl1⟩ : ∃ g o, A1 = some ⟨g, o, none⟩ ∧ g < w.heap.size ∧ ∀ (i : Nat) (y : UInt8), r[i]? = some y → w.cell? ⟨g, o + i, none⟩ = some (.int .u8 (y.toNat : Int)) := by
        rcases HR1.out with h | ⟨g, o, h1, h2, h3⟩
        · have := HL.out; rw [h] at this; simp at this; omega
        · exact ⟨g, o, h1, h2, h3⟩
      have s1 := fun W => slice_upto g1 o1 rl c1 (x.toNat + 1) (by have := HLc.out; omega) W
      obtain ⟨A2, s2, hr2⟩ := slice_tail rl c1 (x.toNat + 1) HL.out HR1.out (by omega) (by omega) HLc.out
      rw [show ((x.toNat + 1 : Nat) : Int) = (x.toNat : Int) + 1 by omega] at s1 s2
      have w1 : IntKind.i64.wrap ((x.toNat : Int) + 1) = (x.toNat : Int) + 1 := IntWalk.i64_in _ (by omega)
      have HR3 := Lib.hid hr2
      have hlit : Rd W0 W0.heap.size (some ⟨g1, o1, none⟩) (r.take (x.toNat + 1)) := ((HR1.out.take (x.toNat + 1)).below Hb1.out).more Hb1.out.size
      have HLit := Lib.hid hlit
      have hll : (r.take (x.toNat + 1)).length = x.toNat + 1 := by rw [List.length_take, ← HL.out]; omega
      have HLl := Lib.hid hll
      have HRl : Hid (rl - (x.toNat + 1) = (r.drop (x.toNat + 1)).length) := Lib.hid (by rw [List.length_drop, HL.out])
      clear hlit hr2 hll hcl1
      go_wp2_with fail
      refine wp_region_G (belowG w.heap.size) (by kernel_rfl) ?_
      have HR4 := Lib.hid HR2.out.drew
      have Hb2 := Lib.hid Hb1.out.drew
      have HLit2 : Hid (Rd W0.drew W0.drew.heap.size (some ⟨g1, o1, none⟩) (r.take (x.toNat + 1))) := HLit
      clear HR2 Hb1 HLit
      generalize W0.drew = W1 at *
      refine segG (by kernel_rfl) (fun _ _ _ _ _ h => h) [0, 1, 2, 3, 6, 7, 8, 9] [_, _, _, _, _, _, _, _] 4 rfl rfl (by kernel_rfl) ?_
      repeat (go_big_quiet_step (fail))
      refine wpQuiet_nil ?_
      refine oneG 4 3 rfl (by kernel_rfl) rfl ?_
      go_wp2_with fail
      refine (cloneT_any W1 _ _ _ c1 HLl.out.symm (by omega) (by omega) HLit2.out).mono ?_
      rintro e w2 ⟨g2, cp2, rest2, rfl, hcp2, hg2, hB2, hb2⟩
      have HB2 := Lib.hid (hB2)
      have HR5 := Lib.hid (HR4.out.below hb2 HR4.out.lt)
      have Hb3 := Lib.hid (Hb2.out.trans (hb2.mono Hb2.out.size))
      have Hlt : Hid (w.heap.size ≤ W1.heap.size) := Lib.hid Hb2.out.size
      have HGr : Hid (Below w.heap.size W1 w2) := Lib.hid (hb2.mono Hb2.out.size)
      have hne : w.heap.size ≠ g2 := by have := HR4.out.lt; omega
      have hB3 := hB2.rowFar (g' := w.heap.size) (Ne.symm hne) (Tv.cells ⟨some ⟨g2, 0, none⟩, r.take (x.toNat + 1), cp2, 0, 0⟩).toArray
      have HB3 := Lib.hid hB3
      have HBt := Lib.hid (built_lit (some ⟨g2, 0, none⟩) (r.take (x.toNat + 1)) (x.toNat + 1) cp2 HLl.out.symm)
      have HSz := Lib.hid (size_T ⟨some ⟨g2, 0, none⟩, r.take (x.toNat + 1), cp2, 0, 0⟩)
      have HCp := Lib.hid hcp2
      have hl2 := load_T0 (t := ⟨some ⟨g2, 0, none⟩, r.take (x.toNat + 1), cp2, 0, 0⟩) (HR5.out.row (Tv.cells ⟨some ⟨g2, 0, none⟩, r.take (x.toNat + 1), cp2, 0, 0⟩))
      have HL2 := Lib.hid hl2
      obtain ⟨tv, htv⟩ : ∃ tv : Tv, tv = ⟨some ⟨g2, 0, none⟩, r.take (x.toNat + 1), cp2, 0, 0⟩ := ⟨_, rfl⟩
      rw [← htv] at HBt HSz HL2 HB3
      have HTv := Lib.hid htv
      have hcl : tv.cells.length = 3 := rfl
      have H1 := Lib.hid (fun u hu => cellsT_one [tv] u (by simpa [cellsT] using hu) : ∀ u ∈ tv.cells, u.oneCell' = true)
      clear hB2 hb2 hne hB3 hl2 htv hcl HR4 Hb2 hg2 HLit2
      go_wp2
      refine ⟨HGr.out, ?_⟩
      refine oneG 5 2 rfl (by kernel_rfl) rfl ?_
      refine wpList_build_w 41 #[(0, .tmp 26)] rfl (by simp [Act.eval]) HBt.out (by kernel_rfl) ?_
      go_wp2
      refine ⟨Below.refl _ _, ?_⟩
      simp only [Act.put, List.setIfInBounds_toArray, List.set]
      refine oneG 10 1 rfl (by kernel_rfl) rfl ?_
      refine wpList_store_arr rfl 41 (.tmp 2) (.tmp 27) w.heap.size zT tv.cells rfl rfl rfl rfl HR5.out HSz.out rfl H1.out ?_
      go_wp2
      refine ⟨below_setRow (Below.refl _ w2) (Nat.le_refl _) _, ?_⟩
      refine segG (by kernel_rfl) (fun _ _ _ _ _ h => h) [11] [_] 0 rfl rfl (by kernel_rfl) ?_
      repeat (go_big_quiet_step (fail))
      refine wpQuiet_nil ?_
      refine wpAnyG_done (by kernel_rfl) ?_
      go_wp2
      have hl2 := HL2.out
      refine bodyPost_ret (v := .tuple #[.agg tv.cells.toArray, .slice A2 (rl - (x.toNat + 1)) (c1 - (x.toNat + 1))]) ?_ rfl ⟨tv, _, _, _, rfl, by rw [HTv.out]; rfl, HRl.out, by have := HLc.out; omega, by rw [HTv.out]; exact .of_row (by rw [HTv.out] at HB3; exact HB3.out), by rw [HTv.out]; simp only; rw [HLl.out]; exact HCp.out, fun V C hV => HR3.out V C (HRV.out V C hV), below_setRow Hb3.out (Nat.le_refl _) _⟩
      generalize tv.cells.toArray = Y at hl2 ⊢
      simp [results, Try.results34, asAddr, hl2]
    · have d2 : decide ((x.toNat : Int) < (rl : Int)) = false := by simp; omega
      have d3 : decide ((x.toNat : Int) ≥ 128) = false := by simp; omega
      have d3' : decide ((128 : Int) ≤ (x.toNat : Int)) = false := by simp; omega
      rw [fst1_no (.inl ⟨h1, by rw [← HL.out]; exact h2⟩)] at HF
      obtain ⟨rfl, rfl⟩ := Prod.mk.inj HF.out
      have hB0 := Lib.hid built_none0
      have hl2 := load_T0 (t := ⟨none, [], 0, 0, 0⟩) (HR2.out.row zT)
      have HL2 := Lib.hid hl2
      have H1 : Hid (∀ u ∈ zT, u.oneCell' = true) := Lib.hid (fun u hu => cellsT_one [⟨none, [], 0, 0, 0⟩] u (by simpa [cellsT, zT, Tv.cells] using hu))
      have HSz : Hid ((Try.prog.info? 41).map (·.size) = some zT.length) := Lib.hid (size_T ⟨none, [], 0, 0, 0⟩)
      clear hl2
      go_wp2_with (first | refine wpList_build_w 41 #[] rfl (by simp [Act.eval]) hB0.out (by kernel_rfl) ?_ | refine wpList_store_arr rfl 41 (.tmp 2) (.tmp 58) w.heap.size zT zT rfl rfl rfl rfl HR2.out HSz.out rfl H1.out ?_)
      have hl2 := HL2.out
      refine bodyPost_ret (v := .tuple #[.agg zT.toArray, .slice none 0 0]) ?_ rfl ⟨⟨none, [], 0, 0, 0⟩, none, 0, 0, rfl, rfl, rfl, Nat.le_refl _, .inl rfl, Nat.le_refl _, fun _ _ _ => .inl rfl, below_setRow Hb1.out (Nat.le_refl _) _⟩
      change (loadVar 41 ⟨w.heap.size, 0, none⟩).run Try.prog _ = .ok (.agg zT.toArray) _ at hl2
      generalize zT.toArray = Y at hl2 ⊢
      simp [results, Try.results34, asAddr, hl2]
  · have d1 : decide ((x.toNat : Int) < 128) = false := by simp; omega
    have d3 : decide ((128 : Int) ≤ (x.toNat : Int)) = true := by simp; omega
    by_cases h2 : 2 ≤ rl
    · have d4 : decide ((2 : Int) ≤ (rl : Int)) = true := by simp; omega
      rw [fst1_mat h1 (by rw [← HL.out]; exact h2)] at HF
      obtain ⟨rfl, rfl⟩ := Prod.mk.inj HF.out
      obtain ⟨g1, o1, rfl, hg1, hcl1⟩ : ∃ g o, A1 = some ⟨g, o, none⟩ ∧ g < w.heap.size ∧ ∀ (i : Nat) (y : UInt8), r[i]? = some y → w.cell? ⟨g, o + i, none⟩ = some (.int .u8 (y.toNat : Int)) := by
        rcases HR1.out with h | ⟨g, o, h1, h2, h3⟩
        · have := HL.out; rw [h] at this; simp at this; omega
        · exact ⟨g, o, h1, h2, h3⟩
      obtain ⟨A2, s2, hr2⟩ := slice_tail rl c1 2 HL.out HR1.out (by omega) (by omega) HLc.out
      rw [show ((2 : Nat) : Int) = 2 from rfl] at s2
      have HR3 := Lib.hid hr2
      have HRl : Hid (rl - 2 = (r.drop 2).length) := Lib.hid (by rw [List.length_drop, HL.out])
      obtain ⟨y, hy⟩ : ∃ y, r[0]? = some y := ⟨_, List.getElem?_eq_getElem (by rw [← HL.out]; omega)⟩
      obtain ⟨z, hz⟩ : ∃ z, r[1]? = some z := ⟨_, List.getElem?_eq_getElem (by rw [← HL.out]; omega)⟩
      have k1 := (Hb1.out.cell (p := ⟨g1, o1 + 0, none⟩) hg1).trans (hcl1 0 y hy)
      have k2 := (Hb1.out.cell (p := ⟨g1, o1 + 1, none⟩) hg1).trans (hcl1 1 z hz)
      rw [Nat.add_zero] at k1
      have hy8 := y.toNat_lt
      have hz8 := z.toNat_lt
      have HD : Hid ((((256 * (r.getD 0 0).toNat + (r.getD 1 0).toNat + 1 : Nat) : Int)) = 256 * (y.toNat : Int) + (z.toNat : Int) + 1) := Lib.hid (by
        rw [List.getD_eq_getElem?_getD, List.getD_eq_getElem?_getD, hy, hz]
        simp only [Option.getD_some]; omega)
      have l0 : (0 : Int) < (rl : Int) := by omega
      have l1 : (1 : Int) < (rl : Int) := by omega
      have Hbd : Hid (∀ q, Below W0.heap.size W0 (W0.drewN q)) := Lib.hid (fun q => by have h := Below.refl W0.heap.size W0; exact ⟨h.os, h.tape, h.output, h.size, h.block⟩)
      clear hr2 hcl1 hy hz
      go_wp2_with fail
      go_quiet (fail)
      go_wp2_with fail
      have hbq := Hbd.out nq
      have HR4 := Lib.hid (show Blk (W0.drewN nq) w.heap.size 41 zT from HR2.out.drewN nq)
      have Hb2 := Lib.hid (Hb1.out.trans (hbq.mono Hb1.out.size))
      obtain ⟨W1, hW1⟩ : ∃ W1, W0.drewN nq = W1 := ⟨_, rfl⟩
      rw [hW1] at HR4 Hb2 ⊢
      refine wp_region_G (belowG w.heap.size) (by kernel_rfl) ?_
      clear hW1 hbq HR2 Hb1 Hbd k1 k2 l0 l1
      have HR5 := Lib.hid HR4.out.drew
      have Hb3 := Lib.hid Hb2.out.drew
      clear HR4 Hb2
      generalize W1.drew = W2 at *
      have HD2 := HD.out
      generalize hxn : x.toNat = xn at *
      have HXn := Lib.hid hxn
      clear hxn
      generalize y.toNat = yn at *
      generalize z.toNat = zn at *
      have w1 : IntKind.i64.wrap ((xn : Int) - 128) = (xn : Int) - 128 := IntWalk.i64_in _ (by omega)
      have w2 : IntKind.i64.wrap ((xn : Int) - 128 + 3) = (xn : Int) - 125 := (IntWalk.i64_in _ (by omega)).trans (by omega)
      have w3 : IntKind.i64.wrap ((yn : Int) * 256 + (zn : Int) + 1) = 256 * (yn : Int) + (zn : Int) + 1 := (IntWalk.i64_in _ (by omega)).trans (by omega)
      refine segG (by kernel_rfl) (fun _ _ _ _ _ h => h) [0, 1, 2, 3, 4, 6, 7] [_, _, _, _, _, _, _] 3 rfl rfl (by kernel_rfl) ?_
      repeat (go_big_quiet_step (fail))
      refine wpQuiet_nil ?_
      clear s2
      have HBt := Lib.hid (built_match ((xn : Int) - 125) (256 * (yn : Int) + (zn : Int) + 1))
      have HSz := Lib.hid (size_T ⟨none, [], 0, (xn : Int) - 125, 256 * (yn : Int) + (zn : Int) + 1⟩)
      have H1 : Hid (∀ u ∈ Tv.cells ⟨none, [], 0, (xn : Int) - 125, 256 * (yn : Int) + (zn : Int) + 1⟩, u.oneCell' = true) := Lib.hid (fun u hu => cellsT_one [⟨none, [], 0, (xn : Int) - 125, 256 * (yn : Int) + (zn : Int) + 1⟩] u (by simpa [cellsT] using hu))
      have hl2 := load_T0 (t := ⟨none, [], 0, (xn : Int) - 125, 256 * (yn : Int) + (zn : Int) + 1⟩) (HR5.out.row (Tv.cells ⟨none, [], 0, (xn : Int) - 125, 256 * (yn : Int) + (zn : Int) + 1⟩))
      have HL2 := Lib.hid hl2
      clear hl2
      refine oneG 5 2 rfl (by kernel_rfl) rfl ?_
      refine wpList_build_w 41 #[(1, .tmp 52), (2, .tmp 54)] rfl (by simp [Act.eval]) HBt.out (by kernel_rfl) ?_
      clear w1 w2 w3
      go_wp2
      refine ⟨Below.refl _ _, ?_⟩
      simp only [Act.put, List.setIfInBounds_toArray, List.set]
      refine oneG 8 1 rfl (by kernel_rfl) rfl ?_
      refine wpList_store_arr rfl 41 (.tmp 2) (.tmp 55) w.heap.size zT (Tv.cells ⟨none, [], 0, (xn : Int) - 125, 256 * (yn : Int) + (zn : Int) + 1⟩) rfl rfl rfl rfl HR5.out HSz.out rfl H1.out ?_
      go_wp2
      refine ⟨below_setRow (Below.refl _ W2) (Nat.le_refl _) _, ?_⟩
      refine segG (by kernel_rfl) (fun _ _ _ _ _ h => h) [9] [_] 0 rfl rfl (by kernel_rfl) ?_
      repeat (go_big_quiet_step (fail))
      refine wpQuiet_nil ?_
      refine wpAnyG_done (by kernel_rfl) ?_
      go_wp2
      have hl2 := HL2.out
      refine bodyPost_ret (v := .tuple #[.agg (Tv.cells ⟨none, [], 0, (xn : Int) - 125, 256 * (yn : Int) + (zn : Int) + 1⟩).toArray, .slice A2 (rl - 2) (c1 - 2)]) ?_ rfl ⟨⟨none, [], 0, (xn : Int) - 125, 256 * (yn : Int) + (zn : Int) + 1⟩, _, _, _, rfl, ?_, HRl.out, by have := HLc.out; omega, .inl rfl, Nat.le_refl _, fun V C hV => HR3.out V C (HRV.out V C hV), below_setRow Hb3.out (Nat.le_refl _) _⟩
      · generalize (Tv.cells ⟨none, [], 0, (xn : Int) - 125, 256 * (yn : Int) + (zn : Int) + 1⟩).toArray = Y at hl2 ⊢
        simp [results, Try.results34, asAddr, hl2]
      · unfold Tv.tok
        simp only [Lz.Tok.mk.injEq, true_and]
        exact ⟨by rw [HXn.out], HD2.symm⟩
    · have d4 : decide ((2 : Int) ≤ (rl : Int)) = false := by simp; omega
      rw [fst1_no (.inr ⟨h1, by rw [← HL.out]; exact h2⟩)] at HF
      obtain ⟨rfl, rfl⟩ := Prod.mk.inj HF.out
      have hB0 := Lib.hid built_none0
      have hl2 := load_T0 (t := ⟨none, [], 0, 0, 0⟩) (HR2.out.row zT)
      have HL2 := Lib.hid hl2
      have H1 : Hid (∀ u ∈ zT, u.oneCell' = true) := Lib.hid (fun u hu => cellsT_one [⟨none, [], 0, 0, 0⟩] u (by simpa [cellsT, zT, Tv.cells] using hu))
      have HSz : Hid ((Try.prog.info? 41).map (·.size) = some zT.length) := Lib.hid (size_T ⟨none, [], 0, 0, 0⟩)
      clear hl2
      go_wp2_with (first | refine wpList_build_w 41 #[] rfl (by simp [Act.eval]) hB0.out (by kernel_rfl) ?_ | refine wpList_store_arr rfl 41 (.tmp 2) (.tmp 58) w.heap.size zT zT rfl rfl rfl rfl HR2.out HSz.out rfl H1.out ?_)
      have hl2 := HL2.out
      refine bodyPost_ret (v := .tuple #[.agg zT.toArray, .slice none 0 0]) ?_ rfl ⟨⟨none, [], 0, 0, 0⟩, none, 0, 0, rfl, rfl, rfl, Nat.le_refl _, .inl rfl, Nat.le_refl _, fun _ _ _ => .inl rfl, below_setRow Hb1.out (Nat.le_refl _) _⟩
      change (loadVar 41 ⟨w.heap.size, 0, none⟩).run Try.prog _ = .ok (.agg zT.toArray) _ at hl2
      generalize zT.toArray = Y at hl2 ⊢
      simp [results, Try.results34, asAddr, hl2]
end Go.Proofs.Ytjapohddfelgkaa
