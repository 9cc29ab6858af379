/-
  The landed token: first: its contract. The landed token: first: its contract. The landed token: withToken and Encode: their contracts. The landed token: Encode: its contract.
-/
import Derived.Test.YtdipflchmooakaaGreatDoorWholeJ31
import Derived.Test.YtdipflchmooakaaGreatDoorWholeJ24
import Derived.Lib.LazyBuf
import Derived.IntWalk
import Derived.Test.YtdipflchmooakaaGreatDoorWholeJ04
set_option maxRecDepth 100000
namespace Go.Gar.Lz
/-- The token that bytes begin with, and the bytes behind it; or the zero token. -/
def fst1 : List UInt8 → Tok × List UInt8
  | [] => (⟨[], 0, 0⟩, [])
  | c :: r => if c.toNat < 128 then (if c.toNat < r.length then (⟨r.take (c.toNat + 1), 0, 0⟩, r.drop (c.toNat + 1)) else (⟨[], 0, 0⟩, []))
    else if 2 ≤ r.length then (⟨[], (c.toNat : Int) - 125, ((256 * (r.getD 0 0).toNat + (r.getD 1 0).toNat + 1 : Nat) : Int)⟩, r.drop 2) else (⟨[], 0, 0⟩, [])
theorem good_zero : good ⟨[], 0, 0⟩ = false := by decide
theorem good_far {n d : Int} (h : 4096 < d) : good ⟨[], n, d⟩ = false := by
  cases hg : good ⟨[], n, d⟩ with
  | false => rfl
  | true => have := (good_len hg).2.2.2.1; simp only at this; omega
theorem more_fst1 {b : List UInt8} (h : 0 < b.length) (out : List Tok) : more b out = if good (fst1 b).1 = false then (12, []) else more (fst1 b).2 (out ++ [(fst1 b).1]) := by
  match b, h with
  | c :: r, _ =>
    by_cases hc : c.toNat < 128
    · rw [more_lit _ _ _ (by omega), fst1, if_pos hc]
      by_cases hr : c.toNat < r.length
      · rw [if_neg (by omega), if_pos hr]
        have hl : (r.take (c.toNat + 1)).length = c.toNat + 1 := by rw [List.length_take]; omega
        have hg := good_lit (l := r.take (c.toNat + 1)) (fun e => by rw [e] at hl; simp at hl) (by omega)
        rw [if_neg (by simp only [hg]; simp)]
      · rw [if_pos (by omega), if_neg hr, if_pos good_zero]
    · rw [more_long _ _ _ (by omega), fst1, if_neg hc]
      by_cases hr : 2 ≤ r.length
      · rw [if_neg (by omega), if_pos hr]
        by_cases hd : 4096 < 256 * (r.getD 0 0).toNat + (r.getD 1 0).toNat + 1
        · rw [if_pos hd, if_pos (good_far (by omega))]
        · rw [if_neg hd]
          have hc8 := c.toNat_lt
          have hcn : (c.toNat : Int) - 125 = ((c.toNat - 125 : Nat) : Int) := by omega
          have hg := good_match (n := c.toNat - 125) (d := 256 * (r.getD 0 0).toNat + (r.getD 1 0).toNat + 1) (by omega) (by omega) (by omega) (by omega)
          rw [← hcn] at hg
          rw [if_neg (by simp only [hg]; simp)]
      · rw [if_pos (by omega), if_neg hr, if_pos good_zero]
theorem fst1_len {b : List UInt8} (h : 0 < b.length) : (fst1 b).2.length < b.length := by
  match b, h with
  | c :: r, _ =>
    rw [fst1, List.length_cons]
    split
    · split
      · rw [List.length_drop]; omega
      · simp
    · split
      · rw [List.length_drop]; omega
      · simp
end Go.Gar.Lz
namespace Go.Proofs.YtdipflchmooakaaGreatDoor
open Go.RowKit Go.Gar

/-- A cut from a place on, also at the very end. -/
theorem slice_tail {W0 : World} {B : Nat} {A : Option Addr} {b : List UInt8} (n c k : Nat) (hn : n = b.length) (hr : Rd W0 B A b) (h0 : 0 < n) (hk : k ≤ n) (hc : n ≤ c) :
    ∃ A', (∀ W, (Instr.sliceAt 23 (.slice A n c) (some (.int .i64 (k : Int))) none none).run Tryz.prog W = .ok (.slice A' (n - k) (c - k)) W) ∧ ∀ (V : World) (C : Nat), Rd V C A b → Rd V C A' (b.drop k) := by
  rcases hr with h | ⟨g, o, rfl, hg, hcl⟩
  · rw [hn, h] at h0; simp at h0
  · by_cases hkc : k < c
    · refine ⟨_, fun W => slice_from g o n c k hk hkc W, fun V C hV => ?_⟩
      rcases hV with h | ⟨g', o', e, hg, hcl⟩
      · rw [hn, h] at h0; simp at h0
      · obtain ⟨rfl, rfl⟩ : g = g' ∧ o = o' := by simpa using e
        refine .inr ⟨g, o + k, rfl, hg, fun i x hx => ?_⟩
        rw [List.getElem?_drop] at hx
        rw [Nat.add_assoc]
        exact hcl _ x hx
    · obtain rfl : k = c := by omega
      obtain rfl : k = n := by omega
      refine ⟨some ⟨g, o, none⟩, fun W => ?_, fun _ _ _ => .inl (List.drop_eq_nil_of_le (by omega))⟩
      obtain ⟨i, hi, hs⟩ := Option.map_eq_some_iff.1 Tryz.size5
      simp [Instr.sliceAt, Instr.sliceBounds, Instr.sureAddr, run_underlying Tryz.und22 W, sizeOf, typeInfo, hi, hs, go_sem]

set_option maxHeartbeats 1000000 in
theorem cloneT_any (w : World) (A : Option Addr) (b : List UInt8) (n c : Nat) (hn : n = b.length) (h0 : 0 < n) (hl : n ≤ 1048576) (hr : Rd w w.heap.size A b) :
    Calls Tryz.prog 52 #[.slice A n c] w fun e w' => ∃ g cp rest, e = .returned (.slice (some ⟨g, 0, none⟩) n cp) ∧ n ≤ cp ∧ w.heap.size ≤ g ∧ Blk w' g 5 (u8s b ++ rest) ∧ Below w.heap.size w w' := by
  have hne : ∃ p, A = some p := by
    rcases hr with h | ⟨g, o, e, _⟩
    · rw [hn, h] at h0; exact absurd h0 (by simp)
    · exact ⟨_, e⟩
  obtain ⟨p, rfl⟩ := hne
  have hO := own_made w w.heap.size 5 (Nat.le_refl _)
  have hb0 := below_alloc w (.cells #[] 5)
  obtain ⟨v1, w1, e1, ho1, hb1, _⟩ := app_rd (P := Tryz.prog) 23 23 Tryz.und22 Tryz.info5 hO (by rw [World.size_alloc]; omega) c (hr.below hb0) (by simp; omega)
  rw [List.nil_append] at ho1
  rw [← hn] at e1
  obtain ⟨g, cp, rest, rfl, hg, hcp, hB⟩ := ho1.blk (by omega)
  rw [← hn] at hcp e1
  have Hb1 := Lib.hid (hb0.trans hb1)
  have HB := Lib.hid hB
  have Hcp := Lib.hid hcp
  have Hg := Lib.hid hg
  have hq := run_eql_slice_nil (P := Tryz.prog) w 23 5 (some p) n c Tryz.und22
  rw [Option.isNone_some] at hq
  clear hO hb0 hb1 ho1 hg hcp hB hr hn
  go_enter Tryz.func52, Tryz.ntmps52
  go_wp2_with (at_builtin; refine wpList_append_run rfl (.tmp 5) (.tmp 6) _ rfl rfl rfl e1 ?_)
  go_ret
  exact ⟨g, cp, rest, rfl, Hcp.out, Hg.out, HB.out, Hb1.out⟩
end Go.Proofs.YtdipflchmooakaaGreatDoor
namespace Go.Proofs.YtdipflchmooakaaGreatDoor
open Go.RowKit Go.Gar

theorem built_none0 : Tryz.prog.built 61 [] = some #[.slice none 0 0, .int .i64 0, .int .i64 0] := built_tok _ _ rfl
theorem fst1_lit {x : UInt8} {r : List UInt8} (h1 : x.toNat < 128) (h2 : x.toNat < r.length) : Lz.fst1 (x :: r) = (⟨r.take (x.toNat + 1), 0, 0⟩, r.drop (x.toNat + 1)) := by
  rw [Lz.fst1, if_pos h1, if_pos h2]
theorem fst1_mat {x : UInt8} {r : List UInt8} (h1 : ¬ x.toNat < 128) (h2 : 2 ≤ r.length) : Lz.fst1 (x :: r) = (⟨[], (x.toNat : Int) - 125, ((256 * (r.getD 0 0).toNat + (r.getD 1 0).toNat + 1 : Nat) : Int)⟩, r.drop 2) := by
  rw [Lz.fst1, if_neg h1, if_pos h2]
theorem fst1_no {x : UInt8} {r : List UInt8} (h : (x.toNat < 128 ∧ ¬ x.toNat < r.length) ∨ (¬ x.toNat < 128 ∧ ¬ 2 ≤ r.length)) : Lz.fst1 (x :: r) = (⟨[], 0, 0⟩, []) := by
  rw [Lz.fst1]
  rcases h with ⟨h1, h2⟩ | ⟨h1, h2⟩
  · rw [if_pos h1, if_neg h2]
  · rw [if_neg h1, if_neg h2]

set_option maxHeartbeats 2000000 in
theorem first_any (w : World) (A : Option Addr) (b : List UInt8) (n c : Nat) (hn : n = b.length) (h0 : 0 < n) (hc : n ≤ c) (hl : n ≤ 100000) (hr : Rd w w.heap.size A b) (T : Lz.Tok) (R : List UInt8) (hf : Lz.fst1 b = (T, R)) :
    Calls Tryz.prog 88 #[.slice A n c] w fun e w' => ∃ t A' m c', e = .returned (.tuple #[.agg (Tv.cells t).toArray, .slice A' m c']) ∧ t.tok = T ∧ m = R.length ∧ m ≤ c' ∧ RdB w' 5 t.A t.l ∧ t.l.length ≤ t.c ∧ (∀ (V : World) (C : Nat), Rd V C A b → Rd V C A' R) ∧ Below w.heap.size w w' := by
  obtain ⟨x, r, rfl⟩ : ∃ x r, b = x :: r := by
    cases b with
    | nil => rw [hn] at h0; simp at h0
    | cons x r => exact ⟨x, r, rfl⟩
  obtain ⟨g, o, rfl, hgB, hcell⟩ : ∃ g o, A = some ⟨g, o, none⟩ ∧ g < w.heap.size ∧ ∀ (i : Nat) (y : UInt8), (x :: r)[i]? = some y → w.cell? ⟨g, o + i, none⟩ = some (.int .u8 (y.toNat : Int)) := by
    rcases hr with h | ⟨g, o, h1, h2, h3⟩
    · cases h
    · exact ⟨g, o, h1, h2, h3⟩
  obtain ⟨A1, hs1, hrV⟩ := slice_tail n c 1 hn hr h0 (by omega) hc
  rw [show (x :: r).drop 1 = r from rfl] at hrV
  have hr1 := hrV _ _ hr
  have HRV := Lib.hid hrV
  rw [show ((1 : Nat) : Int) = 1 from rfl] at hs1
  obtain ⟨rl, hrl⟩ : ∃ rl, rl = n - 1 := ⟨_, rfl⟩
  have hrl2 : rl = r.length := by rw [hrl, hn, List.length_cons]; omega
  rw [← hrl] at hs1
  obtain ⟨c1, hc1⟩ : ∃ c1, c1 = c - 1 := ⟨_, rfl⟩
  have hlc1 : rl ≤ c1 := by omega
  rw [← hc1] at hs1
  have hR0 := Blk.new w 61 zT
  have hb0 := below_alloc w (.cells zT.toArray 61)
  obtain ⟨w0, hw0⟩ : ∃ w0, w.alloc (.cells zT.toArray 61) = w0 := ⟨_, rfl⟩
  rw [hw0] at hR0 hb0
  have k0 := (hb0.cell (p := ⟨g, o + 0, none⟩) hgB).trans (hcell 0 x rfl)
  rw [Nat.add_zero] at k0
  have hx8 := x.toNat_lt
  have hn1 : (0 : Int) < (n : Int) := by omega
  have HW0 := Lib.hid hw0
  have HR0 := Lib.hid hR0
  have Hb0 := Lib.hid hb0
  have HF := Lib.hid hf
  have HR1 := Lib.hid hr1
  have HL := Lib.hid hrl2
  have HLc := Lib.hid hlc1
  have HN := Lib.hid hn
  clear hw0 hR0 hb0 hf hr1 hrV hrl2 hrl hc1 hn hr hcell hlc1
  go_enter Tryz.func88, Tryz.ntmps88
  go_wp2_with (refine wpList_alloc_arr rfl 61 zT.toArray rfl zero_T ?_; rw [HW0.out])
  go_quiet (fail)
  have Hb1 : Hid (Below w.heap.size w (w0.drewN nq)) := Lib.hid (by have h := Hb0.out; exact ⟨h.os, h.tape, h.output, h.size, h.block⟩)
  have HR2 : Hid (Blk (w0.drewN nq) w.heap.size 61 zT) := Lib.hid (HR0.out.drewN nq)
  obtain ⟨W0, hW0⟩ : ∃ W0, w0.drewN nq = W0 := ⟨_, rfl⟩
  rw [hW0] at Hb1 HR2 ⊢
  clear hW0 HW0 HR0 Hb0 k0 hn1 hs1
  by_cases h1 : x.toNat < 128
  · have d1 : decide ((x.toNat : Int) < 128) = true := by simp; omega
    by_cases h2 : x.toNat < rl
    · have d2 : decide ((rl : Int) > (x.toNat : Int)) = true := by simp; omega
      have d2' : decide ((x.toNat : Int) < (rl : Int)) = true := by simp; omega
      rw [fst1_lit h1 (by rw [← HL.out]; exact h2)] at HF
      obtain ⟨rfl, rfl⟩ := Prod.mk.inj HF.out
      obtain ⟨g1, o1, rfl, hg1, hcl1⟩ : ∃ g o, A1 = some ⟨g, o, none⟩ ∧ g < w.heap.size ∧ ∀ (i : Nat) (y : UInt8), r[i]? = some y → w.cell? ⟨g, o + i, none⟩ = some (.int .u8 (y.toNat : Int)) := by
        rcases HR1.out with h | ⟨g, o, h1, h2, h3⟩
        · have := HL.out; rw [h] at this; simp at this; omega
        · exact ⟨g, o, h1, h2, h3⟩
      have s1 := fun W => slice_upto g1 o1 rl c1 (x.toNat + 1) (by have := HLc.out; omega) W
      obtain ⟨A2, s2, hr2⟩ := slice_tail rl c1 (x.toNat + 1) HL.out HR1.out (by omega) (by omega) HLc.out
      rw [show ((x.toNat + 1 : Nat) : Int) = (x.toNat : Int) + 1 by omega] at s1 s2
      have w1 : IntKind.i64.wrap ((x.toNat : Int) + 1) = (x.toNat : Int) + 1 := IntWalk.i64_in _ (by omega)
      have HR3 := Lib.hid hr2
      have hlit : Rd W0 W0.heap.size (some ⟨g1, o1, none⟩) (r.take (x.toNat + 1)) := ((HR1.out.take (x.toNat + 1)).below Hb1.out).more Hb1.out.size
      have HLit := Lib.hid hlit
      have hll : (r.take (x.toNat + 1)).length = x.toNat + 1 := by rw [List.length_take, ← HL.out]; omega
      have HLl := Lib.hid hll
      have HRl : Hid (rl - (x.toNat + 1) = (r.drop (x.toNat + 1)).length) := Lib.hid (by rw [List.length_drop, HL.out])
      clear hlit hr2 hll hcl1
      go_wp2_with fail
      refine wp_region_G (belowG w.heap.size) (by kernel_rfl) ?_
      have HR4 := Lib.hid HR2.out.drew
      have Hb2 := Lib.hid Hb1.out.drew
      have HLit2 : Hid (Rd W0.drew W0.drew.heap.size (some ⟨g1, o1, none⟩) (r.take (x.toNat + 1))) := HLit
      clear HR2 Hb1 HLit
      generalize W0.drew = W1 at *
      refine segG (by kernel_rfl) (fun _ _ _ _ _ h => h) [0, 1, 2, 3, 6, 7, 8, 9] [_, _, _, _, _, _, _, _] 4 rfl rfl (by kernel_rfl) ?_
      repeat (go_big_quiet_step (fail))
      refine wpQuiet_nil ?_
      refine oneG 4 3 rfl (by kernel_rfl) rfl ?_
      go_wp2_with fail
      refine (cloneT_any W1 _ _ _ c1 HLl.out.symm (by omega) (by omega) HLit2.out).mono ?_
      rintro e w2 ⟨g2, cp2, rest2, rfl, hcp2, hg2, hB2, hb2⟩
      have HB2 := Lib.hid (hB2)
      have HR5 := Lib.hid (HR4.out.below hb2 HR4.out.lt)
      have Hb3 := Lib.hid (Hb2.out.trans (hb2.mono Hb2.out.size))
      have Hlt : Hid (w.heap.size ≤ W1.heap.size) := Lib.hid Hb2.out.size
      have HGr : Hid (Below w.heap.size W1 w2) := Lib.hid (hb2.mono Hb2.out.size)
      have hne : w.heap.size ≠ g2 := by have := HR4.out.lt; omega
      have hB3 := hB2.rowFar (g' := w.heap.size) (Ne.symm hne) (Tv.cells ⟨some ⟨g2, 0, none⟩, r.take (x.toNat + 1), cp2, 0, 0⟩).toArray
      have HB3 := Lib.hid hB3
      have HBt := Lib.hid (built_lit (some ⟨g2, 0, none⟩) (r.take (x.toNat + 1)) (x.toNat + 1) cp2 HLl.out.symm)
      have HSz := Lib.hid (size_T ⟨some ⟨g2, 0, none⟩, r.take (x.toNat + 1), cp2, 0, 0⟩)
      have HCp := Lib.hid hcp2
      have hl2 := load_T0 (t := ⟨some ⟨g2, 0, none⟩, r.take (x.toNat + 1), cp2, 0, 0⟩) (HR5.out.row (Tv.cells ⟨some ⟨g2, 0, none⟩, r.take (x.toNat + 1), cp2, 0, 0⟩))
      have HL2 := Lib.hid hl2
      obtain ⟨tv, htv⟩ : ∃ tv : Tv, tv = ⟨some ⟨g2, 0, none⟩, r.take (x.toNat + 1), cp2, 0, 0⟩ := ⟨_, rfl⟩
      rw [← htv] at HBt HSz HL2 HB3
      have HTv := Lib.hid htv
      have hcl : tv.cells.length = 3 := rfl
      have H1 := Lib.hid (fun u hu => cellsT_one [tv] u (by simpa [cellsT] using hu) : ∀ u ∈ tv.cells, u.oneCell' = true)
      clear hB2 hb2 hne hB3 hl2 htv hcl HR4 Hb2 hg2 HLit2
      go_wp2
      refine ⟨HGr.out, ?_⟩
      refine oneG 5 2 rfl (by kernel_rfl) rfl ?_
      refine wpList_build_w 61 #[(0, .tmp 26)] rfl (by simp [Act.eval]) HBt.out (by kernel_rfl) ?_
      go_wp2
      refine ⟨Below.refl _ _, ?_⟩
      simp only [Act.put, List.setIfInBounds_toArray, List.set]
      refine oneG 10 1 rfl (by kernel_rfl) rfl ?_
      refine wpList_store_arr rfl 61 (.tmp 2) (.tmp 27) w.heap.size zT tv.cells rfl rfl rfl rfl HR5.out HSz.out rfl H1.out ?_
      go_wp2
      refine ⟨below_setRow (Below.refl _ w2) (Nat.le_refl _) _, ?_⟩
      refine segG (by kernel_rfl) (fun _ _ _ _ _ h => h) [11] [_] 0 rfl rfl (by kernel_rfl) ?_
      repeat (go_big_quiet_step (fail))
      refine wpQuiet_nil ?_
      refine wpAnyG_done (by kernel_rfl) ?_
      go_wp2
      have hl2 := HL2.out
      refine bodyPost_ret (v := .tuple #[.agg tv.cells.toArray, .slice A2 (rl - (x.toNat + 1)) (c1 - (x.toNat + 1))]) ?_ rfl ⟨tv, _, _, _, rfl, by rw [HTv.out]; rfl, HRl.out, by have := HLc.out; omega, by rw [HTv.out]; exact .of_row (by rw [HTv.out] at HB3; exact HB3.out), by rw [HTv.out]; simp only; rw [HLl.out]; exact HCp.out, fun V C hV => HR3.out V C (HRV.out V C hV), below_setRow Hb3.out (Nat.le_refl _) _⟩
      generalize tv.cells.toArray = Y at hl2 ⊢
      simp [results, Tryz.results88, asAddr, hl2]
    · have d2 : decide ((x.toNat : Int) < (rl : Int)) = false := by simp; omega
      have d3 : decide ((x.toNat : Int) ≥ 128) = false := by simp; omega
      have d3' : decide ((128 : Int) ≤ (x.toNat : Int)) = false := by simp; omega
      rw [fst1_no (.inl ⟨h1, by rw [← HL.out]; exact h2⟩)] at HF
      obtain ⟨rfl, rfl⟩ := Prod.mk.inj HF.out
      have hB0 := Lib.hid built_none0
      have hl2 := load_T0 (t := ⟨none, [], 0, 0, 0⟩) (HR2.out.row zT)
      have HL2 := Lib.hid hl2
      have H1 : Hid (∀ u ∈ zT, u.oneCell' = true) := Lib.hid (fun u hu => cellsT_one [⟨none, [], 0, 0, 0⟩] u (by simpa [cellsT, zT, Tv.cells] using hu))
      have HSz : Hid ((Tryz.prog.info? 61).map (·.size) = some zT.length) := Lib.hid (size_T ⟨none, [], 0, 0, 0⟩)
      clear hl2
      go_wp2_with (first | refine wpList_build_w 61 #[] rfl (by simp [Act.eval]) hB0.out (by kernel_rfl) ?_ | refine wpList_store_arr rfl 61 (.tmp 2) (.tmp 58) w.heap.size zT zT rfl rfl rfl rfl HR2.out HSz.out rfl H1.out ?_)
      have hl2 := HL2.out
      refine bodyPost_ret (v := .tuple #[.agg zT.toArray, .slice none 0 0]) ?_ rfl ⟨⟨none, [], 0, 0, 0⟩, none, 0, 0, rfl, rfl, rfl, Nat.le_refl _, .inl rfl, Nat.le_refl _, fun _ _ _ => .inl rfl, below_setRow Hb1.out (Nat.le_refl _) _⟩
      change (loadVar 61 ⟨w.heap.size, 0, none⟩).run Tryz.prog _ = .ok (.agg zT.toArray) _ at hl2
      generalize zT.toArray = Y at hl2 ⊢
      simp [results, Tryz.results88, asAddr, hl2]
  · have d1 : decide ((x.toNat : Int) < 128) = false := by simp; omega
    have d3 : decide ((128 : Int) ≤ (x.toNat : Int)) = true := by simp; omega
    by_cases h2 : 2 ≤ rl
    · have d4 : decide ((2 : Int) ≤ (rl : Int)) = true := by simp; omega
      rw [fst1_mat h1 (by rw [← HL.out]; exact h2)] at HF
      obtain ⟨rfl, rfl⟩ := Prod.mk.inj HF.out
      obtain ⟨g1, o1, rfl, hg1, hcl1⟩ : ∃ g o, A1 = some ⟨g, o, none⟩ ∧ g < w.heap.size ∧ ∀ (i : Nat) (y : UInt8), r[i]? = some y → w.cell? ⟨g, o + i, none⟩ = some (.int .u8 (y.toNat : Int)) := by
        rcases HR1.out with h | ⟨g, o, h1, h2, h3⟩
        · have := HL.out; rw [h] at this; simp at this; omega
        · exact ⟨g, o, h1, h2, h3⟩
      obtain ⟨A2, s2, hr2⟩ := slice_tail rl c1 2 HL.out HR1.out (by omega) (by omega) HLc.out
      rw [show ((2 : Nat) : Int) = 2 from rfl] at s2
      have HR3 := Lib.hid hr2
      have HRl : Hid (rl - 2 = (r.drop 2).length) := Lib.hid (by rw [List.length_drop, HL.out])
      obtain ⟨y, hy⟩ : ∃ y, r[0]? = some y := ⟨_, List.getElem?_eq_getElem (by rw [← HL.out]; omega)⟩
      obtain ⟨z, hz⟩ : ∃ z, r[1]? = some z := ⟨_, List.getElem?_eq_getElem (by rw [← HL.out]; omega)⟩
      have k1 := (Hb1.out.cell (p := ⟨g1, o1 + 0, none⟩) hg1).trans (hcl1 0 y hy)
      have k2 := (Hb1.out.cell (p := ⟨g1, o1 + 1, none⟩) hg1).trans (hcl1 1 z hz)
      rw [Nat.add_zero] at k1
      have hy8 := y.toNat_lt
      have hz8 := z.toNat_lt
      have HD : Hid ((((256 * (r.getD 0 0).toNat + (r.getD 1 0).toNat + 1 : Nat) : Int)) = 256 * (y.toNat : Int) + (z.toNat : Int) + 1) := Lib.hid (by
        rw [List.getD_eq_getElem?_getD, List.getD_eq_getElem?_getD, hy, hz]
        simp only [Option.getD_some]; omega)
      have l0 : (0 : Int) < (rl : Int) := by omega
      have l1 : (1 : Int) < (rl : Int) := by omega
      have Hbd : Hid (∀ q, Below W0.heap.size W0 (W0.drewN q)) := Lib.hid (fun q => by have h := Below.refl W0.heap.size W0; exact ⟨h.os, h.tape, h.output, h.size, h.block⟩)
      clear hr2 hcl1 hy hz
      go_wp2_with fail
      go_quiet (fail)
      go_wp2_with fail
      have hbq := Hbd.out nq
      have HR4 := Lib.hid (show Blk (W0.drewN nq) w.heap.size 61 zT from HR2.out.drewN nq)
      have Hb2 := Lib.hid (Hb1.out.trans (hbq.mono Hb1.out.size))
      obtain ⟨W1, hW1⟩ : ∃ W1, W0.drewN nq = W1 := ⟨_, rfl⟩
      rw [hW1] at HR4 Hb2 ⊢
      refine wp_region_G (belowG w.heap.size) (by kernel_rfl) ?_
      clear hW1 hbq HR2 Hb1 Hbd k1 k2 l0 l1
      have HR5 := Lib.hid HR4.out.drew
      have Hb3 := Lib.hid Hb2.out.drew
      clear HR4 Hb2
      generalize W1.drew = W2 at *
      have HD2 := HD.out
      generalize hxn : x.toNat = xn at *
      have HXn := Lib.hid hxn
      clear hxn
      generalize y.toNat = yn at *
      generalize z.toNat = zn at *
      have w1 : IntKind.i64.wrap ((xn : Int) - 128) = (xn : Int) - 128 := IntWalk.i64_in _ (by omega)
      have w2 : IntKind.i64.wrap ((xn : Int) - 128 + 3) = (xn : Int) - 125 := (IntWalk.i64_in _ (by omega)).trans (by omega)
      have w3 : IntKind.i64.wrap ((yn : Int) * 256 + (zn : Int) + 1) = 256 * (yn : Int) + (zn : Int) + 1 := (IntWalk.i64_in _ (by omega)).trans (by omega)
      refine segG (by kernel_rfl) (fun _ _ _ _ _ h => h) [0, 1, 2, 3, 4, 6, 7] [_, _, _, _, _, _, _] 3 rfl rfl (by kernel_rfl) ?_
      repeat (go_big_quiet_step (fail))
      refine wpQuiet_nil ?_
      clear s2
      have HBt := Lib.hid (built_match ((xn : Int) - 125) (256 * (yn : Int) + (zn : Int) + 1))
      have HSz := Lib.hid (size_T ⟨none, [], 0, (xn : Int) - 125, 256 * (yn : Int) + (zn : Int) + 1⟩)
      have H1 : Hid (∀ u ∈ Tv.cells ⟨none, [], 0, (xn : Int) - 125, 256 * (yn : Int) + (zn : Int) + 1⟩, u.oneCell' = true) := Lib.hid (fun u hu => cellsT_one [⟨none, [], 0, (xn : Int) - 125, 256 * (yn : Int) + (zn : Int) + 1⟩] u (by simpa [cellsT] using hu))
      have hl2 := load_T0 (t := ⟨none, [], 0, (xn : Int) - 125, 256 * (yn : Int) + (zn : Int) + 1⟩) (HR5.out.row (Tv.cells ⟨none, [], 0, (xn : Int) - 125, 256 * (yn : Int) + (zn : Int) + 1⟩))
      have HL2 := Lib.hid hl2
      clear hl2
      refine oneG 5 2 rfl (by kernel_rfl) rfl ?_
      refine wpList_build_w 61 #[(1, .tmp 52), (2, .tmp 54)] rfl (by simp [Act.eval]) HBt.out (by kernel_rfl) ?_
      clear w1 w2 w3
      go_wp2
      refine ⟨Below.refl _ _, ?_⟩
      simp only [Act.put, List.setIfInBounds_toArray, List.set]
      refine oneG 8 1 rfl (by kernel_rfl) rfl ?_
      refine wpList_store_arr rfl 61 (.tmp 2) (.tmp 55) w.heap.size zT (Tv.cells ⟨none, [], 0, (xn : Int) - 125, 256 * (yn : Int) + (zn : Int) + 1⟩) rfl rfl rfl rfl HR5.out HSz.out rfl H1.out ?_
      go_wp2
      refine ⟨below_setRow (Below.refl _ W2) (Nat.le_refl _) _, ?_⟩
      refine segG (by kernel_rfl) (fun _ _ _ _ _ h => h) [9] [_] 0 rfl rfl (by kernel_rfl) ?_
      repeat (go_big_quiet_step (fail))
      refine wpQuiet_nil ?_
      refine wpAnyG_done (by kernel_rfl) ?_
      go_wp2
      have hl2 := HL2.out
      refine bodyPost_ret (v := .tuple #[.agg (Tv.cells ⟨none, [], 0, (xn : Int) - 125, 256 * (yn : Int) + (zn : Int) + 1⟩).toArray, .slice A2 (rl - 2) (c1 - 2)]) ?_ rfl ⟨⟨none, [], 0, (xn : Int) - 125, 256 * (yn : Int) + (zn : Int) + 1⟩, _, _, _, rfl, ?_, HRl.out, by have := HLc.out; omega, .inl rfl, Nat.le_refl _, fun V C hV => HR3.out V C (HRV.out V C hV), below_setRow Hb3.out (Nat.le_refl _) _⟩
      · generalize (Tv.cells ⟨none, [], 0, (xn : Int) - 125, 256 * (yn : Int) + (zn : Int) + 1⟩).toArray = Y at hl2 ⊢
        simp [results, Tryz.results88, asAddr, hl2]
      · unfold Tv.tok
        simp only [Lz.Tok.mk.injEq, true_and]
        exact ⟨by rw [HXn.out], HD2.symm⟩
    · have d4 : decide ((2 : Int) ≤ (rl : Int)) = false := by simp; omega
      rw [fst1_no (.inr ⟨h1, by rw [← HL.out]; exact h2⟩)] at HF
      obtain ⟨rfl, rfl⟩ := Prod.mk.inj HF.out
      have hB0 := Lib.hid built_none0
      have hl2 := load_T0 (t := ⟨none, [], 0, 0, 0⟩) (HR2.out.row zT)
      have HL2 := Lib.hid hl2
      have H1 : Hid (∀ u ∈ zT, u.oneCell' = true) := Lib.hid (fun u hu => cellsT_one [⟨none, [], 0, 0, 0⟩] u (by simpa [cellsT, zT, Tv.cells] using hu))
      have HSz : Hid ((Tryz.prog.info? 61).map (·.size) = some zT.length) := Lib.hid (size_T ⟨none, [], 0, 0, 0⟩)
      clear hl2
      go_wp2_with (first | refine wpList_build_w 61 #[] rfl (by simp [Act.eval]) hB0.out (by kernel_rfl) ?_ | refine wpList_store_arr rfl 61 (.tmp 2) (.tmp 58) w.heap.size zT zT rfl rfl rfl rfl HR2.out HSz.out rfl H1.out ?_)
      have hl2 := HL2.out
      refine bodyPost_ret (v := .tuple #[.agg zT.toArray, .slice none 0 0]) ?_ rfl ⟨⟨none, [], 0, 0, 0⟩, none, 0, 0, rfl, rfl, rfl, Nat.le_refl _, .inl rfl, Nat.le_refl _, fun _ _ _ => .inl rfl, below_setRow Hb1.out (Nat.le_refl _) _⟩
      change (loadVar 61 ⟨w.heap.size, 0, none⟩).run Tryz.prog _ = .ok (.agg zT.toArray) _ at hl2
      generalize zT.toArray = Y at hl2 ⊢
      simp [results, Tryz.results88, asAddr, hl2]
end Go.Proofs.YtdipflchmooakaaGreatDoor
namespace Go.Proofs.YtdipflchmooakaaGreatDoor
open Go.RowKit Go.Gar

theorem encTG_len {t : Lz.Tok} (h : Lz.good t = true) : (Lz.encT t).length ≤ 129 := by
  have := (Lz.good_len h).2.2.2.2.1
  unfold Lz.encT
  split
  · simp
  · simp only [List.length_cons]; omega

set_option maxHeartbeats 2000000 in
theorem withToken_any (w : World) (base : Nat) (A : Option Addr) (x : List UInt8) (xl c : Nat) (t : Tv) (hO : OwnB w base 5 (.slice A xl c) x) (hxn : x.length = xl) (hbase : base ≤ w.heap.size) (hx : xl ≤ 20000000) (hg : Lz.good t.tok = true) (hlit : Rd w base t.A t.l) :
    Calls Tryz.prog 35 #[.slice A xl c, .agg t.cells.toArray] w fun e w' => ∃ v, e = .returned v ∧ OwnB w' base 5 v (x ++ Lz.encT t.tok) ∧ Below base w w' := by
  have hB2 : Blk (w.alloc (.cells t.cells.toArray 61)) w.heap.size 61 t.cells := Blk.new w 61 t.cells
  have hb2 := below_alloc w (.cells t.cells.toArray 61)
  obtain ⟨w2, hw2⟩ : ∃ w2, w.alloc (.cells t.cells.toArray 61) = w2 := ⟨_, rfl⟩
  have hO2 := hO.alloc (.cells t.cells.toArray 61)
  rw [hw2] at hB2 hb2 hO2
  have hbw2 : Below base w w2 := hb2.mono hbase
  obtain ⟨ln, hln⟩ : ∃ ln, t.l.length = ln := ⟨_, rfl⟩
  have hcells : t.cells = [.slice t.A ln t.c, .int .i64 t.n, .int .i64 t.d] := by rw [← hln]; rfl
  rw [hcells] at hw2 ⊢
  have c0 := hB2.cell 0
  have c1 := hB2.cell 1
  have c2 := hB2.cell 2
  rw [hcells] at c0 c1 c2
  have k0 : w2.cell? ⟨w.heap.size, 0, none⟩ = some (.slice t.A ln t.c) := c0
  have k1 : w2.cell? ⟨w.heap.size, 1, none⟩ = some (.int .i64 t.n) := c1
  have k2 : w2.cell? ⟨w.heap.size, 2, none⟩ = some (.int .i64 t.d) := c2
  clear c0 c1 c2
  obtain ⟨gT, hgT⟩ : ∃ g, w.heap.size = g := ⟨_, rfl⟩
  rw [hgT] at hB2 k0 k1 k2
  have HW2 := Lib.hid hw2
  have HO2 := Lib.hid hO2
  have HB2 := Lib.hid hB2
  have Hbw2 := Lib.hid hbw2
  have HXn := Lib.hid hxn
  have HLn := Lib.hid hln
  have HLit := Lib.hid (hlit.below hbw2)
  have HBs : Hid (base ≤ w2.heap.size) := Lib.hid (Nat.le_trans hbase hb2.size)
  have HGT := Lib.hid hgT
  have hcs := Lz.good_cases hg
  clear hw2 hO2 hB2 hb2 hbw2 hxn hln hlit hO hbase hcells hgT
  rcases hcs with ⟨nn, dn, htk, g1, g2, g3, g4⟩ | ⟨lt, htk, g1, g2⟩
  · have hnn : t.n = (nn : Int) := congrArg Lz.Tok.len htk
    have hdn : t.d = (dn : Int) := congrArg Lz.Tok.dist htk
    obtain rfl : ln = 0 := by rw [← HLn.out, show t.l = [] from congrArg Lz.Tok.lit htk]; rfl
    rw [hnn] at k1 HW2 ⊢
    rw [hdn] at k2 HW2 ⊢
    rw [htk, Lz.encT_match g2 g3]
    have HTk := Lib.hid htk
    clear hnn hdn htk
    have d1 : 0 < nn := by omega
    have e1 : ((UInt8.ofNat (nn + 125)).toNat : Int) = (nn : Int) - 3 + 128 := by rw [Lz.nat8 (by omega)]; omega
    have e2 : ((UInt8.ofNat ((dn - 1) / 256)).toNat : Int) = ((dn : Int) - 1) / 256 := by rw [Lz.nat8 (by omega)]; omega
    have e3 : ((UInt8.ofNat ((dn - 1) % 256)).toNat : Int) = ((dn : Int) - 1) % 256 := by rw [Lz.nat8 (by omega)]; omega
    have hq : (#[.int .u8 ((nn : Int) - 3 + 128), .int .u8 (((dn : Int) - 1) / 256), .int .u8 (((dn : Int) - 1) % 256)] : Array Value) = (u8s [UInt8.ofNat (nn + 125), UInt8.ofNat ((dn - 1) / 256), UInt8.ofNat ((dn - 1) % 256)]).toArray := by
      rw [← e1, ← e2, ← e3]; rfl
    have hal := below_alloc w2 (.cells #[.int .u8 ((nn : Int) - 3 + 128), .int .u8 (((dn : Int) - 1) / 256), .int .u8 (((dn : Int) - 1) % 256)] 5)
    have hBn : Blk (w2.alloc (.cells #[.int .u8 ((nn : Int) - 3 + 128), .int .u8 (((dn : Int) - 1) / 256), .int .u8 (((dn : Int) - 1) % 256)] 5)) w2.heap.size 5 (u8s [UInt8.ofNat (nn + 125), UInt8.ofNat ((dn - 1) / 256), UInt8.ofNat ((dn - 1) % 256)]) := by
      rw [hq]; exact Blk.new w2 _ _
    obtain ⟨v3, w3, e4, hO3, hb3, _⟩ := app_rd (P := Tryz.prog) 23 23 Tryz.und22 Tryz.info5 (HO2.out.alloc (.cells #[.int .u8 ((nn : Int) - 3 + 128), .int .u8 (((dn : Int) - 1) / 256), .int .u8 (((dn : Int) - 1) % 256)] 5)) (Nat.le_trans HBs.out hal.size) 3 (Rd.of_all hBn) (by rw [HXn.out]; simp; omega)
    have He4 := Lib.hid e4
    have HO3 := Lib.hid hO3
    have Hb3 := Lib.hid (Hbw2.out.trans ((hal.mono HBs.out).trans hb3))
    clear e1 e2 e3 hq hal hBn e4 hO3 hb3
    go_enter Tryz.func35, Tryz.ntmps35
    go_wp2_with (first | rw [HW2.out, HGT.out] | (at_builtin; refine wpList_append_run rfl (.tmp 30) (.tmp 41) _ rfl rfl rfl He4.out ?_))
    go_ret
    exact ⟨_, rfl, HO3.out, Hb3.out⟩
  · have hll : t.l = lt := congrArg Lz.Tok.lit htk
    rw [hll] at HLn HLit
    rw [htk, Lz.encT_lit g1, HLn.out]
    have hl1 : 0 < ln := by rw [← HLn.out]; exact g1
    have hl128 : ln ≤ 128 := by rw [← HLn.out]; exact g2
    have HTl := Lib.hid hll
    have e1 : ((UInt8.ofNat (ln - 1)).toNat : Int) = (ln : Int) - 1 := by rw [Lz.nat8 (by omega)]; omega
    have hq : (#[.int .u8 ((ln : Int) - 1)] : Array Value) = (u8s [UInt8.ofNat (ln - 1)]).toArray := by rw [← e1]; rfl
    have hal := below_alloc w2 (.cells #[.int .u8 ((ln : Int) - 1)] 5)
    have hBn : Blk (w2.alloc (.cells #[.int .u8 ((ln : Int) - 1)] 5)) w2.heap.size 5 (u8s [UInt8.ofNat (ln - 1)]) := by
      rw [hq]; exact Blk.new w2 _ _
    have hOa := HO2.out.alloc (.cells #[.int .u8 ((ln : Int) - 1)] 5)
    obtain ⟨v3, w3, e4, hO3, hb3, hg3⟩ := app_rd (P := Tryz.prog) 23 23 Tryz.und22 Tryz.info5 hOa (Nat.le_trans HBs.out hal.size) 1 (Rd.of_all hBn) (by rw [HXn.out]; simp; omega)
    have hB3 := (HB2.out.alloc (.cells #[.int .u8 ((ln : Int) - 1)] 5)).grown hg3 (own_ne hOa (HB2.out.alloc _) (by decide))
    have hbw23 := (hal.mono HBs.out).trans hb3
    have q0 := hB3.cell 0
    rw [show t.cells[0]? = some (.slice t.A t.l.length t.c) from rfl, hll, HLn.out] at q0
    obtain ⟨v5, w5, e5, hO5, hb5, _⟩ := app_rd (P := Tryz.prog) 23 23 Tryz.und22 Tryz.info5 hO3 (Nat.le_trans HBs.out hbw23.size) t.c (HLit.out.below hbw23) (by rw [List.length_append, HXn.out, HLn.out]; simp; omega)
    rw [HLn.out] at e5
    rw [List.append_assoc, List.singleton_append] at hO5
    have He4 := Lib.hid e4
    have He5 := Lib.hid e5
    have HO5 := Lib.hid hO5
    have Hb5 := Lib.hid (Hbw2.out.trans (hbw23.trans hb5))
    have hl2 : 0 < ln := hl1
    clear e1 hq hal hBn hOa e4 hO3 hb3 hg3 hB3 hbw23 e5 hO5 hb5 hll htk
    go_enter Tryz.func35, Tryz.ntmps35
    go_wp2_with (first | rw [HW2.out, HGT.out] | (at_builtin; first | refine wpList_append_run rfl (.tmp 11) (.tmp 17) _ rfl rfl rfl He4.out ?_ | refine wpList_append_run rfl (.tmp 19) (.tmp 21) _ rfl rfl rfl He5.out ?_))
    go_ret
    exact ⟨_, rfl, HO5.out, Hb5.out⟩
end Go.Proofs.YtdipflchmooakaaGreatDoor
namespace Go.Proofs.YtdipflchmooakaaGreatDoor
open Go.RowKit Go.Gar

set_option maxHeartbeats 2000000 in
theorem encodeG_any (A : Option Addr) (ts : List Tv) (n c : Nat) (w : World) (hn : n = ts.length) (hr : RdT w w.heap.size A ts) (hl : n ≤ 100000) (E : Nat) (O : List UInt8) (hE : Lz.encode (ts.map Tv.tok) = (E, O)) :
    Calls Tryz.prog 16 #[.slice A n c] w fun e w' => ∃ v, e = .returned (.tuple #[v, .int .i64 ((E : Nat) : Int)]) ∧ OwnB w' w.heap.size 5 v O ∧ Below w.heap.size w w' := by
  have hO0 : OwnB w w.heap.size 5 (.slice none 0 0) [] := World.ownsRow_nil _ _ _ _
  have hb0 := Below.refl w.heap.size w
  have HO0 := Lib.hid hO0
  have Hb0 := Lib.hid hb0
  have HN := Lib.hid hn
  have HR := Lib.hid hr
  have HE := Lib.hid hE
  clear hO0 hb0 hn hr hE
  go_enter Tryz.func16, Tryz.ntmps16
  go_wp2
  go_loopw [4, 9] (fun v iv W => ∃ (i : Nat) (x : List UInt8), i ≤ n ∧ iv = .int .i64 (i : Int) ∧ OwnB W w.heap.size 5 v x ∧ Lz.encd ((ts.map Tv.tok).drop i) x = (E, O) ∧ x.length ≤ 130 * i ∧ Below w.heap.size w W) (fun _ iv _ => n - (intOf iv).toNat)
  case atStart => exact ⟨0, [], by omega, rfl, HO0.out, HE.out, by simp, Hb0.out⟩
  case round =>
    obtain ⟨i, x, hi, rfl, hO, hx, hxl, hb⟩ := hrel
    clear HO0 Hb0 HE
    have Hx := Lib.hid hx
    have HO := Lib.hid hO
    have Hb := Lib.hid hb
    clear hx hO hb
    by_cases hlt : i < n
    · have hits : i < ts.length := by rw [← HN.out]; exact hlt
      obtain ⟨t, ht⟩ : ∃ t, ts[i]? = some t := ⟨_, List.getElem?_eq_getElem hits⟩
      have hdrop : (ts.map Tv.tok).drop i = t.tok :: (ts.map Tv.tok).drop (i + 1) := by
        rw [List.drop_eq_getElem_cons (by rw [List.length_map]; exact hits)]
        congr 1
        rw [List.getElem_map, (List.getElem?_eq_some_iff.1 ht).2]
      have hexp := Hx.out
      rw [hdrop, Lz.encd] at hexp
      obtain ⟨b, o, rfl, hbB, hcl⟩ := HR.out.at_ ht
      have hlit := HR.out.lits t (List.mem_of_getElem? ht)
      have hcl' : ∀ j v, j < 3 → t.cells[j]? = some v → wr.cell? ⟨b, o + (3 * i + j), none⟩ = some v := fun j v hj hv => (Hb.out.cell (p := ⟨b, o + (3 * i + j), none⟩) hbB).trans (hcl j v hj hv)
      have hld := load_T hcl' (o + i * 3) (by omega)
      have hEa : (wr.alloc (.cells zT.toArray 61)).setRow wr.heap.size t.cells.toArray = wr.alloc (.cells t.cells.toArray 61) := World.setRow_alloc_new wr _ _ _
      have hB1 := Blk.new wr 61 t.cells
      have hb1 := below_alloc wr (.cells t.cells.toArray 61)
      obtain ⟨w1, hw1⟩ : ∃ w1, wr.alloc (.cells t.cells.toArray 61) = w1 := ⟨_, rfl⟩
      rw [hw1] at hEa hB1 hb1
      have hld1 := load_T0 hB1
      have HZ1 := Lib.hid (Blk.new wr 61 zT)
      have HEa := Lib.hid hEa
      have HB1 := Lib.hid hB1
      have Hb1 := Lib.hid hb1
      have Hld := Lib.hid hld
      have Hld1 := Lib.hid hld1
      have Hexp := Lib.hid hexp
      have HLit := Lib.hid (hlit.1.below Hb.out)
      obtain ⟨Ao, co, rfl, hro⟩ := HO.out.rd
      obtain ⟨xl, hxn⟩ : ∃ xl, x.length = xl := ⟨_, rfl⟩
      have HXn := Lib.hid hxn
      obtain ⟨z, hz⟩ : ∃ z, z = Lz.good t.tok := ⟨_, rfl⟩
      have HZ := Lib.hid hz
      rw [hxn] at hxl ⊢
      clear hld hEa hB1 hb1 hw1 hld1 hexp hcl hcl' hlit hdrop hits ht hxn hz Hx hro
      go_wp2_with (first | refine wpList_load_at 61 (.tmp 11) rfl rfl t.cells.toArray Hld.out (by kernel_rfl) ?_ | refine wpList_alloc_arr rfl 61 zT.toArray rfl zero_T ?_ | (refine wpList_store_arr rfl 61 (.tmp 6) (.tmp 12) wr.heap.size zT t.cells rfl rfl rfl rfl HZ1.out (size_T t) rfl (fun u hu => cellsT_one [t] u (by simpa [cellsT] using hu)) ?_; rw [HEa.out]) | refine wpList_load_arr_w 61 (.tmp 6) rfl rfl t.cells.toArray Hld1.out (by kernel_rfl) ?_)
      refine (lzGood_any t w1 z HZ.out).mono ?_
      rintro e w2 ⟨rfl, hb2⟩
      have hB2 := HB1.out.below hb2 HB1.out.lt
      obtain ⟨gT, hgT⟩ : ∃ g, wr.heap.size = g := ⟨_, rfl⟩
      rw [hgT] at hB2 ⊢
      have hb02 : Below wr.heap.size wr w2 := Hb1.out.trans (hb2.mono Hb1.out.size)
      have HO2 : Hid (OwnB w2 w.heap.size 5 (.slice Ao xl co) x) := Lib.hid (by
        have := HO.out.keep (w' := w2) (fun g hg => hb02.block g (World.ownsRow.lt HO.out g hg).2)
        rw [HXn.out] at this
        exact this)
      have Hbw2 := Lib.hid (Hb.out.trans (hb02.mono Hb.out.size))
      have HLit2 := Lib.hid (HLit.out.below (hb02.mono Hb.out.size))
      have Hld2 := Lib.hid (load_T0 hB2)
      clear hb02 hb2 hB2 hgT HB1 Hb1 HZ1 HEa Hld Hld1 HO Hb HLit
      cases z with
      | false =>
        obtain ⟨rfl, rfl⟩ : 3 = E ∧ [] = O := by
          have := Hexp.out
          rw [if_pos HZ.out.symm] at this
          simpa using this
        go_wp2
        go_ret2
        exact ⟨_, rfl, World.ownsRow_nil _ _ _ _, Hbw2.out⟩
      | true =>
        have hexp := Hexp.out
        rw [if_neg (by rw [← HZ.out]; simp)] at hexp
        have Hexp2 := Lib.hid hexp
        have HEl := Lib.hid (encTG_len HZ.out.symm)
        have HXt : Hid ((x ++ Lz.encT t.tok).length ≤ 130 * (i + 1)) := Lib.hid (by rw [List.length_append, HXn.out]; have := HEl.out; omega)
        clear hexp
        go_wp2_with (refine wpList_load_arr_w 61 (.tmp 6) rfl rfl t.cells.toArray Hld2.out (by kernel_rfl) ?_)
        refine (withToken_any w2 w.heap.size Ao x xl co t HO2.out HXn.out Hbw2.out.size (by omega) HZ.out.symm HLit2.out).mono ?_
        rintro e w3 ⟨v3, rfl, hO3, hb3⟩
        have HO3 := Lib.hid hO3
        have Hb3 := Lib.hid (Hbw2.out.trans hb3)
        clear hO3 hb3
        go_wp2
        exact ⟨⟨i + 1, _, by omega, by go_num, HO3.out, Hexp2.out, HXt.out, Hb3.out⟩, by simp [intOf]; omega⟩
    · obtain rfl : i = n := by omega
      have hexp := Hx.out
      rw [List.drop_eq_nil_of_le (by rw [List.length_map, ← HN.out]; exact Nat.le_refl _), Lz.encd] at hexp
      obtain ⟨rfl, rfl⟩ : 0 = E ∧ x = O := by simpa using hexp
      clear hexp
      go_wp2
      go_ret2
      exact ⟨_, rfl, HO.out, Hb.out⟩
end Go.Proofs.YtdipflchmooakaaGreatDoor
