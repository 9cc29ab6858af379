/-
  The landed sha: process: one block, expanded to 64 numbers, is added to the sums. The landed sha: Of: its contract. The reference's tables of GF(256): a contract.
-/
import Derived.Test.YtdipflchmooakaaGreatDoorWholeJ01
import Derived.Test.YtdipflchmooakaaGreatDoorWholeJ06
import Derived.Test.YtdipflchmooakaaGreatDoorWholeJ09
import Derived.Test.YtdipflchmooakaaGreatDoorWholeJ02
import Derived.Test.YtdipflchmooakaaGreatDoorWholeJ10
import Derived.Test.YtdipflchmooakaaGreatDoorWholeJ11
import Derived.Test.YtdipflchmooakaaGreatDoorWholeJ07
import Derived.Test.YtdipflchmooakaaGreatDoorWholeJ05
import Derived.RegionTactic
import Derived.BigRegion
import Derived.Deep.CutRange
set_option maxRecDepth 100000
namespace Go.Proofs.YtdipflchmooakaaGreatDoor
open Go.RowKit Go.Gar

theorem grown_re' {a b b' : World} {row : Option Nat} (h : a.grownBy b row) (h1 : b'.os = b.os) (h2 : b'.tape = b.tape) (h3 : b'.output = b.output) (h4 : b'.heap = b.heap) : a.grownBy b' row :=
  ⟨h1.trans h.os, h2.trans h.tape, h3.trans h.output, by rw [h4]; exact h.size, fun k hk hr => by rw [h4]; exact h.block k hk hr⟩

theorem grown_none {a b : World} (h : a.grownBy b none) (row : Option Nat) : a.grownBy b row := ⟨h.os, h.tape, h.output, h.size, fun k hk _ => h.block k hk (by simp)⟩
theorem not_u32 (x : Nat) (hx : x < 4294967296) : bits .xor .u32 IntKind.u32.max (x : Int) = ((4294967295 - x : Nat) : Int) := by
  show IntKind.u32.wrap ((BitVec.ofInt 32 4294967295 ^^^ BitVec.ofInt 32 (x : Int)).toNat : Int) = _
  rw [show BitVec.ofInt 32 4294967295 = BitVec.allOnes 32 from by decide, BitVec.allOnes_xor, BitVec.toNat_not, ofInt_u32 x (by omega), IntKind.wrap_u32]
  omega
theorem run_index_u32 {P : Program} {w : World} {t e : TypeId} {n : Nat} (ht : P.underlying t = some (.array n e)) (he : P.underlying e = some (.int .u32)) (hs : (P.info? e).map (·.size) = some 1) (F : List Nat) (j : Nat) (hj : j < n) (hF : j < F.length) :
    (Instr.index t (.agg (u32s F).toArray) (.int .i64 (j : Int))).run P w = .ok (.int .u32 ((F.getD j 0 : Nat) : Int)) w := by
  have hagg : (isAgg e).run P w = .ok false w := by
    unfold isAgg
    rw [Sem.run_bind, run_underlying he w]
    rfl
  cases hq : P.info? e with
  | none => simp [hq] at hs
  | some i =>
    have h1 : i.size = 1 := by simpa [hq] using hs
    have hg := u32s_get F j hF
    have hlt : (0 : Int) ≤ (j : Int) ∧ (j : Int) < (n : Int) := by omega
    simp [Instr.index, asIntOf, Sem.run_bind, run_underlying ht w, hlt, sizeOf, typeInfo, hq, h1, part, hagg, Result.andThen]
    simp [hg]
    omega
theorem Tryz.undU32 : Tryz.prog.underlying 116 = some (.int .u32) := by kernel_rfl
theorem Tryz.sizeU32 : (Tryz.prog.info? 116).map (·.size) = some 1 := by kernel_rfl
theorem addK_set (s v : List Nat) (i : Nat) : (Sha.addK s v i).set i (Sha.plus (s.getD i 0) (v.getD i 0)) = Sha.addK s v (i + 1) := rfl

set_option maxHeartbeats 8000000 in
set_option maxRecDepth 100000 in
theorem process_any (w : World) (g : Nat) (s : Sha.St) (ws : List Nat) (hs : s.ok) (hwl : ws.length = 64) (hwx : ∀ x ∈ ws, x < 4294967296) (hB : Blk w g 117 (u32s s.list)) (hg : g ≠ 1)
    (hK : ∀ i, i < 64 → w.cell? ⟨1, i, none⟩ = some (.int .u32 ((Sha.kL.getD i 0 : Nat) : Int))) :
    Calls Tryz.prog 71 #[.pointer (some ⟨g, 0, none⟩), .agg (u32s ws).toArray] w fun e w' => (∃ v, e = .returned v) ∧ Blk w' g 117 (u32s (s.add (Sha.vK ws s 64)).list) ∧ w.grownBy w' (some g) := by
  have hgl := hB.lt
  have hW0 := Blk.new w 125 (u32s ws)
  have hg0 : w.grownBy (w.alloc (.cells (u32s ws).toArray 125)) (some g) := grown_alloc (World.grownBy.refl w _) _
  have hB0 := hB.alloc (.cells (u32s ws).toArray 125)
  have hK0 : ∀ i, i < 64 → (w.alloc (.cells (u32s ws).toArray 125)).cell? ⟨1, i, none⟩ = some (.int .u32 ((Sha.kL.getD i 0 : Nat) : Int)) := fun i hi => cell_bel' (below_alloc w _) (hK i hi)
  obtain ⟨w1, hw1⟩ : ∃ w1, w.alloc (.cells (u32s ws).toArray 125) = w1 := ⟨_, rfl⟩
  rw [hw1] at hW0 hg0 hB0 hK0
  have HW1 := Lib.hid hw1
  have HK := Lib.hid hK0
  have HWB := Lib.hid hW0
  have HBB := Lib.hid hB0
  have HG := Lib.hid hg0
  have HX := Lib.hid hwx
  have HL := Lib.hid hwl
  have HSok := Lib.hid hs
  have HN : Hid (g < w.heap.size ∧ g ≠ 1) := Lib.hid ⟨hgl, hg⟩
  obtain ⟨gW, hgW⟩ : ∃ gW, w.heap.size = gW := ⟨_, rfl⟩
  have HgW := Lib.hid hgW
  rw [hgW] at HWB
  clear hW0 hg0 hB0 hK0 hK hB hwx hs hgl hg hw1 hwl
  obtain ⟨sa, sb, sc, sd, se, sf, sg, sh⟩ := s
  have c0 : ∀ x : Later grows w1.drew, x.to.cell? ⟨g, 0, none⟩ = some (.int .u32 (sa : Int)) := cell_later (w := w1.drew) HBB.out.drew (i := 0) rfl
  have c1 : ∀ x : Later grows w1.drew, x.to.cell? ⟨g, 1, none⟩ = some (.int .u32 (sb : Int)) := cell_later (w := w1.drew) HBB.out.drew (i := 1) rfl
  have c2 : ∀ x : Later grows w1.drew, x.to.cell? ⟨g, 2, none⟩ = some (.int .u32 (sc : Int)) := cell_later (w := w1.drew) HBB.out.drew (i := 2) rfl
  have c3 : ∀ x : Later grows w1.drew, x.to.cell? ⟨g, 3, none⟩ = some (.int .u32 (sd : Int)) := cell_later (w := w1.drew) HBB.out.drew (i := 3) rfl
  have c4 : ∀ x : Later grows w1.drew, x.to.cell? ⟨g, 4, none⟩ = some (.int .u32 (se : Int)) := cell_later (w := w1.drew) HBB.out.drew (i := 4) rfl
  have c5 : ∀ x : Later grows w1.drew, x.to.cell? ⟨g, 5, none⟩ = some (.int .u32 (sf : Int)) := cell_later (w := w1.drew) HBB.out.drew (i := 5) rfl
  have c6 : ∀ x : Later grows w1.drew, x.to.cell? ⟨g, 6, none⟩ = some (.int .u32 (sg : Int)) := cell_later (w := w1.drew) HBB.out.drew (i := 6) rfl
  have c7 : ∀ x : Later grows w1.drew, x.to.cell? ⟨g, 7, none⟩ = some (.int .u32 (sh : Int)) := cell_later (w := w1.drew) HBB.out.drew (i := 7) rfl
  have d0 : ∀ x : Later grows w1.drew.drew, x.to.cell? ⟨g, 0, none⟩ = some (.int .u32 (sa : Int)) := cell_later (w := w1.drew.drew) HBB.out.drew.drew (i := 0) rfl
  have d1 : ∀ x : Later grows w1.drew.drew, x.to.cell? ⟨g, 1, none⟩ = some (.int .u32 (sb : Int)) := cell_later (w := w1.drew.drew) HBB.out.drew.drew (i := 1) rfl
  have d2 : ∀ x : Later grows w1.drew.drew, x.to.cell? ⟨g, 2, none⟩ = some (.int .u32 (sc : Int)) := cell_later (w := w1.drew.drew) HBB.out.drew.drew (i := 2) rfl
  have d3 : ∀ x : Later grows w1.drew.drew, x.to.cell? ⟨g, 3, none⟩ = some (.int .u32 (sd : Int)) := cell_later (w := w1.drew.drew) HBB.out.drew.drew (i := 3) rfl
  have d4 : ∀ x : Later grows w1.drew.drew, x.to.cell? ⟨g, 4, none⟩ = some (.int .u32 (se : Int)) := cell_later (w := w1.drew.drew) HBB.out.drew.drew (i := 4) rfl
  have d5 : ∀ x : Later grows w1.drew.drew, x.to.cell? ⟨g, 5, none⟩ = some (.int .u32 (sf : Int)) := cell_later (w := w1.drew.drew) HBB.out.drew.drew (i := 5) rfl
  have d6 : ∀ x : Later grows w1.drew.drew, x.to.cell? ⟨g, 6, none⟩ = some (.int .u32 (sg : Int)) := cell_later (w := w1.drew.drew) HBB.out.drew.drew (i := 6) rfl
  have d7 : ∀ x : Later grows w1.drew.drew, x.to.cell? ⟨g, 7, none⟩ = some (.int .u32 (sh : Int)) := cell_later (w := w1.drew.drew) HBB.out.drew.drew (i := 7) rfl
  go_enter Tryz.func71, Tryz.ntmps71
  go_wp2_with (refine wpList_box_arr rfl 125 (.tmp 1) (u32s ws).toArray rfl rfl ?_; rw [HW1.out])
  simp only [Act.put, List.setIfInBounds_toArray, List.set]
  rw [hgW]
  clear hgW
  refine wp_region_G grows (by kernel_rfl) ?_
  refine segG (by kernel_rfl) (fun _ _ _ _ _ h => h) [0, 1, 2, 3, 4, 5, 6, 7, 8, 9] [_, _, _, _, _, _, _, _, _, _] 10 rfl rfl (by kernel_rfl) ?_
  repeat (go_big_quiet_step (fail))
  refine wpQuiet_nil ?_
  refine segG (by kernel_rfl) (fun _ _ _ _ _ h => h) [10, 11, 12, 13, 14, 15, 16, 17, 18, 19] [_, _, _, _, _, _, _, _, _, _] 0 rfl rfl (by kernel_rfl) ?_
  repeat (go_big_quiet_step (fail))
  refine wpQuiet_nil ?_
  refine wpAnyG_done (by kernel_rfl) ?_
  clear c0 c1 c2 c3 c4 c5 c6 c7
  go_wp2_with fail
  refine wp_region_G grows (by kernel_rfl) ?_
  refine segG (by kernel_rfl) (fun _ _ _ _ _ h => h) [0, 1, 2, 3, 4, 5, 6, 7, 8, 9] [_, _, _, _, _, _, _, _, _, _] 10 rfl rfl (by kernel_rfl) ?_
  repeat (go_big_quiet_step (fail))
  refine wpQuiet_nil ?_
  refine segG (by kernel_rfl) (fun _ _ _ _ _ h => h) [10, 11, 12, 13, 14, 15, 16, 17, 18, 19] [_, _, _, _, _, _, _, _, _, _] 0 rfl rfl (by kernel_rfl) ?_
  repeat (go_big_quiet_step (fail))
  refine wpQuiet_nil ?_
  refine wpAnyG_done (by kernel_rfl) ?_
  clear d0 d1 d2 d3 d4 d5 d6 d7
  go_wp2
  go_loopw [4, 5, 6, 7, 8, 9, 10, 11, 49] (fun a b c d e f g_ h i w' => ∃ t : Nat, t ≤ 64 ∧ i = .int .i64 (t : Int) ∧ a = .int .u32 ((Sha.vK ws ⟨sa, sb, sc, sd, se, sf, sg, sh⟩ t).a : Int) ∧ b = .int .u32 ((Sha.vK ws ⟨sa, sb, sc, sd, se, sf, sg, sh⟩ t).b : Int) ∧ c = .int .u32 ((Sha.vK ws ⟨sa, sb, sc, sd, se, sf, sg, sh⟩ t).c : Int) ∧ d = .int .u32 ((Sha.vK ws ⟨sa, sb, sc, sd, se, sf, sg, sh⟩ t).d : Int)
    ∧ e = .int .u32 ((Sha.vK ws ⟨sa, sb, sc, sd, se, sf, sg, sh⟩ t).e : Int) ∧ f = .int .u32 ((Sha.vK ws ⟨sa, sb, sc, sd, se, sf, sg, sh⟩ t).f : Int) ∧ g_ = .int .u32 ((Sha.vK ws ⟨sa, sb, sc, sd, se, sf, sg, sh⟩ t).g : Int) ∧ h = .int .u32 ((Sha.vK ws ⟨sa, sb, sc, sd, se, sf, sg, sh⟩ t).h : Int) ∧ w1.grownBy w' none ∧ w1.heap = w'.heap) (fun _ _ _ _ _ _ _ _ i _ => 64 - (intOf i).toNat)
  case atStart => exact ⟨0, by omega, rfl, rfl, rfl, rfl, rfl, rfl, rfl, rfl, rfl, ⟨rfl, rfl, rfl, Nat.le_refl _, fun _ _ _ => rfl⟩, rfl⟩
  case round =>
    obtain ⟨t, ht, rfl, rfl, rfl, rfl, rfl, rfl, rfl, rfl, rfl, hgr, hhp⟩ := hrel
    have hok := Sha.vK_ok ws HSok.out t
    by_cases hlt : t < 64
    · have HN : Hid (Sha.vK ws ⟨sa, sb, sc, sd, se, sf, sg, sh⟩ (t + 1) = Sha.step (Sha.kL.getD t 0) (ws.getD t 0) (Sha.vK ws ⟨sa, sb, sc, sd, se, sf, sg, sh⟩ t)) := Lib.hid rfl
      have lk : Sha.kL.getD t 0 < 4294967296 := Sha.getD_lt Sha.kL_lt t
      have lw : ws.getD t 0 < 4294967296 := Sha.getD_lt HX.out t
      have ck : wr.cell? ⟨1, t, none⟩ = some (.int .u32 ((Sha.kL.getD t 0 : Nat) : Int)) := by
        have := HK.out t hlt
        simp only [World.cell?, hhp] at this ⊢
        exact this
      have cw : wr.cell? ⟨gW, t, none⟩ = some (.int .u32 ((ws.getD t 0 : Nat) : Int)) := by
        have := HWB.out.cell t
        rw [u32s_get ws t (by rw [HL.out]; exact hlt)] at this
        simp only [World.cell?, hhp] at this ⊢
        exact this
      generalize Sha.kL.getD t 0 = kt at *
      generalize ws.getD t 0 = wt at *
      generalize Sha.vK ws ⟨sa, sb, sc, sd, se, sf, sg, sh⟩ t = z at *
      obtain ⟨xa, xb, xc, xd, xe, xf, xg, xh⟩ := z
      obtain ⟨la, lb, lc, ld, le, lf, lg, lh⟩ := Sha.St.ok_all hok
      simp only at la lb lc ld le lf lg lh
      have Hgr := Lib.hid hgr
      have Hhp := Lib.hid hhp
      clear hgr hhp hok
      have hCh : bits .xor .u32 (bits .and .u32 (xe : Int) (xf : Int)) (bits .and .u32 (bits .xor .u32 IntKind.u32.max (xe : Int)) (xg : Int)) = ((Sha.ch xe xf xg : Nat) : Int) := by
        rw [not_u32 xe le, and_u32 _ _ le lf, and_u32 _ _ (by omega) lg, xor_u32 _ _ (Sha.and_lt le) (Sha.and_lt (by omega))]
        rfl
      have hMj : bits .xor .u32 (bits .xor .u32 (bits .and .u32 (xa : Int) (xb : Int)) (bits .and .u32 (xa : Int) (xc : Int))) (bits .and .u32 (xb : Int) (xc : Int)) = ((Sha.maj xa xb xc : Nat) : Int) := by
        rw [and_u32 _ _ la lb, and_u32 _ _ la lc, and_u32 _ _ lb lc, xor_u32 _ _ (Sha.and_lt la) (Sha.and_lt la), xor_u32 _ _ (Sha.xor_lt (Sha.and_lt la) (Sha.and_lt la)) (Sha.and_lt lb)]
        rfl
      have lch := Sha.ch_lt xe xf xg le
      have lmj := Sha.maj_lt xa xb xc la lb
      have HT1 : Hid (Sha.t1 ⟨xa, xb, xc, xd, xe, xf, xg, xh⟩ kt wt = (xh + Sha.e1 xe + Sha.ch xe xf xg + kt + wt) % 4294967296) := Lib.hid rfl
      have HT2 : Hid (Sha.t2 ⟨xa, xb, xc, xd, xe, xf, xg, xh⟩ = (Sha.e0 xa + Sha.maj xa xb xc) % 4294967296) := Lib.hid rfl
      generalize Sha.ch xe xf xg = yc at *
      generalize Sha.maj xa xb xc = ym at *
      go_wp2_with fail
      refine wp_region_G grows (by kernel_rfl) ?_
      have hcl : ∀ {p : Addr} {v : Value}, wr.cell? p = some v → ∀ x : Later grows wr.drew, x.to.cell? p = some v := fun h x => by
        have hb : Below wr.drew.heap.size wr.drew x.to := x.grown
        exact cell_bel' (w := wr.drew) hb h
      have qk := hcl ck
      have qw := hcl cw
      clear hcl ck cw
      refine segG (by kernel_rfl) (fun _ _ _ _ _ h => h) [0, 1, 3, 6, 10, 11, 12, 13, 14, 15] [_, _, _, _, _, _, _, _, _, _] 18 rfl rfl (by kernel_rfl) ?_
      repeat (go_big_quiet_step (fail))
      refine wpQuiet_nil ?_
      refine segG (by kernel_rfl) (fun _ _ _ _ _ h => h) [16, 17, 19, 20, 21, 23, 24, 25] [_, _, _, _, _, _, _, _] 10 rfl rfl (by kernel_rfl) ?_
      repeat (go_big_quiet_step (fail))
      refine wpQuiet_nil ?_
      clear qk qw
      refine oneG 2 9 rfl (by kernel_rfl) rfl ?_
      go_wp2_with fail
      refine (rightL_z xe 6 _ le (by decide) (by decide)).mono ?_
      rintro e wd ⟨rfl, rfl⟩
      simp only [Int.reduceToNat]
      go_wp2
      refine ⟨grows.refl _, ?_⟩
      refine oneG 4 8 rfl (by kernel_rfl) rfl ?_
      go_wp2_with fail
      refine (rightL_z xe 11 _ le (by decide) (by decide)).mono ?_
      rintro e wd ⟨rfl, rfl⟩
      simp only [Int.reduceToNat]
      go_wp2
      refine ⟨grows.refl _, ?_⟩
      refine segG (by kernel_rfl) (fun _ _ _ _ _ h => h) [5] [_] 7 rfl rfl (by kernel_rfl) ?_
      repeat (go_big_quiet_step (fail))
      refine wpQuiet_nil ?_
      refine oneG 7 6 rfl (by kernel_rfl) rfl ?_
      go_wp2_with fail
      refine (rightL_z xe 25 _ le (by decide) (by decide)).mono ?_
      rintro e wd ⟨rfl, rfl⟩
      simp only [Int.reduceToNat]
      go_wp2
      refine ⟨grows.refl _, ?_⟩
      have hE1 : bits .xor .u32 (bits .xor .u32 ((Sha.rotr xe 6 : Nat) : Int) ((Sha.rotr xe 11 : Nat) : Int)) ((Sha.rotr xe 25 : Nat) : Int) = ((Sha.e1 xe : Nat) : Int) := by
        rw [xor_u32 _ _ (Sha.rotr_lt _ _ le) (Sha.rotr_lt _ _ le), xor_u32 _ _ (Sha.xor_lt (Sha.rotr_lt _ _ le) (Sha.rotr_lt _ _ le)) (Sha.rotr_lt _ _ le)]
        rfl
      have le1 := Sha.e1_lt xe le
      generalize Sha.rotr xe 6 = ra at *
      generalize Sha.rotr xe 11 = rb at *
      generalize Sha.rotr xe 25 = rc at *
      generalize Sha.e1 xe = y1 at *
      refine segG (by kernel_rfl) (fun _ _ _ _ _ h => h) [8, 9, 18, 22, 26, 27] [_, _, _, _, _, _] 0 rfl rfl (by kernel_rfl) ?_
      repeat (go_big_quiet_step (fail))
      refine wpQuiet_nil ?_
      refine wpAnyG_done (by kernel_rfl) ?_
      clear hE1
      have hE0 : bits .xor .u32 (bits .xor .u32 ((Sha.rotr xa 2 : Nat) : Int) ((Sha.rotr xa 13 : Nat) : Int)) ((Sha.rotr xa 22 : Nat) : Int) = ((Sha.e0 xa : Nat) : Int) := by
        rw [xor_u32 _ _ (Sha.rotr_lt _ _ la) (Sha.rotr_lt _ _ la), xor_u32 _ _ (Sha.xor_lt (Sha.rotr_lt _ _ la) (Sha.rotr_lt _ _ la)) (Sha.rotr_lt _ _ la)]
        rfl
      have HE0 := Lib.hid hE0
      have le0 := Sha.e0_lt xa la
      clear hE0 hCh
      go_wp2_with (refine (rightL_z _ _ _ la (by decide) (by decide)).mono ?_; rintro e wd ⟨rfl, rfl⟩; simp only [Int.reduceToNat])
      rw [HE0.out]
      have HS : Hid (Sha.vK ws ⟨sa, sb, sc, sd, se, sf, sg, sh⟩ (t + 1) = ⟨(Sha.t1 ⟨xa, xb, xc, xd, xe, xf, xg, xh⟩ kt wt + Sha.t2 ⟨xa, xb, xc, xd, xe, xf, xg, xh⟩) % 4294967296, xa, xb, xc, (xd + Sha.t1 ⟨xa, xb, xc, xd, xe, xf, xg, xh⟩ kt wt) % 4294967296, xe, xf, xg⟩) := Lib.hid (by rw [HN.out]; rfl)
      rw [HT1.out, HT2.out] at HS
      generalize Sha.e0 xa = y0 at *
      refine ⟨⟨t + 1, by omega, by go_num, ?_, ?_, ?_, ?_, ?_, ?_, ?_, ?_, grown_re' Hgr.out rfl rfl rfl rfl, Hhp.out⟩, by simp [intOf]; omega⟩ <;> rw [HS.out]
      · show Value.int .u32 _ = Value.int .u32 ((((xh + y1 + yc + kt + wt) % 4294967296 + (y0 + ym) % 4294967296) % 4294967296 : Nat) : Int)
        congr 1
      · show Value.int .u32 _ = Value.int .u32 (((xd + (xh + y1 + yc + kt + wt) % 4294967296) % 4294967296 : Nat) : Int)
        congr 1
    · have hzE : Sha.vK ws ⟨sa, sb, sc, sd, se, sf, sg, sh⟩ t = Sha.vK ws ⟨sa, sb, sc, sd, se, sf, sg, sh⟩ 64 := by rw [show t = 64 from by omega]
      generalize Sha.vK ws ⟨sa, sb, sc, sd, se, sf, sg, sh⟩ t = z at *
      obtain ⟨va, vb, vc, vd, ve, vf, vg, vh⟩ := z
      have HZ := Lib.hid hzE
      have hok2 := hok
      obtain ⟨la, lb, lc, ld, le, lf, lg, lh⟩ := Sha.St.ok_all hok
      simp only at la lb lc ld le lf lg lh
      have hB0 : Blk wr g 117 (u32s [sa, sb, sc, sd, se, sf, sg, sh]) := by
        have := HBB.out
        unfold Blk at this ⊢
        rw [← hhp]
        exact this
      have HB0 := Lib.hid hB0
      have Hgr := Lib.hid (grown_trans HG.out (grown_none hgr (some g)))
      clear hzE hok hok2 hB0 hgr hhp
      go_wp2
      have hix : ∀ (W : World) (i : Nat), i < 8 → (Instr.index 117 (.agg #[.int .u32 (va : Int), .int .u32 (vb : Int), .int .u32 (vc : Int), .int .u32 (vd : Int), .int .u32 (ve : Int), .int .u32 (vf : Int), .int .u32 (vg : Int), .int .u32 (vh : Int)]) (.int .i64 (i : Int))).run Tryz.prog W = .ok (.int .u32 (([va, vb, vc, vd, ve, vf, vg, vh].getD i 0 : Nat) : Int)) W := fun W i hi =>
        run_index_u32 (P := Tryz.prog) (w := W) Tryz.undH8 Tryz.undU32 Tryz.sizeU32 [va, vb, vc, vd, ve, vf, vg, vh] i hi hi
      have HIX := Lib.hid hix
      have HVl : Hid (∀ i, [va, vb, vc, vd, ve, vf, vg, vh].getD i 0 < 4294967296) := Lib.hid (fun i => Sha.getD_lt (l := [va, vb, vc, vd, ve, vf, vg, vh]) (by intro x hx; simp only [List.mem_cons, List.not_mem_nil, or_false] at hx; rcases hx with rfl | rfl | rfl | rfl | rfl | rfl | rfl | rfl <;> assumption) i)
      have HSl : Hid (∀ i, [sa, sb, sc, sd, se, sf, sg, sh].getD i 0 < 4294967296) := Lib.hid (fun i => Sha.getD_lt HSok.out i)
      have HEnd : Hid (Sha.addK [sa, sb, sc, sd, se, sf, sg, sh] [va, vb, vc, vd, ve, vf, vg, vh] 8 = (Sha.St.add ⟨sa, sb, sc, sd, se, sf, sg, sh⟩ (Sha.vK ws ⟨sa, sb, sc, sd, se, sf, sg, sh⟩ 64)).list) := Lib.hid (by rw [← HZ.out]; rfl)
      have HSL : Hid ([sa, sb, sc, sd, se, sf, sg, sh].length = 8) := Lib.hid rfl
      generalize hvl : [va, vb, vc, vd, ve, vf, vg, vh] = vl at HIX HVl HEnd
      generalize hsl : [sa, sb, sc, sd, se, sf, sg, sh] = sl at HB0 HSl HEnd HSL
      clear hix hvl hsl
      go_loopw [121] (fun i w' => ∃ j : Nat, j ≤ 8 ∧ i = .int .i64 (j : Int) ∧ Blk w' g 117 (u32s (Sha.addK sl vl j)) ∧ w.grownBy w' (some g)) (fun i _ => 8 - (intOf i).toNat)
      case atStart => exact ⟨0, by omega, rfl, HB0.out, Hgr.out⟩
      case round =>
        obtain ⟨i, hi, rfl, hB, hg⟩ := hrel
        clear HB0 Hgr
        by_cases hil : i < 8
        · have hix := HIX.out wr i hil
          have hc : wr.cell? ⟨g, i, none⟩ = some (.int .u32 ((sl.getD i 0 : Nat) : Int)) := by
            rw [hB.cell, u32s_get _ _ (by rw [Sha.addK_len, HSL.out]; exact hil), Sha.addK_get]
          have lv := HVl.out i
          have lsx := HSl.out i
          have hf := hB.frozen i
          have hS := hB.set_ i (.int .u32 ((Sha.plus (sl.getD i 0) (vl.getD i 0) : Nat) : Int))
          rw [u32s_set, addK_set] at hS
          have HBn := Lib.hid hS
          have Hgn := Lib.hid (grown_set (i := i) hg (.int .u32 ((Sha.plus (sl.getD i 0) (vl.getD i 0) : Nat) : Int)))
          have HP : Hid ((((sl.getD i 0 : Nat) : Int) + ((vl.getD i 0 : Nat) : Int)) % 4294967296 = ((Sha.plus (sl.getD i 0) (vl.getD i 0) : Nat) : Int)) := Lib.hid (by unfold Sha.plus; omega)
          generalize sl.getD i 0 = x at *
          generalize vl.getD i 0 = y at *
          generalize Sha.plus x y = q at *
          clear hS hB hg
          go_wp2_with (refine wpList_index_u8 117 (.tmp 120) (.tmp 121) (by exact rfl) (by exact rfl) (by exact rfl) hix (by kernel_rfl) ?_)
          clear hix
          refine wp_region_G grows (by kernel_rfl) ?_
          have hcl : ∀ {p : Addr} {v : Value}, wr.cell? p = some v → ∀ x : Later grows wr.drew, x.to.cell? p = some v := fun h x => by
            have hb : Below wr.drew.heap.size wr.drew x.to := x.grown
            exact cell_bel' (w := wr.drew) hb h
          have qc := hcl hc
          clear hcl
          refine segG (by kernel_rfl) (fun _ _ _ _ _ h => h) [0, 1, 2, 3, 4, 5, 6, 7, 8] [_, _, _, _, _, _, _, _, _] 1 rfl rfl (by kernel_rfl) ?_
          repeat (go_big_quiet_step (fail))
          refine wpQuiet_nil ?_
          refine lateG 9 0 rfl (by kernel_rfl) (by kernel_rfl) rfl ?_
          clear qc
          go_wp2
          refine ⟨trivial, ?_⟩
          refine wpAnyG_done (by kernel_rfl) ?_
          go_wp2
          rw [HP.out]
          exact ⟨⟨i + 1, by omega, by go_num, HBn.out, grown_re' Hgn.out rfl rfl rfl rfl⟩, by simp [intOf]; omega⟩
        · have hE : Sha.addK sl vl i = Sha.addK sl vl 8 := by rw [show i = 8 from by omega]
          rw [hE, HEnd.out] at hB
          have HBn := Lib.hid hB
          have Hgn := Lib.hid hg
          clear hE hB hg
          go_wp2
          refine bodyPost_end (results_none rfl _ _ _) rfl ?_
          exact ⟨⟨_, rfl⟩, HBn.out, Hgn.out⟩
end Go.Proofs.YtdipflchmooakaaGreatDoor
namespace Go.Proofs.YtdipflchmooakaaGreatDoor
open Go.RowKit Go.Shelf Go.Gar
attribute [local go_sem] Oper.semAt_some

/-- The sums behind some blocks. -/
def hashX (pre : List B64) : Sha.St := pre.foldl (fun s x => Sha.comp s x.1 0) Sha.start
theorem hashX_snoc (pre : List B64) (x : B64) : hashX (pre ++ [x]) = Sha.comp (hashX pre) x.1 0 := by simp [hashX]
theorem hashX_ok (pre : List B64) : (hashX pre).ok := by
  rcases List.eq_nil_or_concat pre with rfl | ⟨q, x, rfl⟩
  · exact Sha.start_ok
  · rw [List.concat_eq_append, hashX_snoc]; exact Sha.add_ok _ _
theorem flat_take (xs : List B64) (k : Nat) (hk : k < xs.length) : ((flat xs).drop (64 * k)).take 64 = xs[k].1 := by
  induction xs generalizing k with
  | nil => simp at hk
  | cons x xs ih =>
    have e : flat (x :: xs) = x.1 ++ flat xs := by simp [flat]
    cases k with
    | zero =>
      rw [e, Nat.mul_zero, List.drop_zero]
      exact List.take_left' x.2
    | succ k =>
      rw [e, show 64 * (k + 1) = x.1.length + 64 * k from by rw [x.2]; omega, List.drop_append, List.drop_eq_nil_of_le (Nat.le_add_right _ _), List.nil_append, Nat.add_sub_cancel_left]
      exact ih k (by simpa using hk)
theorem hashX_take (xs : List B64) : ∀ k, k ≤ xs.length → hashX (xs.take k) = Sha.hashN (flat xs) k
  | 0, _ => rfl
  | k + 1, h => by
    rw [List.take_succ_eq_append_getElem h, hashX_snoc, hashX_take xs k (by omega), Sha.hashN, ← flat_take xs k h, Sha.comp_block]
theorem hashX_all (xs : List B64) : hashX xs = Sha.hashN (flat xs) ((flat xs).length / 64) := by
  have := hashX_take xs xs.length (Nat.le_refl _)
  rw [List.take_length] at this
  rw [this, flat_lenS, Nat.mul_div_cancel_left _ (by omega)]

/-- The table of cube roots, as its block lies. -/
def Gl (w : World) : Prop := ∀ i, i < 64 → w.cell? ⟨1, i, none⟩ = some (.int .u32 ((Sha.kL.getD i 0 : Nat) : Int))
theorem Gl.keep {w w' : World} (h : Gl w) (hb : Below w.heap.size w w') : Gl w' := fun i hi => cell_bel' hb (h i hi)
theorem comp_words (s : Sha.St) (m : List UInt8) : s.add (Sha.vK (Sha.wK m 0 64) s 64) = Sha.comp s m 0 := rfl
theorem keeps_below {W W' : World} (h : Below W.heap.size W W') : KeepsOthers W W' := ⟨h.size, fun k _ hk _ => (h.block k (Array.getElem?_eq_some_iff.1 hk).1).trans hk⟩
theorem kp_below {gs : Nat} {W W' : World} (h : Below W.heap.size W W') : KpS gs W W' := ⟨h.size, fun k _ hk _ _ => (h.block k (Array.getElem?_eq_some_iff.1 hk).1).trans hk⟩
theorem kp_grown {gs : Nat} {W W' : World} (h : W.grownBy W' (some gs)) : KpS gs W W' := ⟨h.size, fun k _ hk _ hn => (h.block k (Array.getElem?_eq_some_iff.1 hk).1 (fun e => hn (Option.some.inj e))).trans hk⟩

theorem cells_below {w w' : World} {B B' : Nat} {A : Option Addr} {vs : List Value} (h : Cells w B A vs) (hb : Below B w w') (hB : B ≤ B') : Cells w' B' A vs := by
  rcases h with h | ⟨b, o, e, hlt, hc⟩
  · exact .inl h
  · exact .inr ⟨b, o, e, by omega, fun i v hi => (World.cell?_of_block (hb.block b hlt)).trans (hc i v hi)⟩
theorem Tryz.infoH8 : (Tryz.prog.info? 117).map (fun i => (i.zero, i.size)) = some (some (.agg (Array.replicate 8 (.int .u32 0))), 8) := by kernel_rfl
def z8 : List Nat := List.replicate 8 0
theorem zero8W (w : World) : (zeroValue 117).run Tryz.prog w = .ok (.agg (u32s z8).toArray) w := by
  rw [(zero_of_info (P := Tryz.prog) Tryz.infoH8).1 w, z8, u32s, List.map_replicate]; rfl

set_option maxRecDepth 100000 in
set_option maxHeartbeats 2000000 in
theorem ofL_in (w : World) (hG : Gl w) (A : Option Addr) (ps : List Part) (cap : Nat) (hC : Cells w w.heap.size A (ps.map partV)) (hR : ∀ p ∈ ps, Rd w w.heap.size p.1 p.2.1 ∧ p.2.1.length ≤ p.2.2) (hl : (cat ps).length ≤ 1048576) (hn : ps.length ≤ 1000) (O : List UInt8) (hOo : O = Sha.of (cat ps)) :
    CallsIn Fence.wide 10 Tryz.prog 40 #[.slice A ps.length cap] w fun e w' => e = .returned (.agg (u8s O).toArray) ∧ Below w.heap.size w w' := by
  have hR0 := Blk.new w 22 (u8s (zB 32))
  have hb0 := below_alloc w (.cells (u8s (zB 32)).toArray 22)
  obtain ⟨w0, hw0⟩ : ∃ w0, w.alloc (.cells (u8s (zB 32)).toArray 22) = w0 := ⟨_, rfl⟩
  have hs0 : w0.heap.size = w.heap.size + 1 := by rw [← hw0]; simp
  rw [hw0] at hR0 hb0
  have HW0 := Lib.hid hw0
  have HOo := Lib.hid hOo
  clear hOo
  have HG := Lib.hid hG
  have HC := Lib.hid hC
  have HR := Lib.hid hR
  have HL := Lib.hid hl
  have HR0 := Lib.hid hR0
  have Hb0 := Lib.hid hb0
  have HS0 := Lib.hid hs0
  clear hG hC hR hl hR0 hb0 hs0 hw0
  refine callsIn_of_wp_marks Tryz.func40 rfl trivial ?_ rfl
  simp only [Tryz.ntmps40, List.size_toArray, List.length_cons, List.length_nil, Nat.reduceAdd, Nat.reduceSub, Array.replicate_succ, Array.replicate_zero, List.push_toArray, List.append_toArray, List.nil_append, List.cons_append]
  gi_wp2_with (refine wpListIn_alloc_arr rfl 22 (u8s (zB 32)).toArray rfl zero32B ?_; rw [HW0.out])
  refine ⟨trivial, ?_⟩
  refine CallsIn.mono (R := fun e w' => e = .returned (.agg (u32s Sha.start.list).toArray) ∧ Below w0.heap.size w0 w') (callsIn_wide.2 (squares_any w0)) ?_
  rintro e w1 ⟨rfl, hb1⟩
  have hS1 := Blk.new w1 117 (u32s z8)
  have hS2 := hS1.row (u32s Sha.start.list)
  have hb1w : Below w.heap.size w w1 := Hb0.out.trans (hb1.mono Hb0.out.size)
  have hb2w : Below w.heap.size w ((w1.alloc (.cells (u32s z8).toArray 117)).setRow w1.heap.size (u32s Sha.start.list).toArray) := below_setRow (hb1w.alloc hb1w.size _) hb1w.size _
  have hr2 : Blk ((w1.alloc (.cells (u32s z8).toArray 117)).setRow w1.heap.size (u32s Sha.start.list).toArray) w.heap.size 22 (u8s (zB 32)) :=
    ((HR0.out.below hb1 (by have := HS0.out; omega)).alloc _).rowFar (by have := HS0.out; have := hb1.size; omega) _
  have hz2 : ((w1.alloc (.cells (u32s z8).toArray 117)).setRow w1.heap.size (u32s Sha.start.list).toArray).heap.size = w1.heap.size + 1 := by simp
  obtain ⟨w2, hw2⟩ : ∃ w2, (w1.alloc (.cells (u32s z8).toArray 117)).setRow w1.heap.size (u32s Sha.start.list).toArray = w2 := ⟨_, rfl⟩
  rw [hw2] at hS2 hb2w hr2 hz2
  have HS1 := Lib.hid hS1
  have HS2 := Lib.hid hS2
  have Hb2 := Lib.hid hb2w
  have HR2 := Lib.hid hr2
  have HZ2 := Lib.hid hz2
  have HW2 := Lib.hid hw2
  have Hgs : Hid (w.heap.size < w1.heap.size) := Lib.hid (by have := HS0.out; have := hb1.size; omega)
  clear hS1 hS2 hb1w hb2w hr2 hz2 hw2 hb1
  gi_wp2_with (first | refine wpListIn_alloc_arr rfl 117 (u32s z8).toArray rfl zero8W ?_ | (refine wpListIn_store_arr rfl 117 (.tmp 3) (.tmp 5) w1.heap.size (u32s z8) (u32s Sha.start.list) rfl rfl rfl rfl HS1.out Tryz.sizeH8 rfl (u32s_one _) ?_; rw [HW2.out]))
  refine ⟨trivial, ?_⟩
  have hC2 := cells_below HC.out Hb2.out Hb2.out.size
  have hRN : ∀ p ∈ ps, RdN w2 w2.heap.size w1.heap.size p := fun p hp => (RdN.of_rd ((HR.out p hp).1.below Hb2.out) (by have := Hgs.out; omega)).more Hb2.out.size
  refine (callsIn_wide.2 (messageL_any w2 A ps cap w1.heap.size hC2 hRN (fun p hp => (HR.out p hp).2) (by rw [HZ2.out]; omega) HL.out hn)).mono ?_
  rintro e w3 ⟨v, qs, rfl, hO, hq, hcat, hql, hq0, hb3⟩
  obtain ⟨g, cm, rest, rfl, hg, hcm, hBg⟩ := hO.blk (by rw [List.length_map]; exact hq0)
  rw [List.length_map]
  have hS3 := HS2.out.below hb3 (by rw [HZ2.out]; omega)
  have hr3 := HR2.out.below hb3 (by have := HZ2.out; have := Hgs.out; omega)
  have hb3w : Below w.heap.size w w3 := Hb2.out.trans (hb3.mono Hb2.out.size)
  have HS3 := Lib.hid hS3
  have HR3 := Lib.hid hr3
  have Hb3 := Lib.hid hb3w
  have Hq := Lib.hid hq
  have Hcat := Lib.hid hcat
  have HBg := Lib.hid hBg
  have Hg : Hid (w1.heap.size < g ∧ w1.heap.size < w3.heap.size) := Lib.hid (by have := HZ2.out; have := hb3.size; omega)
  clear hC2 hRN hO hq hcat hBg hb3 hS3 hr3 hb3w hg hcm hq0
  gi_wp2_with fail
  refine ⟨trivial, ?_⟩
  refine (blocks_in 9 _ _ _ w3).mono ?_
  rintro e w4 ⟨rfl, hw4⟩
  have hBs := Blk.new w3 77 [.slice (some ⟨g, 0, none⟩) qs.length cm]
  have hb4 := below_alloc w3 (.cells #[.slice (some ⟨g, 0, none⟩) qs.length cm] 77)
  have hz4 : (w3.alloc (.cells #[.slice (some ⟨g, 0, none⟩) qs.length cm] 77)).heap.size = w3.heap.size + 1 := World.size_alloc _ _
  rw [show ([.slice (some ⟨g, 0, none⟩) qs.length cm] : List Value).toArray = #[.slice (some ⟨g, 0, none⟩) qs.length cm] from rfl, ← hw4] at hBs
  rw [← hw4] at hb4 hz4
  have hLay : Lay w4.heap.size w1.heap.size w4 g qs := ⟨by have := HBg.out.lt; omega, by have := Hg.out; omega, fun i p hi => by
      rw [((HBg.out.below hb4 HBg.out.lt)).cell, List.getElem?_append_left (by rw [List.length_map]; exact (List.getElem?_eq_some_iff.1 hi).1), List.getElem?_map, hi]
      rfl, fun p hp => ((Hq.out p hp).1.below hb4).more hb4.size, fun p hp => (Hq.out p hp).2⟩
  have hml := Sha.msg_len (cat ps)
  have hmx : (cat qs).length ≤ 1048700 := by
    have h1 : Sha.zeros (cat ps) < 64 := Nat.mod_lt _ (by omega)
    have := HL.out
    rw [Hcat.out, Sha.msg, List.length_append, Sha.msgK_len, Sha.be8K_len]; omega
  have hseq := blocks_seq 9 (by omega) w3.heap.size w1.heap.size g cm qs w4 (hBs.cell 0) hLay (by have := Hg.out; omega) (by rw [Hcat.out]; exact hml) (by omega) hql
  have HSeq := Lib.hid hseq
  have HS4 := Lib.hid (HS3.out.below hb4 HS3.out.lt)
  have HR4 := Lib.hid (HR3.out.below hb4 HR3.out.lt)
  have Hb4 := Lib.hid (Hb3.out.trans (hb4.mono Hb3.out.size))
  have HZ4 := Lib.hid hz4
  clear hw4 hBs hb4 hz4 hLay hml hmx hseq
  gi_wp2
  generalize Value.agg (u32s Sha.start.list).toArray = ag
  have HGs4 : Hid (w1.heap.size < w4.heap.size ∧ w.heap.size < w1.heap.size ∧ w.heap.size < w4.heap.size) := Lib.hid (by have := Hgs.out; have := Hg.out; have := HZ4.out; omega)
  refine rangeC (α := B64) rfl (by omega) (gf := 90) (lb := #[.pointer (some ⟨w3.heap.size, 0, none⟩)]) rfl trivial (enters_of Tryz.func90 (by kernel_rfl) rfl) HSeq.out (fun h k => h.trans k) (fun W l o o' h1 h2 => KpS.put _ W l o o' h1 h2) (fun _ => rfl)
    (fun pre W => Blk W w1.heap.size 117 (u32s (hashX pre).list) ∧ Blk W w.heap.size 22 (u8s (zB 32)) ∧ Below w.heap.size w W)
    ?low ⟨HS4.out, HR4.out, Hb4.out⟩
    (fun x a' W => ∃ Bx, a' = { tmps := #[.slice A ps.length cap, undef, .pointer (some ⟨w.heap.size, 0, none⟩), .pointer (some ⟨w1.heap.size, 0, none⟩), .pointer (some ⟨Bx, 0, none⟩), ag, .slice A ps.length cap, .slice (some ⟨g, 0, none⟩) qs.length cm, .func (.func 90) #[] #[.pointer (some ⟨w3.heap.size, 0, none⟩)], .agg (u8s x.1).toArray, undef, undef, undef, undef, undef], defers := [] } ∧ Blk W Bx 78 (u8s x.1) ∧ Bx ≠ w1.heap.size)
    ?ax ?assign ?body ?done
  case low =>
    rintro pre W W' row ⟨h1, h2, h3⟩ hgr hrow
    have hx := HGs4.out
    exact ⟨h1.grown hgr (fun e => by have := hrow _ e.symm; omega), h2.grown hgr (fun e => by have := hrow _ e.symm; omega), h3.grown hgr h3.size (fun k e => by have := hrow _ e; omega)⟩
  case ax =>
    rintro x a' W l o o' ⟨Bx, rfl, hB, hne⟩ hl ho
    refine ⟨Bx, rfl, ?_, hne⟩
    have : Bx ≠ l := by rintro rfl; rw [show W.heap[Bx]? = _ from hB] at hl; cases hl; simp [Obj.isCells] at ho
    exact (World.putObj_heap_other this).trans hB
  case assign =>
    rintro l pre x W K ⟨h1, h2, h3⟩ hK
    have hZ := Blk.new W 78 (u8s (zB 64))
    have hB1 := hZ.row (u8s x.1)
    have hb1 : Below W.heap.size W ((W.alloc (.cells (u8s (zB 64)).toArray 78)).setRow W.heap.size (u8s x.1).toArray) := below_setRow (below_alloc W _) (Nat.le_refl _) _
    have hk1 := h1.below hb1 h1.lt
    have hk2 := h2.below hb1 h2.lt
    have HZ := Lib.hid hZ
    have HK := Lib.hid (hK _ _ (keeps_below hb1) (kp_below hb1) ⟨hk1, hk2, h3.trans (hb1.mono h3.size)⟩ ⟨W.heap.size, rfl, hB1, fun e => by have := h1.lt; omega⟩)
    have HSz : Hid ((Tryz.prog.info? 78).map (·.size) = some (u8s x.1).length) := Lib.hid (by rw [u8s_len, x.2]; exact Tryz.sizeB64)
    have HLn : Hid ((u8s (zB 64)).length = (u8s x.1).length) := Lib.hid (by rw [u8s_len, u8s_len, x.2, zB_len])
    clear hK h1 h2 h3 hZ hB1 hb1 hk1 hk2
    simp only [List.zip_toArray, List.zip_cons_cons, List.zip_nil_right, List.foldl_toArray, List.foldl_cons, List.foldl_nil, List.setIfInBounds_toArray, List.set]
    gi_wp2_with (first | refine wpListIn_alloc_arr rfl 78 (u8s (zB 64)).toArray rfl zero64B ?_ | refine wpListIn_store_arr rfl 78 (.tmp 4) (.tmp 9) W.heap.size (u8s (zB 64)) (u8s x.1) rfl rfl rfl rfl HZ.out HSz.out HLn.out (u8s_one _) ?_)
    exact HK.out
  case body =>
    rintro l pre x a' W ⟨h1, h2, h3⟩ ⟨Bx, rfl, hB, hne⟩
    have hld := run_loadVar_row (P := Tryz.prog) W Bx 78 78 (u8s x.1).toArray (0, 0) _ hB Tryz.undB64 rfl (by simpa [u8s_len, x.2] using Tryz.sizeB64)
    have H1 := Lib.hid h1
    have H2 := Lib.hid h2
    have H3 := Lib.hid h3
    clear h1 h2 h3 hB hne
    gi_wp2_with (refine wpListIn_load_arr rfl 78 (.tmp 4) rfl rfl (u8s x.1).toArray hld ?_)
    refine ⟨trivial, ?_⟩
    refine (CallsIn.inRound l (callsIn_wide.2 (words_any x.1 W x.2))).mono ?_
    rintro e W1 ⟨rfl, hb1⟩
    obtain ⟨ws, hws⟩ : ∃ ws, Sha.wK x.1 0 64 = ws := ⟨_, rfl⟩
    rw [hws]
    have HWS := Lib.hid hws
    have Hb1 := Lib.hid hb1
    clear hws hb1 hld
    gi_wp2_with fail
    refine ⟨trivial, ?_⟩
    have hgl : Gl W1 := Gl.keep (Gl.keep HG.out H3.out) Hb1.out
    refine (CallsIn.inRound l (callsIn_wide.2 (process_any W1 w1.heap.size (hashX pre) ws (hashX_ok pre) (by rw [← HWS.out]; exact Sha.wK_len _ _ _) (by rw [← HWS.out]; exact Sha.wK_lt _ _ _) (H1.out.below Hb1.out H1.out.lt) (by have := HGs4.out; have := World.block_lt_of_cell? w _ (HG.out 0 (by omega)); simp only at this; omega) hgl))).mono ?_
    rintro e W2 ⟨⟨v, rfl⟩, hB2, hg2⟩
    rw [← HWS.out, comp_words, ← hashX_snoc] at hB2
    have HB2 := Lib.hid hB2
    have Hg2 := Lib.hid hg2
    clear hB2 hg2 hgl
    gi_wp2
    have hlt1 := H1.out.lt
    have hx := HGs4.out
    refine ⟨(keeps_below Hb1.out).trans (KeepsOthers.of_grownBy Hg2.out (fun j o e ho => ?_)), (kp_below Hb1.out).trans (kp_grown Hg2.out), HB2.out, ((H2.out.below Hb1.out H2.out.lt).grown Hg2.out (fun e => by have := Option.some.inj e; omega)), (H3.out.trans (Hb1.out.mono H3.out.size)).grown Hg2.out (Nat.le_trans H3.out.size Hb1.out.size) (fun k e => by have := Option.some.inj e; omega)⟩
    have e1 := Option.some.inj e
    subst e1
    have := H1.out.below Hb1.out hlt1
    rw [show W1.heap[w1.heap.size]? = _ from this] at ho
    cases ho
    rfl
  case done =>
    rintro D xs W hD hxs ⟨h1, h2, h3⟩ hK
    have hld := run_loadVar_row (P := Tryz.prog) W w1.heap.size 117 117 (u32s (hashX xs).list).toArray (0, 0) _ h1 Tryz.undH8 rfl Tryz.sizeH8
    have hO : O = Sha.out (hashX xs) := by rw [HOo.out, hashX_all, hxs, Hcat.out]; rfl
    have hok := hashX_ok xs
    generalize hashX xs = z at hld hok hO
    have hjo := joined_any z W hok
    have hol := out_len z
    rw [← hO] at hjo hol
    have H2 := Lib.hid h2
    have H3 := Lib.hid h3
    have HD := Lib.hid hD
    have HK := Lib.hid hK
    have HJ := Lib.hid hjo
    have HOL := Lib.hid hol
    clear h1 h2 h3 hxs hO hD hK hjo hol
    gi_wp2_with (refine wpListIn_load_arr rfl 117 (.tmp 3) rfl rfl (u32s z.list).toArray hld ?_)
    refine ⟨trivial, ?_⟩
    refine (callsIn_wide.2 HJ.out).mono ?_
    rintro e W1 ⟨rfl, hb1⟩
    have HR5 := Lib.hid (H2.out.below hb1 H2.out.lt)
    have HSz := Lib.hid (size32B O HOL.out)
    have HLn : Hid ((u8s (zB 32)).length = (u8s O).length) := Lib.hid (by rw [u8s_len, u8s_len, HOL.out, zB_len])
    have HB5 := Lib.hid (below_setRow (H3.out.trans (hb1.mono H3.out.size)) (Nat.le_refl _) (u8s O).toArray)
    have hK5 : (W1.setRow w.heap.size (u8s O).toArray).heap[D]? = some (.deferred (some [])) := by
      rw [setRow_other W1 w.heap.size D _ (by have := HD.out; have := HGs4.out; omega)]
      exact (hb1.block D (Array.getElem?_eq_some_iff.1 HK.out).1).trans HK.out
    clear hb1 hld hok
    gi_wp2_with (refine wpListIn_store_arr rfl 22 (.tmp 2) (.tmp 14) w.heap.size (u8s (zB 32)) (u8s O) rfl rfl rfl rfl HR5.out HSz.out HLn.out (u8s_one _) ?_)
    refine ⟨by simp, .inl ⟨_, _, rfl, run_takeDeferred hK5, ?_⟩⟩
    have hDw : w.heap.size < D := by have := HD.out; have := HGs4.out; omega
    have hB6 : Blk ((W1.setRow w.heap.size (u8s O).toArray).putObj D (.deferred none)) w.heap.size 22 (u8s O) := (World.putObj_heap_other (by omega)).trans (HR5.out.row _)
    have hl6 := run_loadVar_row (P := Tryz.prog) ((W1.setRow w.heap.size (u8s O).toArray).putObj D (.deferred none)) w.heap.size 22 22 (u8s O).toArray (0, 0) _ hB6 Tryz.undD32 rfl (by simpa using size32B O HOL.out)
    refine ⟨.agg (u8s O).toArray, ?_, rfl, HB5.out.grown (grownBy_putObj' _ D _) HB5.out.size (fun k e => by have := Option.some.inj e; omega)⟩
    generalize (u8s O).toArray = X at hl6 ⊢
    simp [results, Tryz.results40, asAddr, hl6]

/-- The landed sha keeps its contract wherever its table lies as its text lays it. -/
theorem shaOK : ShaOK Gl :=
  ⟨fun h hb => h.keep hb, fun w A ps cap hG hC hR hl hn => callsIn_wide.1 (ofL_in w hG A ps cap hC hR hl hn _ rfl)⟩
end Go.Proofs.YtdipflchmooakaaGreatDoor

namespace Go.Proofs.YtdipflchmooakaaGreatDoor
open Go.RowKit Go.Gar

theorem u8s_set (l : List UInt8) (i : Nat) (c : UInt8) : (u8s l).set i (.int .u8 (c.toNat : Int)) = u8s (l.set i c) := by simp [u8s, List.map_set]

theorem two_new (w : World) (t : TypeId) (l : List Value) : Blk ((w.alloc (.cells l.toArray t)).alloc (.cells l.toArray t)).drew w.heap.size t l ∧ Blk ((w.alloc (.cells l.toArray t)).alloc (.cells l.toArray t)).drew (w.heap.size + 1) t l ∧ Below w.heap.size w ((w.alloc (.cells l.toArray t)).alloc (.cells l.toArray t)).drew := by
  have h1 := Blk.new w t l
  have h2 := Blk.new (w.alloc (.cells l.toArray t)) t l
  rw [World.size_alloc] at h2
  have h3 := (below_alloc w (.cells l.toArray t)).alloc (by rw [World.size_alloc]; omega) (.cells l.toArray t)
  exact ⟨(h1.alloc _).drew, h2.drew, ⟨h3.os, h3.tape, h3.output, h3.size, h3.block⟩⟩

end Go.Proofs.YtdipflchmooakaaGreatDoor
