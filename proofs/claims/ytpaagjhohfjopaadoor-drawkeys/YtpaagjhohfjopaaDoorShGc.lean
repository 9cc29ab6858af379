/-
  The landed sha: process: one block, expanded to 64 numbers, is added to the sums.
-/
import Derived.Test.YtpaagjhohfjopaaDoorShGb
set_option maxRecDepth 100000
namespace Go.Proofs.YtpaagjhohfjopaaDoor
open Go.RowKit Go.Gar

theorem grown_re' {a b b' : World} {row : Option Nat} (h : a.grownBy b row) (h1 : b'.os = b.os) (h2 : b'.tape = b.tape) (h3 : b'.output = b.output) (h4 : b'.heap = b.heap) : a.grownBy b' row :=
  ⟨h1.trans h.os, h2.trans h.tape, h3.trans h.output, by rw [h4]; exact h.size, fun k hk hr => by rw [h4]; exact h.block k hk hr⟩

theorem grown_none {a b : World} (h : a.grownBy b none) (row : Option Nat) : a.grownBy b row := ⟨h.os, h.tape, h.output, h.size, fun k hk _ => h.block k hk (by simp)⟩
theorem not_u32 (x : Nat) (hx : x < 4294967296) : bits .xor .u32 IntKind.u32.max (x : Int) = ((4294967295 - x : Nat) : Int) := by
  show IntKind.u32.wrap ((BitVec.ofInt 32 4294967295 ^^^ BitVec.ofInt 32 (x : Int)).toNat : Int) = _
  rw [show BitVec.ofInt 32 4294967295 = BitVec.allOnes 32 from by decide, BitVec.allOnes_xor, BitVec.toNat_not, ofInt_u32 x (by omega), IntKind.wrap_u32]
  omega
theorem run_index_u32 {P : Program} {w : World} {t e : TypeId} {n : Nat} (ht : P.underlying t = some (.array n e)) (he : P.underlying e = some (.int .u32)) (hs : (P.info? e).map (·.size) = some 1) (F : List Nat) (j : Nat) (hj : j < n) (hF : j < F.length) :
    (Instr.index t (.agg (u32s F).toArray) (.int .i64 (j : Int))).run P w = .ok (.int .u32 ((F.getD j 0 : Nat) : Int)) w := by
  have hagg : (isAgg e).run P w = .ok false w := by
    unfold isAgg
    rw [Sem.run_bind, run_underlying he w]
    rfl
  cases hq : P.info? e with
  | none => simp [hq] at hs
  | some i =>
    have h1 : i.size = 1 := by simpa [hq] using hs
    have hg := u32s_get F j hF
    have hlt : (0 : Int) ≤ (j : Int) ∧ (j : Int) < (n : Int) := by omega
    simp [Instr.index, asIntOf, Sem.run_bind, run_underlying ht w, hlt, sizeOf, typeInfo, hq, h1, part, hagg, Result.andThen]
    simp [hg]
    omega
theorem Tryd.undU32 : Tryd.prog.underlying 44 = some (.int .u32) := by kernel_rfl
theorem Tryd.sizeU32 : (Tryd.prog.info? 44).map (·.size) = some 1 := by kernel_rfl
theorem addK_set (s v : List Nat) (i : Nat) : (Sha.addK s v i).set i (Sha.plus (s.getD i 0) (v.getD i 0)) = Sha.addK s v (i + 1) := rfl

set_option maxHeartbeats 8000000 in
set_option maxRecDepth 100000 in
theorem process_any (w : World) (g : Nat) (s : Sha.St) (ws : List Nat) (hs : s.ok) (hwl : ws.length = 64) (hwx : ∀ x ∈ ws, x < 4294967296) (hB : Blk w g 58 (u32s s.list)) (hg : g ≠ 0)
    (hK : ∀ i, i < 64 → w.cell? ⟨0, i, none⟩ = some (.int .u32 ((Sha.kL.getD i 0 : Nat) : Int))) :
    Calls Tryd.prog 32 #[.pointer (some ⟨g, 0, none⟩), .agg (u32s ws).toArray] w fun e w' => (∃ v, e = .returned v) ∧ Blk w' g 58 (u32s (s.add (Sha.vK ws s 64)).list) ∧ w.grownBy w' (some g) := by
  have hgl := hB.lt
  have hW0 := Blk.new w 67 (u32s ws)
  have hg0 : w.grownBy (w.alloc (.cells (u32s ws).toArray 67)) (some g) := grown_alloc (World.grownBy.refl w _) _
  have hB0 := hB.alloc (.cells (u32s ws).toArray 67)
  have hK0 : ∀ i, i < 64 → (w.alloc (.cells (u32s ws).toArray 67)).cell? ⟨0, i, none⟩ = some (.int .u32 ((Sha.kL.getD i 0 : Nat) : Int)) := fun i hi => cell_bel' (below_alloc w _) (hK i hi)
  obtain ⟨w1, hw1⟩ : ∃ w1, w.alloc (.cells (u32s ws).toArray 67) = w1 := ⟨_, rfl⟩
  rw [hw1] at hW0 hg0 hB0 hK0
  have HW1 := Lib.hid hw1
  have HK := Lib.hid hK0
  have HWB := Lib.hid hW0
  have HBB := Lib.hid hB0
  have HG := Lib.hid hg0
  have HX := Lib.hid hwx
  have HL := Lib.hid hwl
  have HSok := Lib.hid hs
  have HN : Hid (g < w.heap.size ∧ g ≠ 0) := Lib.hid ⟨hgl, hg⟩
  obtain ⟨gW, hgW⟩ : ∃ gW, w.heap.size = gW := ⟨_, rfl⟩
  have HgW := Lib.hid hgW
  rw [hgW] at HWB
  clear hW0 hg0 hB0 hK0 hK hB hwx hs hgl hg hw1 hwl
  obtain ⟨sa, sb, sc, sd, se, sf, sg, sh⟩ := s
  have c0 : ∀ x : Later grows w1.drew, x.to.cell? ⟨g, 0, none⟩ = some (.int .u32 (sa : Int)) := cell_later (w := w1.drew) HBB.out.drew (i := 0) rfl
  have c1 : ∀ x : Later grows w1.drew, x.to.cell? ⟨g, 1, none⟩ = some (.int .u32 (sb : Int)) := cell_later (w := w1.drew) HBB.out.drew (i := 1) rfl
  have c2 : ∀ x : Later grows w1.drew, x.to.cell? ⟨g, 2, none⟩ = some (.int .u32 (sc : Int)) := cell_later (w := w1.drew) HBB.out.drew (i := 2) rfl
  have c3 : ∀ x : Later grows w1.drew, x.to.cell? ⟨g, 3, none⟩ = some (.int .u32 (sd : Int)) := cell_later (w := w1.drew) HBB.out.drew (i := 3) rfl
  have c4 : ∀ x : Later grows w1.drew, x.to.cell? ⟨g, 4, none⟩ = some (.int .u32 (se : Int)) := cell_later (w := w1.drew) HBB.out.drew (i := 4) rfl
  have c5 : ∀ x : Later grows w1.drew, x.to.cell? ⟨g, 5, none⟩ = some (.int .u32 (sf : Int)) := cell_later (w := w1.drew) HBB.out.drew (i := 5) rfl
  have c6 : ∀ x : Later grows w1.drew, x.to.cell? ⟨g, 6, none⟩ = some (.int .u32 (sg : Int)) := cell_later (w := w1.drew) HBB.out.drew (i := 6) rfl
  have c7 : ∀ x : Later grows w1.drew, x.to.cell? ⟨g, 7, none⟩ = some (.int .u32 (sh : Int)) := cell_later (w := w1.drew) HBB.out.drew (i := 7) rfl
  have d0 : ∀ x : Later grows w1.drew.drew, x.to.cell? ⟨g, 0, none⟩ = some (.int .u32 (sa : Int)) := cell_later (w := w1.drew.drew) HBB.out.drew.drew (i := 0) rfl
  have d1 : ∀ x : Later grows w1.drew.drew, x.to.cell? ⟨g, 1, none⟩ = some (.int .u32 (sb : Int)) := cell_later (w := w1.drew.drew) HBB.out.drew.drew (i := 1) rfl
  have d2 : ∀ x : Later grows w1.drew.drew, x.to.cell? ⟨g, 2, none⟩ = some (.int .u32 (sc : Int)) := cell_later (w := w1.drew.drew) HBB.out.drew.drew (i := 2) rfl
  have d3 : ∀ x : Later grows w1.drew.drew, x.to.cell? ⟨g, 3, none⟩ = some (.int .u32 (sd : Int)) := cell_later (w := w1.drew.drew) HBB.out.drew.drew (i := 3) rfl
  have d4 : ∀ x : Later grows w1.drew.drew, x.to.cell? ⟨g, 4, none⟩ = some (.int .u32 (se : Int)) := cell_later (w := w1.drew.drew) HBB.out.drew.drew (i := 4) rfl
  have d5 : ∀ x : Later grows w1.drew.drew, x.to.cell? ⟨g, 5, none⟩ = some (.int .u32 (sf : Int)) := cell_later (w := w1.drew.drew) HBB.out.drew.drew (i := 5) rfl
  have d6 : ∀ x : Later grows w1.drew.drew, x.to.cell? ⟨g, 6, none⟩ = some (.int .u32 (sg : Int)) := cell_later (w := w1.drew.drew) HBB.out.drew.drew (i := 6) rfl
  have d7 : ∀ x : Later grows w1.drew.drew, x.to.cell? ⟨g, 7, none⟩ = some (.int .u32 (sh : Int)) := cell_later (w := w1.drew.drew) HBB.out.drew.drew (i := 7) rfl
  go_enter Tryd.func32, Tryd.ntmps32
  go_wp2_with (refine wpList_box_arr rfl 67 (.tmp 1) (u32s ws).toArray rfl rfl ?_; rw [HW1.out])
  simp only [Act.put, List.setIfInBounds_toArray, List.set]
  rw [hgW]
  clear hgW
  refine wp_region_G grows (by kernel_rfl) ?_
  refine segG (by kernel_rfl) (fun _ _ _ _ _ h => h) [0, 1, 2, 3, 4, 5, 6, 7, 8, 9] [_, _, _, _, _, _, _, _, _, _] 10 rfl rfl (by kernel_rfl) ?_
  repeat (go_big_quiet_step (fail))
  refine wpQuiet_nil ?_
  refine segG (by kernel_rfl) (fun _ _ _ _ _ h => h) [10, 11, 12, 13, 14, 15, 16, 17, 18, 19] [_, _, _, _, _, _, _, _, _, _] 0 rfl rfl (by kernel_rfl) ?_
  repeat (go_big_quiet_step (fail))
  refine wpQuiet_nil ?_
  refine wpAnyG_done (by kernel_rfl) ?_
  clear c0 c1 c2 c3 c4 c5 c6 c7
  go_wp2_with fail
  refine wp_region_G grows (by kernel_rfl) ?_
  refine segG (by kernel_rfl) (fun _ _ _ _ _ h => h) [0, 1, 2, 3, 4, 5, 6, 7, 8, 9] [_, _, _, _, _, _, _, _, _, _] 10 rfl rfl (by kernel_rfl) ?_
  repeat (go_big_quiet_step (fail))
  refine wpQuiet_nil ?_
  refine segG (by kernel_rfl) (fun _ _ _ _ _ h => h) [10, 11, 12, 13, 14, 15, 16, 17, 18, 19] [_, _, _, _, _, _, _, _, _, _] 0 rfl rfl (by kernel_rfl) ?_
  repeat (go_big_quiet_step (fail))
  refine wpQuiet_nil ?_
  refine wpAnyG_done (by kernel_rfl) ?_
  clear d0 d1 d2 d3 d4 d5 d6 d7
  go_wp2
  go_loopw [4, 5, 6, 7, 8, 9, 10, 11, 49] (fun a b c d e f g_ h i w' => ∃ t : Nat, t ≤ 64 ∧ i = .int .i64 (t : Int) ∧ a = .int .u32 ((Sha.vK ws ⟨sa, sb, sc, sd, se, sf, sg, sh⟩ t).a : Int) ∧ b = .int .u32 ((Sha.vK ws ⟨sa, sb, sc, sd, se, sf, sg, sh⟩ t).b : Int) ∧ c = .int .u32 ((Sha.vK ws ⟨sa, sb, sc, sd, se, sf, sg, sh⟩ t).c : Int) ∧ d = .int .u32 ((Sha.vK ws ⟨sa, sb, sc, sd, se, sf, sg, sh⟩ t).d : Int)
    ∧ e = .int .u32 ((Sha.vK ws ⟨sa, sb, sc, sd, se, sf, sg, sh⟩ t).e : Int) ∧ f = .int .u32 ((Sha.vK ws ⟨sa, sb, sc, sd, se, sf, sg, sh⟩ t).f : Int) ∧ g_ = .int .u32 ((Sha.vK ws ⟨sa, sb, sc, sd, se, sf, sg, sh⟩ t).g : Int) ∧ h = .int .u32 ((Sha.vK ws ⟨sa, sb, sc, sd, se, sf, sg, sh⟩ t).h : Int) ∧ w1.grownBy w' none ∧ w1.heap = w'.heap) (fun _ _ _ _ _ _ _ _ i _ => 64 - (intOf i).toNat)
  case atStart => exact ⟨0, by omega, rfl, rfl, rfl, rfl, rfl, rfl, rfl, rfl, rfl, ⟨rfl, rfl, rfl, Nat.le_refl _, fun _ _ _ => rfl⟩, rfl⟩
  case round =>
    obtain ⟨t, ht, rfl, rfl, rfl, rfl, rfl, rfl, rfl, rfl, rfl, hgr, hhp⟩ := hrel
    have hok := Sha.vK_ok ws HSok.out t
    by_cases hlt : t < 64
    · have HN : Hid (Sha.vK ws ⟨sa, sb, sc, sd, se, sf, sg, sh⟩ (t + 1) = Sha.step (Sha.kL.getD t 0) (ws.getD t 0) (Sha.vK ws ⟨sa, sb, sc, sd, se, sf, sg, sh⟩ t)) := Lib.hid rfl
      have lk : Sha.kL.getD t 0 < 4294967296 := Sha.getD_lt Sha.kL_lt t
      have lw : ws.getD t 0 < 4294967296 := Sha.getD_lt HX.out t
      have ck : wr.cell? ⟨0, t, none⟩ = some (.int .u32 ((Sha.kL.getD t 0 : Nat) : Int)) := by
        have := HK.out t hlt
        simp only [World.cell?, hhp] at this ⊢
        exact this
      have cw : wr.cell? ⟨gW, t, none⟩ = some (.int .u32 ((ws.getD t 0 : Nat) : Int)) := by
        have := HWB.out.cell t
        rw [u32s_get ws t (by rw [HL.out]; exact hlt)] at this
        simp only [World.cell?, hhp] at this ⊢
        exact this
      generalize Sha.kL.getD t 0 = kt at *
      generalize ws.getD t 0 = wt at *
      generalize Sha.vK ws ⟨sa, sb, sc, sd, se, sf, sg, sh⟩ t = z at *
      obtain ⟨xa, xb, xc, xd, xe, xf, xg, xh⟩ := z
      obtain ⟨la, lb, lc, ld, le, lf, lg, lh⟩ := Sha.St.ok_all hok
      simp only at la lb lc ld le lf lg lh
      have Hgr := Lib.hid hgr
      have Hhp := Lib.hid hhp
      clear hgr hhp hok
      have hCh : bits .xor .u32 (bits .and .u32 (xe : Int) (xf : Int)) (bits .and .u32 (bits .xor .u32 IntKind.u32.max (xe : Int)) (xg : Int)) = ((Sha.ch xe xf xg : Nat) : Int) := by
        rw [not_u32 xe le, and_u32 _ _ le lf, and_u32 _ _ (by omega) lg, xor_u32 _ _ (Sha.and_lt le) (Sha.and_lt (by omega))]
        rfl
      have hMj : bits .xor .u32 (bits .xor .u32 (bits .and .u32 (xa : Int) (xb : Int)) (bits .and .u32 (xa : Int) (xc : Int))) (bits .and .u32 (xb : Int) (xc : Int)) = ((Sha.maj xa xb xc : Nat) : Int) := by
        rw [and_u32 _ _ la lb, and_u32 _ _ la lc, and_u32 _ _ lb lc, xor_u32 _ _ (Sha.and_lt la) (Sha.and_lt la), xor_u32 _ _ (Sha.xor_lt (Sha.and_lt la) (Sha.and_lt la)) (Sha.and_lt lb)]
        rfl
      have lch := Sha.ch_lt xe xf xg le
      have lmj := Sha.maj_lt xa xb xc la lb
      have HT1 : Hid (Sha.t1 ⟨xa, xb, xc, xd, xe, xf, xg, xh⟩ kt wt = (xh + Sha.e1 xe + Sha.ch xe xf xg + kt + wt) % 4294967296) := Lib.hid rfl
      have HT2 : Hid (Sha.t2 ⟨xa, xb, xc, xd, xe, xf, xg, xh⟩ = (Sha.e0 xa + Sha.maj xa xb xc) % 4294967296) := Lib.hid rfl
      generalize Sha.ch xe xf xg = yc at *
      generalize Sha.maj xa xb xc = ym at *
      go_wp2_with fail
      refine wp_region_G grows (by kernel_rfl) ?_
      have hcl : ∀ {p : Addr} {v : Value}, wr.cell? p = some v → ∀ x : Later grows wr.drew, x.to.cell? p = some v := fun h x => by
        have hb : Below wr.drew.heap.size wr.drew x.to := x.grown
        exact cell_bel' (w := wr.drew) hb h
      have qk := hcl ck
      have qw := hcl cw
      clear hcl ck cw
      refine segG (by kernel_rfl) (fun _ _ _ _ _ h => h) [0, 1, 3, 6, 10, 11, 12, 13, 14, 15] [_, _, _, _, _, _, _, _, _, _] 18 rfl rfl (by kernel_rfl) ?_
      repeat (go_big_quiet_step (fail))
      refine wpQuiet_nil ?_
      refine segG (by kernel_rfl) (fun _ _ _ _ _ h => h) [16, 17, 19, 20, 21, 23, 24, 25] [_, _, _, _, _, _, _, _] 10 rfl rfl (by kernel_rfl) ?_
      repeat (go_big_quiet_step (fail))
      refine wpQuiet_nil ?_
      clear qk qw
      refine oneG 2 9 rfl (by kernel_rfl) rfl ?_
      go_wp2_with fail
      refine (rightL_z xe 6 _ le (by decide) (by decide)).mono ?_
      rintro e wd ⟨rfl, rfl⟩
      simp only [Int.reduceToNat]
      go_wp2
      refine ⟨grows.refl _, ?_⟩
      refine oneG 4 8 rfl (by kernel_rfl) rfl ?_
      go_wp2_with fail
      refine (rightL_z xe 11 _ le (by decide) (by decide)).mono ?_
      rintro e wd ⟨rfl, rfl⟩
      simp only [Int.reduceToNat]
      go_wp2
      refine ⟨grows.refl _, ?_⟩
      refine segG (by kernel_rfl) (fun _ _ _ _ _ h => h) [5] [_] 7 rfl rfl (by kernel_rfl) ?_
      repeat (go_big_quiet_step (fail))
      refine wpQuiet_nil ?_
      refine oneG 7 6 rfl (by kernel_rfl) rfl ?_
      go_wp2_with fail
      refine (rightL_z xe 25 _ le (by decide) (by decide)).mono ?_
      rintro e wd ⟨rfl, rfl⟩
      simp only [Int.reduceToNat]
      go_wp2
      refine ⟨grows.refl _, ?_⟩
      have hE1 : bits .xor .u32 (bits .xor .u32 ((Sha.rotr xe 6 : Nat) : Int) ((Sha.rotr xe 11 : Nat) : Int)) ((Sha.rotr xe 25 : Nat) : Int) = ((Sha.e1 xe : Nat) : Int) := by
        rw [xor_u32 _ _ (Sha.rotr_lt _ _ le) (Sha.rotr_lt _ _ le), xor_u32 _ _ (Sha.xor_lt (Sha.rotr_lt _ _ le) (Sha.rotr_lt _ _ le)) (Sha.rotr_lt _ _ le)]
        rfl
      have le1 := Sha.e1_lt xe le
      generalize Sha.rotr xe 6 = ra at *
      generalize Sha.rotr xe 11 = rb at *
      generalize Sha.rotr xe 25 = rc at *
      generalize Sha.e1 xe = y1 at *
      refine segG (by kernel_rfl) (fun _ _ _ _ _ h => h) [8, 9, 18, 22, 26, 27] [_, _, _, _, _, _] 0 rfl rfl (by kernel_rfl) ?_
      repeat (go_big_quiet_step (fail))
      refine wpQuiet_nil ?_
      refine wpAnyG_done (by kernel_rfl) ?_
      clear hE1
      have hE0 : bits .xor .u32 (bits .xor .u32 ((Sha.rotr xa 2 : Nat) : Int) ((Sha.rotr xa 13 : Nat) : Int)) ((Sha.rotr xa 22 : Nat) : Int) = ((Sha.e0 xa : Nat) : Int) := by
        rw [xor_u32 _ _ (Sha.rotr_lt _ _ la) (Sha.rotr_lt _ _ la), xor_u32 _ _ (Sha.xor_lt (Sha.rotr_lt _ _ la) (Sha.rotr_lt _ _ la)) (Sha.rotr_lt _ _ la)]
        rfl
      have HE0 := Lib.hid hE0
      have le0 := Sha.e0_lt xa la
      clear hE0 hCh
      go_wp2_with (refine (rightL_z _ _ _ la (by decide) (by decide)).mono ?_; rintro e wd ⟨rfl, rfl⟩; simp only [Int.reduceToNat])
      rw [HE0.out]
      have HS : Hid (Sha.vK ws ⟨sa, sb, sc, sd, se, sf, sg, sh⟩ (t + 1) = ⟨(Sha.t1 ⟨xa, xb, xc, xd, xe, xf, xg, xh⟩ kt wt + Sha.t2 ⟨xa, xb, xc, xd, xe, xf, xg, xh⟩) % 4294967296, xa, xb, xc, (xd + Sha.t1 ⟨xa, xb, xc, xd, xe, xf, xg, xh⟩ kt wt) % 4294967296, xe, xf, xg⟩) := Lib.hid (by rw [HN.out]; rfl)
      rw [HT1.out, HT2.out] at HS
      generalize Sha.e0 xa = y0 at *
      refine ⟨⟨t + 1, by omega, by go_num, ?_, ?_, ?_, ?_, ?_, ?_, ?_, ?_, grown_re' Hgr.out rfl rfl rfl rfl, Hhp.out⟩, by simp [intOf]; omega⟩ <;> rw [HS.out]
      · show Value.int .u32 _ = Value.int .u32 ((((xh + y1 + yc + kt + wt) % 4294967296 + (y0 + ym) % 4294967296) % 4294967296 : Nat) : Int)
        congr 1
      · show Value.int .u32 _ = Value.int .u32 (((xd + (xh + y1 + yc + kt + wt) % 4294967296) % 4294967296 : Nat) : Int)
        congr 1
    · have hzE : Sha.vK ws ⟨sa, sb, sc, sd, se, sf, sg, sh⟩ t = Sha.vK ws ⟨sa, sb, sc, sd, se, sf, sg, sh⟩ 64 := by rw [show t = 64 from by omega]
      generalize Sha.vK ws ⟨sa, sb, sc, sd, se, sf, sg, sh⟩ t = z at *
      obtain ⟨va, vb, vc, vd, ve, vf, vg, vh⟩ := z
      have HZ := Lib.hid hzE
      have hok2 := hok
      obtain ⟨la, lb, lc, ld, le, lf, lg, lh⟩ := Sha.St.ok_all hok
      simp only at la lb lc ld le lf lg lh
      have hB0 : Blk wr g 58 (u32s [sa, sb, sc, sd, se, sf, sg, sh]) := by
        have := HBB.out
        unfold Blk at this ⊢
        rw [← hhp]
        exact this
      have HB0 := Lib.hid hB0
      have Hgr := Lib.hid (grown_trans HG.out (grown_none hgr (some g)))
      clear hzE hok hok2 hB0 hgr hhp
      go_wp2
      have hix : ∀ (W : World) (i : Nat), i < 8 → (Instr.index 58 (.agg #[.int .u32 (va : Int), .int .u32 (vb : Int), .int .u32 (vc : Int), .int .u32 (vd : Int), .int .u32 (ve : Int), .int .u32 (vf : Int), .int .u32 (vg : Int), .int .u32 (vh : Int)]) (.int .i64 (i : Int))).run Tryd.prog W = .ok (.int .u32 (([va, vb, vc, vd, ve, vf, vg, vh].getD i 0 : Nat) : Int)) W := fun W i hi =>
        run_index_u32 (P := Tryd.prog) (w := W) Tryd.undH8 Tryd.undU32 Tryd.sizeU32 [va, vb, vc, vd, ve, vf, vg, vh] i hi hi
      have HIX := Lib.hid hix
      have HVl : Hid (∀ i, [va, vb, vc, vd, ve, vf, vg, vh].getD i 0 < 4294967296) := Lib.hid (fun i => Sha.getD_lt (l := [va, vb, vc, vd, ve, vf, vg, vh]) (by intro x hx; simp only [List.mem_cons, List.not_mem_nil, or_false] at hx; rcases hx with rfl | rfl | rfl | rfl | rfl | rfl | rfl | rfl <;> assumption) i)
      have HSl : Hid (∀ i, [sa, sb, sc, sd, se, sf, sg, sh].getD i 0 < 4294967296) := Lib.hid (fun i => Sha.getD_lt HSok.out i)
      have HEnd : Hid (Sha.addK [sa, sb, sc, sd, se, sf, sg, sh] [va, vb, vc, vd, ve, vf, vg, vh] 8 = (Sha.St.add ⟨sa, sb, sc, sd, se, sf, sg, sh⟩ (Sha.vK ws ⟨sa, sb, sc, sd, se, sf, sg, sh⟩ 64)).list) := Lib.hid (by rw [← HZ.out]; rfl)
      have HSL : Hid ([sa, sb, sc, sd, se, sf, sg, sh].length = 8) := Lib.hid rfl
      generalize hvl : [va, vb, vc, vd, ve, vf, vg, vh] = vl at HIX HVl HEnd
      generalize hsl : [sa, sb, sc, sd, se, sf, sg, sh] = sl at HB0 HSl HEnd HSL
      clear hix hvl hsl
      go_loopw [121] (fun i w' => ∃ j : Nat, j ≤ 8 ∧ i = .int .i64 (j : Int) ∧ Blk w' g 58 (u32s (Sha.addK sl vl j)) ∧ w.grownBy w' (some g)) (fun i _ => 8 - (intOf i).toNat)
      case atStart => exact ⟨0, by omega, rfl, HB0.out, Hgr.out⟩
      case round =>
        obtain ⟨i, hi, rfl, hB, hg⟩ := hrel
        clear HB0 Hgr
        by_cases hil : i < 8
        · have hix := HIX.out wr i hil
          have hc : wr.cell? ⟨g, i, none⟩ = some (.int .u32 ((sl.getD i 0 : Nat) : Int)) := by
            rw [hB.cell, u32s_get _ _ (by rw [Sha.addK_len, HSL.out]; exact hil), Sha.addK_get]
          have lv := HVl.out i
          have lsx := HSl.out i
          have hf := hB.frozen i
          have hS := hB.set_ i (.int .u32 ((Sha.plus (sl.getD i 0) (vl.getD i 0) : Nat) : Int))
          rw [u32s_set, addK_set] at hS
          have HBn := Lib.hid hS
          have Hgn := Lib.hid (grown_set (i := i) hg (.int .u32 ((Sha.plus (sl.getD i 0) (vl.getD i 0) : Nat) : Int)))
          have HP : Hid ((((sl.getD i 0 : Nat) : Int) + ((vl.getD i 0 : Nat) : Int)) % 4294967296 = ((Sha.plus (sl.getD i 0) (vl.getD i 0) : Nat) : Int)) := Lib.hid (by unfold Sha.plus; omega)
          generalize sl.getD i 0 = x at *
          generalize vl.getD i 0 = y at *
          generalize Sha.plus x y = q at *
          clear hS hB hg
          go_wp2_with (refine wpList_index_u8 58 (.tmp 120) (.tmp 121) (by exact rfl) (by exact rfl) (by exact rfl) hix (by kernel_rfl) ?_)
          clear hix
          refine wp_region_G grows (by kernel_rfl) ?_
          have hcl : ∀ {p : Addr} {v : Value}, wr.cell? p = some v → ∀ x : Later grows wr.drew, x.to.cell? p = some v := fun h x => by
            have hb : Below wr.drew.heap.size wr.drew x.to := x.grown
            exact cell_bel' (w := wr.drew) hb h
          have qc := hcl hc
          clear hcl
          refine segG (by kernel_rfl) (fun _ _ _ _ _ h => h) [0, 1, 2, 3, 4, 5, 6, 7, 8] [_, _, _, _, _, _, _, _, _] 1 rfl rfl (by kernel_rfl) ?_
          repeat (go_big_quiet_step (fail))
          refine wpQuiet_nil ?_
          refine lateG 9 0 rfl (by kernel_rfl) (by kernel_rfl) rfl ?_
          clear qc
          go_wp2
          refine ⟨trivial, ?_⟩
          refine wpAnyG_done (by kernel_rfl) ?_
          go_wp2
          rw [HP.out]
          exact ⟨⟨i + 1, by omega, by go_num, HBn.out, grown_re' Hgn.out rfl rfl rfl rfl⟩, by simp [intOf]; omega⟩
        · have hE : Sha.addK sl vl i = Sha.addK sl vl 8 := by rw [show i = 8 from by omega]
          rw [hE, HEnd.out] at hB
          have HBn := Lib.hid hB
          have Hgn := Lib.hid hg
          clear hE hB hg
          go_wp2
          refine bodyPost_end (results_none rfl _ _ _) rfl ?_
          exact ⟨⟨_, rfl⟩, HBn.out, Hgn.out⟩
end Go.Proofs.YtpaagjhohfjopaaDoor
