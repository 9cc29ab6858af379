/-
  The landed disk: a sector that a crash tears. The landed disk: Crash.
-/
import Derived.Test.YtampdfmakhdliaaDiskJ09
import Derived.Test.YtampdfmakhdliaaDiskJ07
import Derived.Test.YtampdfmakhdliaaDiskJ08
import Derived.Test.YtampdfmakhdliaaDiskJ03
import Derived.BigRegion
import Derived.RegionTactic
import Derived.Test.YtampdfmakhdliaaDiskJ11
import Derived.Test.YtampdfmakhdliaaDiskJ01
set_option maxRecDepth 100000
namespace Go.Proofs.Ytampdfmakhdliaa
open Go.RowKit Go.Gar
open Go.Gar.Dsk (Dsk Sec)

theorem run_slice32_to (W : World) (g h : Nat) (hh : h ≤ 32) :
    (Instr.sliceAt 68 (.pointer (some ⟨g, 0, none⟩)) none (some (.int .i64 (h : Int))) none).run Try.prog W = .ok (.slice (some ⟨g, 0, none⟩) h 32) W := by
  obtain ⟨i, hi, _⟩ := Option.map_eq_some_iff.1 Try.size5
  have h1 : (h : Int) ≤ 32 := by omega
  simp [Instr.sliceAt, Instr.sliceBounds, Instr.sureAddr, run_underlying Try.undA32 W, sizeOf, typeInfo, hi, go_sem, h1]
theorem run_slice32_all (W : World) (g : Nat) :
    (Instr.sliceAt 68 (.pointer (some ⟨g, 0, none⟩)) none none none).run Try.prog W = .ok (.slice (some ⟨g, 0, none⟩) 32 32) W := by
  obtain ⟨i, hi, _⟩ := Option.map_eq_some_iff.1 Try.size5
  simp [Instr.sliceAt, Instr.sliceBounds, Instr.sureAddr, run_underlying Try.undA32 W, sizeOf, typeInfo, hi, go_sem]
theorem wpQuiet_slice_toU {P : Program} {C : World → Prop} {ops : Array Oper} {Q : Act → Prop} {rest : List Oper} {o : Oper} {a : Act} (t : TypeId) (p q : Operand) (ho : o.op = .slice t p none (some q) none) {x y v : Value} (hp : a.eval p = x) (hq : a.eval q = y)
    (hrun : ∀ W, (Instr.sliceAt t x none (some y) none).run P W = .ok v W) (hw : Region.wanted o (yielded ops a.tmps) = true)
    (h : wpQuiet P ops C Q rest (a.put o.dst v)) : wpQuiet P ops C Q (o :: rest) a := by
  refine wpQuiet_val hw (fun W _ => ?_) h
  unfold execOp
  simp only [ho, hp, hq, Option.map_some, Option.map_none, Sem.run_bind, hrun W, Result.andThen_ok, Sem.run_pure]
theorem wpQuiet_slice_allU {P : Program} {C : World → Prop} {ops : Array Oper} {Q : Act → Prop} {rest : List Oper} {o : Oper} {a : Act} (t : TypeId) (p : Operand) (ho : o.op = .slice t p none none none) {x v : Value} (hp : a.eval p = x)
    (hrun : ∀ W, (Instr.sliceAt t x none none none).run P W = .ok v W) (hw : Region.wanted o (yielded ops a.tmps) = true)
    (h : wpQuiet P ops C Q rest (a.put o.dst v)) : wpQuiet P ops C Q (o :: rest) a := by
  refine wpQuiet_val hw (fun W _ => ?_) h
  unfold execOp
  simp only [ho, hp, Option.map_none, Sem.run_bind, hrun W, Result.andThen_ok, Sem.run_pure]
/-- What stays of a torn sector. -/
theorem cut1_whole {s : Sec} {cut : Int} (h : 32 ≤ cut) : ((Dsk.cut1 cut s).sure, (Dsk.cut1 cut s).old) = (s.good, s.age) := by
  unfold Dsk.cut1
  rw [if_neg (by omega)]; rfl
theorem cut1_part {s : Sec} {cut : Int} (h : cut < 32) : ((Dsk.cut1 cut s).sure, (Dsk.cut1 cut s).old) = (s.good.take cut.toNat ++ s.sure.drop cut.toNat, s.old) := by
  unfold Dsk.cut1
  rw [if_pos h]; rfl
set_option maxHeartbeats 2000000 in
set_option maxRecDepth 100000 in
theorem torn_any (w : World) {s : Sec} (hs : s.sure.length = 32) (hg : s.good.length = 32) (cut : Int) :
    Calls Try.prog 35 #[.agg (secV s.sure s.old).toArray, .agg (secV s.good s.age).toArray, .int .i64 cut] w fun e w' => e = .returned (.agg (secV (Dsk.cut1 cut s).sure (Dsk.cut1 cut s).old).toArray) ∧ Below w.heap.size w w' := by
  obtain ⟨sure, hsu⟩ : ∃ x, s.sure = x := ⟨_, rfl⟩
  obtain ⟨good, hgo⟩ : ∃ x, s.good = x := ⟨_, rfl⟩
  obtain ⟨S, hS⟩ : ∃ S, secV s.sure s.old = S := ⟨_, rfl⟩
  obtain ⟨G, hG⟩ : ∃ G, secV s.good s.age = G := ⟨_, rfl⟩
  obtain ⟨Z, hZ⟩ : ∃ Z, secV Dsk.zero32 0 = Z := ⟨_, rfl⟩
  obtain ⟨X, hX⟩ : ∃ X, secV (Dsk.cut1 cut s).sure (Dsk.cut1 cut s).old = X := ⟨_, rfl⟩
  have hSl : S.length = 33 := by rw [← hS]; exact secV_len hs _
  have hGl : G.length = 33 := by rw [← hG]; exact secV_len hg _
  have hZl : Z.length = 33 := by rw [← hZ]; rfl
  have hG1 : ∀ u ∈ G, u.oneCell' = true := by rw [← hG]; exact secV_one _ _
  have hX1 : ∀ u ∈ X, u.oneCell' = true := by rw [← hX]; exact secV_one _ _
  have hzz : zsec = .agg Z.toArray := by rw [← hZ]; rfl
  have hz0 : ∀ W, (zeroValue 70).run Try.prog W = .ok (.agg Z.toArray) W := fun W => by rw [← hzz]; exact zero_sec W
  have hszG : (Try.prog.info? 70).map (·.size) = some G.length := by rw [hGl]; exact Try.sizeSec
  rw [hS, hG, hX]
  obtain ⟨g, hgs⟩ : ∃ g, w.heap.size = g := ⟨_, rfl⟩
  have B1 : Blk (w.alloc (.cells S.toArray 70)) w.heap.size 70 S := Blk.new _ _ _
  have b1 := below_alloc w (.cells S.toArray 70)
  have s1 : (w.alloc (.cells S.toArray 70)).heap.size = w.heap.size + 1 := by simp
  obtain ⟨w1, hw1⟩ : ∃ w1, w.alloc (.cells S.toArray 70) = w1 := ⟨_, rfl⟩
  rw [hw1] at B1 b1 s1
  have B2 : Blk (w1.alloc (.cells G.toArray 70)) w1.heap.size 70 G := Blk.new _ _ _
  have b2 := b1.alloc (by omega) (.cells G.toArray 70)
  have A2 := B1.alloc (.cells G.toArray 70)
  have s2 : (w1.alloc (.cells G.toArray 70)).heap.size = w1.heap.size + 1 := by simp
  obtain ⟨w2, hw2⟩ : ∃ w2, w1.alloc (.cells G.toArray 70) = w2 := ⟨_, rfl⟩
  rw [hw2] at B2 b2 A2 s2
  have B3 : Blk (w2.alloc (.cells Z.toArray 70)) w2.heap.size 70 Z := Blk.new _ _ _
  have b3 := b2.alloc (by omega) (.cells Z.toArray 70)
  have A3 := A2.alloc (.cells Z.toArray 70)
  have C3 := B2.alloc (.cells Z.toArray 70)
  have s3 : (w2.alloc (.cells Z.toArray 70)).heap.size = w2.heap.size + 1 := by simp
  obtain ⟨w3, hw3⟩ : ∃ w3, w2.alloc (.cells Z.toArray 70) = w3 := ⟨_, rfl⟩
  rw [hw3] at B3 b3 A3 C3 s3
  rw [s1] at s2
  rw [s2] at s3
  rw [s2] at B3
  rw [s1] at C3
  rw [hgs] at A3 B3 C3 b3 s1 s2 s3 ⊢
  by_cases h32 : 32 ≤ cut
  · have hXG : X = G := by
      have := cut1_whole (s := s) h32
      simp only [Prod.mk.injEq] at this
      rw [← hX, this.1, this.2]; exact hG
    subst hXG
    have hcmp : (decide (cut ≥ 32)) = true := by simpa using h32
    have hl := run_loadVar_seg (P := Try.prog) (g + 1) 0 X X C3 (fun j v hj => by rw [Nat.zero_add]; exact hj) Try.undSec rfl hszG
    have B4 : Blk (w3.setRow (g + 1 + 1) X.toArray) (g + 1 + 1) 70 X := B3.row X
    have b4 := below_setRow b3 (by omega : g ≤ g + 1 + 1) X.toArray
    have HB3 := Lib.hid B3
    have HB4 := Lib.hid B4
    have Hb4 := Lib.hid b4
    have Hsz := Lib.hid hszG
    have Hzl := Lib.hid (show Z.length = X.length by rw [hZl, hGl])
    have HX1 := Lib.hid hX1
    have Hl := Lib.hid hl
    have Hz0 := Lib.hid hz0
    have HW1 := Lib.hid hw1
    have HW2 := Lib.hid hw2
    have HW3 := Lib.hid hw3
    have HG := Lib.hid hgs
    have HS1 := Lib.hid s1
    have HS2 := Lib.hid s2
    clear hsu hgo hS hG hZ hX hSl hGl hZl hG1 hX1 hzz hz0 hszG B1 b1 B2 b2 A2 B3 b3 A3 C3 s1 s2 s3 hw1 hw2 hw3 hgs hl B4 b4 hs hg
    go_enter Try.func35, Try.ntmps35
    go_wp2_with (first
      | (refine wpList_box_arr rfl 70 (.tmp 0) S.toArray rfl rfl ?_; rw [HW1.out, HG.out])
      | (refine wpList_box_arr rfl 70 (.tmp 1) X.toArray rfl rfl ?_; rw [HW2.out, HS1.out])
      | (refine wpList_alloc_arr rfl 70 Z.toArray rfl Hz0.out ?_; rw [HW3.out, HS2.out])
      | refine wpList_load_at 70 (.tmp 4) rfl rfl X.toArray Hl.out (by kernel_rfl) ?_
      | refine wpList_store_arr rfl 70 (.tmp 6) (.tmp 9) (g + 1 + 1) _ X rfl rfl rfl rfl HB3.out Hsz.out Hzl.out HX1.out ?_)
    refine bodyPost_ret (v := .agg X.toArray) ?_ rfl ⟨rfl, Hb4.out⟩
    exact results_cell_row rfl _ _ (g + 1 + 1) 70 X.toArray (0, 0) _ rfl HB4.out Try.undSec rfl (by simpa using Hsz.out)
  · have hlt : cut < 32 := by omega
    obtain ⟨p, hp⟩ : ∃ p, cut.toNat = p := ⟨_, rfl⟩
    have hp31 : p < 32 := by omega
    have hmx : max cut 0 = (p : Int) := by omega
    have hXe : X = u8s (good.take p ++ sure.drop p) ++ [.int .i64 (s.old : Int)] := by
      have := cut1_part (s := s) hlt
      simp only [Prod.mk.injEq] at this
      rw [← hX, this.1, this.2, hp, hgo, hsu]; rfl
    have hSe : S = u8s sure ++ [.int .i64 (s.old : Int)] := by rw [← hS, hsu]; rfl
    have hGe : G = u8s good ++ [.int .i64 (s.age : Int)] := by rw [← hG, hgo]; rfl
    rw [hsu] at hs
    rw [hgo] at hg
    have hXl : X.length = 33 := by rw [hXe]; simp [u8s_len, hs, hg]; omega
    have hmax : ∀ W : World, (Builtin.max_ #[3, 3] 3 #[.int .i64 cut, .int .i64 0]).run Try.prog W = .ok (.int .i64 (p : Int)) W := fun W => by rw [← hmx]; exact run_maxI cut 0
    have hcmp : (decide (cut ≥ 32)) = false := by simpa using hlt
    have A4 := A3.drew
    have C4 := C3.drew
    have B4 := B3.drew
    have b4 := b3.drew
    have hcp := run_copy_seg (P := Try.prog) (w := w3.drew) 40 40 3 5 Try.und22 Try.size5 g 0 p 32 32 32 (g + 1) 0 good p (fun i c hi => by
      rw [Nat.zero_add, C4.cell, hGe, List.getElem?_append_left (by rw [u8s_len]; exact (List.getElem?_eq_some_iff.1 hi).1), u8s_get, hi]; rfl) hg.symm (by omega) S _ A4 (by omega)
    have e1 : S.take 0 ++ u8s (good.take p) ++ S.drop (0 + p) = X := by
      rw [hXe, hSe, List.take_zero, List.nil_append, Nat.zero_add, List.drop_append_of_le_length (by rw [u8s_len]; omega), u8s_app, List.append_assoc]
      congr 2
      unfold u8s
      rw [List.map_drop]
    rw [e1] at hcp
    have hszX : (Try.prog.info? 70).map (·.size) = some X.length := by rw [hXl]; exact Try.sizeSec
    have A5 : Blk (w3.drew.setRow g X.toArray) g 70 X := A4.row X
    have B5 := B4.rowFar (g' := g) (by omega) X.toArray
    have b5 := below_setRow b4 (Nat.le_refl g) X.toArray
    have hl := run_loadVar_seg (P := Try.prog) g 0 X X A5 (fun j v hj => by rw [Nat.zero_add]; exact hj) Try.undSec rfl hszX
    have B6 := B5.row X
    have b6 := below_setRow b5 (by omega : g ≤ g + 1 + 1) X.toArray
    have HB5 := Lib.hid B5
    have HB6 := Lib.hid B6
    have Hb6 := Lib.hid b6
    have Hsz := Lib.hid hszX
    have Hzl := Lib.hid (show Z.length = X.length by rw [hZl, hXl])
    have HX1 := Lib.hid hX1
    have Hl := Lib.hid hl
    have Hz0 := Lib.hid hz0
    have HW1 := Lib.hid hw1
    have HW2 := Lib.hid hw2
    have HW3 := Lib.hid hw3
    have HG := Lib.hid hgs
    have HS1 := Lib.hid s1
    have HS2 := Lib.hid s2
    have Hcp := Lib.hid hcp
    have Hmax := Lib.hid hmax
    have Hp := Lib.hid hp31
    clear hsu hgo hS hG hZ hX hSl hGl hZl hG1 hX1 hzz hz0 hszG B1 b1 B2 b2 A2 B3 b3 A3 C3 s1 s2 s3 hw1 hw2 hw3 hgs hl B4 b4 hs hg hp hp31 hmx hXe hSe hGe hXl hmax A4 C4 hcp e1 hszX A5 B5 b5 B6 b6 hlt h32
    go_enter Try.func35, Try.ntmps35
    go_wp2_with (first
      | (refine wpList_box_arr rfl 70 (.tmp 0) S.toArray rfl rfl ?_; rw [HW1.out, HG.out])
      | (refine wpList_box_arr rfl 70 (.tmp 1) G.toArray rfl rfl ?_; rw [HW2.out, HS1.out])
      | (refine wpList_alloc_arr rfl 70 Z.toArray rfl Hz0.out ?_; rw [HW3.out, HS2.out])
      | fail)
    refine wp_region_G grows (by kernel_rfl) ?_
    refine segG (by kernel_rfl) (fun _ _ _ _ _ h => h) [0, 1, 4, 5] [_, _, _, _] 3 rfl rfl (by kernel_rfl) ?_
    repeat (first | (refine wpQuiet_slice_allU 68 (.tmp 14) rfl rfl (fun W => run_slice32_all W _) (by kernel_rfl) ?_; simp only [Act.put, List.setIfInBounds_toArray, List.set]) | go_big_quiet_step (fail))
    refine wpQuiet_nil ?_
    refine oneG 2 2 rfl (by kernel_rfl) rfl ?_
    refine wpList_maxR rfl (.tmp 11) (.const (.int .i64 0)) _ rfl rfl rfl (Hmax.out _) ?_
    simp only [Act.put, List.setIfInBounds_toArray, List.set]
    go_wp2
    refine ⟨Below.refl _ _, ?_⟩
    refine segG (by kernel_rfl) (fun _ _ _ _ _ h => h) [3] [_] 1 rfl rfl (by kernel_rfl) ?_
    refine wpQuiet_slice_toU 68 (.tmp 10) (.tmp 12) rfl rfl rfl (fun W => run_slice32_to W _ p (by have := Hp.out; omega)) (by kernel_rfl) ?_
    simp only [Act.put, List.setIfInBounds_toArray, List.set]
    refine wpQuiet_nil ?_
    refine lateG 6 0 rfl (by kernel_rfl) (by kernel_rfl) rfl ?_
    refine wpList_copy_run rfl (.tmp 13) (.tmp 15) _ rfl rfl rfl Hcp.out ?_
    simp only [Act.put, List.setIfInBounds_toArray, List.set]
    go_wp2
    refine ⟨trivial, ?_⟩
    refine wpAnyG_done (by kernel_rfl) ?_
    go_wp2_with (first
      | refine wpList_load_at 70 (.tmp 3) rfl rfl X.toArray Hl.out (by kernel_rfl) ?_
      | refine wpList_store_arr rfl 70 (.tmp 6) (.tmp 17) (g + 1 + 1) _ X rfl rfl rfl rfl HB5.out Hsz.out Hzl.out HX1.out ?_)
    refine bodyPost_ret (v := .agg X.toArray) ?_ rfl ⟨rfl, Hb6.out⟩
    exact results_cell_row rfl _ _ (g + 1 + 1) 70 X.toArray (0, 0) _ rfl HB6.out Try.undSec rfl (by simpa using Hsz.out)
end Go.Proofs.Ytampdfmakhdliaa
namespace Go.Proofs.Ytampdfmakhdliaa
open Go.RowKit Go.Shelf Go.Gar
open Go.Gar.Dsk (Dsk Sec)
attribute [local go_sem] Oper.semAt_some

/-- What becomes of a pending sector. -/
def cutF (d : Dsk) (keep torn cut : Int) (k : Nat) (s : Sec) : List UInt8 × Nat := ((Dsk.cut1 (Dsk.stays keep torn cut (Dsk.wetN d.secs k)) s).sure, (Dsk.cut1 (Dsk.stays keep torn cut (Dsk.wetN d.secs k)) s).old)
/-- The lowest bit. -/
theorem and_one_i64 (E : Int) : bits .and .i64 E 1 = E % 2 := by
  show IntKind.i64.wrap ((BitVec.ofInt 64 E &&& BitVec.ofInt 64 1).toNat : Int) = _
  have h1 : (BitVec.ofInt 64 (1 : Int)).toNat = 1 := rfl
  rw [BitVec.toNat_and, h1, Nat.and_one_is_mod, BitVec.toNat_ofInt, IntKind.wrap_i64]
  omega
theorem bit_i64 (keep : Int) {j : Nat} (hj : j ≤ 61) : (bits .and .i64 (keep / 2 ^ min j 64) 1 == 1) = Dsk.bit keep j := by
  rw [and_one_i64, Nat.min_eq_left (by omega)]
  unfold Dsk.bit
  rw [show decide (j < 62) = true by simp; omega, Bool.true_and]
  obtain ⟨X, hX⟩ : ∃ X : Nat, (keep % 18446744073709551616).toNat = X := ⟨_, rfl⟩
  obtain ⟨q, hq⟩ : ∃ q : Int, keep / 18446744073709551616 = q := ⟨_, rfl⟩
  have hk : keep = (X : Int) + (2 ^ j : Int) * (2 * (2 ^ (63 - j) * q)) := by
    have e : (2 ^ j : Int) * (2 * (2 ^ (63 - j) * q)) = 18446744073709551616 * q := by
      have : (2 ^ j : Int) * 2 ^ (63 - j) = 2 ^ 63 := by rw [← Int.pow_add, show j + (63 - j) = 63 by omega]
      rw [Int.mul_left_comm 2, ← Int.mul_assoc, this, ← Int.mul_assoc]
      rfl
    rw [e]
    omega
  have h2 : keep / 2 ^ j = ((X / 2 ^ j : Nat) : Int) + 2 * (2 ^ (63 - j) * q) := by
    rw [hk, Int.add_mul_ediv_left _ _ (by exact Int.ne_of_gt (Int.pow_pos (by omega)))]
    simp
  rw [hX, h2]
  generalize X / 2 ^ j = Y
  generalize (2 ^ (63 - j) * q : Int) = R
  rw [Bool.eq_iff_iff]
  simp
  omega
/-- None comes twice. -/
theorem round_new {d : Dsk} {pre : List (Nat × Nat)} {x : Nat × Nat} (h : pre ++ [x] = (en (Dsk.wets 0 d.secs)).take (pre ++ [x]).length) : x.2 ∉ pre.map (·.2) := by
  have h1 := congrArg (List.map (·.2)) h
  rw [List.map_take, en_snd, List.map_append, List.map_singleton] at h1
  have h2 : (pre.map (·.2) ++ [x.2]).Pairwise (· < ·) := by rw [h1]; exact (Dsk.wets_lt d.secs 0).take
  intro hx
  exact Nat.lt_irrefl _ ((List.pairwise_append.1 h2).2.2 _ hx _ (by simp))
/-- What stays. -/
theorem cutF_torn {d : Dsk} {keep torn cut : Int} {j k : Nat} {s : Sec} (hn : Dsk.wetN d.secs k = j) (ht : (j : Int) = torn) : cutF d keep torn cut k s = ((Dsk.cut1 cut s).sure, (Dsk.cut1 cut s).old) := by
  unfold cutF Dsk.stays
  rw [hn, if_pos ht]
theorem cutF_kept {d : Dsk} {keep torn cut : Int} {j k : Nat} {s : Sec} (hn : Dsk.wetN d.secs k = j) (ht : ¬ (j : Int) = torn) (hb : Dsk.bit keep j = true) : cutF d keep torn cut k s = (s.good, s.age) := by
  unfold cutF Dsk.stays
  rw [hn, if_neg ht, hb, if_pos rfl]
  exact cut1_whole (Int.le_refl _)
theorem cutF_lost {d : Dsk} {keep torn cut : Int} {j k : Nat} {s : Sec} (hn : Dsk.wetN d.secs k = j) (ht : ¬ (j : Int) = torn) (hb : Dsk.bit keep j = false) : cutF d keep torn cut k s = (s.sure, s.old) := by
  unfold cutF Dsk.stays
  rw [hn, if_neg ht, hb, if_neg (by simp), cut1_part (by omega)]
  rfl
set_option maxHeartbeats 8000000 in
set_option maxRecDepth 100000 in
theorem crash_in {w : World} {F : Nat → Prop} {g : Nat} {d : Dsk} (keep torn cut : Int) (h : RepD w F g d) (hkp : isI64 keep) (hto : isI64 torn) (hcu : isI64 cut) :
    CallsIn Fence.wide 20 Try.prog 14 #[ptr g, .int .i64 keep, .int .i64 torn, .int .i64 cut] w fun e w' => e = .returned (.tuple #[]) ∧ ∃ F', RepD w' F' g (Dsk.crash d keep torn cut) ∧ (∀ k, F' k → F k ∨ w.heap.size ≤ k) ∧ Only F w w' := by
  obtain ⟨gd, gm, fb, left, h, hf, hok⟩ := h
  have hFw := h.lt
  have B1 : Blk (w.alloc (.cells #[.pointer (some ⟨g, 0, none⟩)] 23)) w.heap.size 23 [.pointer (some ⟨g, 0, none⟩)] := Blk.new _ _ _
  have b1 := below_alloc w (.cells #[.pointer (some ⟨g, 0, none⟩)] 23)
  have s1 : (w.alloc (.cells #[.pointer (some ⟨g, 0, none⟩)] 23)).heap.size = w.heap.size + 1 := by simp
  obtain ⟨w1, hw1⟩ : ∃ w1, w.alloc (.cells #[.pointer (some ⟨g, 0, none⟩)] 23) = w1 := ⟨_, rfl⟩
  rw [hw1] at B1 b1 s1
  have B2 : Blk (w1.alloc (.cells #[.int .i64 keep] 3)) w1.heap.size 3 [.int .i64 keep] := Blk.new _ _ _
  have A2 := B1.alloc (.cells #[.int .i64 keep] 3)
  have b2 := b1.alloc (by omega) (.cells #[.int .i64 keep] 3)
  have s2 : (w1.alloc (.cells #[.int .i64 keep] 3)).heap.size = w1.heap.size + 1 := by simp
  obtain ⟨w2, hw2⟩ : ∃ w2, w1.alloc (.cells #[.int .i64 keep] 3) = w2 := ⟨_, rfl⟩
  rw [hw2] at A2 B2 b2 s2
  have B3 : Blk (w2.alloc (.cells #[.int .i64 torn] 3)) w2.heap.size 3 [.int .i64 torn] := Blk.new _ _ _
  have A3 := A2.alloc (.cells #[.int .i64 torn] 3)
  have C3 := B2.alloc (.cells #[.int .i64 torn] 3)
  have b3 := b2.alloc (by omega) (.cells #[.int .i64 torn] 3)
  have s3 : (w2.alloc (.cells #[.int .i64 torn] 3)).heap.size = w2.heap.size + 1 := by simp
  obtain ⟨w3, hw3⟩ : ∃ w3, w2.alloc (.cells #[.int .i64 torn] 3) = w3 := ⟨_, rfl⟩
  rw [hw3] at A3 B3 C3 b3 s3
  have B4 : Blk (w3.alloc (.cells #[.int .i64 cut] 3)) w3.heap.size 3 [.int .i64 cut] := Blk.new _ _ _
  have A4 := A3.alloc (.cells #[.int .i64 cut] 3)
  have C4 := C3.alloc (.cells #[.int .i64 cut] 3)
  have D4 := B3.alloc (.cells #[.int .i64 cut] 3)
  have b4 := b3.alloc (by omega) (.cells #[.int .i64 cut] 3)
  have s4 : (w3.alloc (.cells #[.int .i64 cut] 3)).heap.size = w3.heap.size + 1 := by simp
  obtain ⟨w4, hw4⟩ : ∃ w4, w3.alloc (.cells #[.int .i64 cut] 3) = w4 := ⟨_, rfl⟩
  rw [hw4] at A4 B4 C4 D4 b4 s4
  have h4 := h.below b4
  obtain ⟨bx, hbx⟩ : ∃ bx : List (Nat × TypeId × Value), bx = [(w.heap.size, 23, .pointer (some ⟨g, 0, none⟩)), (w1.heap.size, 3, .int .i64 keep), (w2.heap.size, 3, .int .i64 torn), (w3.heap.size, 3, .int .i64 cut)] := ⟨_, rfl⟩
  have hb : ∀ p ∈ bx, Blk w4 p.1 p.2.1 [p.2.2] ∧ w.heap.size ≤ p.1 := by
    rw [hbx]
    intro p hp
    simp only [List.mem_cons, List.not_mem_nil, or_false] at hp
    rcases hp with rfl | rfl | rfl | rfl
    · exact ⟨A4, Nat.le_refl _⟩
    · exact ⟨C4, by show _ ≤ w1.heap.size; omega⟩
    · exact ⟨D4, by show _ ≤ w2.heap.size; omega⟩
    · exact ⟨B4, by show _ ≤ w3.heap.size; omega⟩
  have hm1 : (w.heap.size, 23, .pointer (some ⟨g, 0, none⟩)) ∈ bx := by rw [hbx]; simp
  have hm2 : (w1.heap.size, 3, Value.int .i64 keep) ∈ bx := by rw [hbx]; simp
  have hm3 : (w2.heap.size, 3, Value.int .i64 torn) ∈ bx := by rw [hbx]; simp
  have hm4 : (w3.heap.size, 3, Value.int .i64 cut) ∈ bx := by rw [hbx]; simp
  have hbl : ∀ p ∈ bx, p.1 < w4.heap.size := fun p hp => (hb p hp).1.lt
  have hbF : ∀ p ∈ bx, ¬ F p.1 := fun p hp hF => by
    have := hFw _ hF
    have := (hb p hp).2
    omega
  obtain ⟨D, hDD⟩ : ∃ D, D = Dsk.crash d keep torn cut := ⟨_, rfl⟩
  rw [← hDD]
  have q1 := A4.cell 0
  simp only [List.getElem?_cons_zero] at q1
  have h0 : MidD w F g gd gm fb left d (cutF d keep torn cut) bx [] w4 := .start h4 hb (.of_below F b4)
  have hN := numbered_any (d := d) ⟨gd, gm, fb, left, h4, hf, hok⟩
  have HDD := Lib.hid hDD
  have HFw := Lib.hid hFw
  have HN := Lib.hid hN
  have H0 := Lib.hid h0
  have Hok := Lib.hid hok
  have HW1 := Lib.hid hw1
  have HW2 := Lib.hid hw2
  have HW3 := Lib.hid hw3
  have HW4 := Lib.hid hw4
  have Hm1 := Lib.hid hm1
  have Hm2 := Lib.hid hm2
  have Hm3 := Lib.hid hm3
  have Hm4 := Lib.hid hm4
  have Hbl := Lib.hid hbl
  have HbF := Lib.hid hbF
  have Hz4 := Lib.hid (show w.heap.size < w4.heap.size by omega)
  have Hkp := Lib.hid hkp
  have Hto := Lib.hid hto
  have Hcu := Lib.hid hcu
  have Hfgd := Lib.hid h.fgd
  clear h hf hok hFw B1 b1 s1 hw1 B2 A2 b2 s2 hw2 B3 A3 C3 b3 s3 hw3 B4 A4 C4 D4 b4 s4 hw4 h4 hb hm1 hm2 hm3 hm4 hbl hbF hDD h0 hN hkp hto hcu hbx
  unfold ptr at *
  refine callsIn_of_wp_marks Try.func14 rfl trivial ?_ rfl
  simp only [Try.ntmps14, List.size_toArray, List.length_cons, List.length_nil, Nat.reduceAdd, Nat.reduceSub, Array.replicate_succ, Array.replicate_zero, List.push_toArray, List.append_toArray, List.nil_append, List.cons_append]
  gi_wp2_with (first | rw [HW1.out] | rw [HW2.out] | rw [HW3.out] | rw [HW4.out])
  refine ⟨trivial, ?_⟩
  refine (callsIn_wide.2 HN.out).mono ?_
  rintro e w5 ⟨Bs, gz, A, len, cap, rfl, hnb⟩
  have hl6 : len ≤ 1000000 := by
    have h1 := hnb.hlen
    rw [Dsk.wets_len] at h1
    have := pend_le d Hok.out
    unfold Dsk.pending at this
    omega
  have hz2 := hnb.bel.size
  have hsq := all_seq 19 (by omega) hnb hl6
  have h05 := H0.out.below hnb.bel
  have hlow := Lib.hid (show (∀ k, F k → k < w5.heap.size) ∧ (∀ p ∈ bx, p.1 < w5.heap.size) ∧ Bs ≠ gd ∧ gz ≠ gd from by
    have hg := HFw.out gd Hfgd.out
    have hz := Hz4.out
    refine ⟨fun k hk => ?_, fun p hp => ?_, ?_, ?_⟩
    · have := HFw.out k hk; omega
    · have := Hbl.out p hp; omega
    · have := hnb.hB; omega
    · have := hnb.hg; omega)
  have HSq := Lib.hid hsq
  have H05 := Lib.hid h05
  have Hz := Lib.hid (show w.heap.size ≤ w5.heap.size from by have := Hz4.out; omega)
  clear hnb hl6 hsq h05 HN q1 hz2 H0
  gi_wp2
  refine rangeP (α := Nat × Nat) rfl (by omega) (gf := 42) (lb := #[.pointer (some ⟨Bs, 0, none⟩)]) rfl trivial (enters_of Try.func42 (by kernel_rfl) rfl) HSq.out (fun h k => h.trans k) (fun W l o o' h1 h2 => KpD.put _ _ W l o o' h1 h2) (fun _ => rfl)
    (fun pre W => MidD w F g gd gm fb left d (cutF d keep torn cut) bx pre W)
    ?low H05.out
    (fun x a' _ => a' = { tmps := List.toArray (Value.pointer (some { block := g, off := 0 }) :: Value.int IntKind.i64 keep :: Value.int IntKind.i64 torn :: Value.int IntKind.i64 cut :: Value.pointer (some { block := w.heap.size, off := 0 }) :: Value.pointer (some { block := w1.heap.size, off := 0 }) :: Value.pointer (some { block := w2.heap.size, off := 0 }) :: Value.pointer (some { block := w3.heap.size, off := 0 }) :: (.int .i64 ((x.1 : Nat) : Int)) :: (.int .i64 ((x.2 : Nat) : Int)) :: Value.pointer (some { block := g, off := 0 }) :: Value.bool false :: Value.pointer (some { block := g, off := 0 }) :: Value.func (Fn.func 42) #[] #[Value.pointer (some { block := Bs, off := 0 })] :: (.int .i64 ((x.1 : Nat) : Int)) :: (.int .i64 ((x.2 : Nat) : Int)) :: undef :: undef :: undef :: undef :: undef :: undef :: undef :: undef :: undef :: undef :: undef :: undef :: undef :: undef :: undef :: undef :: undef :: undef :: undef :: undef :: undef :: undef :: undef :: undef :: undef :: undef :: undef :: undef :: undef :: undef :: undef :: undef :: undef :: undef :: undef :: undef :: undef :: undef :: undef :: undef :: undef :: undef :: undef :: undef :: undef :: undef :: undef :: undef :: undef :: undef :: undef :: undef :: undef :: undef :: undef :: []), defers := [] })
    ?ax ?assign ?body ?done
  case low =>
    rintro pre W W' row h hgr hrow
    have hl := hlow.out
    exact h.grown hgr hrow hl.1 hl.2.1 Hz.out
  case ax => exact fun x a' W l o o' h _ _ => h
  case assign =>
    rintro l pre x W K _ h hK
    have HK := Lib.hid (hK _ _ (KeepsOthers.refl _) (kpD_below (Below.refl _ _)) h rfl)
    clear hK h
    simp only [encI, List.zip_toArray, List.zip_cons_cons, List.zip_nil_right, List.foldl_toArray, List.foldl_cons, List.foldl_nil, List.setIfInBounds_toArray, List.set]
    gi_wp2
    exact HK.out
  case body =>
    rintro l pre ⟨j, k⟩ a' W hpf h rfl
    obtain ⟨s, hs, hw, hn⟩ := round_sec (d := d) hpf
    have hnew := round_new (d := d) hpf
    have t1 := (h.box _ Hm3.out).1.cell 0
    have t2 := (h.box _ Hm2.out).1.cell 0
    simp only [List.getElem?_cons_zero] at t1 t2
    have HM := Lib.hid h
    have Hs := Lib.hid hs
    have Hw := Lib.hid hw
    have Hn := Lib.hid hn
    have Hnew := Lib.hid hnew
    clear hpf h hs hw hn hnew
    by_cases ht : (j : Int) = torn
    · have hq : ((j : Int) == torn) = true := by simpa using ht
      have Ht := Lib.hid ht
      clear t2 ht
      gi_wp2_with fail
      refine wpIn_region_G grows (by kernel_rfl) (by kernel_rfl) (by rintro ⟨_, _, hh⟩; exact absurd hh.1 (by simp)) ?_
      have HD := Lib.hid HM.out.drew
      have HK0 := Lib.hid (keepsO_below (Below.refl _ W).drew)
      have HP0 := Lib.hid (kpD_below (A := Bs) (B := gz) (Below.refl _ W).drew)
      clear HM t1
      generalize W.drew = W0 at *
      have hfin := cutF_torn (keep := keep) (cut := cut) (s := s) Hn.out Ht.out
      have hf := Hok.out.secs s (List.mem_of_getElem? Hs.out)
      obtain ⟨du, hB, hdu⟩ := HD.out.disk
      have hdk := hdu k s Hs.out
      rw [if_neg Hnew.out] at hdk
      have hkm : (k : Int) < (d.secs.length : Int) := by have := (List.getElem?_eq_some_iff.1 Hs.out).1; omega
      obtain ⟨m, hm⟩ : ∃ m, d.secs.length = m := ⟨_, rfl⟩
      rw [hm] at hB hkm
      have hki : -9223372036854775808 ≤ (k : Int) ∧ (k : Int) ≤ 9223372036854775807 := by have := hB.max; omega
      have hlk := hB.map.look Try.undI Try.undMapS zero_sec hki
      rw [pendF_at Hs.out, Hw.out] at hlk
      simp only [if_true, Option.getD_some] at hlk
      have q1 := cell_later (HD.out.box _ Hm1.out).1 (i := 0) rfl
      have q4 := cell_later (HD.out.box _ Hm4.out).1 (i := 0) rfl
      have q2 := cell_later hB.blk (i := 2) rfl
      have q3 := cell_later hB.blk (i := 3) rfl
      have HLk := Lib.hid hlk
      have HLd := Lib.hid (show ∀ x : Later grows W0, (loadVar 70 ⟨gd, k * 33, none⟩).run Try.prog x.to = .ok (.agg (secV s.sure s.old).toArray) x.to from fun x => (hB.below x.grown).load hdk)
      have HT := Lib.hid (torn_any W0 hf.sure hf.good cut)
      have Hfin := Lib.hid hfin
      have Hf := Lib.hid hf
      clear hfin hf hB hdu hdk hm hki hlk
      refine segG (by kernel_rfl) (fun _ _ _ _ _ h => h) [0, 1, 2, 3, 4, 5, 6, 7, 8, 9, 10, 11, 12, 13, 14, 15, 16, 18] [_, _, _, _, _, _, _, _, _, _, _, _, _, _, _, _, _, _] 4 rfl rfl (by kernel_rfl) ?_
      repeat (first | (refine wpQuiet_load_at 70 (.tmp 30) rfl rfl (secV s.sure s.old).toArray HLd.out (by kernel_rfl) ?_; simp only [Act.put, List.setIfInBounds_toArray, List.set]) | go_big_quiet_step (fail))
      refine wpQuiet_nil ?_
      clear q1 q2 q3 q4
      refine oneG 17 3 rfl (by kernel_rfl) rfl ?_
      refine wpList_lookup_run rfl 60 (.tmp 35) (.tmp 36) false rfl rfl rfl HLk.out ?_
      simp only [Act.put, List.setIfInBounds_toArray, List.set]
      go_wp2
      refine ⟨Below.refl _ _, ?_⟩
      refine oneG 19 2 rfl (by kernel_rfl) rfl ?_
      go_wp2_with fail
      refine HT.out.mono ?_
      rintro e W1 ⟨rfl, hb1⟩
      have hd1 := HD.out.below hb1
      have hl := hlow.out
      obtain ⟨old, hbo, hlo, hmid⟩ := hd1.store j Hs.out (by rw [Hfin.out]; exact (Hf.out.cut1 cut).sure) HbF.out
      simp only [Hfin.out] at hbo hlo hmid
      obtain ⟨X, hX⟩ : ∃ X, secV (Dsk.cut1 cut s).sure (Dsk.cut1 cut s).old = X := ⟨_, rfl⟩
      have hX1 : ∀ u ∈ X, u.oneCell' = true := by rw [← hX]; exact secV_one _ _
      have hsz : (Try.prog.info? 70).map (·.size) = some X.length := by rw [← hX, secV_len (Hf.out.cut1 cut).sure]; exact Try.sizeSec
      rw [hX] at hlo hmid ⊢
      have hgr : W1.grownBy (W1.setRow gd (seg old (k * 33) X).toArray) (some gd) := ⟨rfl, rfl, rfl, by simp, fun q _ hq => setRow_other _ _ _ _ (fun e => hq (by rw [e]))⟩
      have HKo := Lib.hid ((HK0.out.trans (keepsO_below hb1)).trans (keepsO_cells hgr hbo))
      have HKp := Lib.hid ((HP0.out.trans (kpD_below hb1)).trans (kpD_grown hgr hl.2.2.1 hl.2.2.2))
      have HMid := Lib.hid hmid
      have Hbo := Lib.hid hbo
      have Hlo := Lib.hid hlo
      have Hsz := Lib.hid hsz
      have HX1 := Lib.hid hX1
      clear hd1 hl hbo hlo hmid hX hX1 hsz hgr HK0 HP0 HLd HLk HT
      go_wp2
      refine ⟨hb1, ?_⟩
      clear hb1
      refine segG (by kernel_rfl) (fun _ _ _ _ _ h => h) [20] [_] 1 rfl rfl (by kernel_rfl) ?_
      repeat (go_big_quiet_step (fail))
      refine wpQuiet_nil ?_
      refine lateG 21 0 rfl (by kernel_rfl) (by kernel_rfl) rfl ?_
      refine wpList_store_seg rfl 70 70 (.tmp 40) (.tmp 39) gd (k * 33) old X rfl rfl rfl rfl Hbo.out Hsz.out Hlo.out HX1.out ?_
      go_wp2
      refine ⟨trivial, ?_⟩
      refine wpAnyG_done (by kernel_rfl) ?_
      gi_wp2
      exact ⟨HKo.out, HKp.out, HMid.out⟩
    · have hq : ((j : Int) == torn) = false := by simpa using ht
      have Ht := Lib.hid ht
      clear ht
      by_cases hj : j ≤ 61
      · have hd : decide ((j : Int) ≤ 61) = true := by simp; omega
        have hbi := bit_i64 keep hj
        cases hbb : Dsk.bit keep j with
        | true =>
          have hfin := cutF_kept (keep := keep) (cut := cut) (s := s) Hn.out Ht.out hbb
          rw [hbb] at hbi
          have Hfin := Lib.hid hfin
          clear hbb hj hfin
          gi_wp2_with fail
          refine wpIn_region_G grows (by kernel_rfl) (by kernel_rfl) (by rintro ⟨_, _, hh⟩; exact absurd hh.1 (by simp)) ?_
          have HD := Lib.hid HM.out.drew
          have HK0 := Lib.hid (keepsO_below (Below.refl _ W).drew)
          have HP0 := Lib.hid (kpD_below (A := Bs) (B := gz) (Below.refl _ W).drew)
          clear HM t1
          generalize W.drew = W0 at *
          have hf := Hok.out.secs s (List.mem_of_getElem? Hs.out)
          obtain ⟨du, hB, hdu⟩ := HD.out.disk
          have hkm : (k : Int) < (d.secs.length : Int) := by have := (List.getElem?_eq_some_iff.1 Hs.out).1; omega
          obtain ⟨m, hm⟩ : ∃ m, d.secs.length = m := ⟨_, rfl⟩
          rw [hm] at hB hkm
          have hki : -9223372036854775808 ≤ (k : Int) ∧ (k : Int) ≤ 9223372036854775807 := by have := hB.max; omega
          have hlk := hB.map.look Try.undI Try.undMapS zero_sec hki
          rw [pendF_at Hs.out, Hw.out] at hlk
          simp only [if_true, Option.getD_some] at hlk
          have q1 := cell_later (HD.out.box _ Hm1.out).1 (i := 0) rfl
          have q2 := cell_later hB.blk (i := 2) rfl
          have q3 := cell_later hB.blk (i := 3) rfl
          have hl := hlow.out
          obtain ⟨old, hbo, hlo, hmid⟩ := HD.out.store j Hs.out (by rw [Hfin.out]; exact hf.good) HbF.out
          simp only [Hfin.out] at hbo hlo hmid
          have hsz : (Try.prog.info? 70).map (·.size) = some (secV s.good s.age).length := by rw [secV_len hf.good]; exact Try.sizeSec
          have hgr : W0.grownBy (W0.setRow gd (seg old (k * 33) (secV s.good s.age)).toArray) (some gd) := ⟨rfl, rfl, rfl, by simp, fun q _ hq => setRow_other _ _ _ _ (fun e => hq (by rw [e]))⟩
          have HKo := Lib.hid (HK0.out.trans (keepsO_cells hgr hbo))
          have HKp := Lib.hid (HP0.out.trans (kpD_grown hgr hl.2.2.1 hl.2.2.2))
          have HMid := Lib.hid hmid
          have Hbo := Lib.hid hbo
          have Hlo := Lib.hid hlo
          have Hsz := Lib.hid hsz
          have HLk := Lib.hid hlk
          clear hf hB hdu hm hki hlk hl hbo hlo hmid hsz hgr HK0 HP0
          refine segG (by kernel_rfl) (fun _ _ _ _ _ h => h) [0, 1, 2, 3, 4, 5, 6, 7, 8, 9] [_, _, _, _, _, _, _, _, _, _] 3 rfl rfl (by kernel_rfl) ?_
          repeat (go_big_quiet_step (fail))
          refine wpQuiet_nil ?_
          clear q1 q2 q3
          refine oneG 10 2 rfl (by kernel_rfl) rfl ?_
          refine wpList_lookup_run rfl 60 (.tmp 59) (.tmp 60) false rfl rfl rfl HLk.out ?_
          simp only [Act.put, List.setIfInBounds_toArray, List.set]
          go_wp2
          refine ⟨Below.refl _ _, ?_⟩
          refine segG (by kernel_rfl) (fun _ _ _ _ _ h => h) [11] [_] 1 rfl rfl (by kernel_rfl) ?_
          repeat (go_big_quiet_step (fail))
          refine wpQuiet_nil ?_
          refine lateG 12 0 rfl (by kernel_rfl) (by kernel_rfl) rfl ?_
          refine wpList_store_seg rfl 70 70 (.tmp 62) (.tmp 61) gd (k * 33) old (secV s.good s.age) rfl rfl rfl rfl Hbo.out Hsz.out Hlo.out (secV_one _ _) ?_
          go_wp2
          refine ⟨trivial, ?_⟩
          refine wpAnyG_done (by kernel_rfl) ?_
          gi_wp2
          exact ⟨HKo.out, HKp.out, HMid.out⟩
        | false =>
          have hfin := cutF_lost (keep := keep) (cut := cut) (s := s) Hn.out Ht.out hbb
          rw [hbb] at hbi
          have hsk := Lib.hid (HM.out.skip j Hs.out hfin)
          clear hbb hj hfin
          gi_wp2_with fail
          exact ⟨KeepsOthers.refl _, kpD_below (Below.refl _ _), hsk.out⟩
      · have hd : decide ((j : Int) ≤ 61) = false := by simp; omega
        have hfin := cutF_lost (keep := keep) (cut := cut) (s := s) Hn.out Ht.out (by unfold Dsk.bit; rw [show decide (j < 62) = false by simp; omega]; rfl)
        have hsk := Lib.hid (HM.out.skip j Hs.out hfin)
        clear hj hfin
        gi_wp2_with fail
        exact ⟨KeepsOthers.refl _, kpD_below (Below.refl _ _), hsk.out⟩
  case done =>
    rintro D' xs W hD hxs h hK
    subst hxs
    have hl := hlow.out
    have hDs : D.secs = Dsk.crashL keep torn cut 0 d.secs ∧ D.fuse = none ∧ D.many = d.many := by rw [HDD.out]; exact ⟨rfl, rfl, rfl⟩
    have hB := h.finish D (by rw [hDs.1, Dsk.crashL_len]) (fun i x hx => ⟨_, by rw [hDs.1, Dsk.crashL_get, hx]; rfl, by
      rw [Nat.zero_add]
      cases hw : x.wet <;> simp [hw, cutF]⟩)
    obtain ⟨W1, hcl, hmap, hgr⟩ := hB.map.clear Try.undMapS 0
    have hbx := (h.box _ Hm1.out).1
    have hbx1 : Blk W1 w.heap.size 23 [.pointer (some ⟨g, 0, none⟩)] := hbx.grown hgr (fun e => HbF.out _ Hm1.out (by have e2 : w.heap.size = gm := Option.some.inj e; show F w.heap.size; rw [e2]; exact hB.fgm))
    have q1 := hbx.cell 0
    have q4 := hbx1.cell 0
    have q3 := hB.cells.2.2.2.1
    simp only [List.getElem?_cons_zero] at q1 q4
    have hdry : Dsk.Dry D := by rw [HDD.out]; exact Dsk.dry_crash d keep torn cut
    have hokD : Dsk.Ok D := by rw [HDD.out]; exact Hok.out.crash keep torn cut
    have hne : ∀ q, F q → q ≠ D' := fun q hq e => by have := hl.1 q hq; omega
    have hB1 : DiskB W1 F g gd gm fb left D.secs.length D.many (sureL D) (Dsk.pending D) (pendF D) := by
      rw [Dsk.pending_dry hdry, dry_pend hdry]
      refine ⟨?_, hB.dur.grown hgr (fun e => hB.gdm (Option.some.inj e)), hmap, hB.len, hB.thin, hB.max, hB.own⟩
      have := hB.blk.grown hgr (fun e => hB.ggm (Option.some.inj e))
      rw [hDs.2.2]
      exact this
    have hset := set_any hB1 (-1)
    have ho1 : Only F w W1 := h.only.trans (.of_grown hgr (fun j e => by obtain rfl := Option.some.inj e; exact hB.fgm))
    have hK1 : W1.heap[D']? = some (.deferred (some [])) := (hgr.block D' (Array.getElem?_eq_some_iff.1 hK).1 (fun e => hne gm hB.fgm (Option.some.inj e).symm)).trans hK
    have Hset := Lib.hid hset
    have HO := Lib.hid ho1
    have HK1 := Lib.hid hK1
    have HCl := Lib.hid hcl
    have HDs := Lib.hid hDs
    have HokD := Lib.hid hokD
    have Hne := Lib.hid hne
    have HDge := Lib.hid hD
    clear h hl hDs hB hmap hgr hbx hbx1 hdry hokD hne hB1 hset ho1 hK hK1 hcl hD
    unfold ptr at *
    gi_wp2_with (refine wpListIn_clear_run rfl (.tmp 66) _ rfl rfl HCl.out ?_)
    refine ⟨trivial, ?_⟩
    refine (callsIn_wide.2 Hset.out).mono ?_
    rintro e W2 ⟨rfl, hB2, ho2⟩
    have hnD : ¬ F D' := fun hf => Hne.out D' hf rfl
    have hK2 : W2.heap[D']? = some (.deferred (some [])) := (ho2.block D' (Array.getElem?_eq_some_iff.1 HK1.out).1 hnD).trans HK1.out
    have hB3 := hB2.keep (w' := W2.putObj D' (.deferred none)) (fun q hq => World.putObj_heap_other (Hne.out q hq))
    have hR : RepD (W2.putObj D' (.deferred none)) F g D := ⟨gd, gm, _, _, hB3, by rw [HDs.out.2.1]; exact fuseI_set (x := -1) (by unfold isI64; omega), HokD.out⟩
    have ho : Only F w (W2.putObj D' (.deferred none)) := (HO.out.trans ho2).then (F' := fun q => q = D') (.of_grown (grownBy_putObj' _ D' _) (fun j e => (Option.some.inj e).symm)) (fun q hq => .inr (by have := Hz.out; have := HDge.out; omega))
    have HR := Lib.hid hR
    have HO2 := Lib.hid ho
    have HK2 := Lib.hid hK2
    clear hB2 ho2 hnD hK2 hB3 hR ho q1 q3 q4 Hset HO HK1 HCl
    gi_wp2
    refine ⟨by simp, .inl ⟨_, _, rfl, run_takeDeferred HK2.out, ?_⟩⟩
    exact ⟨_, results_none rfl _ _ _, rfl, F, HR.out, fun j hj => .inl hj, HO2.out⟩
theorem crash_any {w : World} {F : Nat → Prop} {g : Nat} {d : Dsk} (keep torn cut : Int) (h : RepD w F g d) (hkp : isI64 keep) (hto : isI64 torn) (hcu : isI64 cut) :
    Calls Try.prog 14 #[ptr g, .int .i64 keep, .int .i64 torn, .int .i64 cut] w fun e w' => e = .returned (.tuple #[]) ∧ ∃ F', RepD w' F' g (Dsk.crash d keep torn cut) ∧ (∀ k, F' k → F k ∨ w.heap.size ≤ k) ∧ Only F w w' :=
  callsIn_wide.1 (crash_in keep torn cut h hkp hto hcu)
end Go.Proofs.Ytampdfmakhdliaa
