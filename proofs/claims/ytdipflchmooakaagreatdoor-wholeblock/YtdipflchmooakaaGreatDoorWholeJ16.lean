/-
  Package aes: expand.
-/
import Derived.Test.YtdipflchmooakaaGreatDoorWholeJ01
import Derived.Test.YtdipflchmooakaaGreatDoorWholeJ05
import Derived.Test.YtdipflchmooakaaGreatDoorWholeJ02
import Derived.Test.YtdipflchmooakaaGreatDoorWholeJ12
import Derived.Test.YtdipflchmooakaaGreatDoorWholeJ09
import Derived.Test.YtdipflchmooakaaGreatDoorWholeJ13
import Derived.Test.YtdipflchmooakaaGreatDoorWholeJ14
import Derived.Test.YtdipflchmooakaaGreatDoorWholeJ15
import Derived.BigRegion
import Derived.Deep.CutRange
import Derived.RegionTactic
set_option maxRecDepth 100000
namespace Go.Gar
open Go.RowKit
/-- make of rows of zero bytes. -/
theorem run_make_zeros {P : Program} (t e : TypeId) (k : Nat) (hk : 0 < k) (ht : P.underlying t = some (.slice e)) (hi : (P.info? e).map (fun i => (i.zero, i.size, i.bytes)) = some (some (.agg (Array.replicate k (.int .u8 0))), k, k)) (n : Nat) (hn : n ≤ 1000) (hk2 : k ≤ 1000) (w : World) :
    (Instr.makeSlice t (.int .i64 (n : Int)) (.int .i64 (n : Int))).run P w = .ok (.slice (some ⟨w.heap.size, 0, none⟩) n n) (w.alloc (.cells (u8s (List.replicate (n * k) 0)).toArray e)) := by
  obtain ⟨i, hi, hzz⟩ := Option.map_eq_some_iff.1 hi
  simp only [Prod.mk.injEq] at hzz
  obtain ⟨hz, hs, hb⟩ := hzz
  have hmul : k * n ≤ 1000 * 1000 := Nat.mul_le_mul hk2 hn
  have hmul2 : (k : Int) * (n : Int) ≤ 1000000 := by
    have : ((k * n : Nat) : Int) ≤ 1000000 := by omega
    rwa [Int.natCast_mul] at this
  have hr := run_make (P := P) w t e i _ ht hi hz .i64 .i64 n n (by omega) (by omega) (by rw [hb]; omega) (by omega)
  rw [hr]
  simp only [Int.toNat_natCast, hs]
  congr 3
  apply Array.ext'
  apply List.ext_getElem?
  intro j
  simp [madeCells, u8s, Value.cells, List.getElem?_replicate]
  by_cases hj : j < n * k
  · simp [hj, Nat.mod_lt j hk]
  · simp [hj]
end Go.Gar
namespace Go.Proofs.YtdipflchmooakaaGreatDoor
open Go.RowKit Go.Gar Go.Gar.Aes

theorem prog_seg (Z W : List UInt8) (q k : Nat) (h : W.length = Z.length) (hk : q + k ≤ W.length) : seg (u8s (prog Z W q)) q (u8s ((W.drop q).take k)) = u8s (prog Z W (q + k)) := by
  have h1 : (u8s ((W.drop q).take k)).length = k := by rw [u8s_len]; simp; omega
  unfold seg
  rw [h1, u8s_take, u8s_drop, ← u8s_app, ← u8s_app]
  congr 1
  have h2 : (W.take q).length = q := by simp; omega
  unfold prog
  rw [List.take_left' h2, List.drop_append, h2, List.drop_of_length_le (l := List.take q W) (by omega), List.nil_append, List.drop_drop, List.take_add, show q + (q + k - q) = q + k from by omega]
theorem prog_early (Z W : List UInt8) (q j : Nat) (h : W.length = Z.length) (hj : j < q) (hq : q ≤ W.length) : (prog Z W q)[j]? = W[j]? := by
  unfold prog
  rw [List.getElem?_append_left (by simp; omega), List.getElem?_take_of_lt hj]
theorem Tryz.und48 : Tryz.prog.underlying 91 = some (.slice 89) := by kernel_rfl
theorem Tryz.make48 : (Tryz.prog.info? 89).map (fun i => (i.zero, i.size, i.bytes)) = some (some (.agg (Array.replicate 4 (.int .u8 0))), 4, 4) := by kernel_rfl
theorem Tryz.und40 : Tryz.prog.underlying 83 = some (.slice 32) := by kernel_rfl
theorem Tryz.make40 : (Tryz.prog.info? 32).map (fun i => (i.zero, i.size, i.bytes)) = some (some (.agg (Array.replicate 16 (.int .u8 0))), 16, 16) := by kernel_rfl
theorem run_arrayAt4 (w : World) (p : Addr) (len cap : Nat) (h : 4 ≤ len) : (Instr.arrayAt 89 (.slice (some p) len cap)).run Tryz.prog w = .ok (.pointer (some p)) w := by
  have : ¬ len < 4 := by omega
  simp [Instr.arrayAt, Sem.run_bind, run_underlying Tryz.undA4 w, Result.andThen, this]
theorem wpList_arrayAt {P : Program} {w : World} {ops : Array Oper} {rest : List Oper} {o : Oper} {a : Act} {Q : Exit → Act → World → Prop} (t : TypeId) (p : Operand) (ho : o.op = .sliceToArrayPointer t p) {x v : Value} (hp : a.eval p = x)
    (hrun : (Instr.arrayAt t x).run P w = .ok v w) (hw : Region.wanted o (yielded ops a.tmps) = true) (h : wpList P ops Q rest (a.put o.dst v) w) : wpList P ops Q (o :: rest) a w := by
  refine wpList_run_w hw (v := v) (w' := w) ?_ h
  unfold execOp
  simp only [ho, hp, Sem.run_bind, hrun, Result.andThen_ok, Sem.run_pure]
theorem exW_seg (key : List UInt8) (i : Nat) : exW key i = ((exK key).drop (i * 4)).take 4 := by rw [exW, Nat.mul_comm]
theorem exW_range (key : List UInt8) (i : Nat) (h : i < key.length / 4) (j : Nat) (c : UInt8) (hc : (exW key i)[j]? = some c) : key[4 * i + j]? = some c := by
  rw [exW_key key i h] at hc
  have hj : j < 4 := (List.getElem?_eq_some_iff.1 hc).1
  have : key[4 * i + j]? = some (at_ key (4 * i + j)) := at_get (by omega)
  rw [this]
  match j, hj with
  | 0, _ => exact hc
  | 1, _ => exact hc
  | 2, _ => exact hc
  | 3, _ => exact hc

/-- The expanded key, its words by name. -/
structure Exp (n N : Nat) (key W : List UInt8) (x : Nat → List UInt8) : Prop where
  len : W.length = N * 4
  word : ∀ i, i < N → (x i).length = 4
  cut : ∀ i, i < N → x i = (W.drop (i * 4)).take 4
  key : ∀ i, i < n → ∀ j c, (x i)[j]? = some c → key[4 * i + j]? = some c
  next : ∀ i, n ≤ i → i < N → x i = xor4 (turnW n i (x (i - 1))) (x (i - n))
  get : ∀ i, i < N → ∀ r, r < 4 → W[i * 4 + r]? = some (at_ (x i) r)
theorem Exp.of (n N : Nat) (key : List UInt8) (h0 : 0 < n) (hk : key.length / 4 = n) (hN : N = 4 * n + 28) : Exp n N key (exK key) (exW key) := by
  subst hk
  subst hN
  exact ⟨by rw [exK_len]; omega, fun i hi => exW_len key i hi, fun i hi => exW_seg key i, fun i hi => exW_range key i hi, fun i hn hi => exW_next key i h0 hn hi, fun i hi r hr => by rw [Nat.mul_comm i 4]; exact exK_at key i r hi hr⟩

set_option maxHeartbeats 1000000 in
set_option maxRecDepth 100000 in
theorem expand_4 (hM : MulC) (w : World) (b o cap gt q : Nat) (key W : List UInt8) (x : Nat → List UInt8) (hE : Exp 4 44 key W x) (hcap : 16 ≤ cap) (hr : ∀ i c, key[i]? = some c → w.cell? ⟨b, o + i, none⟩ = some (.int .u8 (c.toNat : Int))) (hb : b < w.heap.size) (hT : Tbl w gt q sb) (hlt : gt < w.heap.size) :
    Calls Tryz.prog 51 #[.slice (some ⟨b, o, none⟩) 16 cap, .pointer (some ⟨gt, q, none⟩)] w fun e w' => ∃ g, e = .returned (.slice (some ⟨g, 0, none⟩) 44 44) ∧ w.heap.size ≤ g ∧ Blk w' g 89 (u8s W) ∧ Below w.heap.size w w' := by
  have HM := Lib.hid hM
  have HE := Lib.hid hE
  have hmk : (Instr.makeSlice 91 (.int .i64 44) (.int .i64 44)).run Tryz.prog w = .ok (.slice (some ⟨w.heap.size, 0, none⟩) 44 44) (w.alloc (.cells (u8s (List.replicate (44 * 4) 0)).toArray 89)) := run_make_zeros (P := Tryz.prog) 91 89 4 (by omega) Tryz.und48 Tryz.make48 44 (by omega) (by omega) w
  have HB := Lib.hid (Blk.new w 89 (u8s (List.replicate (44 * 4) 0)))
  have Hb := Lib.hid (below_alloc w (.cells (u8s (List.replicate (44 * 4) 0)).toArray 89))
  have HR := Lib.hid hr
  have HT := Lib.hid hT
  have HKL : Hid (W.length = (List.replicate (44 * 4) (0 : UInt8)).length) := Lib.hid (by rw [hE.len, List.length_replicate])
  generalize hZ : List.replicate (44 * 4) (0 : UInt8) = Z at *
  generalize w.alloc (.cells (u8s Z).toArray 89) = w1 at *
  clear hM hE hr hT hZ
  go_enter Tryz.func51, Tryz.ntmps51
  go_wp2
  clear hmk
  go_loopw [22] (fun v w' => ∃ i : Nat, i ≤ 44 ∧ v = .int .i64 (i : Int) ∧ Blk w' w.heap.size 89 (u8s (prog Z W (i * 4))) ∧ Below w.heap.size w w') (fun v _ => 44 - (intOf v).toNat)
  case atStart => exact ⟨0, by omega, rfl, by rw [Nat.zero_mul, prog_0]; exact HB.out, Hb.out⟩
  case round =>
    obtain ⟨i, hi, rfl, hB, hbl⟩ := hrel
    clear HB Hb
    have HB := Lib.hid hB
    have Hb := Lib.hid hbl
    clear hB hbl
    by_cases hiM : i < 44
    · have d1 : decide ((i : Int) < 44) = true := by simp; omega
      by_cases hin : i < 4
      · have hld := run_loadVar_mid (P := Tryz.prog) wr b (o + 4 * i) 89 (u8s (x i)) _ (fun j v hv => by
          rw [u8s_get] at hv
          cases hq : (x i)[j]? with
          | none => simp [hq] at hv
          | some c =>
            rw [hq] at hv
            simp at hv
            subst hv
            have := HR.out (4 * i + j) c (HE.out.key i hin j c hq)
            rw [← Nat.add_assoc] at this
            unfold World.cell? at this ⊢
            rw [← this]
            simp only [Hb.out.block b hb]) Tryz.undA4 rfl (sizeA4 _ (HE.out.word i (by omega)))
        have hat := run_arrayAt4 wr ⟨b, o + 4 * i, none⟩ (16 - 4 * i) (cap - 4 * i) (by omega)
        have HSz := Lib.hid (sizeA4 (x i) (HE.out.word i (by omega)))
        have HO := Lib.hid (u8s_one (x i))
        have HFit : Hid (i * 4 + (u8s (x i)).length ≤ (u8s (prog Z W (i * 4))).length) := Lib.hid (by
          rw [u8s_len, u8s_len, prog_len _ _ _ HKL.out, ← HKL.out, HE.out.len, HE.out.word i (by omega)]; omega)
        have hSeg : seg (u8s (prog Z W (i * 4))) (i * 4) (u8s (x i)) = u8s (prog Z W ((i + 1) * 4)) := by
          rw [HE.out.cut i (by omega), show (i + 1) * 4 = i * 4 + 4 from by omega]
          exact prog_seg _ _ _ _ HKL.out (by rw [HE.out.len]; omega)
        have HBn := Lib.hid (HB.out.row (seg (u8s (prog Z W (i * 4))) (i * 4) (u8s (x i))))
        have Hbn := Lib.hid (below_setRow Hb.out (Nat.le_refl _) (seg (u8s (prog Z W (i * 4))) (i * 4) (u8s (x i))).toArray)
        have HBn2 : Hid (Blk (wr.setRow w.heap.size (seg (u8s (prog Z W (i * 4))) (i * 4) (u8s (x i))).toArray) w.heap.size 89 (u8s (prog Z W ((i + 1) * 4)))) := Lib.hid (by rw [← hSeg]; exact HBn.out)
        clear hSeg HBn
        generalize u8s (x i) = xs at *
        generalize u8s (prog Z W (i * 4)) = cs at *
        go_wp2_with (first | refine wpList_arrayAt 89 (.tmp 33) rfl rfl hat (by kernel_rfl) ?_ | refine wpList_load_at 89 (.tmp 34) rfl rfl xs.toArray hld (by kernel_rfl) ?_ | refine wpList_store_seg rfl 89 89 (.tmp 36) (.tmp 35) w.heap.size (i * 4) _ _ rfl rfl rfl rfl HB.out HSz.out HFit.out HO.out ?_)
        exact ⟨⟨i + 1, by omega, by go_num, HBn2.out, Hbn.out⟩, by simp [intOf]; omega⟩
      · have hld := run_loadVar_seg (P := Tryz.prog) (w := wr) (t := 89) (ty := 89) w.heap.size ((i - 1) * 4) (u8s (prog Z W (i * 4))) (u8s (x (i - 1))) HB.out (fun j v hv => by
          have hj : j < 4 := by
            have := (List.getElem?_eq_some_iff.1 hv).1
            rw [u8s_len, HE.out.word (i - 1) (by omega)] at this
            exact this
          rw [u8s_get, four_get _ (HE.out.word (i - 1) (by omega)) j hj] at hv
          rw [u8s_get, prog_early Z W _ _ HKL.out (by omega) (by rw [HE.out.len]; omega), HE.out.get (i - 1) (by omega) j hj]
          exact hv) Tryz.undA4 rfl (sizeA4 _ (HE.out.word (i - 1) (by omega)))
        have HTl : Hid (Tbl wr gt q sb) := Lib.hid (HT.out.below Hb.out hlt)
        have Hlt : Hid (gt < wr.heap.size) := Lib.hid (Nat.lt_of_lt_of_le hlt Hb.out.size)
        go_wp2_with (refine wpList_load_at 89 (.tmp 40) rfl rfl (u8s (x (i - 1))).toArray hld (by kernel_rfl) ?_)
        refine (temporary_4 HM.out wr gt q i (x (i - 1)) (HE.out.word (i - 1) (by omega)) (by omega) (by omega) HTl.out Hlt.out).mono ?_
        rintro e w4 ⟨rfl, hb4⟩
        have hX := HE.out.next i (by omega) hiM
        have htl := turnW_len 4 i (x (i - 1))
        have HB4 := HB.out.below hb4 HB.out.lt
        have Hb4 : Below w.heap.size w w4 := Hb.out.trans (hb4.mono Hb.out.size)
        obtain ⟨tw, htw⟩ : ∃ tw, turnW 4 i (x (i - 1)) = tw := ⟨_, rfl⟩
        rw [htw] at hX htl ⊢
        have HT5 := Lib.hid (Blk.new w4 89 (u8s tw))
        have HB5 := Lib.hid (HB4.alloc (.cells (u8s tw).toArray 89))
        have Hb5 := Lib.hid (Hb4.alloc Hb4.size (.cells (u8s tw).toArray 89))
        have HNe : Hid (w.heap.size ≠ w4.heap.size) := Lib.hid (by have := HB4.lt; omega)
        have HGe : Hid (w.heap.size ≤ w4.heap.size) := Lib.hid Hb4.size
        have HZ := Lib.hid (Blk.new w4 89 z4)
        have HSz := Lib.hid (sizeA4 tw htl)
        have HZL : Hid (z4.length = (u8s tw).length) := Lib.hid (by rw [u8s_len, htl]; rfl)
        have HO := Lib.hid (u8s_one tw)
        have HEa := Lib.hid (alloc_row w4 z4.toArray 89 (u8s tw))
        have HX := Lib.hid hX
        have HTw := Lib.hid htl
        clear hb4 HB4 Hb4 htw hX htl HB Hb hld HTl Hlt
        go_wp2_with (first | refine wpList_alloc_arr rfl 89 z4.toArray rfl zero4 ?_ | refine wpList_store_arr rfl 89 (.tmp 9) (.tmp 45) w4.heap.size _ _ rfl rfl rfl rfl HZ.out HSz.out HZL.out HO.out ?_)
        rw [HEa.out]
        clear HZ HSz HZL HO HEa
        generalize w4.alloc (.cells (u8s tw).toArray 89) = w5 at *
        generalize w4.heap.size = g9 at *
        go_loopw [46] (fun v w' => ∃ j : Nat, j ≤ 4 ∧ v = .int .i64 (j : Int) ∧ Blk w' w.heap.size 89 (u8s (prog Z W (i * 4 + j))) ∧ Blk w' g9 89 (u8s tw) ∧ Below w.heap.size w w') (fun v _ => 4 - (intOf v).toNat)
        case atStart => exact ⟨0, by omega, rfl, HB5.out, HT5.out, Hb5.out⟩
        case round =>
          obtain ⟨j, hj, rfl, hB, hT9, hbl⟩ := hrel
          clear HT5 HB5 Hb5
          by_cases hjl : j < 4
          · have e1 : W[(i - 4) * 4 + j]? = some (at_ (x (i - 4)) j) := HE.out.get (i - 4) (by omega) j hjl
            have e2 : W[i * 4 + j]? = some (at_ (x (i - 4)) j ^^^ at_ tw j) := by
              rw [HE.out.get i hiM j hjl, HX.out, UInt8.xor_comm]
              match j, hjl with
              | 0, _ => rfl
              | 1, _ => rfl
              | 2, _ => rfl
              | 3, _ => rfl
            have hc1 := blk_byte hB (i := (i - 4) * 4 + j) (c := at_ (x (i - 4)) j) (by rw [prog_early Z W _ _ HKL.out (by omega) (by rw [HE.out.len]; omega), e1])
            have hc2 := blk_byte hT9 (four_get tw HTw.out j hjl)
            obtain ⟨v0, hc0⟩ : ∃ v0, wr.cell? ⟨w.heap.size, i * 4 + j, none⟩ = some v0 := ⟨_, blk_byte hB (i := i * 4 + j) (c := at_ Z (i * 4 + j)) (by rw [prog_get _ _ _ HKL.out (by rw [← HKL.out, HE.out.len]; omega), at_get (by rw [← HKL.out, HE.out.len]; omega)])⟩
            have hf := hB.frozen (i * 4 + j)
            have hS := hB.set_ (i * 4 + j) (.int .u8 ((at_ (x (i - 4)) j ^^^ at_ tw j).toNat : Int))
            rw [u8s_set, prog_set _ _ _ _ HKL.out e2, ← xor_byte] at hS
            have HBn := Lib.hid hS
            have HTn := Lib.hid (hT9.far (p := ⟨w.heap.size, i * 4 + j, none⟩) (Ne.symm HNe.out) (.int .u8 (bits .xor .u8 ((at_ (x (i - 4)) j).toNat : Int) ((at_ tw j).toNat : Int))))
            have Hbn := Lib.hid (hbl.setCell (p := ⟨w.heap.size, i * 4 + j, none⟩) (Nat.le_refl _) (.int .u8 (bits .xor .u8 ((at_ (x (i - 4)) j).toNat : Int) ((at_ tw j).toNat : Int))))
            have hx8 := (at_ (x (i - 4)) j).toNat_lt
            have hy8 := (at_ tw j).toNat_lt
            clear hS hB hT9 hbl e1 e2
            generalize (at_ (x (i - 4)) j).toNat = xn at *
            generalize (at_ tw j).toNat = yn at *
            go_wp2
            go_region
            go_wp2
            exact ⟨⟨j + 1, by omega, by go_num, HBn.out, HTn.out, ⟨Hbn.out.os, Hbn.out.tape, Hbn.out.output, Hbn.out.size, Hbn.out.block⟩⟩, by simp [intOf]; omega⟩
          · have HBn : Hid (Blk wr w.heap.size 89 (u8s (prog Z W ((i + 1) * 4)))) := Lib.hid (by rw [show (i + 1) * 4 = i * 4 + j from by omega]; exact hB)
            have Hbn := Lib.hid hbl
            clear hB hT9 hbl
            go_wp2
            exact ⟨⟨i + 1, by omega, by go_num, HBn.out, Hbn.out⟩, by simp [intOf]; omega⟩
    · have hEn : prog Z W (i * 4) = W := prog_end _ _ _ (by rw [← HKL.out, HE.out.len]; omega) (by rw [HE.out.len]; omega)
      rw [hEn] at HB
      clear hEn
      have d1 : decide ((i : Int) < 44) = false := by simp; omega
      go_wp2
      go_ret
      exact ⟨_, rfl, Nat.le_refl _, HB.out, Hb.out⟩

set_option maxHeartbeats 1000000 in
set_option maxRecDepth 100000 in
theorem expand_6 (hM : MulC) (w : World) (b o cap gt q : Nat) (key W : List UInt8) (x : Nat → List UInt8) (hE : Exp 6 52 key W x) (hcap : 24 ≤ cap) (hr : ∀ i c, key[i]? = some c → w.cell? ⟨b, o + i, none⟩ = some (.int .u8 (c.toNat : Int))) (hb : b < w.heap.size) (hT : Tbl w gt q sb) (hlt : gt < w.heap.size) :
    Calls Tryz.prog 51 #[.slice (some ⟨b, o, none⟩) 24 cap, .pointer (some ⟨gt, q, none⟩)] w fun e w' => ∃ g, e = .returned (.slice (some ⟨g, 0, none⟩) 52 52) ∧ w.heap.size ≤ g ∧ Blk w' g 89 (u8s W) ∧ Below w.heap.size w w' := by
  have HM := Lib.hid hM
  have HE := Lib.hid hE
  have hmk : (Instr.makeSlice 91 (.int .i64 52) (.int .i64 52)).run Tryz.prog w = .ok (.slice (some ⟨w.heap.size, 0, none⟩) 52 52) (w.alloc (.cells (u8s (List.replicate (52 * 4) 0)).toArray 89)) := run_make_zeros (P := Tryz.prog) 91 89 4 (by omega) Tryz.und48 Tryz.make48 52 (by omega) (by omega) w
  have HB := Lib.hid (Blk.new w 89 (u8s (List.replicate (52 * 4) 0)))
  have Hb := Lib.hid (below_alloc w (.cells (u8s (List.replicate (52 * 4) 0)).toArray 89))
  have HR := Lib.hid hr
  have HT := Lib.hid hT
  have HKL : Hid (W.length = (List.replicate (52 * 4) (0 : UInt8)).length) := Lib.hid (by rw [hE.len, List.length_replicate])
  generalize hZ : List.replicate (52 * 4) (0 : UInt8) = Z at *
  generalize w.alloc (.cells (u8s Z).toArray 89) = w1 at *
  clear hM hE hr hT hZ
  go_enter Tryz.func51, Tryz.ntmps51
  go_wp2
  clear hmk
  go_loopw [22] (fun v w' => ∃ i : Nat, i ≤ 52 ∧ v = .int .i64 (i : Int) ∧ Blk w' w.heap.size 89 (u8s (prog Z W (i * 4))) ∧ Below w.heap.size w w') (fun v _ => 52 - (intOf v).toNat)
  case atStart => exact ⟨0, by omega, rfl, by rw [Nat.zero_mul, prog_0]; exact HB.out, Hb.out⟩
  case round =>
    obtain ⟨i, hi, rfl, hB, hbl⟩ := hrel
    clear HB Hb
    have HB := Lib.hid hB
    have Hb := Lib.hid hbl
    clear hB hbl
    by_cases hiM : i < 52
    · have d1 : decide ((i : Int) < 52) = true := by simp; omega
      by_cases hin : i < 6
      · have hld := run_loadVar_mid (P := Tryz.prog) wr b (o + 4 * i) 89 (u8s (x i)) _ (fun j v hv => by
          rw [u8s_get] at hv
          cases hq : (x i)[j]? with
          | none => simp [hq] at hv
          | some c =>
            rw [hq] at hv
            simp at hv
            subst hv
            have := HR.out (4 * i + j) c (HE.out.key i hin j c hq)
            rw [← Nat.add_assoc] at this
            unfold World.cell? at this ⊢
            rw [← this]
            simp only [Hb.out.block b hb]) Tryz.undA4 rfl (sizeA4 _ (HE.out.word i (by omega)))
        have hat := run_arrayAt4 wr ⟨b, o + 4 * i, none⟩ (24 - 4 * i) (cap - 4 * i) (by omega)
        have HSz := Lib.hid (sizeA4 (x i) (HE.out.word i (by omega)))
        have HO := Lib.hid (u8s_one (x i))
        have HFit : Hid (i * 4 + (u8s (x i)).length ≤ (u8s (prog Z W (i * 4))).length) := Lib.hid (by
          rw [u8s_len, u8s_len, prog_len _ _ _ HKL.out, ← HKL.out, HE.out.len, HE.out.word i (by omega)]; omega)
        have hSeg : seg (u8s (prog Z W (i * 4))) (i * 4) (u8s (x i)) = u8s (prog Z W ((i + 1) * 4)) := by
          rw [HE.out.cut i (by omega), show (i + 1) * 4 = i * 4 + 4 from by omega]
          exact prog_seg _ _ _ _ HKL.out (by rw [HE.out.len]; omega)
        have HBn := Lib.hid (HB.out.row (seg (u8s (prog Z W (i * 4))) (i * 4) (u8s (x i))))
        have Hbn := Lib.hid (below_setRow Hb.out (Nat.le_refl _) (seg (u8s (prog Z W (i * 4))) (i * 4) (u8s (x i))).toArray)
        have HBn2 : Hid (Blk (wr.setRow w.heap.size (seg (u8s (prog Z W (i * 4))) (i * 4) (u8s (x i))).toArray) w.heap.size 89 (u8s (prog Z W ((i + 1) * 4)))) := Lib.hid (by rw [← hSeg]; exact HBn.out)
        clear hSeg HBn
        generalize u8s (x i) = xs at *
        generalize u8s (prog Z W (i * 4)) = cs at *
        go_wp2_with (first | refine wpList_arrayAt 89 (.tmp 33) rfl rfl hat (by kernel_rfl) ?_ | refine wpList_load_at 89 (.tmp 34) rfl rfl xs.toArray hld (by kernel_rfl) ?_ | refine wpList_store_seg rfl 89 89 (.tmp 36) (.tmp 35) w.heap.size (i * 4) _ _ rfl rfl rfl rfl HB.out HSz.out HFit.out HO.out ?_)
        exact ⟨⟨i + 1, by omega, by go_num, HBn2.out, Hbn.out⟩, by simp [intOf]; omega⟩
      · have hld := run_loadVar_seg (P := Tryz.prog) (w := wr) (t := 89) (ty := 89) w.heap.size ((i - 1) * 4) (u8s (prog Z W (i * 4))) (u8s (x (i - 1))) HB.out (fun j v hv => by
          have hj : j < 4 := by
            have := (List.getElem?_eq_some_iff.1 hv).1
            rw [u8s_len, HE.out.word (i - 1) (by omega)] at this
            exact this
          rw [u8s_get, four_get _ (HE.out.word (i - 1) (by omega)) j hj] at hv
          rw [u8s_get, prog_early Z W _ _ HKL.out (by omega) (by rw [HE.out.len]; omega), HE.out.get (i - 1) (by omega) j hj]
          exact hv) Tryz.undA4 rfl (sizeA4 _ (HE.out.word (i - 1) (by omega)))
        have HTl : Hid (Tbl wr gt q sb) := Lib.hid (HT.out.below Hb.out hlt)
        have Hlt : Hid (gt < wr.heap.size) := Lib.hid (Nat.lt_of_lt_of_le hlt Hb.out.size)
        go_wp2_with (refine wpList_load_at 89 (.tmp 40) rfl rfl (u8s (x (i - 1))).toArray hld (by kernel_rfl) ?_)
        refine (temporary_6 HM.out wr gt q i (x (i - 1)) (HE.out.word (i - 1) (by omega)) (by omega) (by omega) HTl.out Hlt.out).mono ?_
        rintro e w4 ⟨rfl, hb4⟩
        have hX := HE.out.next i (by omega) hiM
        have htl := turnW_len 6 i (x (i - 1))
        have HB4 := HB.out.below hb4 HB.out.lt
        have Hb4 : Below w.heap.size w w4 := Hb.out.trans (hb4.mono Hb.out.size)
        obtain ⟨tw, htw⟩ : ∃ tw, turnW 6 i (x (i - 1)) = tw := ⟨_, rfl⟩
        rw [htw] at hX htl ⊢
        have HT5 := Lib.hid (Blk.new w4 89 (u8s tw))
        have HB5 := Lib.hid (HB4.alloc (.cells (u8s tw).toArray 89))
        have Hb5 := Lib.hid (Hb4.alloc Hb4.size (.cells (u8s tw).toArray 89))
        have HNe : Hid (w.heap.size ≠ w4.heap.size) := Lib.hid (by have := HB4.lt; omega)
        have HGe : Hid (w.heap.size ≤ w4.heap.size) := Lib.hid Hb4.size
        have HZ := Lib.hid (Blk.new w4 89 z4)
        have HSz := Lib.hid (sizeA4 tw htl)
        have HZL : Hid (z4.length = (u8s tw).length) := Lib.hid (by rw [u8s_len, htl]; rfl)
        have HO := Lib.hid (u8s_one tw)
        have HEa := Lib.hid (alloc_row w4 z4.toArray 89 (u8s tw))
        have HX := Lib.hid hX
        have HTw := Lib.hid htl
        clear hb4 HB4 Hb4 htw hX htl HB Hb hld HTl Hlt
        go_wp2_with (first | refine wpList_alloc_arr rfl 89 z4.toArray rfl zero4 ?_ | refine wpList_store_arr rfl 89 (.tmp 9) (.tmp 45) w4.heap.size _ _ rfl rfl rfl rfl HZ.out HSz.out HZL.out HO.out ?_)
        rw [HEa.out]
        clear HZ HSz HZL HO HEa
        generalize w4.alloc (.cells (u8s tw).toArray 89) = w5 at *
        generalize w4.heap.size = g9 at *
        go_loopw [46] (fun v w' => ∃ j : Nat, j ≤ 4 ∧ v = .int .i64 (j : Int) ∧ Blk w' w.heap.size 89 (u8s (prog Z W (i * 4 + j))) ∧ Blk w' g9 89 (u8s tw) ∧ Below w.heap.size w w') (fun v _ => 4 - (intOf v).toNat)
        case atStart => exact ⟨0, by omega, rfl, HB5.out, HT5.out, Hb5.out⟩
        case round =>
          obtain ⟨j, hj, rfl, hB, hT9, hbl⟩ := hrel
          clear HT5 HB5 Hb5
          by_cases hjl : j < 4
          · have e1 : W[(i - 6) * 4 + j]? = some (at_ (x (i - 6)) j) := HE.out.get (i - 6) (by omega) j hjl
            have e2 : W[i * 4 + j]? = some (at_ (x (i - 6)) j ^^^ at_ tw j) := by
              rw [HE.out.get i hiM j hjl, HX.out, UInt8.xor_comm]
              match j, hjl with
              | 0, _ => rfl
              | 1, _ => rfl
              | 2, _ => rfl
              | 3, _ => rfl
            have hc1 := blk_byte hB (i := (i - 6) * 4 + j) (c := at_ (x (i - 6)) j) (by rw [prog_early Z W _ _ HKL.out (by omega) (by rw [HE.out.len]; omega), e1])
            have hc2 := blk_byte hT9 (four_get tw HTw.out j hjl)
            obtain ⟨v0, hc0⟩ : ∃ v0, wr.cell? ⟨w.heap.size, i * 4 + j, none⟩ = some v0 := ⟨_, blk_byte hB (i := i * 4 + j) (c := at_ Z (i * 4 + j)) (by rw [prog_get _ _ _ HKL.out (by rw [← HKL.out, HE.out.len]; omega), at_get (by rw [← HKL.out, HE.out.len]; omega)])⟩
            have hf := hB.frozen (i * 4 + j)
            have hS := hB.set_ (i * 4 + j) (.int .u8 ((at_ (x (i - 6)) j ^^^ at_ tw j).toNat : Int))
            rw [u8s_set, prog_set _ _ _ _ HKL.out e2, ← xor_byte] at hS
            have HBn := Lib.hid hS
            have HTn := Lib.hid (hT9.far (p := ⟨w.heap.size, i * 4 + j, none⟩) (Ne.symm HNe.out) (.int .u8 (bits .xor .u8 ((at_ (x (i - 6)) j).toNat : Int) ((at_ tw j).toNat : Int))))
            have Hbn := Lib.hid (hbl.setCell (p := ⟨w.heap.size, i * 4 + j, none⟩) (Nat.le_refl _) (.int .u8 (bits .xor .u8 ((at_ (x (i - 6)) j).toNat : Int) ((at_ tw j).toNat : Int))))
            have hx8 := (at_ (x (i - 6)) j).toNat_lt
            have hy8 := (at_ tw j).toNat_lt
            clear hS hB hT9 hbl e1 e2
            generalize (at_ (x (i - 6)) j).toNat = xn at *
            generalize (at_ tw j).toNat = yn at *
            go_wp2
            go_region
            go_wp2
            exact ⟨⟨j + 1, by omega, by go_num, HBn.out, HTn.out, ⟨Hbn.out.os, Hbn.out.tape, Hbn.out.output, Hbn.out.size, Hbn.out.block⟩⟩, by simp [intOf]; omega⟩
          · have HBn : Hid (Blk wr w.heap.size 89 (u8s (prog Z W ((i + 1) * 4)))) := Lib.hid (by rw [show (i + 1) * 4 = i * 4 + j from by omega]; exact hB)
            have Hbn := Lib.hid hbl
            clear hB hT9 hbl
            go_wp2
            exact ⟨⟨i + 1, by omega, by go_num, HBn.out, Hbn.out⟩, by simp [intOf]; omega⟩
    · have hEn : prog Z W (i * 4) = W := prog_end _ _ _ (by rw [← HKL.out, HE.out.len]; omega) (by rw [HE.out.len]; omega)
      rw [hEn] at HB
      clear hEn
      have d1 : decide ((i : Int) < 52) = false := by simp; omega
      go_wp2
      go_ret
      exact ⟨_, rfl, Nat.le_refl _, HB.out, Hb.out⟩

set_option maxHeartbeats 1000000 in
set_option maxRecDepth 100000 in
theorem expand_8 (hM : MulC) (w : World) (b o cap gt q : Nat) (key W : List UInt8) (x : Nat → List UInt8) (hE : Exp 8 60 key W x) (hcap : 32 ≤ cap) (hr : ∀ i c, key[i]? = some c → w.cell? ⟨b, o + i, none⟩ = some (.int .u8 (c.toNat : Int))) (hb : b < w.heap.size) (hT : Tbl w gt q sb) (hlt : gt < w.heap.size) :
    Calls Tryz.prog 51 #[.slice (some ⟨b, o, none⟩) 32 cap, .pointer (some ⟨gt, q, none⟩)] w fun e w' => ∃ g, e = .returned (.slice (some ⟨g, 0, none⟩) 60 60) ∧ w.heap.size ≤ g ∧ Blk w' g 89 (u8s W) ∧ Below w.heap.size w w' := by
  have HM := Lib.hid hM
  have HE := Lib.hid hE
  have hmk : (Instr.makeSlice 91 (.int .i64 60) (.int .i64 60)).run Tryz.prog w = .ok (.slice (some ⟨w.heap.size, 0, none⟩) 60 60) (w.alloc (.cells (u8s (List.replicate (60 * 4) 0)).toArray 89)) := run_make_zeros (P := Tryz.prog) 91 89 4 (by omega) Tryz.und48 Tryz.make48 60 (by omega) (by omega) w
  have HB := Lib.hid (Blk.new w 89 (u8s (List.replicate (60 * 4) 0)))
  have Hb := Lib.hid (below_alloc w (.cells (u8s (List.replicate (60 * 4) 0)).toArray 89))
  have HR := Lib.hid hr
  have HT := Lib.hid hT
  have HKL : Hid (W.length = (List.replicate (60 * 4) (0 : UInt8)).length) := Lib.hid (by rw [hE.len, List.length_replicate])
  generalize hZ : List.replicate (60 * 4) (0 : UInt8) = Z at *
  generalize w.alloc (.cells (u8s Z).toArray 89) = w1 at *
  clear hM hE hr hT hZ
  go_enter Tryz.func51, Tryz.ntmps51
  go_wp2
  clear hmk
  go_loopw [22] (fun v w' => ∃ i : Nat, i ≤ 60 ∧ v = .int .i64 (i : Int) ∧ Blk w' w.heap.size 89 (u8s (prog Z W (i * 4))) ∧ Below w.heap.size w w') (fun v _ => 60 - (intOf v).toNat)
  case atStart => exact ⟨0, by omega, rfl, by rw [Nat.zero_mul, prog_0]; exact HB.out, Hb.out⟩
  case round =>
    obtain ⟨i, hi, rfl, hB, hbl⟩ := hrel
    clear HB Hb
    have HB := Lib.hid hB
    have Hb := Lib.hid hbl
    clear hB hbl
    by_cases hiM : i < 60
    · have d1 : decide ((i : Int) < 60) = true := by simp; omega
      by_cases hin : i < 8
      · have hld := run_loadVar_mid (P := Tryz.prog) wr b (o + 4 * i) 89 (u8s (x i)) _ (fun j v hv => by
          rw [u8s_get] at hv
          cases hq : (x i)[j]? with
          | none => simp [hq] at hv
          | some c =>
            rw [hq] at hv
            simp at hv
            subst hv
            have := HR.out (4 * i + j) c (HE.out.key i hin j c hq)
            rw [← Nat.add_assoc] at this
            unfold World.cell? at this ⊢
            rw [← this]
            simp only [Hb.out.block b hb]) Tryz.undA4 rfl (sizeA4 _ (HE.out.word i (by omega)))
        have hat := run_arrayAt4 wr ⟨b, o + 4 * i, none⟩ (32 - 4 * i) (cap - 4 * i) (by omega)
        have HSz := Lib.hid (sizeA4 (x i) (HE.out.word i (by omega)))
        have HO := Lib.hid (u8s_one (x i))
        have HFit : Hid (i * 4 + (u8s (x i)).length ≤ (u8s (prog Z W (i * 4))).length) := Lib.hid (by
          rw [u8s_len, u8s_len, prog_len _ _ _ HKL.out, ← HKL.out, HE.out.len, HE.out.word i (by omega)]; omega)
        have hSeg : seg (u8s (prog Z W (i * 4))) (i * 4) (u8s (x i)) = u8s (prog Z W ((i + 1) * 4)) := by
          rw [HE.out.cut i (by omega), show (i + 1) * 4 = i * 4 + 4 from by omega]
          exact prog_seg _ _ _ _ HKL.out (by rw [HE.out.len]; omega)
        have HBn := Lib.hid (HB.out.row (seg (u8s (prog Z W (i * 4))) (i * 4) (u8s (x i))))
        have Hbn := Lib.hid (below_setRow Hb.out (Nat.le_refl _) (seg (u8s (prog Z W (i * 4))) (i * 4) (u8s (x i))).toArray)
        have HBn2 : Hid (Blk (wr.setRow w.heap.size (seg (u8s (prog Z W (i * 4))) (i * 4) (u8s (x i))).toArray) w.heap.size 89 (u8s (prog Z W ((i + 1) * 4)))) := Lib.hid (by rw [← hSeg]; exact HBn.out)
        clear hSeg HBn
        generalize u8s (x i) = xs at *
        generalize u8s (prog Z W (i * 4)) = cs at *
        go_wp2_with (first | refine wpList_arrayAt 89 (.tmp 33) rfl rfl hat (by kernel_rfl) ?_ | refine wpList_load_at 89 (.tmp 34) rfl rfl xs.toArray hld (by kernel_rfl) ?_ | refine wpList_store_seg rfl 89 89 (.tmp 36) (.tmp 35) w.heap.size (i * 4) _ _ rfl rfl rfl rfl HB.out HSz.out HFit.out HO.out ?_)
        exact ⟨⟨i + 1, by omega, by go_num, HBn2.out, Hbn.out⟩, by simp [intOf]; omega⟩
      · have hld := run_loadVar_seg (P := Tryz.prog) (w := wr) (t := 89) (ty := 89) w.heap.size ((i - 1) * 4) (u8s (prog Z W (i * 4))) (u8s (x (i - 1))) HB.out (fun j v hv => by
          have hj : j < 4 := by
            have := (List.getElem?_eq_some_iff.1 hv).1
            rw [u8s_len, HE.out.word (i - 1) (by omega)] at this
            exact this
          rw [u8s_get, four_get _ (HE.out.word (i - 1) (by omega)) j hj] at hv
          rw [u8s_get, prog_early Z W _ _ HKL.out (by omega) (by rw [HE.out.len]; omega), HE.out.get (i - 1) (by omega) j hj]
          exact hv) Tryz.undA4 rfl (sizeA4 _ (HE.out.word (i - 1) (by omega)))
        have HTl : Hid (Tbl wr gt q sb) := Lib.hid (HT.out.below Hb.out hlt)
        have Hlt : Hid (gt < wr.heap.size) := Lib.hid (Nat.lt_of_lt_of_le hlt Hb.out.size)
        go_wp2_with (refine wpList_load_at 89 (.tmp 40) rfl rfl (u8s (x (i - 1))).toArray hld (by kernel_rfl) ?_)
        refine (temporary_8 HM.out wr gt q i (x (i - 1)) (HE.out.word (i - 1) (by omega)) (by omega) (by omega) HTl.out Hlt.out).mono ?_
        rintro e w4 ⟨rfl, hb4⟩
        have hX := HE.out.next i (by omega) hiM
        have htl := turnW_len 8 i (x (i - 1))
        have HB4 := HB.out.below hb4 HB.out.lt
        have Hb4 : Below w.heap.size w w4 := Hb.out.trans (hb4.mono Hb.out.size)
        obtain ⟨tw, htw⟩ : ∃ tw, turnW 8 i (x (i - 1)) = tw := ⟨_, rfl⟩
        rw [htw] at hX htl ⊢
        have HT5 := Lib.hid (Blk.new w4 89 (u8s tw))
        have HB5 := Lib.hid (HB4.alloc (.cells (u8s tw).toArray 89))
        have Hb5 := Lib.hid (Hb4.alloc Hb4.size (.cells (u8s tw).toArray 89))
        have HNe : Hid (w.heap.size ≠ w4.heap.size) := Lib.hid (by have := HB4.lt; omega)
        have HGe : Hid (w.heap.size ≤ w4.heap.size) := Lib.hid Hb4.size
        have HZ := Lib.hid (Blk.new w4 89 z4)
        have HSz := Lib.hid (sizeA4 tw htl)
        have HZL : Hid (z4.length = (u8s tw).length) := Lib.hid (by rw [u8s_len, htl]; rfl)
        have HO := Lib.hid (u8s_one tw)
        have HEa := Lib.hid (alloc_row w4 z4.toArray 89 (u8s tw))
        have HX := Lib.hid hX
        have HTw := Lib.hid htl
        clear hb4 HB4 Hb4 htw hX htl HB Hb hld HTl Hlt
        go_wp2_with (first | refine wpList_alloc_arr rfl 89 z4.toArray rfl zero4 ?_ | refine wpList_store_arr rfl 89 (.tmp 9) (.tmp 45) w4.heap.size _ _ rfl rfl rfl rfl HZ.out HSz.out HZL.out HO.out ?_)
        rw [HEa.out]
        clear HZ HSz HZL HO HEa
        generalize w4.alloc (.cells (u8s tw).toArray 89) = w5 at *
        generalize w4.heap.size = g9 at *
        go_loopw [46] (fun v w' => ∃ j : Nat, j ≤ 4 ∧ v = .int .i64 (j : Int) ∧ Blk w' w.heap.size 89 (u8s (prog Z W (i * 4 + j))) ∧ Blk w' g9 89 (u8s tw) ∧ Below w.heap.size w w') (fun v _ => 4 - (intOf v).toNat)
        case atStart => exact ⟨0, by omega, rfl, HB5.out, HT5.out, Hb5.out⟩
        case round =>
          obtain ⟨j, hj, rfl, hB, hT9, hbl⟩ := hrel
          clear HT5 HB5 Hb5
          by_cases hjl : j < 4
          · have e1 : W[(i - 8) * 4 + j]? = some (at_ (x (i - 8)) j) := HE.out.get (i - 8) (by omega) j hjl
            have e2 : W[i * 4 + j]? = some (at_ (x (i - 8)) j ^^^ at_ tw j) := by
              rw [HE.out.get i hiM j hjl, HX.out, UInt8.xor_comm]
              match j, hjl with
              | 0, _ => rfl
              | 1, _ => rfl
              | 2, _ => rfl
              | 3, _ => rfl
            have hc1 := blk_byte hB (i := (i - 8) * 4 + j) (c := at_ (x (i - 8)) j) (by rw [prog_early Z W _ _ HKL.out (by omega) (by rw [HE.out.len]; omega), e1])
            have hc2 := blk_byte hT9 (four_get tw HTw.out j hjl)
            obtain ⟨v0, hc0⟩ : ∃ v0, wr.cell? ⟨w.heap.size, i * 4 + j, none⟩ = some v0 := ⟨_, blk_byte hB (i := i * 4 + j) (c := at_ Z (i * 4 + j)) (by rw [prog_get _ _ _ HKL.out (by rw [← HKL.out, HE.out.len]; omega), at_get (by rw [← HKL.out, HE.out.len]; omega)])⟩
            have hf := hB.frozen (i * 4 + j)
            have hS := hB.set_ (i * 4 + j) (.int .u8 ((at_ (x (i - 8)) j ^^^ at_ tw j).toNat : Int))
            rw [u8s_set, prog_set _ _ _ _ HKL.out e2, ← xor_byte] at hS
            have HBn := Lib.hid hS
            have HTn := Lib.hid (hT9.far (p := ⟨w.heap.size, i * 4 + j, none⟩) (Ne.symm HNe.out) (.int .u8 (bits .xor .u8 ((at_ (x (i - 8)) j).toNat : Int) ((at_ tw j).toNat : Int))))
            have Hbn := Lib.hid (hbl.setCell (p := ⟨w.heap.size, i * 4 + j, none⟩) (Nat.le_refl _) (.int .u8 (bits .xor .u8 ((at_ (x (i - 8)) j).toNat : Int) ((at_ tw j).toNat : Int))))
            have hx8 := (at_ (x (i - 8)) j).toNat_lt
            have hy8 := (at_ tw j).toNat_lt
            clear hS hB hT9 hbl e1 e2
            generalize (at_ (x (i - 8)) j).toNat = xn at *
            generalize (at_ tw j).toNat = yn at *
            go_wp2
            go_region
            go_wp2
            exact ⟨⟨j + 1, by omega, by go_num, HBn.out, HTn.out, ⟨Hbn.out.os, Hbn.out.tape, Hbn.out.output, Hbn.out.size, Hbn.out.block⟩⟩, by simp [intOf]; omega⟩
          · have HBn : Hid (Blk wr w.heap.size 89 (u8s (prog Z W ((i + 1) * 4)))) := Lib.hid (by rw [show (i + 1) * 4 = i * 4 + j from by omega]; exact hB)
            have Hbn := Lib.hid hbl
            clear hB hT9 hbl
            go_wp2
            exact ⟨⟨i + 1, by omega, by go_num, HBn.out, Hbn.out⟩, by simp [intOf]; omega⟩
    · have hEn : prog Z W (i * 4) = W := prog_end _ _ _ (by rw [← HKL.out, HE.out.len]; omega) (by rw [HE.out.len]; omega)
      rw [hEn] at HB
      clear hEn
      have d1 : decide ((i : Int) < 60) = false := by simp; omega
      go_wp2
      go_ret
      exact ⟨_, rfl, Nat.le_refl _, HB.out, Hb.out⟩
end Go.Proofs.YtdipflchmooakaaGreatDoor
