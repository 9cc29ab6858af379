/-
  Layer 7: CbcFill, walked from the contracts of cbc's functions.
-/
import Derived.Test.YtannplgookgipaaCbcAw
import Derived.Test.YtannplgookgipaaCbcRefS
import Derived.Test.YtannplgookgipaaAesLem
import Derived.Test.YtannplgookgipaaReg2
import Derived.RegionTactic
import Derived.BigRegion
namespace Go.Proofs.Ytannplgookgipaa
open Go.ChangeShapes Go.WideShapes Go.ChangeAt Go.RowKit Go.Gar Go.Gar.Aes

theorem open_one (key iv l : List UInt8) (hl : l.length = 16) : Cbc.open_ key iv (encrypt key (addK l iv)) = Cbc.unpad l := by
  have hel := encrypt_len key (addK l iv)
  have hb : Cbc.blk (encrypt key (addK l iv)) 0 = encrypt key (addK l iv) := by
    rw [Cbc.blk, Nat.mul_zero, List.drop_zero, List.take_of_length_le (by omega)]
  have h1 : Cbc.open_ key iv (encrypt key (addK l iv)) = Cbc.unpad (Cbc.opK key iv (encrypt key (addK l iv)) ((encrypt key (addK l iv)).length / 16)) := if_pos (by omega)
  rw [h1, hel, show 16 / 16 = 0 + 1 from rfl, Cbc.opK, Cbc.opK, hb, List.nil_append, decrypt_encrypt _ _ (addK_len _ _), Cbc.prev, addK_addK _ _ hl]

theorem run_slice16_to (W : World) (g h : Nat) (hh : h ≤ 16) :
    (Instr.sliceAt 23 (.pointer (some ⟨g, 0, none⟩)) none (some (.int .i64 (h : Int))) none).run Try.prog W = .ok (.slice (some ⟨g, 0, none⟩) h 16) W := by
  obtain ⟨i, hi, _⟩ := Option.map_eq_some_iff.1 Try.size5
  have h1 : (h : Int) ≤ 16 := by omega
  simp [Instr.sliceAt, Instr.sliceBounds, Instr.sureAddr, run_underlying Try.und16 W, sizeOf, typeInfo, hi, go_sem, h1]
theorem wpQuiet_slice_to {P : Program} {C : World → Prop} {ops : Array Oper} {Q : Act → Prop} {rest : List Oper} {o : Oper} {a : Act} (t : TypeId) (p q : Operand) (ho : o.op = .slice t p none (some q) none) {x y v : Value} (hp : a.eval p = x) (hq : a.eval q = y)
    (hrun : ∀ W, (Instr.sliceAt t x none (some y) none).run P W = .ok v W) (hw : Region.wanted o (yielded ops a.tmps) = true)
    (h : wpQuiet P ops C Q rest (a.put o.dst v)) : wpQuiet P ops C Q (o :: rest) a := by
  refine wpQuiet_val hw (fun W _ => ?_) h
  unfold execOp
  simp only [ho, hp, hq, Option.map_some, Option.map_none, Sem.run_bind, hrun W, Result.andThen_ok, Sem.run_pure]
/-- What is asked of the reference's Encrypt: refEnc_own, and the room of the slice that it answers. -/
def EncOK : Prop := ∀ (w : World) (gc : Nat) (key : List UInt8) (_ : RefOf w gc key) (A : Option Addr) (l : List UInt8) (c : Nat) (_ : l.length = 16) (_ : Rd w w.heap.size A l),
    Calls Try.prog 14 #[.pointer (some ⟨gc, 0, none⟩), .slice A 16 c] w fun e w' => ∃ g cp rest, e = .returned (.slice (some ⟨g, 0, none⟩) 16 cp) ∧ 16 ≤ cp ∧ Blk w' g 5 (u8s (encrypt key l) ++ rest) ∧ Below w.heap.size w w'
set_option maxHeartbeats 4000000 in
set_option maxRecDepth 100000 in
theorem cbcfill_walk (hOK : CbcOK) (hEnc : EncOK) (K : Option Addr) (key iv l : List UInt8) (kc : Nat) (x y : Array Value) (w : World) (hx : x = (u8s iv).toArray) (hy : y = (u8s l).toArray) (hiv : iv.length = 16) (hl : l.length = 16) (rK : Rd w w.heap.size K key) :
    Calls Try.prog 6 #[.slice K key.length kc, .agg x, .agg y] w fun e w' => e = .returned (.bool true) ∧ Below w.heap.size w w' := by
  obtain ⟨kk, hkk⟩ : ∃ kk, kk = fit key 16 := ⟨_, rfl⟩
  have hkl : kk.length = 16 := by rw [hkk]; exact fit_len key 16
  have hs : sizeOk kk.length := .inl hkl
  obtain ⟨Y, hY⟩ : ∃ Y, Y = encrypt kk (addK l iv) := ⟨_, rfl⟩
  have hYl : Y.length = 16 := by rw [hY]; exact encrypt_len _ _
  have hop : Cbc.open_ kk iv Y = Cbc.unpad l := by rw [hY]; exact open_one kk iv l hl
  obtain ⟨E3, hE3⟩ : ∃ E3 : Int, E3 = ((openE kk iv Y : Nat) : Int) := ⟨_, rfl⟩
  obtain ⟨O3, hO3⟩ : ∃ O3, O3 = openB kk iv Y := ⟨_, rfl⟩
  obtain ⟨n3, hn3⟩ : ∃ n3, n3 = O3.length := ⟨_, rfl⟩
  obtain ⟨wa, hwa⟩ : ∃ wa, (w.alloc (.cells x 23)).alloc (.cells y 23) = wa := ⟨_, rfl⟩
  have hza : wa.heap.size = w.heap.size + 2 := by rw [← hwa, World.size_alloc, World.size_alloc]
  have hIa : Blk wa w.heap.size 23 x.toList := by
    have := Blk.new w 23 x.toList
    rw [Array.toArray_toList] at this
    rw [← hwa]
    exact this.alloc _
  have hLa : Blk wa (w.heap.size + 1) 23 y.toList := by
    have := Blk.new (w.alloc (.cells x 23)) 23 y.toList
    rw [Array.toArray_toList, World.size_alloc] at this
    rw [← hwa]
    exact this
  have hba : Below w.heap.size w wa := by
    have h := below_alloc w (.cells x 23)
    rw [← hwa]
    exact h.alloc h.size _
  have hmk : (Instr.makeSlice 22 (.int .i64 16) (.int .i64 16)).run Try.prog wa = .ok (.slice (some ⟨w.heap.size + 2, 0, none⟩) 16 16) (wa.alloc (.cells (u8s (List.replicate 16 0)).toArray 5)) := by
    have := run_make_bytes 16 16 (by omega) (by omega) wa
    rw [hza] at this
    exact this
  have hBn := Blk.new wa 5 (u8s (List.replicate 16 0))
  have hb0 := hba.alloc hba.size (.cells (u8s (List.replicate 16 0)).toArray 5)
  have hcp := run_copy_min (P := Try.prog) 22 22 3 5 Try.und22 Try.size5 wa.heap.size 16 16 kc K key w.heap.size (rK.below hb0) _ _ hBn (by simp [u8s_len])
  have hrow := hBn.row (u8s (key.take 16) ++ (u8s (List.replicate 16 0)).drop (min key.length 16))
  have hfit : u8s (key.take 16) ++ (u8s (List.replicate 16 0)).drop (min key.length 16) = u8s kk := by
    rw [hkk, u8s_drop, ← u8s_app, fit, List.drop_replicate]
    congr 3
    omega
  rw [hfit] at hcp hrow
  have hI := (hIa.alloc (.cells (u8s (List.replicate 16 0)).toArray 5)).rowFar (g' := wa.heap.size) (by rw [hza]; omega) (u8s kk).toArray
  have hL := (hLa.alloc (.cells (u8s (List.replicate 16 0)).toArray 5)).rowFar (g' := wa.heap.size) (by rw [hza]; omega) (u8s kk).toArray
  have hb1 := below_setRow hb0 hba.size (u8s kk).toArray
  rw [hza] at hcp hrow hI hL hb1
  obtain ⟨w1, hw1⟩ : ∃ w1, (wa.alloc (.cells (u8s (List.replicate 16 0)).toArray 5)).setRow (w.heap.size + 2) (u8s kk).toArray = w1 := ⟨_, rfl⟩
  rw [hw1] at hcp hrow hI hL hb1
  rw [hx, List.toList_toArray] at hI
  rw [hy, List.toList_toArray] at hL
  rw [← hwa] at hmk hcp
  generalize List.replicate 16 (0 : UInt8) = Z at hmk hcp
  have HOK := Lib.hid hOK
  have HENC := Lib.hid hEnc
  clear hEnc
  have HX := Lib.hid hx
  have HY := Lib.hid hy
  have HIV := Lib.hid hiv
  have HL := Lib.hid hl
  have HKL := Lib.hid hkl
  have HS := Lib.hid hs
  have HYe := Lib.hid hY
  have HYl := Lib.hid hYl
  have HOP := Lib.hid hop
  have HE3 := Lib.hid hE3
  have HO3 := Lib.hid hO3
  have HN3 := Lib.hid hn3
  have HK1 := Lib.hid hrow
  have HI1 := Lib.hid hI
  have HL1 := Lib.hid hL
  have Hb1 := Lib.hid hb1
  clear hOK hx hy hiv hl rK hkk hkl hs hY hYl hop hE3 hO3 hn3 hwa hza hIa hLa hba hBn hb0 hrow hfit hI hL hb1 hw1
  go_enter Try.func6, Try.ntmps6
  go_wp2_with fail
  clear hmk hcp
  refine (refNew_at w1 _ kk 16 16 HS.out HKL.out.symm (Nat.le_refl _) (Rd.of_all HK1.out)).mono ?_
  rintro e w2 ⟨gc, rfl, hC, hb2⟩
  have HC2 := Lib.hid hC
  have HK2 := Lib.hid (HK1.out.below hb2 HK1.out.lt)
  have HI2 := Lib.hid (HI1.out.below hb2 HI1.out.lt)
  have HL2 := Lib.hid (HL1.out.below hb2 HL1.out.lt)
  have Hb2 := bb Hb1 hb2
  clear hC hb2 HK1 HI1 HL1 Hb1
  obtain ⟨vx, wx, a1, a2, a3, a4⟩ := app_at (P := Try.prog) 22 22 Try.und22 Try.info5 (own_made w2 w2.heap.size 5 (Nat.le_refl _)) (by rw [World.size_alloc]; omega) 16 16 HL.out.symm (Rd.of_all (HL2.out.alloc (.cells #[] 5))) (by rw [HL.out]; simp)
  rw [List.nil_append] at a2
  have hbx : Below w2.heap.size w2 wx := (below_alloc w2 _).grown a3 (by rw [World.size_alloc]; omega) (fun k e => by have e1 := Option.some.inj e; simp only at e1; omega)
  obtain ⟨gx, cx, restx, hvx, hgx, hcx, hBx⟩ := a2.blk (by rw [HL.out]; omega)
  rw [HL.out] at hvx hcx
  subst hvx
  have HBx := Lib.hid hBx
  have Hbx := Lib.hid hbx
  have Hgx := Lib.hid hgx
  clear a2 a3 a4 hBx hbx hgx
  go_wp2_with (at_builtin; refine wpList_append_run rfl (.tmp 26) (.tmp 27) _ rfl rfl rfl a1 ?_)
  clear a1
  have hbI : w.heap.size < w2.heap.size := HI2.out.lt
  go_loopw [11] (fun iv_ w' => ∃ i : Nat, i ≤ 16 ∧ iv_ = .int .i64 (i : Int) ∧ Blk w' gx 5 (u8s (mixK l iv i) ++ restx) ∧ Below w2.heap.size w2 w') (fun iv_ _ => 16 - (intOf iv_).toNat)
  case atStart => exact ⟨0, by omega, rfl, by rw [mixK_0]; exact HBx.out, Hbx.out⟩
  case round =>
    obtain ⟨i, hi, rfl, hBi, hbi⟩ := hrel
    clear HBx Hbx
    by_cases hil : i < 16
    · have hcx1 : wr.cell? ⟨gx, i, none⟩ = some (.int .u8 ((at_ l i).toNat : Int)) := by
        rw [hBi.cell, List.getElem?_append_left (by rw [u8s_len, mixK_len _ _ _ HL.out]; exact hil), u8s_get, mixK_get _ _ _ hil HL.out]; rfl
      have hcl1 : wr.cell? ⟨w.heap.size, i, none⟩ = some (.int .u8 ((at_ iv i).toNat : Int)) := by
        rw [hbi.cell (p := ⟨w.heap.size, i, none⟩) hbI, HI2.out.cell, u8s_get, at_get' iv i (by rw [HIV.out]; exact hil)]; rfl
      have hf := hBi.frozen i
      have hS := hBi.set_ i (.int .u8 ((at_ l i ^^^ at_ iv i).toNat : Int))
      rw [List.set_append_left _ _ (by rw [u8s_len, mixK_len _ _ _ HL.out]; exact hil), u8s_set'', mixK_set _ _ _ hil HL.out] at hS
      have hb2 := hbi.setCell (p := ⟨gx, i, none⟩) Hgx.out (.int .u8 ((at_ l i ^^^ at_ iv i).toNat : Int))
      obtain ⟨q, hq⟩ : ∃ q : UInt8, q = at_ l i ^^^ at_ iv i := ⟨_, rfl⟩
      have hxq : bits .xor .u8 ((at_ l i).toNat : Int) ((at_ iv i).toNat : Int) = (q.toNat : Int) := by
        rw [hq, UInt8.toNat_xor]; exact xor_u8 _ _ (UInt8.toNat_lt _) (UInt8.toNat_lt _)
      rw [← hq] at hS hb2
      have h8x := (at_ l i).toNat_lt
      have h8l := (at_ iv i).toNat_lt
      generalize (at_ l i).toNat = xn at *
      generalize (at_ iv i).toNat = ln at *
      have HBn := Lib.hid hS
      have Hbn := Lib.hid hb2
      clear hS hb2 hBi hbi hq
      go_wp2_with fail
      refine wp_region_G grows (by kernel_rfl) ?_
      have hclq : ∀ {p : Addr} {v : Value}, wr.cell? p = some v → ∀ x : Later grows wr.drew, x.to.cell? p = some v := fun h x => by
        have hb : Below wr.drew.heap.size wr.drew x.to := x.grown
        rw [hb.cell (p := _) (World.block_lt_of_cell? wr _ h)]
        exact h
      have q1 := hclq hcx1
      have q2 := hclq hcl1
      clear hclq
      refine segG (by kernel_rfl) (fun _ _ _ _ _ h => h) [0, 1, 2, 3, 4, 5] [_, _, _, _, _, _] 6 rfl rfl (by kernel_rfl) ?_
      repeat (go_big_quiet_step (fail))
      refine wpQuiet_nil ?_
      refine segG (by kernel_rfl) (fun _ _ _ _ _ h => h) [6, 7, 8, 9, 10] [_, _, _, _, _] 1 rfl rfl (by kernel_rfl) ?_
      repeat (go_big_quiet_step (fail))
      refine wpQuiet_nil ?_
      refine lateG 11 0 rfl (by kernel_rfl) (by kernel_rfl) rfl ?_
      clear q1 q2
      go_wp2
      refine ⟨trivial, ?_⟩
      refine wpAnyG_done (by kernel_rfl) ?_
      go_wp2
      exact ⟨⟨i + 1, by omega, by go_num, HBn.out, ⟨Hbn.out.os, Hbn.out.tape, Hbn.out.output, Hbn.out.size, Hbn.out.block⟩⟩, by simp [intOf]; omega⟩
    · have hi16 : i = 16 := by omega
      have hBl : Blk wr gx 5 (u8s (addK l iv) ++ restx) := by
        have h := hBi
        rw [show mixK l iv i = addK l iv from by rw [hi16]; exact mixK_end l iv HL.out] at h
        exact h
      have HC3 := Lib.hid ((HC2.out.below hbi).below (Below.refl _ wr).drew)
      have HRx : Hid (Rd wr.drew wr.drew.heap.size (some ⟨gx, 0, none⟩) (addK l iv)) := Lib.hid (Rd.of_row hBl)
      have HK3 := Lib.hid (HK2.out.below hbi HK2.out.lt).drew
      have HI3 := Lib.hid (HI2.out.below hbi HI2.out.lt).drew
      have HL3 := Lib.hid (HL2.out.below hbi HL2.out.lt).drew
      have Hb3 := Lib.hid (bb Hb2 hbi).out.drew
      have hd3 : decide ((i : Int) < 16) = false := by simp; omega
      clear hBi hbi hi16 hBl HC2 HK2 HI2 HL2 Hb2 hbI
      go_wp2_with fail
      refine wp_region_G grows (by kernel_rfl) ?_
      clear hd3
      generalize wr.drew = w3 at HC3 HRx HK3 HI3 HL3 Hb3 ⊢
      have HLD := Lib.hid (load16 iv x HX.out HIV.out (show Blk w3 w.heap.size 23 x.toList by rw [HX.out, List.toList_toArray]; exact HI3.out))
      refine segG (by kernel_rfl) (fun _ _ _ _ _ h => h) [0, 1, 2, 3] [_, _, _, _] 7 rfl rfl (by kernel_rfl) ?_
      repeat (go_big_quiet_step (fail))
      refine wpQuiet_load_arr 23 (.tmp 4) rfl rfl x HLD.out (by kernel_rfl) ?_
      simp only [Act.put, List.setIfInBounds_toArray, List.set]
      repeat (go_big_quiet_step (fail))
      refine wpQuiet_nil ?_
      clear HLD
      refine oneG 4 6 rfl (by kernel_rfl) rfl ?_
      go_wp2_with fail
      refine (HENC.out w3 gc kk HC3.out _ (addK l iv) cx (addK_len _ _) HRx.out).mono ?_
      rintro e w4 ⟨g4, c4, rest4, rfl, hg4, hB4, hb4⟩
      rw [← HYe.out] at hB4
      have HR4 := Lib.hid (Rd.of_row hB4)
      have HK4 := Lib.hid (HK3.out.below hb4 HK3.out.lt)
      have HL4 := Lib.hid (HL3.out.below hb4 HL3.out.lt)
      have Hb4 := bb Hb3 hb4
      clear hB4 HC3 HRx HK3 HI3 HL3 Hb3
      go_wp2
      refine ⟨hb4, ?_⟩
      clear hb4
      refine oneG 5 5 rfl (by kernel_rfl) rfl ?_
      go_wp2_with fail
      refine (open_at HOK.out w4 _ _ kk iv Y 16 16 16 c4 x E3 O3 n3 HX.out HKL.out.symm HYl.out.symm HE3.out HO3.out HN3.out (Rd.of_all HK4.out) HR4.out HIV.out (Nat.le_refl _) hg4 (by omega)).mono ?_
      rintro e w5 ⟨B5, c5, rfl, hc5, r5, hb5⟩
      have HR5 := Lib.hid r5
      have HL5 := Lib.hid (HL4.out.below hb5 HL4.out.lt)
      have Hb5 := bb Hb4 hb5
      clear r5 HK4 HR4 HL4 Hb4 hg4
      go_wp2
      refine ⟨hb5, ?_⟩
      clear hb5
      refine segG (by kernel_rfl) (fun _ _ _ _ _ h => h) [6, 7, 8, 9, 10] [_, _, _, _, _] 0 rfl rfl (by kernel_rfl) ?_
      repeat (go_big_quiet_step (fail))
      refine wpQuiet_nil ?_
      refine wpAnyG_done (by kernel_rfl) ?_
      have hcell : ∀ q, q < 16 → w5.cell? ⟨w.heap.size + 1, q, none⟩ = some (.int .u8 ((at_ l q).toNat : Int)) := fun q hq => by
        rw [HL5.out.cell, u8s_get, at_get' l q (by rw [HL.out]; exact hq)]; rfl
      have hc15 := hcell 15 (by omega)
      obtain ⟨n, hn⟩ : ∃ n, n = (at_ l 15).toNat := ⟨_, rfl⟩
      rw [← hn] at hc15
      have hn8 : n < 256 := by rw [hn]; exact UInt8.toNat_lt _
      have Hn : Hid (n = Cbc.endN l) := Lib.hid (by rw [hn, Cbc.endN, HL.out])
      have Hcell := Lib.hid hcell
      clear hcell hn
      rcases (show n < 1 ∨ (1 ≤ n ∧ n ≤ 16) ∨ 16 < n by omega) with hr | ⟨hr1, hr2⟩ | hr
      case' inl =>
        have hd1 : decide (1 ≤ (n : Int)) = false := by simp; omega
        have HG0 : Hid ((false = true) ↔ ((1 ≤ n ∧ n ≤ 16) ∧ ∀ q, q + 1 < 1 → (at_ l (15 - q)).toNat = n)) := Lib.hid (by simp; omega)
        have hpos : n ≤ 0 ∨ 1 ≤ n := by omega
        go_wp2
      case' inr.inl =>
        have hd1 : decide (1 ≤ (n : Int)) = true := by simp; omega
        have hd2 : decide ((n : Int) ≤ 16) = true := by simp; omega
        have HG0 : Hid ((true = true) ↔ ((1 ≤ n ∧ n ≤ 16) ∧ ∀ q, q + 1 < 1 → (at_ l (15 - q)).toNat = n)) := Lib.hid (by simp; omega)
        go_wp2
      case' inr.inr =>
        have hd1 : decide (1 ≤ (n : Int)) = true := by simp; omega
        have hd2 : decide ((n : Int) ≤ 16) = false := by simp; omega
        have HG0 : Hid ((false = true) ↔ ((1 ≤ n ∧ n ≤ 16) ∧ ∀ q, q + 1 < 1 → (at_ l (15 - q)).toNat = n)) := Lib.hid (by simp; omega)
        go_wp2
      all_goals
        go_loopw [15, 16] (fun vg vi w' => ∃ (i : Nat) (g : Bool), 1 ≤ i ∧ i ≤ 17 ∧ vg = .bool g ∧ vi = .int .i64 (i : Int) ∧ (g = true ↔ ((1 ≤ n ∧ n ≤ 16) ∧ ∀ q, q + 1 < i → (at_ l (15 - q)).toNat = n)) ∧ (1 ≤ n → i ≤ n + 1) ∧ w' = w5) (fun _ vi _ => 20 - (intOf vi).toNat)
        case atStart => exact ⟨1, _, by omega, by omega, rfl, rfl, (by first | exact HG0.out | exact ⟨fun _ => HG0.out.1 trivial, fun _ => rfl⟩), by omega, rfl⟩
        case round =>
          obtain ⟨i, g, hi1, hi17, rfl, rfl, hg, hin1, rfl⟩ := hrel
          clear HG0
          have hE3 : openE kk iv Y = if (Cbc.open_ kk iv Y).isSome then 0 else 12 := if_pos HS.out
          have hO3 : openB kk iv Y = (Cbc.open_ kk iv Y).getD [] := if_pos HS.out
          rw [HOP.out] at hE3 hO3
          cases g with
          | false =>
            have hbad : ¬ ((1 ≤ n ∧ n ≤ 16) ∧ ∀ q, q + 1 < i → (at_ l (15 - q)).toNat = n) := fun h => by cases hg.2 h
            have hun : Cbc.unpad l = none := by
              rw [Cbc.unpad, if_neg]
              rintro ⟨h1, h2, h3⟩
              rw [← Hn.out] at h1 h2 h3
              refine hbad ⟨⟨h1, h2⟩, fun q hq => ?_⟩
              have h4 := h3 q (by have := hin1 h1; omega)
              rw [HL.out] at h4
              exact h4
            obtain rfl : E3 = 12 := by rw [HE3.out, hE3, hun]; rfl
            obtain rfl : n3 = 0 := by rw [HN3.out, HO3.out, hO3, hun]; rfl
            clear hbad hun hE3 hO3 hg hin1
            go_wp2_with fail
            refine (awake7_any HOK.out wr).mono ?_
            rintro e w12 ⟨rfl, hb12⟩
            have Hb12 := bb Hb5 hb12
            clear hb12
            go_wp2
            go_ret
            exact ⟨by simp, Hb12.out⟩
          | true =>
            obtain ⟨⟨hn1, hn16⟩, hall⟩ := hg.1 rfl
            have Hall := Lib.hid hall
            clear hall hg hin1
            by_cases hin : i ≤ n
            · have hcI := Hcell.out (16 - i) (by omega)
              obtain ⟨P, hP⟩ : ∃ P, P = 16 - i := ⟨_, rfl⟩
              rw [← hP] at hcI
              have hPi : 16 - (i : Int) = (P : Int) := by omega
              have hPl : P < 16 := by omega
              obtain ⟨v, hv⟩ : ∃ v, v = (at_ l P).toNat := ⟨_, rfl⟩
              have hv8 : v < 256 := by rw [hv]; exact UInt8.toNat_lt _
              rw [← hv] at hcI
              have HV : Hid ((at_ l (15 - (i - 1))).toNat = v) := Lib.hid (by rw [hv, hP]; congr 2; omega)
              clear hv hP hE3 hO3
              by_cases hyn : v = n
              · have hyd : ((v : Int) == (n : Int)) = true := by simp; omega
                go_wp2
                refine ⟨⟨i + 1, true, by omega, by omega, rfl, by go_num, ⟨fun _ => ⟨⟨hn1, hn16⟩, fun q hq => ?_⟩, fun _ => rfl⟩, fun _ => by omega, trivial⟩, by simp [intOf]; omega⟩
                by_cases hqi : q + 1 < i
                · exact Hall.out q hqi
                · have h := HV.out
                  rw [show i - 1 = q from by omega, hyn] at h
                  exact h
              · have hyd : ((v : Int) == (n : Int)) = false := by simp; omega
                go_wp2
                refine ⟨⟨i + 1, false, by omega, by omega, rfl, by go_num, ⟨fun h => (by cases h), fun h => ?_⟩, fun _ => by omega, trivial⟩, by simp [intOf]; omega⟩
                have h2 := h.2 (i - 1) (by omega)
                rw [HV.out] at h2
                exact absurd h2 hyn
            · have hun : Cbc.unpad l = some (l.take (16 - n)) := by
                have hn := Hn.out
                rw [Cbc.unpad, ← hn, if_pos ⟨hn1, hn16, fun q hq => by have h := Hall.out q (by omega); rw [HL.out]; exact h⟩, HL.out]
              obtain ⟨H, hH⟩ : ∃ H, H = 16 - n := ⟨_, rfl⟩
              rw [← hH] at hun
              have hHi : 16 - (n : Int) = (H : Int) := by omega
              have hHl : H ≤ 16 := by omega
              obtain rfl : E3 = 0 := by rw [HE3.out, hE3, hun]; rfl
              have hOl : O3 = l.take H := by rw [HO3.out, hO3, hun]; rfl
              have hHL : (l.take H).length = H := by rw [List.length_take, HL.out]; omega
              obtain rfl : n3 = H := by rw [HN3.out, hOl, hHL]
              rw [hOl] at HR5
              have HHL := Lib.hid hHL
              clear hE3 hO3 hun hOl hH hHL
              go_wp2_with fail
              refine wp_region_G grows (by kernel_rfl) ?_
              have HR6 : Hid (Rd wr.drew wr.drew.heap.size B5 (l.take n3)) := HR5
              have HL6 := Lib.hid HL5.out.drew
              have Hb6 := Lib.hid Hb5.out.drew
              clear HR5 HL5 Hb5 Hcell
              generalize wr.drew = w6 at HR6 HL6 Hb6 ⊢
              refine oneG 0 14 rfl (by kernel_rfl) rfl ?_
              go_wp2_with fail
              refine (awake7_any HOK.out w6).mono ?_
              rintro e w7 ⟨rfl, hb7⟩
              have Hb7 := bb Hb6 hb7
              have hs1 := string_later_rd ((HR6.out.below hb7).more hb7.size) c5
              have hs2 := string_later_rd ((Rd.of_all (HL6.out.below hb7 HL6.out.lt)).take n3) 16
              rw [HHL.out] at hs1 hs2
              clear HR6 HL6 Hb6
              go_wp2
              refine ⟨hb7, ?_⟩
              clear hb7
              refine segG (by kernel_rfl) (fun _ _ _ _ _ h => h) [1, 2, 3, 4, 5, 6, 7, 8, 9, 10, 11, 12, 13, 14] [_, _, _, _, _, _, _, _, _, _, _, _, _, _] 0 rfl rfl (by kernel_rfl) ?_
              repeat (go_big_quiet_step (fail))
              refine wpQuiet_slice_to 23 (.tmp 5) (.tmp 87) rfl rfl rfl (fun W => run_slice16_to W _ n3 hHl) (by kernel_rfl) ?_
              simp only [Act.put, List.setIfInBounds_toArray, List.set]
              repeat (go_big_quiet_step (fail))
              refine wpQuiet_nil ?_
              refine wpAnyG_done (by kernel_rfl) ?_
              go_wp2
              go_ret
              exact ⟨by simp, Hb7.out⟩
end Go.Proofs.Ytannplgookgipaa
