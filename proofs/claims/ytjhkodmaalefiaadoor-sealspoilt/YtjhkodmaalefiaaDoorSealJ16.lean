/-
  The reference's Open of layer 7: its contract. The reference of layer 7: Seal and Open for any key. math/bits.Mul64: a contract. Of no program. The reference's primes and roots, and math/bits.Mul64: contracts.
-/
import Derived.Test.YtjhkodmaalefiaaDoorSealJ15
import Derived.Test.YtjhkodmaalefiaaDoorSealJ09
import Derived.Test.YtjhkodmaalefiaaDoorSealJ03
import Derived.Test.YtjhkodmaalefiaaDoorSealJ04
import Derived.Lib.Mul64
set_option maxRecDepth 100000
namespace Go.Proofs.YtjhkodmaalefiaaDoor
open Go.ChangeShapes Go.WideShapes Go.ChangeAt Go.RowKit Go.Gar Go.Gar.Aes

theorem refDec_own (w : World) (gc : Nat) (key : List UInt8) (h : RefOf w gc key) (A : Option Addr) (l : List UInt8) (c : Nat) (hl : l.length = 16) (hr : Rd w w.heap.size A l) :
    Calls Tryd.prog 50 #[.pointer (some ⟨gc, 0, none⟩), .slice A 16 c] w fun e w' => ∃ g cp rest, e = .returned (.slice (some ⟨g, 0, none⟩) 16 cp) ∧ w.heap.size ≤ g ∧ Blk w' g 5 (u8s (decrypt key l) ++ rest) ∧ Below w.heap.size w w' := by
  obtain ⟨gt, gb, gw, cp, h⟩ := h
  exact refDecrypt_any w gc gt gb gw cp _ h (roundsOf key) (by rw [words_len, roundsOf]; omega) (by rw [roundsOf]; omega) A l c hl hr
theorem rd_blk {w : World} {B bb oo : Nat} {b : List UInt8} (j : Nat) (h : Rd w B (some ⟨bb, oo, none⟩) b) : Rd w B (some ⟨bb, oo + 16 * j, none⟩) (Cbc.blk b j) := by
  rcases h with h | ⟨b', o', e, hb, hc⟩
  · refine .inl ?_
    rw [h, Cbc.blk, List.drop_nil, List.take_nil]
  · injection e with e
    injection e with e1 e2
    subst e1; subst e2
    refine .inr ⟨bb, oo + 16 * j, rfl, hb, fun i c hi => ?_⟩
    rw [Cbc.blk, List.getElem?_take] at hi
    split at hi
    · rw [List.getElem?_drop] at hi
      rw [Nat.add_assoc]
      exact hc _ c hi
    · cases hi
theorem run_slice_to (W : World) (g len cap h : Nat) (z : Int) (hz : z = (h : Int)) (hc : h ≤ cap) :
    (Instr.sliceAt 26 (.slice (some ⟨g, 0, none⟩) len cap) none (some (.int .i64 z)) none).run Tryd.prog W = .ok (.slice (some ⟨g, 0, none⟩) h cap) W := by
  subst hz
  obtain ⟨i, hi, _⟩ := Option.map_eq_some_iff.1 Tryd.size5
  have e3 : (h : Int) ≤ (cap : Int) := by omega
  simp [Instr.sliceAt, Instr.slice, Instr.sliceBounds, run_underlying Tryd.und22 W, sizeOf, typeInfo, hi, go_sem, e3]
set_option maxHeartbeats 1000000 in
set_option maxRecDepth 100000 in
theorem refOpen_no (w : World) (K V A : Option Addr) (kl kc vl vc bl bc : Nat) (h : ¬ sizeOk kl) :
    Calls Tryd.prog 29 #[.slice K kl kc, .slice V vl vc, .slice A bl bc] w fun e w' => e = .returned (.tuple #[.slice none 0 0, .int .i64 1]) ∧ Below w.heap.size w w' := by
  go_enter Tryd.func29, Tryd.ntmps29
  go_wp2_with fail
  refine (refNew_no w K kl kc h).mono ?_
  rintro e w1 ⟨rfl, rfl⟩
  go_wp2
  go_ret2
  exact ⟨rfl, Below.refl _ _⟩
set_option maxHeartbeats 1000000 in
set_option maxRecDepth 100000 in
theorem refOpen_short (w : World) (K V A : Option Addr) (key : List UInt8) (kl kc vl vc bl bc : Nat) (hs : sizeOk key.length) (hkl : kl = key.length) (hkc : kl ≤ kc) (rK : Rd w w.heap.size K key) (hbad : ¬ (16 ≤ bl ∧ bl % 16 = 0)) :
    Calls Tryd.prog 29 #[.slice K kl kc, .slice V vl vc, .slice A bl bc] w fun e w' => e = .returned (.tuple #[.slice none 0 0, .int .i64 12]) ∧ Below w.heap.size w w' := by
  have HKL := Lib.hid hkl
  have HRK := Lib.hid rK
  have HS := Lib.hid hs
  clear hkl rK hs
  go_enter Tryd.func29, Tryd.ntmps29
  go_wp2_with fail
  refine (refNew_at w K key kl kc HS.out HKL.out hkc HRK.out).mono ?_
  rintro e w1 ⟨gc, rfl, hC, hb1⟩
  have Hb1 := Lib.hid hb1
  clear hC hb1
  by_cases h16 : bl < 16
  · have hd : decide ((bl : Int) < 16) = true := by simp; omega
    go_wp2
    go_ret2
    exact ⟨rfl, Hb1.out⟩
  · have hd : decide ((bl : Int) < 16) = false := by simp; omega
    have hr : (bl : Int) % 16 ≠ 0 := by omega
    go_wp2
    go_ret2
    exact ⟨rfl, Hb1.out⟩

set_option maxHeartbeats 4000000 in
set_option maxRecDepth 100000 in
theorem refOpen_yes (w : World) (K V A : Option Addr) (key iv b : List UInt8) (kl kc vc N bc : Nat) (hs : sizeOk key.length) (hkl : kl = key.length) (hbl : b.length = 16 * N) (hN1 : 1 ≤ N) (hN20 : N ≤ 65537) (hkc : kl ≤ kc) (hbc : 16 * N ≤ bc) (hiv : iv.length = 16) (rK : Rd w w.heap.size K key) (rV : Rd w w.heap.size V iv) (rA : Rd w w.heap.size A b) :
    Calls Tryd.prog 29 #[.slice K kl kc, .slice V 16 vc, .slice A (16 * N) bc] w fun e w' => ∃ v, e = .returned (.tuple #[v, .int .i64 (((if (Cbc.unpad (Cbc.opK key iv b N)).isSome then 0 else 12 : Nat)) : Int)]) ∧ Out w' v ((Cbc.unpad (Cbc.opK key iv b N)).getD []) ∧ Below w.heap.size w w' := by
  have HKL := Lib.hid hkl
  have HBL := Lib.hid hbl
  have HIV := Lib.hid hiv
  have HRK := Lib.hid rK
  have HRV := Lib.hid rV
  have HS := Lib.hid hs
  obtain ⟨bb, oo, rfl⟩ : ∃ bb oo, A = some ⟨bb, oo, none⟩ := by
    rcases rA with h | ⟨b', o', e', _⟩
    · rw [h] at hbl; simp at hbl; omega
    · exact ⟨b', o', e'⟩
  have HRA := Lib.hid rA
  obtain ⟨E, hE⟩ : ∃ E : Nat, E = if (Cbc.unpad (Cbc.opK key iv b N)).isSome then 0 else 12 := ⟨_, rfl⟩
  obtain ⟨R, hR⟩ : ∃ R : List UInt8, R = (Cbc.unpad (Cbc.opK key iv b N)).getD [] := ⟨_, rfl⟩
  rw [← hE, ← hR]
  have HE := Lib.hid hE
  have HR := Lib.hid hR
  clear hE hR
  clear hkl hbl hiv rK rV rA hs
  go_enter Tryd.func29, Tryd.ntmps29
  go_wp2_with fail
  refine (refNew_at w K key kl kc HS.out HKL.out hkc HRK.out).mono ?_
  rintro e w1 ⟨gc, rfl, hC, hb1⟩
  have HC := Lib.hid hC
  have Hb1 := Lib.hid hb1
  have h16 : decide (16 * (N : Int) < 16) = false := by simp; omega
  have hr16 : 16 * (N : Int) % 16 = 0 := by omega
  clear hC hb1
  go_wp2
  have HoS := Lib.hid (own_made w1 w1.heap.size 5 (Nat.le_refl _))
  have HbS := Lib.hid (below_alloc w1 (.cells #[] 5))
  generalize w1.alloc (.cells #[] 5) = wS at HoS HbS ⊢
  go_loopw [10, 11, 12] (fun vo vl at_ w' => ∃ (j : Nat) (B : Option Addr) (c : Nat), j ≤ N ∧ at_ = .int .i64 (16 * (j : Int)) ∧ vl = .slice B 16 c ∧ OwnB w' w1.heap.size 5 vo (Cbc.opK key iv b j) ∧ Rd w w.heap.size B (Cbc.prev iv b j) ∧ Below w1.heap.size w1 w') (fun _ _ at_ _ => 16 * N + 16 - (intOf at_).toNat)
  case atStart =>
    exact ⟨0, V, vc, by omega, rfl, rfl, HoS.out, HRV.out, HbS.out⟩
  case round =>
    obtain ⟨j, B, cB, hj, rfl, rfl, hOo, hRl, hBel⟩ := hrel
    obtain ⟨Bo, co, hvo, -⟩ := hOo.rd
    rw [Cbc.opK_len] at hvo
    subst hvo
    clear HoS HbS
    have HOo := Lib.hid hOo
    have HRl := Lib.hid hRl
    have HBW := Lib.hid hBel
    clear hOo hRl hBel
    by_cases hjN : j < N
    · have hd2 : decide (16 * (j : Int) < 16 * (N : Int)) = true := by simp; omega
      have hsl : ∀ W, (Instr.sliceAt 26 (.slice (some ⟨bb, oo, none⟩) (16 * N) bc) (some (.int .i64 (16 * (j : Int)))) (some (.int .i64 (16 * (j : Int) + 16))) none).run Tryd.prog W = .ok (.slice (some ⟨bb, oo + 16 * j, none⟩) 16 (bc - 16 * j)) W := fun W => by
        have := run_slice_mid W bb oo (16 * N) bc (16 * j) (16 * j + 16) (16 * (j : Int)) (16 * (j : Int) + 16) (by omega) (by omega) (by omega) (by omega) (by omega)
        rw [Nat.add_sub_cancel_left] at this
        exact this
      have hm16 : (Cbc.blk b j).length = 16 := Cbc.blk_len b j (by rw [HBL.out]; omega)
      have HM := Lib.hid hm16
      clear hm16
      go_wp2_with fail
      have hbw : Below w.heap.size w wr := Hb1.out.trans (HBW.out.mono Hb1.out.size)
      refine (refDec_own wr gc key ((HC.out.below HBW.out)) _ (Cbc.blk b j) _ HM.out (((rd_blk j HRA.out).below hbw).more hbw.size)).mono ?_
      rintro e w3 ⟨gx, cx, restx, rfl, hgx, hBx, hbx⟩
      obtain ⟨X, hXe⟩ : ∃ X, X = decrypt key (Cbc.blk b j) := ⟨_, rfl⟩
      obtain ⟨L, hLe⟩ : ∃ L, L = Cbc.prev iv b j := ⟨_, rfl⟩
      rw [← hXe] at hBx
      rw [← hLe] at HRl
      have HX16 : Hid (X.length = 16) := Lib.hid (by rw [hXe]; exact decrypt_len _ _)
      have HLl : Hid (L.length = 16) := Lib.hid (by
        rw [hLe]
        cases j with
        | zero => exact HIV.out
        | succ q => exact Cbc.blk_len b q (by rw [HBL.out]; omega))
      have HXe := Lib.hid hXe
      have HLe := Lib.hid hLe
      have HBx := Lib.hid hBx
      have Hbx := Lib.hid hbx
      have Hgx := Lib.hid hgx
      obtain ⟨bL, oL, rfl, hbL, hcL⟩ : ∃ bL oL, B = some ⟨bL, oL, none⟩ ∧ bL < w.heap.size ∧ ∀ i c, L[i]? = some c → wr.cell? ⟨bL, oL + i, none⟩ = some (.int .u8 (c.toNat : Int)) := by
        rcases HRl.out with h | ⟨b', o', e', hb', hc'⟩
        · have := HLl.out; rw [h] at this; cases this
        · exact ⟨b', o', e', hb', fun i c hi => by rw [hbw.cell (p := ⟨b', o' + i, none⟩) hb']; exact hc' i c hi⟩
      have hbL' : bL < wr.heap.size := Nat.lt_of_lt_of_le hbL hbw.size
      have HcL := Lib.hid hcL
      have Hbw := Lib.hid hbw
      clear hcL hbw hbL hgx hBx hbx hXe hLe
      go_wp2
      obtain ⟨wR, rfl⟩ : ∃ wR, wR = wr := ⟨_, rfl⟩
      go_loopw [14] (fun iv_ w' => ∃ i : Nat, i ≤ 16 ∧ iv_ = .int .i64 (i : Int) ∧ Blk w' gx 5 (u8s (mixK X L i) ++ restx) ∧ Below wR.heap.size wR w') (fun iv_ _ => 16 - (intOf iv_).toNat)
      case atStart => exact ⟨0, by omega, rfl, by rw [mixK_0]; exact HBx.out, Hbx.out⟩
      case round =>
        obtain ⟨i, hi, rfl, hBi, hbi⟩ := hrel
        clear HBx Hbx
        by_cases hil : i < 16
        · have hcx1 : wr.cell? ⟨gx, i, none⟩ = some (.int .u8 ((at_ X i).toNat : Int)) := by
            rw [hBi.cell, List.getElem?_append_left (by rw [u8s_len, mixK_len _ _ _ HX16.out]; exact hil), u8s_get, mixK_get _ _ _ hil HX16.out]; rfl
          have hcl1 : wr.cell? ⟨bL, oL + i, none⟩ = some (.int .u8 ((at_ L i).toNat : Int)) := by
            rw [hbi.cell (p := ⟨bL, oL + i, none⟩) hbL']
            exact HcL.out i _ (at_get' L i (by rw [HLl.out]; exact hil))
          have hf := hBi.frozen i
          have hS := hBi.set_ i (.int .u8 ((at_ X i ^^^ at_ L i).toNat : Int))
          rw [List.set_append_left _ _ (by rw [u8s_len, mixK_len _ _ _ HX16.out]; exact hil), u8s_set'', mixK_set _ _ _ hil HX16.out] at hS
          have hb2 := hbi.setCell (p := ⟨gx, i, none⟩) Hgx.out (.int .u8 ((at_ X i ^^^ at_ L i).toNat : Int))
          obtain ⟨q, hq⟩ : ∃ q : UInt8, q = at_ X i ^^^ at_ L i := ⟨_, rfl⟩
          have hxq : bits .xor .u8 ((at_ X i).toNat : Int) ((at_ L i).toNat : Int) = (q.toNat : Int) := by
            rw [hq, UInt8.toNat_xor]; exact xor_u8 _ _ (UInt8.toNat_lt _) (UInt8.toNat_lt _)
          rw [← hq] at hS hb2
          have h8x := (at_ X i).toNat_lt
          have h8l := (at_ L i).toNat_lt
          generalize (at_ X i).toNat = xn at *
          generalize (at_ L i).toNat = ln at *
          have HBn := Lib.hid hS
          have Hbn := Lib.hid hb2
          clear hS hb2 hBi hbi hq
          go_wp2_with fail
          refine wp_region_G grows (by kernel_rfl) ?_
          have hclq : ∀ {p : Addr} {v : Value}, wr.cell? p = some v → ∀ x : Later grows wr.drew, x.to.cell? p = some v := fun h x => by
            have hb : Below wr.drew.heap.size wr.drew x.to := x.grown
            rw [hb.cell (p := _) (World.block_lt_of_cell? wr _ h)]
            exact h
          have q1 := hclq hcx1
          have q2 := hclq hcl1
          clear hclq
          refine segG (by kernel_rfl) (fun _ _ _ _ _ h => h) [0, 1, 2, 3, 4, 5] [_, _, _, _, _, _] 7 rfl rfl (by kernel_rfl) ?_
          repeat (go_big_quiet_step (fail))
          refine wpQuiet_nil ?_
          refine segG (by kernel_rfl) (fun _ _ _ _ _ h => h) [6, 7, 8, 9, 10, 11] [_, _, _, _, _, _] 1 rfl rfl (by kernel_rfl) ?_
          repeat (go_big_quiet_step (fail))
          refine wpQuiet_nil ?_
          refine lateG 12 0 rfl (by kernel_rfl) (by kernel_rfl) rfl ?_
          clear q1 q2
          go_wp2
          refine ⟨trivial, ?_⟩
          refine wpAnyG_done (by kernel_rfl) ?_
          go_wp2
          exact ⟨⟨i + 1, by omega, by go_num, HBn.out, ⟨Hbn.out.os, Hbn.out.tape, Hbn.out.output, Hbn.out.size, Hbn.out.block⟩⟩, by simp [intOf]; omega⟩
        · have hi16 : i = 16 := by omega
          have hBl : Blk wr gx 5 (u8s (addK X L) ++ restx) := by
            have h := hBi
            rw [show mixK X L i = addK X L from by rw [hi16]; exact mixK_end X L HX16.out] at h
            exact h
          have hO4 : OwnB wr w1.heap.size 5 (.slice Bo (16 * j) co) (Cbc.opK key iv b j) := HOo.out.keep fun q hq => hbi.block q (HOo.out.block_lt hq).2
          have hol := Cbc.opK_len key iv b j
          have hal : (addK X L).length = 16 := addK_len _ _
          obtain ⟨v5, w5, a1, a2, a3, a4⟩ := app_at (P := Tryd.prog) 26 26 Tryd.und22 Tryd.info5 hO4 (Nat.le_trans HBW.out.size hbi.size) 16 cx hal.symm (Rd.of_row hBl) (by rw [hal, hol]; omega)
          have a2' : OwnB w5 w1.heap.size 5 v5 (Cbc.opK key iv b (j + 1)) := by
            rw [HXe.out, HLe.out] at a2
            exact a2
          have hB5 : Below w1.heap.size w1 w5 := (HBW.out.trans (hbi.mono HBW.out.size)).grown a3 (Nat.le_trans HBW.out.size hbi.size) (fun q e => (HOo.out.block_lt e).1)
          have hR5 : Rd w w.heap.size (some ⟨bb, oo + 16 * j, none⟩) (Cbc.prev iv b (j + 1)) := rd_blk j HRA.out
          obtain ⟨B5, c5, hv5, -⟩ := a2'.rd
          rw [Cbc.opK_len] at hv5
          subst hv5
          have HO5 := Lib.hid a2'
          have HR5 := Lib.hid hR5
          have HB5 := Lib.hid hB5
          have hd3 : decide ((i : Int) < 16) = false := by simp; omega
          clear a2 a2' a3 a4 hR5 hB5 hO4 hBl hol hal hBi hbi hi16
          go_wp2_with (at_builtin; refine wpList_append_run rfl (.tmp 64) (.tmp 65) _ rfl rfl rfl a1 ?_)
          exact ⟨⟨j + 1, some ⟨bb, oo + 16 * j, none⟩, bc - 16 * j, by omega, congrArg (Value.int .i64) (by omega), rfl, HO5.out, HR5.out, HB5.out⟩, by simp [intOf]; omega⟩
    · have hjE : j = N := by omega
      have HjE := Lib.hid hjE
      obtain ⟨o, ho⟩ : ∃ o, o = Cbc.opK key iv b j := ⟨_, rfl⟩
      have hol : o.length = 16 * j := by rw [ho, Cbc.opK_len]
      have hO := HOo.out
      rw [← ho] at hO
      obtain ⟨go, cq, resto, hq, -, hcq, hBo⟩ := hO.blk (by rw [hol]; omega)
      injection hq with hq1 hq2 hq3
      subst hq1
      subst hq3
      rw [hol] at hcq
      obtain ⟨Q, hQ⟩ : ∃ Q, 16 * j = Q + 1 := ⟨16 * j - 1, by omega⟩
      have hQi : 16 * (j : Int) - 1 = (Q : Int) := by omega
      have hcell : ∀ i, i < 16 * j → wr.cell? ⟨go, i, none⟩ = some (.int .u8 ((at_ o i).toNat : Int)) := fun i hi => by
        rw [hBo.cell, List.getElem?_append_left (by rw [u8s_len, hol]; exact hi), u8s_get, at_get' o i (by rw [hol]; exact hi)]
        rfl
      have hcQ := hcell Q (by omega)
      have hend : (at_ o Q).toNat = Cbc.endN o := by rw [Cbc.endN, hol, hQ]; rfl
      rw [hend] at hcQ
      have he8 : Cbc.endN o < 256 := by rw [← hend]; exact UInt8.toNat_lt _
      obtain ⟨n, hn⟩ : ∃ n, n = Cbc.endN o := ⟨_, rfl⟩
      rw [← hn] at hcQ he8
      have hd2 : decide (16 * (j : Int) < 16 * (N : Int)) = false := by simp; omega
      have HO := Lib.hid ho
      have HL := Lib.hid hol
      have HBo := Lib.hid hBo
      have Hcell := Lib.hid hcell
      have Hn := Lib.hid hn
      have HQ := Lib.hid hQ
      have hQl : Q < 16 * j := by omega
      have hBf : Below w.heap.size w wr := Hb1.out.trans (HBW.out.mono Hb1.out.size)
      have HBf := Lib.hid hBf
      have HbadR : Hid (Cbc.unpad o = none → E = 12 ∧ R = []) := Lib.hid fun hu => by
        have h1 := HE.out
        have h2 := HR.out
        rw [← hjE, ← ho, hu] at h1 h2
        exact ⟨by rw [h1]; rfl, by rw [h2]; rfl⟩
      have HokR : Hid (∀ z, Cbc.unpad o = some z → E = 0 ∧ R = z) := Lib.hid fun z hu => by
        have h1 := HE.out
        have h2 := HR.out
        rw [← hjE, ← ho, hu] at h1 h2
        exact ⟨by rw [h1]; rfl, by rw [h2]; rfl⟩
      clear ho hol hO hBo hcell hend hn hq2 hjE hQ hBf HE HR
      by_cases hr : 1 ≤ n ∧ n ≤ 16
      · obtain ⟨hr1, hr2⟩ := hr
        have hd3 : decide ((n : Int) < 1) = false := by simp; omega
        have hd4 : decide (16 < (n : Int)) = false := by simp; omega
        go_wp2
        obtain ⟨wQ, rfl⟩ : ∃ wQ, wQ = wr := ⟨_, rfl⟩
        go_loopw [16] (fun v w' => ∃ i : Nat, 1 ≤ i ∧ i ≤ n + 1 ∧ v = .int .i64 (i : Int) ∧ (∀ q, q + 1 < i → (at_ o (o.length - 1 - q)).toNat = n) ∧ w' = wQ) (fun v _ => 20 - (intOf v).toNat)
        case atStart => exact ⟨1, by omega, by omega, rfl, fun q hq => by omega, rfl⟩
        case round =>
          obtain ⟨i, hi1, hi2, rfl, hall, rfl⟩ := hrel
          have Hall := Lib.hid hall
          clear hall
          by_cases hin : i ≤ n
          · have hcI := Hcell.out (16 * j - i) (by omega)
            obtain ⟨P, hP⟩ : ∃ P, P = 16 * j - i := ⟨_, rfl⟩
            rw [← hP] at hcI
            have hPi : 16 * (j : Int) - (i : Int) = (P : Int) := by omega
            have hPl : P < 16 * j := by omega
            obtain ⟨y, hy⟩ : ∃ y, y = (at_ o P).toNat := ⟨_, rfl⟩
            have hy8 : y < 256 := by rw [hy]; exact UInt8.toNat_lt _
            rw [← hy] at hcI
            have HY : Hid ((at_ o (o.length - 1 - (i - 1))).toNat = y) := Lib.hid (by rw [hy, HL.out, hP]; congr 2; omega)
            have HP := Lib.hid hP
            clear hy hP
            by_cases hyn : y = n
            · subst hyn
              go_wp2
              refine ⟨⟨i + 1, by omega, by omega, by go_num, fun q hq => ?_, trivial⟩, by simp [intOf]; omega⟩
              by_cases hqi : q + 1 < i
              · exact Hall.out q hqi
              · have h := HY.out
                rw [show i - 1 = q from by omega] at h
                exact h
            · have hyd : ((y : Int) != (n : Int)) = true := by simp; omega
              have HU : Hid (Cbc.unpad o = none) := Lib.hid (by
                rw [Cbc.unpad, if_neg]
                rintro ⟨_, _, h3⟩
                rw [← Hn.out] at h3
                have := h3 (i - 1) (by omega)
                rw [HY.out] at this
                exact hyn this)
              go_wp2
              go_ret2
              obtain ⟨hE, hR⟩ := HbadR.out HU.out
              exact ⟨_, by rw [hE]; rfl, by rw [hR]; exact ⟨none, 0, rfl, Nat.le_refl _, Rd.nil⟩, HBf.out⟩
          · obtain ⟨H, hH⟩ : ∃ H, H = 16 * j - n := ⟨_, rfl⟩
            have hHi : 16 * (j : Int) - (n : Int) = (H : Int) := by omega
            have hsl : ∀ W, (Instr.sliceAt 26 (.slice (some ⟨go, 0, none⟩) (16 * j) co) none (some (.int .i64 (H : Int))) none).run Tryd.prog W = .ok (.slice (some ⟨go, 0, none⟩) H co) W := fun W => run_slice_to W go (16 * j) co H _ rfl (by omega)
            have HU : Hid (Cbc.unpad o = some (o.take (o.length - n))) := Lib.hid (by
              have hn := Hn.out
              rw [Cbc.unpad, ← hn, if_pos ⟨hr1, hr2, fun q hq => Hall.out q (by omega)⟩])
            have HO2 : Hid (Out wr (.slice (some ⟨go, 0, none⟩) H co) (o.take (o.length - n))) := Lib.hid (by
              have hl : (o.take (o.length - n)).length = H := by rw [List.length_take, HL.out, hH]; omega
              exact ⟨some ⟨go, 0, none⟩, co, by rw [hl], by rw [hl]; omega, (Rd.of_row HBo.out).take _⟩)
            clear hH
            go_wp2
            go_ret2
            obtain ⟨hE, hR⟩ := HokR.out _ HU.out
            exact ⟨_, by rw [hE]; rfl, by rw [hR]; exact HO2.out, HBf.out⟩
      · have HU : Hid (Cbc.unpad o = none) := Lib.hid (by
          rw [Cbc.unpad, if_neg]
          rintro ⟨h1, h2, _⟩
          rw [← Hn.out] at h1 h2
          exact hr ⟨h1, h2⟩)
        by_cases hn0 : n < 1
        · have hd3 : decide ((n : Int) < 1) = true := by simp; omega
          clear hr
          go_wp2
          go_ret2
          obtain ⟨hE, hR⟩ := HbadR.out HU.out
          exact ⟨_, by rw [hE]; rfl, by rw [hR]; exact ⟨none, 0, rfl, Nat.le_refl _, Rd.nil⟩, HBf.out⟩
        · have hd3 : decide ((n : Int) < 1) = false := by simp; omega
          have hd4 : decide (16 < (n : Int)) = true := by simp; omega
          clear hr
          go_wp2
          go_ret2
          obtain ⟨hE, hR⟩ := HbadR.out HU.out
          exact ⟨_, by rw [hE]; rfl, by rw [hR]; exact ⟨none, 0, rfl, Nat.le_refl _, Rd.nil⟩, HBf.out⟩
end Go.Proofs.YtjhkodmaalefiaaDoor
namespace Go.Proofs.YtjhkodmaalefiaaDoor
open Go.ChangeShapes Go.WideShapes Go.ChangeAt Go.RowKit Go.Gar Go.Gar.Aes

theorem Out.nil (w : World) : Out w (.slice none 0 0) [] := ⟨none, 0, rfl, Nat.le_refl _, Rd.nil⟩
theorem refSeal_any (w : World) (K V A : Option Addr) (key iv b : List UInt8) (kl kc vc bl bc : Nat) (hkl : kl = key.length) (hbl : bl = b.length) (hkc : kl ≤ kc) (hiv : iv.length = 16) (rK : Rd w w.heap.size K key) (rV : Rd w w.heap.size V iv) (rA : Rd w w.heap.size A b) (hb : b.length ≤ 1048576) :
    Calls Tryd.prog 21 #[.slice K kl kc, .slice V 16 vc, .slice A bl bc] w fun e w' => ∃ v, e = .returned (.tuple #[v, .int .i64 ((sealE key : Nat) : Int)]) ∧ Out w' v (sealB key iv b) ∧ Below w.heap.size w w' := by
  by_cases hs : sizeOk key.length
  · have e1 : sealE key = 0 := if_pos hs
    have e2 : sealB key iv b = Cbc.seal_ key iv b := if_pos hs
    rw [e1, e2]
    refine (refSeal_yes w K V A key iv b kl kc vc bl bc hs hkl hbl hkc hiv rK rV rA hb).mono fun e w' he => ?_
    obtain ⟨B, n, c, h1, rfl, h3, h4, h5⟩ := he
    exact ⟨_, h1, ⟨B, c, rfl, h3, h4⟩, h5⟩
  · have e1 : sealE key = 1 := if_neg hs
    have e2 : sealB key iv b = [] := if_neg hs
    rw [e1, e2]
    refine (refSeal_no w K V A kl kc 16 vc bl bc (by rw [hkl]; exact hs)).mono fun e w' he => ?_
    obtain ⟨h1, h2⟩ := he
    exact ⟨_, h1, Out.nil w', h2⟩
theorem refOpen_any (w : World) (K V A : Option Addr) (key iv b : List UInt8) (kl kc vc bl bc : Nat) (hkl : kl = key.length) (hbl : bl = b.length) (hkc : kl ≤ kc) (hbc : bl ≤ bc) (hiv : iv.length = 16) (rK : Rd w w.heap.size K key) (rV : Rd w w.heap.size V iv) (rA : Rd w w.heap.size A b) (hb : b.length ≤ 1048592) :
    Calls Tryd.prog 29 #[.slice K kl kc, .slice V 16 vc, .slice A bl bc] w fun e w' => ∃ v, e = .returned (.tuple #[v, .int .i64 ((openE key iv b : Nat) : Int)]) ∧ Out w' v (openB key iv b) ∧ Below w.heap.size w w' := by
  by_cases hs : sizeOk key.length
  · have e1 : openE key iv b = if (Cbc.open_ key iv b).isSome then 0 else 12 := if_pos hs
    have e2 : openB key iv b = (Cbc.open_ key iv b).getD [] := if_pos hs
    rw [e1, e2]
    by_cases hl : 16 ≤ b.length ∧ b.length % 16 = 0
    · have e3 : Cbc.open_ key iv b = Cbc.unpad (Cbc.opK key iv b (b.length / 16)) := if_pos hl
      rw [e3]
      obtain rfl : bl = 16 * (b.length / 16) := by omega
      exact refOpen_yes w K V A key iv b kl kc vc (b.length / 16) bc hs hkl (by omega) (by omega) (by omega) hkc hbc hiv rK rV rA
    · have e3 : Cbc.open_ key iv b = none := if_neg hl
      rw [e3]
      refine (refOpen_short w K V A key kl kc 16 vc bl bc hs hkl hkc rK (by rw [hbl]; exact hl)).mono fun e w' he => ?_
      obtain ⟨h1, h2⟩ := he
      exact ⟨_, h1, Out.nil w', h2⟩
  · have e1 : openE key iv b = 1 := if_neg hs
    have e2 : openB key iv b = [] := if_neg hs
    rw [e1, e2]
    refine (refOpen_no w K V A kl kc 16 vc bl bc (by rw [hkl]; exact hs)).mono fun e w' he => ?_
    obtain ⟨h1, h2⟩ := he
    exact ⟨_, h1, Out.nil w', h2⟩
end Go.Proofs.YtjhkodmaalefiaaDoor
namespace Go.Proofs.YtjhkodmaalefiaaDoor
open Go.RowKit Go.Gar

namespace M64
theorem maskN (a : Nat) (ha : a < 18446744073709551616) : bits .and .u64 (a : Int) 4294967295 = ((a % 4294967296 : Nat) : Int) := by
  have h := and_u64 a 4294967295 ha (by omega)
  have e : a &&& 4294967295 = a % 4294967296 := Nat.and_two_pow_sub_one_eq_mod a 32
  rw [e] at h
  exact h
theorem divN (a : Nat) : (a : Int) / 4294967296 = ((a / 4294967296 : Nat) : Int) := by omega
theorem mulN (a b : Nat) : (a : Int) * (b : Int) = ((a * b : Nat) : Int) := (Int.natCast_mul a b).symm
theorem addN (a b : Nat) : (a : Int) + (b : Int) = ((a + b : Nat) : Int) := (Int.natCast_add a b).symm
theorem wrapN (a : Nat) (ha : a < 18446744073709551616) : IntKind.u64.wrap (a : Int) = (a : Int) := by rw [IntKind.wrap_u64]; omega
theorem wrapM (a : Nat) : IntKind.u64.wrap (a : Int) = ((a % 18446744073709551616 : Nat) : Int) := by rw [IntKind.wrap_u64]; omega
end M64

set_option maxHeartbeats 1000000 in
theorem mul64_any (x y : Nat) (hx : x < 18446744073709551616) (hy : y < 18446744073709551616) (w : World) :
    Calls Tryd.prog 75 #[.int .u64 x, .int .u64 y] w fun e w' => e = .returned (.tuple #[.int .u64 ((x * y / 18446744073709551616 : Nat) : Int), .int .u64 ((x * y % 18446744073709551616 : Nat) : Int)]) ∧ w' = w := by
  obtain ⟨bd, bt, bw, hhi⟩ := Lib.mul64_hi x y hx hy
  have ba := Lib.half_mul_le (a := x / 4294967296) (b := y / 4294967296) (by omega) (by omega)
  have bb := Lib.half_mul_le (a := x / 4294967296) (b := y % 4294967296) (by omega) (by omega)
  have bc := Lib.half_mul_le (a := x % 4294967296) (b := y / 4294967296) (by omega) (by omega)
  have ba' : x / 4294967296 * (y / 4294967296) < 18446744073709551616 := by omega
  have bb' : x / 4294967296 * (y % 4294967296) < 18446744073709551616 := by omega
  have bc' : x % 4294967296 * (y / 4294967296) < 18446744073709551616 := by omega
  have bh1 : x / 4294967296 * (y / 4294967296) + (x / 4294967296 * (y % 4294967296) + x % 4294967296 * (y % 4294967296) / 4294967296) / 4294967296 < 18446744073709551616 := by omega
  have bh : x / 4294967296 * (y / 4294967296) + (x / 4294967296 * (y % 4294967296) + x % 4294967296 * (y % 4294967296) / 4294967296) / 4294967296 + ((x / 4294967296 * (y % 4294967296) + x % 4294967296 * (y % 4294967296) / 4294967296) % 4294967296 + x % 4294967296 * (y / 4294967296)) / 4294967296 < 18446744073709551616 := by omega
  go_enter Tryd.func75, Tryd.ntmps75
  go_wp2
  simp only [M64.maskN x hx, M64.maskN y hy, M64.divN, M64.mulN, M64.addN, M64.wrapN _ bd, M64.wrapN _ bb', M64.wrapN _ bt, M64.maskN _ bt, M64.wrapN _ bc', M64.wrapN _ bw, M64.wrapN _ ba', M64.wrapN _ bh1, M64.wrapN _ bh, M64.wrapM (x * y)]
  rw [hhi]
  go_ret2
  exact ⟨rfl, rfl⟩
end Go.Proofs.YtjhkodmaalefiaaDoor
namespace Go.Proofs.YtjhkodmaalefiaaDoor
open Go.RowKit Go.Gar


/-- Below 2^36 squares and cubes do not pass 2^108. -/
theorem sq_lt (n : Nat) (hn : n < 68719476736) : n * n < 4722366482869645213696 := Nat.mul_lt_mul'' hn hn
theorem cu_lt (n : Nat) (hn : n < 68719476736) : n * n * n < 324518553658426726783156020576256 := Nat.mul_lt_mul'' (sq_lt n hn) hn
theorem cu_hi (n : Nat) : n * n / 18446744073709551616 * n + n * n % 18446744073709551616 * n / 18446744073709551616 = n * n * n / 18446744073709551616 := by
  have e : n * n * n = 18446744073709551616 * (n * n / 18446744073709551616 * n) + n * n % 18446744073709551616 * n := by
    rw [← Nat.mul_assoc, ← Nat.add_mul, Nat.div_add_mod]
  rw [e, Nat.mul_add_div (by omega)]
theorem cu_lo (n : Nat) : n * n % 18446744073709551616 * n % 18446744073709551616 = n * n * n % 18446744073709551616 := by
  rw [Nat.mod_mul_mod]

set_option maxHeartbeats 1000000 in
theorem square_any (n p : Nat) (hn : n < 68719476736) (hp : p < 65536) (w : World) :
    Calls Tryd.prog 44 #[.int .u64 n, .int .i64 p] w fun e w' => e = .returned (.bool (Sha.good2 n p)) ∧ w' = w := by
  go_enter Tryd.func44, Tryd.ntmps44
  go_wp2_with fail
  refine (mul64_any n n (by omega) (by omega) w).mono ?_
  rintro e w' ⟨rfl, rfl⟩
  have hg : Sha.good2 n p = (decide (n * n / 18446744073709551616 < p) || (n * n / 18446744073709551616 == p && n * n % 18446744073709551616 == 0)) := rfl
  have HG := Lib.hid hg
  clear hg
  generalize n * n / 18446744073709551616 = h at HG ⊢
  generalize n * n % 18446744073709551616 = l at HG ⊢
  by_cases h1 : h < p
  · have H1 : Hid (decide (h < p) = true) := Lib.hid (by simpa using h1)
    go_wp2
    go_ret
    refine ⟨?_, rfl⟩
    rw [HG.out, H1.out]; rfl
  · have H1 : Hid (decide (h < p) = false) := Lib.hid (by simpa using h1)
    have h1' : p ≤ h := by omega
    clear h1
    by_cases h2 : h = p
    · have d2 : ((h : Int) == (p : Int)) = true := by simp; omega
      have H2 : Hid ((h == p) = true) := Lib.hid (by simpa using h2)
      clear h2
      go_wp2
      go_ret
      refine ⟨?_, rfl⟩
      rw [HG.out, H1.out, H2.out]
      show Ending.returned (.bool ((l : Int) == 0)) = _
      rw [show (0 : Int) = ((0 : Nat) : Int) from rfl, beq_cast]
      rfl
    · have d2 : ((h : Int) == (p : Int)) = false := by simp; omega
      have H2 : Hid ((h == p) = false) := Lib.hid (by simpa using h2)
      clear h2
      go_wp2
      go_ret
      refine ⟨?_, rfl⟩
      rw [HG.out, H1.out, H2.out]
      rfl

set_option maxHeartbeats 1000000 in
theorem cube_any (n p : Nat) (hn : n < 68719476736) (hp : p < 65536) (w : World) :
    Calls Tryd.prog 43 #[.int .u64 n, .int .i64 p] w fun e w' => e = .returned (.bool (Sha.good3 n p)) ∧ w' = w := by
  go_enter Tryd.func43, Tryd.ntmps43
  go_wp2_with fail
  refine (mul64_any n n (by omega) (by omega) w).mono ?_
  rintro e w' ⟨rfl, rfl⟩
  have hc := cu_hi n
  have hl := cu_lo n
  have hu := cu_lt n hn
  have hq : n * n % 18446744073709551616 < 18446744073709551616 := Nat.mod_lt _ (by omega)
  have hg : Sha.good3 n p = (decide (n * n * n / 18446744073709551616 < p * 4294967296) || (n * n * n / 18446744073709551616 == p * 4294967296 && n * n * n % 18446744073709551616 == 0)) := rfl
  have HG := Lib.hid hg
  clear hg
  have hcb : n * n * n / 18446744073709551616 < 18446744073709551616 := by omega
  clear hu
  generalize n * n / 18446744073709551616 = h at hc ⊢
  generalize n * n % 18446744073709551616 = q at hc hl hq ⊢
  generalize n * n * n / 18446744073709551616 = c at hc HG hcb
  generalize n * n * n % 18446744073709551616 = l at hl HG
  have HL := Lib.hid hl
  have HC := Lib.hid hc
  clear hl hc
  go_wp2_with fail
  refine (mul64_any q n hq (by omega) w').mono ?_
  rintro e w2 ⟨rfl, rfl⟩
  rw [HL.out]
  have hc := HC.out
  clear HC HL
  generalize q * n / 18446744073709551616 = a at hc ⊢
  have hE : IntKind.u64.wrap (IntKind.u64.wrap ((h : Int) * (n : Int)) + (a : Int)) = (c : Int) := by
    have hm : (h : Int) * (n : Int) = ((h * n : Nat) : Int) := (Int.natCast_mul _ _).symm
    rw [IntKind.wrap_u64, IntKind.wrap_u64, hm]; omega
  have HPb : Hid (p * 4294967296 < 18446744073709551616) := Lib.hid (by omega)
  clear hc
  by_cases h1 : c < p * 4294967296
  · have H1 : Hid (decide (c < p * 4294967296) = true) := Lib.hid (by simpa using h1)
    have d1 : decide ((c : Int) < (p : Int) * 4294967296) = true := by simp; omega
    clear h1
    go_wp2
    go_ret
    refine ⟨?_, rfl⟩
    rw [HG.out, H1.out]; rfl
  · have H1 : Hid (decide (c < p * 4294967296) = false) := Lib.hid (by simpa using h1)
    have d1 : decide ((c : Int) < (p : Int) * 4294967296) = false := by simp; omega
    by_cases h2 : c = p * 4294967296
    · have d2 : ((c : Int) == (p : Int) * 4294967296) = true := by simp; omega
      have H2 : Hid ((c == p * 4294967296) = true) := Lib.hid (by simpa using h2)
      clear h2 h1
      go_wp2
      go_ret
      refine ⟨?_, rfl⟩
      rw [HG.out, H1.out, H2.out]
      show Ending.returned (.bool ((l : Int) == 0)) = _
      rw [show (0 : Int) = ((0 : Nat) : Int) from rfl, beq_cast]
      rfl
    · have d2 : ((c : Int) == (p : Int) * 4294967296) = false := by simp; omega
      have H2 : Hid ((c == p * 4294967296) = false) := Lib.hid (by simpa using h2)
      clear h2 h1
      go_wp2
      go_ret
      refine ⟨?_, rfl⟩
      rw [HG.out, H1.out, H2.out]
      rfl

set_option maxHeartbeats 1000000 in
theorem root_any (p : Nat) (third : Bool) (hp : p < 65536) (w : World) :
    Calls Tryd.prog 24 #[.int .i64 p, .bool third] w fun e w' => e = .returned (.int .u32 ((Sha.root p third : Nat) : Int)) ∧ w' = w := by
  go_enter Tryd.func24, Tryd.ntmps24
  go_wp2
  go_loop [5, 6] (fun n i => ∃ k m : Nat, k ≤ 36 ∧ i = .int .i64 (35 - (k : Int)) ∧ n = .int .u64 (m : Int) ∧ m = Sha.rootK p third k) (fun _ i => (intOf i + 1).toNat)
  case atStart => exact ⟨0, 0, by omega, rfl, rfl, rfl⟩
  case round =>
    obtain ⟨k, m, hk, rfl, rfl, hm⟩ := hrel
    have hle := Sha.rootK_le p third k hk
    rw [← hm] at hle
    have HM := Lib.hid hm
    clear hm
    by_cases hlt : k < 36
    · have hz : ((35 : Int) - (k : Int)).toNat = 35 - k := by omega
      have he : 2 ^ (36 - k) = 2 ^ (35 - k) + 2 ^ (35 - k) := by rw [show 36 - k = (35 - k) + 1 from by omega, Nat.pow_succ]; omega
      have hp2 : 0 < 2 ^ (35 - k) := Nat.pow_pos (by omega)
      have hnx : m + 2 ^ (35 - k) < 68719476736 := by omega
      have HK : Hid (Sha.rootK p third (k + 1) = if Sha.good third (m + 2 ^ (35 - k)) p then m + 2 ^ (35 - k) else m) := Lib.hid (by rw [HM.out]; rfl)
      have hE : IntKind.u64.wrap ((m : Int) + IntKind.u64.wrap (2 ^ (35 - k))) = ((m + 2 ^ (35 - k) : Nat) : Int) := by
        have hb : 2 ^ (35 - k) ≤ 2 ^ 35 := Nat.pow_le_pow_right (by omega) (by omega)
        have h2 : ((2 : Int) ^ (35 - k)) = ((2 ^ (35 - k) : Nat) : Int) := by simp
        rw [IntKind.wrap_u64, IntKind.wrap_u64, h2]; omega
      clear he hle hp2
      obtain ⟨y, hy⟩ : ∃ y, m + 2 ^ (35 - k) = y := ⟨_, rfl⟩
      rw [hy] at hE HK hnx
      clear hy
      cases third with
      | true =>
        go_wp2_with fail
        refine (cube_any y p hnx hp w).mono ?_
        rintro e w' ⟨rfl, rfl⟩
        have HG : Hid (Sha.good true y p = Sha.good3 y p) := Lib.hid rfl
        cases hg : Sha.good3 y p with
        | true =>
          have HY : Hid (Sha.rootK p true (k + 1) = y) := Lib.hid (by rw [HK.out, HG.out, hg]; rfl)
          clear hg HK HG
          go_wp2
          exact ⟨⟨k + 1, y, by omega, by simp; omega, rfl, HY.out.symm⟩, by simp [intOf]; omega⟩
        | false =>
          have HY : Hid (Sha.rootK p true (k + 1) = m) := Lib.hid (by rw [HK.out, HG.out, hg]; rfl)
          clear hg HK HG
          go_wp2
          exact ⟨⟨k + 1, m, by omega, by simp; omega, rfl, HY.out.symm⟩, by simp [intOf]; omega⟩
      | false =>
        go_wp2_with fail
        refine (square_any y p hnx hp w).mono ?_
        rintro e w' ⟨rfl, rfl⟩
        have HG : Hid (Sha.good false y p = Sha.good2 y p) := Lib.hid rfl
        cases hg : Sha.good2 y p with
        | true =>
          have HY : Hid (Sha.rootK p false (k + 1) = y) := Lib.hid (by rw [HK.out, HG.out, hg]; rfl)
          clear hg HK HG
          go_wp2
          exact ⟨⟨k + 1, y, by omega, by simp; omega, rfl, HY.out.symm⟩, by simp [intOf]; omega⟩
        | false =>
          have HY : Hid (Sha.rootK p false (k + 1) = m) := Lib.hid (by rw [HK.out, HG.out, hg]; rfl)
          clear hg HK HG
          go_wp2
          exact ⟨⟨k + 1, m, by omega, by simp; omega, rfl, HY.out.symm⟩, by simp [intOf]; omega⟩
    · obtain rfl : k = 36 := by omega
      have HR : Hid ((m % 4294967296 : Nat) = Sha.root p third) := Lib.hid (by rw [HM.out]; rfl)
      clear hle
      go_wp2
      go_ret
      refine ⟨?_, rfl⟩
      rw [← HR.out]
      rfl

end Go.Proofs.YtjhkodmaalefiaaDoor
