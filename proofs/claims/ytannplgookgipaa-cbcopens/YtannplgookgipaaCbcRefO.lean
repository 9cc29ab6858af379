/-
  The reference's Open of layer 7: its contract.
-/
import Derived.Test.YtannplgookgipaaCbcRefS
import Derived.Test.YtannplgookgipaaCbcC
namespace Go.Proofs.Ytannplgookgipaa
open Go.ChangeShapes Go.WideShapes Go.ChangeAt Go.RowKit Go.Gar Go.Gar.Aes

theorem refDec_own (w : World) (gc : Nat) (key : List UInt8) (h : RefOf w gc key) (A : Option Addr) (l : List UInt8) (c : Nat) (hl : l.length = 16) (hr : Rd w w.heap.size A l) :
    Calls Try.prog 22 #[.pointer (some ⟨gc, 0, none⟩), .slice A 16 c] w fun e w' => ∃ g cp rest, e = .returned (.slice (some ⟨g, 0, none⟩) 16 cp) ∧ w.heap.size ≤ g ∧ Blk w' g 5 (u8s (decrypt key l) ++ rest) ∧ Below w.heap.size w w' := by
  obtain ⟨gt, gb, gw, cp, h⟩ := h
  exact refDecrypt_any w gc gt gb gw cp _ h (roundsOf key) (by rw [words_len, roundsOf]; omega) (by rw [roundsOf]; omega) A l c hl hr
theorem rd_blk {w : World} {B bb oo : Nat} {b : List UInt8} (j : Nat) (h : Rd w B (some ⟨bb, oo, none⟩) b) : Rd w B (some ⟨bb, oo + 16 * j, none⟩) (Cbc.blk b j) := by
  rcases h with h | ⟨b', o', e, hb, hc⟩
  · refine .inl ?_
    rw [h, Cbc.blk, List.drop_nil, List.take_nil]
  · injection e with e
    injection e with e1 e2
    subst e1; subst e2
    refine .inr ⟨bb, oo + 16 * j, rfl, hb, fun i c hi => ?_⟩
    rw [Cbc.blk, List.getElem?_take] at hi
    split at hi
    · rw [List.getElem?_drop] at hi
      rw [Nat.add_assoc]
      exact hc _ c hi
    · cases hi
theorem run_slice_to (W : World) (g len cap h : Nat) (z : Int) (hz : z = (h : Int)) (hc : h ≤ cap) :
    (Instr.sliceAt 22 (.slice (some ⟨g, 0, none⟩) len cap) none (some (.int .i64 z)) none).run Try.prog W = .ok (.slice (some ⟨g, 0, none⟩) h cap) W := by
  subst hz
  obtain ⟨i, hi, _⟩ := Option.map_eq_some_iff.1 Try.size5
  have e3 : (h : Int) ≤ (cap : Int) := by omega
  simp [Instr.sliceAt, Instr.slice, Instr.sliceBounds, run_underlying Try.und22 W, sizeOf, typeInfo, hi, go_sem, e3]
set_option maxHeartbeats 1000000 in
set_option maxRecDepth 100000 in
theorem refOpen_no (w : World) (K V A : Option Addr) (kl kc vl vc bl bc : Nat) (h : ¬ sizeOk kl) :
    Calls Try.prog 12 #[.slice K kl kc, .slice V vl vc, .slice A bl bc] w fun e w' => e = .returned (.tuple #[.slice none 0 0, .int .i64 1]) ∧ Below w.heap.size w w' := by
  go_enter Try.func12, Try.ntmps12
  go_wp2_with fail
  refine (refNew_no w K kl kc h).mono ?_
  rintro e w1 ⟨rfl, rfl⟩
  go_wp2
  go_ret2
  exact ⟨rfl, Below.refl _ _⟩
set_option maxHeartbeats 1000000 in
set_option maxRecDepth 100000 in
theorem refOpen_short (w : World) (K V A : Option Addr) (key : List UInt8) (kl kc vl vc bl bc : Nat) (hs : sizeOk key.length) (hkl : kl = key.length) (hkc : kl ≤ kc) (rK : Rd w w.heap.size K key) (hbad : ¬ (16 ≤ bl ∧ bl % 16 = 0)) :
    Calls Try.prog 12 #[.slice K kl kc, .slice V vl vc, .slice A bl bc] w fun e w' => e = .returned (.tuple #[.slice none 0 0, .int .i64 12]) ∧ Below w.heap.size w w' := by
  have HKL := Lib.hid hkl
  have HRK := Lib.hid rK
  have HS := Lib.hid hs
  clear hkl rK hs
  go_enter Try.func12, Try.ntmps12
  go_wp2_with fail
  refine (refNew_at w K key kl kc HS.out HKL.out hkc HRK.out).mono ?_
  rintro e w1 ⟨gc, rfl, hC, hb1⟩
  have Hb1 := Lib.hid hb1
  clear hC hb1
  by_cases h16 : bl < 16
  · have hd : decide ((bl : Int) < 16) = true := by simp; omega
    go_wp2
    go_ret2
    exact ⟨rfl, Hb1.out⟩
  · have hd : decide ((bl : Int) < 16) = false := by simp; omega
    have hr : (bl : Int) % 16 ≠ 0 := by omega
    go_wp2
    go_ret2
    exact ⟨rfl, Hb1.out⟩

set_option maxHeartbeats 4000000 in
set_option maxRecDepth 100000 in
theorem refOpen_yes (w : World) (K V A : Option Addr) (key iv b : List UInt8) (kl kc vc N bc : Nat) (hs : sizeOk key.length) (hkl : kl = key.length) (hbl : b.length = 16 * N) (hN1 : 1 ≤ N) (hN20 : N ≤ 65537) (hkc : kl ≤ kc) (hbc : 16 * N ≤ bc) (hiv : iv.length = 16) (rK : Rd w w.heap.size K key) (rV : Rd w w.heap.size V iv) (rA : Rd w w.heap.size A b) :
    Calls Try.prog 12 #[.slice K kl kc, .slice V 16 vc, .slice A (16 * N) bc] w fun e w' => ∃ v, e = .returned (.tuple #[v, .int .i64 (((if (Cbc.unpad (Cbc.opK key iv b N)).isSome then 0 else 12 : Nat)) : Int)]) ∧ Out w' v ((Cbc.unpad (Cbc.opK key iv b N)).getD []) ∧ Below w.heap.size w w' := by
  have HKL := Lib.hid hkl
  have HBL := Lib.hid hbl
  have HIV := Lib.hid hiv
  have HRK := Lib.hid rK
  have HRV := Lib.hid rV
  have HS := Lib.hid hs
  obtain ⟨bb, oo, rfl⟩ : ∃ bb oo, A = some ⟨bb, oo, none⟩ := by
    rcases rA with h | ⟨b', o', e', _⟩
    · rw [h] at hbl; simp at hbl; omega
    · exact ⟨b', o', e'⟩
  have HRA := Lib.hid rA
  obtain ⟨E, hE⟩ : ∃ E : Nat, E = if (Cbc.unpad (Cbc.opK key iv b N)).isSome then 0 else 12 := ⟨_, rfl⟩
  obtain ⟨R, hR⟩ : ∃ R : List UInt8, R = (Cbc.unpad (Cbc.opK key iv b N)).getD [] := ⟨_, rfl⟩
  rw [← hE, ← hR]
  have HE := Lib.hid hE
  have HR := Lib.hid hR
  clear hE hR
  clear hkl hbl hiv rK rV rA hs
  go_enter Try.func12, Try.ntmps12
  go_wp2_with fail
  refine (refNew_at w K key kl kc HS.out HKL.out hkc HRK.out).mono ?_
  rintro e w1 ⟨gc, rfl, hC, hb1⟩
  have HC := Lib.hid hC
  have Hb1 := Lib.hid hb1
  have h16 : decide (16 * (N : Int) < 16) = false := by simp; omega
  have hr16 : 16 * (N : Int) % 16 = 0 := by omega
  clear hC hb1
  go_wp2
  have HoS := Lib.hid (own_made w1 w1.heap.size 5 (Nat.le_refl _))
  have HbS := Lib.hid (below_alloc w1 (.cells #[] 5))
  generalize w1.alloc (.cells #[] 5) = wS at HoS HbS ⊢
  go_loopw [10, 11, 12] (fun vo vl at_ w' => ∃ (j : Nat) (B : Option Addr) (c : Nat), j ≤ N ∧ at_ = .int .i64 (16 * (j : Int)) ∧ vl = .slice B 16 c ∧ OwnB w' w1.heap.size 5 vo (Cbc.opK key iv b j) ∧ Rd w w.heap.size B (Cbc.prev iv b j) ∧ Below w1.heap.size w1 w') (fun _ _ at_ _ => 16 * N + 16 - (intOf at_).toNat)
  case atStart =>
    exact ⟨0, V, vc, by omega, rfl, rfl, HoS.out, HRV.out, HbS.out⟩
  case round =>
    obtain ⟨j, B, cB, hj, rfl, rfl, hOo, hRl, hBel⟩ := hrel
    obtain ⟨Bo, co, hvo, -⟩ := hOo.rd
    rw [Cbc.opK_len] at hvo
    subst hvo
    clear HoS HbS
    have HOo := Lib.hid hOo
    have HRl := Lib.hid hRl
    have HBW := Lib.hid hBel
    clear hOo hRl hBel
    by_cases hjN : j < N
    · have hd2 : decide (16 * (j : Int) < 16 * (N : Int)) = true := by simp; omega
      have hsl : ∀ W, (Instr.sliceAt 22 (.slice (some ⟨bb, oo, none⟩) (16 * N) bc) (some (.int .i64 (16 * (j : Int)))) (some (.int .i64 (16 * (j : Int) + 16))) none).run Try.prog W = .ok (.slice (some ⟨bb, oo + 16 * j, none⟩) 16 (bc - 16 * j)) W := fun W => by
        have := run_slice_mid W bb oo (16 * N) bc (16 * j) (16 * j + 16) (16 * (j : Int)) (16 * (j : Int) + 16) (by omega) (by omega) (by omega) (by omega) (by omega)
        rw [Nat.add_sub_cancel_left] at this
        exact this
      have hm16 : (Cbc.blk b j).length = 16 := Cbc.blk_len b j (by rw [HBL.out]; omega)
      have HM := Lib.hid hm16
      clear hm16
      go_wp2_with fail
      have hbw : Below w.heap.size w wr := Hb1.out.trans (HBW.out.mono Hb1.out.size)
      refine (refDec_own wr gc key ((HC.out.below HBW.out)) _ (Cbc.blk b j) _ HM.out (((rd_blk j HRA.out).below hbw).more hbw.size)).mono ?_
      rintro e w3 ⟨gx, cx, restx, rfl, hgx, hBx, hbx⟩
      obtain ⟨X, hXe⟩ : ∃ X, X = decrypt key (Cbc.blk b j) := ⟨_, rfl⟩
      obtain ⟨L, hLe⟩ : ∃ L, L = Cbc.prev iv b j := ⟨_, rfl⟩
      rw [← hXe] at hBx
      rw [← hLe] at HRl
      have HX16 : Hid (X.length = 16) := Lib.hid (by rw [hXe]; exact decrypt_len _ _)
      have HLl : Hid (L.length = 16) := Lib.hid (by
        rw [hLe]
        cases j with
        | zero => exact HIV.out
        | succ q => exact Cbc.blk_len b q (by rw [HBL.out]; omega))
      have HXe := Lib.hid hXe
      have HLe := Lib.hid hLe
      have HBx := Lib.hid hBx
      have Hbx := Lib.hid hbx
      have Hgx := Lib.hid hgx
      obtain ⟨bL, oL, rfl, hbL, hcL⟩ : ∃ bL oL, B = some ⟨bL, oL, none⟩ ∧ bL < w.heap.size ∧ ∀ i c, L[i]? = some c → wr.cell? ⟨bL, oL + i, none⟩ = some (.int .u8 (c.toNat : Int)) := by
        rcases HRl.out with h | ⟨b', o', e', hb', hc'⟩
        · have := HLl.out; rw [h] at this; cases this
        · exact ⟨b', o', e', hb', fun i c hi => by rw [hbw.cell (p := ⟨b', o' + i, none⟩) hb']; exact hc' i c hi⟩
      have hbL' : bL < wr.heap.size := Nat.lt_of_lt_of_le hbL hbw.size
      have HcL := Lib.hid hcL
      have Hbw := Lib.hid hbw
      clear hcL hbw hbL hgx hBx hbx hXe hLe
      go_wp2
      obtain ⟨wR, rfl⟩ : ∃ wR, wR = wr := ⟨_, rfl⟩
      go_loopw [14] (fun iv_ w' => ∃ i : Nat, i ≤ 16 ∧ iv_ = .int .i64 (i : Int) ∧ Blk w' gx 5 (u8s (mixK X L i) ++ restx) ∧ Below wR.heap.size wR w') (fun iv_ _ => 16 - (intOf iv_).toNat)
      case atStart => exact ⟨0, by omega, rfl, by rw [mixK_0]; exact HBx.out, Hbx.out⟩
      case round =>
        obtain ⟨i, hi, rfl, hBi, hbi⟩ := hrel
        clear HBx Hbx
        by_cases hil : i < 16
        · have hcx1 : wr.cell? ⟨gx, i, none⟩ = some (.int .u8 ((at_ X i).toNat : Int)) := by
            rw [hBi.cell, List.getElem?_append_left (by rw [u8s_len, mixK_len _ _ _ HX16.out]; exact hil), u8s_get, mixK_get _ _ _ hil HX16.out]; rfl
          have hcl1 : wr.cell? ⟨bL, oL + i, none⟩ = some (.int .u8 ((at_ L i).toNat : Int)) := by
            rw [hbi.cell (p := ⟨bL, oL + i, none⟩) hbL']
            exact HcL.out i _ (at_get' L i (by rw [HLl.out]; exact hil))
          have hf := hBi.frozen i
          have hS := hBi.set_ i (.int .u8 ((at_ X i ^^^ at_ L i).toNat : Int))
          rw [List.set_append_left _ _ (by rw [u8s_len, mixK_len _ _ _ HX16.out]; exact hil), u8s_set'', mixK_set _ _ _ hil HX16.out] at hS
          have hb2 := hbi.setCell (p := ⟨gx, i, none⟩) Hgx.out (.int .u8 ((at_ X i ^^^ at_ L i).toNat : Int))
          obtain ⟨q, hq⟩ : ∃ q : UInt8, q = at_ X i ^^^ at_ L i := ⟨_, rfl⟩
          have hxq : bits .xor .u8 ((at_ X i).toNat : Int) ((at_ L i).toNat : Int) = (q.toNat : Int) := by
            rw [hq, UInt8.toNat_xor]; exact xor_u8 _ _ (UInt8.toNat_lt _) (UInt8.toNat_lt _)
          rw [← hq] at hS hb2
          have h8x := (at_ X i).toNat_lt
          have h8l := (at_ L i).toNat_lt
          generalize (at_ X i).toNat = xn at *
          generalize (at_ L i).toNat = ln at *
          have HBn := Lib.hid hS
          have Hbn := Lib.hid hb2
          clear hS hb2 hBi hbi hq
          go_wp2_with fail
          refine wp_region_G grows (by kernel_rfl) ?_
          have hclq : ∀ {p : Addr} {v : Value}, wr.cell? p = some v → ∀ x : Later grows wr.drew, x.to.cell? p = some v := fun h x => by
            have hb : Below wr.drew.heap.size wr.drew x.to := x.grown
            rw [hb.cell (p := _) (World.block_lt_of_cell? wr _ h)]
            exact h
          have q1 := hclq hcx1
          have q2 := hclq hcl1
          clear hclq
          refine segG (by kernel_rfl) (fun _ _ _ _ _ h => h) [0, 1, 2, 3, 4, 5] [_, _, _, _, _, _] 7 rfl rfl (by kernel_rfl) ?_
          repeat (go_big_quiet_step (fail))
          refine wpQuiet_nil ?_
          refine segG (by kernel_rfl) (fun _ _ _ _ _ h => h) [6, 7, 8, 9, 10, 11] [_, _, _, _, _, _] 1 rfl rfl (by kernel_rfl) ?_
          repeat (go_big_quiet_step (fail))
          refine wpQuiet_nil ?_
          refine lateG 12 0 rfl (by kernel_rfl) (by kernel_rfl) rfl ?_
          clear q1 q2
          go_wp2
          refine ⟨trivial, ?_⟩
          refine wpAnyG_done (by kernel_rfl) ?_
          go_wp2
          exact ⟨⟨i + 1, by omega, by go_num, HBn.out, ⟨Hbn.out.os, Hbn.out.tape, Hbn.out.output, Hbn.out.size, Hbn.out.block⟩⟩, by simp [intOf]; omega⟩
        · have hi16 : i = 16 := by omega
          have hBl : Blk wr gx 5 (u8s (addK X L) ++ restx) := by
            have h := hBi
            rw [show mixK X L i = addK X L from by rw [hi16]; exact mixK_end X L HX16.out] at h
            exact h
          have hO4 : OwnB wr w1.heap.size 5 (.slice Bo (16 * j) co) (Cbc.opK key iv b j) := HOo.out.keep fun q hq => hbi.block q (HOo.out.block_lt hq).2
          have hol := Cbc.opK_len key iv b j
          have hal : (addK X L).length = 16 := addK_len _ _
          obtain ⟨v5, w5, a1, a2, a3, a4⟩ := app_at (P := Try.prog) 22 22 Try.und22 Try.info5 hO4 (Nat.le_trans HBW.out.size hbi.size) 16 cx hal.symm (Rd.of_row hBl) (by rw [hal, hol]; omega)
          have a2' : OwnB w5 w1.heap.size 5 v5 (Cbc.opK key iv b (j + 1)) := by
            rw [HXe.out, HLe.out] at a2
            exact a2
          have hB5 : Below w1.heap.size w1 w5 := (HBW.out.trans (hbi.mono HBW.out.size)).grown a3 (Nat.le_trans HBW.out.size hbi.size) (fun q e => (HOo.out.block_lt e).1)
          have hR5 : Rd w w.heap.size (some ⟨bb, oo + 16 * j, none⟩) (Cbc.prev iv b (j + 1)) := rd_blk j HRA.out
          obtain ⟨B5, c5, hv5, -⟩ := a2'.rd
          rw [Cbc.opK_len] at hv5
          subst hv5
          have HO5 := Lib.hid a2'
          have HR5 := Lib.hid hR5
          have HB5 := Lib.hid hB5
          have hd3 : decide ((i : Int) < 16) = false := by simp; omega
          clear a2 a2' a3 a4 hR5 hB5 hO4 hBl hol hal hBi hbi hi16
          go_wp2_with (at_builtin; refine wpList_append_run rfl (.tmp 64) (.tmp 65) _ rfl rfl rfl a1 ?_)
          exact ⟨⟨j + 1, some ⟨bb, oo + 16 * j, none⟩, bc - 16 * j, by omega, congrArg (Value.int .i64) (by omega), rfl, HO5.out, HR5.out, HB5.out⟩, by simp [intOf]; omega⟩
    · have hjE : j = N := by omega
      have HjE := Lib.hid hjE
      obtain ⟨o, ho⟩ : ∃ o, o = Cbc.opK key iv b j := ⟨_, rfl⟩
      have hol : o.length = 16 * j := by rw [ho, Cbc.opK_len]
      have hO := HOo.out
      rw [← ho] at hO
      obtain ⟨go, cq, resto, hq, -, hcq, hBo⟩ := hO.blk (by rw [hol]; omega)
      injection hq with hq1 hq2 hq3
      subst hq1
      subst hq3
      rw [hol] at hcq
      obtain ⟨Q, hQ⟩ : ∃ Q, 16 * j = Q + 1 := ⟨16 * j - 1, by omega⟩
      have hQi : 16 * (j : Int) - 1 = (Q : Int) := by omega
      have hcell : ∀ i, i < 16 * j → wr.cell? ⟨go, i, none⟩ = some (.int .u8 ((at_ o i).toNat : Int)) := fun i hi => by
        rw [hBo.cell, List.getElem?_append_left (by rw [u8s_len, hol]; exact hi), u8s_get, at_get' o i (by rw [hol]; exact hi)]
        rfl
      have hcQ := hcell Q (by omega)
      have hend : (at_ o Q).toNat = Cbc.endN o := by rw [Cbc.endN, hol, hQ]; rfl
      rw [hend] at hcQ
      have he8 : Cbc.endN o < 256 := by rw [← hend]; exact UInt8.toNat_lt _
      obtain ⟨n, hn⟩ : ∃ n, n = Cbc.endN o := ⟨_, rfl⟩
      rw [← hn] at hcQ he8
      have hd2 : decide (16 * (j : Int) < 16 * (N : Int)) = false := by simp; omega
      have HO := Lib.hid ho
      have HL := Lib.hid hol
      have HBo := Lib.hid hBo
      have Hcell := Lib.hid hcell
      have Hn := Lib.hid hn
      have HQ := Lib.hid hQ
      have hQl : Q < 16 * j := by omega
      have hBf : Below w.heap.size w wr := Hb1.out.trans (HBW.out.mono Hb1.out.size)
      have HBf := Lib.hid hBf
      have HbadR : Hid (Cbc.unpad o = none → E = 12 ∧ R = []) := Lib.hid fun hu => by
        have h1 := HE.out
        have h2 := HR.out
        rw [← hjE, ← ho, hu] at h1 h2
        exact ⟨by rw [h1]; rfl, by rw [h2]; rfl⟩
      have HokR : Hid (∀ z, Cbc.unpad o = some z → E = 0 ∧ R = z) := Lib.hid fun z hu => by
        have h1 := HE.out
        have h2 := HR.out
        rw [← hjE, ← ho, hu] at h1 h2
        exact ⟨by rw [h1]; rfl, by rw [h2]; rfl⟩
      clear ho hol hO hBo hcell hend hn hq2 hjE hQ hBf HE HR
      by_cases hr : 1 ≤ n ∧ n ≤ 16
      · obtain ⟨hr1, hr2⟩ := hr
        have hd3 : decide ((n : Int) < 1) = false := by simp; omega
        have hd4 : decide (16 < (n : Int)) = false := by simp; omega
        go_wp2
        obtain ⟨wQ, rfl⟩ : ∃ wQ, wQ = wr := ⟨_, rfl⟩
        go_loopw [16] (fun v w' => ∃ i : Nat, 1 ≤ i ∧ i ≤ n + 1 ∧ v = .int .i64 (i : Int) ∧ (∀ q, q + 1 < i → (at_ o (o.length - 1 - q)).toNat = n) ∧ w' = wQ) (fun v _ => 20 - (intOf v).toNat)
        case atStart => exact ⟨1, by omega, by omega, rfl, fun q hq => by omega, rfl⟩
        case round =>
          obtain ⟨i, hi1, hi2, rfl, hall, rfl⟩ := hrel
          have Hall := Lib.hid hall
          clear hall
          by_cases hin : i ≤ n
          · have hcI := Hcell.out (16 * j - i) (by omega)
            obtain ⟨P, hP⟩ : ∃ P, P = 16 * j - i := ⟨_, rfl⟩
            rw [← hP] at hcI
            have hPi : 16 * (j : Int) - (i : Int) = (P : Int) := by omega
            have hPl : P < 16 * j := by omega
            obtain ⟨y, hy⟩ : ∃ y, y = (at_ o P).toNat := ⟨_, rfl⟩
            have hy8 : y < 256 := by rw [hy]; exact UInt8.toNat_lt _
            rw [← hy] at hcI
            have HY : Hid ((at_ o (o.length - 1 - (i - 1))).toNat = y) := Lib.hid (by rw [hy, HL.out, hP]; congr 2; omega)
            have HP := Lib.hid hP
            clear hy hP
            by_cases hyn : y = n
            · subst hyn
              go_wp2
              refine ⟨⟨i + 1, by omega, by omega, by go_num, fun q hq => ?_, trivial⟩, by simp [intOf]; omega⟩
              by_cases hqi : q + 1 < i
              · exact Hall.out q hqi
              · have h := HY.out
                rw [show i - 1 = q from by omega] at h
                exact h
            · have hyd : ((y : Int) != (n : Int)) = true := by simp; omega
              have HU : Hid (Cbc.unpad o = none) := Lib.hid (by
                rw [Cbc.unpad, if_neg]
                rintro ⟨_, _, h3⟩
                rw [← Hn.out] at h3
                have := h3 (i - 1) (by omega)
                rw [HY.out] at this
                exact hyn this)
              go_wp2
              go_ret2
              obtain ⟨hE, hR⟩ := HbadR.out HU.out
              exact ⟨_, by rw [hE]; rfl, by rw [hR]; exact ⟨none, 0, rfl, Nat.le_refl _, Rd.nil⟩, HBf.out⟩
          · obtain ⟨H, hH⟩ : ∃ H, H = 16 * j - n := ⟨_, rfl⟩
            have hHi : 16 * (j : Int) - (n : Int) = (H : Int) := by omega
            have hsl : ∀ W, (Instr.sliceAt 22 (.slice (some ⟨go, 0, none⟩) (16 * j) co) none (some (.int .i64 (H : Int))) none).run Try.prog W = .ok (.slice (some ⟨go, 0, none⟩) H co) W := fun W => run_slice_to W go (16 * j) co H _ rfl (by omega)
            have HU : Hid (Cbc.unpad o = some (o.take (o.length - n))) := Lib.hid (by
              have hn := Hn.out
              rw [Cbc.unpad, ← hn, if_pos ⟨hr1, hr2, fun q hq => Hall.out q (by omega)⟩])
            have HO2 : Hid (Out wr (.slice (some ⟨go, 0, none⟩) H co) (o.take (o.length - n))) := Lib.hid (by
              have hl : (o.take (o.length - n)).length = H := by rw [List.length_take, HL.out, hH]; omega
              exact ⟨some ⟨go, 0, none⟩, co, by rw [hl], by rw [hl]; omega, (Rd.of_row HBo.out).take _⟩)
            clear hH
            go_wp2
            go_ret2
            obtain ⟨hE, hR⟩ := HokR.out _ HU.out
            exact ⟨_, by rw [hE]; rfl, by rw [hR]; exact HO2.out, HBf.out⟩
      · have HU : Hid (Cbc.unpad o = none) := Lib.hid (by
          rw [Cbc.unpad, if_neg]
          rintro ⟨h1, h2, _⟩
          rw [← Hn.out] at h1 h2
          exact hr ⟨h1, h2⟩)
        by_cases hn0 : n < 1
        · have hd3 : decide ((n : Int) < 1) = true := by simp; omega
          clear hr
          go_wp2
          go_ret2
          obtain ⟨hE, hR⟩ := HbadR.out HU.out
          exact ⟨_, by rw [hE]; rfl, by rw [hR]; exact ⟨none, 0, rfl, Nat.le_refl _, Rd.nil⟩, HBf.out⟩
        · have hd3 : decide ((n : Int) < 1) = false := by simp; omega
          have hd4 : decide (16 < (n : Int)) = true := by simp; omega
          clear hr
          go_wp2
          go_ret2
          obtain ⟨hE, hR⟩ := HbadR.out HU.out
          exact ⟨_, by rw [hE]; rfl, by rw [hR]; exact ⟨none, 0, rfl, Nat.le_refl _, Rd.nil⟩, HBf.out⟩
end Go.Proofs.Ytannplgookgipaa
