/-
  The reference's Wrap of layer 8: its contract. The reference's Wrap of layer 8: with a key and bytes that are valid. The reference's Unwrap of layer 8: refusals; two appends side by side. The reference's Unwrap of layer 8: with a key and bytes that are valid. The reference of layer 8: Wrap and Unwrap for any key and bytes.
-/
import Derived.Test.YtbcagjndbfpecaaDoorAesRefC
import Derived.Test.YtbcagjndbfpecaaDoorWrapC
import Derived.Test.YtbcagjndbfpecaaDoorApp2
import Derived.Test.YtbcagjndbfpecaaDoorReg3
import Derived.RegionTactic
import Derived.BigRegion
import Derived.Deep.CutRange
namespace Go.Gar.Wrp
/-- A part of a row, k bytes of it laid anew. -/
def put8 (r z : List UInt8) (o k : Nat) : List UInt8 := r.take o ++ z.take k ++ r.drop (o + k)
theorem put8_0 (r z : List UInt8) (o : Nat) : put8 r z o 0 = r := by simp [put8]
theorem put8_end (r z : List UInt8) (i : Nat) (hz : z.length = 8) : put8 r z (8 * i) 8 = p8 r i z := by
  rw [put8, p8, List.take_of_length_le (Nat.le_of_eq hz)]
theorem put8_len (r z : List UInt8) (o k : Nat) (hk : k ≤ z.length) (h : o + k ≤ r.length) : (put8 r z o k).length = r.length := by
  rw [put8, List.length_append, List.length_append, List.length_take, List.length_take, List.length_drop]; omega
theorem put8_set (r z : List UInt8) (o k : Nat) (c : UInt8) (hc : z[k]? = some c) (h : o + k < r.length) : (put8 r z o k).set (o + k) c = put8 r z o (k + 1) := by
  have hk : k < z.length := (List.getElem?_eq_some_iff.1 hc).1
  have e1 : (r.take o ++ z.take k).length = o + k := by rw [List.length_append, List.length_take, List.length_take]; omega
  rw [put8, put8, List.set_append_right _ _ (by omega), e1, Nat.sub_self, List.drop_eq_getElem_cons h, List.set_cons_zero, List.take_succ_eq_append_getElem hk, (List.getElem?_eq_some_iff.1 hc).2, ← Nat.add_assoc]
  simp
theorem xt_take (z : List UInt8) (t : Nat) : (xt z t).take 8 = xt (z.take 8) t := by
  have e : Go.Gar.Aes.at_ (z.take 8) 7 = Go.Gar.Aes.at_ z 7 := by
    rw [Go.Gar.Aes.at_, Go.Gar.Aes.at_, List.getD_eq_getElem?_getD, List.getD_eq_getElem?_getD, List.getElem?_take_of_lt (by omega)]
  rw [xt, xt, e, List.take_set]
theorem xt_drop (z : List UInt8) (t : Nat) : (xt z t).drop 8 = z.drop 8 := by
  rw [xt, List.drop_set]
  simp
end Go.Gar.Wrp
namespace Go.Gar
open Go.RowKit
/-- A cut of a slice, its run known, in a segment. -/
theorem wpQuiet_cut {P : Program} {C : World → Prop} {ops : Array Oper} {Q : Act → Prop} {rest : List Oper} {o : Oper} {a : Act} (t : TypeId) (p : Operand) (lo hi : Option Operand) (ho : o.op = .slice t p lo hi none) {x v : Value} {vl vh : Option Value} (hp : a.eval p = x) (hl : lo.map a.eval = vl) (hh : hi.map a.eval = vh)
    (hrun : ∀ W, (Instr.sliceAt t x vl vh none).run P W = .ok v W) (hw : Region.wanted o (yielded ops a.tmps) = true)
    (h : wpQuiet P ops C Q rest (a.put o.dst v)) : wpQuiet P ops C Q (o :: rest) a := by
  refine wpQuiet_val hw (fun W _ => ?_) h
  unfold execOp
  simp only [ho, hp, hl, hh, Option.map_none, Sem.run_bind, hrun W, Result.andThen_ok, Sem.run_pure]
end Go.Gar
namespace Go.Proofs.YtbcagjndbfpecaaDoor
open Go.RowKit Go.Gar Go.Gar.Aes

theorem run_cut_mid (W : World) (g o len cap l h k c : Nat) (z1 z2 : Int) (h1 : z1 = (l : Int)) (h2 : z2 = (h : Int)) (hk : k = h - l) (hcc : c = cap - l) (hlh : l ≤ h) (hc : h ≤ cap) (hne : l < cap) :
    (Instr.sliceAt 22 (.slice (some ⟨g, o, none⟩) len cap) (some (.int .i64 z1)) (some (.int .i64 z2)) none).run Tryd.prog W = .ok (.slice (some ⟨g, o + l, none⟩) k c) W := by
  subst h1; subst h2; subst hk; subst hcc
  obtain ⟨i, hi, hs⟩ := Option.map_eq_some_iff.1 Tryd.size5
  have e1 : ¬ cap = l := by omega
  have e3 : (h : Int) ≤ (cap : Int) := by omega
  simp [Instr.sliceAt, Instr.slice, Instr.sliceBounds, run_underlying Tryd.und22 W, sizeOf, typeInfo, hi, hs, go_sem, e1, e3, Addr.add_lit]
  intro hh
  omega

theorem refEnc_all (w : World) (gc : Nat) (key : List UInt8) (h : RefOf w gc key) (A : Option Addr) (l : List UInt8) (n c : Nat) (hn : n = 16) (hl : l.length = 16) (hr : Rd w w.heap.size A l) :
    Calls Tryd.prog 17 #[.pointer (some ⟨gc, 0, none⟩), .slice A n c] w fun e w' => ∃ g cp rest, e = .returned (.slice (some ⟨g, 0, none⟩) 16 cp) ∧ 16 ≤ cp ∧ w.heap.size ≤ g ∧ Blk w' g 5 (u8s (encrypt key l) ++ rest) ∧ Below w.heap.size w w' := by
  subst hn
  obtain ⟨gt, gb, gw, cp, h⟩ := h
  refine (refEncrypt_any2 w gc gt gb gw cp _ h (roundsOf key) (by rw [words_len, roundsOf]; omega) (by rw [roundsOf]; omega) A l c hl hr).mono fun e w' he => ?_
  obtain ⟨g, cp', rest, h1, h2, h3, h4, h5⟩ := he
  exact ⟨_, _, _, h1, h5, h2, h3, h4⟩
theorem refDec_all (w : World) (gc : Nat) (key : List UInt8) (h : RefOf w gc key) (A : Option Addr) (l : List UInt8) (n c : Nat) (hn : n = 16) (hl : l.length = 16) (hr : Rd w w.heap.size A l) :
    Calls Tryd.prog 19 #[.pointer (some ⟨gc, 0, none⟩), .slice A n c] w fun e w' => ∃ g cp rest, e = .returned (.slice (some ⟨g, 0, none⟩) 16 cp) ∧ 16 ≤ cp ∧ w.heap.size ≤ g ∧ Blk w' g 5 (u8s (decrypt key l) ++ rest) ∧ Below w.heap.size w w' := by
  subst hn
  obtain ⟨gt, gb, gw, cp, h⟩ := h
  refine (refDecrypt_any2 w gc gt gb gw cp _ h (roundsOf key) (by rw [words_len, roundsOf]; omega) (by rw [roundsOf]; omega) A l c hl hr).mono fun e w' he => ?_
  obtain ⟨g, cp', rest, h1, h2, h3, h4, h5⟩ := he
  exact ⟨_, _, _, h1, h5, h2, h3, h4⟩

set_option maxHeartbeats 1000000 in
set_option maxRecDepth 100000 in
theorem refWrap_no (w : World) (K A : Option Addr) (kl kc bl bc : Nat) (h : ¬ sizeOk kl) (hb : bl ≤ 1048576) :
    Calls Tryd.prog 8 #[.slice K kl kc, .slice A bl bc] w fun e w' => e = .returned (.tuple #[.slice none 0 0, .int .i64 1]) ∧ Below w.heap.size w w' := by
  go_enter Tryd.func8, Tryd.ntmps8
  go_wp2_with fail
  refine (refNew_no w K kl kc h).mono ?_
  rintro e w1 ⟨rfl, rfl⟩
  go_wp2
  go_ret2
  exact ⟨rfl, Below.refl _ _⟩
set_option maxHeartbeats 1000000 in
set_option maxRecDepth 100000 in
theorem refWrap_arg (w : World) (K A : Option Addr) (key : List UInt8) (kl kc bl bc : Nat) (hs : sizeOk key.length) (hkl : kl = key.length) (hkc : kl ≤ kc) (rK : Rd w w.heap.size K key) (hno : ¬ fits bl) (hb : bl ≤ 1048576) :
    Calls Tryd.prog 8 #[.slice K kl kc, .slice A bl bc] w fun e w' => e = .returned (.tuple #[.slice none 0 0, .int .i64 1]) ∧ Below w.heap.size w w' := by
  have HNew := Lib.hid (refNew_at w K key kl kc hs hkl hkc rK)
  obtain ⟨n, hn⟩ : ∃ n, bl / 8 = n := ⟨_, rfl⟩
  have hq : wrap64 ((bl : Int) / 8) = (n : Int) := by rw [wrap64]; omega
  have hnb : (n : Int) ≤ 131072 := by omega
  have HE : Hid (bl / 8 = n) := Lib.hid hn
  have HNo := Lib.hid hno
  clear hs hkl hkc rK hno hn
  by_cases h1 : bl = 8 * n
  · subst h1
    clear hq
    by_cases h2 : n < 2
    · have d2 : (n : Int) < 2 := by omega
      clear h2
      go_enter Tryd.func8, Tryd.ntmps8
      go_wp2_with fail
      refine HNew.out.mono ?_
      rintro e w1 ⟨gc, rfl, _, hb1⟩
      have Hb1 := Lib.hid hb1
      clear hb1
      go_wp2
      go_ret2
      exact ⟨rfl, Hb1.out⟩
    · have h3 : 32 < n := by have := HNo.out; unfold fits at this; omega
      have d2 : ¬ (n : Int) < 2 := by omega
      have d3 : (32 : Int) < (n : Int) := by omega
      clear h2 h3
      go_enter Tryd.func8, Tryd.ntmps8
      go_wp2_with fail
      refine HNew.out.mono ?_
      rintro e w1 ⟨gc, rfl, _, hb1⟩
      have Hb1 := Lib.hid hb1
      clear hb1
      go_wp2
      go_ret2
      exact ⟨rfl, Hb1.out⟩
  · obtain ⟨r, hr⟩ : ∃ r, bl = 8 * n + r := ⟨bl - 8 * n, by have := HE.out; omega⟩
    have hr1 : r < 8 := by have := HE.out; omega
    have d1 : ¬ r = 0 := by omega
    subst hr
    have hqq : (8 * (n : Int) + (r : Int)) / 8 = (n : Int) := by omega
    clear h1 hq
    go_enter Tryd.func8, Tryd.ntmps8
    go_wp2_with fail
    refine HNew.out.mono ?_
    rintro e w1 ⟨gc, rfl, _, hb1⟩
    have Hb1 := Lib.hid hb1
    clear hb1
    go_wp2
    go_ret2
    exact ⟨rfl, Hb1.out⟩
end Go.Proofs.YtbcagjndbfpecaaDoor
namespace Go.Proofs.YtbcagjndbfpecaaDoor
open Go.RowKit Go.Gar Go.Gar.Aes

/-- What a round of the reference finds: the part ahead, the other parts' row. -/
structure Rq (w0 W : World) (gA gO : Nat) (a r : List UInt8) (restA restO : List Value) : Prop where
  a : Blk W gA 5 (u8s a ++ restA)
  r : Blk W gO 5 (u8s r ++ restO)
  ne : gA ≠ gO
  la : w0.heap.size ≤ gA
  lo : w0.heap.size ≤ gO
  b : Below w0.heap.size w0 W
theorem Rq.below {w0 W W' : World} {gA gO : Nat} {a r : List UInt8} {restA restO : List Value} (h : Rq w0 W gA gO a r restA restO) (hb : Below W.heap.size W W') : Rq w0 W' gA gO a r restA restO :=
  ⟨h.a.below hb h.a.lt, h.r.below hb h.r.lt, h.ne, h.la, h.lo, h.b.trans (hb.mono h.b.size)⟩

set_option maxHeartbeats 4000000 in
set_option maxRecDepth 100000 in
theorem refWrap_yes (w : World) (K A : Option Addr) (key b : List UInt8) (kl kc n bc : Nat) (hs : sizeOk key.length) (hkl : kl = key.length) (hkc : kl ≤ kc) (hbl : b.length = 8 * n) (h1 : 2 ≤ n) (h32 : n ≤ 32) (rK : Rd w w.heap.size K key) (rA : Rd w w.heap.size A b) (O : List UInt8) (hO : O = Wrp.wrap_ key b) :
    Calls Tryd.prog 8 #[.slice K kl kc, .slice A (8 * n) bc] w fun e w' => ∃ v, e = .returned (.tuple #[v, .int .i64 0]) ∧ Out w' v O ∧ Below w.heap.size w w' := by
  have HNew := Lib.hid (refNew_at w K key kl kc hs hkl hkc rK)
  have HBL := Lib.hid hbl
  have HA := Lib.hid rA
  obtain ⟨Z, hZ⟩ : ∃ Z, Z = Wrp.fw key n (Wrp.iv8, b) (6 * n) := ⟨_, rfl⟩
  have hOZ : O = Z.1 ++ Z.2 := by rw [hO, Wrp.wrap_, hbl, Nat.mul_div_cancel_left n (by omega : 0 < 8), ← hZ]
  have hok : ∀ k, Wrp.Ok n (Wrp.fw key n (Wrp.iv8, b) k) := fun k => Wrp.fw_ok (by omega) (s := (Wrp.iv8, b)) ⟨rfl, hbl⟩ k
  have HOk := Lib.hid hok
  have HZ := Lib.hid hZ
  have HOZ := Lib.hid hOZ
  have hi1 : (2 : Int) ≤ (n : Int) := by omega
  have hi2 : (n : Int) ≤ 32 := by omega
  clear hs hkl hkc rK hbl rA hO hZ hOZ hok
  go_enter Tryd.func8, Tryd.ntmps8
  go_wp2_with fail
  refine HNew.out.mono ?_
  rintro e w1 ⟨gc, rfl, hC, hb1⟩
  have HC := Lib.hid hC
  have Hb1 := Lib.hid hb1
  have hA2 : Blk (w1.alloc (.cells (#[.int .u8 166, .int .u8 166, .int .u8 166, .int .u8 166, .int .u8 166, .int .u8 166, .int .u8 166, .int .u8 166] : Array Value) 5)) w1.heap.size 5 (u8s Wrp.iv8 ++ []) := Blk.new w1 _ (u8s Wrp.iv8 ++ [])
  have hb2 := below_alloc w1 (.cells (#[.int .u8 166, .int .u8 166, .int .u8 166, .int .u8 166, .int .u8 166, .int .u8 166, .int .u8 166, .int .u8 166] : Array Value) 5)
  have hs2 : (w1.alloc (.cells #[.int .u8 166, .int .u8 166, .int .u8 166, .int .u8 166, .int .u8 166, .int .u8 166, .int .u8 166, .int .u8 166] 5)).heap.size = w1.heap.size + 1 := World.size_alloc _ _
  obtain ⟨w2, hw2⟩ : ∃ w2, w1.alloc (.cells #[.int .u8 166, .int .u8 166, .int .u8 166, .int .u8 166, .int .u8 166, .int .u8 166, .int .u8 166, .int .u8 166] 5) = w2 := ⟨_, rfl⟩
  rw [hw2] at hA2 hb2 hs2
  obtain ⟨v3, w3, e3, hO3, hb3, _⟩ := app_rd (P := Tryd.prog) 22 22 Tryd.und22 Tryd.info5 (own_made w2 w2.heap.size 5 (Nat.le_refl _)) (by rw [World.size_alloc]; omega) bc ((HA.out.below (hb1.trans (hb2.mono hb1.size))).below (below_alloc w2 (.cells #[] 5) |>.mono (Nat.le_trans hb1.size hb2.size))) (by rw [HBL.out]; simp; omega)
  rw [List.nil_append] at hO3
  rw [HBL.out, hs2] at e3
  obtain ⟨gO, cO, restO, hv3, hgO, hcO, hB3⟩ := hO3.blk (by rw [HBL.out]; omega)
  rw [HBL.out] at hv3 hcO
  subst hv3
  have hb23 : Below w2.heap.size w2 w3 := (below_alloc w2 (.cells #[] 5)).trans hb3
  have hQ3 : Rq w1 w3 w1.heap.size gO Wrp.iv8 b [] restO := ⟨hA2.below hb23 hA2.lt, hB3, by omega, Nat.le_refl _, by omega, hb2.trans (hb23.mono hb2.size)⟩
  have HQ3 := Lib.hid hQ3
  have HW2 := Lib.hid hw2
  have HcO := Lib.hid hcO
  clear hC hb1 hA2 hb2 hs2 hw2 hO3 hb3 hgO hcO hB3 hb23 hQ3 HNew HA
  go_wp2_with (at_builtin; (try rw [HW2.out]); refine wpList_append_run rfl (.tmp 42) (.tmp 43) _ rfl rfl rfl e3 ?_)
  clear e3
  obtain ⟨gI, hgI⟩ : ∃ gI, w1.heap.size = gI := ⟨_, rfl⟩
  rw [hgI] at HQ3 ⊢
  clear hgI HW2
  go_loopw [9, 11] (fun av jv w' => ∃ (j gA cA : Nat) (restA : List Value), j ≤ 6 ∧ jv = .int .i64 (j : Int) ∧ av = .slice (some ⟨gA, 0, none⟩) 8 cA ∧ 8 ≤ cA ∧ Rq w1 w' gA gO (Wrp.fw key n (Wrp.iv8, b) (j * n)).1 (Wrp.fw key n (Wrp.iv8, b) (j * n)).2 restA restO) (fun _ jv _ => 6 - (intOf jv).toNat)
  case atStart => exact ⟨0, gI, 8, [], by omega, rfl, rfl, by omega, by rw [Nat.zero_mul]; exact HQ3.out⟩
  case round =>
    obtain ⟨j, gA, cA, restA, hj, rfl, rfl, hcA, hQ⟩ := hrel
    have HQ := Lib.hid hQ
    have HcA := Lib.hid hcA
    clear HQ3 hQ hcA
    by_cases hj6 : j < 6
    · have hj6' : (j : Int) < 6 := by omega
      have hkn : (n : Int) * (j : Int) = ((j * n : Nat) : Int) := by rw [Int.mul_comm]; exact (Int.natCast_mul j n).symm
      have hm : j * n ≤ 160 := by
        have := Nat.mul_le_mul (show j ≤ 5 by omega) h32
        omega
      have HKN : Hid (j * n + n = (j + 1) * n) := Lib.hid (by rw [Nat.add_mul, Nat.one_mul])
      have hmod : ∀ i, i < n → (j * n + i) % n = i := fun i h => by rw [Nat.mul_comm, Nat.mul_add_mod]; exact Nat.mod_eq_of_lt h
      have HMod := Lib.hid hmod
      clear hmod
      obtain ⟨m, hme⟩ : ∃ m, j * n = m := ⟨_, rfl⟩
      rw [hme] at HQ hkn hm HKN HMod
      clear hme
      go_wp2
      go_loopw [9, 12] (fun av iv w' => ∃ (i gA cA : Nat) (restA : List Value), i ≤ n ∧ iv = .int .i64 (i : Int) ∧ av = .slice (some ⟨gA, 0, none⟩) 8 cA ∧ 8 ≤ cA ∧ Rq w1 w' gA gO (Wrp.fw key n (Wrp.iv8, b) (m + i)).1 (Wrp.fw key n (Wrp.iv8, b) (m + i)).2 restA restO) (fun _ iv _ => n - (intOf iv).toNat)
      case atStart => exact ⟨0, gA, cA, restA, by omega, rfl, rfl, HcA.out, HQ.out⟩
      case round =>
        obtain ⟨i, gB, cB, restB, hi, rfl, rfl, hcB, hQ⟩ := hrel
        have hok := HOk.out (m + i)
        clear HQ HcA
        by_cases hin : i < n
        · have hst : Wrp.fw key n (Wrp.iv8, b) (m + (i + 1)) = Wrp.step key n (m + i) (Wrp.fw key n (Wrp.iv8, b) (m + i)) := rfl
          rw [Wrp.step, HMod.out i hin] at hst
          generalize Wrp.fw key n (Wrp.iv8, b) (m + i) = st at hQ hok hst
          obtain ⟨x, r⟩ := st
          obtain ⟨hx, hrl⟩ := hok
          simp only at hQ hx hrl hst
          obtain ⟨y, hy⟩ : ∃ y, Wrp.b8 r i = y := ⟨_, rfl⟩
          have hyl : y.length = 8 := by rw [← hy]; exact Wrp.b8_len _ _ (by omega)
          obtain ⟨z, hz⟩ : ∃ z, encrypt key (x ++ y) = z := ⟨_, rfl⟩
          have hzl : z.length = 16 := by rw [← hz]; exact encrypt_len _ _
          rw [hy, hz] at hst
          have HST := Lib.hid hst
          have HX := Lib.hid hx
          have HRl := Lib.hid hrl
          have HY := Lib.hid hyl
          have HYE := Lib.hid hy
          have HZE := Lib.hid hz
          have HZl := Lib.hid hzl
          have HcB := Lib.hid hcB
          have hi' : (i : Int) < (n : Int) := by omega
          have hcO1 : 8 * (i : Int) + 8 ≤ (cO : Int) := by have := HcO.out; omega
          have HQ0 := Lib.hid (hQ.below (Below.refl _ wr).drew)
          clear hst hx hrl hy hyl hz hzl hcB hQ
          go_wp2_with fail
          refine wp_region_G (belowG wr.heap.size) (by kernel_rfl) ?_
          have hW0 : wr.drew.heap.size = wr.heap.size := rfl
          obtain ⟨B, hB⟩ : ∃ B, wr.heap.size = B := ⟨_, rfl⟩
          rw [hB] at hW0 ⊢
          have HW0 := Lib.hid hW0
          clear hW0 hB
          generalize wr.drew = W0 at *
          have hbA : Below B W0 (W0.alloc (.cells #[] 5)) := (below_alloc W0 _).mono (by rw [HW0.out]; exact Nat.le_refl _)
          have hyr : ∀ u c, y[u]? = some c → r[8 * i + u]? = some c := fun u c hu => by
            rw [← HYE.out, Wrp.b8, List.getElem?_take] at hu
            split at hu
            · rw [List.getElem?_drop] at hu; exact hu
            · cases hu
          have hRy : Rd W0 W0.heap.size (some ⟨gO, 8 * i, none⟩) y := .inr ⟨gO, 8 * i, rfl, HQ0.out.r.lt, fun u c hu => row_get HQ0.out.r (hyr u c hu)⟩
          obtain ⟨v1, w4, e1, ho1, hb1, _⟩ := app_rd (P := Tryd.prog) 22 22 Tryd.und22 Tryd.info5 (own_made W0 B 5 (by rw [HW0.out]; exact Nat.le_refl _)) (by rw [World.size_alloc, HW0.out]; omega) cB ((Rd.of_row HQ0.out.a).below (below_alloc W0 (.cells #[] 5))) (by rw [HX.out]; simp)
          rw [List.nil_append] at ho1
          rw [HX.out] at e1
          have hbB4 : Below B W0 w4 := hbA.trans hb1
          have hle4 : B ≤ w4.heap.size := by have := hbB4.size; rw [HW0.out] at this; exact this
          obtain ⟨v2, w5, e2, ho2, hb2, _⟩ := app_rd (P := Tryd.prog) 22 22 Tryd.und22 Tryd.info5 ho1 hle4 (cO - 8 * i) (hRy.below (by rw [HW0.out]; exact hbB4)) (by rw [HX.out, HY.out]; omega)
          rw [HY.out] at e2
          have hbB5 : Below B W0 w5 := hbB4.trans hb2
          have hle5 : B ≤ w5.heap.size := by have := hbB5.size; rw [HW0.out] at this; exact this
          obtain ⟨A2, c2, rfl, hr2⟩ := ho2.rd
          rw [show (x ++ y).length = 16 from by rw [List.length_append, HX.out, HY.out]] at e2
          have HbA := Lib.hid hbA
          have Hb1' := Lib.hid hb1
          have Hb2' := Lib.hid hb2
          have HR2 := Lib.hid hr2
          have HQ5 := Lib.hid (HQ0.out.below (by rw [HW0.out]; exact hbB5))
          have Hle5 := Lib.hid hle5
          clear hbA hyr hRy ho1 hb1 hbB4 hle4 ho2 hb2 hbB5 hle5 hr2 HQ0
          have hcut : ∀ W, (Instr.sliceAt 22 (.slice (some ⟨gO, 0, none⟩) (8 * n) cO) (some (.int .i64 (8 * (i : Int)))) (some (.int .i64 (8 * (i : Int) + 8))) none).run Tryd.prog W = .ok (.slice (some ⟨gO, 8 * i, none⟩) 8 (cO - 8 * i)) W := fun W => by
            have h := run_cut_mid W gO 0 (8 * n) cO (8 * i) (8 * i + 8) 8 (cO - 8 * i) (8 * (i : Int)) (8 * (i : Int) + 8) (by omega) (by omega) (by omega) rfl (by omega) (by omega) (by omega)
            rw [Nat.zero_add] at h
            exact h
          refine segG (by kernel_rfl) (fun _ _ _ _ _ h => h) [0, 2, 4, 5, 6, 7, 8, 9, 10] [_, _, _, _, _, _, _, _, _] 5 rfl rfl (by kernel_rfl) ?_
          repeat (go_big_quiet_step (fail))
          clear hcut
          refine wpQuiet_nil ?_
          refine oneG 1 4 rfl (by kernel_rfl) rfl ?_
          go_wp2
          refine ⟨HbA.out, ?_⟩
          refine oneG 3 3 rfl (by kernel_rfl) rfl ?_
          go_wp2_with (at_builtin; refine wpList_append_run rfl (.tmp 55) (.tmp 56) _ rfl rfl rfl e1 ?_)
          refine ⟨Hb1'.out, ?_⟩
          simp only [Act.put, List.setIfInBounds_toArray, List.set]
          refine oneG 11 2 rfl (by kernel_rfl) rfl ?_
          go_wp2_with (at_builtin; refine wpList_append_run rfl (.tmp 57) (.tmp 64) _ rfl rfl rfl e2 ?_)
          refine ⟨Hb2'.out, ?_⟩
          simp only [Act.put, List.setIfInBounds_toArray, List.set]
          clear e1 e2 HbA Hb1' Hb2'
          refine oneG 12 1 rfl (by kernel_rfl) rfl ?_
          go_wp2_with fail
          refine (refEnc_all w5 gc key (HC.out.below HQ5.out.b) A2 (x ++ y) 16 c2 rfl (by rw [List.length_append, HX.out, HY.out]) HR2.out).mono ?_
          rintro e w6 ⟨gX, cX, restX, rfl, hcX, hgX, hBX, hb6⟩
          rw [HZE.out] at hBX
          have HQ6 := Lib.hid (HQ5.out.below hb6)
          have HBX := Lib.hid hBX
          have HcX := Lib.hid hcX
          have HgX : Hid (gO < gX ∧ gB < gX ∧ w1.heap.size ≤ gX) := Lib.hid (by have h1 := HQ5.out.r.lt; have h2 := HQ5.out.a.lt; have h3 := HQ5.out.b.size; omega)
          clear hBX hcX hgX HQ5 HR2
          go_wp2
          refine ⟨hb6.mono Hle5.out, ?_⟩
          clear hb6
          refine segG (by kernel_rfl) (fun _ _ _ _ _ h => h) [13] [_] 0 rfl rfl (by kernel_rfl) ?_
          repeat (go_big_quiet_step (fail))
          refine wpQuiet_nil ?_
          refine wpAnyG_done (by kernel_rfl) ?_
          obtain ⟨t, ht⟩ : ∃ t, m + i + 1 = t := ⟨_, rfl⟩
          have hte : (m : Int) + (i : Int) + 1 = (t : Int) := by omega
          have htb : t ≤ 192 := by omega
          obtain ⟨q, hq⟩ : ∃ q : UInt8, q = at_ z 7 ^^^ UInt8.ofNat t := ⟨_, rfl⟩
          have hxq : bits .xor .u8 ((at_ z 7).toNat : Int) (t : Int) = (q.toNat : Int) := by
            rw [hq, ← xor_byte]
            congr 1
            simp
            omega
          have h8z := (at_ z 7).toNat_lt
          have hc7 := row_get HBX.out (i := 7) (c := at_ z 7) (at_get (by rw [HZl.out]; omega))
          have hf7 := HBX.out.frozen 7
          have hS := HBX.out.set_ 7 (.int .u8 (q.toNat : Int))
          rw [u8s_row_set _ _ _ _ (by rw [HZl.out]; omega)] at hS
          have hX7 : z.set 7 q = Wrp.xt z t := by rw [hq, Wrp.xt]
          rw [hX7] at hS
          have hQ7 : Rq w1 (w6.setCell ⟨gX, 7, none⟩ (.int .u8 (q.toNat : Int))) gB gO x r restB restO :=
            ⟨HQ6.out.a.far (by have := HgX.out; show gB ≠ gX; omega) _, HQ6.out.r.far (by have := HgX.out; show gO ≠ gX; omega) _, HQ6.out.ne, HQ6.out.la, HQ6.out.lo, HQ6.out.b.setCell HgX.out.2.2 _⟩
          have HB7 := Lib.hid hS
          have HQ7 := Lib.hid hQ7
          have HXl : Hid ((Wrp.xt z t).length = 16) := Lib.hid (by rw [Wrp.xt_len]; exact HZl.out)
          have HXd : Hid ((Wrp.xt z t).drop 8 = z.drop 8) := Lib.hid (Wrp.xt_drop z t)
          have HXt : Hid ((Wrp.xt z t).take 8 = Wrp.xt (z.take 8) t) := Lib.hid (Wrp.xt_take z t)
          rw [ht] at HST
          have hcX8 : (16 : Int) ≤ (cX : Int) := by have := HcX.out; omega
          clear hX7 hS hQ7 HQ6 HBX ht hq
          generalize Wrp.xt z t = X at HB7 HXl HXd HXt
          generalize (at_ z 7).toNat = zn at *
          go_wp2
          generalize w6.setCell ⟨gX, 7, none⟩ (.int .u8 (q.toNat : Int)) = w7 at HB7 HQ7 ⊢
          clear hc7 hf7 hxq h8z
          obtain ⟨zd, hzd⟩ : ∃ zd, z.drop 8 = zd := ⟨_, rfl⟩
          have hzdl : zd.length = 8 := by rw [← hzd]; exact Wrp.half2 z HZl.out
          rw [hzd] at HST HXd
          have HZd := Lib.hid hzdl
          clear hzd hzdl
          go_loopw [15] (fun kv w' => ∃ k : Nat, k ≤ 8 ∧ kv = .int .i64 (k : Int) ∧ Blk w' gX 5 (u8s X ++ restX) ∧ Blk w' gO 5 (u8s (Wrp.put8 r zd (8 * i) k) ++ restO) ∧ Below w1.heap.size w1 w') (fun kv _ => 8 - (intOf kv).toNat)
          case atStart => exact ⟨0, by omega, rfl, HB7.out, by rw [Wrp.put8_0]; exact HQ7.out.r, HQ7.out.b⟩
          case round =>
            obtain ⟨k, hk, rfl, hBx, hBo, hbb⟩ := hrel
            have HLo := Lib.hid HQ7.out.lo
            clear HB7 HQ7
            by_cases hk8 : k < 8
            · have hk8' : (k : Int) < 8 := by omega
              have hki : 8 * i + k < 8 * n := by omega
              have hki' : 8 * (i : Int) + (k : Int) < 8 * (n : Int) := by omega
              have hzk : zd[k]? = some (at_ zd k) := at_get (by rw [HZd.out]; exact hk8)
              have hcx := row_get hBx (i := 8 + k) (c := at_ zd k) (by rw [← List.getElem?_drop, HXd.out]; exact hzk)
              have hpl := Wrp.put8_len r zd (8 * i) k (by rw [HZd.out]; exact hk) (by rw [HRl.out]; omega)
              obtain ⟨v0, hco⟩ : ∃ v0, wr.cell? ⟨gO, 8 * i + k, none⟩ = some v0 := ⟨_, by
                rw [hBo.cell, List.getElem?_append_left (by rw [u8s_len, hpl, HRl.out]; exact hki), List.getElem?_eq_getElem (by rw [u8s_len, hpl, HRl.out]; exact hki)]⟩
              have hfo := hBo.frozen (8 * i + k)
              have hS := hBo.set_ (8 * i + k) (.int .u8 ((at_ zd k).toNat : Int))
              rw [u8s_row_set _ _ _ _ (by rw [hpl, HRl.out]; exact hki), Wrp.put8_set r zd (8 * i) k _ hzk (by rw [HRl.out]; exact hki)] at hS
              have hX := hBx.far (p := ⟨gO, 8 * i + k, none⟩) (by have := HgX.out; show gX ≠ gO; omega) (.int .u8 ((at_ zd k).toNat : Int))
              have hbn := hbb.setCell (p := ⟨gO, 8 * i + k, none⟩) HLo.out (.int .u8 ((at_ zd k).toNat : Int))
              have HS := Lib.hid hS
              have HX8 := Lib.hid hX
              have Hbn := Lib.hid hbn
              have h8 := (at_ zd k).toNat_lt
              clear hBx hBo hbb hzk hpl hS hX hbn
              generalize (at_ zd k).toNat = qn at *
              go_wp2
              exact ⟨⟨k + 1, by omega, by go_num, HX8.out, HS.out, Hbn.out⟩, by simp [intOf]; omega⟩
            · obtain rfl : k = 8 := by omega
              rw [Wrp.put8_end r zd i HZd.out] at hBo
              have hbx : Blk wr gX 5 (u8s (X.take 8) ++ (u8s (X.drop 8) ++ restX)) := by
                rw [← List.append_assoc, ← u8s_app, List.take_append_drop]; exact hBx
              rw [HXt.out] at hbx
              have HQn := Lib.hid (show Rq w1 wr gX gO (Wrp.fw key n (Wrp.iv8, b) (m + (i + 1))).1 (Wrp.fw key n (Wrp.iv8, b) (m + (i + 1))).2 (u8s (X.drop 8) ++ restX) restO from by
                rw [HST.out]
                exact ⟨hbx, hBo, by have := HgX.out; omega, HgX.out.2.2, HLo.out, hbb⟩)
              have HcX8 : Hid (8 ≤ cX) := Lib.hid (by have := HcX.out; omega)
              clear hBx hBo hbb hbx
              go_wp2
              exact ⟨⟨i + 1, gX, cX, _, by omega, by go_num, rfl, HcX8.out, HQn.out⟩, by simp [intOf]; omega⟩
        · obtain rfl : i = n := by omega
          have HQn := Lib.hid hQ
          have HcB := Lib.hid hcB
          clear hQ hcB
          go_wp2
          exact ⟨⟨j + 1, gB, cB, restB, by omega, by go_num, rfl, HcB.out, by rw [← HKN.out]; exact HQn.out⟩, by simp [intOf]; omega⟩
    · obtain rfl : j = 6 := by omega
      rw [← HZ.out] at HQ
      have hZo := HOk.out (6 * n)
      rw [← HZ.out] at hZo
      obtain ⟨hZ1, hZ2⟩ := hZo
      have hb0 := below_alloc wr (.cells #[] 5)
      obtain ⟨v1, w4, e1, ho1, hb1, _⟩ := app_rd (P := Tryd.prog) 22 22 Tryd.und22 Tryd.info5 (own_made wr wr.heap.size 5 (Nat.le_refl _)) (by rw [World.size_alloc]; omega) cA ((Rd.of_row HQ.out.a).below hb0) (by rw [hZ1]; simp)
      rw [List.nil_append] at ho1
      rw [hZ1] at e1
      have hb4 := hb0.trans hb1
      obtain ⟨v2, w5, e2, ho2, hb2, _⟩ := app_rd (P := Tryd.prog) 22 22 Tryd.und22 Tryd.info5 ho1 hb4.size cO ((Rd.of_row HQ.out.r).below hb4) (by rw [hZ1, hZ2]; omega)
      rw [hZ2] at e2
      obtain ⟨g9, c9, rest9, rfl, _, hc9, hB9⟩ := ho2.blk (by rw [List.length_append, hZ1]; omega)
      rw [← HOZ.out] at e2 hc9 hB9
      have HOut : Hid (Out w5 (.slice (some ⟨g9, 0, none⟩) O.length c9) O) := Lib.hid ⟨_, c9, rfl, hc9, Rd.of_row hB9⟩
      have Hb9 := Lib.hid (Hb1.out.trans ((HQ.out.b.trans ((hb4.trans hb2).mono HQ.out.b.size)).mono Hb1.out.size))
      clear hb0 ho1 hb1 hb4 ho2 hb2 hc9 hB9 hZ1 hZ2
      go_wp2_with (at_builtin; first | refine wpList_append_run rfl (.tmp 98) (.tmp 99) _ rfl rfl rfl e1 ?_ | refine wpList_append_run rfl (.tmp 100) (.tmp 101) _ rfl rfl rfl e2 ?_)
      go_ret2
      exact ⟨_, rfl, HOut.out, Hb9.out⟩
end Go.Proofs.YtbcagjndbfpecaaDoor
namespace Go.Proofs.YtbcagjndbfpecaaDoor
open Go.RowKit Go.Gar Go.Gar.Aes

/-- What two appends onto two rows of one's own leave. -/
structure TwoA (B : Nat) (W W2 : World) (v1 v2 : Value) (x y : List UInt8) (n1 n2 : Nat) : Prop where
  ex : ∃ gA cA rA gO cO rO, v1 = .slice (some ⟨gA, 0, none⟩) n1 cA ∧ v2 = .slice (some ⟨gO, 0, none⟩) n2 cO ∧ n1 ≤ cA ∧ n2 ≤ cO ∧ gA ≠ gO ∧ B ≤ gA ∧ B ≤ gO ∧ Blk W2 gA 5 (u8s x ++ rA) ∧ Blk W2 gO 5 (u8s y ++ rO)
  b : Below B W W2
theorem two_apps (W : World) (B g1 g2 : Nat) (h1 : OwnB W B 5 (.slice (some ⟨g1, 0, none⟩) 0 0) []) (h2 : OwnB W B 5 (.slice (some ⟨g2, 0, none⟩) 0 0) []) (hne : g1 ≠ g2) (hB : B ≤ W.heap.size) (A1 A2 : Option Addr) (x y : List UInt8) (n1 n2 c1 c2 : Nat) (hx : n1 = x.length) (hy : n2 = y.length) (h01 : 0 < n1) (h02 : 0 < n2) (hl1 : n1 ≤ 1048576) (hl2 : n2 ≤ 1048576) (r1 : Rd W B A1 x) (r2 : Rd W B A2 y) :
    ∃ v1 W1 v2 W2, (Builtin.append_ #[22, 22] 22 #[.slice (some ⟨g1, 0, none⟩) 0 0, .slice A1 n1 c1]).run Tryd.prog W = .ok v1 W1 ∧ (Builtin.append_ #[22, 22] 22 #[.slice (some ⟨g2, 0, none⟩) 0 0, .slice A2 n2 c2]).run Tryd.prog W1 = .ok v2 W2 ∧ Below B W W1 ∧ Below B W1 W2 ∧ TwoA B W W2 v1 v2 x y n1 n2 := by
  have hlt2 := (h2.block_lt (g := g2) rfl).2
  obtain ⟨v1, W1, e1, ho1, hg1, hw1⟩ := app_at (P := Tryd.prog) 22 22 Tryd.und22 Tryd.info5 h1 hB n1 c1 hx r1 (by rw [← hx]; simp; omega)
  rw [List.nil_append] at ho1
  have hb1 : Below B W W1 := h1.below hg1 hB
  have h2' : OwnB W1 B 5 (.slice (some ⟨g2, 0, none⟩) 0 0) [] := h2.far hg1 (fun g e e2 => by have h3 := Option.some.inj e; have h4 := Option.some.inj e2; exact hne (h4.trans h3.symm))
  obtain ⟨v2, W2, e2, ho2, hg2, hw2⟩ := app_at (P := Tryd.prog) 22 22 Tryd.und22 Tryd.info5 h2' (Nat.le_trans hB hb1.size) n2 c2 hy (r2.below hb1) (by rw [← hy]; simp; omega)
  rw [List.nil_append] at ho2
  have hb2 : Below B W1 W2 := h2'.below hg2 (Nat.le_trans hB hb1.size)
  obtain ⟨gA, cA, rA, hv1, hgA, hcA, hBA⟩ := ho1.blk (by omega)
  obtain ⟨gO, cO, rO, hv2, hgO, hcO, hBO⟩ := ho2.blk (by omega)
  have hA1 : gA = g1 ∨ gA = W.heap.size := by
    rcases hw1 with h | h
    · rw [hv1] at h; exact .inl (Option.some.inj h)
    · rw [hv1] at h; exact .inr (Option.some.inj h)
  have hA2 : gA ≠ g2 := by omega
  have hO1 : gO = g2 ∨ gO = W1.heap.size := by
    rcases hw2 with h | h
    · rw [hv2] at h; exact .inl (Option.some.inj h)
    · rw [hv2] at h; exact .inr (Option.some.inj h)
  have hBA2 := hBA.grown hg2 (fun e => hA2 (Option.some.inj e))
  have hltA := hBA.lt
  exact ⟨v1, W1, v2, W2, e1, e2, hb1, hb2, ⟨gA, cA, rA, gO, cO, rO, by rw [hv1, hx], by rw [hv2, hy], by omega, by omega, by omega, hgA, hgO, hBA2, hBO⟩, hb1.trans hb2⟩
theorem two_apps' (W : World) (B g1 : Nat) (h1 : OwnB W B 5 (.slice (some ⟨g1, 0, none⟩) 0 0) []) (hB : B ≤ W.heap.size) (A1 A2 : Option Addr) (x y : List UInt8) (n1 n2 c1 c2 : Nat) (hx : n1 = x.length) (hy : n2 = y.length) (h01 : 0 < n1) (h02 : 0 < n2) (hl1 : n1 ≤ 1048576) (hl2 : n2 ≤ 1048576) (r1 : Rd W B A1 x) (r2 : Rd W B A2 y) :
    ∃ v1 W1 v2 W2, (Builtin.append_ #[22, 22] 22 #[.slice (some ⟨g1, 0, none⟩) 0 0, .slice A1 n1 c1]).run Tryd.prog W = .ok v1 W1 ∧ (Builtin.append_ #[22, 22] 22 #[.slice (some ⟨W1.heap.size, 0, none⟩) 0 0, .slice A2 n2 c2]).run Tryd.prog (W1.alloc (.cells #[] 5)) = .ok v2 W2 ∧ Below B W W1 ∧ Below B (W1.alloc (.cells #[] 5)) W2 ∧ Below B W1 (W1.alloc (.cells #[] 5)) ∧ TwoA B W W2 v1 v2 x y n1 n2 := by
  obtain ⟨v1, W1, e1, ho1, hg1, hw1⟩ := app_at (P := Tryd.prog) 22 22 Tryd.und22 Tryd.info5 h1 hB n1 c1 hx r1 (by rw [← hx]; simp; omega)
  rw [List.nil_append] at ho1
  have hb1 : Below B W W1 := h1.below hg1 hB
  have hB1 : B ≤ W1.heap.size := Nat.le_trans hB hb1.size
  have hba : Below B W1 (W1.alloc (.cells #[] 5)) := (below_alloc W1 _).mono hB1
  obtain ⟨v2, W2, e2, ho2, hb2, hg2⟩ := app_rd (P := Tryd.prog) 22 22 Tryd.und22 Tryd.info5 (own_made W1 W1.heap.size 5 (Nat.le_refl _)) (by rw [World.size_alloc]; omega) c2 ((r2.below hb1).below hba) (by rw [← hy]; simp; omega)
  rw [List.nil_append] at ho2
  rw [← hy] at e2
  obtain ⟨gA, cA, rA, hv1, hgA, hcA, hBA⟩ := ho1.blk (by omega)
  obtain ⟨gO, cO, rO, hv2, hgO, hcO, hBO⟩ := ho2.blk (by omega)
  have hlt := hBA.lt
  have hBA2 := (hBA.alloc (.cells #[] 5)).below hb2 hlt
  exact ⟨v1, W1, v2, W2, e1, e2, hb1, hb2.mono hB1, hba, ⟨gA, cA, rA, gO, cO, rO, by rw [hv1, hx], by rw [hv2, hy], by omega, by omega, by omega, hgA, by omega, hBA2, hBO⟩, (hb1.trans hba).trans (hb2.mono hB1)⟩

set_option maxHeartbeats 1000000 in
set_option maxRecDepth 100000 in
theorem refUnwrap_no (w : World) (K A : Option Addr) (kl kc bl bc : Nat) (h : ¬ sizeOk kl) (hb : bl ≤ 1048576) :
    Calls Tryd.prog 11 #[.slice K kl kc, .slice A bl bc] w fun e w' => e = .returned (.tuple #[.slice none 0 0, .int .i64 1]) ∧ Below w.heap.size w w' := by
  go_enter Tryd.func11, Tryd.ntmps11
  go_wp2_with fail
  refine (refNew_no w K kl kc h).mono ?_
  rintro e w1 ⟨rfl, rfl⟩
  go_wp2
  go_ret2
  exact ⟨rfl, Below.refl _ _⟩
set_option maxHeartbeats 1000000 in
set_option maxRecDepth 100000 in
theorem refUnwrap_arg (w : World) (K A : Option Addr) (key : List UInt8) (kl kc bl bc : Nat) (hs : sizeOk key.length) (hkl : kl = key.length) (hkc : kl ≤ kc) (rK : Rd w w.heap.size K key) (hno : ¬ (8 ≤ bl ∧ fits (bl - 8))) (hb : bl ≤ 1048576) :
    Calls Tryd.prog 11 #[.slice K kl kc, .slice A bl bc] w fun e w' => e = .returned (.tuple #[.slice none 0 0, .int .i64 1]) ∧ Below w.heap.size w w' := by
  have HNew := Lib.hid (refNew_at w K key kl kc hs hkl hkc rK)
  obtain ⟨p, hp⟩ : ∃ p, bl / 8 = p := ⟨_, rfl⟩
  obtain ⟨r, hr⟩ : ∃ r, bl % 8 = r := ⟨_, rfl⟩
  have hq : (bl : Int) / 8 = (p : Int) := by omega
  have hm : (bl : Int) % 8 = (r : Int) := by omega
  have hpb : (p : Int) ≤ 131072 := by omega
  have HE : Hid (bl / 8 = p ∧ bl % 8 = r) := Lib.hid ⟨hp, hr⟩
  have HNo := Lib.hid hno
  clear hs hkl hkc rK hno hp hr
  by_cases h1 : r = 0
  · subst h1
    by_cases h2 : p < 3
    · have d2 : (p : Int) - 1 < 2 := by omega
      clear h2
      go_enter Tryd.func11, Tryd.ntmps11
      go_wp2_with fail
      refine HNew.out.mono ?_
      rintro e w1 ⟨gc, rfl, _, hb1⟩
      have Hb1 := Lib.hid hb1
      clear hb1
      go_wp2
      go_ret2
      exact ⟨rfl, Hb1.out⟩
    · have h3 : 33 < p := by have := HNo.out; have := HE.out; unfold fits at *; omega
      have d2 : ¬ (p : Int) - 1 < 2 := by omega
      have d3 : (32 : Int) < (p : Int) - 1 := by omega
      clear h2 h3
      go_enter Tryd.func11, Tryd.ntmps11
      go_wp2_with fail
      refine HNew.out.mono ?_
      rintro e w1 ⟨gc, rfl, _, hb1⟩
      have Hb1 := Lib.hid hb1
      clear hb1
      go_wp2
      go_ret2
      exact ⟨rfl, Hb1.out⟩
  · go_enter Tryd.func11, Tryd.ntmps11
    go_wp2_with fail
    refine HNew.out.mono ?_
    rintro e w1 ⟨gc, rfl, _, hb1⟩
    have Hb1 := Lib.hid hb1
    clear hb1
    go_wp2
    go_ret2
    exact ⟨rfl, Hb1.out⟩
end Go.Proofs.YtbcagjndbfpecaaDoor
namespace Go.Proofs.YtbcagjndbfpecaaDoor
open Go.RowKit Go.Gar Go.Gar.Aes

theorem iv_all (a : List UInt8) (h : a.length = 8) (hall : ∀ u, u < 8 → at_ a u = 166) : a = Wrp.iv8 := by
  refine List.ext_getElem? fun u => ?_
  by_cases hu : u < 8
  · rw [at_get (by rw [h]; exact hu), hall u hu, Wrp.iv8, List.getElem?_replicate, if_pos hu]
  · rw [List.getElem?_eq_none (by omega), List.getElem?_eq_none (by show 8 ≤ u; omega)]
theorem iv_at (u : Nat) (h : u < 8) : at_ Wrp.iv8 u = 166 := by
  rw [at_, List.getD_eq_getElem?_getD, Wrp.iv8, List.getElem?_replicate, if_pos h]; rfl
set_option maxHeartbeats 4000000 in
set_option maxRecDepth 100000 in
theorem refUnwrap_yes (w : World) (K A : Option Addr) (key b : List UInt8) (kl kc n bl bc : Nat) (hs : sizeOk key.length) (hkl : kl = key.length) (hkc : kl ≤ kc) (hbl : bl = b.length) (hbn : bl = 8 * n + 8) (hbc : bl ≤ bc) (h1 : 2 ≤ n) (h32 : n ≤ 32) (rK : Rd w w.heap.size K key) (rA : Rd w w.heap.size A b)
    (O : List UInt8) (E : Nat) (hO : O = (Wrp.unwrap_ key b).getD []) (hE : E = if (Wrp.unwrap_ key b).isSome then 0 else 8) :
    Calls Tryd.prog 11 #[.slice K kl kc, .slice A bl bc] w fun e w' => ∃ v, e = .returned (.tuple #[v, .int .i64 (E : Int)]) ∧ Out w' v O ∧ Below w.heap.size w w' := by
  obtain ⟨gb, ob, rfl, hgb, hcell⟩ : ∃ gb ob, A = some ⟨gb, ob, none⟩ ∧ gb < w.heap.size ∧ ∀ i c, b[i]? = some c → w.cell? ⟨gb, ob + i, none⟩ = some (.int .u8 (c.toNat : Int)) := by
    rcases rA with h0 | ⟨gb, ob, e, h1, h2⟩
    · rw [hbl, h0] at hbn; exact absurd hbn (by simp)
    · exact ⟨gb, ob, e, h1, h2⟩
  have HNew := Lib.hid (refNew_at w K key kl kc hs hkl hkc rK)
  have hl1 : (b.take 8).length = 8 := by rw [List.length_take]; omega
  have hl2 : (b.drop 8).length = 8 * n := by rw [List.length_drop]; omega
  obtain ⟨a0, ha0⟩ : ∃ a0, b.take 8 = a0 := ⟨_, rfl⟩
  obtain ⟨r0, hr0⟩ : ∃ r0, b.drop 8 = r0 := ⟨_, rfl⟩
  obtain ⟨Z, hZ⟩ : ∃ Z, Z = Wrp.bw key n (a0, r0) (6 * n) (6 * n) := ⟨_, rfl⟩
  have hU : Wrp.unwrap_ key b = if Z.1 = Wrp.iv8 then some Z.2 else none := by
    rw [Wrp.unwrap_, ← hbl, hbn, show (8 * n + 8) / 8 - 1 = n from by omega, ha0, hr0, ← hZ]
  rw [hU] at hO hE
  rw [ha0] at hl1
  rw [hr0] at hl2
  have hok : ∀ k, Wrp.Ok n (Wrp.bw key n (a0, r0) (6 * n) k) := fun k => Wrp.bw_ok (s := (a0, r0)) (by omega) ⟨hl1, hl2⟩ _ k
  have hR1 : Rd w w.heap.size (some ⟨gb, ob, none⟩) a0 := .inr ⟨gb, ob, rfl, hgb, fun i c hi => by
    rw [← ha0, List.getElem?_take] at hi
    split at hi
    · exact hcell i c hi
    · cases hi⟩
  have hR2 : Rd w w.heap.size (some ⟨gb, ob + 8, none⟩) r0 := .inr ⟨gb, ob + 8, rfl, hgb, fun i c hi => by
    rw [← hr0, List.getElem?_drop] at hi
    rw [Nat.add_assoc]
    exact hcell (8 + i) c hi⟩
  have HOk := Lib.hid hok
  have HZ := Lib.hid hZ
  have HO := Lib.hid hO
  have HE := Lib.hid hE
  have HL1 := Lib.hid hl1
  have HL2 := Lib.hid hl2
  have HR1 := Lib.hid hR1
  have HR2 := Lib.hid hR2
  have hq : (bl : Int) / 8 = (n : Int) + 1 := by omega
  have hm : (bl : Int) % 8 = 0 := by omega
  have hi1 : (2 : Int) ≤ (n : Int) := by omega
  have hi2 : (n : Int) ≤ 32 := by omega
  have h8b : (8 : Int) ≤ (bl : Int) := by omega
  have h8c : (8 : Int) ≤ (bc : Int) := by omega
  have h8e : ¬ bc = 8 := by omega
  have HBN : Hid (bl - 8 = 8 * n) := Lib.hid (by omega)
  clear hs hkl hkc hbl hbn hbc rK rA hgb hcell hl1 hl2 ha0 hr0 hZ hU hO hE hok hR1 hR2
  go_enter Tryd.func11, Tryd.ntmps11
  go_wp2_with fail
  refine HNew.out.mono ?_
  rintro e w1 ⟨gc, rfl, hC, hb1⟩
  have HC := Lib.hid hC
  have Hb1 := Lib.hid hb1
  clear hC hb1 HNew
  go_upto_region 5 with fail
  go_cut [9, 10] from 41 to 48 (fun av ov w' => ∃ gA cA rA gO cO rO, av = .slice (some ⟨gA, 0, none⟩) 8 cA ∧ ov = .slice (some ⟨gO, 0, none⟩) (8 * n) cO ∧ 8 ≤ cA ∧ 8 * n ≤ cO ∧ Rq w1 w' gA gO a0 r0 rA rO)
  case first =>
    refine wp_region_G (belowG w1.heap.size) (by kernel_rfl) ?_
    have HRa : Hid (Rd w1.drew w1.heap.size (some ⟨gb, ob, none⟩) a0) := Lib.hid ((HR1.out.below Hb1.out).more Hb1.out.size)
    have HRr : Hid (Rd w1.drew w1.heap.size (some ⟨gb, ob + 8, none⟩) r0) := Lib.hid ((HR2.out.below Hb1.out).more Hb1.out.size)
    have HB0 : Hid (Below w1.heap.size w1 w1.drew) := Lib.hid (Below.refl _ w1).drew
    have HLe : Hid (w1.heap.size ≤ w1.drew.heap.size) := Lib.hid (Nat.le_refl _)
    generalize w1.drew = W0 at *
    obtain ⟨B, hB⟩ : ∃ B, w1.heap.size = B := ⟨_, rfl⟩
    rw [hB] at HRa HRr HB0 HLe ⊢
    have HBe := Lib.hid hB
    clear hB
    refine segG (by kernel_rfl) (fun _ _ _ _ _ h => h) [1, 2, 5, 6] [_, _, _, _] 6 rfl rfl (by kernel_rfl) ?_
    repeat (go_big_quiet_step (fail))
    refine wpQuiet_nil ?_
    refine twoG 0 4 5 rfl (by kernel_rfl) rfl rfl ?_ ?_
    · skip
      go_wp2
      refine ⟨(below_alloc W0 _).mono HLe.out, ?_⟩
      refine twoG 3 4 4 rfl (by kernel_rfl) rfl rfl ?_ ?_
      · skip
        obtain ⟨v1, W1, v2, W2, e1, e2, hb1, hb2, hba, hT⟩ := two_apps' (W0.alloc (.cells #[] 5)) B W0.heap.size (own_made W0 B 5 HLe.out) (by rw [World.size_alloc]; exact Nat.le_succ_of_le HLe.out) (some ⟨gb, ob, none⟩) (some ⟨gb, ob + 8, none⟩) a0 r0 8 (bl - 8) bc (bc - 8) HL1.out.symm (by rw [HL2.out]; exact HBN.out) (by omega) (by have := HBN.out; omega) (by omega) (by have := HBN.out; omega) (HRa.out.alloc HLe.out _) (HRr.out.alloc HLe.out _)
        have He1 := Lib.hid e1
        have He2 := Lib.hid e2
        have Hb1' := Lib.hid hb1
        have Hb2' := Lib.hid hb2
        have Hba := Lib.hid hba
        have HT : Hid (TwoA B (W0.alloc (.cells #[] 5)) W2 v1 v2 a0 r0 8 (8 * n)) := Lib.hid (by rw [← HBN.out]; exact hT)
        have HBW := Lib.hid (HB0.out.trans ((below_alloc W0 (.cells #[] 5)).mono HLe.out))
        clear e1 e2 hb1 hb2 hba hT
        go_wp2_with (at_builtin; refine wpList_append_run rfl (.tmp 41) (.tmp 43) _ rfl rfl rfl He1.out ?_)
        refine ⟨Hb1'.out, ?_⟩
        simp only [Act.put, List.setIfInBounds_toArray, List.set]
        refine oneG 4 3 rfl (by kernel_rfl) rfl ?_
        go_wp2
        refine ⟨Hba.out, ?_⟩
        refine oneG 7 2 rfl (by kernel_rfl) rfl ?_
        go_wp2_with (at_builtin; refine wpList_append_run rfl (.tmp 45) (.tmp 47) _ rfl rfl rfl He2.out ?_)
        refine ⟨Hb2'.out, ?_⟩
        simp only [Act.put, List.setIfInBounds_toArray, List.set]
        refine segG (by kernel_rfl) (fun _ _ _ _ _ h => h) [8, 9] [_, _] 0 rfl rfl (by kernel_rfl) ?_
        repeat (go_big_quiet_step (fail))
        refine wpQuiet_nil ?_
        refine wpAnyG_done (by kernel_rfl) ?_
        go_wp2
        go_meet
        case rel =>
          obtain ⟨gA, cA, rA, gO, cO, rO, hv1, hv2, hcA, hcO, hne, hgA, hgO, hBA, hBO⟩ := HT.out.ex
          exact ⟨gA, cA, rA, gO, cO, rO, hv1, hv2, hcA, hcO, ⟨hBA, hBO, hne, by rw [HBe.out]; exact hgA, by rw [HBe.out]; exact hgO, by rw [HBe.out]; exact HBW.out.trans HT.out.b⟩⟩
      · skip
        go_wp2
        refine ⟨(below_alloc (W0.alloc (.cells #[] 5)) _).mono (by rw [World.size_alloc]; exact Nat.le_succ_of_le HLe.out), ?_⟩
        obtain ⟨v1, W1, v2, W2, e1, e2, hb1, hb2, hT⟩ := two_apps ((W0.alloc (.cells #[] 5)).alloc (.cells #[] 5)) B W0.heap.size (W0.heap.size + 1) ((own_made W0 B 5 HLe.out).alloc _) (by have h := own_made (W0.alloc (.cells #[] 5)) B 5 (by rw [World.size_alloc]; exact Nat.le_succ_of_le HLe.out); rw [World.size_alloc] at h; exact h) (by omega) (by rw [World.size_alloc, World.size_alloc]; exact Nat.le_succ_of_le (Nat.le_succ_of_le HLe.out)) (some ⟨gb, ob, none⟩) (some ⟨gb, ob + 8, none⟩) a0 r0 8 (bl - 8) bc (bc - 8) HL1.out.symm (by rw [HL2.out]; exact HBN.out) (by omega) (by have := HBN.out; omega) (by omega) (by have := HBN.out; omega) ((HRa.out.alloc HLe.out _).alloc (by rw [World.size_alloc]; exact Nat.le_succ_of_le HLe.out) _) ((HRr.out.alloc HLe.out _).alloc (by rw [World.size_alloc]; exact Nat.le_succ_of_le HLe.out) _)
        have He1 := Lib.hid e1
        have He2 := Lib.hid e2
        have Hb1' := Lib.hid hb1
        have Hb2' := Lib.hid hb2
        have HT : Hid (TwoA B ((W0.alloc (.cells #[] 5)).alloc (.cells #[] 5)) W2 v1 v2 a0 r0 8 (8 * n)) := Lib.hid (by rw [← HBN.out]; exact hT)
        have HBW := Lib.hid (HB0.out.trans (((below_alloc W0 (.cells #[] 5)).mono HLe.out).trans ((below_alloc (W0.alloc (.cells #[] 5)) (.cells #[] 5)).mono (by rw [World.size_alloc]; exact Nat.le_succ_of_le HLe.out))))
        clear e1 e2 hb1 hb2 hT
        refine oneG 3 3 rfl (by kernel_rfl) rfl ?_
        go_wp2_with (at_builtin; refine wpList_append_run rfl (.tmp 41) (.tmp 43) _ rfl rfl rfl He1.out ?_)
        refine ⟨Hb1'.out, ?_⟩
        simp only [Act.put, List.setIfInBounds_toArray, List.set]
        refine oneG 7 2 rfl (by kernel_rfl) rfl ?_
        go_wp2_with (at_builtin; refine wpList_append_run rfl (.tmp 45) (.tmp 47) _ rfl rfl rfl He2.out ?_)
        refine ⟨Hb2'.out, ?_⟩
        simp only [Act.put, List.setIfInBounds_toArray, List.set]
        refine segG (by kernel_rfl) (fun _ _ _ _ _ h => h) [8, 9] [_, _] 0 rfl rfl (by kernel_rfl) ?_
        repeat (go_big_quiet_step (fail))
        refine wpQuiet_nil ?_
        refine wpAnyG_done (by kernel_rfl) ?_
        go_wp2
        go_meet
        case rel =>
          obtain ⟨gA, cA, rA, gO, cO, rO, hv1, hv2, hcA, hcO, hne, hgA, hgO, hBA, hBO⟩ := HT.out.ex
          exact ⟨gA, cA, rA, gO, cO, rO, hv1, hv2, hcA, hcO, ⟨hBA, hBO, hne, by rw [HBe.out]; exact hgA, by rw [HBe.out]; exact hgO, by rw [HBe.out]; exact HBW.out.trans HT.out.b⟩⟩
    · skip
      go_wp2
      refine ⟨(below_alloc W0 _).mono HLe.out, ?_⟩
      refine oneG 0 4 rfl (by kernel_rfl) rfl ?_
      go_wp2
      refine ⟨(below_alloc (W0.alloc (.cells #[] 5)) _).mono (by rw [World.size_alloc]; exact Nat.le_succ_of_le HLe.out), ?_⟩
      obtain ⟨v1, W1, v2, W2, e1, e2, hb1, hb2, hT⟩ := two_apps ((W0.alloc (.cells #[] 5)).alloc (.cells #[] 5)) B (W0.heap.size + 1) W0.heap.size (by have h := own_made (W0.alloc (.cells #[] 5)) B 5 (by rw [World.size_alloc]; exact Nat.le_succ_of_le HLe.out); rw [World.size_alloc] at h; exact h) ((own_made W0 B 5 HLe.out).alloc _) (by omega) (by rw [World.size_alloc, World.size_alloc]; exact Nat.le_succ_of_le (Nat.le_succ_of_le HLe.out)) (some ⟨gb, ob, none⟩) (some ⟨gb, ob + 8, none⟩) a0 r0 8 (bl - 8) bc (bc - 8) HL1.out.symm (by rw [HL2.out]; exact HBN.out) (by omega) (by have := HBN.out; omega) (by omega) (by have := HBN.out; omega) ((HRa.out.alloc HLe.out _).alloc (by rw [World.size_alloc]; exact Nat.le_succ_of_le HLe.out) _) ((HRr.out.alloc HLe.out _).alloc (by rw [World.size_alloc]; exact Nat.le_succ_of_le HLe.out) _)
      have He1 := Lib.hid e1
      have He2 := Lib.hid e2
      have Hb1' := Lib.hid hb1
      have Hb2' := Lib.hid hb2
      have HT : Hid (TwoA B ((W0.alloc (.cells #[] 5)).alloc (.cells #[] 5)) W2 v1 v2 a0 r0 8 (8 * n)) := Lib.hid (by rw [← HBN.out]; exact hT)
      have HBW := Lib.hid (HB0.out.trans (((below_alloc W0 (.cells #[] 5)).mono HLe.out).trans ((below_alloc (W0.alloc (.cells #[] 5)) (.cells #[] 5)).mono (by rw [World.size_alloc]; exact Nat.le_succ_of_le HLe.out))))
      clear e1 e2 hb1 hb2 hT
      refine oneG 3 3 rfl (by kernel_rfl) rfl ?_
      go_wp2_with (at_builtin; refine wpList_append_run rfl (.tmp 41) (.tmp 43) _ rfl rfl rfl He1.out ?_)
      refine ⟨Hb1'.out, ?_⟩
      simp only [Act.put, List.setIfInBounds_toArray, List.set]
      refine oneG 7 2 rfl (by kernel_rfl) rfl ?_
      go_wp2_with (at_builtin; refine wpList_append_run rfl (.tmp 45) (.tmp 47) _ rfl rfl rfl He2.out ?_)
      refine ⟨Hb2'.out, ?_⟩
      simp only [Act.put, List.setIfInBounds_toArray, List.set]
      refine segG (by kernel_rfl) (fun _ _ _ _ _ h => h) [8, 9] [_, _] 0 rfl rfl (by kernel_rfl) ?_
      repeat (go_big_quiet_step (fail))
      refine wpQuiet_nil ?_
      refine wpAnyG_done (by kernel_rfl) ?_
      go_wp2
      go_meet
      case rel =>
        obtain ⟨gA, cA, rA, gO, cO, rO, hv1, hv2, hcA, hcO, hne, hgA, hgO, hBA, hBO⟩ := HT.out.ex
        exact ⟨gA, cA, rA, gO, cO, rO, hv1, hv2, hcA, hcO, ⟨hBA, hBO, hne, by rw [HBe.out]; exact hgA, by rw [HBe.out]; exact hgO, by rw [HBe.out]; exact HBW.out.trans HT.out.b⟩⟩
  case rest =>
    obtain ⟨gA0, cA0, rA0, gO, cO, restO, rfl, rfl, hcA, hcO, hQ⟩ := hcut
    have HQ0 := Lib.hid hQ
    have HcA0 := Lib.hid hcA
    have HcO := Lib.hid hcO
    clear hQ hcA hcO HR1 HR2 hq hm h8b h8c h8e HBN
    go_wp2
    go_loopw [9, 11] (fun av jv w' => ∃ (q gA cA : Nat) (restA : List Value), q ≤ 6 ∧ jv = .int .i64 ((q : Int) - 1) ∧ av = .slice (some ⟨gA, 0, none⟩) 8 cA ∧ 8 ≤ cA ∧ Rq w1 w' gA gO (Wrp.bw key n (a0, r0) (6 * n) ((6 - q) * n)).1 (Wrp.bw key n (a0, r0) (6 * n) ((6 - q) * n)).2 restA restO) (fun _ jv _ => (intOf jv + 1).toNat)
    case atStart => exact ⟨6, gA0, cA0, rA0, by omega, by simp, rfl, HcA0.out, by rw [Nat.sub_self, Nat.zero_mul]; exact HQ0.out⟩
    case round =>
      obtain ⟨q, gA, cA, restA, hj, rfl, rfl, hcA, hQ⟩ := hrel
      have HQ := Lib.hid hQ
      have HcA := Lib.hid hcA
      clear HQ0 HcA0 hQ hcA
      rcases q with _ | p
      · rw [show (((0 : Nat) : Int) - 1) = -1 from rfl]
        rw [Nat.sub_zero, ← HZ.out] at HQ
        have hZo := HOk.out (6 * n)
        rw [← HZ.out] at hZo
        obtain ⟨hZ1, hZ2⟩ := hZo
        have HZ1 := Lib.hid hZ1
        have HZ2 := Lib.hid hZ2
        have Hb9 := Lib.hid (Hb1.out.trans (HQ.out.b.mono Hb1.out.size))
        have hcA8 : (8 : Int) ≤ (cA : Int) := by have := HcA.out; omega
        clear hZ1 hZ2
        obtain ⟨wL, hwL⟩ : ∃ wL, wL = wr := ⟨_, rfl⟩
        go_wp2
        go_loopw [15] (fun kv w' => ∃ k : Nat, k ≤ 8 ∧ kv = .int .i64 (k : Int) ∧ w' = wL ∧ ∀ u, u < k → at_ Z.1 u = 166) (fun kv _ => 8 - (intOf kv).toNat)
        case atStart => exact ⟨0, by omega, rfl, hwL.symm, fun u h => absurd h (Nat.not_lt_zero u)⟩
        case round =>
          obtain ⟨k, hk, rfl, rfl, hall⟩ := hrel
          subst hwL
          have HAll := Lib.hid hall
          clear hall
          by_cases hk8 : k < 8
          · have hk8' : (k : Int) < 8 := by omega
            have hcx := row_get HQ.out.a (i := k) (c := at_ Z.1 k) (at_get (by rw [HZ1.out]; exact hk8))
            by_cases h166 : at_ Z.1 k = 166
            · have HAll2 : Hid (∀ u, u < k + 1 → at_ Z.1 u = 166) := Lib.hid (fun u hu => by
                rcases Nat.lt_or_ge u k with h | h
                · exact HAll.out u h
                · obtain rfl : u = k := by omega
                  exact h166)
              rw [h166, show (((166 : UInt8).toNat : Nat) : Int) = 166 from rfl] at hcx
              clear h166
              go_wp2
              exact ⟨⟨k + 1, by omega, by go_num, trivial, HAll2.out⟩, by simp [intOf]; omega⟩
            · have hne : Z.1 ≠ Wrp.iv8 := fun e => h166 (by rw [e]; exact iv_at k hk8)
              have hE8 : E = 8 := by have := HE.out; rw [if_neg hne] at this; simpa using this
              have hO0 : O = [] := by have := HO.out; rw [if_neg hne] at this; simpa using this
              have hz : ¬ ((at_ Z.1 k).toNat : Int) = 166 := fun e => h166 (UInt8.toNat_inj.1 (by show (at_ Z.1 k).toNat = 166; omega))
              clear h166 hne HE HO
              subst hE8
              subst hO0
              generalize (at_ Z.1 k).toNat = zn at *
              go_wp2
              go_ret2
              exact ⟨_, rfl, Out.nil _, Hb9.out⟩
          · obtain rfl : k = 8 := by omega
            have hiv := iv_all Z.1 HZ1.out HAll.out
            have hE0 : E = 0 := by have := HE.out; rw [if_pos hiv] at this; simpa using this
            have hO0 : O = Z.2 := by have := HO.out; rw [if_pos hiv] at this; simpa using this
            have HOut : Hid (Out wr (.slice (some ⟨gO, 0, none⟩) (8 * n) cO) O) := Lib.hid ⟨_, cO, by rw [hO0, HZ2.out], by rw [hO0, HZ2.out]; exact HcO.out, by rw [hO0]; exact Rd.of_row HQ.out.r⟩
            clear hiv HE HO hO0
            subst hE0
            go_wp2
            go_ret2
            exact ⟨_, rfl, HOut.out, Hb9.out⟩
      · have hp6 : p ≤ 5 := by omega
        have epq : (((p + 1 : Nat) : Int) - 1) = (p : Int) := by omega
        rw [epq]
        clear epq
        have hp0 : (0 : Int) ≤ (p : Int) := by omega
        obtain ⟨mp, hmp⟩ : ∃ mp, n * p = mp := ⟨_, rfl⟩
        obtain ⟨m, hme⟩ : ∃ m, (6 - (p + 1)) * n = m := ⟨_, rfl⟩
        have hkn : (n : Int) * (p : Int) = (mp : Int) := by rw [← hmp]; exact (Int.natCast_mul n p).symm
        have hmm : m + n + mp = 6 * n := by
          rw [← hme, ← hmp, Nat.mul_comm n p, ← Nat.succ_mul, ← Nat.add_mul]
          congr 1
          omega
        have HKN : Hid (m + n = (6 - p) * n) := Lib.hid (by rw [← hme, ← Nat.succ_mul]; congr 1; omega)
        have hmod : ∀ i, i < n → (6 * n - 1 - (m + (n - (i + 1)))) % n = i := fun i h => by
          have e1 : 6 * n - 1 - (m + (n - (i + 1))) = n * p + i := by rw [hmp]; omega
          rw [e1, Nat.mul_add_mod]
          exact Nat.mod_eq_of_lt h
        have hstp : ∀ i, i < n → 6 * n - 1 - (m + (n - (i + 1))) + 1 = mp + i + 1 := fun i h => by omega
        have HMod := Lib.hid hmod
        have HStp := Lib.hid hstp
        have hmb : mp ≤ 160 := by
          have := Nat.mul_le_mul h32 hp6
          rw [hmp] at this
          omega
        rw [hme] at HQ
        clear hmp hme hmm hmod hstp
        go_wp2
        go_loopw [9, 12] (fun av iv w' => ∃ (i gA cA : Nat) (restA : List Value), i ≤ n ∧ iv = .int .i64 ((i : Int) - 1) ∧ av = .slice (some ⟨gA, 0, none⟩) 8 cA ∧ 8 ≤ cA ∧ Rq w1 w' gA gO (Wrp.bw key n (a0, r0) (6 * n) (m + (n - i))).1 (Wrp.bw key n (a0, r0) (6 * n) (m + (n - i))).2 restA restO) (fun _ iv _ => (intOf iv + 1).toNat)
        case atStart => exact ⟨n, gA, cA, restA, by omega, by simp, rfl, HcA.out, by rw [Nat.sub_self]; exact HQ.out⟩
        case round =>
          obtain ⟨ii, gB, cB, restB, hi, rfl, rfl, hcB, hQ⟩ := hrel
          have hok := HOk.out (m + (n - ii))
          clear HQ HcA
          rcases ii with _ | i
          · rw [show (((0 : Nat) : Int) - 1) = -1 from rfl]
            have HQn := Lib.hid hQ
            have HcB := Lib.hid hcB
            clear hQ hcB
            go_wp2
            exact ⟨⟨p, gB, cB, restB, by omega, by go_num, rfl, HcB.out, by rw [← HKN.out]; exact HQn.out⟩, by simp [intOf]⟩
          · have epi : (((i + 1 : Nat) : Int) - 1) = (i : Int) := by omega
            rw [epi]
            clear epi
            have hi0 : (0 : Int) ≤ (i : Int) := by omega
            have hin : i < n := by omega
            have hst : Wrp.bw key n (a0, r0) (6 * n) (m + (n - i)) = Wrp.back key n (6 * n - 1 - (m + (n - (i + 1)))) (Wrp.bw key n (a0, r0) (6 * n) (m + (n - (i + 1)))) := by
              rw [show m + (n - i) = (m + (n - (i + 1))) + 1 from by omega]
              rfl
            rw [Wrp.back, HMod.out i hin, HStp.out i hin] at hst
            generalize Wrp.bw key n (a0, r0) (6 * n) (m + (n - (i + 1))) = st at hQ hok hst
            obtain ⟨x, r⟩ := st
            obtain ⟨hx, hrl⟩ := hok
            simp only at hQ hx hrl hst
            obtain ⟨t, ht⟩ : ∃ t, mp + i + 1 = t := ⟨_, rfl⟩
            have hte : (mp : Int) + (i : Int) + 1 = (t : Int) := by omega
            have htb : t ≤ 192 := by omega
            rw [ht] at hst
            obtain ⟨X, hXe⟩ : ∃ X, Wrp.xt x t = X := ⟨_, rfl⟩
            have hXl : X.length = 8 := by rw [← hXe, Wrp.xt_len]; exact hx
            rw [hXe] at hst
            obtain ⟨q, hq⟩ : ∃ q : UInt8, q = at_ x 7 ^^^ UInt8.ofNat t := ⟨_, rfl⟩
            have hxq : bits .xor .u8 ((at_ x 7).toNat : Int) (t : Int) = (q.toNat : Int) := by
              rw [hq, ← xor_byte]
              congr 1
              simp
              omega
            have h8z := (at_ x 7).toNat_lt
            have hc7 := row_get hQ.a (i := 7) (c := at_ x 7) (at_get (by rw [hx]; omega))
            have hf7 := hQ.a.frozen 7
            have hS := hQ.a.set_ 7 (.int .u8 (q.toNat : Int))
            rw [u8s_row_set _ _ _ _ (by rw [hx]; omega)] at hS
            have hX7 : x.set 7 q = X := by rw [← hXe, hq, Wrp.xt]
            rw [hX7] at hS
            have hQ7 : Rq w1 (wr.setCell ⟨gB, 7, none⟩ (.int .u8 (q.toNat : Int))) gB gO X r restB restO :=
              ⟨hS, hQ.r.far (by show gO ≠ gB; exact hQ.ne.symm) _, hQ.ne, hQ.la, hQ.lo, hQ.b.setCell hQ.la _⟩
            have HQ7 := Lib.hid hQ7
            obtain ⟨y, hy⟩ : ∃ y, Wrp.b8 r i = y := ⟨_, rfl⟩
            have hyl : y.length = 8 := by rw [← hy]; exact Wrp.b8_len _ _ (by omega)
            obtain ⟨z, hz⟩ : ∃ z, decrypt key (X ++ y) = z := ⟨_, rfl⟩
            have hzl : z.length = 16 := by rw [← hz]; exact decrypt_len _ _
            rw [hy, hz] at hst
            have HST := Lib.hid hst
            have HX := Lib.hid hXl
            have HRl := Lib.hid hrl
            have HY := Lib.hid hyl
            have HYE := Lib.hid hy
            have HZE := Lib.hid hz
            have HZl := Lib.hid hzl
            have HcB := Lib.hid hcB
            have hi' : (i : Int) < (n : Int) := by omega
            have hcB8 : (8 : Int) ≤ (cB : Int) := by omega
            have hcO1 : 8 * (i : Int) + 8 ≤ (cO : Int) := by have := HcO.out; omega
            clear hst hx hrl hy hyl hz hzl hcB hQ hQ7 hS hX7 hXe hXl ht hq
            generalize (at_ x 7).toNat = zn at *
            go_wp2
            generalize wr.setCell ⟨gB, 7, none⟩ (.int .u8 (q.toNat : Int)) = wx at HQ7 ⊢
            clear hc7 hf7 hxq h8z
            have HQ0 := Lib.hid (HQ7.out.below (Below.refl _ wx).drew)
            clear HQ7
            refine wp_region_G (belowG wx.heap.size) (by kernel_rfl) ?_
            have hW0 : wx.drew.heap.size = wx.heap.size := rfl
            obtain ⟨B, hB⟩ : ∃ B, wx.heap.size = B := ⟨_, rfl⟩
            rw [hB] at hW0 ⊢
            have HW0 := Lib.hid hW0
            clear hW0 hB
            generalize wx.drew = W0 at *
            have hbA : Below B W0 (W0.alloc (.cells #[] 5)) := (below_alloc W0 _).mono (by rw [HW0.out]; exact Nat.le_refl _)
            have hyr : ∀ u c, y[u]? = some c → r[8 * i + u]? = some c := fun u c hu => by
              rw [← HYE.out, Wrp.b8, List.getElem?_take] at hu
              split at hu
              · rw [List.getElem?_drop] at hu; exact hu
              · cases hu
            have hRy : Rd W0 W0.heap.size (some ⟨gO, 8 * i, none⟩) y := .inr ⟨gO, 8 * i, rfl, HQ0.out.r.lt, fun u c hu => row_get HQ0.out.r (hyr u c hu)⟩
            obtain ⟨v1, w4, e1, ho1, hb1, _⟩ := app_rd (P := Tryd.prog) 22 22 Tryd.und22 Tryd.info5 (own_made W0 B 5 (by rw [HW0.out]; exact Nat.le_refl _)) (by rw [World.size_alloc, HW0.out]; omega) cB ((Rd.of_row HQ0.out.a).below (below_alloc W0 (.cells #[] 5))) (by rw [HX.out]; simp)
            rw [List.nil_append] at ho1
            rw [HX.out] at e1
            have hbB4 : Below B W0 w4 := hbA.trans hb1
            have hle4 : B ≤ w4.heap.size := by have := hbB4.size; rw [HW0.out] at this; exact this
            obtain ⟨v2, w5, e2, ho2, hb2, _⟩ := app_rd (P := Tryd.prog) 22 22 Tryd.und22 Tryd.info5 ho1 hle4 (cO - 8 * i) (hRy.below (by rw [HW0.out]; exact hbB4)) (by rw [HX.out, HY.out]; omega)
            rw [HY.out] at e2
            have hbB5 : Below B W0 w5 := hbB4.trans hb2
            have hle5 : B ≤ w5.heap.size := by have := hbB5.size; rw [HW0.out] at this; exact this
            obtain ⟨A2, c2, rfl, hr2⟩ := ho2.rd
            rw [show (X ++ y).length = 16 from by rw [List.length_append, HX.out, HY.out]] at e2
            have HbA := Lib.hid hbA
            have Hb1' := Lib.hid hb1
            have Hb2' := Lib.hid hb2
            have HR2 := Lib.hid hr2
            have HQ5 := Lib.hid (HQ0.out.below (by rw [HW0.out]; exact hbB5))
            have Hle5 := Lib.hid hle5
            clear hbA hyr hRy ho1 hb1 hbB4 hle4 ho2 hb2 hbB5 hle5 hr2 HQ0
            have hcut : ∀ W, (Instr.sliceAt 22 (.slice (some ⟨gO, 0, none⟩) (8 * n) cO) (some (.int .i64 (8 * (i : Int)))) (some (.int .i64 (8 * (i : Int) + 8))) none).run Tryd.prog W = .ok (.slice (some ⟨gO, 8 * i, none⟩) 8 (cO - 8 * i)) W := fun W => by
              have h := run_cut_mid W gO 0 (8 * n) cO (8 * i) (8 * i + 8) 8 (cO - 8 * i) (8 * (i : Int)) (8 * (i : Int) + 8) (by omega) (by omega) (by omega) rfl (by omega) (by omega) (by omega)
              rw [Nat.zero_add] at h
              exact h
            refine segG (by kernel_rfl) (fun _ _ _ _ _ h => h) [0, 2, 4, 5, 6, 7, 8, 9, 10] [_, _, _, _, _, _, _, _, _] 5 rfl rfl (by kernel_rfl) ?_
            repeat (go_big_quiet_step (fail))
            clear hcut
            refine wpQuiet_nil ?_
            refine oneG 1 4 rfl (by kernel_rfl) rfl ?_
            go_wp2
            refine ⟨HbA.out, ?_⟩
            refine oneG 3 3 rfl (by kernel_rfl) rfl ?_
            go_wp2_with (at_builtin; refine wpList_append_run rfl (.tmp 73) (.tmp 74) _ rfl rfl rfl e1 ?_)
            refine ⟨Hb1'.out, ?_⟩
            simp only [Act.put, List.setIfInBounds_toArray, List.set]
            refine oneG 11 2 rfl (by kernel_rfl) rfl ?_
            go_wp2_with (at_builtin; refine wpList_append_run rfl (.tmp 75) (.tmp 82) _ rfl rfl rfl e2 ?_)
            refine ⟨Hb2'.out, ?_⟩
            simp only [Act.put, List.setIfInBounds_toArray, List.set]
            clear e1 e2 HbA Hb1' Hb2'
            refine oneG 12 1 rfl (by kernel_rfl) rfl ?_
            go_wp2_with fail
            refine (refDec_all w5 gc key (HC.out.below HQ5.out.b) A2 (X ++ y) 16 c2 rfl (by rw [List.length_append, HX.out, HY.out]) HR2.out).mono ?_
            rintro e w6 ⟨gX, cX, restX, rfl, hcX, hgX, hBX, hb6⟩
            rw [HZE.out] at hBX
            have HQ6 := Lib.hid (HQ5.out.below hb6)
            have HBX := Lib.hid hBX
            have HcX := Lib.hid hcX
            have HgX : Hid (gO < gX ∧ gB < gX ∧ w1.heap.size ≤ gX) := Lib.hid (by have h1 := HQ5.out.r.lt; have h2 := HQ5.out.a.lt; have h3 := HQ5.out.b.size; omega)
            clear hBX hcX hgX HQ5 HR2
            go_wp2
            refine ⟨hb6.mono Hle5.out, ?_⟩
            clear hb6
            refine segG (by kernel_rfl) (fun _ _ _ _ _ h => h) [13] [_] 0 rfl rfl (by kernel_rfl) ?_
            repeat (go_big_quiet_step (fail))
            refine wpQuiet_nil ?_
            refine wpAnyG_done (by kernel_rfl) ?_
            have hcX8 : (16 : Int) ≤ (cX : Int) := by have := HcX.out; omega
            obtain ⟨zd, hzd⟩ : ∃ zd, z.drop 8 = zd := ⟨_, rfl⟩
            have hzdl : zd.length = 8 := by rw [← hzd]; exact Wrp.half2 z HZl.out
            rw [hzd] at HST
            have HXd := Lib.hid hzd
            have HZd := Lib.hid hzdl
            clear hzd hzdl
            go_wp2
            go_loopw [14] (fun kv w' => ∃ k : Nat, k ≤ 8 ∧ kv = .int .i64 (k : Int) ∧ Blk w' gX 5 (u8s z ++ restX) ∧ Blk w' gO 5 (u8s (Wrp.put8 r zd (8 * i) k) ++ restO) ∧ Below w1.heap.size w1 w') (fun kv _ => 8 - (intOf kv).toNat)
            case atStart => exact ⟨0, by omega, rfl, HBX.out, by rw [Wrp.put8_0]; exact HQ6.out.r, HQ6.out.b⟩
            case round =>
              obtain ⟨k, hk, rfl, hBx, hBo, hbb⟩ := hrel
              have HLo := Lib.hid HQ6.out.lo
              clear HBX HQ6
              by_cases hk8 : k < 8
              · have hk8' : (k : Int) < 8 := by omega
                have hki : 8 * i + k < 8 * n := by omega
                have hki' : 8 * (i : Int) + (k : Int) < 8 * (n : Int) := by omega
                have hzk : zd[k]? = some (at_ zd k) := at_get (by rw [HZd.out]; exact hk8)
                have hcx := row_get hBx (i := 8 + k) (c := at_ zd k) (by rw [← List.getElem?_drop, HXd.out]; exact hzk)
                have hpl := Wrp.put8_len r zd (8 * i) k (by rw [HZd.out]; exact hk) (by rw [HRl.out]; omega)
                obtain ⟨v0, hco⟩ : ∃ v0, wr.cell? ⟨gO, 8 * i + k, none⟩ = some v0 := ⟨_, by
                  rw [hBo.cell, List.getElem?_append_left (by rw [u8s_len, hpl, HRl.out]; exact hki), List.getElem?_eq_getElem (by rw [u8s_len, hpl, HRl.out]; exact hki)]⟩
                have hfo := hBo.frozen (8 * i + k)
                have hS := hBo.set_ (8 * i + k) (.int .u8 ((at_ zd k).toNat : Int))
                rw [u8s_row_set _ _ _ _ (by rw [hpl, HRl.out]; exact hki), Wrp.put8_set r zd (8 * i) k _ hzk (by rw [HRl.out]; exact hki)] at hS
                have hX' := hBx.far (p := ⟨gO, 8 * i + k, none⟩) (by have := HgX.out; show gX ≠ gO; omega) (.int .u8 ((at_ zd k).toNat : Int))
                have hbn := hbb.setCell (p := ⟨gO, 8 * i + k, none⟩) HLo.out (.int .u8 ((at_ zd k).toNat : Int))
                have HS := Lib.hid hS
                have HX8 := Lib.hid hX'
                have Hbn := Lib.hid hbn
                have h8 := (at_ zd k).toNat_lt
                clear hBx hBo hbb hzk hpl hS hX' hbn
                generalize (at_ zd k).toNat = qn at *
                go_wp2
                exact ⟨⟨k + 1, by omega, by go_num, HX8.out, HS.out, Hbn.out⟩, by simp [intOf]; omega⟩
              · obtain rfl : k = 8 := by omega
                rw [Wrp.put8_end r zd i HZd.out] at hBo
                have hbx : Blk wr gX 5 (u8s (z.take 8) ++ (u8s (z.drop 8) ++ restX)) := by
                  rw [← List.append_assoc, ← u8s_app, List.take_append_drop]; exact hBx
                have HQn := Lib.hid (show Rq w1 wr gX gO (Wrp.bw key n (a0, r0) (6 * n) (m + (n - i))).1 (Wrp.bw key n (a0, r0) (6 * n) (m + (n - i))).2 (u8s (z.drop 8) ++ restX) restO from by
                  rw [HST.out]
                  exact ⟨hbx, hBo, by have := HgX.out; omega, HgX.out.2.2, HLo.out, hbb⟩)
                have HcX8 : Hid (8 ≤ cX) := Lib.hid (by have := HcX.out; omega)
                clear hBx hBo hbb hbx
                go_wp2
                exact ⟨⟨i, gX, cX, _, by omega, by go_num, rfl, HcX8.out, HQn.out⟩, by simp [intOf]⟩
end Go.Proofs.YtbcagjndbfpecaaDoor
namespace Go.Proofs.YtbcagjndbfpecaaDoor
open Go.RowKit Go.Gar Go.Gar.Aes

theorem refWrap_any (w : World) (K A : Option Addr) (key b : List UInt8) (kl kc bl bc : Nat) (E : Int) (O : List UInt8) (hkl : kl = key.length) (hbl : bl = b.length) (hE : E = ((wrapE key b : Nat) : Int)) (hO : O = wrapB key b) (hkc : kl ≤ kc) (hb : bl ≤ 1048576) (rK : Rd w w.heap.size K key) (rA : Rd w w.heap.size A b) :
    Calls Tryd.prog 8 #[.slice K kl kc, .slice A bl bc] w fun e w' => ∃ v, e = .returned (.tuple #[v, .int .i64 E]) ∧ Out w' v O ∧ Below w.heap.size w w' := by
  subst hE; subst hO
  unfold wrapB wrapE
  by_cases hs : sizeOk key.length
  · by_cases hf : fits b.length
    · have hc : sizeOk key.length ∧ fits b.length := ⟨hs, hf⟩
      rw [if_pos hc, if_pos hc]
      have hf2 := hf
      unfold fits at hf2
      obtain ⟨n, rfl⟩ : ∃ n, bl = 8 * n := ⟨bl / 8, by omega⟩
      exact refWrap_yes w K A key b kl kc n bc hs hkl hkc hbl.symm (by omega) (by omega) rK rA _ rfl
    · rw [if_neg (fun h => hf h.2), if_neg (fun h => hf h.2)]
      exact (refWrap_arg w K A key kl kc bl bc hs hkl hkc rK (by rw [hbl]; exact hf) hb).mono fun e w' ⟨h1, h2⟩ => ⟨_, h1, Out.nil _, h2⟩
  · rw [if_neg (fun h => hs h.1), if_neg (fun h => hs h.1)]
    exact (refWrap_no w K A kl kc bl bc (by rw [hkl]; exact hs) hb).mono fun e w' ⟨h1, h2⟩ => ⟨_, h1, Out.nil _, h2⟩
theorem refUnwrap_any (w : World) (K A : Option Addr) (key b : List UInt8) (kl kc bl bc : Nat) (E : Int) (O : List UInt8) (hkl : kl = key.length) (hbl : bl = b.length) (hE : E = ((unwrapE key b : Nat) : Int)) (hO : O = unwrapB key b) (hkc : kl ≤ kc) (hbc : bl ≤ bc) (hb : bl ≤ 1048576) (rK : Rd w w.heap.size K key) (rA : Rd w w.heap.size A b) :
    Calls Tryd.prog 11 #[.slice K kl kc, .slice A bl bc] w fun e w' => ∃ v, e = .returned (.tuple #[v, .int .i64 E]) ∧ Out w' v O ∧ Below w.heap.size w w' := by
  subst hE; subst hO
  unfold unwrapB unwrapE
  by_cases hs : sizeOk key.length
  · by_cases hf : 8 ≤ b.length ∧ fits (b.length - 8)
    · have hc : sizeOk key.length ∧ 8 ≤ b.length ∧ fits (b.length - 8) := ⟨hs, hf⟩
      rw [if_pos hc, if_pos hc]
      have hf2 := hf
      unfold fits at hf2
      exact refUnwrap_yes w K A key b kl kc ((bl - 8) / 8) bl bc hs hkl hkc hbl (by omega) hbc (by omega) (by omega) rK rA _ _ rfl rfl
    · rw [if_neg (fun h => hf h.2), if_neg (fun h => hf h.2)]
      exact (refUnwrap_arg w K A key kl kc bl bc hs hkl hkc rK (by rw [hbl]; exact hf) hb).mono fun e w' ⟨h1, h2⟩ => ⟨_, h1, Out.nil _, h2⟩
  · rw [if_neg (fun h => hs h.1), if_neg (fun h => hs h.1)]
    exact (refUnwrap_no w K A kl kc bl bc (by rw [hkl]; exact hs) hb).mono fun e w' ⟨h1, h2⟩ => ⟨_, h1, Out.nil _, h2⟩
end Go.Proofs.YtbcagjndbfpecaaDoor
