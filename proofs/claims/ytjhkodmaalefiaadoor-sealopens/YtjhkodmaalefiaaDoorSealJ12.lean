/-
  The reference's Encrypt: a contract. The reference's Decrypt: a contract.
-/
import Derived.Test.YtjhkodmaalefiaaDoorSealJ11
set_option maxRecDepth 100000
namespace Go.Proofs.YtjhkodmaalefiaaDoor
open Go.RowKit Go.Gar Go.Gar.Aes

set_option maxHeartbeats 4000000 in
set_option maxRecDepth 100000 in
theorem refEncrypt_any2 (w : World) (gc gt gb gw cap : Nat) (ws : List (List UInt8)) (hC : RefC w gc gt gb gw cap ws) (last : Nat) (hlast : ws.length = 4 * last + 4) (h1 : 1 ≤ last) (A : Option Addr) (l : List UInt8) (c : Nat) (hl : l.length = 16) (hr : Rd w w.heap.size A l) :
    Calls Tryd.prog 42 #[.pointer (some ⟨gc, 0, none⟩), .slice A 16 c] w fun e w' => ∃ g cp rest, e = .returned (.slice (some ⟨g, 0, none⟩) 16 cp) ∧ w.heap.size ≤ g ∧ Blk w' g 5 (u8s (enc (rk ws) last l) ++ rest) ∧ Below w.heap.size w w' ∧ 16 ≤ cp := by
  have hmk : ∀ w : World, (Instr.makeSlice 26 (.int .i64 16) (.int .i64 16)).run Tryd.prog w = .ok (.slice (some ⟨w.heap.size, 0, none⟩) 16 16) (w.alloc (.cells (u8s (List.replicate 16 0)).toArray 5)) := run_make_bytes 16 16 (by omega) (by omega)
  obtain ⟨Z, hZ⟩ : ∃ Z, Z = List.replicate 16 (0 : UInt8) := ⟨_, rfl⟩
  have HZ : Hid (Z.length = 16) := Lib.hid (by rw [hZ]; rfl)
  rw [← hZ] at hmk
  clear hZ
  have hlen := hC.len
  have hc2 := hC.at2
  have HC := Lib.hid hC
  have HL := Lib.hid hl
  have HLA := Lib.hid hlast
  go_enter Tryd.func42, Tryd.ntmps42
  go_wp2_with fail
  refine (refAdd_any2 w gc gt gb gw cap ws hC A l c 0 hl hr (by omega)).mono ?_
  rintro e w1 ⟨g1, cp1, rest1, rfl, hg1, hB1, hb1, hp1⟩
  have HP1 := Lib.hid hp1
  clear hp1
  have HB1 := Lib.hid hB1
  have Hb1 := Lib.hid hb1
  have HG1 := Lib.hid hg1
  clear hB1 hb1 hg1 hC hr hl hc2
  have hl14 : last ≤ 14 := by omega
  go_wp2
  rw [show ((4 * (last : Int) + 4) / 4 - 1) = (last : Int) from by omega]
  clear hlast hlen
  go_loopw [6, 7] (fun s n w' => ∃ n' g cp rest, n' ≤ last ∧ n = .int .i64 ((n' : Int) + 1) ∧ s = .slice (some ⟨g, 0, none⟩) 16 cp ∧ w.heap.size ≤ g ∧ Blk w' g 5 (u8s (encN (rk ws) last l n') ++ rest) ∧ Below w.heap.size w w' ∧ 16 ≤ cp) (fun _ n _ => last + 1 - (intOf n).toNat)
  case atStart => exact ⟨0, g1, cp1, rest1, by omega, rfl, rfl, HG1.out, HB1.out, Hb1.out, HP1.out⟩
  case round =>
    obtain ⟨n, g, cp, rest, hn, rfl, rfl, hg, hB, hb, hp⟩ := hrel
    have HP := Lib.hid hp
    clear HB1 Hb1 HG1 HP1 hp
    by_cases hlt : n < last
    · have hle : decide ((n : Int) + 1 ≤ (last : Int)) = true := by simp; omega
      obtain ⟨S, hS⟩ : ∃ S, encN (rk ws) last l n = S := ⟨_, rfl⟩
      have HSL : Hid (S.length = 16) := Lib.hid (by rw [← hS]; exact encN_len _ _ _ _)
      rw [hS] at hB
      have HB2 := Lib.hid (hB.alloc (.cells (u8s Z).toArray 5))
      have HT2 := Lib.hid (Blk.new wr 5 (u8s Z))
      have Hb2 := Lib.hid (hb.alloc hb.size (.cells (u8s Z).toArray 5))
      have hGT := hb.size
      have hne : g ≠ wr.heap.size := by have := hB.lt; omega
      have HS := Lib.hid hS
      have HG := Lib.hid hg
      have hm := hmk wr
      clear hB hb hS hg hmk
      generalize wr.alloc (.cells (u8s Z).toArray 5) = w2 at *
      generalize wr.heap.size = gT at *
      have HGT := Lib.hid hGT
      clear hGT
      go_wp2
      go_loopw [9] (fun i w' => ∃ col : Nat, col ≤ 4 ∧ i = .int .i64 (col : Int) ∧ Blk w' gT 5 (u8s (prog Z (shift S) (4 * col))) ∧ Blk w' g 5 (u8s S ++ rest) ∧ Below w.heap.size w w') (fun i _ => 4 - (intOf i).toNat)
      case atStart => exact ⟨0, by omega, rfl, by rw [prog_0]; exact HT2.out, HB2.out, Hb2.out⟩
      case round =>
        obtain ⟨col, hcol, rfl, hT, hB, hb⟩ := hrel
        clear HB2 HT2 Hb2
        by_cases hc4 : col < 4
        · have HT := Lib.hid hT
          have HB := Lib.hid hB
          have Hb := Lib.hid hb
          clear hT hB hb
          go_wp2
          go_loopw [10] (fun i w' => ∃ r : Nat, r ≤ 4 ∧ i = .int .i64 (r : Int) ∧ Blk w' gT 5 (u8s (prog Z (shift S) (4 * col + r))) ∧ Blk w' g 5 (u8s S ++ rest) ∧ Below w.heap.size w w') (fun i _ => 4 - (intOf i).toNat)
          case atStart => exact ⟨0, by omega, rfl, HT.out, HB.out, Hb.out⟩
          case round =>
            obtain ⟨r, hr4, rfl, hT, hB, hb⟩ := hrel
            clear HB HT Hb
            have hZL : (shift S).length = Z.length := by rw [shift_len, HZ.out]
            by_cases hr : r < 4
            · have hC2 := HC.out.below hb
              obtain ⟨j, hj⟩ : ∃ j, 4 * ((col + r) % 4) + r = j := ⟨_, rfl⟩
              have hj16 : j < 16 := by omega
              have hc1 := row_get hB (at_get (i := j) (by rw [HSL.out]; exact hj16))
              have hc2 := hC2.at0
              have hc3 := blk_byte hC2.there (sboxB_byte (at_ S j))
              have hsh := shift_idx S col r hc4 hr
              rw [hj] at hsh
              have hf := hT.frozen (4 * col + r)
              obtain ⟨v0, hcs⟩ : ∃ v0, wr.cell? ⟨gT, 4 * col + r, none⟩ = some v0 := ⟨_, by
                rw [hT.cell, List.getElem?_eq_getElem (by rw [u8s_len, prog_len _ _ _ hZL, HZ.out]; omega)]⟩
              have hSt := hT.set_ (4 * col + r) (.int .u8 ((sb (at_ S j)).toNat : Int))
              rw [u8s_set, prog_set _ _ _ _ hZL hsh] at hSt
              have HSt := Lib.hid hSt
              have HB := Lib.hid (hB.far (p := ⟨gT, 4 * col + r, none⟩) hne (.int .u8 ((sb (at_ S j)).toNat : Int)))
              have Hb := Lib.hid (hb.setCell (p := ⟨gT, 4 * col + r, none⟩) HGT.out (.int .u8 ((sb (at_ S j)).toNat : Int)))
              have hx8 := (at_ S j).toNat_lt
              have hy8 := (sb (at_ S j)).toNat_lt
              clear hSt hT hB hb hC2 hsh
              generalize (sb (at_ S j)).toNat = yn at *
              generalize (at_ S j).toNat = xn at *
              rw [← hj] at hc1
              clear hj16 hj
              go_wp2
              go_region
              go_wp2
              exact ⟨⟨r + 1, by omega, by go_num, HSt.out.drew, HB.out.drew, Hb.out.drew⟩, by simp [intOf]; omega⟩
            · obtain rfl : r = 4 := by omega
              go_wp2
              exact ⟨⟨col + 1, by omega, by go_num, hT, hB, hb⟩, by simp [intOf]; omega⟩
        · have hcd : decide ((col : Int) < 4) = false := by simp; omega
          have H4 : Hid (4 * col = 16) := Lib.hid (by omega)
          rw [H4.out, prog_end _ _ _ HZ.out.symm (by rw [shift_len])] at hT
          have HTl := shift_len S
          obtain ⟨T, hTe⟩ : ∃ T, shift S = T := ⟨_, rfl⟩
          rw [hTe] at hT HTl
          have HTL := Lib.hid HTl
          have HTE := Lib.hid hTe
          have HT := Lib.hid hT
          have Hb := Lib.hid hb
          clear hT hb hB HTl hTe hm hne
          by_cases hnl : n + 1 < last
          · have hnd : decide ((n : Int) + 1 < (last : Int)) = true := by simp; omega
            go_wp2
            go_loopw [11] (fun i w' => ∃ col : Nat, col ≤ 4 ∧ i = .int .i64 (col : Int) ∧ Blk w' gT 5 (u8s (prog T (mix T) (4 * col))) ∧ Below w.heap.size w w') (fun i _ => 4 - (intOf i).toNat)
            case atStart => exact ⟨0, by omega, rfl, by rw [prog_0]; exact HT.out, Hb.out⟩
            case round =>
              obtain ⟨col, hcol, rfl, hT, hb⟩ := hrel
              clear HT Hb
              have hML : (mix T).length = T.length := by rw [mix_len, HTL.out]
              by_cases hc4 : col < 4
              · have hTl := HTL.out
                have k0 := blk_byte hT (prog_later T (mix T) (4 * col) (4 * col) hML (by omega) (by omega))
                have k1 := blk_byte hT (prog_later T (mix T) (4 * col) (4 * col + 1) hML (by omega) (by omega))
                have k2 := blk_byte hT (prog_later T (mix T) (4 * col) (4 * col + 2) hML (by omega) (by omega))
                have k3 := blk_byte hT (prog_later T (mix T) (4 * col) (4 * col + 3) hML (by omega) (by omega))
                obtain ⟨m0, m1, m2, m3⟩ := mixcol T col hc4
                have p0 := prog_set T (mix T) (4 * col) _ hML m0
                have p1 := prog_set T (mix T) (4 * col + 1) _ hML m1
                have p2 := prog_set T (mix T) (4 * col + 2) _ hML m2
                have p3 := prog_set T (mix T) (4 * col + 3) _ hML m3
                clear m0 m1 m2 m3
                generalize at_ T (4 * col) = a at *
                generalize at_ T (4 * col + 1) = b at *
                generalize at_ T (4 * col + 2) = cc at *
                generalize at_ T (4 * col + 3) = d at *
                have f0 := hT.frozen (4 * col)
                have f1 := hT.frozen (4 * col + 1)
                have f2 := hT.frozen (4 * col + 2)
                have f3 := hT.frozen (4 * col + 3)
                have HT5 : Hid (Blk wr.drew gT 5 (u8s (prog T (mix T) (4 * col)))) := Lib.hid hT
                have Hb5 := Lib.hid hb.drew
                have P0 := Lib.hid p0
                have P1 := Lib.hid p1
                have P2 := Lib.hid p2
                have P3 := Lib.hid p3
                clear hT hb p0 p1 p2 p3
                have q0 : wr.drew.cell? ⟨gT, 4 * col, none⟩ = some (.int .u8 (a.toNat : Int)) := k0
                have q1 : wr.drew.cell? ⟨gT, 4 * col + 1, none⟩ = some (.int .u8 (b.toNat : Int)) := k1
                have q2 : wr.drew.cell? ⟨gT, 4 * col + 2, none⟩ = some (.int .u8 (cc.toNat : Int)) := k2
                have q3 : wr.drew.cell? ⟨gT, 4 * col + 3, none⟩ = some (.int .u8 (d.toNat : Int)) := k3
                have g0 : wr.drew.frozen? ⟨gT, 4 * col, none⟩ = false := f0
                have g1 : wr.drew.frozen? ⟨gT, 4 * col + 1, none⟩ = false := f1
                have g2 : wr.drew.frozen? ⟨gT, 4 * col + 2, none⟩ = false := f2
                have g3 : wr.drew.frozen? ⟨gT, 4 * col + 3, none⟩ = false := f3
                have a8 := a.toNat_lt
                have b8 := b.toNat_lt
                have c8 := cc.toNat_lt
                have d8 := d.toNat_lt
                go_wp2
                go_region
                clear k0 k1 k2 k3 f0 f1 f2 f3
                generalize wr.drew = w5 at *
                go_wp2_with fail
                refine (refMul_byte 2 a _ _ rfl rfl _).mono ?_
                rintro e w6 ⟨rfl, rfl⟩
                go_wp2_with fail
                refine (refMul_byte 3 b _ _ rfl rfl _).mono ?_
                rintro e w6 ⟨rfl, rfl⟩
                go_wp2_with fail
                rw [xor_byte, xor_byte, xor_byte]
                generalize gm 2 a ^^^ gm 3 b ^^^ cc ^^^ d = x0 at P0 ⊢
                refine (refMul_byte 2 b _ _ rfl rfl _).mono ?_
                rintro e w6 ⟨rfl, rfl⟩
                go_wp2_with fail
                refine (refMul_byte 3 cc _ _ rfl rfl _).mono ?_
                rintro e w6 ⟨rfl, rfl⟩
                go_wp2_with fail
                rw [xor_byte, xor_byte, xor_byte]
                generalize a ^^^ gm 2 b ^^^ gm 3 cc ^^^ d = x1 at P1 ⊢
                refine (refMul_byte 2 cc _ _ rfl rfl _).mono ?_
                rintro e w6 ⟨rfl, rfl⟩
                go_wp2_with fail
                refine (refMul_byte 3 d _ _ rfl rfl _).mono ?_
                rintro e w6 ⟨rfl, rfl⟩
                go_wp2_with fail
                rw [xor_byte, xor_byte, xor_byte]
                generalize a ^^^ b ^^^ gm 2 cc ^^^ gm 3 d = x2 at P2 ⊢
                refine (refMul_byte 3 a _ _ rfl rfl _).mono ?_
                rintro e w6 ⟨rfl, rfl⟩
                go_wp2_with fail
                refine (refMul_byte 2 d _ _ rfl rfl _).mono ?_
                rintro e w6 ⟨rfl, hw⟩
                have h0 := HT5.out.set_ (4 * col) (.int .u8 (x0.toNat : Int))
                rw [u8s_set, P0.out] at h0
                have h1 := h0.set_ (4 * col + 1) (.int .u8 (x1.toNat : Int))
                rw [u8s_set, P1.out] at h1
                have h2 := h1.set_ (4 * col + 2) (.int .u8 (x2.toNat : Int))
                rw [u8s_set, P2.out] at h2
                have h3 := h2.set_ (4 * col + 3) (.int .u8 ((gm 3 a ^^^ b ^^^ cc ^^^ gm 2 d).toNat : Int))
                rw [u8s_set, P3.out] at h3
                have Hb6 := Lib.hid ((((Hb5.out.setCell (p := ⟨gT, 4 * col, none⟩) HGT.out (.int .u8 (x0.toNat : Int))).setCell (p := ⟨gT, 4 * col + 1, none⟩) HGT.out (.int .u8 (x1.toNat : Int))).setCell (p := ⟨gT, 4 * col + 2, none⟩) HGT.out (.int .u8 (x2.toNat : Int))).setCell (p := ⟨gT, 4 * col + 3, none⟩) HGT.out (.int .u8 ((gm 3 a ^^^ b ^^^ cc ^^^ gm 2 d).toNat : Int)))
                have H3 := Lib.hid h3
                have hf3 := h2.frozen (4 * col + 3)
                have hc3 := h2.cell (4 * col + 3)
                rw [List.getElem?_eq_getElem (by rw [u8s_len, prog_len _ _ _ hML, hTl]; omega)] at hc3
                generalize (u8s (prog T (mix T) (4 * col + 2 + 1)))[4 * col + 3]'(by rw [u8s_len, prog_len _ _ _ hML, hTl]; omega) = v3 at hc3
                clear h0 h1 h2 h3
                rw [← hw] at H3 Hb6 hf3 hc3
                clear hw HT5 Hb5 q0 q1 q2 q3 g0 g1 g2 g3 P0 P1 P2 P3
                rw [← xor_byte, ← xor_byte, ← xor_byte] at H3 Hb6
                go_wp2
                exact ⟨⟨col + 1, by omega, by go_num, H3.out, Hb6.out⟩, by simp [intOf]; omega⟩
              · have H4 : Hid (4 * col = 16) := Lib.hid (by omega)
                rw [H4.out, prog_end _ _ _ HTL.out.symm (by rw [mix_len])] at hT
                have HT := Lib.hid hT
                have Hb := Lib.hid hb
                clear hT hb
                go_wp2_with fail
                rw [show ((n : Int) + 1) = ((n + 1 : Nat) : Int) from rfl]
                refine (refAdd_any2 wr gc gt gb gw cap ws (HC.out.below Hb.out) _ (mix T) 16 (n + 1) (mix_len T) (Rd.of_all HT.out) (by have := HLA.out; omega)).mono ?_
                rintro e w7 ⟨g7, cp7, rest7, rfl, hg7, hB7, hb7, hp7⟩
                have HB7 := Lib.hid hB7
                have Hb7 := Lib.hid (Hb.out.trans (hb7.mono Hb.out.size))
                have HG7 : Hid (w.heap.size ≤ g7) := Lib.hid (Nat.le_trans Hb.out.size hg7)
                have HP7 := Lib.hid hp7
                clear hB7 hb7 hg7 hp7
                go_wp2
                refine ⟨⟨n + 1, g7, cp7, rest7, by omega, by go_num, rfl, HG7.out, ?_, Hb7.out, HP7.out⟩, by simp [intOf]; omega⟩
                rw [encN, if_pos hnl, HS.out, HTE.out]
                exact HB7.out
          · go_wp2_with fail
            rw [show ((n : Int) + 1) = ((n + 1 : Nat) : Int) from rfl]
            refine (refAdd_any2 wr gc gt gb gw cap ws (HC.out.below Hb.out) _ T 16 (n + 1) HTL.out (Rd.of_all HT.out) (by have := HLA.out; omega)).mono ?_
            rintro e w7 ⟨g7, cp7, rest7, rfl, hg7, hB7, hb7, hp7⟩
            have HB7 := Lib.hid hB7
            have Hb7 := Lib.hid (Hb.out.trans (hb7.mono Hb.out.size))
            have HG7 : Hid (w.heap.size ≤ g7) := Lib.hid (Nat.le_trans Hb.out.size hg7)
            have HP7 := Lib.hid hp7
            clear hB7 hb7 hg7 hp7
            go_wp2
            refine ⟨⟨n + 1, g7, cp7, rest7, by omega, by go_num, rfl, HG7.out, ?_, Hb7.out, HP7.out⟩, by simp [intOf]; omega⟩
            rw [encN, if_neg hnl, HS.out, HTE.out]
            exact HB7.out
    · obtain rfl : n = last := by omega
      go_wp2
      go_ret
      exact ⟨g, cp, rest, rfl, hg, hB, hb, HP.out⟩
theorem refEncrypt_any (w : World) (gc gt gb gw cap : Nat) (ws : List (List UInt8)) (hC : RefC w gc gt gb gw cap ws) (last : Nat) (hlast : ws.length = 4 * last + 4) (h1 : 1 ≤ last) (A : Option Addr) (l : List UInt8) (c : Nat) (hl : l.length = 16) (hr : Rd w w.heap.size A l) :
    Calls Tryd.prog 42 #[.pointer (some ⟨gc, 0, none⟩), .slice A 16 c] w fun e w' => ∃ g cp rest, e = .returned (.slice (some ⟨g, 0, none⟩) 16 cp) ∧ w.heap.size ≤ g ∧ Blk w' g 5 (u8s (enc (rk ws) last l) ++ rest) ∧ Below w.heap.size w w' := by
  refine (refEncrypt_any2 w gc gt gb gw cap ws hC last hlast h1 A l c hl hr).mono fun e w' he => ?_
  obtain ⟨g, cp, rest, h1, h2, h3, h4, _⟩ := he
  exact ⟨g, cp, rest, h1, h2, h3, h4⟩
end Go.Proofs.YtjhkodmaalefiaaDoor
namespace Go.Proofs.YtjhkodmaalefiaaDoor
open Go.RowKit Go.Gar Go.Gar.Aes

def mixI : Nat → List UInt8 → List UInt8
  | 0, s => s
  | k + 1, s => mix (mixI k s)
theorem mixI_len (k : Nat) (s : List UInt8) (h : s.length = 16) : (mixI k s).length = 16 := by
  cases k with
  | zero => exact h
  | succ k => exact mix_len _
/-- The rows turned back, after k bytes. -/
def un (Z s : List UInt8) : Nat → List UInt8
  | 0 => Z
  | k + 1 => (un Z s k).set ((k + k % 4 * 4) % 16) (ib (at_ s k))
theorem un_len (Z s : List UInt8) (k : Nat) (h : Z.length = 16) : (un Z s k).length = 16 := by
  induction k with
  | zero => exact h
  | succ k ih => rw [un, List.length_set, ih]
theorem un_end (Z s : List UInt8) (hZ : Z.length = 16) (hs : s.length = 16) : un Z s 16 = unshift s := by
  obtain ⟨a0, a1, a2, a3, a4, a5, a6, a7, a8, a9, a10, a11, a12, a13, a14, a15, rfl⟩ := list16 s hs
  obtain ⟨b0, b1, b2, b3, b4, b5, b6, b7, b8, b9, b10, b11, b12, b13, b14, b15, rfl⟩ := list16 Z hZ
  rfl
theorem mix_idx (s : List UInt8) (i : Nat) (h : i < 16) : (mix s)[i]? = some (gm 2 (at_ s i) ^^^ gm 3 (at_ s (i / 4 * 4 + (i % 4 + 1) % 4)) ^^^ at_ s (i / 4 * 4 + (i % 4 + 2) % 4) ^^^ at_ s (i / 4 * 4 + (i % 4 + 3) % 4)) := by
  unfold mix
  rw [st_get _ _ h]
  rfl
theorem cell_turns {w : World} {g gT : Nat} {t : TypeId} {cs : List Value} (h : Blk w g t cs) (hne : g ≠ gT) {i : Nat} {v : Value} (hv : cs[i]? = some v) : ∀ x : Later (turns gT) w, x.to.cell? ⟨g, i, none⟩ = some v := by
  intro x
  have hx : w.grownBy x.to (some gT) := x.grown
  rw [(h.grown hx (by simpa using hne)).cell, hv]
theorem row_at {l : List UInt8} {rest : List Value} {i : Nat} (h : i < l.length) : (u8s l ++ rest)[i]? = some (.int .u8 ((at_ l i).toNat : Int)) := by
  rw [List.getElem?_append_left (by rw [u8s_len]; exact h), u8s_get, at_get h]; rfl

set_option maxHeartbeats 4000000 in
set_option maxRecDepth 100000 in
theorem refDecrypt_any2 (w : World) (gc gt gb gw cap : Nat) (ws : List (List UInt8)) (hC : RefC w gc gt gb gw cap ws) (last : Nat) (hlast : ws.length = 4 * last + 4) (h1 : 1 ≤ last) (A : Option Addr) (l : List UInt8) (c : Nat) (hl : l.length = 16) (hr : Rd w w.heap.size A l) :
    Calls Tryd.prog 50 #[.pointer (some ⟨gc, 0, none⟩), .slice A 16 c] w fun e w' => ∃ g cp rest, e = .returned (.slice (some ⟨g, 0, none⟩) 16 cp) ∧ w.heap.size ≤ g ∧ Blk w' g 5 (u8s (dec (rk ws) last l) ++ rest) ∧ Below w.heap.size w w' ∧ 16 ≤ cp := by
  have hmk : ∀ w : World, (Instr.makeSlice 26 (.int .i64 16) (.int .i64 16)).run Tryd.prog w = .ok (.slice (some ⟨w.heap.size, 0, none⟩) 16 16) (w.alloc (.cells (u8s (List.replicate 16 0)).toArray 5)) := run_make_bytes 16 16 (by omega) (by omega)
  obtain ⟨Z, hZ⟩ : ∃ Z, Z = List.replicate 16 (0 : UInt8) := ⟨_, rfl⟩
  have HZ : Hid (Z.length = 16) := Lib.hid (by rw [hZ]; rfl)
  rw [← hZ] at hmk
  clear hZ
  have hO := own_nil w w.heap.size 5 (Nat.le_refl _)
  have hb0 := below_alloc w (.cells #[] 5)
  obtain ⟨v1, w1, e1, ho1, hb1, _⟩ := app_rd (P := Tryd.prog) 26 26 Tryd.und22 Tryd.info5 hO (by rw [World.size_alloc]; omega) c (hr.below hb0) (by simp [hl])
  rw [List.nil_append] at ho1
  rw [hl] at e1
  obtain ⟨g1, cp1, rest1, rfl, hg1, hcp, hB⟩ := ho1.blk (by omega)
  have HL := Lib.hid hl
  rw [hl] at e1 hcp
  have hlen := hC.len
  have hc2 := hC.at2
  have HC := Lib.hid hC
  have HB1 := Lib.hid hB
  have Hb1 := Lib.hid (hb0.trans hb1)
  have HG1 := Lib.hid hg1
  have HLA := Lib.hid hlast
  clear hb0 hb1 hB ho1 hO hr hC hg1 hl
  have hl14 : last ≤ 14 := by omega
  go_enter Tryd.func50, Tryd.ntmps50
  go_wp2_with (at_builtin; refine wpList_append_run rfl (.tmp 23) (.tmp 24) _ rfl rfl rfl e1 ?_)
  rw [show ((4 * (last : Int) + 4) / 4 - 1) = (last : Int) from by omega]
  clear e1 hlast hlen hc2
  go_loopw [6, 7] (fun s n w' => ∃ n' g cp rest, n' ≤ last ∧ n = .int .i64 (n' : Int) ∧ s = .slice (some ⟨g, 0, none⟩) 16 cp ∧ w.heap.size ≤ g ∧ Blk w' g 5 (u8s (decN (rk ws) last l (last - n')) ++ rest) ∧ Below w.heap.size w w') (fun _ n _ => (intOf n).toNat)
  case atStart => exact ⟨last, g1, cp1, rest1, by omega, rfl, rfl, HG1.out, by rw [Nat.sub_self]; exact HB1.out, Hb1.out⟩
  case round =>
    obtain ⟨n, g, cp, rest, hn, rfl, rfl, hg, hB, hb⟩ := hrel
    clear HB1 Hb1 HG1
    by_cases hlt : 1 ≤ n
    · have hle : decide ((1 : Int) ≤ (n : Int)) = true := by simp; omega
      have HDL := Lib.hid (decN_len (rk ws) last l HL.out (last - n))
      obtain ⟨S, hS⟩ : ∃ S, decN (rk ws) last l (last - n) = S := ⟨_, rfl⟩
      rw [hS] at hB HDL
      have HS := Lib.hid hS
      have HB := Lib.hid hB
      have Hb := Lib.hid hb
      clear hB hb hS hg
      go_wp2_with fail
      refine (refAdd_any wr gc gt gb gw cap ws (HC.out.below Hb.out) _ S cp n HDL.out (Rd.of_row HB.out) (by have := HLA.out; omega)).mono ?_
      rintro e w2 ⟨g2, cp2, rest2, rfl, hg2, hB2, hb2⟩
      have HB2 := Lib.hid hB2
      have Hb2 := Lib.hid (Hb.out.trans (hb2.mono Hb.out.size))
      have HG2 : Hid (w.heap.size ≤ g2) := Lib.hid (Nat.le_trans Hb.out.size hg2)
      have HSL := addK_len S (rk ws n)
      obtain ⟨S1, hS1⟩ : ∃ S1, addK S (rk ws n) = S1 := ⟨_, rfl⟩
      rw [hS1] at HB2 HSL
      have HS1 := Lib.hid hS1
      have HSL1 := Lib.hid HSL
      clear hB2 hb2 hg2 HSL hS1
      have HN : Hid (last - (n - 1) = (last - n) + 1) := Lib.hid (by omega)
      have HNN : Hid (last - (last - n) = n) := Lib.hid (by omega)
      go_wp2
      go_loopw [6, 8] (fun s t w' => ∃ (t' : Nat) (g cp : Nat) (rest : List Value), t' ≤ 3 ∧ (n < last ∨ t' = 0) ∧ t = .int .i64 (t' : Int) ∧ s = .slice (some ⟨g, 0, none⟩) 16 cp ∧ w.heap.size ≤ g ∧ Blk w' g 5 (u8s (mixI t' S1) ++ rest) ∧ Below w.heap.size w w') (fun _ t _ => 3 - (intOf t).toNat)
      case atStart => exact ⟨0, g2, cp2, rest2, by omega, .inr rfl, rfl, rfl, HG2.out, HB2.out, Hb2.out⟩
      case round =>
        obtain ⟨t, g3, cp3, rest3, ht, hor, rfl, rfl, hg3, hB3, hb3⟩ := hrel
        have HB := Lib.hid hB3
        have Hb := Lib.hid hb3
        have HG3 := Lib.hid hg3
        clear hB3 hb3 hg3 HB2 Hb2 HG2
        by_cases hnl : n < last
        · have hd2 : decide ((n : Int) < (last : Int)) = true := by simp; omega
          by_cases ht3 : t < 3
          · have hd1 : decide ((t : Int) < 3) = true := by simp; omega
            have HMX := mixI_len t S1 HSL1.out
            obtain ⟨S2, hS2⟩ : ∃ S2, mixI t S1 = S2 := ⟨_, rfl⟩
            rw [hS2] at HB HMX
            have HS2 := Lib.hid hS2
            have HSL2 := Lib.hid HMX
            have hm := hmk wr
            have HB5 := Lib.hid (HB.out.alloc (.cells (u8s Z).toArray 5))
            have HT5 := Lib.hid (Blk.new wr 5 (u8s Z))
            have Hb5 := Lib.hid (Hb.out.alloc Hb.out.size (.cells (u8s Z).toArray 5))
            have hne : g3 ≠ wr.heap.size := by have := HB.out.lt; omega
            have HGT := Lib.hid Hb.out.size
            clear hmk HB Hb hS2 HMX
            generalize wr.alloc (.cells (u8s Z).toArray 5) = w5 at *
            generalize wr.heap.size = gT at *
            go_wp2
            go_loopw [10] (fun i w' => ∃ k : Nat, k ≤ 16 ∧ i = .int .i64 (k : Int) ∧ Blk w' gT 5 (u8s (prog Z (mix S2) k)) ∧ Blk w' g3 5 (u8s S2 ++ rest3) ∧ Below w.heap.size w w') (fun i _ => 16 - (intOf i).toNat)
            case atStart => exact ⟨0, by omega, rfl, by rw [prog_0]; exact HT5.out, HB5.out, Hb5.out⟩
            case round =>
              obtain ⟨k, hk, rfl, hT, hB, hb⟩ := hrel
              clear HB5 HT5 Hb5
              have hML : (mix S2).length = Z.length := by rw [mix_len, HZ.out]
              by_cases hk16 : k < 16
              · have hs2 := HSL2.out
                have hmi := mix_idx S2 k hk16
                have p0 := prog_set Z (mix S2) k _ hML hmi
                have P0 := Lib.hid p0
                clear p0 hmi
                have HTa := Lib.hid hT.drew
                have HBa := Lib.hid hB.drew
                have Hba := Lib.hid hb.drew
                clear hT hB hb
                go_wp2
                refine wp_region_G (turns gT) (by kernel_rfl) ?_
                generalize wr.drew = wa at *
                have q0 := cell_turns HBa.out hne (row_at (i := k) (by omega))
                have q1 := cell_turns HBa.out hne (row_at (i := k / 4 * 4 + (k % 4 + 1) % 4) (by omega))
                have q2 := cell_turns HBa.out hne (row_at (i := k / 4 * 4 + (k % 4 + 2) % 4) (by omega))
                have q3 := cell_turns HBa.out hne (row_at (i := k / 4 * 4 + (k % 4 + 3) % 4) (by omega))
                generalize at_ S2 k = a at *
                generalize at_ S2 (k / 4 * 4 + (k % 4 + 1) % 4) = b at *
                generalize at_ S2 (k / 4 * 4 + (k % 4 + 2) % 4) = cc at *
                generalize at_ S2 (k / 4 * 4 + (k % 4 + 3) % 4) = d at *
                rw [Nat.mod_add_mod] at q1 q2 q3
                have a8 := a.toNat_lt
                have b8 := b.toNat_lt
                have c8 := cc.toNat_lt
                have d8 := d.toNat_lt
                refine segG (by kernel_rfl) (fun _ _ _ _ _ h => h) [0, 1, 2, 3, 4, 5, 7, 8, 9, 10, 11, 12, 13, 14, 17, 18, 19, 20, 21, 22, 23, 24, 26, 27, 28, 29, 30, 31, 32, 33] [_, _, _, _, _, _, _, _, _, _, _, _, _, _, _, _, _, _, _, _, _, _, _, _, _, _, _, _, _, _] 7 rfl rfl (by kernel_rfl) ?_
                repeat (go_big_quiet_step (fail))
                refine wpQuiet_nil ?_
                clear q0 q1 q2 q3
                refine oneG 6 6 rfl (by kernel_rfl) rfl ?_
                go_wp2_with fail
                refine (refMul_byte 2 a _ _ rfl rfl _).mono ?_
                rintro e w6 ⟨rfl, rfl⟩
                go_wp2
                refine ⟨(turns gT).refl _, ?_⟩
                refine oneG 15 5 rfl (by kernel_rfl) rfl ?_
                go_wp2_with fail
                refine (refMul_byte 3 b _ _ rfl rfl _).mono ?_
                rintro e w7 ⟨rfl, rfl⟩
                go_wp2
                refine ⟨(turns gT).refl _, ?_⟩
                refine segG (by kernel_rfl) (fun _ _ _ _ _ h => h) [16, 25, 34, 35] [_, _, _, _] 1 rfl rfl (by kernel_rfl) ?_
                repeat (go_big_quiet_step (fail))
                refine wpQuiet_nil ?_
                rw [xor_byte, xor_byte, xor_byte]
                generalize gm 2 a ^^^ gm 3 b ^^^ cc ^^^ d = x0 at P0 ⊢
                have hc0 := HTa.out.cell k
                rw [List.getElem?_eq_getElem (by rw [u8s_len, prog_len _ _ _ hML, HZ.out]; omega)] at hc0
                generalize (u8s (prog Z (mix S2) k))[k]'(by rw [u8s_len, prog_len _ _ _ hML, HZ.out]; omega) = v0 at hc0
                have hf0 := HTa.out.frozen k
                have hSt := HTa.out.set_ k (.int .u8 (x0.toNat : Int))
                rw [u8s_set, P0.out] at hSt
                have HSt := Lib.hid hSt
                have HBx := Lib.hid (HBa.out.far (p := ⟨gT, k, none⟩) hne (.int .u8 (x0.toNat : Int)))
                have Hbx := Lib.hid (Hba.out.setCell (p := ⟨gT, k, none⟩) HGT.out (.int .u8 (x0.toNat : Int)))
                clear hSt P0 HTa HBa Hba
                refine lateG 36 0 rfl (by kernel_rfl) (by kernel_rfl) rfl ?_
                go_wp2
                refine ⟨trivial, ?_⟩
                refine wpAnyG_done (by kernel_rfl) ?_
                go_wp2
                exact ⟨⟨k + 1, by omega, by go_num, HSt.out, HBx.out, Hbx.out⟩, by simp [intOf]; omega⟩
              · have hkd : decide ((k : Int) < 16) = false := by simp; omega
                have H16 : Hid (k = 16) := Lib.hid (by omega)
                rw [prog_end _ _ _ (by rw [HZ.out]; exact H16.out) (by rw [mix_len]; exact H16.out)] at hT
                go_wp2
                refine ⟨⟨t + 1, gT, 16, [], by omega, .inl hnl, by go_num, rfl, HGT.out, ?_, hb⟩, by simp [intOf]; omega⟩
                rw [List.append_nil, mixI, HS2.out]
                exact hT
          · have hd1 : decide ((t : Int) < 3) = false := by simp; omega
            obtain ⟨S2, hS2⟩ : ∃ S2, mix3 S1 = S2 := ⟨_, rfl⟩
            have HS2 := Lib.hid hS2
            have HT3 : Hid (mixI t S1 = S2) := Lib.hid (by obtain rfl : t = 3 := by omega
                                                           exact hS2)
            have HSL2 : Hid (S2.length = 16) := Lib.hid (by rw [← hS2]; exact mix_len _)
            rw [HT3.out] at HB
            clear hS2
            have hm := hmk wr
            have HB5 := Lib.hid (HB.out.alloc (.cells (u8s Z).toArray 5))
            have HT5 := Lib.hid (Blk.new wr 5 (u8s Z))
            have Hb5 := Lib.hid (Hb.out.alloc Hb.out.size (.cells (u8s Z).toArray 5))
            have hne : g3 ≠ wr.heap.size := by have := HB.out.lt; omega
            have HGT := Lib.hid Hb.out.size
            clear hmk HB Hb
            generalize wr.alloc (.cells (u8s Z).toArray 5) = w5 at *
            generalize wr.heap.size = gT at *
            go_wp2
            go_loopw [14] (fun i w' => ∃ col : Nat, col ≤ 4 ∧ i = .int .i64 (col : Int) ∧ Blk w' gT 5 (u8s (un Z S2 (4 * col))) ∧ Blk w' g3 5 (u8s S2 ++ rest3) ∧ Below w.heap.size w w') (fun i _ => 4 - (intOf i).toNat)
            case atStart => exact ⟨0, by omega, rfl, HT5.out, HB5.out, Hb5.out⟩
            case round =>
              obtain ⟨col, hcol, rfl, hT, hB, hb⟩ := hrel
              clear HB5 HT5 Hb5
              by_cases hc4 : col < 4
              · have HT := Lib.hid hT
                have HB := Lib.hid hB
                have Hb := Lib.hid hb
                clear hT hB hb
                go_wp2
                go_loopw [15] (fun i w' => ∃ r : Nat, r ≤ 4 ∧ i = .int .i64 (r : Int) ∧ Blk w' gT 5 (u8s (un Z S2 (4 * col + r))) ∧ Blk w' g3 5 (u8s S2 ++ rest3) ∧ Below w.heap.size w w') (fun i _ => 4 - (intOf i).toNat)
                case atStart => exact ⟨0, by omega, rfl, HT.out, HB.out, Hb.out⟩
                case round =>
                  obtain ⟨r, hr4, rfl, hT, hB, hb⟩ := hrel
                  clear HB HT Hb
                  by_cases hr : r < 4
                  · have hC2 := HC.out.below hb
                    have hc1 := row_get hB (at_get (i := 4 * col + r) (by rw [HSL2.out]; omega))
                    have hc2 := hC2.at1
                    have hc3 := blk_byte hC2.back (backB_byte (at_ S2 (4 * col + r)))
                    have hix : (4 * col + r + (4 * col + r) % 4 * 4) % 16 = 4 * ((col + r) % 4) + r := by omega
                    have hf := hT.frozen (4 * ((col + r) % 4) + r)
                    obtain ⟨v0, hcs⟩ : ∃ v0, wr.cell? ⟨gT, 4 * ((col + r) % 4) + r, none⟩ = some v0 := ⟨_, by
                      rw [hT.cell, List.getElem?_eq_getElem (by rw [u8s_len, un_len _ _ _ HZ.out]; omega)]⟩
                    have hSt := hT.set_ (4 * ((col + r) % 4) + r) (.int .u8 ((ib (at_ S2 (4 * col + r))).toNat : Int))
                    rw [u8s_set] at hSt
                    have hun : (un Z S2 (4 * col + r)).set (4 * ((col + r) % 4) + r) (ib (at_ S2 (4 * col + r))) = un Z S2 (4 * col + (r + 1)) := by
                      rw [← hix]; rfl
                    rw [hun] at hSt
                    have HSt := Lib.hid hSt
                    have HB := Lib.hid (hB.far (p := ⟨gT, 4 * ((col + r) % 4) + r, none⟩) hne (.int .u8 ((ib (at_ S2 (4 * col + r))).toNat : Int)))
                    have Hb := Lib.hid (hb.setCell (p := ⟨gT, 4 * ((col + r) % 4) + r, none⟩) HGT.out (.int .u8 ((ib (at_ S2 (4 * col + r))).toNat : Int)))
                    have hx8 := (at_ S2 (4 * col + r)).toNat_lt
                    have hy8 := (ib (at_ S2 (4 * col + r))).toNat_lt
                    clear hSt hT hB hb hC2 hun hix
                    generalize (ib (at_ S2 (4 * col + r))).toNat = yn at *
                    generalize (at_ S2 (4 * col + r)).toNat = xn at *
                    go_wp2
                    go_region
                    go_wp2
                    exact ⟨⟨r + 1, by omega, by go_num, HSt.out.drew, HB.out.drew, Hb.out.drew⟩, by simp [intOf]; omega⟩
                  · have H4 : Hid (4 * col + r = 4 * (col + 1)) := Lib.hid (by omega)
                    rw [H4.out] at hT
                    go_wp2
                    exact ⟨⟨col + 1, by omega, by go_num, hT, hB, hb⟩, by simp [intOf]; omega⟩
              · have H4 : Hid (4 * col = 16) := Lib.hid (by omega)
                rw [H4.out, un_end _ _ HZ.out HSL2.out] at hT
                go_wp2
                refine ⟨⟨n - 1, gT, 16, [], by omega, by go_num, rfl, HGT.out, ?_, hb⟩, by simp [intOf]; omega⟩
                rw [List.append_nil, HN.out, decN, HNN.out, HS.out, HS1.out, if_pos hnl, HS2.out]
                exact hT
        · have hd2 : decide ((n : Int) < (last : Int)) = false := by simp; omega
          obtain rfl : t = 0 := by omega
          have hd1 : decide (((0 : Nat) : Int) < 3) = true := by simp
          obtain ⟨S2, hS2⟩ : ∃ S2, S1 = S2 := ⟨_, rfl⟩
          have HS2 := Lib.hid hS2
          have HSL2 : Hid (S2.length = 16) := Lib.hid (by rw [← hS2]; exact HSL1.out)
          have HT3 : Hid (mixI 0 S1 = S2) := Lib.hid hS2
          rw [HT3.out] at HB
          clear hS2
          have hm := hmk wr
          have HB5 := Lib.hid (HB.out.alloc (.cells (u8s Z).toArray 5))
          have HT5 := Lib.hid (Blk.new wr 5 (u8s Z))
          have Hb5 := Lib.hid (Hb.out.alloc Hb.out.size (.cells (u8s Z).toArray 5))
          have hne : g3 ≠ wr.heap.size := by have := HB.out.lt; omega
          have HGT := Lib.hid Hb.out.size
          clear hmk HB Hb
          generalize wr.alloc (.cells (u8s Z).toArray 5) = w5 at *
          generalize wr.heap.size = gT at *
          go_wp2
          go_loopw [14] (fun i w' => ∃ col : Nat, col ≤ 4 ∧ i = .int .i64 (col : Int) ∧ Blk w' gT 5 (u8s (un Z S2 (4 * col))) ∧ Blk w' g3 5 (u8s S2 ++ rest3) ∧ Below w.heap.size w w') (fun i _ => 4 - (intOf i).toNat)
          case atStart => exact ⟨0, by omega, rfl, HT5.out, HB5.out, Hb5.out⟩
          case round =>
            obtain ⟨col, hcol, rfl, hT, hB, hb⟩ := hrel
            clear HB5 HT5 Hb5
            by_cases hc4 : col < 4
            · have HT := Lib.hid hT
              have HB := Lib.hid hB
              have Hb := Lib.hid hb
              clear hT hB hb
              go_wp2
              go_loopw [15] (fun i w' => ∃ r : Nat, r ≤ 4 ∧ i = .int .i64 (r : Int) ∧ Blk w' gT 5 (u8s (un Z S2 (4 * col + r))) ∧ Blk w' g3 5 (u8s S2 ++ rest3) ∧ Below w.heap.size w w') (fun i _ => 4 - (intOf i).toNat)
              case atStart => exact ⟨0, by omega, rfl, HT.out, HB.out, Hb.out⟩
              case round =>
                obtain ⟨r, hr4, rfl, hT, hB, hb⟩ := hrel
                clear HB HT Hb
                by_cases hr : r < 4
                · have hC2 := HC.out.below hb
                  have hc1 := row_get hB (at_get (i := 4 * col + r) (by rw [HSL2.out]; omega))
                  have hc2 := hC2.at1
                  have hc3 := blk_byte hC2.back (backB_byte (at_ S2 (4 * col + r)))
                  have hix : (4 * col + r + (4 * col + r) % 4 * 4) % 16 = 4 * ((col + r) % 4) + r := by omega
                  have hf := hT.frozen (4 * ((col + r) % 4) + r)
                  obtain ⟨v0, hcs⟩ : ∃ v0, wr.cell? ⟨gT, 4 * ((col + r) % 4) + r, none⟩ = some v0 := ⟨_, by
                    rw [hT.cell, List.getElem?_eq_getElem (by rw [u8s_len, un_len _ _ _ HZ.out]; omega)]⟩
                  have hSt := hT.set_ (4 * ((col + r) % 4) + r) (.int .u8 ((ib (at_ S2 (4 * col + r))).toNat : Int))
                  rw [u8s_set] at hSt
                  have hun : (un Z S2 (4 * col + r)).set (4 * ((col + r) % 4) + r) (ib (at_ S2 (4 * col + r))) = un Z S2 (4 * col + (r + 1)) := by
                    rw [← hix]; rfl
                  rw [hun] at hSt
                  have HSt := Lib.hid hSt
                  have HB := Lib.hid (hB.far (p := ⟨gT, 4 * ((col + r) % 4) + r, none⟩) hne (.int .u8 ((ib (at_ S2 (4 * col + r))).toNat : Int)))
                  have Hb := Lib.hid (hb.setCell (p := ⟨gT, 4 * ((col + r) % 4) + r, none⟩) HGT.out (.int .u8 ((ib (at_ S2 (4 * col + r))).toNat : Int)))
                  have hx8 := (at_ S2 (4 * col + r)).toNat_lt
                  have hy8 := (ib (at_ S2 (4 * col + r))).toNat_lt
                  clear hSt hT hB hb hC2 hun hix
                  generalize (ib (at_ S2 (4 * col + r))).toNat = yn at *
                  generalize (at_ S2 (4 * col + r)).toNat = xn at *
                  go_wp2
                  go_region
                  go_wp2
                  exact ⟨⟨r + 1, by omega, by go_num, HSt.out.drew, HB.out.drew, Hb.out.drew⟩, by simp [intOf]; omega⟩
                · have H4 : Hid (4 * col + r = 4 * (col + 1)) := Lib.hid (by omega)
                  rw [H4.out] at hT
                  go_wp2
                  exact ⟨⟨col + 1, by omega, by go_num, hT, hB, hb⟩, by simp [intOf]; omega⟩
            · have H4 : Hid (4 * col = 16) := Lib.hid (by omega)
              rw [H4.out, un_end _ _ HZ.out HSL2.out] at hT
              go_wp2
              refine ⟨⟨n - 1, gT, 16, [], by omega, by go_num, rfl, HGT.out, ?_, hb⟩, by simp [intOf]; omega⟩
              rw [List.append_nil, HN.out, decN, HNN.out, HS.out, HS1.out, if_neg hnl, HS2.out]
              exact hT
    · obtain rfl : n = 0 := by omega
      rw [Nat.sub_zero] at hB
      go_wp2_with fail
      refine (refAdd_any2 wr gc gt gb gw cap ws (HC.out.below hb) _ _ cp 0 (decN_len (rk ws) last l HL.out last) (Rd.of_row hB) (by have := HLA.out; omega)).mono ?_
      rintro e w2 ⟨g2, cp2, rest2, rfl, hg2, hB2, hb2, hp2⟩
      have HP2 := Lib.hid hp2
      clear hp2
      have HB2 := Lib.hid hB2
      have Hb2 := Lib.hid (hb.trans (hb2.mono hb.size))
      have HG2 : Hid (w.heap.size ≤ g2) := Lib.hid (Nat.le_trans hb.size hg2)
      clear hB2 hb2 hg2
      go_wp2
      go_ret
      exact ⟨g2, cp2, rest2, rfl, HG2.out, HB2.out, Hb2.out, HP2.out⟩
theorem refDecrypt_any (w : World) (gc gt gb gw cap : Nat) (ws : List (List UInt8)) (hC : RefC w gc gt gb gw cap ws) (last : Nat) (hlast : ws.length = 4 * last + 4) (h1 : 1 ≤ last) (A : Option Addr) (l : List UInt8) (c : Nat) (hl : l.length = 16) (hr : Rd w w.heap.size A l) :
    Calls Tryd.prog 50 #[.pointer (some ⟨gc, 0, none⟩), .slice A 16 c] w fun e w' => ∃ g cp rest, e = .returned (.slice (some ⟨g, 0, none⟩) 16 cp) ∧ w.heap.size ≤ g ∧ Blk w' g 5 (u8s (dec (rk ws) last l) ++ rest) ∧ Below w.heap.size w w' := by
  refine (refDecrypt_any2 w gc gt gb gw cap ws hC last hlast h1 A l c hl hr).mono fun e w' he => ?_
  obtain ⟨g, cp, rest, h1, h2, h3, h4, _⟩ := he
  exact ⟨g, cp, rest, h1, h2, h3, h4⟩
end Go.Proofs.YtjhkodmaalefiaaDoor
