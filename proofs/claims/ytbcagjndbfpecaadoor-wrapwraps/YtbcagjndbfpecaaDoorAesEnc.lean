/-
  The reference's Encrypt: a contract.
-/
import Derived.Test.YtbcagjndbfpecaaDoorAesLem
namespace Go.Proofs.YtbcagjndbfpecaaDoor
open Go.RowKit Go.Gar Go.Gar.Aes

set_option maxHeartbeats 4000000 in
set_option maxRecDepth 100000 in
theorem refEncrypt_any2 (w : World) (gc gt gb gw cap : Nat) (ws : List (List UInt8)) (hC : RefC w gc gt gb gw cap ws) (last : Nat) (hlast : ws.length = 4 * last + 4) (h1 : 1 ≤ last) (A : Option Addr) (l : List UInt8) (c : Nat) (hl : l.length = 16) (hr : Rd w w.heap.size A l) :
    Calls Tryd.prog 17 #[.pointer (some ⟨gc, 0, none⟩), .slice A 16 c] w fun e w' => ∃ g cp rest, e = .returned (.slice (some ⟨g, 0, none⟩) 16 cp) ∧ w.heap.size ≤ g ∧ Blk w' g 5 (u8s (enc (rk ws) last l) ++ rest) ∧ Below w.heap.size w w' ∧ 16 ≤ cp := by
  have hmk : ∀ w : World, (Instr.makeSlice 22 (.int .i64 16) (.int .i64 16)).run Tryd.prog w = .ok (.slice (some ⟨w.heap.size, 0, none⟩) 16 16) (w.alloc (.cells (u8s (List.replicate 16 0)).toArray 5)) := run_make_bytes 16 16 (by omega) (by omega)
  obtain ⟨Z, hZ⟩ : ∃ Z, Z = List.replicate 16 (0 : UInt8) := ⟨_, rfl⟩
  have HZ : Hid (Z.length = 16) := Lib.hid (by rw [hZ]; rfl)
  rw [← hZ] at hmk
  clear hZ
  have hlen := hC.len
  have hc2 := hC.at2
  have HC := Lib.hid hC
  have HL := Lib.hid hl
  have HLA := Lib.hid hlast
  go_enter Tryd.func17, Tryd.ntmps17
  go_wp2_with fail
  refine (refAdd_any2 w gc gt gb gw cap ws hC A l c 0 hl hr (by omega)).mono ?_
  rintro e w1 ⟨g1, cp1, rest1, rfl, hg1, hB1, hb1, hp1⟩
  have HP1 := Lib.hid hp1
  clear hp1
  have HB1 := Lib.hid hB1
  have Hb1 := Lib.hid hb1
  have HG1 := Lib.hid hg1
  clear hB1 hb1 hg1 hC hr hl hc2
  have hl14 : last ≤ 14 := by omega
  go_wp2
  rw [show ((4 * (last : Int) + 4) / 4 - 1) = (last : Int) from by omega]
  clear hlast hlen
  go_loopw [6, 7] (fun s n w' => ∃ n' g cp rest, n' ≤ last ∧ n = .int .i64 ((n' : Int) + 1) ∧ s = .slice (some ⟨g, 0, none⟩) 16 cp ∧ w.heap.size ≤ g ∧ Blk w' g 5 (u8s (encN (rk ws) last l n') ++ rest) ∧ Below w.heap.size w w' ∧ 16 ≤ cp) (fun _ n _ => last + 1 - (intOf n).toNat)
  case atStart => exact ⟨0, g1, cp1, rest1, by omega, rfl, rfl, HG1.out, HB1.out, Hb1.out, HP1.out⟩
  case round =>
    obtain ⟨n, g, cp, rest, hn, rfl, rfl, hg, hB, hb, hp⟩ := hrel
    have HP := Lib.hid hp
    clear HB1 Hb1 HG1 HP1 hp
    by_cases hlt : n < last
    · have hle : decide ((n : Int) + 1 ≤ (last : Int)) = true := by simp; omega
      obtain ⟨S, hS⟩ : ∃ S, encN (rk ws) last l n = S := ⟨_, rfl⟩
      have HSL : Hid (S.length = 16) := Lib.hid (by rw [← hS]; exact encN_len _ _ _ _)
      rw [hS] at hB
      have HB2 := Lib.hid (hB.alloc (.cells (u8s Z).toArray 5))
      have HT2 := Lib.hid (Blk.new wr 5 (u8s Z))
      have Hb2 := Lib.hid (hb.alloc hb.size (.cells (u8s Z).toArray 5))
      have hGT := hb.size
      have hne : g ≠ wr.heap.size := by have := hB.lt; omega
      have HS := Lib.hid hS
      have HG := Lib.hid hg
      have hm := hmk wr
      clear hB hb hS hg hmk
      generalize wr.alloc (.cells (u8s Z).toArray 5) = w2 at *
      generalize wr.heap.size = gT at *
      have HGT := Lib.hid hGT
      clear hGT
      go_wp2
      go_loopw [9] (fun i w' => ∃ col : Nat, col ≤ 4 ∧ i = .int .i64 (col : Int) ∧ Blk w' gT 5 (u8s (prog Z (shift S) (4 * col))) ∧ Blk w' g 5 (u8s S ++ rest) ∧ Below w.heap.size w w') (fun i _ => 4 - (intOf i).toNat)
      case atStart => exact ⟨0, by omega, rfl, by rw [prog_0]; exact HT2.out, HB2.out, Hb2.out⟩
      case round =>
        obtain ⟨col, hcol, rfl, hT, hB, hb⟩ := hrel
        clear HB2 HT2 Hb2
        by_cases hc4 : col < 4
        · have HT := Lib.hid hT
          have HB := Lib.hid hB
          have Hb := Lib.hid hb
          clear hT hB hb
          go_wp2
          go_loopw [10] (fun i w' => ∃ r : Nat, r ≤ 4 ∧ i = .int .i64 (r : Int) ∧ Blk w' gT 5 (u8s (prog Z (shift S) (4 * col + r))) ∧ Blk w' g 5 (u8s S ++ rest) ∧ Below w.heap.size w w') (fun i _ => 4 - (intOf i).toNat)
          case atStart => exact ⟨0, by omega, rfl, HT.out, HB.out, Hb.out⟩
          case round =>
            obtain ⟨r, hr4, rfl, hT, hB, hb⟩ := hrel
            clear HB HT Hb
            have hZL : (shift S).length = Z.length := by rw [shift_len, HZ.out]
            by_cases hr : r < 4
            · have hC2 := HC.out.below hb
              obtain ⟨j, hj⟩ : ∃ j, 4 * ((col + r) % 4) + r = j := ⟨_, rfl⟩
              have hj16 : j < 16 := by omega
              have hc1 := row_get hB (at_get (i := j) (by rw [HSL.out]; exact hj16))
              have hc2 := hC2.at0
              have hc3 := blk_byte hC2.there (sboxB_byte (at_ S j))
              have hsh := shift_idx S col r hc4 hr
              rw [hj] at hsh
              have hf := hT.frozen (4 * col + r)
              obtain ⟨v0, hcs⟩ : ∃ v0, wr.cell? ⟨gT, 4 * col + r, none⟩ = some v0 := ⟨_, by
                rw [hT.cell, List.getElem?_eq_getElem (by rw [u8s_len, prog_len _ _ _ hZL, HZ.out]; omega)]⟩
              have hSt := hT.set_ (4 * col + r) (.int .u8 ((sb (at_ S j)).toNat : Int))
              rw [u8s_set, prog_set _ _ _ _ hZL hsh] at hSt
              have HSt := Lib.hid hSt
              have HB := Lib.hid (hB.far (p := ⟨gT, 4 * col + r, none⟩) hne (.int .u8 ((sb (at_ S j)).toNat : Int)))
              have Hb := Lib.hid (hb.setCell (p := ⟨gT, 4 * col + r, none⟩) HGT.out (.int .u8 ((sb (at_ S j)).toNat : Int)))
              have hx8 := (at_ S j).toNat_lt
              have hy8 := (sb (at_ S j)).toNat_lt
              clear hSt hT hB hb hC2 hsh
              generalize (sb (at_ S j)).toNat = yn at *
              generalize (at_ S j).toNat = xn at *
              rw [← hj] at hc1
              clear hj16 hj
              go_wp2
              go_region
              go_wp2
              exact ⟨⟨r + 1, by omega, by go_num, HSt.out.drew, HB.out.drew, Hb.out.drew⟩, by simp [intOf]; omega⟩
            · obtain rfl : r = 4 := by omega
              go_wp2
              exact ⟨⟨col + 1, by omega, by go_num, hT, hB, hb⟩, by simp [intOf]; omega⟩
        · have hcd : decide ((col : Int) < 4) = false := by simp; omega
          have H4 : Hid (4 * col = 16) := Lib.hid (by omega)
          rw [H4.out, prog_end _ _ _ HZ.out.symm (by rw [shift_len])] at hT
          have HTl := shift_len S
          obtain ⟨T, hTe⟩ : ∃ T, shift S = T := ⟨_, rfl⟩
          rw [hTe] at hT HTl
          have HTL := Lib.hid HTl
          have HTE := Lib.hid hTe
          have HT := Lib.hid hT
          have Hb := Lib.hid hb
          clear hT hb hB HTl hTe hm hne
          by_cases hnl : n + 1 < last
          · have hnd : decide ((n : Int) + 1 < (last : Int)) = true := by simp; omega
            go_wp2
            go_loopw [11] (fun i w' => ∃ col : Nat, col ≤ 4 ∧ i = .int .i64 (col : Int) ∧ Blk w' gT 5 (u8s (prog T (mix T) (4 * col))) ∧ Below w.heap.size w w') (fun i _ => 4 - (intOf i).toNat)
            case atStart => exact ⟨0, by omega, rfl, by rw [prog_0]; exact HT.out, Hb.out⟩
            case round =>
              obtain ⟨col, hcol, rfl, hT, hb⟩ := hrel
              clear HT Hb
              have hML : (mix T).length = T.length := by rw [mix_len, HTL.out]
              by_cases hc4 : col < 4
              · have hTl := HTL.out
                have k0 := blk_byte hT (prog_later T (mix T) (4 * col) (4 * col) hML (by omega) (by omega))
                have k1 := blk_byte hT (prog_later T (mix T) (4 * col) (4 * col + 1) hML (by omega) (by omega))
                have k2 := blk_byte hT (prog_later T (mix T) (4 * col) (4 * col + 2) hML (by omega) (by omega))
                have k3 := blk_byte hT (prog_later T (mix T) (4 * col) (4 * col + 3) hML (by omega) (by omega))
                obtain ⟨m0, m1, m2, m3⟩ := mixcol T col hc4
                have p0 := prog_set T (mix T) (4 * col) _ hML m0
                have p1 := prog_set T (mix T) (4 * col + 1) _ hML m1
                have p2 := prog_set T (mix T) (4 * col + 2) _ hML m2
                have p3 := prog_set T (mix T) (4 * col + 3) _ hML m3
                clear m0 m1 m2 m3
                generalize at_ T (4 * col) = a at *
                generalize at_ T (4 * col + 1) = b at *
                generalize at_ T (4 * col + 2) = cc at *
                generalize at_ T (4 * col + 3) = d at *
                have f0 := hT.frozen (4 * col)
                have f1 := hT.frozen (4 * col + 1)
                have f2 := hT.frozen (4 * col + 2)
                have f3 := hT.frozen (4 * col + 3)
                have HT5 : Hid (Blk wr.drew gT 5 (u8s (prog T (mix T) (4 * col)))) := Lib.hid hT
                have Hb5 := Lib.hid hb.drew
                have P0 := Lib.hid p0
                have P1 := Lib.hid p1
                have P2 := Lib.hid p2
                have P3 := Lib.hid p3
                clear hT hb p0 p1 p2 p3
                have q0 : wr.drew.cell? ⟨gT, 4 * col, none⟩ = some (.int .u8 (a.toNat : Int)) := k0
                have q1 : wr.drew.cell? ⟨gT, 4 * col + 1, none⟩ = some (.int .u8 (b.toNat : Int)) := k1
                have q2 : wr.drew.cell? ⟨gT, 4 * col + 2, none⟩ = some (.int .u8 (cc.toNat : Int)) := k2
                have q3 : wr.drew.cell? ⟨gT, 4 * col + 3, none⟩ = some (.int .u8 (d.toNat : Int)) := k3
                have g0 : wr.drew.frozen? ⟨gT, 4 * col, none⟩ = false := f0
                have g1 : wr.drew.frozen? ⟨gT, 4 * col + 1, none⟩ = false := f1
                have g2 : wr.drew.frozen? ⟨gT, 4 * col + 2, none⟩ = false := f2
                have g3 : wr.drew.frozen? ⟨gT, 4 * col + 3, none⟩ = false := f3
                have a8 := a.toNat_lt
                have b8 := b.toNat_lt
                have c8 := cc.toNat_lt
                have d8 := d.toNat_lt
                go_wp2
                go_region
                clear k0 k1 k2 k3 f0 f1 f2 f3
                generalize wr.drew = w5 at *
                go_wp2_with fail
                refine (refMul_byte 2 a _ _ rfl rfl _).mono ?_
                rintro e w6 ⟨rfl, rfl⟩
                go_wp2_with fail
                refine (refMul_byte 3 b _ _ rfl rfl _).mono ?_
                rintro e w6 ⟨rfl, rfl⟩
                go_wp2_with fail
                rw [xor_byte, xor_byte, xor_byte]
                generalize gm 2 a ^^^ gm 3 b ^^^ cc ^^^ d = x0 at P0 ⊢
                refine (refMul_byte 2 b _ _ rfl rfl _).mono ?_
                rintro e w6 ⟨rfl, rfl⟩
                go_wp2_with fail
                refine (refMul_byte 3 cc _ _ rfl rfl _).mono ?_
                rintro e w6 ⟨rfl, rfl⟩
                go_wp2_with fail
                rw [xor_byte, xor_byte, xor_byte]
                generalize a ^^^ gm 2 b ^^^ gm 3 cc ^^^ d = x1 at P1 ⊢
                refine (refMul_byte 2 cc _ _ rfl rfl _).mono ?_
                rintro e w6 ⟨rfl, rfl⟩
                go_wp2_with fail
                refine (refMul_byte 3 d _ _ rfl rfl _).mono ?_
                rintro e w6 ⟨rfl, rfl⟩
                go_wp2_with fail
                rw [xor_byte, xor_byte, xor_byte]
                generalize a ^^^ b ^^^ gm 2 cc ^^^ gm 3 d = x2 at P2 ⊢
                refine (refMul_byte 3 a _ _ rfl rfl _).mono ?_
                rintro e w6 ⟨rfl, rfl⟩
                go_wp2_with fail
                refine (refMul_byte 2 d _ _ rfl rfl _).mono ?_
                rintro e w6 ⟨rfl, hw⟩
                have h0 := HT5.out.set_ (4 * col) (.int .u8 (x0.toNat : Int))
                rw [u8s_set, P0.out] at h0
                have h1 := h0.set_ (4 * col + 1) (.int .u8 (x1.toNat : Int))
                rw [u8s_set, P1.out] at h1
                have h2 := h1.set_ (4 * col + 2) (.int .u8 (x2.toNat : Int))
                rw [u8s_set, P2.out] at h2
                have h3 := h2.set_ (4 * col + 3) (.int .u8 ((gm 3 a ^^^ b ^^^ cc ^^^ gm 2 d).toNat : Int))
                rw [u8s_set, P3.out] at h3
                have Hb6 := Lib.hid ((((Hb5.out.setCell (p := ⟨gT, 4 * col, none⟩) HGT.out (.int .u8 (x0.toNat : Int))).setCell (p := ⟨gT, 4 * col + 1, none⟩) HGT.out (.int .u8 (x1.toNat : Int))).setCell (p := ⟨gT, 4 * col + 2, none⟩) HGT.out (.int .u8 (x2.toNat : Int))).setCell (p := ⟨gT, 4 * col + 3, none⟩) HGT.out (.int .u8 ((gm 3 a ^^^ b ^^^ cc ^^^ gm 2 d).toNat : Int)))
                have H3 := Lib.hid h3
                have hf3 := h2.frozen (4 * col + 3)
                have hc3 := h2.cell (4 * col + 3)
                rw [List.getElem?_eq_getElem (by rw [u8s_len, prog_len _ _ _ hML, hTl]; omega)] at hc3
                generalize (u8s (prog T (mix T) (4 * col + 2 + 1)))[4 * col + 3]'(by rw [u8s_len, prog_len _ _ _ hML, hTl]; omega) = v3 at hc3
                clear h0 h1 h2 h3
                rw [← hw] at H3 Hb6 hf3 hc3
                clear hw HT5 Hb5 q0 q1 q2 q3 g0 g1 g2 g3 P0 P1 P2 P3
                rw [← xor_byte, ← xor_byte, ← xor_byte] at H3 Hb6
                go_wp2
                exact ⟨⟨col + 1, by omega, by go_num, H3.out, Hb6.out⟩, by simp [intOf]; omega⟩
              · have H4 : Hid (4 * col = 16) := Lib.hid (by omega)
                rw [H4.out, prog_end _ _ _ HTL.out.symm (by rw [mix_len])] at hT
                have HT := Lib.hid hT
                have Hb := Lib.hid hb
                clear hT hb
                go_wp2_with fail
                rw [show ((n : Int) + 1) = ((n + 1 : Nat) : Int) from rfl]
                refine (refAdd_any2 wr gc gt gb gw cap ws (HC.out.below Hb.out) _ (mix T) 16 (n + 1) (mix_len T) (Rd.of_all HT.out) (by have := HLA.out; omega)).mono ?_
                rintro e w7 ⟨g7, cp7, rest7, rfl, hg7, hB7, hb7, hp7⟩
                have HB7 := Lib.hid hB7
                have Hb7 := Lib.hid (Hb.out.trans (hb7.mono Hb.out.size))
                have HG7 : Hid (w.heap.size ≤ g7) := Lib.hid (Nat.le_trans Hb.out.size hg7)
                have HP7 := Lib.hid hp7
                clear hB7 hb7 hg7 hp7
                go_wp2
                refine ⟨⟨n + 1, g7, cp7, rest7, by omega, by go_num, rfl, HG7.out, ?_, Hb7.out, HP7.out⟩, by simp [intOf]; omega⟩
                rw [encN, if_pos hnl, HS.out, HTE.out]
                exact HB7.out
          · go_wp2_with fail
            rw [show ((n : Int) + 1) = ((n + 1 : Nat) : Int) from rfl]
            refine (refAdd_any2 wr gc gt gb gw cap ws (HC.out.below Hb.out) _ T 16 (n + 1) HTL.out (Rd.of_all HT.out) (by have := HLA.out; omega)).mono ?_
            rintro e w7 ⟨g7, cp7, rest7, rfl, hg7, hB7, hb7, hp7⟩
            have HB7 := Lib.hid hB7
            have Hb7 := Lib.hid (Hb.out.trans (hb7.mono Hb.out.size))
            have HG7 : Hid (w.heap.size ≤ g7) := Lib.hid (Nat.le_trans Hb.out.size hg7)
            have HP7 := Lib.hid hp7
            clear hB7 hb7 hg7 hp7
            go_wp2
            refine ⟨⟨n + 1, g7, cp7, rest7, by omega, by go_num, rfl, HG7.out, ?_, Hb7.out, HP7.out⟩, by simp [intOf]; omega⟩
            rw [encN, if_neg hnl, HS.out, HTE.out]
            exact HB7.out
    · obtain rfl : n = last := by omega
      go_wp2
      go_ret
      exact ⟨g, cp, rest, rfl, hg, hB, hb, HP.out⟩
theorem refEncrypt_any (w : World) (gc gt gb gw cap : Nat) (ws : List (List UInt8)) (hC : RefC w gc gt gb gw cap ws) (last : Nat) (hlast : ws.length = 4 * last + 4) (h1 : 1 ≤ last) (A : Option Addr) (l : List UInt8) (c : Nat) (hl : l.length = 16) (hr : Rd w w.heap.size A l) :
    Calls Tryd.prog 17 #[.pointer (some ⟨gc, 0, none⟩), .slice A 16 c] w fun e w' => ∃ g cp rest, e = .returned (.slice (some ⟨g, 0, none⟩) 16 cp) ∧ w.heap.size ≤ g ∧ Blk w' g 5 (u8s (enc (rk ws) last l) ++ rest) ∧ Below w.heap.size w w' := by
  refine (refEncrypt_any2 w gc gt gb gw cap ws hC last hlast h1 A l c hl hr).mono fun e w' he => ?_
  obtain ⟨g, cp, rest, h1, h2, h3, h4, _⟩ := he
  exact ⟨g, cp, rest, h1, h2, h3, h4⟩
end Go.Proofs.YtbcagjndbfpecaaDoor
