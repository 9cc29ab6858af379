/-
  Layer 11: LzTwice, walked from the contract of lz's functions.
-/
import Derived.Test.YtcdihdfjgdpkmaaLzExpandsW
import Derived.Deep.Cut
import Derived.Deep.CutRange
set_option maxRecDepth 100000
namespace Go.Gar.Lz
theorem cnt_mono (n0 : Nat) : ∀ ts a p, a ≤ (cnt n0 ts a p).1 ∧ p ≤ (cnt n0 ts a p).2
  | [], a, p => ⟨Nat.le_refl _, Nat.le_refl _⟩
  | t :: ts, a, p => by
    rw [cnt]
    have := cnt_mono n0 ts (a + (t.lit.length + t.len.toNat)) (p + (t.lit.length - (n0 - a)))
    exact ⟨by omega, by omega⟩
theorem cnt_take (n0 : Nat) (T : List Tok) (i : Nat) : (cnt n0 (T.take i) 0 0).1 ≤ (cnt n0 T 0 0).1 ∧ (cnt n0 (T.take i) 0 0).2 ≤ (cnt n0 T 0 0).2 := by
  have h := cnt_append n0 (T.take i) (T.drop i) 0 0
  rw [List.take_append_drop] at h
  rw [h]
  exact cnt_mono n0 _ _ _
theorem cnt_step (n0 : Nat) (T : List Tok) (i : Nat) (t : Tok) (h : T[i]? = some t) : cnt n0 (T.take (i + 1)) 0 0 = ((cnt n0 (T.take i) 0 0).1 + (t.lit.length + t.len.toNat), (cnt n0 (T.take i) 0 0).2 + (t.lit.length - (n0 - (cnt n0 (T.take i) 0 0).1))) := by
  rw [List.take_add_one, h, cnt_append]
  rfl
end Go.Gar.Lz
namespace Go.Proofs.Ytcdihdfjgdpkmaa
open Go.RowKit Go.Gar

set_option maxHeartbeats 4000000 in
theorem lztwice_walk {G : World → Prop} (hOK : LzOK G) (A : Option Addr) (l d : List UInt8) (c m : Nat) (w : World) (hG : G w) (hc : l.length ≤ c) (hdl : d.length = m) (hm : m = min l.length 600) (hr : Rd w w.heap.size A d) :
    Calls Try.prog 6 #[.slice A l.length c] w fun e w' => e = .returned (.bool true) ∧ Below w.heap.size w w' := by
  have hm600 : m ≤ 600 := by omega
  have hmc : m ≤ c := by omega
  have HOK := Lib.hid hOK
  have HG := Lib.hid hG
  have HDl := Lib.hid hdl
  have HM := Lib.hid hm
  have HR := Lib.hid hr
  clear hOK hG hdl hm hr
  go_enter Try.func6, Try.ntmps6
  go_wp2_with fail
  refine (short11_any A l.length c m w HM.out hc).mono ?_
  rintro e w2 ⟨rfl, rfl⟩
  by_cases h3 : m < 3
  · have h3' : (m : Int) < 3 := by omega
    go_wp2_with fail
    refine (awake11_any HOK.out w2 HG.out).mono ?_
    rintro e w3 ⟨rfl, hb3⟩
    have Hb3 := Lib.hid hb3
    clear hb3
    go_wp2
    go_ret
    exact ⟨by simp, Hb3.out⟩
  · have h3' : ¬ (m : Int) < 3 := by omega
    go_upto_if 18 with fail
    go_cut [3] from 16 to 20 (fun v wx => ∃ (x : List UInt8) (k : Nat), v = .slice A k c ∧ k = x.length ∧ 3 ≤ k ∧ k ≤ 300 ∧ k ≤ c ∧ Rd w2 w2.heap.size A x ∧ wx = w2)
    case first =>
      by_cases h4 : m ≤ 300
      · have hd1 : ¬ (300 : Int) < (m : Int) := by omega
        go_wp2
        go_meet
        case rel => exact ⟨d, m, rfl, HDl.out.symm, by omega, h4, hmc, HR.out, rfl⟩
      · have hd1 : (300 : Int) < (m : Int) := by omega
        have hcx : (300 : Int) ≤ (c : Int) := by omega
        go_wp2
        go_meet
        case rel => exact ⟨d.take 300, 300, rfl, by rw [List.length_take, HDl.out]; omega, by omega, Nat.le_refl _, by omega, HR.out.take 300, rfl⟩
    case rest =>
      obtain ⟨x, k, rfl, hxk, hk3, hk300, hkc, hrx, rfl⟩ := hcut
      have HXk := Lib.hid hxk
      have hb4 := below_alloc wc (.cells #[] 5)
      have hO4 := own_made wc wc.heap.size 5 (Nat.le_refl _)
      obtain ⟨v5, w5, e5, hO5, hb5, _⟩ := app_rd (P := Try.prog) 22 22 Try.und22 Try.info5 hO4 hb4.size c (hrx.below hb4) (by simp; omega)
      rw [List.nil_append] at hO5
      have hb45 := hb4.trans hb5
      obtain ⟨v6, w6, e6, hO6, hb6, _⟩ := app_rd (P := Try.prog) 22 22 Try.und22 Try.info5 hO5 hb45.size c (hrx.below hb45) (by omega)
      obtain ⟨g6, c6, r6, rfl, hg6, hc6, hB6⟩ := hO6.blk (by rw [List.length_append]; omega)
      have hl6 : (x ++ x).length = 2 * k := by rw [List.length_append]; omega
      rw [← hxk] at e5 e6
      rw [hl6] at e6 hc6
      have He5 := Lib.hid e5
      have He6 := Lib.hid e6
      have Hb6 := Lib.hid (hb45.trans hb6)
      have HR6 := Lib.hid (Rd.of_row hB6)
      have HL6 := Lib.hid hl6
      clear hxk hrx hb4 hO4 e5 hO5 hb5 hb45 e6 hO6 hb6 hg6 hB6 hl6 h3 h3'
      go_wp2_with (at_builtin; first | refine wpList_append_run rfl (.tmp 21) (.tmp 22) _ rfl rfl rfl He5.out ?_ | refine wpList_append_run rfl (.tmp 23) (.tmp 24) _ rfl rfl rfl He6.out ?_)
      refine (lzT_at HOK.out w6 (some ⟨g6, 0, none⟩) (x ++ x) (2 * k) c6 _ (HOK.out.keep HG.out Hb6.out) HL6.out.symm rfl HR6.out hc6 (by omega)).mono ?_
      rintro e w7 ⟨A7, n7, c7, ts, rfl, hn7, hc7, hr7, ht7, hb7⟩
      have hle : n7 ≤ 600 := by
        rw [hn7, ← toks_len ts, ht7]
        have := Lz.tokens_len (x ++ x)
        have := HL6.out
        omega
      obtain ⟨T, hT⟩ : ∃ T, Lz.tokens (x ++ x) = T := ⟨_, rfl⟩
      have htw := Lz.twice_cnt x (by rw [← HXk.out]; omega) (by rw [← HXk.out]; omega)
      have hgd := (Lz.tokens_inv (x ++ x)).gd
      rw [hT] at ht7 htw hgd
      rw [← HXk.out] at htw
      have HN7 := Lib.hid hn7
      have HR7 := Lib.hid hr7
      have HT7 := Lib.hid ht7
      have Hb7 := bb Hb6 hb7
      have HTw := Lib.hid htw
      have HGd := Lib.hid hgd
      clear hn7 hr7 ht7 hb7 hT htw hgd He5 He6 Hb6 HR6 HL6
      go_wp2
      go_loopw [5, 6, 7] (fun av pv iv W => ∃ i a p : Nat, i ≤ n7 ∧ iv = .int .i64 (i : Int) ∧ av = .int .i64 (a : Int) ∧ pv = .int .i64 (p : Int) ∧ Lz.cnt k (T.take i) 0 0 = (a, p) ∧ Below w7.heap.size w7 W) (fun _ _ iv _ => n7 - (intOf iv).toNat)
      case atStart => exact ⟨0, 0, 0, by omega, rfl, rfl, rfl, rfl, Below.refl _ _⟩
      case round =>
        obtain ⟨i, a, p, hi, rfl, rfl, rfl, hcnt, hb⟩ := hrel
        have hap := Lz.cnt_take k T i
        rw [hcnt, HTw.out.1] at hap
        obtain ⟨ha2, hp2⟩ := hap
        simp only at ha2 hp2
        have hp3 : p ≤ 2 := Nat.le_trans hp2 HTw.out.2
        have Hb := bb Hb7 hb
        have HRr := Lib.hid ((HR7.out.below hb).more hb.size)
        have Hbi := Lib.hid hb
        have HCn := Lib.hid hcnt
        clear hb hcnt hp2
        by_cases hlt : i < n7
        · obtain ⟨t, ht⟩ : ∃ t, ts[i]? = some t := ⟨_, List.getElem?_eq_getElem (by rw [← HN7.out]; exact hlt)⟩
          have htk := get_tok ht
          rw [HT7.out] at htk
          have hgd := HGd.out _ (List.mem_of_getElem? htk)
          have hgl := Lz.good_len hgd
          obtain ⟨nn, hnn⟩ : ∃ nn : Nat, t.n = (nn : Int) := ⟨t.n.toNat, (Int.toNat_of_nonneg hgl.1).symm⟩
          obtain ⟨sl, hsl⟩ : ∃ sl, t.l.length = sl := ⟨_, rfl⟩
          have hnn130 : nn ≤ 130 := by have := hgl.2.1; rw [show t.tok.len = (nn : Int) from hnn] at this; omega
          have hsl128 : sl ≤ 128 := by have := hgl.2.2.2.2.1; rw [show t.tok.lit.length = sl from hsl] at this; exact this
          have hstep := Lz.cnt_step k T i t.tok htk
          rw [HCn.out, show t.tok.lit.length = sl from hsl, show t.tok.len = (nn : Int) from hnn, Int.toNat_natCast] at hstep
          have hap2 := (Lz.cnt_take k T (i + 1)).1
          rw [hstep, HTw.out.1] at hap2
          simp only at hap2 hstep
          obtain ⟨b, o, rfl, hbB, hcl⟩ := HRr.out.at_ ht
          have k0 := hcl 0 _ (by omega) (show t.cells[0]? = some (.slice t.A t.l.length t.c) from rfl)
          have k1 := hcl 1 _ (by omega) (show t.cells[1]? = some (.int .i64 t.n) from rfl)
          rw [hsl, show o + (3 * i + 0) = o + i * 3 by omega] at k0
          rw [hnn, show o + (3 * i + 1) = o + i * 3 + 1 by omega] at k1
          have wk : IntKind.i64.wrap ((sl : Int) + (nn : Int)) = (sl : Int) + (nn : Int) := IntWalk.i64_in _ (by omega)
          have HSt := Lib.hid hstep
          have HCl := Lib.hid hcl
          have Hbd : Hid (∀ q, Below w7.heap.size w7 (wr.drewN q)) := Lib.hid (fun q => ⟨Hbi.out.os, Hbi.out.tape, Hbi.out.output, Hbi.out.size, Hbi.out.block⟩)
          have K0 := Lib.hid k0
          clear htk hgd hgl hnn hsl hstep hbB hcl ht
          go_wp2_with fail
          go_quiet (fail)
          clear wk k1
          obtain ⟨wz, hwz⟩ : ∃ wz, wr.drewN nq = wz := ⟨_, rfl⟩
          have Hbz : Hid (Below w7.heap.size w7 wz) := Lib.hid (by rw [← hwz]; exact Hbd.out nq)
          have kz : wz.cell? ⟨b, o + i * 3, none⟩ = some (.slice t.A sl t.c) := by rw [← hwz]; exact K0.out
          rw [hwz]
          clear hwz k0 K0 Hbd HCl HRr Hb Hbi HR7
          by_cases hgt : k < a + (sl + nn)
          · have hd : (k : Int) < (a : Int) + ((sl : Int) + (nn : Int)) := by omega
            go_wp2_with fail
            go_loopw [6, 9] (fun pv jv W => ∃ j : Nat, j ≤ sl ∧ jv = .int .i64 (j : Int) ∧ pv = .int .i64 ((p + (j - (k - a)) : Nat) : Int) ∧ W = wz) (fun _ jv _ => sl - (intOf jv).toNat)
            case atStart => exact ⟨0, by omega, rfl, by rw [Nat.zero_sub, Nat.add_zero], rfl⟩
            case round =>
              obtain ⟨j, hj, rfl, rfl, rfl⟩ := hrel
              obtain ⟨q, hq⟩ : ∃ q, p + (j - (k - a)) = q := ⟨_, rfl⟩
              have HQ := Lib.hid hq
              have hq3 : q ≤ 130 := by omega
              rw [hq]
              clear hq
              by_cases hjs : j < sl
              · by_cases hk : k ≤ a + j
                · have hdk : (k : Int) ≤ (a : Int) + (j : Int) := by omega
                  have HQ2 : Hid (q + 1 = p + (j + 1 - (k - a))) := Lib.hid (by have := HQ.out; omega)
                  go_wp2
                  exact ⟨⟨j + 1, by omega, by go_num, by rw [← HQ2.out]; go_num, trivial⟩, by simp [intOf]; omega⟩
                · have hdk : ¬ (k : Int) ≤ (a : Int) + (j : Int) := by omega
                  have HQ2 : Hid (q = p + (j + 1 - (k - a))) := Lib.hid (by have := HQ.out; omega)
                  go_wp2
                  exact ⟨⟨j + 1, by omega, by go_num, by rw [← HQ2.out], trivial⟩, by simp [intOf]; omega⟩
              · obtain rfl : j = sl := by omega
                have HC2 : Hid (Lz.cnt k (T.take (i + 1)) 0 0 = (a + (j + nn), q)) := Lib.hid (by rw [HSt.out, HQ.out])
                go_wp2
                exact ⟨⟨i + 1, a + (j + nn), q, by omega, by go_num, by go_num, rfl, HC2.out, Hbz.out⟩, by simp [intOf]; omega⟩
          · have hd : ¬ (k : Int) < (a : Int) + ((sl : Int) + (nn : Int)) := by omega
            have HC2 : Hid (Lz.cnt k (T.take (i + 1)) 0 0 = (a + (sl + nn), p)) := Lib.hid (by rw [HSt.out, show sl - (k - a) = 0 by omega, Nat.add_zero])
            go_wp2
            exact ⟨⟨i + 1, a + (sl + nn), p, by omega, by go_num, by go_num, rfl, HC2.out, Hbz.out⟩, by simp [intOf]; omega⟩
        · obtain rfl : i = n7 := by omega
          have hall : T.take i = T := List.take_of_length_le (by rw [← HT7.out, toks_len, ← HN7.out]; exact Nat.le_refl _)
          have hc2 := HCn.out
          rw [hall] at hc2
          have htw := HTw.out
          rw [hc2] at htw
          obtain ⟨ha, _⟩ := htw
          simp only at ha
          have hae : ((a : Int) == 2 * (k : Int)) = true := by rw [ha]; simp
          have hpe : decide ((p : Int) ≤ 2) = true := by simp; omega
          clear hall hc2 ha
          go_wp2_with fail
          refine (awake11_any HOK.out wr (HOK.out.keep HG.out Hb.out)).mono ?_
          rintro e w9 ⟨rfl, hb9⟩
          have Hb9 := bb Hb hb9
          clear hb9
          go_wp2
          go_ret
          exact ⟨by simp, Hb9.out⟩
end Go.Proofs.Ytcdihdfjgdpkmaa
