/-
  The landed lz: Expand: its contract.
-/
import Derived.Test.YtjapohddfelgkaaLzGa
import Derived.Test.YtjapohddfelgkaaLzC
set_option maxRecDepth 100000
namespace Go.Proofs.Ytjapohddfelgkaa
open Go.RowKit Go.Gar

set_option maxHeartbeats 2000000 in
theorem lzExpand_any (A : Option Addr) (ts : List Tv) (n c : Nat) (most : Int) (w : World) (hn : n = ts.length) (hr : RdT w w.heap.size A ts) (hl : n ≤ 100000) (E : Nat) (O : List UInt8) (hE : Lz.expand (ts.map Tv.tok) most = (E, O)) :
    Calls Try.prog 30 #[.slice A n c, .int .i64 most] w fun e w' => ∃ v, e = .returned (.tuple #[v, .int .i64 ((E : Nat) : Int)]) ∧ OwnB w' w.heap.size 5 v O ∧ Below w.heap.size w w' := by
  have hO0 : OwnB w w.heap.size 5 (.slice none 0 0) [] := World.ownsRow_nil _ _ _ _
  have hb0 := Below.refl w.heap.size w
  have HO0 := Lib.hid hO0
  have Hb0 := Lib.hid hb0
  have HN := Lib.hid hn
  have HR := Lib.hid hr
  have HE := Lib.hid hE
  clear hO0 hb0 hn hr hE
  go_enter Try.func30, Try.ntmps30
  go_wp2
  go_loopw [6, 11] (fun v iv W => ∃ (i : Nat) (x : List UInt8), i ≤ n ∧ iv = .int .i64 (i : Int) ∧ OwnB W w.heap.size 5 v x ∧ Lz.expd most ((ts.map Tv.tok).drop i) x = (E, O) ∧ x.length ≤ 130 * i ∧ Below w.heap.size w W) (fun _ iv _ => n - (intOf iv).toNat)
  case atStart => exact ⟨0, [], by omega, rfl, HO0.out, HE.out, by simp, Hb0.out⟩
  case round =>
    obtain ⟨i, x, hi, rfl, hO, hx, hxl, hb⟩ := hrel
    clear HO0 Hb0 HE
    have Hx := Lib.hid hx
    have HO := Lib.hid hO
    have Hb := Lib.hid hb
    clear hx hO hb
    by_cases hlt : i < n
    · have hits : i < ts.length := by rw [← HN.out]; exact hlt
      obtain ⟨t, ht⟩ : ∃ t, ts[i]? = some t := ⟨_, List.getElem?_eq_getElem hits⟩
      have hdrop : (ts.map Tv.tok).drop i = t.tok :: (ts.map Tv.tok).drop (i + 1) := by
        rw [List.drop_eq_getElem_cons (by rw [List.length_map]; exact hits)]
        congr 1
        rw [List.getElem_map, (List.getElem?_eq_some_iff.1 ht).2]
      have hexp := Hx.out
      rw [hdrop, Lz.expd] at hexp
      obtain ⟨b, o, rfl, hbB, hcl⟩ := HR.out.at_ ht
      have hlit := HR.out.lits t (List.mem_of_getElem? ht)
      have hcl' : ∀ j v, j < 3 → t.cells[j]? = some v → wr.cell? ⟨b, o + (3 * i + j), none⟩ = some v := fun j v hj hv => (Hb.out.cell (p := ⟨b, o + (3 * i + j), none⟩) hbB).trans (hcl j v hj hv)
      have hld := load_T hcl' (o + i * 3) (by omega)
      have hEa : (wr.alloc (.cells zT.toArray 41)).setRow wr.heap.size t.cells.toArray = wr.alloc (.cells t.cells.toArray 41) := World.setRow_alloc_new wr _ _ _
      have hB1 := Blk.new wr 41 t.cells
      have hb1 := below_alloc wr (.cells t.cells.toArray 41)
      obtain ⟨w1, hw1⟩ : ∃ w1, wr.alloc (.cells t.cells.toArray 41) = w1 := ⟨_, rfl⟩
      rw [hw1] at hEa hB1 hb1
      have hld1 := load_T0 hB1
      have HZ1 := Lib.hid (Blk.new wr 41 zT)
      have HEa := Lib.hid hEa
      have HB1 := Lib.hid hB1
      have Hb1 := Lib.hid hb1
      have Hld := Lib.hid hld
      have Hld1 := Lib.hid hld1
      have Hexp := Lib.hid hexp
      have HLit := Lib.hid hlit
      have Hdrop := Lib.hid hdrop
      have Hlt := Lib.hid hlt
      obtain ⟨Ao, co, rfl, hro⟩ := HO.out.rd
      obtain ⟨xl, hxn⟩ : ∃ xl, x.length = xl := ⟨_, rfl⟩
      have HXn := Lib.hid hxn
      obtain ⟨z, hz⟩ : ∃ z, z = Lz.good t.tok := ⟨_, rfl⟩
      have HZ := Lib.hid hz
      rw [hxn] at hxl ⊢
      clear hld hEa hB1 hb1 hw1 hld1 hexp hcl hcl' hlit hdrop hits ht hxn hz Hx hro
      go_wp2_with (first | refine wpList_load_at 41 (.tmp 13) rfl rfl t.cells.toArray Hld.out (by kernel_rfl) ?_ | refine wpList_alloc_arr rfl 41 zT.toArray rfl zero_T ?_ | (refine wpList_store_arr rfl 41 (.tmp 8) (.tmp 14) wr.heap.size zT t.cells rfl rfl rfl rfl HZ1.out (size_T t) rfl (fun u hu => cellsT_one [t] u (by simpa [cellsT] using hu)) ?_; rw [HEa.out]) | refine wpList_load_arr_w 41 (.tmp 8) rfl rfl t.cells.toArray Hld1.out (by kernel_rfl) ?_)
      refine (lzGood_any t w1 z HZ.out).mono ?_
      rintro e w2 ⟨rfl, hb2⟩
      have hB2 := HB1.out.below hb2 HB1.out.lt
      obtain ⟨gT, hgT⟩ : ∃ g, wr.heap.size = g := ⟨_, rfl⟩
      rw [hgT] at hB2 ⊢
      have hb02 : Below wr.heap.size wr w2 := Hb1.out.trans (hb2.mono Hb1.out.size)
      have HO2 : Hid (OwnB w2 w.heap.size 5 (.slice Ao xl co) x) := Lib.hid (by
        have := HO.out.keep (w' := w2) (fun g hg => hb02.block g (World.ownsRow.lt HO.out g hg).2)
        rw [HXn.out] at this
        exact this)
      have Hbw2 := Lib.hid (Hb.out.trans (hb02.mono Hb.out.size))
      have HB2 := Lib.hid hB2
      obtain ⟨ln, hln⟩ : ∃ ln, t.l.length = ln := ⟨_, rfl⟩
      have HLn := Lib.hid hln
      clear hb02 hb2 hB2 hgT HB1 Hb1 HZ1 HEa Hld Hld1 HO Hb hln
      cases z with
      | false =>
        obtain ⟨rfl, rfl⟩ : 3 = E ∧ [] = O := by
          have := Hexp.out
          rw [if_pos HZ.out.symm] at this
          simpa using this
        go_wp2
        go_ret2
        exact ⟨_, rfl, World.ownsRow_nil _ _ _ _, Hbw2.out⟩
      | true =>
        obtain ⟨g1, g2, g3, g4, g5, g6, g7⟩ := Lz.good_len HZ.out.symm
        obtain ⟨nn, hnn⟩ : ∃ nn : Nat, t.n = (nn : Int) := ⟨t.n.toNat, (Int.toNat_of_nonneg g1).symm⟩
        obtain ⟨dn, hdn⟩ : ∃ dn : Nat, t.d = (dn : Int) := ⟨t.d.toNat, (Int.toNat_of_nonneg g3).symm⟩
        have hnn' : t.tok.len = (nn : Int) := hnn
        have hdn' : t.tok.dist = (dn : Int) := hdn
        have hll' : t.tok.lit = t.l := rfl
        have hexp := Hexp.out
        rw [if_neg (by rw [← HZ.out]; simp), hnn', hdn', hll', HXn.out, HLn.out] at hexp
        rw [hnn'] at g2 g6 g7
        rw [hdn'] at g4 g6 g7
        rw [hll', HLn.out] at g5
        have hln128 : ln ≤ 128 := g5
        have hnn130 : nn ≤ 130 := by omega
        have h0 : ln = 0 ∨ nn = 0 := by
          rcases g6 with e | e
          · left; rw [← HLn.out, show t.l = [] from e]; rfl
          · right; omega
        have h1 : 0 < nn → 1 ≤ dn := fun h => by
          rcases g6 with e | e
          · have := (g7 e).2; omega
          · omega
        have H0 := Lib.hid h0
        have H1 := Lib.hid h1
        have Hexp := Lib.hid hexp
        have hact : Lz.act t.tok x = Lz.copyOn dn nn (x ++ t.l) := by
          unfold Lz.act
          rw [hnn', hdn', hll', Int.toNat_natCast, Int.toNat_natCast]
        have HAct := Lib.hid hact
        have c0 := HB2.out.cell 0
        have c1 := HB2.out.cell 1
        have c2 := HB2.out.cell 2
        rw [show t.cells[0]? = some (.slice t.A t.l.length t.c) from rfl, HLn.out] at c0
        rw [show t.cells[1]? = some (.int .i64 t.n) from rfl, hnn] at c1
        rw [show t.cells[2]? = some (.int .i64 t.d) from rfl, hdn] at c2
        have Hdn := Lib.hid hdn
        have Hnn := Lib.hid hnn
        clear g1 g2 g3 g4 g5 g6 g7 hnn hdn hnn' hdn' hll' hexp h0 h1 hact
        by_cases hd : xl < dn
        · have hd' : (xl : Int) < (dn : Int) := by omega
          obtain ⟨rfl, rfl⟩ : 12 = E ∧ [] = O := by
            have := Hexp.out
            rw [if_pos hd'] at this
            simpa using this
          go_wp2
          go_ret2
          exact ⟨_, rfl, World.ownsRow_nil _ _ _ _, Hbw2.out⟩
        · have hd' : ¬ (xl : Int) < (dn : Int) := by omega
          have hexp := Hexp.out
          rw [if_neg hd'] at hexp
          by_cases hm : most < (xl : Int) + (ln : Int) + (nn : Int)
          · obtain ⟨rfl, rfl⟩ : 2 = E ∧ [] = O := by
              rw [if_pos hm] at hexp
              simpa using hexp
            clear hexp
            go_wp2
            go_ret2
            exact ⟨_, rfl, World.ownsRow_nil _ _ _ _, Hbw2.out⟩
          · rw [if_neg hm, HAct.out] at hexp
            have Hexp2 := Lib.hid hexp
            clear hexp
            obtain ⟨v3, w3, e3, hO3, hb3, hg3⟩ := app_rd (P := Try.prog) 22 22 Try.und22 Try.info5 HO2.out Hbw2.out.size t.c (HLit.out.1.below Hbw2.out) (by rw [HXn.out, HLn.out]; omega)
            rw [HLn.out] at e3
            have He3 := Lib.hid e3
            have HO3 := Lib.hid hO3
            have Hb3 := Lib.hid (Hbw2.out.trans hb3)
            have HB3 := Lib.hid (HB2.out.grown hg3 (own_ne HO2.out HB2.out (by decide)))
            have c13 := HB3.out.cell 1
            rw [show t.cells[1]? = some (.int .i64 t.n) from rfl, Hnn.out] at c13
            clear e3 hO3 hb3 hg3
            go_wp2_with (at_builtin; refine wpList_append_run rfl (.tmp 34) (.tmp 36) _ rfl rfl rfl He3.out ?_)
            clear He3 c0 c1 c2 c13
            have hy0 : (x ++ t.l).length = xl + ln := by rw [List.length_append, HXn.out, HLn.out]
            have HY0 := Lib.hid hy0
            clear hy0
            go_loopw [6, 40] (fun v cv W => ∃ (c j : Nat) (y : List UInt8), c + j = nn ∧ cv = .int .i64 (c : Int) ∧ OwnB W w.heap.size 5 v y ∧ y.length = xl + ln + c ∧ Lz.copyOn dn j y = Lz.copyOn dn nn (x ++ t.l) ∧ dn ≤ y.length ∧ Below w.heap.size w W ∧ Blk W gT 41 t.cells) (fun _ cv _ => nn - (intOf cv).toNat)
            case atStart => exact ⟨0, nn, x ++ t.l, by omega, rfl, HO3.out, by rw [HY0.out]; rfl, rfl, by rw [HY0.out]; omega, Hb3.out, HB3.out⟩
            case round =>
              obtain ⟨c, j, y, hj, rfl, hOy, hyl, hcp, hdy, hby, hBy⟩ := hrel
              clear HO3 Hb3 HB3
              obtain ⟨yl, hyn⟩ : ∃ yl, y.length = yl := ⟨_, rfl⟩
              rw [hyn] at hyl hdy
              have hyb : yl ≤ 20000000 := by omega
              have HYl := Lib.hid hyl
              have HYn := Lib.hid hyn
              have HOy := Lib.hid hOy
              have HCp := Lib.hid hcp
              have Hby := Lib.hid hby
              have HBy := Lib.hid hBy
              clear hyn hOy hcp hby hBy hyl
              by_cases hj0 : j = 0
              · subst hj0
                obtain ⟨Ay, cy, rfl, _⟩ := HOy.out.rd
                obtain rfl : nn = c := by omega
                have hge : decide ((nn : Int) < (nn : Int)) = false := by simp
                have hOy := HOy.out
                rw [HYn.out] at hOy ⊢
                have hyx : y = Lz.copyOn dn nn (x ++ t.l) := HCp.out
                have Hex := Hexp2.out
                rw [← hyx] at Hex
                have Hex := Lib.hid Hex
                have HOy := Lib.hid hOy
                have hle : y.length ≤ 130 * (i + 1) := by
                  rw [HYn.out]
                  have hyl := HYl.out
                  rcases H0.out with h | h <;> omega
                have Hle := Lib.hid hle
                clear hyx hle hOy
                go_wp2
                exact ⟨⟨i + 1, y, by omega, by go_num, HOy.out, Hex.out, Hle.out, Hby.out⟩, by simp [intOf]; omega⟩
              · have hdn1 : 1 ≤ dn := H1.out (by omega)
                obtain ⟨gy, cy, ry, rfl, hgy, hcy, hBky⟩ := HOy.out.blk (by rw [HYn.out]; omega)
                obtain ⟨k, rfl⟩ : ∃ k, j = k + 1 := ⟨j - 1, by omega⟩
                have hlt2 : decide ((c : Int) < (nn : Int)) = true := by simp; omega
                have hix : yl - dn < y.length := by rw [HYn.out]; omega
                obtain ⟨ch, hch⟩ : ∃ ch, y[yl - dn]? = some ch := ⟨_, List.getElem?_eq_getElem hix⟩
                have hcell : wr.cell? ⟨gy, yl - dn, none⟩ = some (.int .u8 (ch.toNat : Int)) := by
                  rw [hBky.cell, List.getElem?_append_left (by rw [u8s_len]; exact hix), u8s_get, hch]; rfl
                have c2 := HBy.out.cell 2
                rw [show t.cells[2]? = some (.int .i64 t.d) from rfl, Hdn.out] at c2
                have hal := below_alloc wr (.cells #[.int .u8 (ch.toNat : Int)] 5)
                have hbn : Blk (wr.alloc (.cells #[.int .u8 (ch.toNat : Int)] 5)) wr.heap.size 5 (u8s [ch]) := Blk.new wr 5 (u8s [ch])
                have hOa := HOy.out.alloc (.cells #[.int .u8 (ch.toNat : Int)] 5)
                obtain ⟨v4, w4, e4, hO4, hb4, hg4⟩ := app_rd (P := Try.prog) 22 22 Try.und22 Try.info5 hOa (Nat.le_trans Hby.out.size hal.size) 1 (Rd.of_all hbn) (l := [ch]) (by rw [HYn.out]; simp; omega)
                have hT4 := (HBy.out.alloc (.cells #[.int .u8 (ch.toNat : Int)] 5)).grown hg4 (own_ne hOa (HBy.out.alloc _) (by decide))
                have hcp4 : Lz.copyOn dn k (y ++ [ch]) = Lz.copyOn dn nn (x ++ t.l) := by
                  rw [← HCp.out, Lz.copyOn, HYn.out, List.getD_eq_getElem?_getD, hch]
                  rfl
                have HO4 := Lib.hid hO4
                have Hb4 := Lib.hid (Hby.out.trans ((hal.mono Hby.out.size).trans hb4))
                have HT4 := Lib.hid hT4
                have HCp4 := Lib.hid hcp4
                have He4 := Lib.hid e4
                have HYl4 : Hid ((y ++ [ch]).length = yl + 1) := Lib.hid (by rw [List.length_append, HYn.out]; rfl)
                obtain ⟨A4, c4, rfl, _⟩ := hO4.rd
                rw [HYn.out]
                have HYm : Hid ((y ++ [ch]).length = xl + ln + (c + 1)) := Lib.hid (by rw [HYl4.out]; have := HYl.out; omega)
                clear hal hbn hOa hO4 hb4 hg4 hT4 hcp4 e4 hBky hgy hch hix
                rw [HYn.out] at He4 hcy
                rw [HYl4.out] at He4 HO4
                go_wp2_with (at_builtin; refine wpList_append_run rfl (.tmp 42) (.tmp 51) _ rfl rfl rfl He4.out ?_)
                exact ⟨⟨c + 1, k, y ++ [ch], by omega, by go_num, HO4.out, HYm.out, HCp4.out, by rw [HYl4.out]; omega, Hb4.out, HT4.out⟩, by simp [intOf]; omega⟩
    · obtain rfl : i = n := by omega
      have hexp := Hx.out
      rw [List.drop_eq_nil_of_le (by rw [List.length_map, ← HN.out]; exact Nat.le_refl _), Lz.expd] at hexp
      obtain ⟨rfl, rfl⟩ : 0 = E ∧ x = O := by simpa using hexp
      clear hexp
      go_wp2
      go_ret2
      exact ⟨_, rfl, HO.out, Hb.out⟩
end Go.Proofs.Ytjapohddfelgkaa
