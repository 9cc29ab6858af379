/-
  The reference of layer 12: Encode: its contract.
-/
import Derived.Test.YtjapohddfelgkaaPackJ05
set_option maxRecDepth 100000
namespace Go.Proofs.Ytjapohddfelgkaa
open Go.RowKit Go.Gar

theorem Lz.encT_len {t : Lz.Tok} (h : Lz.good t = true) : (Lz.encT t).length ≤ 129 := by
  have := (Lz.good_len h).2.2.2.2.1
  unfold Lz.encT
  split
  · simp
  · simp only [List.length_cons]; omega

set_option maxHeartbeats 2000000 in
theorem refEncode_any (A : Option Addr) (ts : List Tv) (n c : Nat) (w : World) (hn : n = ts.length) (hr : RdT w w.heap.size A ts) (hl : n ≤ 100000) (E : Nat) (O : List UInt8) (hE : Lz.encode (ts.map Tv.tok) = (E, O)) :
    Calls Try.prog 15 #[.slice A n c] w fun e w' => ∃ v, e = .returned (.tuple #[v, .int .i64 ((E : Nat) : Int)]) ∧ OwnB w' w.heap.size 5 v O ∧ Below w.heap.size w w' := by
  have hO0 := own_made w w.heap.size 5 (Nat.le_refl _)
  have hb0 := below_alloc w (.cells #[] 5)
  have HO0 := Lib.hid hO0
  have Hb0 := Lib.hid hb0
  have HN := Lib.hid hn
  have HR := Lib.hid hr
  have HE := Lib.hid hE
  clear hO0 hb0 hn hr hE
  go_enter Try.func15, Try.ntmps15
  go_wp2
  go_loopw [4, 5] (fun v iv W => ∃ (i : Nat) (x : List UInt8), i ≤ n ∧ iv = .int .i64 (i : Int) ∧ OwnB W w.heap.size 5 v x ∧ Lz.encd ((ts.map Tv.tok).drop i) x = (E, O) ∧ x.length ≤ 130 * i ∧ Below w.heap.size w W) (fun _ iv _ => n - (intOf iv).toNat)
  case atStart => exact ⟨0, [], by omega, rfl, HO0.out, HE.out, by simp, Hb0.out⟩
  case round =>
    obtain ⟨i, x, hi, rfl, hO, hx, hxl, hb⟩ := hrel
    clear HO0 Hb0 HE
    have Hx := Lib.hid hx
    have HO := Lib.hid hO
    have Hb := Lib.hid hb
    clear hx hO hb
    by_cases hlt : i < n
    · have hits : i < ts.length := by rw [← HN.out]; exact hlt
      obtain ⟨t, ht⟩ : ∃ t, ts[i]? = some t := ⟨_, List.getElem?_eq_getElem hits⟩
      have hdrop : (ts.map Tv.tok).drop i = t.tok :: (ts.map Tv.tok).drop (i + 1) := by
        rw [List.drop_eq_getElem_cons (by rw [List.length_map]; exact hits)]
        congr 1
        rw [List.getElem_map, (List.getElem?_eq_some_iff.1 ht).2]
      have hexp := Hx.out
      rw [hdrop, Lz.encd] at hexp
      obtain ⟨b, o, rfl, hbB, hcl⟩ := HR.out.at_ ht
      have hlit := HR.out.lits t (List.mem_of_getElem? ht)
      have hcl' : ∀ j v, j < 3 → t.cells[j]? = some v → wr.cell? ⟨b, o + (3 * i + j), none⟩ = some v := fun j v hj hv => (Hb.out.cell (p := ⟨b, o + (3 * i + j), none⟩) hbB).trans (hcl j v hj hv)
      have hld := load_T hcl' (o + i * 3) (by omega)
      have hEa : (wr.alloc (.cells zT.toArray 41)).setRow wr.heap.size t.cells.toArray = wr.alloc (.cells t.cells.toArray 41) := World.setRow_alloc_new wr _ _ _
      have hB1 := Blk.new wr 41 t.cells
      have hb1 := below_alloc wr (.cells t.cells.toArray 41)
      obtain ⟨w1, hw1⟩ : ∃ w1, wr.alloc (.cells t.cells.toArray 41) = w1 := ⟨_, rfl⟩
      rw [hw1] at hEa hB1 hb1
      have hld1 := load_T0 hB1
      have HZ1 := Lib.hid (Blk.new wr 41 zT)
      have HEa := Lib.hid hEa
      have HB1 := Lib.hid hB1
      have Hb1 := Lib.hid hb1
      have Hld := Lib.hid hld
      have Hld1 := Lib.hid hld1
      have Hexp := Lib.hid hexp
      have HLit := Lib.hid hlit
      obtain ⟨Ao, co, rfl, hro⟩ := HO.out.rd
      obtain ⟨xl, hxn⟩ : ∃ xl, x.length = xl := ⟨_, rfl⟩
      have HXn := Lib.hid hxn
      obtain ⟨z, hz⟩ : ∃ z, z = Lz.good t.tok := ⟨_, rfl⟩
      have HZ := Lib.hid hz
      rw [hxn] at hxl ⊢
      clear hld hEa hB1 hb1 hw1 hld1 hexp hcl hcl' hlit hdrop hits ht hxn hz Hx hro
      go_wp2_with (first | refine wpList_load_at 41 (.tmp 16) rfl rfl t.cells.toArray Hld.out (by kernel_rfl) ?_ | refine wpList_alloc_arr rfl 41 zT.toArray rfl zero_T ?_ | (refine wpList_store_arr rfl 41 (.tmp 6) (.tmp 17) wr.heap.size zT t.cells rfl rfl rfl rfl HZ1.out (size_T t) rfl (fun u hu => cellsT_one [t] u (by simpa [cellsT] using hu)) ?_; rw [HEa.out]) | refine wpList_load_arr_w 41 (.tmp 6) rfl rfl t.cells.toArray Hld1.out (by kernel_rfl) ?_)
      refine (refGood_any t w1 z HZ.out).mono ?_
      rintro e w2 ⟨rfl, hb2⟩
      have hB2 := HB1.out.below hb2 HB1.out.lt
      obtain ⟨gT, hgT⟩ : ∃ g, wr.heap.size = g := ⟨_, rfl⟩
      rw [hgT] at hB2 ⊢
      have hb02 : Below wr.heap.size wr w2 := Hb1.out.trans (hb2.mono Hb1.out.size)
      have HO2 : Hid (OwnB w2 w.heap.size 5 (.slice Ao xl co) x) := Lib.hid (by
        have := HO.out.keep (w' := w2) (fun g hg => hb02.block g (World.ownsRow.lt HO.out g hg).2)
        rw [HXn.out] at this
        exact this)
      have Hbw2 := Lib.hid (Hb.out.trans (hb02.mono Hb.out.size))
      have HB2 := Lib.hid hB2
      obtain ⟨ln, hln⟩ : ∃ ln, t.l.length = ln := ⟨_, rfl⟩
      have HLn := Lib.hid hln
      clear hb02 hb2 hB2 hgT HB1 Hb1 HZ1 HEa Hld Hld1 HO Hb hln
      cases z with
      | false =>
        obtain ⟨rfl, rfl⟩ : 3 = E ∧ [] = O := by
          have := Hexp.out
          rw [if_pos HZ.out.symm] at this
          simpa using this
        go_wp2
        go_ret2
        exact ⟨_, rfl, World.ownsRow_nil _ _ _ _, Hbw2.out⟩
      | true =>
        have hexp := Hexp.out
        rw [if_neg (by rw [← HZ.out]; simp)] at hexp
        have Hexp2 := Lib.hid hexp
        have HEl := Lib.hid (Lz.encT_len HZ.out.symm)
        have HXt : Hid ((x ++ Lz.encT t.tok).length ≤ 130 * (i + 1)) := Lib.hid (by rw [List.length_append, HXn.out]; have := HEl.out; omega)
        have c0 := HB2.out.cell 0
        have c1 := HB2.out.cell 1
        have c2 := HB2.out.cell 2
        rw [show t.cells[0]? = some (.slice t.A t.l.length t.c) from rfl, HLn.out] at c0
        rw [show t.cells[1]? = some (.int .i64 t.n) from rfl] at c1
        rw [show t.cells[2]? = some (.int .i64 t.d) from rfl] at c2
        have hcs := Lz.good_cases HZ.out.symm
        clear hexp
        rcases hcs with ⟨nn, dn, htk, g1, g2, g3, g4⟩ | ⟨lt, htk, g1, g2⟩
        · have hnn : t.n = (nn : Int) := congrArg Lz.Tok.len htk
          have hdn : t.d = (dn : Int) := congrArg Lz.Tok.dist htk
          obtain rfl : ln = 0 := by rw [← HLn.out, show t.l = [] from congrArg Lz.Tok.lit htk]; rfl
          rw [hnn] at c1
          rw [hdn] at c2
          rw [htk, Lz.encT_match g2 g3] at Hexp2 HXt
          clear hnn hdn htk
          have e1 : ((UInt8.ofNat (nn + 125)).toNat : Int) = (nn : Int) + 125 := by rw [Lz.nat8 (by omega)]; omega
          have e2 : ((UInt8.ofNat ((dn - 1) / 256)).toNat : Int) = ((dn : Int) - 1) / 256 := by rw [Lz.nat8 (by omega)]; omega
          have e3 : ((UInt8.ofNat ((dn - 1) % 256)).toNat : Int) = ((dn : Int) - 1) % 256 := by rw [Lz.nat8 (by omega)]; omega
          have hq : (#[.int .u8 ((nn : Int) + 125), .int .u8 (((dn : Int) - 1) / 256), .int .u8 (((dn : Int) - 1) % 256)] : Array Value) = (u8s [UInt8.ofNat (nn + 125), UInt8.ofNat ((dn - 1) / 256), UInt8.ofNat ((dn - 1) % 256)]).toArray := by
            rw [← e1, ← e2, ← e3]; rfl
          have hal := below_alloc w2 (.cells #[.int .u8 ((nn : Int) + 125), .int .u8 (((dn : Int) - 1) / 256), .int .u8 (((dn : Int) - 1) % 256)] 5)
          have hBn : Blk (w2.alloc (.cells #[.int .u8 ((nn : Int) + 125), .int .u8 (((dn : Int) - 1) / 256), .int .u8 (((dn : Int) - 1) % 256)] 5)) w2.heap.size 5 (u8s [UInt8.ofNat (nn + 125), UInt8.ofNat ((dn - 1) / 256), UInt8.ofNat ((dn - 1) % 256)]) := by
            rw [hq]; exact Blk.new w2 _ _
          obtain ⟨v3, w3, e4, hO3, hb3, _⟩ := app_rd (P := Try.prog) 22 22 Try.und22 Try.info5 (HO2.out.alloc (.cells #[.int .u8 ((nn : Int) + 125), .int .u8 (((dn : Int) - 1) / 256), .int .u8 (((dn : Int) - 1) % 256)] 5)) (Nat.le_trans Hbw2.out.size hal.size) 3 (Rd.of_all hBn) (by rw [HXn.out]; simp; omega)
          have He4 := Lib.hid e4
          have HO3 := Lib.hid hO3
          have Hb3 := Lib.hid (Hbw2.out.trans ((hal.mono Hbw2.out.size).trans hb3))
          clear e1 e2 e3 hq hal hBn e4 hO3 hb3
          go_wp2_with (at_builtin; refine wpList_append_run rfl (.tmp 37) (.tmp 52) _ rfl rfl rfl He4.out ?_)
          exact ⟨⟨i + 1, _, by omega, by go_num, HO3.out, Hexp2.out, HXt.out, Hb3.out⟩, by simp [intOf]; omega⟩
        · have hll : t.l = lt := congrArg Lz.Tok.lit htk
          rw [hll] at HLn
          rw [htk, Lz.encT_lit g1, HLn.out] at Hexp2 HXt
          have hlr := HLit.out.1
          rw [hll] at hlr
          have hl1 : 0 < ln := by rw [← HLn.out]; exact g1
          have hl128 : ln ≤ 128 := by rw [← HLn.out]; exact g2
          have hd1 : (0 : Int) < (ln : Int) := by omega
          have e1 : ((UInt8.ofNat (ln - 1)).toNat : Int) = (ln : Int) - 1 := by rw [Lz.nat8 (by omega)]; omega
          have hq : (#[.int .u8 ((ln : Int) - 1)] : Array Value) = (u8s [UInt8.ofNat (ln - 1)]).toArray := by rw [← e1]; rfl
          have hal := below_alloc w2 (.cells #[.int .u8 ((ln : Int) - 1)] 5)
          have hBn : Blk (w2.alloc (.cells #[.int .u8 ((ln : Int) - 1)] 5)) w2.heap.size 5 (u8s [UInt8.ofNat (ln - 1)]) := by
            rw [hq]; exact Blk.new w2 _ _
          have hOa := HO2.out.alloc (.cells #[.int .u8 ((ln : Int) - 1)] 5)
          obtain ⟨v3, w3, e4, hO3, hb3, hg3⟩ := app_rd (P := Try.prog) 22 22 Try.und22 Try.info5 hOa (Nat.le_trans Hbw2.out.size hal.size) 1 (Rd.of_all hBn) (by rw [HXn.out]; simp; omega)
          have hB3 := (HB2.out.alloc (.cells #[.int .u8 ((ln : Int) - 1)] 5)).grown hg3 (own_ne hOa (HB2.out.alloc _) (by decide))
          have hbw3 := Hbw2.out.trans ((hal.mono Hbw2.out.size).trans hb3)
          have k0 := hB3.cell 0
          rw [show t.cells[0]? = some (.slice t.A t.l.length t.c) from rfl, hll, HLn.out] at k0
          obtain ⟨v5, w5, e5, hO5, hb5, _⟩ := app_rd (P := Try.prog) 22 22 Try.und22 Try.info5 hO3 hbw3.size t.c (hlr.below hbw3) (by rw [List.length_append, HXn.out, HLn.out]; simp; omega)
          rw [HLn.out] at e5
          rw [List.append_assoc, List.singleton_append] at hO5
          have He4 := Lib.hid e4
          have He5 := Lib.hid e5
          have HO5 := Lib.hid hO5
          have Hb5 := Lib.hid (hbw3.trans hb5)
          clear e1 hq hal hBn hOa e4 hO3 hb3 hg3 hB3 hbw3 e5 hO5 hb5 hl1 hll htk hlr
          go_wp2_with (at_builtin; first | refine wpList_append_run rfl (.tmp 25) (.tmp 31) _ rfl rfl rfl He4.out ?_ | refine wpList_append_run rfl (.tmp 33) (.tmp 35) _ rfl rfl rfl He5.out ?_)
          exact ⟨⟨i + 1, _, by omega, by go_num, HO5.out, Hexp2.out, HXt.out, Hb5.out⟩, by simp [intOf]; omega⟩
    · obtain rfl : i = n := by omega
      have hexp := Hx.out
      rw [List.drop_eq_nil_of_le (by rw [List.length_map, ← HN.out]; exact Nat.le_refl _), Lz.encd] at hexp
      obtain ⟨rfl, rfl⟩ : 0 = E ∧ x = O := by simpa using hexp
      clear hexp
      go_wp2
      go_ret2
      exact ⟨_, rfl, HO.out, Hb.out⟩
end Go.Proofs.Ytjapohddfelgkaa
