/-
  The landed lz: Tokens: its contract; the contracts of the whole package.
-/
import Derived.Test.YtjapohddfelgkaaLzGj
import Derived.Test.YtjapohddfelgkaaLzGf
import Derived.Test.YtjapohddfelgkaaLzGe
import Derived.Test.YtjapohddfelgkaaLzN
set_option maxRecDepth 100000
namespace Go.Proofs.Ytjapohddfelgkaa
open Go.RowKit Go.Gar

theorem win_FL {w w' : World} {base gm n : Nat} {f : List UInt8 → Value} {ps : List UInt8 → List Nat} (h : Win w base gm n f ps) (ho : Only (FL base w) w w') : Win w' base gm n f ps :=
  h.only ho fun g hg => by
    obtain ⟨_, cs, h | h⟩ := hg
    · exact ⟨_, cs, h, by decide⟩
    · exact ⟨_, cs, h, by decide⟩
theorem ownL_FI {w w' : World} {base gm n : Nat} {f : List UInt8 → Value} {ps : List UInt8 → List Nat} {v : Value} {ts : List Tv} (h : OwnL w base v ts) (hW : Win w base gm n f ps) (ho : Only (FI base gm w) w w') : OwnL w' base v ts :=
  h.only ho fun g hg cs => by
    obtain ⟨_, rfl | ⟨cs', hB⟩⟩ := hg
    · exact ⟨fun h => hW.map.not_blk h rfl, fun h => hW.map.not_blk h rfl⟩
    · exact ⟨fun h => h.ne hB (by decide) rfl, fun h => h.ne hB (by decide) rfl⟩

set_option maxHeartbeats 4000000 in
theorem lzTokens_any (w : World) (A : Option Addr) (b : List UInt8) (bl bc : Nat) (hbl : bl = b.length) (hr : Rd w w.heap.size A b) (hbc : bl ≤ bc) (hl : bl ≤ 100000) (T : List Lz.Tok) (hT : Lz.tokens b = T) :
    Calls Try.prog 13 #[.slice A bl bc] w fun e w' => ∃ v ts, e = .returned v ∧ OwnL w' w.heap.size v ts ∧ ts.map Tv.tok = T ∧ Below w.heap.size w w' := by
  have hW0 := Win.made w w.heap.size (Nat.le_refl _)
  have hb0 := below_alloc w (.map #[] 0)
  have HBL := Lib.hid hbl
  have HR := Lib.hid hr
  have HT := Lib.hid hT
  obtain ⟨gm, hgm⟩ : ∃ gm, w.heap.size = gm := ⟨_, rfl⟩
  have hW1 : Win (w.alloc (.map #[] 0)) w.heap.size gm 0 (fun _ => noInts) (Lz.win b 0) := by
    rw [show Lz.win b 0 = fun _ => [] from rfl, ← hgm]
    exact hW0
  have HW0 := Lib.hid hW1
  have Hb0 := Lib.hid hb0
  have Hgm := Lib.hid hgm
  have HI0 := Lib.hid (Lz.Inv.start b)
  have hmk : (Instr.makeMap 45 none).run Try.prog w = .ok (.map (some gm)) (w.alloc (.map #[] 0)) := by
    rw [← hgm]; exact run_makeMap _ w
  clear hbl hr hT hW0 hb0 hW1 hgm
  go_enter Try.func13, Try.ntmps13
  go_wp2
  go_loopw [3, 5, 11] (fun v nx iv W => ∃ (a x : Nat) (ts : List Tv) (n : Nat) (f : List UInt8 → Value), iv = .int .i64 (a : Int) ∧ nx = .int .i64 (x : Int) ∧ a ≤ x ∧ x ≤ bl ∧ OwnL W w.heap.size v ts ∧ Lz.rest b x (ts.map Tv.tok) = T ∧ Lz.Inv b x (ts.map Tv.tok) ∧ ts.length ≤ a ∧ Win W w.heap.size gm n f (Lz.win b a) ∧ n ≤ 2 * a ∧ Below w.heap.size w W) (fun _ _ iv _ => bl - (intOf iv).toNat)
  case atStart => exact ⟨0, 0, [], 0, _, rfl, rfl, Nat.le_refl _, by omega, OwnL.nil _ _, HT.out, HI0.out, Nat.le_refl _, HW0.out, Nat.le_refl _, Hb0.out⟩
  case round =>
    obtain ⟨a, x, ts, n, f, rfl, rfl, hax, hxb, hO, hrest, hinv, htl, hW, hn, hb⟩ := hrel
    obtain ⟨A0, c0, rfl, hc0, hrd0⟩ := hO.own.slice
    obtain ⟨tn, htn⟩ : ∃ tn, ts.length = tn := ⟨_, rfl⟩
    rw [htn] at hO htl hc0 ⊢
    have Htn := Lib.hid htn
    have HRd0 := Lib.hid (And.intro hrd0 hc0)
    clear HW0 Hb0 HI0
    have HO := Lib.hid hO
    have HRest := Lib.hid hrest
    have HInv := Lib.hid hinv
    have HInv2 : Hid (∀ t ∈ ts, Lz.good t.tok = true) := Lib.hid (fun t ht => hinv.gd _ (List.mem_map_of_mem ht))
    have HW := Lib.hid hW
    have Hb := Lib.hid hb
    have Htl := Lib.hid htl
    have Hn := Lib.hid hn
    clear hO hrest hinv hW hb hn htn hrd0 hc0
    by_cases hlt : a < bl
    · have hbp : 0 < b.length := by rw [← HBL.out]; omega
      obtain ⟨g, o, hA, hg, hc⟩ : ∃ g o, A = some ⟨g, o, none⟩ ∧ g < w.heap.size ∧ ∀ (j : Nat) (c : UInt8), b[j]? = some c → w.cell? ⟨g, o + j, none⟩ = some (.int .u8 (c.toNat : Int)) := by
        rcases HR.out with h | ⟨g, o, h1, h2, h3⟩
        · rw [h] at hbp; simp at hbp
        · exact ⟨g, o, h1, h2, h3⟩
      subst hA
      have HC := Lib.hid hc
      have dlt : decide ((a : Int) < (bl : Int)) = true := by simp; omega
      have hal : a < b.length := by rw [← HBL.out]; exact hlt
      have hmx : n + 1 < maxLen := by have := Hn.out; simp only [maxLen]; omega
      have Hmx := Lib.hid hmx
      have Hal := Lib.hid hal
      clear hc hbp hmx hal
      by_cases hxa : a = x
      · subst hxa
        obtain ⟨R, hR⟩ : ∃ R, Lz.best b a = R := ⟨_, rfl⟩
        have hcr : ∀ j c, b[j]? = some c → wr.cell? ⟨g, o + j, none⟩ = some (.int .u8 (c.toNat : Int)) := fun j c hj => (Hb.out.cell (p := ⟨g, o + j, none⟩) hg).trans (HC.out j c hj)
        have HLo := Lib.hid (longest_any wr w.heap.size gm n f g o bl bc b a HW.out HBL.out hbc hl hlt (Nat.lt_of_lt_of_le hg Hb.out.size) hcr R hR)
        have HRR := Lib.hid hR
        clear hcr hR
        go_wp2_with fail
        refine HLo.out.mono ?_
        rintro e w1 ⟨rfl, hb1⟩
        have hO1 := HO.out.below hb1
        have hW1 := HW.out.below hb1
        have hbw1 := Hb.out.trans (hb1.mono Hb.out.size)
        have hb2 := below_alloc w1 (.cells (mT R).toArray 41)
        have hZ2 := Blk.new w1 41 zT
        have hB2 := Blk.new w1 41 (mT R)
        have hEa : (w1.alloc (.cells zT.toArray 41)).setRow w1.heap.size (mT R).toArray = w1.alloc (.cells (mT R).toArray 41) := World.setRow_alloc_new w1 _ _ _
        have hz2 : (w1.alloc (.cells (mT R).toArray 41)).heap.size = w1.heap.size + 1 := World.size_alloc _ _
        obtain ⟨w2, hw2⟩ : ∃ w2, w1.alloc (.cells (mT R).toArray 41) = w2 := ⟨_, rfl⟩
        rw [hw2] at hb2 hB2 hEa hz2
        have HO2 := Lib.hid (hO1.below hb2)
        have HW2 := Lib.hid (hW1.below hb2)
        have Hbw2 := Lib.hid (hbw1.trans (hb2.mono hbw1.size))
        have HZ2 := Lib.hid hZ2
        have HEa := Lib.hid hEa
        have HB2 := Lib.hid hB2
        have Hz2 := Lib.hid hz2
        have HOw : Hid (∀ q, (Value.slice A0 tn c0).ownBlock = some q → q ≠ w1.heap.size) := Lib.hid (fun q e => by have := (hO1.own.block_lt e).2; omega)
        have hml : (mT R).length = 3 := rfl
        have c1 := hB2.cell 1
        rw [show (mT R)[1]? = some (.int .i64 (R.1 : Int)) from rfl] at c1
        obtain ⟨r1, hr1⟩ : ∃ r1, R.1 = r1 := ⟨_, rfl⟩
        rw [hr1] at c1
        have HR1 := Lib.hid hr1
        have HLd := Lib.hid (run_loadVar_row (P := Try.prog) w2 w1.heap.size 41 41 (mT R).toArray (0, 0) _ hB2 Try.undTok rfl (by simpa using size_mT R))
        clear hb1 hO1 hW1 hbw1 hb2 hZ2 hB2 hEa hz2 hw2 hr1 HLo HO HW Hb
        by_cases h0 : 0 < r1
        · have d0 : decide ((0 : Int) < (r1 : Int)) = true := by simp; omega
          have hbest : Lz.best b a = R := HRR.out
          have hR1 : (Lz.best b a).1 = r1 := by rw [hbest, HR1.out]
          have hi2 := HInv.out.match_ (by rw [hR1]; exact h0)
          have hrs := Lz.rest_match Hal.out (by rw [hR1]; exact h0) (ts.map Tv.tok)
          rw [HRest.out, hR1, hbest] at hrs
          rw [hR1, hbest] at hi2
          have hmap : (ts ++ [(⟨none, [], 0, (r1 : Int), (R.2 : Int)⟩ : Tv)]).map Tv.tok = ts.map Tv.tok ++ [⟨[], (r1 : Int), (R.2 : Int)⟩] := by simp [Tv.tok]
          rw [← hmap] at hrs hi2
          have hx : (⟨none, [], 0, (r1 : Int), (R.2 : Int)⟩ : Tv).cells = mT R := by rw [← HR1.out]; rfl
          -- the new token's block, the append
          have hB3 := Blk.new w2 41 (mT R)
          rw [← hx] at hB3
          have hb3 := below_alloc w2 (.cells (mT R).toArray 41)
          rw [← hx] at hb3
          have hO3 := HO2.out.below hb3
          have hW3 := HW2.out.below hb3
          have hbw3 := Hbw2.out.trans (hb3.mono Hbw2.out.size)
          obtain ⟨v4, w4, hr4, hO4, ho4, hg4⟩ := hO3.push (Nat.le_trans Hbw2.out.size hb3.size) 33 33 Try.undToks (x := ⟨none, [], 0, (r1 : Int), (R.2 : Int)⟩) hB3 (.inl rfl) (Nat.le_refl _) (by rw [Htn.out]; omega) 1 (fun h => absurd rfl h)
          rw [hx] at hb3 hg4
          have hW4 := win_FL (by rw [hx]; exact HW2.out.below hb3) ho4
          have hbw4 : Below w.heap.size w w4 := hbw3.trans (ho4.below (fun i hi => hi.1) hbw3.size)
          have c14 : w4.cell? ⟨w1.heap.size, 1, none⟩ = some (.int .i64 (r1 : Int)) := by
            rw [← c1]
            have h1 := hg4.block w1.heap.size (by have := hb3.size; have := Hz2.out; omega) (fun e => HOw.out _ e.symm rfl)
            have h2 := hb3.block w1.heap.size (by have := Hz2.out; omega)
            exact World.cell?_of_block (h1.trans h2)
          have hX3 : w2.alloc (.cells (⟨none, [], 0, (r1 : Int), (R.2 : Int)⟩ : Tv).cells.toArray 41) = w2.alloc (.cells (mT R).toArray 41) := by rw [hx]
          rw [hX3] at hr4
          have H4 := Lib.hid hr4
          have HOt := Lib.hid hO4
          have HWt := Lib.hid hW4
          have Hbt := Lib.hid hbw4
          have HRs := Lib.hid hrs.symm
          have HI5 := Lib.hid hi2
          have HTL : Hid ((ts ++ [(⟨none, [], 0, (r1 : Int), (R.2 : Int)⟩ : Tv)]).length ≤ a + 1) := Lib.hid (by rw [List.length_append, Htn.out]; simp; omega)
          have hle5 : a + r1 ≤ bl := by rw [HBL.out]; exact hi2.le
          clear hbest hR1 hi2 hrs hmap hx hB3 hb3 hO3 hbw3 hr4 hO4 ho4 hg4 hW4 hbw4 hX3
          go_wp2_with (first | (refine wpList_alloc_arr rfl 41 zT.toArray rfl zero_T ?_) | (refine wpList_store_arr rfl 41 (.tmp 7) (.tmp 20) w1.heap.size zT (mT R) rfl rfl rfl rfl HZ2.out (size_mT R) rfl (fun u hu => cellsT_one [⟨none, [], 0, R.1, R.2⟩] u (by simpa [cellsT, Tv.cells, mT] using hu)) ?_; rw [HEa.out]) | refine wpList_load_arr_w 41 (.tmp 7) rfl rfl (mT R).toArray HLd.out (by kernel_rfl) ?_ | (at_builtin; refine wpList_append_run rfl (.tmp 24) (.tmp 26) _ rfl rfl rfl H4.out ?_))
          clear hml
          refine (slide_any w4 w.heap.size gm n f g o bl bc b a HWt.out Hmx.out Hbt.out.size HBL.out hbc hl hlt hg (fun j c hj => (Hbt.out.cell (p := ⟨g, o + j, none⟩) hg).trans (HC.out j c hj)) _ rfl).mono ?_
          rintro e w9 ⟨⟨v9, rfl⟩, f9, n9, hn9, hW9, ho9⟩
          have HO9 := Lib.hid (ownL_FI HOt.out HWt.out ho9)
          have Hb9 := Lib.hid (Hbt.out.trans (ho9.below (fun i hi => hi.1) Hbt.out.size))
          have HW9 := Lib.hid hW9
          have Hn9 : Hid (n9 ≤ 2 * (a + 1)) := Lib.hid (by have := Hn.out; omega)
          clear hn9 hW9 ho9 HOt HWt Hbt
          go_wp2
          exact ⟨⟨a + 1, a + r1, _, n9, f9, by go_num, by go_num, by omega, by omega, HO9.out, HRs.out, HI5.out, HTL.out, HW9.out, Hn9.out, Hb9.out⟩, by simp [intOf]; omega⟩
        · have d0 : decide ((0 : Int) < (r1 : Int)) = false := by simp; omega
          have hr10 : ¬ 0 < (Lz.best b a).1 := by rw [HRR.out, HR1.out]; exact h0
          have hi2 := HInv.out.put_ Hal.out
          have hrs := Lz.rest_put Hal.out hr10 (ts.map Tv.tok)
          rw [HRest.out] at hrs
          obtain ⟨ch, hch⟩ : ∃ ch, b[a]? = some ch := ⟨_, List.getElem?_eq_getElem Hal.out⟩
          have hgd : b.getD a 0 = ch := by rw [List.getD_eq_getElem?_getD, hch]; rfl
          rw [hgd] at hi2 hrs
          have cb : w2.cell? ⟨g, o + a, none⟩ = some (.int .u8 (ch.toNat : Int)) := (Hbw2.out.cell (p := ⟨g, o + a, none⟩) hg).trans (HC.out a ch hch)
          have HI2 := Lib.hid hi2
          have Hrs := Lib.hid hrs
          have HLw := Lib.hid (withByte_any w2 w.heap.size A0 ts tn c0 ch HO2.out Htn.out.symm (by omega) Hbw2.out.size HInv2.out)
          have hin : (a : Int) < (bl : Int) := by omega
          clear hr10 hi2 hrs hgd hch
          go_wp2_with (first | (refine wpList_alloc_arr rfl 41 zT.toArray rfl zero_T ?_) | (refine wpList_store_arr rfl 41 (.tmp 7) (.tmp 20) w1.heap.size zT (mT R) rfl rfl rfl rfl HZ2.out (size_mT R) rfl (fun u hu => cellsT_one [⟨none, [], 0, R.1, R.2⟩] u (by simpa [cellsT, Tv.cells, mT] using hu)) ?_; rw [HEa.out]))
          refine HLw.out.mono ?_
          rintro e w4 ⟨v4, ts4, rfl, hO4, hm4, hl4, ho4⟩
          have HOt := Lib.hid hO4
          have HWt := Lib.hid (win_FL HW2.out ho4)
          have Hbt := Lib.hid (Hbw2.out.trans (ho4.below (fun i hi => hi.1) Hbw2.out.size))
          have HRs : Hid (Lz.rest b (a + 1) (ts4.map Tv.tok) = T) := Lib.hid (by rw [hm4]; exact Hrs.out.symm)
          have HI5 : Hid (Lz.Inv b (a + 1) (ts4.map Tv.tok)) := Lib.hid (by rw [hm4]; exact HI2.out)
          have HTL : Hid (ts4.length ≤ a + 1) := Lib.hid (by have := Htn.out; omega)
          clear hO4 hm4 hl4 ho4 HO2 HW2 Hbw2 HI2 Hrs HLw HInv
          go_wp2_with fail
          refine (slide_any w4 w.heap.size gm n f g o bl bc b a HWt.out Hmx.out Hbt.out.size HBL.out hbc hl hlt hg (fun j c hj => (Hbt.out.cell (p := ⟨g, o + j, none⟩) hg).trans (HC.out j c hj)) _ rfl).mono ?_
          rintro e w9 ⟨⟨v9, rfl⟩, f9, n9, hn9, hW9, ho9⟩
          have HO9 := Lib.hid (ownL_FI HOt.out HWt.out ho9)
          have Hb9 := Lib.hid (Hbt.out.trans (ho9.below (fun i hi => hi.1) Hbt.out.size))
          have HW9 := Lib.hid hW9
          have Hn9 : Hid (n9 ≤ 2 * (a + 1)) := Lib.hid (by have := Hn.out; omega)
          clear hn9 hW9 ho9 HOt HWt Hbt
          go_wp2
          exact ⟨⟨a + 1, a + 1, _, n9, f9, by go_num, by go_num, by omega, by omega, HO9.out, HRs.out, HI5.out, HTL.out, HW9.out, Hn9.out, Hb9.out⟩, by simp [intOf]; omega⟩
      · have deq : ((a : Int) == (x : Int)) = false := by simp; omega
        have HOt := Lib.hid HO.out
        have HWt := Lib.hid HW.out
        have Hbt := Lib.hid Hb.out
        have HRs := Lib.hid HRest.out
        have HI5 := Lib.hid HInv.out
        have HTL : Hid (ts.length ≤ a + 1) := Lib.hid (by have := Htn.out; omega)
        have hxa2 : a + 1 ≤ x := by omega
        clear HO HW Hb HRest HInv hax hxa
        go_wp2_with fail
        refine (slide_any wr w.heap.size gm n f g o bl bc b a HWt.out Hmx.out Hbt.out.size HBL.out hbc hl hlt hg (fun j c hj => (Hbt.out.cell (p := ⟨g, o + j, none⟩) hg).trans (HC.out j c hj)) _ rfl).mono ?_
        rintro e w9 ⟨⟨v9, rfl⟩, f9, n9, hn9, hW9, ho9⟩
        have HO9 := Lib.hid (ownL_FI HOt.out HWt.out ho9)
        have Hb9 := Lib.hid (Hbt.out.trans (ho9.below (fun i hi => hi.1) Hbt.out.size))
        have HW9 := Lib.hid hW9
        have Hn9 : Hid (n9 ≤ 2 * (a + 1)) := Lib.hid (by have := Hn.out; omega)
        clear hn9 hW9 ho9 HOt HWt Hbt
        go_wp2
        exact ⟨⟨a + 1, x, _, n9, f9, by go_num, by go_num, by omega, by omega, HO9.out, HRs.out, HI5.out, HTL.out, HW9.out, Hn9.out, Hb9.out⟩, by simp [intOf]; omega⟩
    · have dlt : decide ((a : Int) < (bl : Int)) = false := by simp; omega
      obtain rfl : x = bl := by omega
      have hts : ts.map Tv.tok = T := by
        rw [← HRest.out, Lz.rest_end (by rw [← HBL.out]; exact Nat.le_refl _)]
      have HTs := Lib.hid hts
      clear hts
      go_wp2
      go_ret
      exact ⟨_, ts, rfl, HO.out, HTs.out, Hb.out⟩

/-- The landed lz keeps its contract. -/
theorem lzOK : LzOK (fun _ => True) where
  keep _ _ := trivial
  tokens w A b c _ hr hc hl := by
    refine (lzTokens_any w A b b.length c rfl hr hc hl _ rfl).mono ?_
    rintro e w' ⟨v, ts, rfl, hO, hm, hb⟩
    obtain ⟨A', c', rfl, hc', hr'⟩ := hO.own.slice
    exact ⟨A', c', ts, rfl, hc', hr', hm, hb⟩
  expand w A ts c most _ hr hc hl _ _ := by
    refine (lzExpand_any A ts ts.length c most w rfl hr hl _ _ rfl).mono ?_
    rintro e w' ⟨v, rfl, hO, hb⟩
    obtain ⟨A', c', rfl, hr'⟩ := hO.rd
    refine ⟨A', c', rfl, ?_, hr', hb⟩
    rcases hO.2 with ⟨_, hn⟩ | ⟨g, cap, cur, hv, _, _, hnc, _⟩
    · have hn' : (Lz.expand (ts.map Tv.tok) most).2.length = 0 := hn
      rw [hn']; exact Nat.zero_le _
    · obtain ⟨_, rfl⟩ : _ ∧ c' = cap := by simpa using hv
      exact hnc
  good w t _ _ _ := lzGood_any t w _ rfl
end Go.Proofs.Ytjapohddfelgkaa
