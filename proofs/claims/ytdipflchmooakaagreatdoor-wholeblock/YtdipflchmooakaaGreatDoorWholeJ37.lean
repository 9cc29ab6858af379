/-
  The landed lz: Tokens: its contract; the contracts of the whole package. The landed pack: marked, copied, expanded, Pack, Unpack: their contracts; the landed pack keeps its contract.
-/
import Derived.Test.YtdipflchmooakaaGreatDoorWholeJ35
import Derived.Test.YtdipflchmooakaaGreatDoorWholeJ36
import Derived.Test.YtdipflchmooakaaGreatDoorWholeJ03
import Derived.Test.YtdipflchmooakaaGreatDoorWholeJ33
import Derived.Test.YtdipflchmooakaaGreatDoorWholeJ04
set_option maxRecDepth 100000
namespace Go.Proofs.YtdipflchmooakaaGreatDoor
open Go.RowKit Go.Gar

theorem win_FL {w w' : World} {base gm n : Nat} {f : List UInt8 → Value} {ps : List UInt8 → List Nat} (h : Win w base gm n f ps) (ho : Only (FL base w) w w') : Win w' base gm n f ps :=
  h.only ho fun g hg => by
    obtain ⟨_, cs, h | h⟩ := hg
    · exact ⟨_, cs, h, by decide⟩
    · exact ⟨_, cs, h, by decide⟩
theorem ownL_FI {w w' : World} {base gm n : Nat} {f : List UInt8 → Value} {ps : List UInt8 → List Nat} {v : Value} {ts : List Tv} (h : OwnL w base v ts) (hW : Win w base gm n f ps) (ho : Only (FI base gm w) w w') : OwnL w' base v ts :=
  h.only ho fun g hg cs => by
    obtain ⟨_, rfl | ⟨cs', hB⟩⟩ := hg
    · exact ⟨fun h => hW.map.not_blk h rfl, fun h => hW.map.not_blk h rfl⟩
    · exact ⟨fun h => h.ne hB (by decide) rfl, fun h => h.ne hB (by decide) rfl⟩

set_option maxHeartbeats 4000000 in
theorem lzTokens_any (w : World) (A : Option Addr) (b : List UInt8) (bl bc : Nat) (hbl : bl = b.length) (hr : Rd w w.heap.size A b) (hbc : bl ≤ bc) (hl : bl ≤ 100000) (T : List Lz.Tok) (hT : Lz.tokens b = T) :
    Calls Tryz.prog 17 #[.slice A bl bc] w fun e w' => ∃ v ts, e = .returned v ∧ OwnL w' w.heap.size v ts ∧ ts.map Tv.tok = T ∧ Below w.heap.size w w' := by
  have hW0 := Win.made w w.heap.size (Nat.le_refl _)
  have hb0 := below_alloc w (.map #[] 0)
  have HBL := Lib.hid hbl
  have HR := Lib.hid hr
  have HT := Lib.hid hT
  obtain ⟨gm, hgm⟩ : ∃ gm, w.heap.size = gm := ⟨_, rfl⟩
  have hW1 : Win (w.alloc (.map #[] 0)) w.heap.size gm 0 (fun _ => noInts) (Lz.win b 0) := by
    rw [show Lz.win b 0 = fun _ => [] from rfl, ← hgm]
    exact hW0
  have HW0 := Lib.hid hW1
  have Hb0 := Lib.hid hb0
  have Hgm := Lib.hid hgm
  have HI0 := Lib.hid (Lz.Inv.start b)
  have hmk : (Instr.makeMap 65 none).run Tryz.prog w = .ok (.map (some gm)) (w.alloc (.map #[] 0)) := by
    rw [← hgm]; exact run_makeMap _ w
  clear hbl hr hT hW0 hb0 hW1 hgm
  go_enter Tryz.func17, Tryz.ntmps17
  go_wp2
  go_loopw [3, 5, 11] (fun v nx iv W => ∃ (a x : Nat) (ts : List Tv) (n : Nat) (f : List UInt8 → Value), iv = .int .i64 (a : Int) ∧ nx = .int .i64 (x : Int) ∧ a ≤ x ∧ x ≤ bl ∧ OwnL W w.heap.size v ts ∧ Lz.rest b x (ts.map Tv.tok) = T ∧ Lz.Inv b x (ts.map Tv.tok) ∧ ts.length ≤ a ∧ Win W w.heap.size gm n f (Lz.win b a) ∧ n ≤ 2 * a ∧ Below w.heap.size w W) (fun _ _ iv _ => bl - (intOf iv).toNat)
  case atStart => exact ⟨0, 0, [], 0, _, rfl, rfl, Nat.le_refl _, by omega, OwnL.nil _ _, HT.out, HI0.out, Nat.le_refl _, HW0.out, Nat.le_refl _, Hb0.out⟩
  case round =>
    obtain ⟨a, x, ts, n, f, rfl, rfl, hax, hxb, hO, hrest, hinv, htl, hW, hn, hb⟩ := hrel
    obtain ⟨A0, c0, rfl, hc0, hrd0⟩ := hO.own.slice
    obtain ⟨tn, htn⟩ : ∃ tn, ts.length = tn := ⟨_, rfl⟩
    rw [htn] at hO htl hc0 ⊢
    have Htn := Lib.hid htn
    have HRd0 := Lib.hid (And.intro hrd0 hc0)
    clear HW0 Hb0 HI0
    have HO := Lib.hid hO
    have HRest := Lib.hid hrest
    have HInv := Lib.hid hinv
    have HInv2 : Hid (∀ t ∈ ts, Lz.good t.tok = true) := Lib.hid (fun t ht => hinv.gd _ (List.mem_map_of_mem ht))
    have HW := Lib.hid hW
    have Hb := Lib.hid hb
    have Htl := Lib.hid htl
    have Hn := Lib.hid hn
    clear hO hrest hinv hW hb hn htn hrd0 hc0
    by_cases hlt : a < bl
    · have hbp : 0 < b.length := by rw [← HBL.out]; omega
      obtain ⟨g, o, hA, hg, hc⟩ : ∃ g o, A = some ⟨g, o, none⟩ ∧ g < w.heap.size ∧ ∀ (j : Nat) (c : UInt8), b[j]? = some c → w.cell? ⟨g, o + j, none⟩ = some (.int .u8 (c.toNat : Int)) := by
        rcases HR.out with h | ⟨g, o, h1, h2, h3⟩
        · rw [h] at hbp; simp at hbp
        · exact ⟨g, o, h1, h2, h3⟩
      subst hA
      have HC := Lib.hid hc
      have dlt : decide ((a : Int) < (bl : Int)) = true := by simp; omega
      have hal : a < b.length := by rw [← HBL.out]; exact hlt
      have hmx : n + 1 < maxLen := by have := Hn.out; simp only [maxLen]; omega
      have Hmx := Lib.hid hmx
      have Hal := Lib.hid hal
      clear hc hbp hmx hal
      by_cases hxa : a = x
      · subst hxa
        obtain ⟨R, hR⟩ : ∃ R, Lz.best b a = R := ⟨_, rfl⟩
        have hcr : ∀ j c, b[j]? = some c → wr.cell? ⟨g, o + j, none⟩ = some (.int .u8 (c.toNat : Int)) := fun j c hj => (Hb.out.cell (p := ⟨g, o + j, none⟩) hg).trans (HC.out j c hj)
        have HLo := Lib.hid (longest_any wr w.heap.size gm n f g o bl bc b a HW.out HBL.out hbc hl hlt (Nat.lt_of_lt_of_le hg Hb.out.size) hcr R hR)
        have HRR := Lib.hid hR
        clear hcr hR
        go_wp2_with fail
        refine HLo.out.mono ?_
        rintro e w1 ⟨rfl, hb1⟩
        have hO1 := HO.out.below hb1
        have hW1 := HW.out.below hb1
        have hbw1 := Hb.out.trans (hb1.mono Hb.out.size)
        have hb2 := below_alloc w1 (.cells (mT R).toArray 61)
        have hZ2 := Blk.new w1 61 zT
        have hB2 := Blk.new w1 61 (mT R)
        have hEa : (w1.alloc (.cells zT.toArray 61)).setRow w1.heap.size (mT R).toArray = w1.alloc (.cells (mT R).toArray 61) := World.setRow_alloc_new w1 _ _ _
        have hz2 : (w1.alloc (.cells (mT R).toArray 61)).heap.size = w1.heap.size + 1 := World.size_alloc _ _
        obtain ⟨w2, hw2⟩ : ∃ w2, w1.alloc (.cells (mT R).toArray 61) = w2 := ⟨_, rfl⟩
        rw [hw2] at hb2 hB2 hEa hz2
        have HO2 := Lib.hid (hO1.below hb2)
        have HW2 := Lib.hid (hW1.below hb2)
        have Hbw2 := Lib.hid (hbw1.trans (hb2.mono hbw1.size))
        have HZ2 := Lib.hid hZ2
        have HEa := Lib.hid hEa
        have HB2 := Lib.hid hB2
        have Hz2 := Lib.hid hz2
        have HOw : Hid (∀ q, (Value.slice A0 tn c0).ownBlock = some q → q ≠ w1.heap.size) := Lib.hid (fun q e => by have := (hO1.own.block_lt e).2; omega)
        have hml : (mT R).length = 3 := rfl
        have c1 := hB2.cell 1
        rw [show (mT R)[1]? = some (.int .i64 (R.1 : Int)) from rfl] at c1
        obtain ⟨r1, hr1⟩ : ∃ r1, R.1 = r1 := ⟨_, rfl⟩
        rw [hr1] at c1
        have HR1 := Lib.hid hr1
        have HLd := Lib.hid (run_loadVar_row (P := Tryz.prog) w2 w1.heap.size 61 61 (mT R).toArray (0, 0) _ hB2 Tryz.undTok rfl (by simpa using size_mT R))
        clear hb1 hO1 hW1 hbw1 hb2 hZ2 hB2 hEa hz2 hw2 hr1 HLo HO HW Hb
        by_cases h0 : 0 < r1
        · have d0 : decide ((0 : Int) < (r1 : Int)) = true := by simp; omega
          have hbest : Lz.best b a = R := HRR.out
          have hR1 : (Lz.best b a).1 = r1 := by rw [hbest, HR1.out]
          have hi2 := HInv.out.match_ (by rw [hR1]; exact h0)
          have hrs := Lz.rest_match Hal.out (by rw [hR1]; exact h0) (ts.map Tv.tok)
          rw [HRest.out, hR1, hbest] at hrs
          rw [hR1, hbest] at hi2
          have hmap : (ts ++ [(⟨none, [], 0, (r1 : Int), (R.2 : Int)⟩ : Tv)]).map Tv.tok = ts.map Tv.tok ++ [⟨[], (r1 : Int), (R.2 : Int)⟩] := by simp [Tv.tok]
          rw [← hmap] at hrs hi2
          have hx : (⟨none, [], 0, (r1 : Int), (R.2 : Int)⟩ : Tv).cells = mT R := by rw [← HR1.out]; rfl
          -- the new token's block, the append
          have hB3 := Blk.new w2 61 (mT R)
          rw [← hx] at hB3
          have hb3 := below_alloc w2 (.cells (mT R).toArray 61)
          rw [← hx] at hb3
          have hO3 := HO2.out.below hb3
          have hW3 := HW2.out.below hb3
          have hbw3 := Hbw2.out.trans (hb3.mono Hbw2.out.size)
          obtain ⟨v4, w4, hr4, hO4, ho4, hg4⟩ := hO3.push (Nat.le_trans Hbw2.out.size hb3.size) 42 42 Tryz.undToks (x := ⟨none, [], 0, (r1 : Int), (R.2 : Int)⟩) hB3 (.inl rfl) (Nat.le_refl _) (by rw [Htn.out]; omega) 1 (fun h => absurd rfl h)
          rw [hx] at hb3 hg4
          have hW4 := win_FL (by rw [hx]; exact HW2.out.below hb3) ho4
          have hbw4 : Below w.heap.size w w4 := hbw3.trans (ho4.below (fun i hi => hi.1) hbw3.size)
          have c14 : w4.cell? ⟨w1.heap.size, 1, none⟩ = some (.int .i64 (r1 : Int)) := by
            rw [← c1]
            have h1 := hg4.block w1.heap.size (by have := hb3.size; have := Hz2.out; omega) (fun e => HOw.out _ e.symm rfl)
            have h2 := hb3.block w1.heap.size (by have := Hz2.out; omega)
            exact World.cell?_of_block (h1.trans h2)
          have hX3 : w2.alloc (.cells (⟨none, [], 0, (r1 : Int), (R.2 : Int)⟩ : Tv).cells.toArray 61) = w2.alloc (.cells (mT R).toArray 61) := by rw [hx]
          rw [hX3] at hr4
          have H4 := Lib.hid hr4
          have HOt := Lib.hid hO4
          have HWt := Lib.hid hW4
          have Hbt := Lib.hid hbw4
          have HRs := Lib.hid hrs.symm
          have HI5 := Lib.hid hi2
          have HTL : Hid ((ts ++ [(⟨none, [], 0, (r1 : Int), (R.2 : Int)⟩ : Tv)]).length ≤ a + 1) := Lib.hid (by rw [List.length_append, Htn.out]; simp; omega)
          have hle5 : a + r1 ≤ bl := by rw [HBL.out]; exact hi2.le
          clear hbest hR1 hi2 hrs hmap hx hB3 hb3 hO3 hbw3 hr4 hO4 ho4 hg4 hW4 hbw4 hX3
          go_wp2_with (first | (refine wpList_alloc_arr rfl 61 zT.toArray rfl zero_T ?_) | (refine wpList_store_arr rfl 61 (.tmp 7) (.tmp 20) w1.heap.size zT (mT R) rfl rfl rfl rfl HZ2.out (size_mT R) rfl (fun u hu => cellsT_one [⟨none, [], 0, R.1, R.2⟩] u (by simpa [cellsT, Tv.cells, mT] using hu)) ?_; rw [HEa.out]) | refine wpList_load_arr_w 61 (.tmp 7) rfl rfl (mT R).toArray HLd.out (by kernel_rfl) ?_ | (at_builtin; refine wpList_append_run rfl (.tmp 24) (.tmp 26) _ rfl rfl rfl H4.out ?_))
          clear hml
          refine (slide_any w4 w.heap.size gm n f g o bl bc b a HWt.out Hmx.out Hbt.out.size HBL.out hbc hl hlt hg (fun j c hj => (Hbt.out.cell (p := ⟨g, o + j, none⟩) hg).trans (HC.out j c hj)) _ rfl).mono ?_
          rintro e w9 ⟨⟨v9, rfl⟩, f9, n9, hn9, hW9, ho9⟩
          have HO9 := Lib.hid (ownL_FI HOt.out HWt.out ho9)
          have Hb9 := Lib.hid (Hbt.out.trans (ho9.below (fun i hi => hi.1) Hbt.out.size))
          have HW9 := Lib.hid hW9
          have Hn9 : Hid (n9 ≤ 2 * (a + 1)) := Lib.hid (by have := Hn.out; omega)
          clear hn9 hW9 ho9 HOt HWt Hbt
          go_wp2
          exact ⟨⟨a + 1, a + r1, _, n9, f9, by go_num, by go_num, by omega, by omega, HO9.out, HRs.out, HI5.out, HTL.out, HW9.out, Hn9.out, Hb9.out⟩, by simp [intOf]; omega⟩
        · have d0 : decide ((0 : Int) < (r1 : Int)) = false := by simp; omega
          have hr10 : ¬ 0 < (Lz.best b a).1 := by rw [HRR.out, HR1.out]; exact h0
          have hi2 := HInv.out.put_ Hal.out
          have hrs := Lz.rest_put Hal.out hr10 (ts.map Tv.tok)
          rw [HRest.out] at hrs
          obtain ⟨ch, hch⟩ : ∃ ch, b[a]? = some ch := ⟨_, List.getElem?_eq_getElem Hal.out⟩
          have hgd : b.getD a 0 = ch := by rw [List.getD_eq_getElem?_getD, hch]; rfl
          rw [hgd] at hi2 hrs
          have cb : w2.cell? ⟨g, o + a, none⟩ = some (.int .u8 (ch.toNat : Int)) := (Hbw2.out.cell (p := ⟨g, o + a, none⟩) hg).trans (HC.out a ch hch)
          have HI2 := Lib.hid hi2
          have Hrs := Lib.hid hrs
          have HLw := Lib.hid (withByte_any w2 w.heap.size A0 ts tn c0 ch HO2.out Htn.out.symm (by omega) Hbw2.out.size HInv2.out)
          have hin : (a : Int) < (bl : Int) := by omega
          clear hr10 hi2 hrs hgd hch
          go_wp2_with (first | (refine wpList_alloc_arr rfl 61 zT.toArray rfl zero_T ?_) | (refine wpList_store_arr rfl 61 (.tmp 7) (.tmp 20) w1.heap.size zT (mT R) rfl rfl rfl rfl HZ2.out (size_mT R) rfl (fun u hu => cellsT_one [⟨none, [], 0, R.1, R.2⟩] u (by simpa [cellsT, Tv.cells, mT] using hu)) ?_; rw [HEa.out]))
          refine HLw.out.mono ?_
          rintro e w4 ⟨v4, ts4, rfl, hO4, hm4, hl4, ho4⟩
          have HOt := Lib.hid hO4
          have HWt := Lib.hid (win_FL HW2.out ho4)
          have Hbt := Lib.hid (Hbw2.out.trans (ho4.below (fun i hi => hi.1) Hbw2.out.size))
          have HRs : Hid (Lz.rest b (a + 1) (ts4.map Tv.tok) = T) := Lib.hid (by rw [hm4]; exact Hrs.out.symm)
          have HI5 : Hid (Lz.Inv b (a + 1) (ts4.map Tv.tok)) := Lib.hid (by rw [hm4]; exact HI2.out)
          have HTL : Hid (ts4.length ≤ a + 1) := Lib.hid (by have := Htn.out; omega)
          clear hO4 hm4 hl4 ho4 HO2 HW2 Hbw2 HI2 Hrs HLw HInv
          go_wp2_with fail
          refine (slide_any w4 w.heap.size gm n f g o bl bc b a HWt.out Hmx.out Hbt.out.size HBL.out hbc hl hlt hg (fun j c hj => (Hbt.out.cell (p := ⟨g, o + j, none⟩) hg).trans (HC.out j c hj)) _ rfl).mono ?_
          rintro e w9 ⟨⟨v9, rfl⟩, f9, n9, hn9, hW9, ho9⟩
          have HO9 := Lib.hid (ownL_FI HOt.out HWt.out ho9)
          have Hb9 := Lib.hid (Hbt.out.trans (ho9.below (fun i hi => hi.1) Hbt.out.size))
          have HW9 := Lib.hid hW9
          have Hn9 : Hid (n9 ≤ 2 * (a + 1)) := Lib.hid (by have := Hn.out; omega)
          clear hn9 hW9 ho9 HOt HWt Hbt
          go_wp2
          exact ⟨⟨a + 1, a + 1, _, n9, f9, by go_num, by go_num, by omega, by omega, HO9.out, HRs.out, HI5.out, HTL.out, HW9.out, Hn9.out, Hb9.out⟩, by simp [intOf]; omega⟩
      · have deq : ((a : Int) == (x : Int)) = false := by simp; omega
        have HOt := Lib.hid HO.out
        have HWt := Lib.hid HW.out
        have Hbt := Lib.hid Hb.out
        have HRs := Lib.hid HRest.out
        have HI5 := Lib.hid HInv.out
        have HTL : Hid (ts.length ≤ a + 1) := Lib.hid (by have := Htn.out; omega)
        have hxa2 : a + 1 ≤ x := by omega
        clear HO HW Hb HRest HInv hax hxa
        go_wp2_with fail
        refine (slide_any wr w.heap.size gm n f g o bl bc b a HWt.out Hmx.out Hbt.out.size HBL.out hbc hl hlt hg (fun j c hj => (Hbt.out.cell (p := ⟨g, o + j, none⟩) hg).trans (HC.out j c hj)) _ rfl).mono ?_
        rintro e w9 ⟨⟨v9, rfl⟩, f9, n9, hn9, hW9, ho9⟩
        have HO9 := Lib.hid (ownL_FI HOt.out HWt.out ho9)
        have Hb9 := Lib.hid (Hbt.out.trans (ho9.below (fun i hi => hi.1) Hbt.out.size))
        have HW9 := Lib.hid hW9
        have Hn9 : Hid (n9 ≤ 2 * (a + 1)) := Lib.hid (by have := Hn.out; omega)
        clear hn9 hW9 ho9 HOt HWt Hbt
        go_wp2
        exact ⟨⟨a + 1, x, _, n9, f9, by go_num, by go_num, by omega, by omega, HO9.out, HRs.out, HI5.out, HTL.out, HW9.out, Hn9.out, Hb9.out⟩, by simp [intOf]; omega⟩
    · have dlt : decide ((a : Int) < (bl : Int)) = false := by simp; omega
      obtain rfl : x = bl := by omega
      have hts : ts.map Tv.tok = T := by
        rw [← HRest.out, Lz.rest_end (by rw [← HBL.out]; exact Nat.le_refl _)]
      have HTs := Lib.hid hts
      clear hts
      go_wp2
      go_ret
      exact ⟨_, ts, rfl, HO.out, HTs.out, Hb.out⟩

/-- The landed lz keeps its contract. -/
theorem lzOK : LzOK (fun _ => True) where
  keep _ _ := trivial
  tokens w A b c _ hr hc hl := by
    refine (lzTokens_any w A b b.length c rfl hr hc hl _ rfl).mono ?_
    rintro e w' ⟨v, ts, rfl, hO, hm, hb⟩
    obtain ⟨A', c', rfl, hc', hr'⟩ := hO.own.slice
    exact ⟨A', c', ts, rfl, hc', hr', hm, hb⟩
  expand w A ts c most _ hr hc hl _ _ := by
    refine (lzExpand_any A ts ts.length c most w rfl hr hl _ _ rfl).mono ?_
    rintro e w' ⟨v, rfl, hO, hb⟩
    obtain ⟨A', c', rfl, hr'⟩ := hO.rd
    refine ⟨A', c', rfl, ?_, hr', hb⟩
    rcases hO.2 with ⟨_, hn⟩ | ⟨g, cap, cur, hv, _, _, hnc, _⟩
    · have hn' : (Lz.expand (ts.map Tv.tok) most).2.length = 0 := hn
      rw [hn']; exact Nat.zero_le _
    · obtain ⟨_, rfl⟩ : _ ∧ c' = cap := by simpa using hv
      exact hnc
  good w t _ _ _ := lzGood_any t w _ rfl
end Go.Proofs.YtdipflchmooakaaGreatDoor
namespace Go.Proofs.YtdipflchmooakaaGreatDoor
open Go.RowKit Go.Gar

theorem own_outP {w : World} {base : Nat} {e : TypeId} {v : Value} {k : List UInt8} (h : OwnB w base e v k) : ∃ A c, v = .slice A k.length c ∧ k.length ≤ c ∧ Rd w w.heap.size A k := by
  obtain ⟨A, c, rfl, hrd⟩ := h.rd
  refine ⟨A, c, rfl, ?_, hrd⟩
  rcases h.2 with ⟨hv, hn⟩ | ⟨g, cap, cur, hv, _, _, hnc, _⟩
  · exact hn ▸ Nat.zero_le _
  · obtain ⟨-, rfl⟩ : _ ∧ c = cap := by simpa using hv
    exact hnc

set_option maxHeartbeats 1000000 in
/-- Bytes behind the byte of their kind. -/
theorem marked_any (w : World) (x : UInt8) (A : Option Addr) (b : List UInt8) (n m c : Nat) (hn : n = b.length) (hm : m = n + 1) (hl : n ≤ 1048576) (hr : Rd w w.heap.size A b) (k : Int) (hk : k = (x.toNat : Int)) :
    Calls Tryz.prog 18 #[.int .u8 k, .slice A n c] w fun e w' => ∃ A' c', e = .returned (.slice A' m c') ∧ m ≤ c' ∧ Rd w' w'.heap.size A' (x :: b) ∧ Below w.heap.size w w' := by
  have hal := below_alloc w (.cells #[.int .u8 k] 5)
  have hown : OwnB (w.alloc (.cells #[.int .u8 k] 5)) w.heap.size 5 (.slice (some ⟨w.heap.size, 0, none⟩) 1 1) [x] := by
    rw [hk]
    exact World.ownsRow_lit (base := w.heap.size) (e := 5) (size := 1) w #[.int .u8 (x.toNat : Int)] 1 (Nat.le_refl _) (by simp [maxLen]) (by simp)
  obtain ⟨v3, w3, e3, hO3, hb3, _⟩ := app_rd (P := Tryz.prog) 23 23 Tryz.und22 Tryz.info5 hown hal.size c (hr.below hal) (by rw [← hn]; simp; omega)
  rw [← hn] at e3
  have hO3' : OwnB w3 w.heap.size 5 v3 (x :: b) := hO3
  obtain ⟨A', c', rfl, hc', hrd⟩ := own_outP hO3'
  rw [List.length_cons, ← hn, ← hm] at e3
  rw [List.length_cons, ← hn, ← hm] at hc'
  have He3 := Lib.hid e3
  have Hc := Lib.hid hc'
  have HR := Lib.hid hrd
  have Hb3 := Lib.hid (hal.trans hb3)
  clear hal hown e3 hO3 hO3' hb3 hrd hc' hr hn hm hk
  go_enter Tryz.func18, Tryz.ntmps18
  go_wp2_with (at_builtin; refine wpList_append_run rfl (.tmp 6) (.tmp 7) _ rfl rfl rfl He3.out ?_)
  go_ret
  exact ⟨_, _, rfl, Hc.out, HR.out, Hb3.out⟩

set_option maxHeartbeats 1000000 in
/-- A copy of bytes, of none too. -/
theorem cloneP_any (w : World) (A : Option Addr) (b : List UInt8) (n c : Nat) (hn : n = b.length) (hl : n ≤ 1048576) (hr : Rd w w.heap.size A b) :
    Calls Tryz.prog 52 #[.slice A n c] w fun e w' => ∃ A' c', e = .returned (.slice A' n c') ∧ n ≤ c' ∧ Rd w' w'.heap.size A' b ∧ Below w.heap.size w w' := by
  cases A with
  | none =>
    have hb : b = [] := by
      rcases hr with h | ⟨g, o, e, _⟩
      · exact h
      · cases e
    subst hb
    obtain rfl : n = 0 := hn
    have hq := run_eql_slice_nil (P := Tryz.prog) w 23 5 none 0 c Tryz.und22
    rw [Option.isNone_none] at hq
    clear hr
    go_enter Tryz.func52, Tryz.ntmps52
    go_wp2_with fail
    go_ret
    exact ⟨none, _, rfl, Nat.zero_le _, .inl rfl, Below.refl _ _⟩
  | some p =>
    have hO := own_made w w.heap.size 5 (Nat.le_refl _)
    have hb0 := below_alloc w (.cells #[] 5)
    obtain ⟨v1, w1, e1, ho1, hb1, _⟩ := app_rd (P := Tryz.prog) 23 23 Tryz.und22 Tryz.info5 hO (by rw [World.size_alloc]; omega) c (hr.below hb0) (by simp; omega)
    rw [List.nil_append] at ho1
    obtain ⟨A', c', rfl, hc', hrd⟩ := own_outP ho1
    rw [← hn] at e1 hc'
    have Hb1 := Lib.hid (hb0.trans hb1)
    have HR := Lib.hid hrd
    have Hc := Lib.hid hc'
    have hq := run_eql_slice_nil (P := Tryz.prog) w 23 5 (some p) n c Tryz.und22
    rw [Option.isNone_some] at hq
    clear hO hb0 hb1 ho1 hc' hrd hr hn
    go_enter Tryz.func52, Tryz.ntmps52
    go_wp2_with (at_builtin; refine wpList_append_run rfl (.tmp 5) (.tmp 6) _ rfl rfl rfl e1 ?_)
    go_ret
    exact ⟨_, _, rfl, Hc.out, HR.out, Hb1.out⟩

set_option maxHeartbeats 1000000 in
/-- A block that is stored. -/
theorem copied_any (w : World) (A : Option Addr) (b : List UInt8) (n c : Nat) (hn : n = b.length) (hl : n ≤ 1048576) (hr : Rd w w.heap.size A b) (E : Nat) (O : List UInt8) (m : Nat) (hm : m = O.length) (hE : (if 1024 < n then (12, []) else (0, b)) = (E, O)) :
    Calls Tryz.prog 32 #[.slice A n c] w fun e w' => ∃ A' c', e = .returned (.tuple #[.slice A' m c', .int .i64 (E : Int)]) ∧ m ≤ c' ∧ Rd w' w'.heap.size A' O ∧ Below w.heap.size w w' := by
  by_cases h1 : 1024 < n
  · have h1' : (1024 : Int) < (n : Int) := by omega
    obtain ⟨rfl, rfl⟩ : 12 = E ∧ [] = O := by rw [if_pos h1] at hE; simpa using hE
    obtain rfl : m = 0 := hm
    clear hr hE hn
    go_enter Tryz.func32, Tryz.ntmps32
    go_wp2
    go_ret2
    exact ⟨_, _, rfl, Nat.zero_le _, .inl rfl, Below.refl _ _⟩
  · have h1' : ¬ (1024 : Int) < (n : Int) := by omega
    obtain ⟨rfl, rfl⟩ : 0 = E ∧ b = O := by rw [if_neg h1] at hE; simpa using hE
    obtain rfl : m = n := by rw [hm, hn]
    clear hE hm
    have HN := Lib.hid hn
    have HR := Lib.hid hr
    clear hn hr
    go_enter Tryz.func32, Tryz.ntmps32
    go_wp2_with fail
    refine (cloneP_any w A b m c HN.out hl HR.out).mono ?_
    rintro e w1 ⟨A', c', rfl, hc', hr', hb'⟩
    have Hc := Lib.hid hc'
    have HR' := Lib.hid hr'
    have Hb' := Lib.hid hb'
    clear hc' hr' hb'
    go_wp2_with fail
    go_ret2
    exact ⟨_, _, rfl, Hc.out, HR'.out, Hb'.out⟩

theorem Lz.encT_pos (t : Lz.Tok) : 1 ≤ (Lz.encT t).length := by
  unfold Lz.encT
  split
  · simp
  · simp
theorem Lz.decode_short {b : List UInt8} {l : List Lz.Tok} (h : Lz.decode b = (0, l)) : l.length ≤ b.length := by
  rw [← (Lz.decode_ok h).2]
  have h2 : ∀ l : List Lz.Tok, l.length ≤ (l.flatMap Lz.encT).length := by
    intro l
    induction l with
    | nil => simp
    | cons t l ih =>
      rw [List.flatMap_cons, List.length_append, List.length_cons]
      have := Lz.encT_pos t
      omega
  exact h2 l

set_option maxHeartbeats 1000000 in
/-- A block whose tokens are encoded. -/
theorem expanded_any (w : World) (A : Option Addr) (b : List UInt8) (n c : Nat) (hn : n = b.length) (hc : n ≤ c) (hl : n ≤ 100000) (hr : Rd w w.heap.size A b) (E : Nat) (O : List UInt8) (m : Nat) (hm : m = O.length)
    (hE : (if (Lz.decode b).1 = 0 ∧ (Lz.expand (Lz.decode b).2 1024).1 = 0 then (0, (Lz.expand (Lz.decode b).2 1024).2) else (12, [])) = (E, O)) :
    Calls Tryz.prog 33 #[.slice A n c] w fun e w' => ∃ A' c', e = .returned (.tuple #[.slice A' m c', .int .i64 (E : Int)]) ∧ m ≤ c' ∧ Rd w' w'.heap.size A' O ∧ Below w.heap.size w w' := by
  obtain ⟨F, hF⟩ : ∃ F, (Lz.decode b).1 = F := ⟨_, rfl⟩
  obtain ⟨T, hT⟩ : ∃ T, (Lz.decode b).2 = T := ⟨_, rfl⟩
  rw [hF, hT] at hE
  have hdec : Lz.decode b = (F, T) := Prod.ext hF hT
  have hcs : (F = 0 ∧ T.length ≤ b.length ∧ ∀ t ∈ T, Lz.good t = true) ∨ (F = 12 ∧ T = []) := by
    rcases Lz.decode_cases b with ⟨l, h⟩ | h
    · have h2 := h
      rw [hdec] at h2
      obtain ⟨rfl, rfl⟩ := Prod.mk.inj h2
      exact .inl ⟨rfl, Lz.decode_short h, (Lz.decode_ok h).1⟩
    · rw [hdec] at h
      exact .inr (Prod.mk.inj h)
  have HE := Lib.hid hE
  have HF := Lib.hid hF
  have HT := Lib.hid hT
  have HN := Lib.hid hn
  have HR := Lib.hid hr
  have HM := Lib.hid hm
  have HC := Lib.hid hcs
  clear hE hF hT hn hr hm hdec hcs
  go_enter Tryz.func33, Tryz.ntmps33
  go_wp2_with fail
  refine (tokD_at tokenOK w A b n c (F : Int) T trivial HN.out HR.out hc hl (by rw [HF.out]) HT.out.symm).mono ?_
  rintro e w3 ⟨A3, n3, c3, ts, rfl, hn3, hc3, hr3, hts, hb3⟩
  rcases HC.out with ⟨rfl, hlt, hgd⟩ | ⟨rfl, rfl⟩
  · have hn3' : n3 ≤ n := by
      rw [hn3, ← toks_len ts, hts, HN.out]
      exact hlt
    obtain ⟨F2, hF2⟩ : ∃ F2, (Lz.expand T 1024).1 = F2 := ⟨_, rfl⟩
    obtain ⟨O2, hO2⟩ : ∃ O2, (Lz.expand T 1024).2 = O2 := ⟨_, rfl⟩
    obtain ⟨m2, hm2⟩ : ∃ m2, m2 = O2.length := ⟨_, rfl⟩
    have HEE := HE.out
    rw [hF2, hO2] at HEE
    simp only [true_and] at HEE
    have HE2 := Lib.hid HEE
    have HF2 : Hid ((F2 : Int) = (((Lz.expand (ts.map Tv.tok) 1024).1 : Nat) : Int)) := Lib.hid (by rw [hts, hF2])
    have HO2 : Hid (O2 = (Lz.expand (ts.map Tv.tok) 1024).2) := Lib.hid (by rw [hts, hO2])
    have HM2 := Lib.hid hm2
    have HI := Lib.hid (goods_i64 (ts := ts) (by rw [hts]; exact hgd))
    have HN3 := Lib.hid hn3
    have HR3 := Lib.hid hr3
    have Hb3 := Lib.hid hb3
    clear HE HEE hF2 hO2 hm2 hn3 hr3 hts hb3 hlt hgd HC HF HT
    go_wp2_with fail
    refine (lzE_at lzOK w3 A3 ts n3 c3 1024 (F2 : Int) O2 m2 trivial HN3.out HR3.out hc3 (by omega) (by unfold isI64; omega) HI.out HF2.out HO2.out HM2.out).mono ?_
    rintro e w4 ⟨A4, c4, rfl, hc4, hr4, hb4⟩
    have HC4 := Lib.hid hc4
    have HR4 := Lib.hid hr4
    have Hb4 := bb Hb3 hb4
    clear hc4 hr4 hb4
    by_cases hz : F2 = 0
    · subst hz
      obtain ⟨rfl, rfl⟩ : 0 = E ∧ O2 = O := by simpa using HE2.out
      obtain rfl : m = m2 := by rw [HM.out, HM2.out]
      clear HE2 HF2
      go_wp2_with fail
      go_ret2
      exact ⟨_, _, rfl, HC4.out, HR4.out, Hb4.out⟩
    · obtain ⟨rfl, rfl⟩ : 12 = E ∧ [] = O := by simpa [hz] using HE2.out
      obtain rfl : m = 0 := HM.out
      have hz2 : ((F2 : Int) == 0) = false := by simp; omega
      clear HE2 HF2
      go_wp2_with fail
      go_ret2
      exact ⟨_, _, rfl, Nat.zero_le _, .inl rfl, Hb4.out⟩
  · obtain ⟨rfl, rfl⟩ : 12 = E ∧ [] = O := by simpa using HE.out
    obtain rfl : m = 0 := HM.out
    have Hb3 := Lib.hid hb3
    clear HE hn3 hr3 hts hb3 HC HF HT
    go_wp2_with fail
    go_ret2
    exact ⟨_, _, rfl, Nat.zero_le _, .inl rfl, Hb3.out⟩

set_option maxHeartbeats 2000000 in
theorem packG_any (w : World) (A : Option Addr) (b : List UInt8) (n c : Nat) (hn : n = b.length) (hc : n ≤ c) (hl : n ≤ 100000) (hr : Rd w w.heap.size A b) (E : Nat) (O : List UInt8) (m : Nat) (hm : m = O.length) (hE : Lz.packB b = (E, O)) :
    Calls Tryz.prog 5 #[.slice A n c] w fun e w' => ∃ A' c', e = .returned (.tuple #[.slice A' m c', .int .i64 (E : Int)]) ∧ m ≤ c' ∧ Rd w' w'.heap.size A' O ∧ Below w.heap.size w w' := by
  by_cases h1 : 1024 < n
  · have h1' : (1024 : Int) < (n : Int) := by omega
    obtain ⟨rfl, rfl⟩ : 2 = E ∧ [] = O := by
      unfold Lz.packB at hE
      rw [if_pos (by rw [← hn]; exact h1)] at hE
      simpa using hE
    obtain rfl : m = 0 := hm
    clear hn hr hE
    go_enter Tryz.func5, Tryz.ntmps5
    go_wp2
    go_ret2
    exact ⟨_, _, rfl, Nat.zero_le _, .inl rfl, Below.refl _ _⟩
  · have h1' : ¬ (1024 : Int) < (n : Int) := by omega
    unfold Lz.packB at hE
    rw [if_neg (by rw [← hn]; exact h1), ← hn] at hE
    obtain ⟨X, hX⟩ : ∃ X, (Lz.encode (Lz.tokens b)).2 = X := ⟨_, rfl⟩
    rw [hX] at hE
    obtain ⟨xn, hxn⟩ : ∃ xn, X.length = xn := ⟨_, rfl⟩
    rw [hxn] at hE
    have HN := Lib.hid hn
    have HR := Lib.hid hr
    have HE := Lib.hid hE
    have HX := Lib.hid hX
    have HXn := Lib.hid hxn
    have HM := Lib.hid hm
    clear hn hr hE hX hxn hm
    go_enter Tryz.func5, Tryz.ntmps5
    go_wp2_with fail
    refine (lzT_at lzOK w A b n c _ trivial HN.out rfl HR.out hc hl).mono ?_
    rintro e w1 ⟨A1, n1, c1, ts, rfl, hn1, hc1, hr1, ht1, hb1⟩
    have hle : n1 ≤ 1024 := by
      rw [hn1, ← toks_len ts, ht1]
      have := Lz.tokens_len b
      have := HN.out
      omega
    have Hn1 := Lib.hid hn1
    have HR1 := Lib.hid hr1
    have HT1 := Lib.hid ht1
    have Hb1 := Lib.hid hb1
    clear hn1 hr1 ht1 hb1
    go_wp2_with fail
    refine (tokE_at tokenOK w1 A1 ts n1 c1 0 X xn trivial Hn1.out HR1.out hc1 (by omega) (tokens_i64 HT1.out) (by rw [HT1.out, Lz.encode_tokens]; rfl) (by rw [HT1.out, HX.out]) HXn.out.symm).mono ?_
    rintro e w2 ⟨A2, c2, rfl, hc2, hr2, hb2⟩
    have Hb2 := bb Hb1 hb2
    have HR2 := Lib.hid hr2
    have HC2 := Lib.hid hc2
    clear hr2 hb2 HR1 Hb1 hc2
    by_cases h3 : n ≤ xn
    · have h3' : ¬ (xn : Int) < (n : Int) := by omega
      obtain ⟨rfl, rfl⟩ : 0 = E ∧ 0 :: b = O := by
        have := HE.out
        rw [if_pos h3] at this
        simpa using this
      have Hm : Hid (m = n + 1) := Lib.hid (by rw [HM.out, HN.out, List.length_cons])
      clear HE
      go_wp2_with fail
      refine (marked_any w2 0 A b n m c HN.out Hm.out (by omega) ((HR.out.below Hb2.out).more Hb2.out.size) 0 rfl).mono ?_
      rintro e w3 ⟨A3, c3, rfl, hc3, hr3, hb3⟩
      have HC3 := Lib.hid hc3
      have HR3 := Lib.hid hr3
      have Hb3 := bb Hb2 hb3
      clear hc3 hr3 hb3
      go_wp2_with fail
      go_ret2
      exact ⟨_, _, rfl, HC3.out, HR3.out, Hb3.out⟩
    · have h3' : (xn : Int) < (n : Int) := by omega
      obtain ⟨rfl, rfl⟩ : 0 = E ∧ 1 :: X = O := by
        have := HE.out
        rw [if_neg h3] at this
        simpa using this
      have Hm : Hid (m = xn + 1) := Lib.hid (by rw [HM.out, List.length_cons, HXn.out])
      clear HE
      go_wp2_with fail
      refine (marked_any w2 1 A2 X xn m c2 HXn.out.symm Hm.out (by omega) HR2.out 1 rfl).mono ?_
      rintro e w3 ⟨A3, c3, rfl, hc3, hr3, hb3⟩
      have HC3 := Lib.hid hc3
      have HR3 := Lib.hid hr3
      have Hb3 := bb Hb2 hb3
      clear hc3 hr3 hb3
      go_wp2_with fail
      go_ret2
      exact ⟨_, _, rfl, HC3.out, HR3.out, Hb3.out⟩

theorem Lz.unpackB_cons (x : UInt8) (r : List UInt8) : Lz.unpackB (x :: r) = if 1 < x.toNat then (12, []) else if x = 0 then (if 1024 < r.length then (12, []) else (0, r)) else
    if (Lz.decode r).1 = 0 ∧ (Lz.expand (Lz.decode r).2 1024).1 = 0 then (0, (Lz.expand (Lz.decode r).2 1024).2) else (12, []) := rfl

set_option maxHeartbeats 2000000 in
theorem unpackG_any (w : World) (A : Option Addr) (p : List UInt8) (n c : Nat) (hn : n = p.length) (hc : n ≤ c) (hl : n ≤ 100000) (hr : Rd w w.heap.size A p) (E : Nat) (O : List UInt8) (m : Nat) (hm : m = O.length) (hE : Lz.unpackB p = (E, O)) :
    Calls Tryz.prog 15 #[.slice A n c] w fun e w' => ∃ A' c', e = .returned (.tuple #[.slice A' m c', .int .i64 (E : Int)]) ∧ m ≤ c' ∧ Rd w' w'.heap.size A' O ∧ Below w.heap.size w w' := by
  cases p with
  | nil =>
    obtain rfl : n = 0 := hn
    obtain ⟨rfl, rfl⟩ : 12 = E ∧ [] = O := by simpa [Lz.unpackB] using hE
    obtain rfl : m = 0 := hm
    clear hr hE
    go_enter Tryz.func15, Tryz.ntmps15
    go_wp2
    go_ret2
    exact ⟨_, _, rfl, Nat.zero_le _, .inl rfl, Below.refl _ _⟩
  | cons x r =>
    obtain ⟨g, o, rfl, hgB, hcell⟩ : ∃ g o, A = some ⟨g, o, none⟩ ∧ g < w.heap.size ∧ ∀ (i : Nat) (y : UInt8), (x :: r)[i]? = some y → w.cell? ⟨g, o + i, none⟩ = some (.int .u8 (y.toNat : Int)) := by
      rcases hr with h | ⟨g, o, h1, h2, h3⟩
      · cases h
      · exact ⟨g, o, h1, h2, h3⟩
    have k0 := hcell 0 x rfl
    rw [Nat.add_zero] at k0
    have h0 : 0 < n := by rw [hn, List.length_cons]; omega
    obtain ⟨A1, hs1, hrV⟩ := slice_tail n c 1 hn hr h0 (by omega) hc
    rw [show (x :: r).drop 1 = r from rfl] at hrV
    have hr1 := hrV _ _ hr
    rw [show ((1 : Nat) : Int) = 1 from rfl] at hs1
    obtain ⟨rl, hrl⟩ : ∃ rl, rl = n - 1 := ⟨_, rfl⟩
    have hrl2 : rl = r.length := by rw [hrl, hn, List.length_cons]; omega
    rw [← hrl] at hs1
    obtain ⟨c1, hc1⟩ : ∃ c1, c1 = c - 1 := ⟨_, rfl⟩
    have hlc1 : rl ≤ c1 := by omega
    have hrl3 : rl ≤ 100000 := by omega
    rw [← hc1] at hs1
    have hq0 : ((n : Int) == 0) = false := by simp; omega
    have hn1 : (0 : Int) < (n : Int) := by omega
    have hx8 := x.toNat_lt
    have HE := Lib.hid hE
    have HR1 := Lib.hid hr1
    have HL := Lib.hid hrl2
    have HM := Lib.hid hm
    have Hb1 : Hid (∀ nq, Below w.heap.size w (w.drewN nq)) := Lib.hid (fun nq => by have h := Below.refl w.heap.size w; exact ⟨h.os, h.tape, h.output, h.size, h.block⟩)
    clear hE hr1 hrV hrl2 hrl hc1 hn hr hcell hm hc hl
    go_enter Tryz.func15, Tryz.ntmps15
    go_wp2_with fail
    go_quiet (fail)
    have Hb2 := Lib.hid (Hb1.out nq)
    obtain ⟨W0, hW0⟩ : ∃ W0, w.drewN nq = W0 := ⟨_, rfl⟩
    rw [hW0] at Hb2 ⊢
    clear hW0 Hb1 k0 hn1 hs1 hq0
    rw [Lz.unpackB_cons] at HE
    by_cases hx0 : x = 0
    · subst hx0
      obtain ⟨E', hE'⟩ : ∃ y, (if 1024 < rl then ((12 : Nat), ([] : List UInt8)) else (0, r)) = y := ⟨_, rfl⟩
      have hEE : E' = (E, O) := by
        rw [← hE', ← HE.out, ← HL.out, if_neg (by decide : ¬ 1 < (0 : UInt8).toNat), if_pos rfl]
      subst hEE
      have HE2 := Lib.hid hE'
      clear HE hE'
      go_wp2_with fail
      refine (copied_any W0 A1 r rl c1 HL.out (by omega) ((HR1.out.below Hb2.out).more Hb2.out.size) E O m HM.out HE2.out).mono ?_
      rintro e w3 ⟨A3, c3, rfl, hc3, hr3, hb3⟩
      have HC3 := Lib.hid hc3
      have HR3 := Lib.hid hr3
      have Hb3 := bb Hb2 hb3
      clear hc3 hr3 hb3 HE2
      go_wp2_with fail
      go_ret2
      exact ⟨_, _, rfl, HC3.out, HR3.out, Hb3.out⟩
    · have hx00 : ((x.toNat : Int) == 0) = false := by
        rw [beq_eq_false_iff_ne]
        intro e
        exact hx0 (UInt8.toNat_inj.1 (by simpa using e))
      by_cases hx1 : x = 1
      · subst hx1
        have hEE : (if (Lz.decode r).1 = 0 ∧ (Lz.expand (Lz.decode r).2 1024).1 = 0 then (0, (Lz.expand (Lz.decode r).2 1024).2) else (12, [])) = (E, O) := by
          rw [← HE.out]
          rw [if_neg (by decide : ¬ 1 < (1 : UInt8).toNat), if_neg (by decide : ¬ (1 : UInt8) = 0)]
        have HE2 := Lib.hid hEE
        clear HE hEE hx0 hx00
        go_wp2_with fail
        refine (expanded_any W0 A1 r rl c1 HL.out hlc1 hrl3 ((HR1.out.below Hb2.out).more Hb2.out.size) E O m HM.out HE2.out).mono ?_
        rintro e w3 ⟨A3, c3, rfl, hc3, hr3, hb3⟩
        have HC3 := Lib.hid hc3
        have HR3 := Lib.hid hr3
        have Hb3 := bb Hb2 hb3
        clear hc3 hr3 hb3 HE2
        go_wp2_with fail
        go_ret2
        exact ⟨_, _, rfl, HC3.out, HR3.out, Hb3.out⟩
      · have hx01 : ((x.toNat : Int) == 1) = false := by
          rw [beq_eq_false_iff_ne]
          intro e
          exact hx1 (UInt8.toNat_inj.1 (show x.toNat = 1 by omega))
        obtain ⟨rfl, rfl⟩ : 12 = E ∧ [] = O := by
          have h2 : 1 < x.toNat := by
            have h3 : x.toNat ≠ 0 := fun e => hx0 (UInt8.toNat_inj.1 e)
            have h4 : x.toNat ≠ 1 := fun e => hx1 (UInt8.toNat_inj.1 e)
            omega
          have := HE.out
          rw [if_pos h2] at this
          exact Prod.mk.inj this
        obtain rfl : m = 0 := HM.out
        clear HE
        go_wp2_with fail
        go_ret2
        exact ⟨_, _, rfl, Nat.zero_le _, .inl rfl, Hb2.out⟩

/-- The landed pack keeps its contract. -/
theorem packOK : PackOK (fun _ => True) :=
  ⟨fun _ _ => trivial, fun w A b c _ hr hc hl => packG_any w A b _ c rfl hc hl hr _ _ _ rfl rfl, fun w A p c _ hr hc hl => unpackG_any w A p _ c rfl hc hl hr _ _ _ rfl rfl⟩
end Go.Proofs.YtdipflchmooakaaGreatDoor
