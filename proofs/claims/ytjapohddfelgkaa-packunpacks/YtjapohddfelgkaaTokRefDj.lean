/-
  The reference of layer 12: Decode: its contract.
-/
import Derived.Test.YtjapohddfelgkaaPackJ05
import Derived.IntWalk
set_option maxRecDepth 100000
namespace Go.Proofs.Ytjapohddfelgkaa
open Go.RowKit Go.Gar

theorem slice_mid (g o n c lo hi m : Nat) (zl zh : Int) (hzl : zl = (lo : Int)) (hzh : zh = (hi : Int)) (h1 : lo ≤ hi) (h2 : hi ≤ c) (h3 : lo < c) (hm : m = hi - lo) (W : World) :
    (Instr.sliceAt 22 (.slice (some ⟨g, o, none⟩) n c) (some (.int .i64 zl)) (some (.int .i64 zh)) none).run Try.prog W = .ok (.slice (some ⟨g, o + lo, none⟩) m (c - lo)) W := by
  subst hzl; subst hzh; subst hm
  obtain ⟨i, hi', hs⟩ := Option.map_eq_some_iff.1 Try.size5
  have a1 : (lo : Int) ≤ (hi : Int) := by omega
  have a2 : (hi : Int) ≤ (c : Int) := by omega
  have a5 : ¬ c = lo := by omega
  simp [Instr.sliceAt, Instr.sliceBounds, Instr.sureAddr, run_underlying Try.und22 W, sizeOf, typeInfo, hi', hs, go_sem, a1, a2, a5, Addr.add_lit]
theorem getD_of {l : List UInt8} {i : Nat} {x : UInt8} (h : l[i]? = some x) : l.getD i 0 = x := by rw [List.getD_eq_getElem?_getD, h]; rfl

set_option maxHeartbeats 4000000 in
theorem refDecode_any (A : Option Addr) (b : List UInt8) (n c : Nat) (w : World) (hn : n = b.length) (hr : Rd w w.heap.size A b) (hc : n ≤ c) (hl : n ≤ 100000) (E : Nat) (T : List Lz.Tok) (hE : Lz.decode b = (E, T)) :
    Calls Try.prog 19 #[.slice A n c] w fun e w' => ∃ v ts, e = .returned (.tuple #[v, .int .i64 ((E : Nat) : Int)]) ∧ OwnT w' w.heap.size 41 5 v ts ∧ ts.map Tv.tok = T ∧ ts.length ≤ n ∧ Below w.heap.size w w' := by
  have hO0 := ownT_made w w.heap.size 41 5 (Nat.le_refl _)
  have hb0 := below_alloc w (.cells #[] 41)
  have HO0 := Lib.hid hO0
  have Hb0 := Lib.hid hb0
  have HN := Lib.hid hn
  have HR := Lib.hid hr
  have HE := Lib.hid hE
  clear hO0 hb0 hn hr hE
  go_enter Try.func19, Try.ntmps19
  go_wp2
  go_loopw [4, 5] (fun v av W => ∃ (a : Nat) (ts : List Tv), a ≤ n ∧ av = .int .i64 (a : Int) ∧ OwnT W w.heap.size 41 5 v ts ∧ Lz.more (b.drop a) (ts.map Tv.tok) = (E, T) ∧ ts.length ≤ a ∧ Below w.heap.size w W) (fun _ av _ => n - (intOf av).toNat)
  case atStart => exact ⟨0, [], by omega, rfl, HO0.out, HE.out, Nat.le_refl _, Hb0.out⟩
  case round =>
    obtain ⟨a, ts, ha, rfl, hO, hx, hla, hb⟩ := hrel
    clear HO0 Hb0
    have Hx := Lib.hid hx
    have HO := Lib.hid hO
    have Hb := Lib.hid hb
    clear hx hO hb
    by_cases hlt : a < n
    · have hal : a < b.length := by rw [← HN.out]; exact hlt
      obtain ⟨g, o, rfl, hgB, hcell⟩ : ∃ g o, A = some ⟨g, o, none⟩ ∧ g < w.heap.size ∧ ∀ (i : Nat) (x : UInt8), b[i]? = some x → w.cell? ⟨g, o + i, none⟩ = some (.int .u8 (x.toNat : Int)) := by
        rcases HR.out with h | ⟨g, o, h1, h2, h3⟩
        · rw [h] at hal; simp at hal
        · exact ⟨g, o, h1, h2, h3⟩
      obtain ⟨x, hx0⟩ : ∃ x, b[a]? = some x := ⟨_, List.getElem?_eq_getElem hal⟩
      have hdrop : b.drop a = x :: b.drop (a + 1) := by
        rw [List.drop_eq_getElem_cons hal]
        congr 1
        have := (List.getElem?_eq_some_iff.1 hx0).2
        exact this
      have hcr : ∀ (i : Nat) (y : UInt8), b[i]? = some y → wr.cell? ⟨g, o + i, none⟩ = some (.int .u8 (y.toNat : Int)) := fun i y hy => (Hb.out.cell (p := ⟨g, o + i, none⟩) hgB).trans (hcell i y hy)
      have hex := Hx.out
      rw [hdrop] at hex
      have k0 := hcr a x hx0
      have HCr := Lib.hid hcr
      have hx8 := x.toNat_lt
      have hdl : (b.drop (a + 1)).length = n - (a + 1) := by rw [List.length_drop, ← HN.out]
      have HDl := Lib.hid hdl
      obtain ⟨v4, hv4⟩ : ∃ v4, v4 = u4 := ⟨_, rfl⟩
      subst hv4
      clear hcr hcell hx0 hdrop hal hdl Hx
      by_cases h127 : 127 < x.toNat
      · have hd1 : (127 : Int) < (x.toNat : Int) := by omega
        rw [Lz.more_long _ _ _ h127] at hex
        by_cases h3 : n < a + 3
        · have hd2 : (n : Int) < (a : Int) + 3 := by omega
          rw [if_pos (by rw [HDl.out]; omega)] at hex
          obtain ⟨rfl, rfl⟩ : 12 = E ∧ [] = T := by simpa using hex
          clear hex
          go_wp2
          go_ret2
          first | exact ⟨_, [], rfl, ownT_nil _ _ _ _, rfl, Nat.zero_le _, Hb.out⟩ | exact ⟨_, rfl, [], ownT_nil _ _ _ _, rfl, Nat.zero_le _, Hb.out⟩
        · have hd2 : ¬ (n : Int) < (a : Int) + 3 := by omega
          rw [if_neg (by rw [HDl.out]; omega)] at hex
          obtain ⟨y, hy⟩ : ∃ y, b[a + 1]? = some y := ⟨_, List.getElem?_eq_getElem (by rw [← HN.out]; omega)⟩
          obtain ⟨z, hz⟩ : ∃ z, b[a + 2]? = some z := ⟨_, List.getElem?_eq_getElem (by rw [← HN.out]; omega)⟩
          rw [getD_of (l := b.drop (a + 1)) (i := 0) (x := y) (by rw [List.getElem?_drop]; exact hy), getD_of (l := b.drop (a + 1)) (i := 1) (x := z) (by rw [List.getElem?_drop]; exact hz), List.drop_drop] at hex
          have k1 := HCr.out (a + 1) y hy
          have k2 := HCr.out (a + 2) z hz
          have hy8 := y.toNat_lt
          have hz8 := z.toNat_lt
          generalize x.toNat = xn at *
          generalize y.toNat = yn at *
          generalize z.toNat = zn at *
          have Hex := Lib.hid hex
          clear hex hy hz
          have w1 : IntKind.i64.wrap ((a : Int) + 1) = (a : Int) + 1 := IntWalk.i64_in _ (by omega)
          have w2 : IntKind.i64.wrap ((a : Int) + 2) = (a : Int) + 2 := IntWalk.i64_in _ (by omega)
          have w3 : IntKind.i64.wrap (256 * (yn : Int)) = 256 * (yn : Int) := IntWalk.i64_in _ (by omega)
          have w4 : IntKind.i64.wrap (256 * (yn : Int) + (zn : Int)) = 256 * (yn : Int) + (zn : Int) := IntWalk.i64_in _ (by omega)
          have w5 : IntKind.i64.wrap (256 * (yn : Int) + (zn : Int) + 1) = 256 * (yn : Int) + (zn : Int) + 1 := IntWalk.i64_in _ (by omega)
          have t1 : ((a : Int) + 1).toNat = a + 1 := by omega
          have t2 : ((a : Int) + 2).toNat = a + 2 := by omega
          have p1 : (0 : Int) ≤ (a : Int) + 1 := by omega
          have p2 : (0 : Int) ≤ (a : Int) + 2 := by omega
          have l1 : (a : Int) + 1 < (n : Int) := by omega
          have l2 : (a : Int) + 2 < (n : Int) := by omega
          have Hbd : Hid (∀ q, Below wr.heap.size wr (wr.drewN q)) := Lib.hid (fun q => by have h := Below.refl wr.heap.size wr; exact ⟨h.os, h.tape, h.output, h.size, h.block⟩)
          go_wp2_with fail
          go_quiet (fail)
          clear w1 w2 w3 w4 w5 t1 t2 p1 p2 l1 l2 k0 k1 k2
          obtain ⟨wz, hwz⟩ : ∃ wz, wr.drewN nq = wz := ⟨_, rfl⟩
          have hbz : Below wr.heap.size wr wz := by rw [← hwz]; exact Hbd.out nq
          have HOz := Lib.hid (HO.out.below hbz)
          have Hbz := Lib.hid (Hb.out.trans (hbz.mono Hb.out.size))
          rw [hwz]
          clear hwz hbz Hbd HO Hb HCr
          by_cases hD : 4096 < 256 * yn + zn + 1
          · have hd3 : (4096 : Int) < 256 * (yn : Int) + (zn : Int) + 1 := by omega
            have hex := Hex.out
            rw [if_pos hD] at hex
            obtain ⟨rfl, rfl⟩ : 12 = E ∧ [] = T := by simpa using hex
            clear hex
            go_wp2
            go_ret2
            exact ⟨_, [], rfl, ownT_nil _ _ _ _, rfl, Nat.zero_le _, Hbz.out⟩
          · have hd3 : ¬ (4096 : Int) < 256 * (yn : Int) + (zn : Int) + 1 := by omega
            have hex := Hex.out
            rw [if_neg hD, show a + 1 + 2 = a + 3 by omega] at hex
            have Hex2 := Lib.hid hex
            have hal := below_alloc wz (.cells (Tv.cells ⟨none, [], 0, (xn : Int) - 125, 256 * (yn : Int) + (zn : Int) + 1⟩).toArray 41)
            have hBn := Blk.new wz 41 (Tv.cells ⟨none, [], 0, (xn : Int) - 125, 256 * (yn : Int) + (zn : Int) + 1⟩)
            obtain ⟨v5, w5, e5, hO5, hb5, _⟩ := appT (P := Try.prog) 33 33 Try.undToks Try.infoTok rfl (by decide) (HOz.out.alloc (.cells (Tv.cells ⟨none, [], 0, (xn : Int) - 125, 256 * (yn : Int) + (zn : Int) + 1⟩).toArray 41)) (Nat.le_trans Hbz.out.size hal.size) wz.heap.size ⟨none, [], 0, (xn : Int) - 125, 256 * (yn : Int) + (zn : Int) + 1⟩ hBn (.inl rfl) (Nat.le_refl _) (by omega) 1
            have HO5 := Lib.hid hO5
            have Hb5 := Lib.hid (Hbz.out.trans ((hal.mono Hbz.out.size).trans hb5))
            have He5 := Lib.hid e5
            have HRest : Hid (Lz.more (b.drop (a + 3)) ((ts ++ [(⟨none, [], 0, (xn : Int) - 125, 256 * (yn : Int) + (zn : Int) + 1⟩ : Tv)]).map Tv.tok) = (E, T)) := Lib.hid (by
              rw [← Hex2.out, List.map_append]
              congr 2)
            have HLa : Hid ((ts ++ [(⟨none, [], 0, (xn : Int) - 125, 256 * (yn : Int) + (zn : Int) + 1⟩ : Tv)]).length ≤ a + 3) := Lib.hid (by rw [List.length_append, List.length_singleton]; omega)
            have hcl : (Tv.cells ⟨none, [], 0, (xn : Int) - 125, 256 * (yn : Int) + (zn : Int) + 1⟩).length = 3 := rfl
            clear hex Hex Hex2 hal hBn e5 hO5 hb5
            go_wp2_with (first | refine wpList_build_w 41 _ rfl (by simp [Act.eval]) (built_match ((xn : Int) - 125) (256 * (yn : Int) + (zn : Int) + 1)) (by kernel_rfl) ?_ | (at_builtin; refine wpList_append_run rfl (.tmp 42) (.tmp 47) _ rfl rfl rfl He5.out ?_))
            exact ⟨⟨a + 3, _, by omega, by go_num, HO5.out, HRest.out, HLa.out, Hb5.out⟩, by simp [intOf]; omega⟩
      · have hd1 : ¬ (127 : Int) < (x.toNat : Int) := by omega
        rw [Lz.more_lit _ _ _ h127] at hex
        by_cases h3 : n < a + x.toNat + 2
        · have hd2 : (n : Int) < (a : Int) + (x.toNat : Int) + 2 := by omega
          rw [if_pos (by rw [HDl.out]; omega)] at hex
          obtain ⟨rfl, rfl⟩ : 12 = E ∧ [] = T := by simpa using hex
          clear hex
          go_wp2
          go_ret2
          first | exact ⟨_, [], rfl, ownT_nil _ _ _ _, rfl, Nat.zero_le _, Hb.out⟩ | exact ⟨_, rfl, [], ownT_nil _ _ _ _, rfl, Nat.zero_le _, Hb.out⟩
        · have hd2 : ¬ (n : Int) < (a : Int) + (x.toNat : Int) + 2 := by omega
          rw [if_neg (by rw [HDl.out]; omega), List.drop_drop] at hex
          generalize x.toNat = xn at *
          obtain ⟨L, hL⟩ : ∃ L, (b.drop (a + 1)).take (xn + 1) = L := ⟨_, rfl⟩
          have hLl : L.length = xn + 1 := by rw [← hL, List.length_take, HDl.out]; omega
          have hrL : Rd wr wr.heap.size (some ⟨g, o + (a + 1), none⟩) L := .inr ⟨g, o + (a + 1), rfl, Nat.lt_of_lt_of_le hgB Hb.out.size, fun i y hy => by
            rw [← hL, List.getElem?_take] at hy
            split at hy
            · rw [List.getElem?_drop] at hy
              rw [Nat.add_assoc]
              exact HCr.out _ y hy
            · cases hy⟩
          rw [hL, show a + 1 + (xn + 1) = a + (xn + 2) by omega] at hex
          have hcut := slice_mid g o n c (a + 1) (a + xn + 2) (xn + 1) ((a : Int) + 1) ((a : Int) + (xn : Int) + 2) (by omega) (by omega) (by omega) (by omega) (by omega) (by omega)
          have hb1 := below_alloc wr (.cells #[] 5)
          have hO1 := own_made wr wr.heap.size 5 (Nat.le_refl _)
          obtain ⟨v2, w2, e2, hO2, hb2, _⟩ := app_rd (P := Try.prog) 22 22 Try.und22 Try.info5 hO1 hb1.size (c - (a + 1)) (hrL.below hb1) (by simp; omega)
          rw [List.nil_append] at hO2
          obtain ⟨g2, c2, r2, rfl, _, hc2, hB2⟩ := hO2.blk (by omega)
          rw [hLl] at e2 hc2
          have hb12 := hb1.trans hb2
          obtain ⟨tv, htv⟩ : ∃ tv : Tv, tv = ⟨some ⟨g2, 0, none⟩, L, c2, 0, 0⟩ := ⟨_, rfl⟩
          have hbt := built_lit (some ⟨g2, 0, none⟩) L (xn + 1) c2 hLl.symm
          rw [← htv] at hbt
          have hO3 := HO.out.below hb12
          have hal := below_alloc w2 (.cells tv.cells.toArray 41)
          have hBn := Blk.new w2 41 tv.cells
          have hLB : RdB (w2.alloc (.cells tv.cells.toArray 41)) 5 tv.A tv.l := by
            rw [htv]
            exact RdB.of_row (hB2.alloc _)
          obtain ⟨v5, w5, e5, hO5, hb5, _⟩ := appT (P := Try.prog) 33 33 Try.undToks Try.infoTok rfl (by decide) (hO3.alloc (.cells tv.cells.toArray 41)) (Nat.le_trans Hb.out.size (Nat.le_trans hb12.size hal.size)) w2.heap.size tv hBn hLB (by rw [htv]; simp only; omega) (by omega) 1
          have HO5 := Lib.hid hO5
          have Hb5 := Lib.hid (Hb.out.trans ((hb12.mono Hb.out.size).trans ((hal.mono (Nat.le_trans Hb.out.size hb12.size)).trans hb5)))
          have He5 := Lib.hid e5
          have He2 := Lib.hid e2
          have HBt := Lib.hid hbt
          have HRest : Hid (Lz.more (b.drop (a + (xn + 2))) ((ts ++ [tv]).map Tv.tok) = (E, T)) := Lib.hid (by
            rw [← hex, List.map_append, htv]
            rfl)
          have HLa : Hid ((ts ++ [tv]).length ≤ a + (xn + 2)) := Lib.hid (by rw [List.length_append, List.length_singleton]; omega)
          have hcl : tv.cells.length = 3 := rfl
          clear hex hL hLl hrL hb1 hO1 e2 hO2 hb2 hB2 hb12 htv hbt hO3 hal hBn hLB e5 hO5 hb5 HCr HO Hb
          go_wp2_with (first | refine wpList_build_w 41 _ rfl (by simp [Act.eval, Act.put]) HBt.out (by kernel_rfl) ?_ | (at_builtin; first | refine wpList_append_run rfl (.tmp 59) (.tmp 67) _ rfl rfl rfl He2.out ?_ | refine wpList_append_run rfl (.tmp 58) (.tmp 70) _ rfl rfl rfl He5.out ?_))
          exact ⟨⟨a + (xn + 2), _, by omega, by go_num, HO5.out, HRest.out, HLa.out, Hb5.out⟩, by simp [intOf]; omega⟩
    · obtain rfl : a = n := by omega
      have hx := Hx.out
      rw [List.drop_eq_nil_of_le (by rw [HN.out]; exact Nat.le_refl _), Lz.more_nil] at hx
      obtain ⟨rfl, hT⟩ : 0 = E ∧ ts.map Tv.tok = T := by simpa using hx
      have HT := Lib.hid hT
      clear hx hT
      go_wp2
      go_ret2
      exact ⟨_, ts, rfl, HO.out, HT.out, hla, Hb.out⟩
end Go.Proofs.Ytjapohddfelgkaa
