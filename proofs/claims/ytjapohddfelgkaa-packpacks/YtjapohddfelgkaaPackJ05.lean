/-
  The reference of layer 11: Good: its contract. The reference of layer 11: same, Good: contracts. Tokens in memory: the zero token, a token loaded; rows apart by their types. Of no program but api.Token. The reference of layer 11: Expand: its contract. A statement that draws its order, where two operations may come up: both are walked. Of no program; a tool for the walks. A statement that draws its order: one operation that yields the same value in every later world may be taken first. Of no program; a tool for the walks. build, its cells known; two parts of one size side by side. Of no program. Tokens built: their cells. Of no program but api.Token.
-/
import Derived.Test.YtjapohddfelgkaaPackJ04
import Derived.IntWalk
import Derived.Test.YtjapohddfelgkaaPackJ01
import Derived.Test.YtjapohddfelgkaaPackJ02
import Derived.Great.FillDense
import Derived.Laws.Tables
import Derived.Deep.Cut
import Derived.Deep.CutRange
set_option maxRecDepth 100000
namespace Go.Proofs.Ytjapohddfelgkaa
open Go.RowKit Go.Gar

theorem refGood_any (t : Tv) (w : World) (z : Bool) (hz : z = Lz.good t.tok) :
    Calls Try.prog 26 #[.agg t.cells.toArray] w fun e w' => e = .returned (.bool z) ∧ Below w.heap.size w w' := by
  rcases t with ⟨A, l, c, n, d⟩
  unfold Tv.cells
  simp only
  obtain ⟨ln, hln⟩ : ∃ ln, l.length = ln := ⟨_, rfl⟩
  rw [hln]
  have hb := below_alloc w (.cells #[.slice A ln c, .int .i64 n, .int .i64 d] 41)
  have Hb := Lib.hid hb
  unfold Lz.good Tv.tok at hz
  simp only at hz
  by_cases h0 : ln = 0
  · obtain rfl : l = [] := List.eq_nil_of_length_eq_zero (by omega)
    rw [if_pos rfl] at hz
    subst h0
    have HZ := Lib.hid hz
    clear hz hb hln
    by_cases h1 : 2 < n
    · have d1 : decide (2 < n) = true := by simp [h1]
      by_cases h2 : n < 131
      · have d2 : decide (n < 131) = true := by simp [h2]
        by_cases h3 : 0 < d
        · have d3 : decide (0 < d) = true := by simp [h3]
          by_cases h4 : d < 4097
          · have d4 : decide (d < 4097) = true := by simp [h4]
            have hzt : z = true := by rw [HZ.out]; simp [h1, h2, h3, h4]
            subst hzt
            go_enter Try.func26, Try.ntmps26
            go_wp2
            go_ret
            exact ⟨rfl, Hb.out⟩
          · have d4 : decide (d < 4097) = false := by simp; omega
            have hzt : z = false := by rw [HZ.out]; simp [h4]
            subst hzt
            go_enter Try.func26, Try.ntmps26
            go_wp2
            go_ret
            exact ⟨rfl, Hb.out⟩
        · have d3 : decide (0 < d) = false := by simp; omega
          have hzt : z = false := by rw [HZ.out]; simp [h3]
          subst hzt
          go_enter Try.func26, Try.ntmps26
          go_wp2
          go_ret
          exact ⟨rfl, Hb.out⟩
      · have d2 : decide (n < 131) = false := by simp; omega
        have hzt : z = false := by rw [HZ.out]; simp [h2]
        subst hzt
        go_enter Try.func26, Try.ntmps26
        go_wp2
        go_ret
        exact ⟨rfl, Hb.out⟩
    · have d1 : decide (2 < n) = false := by simp; omega
      have hzt : z = false := by rw [HZ.out]; simp [h1]
      subst hzt
      go_enter Try.func26, Try.ntmps26
      go_wp2
      go_ret
      exact ⟨rfl, Hb.out⟩
  · rw [if_neg (fun e => h0 (by rw [← hln, e]; rfl)), hln] at hz
    have hq : ((ln : Int) == 0) = false := by simp; omega
    have HZ := Lib.hid hz
    clear hz hb hln
    by_cases h1 : ln < 129
    · have d1 : decide ((ln : Int) < 129) = true := by simp; omega
      by_cases h2 : n = 0
      · subst h2
        by_cases h3 : d = 0
        · subst h3
          have hzt : z = true := by rw [HZ.out]; simp [h1]
          subst hzt
          go_enter Try.func26, Try.ntmps26
          go_wp2
          go_ret
          exact ⟨rfl, Hb.out⟩
        · have d3 : (d == 0) = false := by simp [h3]
          have hzt : z = false := by rw [HZ.out]; simp [h3]
          subst hzt
          go_enter Try.func26, Try.ntmps26
          go_wp2
          go_ret
          exact ⟨rfl, Hb.out⟩
      · have d2 : (n == 0) = false := by simp [h2]
        have hzt : z = false := by rw [HZ.out]; simp [h2]
        subst hzt
        go_enter Try.func26, Try.ntmps26
        go_wp2
        go_ret
        exact ⟨rfl, Hb.out⟩
    · have d1 : decide ((ln : Int) < 129) = false := by simp; omega
      have hzt : z = false := by rw [HZ.out]; simp [h1]
      subst hzt
      go_enter Try.func26, Try.ntmps26
      go_wp2
      go_ret
      exact ⟨rfl, Hb.out⟩
end Go.Proofs.Ytjapohddfelgkaa
namespace Go.Proofs.Ytjapohddfelgkaa
open Go.RowKit Go.Gar

theorem refSame_any (A : Option Addr) (b : List UInt8) (n c i k : Nat) (w : World) (hn : n = b.length) (hr : Rd w w.heap.size A b) (hik : i < k) (hk : k < n) (hl : n ≤ 1099511627776) (r : Nat) (hrr : r = Lz.same b i k) :
    Calls Try.prog 27 #[.slice A n c, .int .i64 (i : Int), .int .i64 (k : Int)] w fun e w' => e = .returned (.int .i64 (r : Int)) ∧ Below w.heap.size w w' := by
  obtain ⟨g, o, rfl, hgB, hcell⟩ : ∃ g o, A = some ⟨g, o, none⟩ ∧ g < w.heap.size ∧ ∀ (i : Nat) (x : UInt8), b[i]? = some x → w.cell? ⟨g, o + i, none⟩ = some (.int .u8 (x.toNat : Int)) := by
    rcases hr with h | ⟨g, o, h1, h2, h3⟩
    · rw [hn, h] at hk; simp at hk
    · exact ⟨g, o, h1, h2, h3⟩
  have HN := Lib.hid hn
  have HC := Lib.hid hcell
  have HR := Lib.hid hrr
  clear hn hcell hrr hr
  go_enter Try.func27, Try.ntmps27
  go_wp2
  go_loopw [7] (fun v w' => ∃ m : Nat, m ≤ 130 ∧ v = .int .i64 (m : Int) ∧ Lz.run b i k (130 - m) m = r ∧ Below w.heap.size w w') (fun v _ => 130 - (intOf v).toNat)
  case atStart => exact ⟨0, by omega, rfl, HR.out.symm, Below.refl _ _⟩
  case round =>
    obtain ⟨m, hm, rfl, hrun, hbe⟩ := hrel
    have Hbe := Lib.hid hbe
    have Hbd : Hid (∀ q, Below w.heap.size w (wr.drewN q)) := Lib.hid (fun q => ⟨hbe.os, hbe.tape, hbe.output, hbe.size, hbe.block⟩)
    clear hbe
    by_cases h1 : m < 130
    · have hd1 : decide ((m : Int) < 130) = true := by simp; omega
      have wk : IntKind.i64.wrap ((k : Int) + (m : Int)) = (k : Int) + (m : Int) := IntWalk.i64_in _ (by omega)
      have tk : ((k : Int) + (m : Int)).toNat = k + m := by omega
      have zk : (0 : Int) ≤ (k : Int) + (m : Int) := by omega
      have wi : IntKind.i64.wrap ((i : Int) + (m : Int)) = (i : Int) + (m : Int) := IntWalk.i64_in _ (by omega)
      have ti : ((i : Int) + (m : Int)).toNat = i + m := by omega
      have zi : (0 : Int) ≤ (i : Int) + (m : Int) := by omega
      have htn := Lz.run_turn (b := b) (i := i) (k := k) h1
      rw [hrun] at htn
      by_cases h2 : k + m < n
      · have hd2 : decide ((k : Int) + (m : Int) < (n : Int)) = true := by simp; omega
        have hkb : k + m < b.length := by rw [← HN.out]; exact h2
        have hib : i + m < b.length := by omega
        have c1 := (Hbe.out.cell (p := ⟨g, o + (i + m), none⟩) hgB).trans (HC.out (i + m) b[i + m] (List.getElem?_eq_getElem hib))
        have c2 := (Hbe.out.cell (p := ⟨g, o + (k + m), none⟩) hgB).trans (HC.out (k + m) b[k + m] (List.getElem?_eq_getElem hkb))
        rw [List.getElem?_eq_getElem hib, List.getElem?_eq_getElem hkb] at htn
        generalize b[i + m] = x at c1 htn
        generalize b[k + m] = y at c2 htn
        have hin : ((i : Int) + (m : Int)) < (n : Int) := by omega
        have hkn : ((k : Int) + (m : Int)) < (n : Int) := by omega
        by_cases hxy : x = y
        · have hq : ((x.toNat : Int) == (y.toNat : Int)) = true := by rw [hxy]; simp
          rw [if_pos ⟨hkb, by rw [hxy]⟩] at htn
          have HT := Lib.hid htn.symm
          clear htn hrun hxy h2 hkb hib
          go_wp2
          go_quiet (fail)
          clear wk tk zk wi ti zi
          go_wp2
          exact ⟨⟨m + 1, by omega, by go_num, HT.out, Hbd.out _⟩, by simp [intOf]; omega⟩
        · have hq : ((x.toNat : Int) == (y.toNat : Int)) = false := by
            rw [beq_eq_false_iff_ne]
            intro e
            exact hxy (UInt8.toNat_inj.1 (by omega))
          rw [if_neg (fun e => hxy (Option.some.inj e.2))] at htn
          have HT := Lib.hid htn
          clear htn hrun hxy h2 hkb hib
          go_wp2
          go_quiet (fail)
          go_wp2
          go_ret
          exact ⟨by rw [← HT.out]; rfl, Hbd.out _⟩
      · have hd2 : decide ((k : Int) + (m : Int) < (n : Int)) = false := by simp; omega
        rw [if_neg (fun e => h2 (by rw [HN.out]; exact e.1))] at htn
        have HT := Lib.hid htn
        clear htn hrun h2
        go_wp2
        go_quiet (fail)
        go_wp2
        go_ret
        exact ⟨by rw [← HT.out]; rfl, Hbd.out _⟩
    · have hd1 : decide ((m : Int) < 130) = false := by simp; omega
      obtain rfl : m = 130 := by omega
      have HT : Hid (130 = r) := Lib.hid (by rw [← hrun]; rfl)
      clear hrun
      go_wp2
      go_quiet (fail)
      go_wp2
      go_ret
      exact ⟨by rw [← HT.out]; rfl, Hbd.out _⟩
end Go.Proofs.Ytjapohddfelgkaa
namespace Go.Proofs.Ytjapohddfelgkaa
open Go.RowKit Go.Gar

def zT : List Value := [.slice none 0 0, .int .i64 0, .int .i64 0]
theorem Try.infoTok2 : (Try.prog.info? 41).map (fun i => (i.zero, i.size)) = some (some (.agg #[.slice none 0 0, .int .i64 0, .int .i64 0]), 3) := by kernel_rfl
theorem zero_T (w : World) : (zeroValue 41).run Try.prog w = .ok (.agg zT.toArray) w := by
  have := (zero_of_info Try.infoTok2).1 w
  rw [this]
  rfl
theorem size_T (t : Tv) : (Try.prog.info? 41).map (·.size) = some t.cells.length := Try.sizeTok
theorem load_T {W : World} {b o i : Nat} {t : Tv} (hc : ∀ j v, j < 3 → t.cells[j]? = some v → W.cell? ⟨b, o + (3 * i + j), none⟩ = some v) (q : Nat) (hq : q = o + 3 * i) : (loadVar 41 ⟨b, q, none⟩).run Try.prog W = .ok (.agg t.cells.toArray) W := by
  subst hq
  refine run_loadVar_mid (P := Try.prog) W b _ 41 t.cells _ (fun j v hv => ?_) Try.undTok rfl (size_T t)
  rw [Nat.add_assoc]
  exact hc j v (List.getElem?_eq_some_iff.1 hv).1 hv
theorem load_T0 {W : World} {g : Nat} {t : Tv} (h : Blk W g 41 t.cells) : (loadVar 41 ⟨g, 0, none⟩).run Try.prog W = .ok (.agg t.cells.toArray) W :=
  run_loadVar_row (P := Try.prog) W g 41 41 t.cells.toArray (0, 0) _ h Try.undTok rfl (by simpa using size_T t)

def lenV : Value → Nat
  | .slice _ n _ => n
  | _ => 0
theorem own_ne {w : World} {base g : Nat} {e t : TypeId} {v : Value} {k : List UInt8} {cs : List Value} (h : OwnB w base e v k) (hB : Blk w g t cs) (hne : e ≠ t) : some g ≠ v.ownBlock := by
  intro he
  rcases h.2 with ⟨rfl, _⟩ | ⟨g', cap, cur, rfl, _, hg', _⟩
  · cases he
  · obtain rfl : g = g' := by simpa [Value.ownBlock] using he
    unfold Blk at hB
    rw [hB] at hg'
    simp only [Option.some.injEq, Obj.cells.injEq] at hg'
    exact hne hg'.2.1.symm
end Go.Proofs.Ytjapohddfelgkaa
namespace Go.Proofs.Ytjapohddfelgkaa
open Go.RowKit Go.Gar

set_option maxHeartbeats 2000000 in
theorem refExpand_any (A : Option Addr) (ts : List Tv) (n c : Nat) (most : Int) (w : World) (hn : n = ts.length) (hr : RdT w w.heap.size A ts) (hl : n ≤ 100000) (E : Nat) (O : List UInt8) (hE : Lz.expand (ts.map Tv.tok) most = (E, O)) :
    Calls Try.prog 20 #[.slice A n c, .int .i64 most] w fun e w' => ∃ v, e = .returned (.tuple #[v, .int .i64 ((E : Nat) : Int)]) ∧ OwnB w' w.heap.size 5 v O ∧ Below w.heap.size w w' := by
  have hO0 := own_made w w.heap.size 5 (Nat.le_refl _)
  have hb0 := below_alloc w (.cells #[] 5)
  have HO0 := Lib.hid hO0
  have Hb0 := Lib.hid hb0
  have HN := Lib.hid hn
  have HR := Lib.hid hr
  have HE := Lib.hid hE
  clear hO0 hb0 hn hr hE
  go_enter Try.func20, Try.ntmps20
  go_wp2
  go_loopw [6, 7] (fun v iv W => ∃ (i : Nat) (x : List UInt8), i ≤ n ∧ iv = .int .i64 (i : Int) ∧ OwnB W w.heap.size 5 v x ∧ Lz.expd most ((ts.map Tv.tok).drop i) x = (E, O) ∧ x.length ≤ 130 * i ∧ Below w.heap.size w W) (fun _ iv _ => n - (intOf iv).toNat)
  case atStart => exact ⟨0, [], by omega, rfl, HO0.out, HE.out, by simp, Hb0.out⟩
  case round =>
    obtain ⟨i, x, hi, rfl, hO, hx, hxl, hb⟩ := hrel
    clear HO0 Hb0 HE
    have Hx := Lib.hid hx
    have HO := Lib.hid hO
    have Hb := Lib.hid hb
    clear hx hO hb
    by_cases hlt : i < n
    · have hits : i < ts.length := by rw [← HN.out]; exact hlt
      obtain ⟨t, ht⟩ : ∃ t, ts[i]? = some t := ⟨_, List.getElem?_eq_getElem hits⟩
      have hdrop : (ts.map Tv.tok).drop i = t.tok :: (ts.map Tv.tok).drop (i + 1) := by
        rw [List.drop_eq_getElem_cons (by rw [List.length_map]; exact hits)]
        congr 1
        rw [List.getElem_map, (List.getElem?_eq_some_iff.1 ht).2]
      have hexp := Hx.out
      rw [hdrop, Lz.expd] at hexp
      obtain ⟨b, o, rfl, hbB, hcl⟩ := HR.out.at_ ht
      have hlit := HR.out.lits t (List.mem_of_getElem? ht)
      have hcl' : ∀ j v, j < 3 → t.cells[j]? = some v → wr.cell? ⟨b, o + (3 * i + j), none⟩ = some v := fun j v hj hv => (Hb.out.cell (p := ⟨b, o + (3 * i + j), none⟩) hbB).trans (hcl j v hj hv)
      have hld := load_T hcl' (o + i * 3) (by omega)
      have hEa : (wr.alloc (.cells zT.toArray 41)).setRow wr.heap.size t.cells.toArray = wr.alloc (.cells t.cells.toArray 41) := World.setRow_alloc_new wr _ _ _
      have hB1 := Blk.new wr 41 t.cells
      have hb1 := below_alloc wr (.cells t.cells.toArray 41)
      obtain ⟨w1, hw1⟩ : ∃ w1, wr.alloc (.cells t.cells.toArray 41) = w1 := ⟨_, rfl⟩
      rw [hw1] at hEa hB1 hb1
      have hld1 := load_T0 hB1
      have HZ1 := Lib.hid (Blk.new wr 41 zT)
      have HEa := Lib.hid hEa
      have HB1 := Lib.hid hB1
      have Hb1 := Lib.hid hb1
      have Hld := Lib.hid hld
      have Hld1 := Lib.hid hld1
      have Hexp := Lib.hid hexp
      have HLit := Lib.hid hlit
      have Hdrop := Lib.hid hdrop
      have Hlt := Lib.hid hlt
      obtain ⟨Ao, co, rfl, hro⟩ := HO.out.rd
      obtain ⟨xl, hxn⟩ : ∃ xl, x.length = xl := ⟨_, rfl⟩
      have HXn := Lib.hid hxn
      obtain ⟨z, hz⟩ : ∃ z, z = Lz.good t.tok := ⟨_, rfl⟩
      have HZ := Lib.hid hz
      rw [hxn] at hxl ⊢
      clear hld hEa hB1 hb1 hw1 hld1 hexp hcl hcl' hlit hdrop hits ht hxn hz Hx hro
      go_wp2_with (first | refine wpList_load_at 41 (.tmp 19) rfl rfl t.cells.toArray Hld.out (by kernel_rfl) ?_ | refine wpList_alloc_arr rfl 41 zT.toArray rfl zero_T ?_ | (refine wpList_store_arr rfl 41 (.tmp 8) (.tmp 20) wr.heap.size zT t.cells rfl rfl rfl rfl HZ1.out (size_T t) rfl (fun u hu => cellsT_one [t] u (by simpa [cellsT] using hu)) ?_; rw [HEa.out]) | refine wpList_load_arr_w 41 (.tmp 8) rfl rfl t.cells.toArray Hld1.out (by kernel_rfl) ?_)
      refine (refGood_any t w1 z HZ.out).mono ?_
      rintro e w2 ⟨rfl, hb2⟩
      have hB2 := HB1.out.below hb2 HB1.out.lt
      obtain ⟨gT, hgT⟩ : ∃ g, wr.heap.size = g := ⟨_, rfl⟩
      rw [hgT] at hB2 ⊢
      have hb02 : Below wr.heap.size wr w2 := Hb1.out.trans (hb2.mono Hb1.out.size)
      have HO2 : Hid (OwnB w2 w.heap.size 5 (.slice Ao xl co) x) := Lib.hid (by
        have := HO.out.keep (w' := w2) (fun g hg => hb02.block g (World.ownsRow.lt HO.out g hg).2)
        rw [HXn.out] at this
        exact this)
      have Hbw2 := Lib.hid (Hb.out.trans (hb02.mono Hb.out.size))
      have HB2 := Lib.hid hB2
      obtain ⟨ln, hln⟩ : ∃ ln, t.l.length = ln := ⟨_, rfl⟩
      have HLn := Lib.hid hln
      clear hb02 hb2 hB2 hgT HB1 Hb1 HZ1 HEa Hld Hld1 HO Hb hln
      cases z with
      | false =>
        obtain ⟨rfl, rfl⟩ : 3 = E ∧ [] = O := by
          have := Hexp.out
          rw [if_pos HZ.out.symm] at this
          simpa using this
        go_wp2
        go_ret2
        exact ⟨_, rfl, World.ownsRow_nil _ _ _ _, Hbw2.out⟩
      | true =>
        obtain ⟨g1, g2, g3, g4, g5, g6, g7⟩ := Lz.good_len HZ.out.symm
        obtain ⟨nn, hnn⟩ : ∃ nn : Nat, t.n = (nn : Int) := ⟨t.n.toNat, (Int.toNat_of_nonneg g1).symm⟩
        obtain ⟨dn, hdn⟩ : ∃ dn : Nat, t.d = (dn : Int) := ⟨t.d.toNat, (Int.toNat_of_nonneg g3).symm⟩
        have hnn' : t.tok.len = (nn : Int) := hnn
        have hdn' : t.tok.dist = (dn : Int) := hdn
        have hll' : t.tok.lit = t.l := rfl
        have hexp := Hexp.out
        rw [if_neg (by rw [← HZ.out]; simp), hnn', hdn', hll', HXn.out, HLn.out] at hexp
        rw [hnn'] at g2 g6 g7
        rw [hdn'] at g4 g6 g7
        rw [hll', HLn.out] at g5
        have hln128 : ln ≤ 128 := g5
        have hnn130 : nn ≤ 130 := by omega
        have h0 : ln = 0 ∨ nn = 0 := by
          rcases g6 with e | e
          · left; rw [← HLn.out, show t.l = [] from e]; rfl
          · right; omega
        have h1 : 0 < nn → 1 ≤ dn := fun h => by
          rcases g6 with e | e
          · have := (g7 e).2; omega
          · omega
        have H0 := Lib.hid h0
        have H1 := Lib.hid h1
        have Hexp := Lib.hid hexp
        have hact : Lz.act t.tok x = Lz.copyOn dn nn (x ++ t.l) := by
          unfold Lz.act
          rw [hnn', hdn', hll', Int.toNat_natCast, Int.toNat_natCast]
        have HAct := Lib.hid hact
        have c0 := HB2.out.cell 0
        have c1 := HB2.out.cell 1
        have c2 := HB2.out.cell 2
        rw [show t.cells[0]? = some (.slice t.A t.l.length t.c) from rfl, HLn.out] at c0
        rw [show t.cells[1]? = some (.int .i64 t.n) from rfl, hnn] at c1
        rw [show t.cells[2]? = some (.int .i64 t.d) from rfl, hdn] at c2
        have Hdn := Lib.hid hdn
        clear g1 g2 g3 g4 g5 g6 g7 hnn hdn hnn' hdn' hll' hexp h0 h1 hact
        by_cases hd : xl < dn
        · have hd' : (xl : Int) < (dn : Int) := by omega
          obtain ⟨rfl, rfl⟩ : 12 = E ∧ [] = O := by
            have := Hexp.out
            rw [if_pos hd'] at this
            simpa using this
          go_wp2
          go_ret2
          exact ⟨_, rfl, World.ownsRow_nil _ _ _ _, Hbw2.out⟩
        · have hd' : ¬ (xl : Int) < (dn : Int) := by omega
          have hexp := Hexp.out
          rw [if_neg hd'] at hexp
          by_cases hm : most < (xl : Int) + (ln : Int) + (nn : Int)
          · obtain ⟨rfl, rfl⟩ : 2 = E ∧ [] = O := by
              rw [if_pos hm] at hexp
              simpa using hexp
            clear hexp
            go_wp2
            go_ret2
            exact ⟨_, rfl, World.ownsRow_nil _ _ _ _, Hbw2.out⟩
          · rw [if_neg hm, HAct.out] at hexp
            have Hexp2 := Lib.hid hexp
            clear hexp
            obtain ⟨v3, w3, e3, hO3, hb3, hg3⟩ := app_rd (P := Try.prog) 22 22 Try.und22 Try.info5 HO2.out Hbw2.out.size t.c (HLit.out.1.below Hbw2.out) (by rw [HXn.out, HLn.out]; omega)
            rw [HLn.out] at e3
            have He3 := Lib.hid e3
            have HO3 := Lib.hid hO3
            have Hb3 := Lib.hid (Hbw2.out.trans hb3)
            have HB3 := Lib.hid (HB2.out.grown hg3 (own_ne HO2.out HB2.out (by decide)))
            clear e3 hO3 hb3 hg3
            go_wp2_with (at_builtin; refine wpList_append_run rfl (.tmp 41) (.tmp 43) _ rfl rfl rfl He3.out ?_)
            clear He3 c0 c1 c2
            have hy0 : (x ++ t.l).length = xl + ln := by rw [List.length_append, HXn.out, HLn.out]
            have HY0 := Lib.hid hy0
            clear hy0
            go_loopw [6] (fun v W => ∃ (j : Nat) (y : List UInt8), j ≤ nn ∧ OwnB W w.heap.size 5 v y ∧ y.length + j = xl + ln + nn ∧ Lz.copyOn dn j y = Lz.copyOn dn nn (x ++ t.l) ∧ dn ≤ y.length ∧ Below w.heap.size w W ∧ Blk W gT 41 t.cells) (fun v _ => xl + ln + nn - lenV v)
            case atStart => exact ⟨nn, x ++ t.l, Nat.le_refl _, HO3.out, by rw [HY0.out], rfl, by rw [HY0.out]; omega, Hb3.out, HB3.out⟩
            case round =>
              obtain ⟨j, y, hj, hOy, hyl, hcp, hdy, hby, hBy⟩ := hrel
              clear HO3 Hb3 HB3
              obtain ⟨yl, hyn⟩ : ∃ yl, y.length = yl := ⟨_, rfl⟩
              rw [hyn] at hyl hdy
              have HYn := Lib.hid hyn
              have HOy := Lib.hid hOy
              have HCp := Lib.hid hcp
              have Hby := Lib.hid hby
              have HBy := Lib.hid hBy
              clear hyn hOy hcp hby hBy
              by_cases hj0 : j = 0
              · subst hj0
                obtain ⟨Ay, cy, rfl, _⟩ := HOy.out.rd
                have hge : ¬ (yl : Int) < (xl : Int) + (ln : Int) + (nn : Int) := by omega
                have hOy := HOy.out
                rw [HYn.out] at hOy ⊢
                have hyx : y = Lz.copyOn dn nn (x ++ t.l) := HCp.out
                have Hex := Hexp2.out
                rw [← hyx] at Hex
                have Hex := Lib.hid Hex
                have HOy := Lib.hid hOy
                have hle : y.length ≤ 130 * (i + 1) := by
                  rw [HYn.out]
                  rcases H0.out with h | h <;> omega
                have Hle := Lib.hid hle
                clear hyx hle hOy
                go_wp2
                exact ⟨⟨i + 1, y, by omega, by go_num, HOy.out, Hex.out, Hle.out, Hby.out⟩, by simp [intOf]; omega⟩
              · have hdn1 : 1 ≤ dn := H1.out (by omega)
                obtain ⟨gy, cy, ry, rfl, hgy, hcy, hBky⟩ := HOy.out.blk (by rw [HYn.out]; omega)
                obtain ⟨k, rfl⟩ : ∃ k, j = k + 1 := ⟨j - 1, by omega⟩
                have hlt2 : (yl : Int) < (xl : Int) + (ln : Int) + (nn : Int) := by omega
                have hix : yl - dn < y.length := by rw [HYn.out]; omega
                obtain ⟨ch, hch⟩ : ∃ ch, y[yl - dn]? = some ch := ⟨_, List.getElem?_eq_getElem hix⟩
                have hcell : wr.cell? ⟨gy, yl - dn, none⟩ = some (.int .u8 (ch.toNat : Int)) := by
                  rw [hBky.cell, List.getElem?_append_left (by rw [u8s_len]; exact hix), u8s_get, hch]; rfl
                have c2 := HBy.out.cell 2
                rw [show t.cells[2]? = some (.int .i64 t.d) from rfl, Hdn.out] at c2
                have hal := below_alloc wr (.cells #[.int .u8 (ch.toNat : Int)] 5)
                have hbn : Blk (wr.alloc (.cells #[.int .u8 (ch.toNat : Int)] 5)) wr.heap.size 5 (u8s [ch]) := Blk.new wr 5 (u8s [ch])
                have hOa := HOy.out.alloc (.cells #[.int .u8 (ch.toNat : Int)] 5)
                obtain ⟨v4, w4, e4, hO4, hb4, hg4⟩ := app_rd (P := Try.prog) 22 22 Try.und22 Try.info5 hOa (Nat.le_trans Hby.out.size hal.size) 1 (Rd.of_all hbn) (l := [ch]) (by rw [HYn.out]; simp; omega)
                have hT4 := (HBy.out.alloc (.cells #[.int .u8 (ch.toNat : Int)] 5)).grown hg4 (own_ne hOa (HBy.out.alloc _) (by decide))
                have hcp4 : Lz.copyOn dn k (y ++ [ch]) = Lz.copyOn dn nn (x ++ t.l) := by
                  rw [← HCp.out, Lz.copyOn, HYn.out, List.getD_eq_getElem?_getD, hch]
                  rfl
                have HO4 := Lib.hid hO4
                have Hb4 := Lib.hid (Hby.out.trans ((hal.mono Hby.out.size).trans hb4))
                have HT4 := Lib.hid hT4
                have HCp4 := Lib.hid hcp4
                have He4 := Lib.hid e4
                have HYl4 : Hid ((y ++ [ch]).length = yl + 1) := Lib.hid (by rw [List.length_append, HYn.out]; rfl)
                obtain ⟨A4, c4, rfl, _⟩ := hO4.rd
                rw [HYn.out]
                have HYm : Hid ((y ++ [ch]).length + k = xl + ln + nn) := Lib.hid (by rw [HYl4.out]; omega)
                clear hal hbn hOa hO4 hb4 hg4 hT4 hcp4 e4 hBky hgy hch hix
                rw [HYn.out] at He4 hcy
                rw [HYl4.out] at He4 HO4
                go_wp2_with (at_builtin; refine wpList_append_run rfl (.tmp 49) (.tmp 58) _ rfl rfl rfl He4.out ?_)
                exact ⟨⟨k, y ++ [ch], by omega, HO4.out, HYm.out, HCp4.out, by rw [HYl4.out]; omega, Hb4.out, HT4.out⟩, by simp [lenV]; omega⟩
    · obtain rfl : i = n := by omega
      have hexp := Hx.out
      rw [List.drop_eq_nil_of_le (by rw [List.length_map, ← HN.out]; exact Nat.le_refl _), Lz.expd] at hexp
      obtain ⟨rfl, rfl⟩ : 0 = E ∧ x = O := by simpa using hexp
      clear hexp
      go_wp2
      go_ret2
      exact ⟨_, rfl, HO.out, Hb.out⟩
end Go.Proofs.Ytjapohddfelgkaa
namespace Go.Gar
open Go.RowKit
section
variable {G : Growth} {P : Program} {ops : Array Oper} {Q : Exit → Act → World → Prop} {md : Region.Mode}

theorem wpOp_of_list {i : Nat} {o : Oper} {a : Act} {w : World} {K : Act → World → Prop} (hi : ops[i]? = some o) (h : wpList P ops (Exit.then K Q) [o] a w) : wpOp P ops Q i K a w := by
  unfold wpOp
  simp only [hi]
  unfold wpList at h
  split
  · rename_i hw
    simp only [hw, if_true] at h
    rcases h with h | ⟨h1, h2⟩
    · left
      unfold Oper.wp at h ⊢
      generalize (execOp a.eval o).run P w = r at *
      cases r with
      | ok n w' => cases n <;> exact h
      | halt x w' => cases x <;> exact h
    · exact .inr ⟨h1, h2⟩
  · rename_i hw
    simp only [hw] at h
    exact h
/-- Two operations may come up now. -/
theorem twoG {L : List Oper} (i j n : Nat) {N : Nat} {o p : Oper} {listed : Array Bool} {a : Act} {w : World} (hN : N = n + 1) (hr : Region.ready md L.toArray listed = [i, j]) (hi : L[i]? = some o) (hj : L[j]? = some p)
    (h1 : wpList P L.toArray (Exit.then (fun a' w' => G.rel w w' ∧ wpAnyG G P md L.toArray Q n (listed.setIfInBounds i true) a' w') Q) [o] a w)
    (h2 : wpList P L.toArray (Exit.then (fun a' w' => G.rel w w' ∧ wpAnyG G P md L.toArray Q n (listed.setIfInBounds j true) a' w') Q) [p] a w) : wpAnyG G P md L.toArray Q N listed a w := by
  subst hN
  refine ⟨fun h0 => (by rw [h0] at hr; cases hr), fun k hk => ?_⟩
  rw [hr] at hk
  rcases List.mem_cons.1 hk with rfl | hk
  · exact wpOp_mono (fun a' w' h => ⟨.inl h.1, h.2⟩) (wpOp_of_list (by simpa using hi) h1)
  · obtain rfl : k = j := by simpa using hk
    exact wpOp_mono (fun a' w' h => ⟨.inl h.1, h.2⟩) (wpOp_of_list (by simpa using hj) h2)
/-- The walk under a name: what is left of it may be stated once for all orders. -/
theorem nameG {fuel : Nat} {listed : Array Bool} {a : Act} {w : World} (h : ∀ W : Nat → Array Bool → Act → World → Prop, W = wpAnyG G P md ops Q → W fuel listed a w) : wpAnyG G P md ops Q fuel listed a w := h _ rfl
theorem sameG {fuel : Nat} {listed L' : Array Bool} {a : Act} {w : World} (e : listed = L') (h : wpAnyG G P md ops Q fuel L' a w) : wpAnyG G P md ops Q fuel listed a w := by rw [e]; exact h
end
end Go.Gar
namespace Go.Gar
open Go.RowKit
/-- All blocks below a bound stay as they were. -/
def belowG (B : Nat) : Growth := ⟨fun w w' => Below B w w', fun w => Below.refl _ w, fun h k => h.trans k⟩
theorem wpList_neq_arr_w {P : Program} {w : World} {ops : Array Oper} {rest : List Oper} {o : Oper} {a : Act} {Q : Exit → Act → World → Prop} (t t2 : TypeId) (p q : Operand) (ho : o.op = .binOp .neq t p q t2) {x y : Array Value} (hp : a.eval p = .agg x) (hq : a.eval q = .agg y) (r : Bool)
    (hg : P.eqGuardType P.depth t = false) (heq : ∀ w, (Op.equalIn 10000 t (.agg x) (.agg y)).run P w = .ok r w) (hw : Region.wanted o (yielded ops a.tmps) = true)
    (h : wpList P ops Q rest (a.put o.dst (.bool (!r))) w) : wpList P ops Q (o :: rest) a w := by
  refine wpList_run_w hw (v := .bool (!r)) (w' := w) ?_ h
  have h1 : (eqGuard .neq t p q (.agg x) (.agg y)).run P w = .ok () w := by
    simp [eqGuard, hg, Sem.run_bind]
  have h2 : (binOp .neq t (.agg x) (.agg y)).run P w = .ok (.bool (!r)) w := by
    have := heq w
    simp [binOp, Op.equal, Op.maxDepth, this, Result.andThen]
  unfold execOp
  simp only [ho, hp, hq, Sem.run_bind, h1, h2, Result.andThen_ok, Sem.run_pure]
section
variable {G : Growth} {P : Program} {Q : Exit → Act → World → Prop} {md : Region.Mode}
def firstOk (md : Region.Mode) (ops : Array Oper) (i : Nat) (listed : Array Bool) : Bool :=
  closedB md ops listed && (Region.ready md ops listed).contains i && Region.free md ops listed i
theorem firstG {L : List Oper} (hs : Region.noSelect L.toArray = true) (hQ : ∀ c (a : Act) (d : Tmp) v w, Q (.panic c) (a.put (some d) v) w → Q (.panic c) a w) (i n : Nat) {N : Nat} {o : Oper} {listed : Array Bool} {a : Act} {w : World} (hN : N = n + 1)
    (hi : L[i]? = some o) (hok : firstOk md L.toArray i listed = true) {v : Value} (hw : Region.wanted o (yielded L.toArray a.tmps) = true) (hrun : ∀ W : Later G w, (execOp a.eval o).run P W.to = .ok (.value v) W.to)
    (h : wpAnyG G P md L.toArray Q n (listed.setIfInBounds i true) (a.put o.dst v) w) : wpAnyG G P md L.toArray Q N listed a w := by
  subst hN
  simp only [firstOk, Bool.and_eq_true] at hok
  obtain ⟨⟨hcl, hr⟩, hf⟩ := hok
  have hi' : L.toArray[i]? = some o := by simpa using hi
  exact wpAnyG_first w hi' (Region.noSelect_spec hs) (fun c a w h => panic_put hQ c a _ _ w h) n listed a w (closed_of hcl) (Region.free_spec hi' hf) (by simpa using hr) (.inl ⟨hw, fun W hW => hrun ⟨W, hW⟩⟩) (G.refl w) h
/-- A slice turned into an array's address, first. -/
theorem firstG_arrayAt {L : List Oper} (t : TypeId) (p : Operand) {x v : Value} {n i : Nat} {N : Nat} {o : Oper} {listed : Array Bool} {a : Act} {w : World} (hs : Region.noSelect L.toArray = true) (hQ : ∀ c (a : Act) (d : Tmp) v w, Q (.panic c) (a.put (some d) v) w → Q (.panic c) a w) (hN : N = n + 1)
    (hi : L[i]? = some o) (hok : firstOk md L.toArray i listed = true) (ho : o.op = .sliceToArrayPointer t p) (hp : a.eval p = x) (hrun : ∀ W, (Instr.arrayAt t x).run P W = .ok v W) (hw : Region.wanted o (yielded L.toArray a.tmps) = true)
    (h : wpAnyG G P md L.toArray Q n (listed.setIfInBounds i true) (a.put o.dst v) w) : wpAnyG G P md L.toArray Q N listed a w := by
  refine firstG hs hQ i n hN hi hok hw (fun W => ?_) h
  unfold execOp
  simp only [ho, hp, Sem.run_bind, hrun, Result.andThen_ok, Sem.run_pure]
/-- An array loaded from the midst of a block, in a segment. -/
theorem wpQuiet_load_at {w : World} {ops : Array Oper} {Q : Act → Prop} {rest : List Oper} {o : Oper} {a : Act} (t : TypeId) (p : Operand) (ho : o.op = .load t p) {g q : Nat} (hp : a.eval p = .pointer (some ⟨g, q, none⟩)) (x : Array Value)
    (hld : ∀ W : Later G w, (loadVar t ⟨g, q, none⟩).run P W.to = .ok (.agg x) W.to) (hw : Region.wanted o (yielded ops a.tmps) = true)
    (h : wpQuiet P ops (fun W => ∃ y : Later G w, W = y.to) Q rest (a.put o.dst (.agg x))) : wpQuiet P ops (fun W => ∃ y : Later G w, W = y.to) Q (o :: rest) a := by
  refine wpQuiet_val hw (fun W hW => ?_) h
  obtain ⟨y, rfl⟩ := hW
  unfold execOp
  simp only [ho, hp, Instr.loadAt, Instr.sureAddr, Sem.run_bind, hld y, Result.andThen_ok, Sem.run_pure]
end
end Go.Gar
namespace Go.Gar
open Go.RowKit

/-- Two parts of n cells each fill a value of 2 n cells. -/
theorem fill_two (place : Nat → Option (Nat × Nat)) (z X Y : Array Value) (n : Nat) (h0 : place 0 = some (0, n)) (h1 : place 1 = some (n, n)) (hX : X.size = n) (hY : Y.size = n) (hz : z.size = 2 * n) :
    Instr.fill place z [(0, .agg X), (1, .agg Y)] = some (X ++ Y) := by
  obtain ⟨a1, a2⟩ := Great.foldl_set 0 X.toList 0 z
  obtain ⟨b1, b2⟩ := Great.foldl_set n Y.toList 0 ((X.toList.zipIdx 0).foldl (fun cs (x : Value × Nat) => cs.setIfInBounds (0 + x.2) x.1) z)
  unfold Instr.fill
  simp only [h0]
  have c1 : (Value.agg X).cells = X := rfl
  have c2 : (Value.agg Y).cells = Y := rfl
  rw [c1, if_neg (by simp; omega)]
  unfold Instr.fill
  simp only [h1]
  have e1 : (X.zipIdx.foldl (fun cs (x : Value × Nat) => cs.setIfInBounds (0 + x.2) x.1) z) = (X.toList.zipIdx 0).foldl (fun cs (x : Value × Nat) => cs.setIfInBounds (0 + x.2) x.1) z := by
    rw [← Array.foldl_toList, Array.toList_zipIdx]
  rw [c2, e1, if_neg (by rw [a1]; simp; omega)]
  unfold Instr.fill
  rw [← Array.foldl_toList, Array.toList_zipIdx]
  congr 1
  apply Array.ext_getElem?
  intro k
  rw [b2, a1, a2, Array.length_toList, Array.length_toList, hX, hY, hz]
  by_cases hk : k < n
  · rw [if_neg (by omega), if_pos (by omega), Array.getElem?_append_left (by omega)]
    simp
  · by_cases hk2 : k < 2 * n
    · rw [if_pos (by omega), Array.getElem?_append_right (by omega), hX]
      simp
    · rw [if_neg (by omega), if_neg (by omega), Array.getElem?_eq_none (by omega), Array.getElem?_eq_none (by rw [Array.size_append]; omega)]
/-- build, its cells known. -/
theorem wpList_build_w {P : Program} {w : World} {ops : Array Oper} {rest : List Oper} {o : Oper} {a : Act} {Q : Exit → Act → World → Prop} (t : TypeId) (parts : Array (Nat × Operand)) (ho : o.op = .build t parts) {vs : List (Nat × Value)} (hp : (parts.map fun (i, x) => (i, a.eval x)).toList = vs)
    {x : Array Value} (hb : P.built t vs = some x) (hw : Region.wanted o (yielded ops a.tmps) = true) (h : wpList P ops Q rest (a.put o.dst (.agg x)) w) : wpList P ops Q (o :: rest) a w := by
  refine wpList_run_w hw (v := .agg x) (w' := w) ?_ h
  unfold execOp
  subst hp
  simp only [ho, Sem.run_bind, run_build w t _ _ hb, Result.andThen_ok, Sem.run_pure]
/-- build in a segment. -/
theorem wpQuiet_build {P : Program} {C : World → Prop} {ops : Array Oper} {Q : Act → Prop} {rest : List Oper} {o : Oper} {a : Act} (t : TypeId) (parts : Array (Nat × Operand)) (ho : o.op = .build t parts) {vs : List (Nat × Value)} (hp : (parts.map fun (i, x) => (i, a.eval x)).toList = vs)
    {x : Array Value} (hb : P.built t vs = some x) (hw : Region.wanted o (yielded ops a.tmps) = true) (h : wpQuiet P ops C Q rest (a.put o.dst (.agg x))) : wpQuiet P ops C Q (o :: rest) a := by
  refine wpQuiet_val hw (fun W _ => ?_) h
  unfold execOp
  subst hp
  simp only [ho, Sem.run_bind, run_build W t _ _ hb, Result.andThen_ok, Sem.run_pure]
end Go.Gar
namespace Go.Proofs.Ytjapohddfelgkaa
open Go.RowKit Go.Gar

theorem Try.fieldsTok : (Try.prog.fieldsOf 41).toList.map (fun f => (f.name, f.type, f.offset)) = [("Lit", 22, 0), ("Len", 3, 1), ("Dist", 3, 2)] := by kernel_rfl
theorem Try.infoSl : (Try.prog.info? 22).map (·.size) = some 1 := by kernel_rfl
theorem Try.infoIn : (Try.prog.info? 3).map (·.size) = some 1 := by kernel_rfl
/-- build of a token, its cells known. -/
theorem built_tok (parts : List (Nat × Value)) (x : Array Value) (h : Instr.fill (fun k => ([(0, 1), (1, 1), (2, 1)] : List (Nat × Nat)).toArray[k]?) #[.slice none 0 0, .int .i64 0, .int .i64 0] parts = some x) : Try.prog.built 41 parts = some x := by
  obtain ⟨i, hi, he⟩ := Option.map_eq_some_iff.1 Try.infoTok2
  simp only [Prod.mk.injEq] at he
  obtain ⟨j, hj, hjs⟩ := Option.map_eq_some_iff.1 Try.infoSl
  obtain ⟨k, hk, hks⟩ := Option.map_eq_some_iff.1 Try.infoIn
  unfold Program.built
  rw [hi, Try.undTok]
  simp only [he.1]
  have hf := Try.fieldsTok
  generalize (Try.prog.fieldsOf 41).toList = fs at hf ⊢
  rcases fs with _ | ⟨f1, _ | ⟨f2, _ | ⟨f3, _ | ⟨f4, fs⟩⟩⟩⟩
  · cases hf
  · simp at hf
  · simp at hf
  · simp only [List.map_cons, List.map_nil, List.cons.injEq, Prod.mk.injEq, and_true] at hf
    obtain ⟨⟨_, t1, o1⟩, ⟨_, t2, o2⟩, _, t3, o3⟩ := hf
    simp only [List.mapM_cons, List.mapM_nil, t1, t2, t3, o1, o2, o3, hj, hk, hjs, hks, Option.map_some]
    exact h
  · simp at hf
theorem built_match (n d : Int) : Try.prog.built 41 [(1, .int .i64 n), (2, .int .i64 d)] = some (Tv.cells ⟨none, [], 0, n, d⟩).toArray := built_tok _ _ rfl
theorem built_lit (A : Option Addr) (l : List UInt8) (m c : Nat) (hm : m = l.length) : Try.prog.built 41 [(0, .slice A m c)] = some (Tv.cells ⟨A, l, c, 0, 0⟩).toArray := by
  subst hm
  exact built_tok _ _ rfl
end Go.Proofs.Ytjapohddfelgkaa
