/-
  Parts of a variadic call: slices of bytes in a row; rows of constants. Of no program. Layer 13: the fixed fact awake, and short, from the contract of pack's functions. Layer 11: what is asked of lz's functions (a contract, over whatever the packages' own variables may be). How a law's row is closed: a call that returned true and left every old block alone meets the row's demand, whatever its parameters' types. No program's text. Two closed facts on the translated program that every row asks. The landed lz: Good and Expand: their contracts. Cuts of a []byte as run equations. Of no program. The landed token: first: its contract.
-/
import Derived.Test.YtjapohddfelgkaaPackJ01
import Derived.Lib.SmallJoins
import Derived.Test.YtjapohddfelgkaaPackJ04
import Derived.Test.YtjapohddfelgkaaPackJ06
import Derived.WalkKit
import Derived.ProofKit
import Derived.OpenShut
import Derived.ShutString
import Derived.Carry
import Derived.Test.YtjapohddfelgkaaRows
import Derived.Test.YtjapohddfelgkaaPackJ05
import Derived.Lib.LazyBuf
import Derived.IntWalk
set_option maxRecDepth 100000
namespace Go.Proofs.Ytjapohddfelgkaa
open Go.RowKit Go.Gar

/-- A part: where its slice lies, what it reads as, its capacity. -/
def partV (p : Option Addr × List UInt8 × Nat) : Value := .slice p.1 p.2.1.length p.2.2
def cat (ps : List (Option Addr × List UInt8 × Nat)) : List UInt8 := ps.flatMap (·.2.1)

theorem rd_const (w : World) (l : List UInt8) (t : TypeId) (fr : Nat × Nat) (C : Array Value) (g B : Nat) (hC : C = (u8s l).toArray) (hg : g = w.heap.size) (hB : w.heap.size < B) : Rd (w.alloc (.cells C t fr)) B (some ⟨g, 0, none⟩) l := by
  subst hC; subst hg
  refine .inr ⟨w.heap.size, 0, rfl, hB, fun i c hi => ?_⟩
  rw [Joins.cell_alloc_mark_at w _ t fr _ _ rfl, Nat.zero_add]
  rw [List.getElem?_toArray, u8s_get, hi]; rfl

end Go.Proofs.Ytjapohddfelgkaa
namespace Go.Proofs.Ytjapohddfelgkaa
open Go.RowKit Go.Gar

theorem short13_any (A : Option Addr) (len cap m : Nat) (w : World) (hm : m = min len 1100) (hc : len ≤ cap) :
    Calls Try.prog 7 #[.slice A len cap] w fun e w' => e = .returned (.slice A m cap) ∧ w' = w := by
  by_cases h : len ≤ 1100
  · obtain rfl : m = len := by omega
    clear hm
    go_enter Try.func7, Try.ntmps7
    go_wp2
    go_ret
    exact ⟨rfl, rfl⟩
  · obtain rfl : m = 1100 := by omega
    clear hm
    go_enter Try.func7, Try.ntmps7
    go_wp2
    go_ret
    exact ⟨rfl, rfl⟩
theorem make_zeros (N : Nat) (hN : N = 1000) : ∃ Z : List UInt8, Z.length = N ∧ (Lz.packB Z).1 = 0 ∧ (Lz.packB Z).2.length = 27 ∧ Lz.unpackB (Lz.packB Z).2 = (0, Z) ∧
    ∀ W : World, (Instr.makeSlice 22 (.int .i64 1000) (.int .i64 1000)).run Try.prog W = .ok (.slice (some ⟨W.heap.size, 0, none⟩) N N) (W.alloc (.cells (u8s Z).toArray 5)) := by
  refine ⟨List.replicate N 0, List.length_replicate, (Lz.pack_zeros N hN).1, (Lz.pack_zeros N hN).2.1, (Lz.pack_zeros N hN).2.2, fun W => ?_⟩
  have h := run_make_bytes N N (Nat.le_refl _) (by omega) W
  rw [show ((N : Nat) : Int) = 1000 by omega] at h
  exact h
theorem make_more (N : Nat) (hN : N = 1025) : ∃ Z : List UInt8, Z.length = N ∧ Lz.packB Z = (2, []) ∧
    ∀ W : World, (Instr.makeSlice 22 (.int .i64 1025) (.int .i64 1025)).run Try.prog W = .ok (.slice (some ⟨W.heap.size, 0, none⟩) N N) (W.alloc (.cells (u8s Z).toArray 5)) := by
  refine ⟨List.replicate N 0, List.length_replicate, ?_, fun W => ?_⟩
  · unfold Lz.packB
    rw [if_pos (by rw [List.length_replicate]; omega)]
  · have h := run_make_bytes N N (Nat.le_refl _) (by omega) W
    rw [show ((N : Nat) : Int) = 1025 by omega] at h
    exact h

set_option maxHeartbeats 400000 in
theorem awake13_any {G : World → Prop} (hOK : PackOK G) (w : World) (hG : G w) :
    Calls Try.prog 9 #[] w fun e w' => e = .returned (.bool true) ∧ Below w.heap.size w w' := by
  have HOK := Lib.hid hOK
  have HG := Lib.hid hG
  clear hOK hG
  obtain ⟨Z, hZl, hZ1, hZ2, hZ3, hmk⟩ := make_zeros 1000 rfl
  obtain ⟨Y, hYl, hY1, hmk2⟩ := make_more 1025 rfl
  obtain ⟨X, hX⟩ : ∃ X, (Lz.packB Z).2 = X := ⟨_, rfl⟩
  rw [hX] at hZ2 hZ3
  have HP := Lib.hid (show Lz.packB Z = (0, X) from Prod.ext hZ1 hX)
  have HZl := Lib.hid hZl
  have HXl := Lib.hid hZ2
  have HU := Lib.hid hZ3
  have HYl := Lib.hid hYl
  have HY := Lib.hid hY1
  have HU0 := Lib.hid (show Lz.unpackB [] = (12, []) from rfl)
  clear hZl hZ1 hZ2 hZ3 hYl hY1 hX
  have hB1 := Blk.new w 5 (u8s Z)
  have hb1 := below_alloc w (.cells (u8s Z).toArray 5)
  have HR1 := Lib.hid (Rd.of_all hB1)
  have Hb1 := Lib.hid hb1
  clear hB1 hb1
  go_enter Try.func9, Try.ntmps9
  go_wp2_with fail
  refine (pack_at HOK.out _ _ Z 1000 1000 0 X 27 (HOK.out.keep HG.out Hb1.out) HZl.out.symm HR1.out (Nat.le_refl _) (by omega) HP.out HXl.out.symm).mono ?_
  rintro e w2 ⟨A2, c2, rfl, hc2, hr2, hb2⟩
  have HR2 := Lib.hid hr2
  have Hb2 := bb Hb1 hb2
  clear hr2 hb2 HR1 Hb1
  go_wp2_with fail
  refine (unpack_at HOK.out w2 A2 X 27 c2 0 Z 1000 (HOK.out.keep HG.out Hb2.out) HXl.out.symm HR2.out hc2 (by omega) HU.out HZl.out.symm).mono ?_
  rintro e w3 ⟨A3, c3, rfl, hc3, hr3, hb3⟩
  have Hb3 := bb Hb2 hb3
  clear hr3 hb3 HR2 Hb2
  go_wp2_with fail
  refine (unpack_at HOK.out w3 none [] 0 0 12 [] 0 (HOK.out.keep HG.out Hb3.out) rfl (.inl rfl) (Nat.le_refl _) (by omega) HU0.out rfl).mono ?_
  rintro e w4 ⟨A4, c4, rfl, hc4, hr4, hb4⟩
  have Hb4 := bb Hb3 hb4
  clear hr4 hb4 Hb3
  have hB5 := Blk.new w4 5 (u8s Y)
  have hb5 := below_alloc w4 (.cells (u8s Y).toArray 5)
  have HR5 := Lib.hid (Rd.of_all hB5)
  have Hb5 := bb Hb4 hb5
  clear hB5 hb5
  go_wp2_with fail
  refine (pack_at HOK.out _ _ Y 1025 1025 2 [] 0 (HOK.out.keep HG.out Hb5.out) HYl.out.symm HR5.out (Nat.le_refl _) (by omega) HY.out rfl).mono ?_
  rintro e w6 ⟨A6, c6, rfl, hc6, hr6, hb6⟩
  have Hb6 := bb Hb5 hb6
  clear hr6 hb6 HR5 Hb4 Hb5
  go_wp2
  go_ret
  exact ⟨by simp, Hb6.out⟩
end Go.Proofs.Ytjapohddfelgkaa
namespace Go.Proofs.Ytjapohddfelgkaa
open Go.RowKit Go.Gar

structure LzOK (G : World → Prop) : Prop where
  keep : ∀ {w w' : World}, G w → Below w.heap.size w w' → G w'
  tokens : ∀ (w : World) (A : Option Addr) (b : List UInt8) (c : Nat), G w → Rd w w.heap.size A b → b.length ≤ c → b.length ≤ 100000 →
    Calls Try.prog 13 #[.slice A b.length c] w fun e w' => ∃ A' c' ts, e = .returned (.slice A' ts.length c') ∧ ts.length ≤ c' ∧ RdT w' w'.heap.size A' ts ∧ ts.map Tv.tok = Lz.tokens b ∧ Below w.heap.size w w'
  expand : ∀ (w : World) (A : Option Addr) (ts : List Tv) (c : Nat) (most : Int), G w → RdT w w.heap.size A ts → ts.length ≤ c → ts.length ≤ 100000 → isI64 most → (∀ t ∈ ts, isI64 t.n ∧ isI64 t.d) →
    Calls Try.prog 30 #[.slice A ts.length c, .int .i64 most] w fun e w' => ∃ A' c', e = .returned (.tuple #[.slice A' (Lz.expand (ts.map Tv.tok) most).2.length c', .int .i64 (((Lz.expand (ts.map Tv.tok) most).1 : Nat) : Int)]) ∧ (Lz.expand (ts.map Tv.tok) most).2.length ≤ c' ∧ Rd w' w'.heap.size A' (Lz.expand (ts.map Tv.tok) most).2 ∧ Below w.heap.size w w'
  good : ∀ (w : World) (t : Tv), G w → isI64 t.n → isI64 t.d → Calls Try.prog 21 #[.agg t.cells.toArray] w fun e w' => e = .returned (.bool (Lz.good t.tok)) ∧ Below w.heap.size w w'
section
variable {G : World → Prop}
theorem lzT_at (hOK : LzOK G) (w : World) (A : Option Addr) (b : List UInt8) (n c : Nat) (T : List Lz.Tok) (hG : G w) (hn : n = b.length) (hT : T = Lz.tokens b) (r : Rd w w.heap.size A b) (hc : n ≤ c) (hl : n ≤ 100000) :
    Calls Try.prog 13 #[.slice A n c] w fun e w' => ∃ A' m c' ts, e = .returned (.slice A' m c') ∧ m = ts.length ∧ m ≤ c' ∧ RdT w' w'.heap.size A' ts ∧ ts.map Tv.tok = T ∧ Below w.heap.size w w' := by
  subst hn; subst hT
  refine (hOK.tokens w A b c hG r hc hl).mono ?_
  rintro e w' ⟨A', c', ts, rfl, h1, h2, h3, h4⟩
  exact ⟨A', ts.length, c', ts, rfl, rfl, h1, h2, h3, h4⟩
theorem lzE_at (hOK : LzOK G) (w : World) (A : Option Addr) (ts : List Tv) (n c : Nat) (most : Int) (E : Int) (O : List UInt8) (m : Nat) (hG : G w) (hn : n = ts.length) (r : RdT w w.heap.size A ts) (hc : n ≤ c) (hl : n ≤ 100000) (hm : isI64 most) (hi : ∀ t ∈ ts, isI64 t.n ∧ isI64 t.d) (hE : E = (((Lz.expand (ts.map Tv.tok) most).1 : Nat) : Int)) (hO : O = (Lz.expand (ts.map Tv.tok) most).2) (hmm : m = O.length) :
    Calls Try.prog 30 #[.slice A n c, .int .i64 most] w fun e w' => ∃ A' c', e = .returned (.tuple #[.slice A' m c', .int .i64 E]) ∧ m ≤ c' ∧ Rd w' w'.heap.size A' O ∧ Below w.heap.size w w' := by
  subst hn; subst hE; subst hmm; subst hO
  exact hOK.expand w A ts c most hG r hc hl hm hi
theorem lzG_at (hOK : LzOK G) (w : World) (t : Tv) (z : Bool) (hz : z = Lz.good t.tok) (hG : G w) (h1 : isI64 t.n) (h2 : isI64 t.d) : Calls Try.prog 21 #[.agg t.cells.toArray] w fun e w' => e = .returned (.bool z) ∧ Below w.heap.size w w' := by
  subst hz
  exact hOK.good w t hG h1 h2
end
theorem tokens_i64 {ts : List Tv} {b : List UInt8} (h : ts.map Tv.tok = Lz.tokens b) : ∀ t ∈ ts, isI64 t.n ∧ isI64 t.d := fun t ht =>
  good_i64 ((Lz.tokens_inv b).gd _ (by rw [← h]; exact List.mem_map_of_mem ht))
end Go.Proofs.Ytjapohddfelgkaa
namespace Go.Gar
open Go.ChangeShapes Go.WideShapes Go.ChangeAt Go.RowKit

theorem trodAll_below {H : Type} {enc : TypeId × Value → H} {P : Program} (hl : laidOutB P = true) {W W' : World} (hb : Below W.heap.size W W') :
    ∀ (ts : List TypeId) (vs : List Value) (ds : List (DataW H)) (ps : List MemPlace), (∀ t ∈ ts, P.readableRec t = true ∧ t < P.types.size) →
      DataW.TrodAll enc P W 0 (fun _ => true) true ts vs ds ps → (∀ x ∈ ps, x.block < W.heap.size) → DataW.TrodAll enc P W' 0 (fun b => decide (b < W.heap.size)) true ts vs ds ps
  | [], vs, ds, ps, _, h, _ => by
    obtain ⟨rfl, rfl, rfl⟩ := trodAll_nil h
    exact trodAll_mk0
  | t :: ts, vs, ds, ps, ht, h, hp => by
    obtain ⟨v, vs', d, ds', p, q, rfl, rfl, rfl, h0, r0⟩ := trodAll_cons h
    have h1 := (ht t (by simp))
    exact trodAll_cons_mk (Below.trod hl h1.1 h1.2 h0 hb (fun x hx => hp x (by simp [hx]))) (trodAll_below hl hb ts vs' ds' q (fun u hu => ht u (by simp [hu])) r0 (fun x hx => hp x (by simp [hx])))

/-- The demand of a law's row. -/
theorem law_post {H : Type} {enc : TypeId × Value → H} {P : Program} {f : Func} {s : ChangeSpec} {W W' : World} {args : Array Value} {ds : List (DataW H)} {before : List MemPlace} {tb : TypeId} (hl : laidOutB P = true)
    (ht : f.params.toList.all (fun t => P.readableRec t && decide (t < P.types.size)) = true) (hvars : s.vars = []) (hres : f.resultTypes = #[tb]) (htb : P.underlying tb = some .bool)
    (hW : DataW.Whole enc P f.params.toList s.vars false W args.toList ds [] before) (hfn : s.fn H (ds ++ []) = { results := [.lit (.bool true)], args := ds }) (hb : Below W.heap.size W W') :
    s.post enc P f false true false false W args (.bool true) W' := by
  have hlt : ∀ p ∈ before, p.block < W.heap.size := fun p hp => hW.lt p hp
  have hW' := hW
  obtain ⟨p, q, hA, hV, rfl, _, _⟩ := hW
  rw [hvars] at hV
  obtain ⟨_, rfl⟩ := trodVars_none hV
  refine ⟨ds, [], p ++ [], [], p, [], hW', ?_, ?_, ?_, hb.frame _, fun h => by cases h⟩
  · rw [hfn, hres]
    exact trodAll_cons_mk (shut_bool htb true) trodAll_mk0
  · rw [hfn]
    refine trodAll_below hl hb _ _ _ _ (fun t h => ?_) hA (fun x hx => hlt x (by simp [hx]))
    have := List.all_eq_true.1 ht t h
    simpa using this
  · rw [hfn, hvars]
    rfl

/-- A []byte argument: it reads as bytes. -/
theorem open_bytes {H : Type} {enc : TypeId × Value → H} {P : Program} {t e : TypeId} (ht : P.underlying t = some (.slice e)) (he : P.underlying e = some (.int .u8)) (hce : P.cellsOf e = 1) {W : World} {base : Nat} {v : Value} {d : DataW H} {p : List MemPlace}
    (hok : Value.okWide P W .any base t v) (h : DataW.Trod enc P W 0 (fun _ => true) true t v d p) : ∃ A l cap, v = .slice A l.length cap ∧ l.length ≤ cap ∧ Rd W W.heap.size A l := by
  obtain ⟨a0, len0, cap0, rfl⟩ := okWide_slice ht hok
  obtain ⟨fuel, hf⟩ := h
  rcases open_ints ht he hce hf with ⟨hcs, _⟩ | ⟨x, l, c, zs, hcs, _, hl, hm, hz, _, hcell, hwz⟩
  · simp [Value.cells] at hcs
    obtain ⟨rfl, rfl, rfl⟩ := hcs
    exact ⟨none, [], 0, rfl, Nat.le_refl _, .inl rfl⟩
  · simp [Value.cells] at hcs
    obtain ⟨rfl, rfl, rfl⟩ := hcs
    simp only [if_true] at hz
    have hlen : ((zs.take len0).map fun n => UInt8.ofNat n.toNat).length = len0 := by simp; omega
    refine ⟨some x, (zs.take len0).map fun n => UInt8.ofNat n.toNat, cap0, by rw [hlen], by omega, ?_⟩
    by_cases h0 : len0 = 0
    · subst h0; exact .inl (by simp)
    · obtain ⟨b, o, rfl, hc⟩ := ints_at hcell (by omega)
      have hb : b < W.heap.size := World.block_lt_of_cell? W ⟨b, o + 0, none⟩ (hc 0 (by omega))
      refine .inr ⟨b, o, rfl, hb, fun i c hi => ?_⟩
      rw [List.getElem?_map, List.getElem?_take] at hi
      split at hi
      · rename_i hlt
        have hzi : i < zs.length := by omega
        rw [List.getElem?_eq_getElem hzi] at hi
        simp only [Option.map_some, Option.some.injEq] at hi
        subst hi
        rw [hc i hzi]
        have hb8 := bounds_u8 (hwz _ (List.getElem_mem hzi))
        simp only [List.getD, List.getElem?_eq_getElem hzi, Option.getD_some]
        congr 2
        simp
        omega
      · simp at hi
/-- A []byte argument's room has a number. -/
theorem bytes_max {H : Type} {enc : TypeId × Value → H} {P : Program} {t e : TypeId} (ht : P.underlying t = some (.slice e)) (he : P.underlying e = some (.int .u8)) (hce : P.cellsOf e = 1) {W : World} {A : Option Addr} {n cap : Nat} {d : DataW H} {p : List MemPlace}
    (h : DataW.Trod enc P W 0 (fun _ => true) true t (.slice A n cap) d p) : cap ≤ 9223372036854775807 := by
  obtain ⟨fuel, hf⟩ := h
  rcases open_ints ht he hce hf with ⟨hcs, _⟩ | ⟨x, l, c, zs, hcs, _, hl, hm, _⟩
  · simp [Value.cells] at hcs
    obtain ⟨rfl, rfl, rfl⟩ := hcs
    omega
  · simp [Value.cells] at hcs
    obtain ⟨rfl, rfl, rfl⟩ := hcs
    exact hm
end Go.Gar
namespace Go.Proofs.Ytjapohddfelgkaa
theorem own : ownKnob Try.prog.godebug = none := by kernel_rfl
theorem laid : laidOutB Try.prog = true := by kernel_rfl
end Go.Proofs.Ytjapohddfelgkaa
namespace Go.Proofs.Ytjapohddfelgkaa
open Go.RowKit Go.Gar

theorem good_lit_eq {t : Lz.Tok} {ln : Nat} (h : t.lit.length = ln) (h0 : 0 < ln) : Lz.good t = (decide (ln ≤ 128) && (decide (t.len = 0) && decide (t.dist = 0))) := by
  unfold Lz.good
  rw [if_neg (fun e => by rw [e] at h; simp at h; omega), h]
  by_cases h1 : ln ≤ 128 <;> by_cases h2 : t.len = 0 <;> by_cases h3 : t.dist = 0 <;> simp [h1, h2, h3] <;> omega
theorem good_mat_eq {t : Lz.Tok} (h : t.lit.length = 0) : Lz.good t = (decide (3 ≤ t.len) && (decide (t.len ≤ 130) && (decide (1 ≤ t.dist) && decide (t.dist ≤ 4096)))) := by
  unfold Lz.good
  rw [if_pos (List.eq_nil_of_length_eq_zero h)]
  by_cases h1 : 3 ≤ t.len <;> by_cases h2 : t.len ≤ 130 <;> by_cases h3 : 1 ≤ t.dist <;> by_cases h4 : t.dist ≤ 4096 <;> simp [h1, h2, h3, h4] <;> omega

set_option maxHeartbeats 1000000 in
theorem lzGood_any (t : Tv) (w : World) (z : Bool) (hz : z = Lz.good t.tok) :
    Calls Try.prog 21 #[.agg t.cells.toArray] w fun e w' => e = .returned (.bool z) ∧ Below w.heap.size w w' := by
  rcases t with ⟨A, l, c, n, d⟩
  unfold Tv.cells
  simp only
  obtain ⟨ln, hln⟩ : ∃ ln, l.length = ln := ⟨_, rfl⟩
  rw [hln]
  have hb := below_alloc w (.cells #[.slice A ln c, .int .i64 n, .int .i64 d] 41)
  have Hb := Lib.hid hb
  by_cases h0 : 0 < ln
  · rw [good_lit_eq (t := (⟨A, l, c, n, d⟩ : Tv).tok) hln h0] at hz
    simp only [Tv.tok] at hz
    have d0 : decide ((0 : Int) < (ln : Int)) = true := by simp; omega
    by_cases h1 : ln ≤ 128
    · have d1 : decide ((ln : Int) ≤ 128) = true := by simp; omega
      by_cases h2 : n = 0
      · subst h2
        by_cases h3 : d = 0
        · subst h3
          have HZ := Lib.hid (show z = true by rw [hz]; simp [h1])
          clear hz hb hln
          go_enter Try.func21, Try.ntmps21
          go_wp2
          go_ret
          exact ⟨by rw [HZ.out]; rfl, Hb.out⟩
        · have d3 : (d == 0) = false := by simp [h3]
          have HZ := Lib.hid (show z = false by rw [hz]; simp [h3])
          clear hz hb hln
          go_enter Try.func21, Try.ntmps21
          go_wp2
          go_ret
          exact ⟨by rw [HZ.out]; rfl, Hb.out⟩
      · have d2 : (n == 0) = false := by simp [h2]
        have HZ := Lib.hid (show z = false by rw [hz]; simp [h2])
        clear hz hb hln
        go_enter Try.func21, Try.ntmps21
        go_wp2
        go_ret
        exact ⟨by rw [HZ.out]; rfl, Hb.out⟩
    · have d1 : decide ((ln : Int) ≤ 128) = false := by simp; omega
      have HZ := Lib.hid (show z = false by rw [hz]; simp [h1])
      clear hz hb hln
      go_enter Try.func21, Try.ntmps21
      go_wp2
      go_ret
      exact ⟨by rw [HZ.out]; rfl, Hb.out⟩
  · obtain rfl : ln = 0 := by omega
    rw [good_mat_eq (t := (⟨A, l, c, n, d⟩ : Tv).tok) hln] at hz
    simp only [Tv.tok] at hz
    by_cases h1 : 3 ≤ n
    · have d1 : decide (3 ≤ n) = true := by simp [h1]
      by_cases h2 : n ≤ 130
      · have d2 : decide (n ≤ 130) = true := by simp [h2]
        by_cases h3 : 1 ≤ d
        · have d3 : decide (1 ≤ d) = true := by simp [h3]
          by_cases h4 : d ≤ 4096
          · have d4 : decide (d ≤ 4096) = true := by simp [h4]
            have HZ := Lib.hid (show z = true by rw [hz]; simp [h1, h2, h3, h4])
            clear hz hb hln
            go_enter Try.func21, Try.ntmps21
            go_wp2
            go_ret
            exact ⟨by rw [HZ.out]; rfl, Hb.out⟩
          · have d4 : decide (d ≤ 4096) = false := by simp [h4]
            have HZ := Lib.hid (show z = false by rw [hz]; simp [h4])
            clear hz hb hln
            go_enter Try.func21, Try.ntmps21
            go_wp2
            go_ret
            exact ⟨by rw [HZ.out]; rfl, Hb.out⟩
        · have d3 : decide (1 ≤ d) = false := by simp [h3]
          have HZ := Lib.hid (show z = false by rw [hz]; simp [h3])
          clear hz hb hln
          go_enter Try.func21, Try.ntmps21
          go_wp2
          go_ret
          exact ⟨by rw [HZ.out]; rfl, Hb.out⟩
      · have d2 : decide (n ≤ 130) = false := by simp [h2]
        have HZ := Lib.hid (show z = false by rw [hz]; simp [h2])
        clear hz hb hln
        go_enter Try.func21, Try.ntmps21
        go_wp2
        go_ret
        exact ⟨by rw [HZ.out]; rfl, Hb.out⟩
    · have d1 : decide (3 ≤ n) = false := by simp [h1]
      have HZ := Lib.hid (show z = false by rw [hz]; simp [h1])
      clear hz hb hln
      go_enter Try.func21, Try.ntmps21
      go_wp2
      go_ret
      exact ⟨by rw [HZ.out]; rfl, Hb.out⟩
end Go.Proofs.Ytjapohddfelgkaa
namespace Go.Proofs.Ytjapohddfelgkaa
open Go.RowKit Go.Gar

theorem slice_from (g o n c k : Nat) (h : k ≤ n) (h3 : k < c) (W : World) :
    (Instr.sliceAt 22 (.slice (some ⟨g, o, none⟩) n c) (some (.int .i64 (k : Int))) none none).run Try.prog W = .ok (.slice (some ⟨g, o + k, none⟩) (n - k) (c - k)) W := by
  obtain ⟨i, hi, hs⟩ := Option.map_eq_some_iff.1 Try.size5
  have h1 : (k : Int) ≤ (n : Int) := by omega
  have h5 : ¬ c = k := by omega
  simp [Instr.sliceAt, Instr.sliceBounds, Instr.sureAddr, run_underlying Try.und22 W, sizeOf, typeInfo, hi, hs, go_sem, h1, h5, Addr.add_lit]
theorem slice_upto (g o n c k : Nat) (h2 : k ≤ c) (W : World) :
    (Instr.sliceAt 22 (.slice (some ⟨g, o, none⟩) n c) none (some (.int .i64 (k : Int))) none).run Try.prog W = .ok (.slice (some ⟨g, o, none⟩) k c) W := by
  obtain ⟨i, hi, hs⟩ := Option.map_eq_some_iff.1 Try.size5
  have h4 : (k : Int) ≤ (c : Int) := by omega
  simp [Instr.sliceAt, Instr.sliceBounds, Instr.sureAddr, run_underlying Try.und22 W, sizeOf, typeInfo, hi, hs, go_sem, h4]

end Go.Proofs.Ytjapohddfelgkaa
namespace Go.Gar.Lz
/-- The token that bytes begin with, and the bytes behind it; or the zero token. -/
def fst1 : List UInt8 → Tok × List UInt8
  | [] => (⟨[], 0, 0⟩, [])
  | c :: r => if c.toNat < 128 then (if c.toNat < r.length then (⟨r.take (c.toNat + 1), 0, 0⟩, r.drop (c.toNat + 1)) else (⟨[], 0, 0⟩, []))
    else if 2 ≤ r.length then (⟨[], (c.toNat : Int) - 125, ((256 * (r.getD 0 0).toNat + (r.getD 1 0).toNat + 1 : Nat) : Int)⟩, r.drop 2) else (⟨[], 0, 0⟩, [])
theorem good_zero : good ⟨[], 0, 0⟩ = false := by decide
theorem good_far {n d : Int} (h : 4096 < d) : good ⟨[], n, d⟩ = false := by
  cases hg : good ⟨[], n, d⟩ with
  | false => rfl
  | true => have := (good_len hg).2.2.2.1; simp only at this; omega
theorem more_fst1 {b : List UInt8} (h : 0 < b.length) (out : List Tok) : more b out = if good (fst1 b).1 = false then (12, []) else more (fst1 b).2 (out ++ [(fst1 b).1]) := by
  match b, h with
  | c :: r, _ =>
    by_cases hc : c.toNat < 128
    · rw [more_lit _ _ _ (by omega), fst1, if_pos hc]
      by_cases hr : c.toNat < r.length
      · rw [if_neg (by omega), if_pos hr]
        have hl : (r.take (c.toNat + 1)).length = c.toNat + 1 := by rw [List.length_take]; omega
        have hg := good_lit (l := r.take (c.toNat + 1)) (fun e => by rw [e] at hl; simp at hl) (by omega)
        rw [if_neg (by simp only [hg]; simp)]
      · rw [if_pos (by omega), if_neg hr, if_pos good_zero]
    · rw [more_long _ _ _ (by omega), fst1, if_neg hc]
      by_cases hr : 2 ≤ r.length
      · rw [if_neg (by omega), if_pos hr]
        by_cases hd : 4096 < 256 * (r.getD 0 0).toNat + (r.getD 1 0).toNat + 1
        · rw [if_pos hd, if_pos (good_far (by omega))]
        · rw [if_neg hd]
          have hc8 := c.toNat_lt
          have hcn : (c.toNat : Int) - 125 = ((c.toNat - 125 : Nat) : Int) := by omega
          have hg := good_match (n := c.toNat - 125) (d := 256 * (r.getD 0 0).toNat + (r.getD 1 0).toNat + 1) (by omega) (by omega) (by omega) (by omega)
          rw [← hcn] at hg
          rw [if_neg (by simp only [hg]; simp)]
      · rw [if_pos (by omega), if_neg hr, if_pos good_zero]
theorem fst1_len {b : List UInt8} (h : 0 < b.length) : (fst1 b).2.length < b.length := by
  match b, h with
  | c :: r, _ =>
    rw [fst1, List.length_cons]
    split
    · split
      · rw [List.length_drop]; omega
      · simp
    · split
      · rw [List.length_drop]; omega
      · simp
end Go.Gar.Lz
namespace Go.Proofs.Ytjapohddfelgkaa
open Go.RowKit Go.Gar

/-- A cut from a place on, also at the very end. -/
theorem slice_tail {W0 : World} {B : Nat} {A : Option Addr} {b : List UInt8} (n c k : Nat) (hn : n = b.length) (hr : Rd W0 B A b) (h0 : 0 < n) (hk : k ≤ n) (hc : n ≤ c) :
    ∃ A', (∀ W, (Instr.sliceAt 22 (.slice A n c) (some (.int .i64 (k : Int))) none none).run Try.prog W = .ok (.slice A' (n - k) (c - k)) W) ∧ ∀ (V : World) (C : Nat), Rd V C A b → Rd V C A' (b.drop k) := by
  rcases hr with h | ⟨g, o, rfl, hg, hcl⟩
  · rw [hn, h] at h0; simp at h0
  · by_cases hkc : k < c
    · refine ⟨_, fun W => slice_from g o n c k hk hkc W, fun V C hV => ?_⟩
      rcases hV with h | ⟨g', o', e, hg, hcl⟩
      · rw [hn, h] at h0; simp at h0
      · obtain ⟨rfl, rfl⟩ : g = g' ∧ o = o' := by simpa using e
        refine .inr ⟨g, o + k, rfl, hg, fun i x hx => ?_⟩
        rw [List.getElem?_drop] at hx
        rw [Nat.add_assoc]
        exact hcl _ x hx
    · obtain rfl : k = c := by omega
      obtain rfl : k = n := by omega
      refine ⟨some ⟨g, o, none⟩, fun W => ?_, fun _ _ _ => .inl (List.drop_eq_nil_of_le (by omega))⟩
      obtain ⟨i, hi, hs⟩ := Option.map_eq_some_iff.1 Try.size5
      simp [Instr.sliceAt, Instr.sliceBounds, Instr.sureAddr, run_underlying Try.und22 W, sizeOf, typeInfo, hi, hs, go_sem]

set_option maxHeartbeats 1000000 in
theorem cloneT_any (w : World) (A : Option Addr) (b : List UInt8) (n c : Nat) (hn : n = b.length) (h0 : 0 < n) (hl : n ≤ 1048576) (hr : Rd w w.heap.size A b) :
    Calls Try.prog 28 #[.slice A n c] w fun e w' => ∃ g cp rest, e = .returned (.slice (some ⟨g, 0, none⟩) n cp) ∧ n ≤ cp ∧ w.heap.size ≤ g ∧ Blk w' g 5 (u8s b ++ rest) ∧ Below w.heap.size w w' := by
  have hne : ∃ p, A = some p := by
    rcases hr with h | ⟨g, o, e, _⟩
    · rw [hn, h] at h0; exact absurd h0 (by simp)
    · exact ⟨_, e⟩
  obtain ⟨p, rfl⟩ := hne
  have hO := own_made w w.heap.size 5 (Nat.le_refl _)
  have hb0 := below_alloc w (.cells #[] 5)
  obtain ⟨v1, w1, e1, ho1, hb1, _⟩ := app_rd (P := Try.prog) 22 22 Try.und22 Try.info5 hO (by rw [World.size_alloc]; omega) c (hr.below hb0) (by simp; omega)
  rw [List.nil_append] at ho1
  rw [← hn] at e1
  obtain ⟨g, cp, rest, rfl, hg, hcp, hB⟩ := ho1.blk (by omega)
  rw [← hn] at hcp e1
  have Hb1 := Lib.hid (hb0.trans hb1)
  have HB := Lib.hid hB
  have Hcp := Lib.hid hcp
  have Hg := Lib.hid hg
  have hq := run_eql_slice_nil (P := Try.prog) w 22 5 (some p) n c Try.und22
  rw [Option.isNone_some] at hq
  clear hO hb0 hb1 ho1 hg hcp hB hr hn
  go_enter Try.func28, Try.ntmps28
  go_wp2_with (at_builtin; refine wpList_append_run rfl (.tmp 5) (.tmp 6) _ rfl rfl rfl e1 ?_)
  go_ret
  exact ⟨g, cp, rest, rfl, Hcp.out, Hg.out, HB.out, Hb1.out⟩
end Go.Proofs.Ytjapohddfelgkaa
