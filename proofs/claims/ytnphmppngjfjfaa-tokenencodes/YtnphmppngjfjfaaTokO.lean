/-
  An argument of the type []api.Token, or api.Token.
-/
import Derived.Test.YtnphmppngjfjfaaLzC0
import Derived.Test.YtnphmppngjfjfaaLaw
import Derived.Test.YtnphmppngjfjfaaOwn
set_option maxRecDepth 100000
namespace Go.Gar
open Go.ChangeShapes Go.WideShapes Go.ChangeAt Go.RowKit

/-- The cells of a []byte: they read as bytes. -/
theorem open_bytes_cs {H : Type} {enc : TypeId × Value → H} {P : Program} {t e : TypeId} (ht : P.underlying t = some (.slice e)) (he : P.underlying e = some (.int .u8)) (hce : P.cellsOf e = 1) {W : World} {f : Nat} {cs : List Value} {x : DataW H × List MemPlace}
    (hf : DataW.trod enc P W 0 (fun _ => true) true f t cs = some x) : ∃ A l cap, cs = [.slice A l.length cap] ∧ l.length ≤ cap ∧ Rd W W.heap.size A l := by
  rcases open_ints ht he hce hf with ⟨hcs, _⟩ | ⟨y, l, c, zs, hcs, _, hl, hm, hz, _, hcell, hwz⟩
  · exact ⟨none, [], 0, hcs, Nat.le_refl _, .inl rfl⟩
  · simp only [if_true] at hz
    have hlen : ((zs.take l).map fun n => UInt8.ofNat n.toNat).length = l := by simp; omega
    refine ⟨some y, (zs.take l).map fun n => UInt8.ofNat n.toNat, c, by rw [hlen]; exact hcs, by omega, ?_⟩
    by_cases h0 : l = 0
    · subst h0; exact .inl (by simp)
    · obtain ⟨b, o, rfl, hc⟩ := ints_at hcell (by omega)
      have hb : b < W.heap.size := World.block_lt_of_cell? W ⟨b, o + 0, none⟩ (hc 0 (by omega))
      refine .inr ⟨b, o, rfl, hb, fun i c hi => ?_⟩
      rw [List.getElem?_map, List.getElem?_take] at hi
      split at hi
      · rename_i hlt
        have hzi : i < zs.length := by omega
        rw [List.getElem?_eq_getElem hzi] at hi
        simp only [Option.map_some, Option.some.injEq] at hi
        subst hi
        rw [hc i hzi]
        have hb8 := bounds_u8 (hwz _ (List.getElem_mem hzi))
        simp only [List.getD, List.getElem?_eq_getElem hzi, Option.getD_some]
        congr 2
        simp
        omega
      · simp at hi
end Go.Gar
namespace Go.Proofs.Ytnphmppngjfjfaa
open Go.ChangeShapes Go.WideShapes Go.ChangeAt Go.WideMaps Go.WideElems Go.RowKit Go.Gar

theorem Try.cellsTok : Try.prog.cellsOf 41 = 3 := by kernel_rfl
theorem Try.cellsSl1 : Try.prog.cellsOf 23 = 1 := by kernel_rfl
theorem Try.cellsIn1 : Try.prog.cellsOf 3 = 1 := by kernel_rfl
theorem Try.cellsB1 : Try.prog.cellsOf 5 = 1 := by kernel_rfl
theorem Try.undTokF : (Try.prog.fieldsOf 41).toList.map (fun f => (f.type, f.offset)) = [(23, 0), (3, 1), (3, 2)] := by kernel_rfl
/-- The cells of a token. -/
theorem open_tok_cs {H : Type} {enc : TypeId × Value → H} {W : World} {f : Nat} {cs : List Value} {x : DataW H × List MemPlace} (hf : DataW.trod enc Try.prog W 0 (fun _ => true) true f 41 cs = some x) :
    ∃ t : Tv, cs = t.cells ∧ Rd W W.heap.size t.A t.l ∧ t.l.length ≤ t.c ∧ isI64 t.n ∧ isI64 t.d := by
  obtain ⟨xs, m, _, _, hl, hlen, hall⟩ := DataW.trod_struct Try.undTok hf
  rw [Try.cellsTok] at hl
  have fk := Try.undTokF
  generalize hfs : (Try.prog.fieldsOf 41).toList = fs at fk
  match fs, fk with
  | [f0, f1, f2], fk =>
    simp only [List.map_cons, List.map_nil, List.cons.injEq, Prod.mk.injEq, and_true] at fk
    obtain ⟨⟨t0, o0⟩, ⟨t1, o1⟩, t2, o2⟩ := fk
    have g0 : (Try.prog.fieldsOf 41)[0]? = some f0 := by rw [← Array.getElem?_toList, hfs]; rfl
    have g1 : (Try.prog.fieldsOf 41)[1]? = some f1 := by rw [← Array.getElem?_toList, hfs]; rfl
    have g2 : (Try.prog.fieldsOf 41)[2]? = some f2 := by rw [← Array.getElem?_toList, hfs]; rfl
    have hxs : xs.length = 3 := by rw [hlen, ← Array.length_toList, hfs]; rfl
    have h0 := hall 0 f0 g0
    have h1 := hall 1 f1 g1
    have h2 := hall 2 f2 g2
    rw [t0, o0, Try.cellsSl1, List.getElem?_eq_getElem (by omega)] at h0
    rw [t1, o1, Try.cellsIn1, List.getElem?_eq_getElem (by omega)] at h1
    rw [t2, o2, Try.cellsIn1, List.getElem?_eq_getElem (by omega)] at h2
    obtain ⟨A, l, c, e0, hlc, hr⟩ := open_bytes_cs Try.und22 Try.und5 Try.cellsB1 h0
    obtain ⟨n, e1, _, w1⟩ := DataW.trod_int Try.underlying3 h1
    obtain ⟨d, e2, _, w2⟩ := DataW.trod_int Try.underlying3 h2
    match cs, hl with
    | [u0, u1, u2], _ =>
      simp only [List.drop_zero, List.take_succ_cons, List.take_zero, List.drop_succ_cons, List.cons.injEq, and_true] at e0 e1 e2
      exact ⟨⟨A, l, c, n, d⟩, by rw [e0]; simp only [Tv.cells]; rw [show u1 = .int .i64 n by simpa using e1, show u2 = .int .i64 d by simpa using e2], hr, hlc, bounds_i64 w1, bounds_i64 w2⟩
theorem open_token {H : Type} {enc : TypeId × Value → H} {W : World} {base : Nat} {v : Value} {d : DataW H} {p : List MemPlace}
    (hok : Value.okWide Try.prog W .any base 41 v) (h : DataW.Trod enc Try.prog W 0 (fun _ => true) true 41 v d p) : ∃ t : Tv, v = .agg t.cells.toArray ∧ Rd W W.heap.size t.A t.l ∧ t.l.length ≤ t.c ∧ isI64 t.n ∧ isI64 t.d := by
  obtain ⟨cs, rfl, _⟩ := okWide_struct Try.undTok hok
  obtain ⟨fuel, hf⟩ := h
  obtain ⟨t, ht, h1⟩ := open_tok_cs hf
  have hcs : cs.toList = t.cells := ht
  exact ⟨t, by rw [← hcs], h1⟩
theorem cells3 {W : World} {a : Addr} {cs : List Value} (h : W.cells? 0 a 3 = some cs) : ∃ u0 u1 u2, cs = [u0, u1, u2] ∧ W.cell? (a.add 0) = some u0 ∧ W.cell? (a.add 1) = some u1 ∧ W.cell? (a.add 2) = some u2 := by
  unfold World.cells? at h
  rw [if_pos (Nat.zero_le _)] at h
  have hr : List.range 3 = [0, 1, 2] := rfl
  rw [hr] at h
  cases h0 : W.cell? (a.add 0) with
  | none => simp [List.mapM_cons, h0] at h
  | some u0 =>
    cases h1 : W.cell? (a.add 1) with
    | none => simp [List.mapM_cons, h0, h1] at h
    | some u1 =>
      cases h2 : W.cell? (a.add 2) with
      | none => simp [List.mapM_cons, h0, h1, h2] at h
      | some u2 =>
        simp [List.mapM_cons, h0, h1, h2] at h
        exact ⟨u0, u1, u2, h.symm, rfl, rfl, rfl⟩
theorem open_tokens {H : Type} {enc : TypeId × Value → H} {W : World} {base : Nat} {v : Value} {d : DataW H} {p : List MemPlace}
    (hok : Value.okWide Try.prog W .any base 22 v) (h : DataW.Trod enc Try.prog W 0 (fun _ => true) true 22 v d p) : ∃ A ts cap, v = .slice A (List.length (α := Tv) ts) cap ∧ ts.length ≤ cap ∧ RdT W W.heap.size A ts ∧ ∀ t ∈ ts, isI64 t.n ∧ isI64 t.d := by
  obtain ⟨a0, len0, cap0, rfl⟩ := okWide_slice Try.undToks hok
  obtain ⟨fuel, hf⟩ := h
  rcases DataW.trod_slice Try.undToks hf with ⟨hcs, _⟩ | ⟨a, len, cap, elems, rest, n, _, hcs, _, _, hl, hm, hlen, hel, _, _⟩
  · simp [Value.cells] at hcs
    obtain ⟨rfl, rfl, rfl⟩ := hcs
    exact ⟨none, [], 0, rfl, Nat.le_refl _, RdT.nil, fun _ h => by simp at h⟩
  · simp [Value.cells] at hcs
    obtain ⟨rfl, rfl, rfl⟩ := hcs
    rw [Try.cellsTok] at hel
    by_cases h0 : len0 = 0
    · subst h0
      exact ⟨some a, [], cap0, rfl, Nat.zero_le _, RdT.nil, fun _ h => by simp at h⟩
    · have hspot : ∃ b o, a = ⟨b, o, none⟩ := by
        have h1 := hel 0 (by omega)
        rw [List.getElem?_eq_getElem (by omega), Option.bind_eq_some_iff] at h1
        obtain ⟨cs, hc, _⟩ := h1
        obtain ⟨u0, _, _, _, hu, _⟩ := cells3 hc
        obtain ⟨b, o, spot⟩ := a
        have hs : spot = none := by simpa [Addr.add] using World.cell?_spot hu
        exact ⟨b, o, by rw [hs]⟩
      obtain ⟨b, o, rfl⟩ := hspot
      have key : ∀ i, i < len0 → ∃ t : Tv, (∀ j u, t.cells[j]? = some u → W.cell? ⟨b, o + (3 * i + j), none⟩ = some u) ∧ Rd W W.heap.size t.A t.l ∧ t.l.length ≤ t.c ∧ isI64 t.n ∧ isI64 t.d := by
        intro i hi
        have h1 := hel i hi
        rw [List.getElem?_eq_getElem (by omega), Option.bind_eq_some_iff] at h1
        obtain ⟨cs, hc, hx⟩ := h1
        obtain ⟨t, rfl, h2⟩ := open_tok_cs hx
        obtain ⟨u0, u1, u2, hu, q0, q1, q2⟩ := cells3 hc
        refine ⟨t, fun j u hj => ?_, h2⟩
        rw [hu] at hj
        rw [Addr.add_lit] at q0 q1 q2
        rw [Addr.add_lit] at q0 q1 q2
        match j, hj with
        | 0, hj =>
          obtain rfl : u0 = u := by simpa using hj
          rw [show o + (3 * i + 0) = o + i * 3 + 0 by omega]; exact q0
        | 1, hj =>
          obtain rfl : u1 = u := by simpa using hj
          rw [show o + (3 * i + 1) = o + i * 3 + 1 by omega]; exact q1
        | 2, hj =>
          obtain rfl : u2 = u := by simpa using hj
          rw [show o + (3 * i + 2) = o + i * 3 + 2 by omega]; exact q2
      have all : ∀ m, m ≤ len0 → ∃ ts : List Tv, ts.length = m ∧ (∀ i t, ts[i]? = some t → (∀ j u, t.cells[j]? = some u → W.cell? ⟨b, o + (3 * i + j), none⟩ = some u) ∧ Rd W W.heap.size t.A t.l ∧ t.l.length ≤ t.c ∧ isI64 t.n ∧ isI64 t.d) := by
        intro m
        induction m with
        | zero => exact fun _ => ⟨[], rfl, fun i t h => by simp at h⟩
        | succ m ih =>
          intro hm
          obtain ⟨ts, hl1, ht1⟩ := ih (by omega)
          obtain ⟨t, ht⟩ := key m (by omega)
          refine ⟨ts ++ [t], by rw [List.length_append, hl1]; rfl, fun i s hs => ?_⟩
          rcases Nat.lt_or_ge i ts.length with hlt | hge
          · rw [List.getElem?_append_left hlt] at hs
            exact ht1 i s hs
          · have hi : i = m := by
              have := (List.getElem?_eq_some_iff.1 hs).1
              rw [List.length_append, List.length_singleton] at this
              omega
            subst hi
            rw [List.getElem?_append_right hge, hl1, Nat.sub_self] at hs
            obtain rfl : t = s := by simpa using hs
            exact ht
      obtain ⟨ts, htl, htt⟩ := all len0 (Nat.le_refl _)
      have hb : b < W.heap.size := by
        obtain ⟨t, ht, _⟩ := key 0 (by omega)
        exact World.block_lt_of_cell? W ⟨b, o + (3 * 0 + 0), none⟩ (ht 0 _ rfl)
      refine ⟨some ⟨b, o, none⟩, ts, cap0, by rw [htl], by omega, ⟨.inr ⟨b, o, rfl, hb, fun i u hi => ?_⟩, fun t ht => ?_⟩, fun t ht => ?_⟩
      · have hlt : i < ts.length * 3 := by have := (List.getElem?_eq_some_iff.1 hi).1; rw [cellsT_len] at this; exact this
        have hq : i / 3 < ts.length := by omega
        have h1 := htt (i / 3) ts[i / 3] (List.getElem?_eq_getElem hq)
        have h2 := cellsT_get ts (i / 3) ts[i / 3] (List.getElem?_eq_getElem hq) (i % 3) (Nat.mod_lt _ (by omega))
        rw [show 3 * (i / 3) + i % 3 = i by omega, hi] at h2
        have h3 := h1.1 (i % 3) u h2.symm
        rw [show 3 * (i / 3) + i % 3 = i by omega] at h3
        exact h3
      · obtain ⟨i, hi⟩ := List.getElem?_of_mem ht
        exact ⟨(htt i t hi).2.1, (htt i t hi).2.2.1⟩
      · obtain ⟨i, hi⟩ := List.getElem?_of_mem ht
        exact (htt i t hi).2.2.2
end Go.Proofs.Ytnphmppngjfjfaa
