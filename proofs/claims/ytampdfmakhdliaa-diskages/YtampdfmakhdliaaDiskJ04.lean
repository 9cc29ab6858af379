/-
  How a law's row is closed: a call that returned true and left every old block alone meets the row's demand, whatever its parameters' types. No program's text. Two closed facts on the translated program that every row asks. An argument of the type []Deed, or Deed: structs of five numbers. Layer 14: sectors of one byte; the bytes of a deed. Layer 14: a disk behind any deeds (some).
-/
import Derived.WalkKit
import Derived.ProofKit
import Derived.OpenShut
import Derived.ShutString
import Derived.Carry
import Derived.Test.YtampdfmakhdliaaDiskJ02
import Derived.Test.YtampdfmakhdliaaRows
import Derived.Test.YtampdfmakhdliaaDiskJ03
set_option maxRecDepth 100000
namespace Go.Gar
open Go.ChangeShapes Go.WideShapes Go.ChangeAt Go.RowKit

theorem trodAll_below {H : Type} {enc : TypeId × Value → H} {P : Program} (hl : laidOutB P = true) {W W' : World} (hb : Below W.heap.size W W') :
    ∀ (ts : List TypeId) (vs : List Value) (ds : List (DataW H)) (ps : List MemPlace), (∀ t ∈ ts, P.readableRec t = true ∧ t < P.types.size) →
      DataW.TrodAll enc P W 0 (fun _ => true) true ts vs ds ps → (∀ x ∈ ps, x.block < W.heap.size) → DataW.TrodAll enc P W' 0 (fun b => decide (b < W.heap.size)) true ts vs ds ps
  | [], vs, ds, ps, _, h, _ => by
    obtain ⟨rfl, rfl, rfl⟩ := trodAll_nil h
    exact trodAll_mk0
  | t :: ts, vs, ds, ps, ht, h, hp => by
    obtain ⟨v, vs', d, ds', p, q, rfl, rfl, rfl, h0, r0⟩ := trodAll_cons h
    have h1 := (ht t (by simp))
    exact trodAll_cons_mk (Below.trod hl h1.1 h1.2 h0 hb (fun x hx => hp x (by simp [hx]))) (trodAll_below hl hb ts vs' ds' q (fun u hu => ht u (by simp [hu])) r0 (fun x hx => hp x (by simp [hx])))

/-- The demand of a law's row. -/
theorem law_post {H : Type} {enc : TypeId × Value → H} {P : Program} {f : Func} {s : ChangeSpec} {W W' : World} {args : Array Value} {ds : List (DataW H)} {before : List MemPlace} {tb : TypeId} (hl : laidOutB P = true)
    (ht : f.params.toList.all (fun t => P.readableRec t && decide (t < P.types.size)) = true) (hvars : s.vars = []) (hres : f.resultTypes = #[tb]) (htb : P.underlying tb = some .bool)
    (hW : DataW.Whole enc P f.params.toList s.vars false W args.toList ds [] before) (hfn : s.fn H (ds ++ []) = { results := [.lit (.bool true)], args := ds }) (hb : Below W.heap.size W W') :
    s.post enc P f false true false false W args (.bool true) W' := by
  have hlt : ∀ p ∈ before, p.block < W.heap.size := fun p hp => hW.lt p hp
  have hW' := hW
  obtain ⟨p, q, hA, hV, rfl, _, _⟩ := hW
  rw [hvars] at hV
  obtain ⟨_, rfl⟩ := trodVars_none hV
  refine ⟨ds, [], p ++ [], [], p, [], hW', ?_, ?_, ?_, hb.frame _, fun h => by cases h⟩
  · rw [hfn, hres]
    exact trodAll_cons_mk (shut_bool htb true) trodAll_mk0
  · rw [hfn]
    refine trodAll_below hl hb _ _ _ _ (fun t h => ?_) hA (fun x hx => hlt x (by simp [hx]))
    have := List.all_eq_true.1 ht t h
    simpa using this
  · rw [hfn, hvars]
    rfl

/-- A []byte argument: it reads as bytes. -/
theorem open_bytes {H : Type} {enc : TypeId × Value → H} {P : Program} {t e : TypeId} (ht : P.underlying t = some (.slice e)) (he : P.underlying e = some (.int .u8)) (hce : P.cellsOf e = 1) {W : World} {base : Nat} {v : Value} {d : DataW H} {p : List MemPlace}
    (hok : Value.okWide P W .any base t v) (h : DataW.Trod enc P W 0 (fun _ => true) true t v d p) : ∃ A l cap, v = .slice A l.length cap ∧ l.length ≤ cap ∧ Rd W W.heap.size A l := by
  obtain ⟨a0, len0, cap0, rfl⟩ := okWide_slice ht hok
  obtain ⟨fuel, hf⟩ := h
  rcases open_ints ht he hce hf with ⟨hcs, _⟩ | ⟨x, l, c, zs, hcs, _, hl, hm, hz, _, hcell, hwz⟩
  · simp [Value.cells] at hcs
    obtain ⟨rfl, rfl, rfl⟩ := hcs
    exact ⟨none, [], 0, rfl, Nat.le_refl _, .inl rfl⟩
  · simp [Value.cells] at hcs
    obtain ⟨rfl, rfl, rfl⟩ := hcs
    simp only [if_true] at hz
    have hlen : ((zs.take len0).map fun n => UInt8.ofNat n.toNat).length = len0 := by simp; omega
    refine ⟨some x, (zs.take len0).map fun n => UInt8.ofNat n.toNat, cap0, by rw [hlen], by omega, ?_⟩
    by_cases h0 : len0 = 0
    · subst h0; exact .inl (by simp)
    · obtain ⟨b, o, rfl, hc⟩ := ints_at hcell (by omega)
      have hb : b < W.heap.size := World.block_lt_of_cell? W ⟨b, o + 0, none⟩ (hc 0 (by omega))
      refine .inr ⟨b, o, rfl, hb, fun i c hi => ?_⟩
      rw [List.getElem?_map, List.getElem?_take] at hi
      split at hi
      · rename_i hlt
        have hzi : i < zs.length := by omega
        rw [List.getElem?_eq_getElem hzi] at hi
        simp only [Option.map_some, Option.some.injEq] at hi
        subst hi
        rw [hc i hzi]
        have hb8 := bounds_u8 (hwz _ (List.getElem_mem hzi))
        simp only [List.getD, List.getElem?_eq_getElem hzi, Option.getD_some]
        congr 2
        simp
        omega
      · simp at hi
/-- A []byte argument's room has a number. -/
theorem bytes_max {H : Type} {enc : TypeId × Value → H} {P : Program} {t e : TypeId} (ht : P.underlying t = some (.slice e)) (he : P.underlying e = some (.int .u8)) (hce : P.cellsOf e = 1) {W : World} {A : Option Addr} {n cap : Nat} {d : DataW H} {p : List MemPlace}
    (h : DataW.Trod enc P W 0 (fun _ => true) true t (.slice A n cap) d p) : cap ≤ 9223372036854775807 := by
  obtain ⟨fuel, hf⟩ := h
  rcases open_ints ht he hce hf with ⟨hcs, _⟩ | ⟨x, l, c, zs, hcs, _, hl, hm, _⟩
  · simp [Value.cells] at hcs
    obtain ⟨rfl, rfl, rfl⟩ := hcs
    omega
  · simp [Value.cells] at hcs
    obtain ⟨rfl, rfl, rfl⟩ := hcs
    exact hm
end Go.Gar
namespace Go.Proofs.Ytampdfmakhdliaa
theorem own : ownKnob Try.prog.godebug = none := by kernel_rfl
theorem laid : laidOutB Try.prog = true := by kernel_rfl
end Go.Proofs.Ytampdfmakhdliaa
namespace Go.Proofs.Ytampdfmakhdliaa
open Go.ChangeShapes Go.WideShapes Go.ChangeAt Go.WideMaps Go.WideElems Go.RowKit Go.Gar

/-- A deed. -/
structure Deed where
  kind : UInt8
  at_ : Int
  c : UInt8
  n : Int
  keep : Int
def Deed.cells (d : Deed) : List Value := [.int .u8 (d.kind.toNat : Int), .int .i64 d.at_, .int .u8 (d.c.toNat : Int), .int .i64 d.n, .int .i64 d.keep]
structure Deed.Is (d : Deed) : Prop where
  at_ : isI64 d.at_
  n : isI64 d.n
  keep : isI64 d.keep
/-- Deeds in memory. -/
def RdD (W : World) (B : Nat) (A : Option Addr) (ds : List Deed) : Prop :=
  ds = [] ∨ ∃ b o, A = some ⟨b, o, none⟩ ∧ b < B ∧ ∀ (i : Nat) (d : Deed), ds[i]? = some d → ∀ j u, d.cells[j]? = some u → W.cell? ⟨b, o + (5 * i + j), none⟩ = some u
theorem RdD.below {W W' : World} {B : Nat} {A : Option Addr} {ds : List Deed} (h : RdD W B A ds) (hb : Below B W W') : RdD W' B A ds := by
  rcases h with rfl | ⟨b, o, rfl, hB, hc⟩
  · exact .inl rfl
  · exact .inr ⟨b, o, rfl, hB, fun i d hi j u hj => (hb.cell (p := ⟨b, o + (5 * i + j), none⟩) hB).trans (hc i d hi j u hj)⟩
theorem Try.undDeeds : Try.prog.underlying 22 = some (.slice 34) := by kernel_rfl
theorem Try.undDeed : Try.prog.underlying 34 = some (.struct (Try.prog.fieldsOf 34)) := by kernel_rfl
theorem Try.cellsDeed : Try.prog.cellsOf 34 = 5 := by kernel_rfl
theorem Try.cellsDi : Try.prog.cellsOf 3 = 1 := by kernel_rfl
theorem Try.cellsDb : Try.prog.cellsOf 5 = 1 := by kernel_rfl
theorem Try.undD8 : Try.prog.underlying 5 = some (.int .u8) := by kernel_rfl
theorem Try.undDi : Try.prog.underlying 3 = some (.int .i64) := by kernel_rfl
theorem Try.fieldsDeed : (Try.prog.fieldsOf 34).toList.map (fun f => (f.type, f.offset)) = [(5, 0), (3, 1), (5, 2), (3, 3), (3, 4)] := by kernel_rfl
theorem byte_of {n : Int} (h : (Lit.int .u8 n).wf = true) : ∃ z : UInt8, n = (z.toNat : Int) := by
  have hb := bounds_u8 h
  refine ⟨UInt8.ofNat n.toNat, ?_⟩
  simp
  omega
/-- The cells of a deed. -/
theorem open_deed_cs {H : Type} {enc : TypeId × Value → H} {W : World} {f : Nat} {cs : List Value} {x : DataW H × List MemPlace} (hf : DataW.trod enc Try.prog W 0 (fun _ => true) true f 34 cs = some x) :
    ∃ d : Deed, cs = d.cells ∧ d.Is := by
  obtain ⟨xs, m, _, _, hl, hlen, hall⟩ := DataW.trod_struct Try.undDeed hf
  rw [Try.cellsDeed] at hl
  have fk := Try.fieldsDeed
  generalize hfs : (Try.prog.fieldsOf 34).toList = fs at fk
  match fs, fk with
  | [f0, f1, f2, f3, f4], fk =>
    simp only [List.map_cons, List.map_nil, List.cons.injEq, Prod.mk.injEq, and_true] at fk
    obtain ⟨⟨t0, o0⟩, ⟨t1, o1⟩, ⟨t2, o2⟩, ⟨t3, o3⟩, t4, o4⟩ := fk
    have g0 : (Try.prog.fieldsOf 34)[0]? = some f0 := by rw [← Array.getElem?_toList, hfs]; rfl
    have g1 : (Try.prog.fieldsOf 34)[1]? = some f1 := by rw [← Array.getElem?_toList, hfs]; rfl
    have g2 : (Try.prog.fieldsOf 34)[2]? = some f2 := by rw [← Array.getElem?_toList, hfs]; rfl
    have g3 : (Try.prog.fieldsOf 34)[3]? = some f3 := by rw [← Array.getElem?_toList, hfs]; rfl
    have g4 : (Try.prog.fieldsOf 34)[4]? = some f4 := by rw [← Array.getElem?_toList, hfs]; rfl
    have hxs : xs.length = 5 := by rw [hlen, ← Array.length_toList, hfs]; rfl
    have h0 := hall 0 f0 g0
    rw [t0, o0, Try.cellsDb, List.getElem?_eq_getElem (by omega)] at h0
    have h1 := hall 1 f1 g1
    rw [t1, o1, Try.cellsDi, List.getElem?_eq_getElem (by omega)] at h1
    have h2 := hall 2 f2 g2
    rw [t2, o2, Try.cellsDb, List.getElem?_eq_getElem (by omega)] at h2
    have h3 := hall 3 f3 g3
    rw [t3, o3, Try.cellsDi, List.getElem?_eq_getElem (by omega)] at h3
    have h4 := hall 4 f4 g4
    rw [t4, o4, Try.cellsDi, List.getElem?_eq_getElem (by omega)] at h4
    obtain ⟨n0, e0, _, w0⟩ := DataW.trod_int Try.undD8 h0
    obtain ⟨n1, e1, _, w1⟩ := DataW.trod_int Try.undDi h1
    obtain ⟨n2, e2, _, w2⟩ := DataW.trod_int Try.undD8 h2
    obtain ⟨n3, e3, _, w3⟩ := DataW.trod_int Try.undDi h3
    obtain ⟨n4, e4, _, w4⟩ := DataW.trod_int Try.undDi h4
    obtain ⟨z0, rfl⟩ := byte_of w0
    obtain ⟨z2, rfl⟩ := byte_of w2
    match cs, hl with
    | [u0, u1, u2, u3, u4], _ =>
      simp only [List.drop_zero, List.take_succ_cons, List.take_zero, List.drop_succ_cons, List.cons.injEq, and_true] at e0 e1 e2 e3 e4
      exact ⟨⟨z0, n1, z2, n3, n4⟩, by rw [e0, e1, e2, e3, e4]; rfl, bounds_i64 w1, bounds_i64 w3, bounds_i64 w4⟩
theorem open_deed {H : Type} {enc : TypeId × Value → H} {W : World} {base : Nat} {v : Value} {d : DataW H} {p : List MemPlace}
    (hok : Value.okWide Try.prog W .any base 34 v) (h : DataW.Trod enc Try.prog W 0 (fun _ => true) true 34 v d p) : ∃ t : Deed, v = .agg t.cells.toArray ∧ t.Is := by
  obtain ⟨cs, rfl, _⟩ := okWide_struct Try.undDeed hok
  obtain ⟨fuel, hf⟩ := h
  obtain ⟨t, ht, h1⟩ := open_deed_cs hf
  have hcs : cs.toList = t.cells := ht
  exact ⟨t, by rw [← hcs], h1⟩
theorem cells5 {W : World} {a : Addr} {cs : List Value} (h : W.cells? 0 a 5 = some cs) : ∃ u0 u1 u2 u3 u4, cs = [u0, u1, u2, u3, u4] ∧ W.cell? (a.add 0) = some u0 ∧ W.cell? (a.add 1) = some u1 ∧ W.cell? (a.add 2) = some u2 ∧ W.cell? (a.add 3) = some u3 ∧ W.cell? (a.add 4) = some u4 := by
  unfold World.cells? at h
  rw [if_pos (Nat.zero_le _)] at h
  have hr : List.range 5 = [0, 1, 2, 3, 4] := rfl
  rw [hr] at h
  cases h0 : W.cell? (a.add 0) with
  | none => simp [List.mapM_cons, h0] at h
  | some u0 =>
    cases h1 : W.cell? (a.add 1) with
    | none => simp [List.mapM_cons, h0, h1] at h
    | some u1 =>
      cases h2 : W.cell? (a.add 2) with
      | none => simp [List.mapM_cons, h0, h1, h2] at h
      | some u2 =>
        cases h3 : W.cell? (a.add 3) with
        | none => simp [List.mapM_cons, h0, h1, h2, h3] at h
        | some u3 =>
          cases h4 : W.cell? (a.add 4) with
          | none => simp [List.mapM_cons, h0, h1, h2, h3, h4] at h
          | some u4 =>
            simp [List.mapM_cons, h0, h1, h2, h3, h4] at h
            exact ⟨u0, u1, u2, u3, u4, h.symm, rfl, rfl, rfl, rfl, rfl⟩
theorem open_deeds {H : Type} {enc : TypeId × Value → H} {W : World} {base : Nat} {v : Value} {d : DataW H} {p : List MemPlace}
    (hok : Value.okWide Try.prog W .any base 22 v) (h : DataW.Trod enc Try.prog W 0 (fun _ => true) true 22 v d p) : ∃ A ds cap, v = .slice A (List.length (α := Deed) ds) cap ∧ ds.length ≤ cap ∧ RdD W W.heap.size A ds ∧ ∀ t ∈ ds, t.Is := by
  obtain ⟨a0, len0, cap0, rfl⟩ := okWide_slice Try.undDeeds hok
  obtain ⟨fuel, hf⟩ := h
  rcases DataW.trod_slice Try.undDeeds hf with ⟨hcs, _⟩ | ⟨a, len, cap, elems, rest, n, _, hcs, _, _, hl, hm, hlen, hel, _, _⟩
  · simp [Value.cells] at hcs
    obtain ⟨rfl, rfl, rfl⟩ := hcs
    exact ⟨none, [], 0, rfl, Nat.le_refl _, .inl rfl, fun _ h => by simp at h⟩
  · simp [Value.cells] at hcs
    obtain ⟨rfl, rfl, rfl⟩ := hcs
    rw [Try.cellsDeed] at hel
    by_cases h0 : len0 = 0
    · subst h0
      exact ⟨some a, [], cap0, rfl, Nat.zero_le _, .inl rfl, fun _ h => by simp at h⟩
    · have hspot : ∃ b o, a = ⟨b, o, none⟩ := by
        have h1 := hel 0 (by omega)
        rw [List.getElem?_eq_getElem (by omega), Option.bind_eq_some_iff] at h1
        obtain ⟨cs, hc, _⟩ := h1
        obtain ⟨u0, _, _, _, _, _, hu, _⟩ := cells5 hc
        obtain ⟨b, o, spot⟩ := a
        have hs : spot = none := by simpa [Addr.add] using World.cell?_spot hu
        exact ⟨b, o, by rw [hs]⟩
      obtain ⟨b, o, rfl⟩ := hspot
      have key : ∀ i, i < len0 → ∃ t : Deed, (∀ j u, t.cells[j]? = some u → W.cell? ⟨b, o + (5 * i + j), none⟩ = some u) ∧ t.Is := by
        intro i hi
        have h1 := hel i hi
        rw [List.getElem?_eq_getElem (by omega), Option.bind_eq_some_iff] at h1
        obtain ⟨cs, hc, hx⟩ := h1
        obtain ⟨t, rfl, h2⟩ := open_deed_cs hx
        obtain ⟨u0, u1, u2, u3, u4, hu, q0, q1, q2, q3, q4⟩ := cells5 hc
        refine ⟨t, fun j u hj => ?_, h2⟩
        rw [hu] at hj
        rw [Addr.add_lit, Addr.add_lit] at q0 q1 q2 q3 q4
        match j, hj with
        | 0, hj =>
          obtain rfl : u0 = u := by simpa using hj
          rw [show o + (5 * i + 0) = o + i * 5 + 0 by omega]; exact q0
        | 1, hj =>
          obtain rfl : u1 = u := by simpa using hj
          rw [show o + (5 * i + 1) = o + i * 5 + 1 by omega]; exact q1
        | 2, hj =>
          obtain rfl : u2 = u := by simpa using hj
          rw [show o + (5 * i + 2) = o + i * 5 + 2 by omega]; exact q2
        | 3, hj =>
          obtain rfl : u3 = u := by simpa using hj
          rw [show o + (5 * i + 3) = o + i * 5 + 3 by omega]; exact q3
        | 4, hj =>
          obtain rfl : u4 = u := by simpa using hj
          rw [show o + (5 * i + 4) = o + i * 5 + 4 by omega]; exact q4
      have all : ∀ m, m ≤ len0 → ∃ ts : List Deed, ts.length = m ∧ (∀ i t, ts[i]? = some t → (∀ j u, t.cells[j]? = some u → W.cell? ⟨b, o + (5 * i + j), none⟩ = some u) ∧ t.Is) := by
        intro m
        induction m with
        | zero => exact fun _ => ⟨[], rfl, fun i t h => by simp at h⟩
        | succ m ih =>
          intro hm
          obtain ⟨ts, hl1, ht1⟩ := ih (by omega)
          obtain ⟨t, ht⟩ := key m (by omega)
          refine ⟨ts ++ [t], by rw [List.length_append, hl1]; rfl, fun i s hs => ?_⟩
          rcases Nat.lt_or_ge i ts.length with hlt | hge
          · rw [List.getElem?_append_left hlt] at hs
            exact ht1 i s hs
          · have hi : i = m := by
              have := (List.getElem?_eq_some_iff.1 hs).1
              rw [List.length_append, List.length_singleton] at this
              omega
            subst hi
            rw [List.getElem?_append_right hge, hl1, Nat.sub_self] at hs
            obtain rfl : t = s := by simpa using hs
            exact ht
      obtain ⟨ts, htl, htt⟩ := all len0 (Nat.le_refl _)
      have hb : b < W.heap.size := by
        obtain ⟨t, ht, _⟩ := key 0 (by omega)
        exact World.block_lt_of_cell? W ⟨b, o + (5 * 0 + 0), none⟩ (ht 0 _ rfl)
      refine ⟨some ⟨b, o, none⟩, ts, cap0, by rw [htl], by omega, .inr ⟨b, o, rfl, hb, fun i u hi => (htt i u hi).1⟩, fun t ht => ?_⟩
      obtain ⟨i, hi⟩ := List.getElem?_of_mem ht
      exact (htt i t hi).2
end Go.Proofs.Ytampdfmakhdliaa
namespace Go.Proofs.Ytampdfmakhdliaa
open Go.RowKit Go.Gar
open Go.Gar.Dsk (Dsk)

theorem fill_set (k : Nat) (c : UInt8) (hk : k < 32) : (u8s (List.replicate k c ++ List.replicate (32 - k) 0)).set k (.int .u8 (c.toNat : Int)) = u8s (List.replicate (k + 1) c ++ List.replicate (32 - (k + 1)) 0) := by
  have e : 32 - k = (32 - (k + 1)) + 1 := by omega
  rw [e, List.replicate_succ]
  have h1 := set_mid (u8s (List.replicate k c)) (u8s (List.replicate (32 - (k + 1)) 0)) (.int .u8 ((0 : UInt8).toNat : Int)) (.int .u8 (c.toNat : Int))
  rw [u8s_len, List.length_replicate] at h1
  have h2 : u8s (List.replicate k c ++ 0 :: List.replicate (32 - (k + 1)) 0) = u8s (List.replicate k c) ++ .int .u8 ((0 : UInt8).toNat : Int) :: u8s (List.replicate (32 - (k + 1)) 0) := by simp [u8s]
  rw [h2, h1, List.replicate_succ']
  simp [u8s]
set_option maxHeartbeats 1000000 in
theorem full_any (w : World) (c : UInt8) : Calls Try.prog 30 #[.int .u8 (c.toNat : Int)] w fun e w' =>
    e = .returned (.slice (some ⟨w.heap.size, 0, none⟩) 32 32) ∧ Blk w' w.heap.size 5 (u8s (List.replicate 32 c)) ∧ Below w.heap.size w w' := by
  have hmk : (Instr.makeSlice 40 (.int .i64 32) (.int .i64 32)).run Try.prog w = .ok (.slice (some ⟨w.heap.size, 0, none⟩) 32 32) (w.alloc (.cells (u8s (List.replicate 32 0)).toArray 5)) := run_make_bytes 32 32 (by omega) (by omega) w
  have hB := Blk.new w 5 (u8s (List.replicate 32 0))
  have hb := below_alloc w (.cells (u8s (List.replicate 32 0)).toArray 5)
  obtain ⟨w0, hw0⟩ : ∃ w0, w.alloc (.cells (u8s (List.replicate 32 0)).toArray 5) = w0 := ⟨_, rfl⟩
  rw [hw0] at hmk hB hb
  have HB := Lib.hid hB
  have Hb := Lib.hid hb
  clear hB hb hw0
  obtain ⟨cc, hcc⟩ : ∃ cc : Int, cc = (c.toNat : Int) := ⟨_, rfl⟩
  rw [← hcc]
  have Hcc := Lib.hid hcc
  clear hcc
  go_enter Try.func30, Try.ntmps30
  go_wp2
  go_loopw [4] (fun i w' => ∃ k : Nat, k ≤ 32 ∧ i = .int .i64 k ∧ Blk w' w.heap.size 5 (u8s (List.replicate k c ++ List.replicate (32 - k) 0)) ∧ Below w.heap.size w w') (fun i _ => 32 - (intOf i).toNat)
  case atStart => exact ⟨0, by omega, rfl, by simpa using HB.out, Hb.out⟩
  case round =>
    obtain ⟨k, hk, rfl, hB, hb⟩ := hrel
    have HB1 := Lib.hid hB
    have Hb1 := Lib.hid hb
    clear hB hb HB Hb
    by_cases h : k < 32
    · have hd : decide ((k : Int) < 32) = true := by simp; omega
      have hq := HB1.out.cell k
      have hl : (u8s (List.replicate k c ++ List.replicate (32 - k) 0)).length = 32 := by rw [u8s_len]; simp; omega
      rw [List.getElem?_eq_getElem (by omega)] at hq
      have hfz := HB1.out.frozen k
      go_wp2
      refine ⟨⟨k + 1, by omega, by go_num, ?_, Hb1.out.setCell (Nat.le_refl _) _⟩, by simp [intOf]; omega⟩
      rw [← fill_set k c h, ← Hcc.out]
      exact HB1.out.set_ k _
    · obtain rfl : k = 32 := by omega
      have hd : decide (((32 : Nat) : Int) < 32) = false := by simp
      go_wp2
      go_ret
      exact ⟨rfl, by simpa using HB1.out, Hb1.out⟩

/-- The bytes of a deed. -/
def wroteL (d : Deed) : List UInt8 := if d.kind.toNat % 32 = 31 then List.replicate d.c.toNat 0 else (List.replicate 32 d.c).set (d.c.toNat % 32) (UInt8.ofNat (d.keep % 256).toNat)
theorem wroteL_len (d : Deed) : (wroteL d).length ≤ 255 := by
  unfold wroteL
  split
  · rw [List.length_replicate]; have := d.c.toNat_lt; omega
  · simp
theorem byte_keep (keep : Int) : ((UInt8.ofNat (keep % 256).toNat).toNat : Int) = keep % 256 := by
  have h : (keep % 256).toNat < 256 := by omega
  simp
  omega

theorem u8s_put (l : List UInt8) (i : Nat) (keep : Int) : (u8s l).set i (.int .u8 (keep % 256)) = u8s (l.set i (UInt8.ofNat (keep % 256).toNat)) := by
  have h : ∀ x : UInt8, u8s (l.set i x) = (u8s l).set i (.int .u8 (x.toNat : Int)) := fun x => by simp [u8s, List.map_set]
  rw [h, byte_keep]

set_option maxHeartbeats 1000000 in
theorem wrote_any (w : World) (d : Deed) (hd : d.Is) : Calls Try.prog 18 #[.agg d.cells.toArray] w fun e w' =>
    ∃ g n, e = .returned (.slice (some ⟨g, 0, none⟩) n n) ∧ n = (wroteL d).length ∧ w.heap.size ≤ g ∧ Blk w' g 5 (u8s (wroteL d)) ∧ Below w.heap.size w w' := by
  obtain ⟨L, hL⟩ : ∃ L, L = wroteL d := ⟨_, rfl⟩
  rw [← hL]
  obtain ⟨kind, at_, c, n, keep⟩ := d
  have hkeep : isI64 keep := hd.keep
  unfold isI64 at hkeep
  obtain ⟨h1, h2⟩ := hkeep
  clear hd
  have hw0 := below_alloc w (.cells #[.int .u8 (kind.toNat : Int), .int .i64 at_, .int .u8 (c.toNat : Int), .int .i64 n, .int .i64 keep] 34)
  have hB0 := Blk.new w 34 [.int .u8 (kind.toNat : Int), .int .i64 at_, .int .u8 (c.toNat : Int), .int .i64 n, .int .i64 keep]
  obtain ⟨w0, he0⟩ : ∃ w0, w.alloc (.cells #[.int .u8 (kind.toNat : Int), .int .i64 at_, .int .u8 (c.toNat : Int), .int .i64 n, .int .i64 keep] 34) = w0 := ⟨_, rfl⟩
  have hs0 : w0.heap.size = w.heap.size + 1 := by rw [← he0, World.size_alloc]
  rw [show w.alloc (.cells [.int .u8 (kind.toNat : Int), .int .i64 at_, .int .u8 (c.toNat : Int), .int .i64 n, .int .i64 keep].toArray 34) = w0 from he0] at hB0
  rw [he0] at hw0
  have hK : kind.toNat < 256 := kind.toNat_lt
  have hC : c.toNat < 256 := c.toNat_lt
  obtain ⟨K, hKe⟩ : ∃ K : Nat, K = kind.toNat := ⟨_, rfl⟩
  obtain ⟨C, hCe⟩ : ∃ C : Nat, C = c.toNat := ⟨_, rfl⟩
  have hL2 : L = if K % 32 = 31 then List.replicate C 0 else (List.replicate 32 c).set (C % 32) (UInt8.ofNat (keep % 256).toNat) := by rw [hL, hKe, hCe]; rfl
  have HB0 := Lib.hid hB0
  have Hb0 := Lib.hid hw0
  have HE0 := Lib.hid he0
  have HS0 := Lib.hid hs0
  have HL := Lib.hid hL2
  have hf0 := fun W => full_any W c
  rw [← hCe] at hf0
  rw [← hKe, ← hCe] at HB0 HE0
  rw [← hKe] at hK
  rw [← hCe] at hC
  have HCe := Lib.hid hCe
  have hq0 := HB0.out.cell 0
  have hq2 := HB0.out.cell 2
  have hq4 := HB0.out.cell 4
  show Calls Try.prog 18 #[.agg #[.int .u8 (kind.toNat : Int), .int .i64 at_, .int .u8 (c.toNat : Int), .int .i64 n, .int .i64 keep]] w _
  rw [← hKe, ← hCe]
  clear hw0 hB0 he0 hs0 hL hL2 hKe hCe
  go_enter Try.func18, Try.ntmps18
  go_wp2_with (refine wpList_box_arr rfl 34 _ _ rfl rfl ?_; rw [HE0.out])
  refine (hf0 w0).mono ?_
  rintro e w1 ⟨rfl, hB, hb⟩
  obtain ⟨g, hg⟩ : ∃ g, g = w0.heap.size := ⟨_, rfl⟩
  rw [← hg] at hB ⊢
  have HB1 := Lib.hid hB
  have Hb1 := Lib.hid (Hb0.out.trans (hb.mono Hb0.out.size))
  have HX0 := Lib.hid (HB0.out.below hb HB0.out.lt)
  have Hg := Lib.hid (show w.heap.size < g by have := HS0.out; omega)
  clear hB hb hg HE0 HS0 hf0 hq0 hq2 hq4 Hb0 HB0
  have hq0 := HX0.out.cell 0
  have hq2 := HX0.out.cell 2
  have hq4 := HX0.out.cell 4
  simp only [List.getElem?_cons_zero, List.getElem?_cons_succ] at hq0 hq2 hq4
  have hlen : (u8s (List.replicate 32 c)).length = 32 := by rw [u8s_len, List.length_replicate]
  have hr := HB1.out.cell (C % 32)
  rw [List.getElem?_eq_getElem (by rw [hlen]; omega)] at hr
  have hfz := HB1.out.frozen (C % 32)
  have hrem : Int.tmod (C : Int) 32 = ((C % 32 : Nat) : Int) := by rw [Int.tmod_eq_emod_of_nonneg (by omega)]; omega
  have hkr : Int.tmod (K : Int) 32 = ((K % 32 : Nat) : Int) := by rw [Int.tmod_eq_emod_of_nonneg (by omega)]; omega
  have hX2 := HX0.out.far (p := ⟨g, C % 32, none⟩) (by show w.heap.size ≠ g; have := Hg.out; omega) (.int .u8 (keep % 256))
  have hB2 := HB1.out.set_ (C % 32) (.int .u8 (keep % 256))
  have hrow := u8s_put (List.replicate 32 c) (C % 32) keep
  rw [hrow] at hB2
  have hb2 := Hb1.out.setCell (p := ⟨g, C % 32, none⟩) (Nat.le_of_lt Hg.out) (.int .u8 (keep % 256))
  have q0 := hX2.cell 0
  have q2 := hX2.cell 2
  simp only [List.getElem?_cons_zero, List.getElem?_cons_succ] at q0 q2
  have HX2 := Lib.hid hX2
  have HB2 := Lib.hid hB2
  have Hb2 := Lib.hid hb2
  clear hX2 hB2 hb2 hrow
  by_cases h31 : K % 32 = 31
  · have hmk : (Instr.makeSlice 40 (.int .i64 (C : Int)) (.int .i64 (C : Int))).run Try.prog (w1.setCell ⟨g, C % 32, none⟩ (.int .u8 (keep % 256))) = .ok (.slice (some ⟨(w1.setCell ⟨g, C % 32, none⟩ (.int .u8 (keep % 256))).heap.size, 0, none⟩) C C) ((w1.setCell ⟨g, C % 32, none⟩ (.int .u8 (keep % 256))).alloc (.cells (u8s (List.replicate C 0)).toArray 5)) := run_make_bytes C C (Nat.le_refl _) (by omega) _
    have hL3 : L = List.replicate C 0 := by rw [HL.out, if_pos h31]
    have hBn := Blk.new (w1.setCell ⟨g, C % 32, none⟩ (.int .u8 (keep % 256))) 5 (u8s (List.replicate C 0))
    have hbn := Hb2.out.alloc Hb2.out.size (.cells (u8s (List.replicate C 0)).toArray 5)
    have hsz : (w1.setCell ⟨g, C % 32, none⟩ (.int .u8 (keep % 256))).heap.size = w1.heap.size := by simp [World.setCell]
    rw [hsz] at hBn
    have hws : w.heap.size ≤ w1.heap.size := Hb1.out.size
    have HBn := Lib.hid hBn
    have Hbn := Lib.hid hbn
    have HL3 := Lib.hid hL3
    clear hBn hbn hL3 hsz
    go_wp2
    go_ret
    exact ⟨_, C, rfl, by rw [HL3.out, List.length_replicate], hws, by rw [HL3.out]; exact HBn.out, Hbn.out⟩
  · have hL3 : L = (List.replicate 32 c).set (C % 32) (UInt8.ofNat (keep % 256).toNat) := by rw [HL.out, if_neg h31]
    have HL3 := Lib.hid hL3
    clear hL3
    go_wp2
    go_ret
    exact ⟨g, 32, rfl, by rw [HL3.out, List.length_set, List.length_replicate], Nat.le_of_lt Hg.out, by rw [HL3.out]; exact HB2.out, Hb2.out⟩
end Go.Proofs.Ytampdfmakhdliaa
namespace Go.Proofs.Ytampdfmakhdliaa
open Go.RowKit Go.Gar
open Go.Gar.Dsk (Dsk)

theorem Try.sizeDeed : (Try.prog.info? 34).map (·.size) = some 5 := by kernel_rfl
/-- The k-th of a list of deeds. -/
theorem deed_at {w : World} {B : Nat} {A : Option Addr} {ds : List Deed} {n cap : Nat} (h : RdD w B A ds) (hn : n = ds.length) (k : Nat) (hk : k < n) :
    ∃ d b q, ds[k]? = some d ∧ b < B ∧ (∀ W, (Instr.indexAt 22 (.slice A n cap) (.int .i64 (k : Int))).run Try.prog W = .ok (.pointer (some ⟨b, q, none⟩)) W) ∧ ∀ j u, d.cells[j]? = some u → w.cell? ⟨b, q + j, none⟩ = some u := by
  rcases h with rfl | ⟨b, o, rfl, hB, hc⟩
  · rw [hn] at hk; simp at hk
  · have hkd : k < ds.length := by omega
    refine ⟨ds[k], b, o + k * 5, List.getElem?_eq_getElem hkd, hB, fun W => ?_, fun j u hj => by rw [Nat.add_assoc, Nat.mul_comm k 5]; exact hc k _ (List.getElem?_eq_getElem hkd) j u hj⟩
    obtain ⟨i, hi, hs⟩ := Option.map_eq_some_iff.1 Try.sizeDeed
    have h0 : (0 : Int) ≤ (k : Int) ∧ (k : Int) < (n : Int) := by omega
    simp [Instr.indexAt, asIntOf, Sem.run_bind, run_underlying Try.undDeeds W, sizeOf, typeInfo, hi, hs, h0, Addr.add_lit, Result.andThen]
    exact fun h => absurd h (by omega)
/-- A deed loaded whole, in every later world. -/
theorem deed_load {w : World} {G : Growth} {b q : Nat} {d : Deed} (h : ∀ W : Later G w, ∀ j u, d.cells[j]? = some u → W.to.cell? ⟨b, q + j, none⟩ = some u) :
    ∀ W : Later G w, (loadVar 34 ⟨b, q, none⟩).run Try.prog W.to = .ok (.agg d.cells.toArray) W.to := fun W =>
  run_loadVar_mid (P := Try.prog) W.to b q 34 d.cells _ (fun j v hv => h W j v hv) Try.undDeed rfl Try.sizeDeed
/-- The contracts of Write with plain variables. -/
theorem write_at {Rep : World → (Nat → Prop) → Nat → Dsk → Prop} (hOK : DiskOK Rep) {w : World} {F : Nat → Prop} {g : Nat} {d : Dsk} (i : Int) (A : Option Addr) (b : List UInt8) (n c : Nat) (hR : Rep w F g d) (hi : isI64 i) (hn : n = b.length) (hr : Rd w w.heap.size A b) (hA : ∀ p, A = some p → ¬ F p.block) (hc : n ≤ c) (hb : n ≤ 1000000) (hm : d.many < 4611686018427387904) :
    Calls Try.prog 17 #[ptr g, .int .i64 i, .slice A n c] w fun e w' => ∃ E : Int, e = .returned (.int .i64 E) ∧ E = ((Dsk.writeE d i b : Nat) : Int) ∧ ∃ F', Rep w' F' g (Dsk.write d i b) ∧ (∀ k, F' k → F k ∨ w.heap.size ≤ k) ∧ Only F w w' := by
  subst hn
  exact (hOK.write i A b c hR hi hr hA hc hb hm).mono fun e w' ⟨h1, h2⟩ => ⟨_, h1, rfl, h2⟩

set_option maxHeartbeats 2000000 in
theorem some_any {Rep : World → (Nat → Prop) → Nat → Dsk → Prop} (hOK : DiskOK Rep) (w : World) (A : Option Addr) (ds : List Deed) (n cap : Nat) (hn : n = ds.length) (hr : RdD w w.heap.size A ds) (hI : ∀ t ∈ ds, t.Is) :
    Calls Try.prog 28 #[.slice A n cap] w fun e w' => ∃ F g d, e = .returned (ptr g) ∧ Rep w' F g d ∧ (∀ k, F k → w.heap.size ≤ k) ∧ Below w.heap.size w w' ∧ d.secs.length = 9 ∧ d.fuse = none ∧ d.many ≤ 30 := by
  have HOK := Lib.hid hOK
  have HN := Lib.hid hn
  have HR := Lib.hid hr
  have HI := Lib.hid hI
  clear hOK hn hr hI
  go_enter Try.func28, Try.ntmps28
  go_wp2_with fail
  refine (HOK.out.new w 9 (by unfold isI64; omega)).mono ?_
  rintro e w1 ⟨F, g, rfl, hR1, hF1, hb1⟩
  have HR1 := Lib.hid hR1
  have HF1 := Lib.hid hF1
  have Hb1 := Lib.hid hb1
  clear hR1 hF1 hb1
  unfold ptr
  go_wp2
  go_loopw [4] (fun i w' => ∃ k : Nat, k ≤ n ∧ k ≤ 30 ∧ i = .int .i64 k ∧ ∃ F d, Rep w' F g d ∧ (∀ k, F k → w.heap.size ≤ k) ∧ Below w.heap.size w w' ∧ d.secs.length = 9 ∧ d.fuse = none ∧ d.many ≤ k) (fun i _ => 30 - (intOf i).toNat)
  case atStart => exact ⟨0, by omega, by omega, rfl, F, _, HR1.out, HF1.out, Hb1.out, rfl, rfl, Nat.le_refl _⟩
  case round =>
    obtain ⟨k, hkn, hk30, rfl, F2, d, hR, hF, hb, h9, hfu, hm⟩ := hrel
    clear HR1 HF1 Hb1
    have HRr := Lib.hid hR
    have HF := Lib.hid hF
    have Hb := Lib.hid hb
    have H9 := Lib.hid h9
    have Hfu := Lib.hid hfu
    have Hm := Lib.hid hm
    clear hR hF hb h9 hfu hm
    by_cases h1 : k < n
    · have hd1 : decide ((k : Int) < (n : Int)) = true := by simp; omega
      by_cases h2 : k < 30
      · have hd2 : decide ((k : Int) < 30) = true := by simp; omega
        obtain ⟨t, b, q, ht, hbB, hix, hcl⟩ := deed_at (cap := cap) (HR.out.below Hb.out) HN.out k h1
        have hti : t.Is := HI.out t (List.mem_of_getElem? ht)
        obtain ⟨K, hK⟩ : ∃ K : Nat, K = t.kind.toNat := ⟨_, rfl⟩
        have hK8 : K < 256 := by rw [hK]; exact t.kind.toNat_lt
        obtain ⟨at_, hat⟩ : ∃ a, a = t.at_ := ⟨_, rfl⟩
        have hq0 := hcl 0 _ (show t.cells[0]? = some (.int .u8 (K : Int)) by rw [hK]; rfl)
        have Hq1 := Lib.hid (hcl 1 _ (show t.cells[1]? = some (.int .i64 at_) by rw [hat]; rfl))
        rw [Nat.add_zero] at hq0
        have Hcl := Lib.hid hcl
        have Hti := Lib.hid hti
        have HbB := Lib.hid hbB
        have Hat := Lib.hid hat
        have hkr : Int.tmod (K : Int) 5 = ((K % 5 : Nat) : Int) := by rw [Int.tmod_eq_emod_of_nonneg (by omega)]; omega
        clear ht hcl hti hbB hK hat
        by_cases h5 : K % 5 = 0
        · go_wp2_with fail
          refine (HOK.out.flush HRr.out).mono ?_
          rintro e w2 ⟨rfl, F3, hR3, hF3, ho⟩
          have hb3 := ho.below HF.out Hb.out.size
          have HR3 := Lib.hid hR3
          have HF3 := Lib.hid (show ∀ k, F3 k → w.heap.size ≤ k from fun k hk => by rcases hF3 k hk with h | h; exact HF.out k h; exact Nat.le_trans Hb.out.size h)
          have Hb3 := Lib.hid (Hb.out.trans hb3)
          clear hR3 hF3 ho hb3 hq0 hix
          go_wp2
          exact ⟨⟨k + 1, by omega, by omega, by go_num, F3, Dsk.flush d, HR3.out, HF3.out, Hb3.out, by rw [Dsk.flush_len]; exact H9.out, Dsk.flush_fuse Hfu.out, by rw [Dsk.flush_many]; have := Hm.out; omega⟩, by simp [intOf]; omega⟩
        · go_wp2_with fail
          refine wp_region_G (belowG w.heap.size) (by kernel_rfl) ?_
          have HRd := Lib.hid (HOK.out.keep (w' := wr.drew) HRr.out (fun _ _ => rfl))
          have Hbd := Lib.hid Hb.out.drew
          have Hcd := Lib.hid (show ∀ j u, t.cells[j]? = some u → wr.drew.cell? ⟨b, q + j, none⟩ = some u from Hcl.out)
          have Hlt := Lib.hid (HOK.out.lt HRr.out)
          have hsz : wr.drew.heap.size = wr.heap.size := rfl
          have Hsz := Lib.hid hsz
          clear hq0 HRr Hcl hsz
          generalize wr.drew = W at *
          have hll : ∀ x : Later (belowG w.heap.size) W, ∀ j u, t.cells[j]? = some u → x.to.cell? ⟨b, q + j, none⟩ = some u := fun x j u hj => (show Below w.heap.size W x.to from x.grown).cell (p := ⟨b, q + j, none⟩) HbB.out |>.trans (Hcd.out j u hj)
          have hq1 := fun x => hll x 1 (.int .i64 at_) (by rw [Hat.out]; rfl)
          have Hld := Lib.hid (deed_load hll)
          clear hll
          refine segG (by kernel_rfl) (fun _ _ _ _ _ h => h) [0, 1, 2, 3, 4, 5, 6, 7, 8, 9] [_, _, _, _, _, _, _, _, _, _] 2 rfl rfl (by kernel_rfl) ?_
          repeat (first | (refine wpQuiet_load_at 34 (.tmp 33) rfl rfl t.cells.toArray Hld.out (by kernel_rfl) ?_; simp only [Act.put, List.setIfInBounds_toArray, List.set]) | go_big_quiet_step (fail))
          refine wpQuiet_nil ?_
          clear hq1 Hld hix
          refine oneG 10 1 rfl (by kernel_rfl) rfl ?_
          go_wp2_with fail
          refine (wrote_any W t Hti.out).mono ?_
          rintro e w2 ⟨g2, n2, rfl, hn2, hg2, hB2, hb2⟩
          have hR2 := HOK.out.keep HRd.out (fun k hk => hb2.block k (by rw [Hsz.out]; exact Hlt.out k hk))
          have hbr := hb2.mono Hbd.out.size
          have HR2 := Lib.hid hR2
          have Hn2 := Lib.hid hn2
          have HB2 := Lib.hid hB2
          have Hb2 := Lib.hid (Hbd.out.trans hbr)
          have Hnf := Lib.hid (show ∀ p, some (⟨g2, 0, none⟩ : Addr) = some p → ¬ F2 p.block from fun p hp hf => by
            obtain rfl := Option.some.inj hp
            have h9 : g2 < wr.heap.size := Hlt.out g2 hf
            rw [Hsz.out] at hg2
            omega)
          clear hR2 hn2 hB2 hb2 hg2 HRd Hbd
          go_wp2
          refine ⟨hbr, ?_⟩
          clear hbr
          refine oneG 11 0 rfl (by kernel_rfl) rfl ?_
          go_wp2_with fail
          have hwl := wroteL_len t
          refine (write_at HOK.out at_ (some ⟨g2, 0, none⟩) (wroteL t) n2 n2 HR2.out (by rw [Hat.out]; exact Hti.out.at_) Hn2.out (Rd.of_all HB2.out) Hnf.out (Nat.le_refl _) (by have := Hn2.out; omega) (by have := Hm.out; omega)).mono ?_
          rintro e w3 ⟨E, rfl, _, F3, hR3, hF3, ho⟩
          have hbr := ho.below HF.out Hb2.out.size
          have HR3 := Lib.hid hR3
          have HF3 := Lib.hid (show ∀ k, F3 k → w.heap.size ≤ k from fun k hk => by rcases hF3 k hk with h | h; exact HF.out k h; exact Nat.le_trans Hb2.out.size h)
          have Hb3 := Lib.hid (Hb2.out.trans hbr)
          clear hR3 hF3 ho hwl HR2 HB2 Hb2
          go_wp2
          refine ⟨hbr, ?_⟩
          clear hbr
          refine wpAnyG_done (by kernel_rfl) ?_
          go_wp2
          exact ⟨⟨k + 1, by omega, by omega, by go_num, F3, _, HR3.out, HF3.out, Hb3.out, by rw [Dsk.write_len]; exact H9.out, Dsk.write_fuse Hfu.out _ _, by have := Hm.out; have := Dsk.write_many d at_ (wroteL t); omega⟩, by simp [intOf]; omega⟩
      · have hd2 : decide ((k : Int) < 30) = false := by simp; omega
        go_wp2
        go_ret
        exact ⟨F2, g, d, rfl, HRr.out, HF.out, Hb.out, H9.out, Hfu.out, by have := Hm.out; omega⟩
    · have hd1 : decide ((k : Int) < (n : Int)) = false := by simp; omega
      go_wp2
      go_ret
      exact ⟨F2, g, d, rfl, HRr.out, HF.out, Hb.out, H9.out, Hfu.out, by have := Hm.out; omega⟩
end Go.Proofs.Ytampdfmakhdliaa
