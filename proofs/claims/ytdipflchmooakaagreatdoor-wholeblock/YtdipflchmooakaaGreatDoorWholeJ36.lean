/-
  The landed lz: the list of tokens while it grows; withByte: its contract. The landed lz: Expand: its contract.
-/
import Derived.Maps.AppendAt
import Derived.Test.YtdipflchmooakaaGreatDoorWholeJ31
import Derived.Test.YtdipflchmooakaaGreatDoorWholeJ33
import Derived.Test.YtdipflchmooakaaGreatDoorWholeJ34
set_option maxRecDepth 100000
namespace Go.Proofs.YtdipflchmooakaaGreatDoor
open Go.RowKit Go.Gar

/-- The blocks that may turn when a byte comes in. -/
def FL (base : Nat) (w : World) (g : Nat) : Prop := base ≤ g ∧ ∃ cs, Blk w g 61 cs ∨ Blk w g 5 cs
theorem FL.back {base : Nat} {a b : World} {g : Nat} (ho : Only (FL base a) a b) (h : FL base b g) : FL base a g ∨ a.heap.size ≤ g := by
  rcases Nat.lt_or_ge g a.heap.size with hlt | hge
  · refine .inl ?_
    by_cases hf : FL base a g
    · exact hf
    · obtain ⟨h1, cs, h2⟩ := h
      have := ho.block g hlt hf
      exact ⟨h1, cs, h2.imp (fun h => this.symm.trans h) (fun h => this.symm.trans h)⟩
  · exact .inr hge
theorem only_FL {base : Nat} {a b c : World} (h : Only (FL base a) a b) (k : Only (FL base b) b c) : Only (FL base a) a c := h.then k fun _ hi => FL.back h hi
/-- The tokens so far: the last one's bytes lie in a row of their own. -/
structure OwnL (w : World) (base : Nat) (v : Value) (ts : List Tv) : Prop where
  own : OwnT w base 61 5 v ts
  last : ∀ init t, ts = init ++ [t] → t.l ≠ [] → OwnB w base 5 (.slice t.A t.l.length t.c) t.l ∧ ∀ s ∈ init, s.l = [] ∨ ∃ p q, t.A = some p ∧ s.A = some q ∧ q.block ≠ p.block
section
variable {w w' : World} {base : Nat} {v : Value} {ts : List Tv}
theorem OwnL.nil (w : World) (base : Nat) : OwnL w base (.slice none 0 0) [] := ⟨ownT_nil _ _ _ _, fun init t h => by simp at h⟩
theorem own_at {t : Tv} {l : List UInt8} (h : OwnB w base 5 (.slice t.A t.l.length t.c) l) (hl : l ≠ []) : ∃ g cs, t.A = some ⟨g, 0, none⟩ ∧ base ≤ g ∧ Blk w g 5 cs := by
  rcases h.2 with ⟨_, hn⟩ | ⟨g, cap, cur, hv, hb, hg, _⟩
  · exact absurd (List.eq_nil_of_length_eq_zero hn) hl
  · simp only [Value.slice.injEq] at hv
    exact ⟨g, cur.toList, hv.1, hb, by unfold Blk; simpa using hg⟩
theorem OwnL.keep (h : OwnL w base v ts) (hk : ∀ g cs, Blk w g 61 cs ∨ Blk w g 5 cs → w'.heap[g]? = w.heap[g]?) : OwnL w' base v ts := by
  have hown : OwnT w' base 61 5 v ts := h.own.keep
    (fun g hg => by
      rcases h.own.row.2 with ⟨rfl, _⟩ | ⟨g', cap, cur, rfl, _, hg', _⟩
      · cases hg
      · obtain rfl : g' = g := by simpa [Value.ownBlock] using hg
        exact hk g' cur.toList (.inl (by unfold Blk; simpa using hg')))
    (fun t ht => by
      obtain ⟨h1, h2⟩ := h.own.lits t ht
      refine ⟨?_, h2⟩
      rcases h1 with h1 | ⟨g, o, cs, hA, hB, hc⟩
      · exact .inl h1
      · exact .inr ⟨g, o, cs, hA, (hk g cs (.inr hB)).trans hB, hc⟩)
  refine ⟨hown, fun init t ht hl => ?_⟩
  obtain ⟨h1, h2⟩ := h.last init t ht hl
  refine ⟨h1.keep fun g hg => ?_, h2⟩
  obtain ⟨g', cs, hA, _, hB⟩ := own_at h1 hl
  rw [hA] at hg
  obtain rfl : g' = g := by simpa [Value.ownBlock] using hg
  exact hk g' cs (.inr hB)
theorem OwnL.below (h : OwnL w base v ts) (hb : Below w.heap.size w w') : OwnL w' base v ts := h.keep fun g cs hB => hb.block g (by rcases hB with hB | hB <;> exact hB.lt)
theorem OwnL.only {F : Nat → Prop} (h : OwnL w base v ts) (ho : Only F w w') (hF : ∀ g, F g → ∀ cs, ¬ Blk w g 61 cs ∧ ¬ Blk w g 5 cs) : OwnL w' base v ts :=
  h.keep fun g cs hB => ho.block g (by rcases hB with hB | hB <;> exact hB.lt) fun hf => by
    rcases hB with hB | hB
    · exact (hF g hf cs).1 hB
    · exact (hF g hf cs).2 hB
/-- A token comes in. -/
theorem OwnL.push (h : OwnL w base v ts) (hbase : base ≤ w.heap.size) (t ty : TypeId) (ht : Tryz.prog.underlying t = some (.slice 61)) {g : Nat} {x : Tv} (hB : Blk w g 61 x.cells) (hx : RdB w 5 x.A x.l) (hxc : x.l.length ≤ x.c)
    (hl : ts.length + 1 ≤ 1099511627776) (c : Nat) (hnew : x.l ≠ [] → OwnB w base 5 (.slice x.A x.l.length x.c) x.l ∧ ∀ s ∈ ts, s.l = [] ∨ ∃ p q, x.A = some p ∧ s.A = some q ∧ q.block ≠ p.block) :
    ∃ v' w', (Builtin.append_ #[t, t] ty #[v, .slice (some ⟨g, 0, none⟩) 1 c]).run Tryz.prog w = .ok v' w' ∧ OwnL w' base v' (ts ++ [x]) ∧ Only (FL base w) w w' ∧ w.grownBy w' v.ownBlock := by
  obtain ⟨v', w', hr, ho, hb, hg⟩ := appT (P := Tryz.prog) t ty (z := .agg #[.slice none 0 0, .int .i64 0, .int .i64 0]) ht Tryz.infoTok rfl (by decide) h.own hbase g x hB hx hxc hl c
  refine ⟨v', w', hr, ⟨ho, fun init y hy hyl => ?_⟩, .of_grown hg (fun i e => ?_), hg⟩
  · obtain ⟨rfl, rfl⟩ : ts = init ∧ x = y := by
      have := List.append_inj' hy rfl
      exact ⟨this.1, by simpa using this.2⟩
    obtain ⟨h1, h2⟩ := hnew hyl
    refine ⟨h1.keep fun g' hg' => ?_, h2⟩
    obtain ⟨g2, cs, hA, _, hB2⟩ := own_at h1 hyl
    rw [hA] at hg'
    obtain rfl : g2 = g' := by simpa [Value.ownBlock] using hg'
    exact hg.block g2 hB2.lt (fun e => h.own.typed e.symm (by decide) cs hB2)
  · rcases h.own.row.2 with ⟨rfl, _⟩ | ⟨g', cap, cur, rfl, hb', hg', _⟩
    · cases e
    · obtain rfl : g' = i := by simpa [Value.ownBlock] using e
      exact ⟨hb', cur.toList, .inl (by unfold Blk; simpa using hg')⟩
/-- append of one byte, and where the row then lies. -/
theorem app_byte {l : List UInt8} (h : OwnB w base 5 v l) (t ty : TypeId) (ht : Tryz.prog.underlying t = some (.slice 5)) (hbase : base ≤ w.heap.size) {gb : Nat} {c : UInt8} (hB : Blk w gb 5 [.int .u8 (c.toNat : Int)]) (hl : l.length ≤ 1000000) (cc : Nat) :
    ∃ v' w', (Builtin.append_ #[t, t] ty #[v, .slice (some ⟨gb, 0, none⟩) 1 cc]).run Tryz.prog w = .ok v' w' ∧ OwnB w' base 5 v' (l ++ [c]) ∧ w.grownBy w' v.ownBlock ∧ (v'.ownBlock = v.ownBlock ∨ ∃ g, v'.ownBlock = some g ∧ w.heap.size ≤ g) := by
  obtain ⟨i, hi, hzz⟩ := Option.map_eq_some_iff.1 Tryz.info5
  simp only [Prod.mk.injEq] at hzz
  obtain ⟨hz0, hs, hby⟩ := hzz
  obtain ⟨v', w', hr, ho, hg, _, hat⟩ := run_append_own_at (P := Tryz.prog) w base t ty 5 i (.int .u8 0) 1 1 ht hi hz0 hs hby rfl (by omega) v l.length (u8s l) h ⟨gb, 0, none⟩ 1 cc [.int .u8 (c.toNat : Int)] rfl
    (by intro j u hj; rw [Addr.add_lit, Nat.zero_add, hB.cell]; exact hj) (by intro u hu; obtain rfl := List.mem_singleton.1 hu; rfl) (by simp only [maxLen]; omega) (by omega) hbase
  refine ⟨v', w', hr, ?_, hg, hat.imp_right fun e => ⟨_, e, Nat.le_refl _⟩⟩
  unfold OwnB
  rw [List.length_append, u8s_app]
  exact ho
/-- The last token's bytes put in place. -/
theorem row_set (h : w.ownsRow base 61 3 v ts.length (cellsT ts)) {g cap : Nat} (hv : v = .slice (some ⟨g, 0, none⟩) ts.length cap) {i : Nat} {t : Tv} (ht : ts[i]? = some t) (A : Option Addr) (l : List UInt8) (c : Nat) :
    (w.setCell ⟨g, 3 * i, none⟩ (.slice A l.length c)).ownsRow base 61 3 v (ts.set i ⟨A, l, c, t.n, t.d⟩).length (cellsT (ts.set i ⟨A, l, c, t.n, t.d⟩)) := by
  subst hv
  refine ⟨by rw [cellsT_len], ?_⟩
  rcases h.2 with ⟨hn, _⟩ | ⟨g', cap', cur, hv', hb, hg, hnc, hmx, hsz, htake⟩
  · cases hn
  · obtain ⟨rfl, rfl⟩ : g = g' ∧ cap = cap' := by simpa using hv'
    have hB : Blk w g 61 cur.toList := by unfold Blk; simpa using hg
    have hset := hB.set_ (3 * i) (.slice A l.length c)
    refine .inr ⟨g, cap, (cur.toList.set (3 * i) (.slice A l.length c)).toArray, by rw [List.length_set], hb, by unfold Blk at hset; exact hset, by rw [List.length_set]; exact hnc, hmx, by simp [hsz], ?_⟩
    rw [List.length_set]
    have := cellsT_set ts i t ht 0 (by omega) (.slice A l.length c) ⟨A, l, c, t.n, t.d⟩ rfl
    rw [Nat.add_zero] at this
    rw [← this, ← htake, List.take_set]
/-- A byte behind the last token's. -/
theorem OwnL.more {init : List Tv} {t : Tv} (h : OwnL w base v (init ++ [t])) (hl : t.l ≠ []) {w1 : World} {v1 : Value} {k : List UInt8} (h1 : OwnB w1 base 5 v1 k) (hk : k ≠ []) (hg1 : w.grownBy w1 (Value.slice t.A t.l.length t.c).ownBlock)
    (hat : v1.ownBlock = (Value.slice t.A t.l.length t.c).ownBlock ∨ ∃ g, v1.ownBlock = some g ∧ w.heap.size ≤ g) :
    ∃ A1 c1 g cap, v1 = .slice A1 k.length c1 ∧ v = .slice (some ⟨g, 0, none⟩) (init.length + 1) cap ∧ w1.cell? ⟨g, 3 * init.length, none⟩ = some (.slice t.A t.l.length t.c) ∧ w1.frozen? ⟨g, 3 * init.length, none⟩ = false ∧
      OwnL (w1.setCell ⟨g, 3 * init.length, none⟩ (.slice A1 k.length c1)) base v (init ++ [⟨A1, k, c1, t.n, t.d⟩]) ∧ Only (FL base w) w (w1.setCell ⟨g, 3 * init.length, none⟩ (.slice A1 k.length c1)) := by
  obtain ⟨hO, hdis⟩ := h.last init t rfl hl
  obtain ⟨g1, c1, r1, rfl, hb1, hc1, hB1⟩ := h1.blk (List.length_pos_iff.2 hk)
  obtain ⟨g, cap, rest, hv, hbg, hcap, hBg⟩ := h.own.blk (by simp)
  obtain ⟨gt, cst, hAt, hbt, hBt⟩ := own_at hO hl
  have hlen : (init ++ [t]).length = init.length + 1 := by simp
  have hgne : g ≠ gt := hBg.ne hBt (by decide)
  have hown : (Value.slice t.A t.l.length t.c).ownBlock = some gt := by rw [hAt]; rfl
  rw [hown] at hg1 hat
  have hBg1 : Blk w1 g 61 (cellsT (init ++ [t]) ++ rest) := hBg.grown hg1 (fun e => hgne (Option.some.inj e))
  have hcell : w1.cell? ⟨g, 3 * init.length, none⟩ = some (.slice t.A t.l.length t.c) := by
    rw [hBg1.cell, List.getElem?_append_left (by rw [cellsT_len, hlen]; omega)]
    have := cellsT_get (init ++ [t]) init.length t (by simp) 0 (by omega)
    rw [Nat.add_zero] at this
    rw [this]; rfl
  have hg1ne : g ≠ g1 := hBg1.ne hB1 (by decide)
  refine ⟨_, c1, g, cap, rfl, by rw [hv, hlen], hcell, hBg1.frozen _, ⟨⟨?_, ?_⟩, ?_⟩, ?_⟩
  · have hrow : w1.ownsRow base 61 3 v (init ++ [t]).length (cellsT (init ++ [t])) := by
      have hr0 := h.own.row
      refine ⟨hr0.1, ?_⟩
      rcases hr0.2 with hn | ⟨g', cap', cur, hv', hb', hg', r'⟩
      · exact .inl hn
      · obtain rfl : g = g' := by rw [hv] at hv'; simp at hv'; exact hv'.1
        exact .inr ⟨g, cap', cur, hv', hb', (hg1.block g (Array.getElem?_eq_some_iff.1 hg').1 (fun e => hgne (Option.some.inj e))).trans hg', r'⟩
    have := row_set hrow hv (i := init.length) (t := t) (by simp) (some ⟨g1, 0, none⟩) k c1
    have e : (init ++ [t]).set init.length ⟨some ⟨g1, 0, none⟩, k, c1, t.n, t.d⟩ = init ++ [⟨some ⟨g1, 0, none⟩, k, c1, t.n, t.d⟩] := by
      rw [List.set_append_right _ _ (Nat.le_refl _), Nat.sub_self]; rfl
    rw [e] at this
    exact this
  · intro s hs
    rcases List.mem_append.1 hs with hs | hs
    · obtain ⟨r0, r2⟩ := h.own.lits s (List.mem_append_left _ hs)
      refine ⟨?_, r2⟩
      rcases r0 with r0 | ⟨gs, os, cs, hA, hB, hc⟩
      · exact .inl r0
      · rcases hdis s hs with e | ⟨p, q, e1, e2, hne⟩
        · exact .inl e
        · rw [hAt] at e1; rw [hA] at e2
          obtain rfl := Option.some.inj e1
          obtain rfl := Option.some.inj e2
          have hB1' : Blk w1 gs 5 cs := hB.grown hg1 (fun e => hne (Option.some.inj e))
          exact .inr ⟨gs, os, cs, hA, hB1'.far (p := ⟨g, 3 * init.length, none⟩) (fun e' => hBg1.ne hB1' (by decide) (by rw [← show gs = g from e'])) _, hc⟩
    · obtain rfl := List.mem_singleton.1 hs
      exact ⟨.of_row (hB1.far (p := ⟨g, 3 * init.length, none⟩) (fun e' => hg1ne e'.symm) _), hc1⟩
  · intro init' y hy hyl
    obtain ⟨rfl, rfl⟩ : init = init' ∧ _ = y := by
      have := List.append_inj' hy rfl
      exact ⟨this.1, by simpa using this.2⟩
    refine ⟨h1.keep fun g' hg' => ?_, fun s hs => ?_⟩
    · obtain rfl : g1 = g' := by simpa [Value.ownBlock] using hg'
      exact Below.heap_setCell w1 ⟨g, 3 * init.length, none⟩ _ g1 (fun e => hg1ne e.symm)
    · obtain ⟨r0, _⟩ := h.own.lits s (List.mem_append_left _ hs)
      rcases r0 with r0 | ⟨gs, os, cs, hA, hB, _⟩
      · exact .inl r0
      · rcases hdis s hs with e | ⟨p, q, e1, e2, hne⟩
        · exact .inl e
        · refine .inr ⟨⟨g1, 0, none⟩, q, rfl, e2, fun e => ?_⟩
          rw [hAt] at e1
          obtain rfl := Option.some.inj e1
          rcases hat with h3 | ⟨g', h3, h4⟩
          · obtain rfl : g1 = gt := by simpa [Value.ownBlock] using h3
            exact hne e
          · obtain rfl : g1 = g' := by simpa [Value.ownBlock] using h3
            rw [hA] at e2
            obtain rfl := Option.some.inj e2
            have := hB.lt
            simp only at e
            omega
  · have o1 : Only (FL base w) w w1 := .of_grown hg1 (fun i e => by obtain rfl := Option.some.inj e; exact ⟨hbt, cst, .inr hBt⟩)
    exact o1.trans (.of_grown (row := some g) ⟨rfl, rfl, rfl, by simp, fun k' _ hr => Below.heap_setCell w1 ⟨g, 3 * init.length, none⟩ _ k' (fun e => hr (by rw [e]))⟩ (fun i e => by obtain rfl := Option.some.inj e; exact ⟨hbg, _, .inl hBg⟩))
end

set_option maxHeartbeats 1000000 in
theorem withByte_any (w : World) (base : Nat) (A : Option Addr) (ts : List Tv) (n cp : Nat) (c : UInt8) (hO : OwnL w base (.slice A n cp) ts) (hn : n = ts.length) (hl : n ≤ 100000) (hbase : base ≤ w.heap.size) (hgood : ∀ t ∈ ts, Lz.good t.tok = true) :
    Calls Tryz.prog 37 #[.slice A n cp, .int .u8 (c.toNat : Int)] w fun e w' => ∃ v' ts', e = .returned v' ∧ OwnL w' base v' ts' ∧ ts'.map Tv.tok = Lz.put (ts.map Tv.tok) c ∧ ts'.length ≤ ts.length + 1 ∧ Only (FL base w) w w' := by
  have new : ∀ (hlast : ∀ init t, ts = init ++ [t] → ¬ (t.n = 0 ∧ t.l.length < 128)), Lz.put (ts.map Tv.tok) c = (ts ++ [(⟨some ⟨w.heap.size, 0, none⟩, [c], 1, 0, 0⟩ : Tv)]).map Tv.tok := by
    intro hlast
    rcases List.eq_nil_or_concat ts with rfl | ⟨init, t, rfl⟩
    · rfl
    · rw [List.concat_eq_append] at hlast ⊢
      have hn' := hlast init t rfl
      rw [List.map_append, show List.map Tv.tok [t] = [t.tok] from rfl, Lz.put_snoc, if_neg (by exact hn')]
      simp [Tv.tok]
  have hB1 : Blk (w.alloc (.cells #[.int .u8 (c.toNat : Int)] 5)) w.heap.size 5 (u8s [c]) := Blk.new w 5 (u8s [c])
  have hb1 := below_alloc w (.cells #[.int .u8 (c.toNat : Int)] 5)
  have hO1 := hO.below hb1
  have hz1 : (w.alloc (.cells #[.int .u8 (c.toNat : Int)] 5)).heap.size = w.heap.size + 1 := World.size_alloc _ _
  obtain ⟨w1, hw1⟩ : ∃ w1, w.alloc (.cells #[.int .u8 (c.toNat : Int)] 5) = w1 := ⟨_, rfl⟩
  rw [hw1] at hB1 hb1 hO1 hz1
  -- a new token
  have hx : (⟨some ⟨w.heap.size, 0, none⟩, [c], 1, 0, 0⟩ : Tv).cells = [.slice (some ⟨w.heap.size, 0, none⟩) 1 1, .int .i64 0, .int .i64 0] := rfl
  have hB2 := Blk.new w1 61 (⟨some ⟨w.heap.size, 0, none⟩, [c], 1, 0, 0⟩ : Tv).cells
  have hb2 := below_alloc w1 (.cells (⟨some ⟨w.heap.size, 0, none⟩, [c], 1, 0, 0⟩ : Tv).cells.toArray 61)
  have hO2 := hO1.below hb2
  have hB12 := hB1.below hb2 hB1.lt
  have hz2 : (w1.alloc (.cells (⟨some ⟨w.heap.size, 0, none⟩, [c], 1, 0, 0⟩ : Tv).cells.toArray 61)).heap.size = w1.heap.size + 1 := World.size_alloc _ _
  obtain ⟨w2, hw2⟩ : ∃ w2, w1.alloc (.cells (⟨some ⟨w.heap.size, 0, none⟩, [c], 1, 0, 0⟩ : Tv).cells.toArray 61) = w2 := ⟨_, rfl⟩
  rw [hw2] at hB2 hb2 hO2 hB12 hz2
  have hown : OwnB w2 base 5 (.slice (some ⟨w.heap.size, 0, none⟩) 1 1) [c] := ⟨rfl, .inr ⟨w.heap.size, 1, (u8s [c]).toArray, rfl, hbase, hB12, Nat.le_refl _, by simp [maxLen], rfl, rfl⟩⟩
  obtain ⟨v3, w3, hr3, hO3, ho3, _⟩ := hO2.push (by omega) 42 42 Tryz.undToks (x := ⟨some ⟨w.heap.size, 0, none⟩, [c], 1, 0, 0⟩) hB2 (.of_row (rest := []) (by simpa using hB12)) (Nat.le_refl _) (by omega) 1 (fun _ => ⟨hown, fun s hs => by
    rcases (hO.own.lits s hs).1 with h0 | ⟨gs, os, cs, hA, hB, _⟩
    · exact .inl h0
    · exact .inr ⟨⟨w.heap.size, 0, none⟩, ⟨gs, os, none⟩, rfl, hA, by have := hB.lt; simp only; omega⟩⟩)
  have HNew := Lib.hid (show OwnL w3 base v3 _ ∧ Only (FL base w) w w3 from ⟨hO3, only_FL ((Only.of_below _ hb1).trans (.of_below _ hb2)) ho3⟩)
  have HPut := Lib.hid new
  rw [hz1] at hr3
  have HR3 := Lib.hid hr3
  have HW1 := Lib.hid hw1
  have HW2 := Lib.hid (show w1.alloc (.cells #[.slice (some ⟨w.heap.size, 0, none⟩) 1 1, .int .i64 0, .int .i64 0] 61) = w2 from hw2)
  have HN := Lib.hid hn
  have HO := Lib.hid hO
  have HO1 := Lib.hid hO1
  have HB1 := Lib.hid hB1
  have HG := Lib.hid hgood
  have HZ1 := Lib.hid hz1
  have Hb1 := Lib.hid hb1
  clear new hx hB1 hb1 hO1 hz1 hw1 hB2 hb2 hO2 hB12 hz2 hw2 hown hr3 hO3 ho3 hO hgood
  rcases Nat.eq_zero_or_pos n with h0 | hpos
  · subst h0
    have HE : Hid (Lz.put (ts.map Tv.tok) c = (ts ++ [(⟨some ⟨w.heap.size, 0, none⟩, [c], 1, 0, 0⟩ : Tv)]).map Tv.tok) := Lib.hid (HPut.out (fun init t e => by rw [e] at hn; simp at hn))
    clear hn
    go_enter Tryz.func37, Tryz.ntmps37
    go_wp2_with (at_builtin; rw [HW1.out, HW2.out]; refine wpList_append_run rfl (.tmp 39) (.tmp 43) _ rfl rfl rfl HR3.out ?_)
    go_ret
    exact ⟨_, _, rfl, HNew.out.1, HE.out.symm, by simp, HNew.out.2⟩
  · obtain ⟨m, rfl⟩ : ∃ m, n = m + 1 := ⟨n - 1, by omega⟩
    obtain ⟨init, t, rfl⟩ : ∃ init t, ts = init ++ [t] := by
      rcases List.eq_nil_or_concat ts with rfl | ⟨i, t, rfl⟩
      · simp at hn
      · exact ⟨i, t, List.concat_eq_append ..⟩
    have hm : m = init.length := by simpa using hn
    obtain ⟨g, cap, rest, hv, hbg, hcap, hBg⟩ := HO.out.own.blk (by simp)
    obtain ⟨rfl, -, rfl⟩ : A = some ⟨g, 0, none⟩ ∧ _ ∧ cp = cap := by simpa using hv
    have hc0 : w.cell? ⟨g, m * 3, none⟩ = some (.slice t.A t.l.length t.c) := by
      rw [hBg.cell, List.getElem?_append_left (by rw [cellsT_len, List.length_append]; simp; omega)]
      have := cellsT_get (init ++ [t]) init.length t (by simp) 0 (by omega)
      rw [Nat.add_zero] at this
      rw [hm, Nat.mul_comm, this]; rfl
    obtain ⟨ln, hln⟩ : ∃ ln, t.l.length = ln := ⟨_, rfl⟩
    rw [hln] at hc0
    have HLn := Lib.hid hln
    have HM := Lib.hid hm
    have hgt := Lz.good_len (HG.out t (by simp))
    have hin : (m : Int) < (m : Int) + 1 := by omega
    have d0 : decide ((0 : Int) < (m : Int) + 1) = true := by simp
    have hgt2 : (0 < ln → t.n = 0) ∧ (ln = 0 → t.n ≠ 0) := by
      obtain ⟨_, _, _, _, _, h6, h7⟩ := hgt
      constructor
      · intro h
        rcases h6 with e | e
        · rw [show t.l = [] from e, List.length_nil] at hln; omega
        · exact e.1
      · intro h e
        have := (h7 (List.eq_nil_of_length_eq_zero (show t.tok.lit.length = 0 by rw [← h, ← hln]; rfl))).1
        rw [show t.tok.len = t.n from rfl, e] at this
        omega
    have HGt := Lib.hid hgt2
    clear hv hcap hBg hm hln hgt hgt2 hn
    by_cases h0 : ln = 0
    · subst h0
      have HE : Hid (Lz.put ((init ++ [t]).map Tv.tok) c = ((init ++ [t]) ++ [(⟨some ⟨w.heap.size, 0, none⟩, [c], 1, 0, 0⟩ : Tv)]).map Tv.tok) := Lib.hid (HPut.out (fun i y e => by
        obtain ⟨rfl, rfl⟩ : init = i ∧ t = y := by have := List.append_inj' e rfl; exact ⟨this.1, by simpa using this.2⟩
        exact fun h => HGt.out.2 rfl h.1))
      go_enter Tryz.func37, Tryz.ntmps37
      go_wp2_with (at_builtin; rw [HW1.out, HW2.out]; refine wpList_append_run rfl (.tmp 39) (.tmp 43) _ rfl rfl rfl HR3.out ?_)
      go_ret
      have hE := HE.out
      rw [List.map_append] at hE
      exact ⟨_, rfl, _, HNew.out.1, hE.symm, by simp, HNew.out.2⟩
    · have d1 : decide ((0 : Int) < (ln : Int)) = true := by simp; omega
      by_cases h128 : ln < 128
      · have d2 : decide ((ln : Int) < 128) = true := by simp; omega
        have hne : t.l ≠ [] := fun e => by have := HLn.out; rw [e, List.length_nil] at this; omega
        have hO1 := HO1.out
        obtain ⟨v', w4, hr4, ho4, hg4, hat4⟩ := app_byte (hO1.last init t rfl hne).1 23 23 Tryz.und22 (by have := HZ1.out; omega) (c := c) HB1.out (by rw [HLn.out]; omega) 1
        obtain ⟨A1, c1, g', cap', rfl, hv5, hc5, hf5, hO5, ho5⟩ := hO1.more hne ho4 (by simp) hg4 hat4
        obtain ⟨rfl, -, -⟩ : g = g' ∧ _ ∧ cp = cap' := by simpa using hv5
        have hk : (t.l ++ [c]).length = ln + 1 := by rw [List.length_append, HLn.out]; rfl
        rw [hk] at hO5 ho5 hr4
        rw [HLn.out] at hr4 hc5
        rw [← HM.out, Nat.mul_comm] at hc5 hf5 hO5 ho5
        have HE : Hid (Lz.put ((init ++ [t]).map Tv.tok) c = (init ++ [(⟨A1, t.l ++ [c], c1, t.n, t.d⟩ : Tv)]).map Tv.tok) := Lib.hid (by
          rw [List.map_append, show List.map Tv.tok [t] = [t.tok] from rfl, Lz.put_snoc, if_pos ⟨HGt.out.1 (by omega), by show t.l.length < 128; rw [HLn.out]; exact h128⟩]
          simp [Tv.tok])
        have HF := Lib.hid (show OwnL _ base _ _ ∧ Only (FL base w) w _ from ⟨hO5, only_FL (Only.of_below _ Hb1.out) ho5⟩)
        have H4 := Lib.hid hr4
        clear hne hO1 hv5 ho4 hg4 hat4 hk hO5 ho5 hr4
        go_enter Tryz.func37, Tryz.ntmps37
        go_wp2_with (at_builtin; rw [HW1.out]; refine wpList_append_run rfl (.tmp 32) (.tmp 34) _ rfl rfl rfl H4.out ?_)
        go_ret
        exact ⟨_, _, rfl, HF.out.1, HE.out.symm, by simp, HF.out.2⟩
      · have d2 : decide ((ln : Int) < 128) = false := by simp; omega
        have HE : Hid (Lz.put ((init ++ [t]).map Tv.tok) c = ((init ++ [t]) ++ [(⟨some ⟨w.heap.size, 0, none⟩, [c], 1, 0, 0⟩ : Tv)]).map Tv.tok) := Lib.hid (HPut.out (fun i y e => by
          obtain ⟨rfl, rfl⟩ : init = i ∧ t = y := by have := List.append_inj' e rfl; exact ⟨this.1, by simpa using this.2⟩
          exact fun h => h128 (by rw [← HLn.out]; exact h.2)))
        go_enter Tryz.func37, Tryz.ntmps37
        go_wp2_with (at_builtin; rw [HW1.out, HW2.out]; refine wpList_append_run rfl (.tmp 39) (.tmp 43) _ rfl rfl rfl HR3.out ?_)
        go_ret
        exact ⟨_, _, rfl, HNew.out.1, HE.out.symm, by simp, HNew.out.2⟩
end Go.Proofs.YtdipflchmooakaaGreatDoor
namespace Go.Proofs.YtdipflchmooakaaGreatDoor
open Go.RowKit Go.Gar

set_option maxHeartbeats 2000000 in
theorem lzExpand_any (A : Option Addr) (ts : List Tv) (n c : Nat) (most : Int) (w : World) (hn : n = ts.length) (hr : RdT w w.heap.size A ts) (hl : n ≤ 100000) (E : Nat) (O : List UInt8) (hE : Lz.expand (ts.map Tv.tok) most = (E, O)) :
    Calls Tryz.prog 62 #[.slice A n c, .int .i64 most] w fun e w' => ∃ v, e = .returned (.tuple #[v, .int .i64 ((E : Nat) : Int)]) ∧ OwnB w' w.heap.size 5 v O ∧ Below w.heap.size w w' := by
  have hO0 : OwnB w w.heap.size 5 (.slice none 0 0) [] := World.ownsRow_nil _ _ _ _
  have hb0 := Below.refl w.heap.size w
  have HO0 := Lib.hid hO0
  have Hb0 := Lib.hid hb0
  have HN := Lib.hid hn
  have HR := Lib.hid hr
  have HE := Lib.hid hE
  clear hO0 hb0 hn hr hE
  go_enter Tryz.func62, Tryz.ntmps62
  go_wp2
  go_loopw [6, 11] (fun v iv W => ∃ (i : Nat) (x : List UInt8), i ≤ n ∧ iv = .int .i64 (i : Int) ∧ OwnB W w.heap.size 5 v x ∧ Lz.expd most ((ts.map Tv.tok).drop i) x = (E, O) ∧ x.length ≤ 130 * i ∧ Below w.heap.size w W) (fun _ iv _ => n - (intOf iv).toNat)
  case atStart => exact ⟨0, [], by omega, rfl, HO0.out, HE.out, by simp, Hb0.out⟩
  case round =>
    obtain ⟨i, x, hi, rfl, hO, hx, hxl, hb⟩ := hrel
    clear HO0 Hb0 HE
    have Hx := Lib.hid hx
    have HO := Lib.hid hO
    have Hb := Lib.hid hb
    clear hx hO hb
    by_cases hlt : i < n
    · have hits : i < ts.length := by rw [← HN.out]; exact hlt
      obtain ⟨t, ht⟩ : ∃ t, ts[i]? = some t := ⟨_, List.getElem?_eq_getElem hits⟩
      have hdrop : (ts.map Tv.tok).drop i = t.tok :: (ts.map Tv.tok).drop (i + 1) := by
        rw [List.drop_eq_getElem_cons (by rw [List.length_map]; exact hits)]
        congr 1
        rw [List.getElem_map, (List.getElem?_eq_some_iff.1 ht).2]
      have hexp := Hx.out
      rw [hdrop, Lz.expd] at hexp
      obtain ⟨b, o, rfl, hbB, hcl⟩ := HR.out.at_ ht
      have hlit := HR.out.lits t (List.mem_of_getElem? ht)
      have hcl' : ∀ j v, j < 3 → t.cells[j]? = some v → wr.cell? ⟨b, o + (3 * i + j), none⟩ = some v := fun j v hj hv => (Hb.out.cell (p := ⟨b, o + (3 * i + j), none⟩) hbB).trans (hcl j v hj hv)
      have hld := load_T hcl' (o + i * 3) (by omega)
      have hEa : (wr.alloc (.cells zT.toArray 61)).setRow wr.heap.size t.cells.toArray = wr.alloc (.cells t.cells.toArray 61) := World.setRow_alloc_new wr _ _ _
      have hB1 := Blk.new wr 61 t.cells
      have hb1 := below_alloc wr (.cells t.cells.toArray 61)
      obtain ⟨w1, hw1⟩ : ∃ w1, wr.alloc (.cells t.cells.toArray 61) = w1 := ⟨_, rfl⟩
      rw [hw1] at hEa hB1 hb1
      have hld1 := load_T0 hB1
      have HZ1 := Lib.hid (Blk.new wr 61 zT)
      have HEa := Lib.hid hEa
      have HB1 := Lib.hid hB1
      have Hb1 := Lib.hid hb1
      have Hld := Lib.hid hld
      have Hld1 := Lib.hid hld1
      have Hexp := Lib.hid hexp
      have HLit := Lib.hid hlit
      have Hdrop := Lib.hid hdrop
      have Hlt := Lib.hid hlt
      obtain ⟨Ao, co, rfl, hro⟩ := HO.out.rd
      obtain ⟨xl, hxn⟩ : ∃ xl, x.length = xl := ⟨_, rfl⟩
      have HXn := Lib.hid hxn
      obtain ⟨z, hz⟩ : ∃ z, z = Lz.good t.tok := ⟨_, rfl⟩
      have HZ := Lib.hid hz
      rw [hxn] at hxl ⊢
      clear hld hEa hB1 hb1 hw1 hld1 hexp hcl hcl' hlit hdrop hits ht hxn hz Hx hro
      go_wp2_with (first | refine wpList_load_at 61 (.tmp 13) rfl rfl t.cells.toArray Hld.out (by kernel_rfl) ?_ | refine wpList_alloc_arr rfl 61 zT.toArray rfl zero_T ?_ | (refine wpList_store_arr rfl 61 (.tmp 8) (.tmp 14) wr.heap.size zT t.cells rfl rfl rfl rfl HZ1.out (size_T t) rfl (fun u hu => cellsT_one [t] u (by simpa [cellsT] using hu)) ?_; rw [HEa.out]) | refine wpList_load_arr_w 61 (.tmp 8) rfl rfl t.cells.toArray Hld1.out (by kernel_rfl) ?_)
      refine (lzGood_any t w1 z HZ.out).mono ?_
      rintro e w2 ⟨rfl, hb2⟩
      have hB2 := HB1.out.below hb2 HB1.out.lt
      obtain ⟨gT, hgT⟩ : ∃ g, wr.heap.size = g := ⟨_, rfl⟩
      rw [hgT] at hB2 ⊢
      have hb02 : Below wr.heap.size wr w2 := Hb1.out.trans (hb2.mono Hb1.out.size)
      have HO2 : Hid (OwnB w2 w.heap.size 5 (.slice Ao xl co) x) := Lib.hid (by
        have := HO.out.keep (w' := w2) (fun g hg => hb02.block g (World.ownsRow.lt HO.out g hg).2)
        rw [HXn.out] at this
        exact this)
      have Hbw2 := Lib.hid (Hb.out.trans (hb02.mono Hb.out.size))
      have HB2 := Lib.hid hB2
      obtain ⟨ln, hln⟩ : ∃ ln, t.l.length = ln := ⟨_, rfl⟩
      have HLn := Lib.hid hln
      clear hb02 hb2 hB2 hgT HB1 Hb1 HZ1 HEa Hld Hld1 HO Hb hln
      cases z with
      | false =>
        obtain ⟨rfl, rfl⟩ : 3 = E ∧ [] = O := by
          have := Hexp.out
          rw [if_pos HZ.out.symm] at this
          simpa using this
        go_wp2
        go_ret2
        exact ⟨_, rfl, World.ownsRow_nil _ _ _ _, Hbw2.out⟩
      | true =>
        obtain ⟨g1, g2, g3, g4, g5, g6, g7⟩ := Lz.good_len HZ.out.symm
        obtain ⟨nn, hnn⟩ : ∃ nn : Nat, t.n = (nn : Int) := ⟨t.n.toNat, (Int.toNat_of_nonneg g1).symm⟩
        obtain ⟨dn, hdn⟩ : ∃ dn : Nat, t.d = (dn : Int) := ⟨t.d.toNat, (Int.toNat_of_nonneg g3).symm⟩
        have hnn' : t.tok.len = (nn : Int) := hnn
        have hdn' : t.tok.dist = (dn : Int) := hdn
        have hll' : t.tok.lit = t.l := rfl
        have hexp := Hexp.out
        rw [if_neg (by rw [← HZ.out]; simp), hnn', hdn', hll', HXn.out, HLn.out] at hexp
        rw [hnn'] at g2 g6 g7
        rw [hdn'] at g4 g6 g7
        rw [hll', HLn.out] at g5
        have hln128 : ln ≤ 128 := g5
        have hnn130 : nn ≤ 130 := by omega
        have h0 : ln = 0 ∨ nn = 0 := by
          rcases g6 with e | e
          · left; rw [← HLn.out, show t.l = [] from e]; rfl
          · right; omega
        have h1 : 0 < nn → 1 ≤ dn := fun h => by
          rcases g6 with e | e
          · have := (g7 e).2; omega
          · omega
        have H0 := Lib.hid h0
        have H1 := Lib.hid h1
        have Hexp := Lib.hid hexp
        have hact : Lz.act t.tok x = Lz.copyOn dn nn (x ++ t.l) := by
          unfold Lz.act
          rw [hnn', hdn', hll', Int.toNat_natCast, Int.toNat_natCast]
        have HAct := Lib.hid hact
        have c0 := HB2.out.cell 0
        have c1 := HB2.out.cell 1
        have c2 := HB2.out.cell 2
        rw [show t.cells[0]? = some (.slice t.A t.l.length t.c) from rfl, HLn.out] at c0
        rw [show t.cells[1]? = some (.int .i64 t.n) from rfl, hnn] at c1
        rw [show t.cells[2]? = some (.int .i64 t.d) from rfl, hdn] at c2
        have Hdn := Lib.hid hdn
        have Hnn := Lib.hid hnn
        clear g1 g2 g3 g4 g5 g6 g7 hnn hdn hnn' hdn' hll' hexp h0 h1 hact
        by_cases hd : xl < dn
        · have hd' : (xl : Int) < (dn : Int) := by omega
          obtain ⟨rfl, rfl⟩ : 12 = E ∧ [] = O := by
            have := Hexp.out
            rw [if_pos hd'] at this
            simpa using this
          go_wp2
          go_ret2
          exact ⟨_, rfl, World.ownsRow_nil _ _ _ _, Hbw2.out⟩
        · have hd' : ¬ (xl : Int) < (dn : Int) := by omega
          have hexp := Hexp.out
          rw [if_neg hd'] at hexp
          by_cases hm : most < (xl : Int) + (ln : Int) + (nn : Int)
          · obtain ⟨rfl, rfl⟩ : 2 = E ∧ [] = O := by
              rw [if_pos hm] at hexp
              simpa using hexp
            clear hexp
            go_wp2
            go_ret2
            exact ⟨_, rfl, World.ownsRow_nil _ _ _ _, Hbw2.out⟩
          · rw [if_neg hm, HAct.out] at hexp
            have Hexp2 := Lib.hid hexp
            clear hexp
            obtain ⟨v3, w3, e3, hO3, hb3, hg3⟩ := app_rd (P := Tryz.prog) 23 23 Tryz.und22 Tryz.info5 HO2.out Hbw2.out.size t.c (HLit.out.1.below Hbw2.out) (by rw [HXn.out, HLn.out]; omega)
            rw [HLn.out] at e3
            have He3 := Lib.hid e3
            have HO3 := Lib.hid hO3
            have Hb3 := Lib.hid (Hbw2.out.trans hb3)
            have HB3 := Lib.hid (HB2.out.grown hg3 (own_ne HO2.out HB2.out (by decide)))
            have c13 := HB3.out.cell 1
            rw [show t.cells[1]? = some (.int .i64 t.n) from rfl, Hnn.out] at c13
            clear e3 hO3 hb3 hg3
            go_wp2_with (at_builtin; refine wpList_append_run rfl (.tmp 34) (.tmp 36) _ rfl rfl rfl He3.out ?_)
            clear He3 c0 c1 c2 c13
            have hy0 : (x ++ t.l).length = xl + ln := by rw [List.length_append, HXn.out, HLn.out]
            have HY0 := Lib.hid hy0
            clear hy0
            go_loopw [6, 40] (fun v cv W => ∃ (c j : Nat) (y : List UInt8), c + j = nn ∧ cv = .int .i64 (c : Int) ∧ OwnB W w.heap.size 5 v y ∧ y.length = xl + ln + c ∧ Lz.copyOn dn j y = Lz.copyOn dn nn (x ++ t.l) ∧ dn ≤ y.length ∧ Below w.heap.size w W ∧ Blk W gT 61 t.cells) (fun _ cv _ => nn - (intOf cv).toNat)
            case atStart => exact ⟨0, nn, x ++ t.l, by omega, rfl, HO3.out, by rw [HY0.out]; rfl, rfl, by rw [HY0.out]; omega, Hb3.out, HB3.out⟩
            case round =>
              obtain ⟨c, j, y, hj, rfl, hOy, hyl, hcp, hdy, hby, hBy⟩ := hrel
              clear HO3 Hb3 HB3
              obtain ⟨yl, hyn⟩ : ∃ yl, y.length = yl := ⟨_, rfl⟩
              rw [hyn] at hyl hdy
              have hyb : yl ≤ 20000000 := by omega
              have HYl := Lib.hid hyl
              have HYn := Lib.hid hyn
              have HOy := Lib.hid hOy
              have HCp := Lib.hid hcp
              have Hby := Lib.hid hby
              have HBy := Lib.hid hBy
              clear hyn hOy hcp hby hBy hyl
              by_cases hj0 : j = 0
              · subst hj0
                obtain ⟨Ay, cy, rfl, _⟩ := HOy.out.rd
                obtain rfl : nn = c := by omega
                have hge : decide ((nn : Int) < (nn : Int)) = false := by simp
                have hOy := HOy.out
                rw [HYn.out] at hOy ⊢
                have hyx : y = Lz.copyOn dn nn (x ++ t.l) := HCp.out
                have Hex := Hexp2.out
                rw [← hyx] at Hex
                have Hex := Lib.hid Hex
                have HOy := Lib.hid hOy
                have hle : y.length ≤ 130 * (i + 1) := by
                  rw [HYn.out]
                  have hyl := HYl.out
                  rcases H0.out with h | h <;> omega
                have Hle := Lib.hid hle
                clear hyx hle hOy
                go_wp2
                exact ⟨⟨i + 1, y, by omega, by go_num, HOy.out, Hex.out, Hle.out, Hby.out⟩, by simp [intOf]; omega⟩
              · have hdn1 : 1 ≤ dn := H1.out (by omega)
                obtain ⟨gy, cy, ry, rfl, hgy, hcy, hBky⟩ := HOy.out.blk (by rw [HYn.out]; omega)
                obtain ⟨k, rfl⟩ : ∃ k, j = k + 1 := ⟨j - 1, by omega⟩
                have hlt2 : decide ((c : Int) < (nn : Int)) = true := by simp; omega
                have hix : yl - dn < y.length := by rw [HYn.out]; omega
                obtain ⟨ch, hch⟩ : ∃ ch, y[yl - dn]? = some ch := ⟨_, List.getElem?_eq_getElem hix⟩
                have hcell : wr.cell? ⟨gy, yl - dn, none⟩ = some (.int .u8 (ch.toNat : Int)) := by
                  rw [hBky.cell, List.getElem?_append_left (by rw [u8s_len]; exact hix), u8s_get, hch]; rfl
                have c2 := HBy.out.cell 2
                rw [show t.cells[2]? = some (.int .i64 t.d) from rfl, Hdn.out] at c2
                have hal := below_alloc wr (.cells #[.int .u8 (ch.toNat : Int)] 5)
                have hbn : Blk (wr.alloc (.cells #[.int .u8 (ch.toNat : Int)] 5)) wr.heap.size 5 (u8s [ch]) := Blk.new wr 5 (u8s [ch])
                have hOa := HOy.out.alloc (.cells #[.int .u8 (ch.toNat : Int)] 5)
                obtain ⟨v4, w4, e4, hO4, hb4, hg4⟩ := app_rd (P := Tryz.prog) 23 23 Tryz.und22 Tryz.info5 hOa (Nat.le_trans Hby.out.size hal.size) 1 (Rd.of_all hbn) (l := [ch]) (by rw [HYn.out]; simp; omega)
                have hT4 := (HBy.out.alloc (.cells #[.int .u8 (ch.toNat : Int)] 5)).grown hg4 (own_ne hOa (HBy.out.alloc _) (by decide))
                have hcp4 : Lz.copyOn dn k (y ++ [ch]) = Lz.copyOn dn nn (x ++ t.l) := by
                  rw [← HCp.out, Lz.copyOn, HYn.out, List.getD_eq_getElem?_getD, hch]
                  rfl
                have HO4 := Lib.hid hO4
                have Hb4 := Lib.hid (Hby.out.trans ((hal.mono Hby.out.size).trans hb4))
                have HT4 := Lib.hid hT4
                have HCp4 := Lib.hid hcp4
                have He4 := Lib.hid e4
                have HYl4 : Hid ((y ++ [ch]).length = yl + 1) := Lib.hid (by rw [List.length_append, HYn.out]; rfl)
                obtain ⟨A4, c4, rfl, _⟩ := hO4.rd
                rw [HYn.out]
                have HYm : Hid ((y ++ [ch]).length = xl + ln + (c + 1)) := Lib.hid (by rw [HYl4.out]; have := HYl.out; omega)
                clear hal hbn hOa hO4 hb4 hg4 hT4 hcp4 e4 hBky hgy hch hix
                rw [HYn.out] at He4 hcy
                rw [HYl4.out] at He4 HO4
                go_wp2_with (at_builtin; refine wpList_append_run rfl (.tmp 42) (.tmp 51) _ rfl rfl rfl He4.out ?_)
                exact ⟨⟨c + 1, k, y ++ [ch], by omega, by go_num, HO4.out, HYm.out, HCp4.out, by rw [HYl4.out]; omega, Hb4.out, HT4.out⟩, by simp [intOf]; omega⟩
    · obtain rfl : i = n := by omega
      have hexp := Hx.out
      rw [List.drop_eq_nil_of_le (by rw [List.length_map, ← HN.out]; exact Nat.le_refl _), Lz.expd] at hexp
      obtain ⟨rfl, rfl⟩ : 0 = E ∧ x = O := by simpa using hexp
      clear hexp
      go_wp2
      go_ret2
      exact ⟨_, rfl, HO.out, Hb.out⟩
end Go.Proofs.YtdipflchmooakaaGreatDoor
