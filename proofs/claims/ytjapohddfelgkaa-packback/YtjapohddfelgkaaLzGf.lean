/-
  The landed lz: the list of tokens while it grows; withByte: its contract.
-/
import Derived.Maps.AppendAt
import Derived.Test.YtjapohddfelgkaaLzTz
import Derived.Test.YtjapohddfelgkaaLzC
import Derived.Test.YtjapohddfelgkaaFoot
import Derived.Test.YtjapohddfelgkaaMapRun
set_option maxRecDepth 100000
namespace Go.Proofs.Ytjapohddfelgkaa
open Go.RowKit Go.Gar

/-- The blocks that may turn when a byte comes in. -/
def FL (base : Nat) (w : World) (g : Nat) : Prop := base ≤ g ∧ ∃ cs, Blk w g 41 cs ∨ Blk w g 5 cs
theorem FL.back {base : Nat} {a b : World} {g : Nat} (ho : Only (FL base a) a b) (h : FL base b g) : FL base a g ∨ a.heap.size ≤ g := by
  rcases Nat.lt_or_ge g a.heap.size with hlt | hge
  · refine .inl ?_
    by_cases hf : FL base a g
    · exact hf
    · obtain ⟨h1, cs, h2⟩ := h
      have := ho.block g hlt hf
      exact ⟨h1, cs, h2.imp (fun h => this.symm.trans h) (fun h => this.symm.trans h)⟩
  · exact .inr hge
theorem only_FL {base : Nat} {a b c : World} (h : Only (FL base a) a b) (k : Only (FL base b) b c) : Only (FL base a) a c := h.then k fun _ hi => FL.back h hi
/-- The tokens so far: the last one's bytes lie in a row of their own. -/
structure OwnL (w : World) (base : Nat) (v : Value) (ts : List Tv) : Prop where
  own : OwnT w base 41 5 v ts
  last : ∀ init t, ts = init ++ [t] → t.l ≠ [] → OwnB w base 5 (.slice t.A t.l.length t.c) t.l ∧ ∀ s ∈ init, s.l = [] ∨ ∃ p q, t.A = some p ∧ s.A = some q ∧ q.block ≠ p.block
section
variable {w w' : World} {base : Nat} {v : Value} {ts : List Tv}
theorem OwnL.nil (w : World) (base : Nat) : OwnL w base (.slice none 0 0) [] := ⟨ownT_nil _ _ _ _, fun init t h => by simp at h⟩
theorem own_at {t : Tv} {l : List UInt8} (h : OwnB w base 5 (.slice t.A t.l.length t.c) l) (hl : l ≠ []) : ∃ g cs, t.A = some ⟨g, 0, none⟩ ∧ base ≤ g ∧ Blk w g 5 cs := by
  rcases h.2 with ⟨_, hn⟩ | ⟨g, cap, cur, hv, hb, hg, _⟩
  · exact absurd (List.eq_nil_of_length_eq_zero hn) hl
  · simp only [Value.slice.injEq] at hv
    exact ⟨g, cur.toList, hv.1, hb, by unfold Blk; simpa using hg⟩
theorem OwnL.keep (h : OwnL w base v ts) (hk : ∀ g cs, Blk w g 41 cs ∨ Blk w g 5 cs → w'.heap[g]? = w.heap[g]?) : OwnL w' base v ts := by
  have hown : OwnT w' base 41 5 v ts := h.own.keep
    (fun g hg => by
      rcases h.own.row.2 with ⟨rfl, _⟩ | ⟨g', cap, cur, rfl, _, hg', _⟩
      · cases hg
      · obtain rfl : g' = g := by simpa [Value.ownBlock] using hg
        exact hk g' cur.toList (.inl (by unfold Blk; simpa using hg')))
    (fun t ht => by
      obtain ⟨h1, h2⟩ := h.own.lits t ht
      refine ⟨?_, h2⟩
      rcases h1 with h1 | ⟨g, o, cs, hA, hB, hc⟩
      · exact .inl h1
      · exact .inr ⟨g, o, cs, hA, (hk g cs (.inr hB)).trans hB, hc⟩)
  refine ⟨hown, fun init t ht hl => ?_⟩
  obtain ⟨h1, h2⟩ := h.last init t ht hl
  refine ⟨h1.keep fun g hg => ?_, h2⟩
  obtain ⟨g', cs, hA, _, hB⟩ := own_at h1 hl
  rw [hA] at hg
  obtain rfl : g' = g := by simpa [Value.ownBlock] using hg
  exact hk g' cs (.inr hB)
theorem OwnL.below (h : OwnL w base v ts) (hb : Below w.heap.size w w') : OwnL w' base v ts := h.keep fun g cs hB => hb.block g (by rcases hB with hB | hB <;> exact hB.lt)
theorem OwnL.only {F : Nat → Prop} (h : OwnL w base v ts) (ho : Only F w w') (hF : ∀ g, F g → ∀ cs, ¬ Blk w g 41 cs ∧ ¬ Blk w g 5 cs) : OwnL w' base v ts :=
  h.keep fun g cs hB => ho.block g (by rcases hB with hB | hB <;> exact hB.lt) fun hf => by
    rcases hB with hB | hB
    · exact (hF g hf cs).1 hB
    · exact (hF g hf cs).2 hB
/-- A token comes in. -/
theorem OwnL.push (h : OwnL w base v ts) (hbase : base ≤ w.heap.size) (t ty : TypeId) (ht : Try.prog.underlying t = some (.slice 41)) {g : Nat} {x : Tv} (hB : Blk w g 41 x.cells) (hx : RdB w 5 x.A x.l) (hxc : x.l.length ≤ x.c)
    (hl : ts.length + 1 ≤ 1099511627776) (c : Nat) (hnew : x.l ≠ [] → OwnB w base 5 (.slice x.A x.l.length x.c) x.l ∧ ∀ s ∈ ts, s.l = [] ∨ ∃ p q, x.A = some p ∧ s.A = some q ∧ q.block ≠ p.block) :
    ∃ v' w', (Builtin.append_ #[t, t] ty #[v, .slice (some ⟨g, 0, none⟩) 1 c]).run Try.prog w = .ok v' w' ∧ OwnL w' base v' (ts ++ [x]) ∧ Only (FL base w) w w' ∧ w.grownBy w' v.ownBlock := by
  obtain ⟨v', w', hr, ho, hb, hg⟩ := appT (P := Try.prog) t ty (z := .agg #[.slice none 0 0, .int .i64 0, .int .i64 0]) ht Try.infoTok rfl (by decide) h.own hbase g x hB hx hxc hl c
  refine ⟨v', w', hr, ⟨ho, fun init y hy hyl => ?_⟩, .of_grown hg (fun i e => ?_), hg⟩
  · obtain ⟨rfl, rfl⟩ : ts = init ∧ x = y := by
      have := List.append_inj' hy rfl
      exact ⟨this.1, by simpa using this.2⟩
    obtain ⟨h1, h2⟩ := hnew hyl
    refine ⟨h1.keep fun g' hg' => ?_, h2⟩
    obtain ⟨g2, cs, hA, _, hB2⟩ := own_at h1 hyl
    rw [hA] at hg'
    obtain rfl : g2 = g' := by simpa [Value.ownBlock] using hg'
    exact hg.block g2 hB2.lt (fun e => h.own.typed e.symm (by decide) cs hB2)
  · rcases h.own.row.2 with ⟨rfl, _⟩ | ⟨g', cap, cur, rfl, hb', hg', _⟩
    · cases e
    · obtain rfl : g' = i := by simpa [Value.ownBlock] using e
      exact ⟨hb', cur.toList, .inl (by unfold Blk; simpa using hg')⟩
/-- append of one byte, and where the row then lies. -/
theorem app_byte {l : List UInt8} (h : OwnB w base 5 v l) (t ty : TypeId) (ht : Try.prog.underlying t = some (.slice 5)) (hbase : base ≤ w.heap.size) {gb : Nat} {c : UInt8} (hB : Blk w gb 5 [.int .u8 (c.toNat : Int)]) (hl : l.length ≤ 1000000) (cc : Nat) :
    ∃ v' w', (Builtin.append_ #[t, t] ty #[v, .slice (some ⟨gb, 0, none⟩) 1 cc]).run Try.prog w = .ok v' w' ∧ OwnB w' base 5 v' (l ++ [c]) ∧ w.grownBy w' v.ownBlock ∧ (v'.ownBlock = v.ownBlock ∨ ∃ g, v'.ownBlock = some g ∧ w.heap.size ≤ g) := by
  obtain ⟨i, hi, hzz⟩ := Option.map_eq_some_iff.1 Try.info5
  simp only [Prod.mk.injEq] at hzz
  obtain ⟨hz0, hs, hby⟩ := hzz
  obtain ⟨v', w', hr, ho, hg, _, hat⟩ := run_append_own_at (P := Try.prog) w base t ty 5 i (.int .u8 0) 1 1 ht hi hz0 hs hby rfl (by omega) v l.length (u8s l) h ⟨gb, 0, none⟩ 1 cc [.int .u8 (c.toNat : Int)] rfl
    (by intro j u hj; rw [Addr.add_lit, Nat.zero_add, hB.cell]; exact hj) (by intro u hu; obtain rfl := List.mem_singleton.1 hu; rfl) (by simp only [maxLen]; omega) (by omega) hbase
  refine ⟨v', w', hr, ?_, hg, hat.imp_right fun e => ⟨_, e, Nat.le_refl _⟩⟩
  unfold OwnB
  rw [List.length_append, u8s_app]
  exact ho
/-- The last token's bytes put in place. -/
theorem row_set (h : w.ownsRow base 41 3 v ts.length (cellsT ts)) {g cap : Nat} (hv : v = .slice (some ⟨g, 0, none⟩) ts.length cap) {i : Nat} {t : Tv} (ht : ts[i]? = some t) (A : Option Addr) (l : List UInt8) (c : Nat) :
    (w.setCell ⟨g, 3 * i, none⟩ (.slice A l.length c)).ownsRow base 41 3 v (ts.set i ⟨A, l, c, t.n, t.d⟩).length (cellsT (ts.set i ⟨A, l, c, t.n, t.d⟩)) := by
  subst hv
  refine ⟨by rw [cellsT_len], ?_⟩
  rcases h.2 with ⟨hn, _⟩ | ⟨g', cap', cur, hv', hb, hg, hnc, hmx, hsz, htake⟩
  · cases hn
  · obtain ⟨rfl, rfl⟩ : g = g' ∧ cap = cap' := by simpa using hv'
    have hB : Blk w g 41 cur.toList := by unfold Blk; simpa using hg
    have hset := hB.set_ (3 * i) (.slice A l.length c)
    refine .inr ⟨g, cap, (cur.toList.set (3 * i) (.slice A l.length c)).toArray, by rw [List.length_set], hb, by unfold Blk at hset; exact hset, by rw [List.length_set]; exact hnc, hmx, by simp [hsz], ?_⟩
    rw [List.length_set]
    have := cellsT_set ts i t ht 0 (by omega) (.slice A l.length c) ⟨A, l, c, t.n, t.d⟩ rfl
    rw [Nat.add_zero] at this
    rw [← this, ← htake, List.take_set]
/-- A byte behind the last token's. -/
theorem OwnL.more {init : List Tv} {t : Tv} (h : OwnL w base v (init ++ [t])) (hl : t.l ≠ []) {w1 : World} {v1 : Value} {k : List UInt8} (h1 : OwnB w1 base 5 v1 k) (hk : k ≠ []) (hg1 : w.grownBy w1 (Value.slice t.A t.l.length t.c).ownBlock)
    (hat : v1.ownBlock = (Value.slice t.A t.l.length t.c).ownBlock ∨ ∃ g, v1.ownBlock = some g ∧ w.heap.size ≤ g) :
    ∃ A1 c1 g cap, v1 = .slice A1 k.length c1 ∧ v = .slice (some ⟨g, 0, none⟩) (init.length + 1) cap ∧ w1.cell? ⟨g, 3 * init.length, none⟩ = some (.slice t.A t.l.length t.c) ∧ w1.frozen? ⟨g, 3 * init.length, none⟩ = false ∧
      OwnL (w1.setCell ⟨g, 3 * init.length, none⟩ (.slice A1 k.length c1)) base v (init ++ [⟨A1, k, c1, t.n, t.d⟩]) ∧ Only (FL base w) w (w1.setCell ⟨g, 3 * init.length, none⟩ (.slice A1 k.length c1)) := by
  obtain ⟨hO, hdis⟩ := h.last init t rfl hl
  obtain ⟨g1, c1, r1, rfl, hb1, hc1, hB1⟩ := h1.blk (List.length_pos_iff.2 hk)
  obtain ⟨g, cap, rest, hv, hbg, hcap, hBg⟩ := h.own.blk (by simp)
  obtain ⟨gt, cst, hAt, hbt, hBt⟩ := own_at hO hl
  have hlen : (init ++ [t]).length = init.length + 1 := by simp
  have hgne : g ≠ gt := hBg.ne hBt (by decide)
  have hown : (Value.slice t.A t.l.length t.c).ownBlock = some gt := by rw [hAt]; rfl
  rw [hown] at hg1 hat
  have hBg1 : Blk w1 g 41 (cellsT (init ++ [t]) ++ rest) := hBg.grown hg1 (fun e => hgne (Option.some.inj e))
  have hcell : w1.cell? ⟨g, 3 * init.length, none⟩ = some (.slice t.A t.l.length t.c) := by
    rw [hBg1.cell, List.getElem?_append_left (by rw [cellsT_len, hlen]; omega)]
    have := cellsT_get (init ++ [t]) init.length t (by simp) 0 (by omega)
    rw [Nat.add_zero] at this
    rw [this]; rfl
  have hg1ne : g ≠ g1 := hBg1.ne hB1 (by decide)
  refine ⟨_, c1, g, cap, rfl, by rw [hv, hlen], hcell, hBg1.frozen _, ⟨⟨?_, ?_⟩, ?_⟩, ?_⟩
  · have hrow : w1.ownsRow base 41 3 v (init ++ [t]).length (cellsT (init ++ [t])) := by
      have hr0 := h.own.row
      refine ⟨hr0.1, ?_⟩
      rcases hr0.2 with hn | ⟨g', cap', cur, hv', hb', hg', r'⟩
      · exact .inl hn
      · obtain rfl : g = g' := by rw [hv] at hv'; simp at hv'; exact hv'.1
        exact .inr ⟨g, cap', cur, hv', hb', (hg1.block g (Array.getElem?_eq_some_iff.1 hg').1 (fun e => hgne (Option.some.inj e))).trans hg', r'⟩
    have := row_set hrow hv (i := init.length) (t := t) (by simp) (some ⟨g1, 0, none⟩) k c1
    have e : (init ++ [t]).set init.length ⟨some ⟨g1, 0, none⟩, k, c1, t.n, t.d⟩ = init ++ [⟨some ⟨g1, 0, none⟩, k, c1, t.n, t.d⟩] := by
      rw [List.set_append_right _ _ (Nat.le_refl _), Nat.sub_self]; rfl
    rw [e] at this
    exact this
  · intro s hs
    rcases List.mem_append.1 hs with hs | hs
    · obtain ⟨r0, r2⟩ := h.own.lits s (List.mem_append_left _ hs)
      refine ⟨?_, r2⟩
      rcases r0 with r0 | ⟨gs, os, cs, hA, hB, hc⟩
      · exact .inl r0
      · rcases hdis s hs with e | ⟨p, q, e1, e2, hne⟩
        · exact .inl e
        · rw [hAt] at e1; rw [hA] at e2
          obtain rfl := Option.some.inj e1
          obtain rfl := Option.some.inj e2
          have hB1' : Blk w1 gs 5 cs := hB.grown hg1 (fun e => hne (Option.some.inj e))
          exact .inr ⟨gs, os, cs, hA, hB1'.far (p := ⟨g, 3 * init.length, none⟩) (fun e' => hBg1.ne hB1' (by decide) (by rw [← show gs = g from e'])) _, hc⟩
    · obtain rfl := List.mem_singleton.1 hs
      exact ⟨.of_row (hB1.far (p := ⟨g, 3 * init.length, none⟩) (fun e' => hg1ne e'.symm) _), hc1⟩
  · intro init' y hy hyl
    obtain ⟨rfl, rfl⟩ : init = init' ∧ _ = y := by
      have := List.append_inj' hy rfl
      exact ⟨this.1, by simpa using this.2⟩
    refine ⟨h1.keep fun g' hg' => ?_, fun s hs => ?_⟩
    · obtain rfl : g1 = g' := by simpa [Value.ownBlock] using hg'
      exact Below.heap_setCell w1 ⟨g, 3 * init.length, none⟩ _ g1 (fun e => hg1ne e.symm)
    · obtain ⟨r0, _⟩ := h.own.lits s (List.mem_append_left _ hs)
      rcases r0 with r0 | ⟨gs, os, cs, hA, hB, _⟩
      · exact .inl r0
      · rcases hdis s hs with e | ⟨p, q, e1, e2, hne⟩
        · exact .inl e
        · refine .inr ⟨⟨g1, 0, none⟩, q, rfl, e2, fun e => ?_⟩
          rw [hAt] at e1
          obtain rfl := Option.some.inj e1
          rcases hat with h3 | ⟨g', h3, h4⟩
          · obtain rfl : g1 = gt := by simpa [Value.ownBlock] using h3
            exact hne e
          · obtain rfl : g1 = g' := by simpa [Value.ownBlock] using h3
            rw [hA] at e2
            obtain rfl := Option.some.inj e2
            have := hB.lt
            simp only at e
            omega
  · have o1 : Only (FL base w) w w1 := .of_grown hg1 (fun i e => by obtain rfl := Option.some.inj e; exact ⟨hbt, cst, .inr hBt⟩)
    exact o1.trans (.of_grown (row := some g) ⟨rfl, rfl, rfl, by simp, fun k' _ hr => Below.heap_setCell w1 ⟨g, 3 * init.length, none⟩ _ k' (fun e => hr (by rw [e]))⟩ (fun i e => by obtain rfl := Option.some.inj e; exact ⟨hbg, _, .inl hBg⟩))
end

set_option maxHeartbeats 1000000 in
theorem withByte_any (w : World) (base : Nat) (A : Option Addr) (ts : List Tv) (n cp : Nat) (c : UInt8) (hO : OwnL w base (.slice A n cp) ts) (hn : n = ts.length) (hl : n ≤ 100000) (hbase : base ≤ w.heap.size) (hgood : ∀ t ∈ ts, Lz.good t.tok = true) :
    Calls Try.prog 24 #[.slice A n cp, .int .u8 (c.toNat : Int)] w fun e w' => ∃ v' ts', e = .returned v' ∧ OwnL w' base v' ts' ∧ ts'.map Tv.tok = Lz.put (ts.map Tv.tok) c ∧ ts'.length ≤ ts.length + 1 ∧ Only (FL base w) w w' := by
  have new : ∀ (hlast : ∀ init t, ts = init ++ [t] → ¬ (t.n = 0 ∧ t.l.length < 128)), Lz.put (ts.map Tv.tok) c = (ts ++ [(⟨some ⟨w.heap.size, 0, none⟩, [c], 1, 0, 0⟩ : Tv)]).map Tv.tok := by
    intro hlast
    rcases List.eq_nil_or_concat ts with rfl | ⟨init, t, rfl⟩
    · rfl
    · rw [List.concat_eq_append] at hlast ⊢
      have hn' := hlast init t rfl
      rw [List.map_append, show List.map Tv.tok [t] = [t.tok] from rfl, Lz.put_snoc, if_neg (by exact hn')]
      simp [Tv.tok]
  have hB1 : Blk (w.alloc (.cells #[.int .u8 (c.toNat : Int)] 5)) w.heap.size 5 (u8s [c]) := Blk.new w 5 (u8s [c])
  have hb1 := below_alloc w (.cells #[.int .u8 (c.toNat : Int)] 5)
  have hO1 := hO.below hb1
  have hz1 : (w.alloc (.cells #[.int .u8 (c.toNat : Int)] 5)).heap.size = w.heap.size + 1 := World.size_alloc _ _
  obtain ⟨w1, hw1⟩ : ∃ w1, w.alloc (.cells #[.int .u8 (c.toNat : Int)] 5) = w1 := ⟨_, rfl⟩
  rw [hw1] at hB1 hb1 hO1 hz1
  -- a new token
  have hx : (⟨some ⟨w.heap.size, 0, none⟩, [c], 1, 0, 0⟩ : Tv).cells = [.slice (some ⟨w.heap.size, 0, none⟩) 1 1, .int .i64 0, .int .i64 0] := rfl
  have hB2 := Blk.new w1 41 (⟨some ⟨w.heap.size, 0, none⟩, [c], 1, 0, 0⟩ : Tv).cells
  have hb2 := below_alloc w1 (.cells (⟨some ⟨w.heap.size, 0, none⟩, [c], 1, 0, 0⟩ : Tv).cells.toArray 41)
  have hO2 := hO1.below hb2
  have hB12 := hB1.below hb2 hB1.lt
  have hz2 : (w1.alloc (.cells (⟨some ⟨w.heap.size, 0, none⟩, [c], 1, 0, 0⟩ : Tv).cells.toArray 41)).heap.size = w1.heap.size + 1 := World.size_alloc _ _
  obtain ⟨w2, hw2⟩ : ∃ w2, w1.alloc (.cells (⟨some ⟨w.heap.size, 0, none⟩, [c], 1, 0, 0⟩ : Tv).cells.toArray 41) = w2 := ⟨_, rfl⟩
  rw [hw2] at hB2 hb2 hO2 hB12 hz2
  have hown : OwnB w2 base 5 (.slice (some ⟨w.heap.size, 0, none⟩) 1 1) [c] := ⟨rfl, .inr ⟨w.heap.size, 1, (u8s [c]).toArray, rfl, hbase, hB12, Nat.le_refl _, by simp [maxLen], rfl, rfl⟩⟩
  obtain ⟨v3, w3, hr3, hO3, ho3, _⟩ := hO2.push (by omega) 33 33 Try.undToks (x := ⟨some ⟨w.heap.size, 0, none⟩, [c], 1, 0, 0⟩) hB2 (.of_row (rest := []) (by simpa using hB12)) (Nat.le_refl _) (by omega) 1 (fun _ => ⟨hown, fun s hs => by
    rcases (hO.own.lits s hs).1 with h0 | ⟨gs, os, cs, hA, hB, _⟩
    · exact .inl h0
    · exact .inr ⟨⟨w.heap.size, 0, none⟩, ⟨gs, os, none⟩, rfl, hA, by have := hB.lt; simp only; omega⟩⟩)
  have HNew := Lib.hid (show OwnL w3 base v3 _ ∧ Only (FL base w) w w3 from ⟨hO3, only_FL ((Only.of_below _ hb1).trans (.of_below _ hb2)) ho3⟩)
  have HPut := Lib.hid new
  rw [hz1] at hr3
  have HR3 := Lib.hid hr3
  have HW1 := Lib.hid hw1
  have HW2 := Lib.hid (show w1.alloc (.cells #[.slice (some ⟨w.heap.size, 0, none⟩) 1 1, .int .i64 0, .int .i64 0] 41) = w2 from hw2)
  have HN := Lib.hid hn
  have HO := Lib.hid hO
  have HO1 := Lib.hid hO1
  have HB1 := Lib.hid hB1
  have HG := Lib.hid hgood
  have HZ1 := Lib.hid hz1
  have Hb1 := Lib.hid hb1
  clear new hx hB1 hb1 hO1 hz1 hw1 hB2 hb2 hO2 hB12 hz2 hw2 hown hr3 hO3 ho3 hO hgood
  rcases Nat.eq_zero_or_pos n with h0 | hpos
  · subst h0
    have HE : Hid (Lz.put (ts.map Tv.tok) c = (ts ++ [(⟨some ⟨w.heap.size, 0, none⟩, [c], 1, 0, 0⟩ : Tv)]).map Tv.tok) := Lib.hid (HPut.out (fun init t e => by rw [e] at hn; simp at hn))
    clear hn
    go_enter Try.func24, Try.ntmps24
    go_wp2_with (at_builtin; rw [HW1.out, HW2.out]; refine wpList_append_run rfl (.tmp 39) (.tmp 43) _ rfl rfl rfl HR3.out ?_)
    go_ret
    exact ⟨_, _, rfl, HNew.out.1, HE.out.symm, by simp, HNew.out.2⟩
  · obtain ⟨m, rfl⟩ : ∃ m, n = m + 1 := ⟨n - 1, by omega⟩
    obtain ⟨init, t, rfl⟩ : ∃ init t, ts = init ++ [t] := by
      rcases List.eq_nil_or_concat ts with rfl | ⟨i, t, rfl⟩
      · simp at hn
      · exact ⟨i, t, List.concat_eq_append ..⟩
    have hm : m = init.length := by simpa using hn
    obtain ⟨g, cap, rest, hv, hbg, hcap, hBg⟩ := HO.out.own.blk (by simp)
    obtain ⟨rfl, -, rfl⟩ : A = some ⟨g, 0, none⟩ ∧ _ ∧ cp = cap := by simpa using hv
    have hc0 : w.cell? ⟨g, m * 3, none⟩ = some (.slice t.A t.l.length t.c) := by
      rw [hBg.cell, List.getElem?_append_left (by rw [cellsT_len, List.length_append]; simp; omega)]
      have := cellsT_get (init ++ [t]) init.length t (by simp) 0 (by omega)
      rw [Nat.add_zero] at this
      rw [hm, Nat.mul_comm, this]; rfl
    obtain ⟨ln, hln⟩ : ∃ ln, t.l.length = ln := ⟨_, rfl⟩
    rw [hln] at hc0
    have HLn := Lib.hid hln
    have HM := Lib.hid hm
    have hgt := Lz.good_len (HG.out t (by simp))
    have hin : (m : Int) < (m : Int) + 1 := by omega
    have d0 : decide ((0 : Int) < (m : Int) + 1) = true := by simp
    have hgt2 : (0 < ln → t.n = 0) ∧ (ln = 0 → t.n ≠ 0) := by
      obtain ⟨_, _, _, _, _, h6, h7⟩ := hgt
      constructor
      · intro h
        rcases h6 with e | e
        · rw [show t.l = [] from e, List.length_nil] at hln; omega
        · exact e.1
      · intro h e
        have := (h7 (List.eq_nil_of_length_eq_zero (show t.tok.lit.length = 0 by rw [← h, ← hln]; rfl))).1
        rw [show t.tok.len = t.n from rfl, e] at this
        omega
    have HGt := Lib.hid hgt2
    clear hv hcap hBg hm hln hgt hgt2 hn
    by_cases h0 : ln = 0
    · subst h0
      have HE : Hid (Lz.put ((init ++ [t]).map Tv.tok) c = ((init ++ [t]) ++ [(⟨some ⟨w.heap.size, 0, none⟩, [c], 1, 0, 0⟩ : Tv)]).map Tv.tok) := Lib.hid (HPut.out (fun i y e => by
        obtain ⟨rfl, rfl⟩ : init = i ∧ t = y := by have := List.append_inj' e rfl; exact ⟨this.1, by simpa using this.2⟩
        exact fun h => HGt.out.2 rfl h.1))
      go_enter Try.func24, Try.ntmps24
      go_wp2_with (at_builtin; rw [HW1.out, HW2.out]; refine wpList_append_run rfl (.tmp 39) (.tmp 43) _ rfl rfl rfl HR3.out ?_)
      go_ret
      have hE := HE.out
      rw [List.map_append] at hE
      exact ⟨_, rfl, _, HNew.out.1, hE.symm, by simp, HNew.out.2⟩
    · have d1 : decide ((0 : Int) < (ln : Int)) = true := by simp; omega
      by_cases h128 : ln < 128
      · have d2 : decide ((ln : Int) < 128) = true := by simp; omega
        have hne : t.l ≠ [] := fun e => by have := HLn.out; rw [e, List.length_nil] at this; omega
        have hO1 := HO1.out
        obtain ⟨v', w4, hr4, ho4, hg4, hat4⟩ := app_byte (hO1.last init t rfl hne).1 22 22 Try.und22 (by have := HZ1.out; omega) (c := c) HB1.out (by rw [HLn.out]; omega) 1
        obtain ⟨A1, c1, g', cap', rfl, hv5, hc5, hf5, hO5, ho5⟩ := hO1.more hne ho4 (by simp) hg4 hat4
        obtain ⟨rfl, -, -⟩ : g = g' ∧ _ ∧ cp = cap' := by simpa using hv5
        have hk : (t.l ++ [c]).length = ln + 1 := by rw [List.length_append, HLn.out]; rfl
        rw [hk] at hO5 ho5 hr4
        rw [HLn.out] at hr4 hc5
        rw [← HM.out, Nat.mul_comm] at hc5 hf5 hO5 ho5
        have HE : Hid (Lz.put ((init ++ [t]).map Tv.tok) c = (init ++ [(⟨A1, t.l ++ [c], c1, t.n, t.d⟩ : Tv)]).map Tv.tok) := Lib.hid (by
          rw [List.map_append, show List.map Tv.tok [t] = [t.tok] from rfl, Lz.put_snoc, if_pos ⟨HGt.out.1 (by omega), by show t.l.length < 128; rw [HLn.out]; exact h128⟩]
          simp [Tv.tok])
        have HF := Lib.hid (show OwnL _ base _ _ ∧ Only (FL base w) w _ from ⟨hO5, only_FL (Only.of_below _ Hb1.out) ho5⟩)
        have H4 := Lib.hid hr4
        clear hne hO1 hv5 ho4 hg4 hat4 hk hO5 ho5 hr4
        go_enter Try.func24, Try.ntmps24
        go_wp2_with (at_builtin; rw [HW1.out]; refine wpList_append_run rfl (.tmp 32) (.tmp 34) _ rfl rfl rfl H4.out ?_)
        go_ret
        exact ⟨_, _, rfl, HF.out.1, HE.out.symm, by simp, HF.out.2⟩
      · have d2 : decide ((ln : Int) < 128) = false := by simp; omega
        have HE : Hid (Lz.put ((init ++ [t]).map Tv.tok) c = ((init ++ [t]) ++ [(⟨some ⟨w.heap.size, 0, none⟩, [c], 1, 0, 0⟩ : Tv)]).map Tv.tok) := Lib.hid (HPut.out (fun i y e => by
          obtain ⟨rfl, rfl⟩ : init = i ∧ t = y := by have := List.append_inj' e rfl; exact ⟨this.1, by simpa using this.2⟩
          exact fun h => h128 (by rw [← HLn.out]; exact h.2)))
        go_enter Try.func24, Try.ntmps24
        go_wp2_with (at_builtin; rw [HW1.out, HW2.out]; refine wpList_append_run rfl (.tmp 39) (.tmp 43) _ rfl rfl rfl HR3.out ?_)
        go_ret
        exact ⟨_, _, rfl, HNew.out.1, HE.out.symm, by simp, HNew.out.2⟩
end Go.Proofs.Ytjapohddfelgkaa
