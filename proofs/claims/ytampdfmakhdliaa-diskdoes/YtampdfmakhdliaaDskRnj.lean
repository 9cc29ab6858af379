/-
  Layer 14: the reference's disk: New.
-/
import Derived.Test.YtampdfmakhdliaaDskRkj
import Derived.Maps.AppendAt
import Derived.Test.YtampdfmakhdliaaReg4j
import Derived.Test.YtampdfmakhdliaaDiskJ03
set_option maxRecDepth 100000
namespace Go.Proofs.Ytampdfmakhdliaa
open Go.RowKit Go.Gar
open Go.Gar.Dsk (Dsk Sec)

/-- A disk that is being made: k sectors stand. -/
structure MakeR (w0 w : World) (g k : Nat) (vG vS vA vO vW : Value) (kG kS kA kO kW : Nat) (gs ss : List Slc) : Prop where
  blk : Blk w g 32 [vG, vS, vA, vO, vW, .int .i64 (-1), .int .i64 0]
  rG : OwnV w w0.heap.size 40 vG (gs.map Slc.v)
  rS : OwnV w w0.heap.size 40 vS (ss.map Slc.v)
  rA : OwnV w w0.heap.size 3 vA (List.replicate kA (.int .i64 0))
  rO : OwnV w w0.heap.size 3 vO (List.replicate kO (.int .i64 0))
  rW : OwnV w w0.heap.size 4 vW (List.replicate kW (.bool false))
  lG : gs.length = kG
  lS : ss.length = kS
  hG : ∀ s ∈ gs, Hold w s Dsk.zero32 ∧ w0.heap.size ≤ s.b
  hS : ∀ s ∈ ss, Hold w s Dsk.zero32 ∧ w0.heap.size ≤ s.b
  nGS : ∀ j, vG.ownBlock = some j → vS.ownBlock ≠ some j
  nAO : ∀ j, vA.ownBlock = some j → vO.ownBlock ≠ some j
  hg : w0.heap.size ≤ g
  bel : Below w0.heap.size w0 w
theorem OwnV.typed {w : World} {base : Nat} {t t' : TypeId} {v : Value} {vs : List Value} (h : OwnV w base t v vs) {j : Nat} (hj : v.ownBlock = some j) {cs : List Value} (hB : Blk w j t' cs) : t = t' := by
  rcases h.2 with ⟨rfl, _⟩ | ⟨g, cap, cur, rfl, _, hg, _⟩
  · simp [Value.ownBlock] at hj
  · obtain rfl : g = j := by simpa [Value.ownBlock] using hj
    unfold Blk at hB
    rw [hg] at hB
    have := Option.some.inj hB
    injection this
theorem OwnV.rowA {w : World} {base : Nat} {t : TypeId} {v : Value} {vs : List Value} (h : OwnV w base t v vs) : RowA w t v vs := by
  by_cases hk : 0 < vs.length
  · obtain ⟨g, cap, rest, hv, _, hc, hB⟩ := h.blk hk
    exact .inr ⟨g, cap, rest, hv, hc, hB⟩
  · have hn : vs = [] := List.eq_nil_of_length_eq_zero (by omega)
    subst hn
    rcases h.2 with ⟨rfl, _⟩ | ⟨g, cap, cur, rfl, _, hg, hc, _, _, ht⟩
    · exact .inl ⟨rfl, rfl⟩
    · exact .inr ⟨g, cap, cur.toList, rfl, hc, by unfold Blk; simpa using hg⟩
theorem Hold.lt {w : World} {s : Slc} {l : List UInt8} (h : Hold w s l) : s.b < w.heap.size := by
  obtain ⟨_, _, rest, hB⟩ := h
  exact hB.lt
theorem OwnV.base_le {w : World} {base : Nat} {t : TypeId} {v : Value} {vs : List Value} (h : OwnV w base t v vs) {j : Nat} (hj : v.ownBlock = some j) : base ≤ j := by
  rcases h.2 with ⟨rfl, _⟩ | ⟨g, cap, cur, rfl, hb, _⟩
  · simp [Value.ownBlock] at hj
  · obtain rfl : g = j := by simpa [Value.ownBlock] using hj
    exact hb
theorem MakeR.refD {w0 w : World} {g k : Nat} {vG vS vA vO vW : Value} {gs ss : List Slc} (h : MakeR w0 w g k vG vS vA vO vW k k k k k gs ss) {n : Int} (hk : k = min n.toNat 4096) : RefD w (fun j => w0.heap.size ≤ j ∧ j < w.heap.size) g (Dsk.new n) := by
  have hsecs : (Dsk.new n).secs = List.replicate k Sec.new := by rw [hk]; rfl
  have hget : ∀ (i : Nat) (x : Sec), (Dsk.new n).secs[i]? = some x → x = Sec.new := by
    intro i x hx
    rw [hsecs] at hx
    exact (List.mem_replicate.1 (List.mem_of_getElem? hx)).2
  have hmap : ∀ f : Sec → Value, (Dsk.new n).secs.map f = List.replicate k (f Sec.new) := by
    intro f
    rw [hsecs, List.map_replicate]
  refine ⟨vG, vS, vA, vO, vW, gs, ss, -1, ?_⟩
  refine ⟨h.blk, ⟨⟨by decide, by decide⟩, .inl ⟨by decide, rfl⟩⟩, OwnV.rowA h.rG, OwnV.rowA h.rS, ?_, ?_, ?_, ?_, ?_, ?_, ?_, h.nGS, h.nAO, ⟨h.hg, h.blk.lt⟩, ?_, ?_, ?_, ?_, ?_, ?_, ?_, fun j hj => hj.2, Dsk.Ok.new n⟩
  · rw [hmap]; exact OwnV.rowA h.rA
  · rw [hmap]; exact OwnV.rowA h.rO
  · rw [hmap]; exact OwnV.rowA h.rW
  · rw [hsecs, List.length_replicate]; exact h.lG
  · rw [hsecs, List.length_replicate]; exact h.lS
  · intro i s x h1 h2
    rw [hget i x h2]
    exact (h.hG s (List.mem_of_getElem? h1)).1
  · intro i s x h1 h2
    rw [hget i x h2]
    exact (h.hS s (List.mem_of_getElem? h1)).1
  · exact fun j hj => ⟨OwnV.base_le h.rG hj, (OwnV.rowA h.rG).lt hj⟩
  · exact fun j hj => ⟨OwnV.base_le h.rS hj, (OwnV.rowA h.rS).lt hj⟩
  · exact fun j hj => ⟨OwnV.base_le h.rA hj, (OwnV.rowA h.rA).lt hj⟩
  · exact fun j hj => ⟨OwnV.base_le h.rO hj, (OwnV.rowA h.rO).lt hj⟩
  · exact fun j hj => ⟨OwnV.base_le h.rW hj, (OwnV.rowA h.rW).lt hj⟩
  · exact fun s hs => ⟨(h.hG s hs).2, (h.hG s hs).1.lt⟩
  · exact fun s hs => ⟨(h.hS s hs).2, (h.hS s hs).1.lt⟩
theorem OwnV.keep {w w' : World} {base : Nat} {t : TypeId} {v : Value} {vs : List Value} (h : OwnV w base t v vs) (hk : ∀ j, v.ownBlock = some j → w'.heap[j]? = w.heap[j]?) : OwnV w' base t v vs := by
  refine ⟨h.1, ?_⟩
  rcases h.2 with h0 | ⟨g, cap, cur, rfl, hb, hg, h1⟩
  · exact .inl h0
  · exact .inr ⟨g, cap, cur, rfl, hb, (hk g rfl).trans hg, h1⟩
/-- append of one value that lies in a row of its own, just made; and where the row then lies. -/
theorem appAt_one {P : Program} {w : World} {base : Nat} {e : TypeId} {v : Value} {vs : List Value} {z : Value} {by_ : Nat} (t ty : TypeId) (ht : P.underlying t = some (.slice e)) (hinfo : (P.info? e).map (fun i => (i.zero, i.size, i.bytes)) = some (some z, 1, by_)) (hz : z.cells.size = 1)
    (hown : OwnV w base e v vs) (hbase : base ≤ w.heap.size) (u : Value) (hu : u.oneCell' = true) (hlen : vs.length + 1 ≤ 1099511627776) (hby : by_ ≤ 32) :
    ∃ v' w', (Builtin.append_ #[t, t] ty #[v, .slice (some ⟨w.heap.size, 0, none⟩) 1 1]).run P (w.alloc (.cells #[u] e)) = .ok v' w' ∧ OwnV w' base e v' (vs ++ [u]) ∧ Below base w w' ∧ w.grownBy w' v.ownBlock ∧ (v'.ownBlock = v.ownBlock ∨ v'.ownBlock = some (w.heap.size + 1)) ∧ (w.alloc (.cells #[u] e)).grownBy w' v.ownBlock := by
  obtain ⟨i, hi, hzz⟩ := Option.map_eq_some_iff.1 hinfo
  simp only [Prod.mk.injEq] at hzz
  obtain ⟨hz0, hs, hb⟩ := hzz
  have hmul : (vs.length + 1) * by_ ≤ (vs.length + 1) * 32 := Nat.mul_le_mul_left _ hby
  have hown1 : OwnV (w.alloc (.cells #[u] e)) base e v vs := hown.alloc (.cells #[u] e)
  obtain ⟨v', w', h1, h2, h3, _, h5⟩ := run_append_own_at (P := P) (w.alloc (.cells #[u] e)) base t ty e i _ 1 by_ ht hi hz0 hs hb hz (by omega) v vs.length vs hown1 ⟨w.heap.size, 0, none⟩ 1 1 [u] (by simp) (cell_one_new w u e) (by simpa using hu) (by simp only [maxLen]; omega) (by omega) (by rw [World.size_alloc]; omega)
  have hg := grown_two (World.grownBy_alloc w _ v.ownBlock) h3
  refine ⟨v', w', h1, ?_, (Below.refl base w).grown hg hbase (fun j hj => (World.ownsRow.lt hown j hj).1), hg, by rw [World.size_alloc] at h5; exact h5, h3⟩
  unfold OwnV
  rw [List.length_append]
  exact h2
section
variable {w0 W W' : World} {g k : Nat} {vG vS vA vO vW v' : Value} {kG kS kA kO kW : Nat} {gs ss : List Slc}
theorem MakeR.drew (h : MakeR w0 W g k vG vS vA vO vW kG kS kA kO kW gs ss) : MakeR w0 W.drew g k vG vS vA vO vW kG kS kA kO kW gs ss :=
  ⟨h.blk, h.rG, h.rS, h.rA, h.rO, h.rW, h.lG, h.lS, h.hG, h.hS, h.nGS, h.nAO, h.hg, h.bel.drew⟩
theorem MakeR.pushG (h : MakeR w0 W g k vG vS vA vO vW kG kS kA kO kW gs ss) (c : Nat) (hc : 32 ≤ c) (hnew : ∃ rest, Blk W' W.heap.size 5 (u8s Dsk.zero32 ++ rest))
    (hown : OwnV W' w0.heap.size 40 v' (gs.map Slc.v ++ [Slc.v ⟨W.heap.size, c⟩])) (hgr : W.grownBy W' vG.ownBlock) (hbel : Below w0.heap.size W W') (hat : v'.ownBlock = vG.ownBlock ∨ ∃ j, v'.ownBlock = some j ∧ W.heap.size < j) :
    MakeR w0 (W'.setCell ⟨g, 0, none⟩ v') g k v' vS vA vO vW (kG + 1) kS kA kO kW (gs ++ [⟨W.heap.size, c⟩]) ss := by
  have far : ∀ j, j ≠ g → (W'.setCell ⟨g, 0, none⟩ v').heap[j]? = W'.heap[j]? := fun j hj => Below.heap_setCell W' ⟨g, 0, none⟩ v' j hj
  have hgv : vG.ownBlock ≠ some g := fun e => absurd (OwnV.typed h.rG e h.blk) (by decide)
  have hgl := h.blk.lt
  have hk : ∀ j, j < W.heap.size → vG.ownBlock ≠ some j → j ≠ g → (W'.setCell ⟨g, 0, none⟩ v').heap[j]? = W.heap[j]? := fun j hj hn hne => (far j hne).trans (hgr.block j hj (fun e => hn e.symm))
  have hB1 : Blk W' g 32 [vG, vS, vA, vO, vW, .int .i64 (-1), .int .i64 0] := (hgr.block g hgl (fun e => hgv e.symm)).trans h.blk
  have hne : ∀ {t : TypeId} {v : Value} {vs : List Value}, OwnV W w0.heap.size t v vs → t ≠ 32 → (∀ j, v.ownBlock = some j → vG.ownBlock ≠ some j) → OwnV (W'.setCell ⟨g, 0, none⟩ v') w0.heap.size t v vs := by
    intro t v vs ho ht hd
    refine OwnV.keep ho fun j hj => hk j ((OwnV.rowA ho).lt hj) (hd j hj) fun e => ?_
    subst e
    exact ht (OwnV.typed ho hj h.blk)
  have hty : ∀ {t : TypeId} {v : Value} {vs : List Value}, OwnV W w0.heap.size t v vs → t ≠ 40 → ∀ j, v.ownBlock = some j → vG.ownBlock ≠ some j := by
    intro t v vs ho ht j hj e
    obtain ⟨cs, hcs⟩ : ∃ cs, Blk W j 40 cs := by
      rcases OwnV.rowA h.rG with ⟨rfl, _⟩ | ⟨b, c, rest, rfl, _, hB⟩
      · simp [Value.ownBlock] at e
      · obtain rfl : b = j := by simpa [Value.ownBlock] using e
        exact ⟨_, hB⟩
    exact ht (OwnV.typed ho hj hcs)
  have hsl : ∀ s : Slc, Hold W s Dsk.zero32 ∧ w0.heap.size ≤ s.b → Hold (W'.setCell ⟨g, 0, none⟩ v') s Dsk.zero32 ∧ w0.heap.size ≤ s.b := by
    intro s hs
    refine ⟨hs.1.keep (hk _ hs.1.lt (fun e => ?_) (hs.1.ne h.blk (by decide))), hs.2⟩
    obtain ⟨_, _, rest, hB⟩ := hs.1
    exact absurd (OwnV.typed h.rG e hB) (by decide)
  refine ⟨hB1.set_ 0 v', ?_, hne h.rS (by decide) (fun j hj e => h.nGS j e hj), hne h.rA (by decide) (hty h.rA (by decide)), hne h.rO (by decide) (hty h.rO (by decide)), hne h.rW (by decide) (hty h.rW (by decide)), ?_, h.lS, ?_, fun s hs => hsl s (h.hS s hs), ?_, h.nAO, h.hg, ?_⟩
  · rw [List.map_append, List.map_singleton]
    refine OwnV.keep hown fun j hj => far j ?_
    rcases hat with e | ⟨j', e, hlt⟩
    · exact fun e2 => hgv (by rw [← e, hj, e2])
    · rw [hj] at e
      have := Option.some.inj e
      omega
  · rw [List.length_append, h.lG]; rfl
  · intro s hs
    rcases List.mem_append.1 hs with hs | hs
    · exact hsl s (h.hG s hs)
    · obtain rfl : s = ⟨W.heap.size, c⟩ := by simpa using hs
      obtain ⟨rest, hB⟩ := hnew
      exact ⟨⟨hc, rfl, rest, (far W.heap.size (by omega)).trans hB⟩, h.bel.size⟩
  · intro j hj
    rcases hat with e | ⟨j', e, hlt⟩
    · exact h.nGS j (e ▸ hj)
    · intro e2
      have := (OwnV.rowA h.rS).lt e2
      rw [hj] at e
      have := Option.some.inj e
      omega
  · exact (h.bel.trans hbel).setCell h.hg _
theorem MakeR.pushS (h : MakeR w0 W g k vG vS vA vO vW kG kS kA kO kW gs ss) (c : Nat) (hc : 32 ≤ c) (hnew : ∃ rest, Blk W' W.heap.size 5 (u8s Dsk.zero32 ++ rest))
    (hown : OwnV W' w0.heap.size 40 v' (ss.map Slc.v ++ [Slc.v ⟨W.heap.size, c⟩])) (hgr : W.grownBy W' vS.ownBlock) (hbel : Below w0.heap.size W W') (hat : v'.ownBlock = vS.ownBlock ∨ ∃ j, v'.ownBlock = some j ∧ W.heap.size < j) :
    MakeR w0 (W'.setCell ⟨g, 1, none⟩ v') g k vG v' vA vO vW kG (kS + 1) kA kO kW gs (ss ++ [⟨W.heap.size, c⟩]) := by
  have far : ∀ j, j ≠ g → (W'.setCell ⟨g, 1, none⟩ v').heap[j]? = W'.heap[j]? := fun j hj => Below.heap_setCell W' ⟨g, 1, none⟩ v' j hj
  have hgv : vS.ownBlock ≠ some g := fun e => absurd (OwnV.typed h.rS e h.blk) (by decide)
  have hgl := h.blk.lt
  have hk : ∀ j, j < W.heap.size → vS.ownBlock ≠ some j → j ≠ g → (W'.setCell ⟨g, 1, none⟩ v').heap[j]? = W.heap[j]? := fun j hj hn hne => (far j hne).trans (hgr.block j hj (fun e => hn e.symm))
  have hB1 : Blk W' g 32 [vG, vS, vA, vO, vW, .int .i64 (-1), .int .i64 0] := (hgr.block g hgl (fun e => hgv e.symm)).trans h.blk
  have hne : ∀ {t : TypeId} {v : Value} {vs : List Value}, OwnV W w0.heap.size t v vs → t ≠ 32 → (∀ j, v.ownBlock = some j → vS.ownBlock ≠ some j) → OwnV (W'.setCell ⟨g, 1, none⟩ v') w0.heap.size t v vs := by
    intro t v vs ho ht hd
    refine OwnV.keep ho fun j hj => hk j ((OwnV.rowA ho).lt hj) (hd j hj) fun e => ?_
    subst e
    exact ht (OwnV.typed ho hj h.blk)
  have hty : ∀ {t : TypeId} {v : Value} {vs : List Value}, OwnV W w0.heap.size t v vs → t ≠ 40 → ∀ j, v.ownBlock = some j → vS.ownBlock ≠ some j := by
    intro t v vs ho ht j hj e
    obtain ⟨cs, hcs⟩ : ∃ cs, Blk W j 40 cs := by
      rcases OwnV.rowA h.rS with ⟨rfl, _⟩ | ⟨b, c, rest, rfl, _, hB⟩
      · simp [Value.ownBlock] at e
      · obtain rfl : b = j := by simpa [Value.ownBlock] using e
        exact ⟨_, hB⟩
    exact ht (OwnV.typed ho hj hcs)
  have hsl : ∀ s : Slc, Hold W s Dsk.zero32 ∧ w0.heap.size ≤ s.b → Hold (W'.setCell ⟨g, 1, none⟩ v') s Dsk.zero32 ∧ w0.heap.size ≤ s.b := by
    intro s hs
    refine ⟨hs.1.keep (hk _ hs.1.lt (fun e => ?_) (hs.1.ne h.blk (by decide))), hs.2⟩
    obtain ⟨_, _, rest, hB⟩ := hs.1
    exact absurd (OwnV.typed h.rS e hB) (by decide)
  refine ⟨hB1.set_ 1 v', hne h.rG (by decide) (fun j hj e => h.nGS j hj e), ?_, hne h.rA (by decide) (hty h.rA (by decide)), hne h.rO (by decide) (hty h.rO (by decide)), hne h.rW (by decide) (hty h.rW (by decide)), h.lG, ?_, fun s hs => hsl s (h.hG s hs), ?_, ?_, h.nAO, h.hg, ?_⟩
  · rw [List.map_append, List.map_singleton]
    refine OwnV.keep hown fun j hj => far j ?_
    rcases hat with e | ⟨j', e, hlt⟩
    · exact fun e2 => hgv (by rw [← e, hj, e2])
    · rw [hj] at e
      have := Option.some.inj e
      omega
  · rw [List.length_append, h.lS]; rfl
  · intro s hs
    rcases List.mem_append.1 hs with hs | hs
    · exact hsl s (h.hS s hs)
    · obtain rfl : s = ⟨W.heap.size, c⟩ := by simpa using hs
      obtain ⟨rest, hB⟩ := hnew
      exact ⟨⟨hc, rfl, rest, (far W.heap.size (by omega)).trans hB⟩, h.bel.size⟩
  · intro j hj e2
    rcases hat with e | ⟨j', e, hlt⟩
    · exact h.nGS j hj (e ▸ e2)
    · have := (OwnV.rowA h.rG).lt hj
      rw [e2] at e
      have := Option.some.inj e
      omega
  · exact (h.bel.trans hbel).setCell h.hg _
end
/-- A disk that is being made, within the third statement: the struct's cells lag behind the rows. -/
structure Mk3 (w0 w : World) (g : Nat) (vG vS cA cO cW vA vO vW : Value) (k kA kO kW : Nat) (gs ss : List Slc) : Prop where
  blk : Blk w g 32 [vG, vS, cA, cO, cW, .int .i64 (-1), .int .i64 0]
  rG : OwnV w w0.heap.size 40 vG (gs.map Slc.v)
  rS : OwnV w w0.heap.size 40 vS (ss.map Slc.v)
  rA : OwnV w w0.heap.size 3 vA (List.replicate kA (.int .i64 0))
  rO : OwnV w w0.heap.size 3 vO (List.replicate kO (.int .i64 0))
  rW : OwnV w w0.heap.size 4 vW (List.replicate kW (.bool false))
  lG : gs.length = k
  lS : ss.length = k
  hG : ∀ s ∈ gs, Hold w s Dsk.zero32 ∧ w0.heap.size ≤ s.b
  hS : ∀ s ∈ ss, Hold w s Dsk.zero32 ∧ w0.heap.size ≤ s.b
  nGS : ∀ j, vG.ownBlock = some j → vS.ownBlock ≠ some j
  nAO : ∀ j, vA.ownBlock = some j → vO.ownBlock ≠ some j
  hg : w0.heap.size ≤ g
  bel : Below w0.heap.size w0 w
theorem OwnV.ne {w : World} {base : Nat} {t t' : TypeId} {v v' : Value} {vs vs' : List Value} (h : OwnV w base t v vs) (h' : OwnV w base t' v' vs') (ht : t ≠ t') {j : Nat} (hj : v.ownBlock = some j) : v'.ownBlock ≠ some j := by
  intro e
  obtain ⟨cs, hcs⟩ : ∃ cs, Blk w j t' cs := by
    rcases OwnV.rowA h' with ⟨rfl, _⟩ | ⟨b, c, rest, rfl, _, hB⟩
    · simp [Value.ownBlock] at e
    · obtain rfl : b = j := by simpa [Value.ownBlock] using e
      exact ⟨_, hB⟩
  exact ht (OwnV.typed h hj hcs)
section
variable {w0 W W' : World} {g k : Nat} {vG vS cA cO cW vA vO vW v' : Value} {kA kO kW : Nat} {gs ss : List Slc}
theorem MakeR.toMk {k0 : Nat} (h : MakeR w0 W g k0 vG vS vA vO vW k k kA kO kW gs ss) : Mk3 w0 W g vG vS vA vO vW vA vO vW k kA kO kW gs ss :=
  ⟨h.blk, h.rG, h.rS, h.rA, h.rO, h.rW, h.lG, h.lS, h.hG, h.hS, h.nGS, h.nAO, h.hg, h.bel⟩
theorem Mk3.toMake (k0 : Nat) (h : Mk3 w0 W g vG vS vA vO vW vA vO vW k kA kO kW gs ss) : MakeR w0 W g k0 vG vS vA vO vW k k kA kO kW gs ss :=
  ⟨h.blk, h.rG, h.rS, h.rA, h.rO, h.rW, h.lG, h.lS, h.hG, h.hS, h.nGS, h.nAO, h.hg, h.bel⟩
theorem Mk3.alloc (h : Mk3 w0 W g vG vS cA cO cW vA vO vW k kA kO kW gs ss) (o : Obj) : Mk3 w0 (W.alloc o) g vG vS cA cO cW vA vO vW k kA kO kW gs ss :=
  ⟨h.blk.alloc _, OwnV.alloc h.rG _, OwnV.alloc h.rS _, OwnV.alloc h.rA _, OwnV.alloc h.rO _, OwnV.alloc h.rW _, h.lG, h.lS, fun s hs => ⟨(h.hG s hs).1.keep (((Below.refl _ W).alloc (Nat.le_refl _) o).block _ (h.hG s hs).1.lt), (h.hG s hs).2⟩, fun s hs => ⟨(h.hS s hs).1.keep (((Below.refl _ W).alloc (Nat.le_refl _) o).block _ (h.hS s hs).1.lt), (h.hS s hs).2⟩, h.nGS, h.nAO, h.hg, h.bel.alloc h.bel.size o⟩
/-- The struct's cells written anew. -/
theorem Mk3.cells (h : Mk3 w0 W g vG vS cA cO cW vA vO vW k kA kO kW gs ss) {i : Nat} {u cA' cO' cW' : Value} (hi : [vG, vS, cA, cO, cW, .int .i64 (-1), .int .i64 0].set i u = [vG, vS, cA', cO', cW', .int .i64 (-1), .int .i64 0]) : Mk3 w0 (W.setCell ⟨g, i, none⟩ u) g vG vS cA' cO' cW' vA vO vW k kA kO kW gs ss := by
  have far : ∀ j, j ≠ g → (W.setCell ⟨g, i, none⟩ u).heap[j]? = W.heap[j]? := fun j hj => Below.heap_setCell W ⟨g, i, none⟩ u j hj
  have row : ∀ {t : TypeId} {v : Value} {vs : List Value}, OwnV W w0.heap.size t v vs → t ≠ 32 → OwnV (W.setCell ⟨g, i, none⟩ u) w0.heap.size t v vs := by
    intro t v vs ho ht
    exact OwnV.keep ho fun j hj => far j fun e => by subst e; exact ht (OwnV.typed ho hj h.blk)
  exact ⟨by rw [← hi]; exact h.blk.set_ i u, row h.rG (by decide), row h.rS (by decide), row h.rA (by decide), row h.rO (by decide), row h.rW (by decide), h.lG, h.lS, fun s hs => ⟨(h.hG s hs).1.keep (far _ ((h.hG s hs).1.ne h.blk (by decide))), (h.hG s hs).2⟩, fun s hs => ⟨(h.hS s hs).1.keep (far _ ((h.hS s hs).1.ne h.blk (by decide))), (h.hS s hs).2⟩, h.nGS, h.nAO, h.hg, h.bel.setCell h.hg _⟩
theorem Mk3.pushA (h : Mk3 w0 W g vG vS cA cO cW vA vO vW k kA kO kW gs ss) (hown : OwnV W' w0.heap.size 3 v' (List.replicate (kA + 1) (.int .i64 0))) (hgr : W.grownBy W' vA.ownBlock) (hbel : Below w0.heap.size W W') (hat : v'.ownBlock = vA.ownBlock ∨ ∃ j, v'.ownBlock = some j ∧ W.heap.size ≤ j) :
    Mk3 w0 W' g vG vS cA cO cW v' vO vW k (kA + 1) kO kW gs ss := by
  have row : ∀ {t : TypeId} {v : Value} {vs : List Value}, OwnV W w0.heap.size t v vs → (∀ j, v.ownBlock = some j → vA.ownBlock ≠ some j) → OwnV W' w0.heap.size t v vs :=
    fun ho hd => OwnV.keep ho fun j hj => hgr.block j ((OwnV.rowA ho).lt hj) fun e => hd j hj e.symm
  have sl : ∀ s : Slc, Hold W s Dsk.zero32 ∧ w0.heap.size ≤ s.b → Hold W' s Dsk.zero32 ∧ w0.heap.size ≤ s.b := by
    intro s hs
    refine ⟨hs.1.keep (hgr.block _ hs.1.lt fun e => ?_), hs.2⟩
    obtain ⟨_, _, rest, hB⟩ := hs.1
    exact absurd (OwnV.typed h.rA e.symm hB) (by decide)
  refine ⟨(hgr.block g h.blk.lt fun e => absurd (OwnV.typed h.rA e.symm h.blk) (by decide)).trans h.blk, row h.rG (fun j hj => OwnV.ne h.rG h.rA (by decide) hj), row h.rS (fun j hj => OwnV.ne h.rS h.rA (by decide) hj), hown, row h.rO (fun j hj e => h.nAO j e hj), row h.rW (fun j hj => OwnV.ne h.rW h.rA (by decide) hj), h.lG, h.lS, fun s hs => sl s (h.hG s hs), fun s hs => sl s (h.hS s hs), h.nGS, ?_, h.hg, h.bel.trans hbel⟩
  intro j hj e2
  rcases hat with e | ⟨j', e, hlt⟩
  · exact h.nAO j (e ▸ hj) e2
  · have := (OwnV.rowA h.rO).lt e2
    rw [hj] at e
    have := Option.some.inj e
    omega
theorem Mk3.pushO (h : Mk3 w0 W g vG vS cA cO cW vA vO vW k kA kO kW gs ss) (hown : OwnV W' w0.heap.size 3 v' (List.replicate (kO + 1) (.int .i64 0))) (hgr : W.grownBy W' vO.ownBlock) (hbel : Below w0.heap.size W W') (hat : v'.ownBlock = vO.ownBlock ∨ ∃ j, v'.ownBlock = some j ∧ W.heap.size ≤ j) :
    Mk3 w0 W' g vG vS cA cO cW vA v' vW k kA (kO + 1) kW gs ss := by
  have row : ∀ {t : TypeId} {v : Value} {vs : List Value}, OwnV W w0.heap.size t v vs → (∀ j, v.ownBlock = some j → vO.ownBlock ≠ some j) → OwnV W' w0.heap.size t v vs :=
    fun ho hd => OwnV.keep ho fun j hj => hgr.block j ((OwnV.rowA ho).lt hj) fun e => hd j hj e.symm
  have sl : ∀ s : Slc, Hold W s Dsk.zero32 ∧ w0.heap.size ≤ s.b → Hold W' s Dsk.zero32 ∧ w0.heap.size ≤ s.b := by
    intro s hs
    refine ⟨hs.1.keep (hgr.block _ hs.1.lt fun e => ?_), hs.2⟩
    obtain ⟨_, _, rest, hB⟩ := hs.1
    exact absurd (OwnV.typed h.rO e.symm hB) (by decide)
  refine ⟨(hgr.block g h.blk.lt fun e => absurd (OwnV.typed h.rO e.symm h.blk) (by decide)).trans h.blk, row h.rG (fun j hj => OwnV.ne h.rG h.rO (by decide) hj), row h.rS (fun j hj => OwnV.ne h.rS h.rO (by decide) hj), row h.rA (fun j hj e => h.nAO j hj e), hown, row h.rW (fun j hj => OwnV.ne h.rW h.rO (by decide) hj), h.lG, h.lS, fun s hs => sl s (h.hG s hs), fun s hs => sl s (h.hS s hs), h.nGS, ?_, h.hg, h.bel.trans hbel⟩
  intro j hj e2
  rcases hat with e | ⟨j', e, hlt⟩
  · exact h.nAO j hj (e ▸ e2)
  · have := (OwnV.rowA h.rA).lt hj
    rw [e2] at e
    have := Option.some.inj e
    omega
theorem Mk3.pushW (h : Mk3 w0 W g vG vS cA cO cW vA vO vW k kA kO kW gs ss) (hown : OwnV W' w0.heap.size 4 v' (List.replicate (kW + 1) (.bool false))) (hgr : W.grownBy W' vW.ownBlock) (hbel : Below w0.heap.size W W') :
    Mk3 w0 W' g vG vS cA cO cW vA vO v' k kA kO (kW + 1) gs ss := by
  have row : ∀ {t : TypeId} {v : Value} {vs : List Value}, OwnV W w0.heap.size t v vs → (∀ j, v.ownBlock = some j → vW.ownBlock ≠ some j) → OwnV W' w0.heap.size t v vs :=
    fun ho hd => OwnV.keep ho fun j hj => hgr.block j ((OwnV.rowA ho).lt hj) fun e => hd j hj e.symm
  have sl : ∀ s : Slc, Hold W s Dsk.zero32 ∧ w0.heap.size ≤ s.b → Hold W' s Dsk.zero32 ∧ w0.heap.size ≤ s.b := by
    intro s hs
    refine ⟨hs.1.keep (hgr.block _ hs.1.lt fun e => ?_), hs.2⟩
    obtain ⟨_, _, rest, hB⟩ := hs.1
    exact absurd (OwnV.typed h.rW e.symm hB) (by decide)
  refine ⟨(hgr.block g h.blk.lt fun e => absurd (OwnV.typed h.rW e.symm h.blk) (by decide)).trans h.blk, row h.rG (fun j hj => OwnV.ne h.rG h.rW (by decide) hj), row h.rS (fun j hj => OwnV.ne h.rS h.rW (by decide) hj), row h.rA (fun j hj => OwnV.ne h.rA h.rW (by decide) hj), row h.rO (fun j hj => OwnV.ne h.rO h.rW (by decide) hj), hown, h.lG, h.lS, fun s hs => sl s (h.hG s hs), fun s hs => sl s (h.hS s hs), h.nGS, h.nAO, h.hg, h.bel.trans hbel⟩
end
/-- append of one value that lies in a row of its own. -/
theorem appAt {P : Program} {w : World} {base : Nat} {e : TypeId} {v : Value} {vs : List Value} {z : Value} {by_ : Nat} (t ty : TypeId) (ht : P.underlying t = some (.slice e)) (hinfo : (P.info? e).map (fun i => (i.zero, i.size, i.bytes)) = some (some z, 1, by_)) (hz : z.cells.size = 1)
    (hown : OwnV w base e v vs) (hbase : base ≤ w.heap.size) (b : Nat) (u : Value) (hB : Blk w b e [u]) (hu : u.oneCell' = true) (hlen : vs.length + 1 ≤ 1099511627776) (hby : by_ ≤ 32) :
    ∃ v' w', (Builtin.append_ #[t, t] ty #[v, .slice (some ⟨b, 0, none⟩) 1 1]).run P w = .ok v' w' ∧ OwnV w' base e v' (vs ++ [u]) ∧ w.grownBy w' v.ownBlock ∧ Below base w w' ∧ (v'.ownBlock = v.ownBlock ∨ ∃ j, v'.ownBlock = some j ∧ w.heap.size ≤ j) := by
  obtain ⟨i, hi, hzz⟩ := Option.map_eq_some_iff.1 hinfo
  simp only [Prod.mk.injEq] at hzz
  obtain ⟨hz0, hs, hb⟩ := hzz
  have hmul : (vs.length + 1) * by_ ≤ (vs.length + 1) * 32 := Nat.mul_le_mul_left _ hby
  have hx : ∀ j x, [u][j]? = some x → w.cell? ((⟨b, 0, none⟩ : Addr).add j) = some x := by
    intro j x hj
    match j, hj with
    | 0, hj =>
      simp at hj
      subst hj
      exact hB.cell 0
  obtain ⟨v', w', h1, h2, h3, _, h5⟩ := run_append_own_at (P := P) w base t ty e i _ 1 by_ ht hi hz0 hs hb hz (by omega) v vs.length vs hown ⟨b, 0, none⟩ 1 1 [u] (by simp) hx (by simpa using hu) (by simp only [maxLen]; omega) (by omega) hbase
  refine ⟨v', w', h1, ?_, h3, (Below.refl base w).grown h3 hbase (fun j hj => (World.ownsRow.lt hown j hj).1), h5.imp_right fun e => ⟨_, e, Nat.le_refl _⟩⟩
  unfold OwnV
  rw [List.length_append]
  exact h2
theorem Try.infoI1 : (Try.prog.info? 3).map (fun i => (i.zero, i.size, i.bytes)) = some (some (.int .i64 0), 1, 8) := by kernel_rfl
theorem Try.infoB1 : (Try.prog.info? 4).map (fun i => (i.zero, i.size, i.bytes)) = some (some (.bool false), 1, 1) := by kernel_rfl
theorem Try.infoSl : (Try.prog.info? 40).map (fun i => (i.zero, i.size, i.bytes)) = some (some (.slice none 0 0), 1, 24) := by kernel_rfl
theorem builtRef : Try.prog.built 32 [(5, .int .i64 (-1))] = some #[.slice none 0 0, .slice none 0 0, .slice none 0 0, .slice none 0 0, .slice none 0 0, .int .i64 (-1), .int .i64 0] := by kernel_rfl
set_option maxHeartbeats 4000000 in
set_option maxRecDepth 100000 in
theorem refNew14_any (w : World) (n : Int) (hn : isI64 n) :
    Calls Try.prog 10 #[.int .i64 n] w fun e w' => ∃ F g, e = .returned (.pointer (some ⟨g, 0, none⟩)) ∧ RefD w' F g (Dsk.new n) ∧ (∀ j, F j → w.heap.size ≤ j) ∧ Below w.heap.size w w' := by
  have hB0 := Blk.new w 32 [.slice none 0 0, .slice none 0 0, .slice none 0 0, .slice none 0 0, .slice none 0 0, .int .i64 (-1), .int .i64 0]
  have hb0 := below_alloc w (.cells #[.slice none 0 0, .slice none 0 0, .slice none 0 0, .slice none 0 0, .slice none 0 0, .int .i64 (-1), .int .i64 0] 32)
  obtain ⟨w0, hw0⟩ : ∃ w0, w.alloc (.cells #[.slice none 0 0, .slice none 0 0, .slice none 0 0, .slice none 0 0, .slice none 0 0, .int .i64 (-1), .int .i64 0] 32) = w0 := ⟨_, rfl⟩
  rw [show (w.alloc (.cells [.slice none 0 0, .slice none 0 0, .slice none 0 0, .slice none 0 0, .slice none 0 0, .int .i64 (-1), .int .i64 0].toArray 32)) = w0 from hw0] at hB0
  rw [hw0] at hb0
  have nil : ∀ t, OwnV w0 w.heap.size t (.slice none 0 0) [] := fun t => ⟨rfl, .inl ⟨rfl, rfl⟩⟩
  have HM0 := Lib.hid (show MakeR w w0 w.heap.size 0 (.slice none 0 0) (.slice none 0 0) (.slice none 0 0) (.slice none 0 0) (.slice none 0 0) 0 0 0 0 0 [] [] from
    ⟨hB0, nil _, nil _, nil _, nil _, nil _, rfl, rfl, (fun s h => absurd h (by simp)), (fun s h => absurd h (by simp)), (fun j h => absurd h (by simp [Value.ownBlock])), (fun j h => absurd h (by simp [Value.ownBlock])), Nat.le_refl _, hb0⟩)
  have HW0 := Lib.hid hw0
  clear hB0 hb0 hw0 nil
  obtain ⟨m, hm⟩ : ∃ m : Nat, m = min n.toNat 4096 := ⟨_, rfl⟩
  have Hm := Lib.hid hm
  have Hn := Lib.hid hn
  obtain ⟨g, hg⟩ : ∃ g, g = w.heap.size := ⟨_, rfl⟩
  have Hg := Lib.hid hg
  clear hn hm hg
  go_enter Try.func10, Try.ntmps10
  go_wp2_with (first | refine wpList_build_w 32 _ rfl (by simp [Act.eval]) builtRef (by kernel_rfl) ?_ | (refine wpList_box_arr rfl 32 _ _ rfl rfl ?_; rw [HW0.out, ← Hg.out]))
  rw [← Hg.out] at HM0
  go_loopw [4] (fun i w' => ∃ k : Nat, k ≤ m ∧ i = .int .i64 k ∧ ∃ vG vS vA vO vW gs ss, MakeR w w' g k vG vS vA vO vW k k k k k gs ss) (fun i _ => m - (intOf i).toNat)
  case atStart => exact ⟨0, Nat.zero_le _, rfl, _, _, _, _, _, _, _, HM0.out⟩
  case round =>
    obtain ⟨k, hk, rfl, vG, vS, vA, vO, vW, gs, ss, hM⟩ := hrel
    clear HM0
    have HM := Lib.hid hM
    clear hM
    by_cases h1 : k < m
    · have hkm : k < 4096 := by have := Hm.out; omega
      have hd1 : decide ((k : Int) < n) = true := by have := Hm.out; simp; omega
      have hd2 : decide ((k : Int) < 4096) = true := by simp; omega
      go_wp2_with fail
      refine wp_region_G (onlyG (fun j => vG.ownBlock = some j ∨ wr.drew.heap.size ≤ j)) (by kernel_rfl) ?_
      have H1 := Lib.hid HM.out.drew
      clear HM
      generalize wr.drew = W at *
      have hgl := H1.out.blk.lt
      have hgF : ¬ (vG.ownBlock = some g ∨ W.heap.size ≤ g) := by
        rintro (e | e)
        · exact absurd (OwnV.typed H1.out.rG e H1.out.blk) (by decide)
        · omega
      have hl0 := cell_laterR (R := fun j => vG.ownBlock = some j ∨ W.heap.size ≤ j) H1.out.blk hgF (i := 0) rfl
      refine segG (by kernel_rfl) (fun _ _ _ _ _ h => h) [0, 1, 2, 3, 4] [_, _, _, _, _] 6 rfl rfl (by kernel_rfl) ?_
      repeat (go_big_quiet_step (fail))
      refine wpQuiet_nil ?_
      clear hl0
      obtain ⟨b0, hb0⟩ : ∃ b0, W.heap.size = b0 := ⟨_, rfl⟩
      have hmk : (Instr.makeSlice 40 (.int .i64 32) (.int .i64 32)).run Try.prog W = .ok (.slice (some ⟨W.heap.size, 0, none⟩) 32 32) (W.alloc (.cells (u8s Dsk.zero32).toArray 5)) := run_make_bytes 32 32 (by omega) (by omega) W
      rw [hb0] at hmk
      have hbl := below_alloc W (.cells (u8s Dsk.zero32).toArray 5)
      have hBn := Blk.new W 5 (u8s Dsk.zero32)
      have hgA := World.grownBy_alloc W (.cells (u8s Dsk.zero32).toArray 5) vG.ownBlock
      have hsz : (W.alloc (.cells (u8s Dsk.zero32).toArray 5)).heap.size = W.heap.size + 1 := World.size_alloc _ _
      have hon : OwnV (W.alloc (.cells (u8s Dsk.zero32).toArray 5)) w.heap.size 40 vG (gs.map Slc.v) := OwnV.alloc H1.out.rG _
      generalize W.alloc (.cells (u8s Dsk.zero32).toArray 5) = W1 at *
      refine oneG 5 5 rfl (by kernel_rfl) rfl ?_
      go_wp2
      refine ⟨Only.of_below _ hbl, ?_⟩
      refine oneG 6 4 rfl (by kernel_rfl) rfl ?_
      go_wp2
      obtain ⟨vG', W3, e1, ho3, hb3, hg3, hat3, hgr3⟩ := appAt_one (P := Try.prog) 28 28 Try.undSls Try.infoSl rfl hon (by rw [hsz]; have := H1.out.bel.size; omega) (Slc.v ⟨b0, 32⟩) rfl (by rw [List.length_map, H1.out.lG]; omega) (by omega)
      obtain ⟨A3, c3, hv3, _⟩ := (OwnV.rowA ho3).slice
      generalize (gs.map Slc.v ++ [Slc.v ⟨b0, 32⟩]).length = n3 at hv3
      subst hv3
      have hb4 := below_alloc W1 (.cells #[Slc.v ⟨b0, 32⟩] 40)
      have hbW : Below w.heap.size W W3 := (Below.mono hbl H1.out.bel.size).trans hb3
      have hPush := H1.out.pushG (v' := .slice A3 n3 c3) 32 (Nat.le_refl _) ⟨[], by rw [List.append_nil]; exact (hg3.block W.heap.size (by omega) (fun e => by have := (OwnV.rowA H1.out.rG).lt e.symm; omega)).trans hBn⟩ (by rw [hb0]; exact ho3) (grown_two hgA hg3) hbW (hat3.imp_right fun e => ⟨_, e, by omega⟩)
      have HM := Lib.hid hPush
      have hB3 : Blk W3 g 32 [vG, vS, vA, vO, vW, .int .i64 (-1), .int .i64 0] := (hg3.block g (by omega) (fun e => hgF (.inl e.symm))).trans ((hgA.block g hgl (fun e => hgF (.inl e.symm))).trans H1.out.blk)
      have hq := hB3.cell 0
      simp only [List.getElem?_cons_zero] at hq
      have hfz := hB3.frozen 0
      generalize hW2 : W1.alloc (.cells #[Slc.v ⟨b0, 32⟩] 40) = W2 at *
      rw [show W1.alloc (.cells #[.slice (some ⟨b0, 0, none⟩) 32 32] 40) = W2 from hW2]
      rw [hsz, hb0] at e1
      refine ⟨(Only.of_below _ hb4), ?_⟩
      refine oneG 7 3 rfl (by kernel_rfl) rfl ?_
      refine wpList_append_w (.tmp 20) (.tmp 22) _ rfl rfl rfl e1 (by kernel_rfl) ?_
      simp only [Act.put, List.setIfInBounds_toArray, List.set]
      go_wp2
      refine ⟨Only.of_grown hgr3 (fun i hi => .inl hi), ?_⟩
      clear hPush hB3 hmk hbl hBn hgA hsz hon e1 ho3 hb3 hg3 hat3 hgr3 hb4 hbW hW2
      refine segG (by kernel_rfl) (fun _ _ _ _ _ h => h) [8, 9] [_, _] 1 rfl rfl (by kernel_rfl) ?_
      repeat (go_big_quiet_step (fail))
      refine wpQuiet_nil ?_
      refine lateG 10 0 rfl (by kernel_rfl) (by kernel_rfl) rfl ?_
      go_wp2
      refine ⟨trivial, ?_⟩
      refine wpAnyG_done (by kernel_rfl) ?_
      clear hq hfz
      generalize W3.setCell ⟨g, 0, none⟩ (.slice A3 n3 c3) = wr2 at *
      generalize Value.slice A3 n3 c3 = vG2 at *
      generalize gs ++ [⟨W.heap.size, 32⟩] = gs2 at *
      clear H1 hgl hgF hb0
      go_wp2_with fail
      refine wp_region_G (onlyG (fun j => vS.ownBlock = some j ∨ wr2.drew.heap.size ≤ j)) (by kernel_rfl) ?_
      have H1 := Lib.hid HM.out.drew
      clear HM
      generalize wr2.drew = W at *
      have hgl := H1.out.blk.lt
      have hgF : ¬ (vS.ownBlock = some g ∨ W.heap.size ≤ g) := by
        rintro (e | e)
        · exact absurd (OwnV.typed H1.out.rS e H1.out.blk) (by decide)
        · omega
      have hl0 := cell_laterR (R := fun j => vS.ownBlock = some j ∨ W.heap.size ≤ j) H1.out.blk hgF (i := 1) rfl
      refine segG (by kernel_rfl) (fun _ _ _ _ _ h => h) [0, 1, 2, 3, 4] [_, _, _, _, _] 6 rfl rfl (by kernel_rfl) ?_
      repeat (go_big_quiet_step (fail))
      refine wpQuiet_nil ?_
      clear hl0
      obtain ⟨b0, hb0⟩ : ∃ b0, W.heap.size = b0 := ⟨_, rfl⟩
      have hmk : (Instr.makeSlice 40 (.int .i64 32) (.int .i64 32)).run Try.prog W = .ok (.slice (some ⟨W.heap.size, 0, none⟩) 32 32) (W.alloc (.cells (u8s Dsk.zero32).toArray 5)) := run_make_bytes 32 32 (by omega) (by omega) W
      rw [hb0] at hmk
      have hbl := below_alloc W (.cells (u8s Dsk.zero32).toArray 5)
      have hBn := Blk.new W 5 (u8s Dsk.zero32)
      have hgA := World.grownBy_alloc W (.cells (u8s Dsk.zero32).toArray 5) vS.ownBlock
      have hsz : (W.alloc (.cells (u8s Dsk.zero32).toArray 5)).heap.size = W.heap.size + 1 := World.size_alloc _ _
      have hon : OwnV (W.alloc (.cells (u8s Dsk.zero32).toArray 5)) w.heap.size 40 vS (ss.map Slc.v) := OwnV.alloc H1.out.rS _
      generalize W.alloc (.cells (u8s Dsk.zero32).toArray 5) = W1 at *
      refine oneG 5 5 rfl (by kernel_rfl) rfl ?_
      go_wp2
      refine ⟨Only.of_below _ hbl, ?_⟩
      refine oneG 6 4 rfl (by kernel_rfl) rfl ?_
      go_wp2
      obtain ⟨vS', W3, e1, ho3, hb3, hg3, hat3, hgr3⟩ := appAt_one (P := Try.prog) 28 28 Try.undSls Try.infoSl rfl hon (by rw [hsz]; have := H1.out.bel.size; omega) (Slc.v ⟨b0, 32⟩) rfl (by rw [List.length_map, H1.out.lS]; omega) (by omega)
      obtain ⟨A3, c3, hv3, _⟩ := (OwnV.rowA ho3).slice
      generalize (ss.map Slc.v ++ [Slc.v ⟨b0, 32⟩]).length = n3 at hv3
      subst hv3
      have hb4 := below_alloc W1 (.cells #[Slc.v ⟨b0, 32⟩] 40)
      have hbW : Below w.heap.size W W3 := (Below.mono hbl H1.out.bel.size).trans hb3
      have hPush := H1.out.pushS (v' := .slice A3 n3 c3) 32 (Nat.le_refl _) ⟨[], by rw [List.append_nil]; exact (hg3.block W.heap.size (by omega) (fun e => by have := (OwnV.rowA H1.out.rS).lt e.symm; omega)).trans hBn⟩ (by rw [hb0]; exact ho3) (grown_two hgA hg3) hbW (hat3.imp_right fun e => ⟨_, e, by omega⟩)
      have HM := Lib.hid hPush
      have hB3 : Blk W3 g 32 [vG2, vS, vA, vO, vW, .int .i64 (-1), .int .i64 0] := (hg3.block g (by omega) (fun e => hgF (.inl e.symm))).trans ((hgA.block g hgl (fun e => hgF (.inl e.symm))).trans H1.out.blk)
      have hq := hB3.cell 1
      simp only [List.getElem?_cons_zero, List.getElem?_cons_succ] at hq
      have hfz := hB3.frozen 1
      generalize hW2 : W1.alloc (.cells #[Slc.v ⟨b0, 32⟩] 40) = W2 at *
      rw [show W1.alloc (.cells #[.slice (some ⟨b0, 0, none⟩) 32 32] 40) = W2 from hW2]
      rw [hsz, hb0] at e1
      refine ⟨(Only.of_below _ hb4), ?_⟩
      refine oneG 7 3 rfl (by kernel_rfl) rfl ?_
      refine wpList_append_w (.tmp 30) (.tmp 32) _ rfl rfl rfl e1 (by kernel_rfl) ?_
      simp only [Act.put, List.setIfInBounds_toArray, List.set]
      go_wp2
      refine ⟨Only.of_grown hgr3 (fun i hi => .inl hi), ?_⟩
      clear hPush hB3 hmk hbl hBn hgA hsz hon e1 ho3 hb3 hg3 hat3 hgr3 hb4 hbW hW2
      refine segG (by kernel_rfl) (fun _ _ _ _ _ h => h) [8, 9] [_, _] 1 rfl rfl (by kernel_rfl) ?_
      repeat (go_big_quiet_step (fail))
      refine wpQuiet_nil ?_
      refine lateG 10 0 rfl (by kernel_rfl) (by kernel_rfl) rfl ?_
      go_wp2
      refine ⟨trivial, ?_⟩
      refine wpAnyG_done (by kernel_rfl) ?_
      clear hq hfz
      generalize W3.setCell ⟨g, 1, none⟩ (.slice A3 n3 c3) = wr3 at *
      generalize Value.slice A3 n3 c3 = vS2 at *
      generalize ss ++ [⟨W.heap.size, 32⟩] = ss2 at *
      clear H1 hgl hgF hb0
      have HK := Lib.hid HM.out.drew.toMk
      clear HM
      go_wp2_with fail
      refine wp_region_E [] freeG (by kernel_rfl) ?_
      generalize wr3.drew = V at *
      refine segE (by kernel_rfl) (fun _ _ _ _ _ h => h) [0, 1, 2, 3, 9, 15] [_, _, _, _, _, _] 24 rfl rfl (by kernel_rfl) ?_
      repeat (go_big_quiet_step (fail))
      refine wpQuiet_nil ?_
      refine toFree (E := [23, 26, 29]) (G := onlyG (fun j => vA.ownBlock = some j ∨ vO.ownBlock = some j ∨ vW.ownBlock = some j ∨ V.heap.size ≤ j)) ?_
      have hgF : ¬ (vA.ownBlock = some g ∨ vO.ownBlock = some g ∨ vW.ownBlock = some g ∨ V.heap.size ≤ g) := by
        rintro (e | e | e | e)
        · exact absurd (OwnV.typed HK.out.rA e HK.out.blk) (by decide)
        · exact absurd (OwnV.typed HK.out.rO e HK.out.blk) (by decide)
        · exact absurd (OwnV.typed HK.out.rW e HK.out.blk) (by decide)
        · have := HK.out.blk.lt; omega
      have hl2 := cell_laterR (R := fun j => vA.ownBlock = some j ∨ vO.ownBlock = some j ∨ vW.ownBlock = some j ∨ V.heap.size ≤ j) HK.out.blk hgF (i := 2) rfl
      have hl3 := cell_laterR (R := fun j => vA.ownBlock = some j ∨ vO.ownBlock = some j ∨ vW.ownBlock = some j ∨ V.heap.size ≤ j) HK.out.blk hgF (i := 3) rfl
      have hl4 := cell_laterR (R := fun j => vA.ownBlock = some j ∨ vO.ownBlock = some j ∨ vW.ownBlock = some j ∨ V.heap.size ≤ j) HK.out.blk hgF (i := 4) rfl
      refine segE (by kernel_rfl) (fun _ _ _ _ _ h => h) [4, 5, 6, 10, 11, 12, 16, 17, 18] [_, _, _, _, _, _, _, _, _] 15 rfl rfl (by kernel_rfl) ?_
      repeat (go_big_quiet_step (fail))
      refine wpQuiet_nil ?_
      clear hl2 hl3 hl4 hgF
      have HlA := Lib.hid (show ∀ j, vA.ownBlock = some j → j < V.heap.size from fun j hj => (OwnV.rowA HK.out.rA).lt hj)
      have HlO := Lib.hid (show ∀ j, vO.ownBlock = some j → j < V.heap.size from fun j hj => (OwnV.rowA HK.out.rO).lt hj)
      have HlW := Lib.hid (show ∀ j, vW.ownBlock = some j → j < V.heap.size from fun j hj => (OwnV.rowA HK.out.rW).lt hj)
      have HV := Lib.hid (Nat.le_refl V.heap.size)
      refine threeE 7 13 19 14 rfl (by kernel_rfl) rfl rfl rfl ?_ ?_ ?_
      · obtain ⟨bA, hbA⟩ : ∃ b, V.heap.size = b := ⟨_, rfl⟩
        have HKn := Lib.hid (HK.out.alloc (.cells #[.int .i64 0] 3))
        have HBA := Lib.hid (show Blk (V.alloc (.cells #[.int .i64 0] 3)) bA 3 [.int .i64 0] from hbA ▸ Blk.new V 3 [.int .i64 0])
        have HLA := Lib.hid (show V.heap.size ≤ bA by have := HV.out; omega)
        have HVn := Lib.hid (Nat.le_trans HV.out (below_alloc V (.cells #[.int .i64 0] 3)).size)
        have HR := Lib.hid (below_alloc V (.cells #[.int .i64 0] 3))
        clear HK HV
        go_wp2
        generalize V.alloc (.cells #[.int .i64 0] 3) = VA at *
        have HK := HKn
        have HV := HVn
        clear HKn HVn
        refine ⟨Only.of_below _ HR.out, ?_⟩
        clear HR hbA
        refine threeE 8 13 19 13 rfl (by kernel_rfl) rfl rfl rfl ?_ ?_ ?_
        · obtain ⟨vA', VAa, e1, ho, hg, hb, hat⟩ := appAt (P := Try.prog) 29 29 Try.undIs Try.infoI1 rfl HK.out.rA HK.out.bel.size bA (.int .i64 0) HBA.out rfl (by rw [List.length_replicate]; omega) (by omega)
          obtain ⟨AA, cA, hvA, _⟩ := (OwnV.rowA ho).slice
          generalize (List.replicate k ((.int .i64 0) : Value) ++ [((.int .i64 0) : Value)]).length = nA at hvA
          subst hvA
          rw [← List.replicate_succ'] at ho
          have HKn := Lib.hid (HK.out.pushA ho hg hb hat)
          have HVn := Lib.hid (Nat.le_trans HV.out hg.size)
          have HR := Lib.hid hg
          clear HK HV ho hg hb hat
          have HK := HKn
          have HV := HVn
          clear HKn HVn
          refine wpList_append_w (.tmp 42) (.tmp 43) _ rfl rfl rfl e1 (by kernel_rfl) ?_
          simp only [Act.put, List.setIfInBounds_toArray, List.set]
          go_wp2
          refine ⟨Only.of_grown HR.out (fun i hi => .inl hi), ?_⟩
          clear HR e1 HBA
          refine twoE 13 19 12 rfl (by kernel_rfl) rfl rfl ?_ ?_
          · obtain ⟨bO, hbO⟩ : ∃ b, VAa.heap.size = b := ⟨_, rfl⟩
            have HKn := Lib.hid (HK.out.alloc (.cells #[.int .i64 0] 3))
            have HBO := Lib.hid (show Blk (VAa.alloc (.cells #[.int .i64 0] 3)) bO 3 [.int .i64 0] from hbO ▸ Blk.new VAa 3 [.int .i64 0])
            have HLO := Lib.hid (show V.heap.size ≤ bO by have := HV.out; omega)
            have HVn := Lib.hid (Nat.le_trans HV.out (below_alloc VAa (.cells #[.int .i64 0] 3)).size)
            have HR := Lib.hid (below_alloc VAa (.cells #[.int .i64 0] 3))
            clear HK HV
            go_wp2
            generalize VAa.alloc (.cells #[.int .i64 0] 3) = VAaO at *
            have HK := HKn
            have HV := HVn
            clear HKn HVn
            refine ⟨Only.of_below _ HR.out, ?_⟩
            clear HR hbO
            refine twoE 14 19 11 rfl (by kernel_rfl) rfl rfl ?_ ?_
            · obtain ⟨vO', VAaOo, e1, ho, hg, hb, hat⟩ := appAt (P := Try.prog) 29 29 Try.undIs Try.infoI1 rfl HK.out.rO HK.out.bel.size bO (.int .i64 0) HBO.out rfl (by rw [List.length_replicate]; omega) (by omega)
              obtain ⟨AO, cO, hvO, _⟩ := (OwnV.rowA ho).slice
              generalize (List.replicate k ((.int .i64 0) : Value) ++ [((.int .i64 0) : Value)]).length = nO at hvO
              subst hvO
              rw [← List.replicate_succ'] at ho
              have HKn := Lib.hid (HK.out.pushO ho hg hb hat)
              have HVn := Lib.hid (Nat.le_trans HV.out hg.size)
              have HR := Lib.hid hg
              clear HK HV ho hg hb hat
              have HK := HKn
              have HV := HVn
              clear HKn HVn
              refine wpList_append_w (.tmp 48) (.tmp 49) _ rfl rfl rfl e1 (by kernel_rfl) ?_
              simp only [Act.put, List.setIfInBounds_toArray, List.set]
              go_wp2
              refine ⟨Only.of_grown HR.out (fun i hi => .inr (.inl hi)), ?_⟩
              clear HR e1 HBO
              refine oneE 19 10 rfl (by kernel_rfl) rfl ?_
              obtain ⟨bW, hbW⟩ : ∃ b, VAaOo.heap.size = b := ⟨_, rfl⟩
              have HKn := Lib.hid (HK.out.alloc (.cells #[.bool false] 4))
              have HBW := Lib.hid (show Blk (VAaOo.alloc (.cells #[.bool false] 4)) bW 4 [.bool false] from hbW ▸ Blk.new VAaOo 4 [.bool false])
              have HLW := Lib.hid (show V.heap.size ≤ bW by have := HV.out; omega)
              have HVn := Lib.hid (Nat.le_trans HV.out (below_alloc VAaOo (.cells #[.bool false] 4)).size)
              have HR := Lib.hid (below_alloc VAaOo (.cells #[.bool false] 4))
              clear HK HV
              go_wp2
              generalize VAaOo.alloc (.cells #[.bool false] 4) = VAaOoW at *
              have HK := HKn
              have HV := HVn
              clear HKn HVn
              refine ⟨Only.of_below _ HR.out, ?_⟩
              clear HR hbW
              refine oneE 20 9 rfl (by kernel_rfl) rfl ?_
              obtain ⟨vW', VAaOoWw, e1, ho, hg, hb, hat⟩ := appAt (P := Try.prog) 30 30 Try.undBs Try.infoB1 rfl HK.out.rW HK.out.bel.size bW (.bool false) HBW.out rfl (by rw [List.length_replicate]; omega) (by omega)
              obtain ⟨AW, cW, hvW, _⟩ := (OwnV.rowA ho).slice
              generalize (List.replicate k ((.bool false) : Value) ++ [((.bool false) : Value)]).length = nW at hvW
              subst hvW
              rw [← List.replicate_succ'] at ho
              have HKn := Lib.hid (HK.out.pushW ho hg hb)
              have HVn := Lib.hid (Nat.le_trans HV.out hg.size)
              have HR := Lib.hid hg
              clear HK HV ho hg hb hat
              have HK := HKn
              have HV := HVn
              clear HKn HVn
              refine wpList_append_w (.tmp 54) (.tmp 55) _ rfl rfl rfl e1 (by kernel_rfl) ?_
              simp only [Act.put, List.setIfInBounds_toArray, List.set]
              go_wp2
              refine ⟨Only.of_grown HR.out (fun i hi => .inr (.inr (.inl hi))), ?_⟩
              clear HR e1 HBW
              have hq := HK.out.blk.cell 2
              simp only [List.getElem?_cons_zero, List.getElem?_cons_succ] at hq
              have hf := HK.out.blk.frozen 2
              refine segE (by kernel_rfl) (fun _ _ _ _ _ h => h) [21, 22] [_, _] 7 rfl rfl (by kernel_rfl) ?_
              repeat (go_big_quiet_step (fail))
              refine wpQuiet_nil ?_
              refine lateE 23 6 rfl (by kernel_rfl) (by kernel_rfl) rfl ?_
              have HKn := Lib.hid (HK.out.cells (i := 2) (u := (.slice AA nA cA)) rfl)
              clear HK
              go_wp2
              refine ⟨trivial, ?_⟩
              generalize VAaOoWw.setCell ⟨g, 2, none⟩ (.slice AA nA cA) = VAaOoWwx at *
              have HK := HKn
              clear HKn
              clear hq hf
              have hq := HK.out.blk.cell 3
              simp only [List.getElem?_cons_zero, List.getElem?_cons_succ] at hq
              have hf := HK.out.blk.frozen 3
              refine segE (by kernel_rfl) (fun _ _ _ _ _ h => h) [24, 25] [_, _] 4 rfl rfl (by kernel_rfl) ?_
              repeat (go_big_quiet_step (fail))
              refine wpQuiet_nil ?_
              refine lateE 26 3 rfl (by kernel_rfl) (by kernel_rfl) rfl ?_
              have HKn := Lib.hid (HK.out.cells (i := 3) (u := (.slice AO nO cO)) rfl)
              clear HK
              go_wp2
              refine ⟨trivial, ?_⟩
              generalize VAaOoWwx.setCell ⟨g, 3, none⟩ (.slice AO nO cO) = VAaOoWwy at *
              have HK := HKn
              clear HKn
              clear hq hf
              have hq := HK.out.blk.cell 4
              simp only [List.getElem?_cons_zero, List.getElem?_cons_succ] at hq
              have hf := HK.out.blk.frozen 4
              refine segE (by kernel_rfl) (fun _ _ _ _ _ h => h) [27, 28] [_, _] 1 rfl rfl (by kernel_rfl) ?_
              repeat (go_big_quiet_step (fail))
              refine wpQuiet_nil ?_
              refine lateE 29 0 rfl (by kernel_rfl) (by kernel_rfl) rfl ?_
              have HKn := Lib.hid (HK.out.cells (i := 4) (u := (.slice AW nW cW)) rfl)
              clear HK
              go_wp2
              refine ⟨trivial, ?_⟩
              generalize VAaOoWwy.setCell ⟨g, 4, none⟩ (.slice AW nW cW) = VAaOoWwz at *
              have HK := HKn
              clear HKn
              clear hq hf
              refine wpAnyE_done (by kernel_rfl) ?_
              go_wp2
              exact ⟨⟨k + 1, by omega, by go_num, vG2, vS2, _, _, _, gs2, ss2, HK.out.toMake (k + 1)⟩, by simp [intOf]; omega⟩
            · obtain ⟨bW, hbW⟩ : ∃ b, VAaO.heap.size = b := ⟨_, rfl⟩
              have HKn := Lib.hid (HK.out.alloc (.cells #[.bool false] 4))
              have HBW := Lib.hid (show Blk (VAaO.alloc (.cells #[.bool false] 4)) bW 4 [.bool false] from hbW ▸ Blk.new VAaO 4 [.bool false])
              replace HBO := Lib.hid (HBO.out.alloc (.cells #[.bool false] 4))
              have HLW := Lib.hid (show V.heap.size ≤ bW by have := HV.out; omega)
              have HVn := Lib.hid (Nat.le_trans HV.out (below_alloc VAaO (.cells #[.bool false] 4)).size)
              have HR := Lib.hid (below_alloc VAaO (.cells #[.bool false] 4))
              clear HK HV
              go_wp2
              generalize VAaO.alloc (.cells #[.bool false] 4) = VAaOW at *
              have HK := HKn
              have HV := HVn
              clear HKn HVn
              refine ⟨Only.of_below _ HR.out, ?_⟩
              clear HR hbW
              refine oneE 14 10 rfl (by kernel_rfl) rfl ?_
              obtain ⟨vO', VAaOWo, e1, ho, hg, hb, hat⟩ := appAt (P := Try.prog) 29 29 Try.undIs Try.infoI1 rfl HK.out.rO HK.out.bel.size bO (.int .i64 0) HBO.out rfl (by rw [List.length_replicate]; omega) (by omega)
              obtain ⟨AO, cO, hvO, _⟩ := (OwnV.rowA ho).slice
              generalize (List.replicate k ((.int .i64 0) : Value) ++ [((.int .i64 0) : Value)]).length = nO at hvO
              subst hvO
              rw [← List.replicate_succ'] at ho
              have HKn := Lib.hid (HK.out.pushO ho hg hb hat)
              replace HBW := Lib.hid (show Blk VAaOWo bW 4 [.bool false] from (hg.block bW HBW.out.lt (fun e => by have := HlO.out _ e.symm; have := HLW.out; omega)).trans HBW.out)
              have HVn := Lib.hid (Nat.le_trans HV.out hg.size)
              have HR := Lib.hid hg
              clear HK HV ho hg hb hat
              have HK := HKn
              have HV := HVn
              clear HKn HVn
              refine wpList_append_w (.tmp 48) (.tmp 49) _ rfl rfl rfl e1 (by kernel_rfl) ?_
              simp only [Act.put, List.setIfInBounds_toArray, List.set]
              go_wp2
              refine ⟨Only.of_grown HR.out (fun i hi => .inr (.inl hi)), ?_⟩
              clear HR e1 HBO
              refine oneE 20 9 rfl (by kernel_rfl) rfl ?_
              obtain ⟨vW', VAaOWow, e1, ho, hg, hb, hat⟩ := appAt (P := Try.prog) 30 30 Try.undBs Try.infoB1 rfl HK.out.rW HK.out.bel.size bW (.bool false) HBW.out rfl (by rw [List.length_replicate]; omega) (by omega)
              obtain ⟨AW, cW, hvW, _⟩ := (OwnV.rowA ho).slice
              generalize (List.replicate k ((.bool false) : Value) ++ [((.bool false) : Value)]).length = nW at hvW
              subst hvW
              rw [← List.replicate_succ'] at ho
              have HKn := Lib.hid (HK.out.pushW ho hg hb)
              have HVn := Lib.hid (Nat.le_trans HV.out hg.size)
              have HR := Lib.hid hg
              clear HK HV ho hg hb hat
              have HK := HKn
              have HV := HVn
              clear HKn HVn
              refine wpList_append_w (.tmp 54) (.tmp 55) _ rfl rfl rfl e1 (by kernel_rfl) ?_
              simp only [Act.put, List.setIfInBounds_toArray, List.set]
              go_wp2
              refine ⟨Only.of_grown HR.out (fun i hi => .inr (.inr (.inl hi))), ?_⟩
              clear HR e1 HBW
              have hq := HK.out.blk.cell 2
              simp only [List.getElem?_cons_zero, List.getElem?_cons_succ] at hq
              have hf := HK.out.blk.frozen 2
              refine segE (by kernel_rfl) (fun _ _ _ _ _ h => h) [21, 22] [_, _] 7 rfl rfl (by kernel_rfl) ?_
              repeat (go_big_quiet_step (fail))
              refine wpQuiet_nil ?_
              refine lateE 23 6 rfl (by kernel_rfl) (by kernel_rfl) rfl ?_
              have HKn := Lib.hid (HK.out.cells (i := 2) (u := (.slice AA nA cA)) rfl)
              clear HK
              go_wp2
              refine ⟨trivial, ?_⟩
              generalize VAaOWow.setCell ⟨g, 2, none⟩ (.slice AA nA cA) = VAaOWowx at *
              have HK := HKn
              clear HKn
              clear hq hf
              have hq := HK.out.blk.cell 3
              simp only [List.getElem?_cons_zero, List.getElem?_cons_succ] at hq
              have hf := HK.out.blk.frozen 3
              refine segE (by kernel_rfl) (fun _ _ _ _ _ h => h) [24, 25] [_, _] 4 rfl rfl (by kernel_rfl) ?_
              repeat (go_big_quiet_step (fail))
              refine wpQuiet_nil ?_
              refine lateE 26 3 rfl (by kernel_rfl) (by kernel_rfl) rfl ?_
              have HKn := Lib.hid (HK.out.cells (i := 3) (u := (.slice AO nO cO)) rfl)
              clear HK
              go_wp2
              refine ⟨trivial, ?_⟩
              generalize VAaOWowx.setCell ⟨g, 3, none⟩ (.slice AO nO cO) = VAaOWowy at *
              have HK := HKn
              clear HKn
              clear hq hf
              have hq := HK.out.blk.cell 4
              simp only [List.getElem?_cons_zero, List.getElem?_cons_succ] at hq
              have hf := HK.out.blk.frozen 4
              refine segE (by kernel_rfl) (fun _ _ _ _ _ h => h) [27, 28] [_, _] 1 rfl rfl (by kernel_rfl) ?_
              repeat (go_big_quiet_step (fail))
              refine wpQuiet_nil ?_
              refine lateE 29 0 rfl (by kernel_rfl) (by kernel_rfl) rfl ?_
              have HKn := Lib.hid (HK.out.cells (i := 4) (u := (.slice AW nW cW)) rfl)
              clear HK
              go_wp2
              refine ⟨trivial, ?_⟩
              generalize VAaOWowy.setCell ⟨g, 4, none⟩ (.slice AW nW cW) = VAaOWowz at *
              have HK := HKn
              clear HKn
              clear hq hf
              refine wpAnyE_done (by kernel_rfl) ?_
              go_wp2
              exact ⟨⟨k + 1, by omega, by go_num, vG2, vS2, _, _, _, gs2, ss2, HK.out.toMake (k + 1)⟩, by simp [intOf]; omega⟩
          · obtain ⟨bW, hbW⟩ : ∃ b, VAa.heap.size = b := ⟨_, rfl⟩
            have HKn := Lib.hid (HK.out.alloc (.cells #[.bool false] 4))
            have HBW := Lib.hid (show Blk (VAa.alloc (.cells #[.bool false] 4)) bW 4 [.bool false] from hbW ▸ Blk.new VAa 4 [.bool false])
            have HLW := Lib.hid (show V.heap.size ≤ bW by have := HV.out; omega)
            have HVn := Lib.hid (Nat.le_trans HV.out (below_alloc VAa (.cells #[.bool false] 4)).size)
            have HR := Lib.hid (below_alloc VAa (.cells #[.bool false] 4))
            clear HK HV
            go_wp2
            generalize VAa.alloc (.cells #[.bool false] 4) = VAaW at *
            have HK := HKn
            have HV := HVn
            clear HKn HVn
            refine ⟨Only.of_below _ HR.out, ?_⟩
            clear HR hbW
            refine oneE 13 11 rfl (by kernel_rfl) rfl ?_
            obtain ⟨bO, hbO⟩ : ∃ b, VAaW.heap.size = b := ⟨_, rfl⟩
            have HKn := Lib.hid (HK.out.alloc (.cells #[.int .i64 0] 3))
            have HBO := Lib.hid (show Blk (VAaW.alloc (.cells #[.int .i64 0] 3)) bO 3 [.int .i64 0] from hbO ▸ Blk.new VAaW 3 [.int .i64 0])
            replace HBW := Lib.hid (HBW.out.alloc (.cells #[.int .i64 0] 3))
            have HLO := Lib.hid (show V.heap.size ≤ bO by have := HV.out; omega)
            have HVn := Lib.hid (Nat.le_trans HV.out (below_alloc VAaW (.cells #[.int .i64 0] 3)).size)
            have HR := Lib.hid (below_alloc VAaW (.cells #[.int .i64 0] 3))
            clear HK HV
            go_wp2
            generalize VAaW.alloc (.cells #[.int .i64 0] 3) = VAaWO at *
            have HK := HKn
            have HV := HVn
            clear HKn HVn
            refine ⟨Only.of_below _ HR.out, ?_⟩
            clear HR hbO
            refine oneE 14 10 rfl (by kernel_rfl) rfl ?_
            obtain ⟨vO', VAaWOo, e1, ho, hg, hb, hat⟩ := appAt (P := Try.prog) 29 29 Try.undIs Try.infoI1 rfl HK.out.rO HK.out.bel.size bO (.int .i64 0) HBO.out rfl (by rw [List.length_replicate]; omega) (by omega)
            obtain ⟨AO, cO, hvO, _⟩ := (OwnV.rowA ho).slice
            generalize (List.replicate k ((.int .i64 0) : Value) ++ [((.int .i64 0) : Value)]).length = nO at hvO
            subst hvO
            rw [← List.replicate_succ'] at ho
            have HKn := Lib.hid (HK.out.pushO ho hg hb hat)
            replace HBW := Lib.hid (show Blk VAaWOo bW 4 [.bool false] from (hg.block bW HBW.out.lt (fun e => by have := HlO.out _ e.symm; have := HLW.out; omega)).trans HBW.out)
            have HVn := Lib.hid (Nat.le_trans HV.out hg.size)
            have HR := Lib.hid hg
            clear HK HV ho hg hb hat
            have HK := HKn
            have HV := HVn
            clear HKn HVn
            refine wpList_append_w (.tmp 48) (.tmp 49) _ rfl rfl rfl e1 (by kernel_rfl) ?_
            simp only [Act.put, List.setIfInBounds_toArray, List.set]
            go_wp2
            refine ⟨Only.of_grown HR.out (fun i hi => .inr (.inl hi)), ?_⟩
            clear HR e1 HBO
            refine oneE 20 9 rfl (by kernel_rfl) rfl ?_
            obtain ⟨vW', VAaWOow, e1, ho, hg, hb, hat⟩ := appAt (P := Try.prog) 30 30 Try.undBs Try.infoB1 rfl HK.out.rW HK.out.bel.size bW (.bool false) HBW.out rfl (by rw [List.length_replicate]; omega) (by omega)
            obtain ⟨AW, cW, hvW, _⟩ := (OwnV.rowA ho).slice
            generalize (List.replicate k ((.bool false) : Value) ++ [((.bool false) : Value)]).length = nW at hvW
            subst hvW
            rw [← List.replicate_succ'] at ho
            have HKn := Lib.hid (HK.out.pushW ho hg hb)
            have HVn := Lib.hid (Nat.le_trans HV.out hg.size)
            have HR := Lib.hid hg
            clear HK HV ho hg hb hat
            have HK := HKn
            have HV := HVn
            clear HKn HVn
            refine wpList_append_w (.tmp 54) (.tmp 55) _ rfl rfl rfl e1 (by kernel_rfl) ?_
            simp only [Act.put, List.setIfInBounds_toArray, List.set]
            go_wp2
            refine ⟨Only.of_grown HR.out (fun i hi => .inr (.inr (.inl hi))), ?_⟩
            clear HR e1 HBW
            have hq := HK.out.blk.cell 2
            simp only [List.getElem?_cons_zero, List.getElem?_cons_succ] at hq
            have hf := HK.out.blk.frozen 2
            refine segE (by kernel_rfl) (fun _ _ _ _ _ h => h) [21, 22] [_, _] 7 rfl rfl (by kernel_rfl) ?_
            repeat (go_big_quiet_step (fail))
            refine wpQuiet_nil ?_
            refine lateE 23 6 rfl (by kernel_rfl) (by kernel_rfl) rfl ?_
            have HKn := Lib.hid (HK.out.cells (i := 2) (u := (.slice AA nA cA)) rfl)
            clear HK
            go_wp2
            refine ⟨trivial, ?_⟩
            generalize VAaWOow.setCell ⟨g, 2, none⟩ (.slice AA nA cA) = VAaWOowx at *
            have HK := HKn
            clear HKn
            clear hq hf
            have hq := HK.out.blk.cell 3
            simp only [List.getElem?_cons_zero, List.getElem?_cons_succ] at hq
            have hf := HK.out.blk.frozen 3
            refine segE (by kernel_rfl) (fun _ _ _ _ _ h => h) [24, 25] [_, _] 4 rfl rfl (by kernel_rfl) ?_
            repeat (go_big_quiet_step (fail))
            refine wpQuiet_nil ?_
            refine lateE 26 3 rfl (by kernel_rfl) (by kernel_rfl) rfl ?_
            have HKn := Lib.hid (HK.out.cells (i := 3) (u := (.slice AO nO cO)) rfl)
            clear HK
            go_wp2
            refine ⟨trivial, ?_⟩
            generalize VAaWOowx.setCell ⟨g, 3, none⟩ (.slice AO nO cO) = VAaWOowy at *
            have HK := HKn
            clear HKn
            clear hq hf
            have hq := HK.out.blk.cell 4
            simp only [List.getElem?_cons_zero, List.getElem?_cons_succ] at hq
            have hf := HK.out.blk.frozen 4
            refine segE (by kernel_rfl) (fun _ _ _ _ _ h => h) [27, 28] [_, _] 1 rfl rfl (by kernel_rfl) ?_
            repeat (go_big_quiet_step (fail))
            refine wpQuiet_nil ?_
            refine lateE 29 0 rfl (by kernel_rfl) (by kernel_rfl) rfl ?_
            have HKn := Lib.hid (HK.out.cells (i := 4) (u := (.slice AW nW cW)) rfl)
            clear HK
            go_wp2
            refine ⟨trivial, ?_⟩
            generalize VAaWOowy.setCell ⟨g, 4, none⟩ (.slice AW nW cW) = VAaWOowz at *
            have HK := HKn
            clear HKn
            clear hq hf
            refine wpAnyE_done (by kernel_rfl) ?_
            go_wp2
            exact ⟨⟨k + 1, by omega, by go_num, vG2, vS2, _, _, _, gs2, ss2, HK.out.toMake (k + 1)⟩, by simp [intOf]; omega⟩
        · obtain ⟨bO, hbO⟩ : ∃ b, VA.heap.size = b := ⟨_, rfl⟩
          have HKn := Lib.hid (HK.out.alloc (.cells #[.int .i64 0] 3))
          have HBO := Lib.hid (show Blk (VA.alloc (.cells #[.int .i64 0] 3)) bO 3 [.int .i64 0] from hbO ▸ Blk.new VA 3 [.int .i64 0])
          replace HBA := Lib.hid (HBA.out.alloc (.cells #[.int .i64 0] 3))
          have HLO := Lib.hid (show V.heap.size ≤ bO by have := HV.out; omega)
          have HVn := Lib.hid (Nat.le_trans HV.out (below_alloc VA (.cells #[.int .i64 0] 3)).size)
          have HR := Lib.hid (below_alloc VA (.cells #[.int .i64 0] 3))
          clear HK HV
          go_wp2
          generalize VA.alloc (.cells #[.int .i64 0] 3) = VAO at *
          have HK := HKn
          have HV := HVn
          clear HKn HVn
          refine ⟨Only.of_below _ HR.out, ?_⟩
          clear HR hbO
          refine twoE 8 19 12 rfl (by kernel_rfl) rfl rfl ?_ ?_
          · obtain ⟨vA', VAOa, e1, ho, hg, hb, hat⟩ := appAt (P := Try.prog) 29 29 Try.undIs Try.infoI1 rfl HK.out.rA HK.out.bel.size bA (.int .i64 0) HBA.out rfl (by rw [List.length_replicate]; omega) (by omega)
            obtain ⟨AA, cA, hvA, _⟩ := (OwnV.rowA ho).slice
            generalize (List.replicate k ((.int .i64 0) : Value) ++ [((.int .i64 0) : Value)]).length = nA at hvA
            subst hvA
            rw [← List.replicate_succ'] at ho
            have HKn := Lib.hid (HK.out.pushA ho hg hb hat)
            replace HBO := Lib.hid (show Blk VAOa bO 3 [.int .i64 0] from (hg.block bO HBO.out.lt (fun e => by have := HlA.out _ e.symm; have := HLO.out; omega)).trans HBO.out)
            have HVn := Lib.hid (Nat.le_trans HV.out hg.size)
            have HR := Lib.hid hg
            clear HK HV ho hg hb hat
            have HK := HKn
            have HV := HVn
            clear HKn HVn
            refine wpList_append_w (.tmp 42) (.tmp 43) _ rfl rfl rfl e1 (by kernel_rfl) ?_
            simp only [Act.put, List.setIfInBounds_toArray, List.set]
            go_wp2
            refine ⟨Only.of_grown HR.out (fun i hi => .inl hi), ?_⟩
            clear HR e1 HBA
            refine twoE 14 19 11 rfl (by kernel_rfl) rfl rfl ?_ ?_
            · obtain ⟨vO', VAOao, e1, ho, hg, hb, hat⟩ := appAt (P := Try.prog) 29 29 Try.undIs Try.infoI1 rfl HK.out.rO HK.out.bel.size bO (.int .i64 0) HBO.out rfl (by rw [List.length_replicate]; omega) (by omega)
              obtain ⟨AO, cO, hvO, _⟩ := (OwnV.rowA ho).slice
              generalize (List.replicate k ((.int .i64 0) : Value) ++ [((.int .i64 0) : Value)]).length = nO at hvO
              subst hvO
              rw [← List.replicate_succ'] at ho
              have HKn := Lib.hid (HK.out.pushO ho hg hb hat)
              have HVn := Lib.hid (Nat.le_trans HV.out hg.size)
              have HR := Lib.hid hg
              clear HK HV ho hg hb hat
              have HK := HKn
              have HV := HVn
              clear HKn HVn
              refine wpList_append_w (.tmp 48) (.tmp 49) _ rfl rfl rfl e1 (by kernel_rfl) ?_
              simp only [Act.put, List.setIfInBounds_toArray, List.set]
              go_wp2
              refine ⟨Only.of_grown HR.out (fun i hi => .inr (.inl hi)), ?_⟩
              clear HR e1 HBO
              refine oneE 19 10 rfl (by kernel_rfl) rfl ?_
              obtain ⟨bW, hbW⟩ : ∃ b, VAOao.heap.size = b := ⟨_, rfl⟩
              have HKn := Lib.hid (HK.out.alloc (.cells #[.bool false] 4))
              have HBW := Lib.hid (show Blk (VAOao.alloc (.cells #[.bool false] 4)) bW 4 [.bool false] from hbW ▸ Blk.new VAOao 4 [.bool false])
              have HLW := Lib.hid (show V.heap.size ≤ bW by have := HV.out; omega)
              have HVn := Lib.hid (Nat.le_trans HV.out (below_alloc VAOao (.cells #[.bool false] 4)).size)
              have HR := Lib.hid (below_alloc VAOao (.cells #[.bool false] 4))
              clear HK HV
              go_wp2
              generalize VAOao.alloc (.cells #[.bool false] 4) = VAOaoW at *
              have HK := HKn
              have HV := HVn
              clear HKn HVn
              refine ⟨Only.of_below _ HR.out, ?_⟩
              clear HR hbW
              refine oneE 20 9 rfl (by kernel_rfl) rfl ?_
              obtain ⟨vW', VAOaoWw, e1, ho, hg, hb, hat⟩ := appAt (P := Try.prog) 30 30 Try.undBs Try.infoB1 rfl HK.out.rW HK.out.bel.size bW (.bool false) HBW.out rfl (by rw [List.length_replicate]; omega) (by omega)
              obtain ⟨AW, cW, hvW, _⟩ := (OwnV.rowA ho).slice
              generalize (List.replicate k ((.bool false) : Value) ++ [((.bool false) : Value)]).length = nW at hvW
              subst hvW
              rw [← List.replicate_succ'] at ho
              have HKn := Lib.hid (HK.out.pushW ho hg hb)
              have HVn := Lib.hid (Nat.le_trans HV.out hg.size)
              have HR := Lib.hid hg
              clear HK HV ho hg hb hat
              have HK := HKn
              have HV := HVn
              clear HKn HVn
              refine wpList_append_w (.tmp 54) (.tmp 55) _ rfl rfl rfl e1 (by kernel_rfl) ?_
              simp only [Act.put, List.setIfInBounds_toArray, List.set]
              go_wp2
              refine ⟨Only.of_grown HR.out (fun i hi => .inr (.inr (.inl hi))), ?_⟩
              clear HR e1 HBW
              have hq := HK.out.blk.cell 2
              simp only [List.getElem?_cons_zero, List.getElem?_cons_succ] at hq
              have hf := HK.out.blk.frozen 2
              refine segE (by kernel_rfl) (fun _ _ _ _ _ h => h) [21, 22] [_, _] 7 rfl rfl (by kernel_rfl) ?_
              repeat (go_big_quiet_step (fail))
              refine wpQuiet_nil ?_
              refine lateE 23 6 rfl (by kernel_rfl) (by kernel_rfl) rfl ?_
              have HKn := Lib.hid (HK.out.cells (i := 2) (u := (.slice AA nA cA)) rfl)
              clear HK
              go_wp2
              refine ⟨trivial, ?_⟩
              generalize VAOaoWw.setCell ⟨g, 2, none⟩ (.slice AA nA cA) = VAOaoWwx at *
              have HK := HKn
              clear HKn
              clear hq hf
              have hq := HK.out.blk.cell 3
              simp only [List.getElem?_cons_zero, List.getElem?_cons_succ] at hq
              have hf := HK.out.blk.frozen 3
              refine segE (by kernel_rfl) (fun _ _ _ _ _ h => h) [24, 25] [_, _] 4 rfl rfl (by kernel_rfl) ?_
              repeat (go_big_quiet_step (fail))
              refine wpQuiet_nil ?_
              refine lateE 26 3 rfl (by kernel_rfl) (by kernel_rfl) rfl ?_
              have HKn := Lib.hid (HK.out.cells (i := 3) (u := (.slice AO nO cO)) rfl)
              clear HK
              go_wp2
              refine ⟨trivial, ?_⟩
              generalize VAOaoWwx.setCell ⟨g, 3, none⟩ (.slice AO nO cO) = VAOaoWwy at *
              have HK := HKn
              clear HKn
              clear hq hf
              have hq := HK.out.blk.cell 4
              simp only [List.getElem?_cons_zero, List.getElem?_cons_succ] at hq
              have hf := HK.out.blk.frozen 4
              refine segE (by kernel_rfl) (fun _ _ _ _ _ h => h) [27, 28] [_, _] 1 rfl rfl (by kernel_rfl) ?_
              repeat (go_big_quiet_step (fail))
              refine wpQuiet_nil ?_
              refine lateE 29 0 rfl (by kernel_rfl) (by kernel_rfl) rfl ?_
              have HKn := Lib.hid (HK.out.cells (i := 4) (u := (.slice AW nW cW)) rfl)
              clear HK
              go_wp2
              refine ⟨trivial, ?_⟩
              generalize VAOaoWwy.setCell ⟨g, 4, none⟩ (.slice AW nW cW) = VAOaoWwz at *
              have HK := HKn
              clear HKn
              clear hq hf
              refine wpAnyE_done (by kernel_rfl) ?_
              go_wp2
              exact ⟨⟨k + 1, by omega, by go_num, vG2, vS2, _, _, _, gs2, ss2, HK.out.toMake (k + 1)⟩, by simp [intOf]; omega⟩
            · obtain ⟨bW, hbW⟩ : ∃ b, VAOa.heap.size = b := ⟨_, rfl⟩
              have HKn := Lib.hid (HK.out.alloc (.cells #[.bool false] 4))
              have HBW := Lib.hid (show Blk (VAOa.alloc (.cells #[.bool false] 4)) bW 4 [.bool false] from hbW ▸ Blk.new VAOa 4 [.bool false])
              replace HBO := Lib.hid (HBO.out.alloc (.cells #[.bool false] 4))
              have HLW := Lib.hid (show V.heap.size ≤ bW by have := HV.out; omega)
              have HVn := Lib.hid (Nat.le_trans HV.out (below_alloc VAOa (.cells #[.bool false] 4)).size)
              have HR := Lib.hid (below_alloc VAOa (.cells #[.bool false] 4))
              clear HK HV
              go_wp2
              generalize VAOa.alloc (.cells #[.bool false] 4) = VAOaW at *
              have HK := HKn
              have HV := HVn
              clear HKn HVn
              refine ⟨Only.of_below _ HR.out, ?_⟩
              clear HR hbW
              refine oneE 14 10 rfl (by kernel_rfl) rfl ?_
              obtain ⟨vO', VAOaWo, e1, ho, hg, hb, hat⟩ := appAt (P := Try.prog) 29 29 Try.undIs Try.infoI1 rfl HK.out.rO HK.out.bel.size bO (.int .i64 0) HBO.out rfl (by rw [List.length_replicate]; omega) (by omega)
              obtain ⟨AO, cO, hvO, _⟩ := (OwnV.rowA ho).slice
              generalize (List.replicate k ((.int .i64 0) : Value) ++ [((.int .i64 0) : Value)]).length = nO at hvO
              subst hvO
              rw [← List.replicate_succ'] at ho
              have HKn := Lib.hid (HK.out.pushO ho hg hb hat)
              replace HBW := Lib.hid (show Blk VAOaWo bW 4 [.bool false] from (hg.block bW HBW.out.lt (fun e => by have := HlO.out _ e.symm; have := HLW.out; omega)).trans HBW.out)
              have HVn := Lib.hid (Nat.le_trans HV.out hg.size)
              have HR := Lib.hid hg
              clear HK HV ho hg hb hat
              have HK := HKn
              have HV := HVn
              clear HKn HVn
              refine wpList_append_w (.tmp 48) (.tmp 49) _ rfl rfl rfl e1 (by kernel_rfl) ?_
              simp only [Act.put, List.setIfInBounds_toArray, List.set]
              go_wp2
              refine ⟨Only.of_grown HR.out (fun i hi => .inr (.inl hi)), ?_⟩
              clear HR e1 HBO
              refine oneE 20 9 rfl (by kernel_rfl) rfl ?_
              obtain ⟨vW', VAOaWow, e1, ho, hg, hb, hat⟩ := appAt (P := Try.prog) 30 30 Try.undBs Try.infoB1 rfl HK.out.rW HK.out.bel.size bW (.bool false) HBW.out rfl (by rw [List.length_replicate]; omega) (by omega)
              obtain ⟨AW, cW, hvW, _⟩ := (OwnV.rowA ho).slice
              generalize (List.replicate k ((.bool false) : Value) ++ [((.bool false) : Value)]).length = nW at hvW
              subst hvW
              rw [← List.replicate_succ'] at ho
              have HKn := Lib.hid (HK.out.pushW ho hg hb)
              have HVn := Lib.hid (Nat.le_trans HV.out hg.size)
              have HR := Lib.hid hg
              clear HK HV ho hg hb hat
              have HK := HKn
              have HV := HVn
              clear HKn HVn
              refine wpList_append_w (.tmp 54) (.tmp 55) _ rfl rfl rfl e1 (by kernel_rfl) ?_
              simp only [Act.put, List.setIfInBounds_toArray, List.set]
              go_wp2
              refine ⟨Only.of_grown HR.out (fun i hi => .inr (.inr (.inl hi))), ?_⟩
              clear HR e1 HBW
              have hq := HK.out.blk.cell 2
              simp only [List.getElem?_cons_zero, List.getElem?_cons_succ] at hq
              have hf := HK.out.blk.frozen 2
              refine segE (by kernel_rfl) (fun _ _ _ _ _ h => h) [21, 22] [_, _] 7 rfl rfl (by kernel_rfl) ?_
              repeat (go_big_quiet_step (fail))
              refine wpQuiet_nil ?_
              refine lateE 23 6 rfl (by kernel_rfl) (by kernel_rfl) rfl ?_
              have HKn := Lib.hid (HK.out.cells (i := 2) (u := (.slice AA nA cA)) rfl)
              clear HK
              go_wp2
              refine ⟨trivial, ?_⟩
              generalize VAOaWow.setCell ⟨g, 2, none⟩ (.slice AA nA cA) = VAOaWowx at *
              have HK := HKn
              clear HKn
              clear hq hf
              have hq := HK.out.blk.cell 3
              simp only [List.getElem?_cons_zero, List.getElem?_cons_succ] at hq
              have hf := HK.out.blk.frozen 3
              refine segE (by kernel_rfl) (fun _ _ _ _ _ h => h) [24, 25] [_, _] 4 rfl rfl (by kernel_rfl) ?_
              repeat (go_big_quiet_step (fail))
              refine wpQuiet_nil ?_
              refine lateE 26 3 rfl (by kernel_rfl) (by kernel_rfl) rfl ?_
              have HKn := Lib.hid (HK.out.cells (i := 3) (u := (.slice AO nO cO)) rfl)
              clear HK
              go_wp2
              refine ⟨trivial, ?_⟩
              generalize VAOaWowx.setCell ⟨g, 3, none⟩ (.slice AO nO cO) = VAOaWowy at *
              have HK := HKn
              clear HKn
              clear hq hf
              have hq := HK.out.blk.cell 4
              simp only [List.getElem?_cons_zero, List.getElem?_cons_succ] at hq
              have hf := HK.out.blk.frozen 4
              refine segE (by kernel_rfl) (fun _ _ _ _ _ h => h) [27, 28] [_, _] 1 rfl rfl (by kernel_rfl) ?_
              repeat (go_big_quiet_step (fail))
              refine wpQuiet_nil ?_
              refine lateE 29 0 rfl (by kernel_rfl) (by kernel_rfl) rfl ?_
              have HKn := Lib.hid (HK.out.cells (i := 4) (u := (.slice AW nW cW)) rfl)
              clear HK
              go_wp2
              refine ⟨trivial, ?_⟩
              generalize VAOaWowy.setCell ⟨g, 4, none⟩ (.slice AW nW cW) = VAOaWowz at *
              have HK := HKn
              clear HKn
              clear hq hf
              refine wpAnyE_done (by kernel_rfl) ?_
              go_wp2
              exact ⟨⟨k + 1, by omega, by go_num, vG2, vS2, _, _, _, gs2, ss2, HK.out.toMake (k + 1)⟩, by simp [intOf]; omega⟩
          · obtain ⟨bW, hbW⟩ : ∃ b, VAO.heap.size = b := ⟨_, rfl⟩
            have HKn := Lib.hid (HK.out.alloc (.cells #[.bool false] 4))
            have HBW := Lib.hid (show Blk (VAO.alloc (.cells #[.bool false] 4)) bW 4 [.bool false] from hbW ▸ Blk.new VAO 4 [.bool false])
            replace HBA := Lib.hid (HBA.out.alloc (.cells #[.bool false] 4))
            replace HBO := Lib.hid (HBO.out.alloc (.cells #[.bool false] 4))
            have HLW := Lib.hid (show V.heap.size ≤ bW by have := HV.out; omega)
            have HVn := Lib.hid (Nat.le_trans HV.out (below_alloc VAO (.cells #[.bool false] 4)).size)
            have HR := Lib.hid (below_alloc VAO (.cells #[.bool false] 4))
            clear HK HV
            go_wp2
            generalize VAO.alloc (.cells #[.bool false] 4) = VAOW at *
            have HK := HKn
            have HV := HVn
            clear HKn HVn
            refine ⟨Only.of_below _ HR.out, ?_⟩
            clear HR hbW
            refine oneE 8 11 rfl (by kernel_rfl) rfl ?_
            obtain ⟨vA', VAOWa, e1, ho, hg, hb, hat⟩ := appAt (P := Try.prog) 29 29 Try.undIs Try.infoI1 rfl HK.out.rA HK.out.bel.size bA (.int .i64 0) HBA.out rfl (by rw [List.length_replicate]; omega) (by omega)
            obtain ⟨AA, cA, hvA, _⟩ := (OwnV.rowA ho).slice
            generalize (List.replicate k ((.int .i64 0) : Value) ++ [((.int .i64 0) : Value)]).length = nA at hvA
            subst hvA
            rw [← List.replicate_succ'] at ho
            have HKn := Lib.hid (HK.out.pushA ho hg hb hat)
            replace HBW := Lib.hid (show Blk VAOWa bW 4 [.bool false] from (hg.block bW HBW.out.lt (fun e => by have := HlA.out _ e.symm; have := HLW.out; omega)).trans HBW.out)
            replace HBO := Lib.hid (show Blk VAOWa bO 3 [.int .i64 0] from (hg.block bO HBO.out.lt (fun e => by have := HlA.out _ e.symm; have := HLO.out; omega)).trans HBO.out)
            have HVn := Lib.hid (Nat.le_trans HV.out hg.size)
            have HR := Lib.hid hg
            clear HK HV ho hg hb hat
            have HK := HKn
            have HV := HVn
            clear HKn HVn
            refine wpList_append_w (.tmp 42) (.tmp 43) _ rfl rfl rfl e1 (by kernel_rfl) ?_
            simp only [Act.put, List.setIfInBounds_toArray, List.set]
            go_wp2
            refine ⟨Only.of_grown HR.out (fun i hi => .inl hi), ?_⟩
            clear HR e1 HBA
            refine oneE 14 10 rfl (by kernel_rfl) rfl ?_
            obtain ⟨vO', VAOWao, e1, ho, hg, hb, hat⟩ := appAt (P := Try.prog) 29 29 Try.undIs Try.infoI1 rfl HK.out.rO HK.out.bel.size bO (.int .i64 0) HBO.out rfl (by rw [List.length_replicate]; omega) (by omega)
            obtain ⟨AO, cO, hvO, _⟩ := (OwnV.rowA ho).slice
            generalize (List.replicate k ((.int .i64 0) : Value) ++ [((.int .i64 0) : Value)]).length = nO at hvO
            subst hvO
            rw [← List.replicate_succ'] at ho
            have HKn := Lib.hid (HK.out.pushO ho hg hb hat)
            replace HBW := Lib.hid (show Blk VAOWao bW 4 [.bool false] from (hg.block bW HBW.out.lt (fun e => by have := HlO.out _ e.symm; have := HLW.out; omega)).trans HBW.out)
            have HVn := Lib.hid (Nat.le_trans HV.out hg.size)
            have HR := Lib.hid hg
            clear HK HV ho hg hb hat
            have HK := HKn
            have HV := HVn
            clear HKn HVn
            refine wpList_append_w (.tmp 48) (.tmp 49) _ rfl rfl rfl e1 (by kernel_rfl) ?_
            simp only [Act.put, List.setIfInBounds_toArray, List.set]
            go_wp2
            refine ⟨Only.of_grown HR.out (fun i hi => .inr (.inl hi)), ?_⟩
            clear HR e1 HBO
            refine oneE 20 9 rfl (by kernel_rfl) rfl ?_
            obtain ⟨vW', VAOWaow, e1, ho, hg, hb, hat⟩ := appAt (P := Try.prog) 30 30 Try.undBs Try.infoB1 rfl HK.out.rW HK.out.bel.size bW (.bool false) HBW.out rfl (by rw [List.length_replicate]; omega) (by omega)
            obtain ⟨AW, cW, hvW, _⟩ := (OwnV.rowA ho).slice
            generalize (List.replicate k ((.bool false) : Value) ++ [((.bool false) : Value)]).length = nW at hvW
            subst hvW
            rw [← List.replicate_succ'] at ho
            have HKn := Lib.hid (HK.out.pushW ho hg hb)
            have HVn := Lib.hid (Nat.le_trans HV.out hg.size)
            have HR := Lib.hid hg
            clear HK HV ho hg hb hat
            have HK := HKn
            have HV := HVn
            clear HKn HVn
            refine wpList_append_w (.tmp 54) (.tmp 55) _ rfl rfl rfl e1 (by kernel_rfl) ?_
            simp only [Act.put, List.setIfInBounds_toArray, List.set]
            go_wp2
            refine ⟨Only.of_grown HR.out (fun i hi => .inr (.inr (.inl hi))), ?_⟩
            clear HR e1 HBW
            have hq := HK.out.blk.cell 2
            simp only [List.getElem?_cons_zero, List.getElem?_cons_succ] at hq
            have hf := HK.out.blk.frozen 2
            refine segE (by kernel_rfl) (fun _ _ _ _ _ h => h) [21, 22] [_, _] 7 rfl rfl (by kernel_rfl) ?_
            repeat (go_big_quiet_step (fail))
            refine wpQuiet_nil ?_
            refine lateE 23 6 rfl (by kernel_rfl) (by kernel_rfl) rfl ?_
            have HKn := Lib.hid (HK.out.cells (i := 2) (u := (.slice AA nA cA)) rfl)
            clear HK
            go_wp2
            refine ⟨trivial, ?_⟩
            generalize VAOWaow.setCell ⟨g, 2, none⟩ (.slice AA nA cA) = VAOWaowx at *
            have HK := HKn
            clear HKn
            clear hq hf
            have hq := HK.out.blk.cell 3
            simp only [List.getElem?_cons_zero, List.getElem?_cons_succ] at hq
            have hf := HK.out.blk.frozen 3
            refine segE (by kernel_rfl) (fun _ _ _ _ _ h => h) [24, 25] [_, _] 4 rfl rfl (by kernel_rfl) ?_
            repeat (go_big_quiet_step (fail))
            refine wpQuiet_nil ?_
            refine lateE 26 3 rfl (by kernel_rfl) (by kernel_rfl) rfl ?_
            have HKn := Lib.hid (HK.out.cells (i := 3) (u := (.slice AO nO cO)) rfl)
            clear HK
            go_wp2
            refine ⟨trivial, ?_⟩
            generalize VAOWaowx.setCell ⟨g, 3, none⟩ (.slice AO nO cO) = VAOWaowy at *
            have HK := HKn
            clear HKn
            clear hq hf
            have hq := HK.out.blk.cell 4
            simp only [List.getElem?_cons_zero, List.getElem?_cons_succ] at hq
            have hf := HK.out.blk.frozen 4
            refine segE (by kernel_rfl) (fun _ _ _ _ _ h => h) [27, 28] [_, _] 1 rfl rfl (by kernel_rfl) ?_
            repeat (go_big_quiet_step (fail))
            refine wpQuiet_nil ?_
            refine lateE 29 0 rfl (by kernel_rfl) (by kernel_rfl) rfl ?_
            have HKn := Lib.hid (HK.out.cells (i := 4) (u := (.slice AW nW cW)) rfl)
            clear HK
            go_wp2
            refine ⟨trivial, ?_⟩
            generalize VAOWaowy.setCell ⟨g, 4, none⟩ (.slice AW nW cW) = VAOWaowz at *
            have HK := HKn
            clear HKn
            clear hq hf
            refine wpAnyE_done (by kernel_rfl) ?_
            go_wp2
            exact ⟨⟨k + 1, by omega, by go_num, vG2, vS2, _, _, _, gs2, ss2, HK.out.toMake (k + 1)⟩, by simp [intOf]; omega⟩
        · obtain ⟨bW, hbW⟩ : ∃ b, VA.heap.size = b := ⟨_, rfl⟩
          have HKn := Lib.hid (HK.out.alloc (.cells #[.bool false] 4))
          have HBW := Lib.hid (show Blk (VA.alloc (.cells #[.bool false] 4)) bW 4 [.bool false] from hbW ▸ Blk.new VA 4 [.bool false])
          replace HBA := Lib.hid (HBA.out.alloc (.cells #[.bool false] 4))
          have HLW := Lib.hid (show V.heap.size ≤ bW by have := HV.out; omega)
          have HVn := Lib.hid (Nat.le_trans HV.out (below_alloc VA (.cells #[.bool false] 4)).size)
          have HR := Lib.hid (below_alloc VA (.cells #[.bool false] 4))
          clear HK HV
          go_wp2
          generalize VA.alloc (.cells #[.bool false] 4) = VAW at *
          have HK := HKn
          have HV := HVn
          clear HKn HVn
          refine ⟨Only.of_below _ HR.out, ?_⟩
          clear HR hbW
          refine twoE 8 13 12 rfl (by kernel_rfl) rfl rfl ?_ ?_
          · obtain ⟨vA', VAWa, e1, ho, hg, hb, hat⟩ := appAt (P := Try.prog) 29 29 Try.undIs Try.infoI1 rfl HK.out.rA HK.out.bel.size bA (.int .i64 0) HBA.out rfl (by rw [List.length_replicate]; omega) (by omega)
            obtain ⟨AA, cA, hvA, _⟩ := (OwnV.rowA ho).slice
            generalize (List.replicate k ((.int .i64 0) : Value) ++ [((.int .i64 0) : Value)]).length = nA at hvA
            subst hvA
            rw [← List.replicate_succ'] at ho
            have HKn := Lib.hid (HK.out.pushA ho hg hb hat)
            replace HBW := Lib.hid (show Blk VAWa bW 4 [.bool false] from (hg.block bW HBW.out.lt (fun e => by have := HlA.out _ e.symm; have := HLW.out; omega)).trans HBW.out)
            have HVn := Lib.hid (Nat.le_trans HV.out hg.size)
            have HR := Lib.hid hg
            clear HK HV ho hg hb hat
            have HK := HKn
            have HV := HVn
            clear HKn HVn
            refine wpList_append_w (.tmp 42) (.tmp 43) _ rfl rfl rfl e1 (by kernel_rfl) ?_
            simp only [Act.put, List.setIfInBounds_toArray, List.set]
            go_wp2
            refine ⟨Only.of_grown HR.out (fun i hi => .inl hi), ?_⟩
            clear HR e1 HBA
            refine oneE 13 11 rfl (by kernel_rfl) rfl ?_
            obtain ⟨bO, hbO⟩ : ∃ b, VAWa.heap.size = b := ⟨_, rfl⟩
            have HKn := Lib.hid (HK.out.alloc (.cells #[.int .i64 0] 3))
            have HBO := Lib.hid (show Blk (VAWa.alloc (.cells #[.int .i64 0] 3)) bO 3 [.int .i64 0] from hbO ▸ Blk.new VAWa 3 [.int .i64 0])
            replace HBW := Lib.hid (HBW.out.alloc (.cells #[.int .i64 0] 3))
            have HLO := Lib.hid (show V.heap.size ≤ bO by have := HV.out; omega)
            have HVn := Lib.hid (Nat.le_trans HV.out (below_alloc VAWa (.cells #[.int .i64 0] 3)).size)
            have HR := Lib.hid (below_alloc VAWa (.cells #[.int .i64 0] 3))
            clear HK HV
            go_wp2
            generalize VAWa.alloc (.cells #[.int .i64 0] 3) = VAWaO at *
            have HK := HKn
            have HV := HVn
            clear HKn HVn
            refine ⟨Only.of_below _ HR.out, ?_⟩
            clear HR hbO
            refine oneE 14 10 rfl (by kernel_rfl) rfl ?_
            obtain ⟨vO', VAWaOo, e1, ho, hg, hb, hat⟩ := appAt (P := Try.prog) 29 29 Try.undIs Try.infoI1 rfl HK.out.rO HK.out.bel.size bO (.int .i64 0) HBO.out rfl (by rw [List.length_replicate]; omega) (by omega)
            obtain ⟨AO, cO, hvO, _⟩ := (OwnV.rowA ho).slice
            generalize (List.replicate k ((.int .i64 0) : Value) ++ [((.int .i64 0) : Value)]).length = nO at hvO
            subst hvO
            rw [← List.replicate_succ'] at ho
            have HKn := Lib.hid (HK.out.pushO ho hg hb hat)
            replace HBW := Lib.hid (show Blk VAWaOo bW 4 [.bool false] from (hg.block bW HBW.out.lt (fun e => by have := HlO.out _ e.symm; have := HLW.out; omega)).trans HBW.out)
            have HVn := Lib.hid (Nat.le_trans HV.out hg.size)
            have HR := Lib.hid hg
            clear HK HV ho hg hb hat
            have HK := HKn
            have HV := HVn
            clear HKn HVn
            refine wpList_append_w (.tmp 48) (.tmp 49) _ rfl rfl rfl e1 (by kernel_rfl) ?_
            simp only [Act.put, List.setIfInBounds_toArray, List.set]
            go_wp2
            refine ⟨Only.of_grown HR.out (fun i hi => .inr (.inl hi)), ?_⟩
            clear HR e1 HBO
            refine oneE 20 9 rfl (by kernel_rfl) rfl ?_
            obtain ⟨vW', VAWaOow, e1, ho, hg, hb, hat⟩ := appAt (P := Try.prog) 30 30 Try.undBs Try.infoB1 rfl HK.out.rW HK.out.bel.size bW (.bool false) HBW.out rfl (by rw [List.length_replicate]; omega) (by omega)
            obtain ⟨AW, cW, hvW, _⟩ := (OwnV.rowA ho).slice
            generalize (List.replicate k ((.bool false) : Value) ++ [((.bool false) : Value)]).length = nW at hvW
            subst hvW
            rw [← List.replicate_succ'] at ho
            have HKn := Lib.hid (HK.out.pushW ho hg hb)
            have HVn := Lib.hid (Nat.le_trans HV.out hg.size)
            have HR := Lib.hid hg
            clear HK HV ho hg hb hat
            have HK := HKn
            have HV := HVn
            clear HKn HVn
            refine wpList_append_w (.tmp 54) (.tmp 55) _ rfl rfl rfl e1 (by kernel_rfl) ?_
            simp only [Act.put, List.setIfInBounds_toArray, List.set]
            go_wp2
            refine ⟨Only.of_grown HR.out (fun i hi => .inr (.inr (.inl hi))), ?_⟩
            clear HR e1 HBW
            have hq := HK.out.blk.cell 2
            simp only [List.getElem?_cons_zero, List.getElem?_cons_succ] at hq
            have hf := HK.out.blk.frozen 2
            refine segE (by kernel_rfl) (fun _ _ _ _ _ h => h) [21, 22] [_, _] 7 rfl rfl (by kernel_rfl) ?_
            repeat (go_big_quiet_step (fail))
            refine wpQuiet_nil ?_
            refine lateE 23 6 rfl (by kernel_rfl) (by kernel_rfl) rfl ?_
            have HKn := Lib.hid (HK.out.cells (i := 2) (u := (.slice AA nA cA)) rfl)
            clear HK
            go_wp2
            refine ⟨trivial, ?_⟩
            generalize VAWaOow.setCell ⟨g, 2, none⟩ (.slice AA nA cA) = VAWaOowx at *
            have HK := HKn
            clear HKn
            clear hq hf
            have hq := HK.out.blk.cell 3
            simp only [List.getElem?_cons_zero, List.getElem?_cons_succ] at hq
            have hf := HK.out.blk.frozen 3
            refine segE (by kernel_rfl) (fun _ _ _ _ _ h => h) [24, 25] [_, _] 4 rfl rfl (by kernel_rfl) ?_
            repeat (go_big_quiet_step (fail))
            refine wpQuiet_nil ?_
            refine lateE 26 3 rfl (by kernel_rfl) (by kernel_rfl) rfl ?_
            have HKn := Lib.hid (HK.out.cells (i := 3) (u := (.slice AO nO cO)) rfl)
            clear HK
            go_wp2
            refine ⟨trivial, ?_⟩
            generalize VAWaOowx.setCell ⟨g, 3, none⟩ (.slice AO nO cO) = VAWaOowy at *
            have HK := HKn
            clear HKn
            clear hq hf
            have hq := HK.out.blk.cell 4
            simp only [List.getElem?_cons_zero, List.getElem?_cons_succ] at hq
            have hf := HK.out.blk.frozen 4
            refine segE (by kernel_rfl) (fun _ _ _ _ _ h => h) [27, 28] [_, _] 1 rfl rfl (by kernel_rfl) ?_
            repeat (go_big_quiet_step (fail))
            refine wpQuiet_nil ?_
            refine lateE 29 0 rfl (by kernel_rfl) (by kernel_rfl) rfl ?_
            have HKn := Lib.hid (HK.out.cells (i := 4) (u := (.slice AW nW cW)) rfl)
            clear HK
            go_wp2
            refine ⟨trivial, ?_⟩
            generalize VAWaOowy.setCell ⟨g, 4, none⟩ (.slice AW nW cW) = VAWaOowz at *
            have HK := HKn
            clear HKn
            clear hq hf
            refine wpAnyE_done (by kernel_rfl) ?_
            go_wp2
            exact ⟨⟨k + 1, by omega, by go_num, vG2, vS2, _, _, _, gs2, ss2, HK.out.toMake (k + 1)⟩, by simp [intOf]; omega⟩
          · obtain ⟨bO, hbO⟩ : ∃ b, VAW.heap.size = b := ⟨_, rfl⟩
            have HKn := Lib.hid (HK.out.alloc (.cells #[.int .i64 0] 3))
            have HBO := Lib.hid (show Blk (VAW.alloc (.cells #[.int .i64 0] 3)) bO 3 [.int .i64 0] from hbO ▸ Blk.new VAW 3 [.int .i64 0])
            replace HBA := Lib.hid (HBA.out.alloc (.cells #[.int .i64 0] 3))
            replace HBW := Lib.hid (HBW.out.alloc (.cells #[.int .i64 0] 3))
            have HLO := Lib.hid (show V.heap.size ≤ bO by have := HV.out; omega)
            have HVn := Lib.hid (Nat.le_trans HV.out (below_alloc VAW (.cells #[.int .i64 0] 3)).size)
            have HR := Lib.hid (below_alloc VAW (.cells #[.int .i64 0] 3))
            clear HK HV
            go_wp2
            generalize VAW.alloc (.cells #[.int .i64 0] 3) = VAWO at *
            have HK := HKn
            have HV := HVn
            clear HKn HVn
            refine ⟨Only.of_below _ HR.out, ?_⟩
            clear HR hbO
            refine oneE 8 11 rfl (by kernel_rfl) rfl ?_
            obtain ⟨vA', VAWOa, e1, ho, hg, hb, hat⟩ := appAt (P := Try.prog) 29 29 Try.undIs Try.infoI1 rfl HK.out.rA HK.out.bel.size bA (.int .i64 0) HBA.out rfl (by rw [List.length_replicate]; omega) (by omega)
            obtain ⟨AA, cA, hvA, _⟩ := (OwnV.rowA ho).slice
            generalize (List.replicate k ((.int .i64 0) : Value) ++ [((.int .i64 0) : Value)]).length = nA at hvA
            subst hvA
            rw [← List.replicate_succ'] at ho
            have HKn := Lib.hid (HK.out.pushA ho hg hb hat)
            replace HBW := Lib.hid (show Blk VAWOa bW 4 [.bool false] from (hg.block bW HBW.out.lt (fun e => by have := HlA.out _ e.symm; have := HLW.out; omega)).trans HBW.out)
            replace HBO := Lib.hid (show Blk VAWOa bO 3 [.int .i64 0] from (hg.block bO HBO.out.lt (fun e => by have := HlA.out _ e.symm; have := HLO.out; omega)).trans HBO.out)
            have HVn := Lib.hid (Nat.le_trans HV.out hg.size)
            have HR := Lib.hid hg
            clear HK HV ho hg hb hat
            have HK := HKn
            have HV := HVn
            clear HKn HVn
            refine wpList_append_w (.tmp 42) (.tmp 43) _ rfl rfl rfl e1 (by kernel_rfl) ?_
            simp only [Act.put, List.setIfInBounds_toArray, List.set]
            go_wp2
            refine ⟨Only.of_grown HR.out (fun i hi => .inl hi), ?_⟩
            clear HR e1 HBA
            refine oneE 14 10 rfl (by kernel_rfl) rfl ?_
            obtain ⟨vO', VAWOao, e1, ho, hg, hb, hat⟩ := appAt (P := Try.prog) 29 29 Try.undIs Try.infoI1 rfl HK.out.rO HK.out.bel.size bO (.int .i64 0) HBO.out rfl (by rw [List.length_replicate]; omega) (by omega)
            obtain ⟨AO, cO, hvO, _⟩ := (OwnV.rowA ho).slice
            generalize (List.replicate k ((.int .i64 0) : Value) ++ [((.int .i64 0) : Value)]).length = nO at hvO
            subst hvO
            rw [← List.replicate_succ'] at ho
            have HKn := Lib.hid (HK.out.pushO ho hg hb hat)
            replace HBW := Lib.hid (show Blk VAWOao bW 4 [.bool false] from (hg.block bW HBW.out.lt (fun e => by have := HlO.out _ e.symm; have := HLW.out; omega)).trans HBW.out)
            have HVn := Lib.hid (Nat.le_trans HV.out hg.size)
            have HR := Lib.hid hg
            clear HK HV ho hg hb hat
            have HK := HKn
            have HV := HVn
            clear HKn HVn
            refine wpList_append_w (.tmp 48) (.tmp 49) _ rfl rfl rfl e1 (by kernel_rfl) ?_
            simp only [Act.put, List.setIfInBounds_toArray, List.set]
            go_wp2
            refine ⟨Only.of_grown HR.out (fun i hi => .inr (.inl hi)), ?_⟩
            clear HR e1 HBO
            refine oneE 20 9 rfl (by kernel_rfl) rfl ?_
            obtain ⟨vW', VAWOaow, e1, ho, hg, hb, hat⟩ := appAt (P := Try.prog) 30 30 Try.undBs Try.infoB1 rfl HK.out.rW HK.out.bel.size bW (.bool false) HBW.out rfl (by rw [List.length_replicate]; omega) (by omega)
            obtain ⟨AW, cW, hvW, _⟩ := (OwnV.rowA ho).slice
            generalize (List.replicate k ((.bool false) : Value) ++ [((.bool false) : Value)]).length = nW at hvW
            subst hvW
            rw [← List.replicate_succ'] at ho
            have HKn := Lib.hid (HK.out.pushW ho hg hb)
            have HVn := Lib.hid (Nat.le_trans HV.out hg.size)
            have HR := Lib.hid hg
            clear HK HV ho hg hb hat
            have HK := HKn
            have HV := HVn
            clear HKn HVn
            refine wpList_append_w (.tmp 54) (.tmp 55) _ rfl rfl rfl e1 (by kernel_rfl) ?_
            simp only [Act.put, List.setIfInBounds_toArray, List.set]
            go_wp2
            refine ⟨Only.of_grown HR.out (fun i hi => .inr (.inr (.inl hi))), ?_⟩
            clear HR e1 HBW
            have hq := HK.out.blk.cell 2
            simp only [List.getElem?_cons_zero, List.getElem?_cons_succ] at hq
            have hf := HK.out.blk.frozen 2
            refine segE (by kernel_rfl) (fun _ _ _ _ _ h => h) [21, 22] [_, _] 7 rfl rfl (by kernel_rfl) ?_
            repeat (go_big_quiet_step (fail))
            refine wpQuiet_nil ?_
            refine lateE 23 6 rfl (by kernel_rfl) (by kernel_rfl) rfl ?_
            have HKn := Lib.hid (HK.out.cells (i := 2) (u := (.slice AA nA cA)) rfl)
            clear HK
            go_wp2
            refine ⟨trivial, ?_⟩
            generalize VAWOaow.setCell ⟨g, 2, none⟩ (.slice AA nA cA) = VAWOaowx at *
            have HK := HKn
            clear HKn
            clear hq hf
            have hq := HK.out.blk.cell 3
            simp only [List.getElem?_cons_zero, List.getElem?_cons_succ] at hq
            have hf := HK.out.blk.frozen 3
            refine segE (by kernel_rfl) (fun _ _ _ _ _ h => h) [24, 25] [_, _] 4 rfl rfl (by kernel_rfl) ?_
            repeat (go_big_quiet_step (fail))
            refine wpQuiet_nil ?_
            refine lateE 26 3 rfl (by kernel_rfl) (by kernel_rfl) rfl ?_
            have HKn := Lib.hid (HK.out.cells (i := 3) (u := (.slice AO nO cO)) rfl)
            clear HK
            go_wp2
            refine ⟨trivial, ?_⟩
            generalize VAWOaowx.setCell ⟨g, 3, none⟩ (.slice AO nO cO) = VAWOaowy at *
            have HK := HKn
            clear HKn
            clear hq hf
            have hq := HK.out.blk.cell 4
            simp only [List.getElem?_cons_zero, List.getElem?_cons_succ] at hq
            have hf := HK.out.blk.frozen 4
            refine segE (by kernel_rfl) (fun _ _ _ _ _ h => h) [27, 28] [_, _] 1 rfl rfl (by kernel_rfl) ?_
            repeat (go_big_quiet_step (fail))
            refine wpQuiet_nil ?_
            refine lateE 29 0 rfl (by kernel_rfl) (by kernel_rfl) rfl ?_
            have HKn := Lib.hid (HK.out.cells (i := 4) (u := (.slice AW nW cW)) rfl)
            clear HK
            go_wp2
            refine ⟨trivial, ?_⟩
            generalize VAWOaowy.setCell ⟨g, 4, none⟩ (.slice AW nW cW) = VAWOaowz at *
            have HK := HKn
            clear HKn
            clear hq hf
            refine wpAnyE_done (by kernel_rfl) ?_
            go_wp2
            exact ⟨⟨k + 1, by omega, by go_num, vG2, vS2, _, _, _, gs2, ss2, HK.out.toMake (k + 1)⟩, by simp [intOf]; omega⟩
      · obtain ⟨bO, hbO⟩ : ∃ b, V.heap.size = b := ⟨_, rfl⟩
        have HKn := Lib.hid (HK.out.alloc (.cells #[.int .i64 0] 3))
        have HBO := Lib.hid (show Blk (V.alloc (.cells #[.int .i64 0] 3)) bO 3 [.int .i64 0] from hbO ▸ Blk.new V 3 [.int .i64 0])
        have HLO := Lib.hid (show V.heap.size ≤ bO by have := HV.out; omega)
        have HVn := Lib.hid (Nat.le_trans HV.out (below_alloc V (.cells #[.int .i64 0] 3)).size)
        have HR := Lib.hid (below_alloc V (.cells #[.int .i64 0] 3))
        clear HK HV
        go_wp2
        generalize V.alloc (.cells #[.int .i64 0] 3) = VO at *
        have HK := HKn
        have HV := HVn
        clear HKn HVn
        refine ⟨Only.of_below _ HR.out, ?_⟩
        clear HR hbO
        refine twoE 7 19 13 rfl (by kernel_rfl) rfl rfl ?_ ?_
        · obtain ⟨bA, hbA⟩ : ∃ b, VO.heap.size = b := ⟨_, rfl⟩
          have HKn := Lib.hid (HK.out.alloc (.cells #[.int .i64 0] 3))
          have HBA := Lib.hid (show Blk (VO.alloc (.cells #[.int .i64 0] 3)) bA 3 [.int .i64 0] from hbA ▸ Blk.new VO 3 [.int .i64 0])
          replace HBO := Lib.hid (HBO.out.alloc (.cells #[.int .i64 0] 3))
          have HLA := Lib.hid (show V.heap.size ≤ bA by have := HV.out; omega)
          have HVn := Lib.hid (Nat.le_trans HV.out (below_alloc VO (.cells #[.int .i64 0] 3)).size)
          have HR := Lib.hid (below_alloc VO (.cells #[.int .i64 0] 3))
          clear HK HV
          go_wp2
          generalize VO.alloc (.cells #[.int .i64 0] 3) = VOA at *
          have HK := HKn
          have HV := HVn
          clear HKn HVn
          refine ⟨Only.of_below _ HR.out, ?_⟩
          clear HR hbA
          refine twoE 8 19 12 rfl (by kernel_rfl) rfl rfl ?_ ?_
          · obtain ⟨vA', VOAa, e1, ho, hg, hb, hat⟩ := appAt (P := Try.prog) 29 29 Try.undIs Try.infoI1 rfl HK.out.rA HK.out.bel.size bA (.int .i64 0) HBA.out rfl (by rw [List.length_replicate]; omega) (by omega)
            obtain ⟨AA, cA, hvA, _⟩ := (OwnV.rowA ho).slice
            generalize (List.replicate k ((.int .i64 0) : Value) ++ [((.int .i64 0) : Value)]).length = nA at hvA
            subst hvA
            rw [← List.replicate_succ'] at ho
            have HKn := Lib.hid (HK.out.pushA ho hg hb hat)
            replace HBO := Lib.hid (show Blk VOAa bO 3 [.int .i64 0] from (hg.block bO HBO.out.lt (fun e => by have := HlA.out _ e.symm; have := HLO.out; omega)).trans HBO.out)
            have HVn := Lib.hid (Nat.le_trans HV.out hg.size)
            have HR := Lib.hid hg
            clear HK HV ho hg hb hat
            have HK := HKn
            have HV := HVn
            clear HKn HVn
            refine wpList_append_w (.tmp 42) (.tmp 43) _ rfl rfl rfl e1 (by kernel_rfl) ?_
            simp only [Act.put, List.setIfInBounds_toArray, List.set]
            go_wp2
            refine ⟨Only.of_grown HR.out (fun i hi => .inl hi), ?_⟩
            clear HR e1 HBA
            refine twoE 14 19 11 rfl (by kernel_rfl) rfl rfl ?_ ?_
            · obtain ⟨vO', VOAao, e1, ho, hg, hb, hat⟩ := appAt (P := Try.prog) 29 29 Try.undIs Try.infoI1 rfl HK.out.rO HK.out.bel.size bO (.int .i64 0) HBO.out rfl (by rw [List.length_replicate]; omega) (by omega)
              obtain ⟨AO, cO, hvO, _⟩ := (OwnV.rowA ho).slice
              generalize (List.replicate k ((.int .i64 0) : Value) ++ [((.int .i64 0) : Value)]).length = nO at hvO
              subst hvO
              rw [← List.replicate_succ'] at ho
              have HKn := Lib.hid (HK.out.pushO ho hg hb hat)
              have HVn := Lib.hid (Nat.le_trans HV.out hg.size)
              have HR := Lib.hid hg
              clear HK HV ho hg hb hat
              have HK := HKn
              have HV := HVn
              clear HKn HVn
              refine wpList_append_w (.tmp 48) (.tmp 49) _ rfl rfl rfl e1 (by kernel_rfl) ?_
              simp only [Act.put, List.setIfInBounds_toArray, List.set]
              go_wp2
              refine ⟨Only.of_grown HR.out (fun i hi => .inr (.inl hi)), ?_⟩
              clear HR e1 HBO
              refine oneE 19 10 rfl (by kernel_rfl) rfl ?_
              obtain ⟨bW, hbW⟩ : ∃ b, VOAao.heap.size = b := ⟨_, rfl⟩
              have HKn := Lib.hid (HK.out.alloc (.cells #[.bool false] 4))
              have HBW := Lib.hid (show Blk (VOAao.alloc (.cells #[.bool false] 4)) bW 4 [.bool false] from hbW ▸ Blk.new VOAao 4 [.bool false])
              have HLW := Lib.hid (show V.heap.size ≤ bW by have := HV.out; omega)
              have HVn := Lib.hid (Nat.le_trans HV.out (below_alloc VOAao (.cells #[.bool false] 4)).size)
              have HR := Lib.hid (below_alloc VOAao (.cells #[.bool false] 4))
              clear HK HV
              go_wp2
              generalize VOAao.alloc (.cells #[.bool false] 4) = VOAaoW at *
              have HK := HKn
              have HV := HVn
              clear HKn HVn
              refine ⟨Only.of_below _ HR.out, ?_⟩
              clear HR hbW
              refine oneE 20 9 rfl (by kernel_rfl) rfl ?_
              obtain ⟨vW', VOAaoWw, e1, ho, hg, hb, hat⟩ := appAt (P := Try.prog) 30 30 Try.undBs Try.infoB1 rfl HK.out.rW HK.out.bel.size bW (.bool false) HBW.out rfl (by rw [List.length_replicate]; omega) (by omega)
              obtain ⟨AW, cW, hvW, _⟩ := (OwnV.rowA ho).slice
              generalize (List.replicate k ((.bool false) : Value) ++ [((.bool false) : Value)]).length = nW at hvW
              subst hvW
              rw [← List.replicate_succ'] at ho
              have HKn := Lib.hid (HK.out.pushW ho hg hb)
              have HVn := Lib.hid (Nat.le_trans HV.out hg.size)
              have HR := Lib.hid hg
              clear HK HV ho hg hb hat
              have HK := HKn
              have HV := HVn
              clear HKn HVn
              refine wpList_append_w (.tmp 54) (.tmp 55) _ rfl rfl rfl e1 (by kernel_rfl) ?_
              simp only [Act.put, List.setIfInBounds_toArray, List.set]
              go_wp2
              refine ⟨Only.of_grown HR.out (fun i hi => .inr (.inr (.inl hi))), ?_⟩
              clear HR e1 HBW
              have hq := HK.out.blk.cell 2
              simp only [List.getElem?_cons_zero, List.getElem?_cons_succ] at hq
              have hf := HK.out.blk.frozen 2
              refine segE (by kernel_rfl) (fun _ _ _ _ _ h => h) [21, 22] [_, _] 7 rfl rfl (by kernel_rfl) ?_
              repeat (go_big_quiet_step (fail))
              refine wpQuiet_nil ?_
              refine lateE 23 6 rfl (by kernel_rfl) (by kernel_rfl) rfl ?_
              have HKn := Lib.hid (HK.out.cells (i := 2) (u := (.slice AA nA cA)) rfl)
              clear HK
              go_wp2
              refine ⟨trivial, ?_⟩
              generalize VOAaoWw.setCell ⟨g, 2, none⟩ (.slice AA nA cA) = VOAaoWwx at *
              have HK := HKn
              clear HKn
              clear hq hf
              have hq := HK.out.blk.cell 3
              simp only [List.getElem?_cons_zero, List.getElem?_cons_succ] at hq
              have hf := HK.out.blk.frozen 3
              refine segE (by kernel_rfl) (fun _ _ _ _ _ h => h) [24, 25] [_, _] 4 rfl rfl (by kernel_rfl) ?_
              repeat (go_big_quiet_step (fail))
              refine wpQuiet_nil ?_
              refine lateE 26 3 rfl (by kernel_rfl) (by kernel_rfl) rfl ?_
              have HKn := Lib.hid (HK.out.cells (i := 3) (u := (.slice AO nO cO)) rfl)
              clear HK
              go_wp2
              refine ⟨trivial, ?_⟩
              generalize VOAaoWwx.setCell ⟨g, 3, none⟩ (.slice AO nO cO) = VOAaoWwy at *
              have HK := HKn
              clear HKn
              clear hq hf
              have hq := HK.out.blk.cell 4
              simp only [List.getElem?_cons_zero, List.getElem?_cons_succ] at hq
              have hf := HK.out.blk.frozen 4
              refine segE (by kernel_rfl) (fun _ _ _ _ _ h => h) [27, 28] [_, _] 1 rfl rfl (by kernel_rfl) ?_
              repeat (go_big_quiet_step (fail))
              refine wpQuiet_nil ?_
              refine lateE 29 0 rfl (by kernel_rfl) (by kernel_rfl) rfl ?_
              have HKn := Lib.hid (HK.out.cells (i := 4) (u := (.slice AW nW cW)) rfl)
              clear HK
              go_wp2
              refine ⟨trivial, ?_⟩
              generalize VOAaoWwy.setCell ⟨g, 4, none⟩ (.slice AW nW cW) = VOAaoWwz at *
              have HK := HKn
              clear HKn
              clear hq hf
              refine wpAnyE_done (by kernel_rfl) ?_
              go_wp2
              exact ⟨⟨k + 1, by omega, by go_num, vG2, vS2, _, _, _, gs2, ss2, HK.out.toMake (k + 1)⟩, by simp [intOf]; omega⟩
            · obtain ⟨bW, hbW⟩ : ∃ b, VOAa.heap.size = b := ⟨_, rfl⟩
              have HKn := Lib.hid (HK.out.alloc (.cells #[.bool false] 4))
              have HBW := Lib.hid (show Blk (VOAa.alloc (.cells #[.bool false] 4)) bW 4 [.bool false] from hbW ▸ Blk.new VOAa 4 [.bool false])
              replace HBO := Lib.hid (HBO.out.alloc (.cells #[.bool false] 4))
              have HLW := Lib.hid (show V.heap.size ≤ bW by have := HV.out; omega)
              have HVn := Lib.hid (Nat.le_trans HV.out (below_alloc VOAa (.cells #[.bool false] 4)).size)
              have HR := Lib.hid (below_alloc VOAa (.cells #[.bool false] 4))
              clear HK HV
              go_wp2
              generalize VOAa.alloc (.cells #[.bool false] 4) = VOAaW at *
              have HK := HKn
              have HV := HVn
              clear HKn HVn
              refine ⟨Only.of_below _ HR.out, ?_⟩
              clear HR hbW
              refine oneE 14 10 rfl (by kernel_rfl) rfl ?_
              obtain ⟨vO', VOAaWo, e1, ho, hg, hb, hat⟩ := appAt (P := Try.prog) 29 29 Try.undIs Try.infoI1 rfl HK.out.rO HK.out.bel.size bO (.int .i64 0) HBO.out rfl (by rw [List.length_replicate]; omega) (by omega)
              obtain ⟨AO, cO, hvO, _⟩ := (OwnV.rowA ho).slice
              generalize (List.replicate k ((.int .i64 0) : Value) ++ [((.int .i64 0) : Value)]).length = nO at hvO
              subst hvO
              rw [← List.replicate_succ'] at ho
              have HKn := Lib.hid (HK.out.pushO ho hg hb hat)
              replace HBW := Lib.hid (show Blk VOAaWo bW 4 [.bool false] from (hg.block bW HBW.out.lt (fun e => by have := HlO.out _ e.symm; have := HLW.out; omega)).trans HBW.out)
              have HVn := Lib.hid (Nat.le_trans HV.out hg.size)
              have HR := Lib.hid hg
              clear HK HV ho hg hb hat
              have HK := HKn
              have HV := HVn
              clear HKn HVn
              refine wpList_append_w (.tmp 48) (.tmp 49) _ rfl rfl rfl e1 (by kernel_rfl) ?_
              simp only [Act.put, List.setIfInBounds_toArray, List.set]
              go_wp2
              refine ⟨Only.of_grown HR.out (fun i hi => .inr (.inl hi)), ?_⟩
              clear HR e1 HBO
              refine oneE 20 9 rfl (by kernel_rfl) rfl ?_
              obtain ⟨vW', VOAaWow, e1, ho, hg, hb, hat⟩ := appAt (P := Try.prog) 30 30 Try.undBs Try.infoB1 rfl HK.out.rW HK.out.bel.size bW (.bool false) HBW.out rfl (by rw [List.length_replicate]; omega) (by omega)
              obtain ⟨AW, cW, hvW, _⟩ := (OwnV.rowA ho).slice
              generalize (List.replicate k ((.bool false) : Value) ++ [((.bool false) : Value)]).length = nW at hvW
              subst hvW
              rw [← List.replicate_succ'] at ho
              have HKn := Lib.hid (HK.out.pushW ho hg hb)
              have HVn := Lib.hid (Nat.le_trans HV.out hg.size)
              have HR := Lib.hid hg
              clear HK HV ho hg hb hat
              have HK := HKn
              have HV := HVn
              clear HKn HVn
              refine wpList_append_w (.tmp 54) (.tmp 55) _ rfl rfl rfl e1 (by kernel_rfl) ?_
              simp only [Act.put, List.setIfInBounds_toArray, List.set]
              go_wp2
              refine ⟨Only.of_grown HR.out (fun i hi => .inr (.inr (.inl hi))), ?_⟩
              clear HR e1 HBW
              have hq := HK.out.blk.cell 2
              simp only [List.getElem?_cons_zero, List.getElem?_cons_succ] at hq
              have hf := HK.out.blk.frozen 2
              refine segE (by kernel_rfl) (fun _ _ _ _ _ h => h) [21, 22] [_, _] 7 rfl rfl (by kernel_rfl) ?_
              repeat (go_big_quiet_step (fail))
              refine wpQuiet_nil ?_
              refine lateE 23 6 rfl (by kernel_rfl) (by kernel_rfl) rfl ?_
              have HKn := Lib.hid (HK.out.cells (i := 2) (u := (.slice AA nA cA)) rfl)
              clear HK
              go_wp2
              refine ⟨trivial, ?_⟩
              generalize VOAaWow.setCell ⟨g, 2, none⟩ (.slice AA nA cA) = VOAaWowx at *
              have HK := HKn
              clear HKn
              clear hq hf
              have hq := HK.out.blk.cell 3
              simp only [List.getElem?_cons_zero, List.getElem?_cons_succ] at hq
              have hf := HK.out.blk.frozen 3
              refine segE (by kernel_rfl) (fun _ _ _ _ _ h => h) [24, 25] [_, _] 4 rfl rfl (by kernel_rfl) ?_
              repeat (go_big_quiet_step (fail))
              refine wpQuiet_nil ?_
              refine lateE 26 3 rfl (by kernel_rfl) (by kernel_rfl) rfl ?_
              have HKn := Lib.hid (HK.out.cells (i := 3) (u := (.slice AO nO cO)) rfl)
              clear HK
              go_wp2
              refine ⟨trivial, ?_⟩
              generalize VOAaWowx.setCell ⟨g, 3, none⟩ (.slice AO nO cO) = VOAaWowy at *
              have HK := HKn
              clear HKn
              clear hq hf
              have hq := HK.out.blk.cell 4
              simp only [List.getElem?_cons_zero, List.getElem?_cons_succ] at hq
              have hf := HK.out.blk.frozen 4
              refine segE (by kernel_rfl) (fun _ _ _ _ _ h => h) [27, 28] [_, _] 1 rfl rfl (by kernel_rfl) ?_
              repeat (go_big_quiet_step (fail))
              refine wpQuiet_nil ?_
              refine lateE 29 0 rfl (by kernel_rfl) (by kernel_rfl) rfl ?_
              have HKn := Lib.hid (HK.out.cells (i := 4) (u := (.slice AW nW cW)) rfl)
              clear HK
              go_wp2
              refine ⟨trivial, ?_⟩
              generalize VOAaWowy.setCell ⟨g, 4, none⟩ (.slice AW nW cW) = VOAaWowz at *
              have HK := HKn
              clear HKn
              clear hq hf
              refine wpAnyE_done (by kernel_rfl) ?_
              go_wp2
              exact ⟨⟨k + 1, by omega, by go_num, vG2, vS2, _, _, _, gs2, ss2, HK.out.toMake (k + 1)⟩, by simp [intOf]; omega⟩
          · obtain ⟨bW, hbW⟩ : ∃ b, VOA.heap.size = b := ⟨_, rfl⟩
            have HKn := Lib.hid (HK.out.alloc (.cells #[.bool false] 4))
            have HBW := Lib.hid (show Blk (VOA.alloc (.cells #[.bool false] 4)) bW 4 [.bool false] from hbW ▸ Blk.new VOA 4 [.bool false])
            replace HBA := Lib.hid (HBA.out.alloc (.cells #[.bool false] 4))
            replace HBO := Lib.hid (HBO.out.alloc (.cells #[.bool false] 4))
            have HLW := Lib.hid (show V.heap.size ≤ bW by have := HV.out; omega)
            have HVn := Lib.hid (Nat.le_trans HV.out (below_alloc VOA (.cells #[.bool false] 4)).size)
            have HR := Lib.hid (below_alloc VOA (.cells #[.bool false] 4))
            clear HK HV
            go_wp2
            generalize VOA.alloc (.cells #[.bool false] 4) = VOAW at *
            have HK := HKn
            have HV := HVn
            clear HKn HVn
            refine ⟨Only.of_below _ HR.out, ?_⟩
            clear HR hbW
            refine oneE 8 11 rfl (by kernel_rfl) rfl ?_
            obtain ⟨vA', VOAWa, e1, ho, hg, hb, hat⟩ := appAt (P := Try.prog) 29 29 Try.undIs Try.infoI1 rfl HK.out.rA HK.out.bel.size bA (.int .i64 0) HBA.out rfl (by rw [List.length_replicate]; omega) (by omega)
            obtain ⟨AA, cA, hvA, _⟩ := (OwnV.rowA ho).slice
            generalize (List.replicate k ((.int .i64 0) : Value) ++ [((.int .i64 0) : Value)]).length = nA at hvA
            subst hvA
            rw [← List.replicate_succ'] at ho
            have HKn := Lib.hid (HK.out.pushA ho hg hb hat)
            replace HBW := Lib.hid (show Blk VOAWa bW 4 [.bool false] from (hg.block bW HBW.out.lt (fun e => by have := HlA.out _ e.symm; have := HLW.out; omega)).trans HBW.out)
            replace HBO := Lib.hid (show Blk VOAWa bO 3 [.int .i64 0] from (hg.block bO HBO.out.lt (fun e => by have := HlA.out _ e.symm; have := HLO.out; omega)).trans HBO.out)
            have HVn := Lib.hid (Nat.le_trans HV.out hg.size)
            have HR := Lib.hid hg
            clear HK HV ho hg hb hat
            have HK := HKn
            have HV := HVn
            clear HKn HVn
            refine wpList_append_w (.tmp 42) (.tmp 43) _ rfl rfl rfl e1 (by kernel_rfl) ?_
            simp only [Act.put, List.setIfInBounds_toArray, List.set]
            go_wp2
            refine ⟨Only.of_grown HR.out (fun i hi => .inl hi), ?_⟩
            clear HR e1 HBA
            refine oneE 14 10 rfl (by kernel_rfl) rfl ?_
            obtain ⟨vO', VOAWao, e1, ho, hg, hb, hat⟩ := appAt (P := Try.prog) 29 29 Try.undIs Try.infoI1 rfl HK.out.rO HK.out.bel.size bO (.int .i64 0) HBO.out rfl (by rw [List.length_replicate]; omega) (by omega)
            obtain ⟨AO, cO, hvO, _⟩ := (OwnV.rowA ho).slice
            generalize (List.replicate k ((.int .i64 0) : Value) ++ [((.int .i64 0) : Value)]).length = nO at hvO
            subst hvO
            rw [← List.replicate_succ'] at ho
            have HKn := Lib.hid (HK.out.pushO ho hg hb hat)
            replace HBW := Lib.hid (show Blk VOAWao bW 4 [.bool false] from (hg.block bW HBW.out.lt (fun e => by have := HlO.out _ e.symm; have := HLW.out; omega)).trans HBW.out)
            have HVn := Lib.hid (Nat.le_trans HV.out hg.size)
            have HR := Lib.hid hg
            clear HK HV ho hg hb hat
            have HK := HKn
            have HV := HVn
            clear HKn HVn
            refine wpList_append_w (.tmp 48) (.tmp 49) _ rfl rfl rfl e1 (by kernel_rfl) ?_
            simp only [Act.put, List.setIfInBounds_toArray, List.set]
            go_wp2
            refine ⟨Only.of_grown HR.out (fun i hi => .inr (.inl hi)), ?_⟩
            clear HR e1 HBO
            refine oneE 20 9 rfl (by kernel_rfl) rfl ?_
            obtain ⟨vW', VOAWaow, e1, ho, hg, hb, hat⟩ := appAt (P := Try.prog) 30 30 Try.undBs Try.infoB1 rfl HK.out.rW HK.out.bel.size bW (.bool false) HBW.out rfl (by rw [List.length_replicate]; omega) (by omega)
            obtain ⟨AW, cW, hvW, _⟩ := (OwnV.rowA ho).slice
            generalize (List.replicate k ((.bool false) : Value) ++ [((.bool false) : Value)]).length = nW at hvW
            subst hvW
            rw [← List.replicate_succ'] at ho
            have HKn := Lib.hid (HK.out.pushW ho hg hb)
            have HVn := Lib.hid (Nat.le_trans HV.out hg.size)
            have HR := Lib.hid hg
            clear HK HV ho hg hb hat
            have HK := HKn
            have HV := HVn
            clear HKn HVn
            refine wpList_append_w (.tmp 54) (.tmp 55) _ rfl rfl rfl e1 (by kernel_rfl) ?_
            simp only [Act.put, List.setIfInBounds_toArray, List.set]
            go_wp2
            refine ⟨Only.of_grown HR.out (fun i hi => .inr (.inr (.inl hi))), ?_⟩
            clear HR e1 HBW
            have hq := HK.out.blk.cell 2
            simp only [List.getElem?_cons_zero, List.getElem?_cons_succ] at hq
            have hf := HK.out.blk.frozen 2
            refine segE (by kernel_rfl) (fun _ _ _ _ _ h => h) [21, 22] [_, _] 7 rfl rfl (by kernel_rfl) ?_
            repeat (go_big_quiet_step (fail))
            refine wpQuiet_nil ?_
            refine lateE 23 6 rfl (by kernel_rfl) (by kernel_rfl) rfl ?_
            have HKn := Lib.hid (HK.out.cells (i := 2) (u := (.slice AA nA cA)) rfl)
            clear HK
            go_wp2
            refine ⟨trivial, ?_⟩
            generalize VOAWaow.setCell ⟨g, 2, none⟩ (.slice AA nA cA) = VOAWaowx at *
            have HK := HKn
            clear HKn
            clear hq hf
            have hq := HK.out.blk.cell 3
            simp only [List.getElem?_cons_zero, List.getElem?_cons_succ] at hq
            have hf := HK.out.blk.frozen 3
            refine segE (by kernel_rfl) (fun _ _ _ _ _ h => h) [24, 25] [_, _] 4 rfl rfl (by kernel_rfl) ?_
            repeat (go_big_quiet_step (fail))
            refine wpQuiet_nil ?_
            refine lateE 26 3 rfl (by kernel_rfl) (by kernel_rfl) rfl ?_
            have HKn := Lib.hid (HK.out.cells (i := 3) (u := (.slice AO nO cO)) rfl)
            clear HK
            go_wp2
            refine ⟨trivial, ?_⟩
            generalize VOAWaowx.setCell ⟨g, 3, none⟩ (.slice AO nO cO) = VOAWaowy at *
            have HK := HKn
            clear HKn
            clear hq hf
            have hq := HK.out.blk.cell 4
            simp only [List.getElem?_cons_zero, List.getElem?_cons_succ] at hq
            have hf := HK.out.blk.frozen 4
            refine segE (by kernel_rfl) (fun _ _ _ _ _ h => h) [27, 28] [_, _] 1 rfl rfl (by kernel_rfl) ?_
            repeat (go_big_quiet_step (fail))
            refine wpQuiet_nil ?_
            refine lateE 29 0 rfl (by kernel_rfl) (by kernel_rfl) rfl ?_
            have HKn := Lib.hid (HK.out.cells (i := 4) (u := (.slice AW nW cW)) rfl)
            clear HK
            go_wp2
            refine ⟨trivial, ?_⟩
            generalize VOAWaowy.setCell ⟨g, 4, none⟩ (.slice AW nW cW) = VOAWaowz at *
            have HK := HKn
            clear HKn
            clear hq hf
            refine wpAnyE_done (by kernel_rfl) ?_
            go_wp2
            exact ⟨⟨k + 1, by omega, by go_num, vG2, vS2, _, _, _, gs2, ss2, HK.out.toMake (k + 1)⟩, by simp [intOf]; omega⟩
        · obtain ⟨bW, hbW⟩ : ∃ b, VO.heap.size = b := ⟨_, rfl⟩
          have HKn := Lib.hid (HK.out.alloc (.cells #[.bool false] 4))
          have HBW := Lib.hid (show Blk (VO.alloc (.cells #[.bool false] 4)) bW 4 [.bool false] from hbW ▸ Blk.new VO 4 [.bool false])
          replace HBO := Lib.hid (HBO.out.alloc (.cells #[.bool false] 4))
          have HLW := Lib.hid (show V.heap.size ≤ bW by have := HV.out; omega)
          have HVn := Lib.hid (Nat.le_trans HV.out (below_alloc VO (.cells #[.bool false] 4)).size)
          have HR := Lib.hid (below_alloc VO (.cells #[.bool false] 4))
          clear HK HV
          go_wp2
          generalize VO.alloc (.cells #[.bool false] 4) = VOW at *
          have HK := HKn
          have HV := HVn
          clear HKn HVn
          refine ⟨Only.of_below _ HR.out, ?_⟩
          clear HR hbW
          refine oneE 7 12 rfl (by kernel_rfl) rfl ?_
          obtain ⟨bA, hbA⟩ : ∃ b, VOW.heap.size = b := ⟨_, rfl⟩
          have HKn := Lib.hid (HK.out.alloc (.cells #[.int .i64 0] 3))
          have HBA := Lib.hid (show Blk (VOW.alloc (.cells #[.int .i64 0] 3)) bA 3 [.int .i64 0] from hbA ▸ Blk.new VOW 3 [.int .i64 0])
          replace HBW := Lib.hid (HBW.out.alloc (.cells #[.int .i64 0] 3))
          replace HBO := Lib.hid (HBO.out.alloc (.cells #[.int .i64 0] 3))
          have HLA := Lib.hid (show V.heap.size ≤ bA by have := HV.out; omega)
          have HVn := Lib.hid (Nat.le_trans HV.out (below_alloc VOW (.cells #[.int .i64 0] 3)).size)
          have HR := Lib.hid (below_alloc VOW (.cells #[.int .i64 0] 3))
          clear HK HV
          go_wp2
          generalize VOW.alloc (.cells #[.int .i64 0] 3) = VOWA at *
          have HK := HKn
          have HV := HVn
          clear HKn HVn
          refine ⟨Only.of_below _ HR.out, ?_⟩
          clear HR hbA
          refine oneE 8 11 rfl (by kernel_rfl) rfl ?_
          obtain ⟨vA', VOWAa, e1, ho, hg, hb, hat⟩ := appAt (P := Try.prog) 29 29 Try.undIs Try.infoI1 rfl HK.out.rA HK.out.bel.size bA (.int .i64 0) HBA.out rfl (by rw [List.length_replicate]; omega) (by omega)
          obtain ⟨AA, cA, hvA, _⟩ := (OwnV.rowA ho).slice
          generalize (List.replicate k ((.int .i64 0) : Value) ++ [((.int .i64 0) : Value)]).length = nA at hvA
          subst hvA
          rw [← List.replicate_succ'] at ho
          have HKn := Lib.hid (HK.out.pushA ho hg hb hat)
          replace HBW := Lib.hid (show Blk VOWAa bW 4 [.bool false] from (hg.block bW HBW.out.lt (fun e => by have := HlA.out _ e.symm; have := HLW.out; omega)).trans HBW.out)
          replace HBO := Lib.hid (show Blk VOWAa bO 3 [.int .i64 0] from (hg.block bO HBO.out.lt (fun e => by have := HlA.out _ e.symm; have := HLO.out; omega)).trans HBO.out)
          have HVn := Lib.hid (Nat.le_trans HV.out hg.size)
          have HR := Lib.hid hg
          clear HK HV ho hg hb hat
          have HK := HKn
          have HV := HVn
          clear HKn HVn
          refine wpList_append_w (.tmp 42) (.tmp 43) _ rfl rfl rfl e1 (by kernel_rfl) ?_
          simp only [Act.put, List.setIfInBounds_toArray, List.set]
          go_wp2
          refine ⟨Only.of_grown HR.out (fun i hi => .inl hi), ?_⟩
          clear HR e1 HBA
          refine oneE 14 10 rfl (by kernel_rfl) rfl ?_
          obtain ⟨vO', VOWAao, e1, ho, hg, hb, hat⟩ := appAt (P := Try.prog) 29 29 Try.undIs Try.infoI1 rfl HK.out.rO HK.out.bel.size bO (.int .i64 0) HBO.out rfl (by rw [List.length_replicate]; omega) (by omega)
          obtain ⟨AO, cO, hvO, _⟩ := (OwnV.rowA ho).slice
          generalize (List.replicate k ((.int .i64 0) : Value) ++ [((.int .i64 0) : Value)]).length = nO at hvO
          subst hvO
          rw [← List.replicate_succ'] at ho
          have HKn := Lib.hid (HK.out.pushO ho hg hb hat)
          replace HBW := Lib.hid (show Blk VOWAao bW 4 [.bool false] from (hg.block bW HBW.out.lt (fun e => by have := HlO.out _ e.symm; have := HLW.out; omega)).trans HBW.out)
          have HVn := Lib.hid (Nat.le_trans HV.out hg.size)
          have HR := Lib.hid hg
          clear HK HV ho hg hb hat
          have HK := HKn
          have HV := HVn
          clear HKn HVn
          refine wpList_append_w (.tmp 48) (.tmp 49) _ rfl rfl rfl e1 (by kernel_rfl) ?_
          simp only [Act.put, List.setIfInBounds_toArray, List.set]
          go_wp2
          refine ⟨Only.of_grown HR.out (fun i hi => .inr (.inl hi)), ?_⟩
          clear HR e1 HBO
          refine oneE 20 9 rfl (by kernel_rfl) rfl ?_
          obtain ⟨vW', VOWAaow, e1, ho, hg, hb, hat⟩ := appAt (P := Try.prog) 30 30 Try.undBs Try.infoB1 rfl HK.out.rW HK.out.bel.size bW (.bool false) HBW.out rfl (by rw [List.length_replicate]; omega) (by omega)
          obtain ⟨AW, cW, hvW, _⟩ := (OwnV.rowA ho).slice
          generalize (List.replicate k ((.bool false) : Value) ++ [((.bool false) : Value)]).length = nW at hvW
          subst hvW
          rw [← List.replicate_succ'] at ho
          have HKn := Lib.hid (HK.out.pushW ho hg hb)
          have HVn := Lib.hid (Nat.le_trans HV.out hg.size)
          have HR := Lib.hid hg
          clear HK HV ho hg hb hat
          have HK := HKn
          have HV := HVn
          clear HKn HVn
          refine wpList_append_w (.tmp 54) (.tmp 55) _ rfl rfl rfl e1 (by kernel_rfl) ?_
          simp only [Act.put, List.setIfInBounds_toArray, List.set]
          go_wp2
          refine ⟨Only.of_grown HR.out (fun i hi => .inr (.inr (.inl hi))), ?_⟩
          clear HR e1 HBW
          have hq := HK.out.blk.cell 2
          simp only [List.getElem?_cons_zero, List.getElem?_cons_succ] at hq
          have hf := HK.out.blk.frozen 2
          refine segE (by kernel_rfl) (fun _ _ _ _ _ h => h) [21, 22] [_, _] 7 rfl rfl (by kernel_rfl) ?_
          repeat (go_big_quiet_step (fail))
          refine wpQuiet_nil ?_
          refine lateE 23 6 rfl (by kernel_rfl) (by kernel_rfl) rfl ?_
          have HKn := Lib.hid (HK.out.cells (i := 2) (u := (.slice AA nA cA)) rfl)
          clear HK
          go_wp2
          refine ⟨trivial, ?_⟩
          generalize VOWAaow.setCell ⟨g, 2, none⟩ (.slice AA nA cA) = VOWAaowx at *
          have HK := HKn
          clear HKn
          clear hq hf
          have hq := HK.out.blk.cell 3
          simp only [List.getElem?_cons_zero, List.getElem?_cons_succ] at hq
          have hf := HK.out.blk.frozen 3
          refine segE (by kernel_rfl) (fun _ _ _ _ _ h => h) [24, 25] [_, _] 4 rfl rfl (by kernel_rfl) ?_
          repeat (go_big_quiet_step (fail))
          refine wpQuiet_nil ?_
          refine lateE 26 3 rfl (by kernel_rfl) (by kernel_rfl) rfl ?_
          have HKn := Lib.hid (HK.out.cells (i := 3) (u := (.slice AO nO cO)) rfl)
          clear HK
          go_wp2
          refine ⟨trivial, ?_⟩
          generalize VOWAaowx.setCell ⟨g, 3, none⟩ (.slice AO nO cO) = VOWAaowy at *
          have HK := HKn
          clear HKn
          clear hq hf
          have hq := HK.out.blk.cell 4
          simp only [List.getElem?_cons_zero, List.getElem?_cons_succ] at hq
          have hf := HK.out.blk.frozen 4
          refine segE (by kernel_rfl) (fun _ _ _ _ _ h => h) [27, 28] [_, _] 1 rfl rfl (by kernel_rfl) ?_
          repeat (go_big_quiet_step (fail))
          refine wpQuiet_nil ?_
          refine lateE 29 0 rfl (by kernel_rfl) (by kernel_rfl) rfl ?_
          have HKn := Lib.hid (HK.out.cells (i := 4) (u := (.slice AW nW cW)) rfl)
          clear HK
          go_wp2
          refine ⟨trivial, ?_⟩
          generalize VOWAaowy.setCell ⟨g, 4, none⟩ (.slice AW nW cW) = VOWAaowz at *
          have HK := HKn
          clear HKn
          clear hq hf
          refine wpAnyE_done (by kernel_rfl) ?_
          go_wp2
          exact ⟨⟨k + 1, by omega, by go_num, vG2, vS2, _, _, _, gs2, ss2, HK.out.toMake (k + 1)⟩, by simp [intOf]; omega⟩
      · obtain ⟨bW, hbW⟩ : ∃ b, V.heap.size = b := ⟨_, rfl⟩
        have HKn := Lib.hid (HK.out.alloc (.cells #[.bool false] 4))
        have HBW := Lib.hid (show Blk (V.alloc (.cells #[.bool false] 4)) bW 4 [.bool false] from hbW ▸ Blk.new V 4 [.bool false])
        have HLW := Lib.hid (show V.heap.size ≤ bW by have := HV.out; omega)
        have HVn := Lib.hid (Nat.le_trans HV.out (below_alloc V (.cells #[.bool false] 4)).size)
        have HR := Lib.hid (below_alloc V (.cells #[.bool false] 4))
        clear HK HV
        go_wp2
        generalize V.alloc (.cells #[.bool false] 4) = VW at *
        have HK := HKn
        have HV := HVn
        clear HKn HVn
        refine ⟨Only.of_below _ HR.out, ?_⟩
        clear HR hbW
        refine twoE 7 13 13 rfl (by kernel_rfl) rfl rfl ?_ ?_
        · obtain ⟨bA, hbA⟩ : ∃ b, VW.heap.size = b := ⟨_, rfl⟩
          have HKn := Lib.hid (HK.out.alloc (.cells #[.int .i64 0] 3))
          have HBA := Lib.hid (show Blk (VW.alloc (.cells #[.int .i64 0] 3)) bA 3 [.int .i64 0] from hbA ▸ Blk.new VW 3 [.int .i64 0])
          replace HBW := Lib.hid (HBW.out.alloc (.cells #[.int .i64 0] 3))
          have HLA := Lib.hid (show V.heap.size ≤ bA by have := HV.out; omega)
          have HVn := Lib.hid (Nat.le_trans HV.out (below_alloc VW (.cells #[.int .i64 0] 3)).size)
          have HR := Lib.hid (below_alloc VW (.cells #[.int .i64 0] 3))
          clear HK HV
          go_wp2
          generalize VW.alloc (.cells #[.int .i64 0] 3) = VWA at *
          have HK := HKn
          have HV := HVn
          clear HKn HVn
          refine ⟨Only.of_below _ HR.out, ?_⟩
          clear HR hbA
          refine twoE 8 13 12 rfl (by kernel_rfl) rfl rfl ?_ ?_
          · obtain ⟨vA', VWAa, e1, ho, hg, hb, hat⟩ := appAt (P := Try.prog) 29 29 Try.undIs Try.infoI1 rfl HK.out.rA HK.out.bel.size bA (.int .i64 0) HBA.out rfl (by rw [List.length_replicate]; omega) (by omega)
            obtain ⟨AA, cA, hvA, _⟩ := (OwnV.rowA ho).slice
            generalize (List.replicate k ((.int .i64 0) : Value) ++ [((.int .i64 0) : Value)]).length = nA at hvA
            subst hvA
            rw [← List.replicate_succ'] at ho
            have HKn := Lib.hid (HK.out.pushA ho hg hb hat)
            replace HBW := Lib.hid (show Blk VWAa bW 4 [.bool false] from (hg.block bW HBW.out.lt (fun e => by have := HlA.out _ e.symm; have := HLW.out; omega)).trans HBW.out)
            have HVn := Lib.hid (Nat.le_trans HV.out hg.size)
            have HR := Lib.hid hg
            clear HK HV ho hg hb hat
            have HK := HKn
            have HV := HVn
            clear HKn HVn
            refine wpList_append_w (.tmp 42) (.tmp 43) _ rfl rfl rfl e1 (by kernel_rfl) ?_
            simp only [Act.put, List.setIfInBounds_toArray, List.set]
            go_wp2
            refine ⟨Only.of_grown HR.out (fun i hi => .inl hi), ?_⟩
            clear HR e1 HBA
            refine oneE 13 11 rfl (by kernel_rfl) rfl ?_
            obtain ⟨bO, hbO⟩ : ∃ b, VWAa.heap.size = b := ⟨_, rfl⟩
            have HKn := Lib.hid (HK.out.alloc (.cells #[.int .i64 0] 3))
            have HBO := Lib.hid (show Blk (VWAa.alloc (.cells #[.int .i64 0] 3)) bO 3 [.int .i64 0] from hbO ▸ Blk.new VWAa 3 [.int .i64 0])
            replace HBW := Lib.hid (HBW.out.alloc (.cells #[.int .i64 0] 3))
            have HLO := Lib.hid (show V.heap.size ≤ bO by have := HV.out; omega)
            have HVn := Lib.hid (Nat.le_trans HV.out (below_alloc VWAa (.cells #[.int .i64 0] 3)).size)
            have HR := Lib.hid (below_alloc VWAa (.cells #[.int .i64 0] 3))
            clear HK HV
            go_wp2
            generalize VWAa.alloc (.cells #[.int .i64 0] 3) = VWAaO at *
            have HK := HKn
            have HV := HVn
            clear HKn HVn
            refine ⟨Only.of_below _ HR.out, ?_⟩
            clear HR hbO
            refine oneE 14 10 rfl (by kernel_rfl) rfl ?_
            obtain ⟨vO', VWAaOo, e1, ho, hg, hb, hat⟩ := appAt (P := Try.prog) 29 29 Try.undIs Try.infoI1 rfl HK.out.rO HK.out.bel.size bO (.int .i64 0) HBO.out rfl (by rw [List.length_replicate]; omega) (by omega)
            obtain ⟨AO, cO, hvO, _⟩ := (OwnV.rowA ho).slice
            generalize (List.replicate k ((.int .i64 0) : Value) ++ [((.int .i64 0) : Value)]).length = nO at hvO
            subst hvO
            rw [← List.replicate_succ'] at ho
            have HKn := Lib.hid (HK.out.pushO ho hg hb hat)
            replace HBW := Lib.hid (show Blk VWAaOo bW 4 [.bool false] from (hg.block bW HBW.out.lt (fun e => by have := HlO.out _ e.symm; have := HLW.out; omega)).trans HBW.out)
            have HVn := Lib.hid (Nat.le_trans HV.out hg.size)
            have HR := Lib.hid hg
            clear HK HV ho hg hb hat
            have HK := HKn
            have HV := HVn
            clear HKn HVn
            refine wpList_append_w (.tmp 48) (.tmp 49) _ rfl rfl rfl e1 (by kernel_rfl) ?_
            simp only [Act.put, List.setIfInBounds_toArray, List.set]
            go_wp2
            refine ⟨Only.of_grown HR.out (fun i hi => .inr (.inl hi)), ?_⟩
            clear HR e1 HBO
            refine oneE 20 9 rfl (by kernel_rfl) rfl ?_
            obtain ⟨vW', VWAaOow, e1, ho, hg, hb, hat⟩ := appAt (P := Try.prog) 30 30 Try.undBs Try.infoB1 rfl HK.out.rW HK.out.bel.size bW (.bool false) HBW.out rfl (by rw [List.length_replicate]; omega) (by omega)
            obtain ⟨AW, cW, hvW, _⟩ := (OwnV.rowA ho).slice
            generalize (List.replicate k ((.bool false) : Value) ++ [((.bool false) : Value)]).length = nW at hvW
            subst hvW
            rw [← List.replicate_succ'] at ho
            have HKn := Lib.hid (HK.out.pushW ho hg hb)
            have HVn := Lib.hid (Nat.le_trans HV.out hg.size)
            have HR := Lib.hid hg
            clear HK HV ho hg hb hat
            have HK := HKn
            have HV := HVn
            clear HKn HVn
            refine wpList_append_w (.tmp 54) (.tmp 55) _ rfl rfl rfl e1 (by kernel_rfl) ?_
            simp only [Act.put, List.setIfInBounds_toArray, List.set]
            go_wp2
            refine ⟨Only.of_grown HR.out (fun i hi => .inr (.inr (.inl hi))), ?_⟩
            clear HR e1 HBW
            have hq := HK.out.blk.cell 2
            simp only [List.getElem?_cons_zero, List.getElem?_cons_succ] at hq
            have hf := HK.out.blk.frozen 2
            refine segE (by kernel_rfl) (fun _ _ _ _ _ h => h) [21, 22] [_, _] 7 rfl rfl (by kernel_rfl) ?_
            repeat (go_big_quiet_step (fail))
            refine wpQuiet_nil ?_
            refine lateE 23 6 rfl (by kernel_rfl) (by kernel_rfl) rfl ?_
            have HKn := Lib.hid (HK.out.cells (i := 2) (u := (.slice AA nA cA)) rfl)
            clear HK
            go_wp2
            refine ⟨trivial, ?_⟩
            generalize VWAaOow.setCell ⟨g, 2, none⟩ (.slice AA nA cA) = VWAaOowx at *
            have HK := HKn
            clear HKn
            clear hq hf
            have hq := HK.out.blk.cell 3
            simp only [List.getElem?_cons_zero, List.getElem?_cons_succ] at hq
            have hf := HK.out.blk.frozen 3
            refine segE (by kernel_rfl) (fun _ _ _ _ _ h => h) [24, 25] [_, _] 4 rfl rfl (by kernel_rfl) ?_
            repeat (go_big_quiet_step (fail))
            refine wpQuiet_nil ?_
            refine lateE 26 3 rfl (by kernel_rfl) (by kernel_rfl) rfl ?_
            have HKn := Lib.hid (HK.out.cells (i := 3) (u := (.slice AO nO cO)) rfl)
            clear HK
            go_wp2
            refine ⟨trivial, ?_⟩
            generalize VWAaOowx.setCell ⟨g, 3, none⟩ (.slice AO nO cO) = VWAaOowy at *
            have HK := HKn
            clear HKn
            clear hq hf
            have hq := HK.out.blk.cell 4
            simp only [List.getElem?_cons_zero, List.getElem?_cons_succ] at hq
            have hf := HK.out.blk.frozen 4
            refine segE (by kernel_rfl) (fun _ _ _ _ _ h => h) [27, 28] [_, _] 1 rfl rfl (by kernel_rfl) ?_
            repeat (go_big_quiet_step (fail))
            refine wpQuiet_nil ?_
            refine lateE 29 0 rfl (by kernel_rfl) (by kernel_rfl) rfl ?_
            have HKn := Lib.hid (HK.out.cells (i := 4) (u := (.slice AW nW cW)) rfl)
            clear HK
            go_wp2
            refine ⟨trivial, ?_⟩
            generalize VWAaOowy.setCell ⟨g, 4, none⟩ (.slice AW nW cW) = VWAaOowz at *
            have HK := HKn
            clear HKn
            clear hq hf
            refine wpAnyE_done (by kernel_rfl) ?_
            go_wp2
            exact ⟨⟨k + 1, by omega, by go_num, vG2, vS2, _, _, _, gs2, ss2, HK.out.toMake (k + 1)⟩, by simp [intOf]; omega⟩
          · obtain ⟨bO, hbO⟩ : ∃ b, VWA.heap.size = b := ⟨_, rfl⟩
            have HKn := Lib.hid (HK.out.alloc (.cells #[.int .i64 0] 3))
            have HBO := Lib.hid (show Blk (VWA.alloc (.cells #[.int .i64 0] 3)) bO 3 [.int .i64 0] from hbO ▸ Blk.new VWA 3 [.int .i64 0])
            replace HBA := Lib.hid (HBA.out.alloc (.cells #[.int .i64 0] 3))
            replace HBW := Lib.hid (HBW.out.alloc (.cells #[.int .i64 0] 3))
            have HLO := Lib.hid (show V.heap.size ≤ bO by have := HV.out; omega)
            have HVn := Lib.hid (Nat.le_trans HV.out (below_alloc VWA (.cells #[.int .i64 0] 3)).size)
            have HR := Lib.hid (below_alloc VWA (.cells #[.int .i64 0] 3))
            clear HK HV
            go_wp2
            generalize VWA.alloc (.cells #[.int .i64 0] 3) = VWAO at *
            have HK := HKn
            have HV := HVn
            clear HKn HVn
            refine ⟨Only.of_below _ HR.out, ?_⟩
            clear HR hbO
            refine oneE 8 11 rfl (by kernel_rfl) rfl ?_
            obtain ⟨vA', VWAOa, e1, ho, hg, hb, hat⟩ := appAt (P := Try.prog) 29 29 Try.undIs Try.infoI1 rfl HK.out.rA HK.out.bel.size bA (.int .i64 0) HBA.out rfl (by rw [List.length_replicate]; omega) (by omega)
            obtain ⟨AA, cA, hvA, _⟩ := (OwnV.rowA ho).slice
            generalize (List.replicate k ((.int .i64 0) : Value) ++ [((.int .i64 0) : Value)]).length = nA at hvA
            subst hvA
            rw [← List.replicate_succ'] at ho
            have HKn := Lib.hid (HK.out.pushA ho hg hb hat)
            replace HBW := Lib.hid (show Blk VWAOa bW 4 [.bool false] from (hg.block bW HBW.out.lt (fun e => by have := HlA.out _ e.symm; have := HLW.out; omega)).trans HBW.out)
            replace HBO := Lib.hid (show Blk VWAOa bO 3 [.int .i64 0] from (hg.block bO HBO.out.lt (fun e => by have := HlA.out _ e.symm; have := HLO.out; omega)).trans HBO.out)
            have HVn := Lib.hid (Nat.le_trans HV.out hg.size)
            have HR := Lib.hid hg
            clear HK HV ho hg hb hat
            have HK := HKn
            have HV := HVn
            clear HKn HVn
            refine wpList_append_w (.tmp 42) (.tmp 43) _ rfl rfl rfl e1 (by kernel_rfl) ?_
            simp only [Act.put, List.setIfInBounds_toArray, List.set]
            go_wp2
            refine ⟨Only.of_grown HR.out (fun i hi => .inl hi), ?_⟩
            clear HR e1 HBA
            refine oneE 14 10 rfl (by kernel_rfl) rfl ?_
            obtain ⟨vO', VWAOao, e1, ho, hg, hb, hat⟩ := appAt (P := Try.prog) 29 29 Try.undIs Try.infoI1 rfl HK.out.rO HK.out.bel.size bO (.int .i64 0) HBO.out rfl (by rw [List.length_replicate]; omega) (by omega)
            obtain ⟨AO, cO, hvO, _⟩ := (OwnV.rowA ho).slice
            generalize (List.replicate k ((.int .i64 0) : Value) ++ [((.int .i64 0) : Value)]).length = nO at hvO
            subst hvO
            rw [← List.replicate_succ'] at ho
            have HKn := Lib.hid (HK.out.pushO ho hg hb hat)
            replace HBW := Lib.hid (show Blk VWAOao bW 4 [.bool false] from (hg.block bW HBW.out.lt (fun e => by have := HlO.out _ e.symm; have := HLW.out; omega)).trans HBW.out)
            have HVn := Lib.hid (Nat.le_trans HV.out hg.size)
            have HR := Lib.hid hg
            clear HK HV ho hg hb hat
            have HK := HKn
            have HV := HVn
            clear HKn HVn
            refine wpList_append_w (.tmp 48) (.tmp 49) _ rfl rfl rfl e1 (by kernel_rfl) ?_
            simp only [Act.put, List.setIfInBounds_toArray, List.set]
            go_wp2
            refine ⟨Only.of_grown HR.out (fun i hi => .inr (.inl hi)), ?_⟩
            clear HR e1 HBO
            refine oneE 20 9 rfl (by kernel_rfl) rfl ?_
            obtain ⟨vW', VWAOaow, e1, ho, hg, hb, hat⟩ := appAt (P := Try.prog) 30 30 Try.undBs Try.infoB1 rfl HK.out.rW HK.out.bel.size bW (.bool false) HBW.out rfl (by rw [List.length_replicate]; omega) (by omega)
            obtain ⟨AW, cW, hvW, _⟩ := (OwnV.rowA ho).slice
            generalize (List.replicate k ((.bool false) : Value) ++ [((.bool false) : Value)]).length = nW at hvW
            subst hvW
            rw [← List.replicate_succ'] at ho
            have HKn := Lib.hid (HK.out.pushW ho hg hb)
            have HVn := Lib.hid (Nat.le_trans HV.out hg.size)
            have HR := Lib.hid hg
            clear HK HV ho hg hb hat
            have HK := HKn
            have HV := HVn
            clear HKn HVn
            refine wpList_append_w (.tmp 54) (.tmp 55) _ rfl rfl rfl e1 (by kernel_rfl) ?_
            simp only [Act.put, List.setIfInBounds_toArray, List.set]
            go_wp2
            refine ⟨Only.of_grown HR.out (fun i hi => .inr (.inr (.inl hi))), ?_⟩
            clear HR e1 HBW
            have hq := HK.out.blk.cell 2
            simp only [List.getElem?_cons_zero, List.getElem?_cons_succ] at hq
            have hf := HK.out.blk.frozen 2
            refine segE (by kernel_rfl) (fun _ _ _ _ _ h => h) [21, 22] [_, _] 7 rfl rfl (by kernel_rfl) ?_
            repeat (go_big_quiet_step (fail))
            refine wpQuiet_nil ?_
            refine lateE 23 6 rfl (by kernel_rfl) (by kernel_rfl) rfl ?_
            have HKn := Lib.hid (HK.out.cells (i := 2) (u := (.slice AA nA cA)) rfl)
            clear HK
            go_wp2
            refine ⟨trivial, ?_⟩
            generalize VWAOaow.setCell ⟨g, 2, none⟩ (.slice AA nA cA) = VWAOaowx at *
            have HK := HKn
            clear HKn
            clear hq hf
            have hq := HK.out.blk.cell 3
            simp only [List.getElem?_cons_zero, List.getElem?_cons_succ] at hq
            have hf := HK.out.blk.frozen 3
            refine segE (by kernel_rfl) (fun _ _ _ _ _ h => h) [24, 25] [_, _] 4 rfl rfl (by kernel_rfl) ?_
            repeat (go_big_quiet_step (fail))
            refine wpQuiet_nil ?_
            refine lateE 26 3 rfl (by kernel_rfl) (by kernel_rfl) rfl ?_
            have HKn := Lib.hid (HK.out.cells (i := 3) (u := (.slice AO nO cO)) rfl)
            clear HK
            go_wp2
            refine ⟨trivial, ?_⟩
            generalize VWAOaowx.setCell ⟨g, 3, none⟩ (.slice AO nO cO) = VWAOaowy at *
            have HK := HKn
            clear HKn
            clear hq hf
            have hq := HK.out.blk.cell 4
            simp only [List.getElem?_cons_zero, List.getElem?_cons_succ] at hq
            have hf := HK.out.blk.frozen 4
            refine segE (by kernel_rfl) (fun _ _ _ _ _ h => h) [27, 28] [_, _] 1 rfl rfl (by kernel_rfl) ?_
            repeat (go_big_quiet_step (fail))
            refine wpQuiet_nil ?_
            refine lateE 29 0 rfl (by kernel_rfl) (by kernel_rfl) rfl ?_
            have HKn := Lib.hid (HK.out.cells (i := 4) (u := (.slice AW nW cW)) rfl)
            clear HK
            go_wp2
            refine ⟨trivial, ?_⟩
            generalize VWAOaowy.setCell ⟨g, 4, none⟩ (.slice AW nW cW) = VWAOaowz at *
            have HK := HKn
            clear HKn
            clear hq hf
            refine wpAnyE_done (by kernel_rfl) ?_
            go_wp2
            exact ⟨⟨k + 1, by omega, by go_num, vG2, vS2, _, _, _, gs2, ss2, HK.out.toMake (k + 1)⟩, by simp [intOf]; omega⟩
        · obtain ⟨bO, hbO⟩ : ∃ b, VW.heap.size = b := ⟨_, rfl⟩
          have HKn := Lib.hid (HK.out.alloc (.cells #[.int .i64 0] 3))
          have HBO := Lib.hid (show Blk (VW.alloc (.cells #[.int .i64 0] 3)) bO 3 [.int .i64 0] from hbO ▸ Blk.new VW 3 [.int .i64 0])
          replace HBW := Lib.hid (HBW.out.alloc (.cells #[.int .i64 0] 3))
          have HLO := Lib.hid (show V.heap.size ≤ bO by have := HV.out; omega)
          have HVn := Lib.hid (Nat.le_trans HV.out (below_alloc VW (.cells #[.int .i64 0] 3)).size)
          have HR := Lib.hid (below_alloc VW (.cells #[.int .i64 0] 3))
          clear HK HV
          go_wp2
          generalize VW.alloc (.cells #[.int .i64 0] 3) = VWO at *
          have HK := HKn
          have HV := HVn
          clear HKn HVn
          refine ⟨Only.of_below _ HR.out, ?_⟩
          clear HR hbO
          refine oneE 7 12 rfl (by kernel_rfl) rfl ?_
          obtain ⟨bA, hbA⟩ : ∃ b, VWO.heap.size = b := ⟨_, rfl⟩
          have HKn := Lib.hid (HK.out.alloc (.cells #[.int .i64 0] 3))
          have HBA := Lib.hid (show Blk (VWO.alloc (.cells #[.int .i64 0] 3)) bA 3 [.int .i64 0] from hbA ▸ Blk.new VWO 3 [.int .i64 0])
          replace HBW := Lib.hid (HBW.out.alloc (.cells #[.int .i64 0] 3))
          replace HBO := Lib.hid (HBO.out.alloc (.cells #[.int .i64 0] 3))
          have HLA := Lib.hid (show V.heap.size ≤ bA by have := HV.out; omega)
          have HVn := Lib.hid (Nat.le_trans HV.out (below_alloc VWO (.cells #[.int .i64 0] 3)).size)
          have HR := Lib.hid (below_alloc VWO (.cells #[.int .i64 0] 3))
          clear HK HV
          go_wp2
          generalize VWO.alloc (.cells #[.int .i64 0] 3) = VWOA at *
          have HK := HKn
          have HV := HVn
          clear HKn HVn
          refine ⟨Only.of_below _ HR.out, ?_⟩
          clear HR hbA
          refine oneE 8 11 rfl (by kernel_rfl) rfl ?_
          obtain ⟨vA', VWOAa, e1, ho, hg, hb, hat⟩ := appAt (P := Try.prog) 29 29 Try.undIs Try.infoI1 rfl HK.out.rA HK.out.bel.size bA (.int .i64 0) HBA.out rfl (by rw [List.length_replicate]; omega) (by omega)
          obtain ⟨AA, cA, hvA, _⟩ := (OwnV.rowA ho).slice
          generalize (List.replicate k ((.int .i64 0) : Value) ++ [((.int .i64 0) : Value)]).length = nA at hvA
          subst hvA
          rw [← List.replicate_succ'] at ho
          have HKn := Lib.hid (HK.out.pushA ho hg hb hat)
          replace HBW := Lib.hid (show Blk VWOAa bW 4 [.bool false] from (hg.block bW HBW.out.lt (fun e => by have := HlA.out _ e.symm; have := HLW.out; omega)).trans HBW.out)
          replace HBO := Lib.hid (show Blk VWOAa bO 3 [.int .i64 0] from (hg.block bO HBO.out.lt (fun e => by have := HlA.out _ e.symm; have := HLO.out; omega)).trans HBO.out)
          have HVn := Lib.hid (Nat.le_trans HV.out hg.size)
          have HR := Lib.hid hg
          clear HK HV ho hg hb hat
          have HK := HKn
          have HV := HVn
          clear HKn HVn
          refine wpList_append_w (.tmp 42) (.tmp 43) _ rfl rfl rfl e1 (by kernel_rfl) ?_
          simp only [Act.put, List.setIfInBounds_toArray, List.set]
          go_wp2
          refine ⟨Only.of_grown HR.out (fun i hi => .inl hi), ?_⟩
          clear HR e1 HBA
          refine oneE 14 10 rfl (by kernel_rfl) rfl ?_
          obtain ⟨vO', VWOAao, e1, ho, hg, hb, hat⟩ := appAt (P := Try.prog) 29 29 Try.undIs Try.infoI1 rfl HK.out.rO HK.out.bel.size bO (.int .i64 0) HBO.out rfl (by rw [List.length_replicate]; omega) (by omega)
          obtain ⟨AO, cO, hvO, _⟩ := (OwnV.rowA ho).slice
          generalize (List.replicate k ((.int .i64 0) : Value) ++ [((.int .i64 0) : Value)]).length = nO at hvO
          subst hvO
          rw [← List.replicate_succ'] at ho
          have HKn := Lib.hid (HK.out.pushO ho hg hb hat)
          replace HBW := Lib.hid (show Blk VWOAao bW 4 [.bool false] from (hg.block bW HBW.out.lt (fun e => by have := HlO.out _ e.symm; have := HLW.out; omega)).trans HBW.out)
          have HVn := Lib.hid (Nat.le_trans HV.out hg.size)
          have HR := Lib.hid hg
          clear HK HV ho hg hb hat
          have HK := HKn
          have HV := HVn
          clear HKn HVn
          refine wpList_append_w (.tmp 48) (.tmp 49) _ rfl rfl rfl e1 (by kernel_rfl) ?_
          simp only [Act.put, List.setIfInBounds_toArray, List.set]
          go_wp2
          refine ⟨Only.of_grown HR.out (fun i hi => .inr (.inl hi)), ?_⟩
          clear HR e1 HBO
          refine oneE 20 9 rfl (by kernel_rfl) rfl ?_
          obtain ⟨vW', VWOAaow, e1, ho, hg, hb, hat⟩ := appAt (P := Try.prog) 30 30 Try.undBs Try.infoB1 rfl HK.out.rW HK.out.bel.size bW (.bool false) HBW.out rfl (by rw [List.length_replicate]; omega) (by omega)
          obtain ⟨AW, cW, hvW, _⟩ := (OwnV.rowA ho).slice
          generalize (List.replicate k ((.bool false) : Value) ++ [((.bool false) : Value)]).length = nW at hvW
          subst hvW
          rw [← List.replicate_succ'] at ho
          have HKn := Lib.hid (HK.out.pushW ho hg hb)
          have HVn := Lib.hid (Nat.le_trans HV.out hg.size)
          have HR := Lib.hid hg
          clear HK HV ho hg hb hat
          have HK := HKn
          have HV := HVn
          clear HKn HVn
          refine wpList_append_w (.tmp 54) (.tmp 55) _ rfl rfl rfl e1 (by kernel_rfl) ?_
          simp only [Act.put, List.setIfInBounds_toArray, List.set]
          go_wp2
          refine ⟨Only.of_grown HR.out (fun i hi => .inr (.inr (.inl hi))), ?_⟩
          clear HR e1 HBW
          have hq := HK.out.blk.cell 2
          simp only [List.getElem?_cons_zero, List.getElem?_cons_succ] at hq
          have hf := HK.out.blk.frozen 2
          refine segE (by kernel_rfl) (fun _ _ _ _ _ h => h) [21, 22] [_, _] 7 rfl rfl (by kernel_rfl) ?_
          repeat (go_big_quiet_step (fail))
          refine wpQuiet_nil ?_
          refine lateE 23 6 rfl (by kernel_rfl) (by kernel_rfl) rfl ?_
          have HKn := Lib.hid (HK.out.cells (i := 2) (u := (.slice AA nA cA)) rfl)
          clear HK
          go_wp2
          refine ⟨trivial, ?_⟩
          generalize VWOAaow.setCell ⟨g, 2, none⟩ (.slice AA nA cA) = VWOAaowx at *
          have HK := HKn
          clear HKn
          clear hq hf
          have hq := HK.out.blk.cell 3
          simp only [List.getElem?_cons_zero, List.getElem?_cons_succ] at hq
          have hf := HK.out.blk.frozen 3
          refine segE (by kernel_rfl) (fun _ _ _ _ _ h => h) [24, 25] [_, _] 4 rfl rfl (by kernel_rfl) ?_
          repeat (go_big_quiet_step (fail))
          refine wpQuiet_nil ?_
          refine lateE 26 3 rfl (by kernel_rfl) (by kernel_rfl) rfl ?_
          have HKn := Lib.hid (HK.out.cells (i := 3) (u := (.slice AO nO cO)) rfl)
          clear HK
          go_wp2
          refine ⟨trivial, ?_⟩
          generalize VWOAaowx.setCell ⟨g, 3, none⟩ (.slice AO nO cO) = VWOAaowy at *
          have HK := HKn
          clear HKn
          clear hq hf
          have hq := HK.out.blk.cell 4
          simp only [List.getElem?_cons_zero, List.getElem?_cons_succ] at hq
          have hf := HK.out.blk.frozen 4
          refine segE (by kernel_rfl) (fun _ _ _ _ _ h => h) [27, 28] [_, _] 1 rfl rfl (by kernel_rfl) ?_
          repeat (go_big_quiet_step (fail))
          refine wpQuiet_nil ?_
          refine lateE 29 0 rfl (by kernel_rfl) (by kernel_rfl) rfl ?_
          have HKn := Lib.hid (HK.out.cells (i := 4) (u := (.slice AW nW cW)) rfl)
          clear HK
          go_wp2
          refine ⟨trivial, ?_⟩
          generalize VWOAaowy.setCell ⟨g, 4, none⟩ (.slice AW nW cW) = VWOAaowz at *
          have HK := HKn
          clear HKn
          clear hq hf
          refine wpAnyE_done (by kernel_rfl) ?_
          go_wp2
          exact ⟨⟨k + 1, by omega, by go_num, vG2, vS2, _, _, _, gs2, ss2, HK.out.toMake (k + 1)⟩, by simp [intOf]; omega⟩
    · by_cases h2 : (k : Int) < n
      · have hd1 : decide ((k : Int) < n) = true := by simpa using h2
        have hd2 : decide ((k : Int) < 4096) = false := by have := Hm.out; simp; omega
        go_wp2
        go_ret
        refine ⟨_, g, rfl, HM.out.refD (by have := Hm.out; omega), fun j hj => hj.1, HM.out.bel⟩
      · have hd1 : decide ((k : Int) < n) = false := by simpa using h2
        go_wp2
        go_ret
        refine ⟨_, g, rfl, HM.out.refD (by have := Hm.out; omega), fun j hj => hj.1, HM.out.bel⟩
end Go.Proofs.Ytampdfmakhdliaa
