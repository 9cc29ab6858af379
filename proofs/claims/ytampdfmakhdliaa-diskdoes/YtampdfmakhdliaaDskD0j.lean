/-
  Layer 14: a disk beside the reference's, apart from it.
-/
import Derived.Test.YtampdfmakhdliaaDskRnj
import Derived.Test.YtampdfmakhdliaaRegFj
set_option maxRecDepth 100000
namespace Go.Proofs.Ytampdfmakhdliaa
open Go.RowKit Go.Gar
open Go.Gar.Dsk (Dsk)

/-- Both in memory, d the disk's, d2 the reference's; their blocks are apart and lie from base on. -/
structure Both (Rep : World → (Nat → Prop) → Nat → Dsk → Prop) (w0 w : World) (F F2 : Nat → Prop) (g g2 : Nat) (d d2 : Dsk) : Prop where
  rep : Rep w F g d
  ref : RefD w F2 g2 d2
  lt : ∀ j, F j → j < w.heap.size
  lt2 : ∀ j, F2 j → j < w.heap.size
  dis : ∀ j, F j → ¬ F2 j
  lo : ∀ j, F j → w0.heap.size ≤ j
  lo2 : ∀ j, F2 j → w0.heap.size ≤ j
  bel : Below w0.heap.size w0 w
theorem RefD.lt {w : World} {F : Nat → Prop} {g : Nat} {d : Dsk} (h : RefD w F g d) : ∀ j, F j → j < w.heap.size := by
  obtain ⟨_, _, _, _, _, _, _, _, h⟩ := h
  exact h.lt
theorem RefD.ok {w : World} {F : Nat → Prop} {g : Nat} {d : Dsk} (h : RefD w F g d) : Dsk.Ok d := by
  obtain ⟨_, _, _, _, _, _, _, _, h⟩ := h
  exact h.ok
section
variable {Rep : World → (Nat → Prop) → Nat → Dsk → Prop} {w0 w w' : World} {F F2 F' : Nat → Prop} {g g2 : Nat} {d d2 d' : Dsk}
theorem Both.below (h : Both Rep w0 w F F2 g g2 d d2) (hOK : DiskOK Rep) (hb : Below w.heap.size w w') : Both Rep w0 w' F F2 g g2 d d2 :=
  ⟨hOK.keep h.rep fun j hj => hb.block j (h.lt j hj), h.ref.keep hb.size fun j hj => hb.block j (h.lt2 j hj), fun j hj => Nat.lt_of_lt_of_le (h.lt j hj) hb.size, fun j hj => Nat.lt_of_lt_of_le (h.lt2 j hj) hb.size, h.dis, h.lo, h.lo2, h.bel.trans (hb.mono h.bel.size)⟩
theorem Both.drew (h : Both Rep w0 w F F2 g g2 d d2) (hOK : DiskOK Rep) : Both Rep w0 w.drew F F2 g g2 d d2 := h.below hOK (Below.refl _ w).drew
/-- The disk has turned. -/
theorem Both.one (h : Both Rep w0 w F F2 g g2 d d2) (hOK : DiskOK Rep) (hR : Rep w' F' g d') (hF : ∀ k, F' k → F k ∨ w.heap.size ≤ k) (ho : Only F w w') : Both Rep w0 w' F' F2 g g2 d' d2 :=
  ⟨hR, h.ref.keep ho.size fun j hj => ho.block j (h.lt2 j hj) fun hf => h.dis j hf hj, hOK.lt hR, fun j hj => Nat.lt_of_lt_of_le (h.lt2 j hj) ho.size,
    fun j hj hj2 => by rcases hF j hj with h1 | h1; exact h.dis j h1 hj2; exact absurd (h.lt2 j hj2) (by omega),
    fun j hj => by rcases hF j hj with h1 | h1; exact h.lo j h1; exact Nat.le_trans h.bel.size h1, h.lo2, h.bel.trans (ho.below h.lo h.bel.size)⟩
/-- The reference has turned. -/
theorem Both.two (h : Both Rep w0 w F F2 g g2 d d2) (hOK : DiskOK Rep) (hR : RefD w' F' g2 d') (hF : ∀ k, F' k → F2 k ∨ w.heap.size ≤ k) (ho : Only F2 w w') : Both Rep w0 w' F F' g g2 d d' :=
  ⟨hOK.keep h.rep fun j hj => ho.block j (h.lt j hj) fun hf => h.dis j hj hf, hR, fun j hj => Nat.lt_of_lt_of_le (h.lt j hj) ho.size, hR.lt,
    fun j hj hj2 => by rcases hF j hj2 with h1 | h1; exact h.dis j hj h1; exact absurd (h.lt j hj) (by omega),
    h.lo, fun j hj => by rcases hF j hj with h1 | h1; exact h.lo2 j h1; exact Nat.le_trans h.bel.size h1, h.bel.trans (ho.below h.lo2 h.bel.size)⟩
/-- What the reference's struct holds. -/
theorem RefD.cells (h : RefD w F2 g2 d2) : ∃ A c f, w.cell? ⟨g2, 0, none⟩ = some (.slice A d2.secs.length c) ∧ d2.secs.length ≤ c ∧ w.cell? ⟨g2, 5, none⟩ = some (.int .i64 f) ∧ w.frozen? ⟨g2, 5, none⟩ = false ∧ w.cell? ⟨g2, 6, none⟩ = some (.int .i64 (d2.many : Int)) ∧ F2 g2 := by
  obtain ⟨vG, vS, vA, vO, vW, gs, ss, f, h⟩ := h
  obtain ⟨A, c, hv, hc⟩ := h.rG.slice
  rw [List.length_map, h.lG] at hv hc
  subst hv
  exact ⟨A, c, f, h.blk.cell 0, hc, h.blk.cell 5, h.blk.frozen 5, h.blk.cell 6, h.fg⟩
/-- Its fuse is set. -/
theorem RefD.setFuse (h : RefD w F2 g2 d2) (n : Int) (hn : isI64 n) : RefD (w.setCell ⟨g2, 5, none⟩ (.int .i64 n)) F2 g2 (Dsk.fuse d2 n) := by
  obtain ⟨vG, vS, vA, vO, vW, gs, ss, f, h⟩ := h
  refine ⟨vG, vS, vA, vO, vW, gs, ss, n, h.cells (d' := Dsk.fuse d2 n) rfl ⟨hn, ?_⟩ rfl (h.ok.fuse n)⟩
  show (n < 0 ∧ (if n < 0 then none else some n.toNat) = none) ∨ _
  by_cases h0 : n < 0
  · exact .inl ⟨h0, if_pos h0⟩
  · exact .inr ⟨n.toNat, by omega, if_neg h0⟩
/-- A sector of the reference's, whole. -/
theorem RefD.sector (h : RefD w F2 g2 d2) (k : Nat) (hk : k < d2.secs.length) : ∃ (c gG sb sc : Nat) (x : Dsk.Sec), w.cell? ⟨g2, 0, none⟩ = some (.slice (some ⟨gG, 0, none⟩) d2.secs.length c) ∧ d2.secs[k]? = some x ∧
    w.cell? ⟨gG, k, none⟩ = some (.slice (some ⟨sb, 0, none⟩) 32 sc) ∧ x.good.length = 32 ∧ Rd w w.heap.size (some ⟨sb, 0, none⟩) x.good ∧ F2 gG ∧ F2 sb := by
  obtain ⟨vG, vS, vA, vO, vW, gs, ss, f, h⟩ := h
  have hkg : k < gs.length := by rw [h.lG]; exact hk
  have hgs : (gs.map Slc.v)[k]? = some (gs[k].v) := by rw [List.getElem?_map, List.getElem?_eq_getElem hkg]; rfl
  obtain ⟨gG, cG, hv, _, _, hcell, _⟩ := h.rG.at_ hgs
  rw [List.length_map, h.lG] at hv
  subst hv
  have hx := List.getElem?_eq_getElem hk
  have hH := h.hG k _ _ (List.getElem?_eq_getElem hkg) hx
  exact ⟨cG, gG, gs[k].b, gs[k].c, _, h.blk.cell 0, hx, hcell, hH.2.1, hH.rd (h.lt _ (h.fgs _ (List.getElem_mem hkg))), h.fG gG rfl, h.fgs _ (List.getElem_mem hkg)⟩
/-- A sector's age. -/
theorem RefD.age (h : RefD w F2 g2 d2) (k : Nat) (x : Dsk.Sec) (hx : d2.secs[k]? = some x) : ∃ c gA, w.cell? ⟨g2, 2, none⟩ = some (.slice (some ⟨gA, 0, none⟩) d2.secs.length c) ∧ w.cell? ⟨gA, k, none⟩ = some (.int .i64 (x.age : Int)) ∧ F2 gA := by
  obtain ⟨vG, vS, vA, vO, vW, gs, ss, f, h⟩ := h
  have hq : (d2.secs.map fun s => Value.int .i64 (s.age : Int))[k]? = some (.int .i64 (x.age : Int)) := by rw [List.getElem?_map, hx]; rfl
  obtain ⟨gA, cA, hv, _, _, hcell, _⟩ := h.rA.at_ hq
  rw [List.length_map] at hv
  subst hv
  exact ⟨cA, gA, h.blk.cell 2, hcell, h.fA gA rfl⟩
end
theorem refWrite_at {w : World} {F : Nat → Prop} {g : Nat} {d : Dsk} (h : RefD w F g d) (i : Int) (A : Option Addr) (b : List UInt8) (n c : Nat) (hn : n = b.length) (hr : Rd w w.heap.size A b) (hA : ∀ p, A = some p → ¬ F p.block) (hl : n ≤ 1000000) (hm : d.many < 4611686018427387904) :
    Calls Try.prog 19 #[.pointer (some ⟨g, 0, none⟩), .int .i64 i, .slice A n c] w fun e w' => ∃ E : Int, e = .returned (.int .i64 E) ∧ E = ((Dsk.writeE d i b : Nat) : Int) ∧ ∃ F', RefD w' F' g (Dsk.write d i b) ∧ (∀ k, F' k → F k ∨ w.heap.size ≤ k) ∧ Only F w w' :=
  (refWrite14_any h i A b n c hn hr hA hl hm).mono fun _ _ ⟨h1, h2⟩ => ⟨_, h1, rfl, h2⟩
end Go.Proofs.Ytampdfmakhdliaa
