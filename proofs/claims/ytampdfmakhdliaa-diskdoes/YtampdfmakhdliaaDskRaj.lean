/-
  Layer 14: the reference's disk in memory; goes, Read, Since.
-/
import Derived.Test.YtampdfmakhdliaaDiskJ01
import Derived.Test.YtampdfmakhdliaaDiskJ02
import Derived.Test.YtampdfmakhdliaaDiskJ03
import Derived.Test.YtampdfmakhdliaaApp2j
set_option maxRecDepth 100000
namespace Go.Gar
open Go.RowKit
/-- A row of values that a slice holds from its block's beginning. -/
def RowA (w : World) (t : TypeId) (v : Value) (vs : List Value) : Prop := (v = .slice none 0 0 ∧ vs = []) ∨ ∃ g c rest, v = .slice (some ⟨g, 0, none⟩) vs.length c ∧ vs.length ≤ c ∧ Blk w g t (vs ++ rest)
section
variable {w w' : World} {t : TypeId} {v : Value} {vs : List Value}
theorem RowA.slice (h : RowA w t v vs) : ∃ A c, v = .slice A vs.length c ∧ vs.length ≤ c := by
  rcases h with ⟨rfl, rfl⟩ | ⟨g, c, rest, rfl, hc, _⟩
  · exact ⟨none, 0, rfl, Nat.le_refl _⟩
  · exact ⟨_, c, rfl, hc⟩
theorem RowA.keep (h : RowA w t v vs) (hk : ∀ j, v.ownBlock = some j → w'.heap[j]? = w.heap[j]?) : RowA w' t v vs := by
  rcases h with h | ⟨g, c, rest, rfl, hc, hB⟩
  · exact .inl h
  · exact .inr ⟨g, c, rest, rfl, hc, (hk g rfl).trans hB⟩
theorem RowA.at_ (h : RowA w t v vs) {i : Nat} {u : Value} (hi : vs[i]? = some u) : ∃ g c, v = .slice (some ⟨g, 0, none⟩) vs.length c ∧ vs.length ≤ c ∧ g < w.heap.size ∧ w.cell? ⟨g, i, none⟩ = some u ∧ w.frozen? ⟨g, i, none⟩ = false := by
  rcases h with ⟨_, rfl⟩ | ⟨g, c, rest, rfl, hc, hB⟩
  · simp at hi
  · refine ⟨g, c, rfl, hc, hB.lt, ?_, hB.frozen i⟩
    rw [hB.cell, List.getElem?_append_left (List.getElem?_eq_some_iff.1 hi).1, hi]
theorem RowA.setAt (h : RowA w t v vs) {g : Nat} (hg : v.ownBlock = some g) {i : Nat} (hi : i < vs.length) (u : Value) : RowA (w.setCell ⟨g, i, none⟩ u) t v (vs.set i u) := by
  rcases h with ⟨rfl, rfl⟩ | ⟨g', c, rest, rfl, hc, hB⟩
  · simp at hi
  · obtain rfl : g' = g := by simpa [Value.ownBlock] using hg
    refine .inr ⟨g', c, rest, by rw [List.length_set], by rw [List.length_set]; exact hc, ?_⟩
    have := hB.set_ i u
    rwa [List.set_append_left _ _ hi] at this
theorem RowA.lt (h : RowA w t v vs) {j : Nat} (hj : v.ownBlock = some j) : j < w.heap.size := by
  rcases h with ⟨rfl, _⟩ | ⟨g, c, rest, rfl, _, hB⟩
  · simp [Value.ownBlock] at hj
  · obtain rfl : g = j := by simpa [Value.ownBlock] using hj
    exact hB.lt
theorem RowA.typed (h : RowA w t v vs) {j : Nat} (hj : v.ownBlock = some j) {t' : TypeId} {cs : List Value} (hB : Blk w j t' cs) : t = t' := by
  rcases h with ⟨rfl, _⟩ | ⟨g, c, rest, rfl, _, hC⟩
  · simp [Value.ownBlock] at hj
  · obtain rfl : g = j := by simpa [Value.ownBlock] using hj
    by_cases e : t = t'
    · exact e
    · exact absurd rfl (hC.ne hB e)
end
end Go.Gar
namespace Go.Proofs.Ytampdfmakhdliaa
open Go.RowKit Go.Gar
open Go.Gar.Dsk (Dsk Sec)

/-- A sector's bytes: a block and the slice's room. -/
structure Slc where
  b : Nat
  c : Nat
def Slc.v (s : Slc) : Value := .slice (some ⟨s.b, 0, none⟩) 32 s.c
def Hold (w : World) (s : Slc) (l : List UInt8) : Prop := 32 ≤ s.c ∧ l.length = 32 ∧ ∃ rest, Blk w s.b 5 (u8s l ++ rest)
def fuseI (f : Int) (m : Option Nat) : Prop := isI64 f ∧ ((f < 0 ∧ m = none) ∨ ∃ n : Nat, f = (n : Int) ∧ m = some n)
/-- The reference's disk in memory. -/
structure RefR (w : World) (F : Nat → Prop) (g : Nat) (d : Dsk) (vG vS vA vO vW : Value) (gs ss : List Slc) (f : Int) : Prop where
  blk : Blk w g 32 [vG, vS, vA, vO, vW, .int .i64 f, .int .i64 (d.many : Int)]
  fuse : fuseI f d.fuse
  rG : RowA w 40 vG (gs.map Slc.v)
  rS : RowA w 40 vS (ss.map Slc.v)
  rA : RowA w 3 vA (d.secs.map fun s => .int .i64 (s.age : Int))
  rO : RowA w 3 vO (d.secs.map fun s => .int .i64 (s.old : Int))
  rW : RowA w 4 vW (d.secs.map fun s => .bool s.wet)
  lG : gs.length = d.secs.length
  lS : ss.length = d.secs.length
  hG : ∀ (i : Nat) (s : Slc) (x : Sec), gs[i]? = some s → d.secs[i]? = some x → Hold w s x.good
  hS : ∀ (i : Nat) (s : Slc) (x : Sec), ss[i]? = some s → d.secs[i]? = some x → Hold w s x.sure
  nGS : ∀ j, vG.ownBlock = some j → vS.ownBlock ≠ some j
  nAO : ∀ j, vA.ownBlock = some j → vO.ownBlock ≠ some j
  fg : F g
  fG : ∀ j, vG.ownBlock = some j → F j
  fS : ∀ j, vS.ownBlock = some j → F j
  fA : ∀ j, vA.ownBlock = some j → F j
  fO : ∀ j, vO.ownBlock = some j → F j
  fW : ∀ j, vW.ownBlock = some j → F j
  fgs : ∀ s ∈ gs, F s.b
  fss : ∀ s ∈ ss, F s.b
  lt : ∀ j, F j → j < w.heap.size
  ok : Dsk.Ok d
def RefD (w : World) (F : Nat → Prop) (g : Nat) (d : Dsk) : Prop := ∃ vG vS vA vO vW gs ss f, RefR w F g d vG vS vA vO vW gs ss f
theorem Hold.keep {w w' : World} {s : Slc} {l : List UInt8} (h : Hold w s l) (hk : w'.heap[s.b]? = w.heap[s.b]?) : Hold w' s l := ⟨h.1, h.2.1, h.2.2.imp fun _ hB => hk.trans hB⟩
section
variable {w w' : World} {F : Nat → Prop} {g : Nat} {d : Dsk} {vG vS vA vO vW : Value} {gs ss : List Slc} {f : Int}
theorem RefR.keep (h : RefR w F g d vG vS vA vO vW gs ss f) (hs : w.heap.size ≤ w'.heap.size) (hk : ∀ j, F j → w'.heap[j]? = w.heap[j]?) : RefR w' F g d vG vS vA vO vW gs ss f :=
  ⟨(hk g h.fg).trans h.blk, h.fuse, h.rG.keep fun j hj => hk j (h.fG j hj), h.rS.keep fun j hj => hk j (h.fS j hj), h.rA.keep fun j hj => hk j (h.fA j hj), h.rO.keep fun j hj => hk j (h.fO j hj), h.rW.keep fun j hj => hk j (h.fW j hj), h.lG, h.lS,
    fun i s x h1 h2 => (h.hG i s x h1 h2).keep (hk _ (h.fgs s (List.mem_of_getElem? h1))), fun i s x h1 h2 => (h.hS i s x h1 h2).keep (hk _ (h.fss s (List.mem_of_getElem? h1))), h.nGS, h.nAO, h.fg, h.fG, h.fS, h.fA, h.fO, h.fW, h.fgs, h.fss, fun j hj => Nat.lt_of_lt_of_le (h.lt j hj) hs, h.ok⟩
theorem RefR.below (h : RefR w F g d vG vS vA vO vW gs ss f) (hb : Below w.heap.size w w') : RefR w' F g d vG vS vA vO vW gs ss f := h.keep hb.size fun j hj => hb.block j (h.lt j hj)
theorem RefD.keep (h : RefD w F g d) (hs : w.heap.size ≤ w'.heap.size) (hk : ∀ j, F j → w'.heap[j]? = w.heap[j]?) : RefD w' F g d := by
  obtain ⟨vG, vS, vA, vO, vW, gs, ss, f, h⟩ := h
  exact ⟨vG, vS, vA, vO, vW, gs, ss, f, h.keep hs hk⟩
/-- The struct's own cells differ in type from the rows'. -/
theorem RefR.neG (h : RefR w F g d vG vS vA vO vW gs ss f) {j : Nat} (hj : vG.ownBlock = some j) : j ≠ g := fun e => by subst e; exact absurd (h.rG.typed hj h.blk) (by decide)
theorem RefR.neS (h : RefR w F g d vG vS vA vO vW gs ss f) {j : Nat} (hj : vS.ownBlock = some j) : j ≠ g := fun e => by subst e; exact absurd (h.rS.typed hj h.blk) (by decide)
theorem RefR.neA (h : RefR w F g d vG vS vA vO vW gs ss f) {j : Nat} (hj : vA.ownBlock = some j) : j ≠ g := fun e => by subst e; exact absurd (h.rA.typed hj h.blk) (by decide)
theorem RefR.neO (h : RefR w F g d vG vS vA vO vW gs ss f) {j : Nat} (hj : vO.ownBlock = some j) : j ≠ g := fun e => by subst e; exact absurd (h.rO.typed hj h.blk) (by decide)
theorem RefR.neW (h : RefR w F g d vG vS vA vO vW gs ss f) {j : Nat} (hj : vW.ownBlock = some j) : j ≠ g := fun e => by subst e; exact absurd (h.rW.typed hj h.blk) (by decide)
theorem Hold.ne {s : Slc} {l : List UInt8} (h : Hold w s l) {j : Nat} {t : TypeId} {cs : List Value} (hB : Blk w j t cs) (ht : 5 ≠ t) : s.b ≠ j := by
  obtain ⟨_, _, rest, hC⟩ := h
  exact fun e => (hC.ne (e ▸ hB) ht) rfl
/-- The struct's fuse and count written anew. -/
theorem RefR.cells (h : RefR w F g d vG vS vA vO vW gs ss f) {i : Nat} {u : Value} {f' : Int} {d' : Dsk} (hi : [vG, vS, vA, vO, vW, .int .i64 f, .int .i64 (d.many : Int)].set i u = [vG, vS, vA, vO, vW, .int .i64 f', .int .i64 (d'.many : Int)]) (hf : fuseI f' d'.fuse) (hs : d'.secs = d.secs) (hok : Dsk.Ok d') : RefR (w.setCell ⟨g, i, none⟩ u) F g d' vG vS vA vO vW gs ss f' := by
  have far : ∀ j, j ≠ g → (w.setCell ⟨g, i, none⟩ u).heap[j]? = w.heap[j]? := fun j hj => Below.heap_setCell w ⟨g, i, none⟩ u j hj
  refine ⟨by rw [← hi]; exact h.blk.set_ i u, hf, h.rG.keep fun j hj => far j (h.neG hj), h.rS.keep fun j hj => far j (h.neS hj), by rw [hs]; exact h.rA.keep fun j hj => far j (h.neA hj), by rw [hs]; exact h.rO.keep fun j hj => far j (h.neO hj), by rw [hs]; exact h.rW.keep fun j hj => far j (h.neW hj), by rw [hs]; exact h.lG, by rw [hs]; exact h.lS, ?_, ?_, h.nGS, h.nAO, h.fg, h.fG, h.fS, h.fA, h.fO, h.fW, h.fgs, h.fss, fun j hj => by have := h.lt j hj; simpa [World.setCell] using this, hok⟩
  · intro k s x h1 h2
    rw [hs] at h2
    have hh := h.hG k s x h1 h2
    exact hh.keep (far _ (hh.ne h.blk (by decide)))
  · intro k s x h1 h2
    rw [hs] at h2
    have hh := h.hS k s x h1 h2
    exact hh.keep (far _ (hh.ne h.blk (by decide)))
end
end Go.Proofs.Ytampdfmakhdliaa
