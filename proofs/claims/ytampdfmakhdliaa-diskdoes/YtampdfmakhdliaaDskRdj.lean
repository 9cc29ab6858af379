/-
  Layer 14: the reference's disk: one sector turned.
-/
import Derived.Test.YtampdfmakhdliaaDskRcj
set_option maxRecDepth 100000
namespace Go.Proofs.Ytampdfmakhdliaa
open Go.RowKit Go.Gar
open Go.Gar.Dsk (Dsk Sec)

theorem set_same {α : Type} {l : List α} {k : Nat} {x : α} (h : l[k]? = some x) : l.set k x = l := by
  apply List.ext_getElem?
  intro i
  by_cases hi : i = k
  · subst hi
    rw [List.getElem?_set_self (List.getElem?_eq_some_iff.1 h).1, h]
  · rw [List.getElem?_set_ne (by omega)]
/-- One sector turned: all rows but five are as they were; the rows hold what the new sector is. -/
theorem RefR.one {w w' : World} {F F' : Nat → Prop} {g : Nat} {d : Dsk} {vG vS vA vO vW : Value} {gs ss : List Slc} {f : Int} (h : RefR w F g d vG vS vA vO vW gs ss f) {k : Nat} {x' : Sec} (hk : k < d.secs.length) (hx' : Dsk.Fine d.many x') (a c : Slc)
    (hkeep : ∀ j, F j → vG.ownBlock ≠ some j → vS.ownBlock ≠ some j → vA.ownBlock ≠ some j → vO.ownBlock ≠ some j → vW.ownBlock ≠ some j → w'.heap[j]? = w.heap[j]?)
    (rG' : RowA w' 40 vG ((gs.set k a).map Slc.v)) (rS' : RowA w' 40 vS ((ss.set k c).map Slc.v)) (rA' : RowA w' 3 vA ((d.secs.set k x').map fun s => .int .i64 (s.age : Int))) (rO' : RowA w' 3 vO ((d.secs.set k x').map fun s => .int .i64 (s.old : Int))) (rW' : RowA w' 4 vW ((d.secs.set k x').map fun s => .bool s.wet))
    (ha : Hold w' a x'.good) (hc : Hold w' c x'.sure) (hFF : ∀ j, F j → F' j) (hFa : F' a.b) (hFc : F' c.b) (hlt : ∀ j, F' j → j < w'.heap.size) : RefR w' F' g { d with secs := d.secs.set k x' } vG vS vA vO vW (gs.set k a) (ss.set k c) f := by
  have hno : ∀ {j : Nat} {t : TypeId} {cs : List Value}, F j → Blk w j t cs → 40 ≠ t → 3 ≠ t → 4 ≠ t → w'.heap[j]? = w.heap[j]? := fun {j t cs} hj hB h1 h2 h3 =>
    hkeep j hj (fun e => h1 (h.rG.typed e hB)) (fun e => h1 (h.rS.typed e hB)) (fun e => h2 (h.rA.typed e hB)) (fun e => h2 (h.rO.typed e hB)) (fun e => h3 (h.rW.typed e hB))
  have hold : ∀ {s : Slc} {l : List UInt8}, F s.b → Hold w s l → Hold w' s l := fun {s l} hs hH => by
    have hH2 := hH
    obtain ⟨_, _, rest, hB⟩ := hH2
    exact Hold.keep hH (hno hs hB (by decide) (by decide) (by decide))
  refine ⟨(hno h.fg h.blk (by decide) (by decide) (by decide)).trans h.blk, h.fuse, rG', rS', rA', rO', rW', by simpa using h.lG, by simpa using h.lS, ?_, ?_, h.nGS, h.nAO, hFF _ h.fg, fun j hj => hFF _ (h.fG j hj), fun j hj => hFF _ (h.fS j hj), fun j hj => hFF _ (h.fA j hj), fun j hj => hFF _ (h.fO j hj), fun j hj => hFF _ (h.fW j hj), ?_, ?_, hlt, ?_⟩
  · intro i s x h1 h2
    by_cases hi : i = k
    · subst hi
      rw [List.getElem?_set_self (by rw [h.lG]; exact hk)] at h1
      rw [List.getElem?_set_self hk] at h2
      rw [← Option.some.inj h1, ← Option.some.inj h2]
      exact ha
    · rw [List.getElem?_set_ne (by omega)] at h1
      rw [List.getElem?_set_ne (by omega)] at h2
      exact hold (h.fgs s (List.mem_of_getElem? h1)) (h.hG i s x h1 h2)
  · intro i s x h1 h2
    by_cases hi : i = k
    · subst hi
      rw [List.getElem?_set_self (by rw [h.lS]; exact hk)] at h1
      rw [List.getElem?_set_self hk] at h2
      rw [← Option.some.inj h1, ← Option.some.inj h2]
      exact hc
    · rw [List.getElem?_set_ne (by omega)] at h1
      rw [List.getElem?_set_ne (by omega)] at h2
      exact hold (h.fss s (List.mem_of_getElem? h1)) (h.hS i s x h1 h2)
  · intro s hs
    rcases List.mem_or_eq_of_mem_set hs with hs | rfl
    · exact hFF _ (h.fgs s hs)
    · exact hFa
  · intro s hs
    rcases List.mem_or_eq_of_mem_set hs with hs | rfl
    · exact hFF _ (h.fss s hs)
    · exact hFc
  · refine ⟨by simpa using h.ok.len, fun s hs => ?_⟩
    rcases List.mem_or_eq_of_mem_set hs with hs | rfl
    · exact h.ok.secs s hs
    · exact hx'
theorem far3 {w : World} {a b c j i : Nat} {u v x : Value} (h1 : j ≠ a) (h2 : j ≠ b) (h3 : j ≠ c) : (((w.setCell ⟨a, i, none⟩ u).setCell ⟨b, i, none⟩ v).setCell ⟨c, i, none⟩ x).heap[j]? = w.heap[j]? := by
  rw [Below.heap_setCell _ ⟨c, i, none⟩ x j h3, Below.heap_setCell _ ⟨b, i, none⟩ v j h2, Below.heap_setCell _ ⟨a, i, none⟩ u j h1]
theorem RowA.ne {w : World} {t t' : TypeId} {v v' : Value} {vs vs' : List Value} (h : RowA w t v vs) (h' : RowA w t' v' vs') (ht : t ≠ t') {j j' : Nat} (hj : v.ownBlock = some j) (hj' : v'.ownBlock = some j') : j ≠ j' := by
  rintro rfl
  rcases h' with ⟨rfl, _⟩ | ⟨g, c, rest, rfl, _, hB⟩
  · simp [Value.ownBlock] at hj'
  · obtain rfl : g = j := by simpa [Value.ownBlock] using hj'
    exact ht (h.typed hj hB)
theorem cell_laterB {W : World} {g : Nat} {t : TypeId} {cs : List Value} (h : Blk W g t cs) {i : Nat} {v : Value} (hv : cs[i]? = some v) : ∀ x : Later (belowG W.heap.size) W, x.to.cell? ⟨g, i, none⟩ = some v := fun x =>
  ((show Below W.heap.size W x.to from x.grown).cell (p := ⟨g, i, none⟩) h.lt).trans ((h.cell i).trans hv)
theorem cell_set_ne {w : World} {a j i k : Nat} {u : Value} (h : j ≠ a) : (w.setCell ⟨a, i, none⟩ u).cell? ⟨j, k, none⟩ = w.cell? ⟨j, k, none⟩ :=
  World.cell?_of_block (w := w) (w' := w.setCell ⟨a, i, none⟩ u) (a := ⟨j, k, none⟩) (Below.heap_setCell w ⟨a, i, none⟩ u j h)
theorem frozen_set_ne {w : World} {a j i k : Nat} {u : Value} (h : j ≠ a) : (w.setCell ⟨a, i, none⟩ u).frozen? ⟨j, k, none⟩ = w.frozen? ⟨j, k, none⟩ :=
  World.frozen?_of_block (w := w) (w' := w.setCell ⟨a, i, none⟩ u) (a := ⟨j, k, none⟩) (Below.heap_setCell w ⟨a, i, none⟩ u j h)
/-- Where a statement may write: three rows, and what is new. -/
def rows3 (a b c : Value) (N : Nat) (j : Nat) : Prop := a.ownBlock = some j ∨ b.ownBlock = some j ∨ c.ownBlock = some j ∨ N ≤ j
theorem cell_laterR {W : World} {R : Nat → Prop} {g : Nat} {t : TypeId} {cs : List Value} (h : Blk W g t cs) (hg : ¬ R g) {i : Nat} {v : Value} (hv : cs[i]? = some v) : ∀ x : Later (onlyG R) W, x.to.cell? ⟨g, i, none⟩ = some v := fun x =>
  ((show Only R W x.to from x.grown).blk h hg).cell i |>.trans hv
theorem only_of_low {R : Nat → Prop} {w w' : World} {N : Nat} (h : Below N w w') (hR : ∀ j, N ≤ j → R j) : Only R w w' :=
  ⟨h.os, h.tape, h.output, h.size, fun j _ hn => h.block j (by by_cases hj : j < N; exact hj; exact absurd (hR j (by omega)) hn)⟩
end Go.Proofs.Ytampdfmakhdliaa
