/-
  A thing in memory that owns blocks: what a call on it may turn. Of no program.
-/
import Derived.Test.YtjapohddfelgkaaReg
import Derived.Test.YtjapohddfelgkaaMem
set_option maxRecDepth 100000
namespace Go.Gar
open Go.RowKit

/-- Of the blocks that stood those of F alone may have turned. -/
structure Only (F : Nat → Prop) (w w' : World) : Prop where
  os : w'.os = w.os
  tape : w'.tape = w.tape
  output : w'.output = w.output
  size : w.heap.size ≤ w'.heap.size
  block : ∀ k, k < w.heap.size → ¬ F k → w'.heap[k]? = w.heap[k]?
section
variable {F F' : Nat → Prop} {a b c w w' : World}
theorem Only.refl (F : Nat → Prop) (w : World) : Only F w w := ⟨rfl, rfl, rfl, Nat.le_refl _, fun _ _ _ => rfl⟩
theorem Only.trans (h : Only F a b) (k : Only F b c) : Only F a c :=
  ⟨k.os.trans h.os, k.tape.trans h.tape, k.output.trans h.output, Nat.le_trans h.size k.size, fun i hi hn => (k.block i (Nat.lt_of_lt_of_le hi h.size) hn).trans (h.block i hi hn)⟩
/-- The second may also turn what is new since the first's beginning. -/
theorem Only.then (h : Only F a b) (k : Only F' b c) (hF : ∀ i, F' i → F i ∨ a.heap.size ≤ i) : Only F a c :=
  ⟨k.os.trans h.os, k.tape.trans h.tape, k.output.trans h.output, Nat.le_trans h.size k.size, fun i hi hn => (k.block i (Nat.lt_of_lt_of_le hi h.size) (fun hf => by rcases hF i hf with h1 | h1; exact hn h1; omega)).trans (h.block i hi hn)⟩
theorem Only.mono (h : Only F a b) (hF : ∀ i, F i → F' i) : Only F' a b := ⟨h.os, h.tape, h.output, h.size, fun i hi hn => h.block i hi (fun hf => hn (hF i hf))⟩
theorem Only.of_below (F : Nat → Prop) (h : Below w.heap.size w w') : Only F w w' := ⟨h.os, h.tape, h.output, h.size, fun i hi _ => h.block i hi⟩
theorem Only.of_grown {row : Option Nat} (h : w.grownBy w' row) (hr : ∀ i, row = some i → F i) : Only F w w' := ⟨h.os, h.tape, h.output, h.size, fun i hi hn => h.block i hi (fun e => hn (hr i e.symm))⟩
theorem Only.drew (h : Only F a w) : Only F a w.drew := ⟨h.os, h.tape, h.output, h.size, h.block⟩
theorem Only.alloc (h : Only F a w) (o : Obj) : Only F a (w.alloc o) := h.trans (.of_below F ((Below.refl _ _).alloc (Nat.le_refl _) o))
theorem Only.below {B : Nat} (h : Only F w w') (hF : ∀ i, F i → B ≤ i) (hB : B ≤ w.heap.size) : Below B w w' := ⟨h.os, h.tape, h.output, h.size, fun i hi => h.block i (by omega) (fun hf => by have := hF i hf; omega)⟩
theorem Only.rd {B : Nat} {A : Option Addr} {l : List UInt8} (h : Only F w w') (hr : Rd w B A l) (hB : B ≤ w.heap.size) (hA : ∀ p, A = some p → ¬ F p.block) : Rd w' B A l := by
  rcases hr with rfl | ⟨b, o, rfl, hb, hc⟩
  · exact .inl rfl
  · exact .inr ⟨b, o, rfl, hb, fun i x hx => (World.cell?_of_block (w := w) (w' := w') (a := ⟨b, o + i, none⟩) (h.block b (by omega) (hA _ rfl))).trans (hc i x hx)⟩
theorem Only.blk {g : Nat} {t : TypeId} {cs : List Value} (h : Only F w w') (hb : Blk w g t cs) (hg : ¬ F g) : Blk w' g t cs := (h.block g hb.lt hg).trans hb
end
/-- A growth: of the blocks that stood those of F alone turn. -/
def onlyG (F : Nat → Prop) : Growth := ⟨fun w w' => Only F w w', fun w => Only.refl F w, fun h k => h.trans k⟩
end Go.Gar
