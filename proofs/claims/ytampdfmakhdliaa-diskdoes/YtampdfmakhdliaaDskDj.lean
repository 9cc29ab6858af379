/-
  Layer 14: a disk beside the reference's, while a drawn statement writes to both.
-/
import Derived.Test.YtampdfmakhdliaaDskD0j
import Derived.Test.YtampdfmakhdliaaDiskJ05
set_option maxRecDepth 100000
namespace Go.Proofs.Ytampdfmakhdliaa
open Go.RowKit Go.Gar
open Go.Gar.Dsk (Dsk)

/-- While a drawn statement writes to both: what it may turn is R. -/
structure Wst (Rep : World → (Nat → Prop) → Nat → Dsk → Prop) (R : Nat → Prop) (N : Nat) (w0 w : World) (x9 : Nat) (t : Deed) (F F2 : Nat → Prop) (g g2 : Nat) (d d2 : Dsk) : Prop where
  both : Both Rep w0 w F F2 g g2 d d2
  blk : Blk w x9 34 t.cells
  n1 : ¬ F x9
  n2 : ¬ F2 x9
  r1 : ∀ j, F j → R j
  r2 : ∀ j, F2 j → R j
  rn : ∀ j, N ≤ j → R j
  sz : N ≤ w.heap.size
/-- Bytes that lie apart from both. -/
structure Val (w : World) (F F2 : Nat → Prop) (gv : Nat) (l : List UInt8) : Prop where
  blk : Blk w gv 5 (u8s l)
  n1 : ¬ F gv
  n2 : ¬ F2 gv
section
variable {Rep : World → (Nat → Prop) → Nat → Dsk → Prop} {R : Nat → Prop} {N : Nat} {w0 w w' : World} {x9 : Nat} {t : Deed} {F F2 F' : Nat → Prop} {g g2 : Nat} {d d2 d' : Dsk} {gv : Nat} {l : List UInt8}
theorem Wst.later (h : Wst Rep R N w0 w x9 t F F2 g g2 d d2) (hOK : DiskOK Rep) (hb : Below w.heap.size w w') : Wst Rep R N w0 w' x9 t F F2 g g2 d d2 :=
  ⟨h.both.below hOK hb, h.blk.below hb h.blk.lt, h.n1, h.n2, h.r1, h.r2, h.rn, Nat.le_trans h.sz hb.size⟩
theorem Val.later (h : Val w F F2 gv l) (hb : Below w.heap.size w w') : Val w' F F2 gv l := ⟨h.blk.below hb h.blk.lt, h.n1, h.n2⟩
theorem Wst.val (h : Wst Rep R N w0 w x9 t F F2 g g2 d d2) (hB : Blk w' gv 5 (u8s l)) (hg : w.heap.size ≤ gv) : Val w' F F2 gv l :=
  ⟨hB, fun hf => by have := h.both.lt _ hf; omega, fun hf => by have := h.both.lt2 _ hf; omega⟩
theorem Wst.one (h : Wst Rep R N w0 w x9 t F F2 g g2 d d2) (hOK : DiskOK Rep) (hR : Rep w' F' g d') (hF : ∀ k, F' k → F k ∨ w.heap.size ≤ k) (ho : Only F w w') : Wst Rep R N w0 w' x9 t F' F2 g g2 d' d2 :=
  ⟨h.both.one hOK hR hF ho, ho.blk h.blk h.n1, fun hf => by rcases hF _ hf with h1 | h1; exact h.n1 h1; exact absurd h.blk.lt (by omega), h.n2,
    fun j hj => by rcases hF j hj with h1 | h1; exact h.r1 j h1; exact h.rn j (Nat.le_trans h.sz h1), h.r2, h.rn, Nat.le_trans h.sz ho.size⟩
theorem Val.one (h : Val w F F2 gv l) (hF : ∀ k, F' k → F k ∨ w.heap.size ≤ k) (ho : Only F w w') : Val w' F' F2 gv l :=
  ⟨ho.blk h.blk h.n1, fun hf => by rcases hF _ hf with h1 | h1; exact h.n1 h1; exact absurd h.blk.lt (by omega), h.n2⟩
theorem Wst.two (h : Wst Rep R N w0 w x9 t F F2 g g2 d d2) (hOK : DiskOK Rep) (hR : RefD w' F' g2 d') (hF : ∀ k, F' k → F2 k ∨ w.heap.size ≤ k) (ho : Only F2 w w') : Wst Rep R N w0 w' x9 t F F' g g2 d d' :=
  ⟨h.both.two hOK hR hF ho, ho.blk h.blk h.n2, h.n1, fun hf => by rcases hF _ hf with h1 | h1; exact h.n2 h1; exact absurd h.blk.lt (by omega),
    h.r1, fun j hj => by rcases hF j hj with h1 | h1; exact h.r2 j h1; exact h.rn j (Nat.le_trans h.sz h1), h.rn, Nat.le_trans h.sz ho.size⟩
theorem Val.two (h : Val w F F2 gv l) (hF : ∀ k, F' k → F2 k ∨ w.heap.size ≤ k) (ho : Only F2 w w') : Val w' F F' gv l :=
  ⟨ho.blk h.blk h.n2, h.n1, fun hf => by rcases hF _ hf with h1 | h1; exact h.n2 h1; exact absurd h.blk.lt (by omega)⟩
theorem Val.off (h : Val w F F2 gv l) : (∀ p, some (⟨gv, 0, none⟩ : Addr) = some p → ¬ F p.block) ∧ ∀ p, some (⟨gv, 0, none⟩ : Addr) = some p → ¬ F2 p.block :=
  ⟨fun p e => by obtain rfl := Option.some.inj e; exact h.n1, fun p e => by obtain rfl := Option.some.inj e; exact h.n2⟩
end
end Go.Proofs.Ytampdfmakhdliaa
