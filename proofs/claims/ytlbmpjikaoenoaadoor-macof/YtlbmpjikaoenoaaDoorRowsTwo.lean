/-
  'x, y = append(x, c), append(y, d)': two rows of the call's own, a byte behind each, in whatever order: what lies in memory between the operations. Of no program.
-/
import Derived.Test.YtlbmpjikaoenoaaDoorApp2
import Derived.Test.YtlbmpjikaoenoaaDoorReg2
import Derived.Test.YtlbmpjikaoenoaaDoorArrEq
namespace Go.Gar
open Go.RowKit

/-- append, guarded or not, that is wanted and whose run is known. -/
theorem wpList_append_run_w {P : Program} {w : World} {ops : Array Oper} {rest : List Oper} {o : Oper} {a : Act} {Q : Exit → Act → World → Prop} (s x : Operand) (ts : Array TypeId)
    (ho : o.op = .call { callee := .builtin .append, args := #[s, x], argTypes := ts }) {vs vx v : Value} {w' : World} (hs : a.eval s = vs) (hx : a.eval x = vx)
    (hrun : (Builtin.append_ ts o.type #[vs, vx]).run P w = .ok v w') (hw : Region.wanted o (yielded ops a.tmps) = true) (h : wpList P ops Q rest (a.put o.dst v) w') : wpList P ops Q (o :: rest) a w := by
  refine wpList_run_w hw (v := v) (w' := w') ?_ h
  unfold execOp
  simp only [ho, resolve, invoke, builtin, Sem.run_bind, Sem.run_pure, Result.andThen_ok, List.map_toArray, List.map_cons, List.map_nil, hs, hx, hrun]

/-- Only that block k stays is asked. -/
def stays (k : Nat) : Growth := ⟨fun w w' => w'.heap[k]? = w.heap[k]?, fun _ => rfl, fun h k => k.trans h⟩

/-- Two rows of the call's own (from block base + 1 on), block k beside them, and the bytes that wait to be appended. -/
structure Two (w W : World) (base k : Nat) (e : TypeId) (x y : Value) (l m : List UInt8) (s t : Option (Nat × UInt8)) : Prop where
  ox : OwnB W base e x l
  oy : OwnB W base e y m
  apart : ∀ g, x.ownBlock = some g → y.ownBlock ≠ some g
  nx : ∀ g, x.ownBlock = some g → base < g ∧ g ≠ k
  ny : ∀ g, y.ownBlock = some g → base < g ∧ g ≠ k
  sx : ∀ g c, s = some (g, c) → Blk W g e (u8s [c]) ∧ x.ownBlock ≠ some g ∧ y.ownBlock ≠ some g ∧ base < g ∧ g ≠ k
  sy : ∀ g c, t = some (g, c) → Blk W g e (u8s [c]) ∧ x.ownBlock ≠ some g ∧ y.ownBlock ≠ some g ∧ base < g ∧ g ≠ k
  below : Below base w W
  keepB : W.heap[base]? = w.heap[base]?
  keepK : W.heap[k]? = w.heap[k]?
  lt : base < W.heap.size ∧ k < W.heap.size
section
variable {P : Program} {w W : World} {base k : Nat} {e : TypeId} {x y : Value} {l m : List UInt8} {s t : Option (Nat × UInt8)}
theorem Two.swap (h : Two w W base k e x y l m s t) : Two w W base k e y x m l t s :=
  ⟨h.oy, h.ox, fun g hy hx => h.apart g hx hy, h.ny, h.nx, fun g c hg => by obtain ⟨a, b, c, d⟩ := h.sy g c hg; exact ⟨a, c, b, d⟩, fun g c hg => by obtain ⟨a, b, c, d⟩ := h.sx g c hg; exact ⟨a, c, b, d⟩, h.below, h.keepB, h.keepK, h.lt⟩
theorem Two.made (h : Two w W base k e x y l m none t) (c : UInt8) : Two w (W.alloc (.cells (u8s [c]).toArray e)) base k e x y l m (some (W.heap.size, c)) t := by
  have hlx : ∀ g, x.ownBlock = some g → g < W.heap.size := fun g hg => (h.ox.block_lt hg).2
  have hly : ∀ g, y.ownBlock = some g → g < W.heap.size := fun g hg => (h.oy.block_lt hg).2
  have hl := h.lt
  refine ⟨h.ox.alloc _, h.oy.alloc _, h.apart, h.nx, h.ny, fun g d hg => ?_, fun g d hg => ?_, h.below.alloc (by omega) _, (Below.heap_alloc W _ base (by omega)).trans h.keepB, (Below.heap_alloc W _ k (by omega)).trans h.keepK, by rw [World.size_alloc]; omega⟩
  · cases hg
    exact ⟨Blk.new W e (u8s [c]), fun hx => by have := hlx _ hx; omega, fun hy => by have := hly _ hy; omega, by omega, by omega⟩
  · obtain ⟨a, b⟩ := h.sy g d hg
    exact ⟨a.alloc _, b⟩
theorem Two.app {ty : TypeId} (tt : TypeId) (ht : P.underlying tt = some (.slice e)) (hinfo : (P.info? e).map (fun i => (i.zero, i.size, i.bytes)) = some (some (.int .u8 0), 1, 1))
    {g : Nat} {c : UInt8} (h : Two w W base k e x y l m (some (g, c)) t) (hlen : l.length ≤ 1099511627775) :
    ∃ x' W', (Builtin.append_ #[tt, tt] ty #[x, .slice (some ⟨g, 0, none⟩) 1 1]).run P W = .ok x' W' ∧ Two w W' base k e x' y (l ++ [c]) m (some (g, c)) t ∧ (stays k).rel W W' := by
  obtain ⟨hg, hgx, hgy, hgb, hgk⟩ := h.sx g c rfl
  have hl := h.lt
  obtain ⟨x', W', a1, a2, a3, a4⟩ := app_at (P := P) tt ty ht hinfo h.ox (by omega) 1 1 rfl (Rd.of_all hg) (by simpa using hlen)
  have hkB : W'.heap[base]? = W.heap[base]? := a3.block base (by omega) (fun e => by have := h.nx _ e.symm; omega)
  have hkK : W'.heap[k]? = W.heap[k]? := a3.block k (by omega) (fun e => by have := h.nx _ e.symm; omega)
  have hx' : ∀ q, x'.ownBlock = some q → x.ownBlock = some q ∨ q = W.heap.size := fun q hq => by
    rcases a4 with e | e
    · exact .inl (e.symm.trans hq)
    · exact .inr (Option.some.inj (hq.symm.trans e))
  have src : ∀ q d, Blk W q e (u8s [d]) → x.ownBlock ≠ some q → y.ownBlock ≠ some q → base < q → q ≠ k → Blk W' q e (u8s [d]) ∧ x'.ownBlock ≠ some q ∧ y.ownBlock ≠ some q ∧ base < q ∧ q ≠ k := fun q d hq h1 h2 h3 h4 =>
    ⟨hq.grown a3 (fun e => h1 e.symm), fun e => by
      rcases hx' q e with h5 | h5
      · exact h1 h5
      · have := hq.lt; omega, h2, h3, h4⟩
  refine ⟨x', W', a1, ⟨a2, h.oy.far a3 (fun q hq e => h.apart q e hq), fun q hq hy => ?_, fun q hq => ?_, h.ny, fun q d hq => ?_, fun q d hq => ?_, h.below.grown a3 (by omega) (fun q hq => by have := h.nx q hq; omega), hkB.trans h.keepB, hkK.trans h.keepK, by have := a3.size; omega⟩, hkK⟩
  · rcases hx' q hq with h5 | h5
    · exact h.apart q h5 hy
    · have := (h.oy.block_lt hy).2; omega
  · rcases hx' q hq with h5 | h5
    · exact h.nx q h5
    · omega
  · cases hq
    exact src g c hg hgx hgy hgb hgk
  · obtain ⟨b1, b2, b3, b4, b5⟩ := h.sy q d hq
    exact src q d b1 b2 b3 b4 b5
theorem Two.madeR (h : Two w W base k e x y l m s none) (c : UInt8) : Two w (W.alloc (.cells (u8s [c]).toArray e)) base k e x y l m s (some (W.heap.size, c)) := (h.swap.made c).swap
theorem Two.appR {ty : TypeId} (tt : TypeId) (ht : P.underlying tt = some (.slice e)) (hinfo : (P.info? e).map (fun i => (i.zero, i.size, i.bytes)) = some (some (.int .u8 0), 1, 1))
    {g : Nat} {c : UInt8} (h : Two w W base k e x y l m s (some (g, c))) (hlen : m.length ≤ 1099511627775) :
    ∃ y' W', (Builtin.append_ #[tt, tt] ty #[y, .slice (some ⟨g, 0, none⟩) 1 1]).run P W = .ok y' W' ∧ Two w W' base k e x y' l (m ++ [c]) s (some (g, c)) ∧ (stays k).rel W W' := by
  obtain ⟨y', W', a, b, c⟩ := h.swap.app (ty := ty) tt ht hinfo hlen
  exact ⟨y', W', a, b.swap, c⟩
theorem Two.done (h : Two w W base k e x y l m s t) : Two w W base k e x y l m none none :=
  ⟨h.ox, h.oy, h.apart, h.nx, h.ny, fun _ _ e => (by cases e), fun _ _ e => (by cases e), h.below, h.keepB, h.keepK, h.lt⟩
theorem Two.drew (h : Two w W base k e x y l m s t) : Two w W.drew base k e x y l m s t :=
  ⟨h.ox, h.oy, h.apart, h.nx, h.ny, h.sx, h.sy, h.below.drew, h.keepB, h.keepK, h.lt⟩
theorem stays_alloc {o : Obj} (h : k < W.heap.size) : (stays k).rel W (W.alloc o) := Below.heap_alloc W o k h
end
end Go.Gar
