/-
  math/bits.Mul64: a contract. Of no program. 'x, y = append(x, c), append(y, d)': two rows of the call's own, a byte behind each, in whatever order: what lies in memory between the operations. Of no program. Layer 10: the reference's Open. octet.New: its contract; a Reader in memory. What the methods of octet.Reader do to memory: contracts, for a nil Reader and for every Reader in memory. octet.Reader's number, Int, Text, Left, End: contracts, for a nil Reader and for every Reader in memory. octet.Reader's Int: contracts, for a nil Reader and for every Reader in memory. build, its cells known; two parts of one size side by side. Of no program. An array of 16 bytes out of a slice; a slice turned into an array's address. Of no program.
-/
import Derived.Test.YtdipflchmooakaaGreatDoorWholeJ01
import Derived.Test.YtdipflchmooakaaGreatDoorWholeJ09
import Derived.Lib.Mul64
import Derived.Test.YtdipflchmooakaaGreatDoorWholeJ02
import Derived.Test.YtdipflchmooakaaGreatDoorWholeJ08
import Derived.Test.YtdipflchmooakaaGreatDoorWholeJ07
import Derived.Test.YtdipflchmooakaaGreatDoorWholeJ05
import Derived.Test.YtdipflchmooakaaGreatDoorWholeJ06
import Derived.Test.YtdipflchmooakaaGreatDoorWholeJ13
import Derived.Test.YtdipflchmooakaaGreatDoorWholeJ22
import Derived.BigQuiet
import Derived.BigRegion
import Derived.Deep.CutRange
import Derived.RegionTactic
import Derived.Lib.EndianBits
import Derived.Great.FillDense
import Derived.Laws.Tables
set_option maxRecDepth 100000
namespace Go.Proofs.YtdipflchmooakaaGreatDoor
open Go.RowKit Go.Gar

namespace M64
theorem maskN (a : Nat) (ha : a < 18446744073709551616) : bits .and .u64 (a : Int) 4294967295 = ((a % 4294967296 : Nat) : Int) := by
  have h := and_u64 a 4294967295 ha (by omega)
  have e : a &&& 4294967295 = a % 4294967296 := Nat.and_two_pow_sub_one_eq_mod a 32
  rw [e] at h
  exact h
theorem divN (a : Nat) : (a : Int) / 4294967296 = ((a / 4294967296 : Nat) : Int) := by omega
theorem mulN (a b : Nat) : (a : Int) * (b : Int) = ((a * b : Nat) : Int) := (Int.natCast_mul a b).symm
theorem addN (a b : Nat) : (a : Int) + (b : Int) = ((a + b : Nat) : Int) := (Int.natCast_add a b).symm
theorem wrapN (a : Nat) (ha : a < 18446744073709551616) : IntKind.u64.wrap (a : Int) = (a : Int) := by rw [IntKind.wrap_u64]; omega
theorem wrapM (a : Nat) : IntKind.u64.wrap (a : Int) = ((a % 18446744073709551616 : Nat) : Int) := by rw [IntKind.wrap_u64]; omega
end M64

set_option maxHeartbeats 1000000 in
theorem mul64_any (x y : Nat) (hx : x < 18446744073709551616) (hy : y < 18446744073709551616) (w : World) :
    Calls Tryz.prog 107 #[.int .u64 x, .int .u64 y] w fun e w' => e = .returned (.tuple #[.int .u64 ((x * y / 18446744073709551616 : Nat) : Int), .int .u64 ((x * y % 18446744073709551616 : Nat) : Int)]) ∧ w' = w := by
  obtain ⟨bd, bt, bw, hhi⟩ := Lib.mul64_hi x y hx hy
  have ba := Lib.half_mul_le (a := x / 4294967296) (b := y / 4294967296) (by omega) (by omega)
  have bb := Lib.half_mul_le (a := x / 4294967296) (b := y % 4294967296) (by omega) (by omega)
  have bc := Lib.half_mul_le (a := x % 4294967296) (b := y / 4294967296) (by omega) (by omega)
  have ba' : x / 4294967296 * (y / 4294967296) < 18446744073709551616 := by omega
  have bb' : x / 4294967296 * (y % 4294967296) < 18446744073709551616 := by omega
  have bc' : x % 4294967296 * (y / 4294967296) < 18446744073709551616 := by omega
  have bh1 : x / 4294967296 * (y / 4294967296) + (x / 4294967296 * (y % 4294967296) + x % 4294967296 * (y % 4294967296) / 4294967296) / 4294967296 < 18446744073709551616 := by omega
  have bh : x / 4294967296 * (y / 4294967296) + (x / 4294967296 * (y % 4294967296) + x % 4294967296 * (y % 4294967296) / 4294967296) / 4294967296 + ((x / 4294967296 * (y % 4294967296) + x % 4294967296 * (y % 4294967296) / 4294967296) % 4294967296 + x % 4294967296 * (y / 4294967296)) / 4294967296 < 18446744073709551616 := by omega
  go_enter Tryz.func107, Tryz.ntmps107
  go_wp2
  simp only [M64.maskN x hx, M64.maskN y hy, M64.divN, M64.mulN, M64.addN, M64.wrapN _ bd, M64.wrapN _ bb', M64.wrapN _ bt, M64.maskN _ bt, M64.wrapN _ bc', M64.wrapN _ bw, M64.wrapN _ ba', M64.wrapN _ bh1, M64.wrapN _ bh, M64.wrapM (x * y)]
  rw [hhi]
  go_ret2
  exact ⟨rfl, rfl⟩
end Go.Proofs.YtdipflchmooakaaGreatDoor
namespace Go.Gar
open Go.RowKit

/-- append, guarded or not, that is wanted and whose run is known. -/
theorem wpList_append_run_w {P : Program} {w : World} {ops : Array Oper} {rest : List Oper} {o : Oper} {a : Act} {Q : Exit → Act → World → Prop} (s x : Operand) (ts : Array TypeId)
    (ho : o.op = .call { callee := .builtin .append, args := #[s, x], argTypes := ts }) {vs vx v : Value} {w' : World} (hs : a.eval s = vs) (hx : a.eval x = vx)
    (hrun : (Builtin.append_ ts o.type #[vs, vx]).run P w = .ok v w') (hw : Region.wanted o (yielded ops a.tmps) = true) (h : wpList P ops Q rest (a.put o.dst v) w') : wpList P ops Q (o :: rest) a w := by
  refine wpList_run_w hw (v := v) (w' := w') ?_ h
  unfold execOp
  simp only [ho, resolve, invoke, builtin, Sem.run_bind, Sem.run_pure, Result.andThen_ok, List.map_toArray, List.map_cons, List.map_nil, hs, hx, hrun]

/-- Only that block k stays is asked. -/
def stays (k : Nat) : Growth := ⟨fun w w' => w'.heap[k]? = w.heap[k]?, fun _ => rfl, fun h k => k.trans h⟩

/-- Two rows of the call's own (from block base + 1 on), block k beside them, and the bytes that wait to be appended. -/
structure Two (w W : World) (base k : Nat) (e : TypeId) (x y : Value) (l m : List UInt8) (s t : Option (Nat × UInt8)) : Prop where
  ox : OwnB W base e x l
  oy : OwnB W base e y m
  apart : ∀ g, x.ownBlock = some g → y.ownBlock ≠ some g
  nx : ∀ g, x.ownBlock = some g → base < g ∧ g ≠ k
  ny : ∀ g, y.ownBlock = some g → base < g ∧ g ≠ k
  sx : ∀ g c, s = some (g, c) → Blk W g e (u8s [c]) ∧ x.ownBlock ≠ some g ∧ y.ownBlock ≠ some g ∧ base < g ∧ g ≠ k
  sy : ∀ g c, t = some (g, c) → Blk W g e (u8s [c]) ∧ x.ownBlock ≠ some g ∧ y.ownBlock ≠ some g ∧ base < g ∧ g ≠ k
  below : Below base w W
  keepB : W.heap[base]? = w.heap[base]?
  keepK : W.heap[k]? = w.heap[k]?
  lt : base < W.heap.size ∧ k < W.heap.size
section
variable {P : Program} {w W : World} {base k : Nat} {e : TypeId} {x y : Value} {l m : List UInt8} {s t : Option (Nat × UInt8)}
theorem Two.swap (h : Two w W base k e x y l m s t) : Two w W base k e y x m l t s :=
  ⟨h.oy, h.ox, fun g hy hx => h.apart g hx hy, h.ny, h.nx, fun g c hg => by obtain ⟨a, b, c, d⟩ := h.sy g c hg; exact ⟨a, c, b, d⟩, fun g c hg => by obtain ⟨a, b, c, d⟩ := h.sx g c hg; exact ⟨a, c, b, d⟩, h.below, h.keepB, h.keepK, h.lt⟩
theorem Two.made (h : Two w W base k e x y l m none t) (c : UInt8) : Two w (W.alloc (.cells (u8s [c]).toArray e)) base k e x y l m (some (W.heap.size, c)) t := by
  have hlx : ∀ g, x.ownBlock = some g → g < W.heap.size := fun g hg => (h.ox.block_lt hg).2
  have hly : ∀ g, y.ownBlock = some g → g < W.heap.size := fun g hg => (h.oy.block_lt hg).2
  have hl := h.lt
  refine ⟨h.ox.alloc _, h.oy.alloc _, h.apart, h.nx, h.ny, fun g d hg => ?_, fun g d hg => ?_, h.below.alloc (by omega) _, (Below.heap_alloc W _ base (by omega)).trans h.keepB, (Below.heap_alloc W _ k (by omega)).trans h.keepK, by rw [World.size_alloc]; omega⟩
  · cases hg
    exact ⟨Blk.new W e (u8s [c]), fun hx => by have := hlx _ hx; omega, fun hy => by have := hly _ hy; omega, by omega, by omega⟩
  · obtain ⟨a, b⟩ := h.sy g d hg
    exact ⟨a.alloc _, b⟩
theorem Two.app {ty : TypeId} (tt : TypeId) (ht : P.underlying tt = some (.slice e)) (hinfo : (P.info? e).map (fun i => (i.zero, i.size, i.bytes)) = some (some (.int .u8 0), 1, 1))
    {g : Nat} {c : UInt8} (h : Two w W base k e x y l m (some (g, c)) t) (hlen : l.length ≤ 1099511627775) :
    ∃ x' W', (Builtin.append_ #[tt, tt] ty #[x, .slice (some ⟨g, 0, none⟩) 1 1]).run P W = .ok x' W' ∧ Two w W' base k e x' y (l ++ [c]) m (some (g, c)) t ∧ (stays k).rel W W' := by
  obtain ⟨hg, hgx, hgy, hgb, hgk⟩ := h.sx g c rfl
  have hl := h.lt
  obtain ⟨x', W', a1, a2, a3, a4⟩ := app_at (P := P) tt ty ht hinfo h.ox (by omega) 1 1 rfl (Rd.of_all hg) (by simpa using hlen)
  have hkB : W'.heap[base]? = W.heap[base]? := a3.block base (by omega) (fun e => by have := h.nx _ e.symm; omega)
  have hkK : W'.heap[k]? = W.heap[k]? := a3.block k (by omega) (fun e => by have := h.nx _ e.symm; omega)
  have hx' : ∀ q, x'.ownBlock = some q → x.ownBlock = some q ∨ q = W.heap.size := fun q hq => by
    rcases a4 with e | e
    · exact .inl (e.symm.trans hq)
    · exact .inr (Option.some.inj (hq.symm.trans e))
  have src : ∀ q d, Blk W q e (u8s [d]) → x.ownBlock ≠ some q → y.ownBlock ≠ some q → base < q → q ≠ k → Blk W' q e (u8s [d]) ∧ x'.ownBlock ≠ some q ∧ y.ownBlock ≠ some q ∧ base < q ∧ q ≠ k := fun q d hq h1 h2 h3 h4 =>
    ⟨hq.grown a3 (fun e => h1 e.symm), fun e => by
      rcases hx' q e with h5 | h5
      · exact h1 h5
      · have := hq.lt; omega, h2, h3, h4⟩
  refine ⟨x', W', a1, ⟨a2, h.oy.far a3 (fun q hq e => h.apart q e hq), fun q hq hy => ?_, fun q hq => ?_, h.ny, fun q d hq => ?_, fun q d hq => ?_, h.below.grown a3 (by omega) (fun q hq => by have := h.nx q hq; omega), hkB.trans h.keepB, hkK.trans h.keepK, by have := a3.size; omega⟩, hkK⟩
  · rcases hx' q hq with h5 | h5
    · exact h.apart q h5 hy
    · have := (h.oy.block_lt hy).2; omega
  · rcases hx' q hq with h5 | h5
    · exact h.nx q h5
    · omega
  · cases hq
    exact src g c hg hgx hgy hgb hgk
  · obtain ⟨b1, b2, b3, b4, b5⟩ := h.sy q d hq
    exact src q d b1 b2 b3 b4 b5
theorem Two.madeR (h : Two w W base k e x y l m s none) (c : UInt8) : Two w (W.alloc (.cells (u8s [c]).toArray e)) base k e x y l m s (some (W.heap.size, c)) := (h.swap.made c).swap
theorem Two.appR {ty : TypeId} (tt : TypeId) (ht : P.underlying tt = some (.slice e)) (hinfo : (P.info? e).map (fun i => (i.zero, i.size, i.bytes)) = some (some (.int .u8 0), 1, 1))
    {g : Nat} {c : UInt8} (h : Two w W base k e x y l m s (some (g, c))) (hlen : m.length ≤ 1099511627775) :
    ∃ y' W', (Builtin.append_ #[tt, tt] ty #[y, .slice (some ⟨g, 0, none⟩) 1 1]).run P W = .ok y' W' ∧ Two w W' base k e x y' l (m ++ [c]) s (some (g, c)) ∧ (stays k).rel W W' := by
  obtain ⟨y', W', a, b, c⟩ := h.swap.app (ty := ty) tt ht hinfo hlen
  exact ⟨y', W', a, b.swap, c⟩
theorem Two.done (h : Two w W base k e x y l m s t) : Two w W base k e x y l m none none :=
  ⟨h.ox, h.oy, h.apart, h.nx, h.ny, fun _ _ e => (by cases e), fun _ _ e => (by cases e), h.below, h.keepB, h.keepK, h.lt⟩
theorem Two.drew (h : Two w W base k e x y l m s t) : Two w W.drew base k e x y l m s t :=
  ⟨h.ox, h.oy, h.apart, h.nx, h.ny, h.sx, h.sy, h.below.drew, h.keepB, h.keepK, h.lt⟩
theorem stays_alloc {o : Obj} (h : k < W.heap.size) : (stays k).rel W (W.alloc o) := Below.heap_alloc W o k h
end
end Go.Gar

namespace Go.Proofs.YtdipflchmooakaaGreatDoor
open Go.RowKit Go.Gar Go.Gar.Aes

theorem openS_short {k s : List UInt8} {id gen : Int} (h : s.length < 88) : openS k id gen s = none := by unfold openS; rw [if_pos h]
theorem openS_none {k s : List UInt8} {id gen : Int} (h : Cbc.open_ (k.take 32) (ivP s) (conP s) = none) : openS k id gen s = none := by
  unfold openS
  rw [h]
  split <;> rfl
theorem openS_yes {k s y : List UInt8} {id gen : Int} (h88 : ¬ s.length < 88) (h : Cbc.open_ (k.take 32) (ivP s) (conP s) = some y) : openS k id gen s = if sealS k (ivP s) id gen y = s then some y else none := by
  unfold openS
  rw [if_neg h88, h]
theorem open7_none {key iv c : List UInt8} (hk : key.length = 32) (h : Cbc.open_ key iv c = none) : openE key iv c = 12 ∧ openB key iv c = [] := by
  have hs : key.length = 16 ∨ key.length = 24 ∨ key.length = 32 := .inr (.inr hk)
  unfold openE openB
  rw [if_pos hs, if_pos hs, h]
  exact ⟨rfl, rfl⟩
theorem open7_some {key iv c y : List UInt8} (hk : key.length = 32) (h : Cbc.open_ key iv c = some y) : openE key iv c = 0 ∧ openB key iv c = y := by
  have hs : key.length = 16 ∨ key.length = 24 ∨ key.length = 32 := .inr (.inr hk)
  unfold openE openB
  rw [if_pos hs, if_pos hs, h]
  exact ⟨rfl, rfl⟩
theorem load_keys_later {G : Growth} {w : World} {g : Nat} {l : List UInt8} (hl : l.length = 64) (h : ∀ W : Later G w, Blk W.to g 29 (u8s l)) :
    ∀ W : Later G w, (Instr.loadAt 29 (.pointer (some ⟨g, 0, none⟩))).run Tryz.prog W.to = .ok (.agg (u8s l).toArray) W.to := by
  intro W
  simp only [Instr.loadAt, Instr.sureAddr, Sem.run_bind, Sem.run_pure, Result.andThen]
  exact load_keys (h W) hl

theorem rd_part {w : World} {B bb oo : Nat} {s : List UInt8} (h : Rd w B (some ⟨bb, oo, none⟩) s) (o n : Nat) {l : List UInt8} (hl : (s.drop o).take n = l) : Rd w B (some ⟨bb, oo + o, none⟩) l := by
  subst hl
  rcases h with rfl | ⟨b, q, e, hb, hc⟩
  · exact .inl (by simp)
  · obtain ⟨rfl, rfl⟩ : bb = b ∧ oo = q := by simpa using e
    refine .inr ⟨bb, oo + o, rfl, hb, fun i c hi => ?_⟩
    have := hc (o + i) c (by
      rw [List.getElem?_take] at hi
      split at hi
      · rw [List.getElem?_drop] at hi; exact hi
      · cases hi)
    rw [Nat.add_assoc]
    exact this
end Go.Proofs.YtdipflchmooakaaGreatDoor
namespace Go.Proofs.YtdipflchmooakaaGreatDoor
open Go.RowKit Go.Gar

/-- A Reader in memory: block g holds the struct, block d its bytes l; it stands at place at. -/
def Rdr (w : World) (g d : Nat) (l : List UInt8) (at_ : Nat) (bad : Bool) : Prop :=
  Blk w g 141 [.slice (some ⟨d, 0, none⟩) l.length l.length, .int .i64 (at_ : Int), .bool bad] ∧ Blk w d 5 (u8s l)

set_option maxHeartbeats 400000 in
theorem new_any (A : Option Addr) (l : List UInt8) (c : Nat) (w : World) (hr : Rd w w.heap.size A l) (hsz : l.length ≤ 1000000000) :
    Calls Tryz.prog 58 #[.slice A l.length c] w fun e w' =>
      e = .returned (.pointer (some ⟨w.heap.size + 1, 0, none⟩)) ∧ Rdr w' (w.heap.size + 1) w.heap.size l 0 false ∧ Below w.heap.size w w' := by
  go_enter Tryz.func58, Tryz.ntmps58
  go_wp2_with fail
  refine (extended_any A l c 0 w hr (by omega)).mono ?_
  rintro e w1 ⟨rfl, hB, hb, hsz1⟩
  have HB := Lib.hid hB
  have Hb := Lib.hid hb
  have Hz := Lib.hid hsz1
  clear hB hb hsz1
  go_wp2
  go_ret
  have hz := Hz.out
  refine ⟨?_, ⟨?_, ?_⟩, Hb.out.alloc Hb.out.size _⟩
  · show Ending.returned (.pointer (some ⟨w1.heap.size, 0, none⟩)) = _
    rw [hz]
  · rw [← hz]
    exact Blk.new w1 _ [_, _, _]
  · have := HB.out
    rw [List.replicate_zero, List.append_nil] at this
    exact this.alloc _
end Go.Proofs.YtdipflchmooakaaGreatDoor
namespace Go.Proofs.YtdipflchmooakaaGreatDoor
open Go.RowKit Go.Gar

section
variable {w w' : World} {g d at_ : Nat} {l : List UInt8} {bad : Bool}
theorem Rdr.c0 (h : Rdr w g d l at_ bad) : w.cell? ⟨g, 0, none⟩ = some (.slice (some ⟨d, 0, none⟩) l.length l.length) := by rw [h.1.cell]; rfl
theorem Rdr.c1 (h : Rdr w g d l at_ bad) : w.cell? ⟨g, 1, none⟩ = some (.int .i64 (at_ : Int)) := by rw [h.1.cell]; rfl
theorem Rdr.c2 (h : Rdr w g d l at_ bad) : w.cell? ⟨g, 2, none⟩ = some (.bool bad) := by rw [h.1.cell]; rfl
theorem Rdr.ne (h : Rdr w g d l at_ bad) : d ≠ g := (h.2.ne h.1 (by decide))
theorem Rdr.setBad (h : Rdr w g d l at_ bad) (b : Bool) : Rdr (w.setCell ⟨g, 2, none⟩ (.bool b)) g d l at_ b := ⟨h.1.set_ 2 _, h.2.far h.ne _⟩
theorem Rdr.setAt (h : Rdr w g d l at_ bad) (k : Nat) : Rdr (w.setCell ⟨g, 1, none⟩ (.int .i64 (k : Int))) g d l k bad := ⟨h.1.set_ 1 _, h.2.far h.ne _⟩
theorem Rdr.drewN (h : Rdr w g d l at_ bad) (n : Nat) : Rdr (w.drewN n) g d l at_ bad := h
theorem Rdr.below {B : Nat} (h : Rdr w g d l at_ bad) (hb : Below B w w') (hg : g < B) (hd : d < B) : Rdr w' g d l at_ bad := ⟨h.1.below hb hg, h.2.below hb hd⟩
end

set_option maxHeartbeats 400000 in
theorem valid_nil (w : World) : Calls Tryz.prog 104 #[.pointer none] w fun e w' => e = .returned (.bool false) ∧ w' = w := by
  go_enter Tryz.func104, Tryz.ntmps104
  go_wp2
  go_ret
  exact ⟨rfl, rfl⟩

set_option maxHeartbeats 400000 in
theorem valid_any (g d at_ : Nat) (l : List UInt8) (bad : Bool) (w : World) (h : Rdr w g d l at_ bad) : Calls Tryz.prog 104 #[.pointer (some ⟨g, 0, none⟩)] w fun e w' => e = .returned (.bool (!bad)) ∧ w' = w := by
  have h2 := h.c2
  go_enter Tryz.func104, Tryz.ntmps104
  go_wp2
  go_ret
  exact ⟨rfl, rfl⟩

set_option maxHeartbeats 400000 in
theorem fail_nil (w : World) : Calls Tryz.prog 105 #[.pointer none] w fun e w' => e = .returned (.tuple #[]) ∧ w' = w := by
  go_enter Tryz.func105, Tryz.ntmps105
  go_wp2
  go_end0
  exact ⟨rfl, rfl⟩

set_option maxHeartbeats 400000 in
theorem fail_any (g d at_ : Nat) (l : List UInt8) (bad : Bool) (w : World) (h : Rdr w g d l at_ bad) : Calls Tryz.prog 105 #[.pointer (some ⟨g, 0, none⟩)] w fun e w' => e = .returned (.tuple #[]) ∧ w' = w.setCell ⟨g, 2, none⟩ (.bool true) := by
  have h2 := h.c2
  have hf := h.1.frozen 2
  go_enter Tryz.func105, Tryz.ntmps105
  go_wp2
  go_end0
  exact ⟨rfl, rfl⟩

set_option maxHeartbeats 400000 in
theorem take_nil (n : Int) (w : World) : Calls Tryz.prog 99 #[.pointer none, .int .i64 n] w fun e w' => e = .returned (.slice none 0 0) ∧ w' = w := by
  go_enter Tryz.func99, Tryz.ntmps99
  go_wp2_with (go_at_call 104; refine (valid_nil _).mono ?_; rintro e w' ⟨rfl, rfl⟩)
  go_ret
  exact ⟨rfl, rfl⟩

set_option maxHeartbeats 400000 in
theorem take_bad (g d at_ : Nat) (l : List UInt8) (n : Int) (w : World) (h : Rdr w g d l at_ true) : Calls Tryz.prog 99 #[.pointer (some ⟨g, 0, none⟩), .int .i64 n] w fun e w' => e = .returned (.slice none 0 0) ∧ w' = w := by
  go_enter Tryz.func99, Tryz.ntmps99
  go_wp2_with (go_at_call 104; refine (valid_any g d at_ l true _ h).mono ?_; rintro e w' ⟨rfl, rfl⟩)
  go_ret
  exact ⟨rfl, rfl⟩

set_option maxHeartbeats 400000 in
theorem take_short (g d at_ : Nat) (l : List UInt8) (n : Nat) (w : World) (h : Rdr w g d l at_ false) (_hat : at_ ≤ l.length) (_hl : l.length ≤ 1000000000) (_hn : l.length < at_ + n) (_hn2 : n ≤ 1000000000) :
    Calls Tryz.prog 99 #[.pointer (some ⟨g, 0, none⟩), .int .i64 (n : Int)] w fun e w' => e = .returned (.slice none 0 0) ∧ Rdr w' g d l at_ true ∧ w.grownBy w' (some g) := by
  have h0 := h.c0
  have h1 := h.c1
  go_enter Tryz.func99, Tryz.ntmps99
  go_wp2_with (go_at_call 104; refine (valid_any g d at_ l false _ h).mono ?_; rintro e w' ⟨rfl, rfl⟩)
  go_quiet (fail)
  go_wp2_with fail
  refine (fail_any g d at_ l false (w'.drewN nq) (h.drewN nq)).mono ?_
  rintro e w2 ⟨rfl, rfl⟩
  have hr : Rdr ((w'.drewN nq).setCell ⟨g, 2, none⟩ (.bool true)) g d l at_ true := Rdr.setBad (w := w'.drewN nq) h true
  have hg : w'.grownBy ((w'.drewN nq).setCell ⟨g, 2, none⟩ (.bool true)) (some g) := grown_set (only_drewN (World.grownBy.refl w' _) nq) _
  have HR := Lib.hid hr
  have HG := Lib.hid hg
  clear hr hg h h0 h1
  generalize (w'.drewN nq).setCell ⟨g, 2, none⟩ (.bool true) = w3 at *
  go_wp2
  go_ret
  exact ⟨rfl, HR.out, HG.out⟩

/-- The value is a slice of n elements that reads as l. -/
def GotSlice (w' : World) (l : List UInt8) (e : Ending) : Prop := ∃ A c, e = .returned (.slice A l.length c) ∧ Rd w' w'.heap.size A l

theorem take_end {w : World} {g d at_ n : Nat} {l : List UInt8} (h : Rdr w g d l at_ false) (hn : at_ + n ≤ l.length) (p q : Nat) (A : Option Addr) (c : Nat) (hA : n = 0 ∨ A = some ⟨d, at_, none⟩ ) :
    GotSlice (((w.drewN p).setCell ⟨g, 1, none⟩ (.int .i64 ((at_ : Int) + (n : Int)))).drewN q) ((l.drop at_).take n) (.returned (.slice A n c)) ∧
      Rdr (((w.drewN p).setCell ⟨g, 1, none⟩ (.int .i64 ((at_ : Int) + (n : Int)))).drewN q) g d l (at_ + n) false ∧ w.grownBy (((w.drewN p).setCell ⟨g, 1, none⟩ (.int .i64 ((at_ : Int) + (n : Int)))).drewN q) (some g) := by
  have hr : Rdr (((w.drewN p).setCell ⟨g, 1, none⟩ (.int .i64 ((at_ : Int) + (n : Int)))).drewN q) g d l (at_ + n) false := by
    have := (h.drewN p).setAt (at_ + n)
    rw [Int.natCast_add] at this
    exact this.drewN q
  refine ⟨⟨A, c, ?_, ?_⟩, hr, only_drewN (grown_set (only_drewN (World.grownBy.refl w _) p) _) q⟩
  · simp [Nat.min_eq_left (show n ≤ l.length - at_ by omega)]
  · rcases hA with rfl | rfl
    · exact .inl (by simp)
    · exact Rd.of_blk l hr.2 hr.2.lt at_ n

set_option maxHeartbeats 400000 in
theorem take_fit (g d at_ : Nat) (l : List UInt8) (n : Nat) (w : World) (h : Rdr w g d l at_ false) (hl : l.length ≤ 1000000000) (hn : at_ + n ≤ l.length) :
    Calls Tryz.prog 99 #[.pointer (some ⟨g, 0, none⟩), .int .i64 (n : Int)] w fun e w' => GotSlice w' ((l.drop at_).take n) e ∧ Rdr w' g d l (at_ + n) false ∧ w.grownBy w' (some g) := by
  have h0 := h.c0
  have h1 := h.c1
  have hf1 := h.1.frozen 1
  go_enter Tryz.func99, Tryz.ntmps99
  go_wp2_with (go_at_call 104; refine (valid_any g d at_ l false _ h).mono ?_; rintro e w' ⟨rfl, rfl⟩)
  go_quiet (fail)
  go_wp2
  go_quiet (fail)
  go_wp2
  all_goals go_ret
  · exact take_end ‹_› hn _ _ _ _ (.inl (by omega))
  · exact take_end ‹_› hn _ _ _ _ (.inr rfl)
end Go.Proofs.YtdipflchmooakaaGreatDoor
namespace Go.Proofs.YtdipflchmooakaaGreatDoor
open Go.RowKit Go.Gar

/-- The number that bytes say, the highest first. -/
def val (l : List UInt8) : Nat := l.foldl (fun n c => n * 256 + c.toNat) 0
theorem val_snoc (l : List UInt8) (c : UInt8) : val (l ++ [c]) = val l * 256 + c.toNat := by simp [val]
theorem val_lt (l : List UInt8) : val l < 256 ^ l.length := by
  suffices h : ∀ k : List UInt8, val k.reverse < 256 ^ k.length by simpa using h l.reverse
  intro k
  induction k with
  | nil => simp [val]
  | cons c k ih =>
    rw [List.reverse_cons, val_snoc, List.length_cons, Nat.pow_succ]
    have := c.toNat_lt
    omega

theorem or_comm_u64 (x y : Int) : bits .or .u64 x y = bits .or .u64 y x := by
  show IntKind.u64.wrap ((BitVec.ofInt 64 x ||| BitVec.ofInt 64 y).toNat : Int) = IntKind.u64.wrap ((BitVec.ofInt 64 y ||| BitVec.ofInt 64 x).toNat : Int)
  rw [BitVec.or_comm]
theorem step_u64 (n c : Nat) (hn : n < 72057594037927936) (hc : c < 256) : bits .or .u64 (IntKind.u64.wrap ((n : Int) * 256)) (IntKind.u64.wrap (c : Int)) = ((n * 256 + c : Nat) : Int) := by
  rw [or_comm_u64, wraps_u64 (c : Int) (by omega) (by omega), wraps_u64 ((n : Int) * 256) (by omega) (by omega), u64_or8 (c : Int) ((n : Int) * 256) (by omega) (by omega) (by omega) (by omega) (by omega)]
  omega
theorem val_take_lt (x : List UInt8) (k : Nat) (h : k < 8) : val (x.take k) < 72057594037927936 := by
  refine Nat.lt_of_lt_of_le (val_lt _) ?_
  refine Nat.le_trans (Nat.pow_le_pow_right (by omega) (show (x.take k).length ≤ 7 by rw [List.length_take]; omega)) (by decide)

set_option maxHeartbeats 400000 in
theorem rnum_nil (n : Int) (w : World) : Calls Tryz.prog 86 #[.pointer none, .int .i64 n] w fun e w' => e = .returned (.int .u64 0) ∧ w' = w := by
  go_enter Tryz.func86, Tryz.ntmps86
  go_wp2_with (go_at_call 99; refine (take_nil _ _).mono ?_; rintro e w' ⟨rfl, rfl⟩)
  refine wp_loop_rounds 1 ?_
  rw [rounds_succ]
  go_wp2
  go_ret
  exact ⟨rfl, rfl⟩

set_option maxHeartbeats 400000 in
theorem rnum_bad (g d at_ : Nat) (l : List UInt8) (n : Int) (w : World) (h : Rdr w g d l at_ true) : Calls Tryz.prog 86 #[.pointer (some ⟨g, 0, none⟩), .int .i64 n] w fun e w' => e = .returned (.int .u64 0) ∧ w' = w := by
  go_enter Tryz.func86, Tryz.ntmps86
  go_wp2_with (go_at_call 99; refine (take_bad g d at_ l _ _ h).mono ?_; rintro e w' ⟨rfl, rfl⟩)
  refine wp_loop_rounds 1 ?_
  rw [rounds_succ]
  go_wp2
  go_ret
  exact ⟨rfl, rfl⟩

set_option maxHeartbeats 400000 in
theorem rnum_short (g d at_ : Nat) (l : List UInt8) (n : Nat) (w : World) (h : Rdr w g d l at_ false) (hat : at_ ≤ l.length) (hl : l.length ≤ 1000000000) (hn : l.length < at_ + n) (hn2 : n ≤ 1000000000) :
    Calls Tryz.prog 86 #[.pointer (some ⟨g, 0, none⟩), .int .i64 (n : Int)] w fun e w' => e = .returned (.int .u64 0) ∧ Rdr w' g d l at_ true ∧ w.grownBy w' (some g) := by
  go_enter Tryz.func86, Tryz.ntmps86
  go_wp2_with (go_at_call 99; refine (take_short g d at_ l n _ h hat hl hn hn2).mono ?_; rintro e w2 ⟨rfl, hr, hg⟩; have HR := Lib.hid hr; have HG := Lib.hid hg; clear hr hg)
  refine wp_loop_rounds 1 ?_
  rw [rounds_succ]
  go_wp2
  go_ret
  exact ⟨rfl, HR.out, HG.out⟩

set_option maxHeartbeats 400000 in
theorem rnum_fit (g d at_ : Nat) (l : List UInt8) (n : Nat) (w : World) (h : Rdr w g d l at_ false) (hl : l.length ≤ 1000000000) (hn : at_ + n ≤ l.length) (hn2 : n ≤ 8) :
    Calls Tryz.prog 86 #[.pointer (some ⟨g, 0, none⟩), .int .i64 (n : Int)] w fun e w' => e = .returned (.int .u64 (val ((l.drop at_).take n) : Int)) ∧ Rdr w' g d l (at_ + n) false ∧ w.grownBy w' (some g) := by
  go_enter Tryz.func86, Tryz.ntmps86
  go_wp2_with fail
  refine (take_fit g d at_ l n _ h hl hn).mono ?_
  rintro e w2 ⟨⟨A, c, rfl, hrd⟩, hr, hg⟩
  have HR := Lib.hid hr
  have HG := Lib.hid hg
  have hlen : ((l.drop at_).take n).length = n := by simp; omega
  clear hr hg
  generalize hx : (l.drop at_).take n = x at *
  have HX := Lib.hid hx
  have HRD := Lib.hid hrd
  clear hx hrd
  subst hlen
  go_wp2_with fail
  go_loop [5, 12] (fun a i => ∃ k : Nat, k ≤ x.length ∧ i = .int .i64 k ∧ a = .int .u64 (val (x.take k) : Int)) (fun _ i => x.length - (intOf i).toNat)
  case atStart => exact ⟨0, by omega, rfl, rfl⟩
  case round =>
    obtain ⟨k, hk, rfl, rfl⟩ := hrel
    by_cases hlt : k < x.length
    · rcases HRD.out with hnil | ⟨b, o, rfl, hb, hc⟩
      · rw [hnil] at hlt; simp at hlt
      · have hck := hc k x[k] (List.getElem?_eq_getElem hlt)
        have hs := step_u64 (val (x.take k)) x[k].toNat (val_take_lt x k (by omega)) x[k].toNat_lt
        rw [← val_snoc, ← List.take_succ_eq_append_getElem hlt] at hs
        have HS := Lib.hid hs
        clear hc hs
        go_wp2
        exact ⟨⟨k + 1, by omega, by go_num, by rw [HS.out]⟩, by simp [intOf]; omega⟩
    · obtain rfl : k = x.length := by omega
      go_wp2
      go_ret
      exact ⟨by rw [HX.out]; simp, HR.out, HG.out⟩
end Go.Proofs.YtdipflchmooakaaGreatDoor
namespace Go.Proofs.YtdipflchmooakaaGreatDoor
open Go.RowKit Go.Gar

theorem rnum_not (g d at_ : Nat) (l : List UInt8) (bad : Bool) (n : Nat) (w : World) (h : Rdr w g d l at_ bad) (hat : at_ ≤ l.length) (hl : l.length ≤ 1000000000) (hn : bad = true ∨ l.length < at_ + n) (hn2 : n ≤ 1000000000) :
    Calls Tryz.prog 86 #[.pointer (some ⟨g, 0, none⟩), .int .i64 (n : Int)] w fun e w' => e = .returned (.int .u64 0) ∧ Rdr w' g d l at_ true ∧ w.grownBy w' (some g) := by
  cases bad with
  | true => exact (rnum_bad g d at_ l n w h).mono fun e w' ⟨he, hw⟩ => ⟨he, by rw [hw]; exact h, by rw [hw]; exact World.grownBy.refl w _⟩
  | false => exact rnum_short g d at_ l n w h hat hl (by simpa using hn) hn2

/-- 64 bits as a signed number. -/
def s64 (n : Nat) : Int := wrap64 (n : Int)

set_option maxHeartbeats 400000 in
theorem rint_nil (w : World) : Calls Tryz.prog 59 #[.pointer none] w fun e w' => e = .returned (.int .i64 0) ∧ w' = w := by
  go_enter Tryz.func59, Tryz.ntmps59
  go_wp2_with (go_at_call 86; refine (rnum_nil _ _).mono ?_; rintro e w' ⟨rfl, rfl⟩)
  go_ret
  exact ⟨rfl, rfl⟩

set_option maxHeartbeats 400000 in
theorem rint_not (g d at_ : Nat) (l : List UInt8) (bad : Bool) (w : World) (h : Rdr w g d l at_ bad) (hat : at_ ≤ l.length) (hl : l.length ≤ 1000000000) (hn : bad = true ∨ l.length < at_ + 8) :
    Calls Tryz.prog 59 #[.pointer (some ⟨g, 0, none⟩)] w fun e w' => e = .returned (.int .i64 0) ∧ Rdr w' g d l at_ true ∧ w.grownBy w' (some g) := by
  go_enter Tryz.func59, Tryz.ntmps59
  go_wp2_with fail
  refine (rnum_not g d at_ l bad 8 _ h hat hl hn (by omega)).mono ?_
  rintro e w2 ⟨rfl, hr, hg⟩
  have HR := Lib.hid hr
  have HG := Lib.hid hg
  clear hr hg hn
  go_wp2
  go_ret
  exact ⟨rfl, HR.out, HG.out⟩

set_option maxHeartbeats 400000 in
theorem rint_fit (g d at_ : Nat) (l : List UInt8) (w : World) (h : Rdr w g d l at_ false) (hl : l.length ≤ 1000000000) (hn : at_ + 8 ≤ l.length) :
    Calls Tryz.prog 59 #[.pointer (some ⟨g, 0, none⟩)] w fun e w' => e = .returned (.int .i64 (s64 (val ((l.drop at_).take 8)))) ∧ Rdr w' g d l (at_ + 8) false ∧ w.grownBy w' (some g) := by
  go_enter Tryz.func59, Tryz.ntmps59
  go_wp2_with fail
  refine (rnum_fit g d at_ l 8 _ h hl hn (by omega)).mono ?_
  rintro e w2 ⟨rfl, hr, hg⟩
  have HR := Lib.hid hr
  have HG := Lib.hid hg
  clear hr hg hn
  go_wp2
  go_ret
  exact ⟨rfl, HR.out, HG.out⟩

end Go.Proofs.YtdipflchmooakaaGreatDoor
namespace Go.Gar
open Go.RowKit

/-- Two parts of n cells each fill a value of 2 n cells. -/
theorem fill_two (place : Nat → Option (Nat × Nat)) (z X Y : Array Value) (n : Nat) (h0 : place 0 = some (0, n)) (h1 : place 1 = some (n, n)) (hX : X.size = n) (hY : Y.size = n) (hz : z.size = 2 * n) :
    Instr.fill place z [(0, .agg X), (1, .agg Y)] = some (X ++ Y) := by
  obtain ⟨a1, a2⟩ := Great.foldl_set 0 X.toList 0 z
  obtain ⟨b1, b2⟩ := Great.foldl_set n Y.toList 0 ((X.toList.zipIdx 0).foldl (fun cs (x : Value × Nat) => cs.setIfInBounds (0 + x.2) x.1) z)
  unfold Instr.fill
  simp only [h0]
  have c1 : (Value.agg X).cells = X := rfl
  have c2 : (Value.agg Y).cells = Y := rfl
  rw [c1, if_neg (by simp; omega)]
  unfold Instr.fill
  simp only [h1]
  have e1 : (X.zipIdx.foldl (fun cs (x : Value × Nat) => cs.setIfInBounds (0 + x.2) x.1) z) = (X.toList.zipIdx 0).foldl (fun cs (x : Value × Nat) => cs.setIfInBounds (0 + x.2) x.1) z := by
    rw [← Array.foldl_toList, Array.toList_zipIdx]
  rw [c2, e1, if_neg (by rw [a1]; simp; omega)]
  unfold Instr.fill
  rw [← Array.foldl_toList, Array.toList_zipIdx]
  congr 1
  apply Array.ext_getElem?
  intro k
  rw [b2, a1, a2, Array.length_toList, Array.length_toList, hX, hY, hz]
  by_cases hk : k < n
  · rw [if_neg (by omega), if_pos (by omega), Array.getElem?_append_left (by omega)]
    simp
  · by_cases hk2 : k < 2 * n
    · rw [if_pos (by omega), Array.getElem?_append_right (by omega), hX]
      simp
    · rw [if_neg (by omega), if_neg (by omega), Array.getElem?_eq_none (by omega), Array.getElem?_eq_none (by rw [Array.size_append]; omega)]
/-- build, its cells known. -/
theorem wpList_build_w {P : Program} {w : World} {ops : Array Oper} {rest : List Oper} {o : Oper} {a : Act} {Q : Exit → Act → World → Prop} (t : TypeId) (parts : Array (Nat × Operand)) (ho : o.op = .build t parts) {vs : List (Nat × Value)} (hp : (parts.map fun (i, x) => (i, a.eval x)).toList = vs)
    {x : Array Value} (hb : P.built t vs = some x) (hw : Region.wanted o (yielded ops a.tmps) = true) (h : wpList P ops Q rest (a.put o.dst (.agg x)) w) : wpList P ops Q (o :: rest) a w := by
  refine wpList_run_w hw (v := .agg x) (w' := w) ?_ h
  unfold execOp
  subst hp
  simp only [ho, Sem.run_bind, run_build w t _ _ hb, Result.andThen_ok, Sem.run_pure]
/-- build in a segment. -/
theorem wpQuiet_build {P : Program} {C : World → Prop} {ops : Array Oper} {Q : Act → Prop} {rest : List Oper} {o : Oper} {a : Act} (t : TypeId) (parts : Array (Nat × Operand)) (ho : o.op = .build t parts) {vs : List (Nat × Value)} (hp : (parts.map fun (i, x) => (i, a.eval x)).toList = vs)
    {x : Array Value} (hb : P.built t vs = some x) (hw : Region.wanted o (yielded ops a.tmps) = true) (h : wpQuiet P ops C Q rest (a.put o.dst (.agg x))) : wpQuiet P ops C Q (o :: rest) a := by
  refine wpQuiet_val hw (fun W _ => ?_) h
  unfold execOp
  subst hp
  simp only [ho, Sem.run_bind, run_build W t _ _ hb, Result.andThen_ok, Sem.run_pure]
end Go.Gar
namespace Go.Proofs.YtdipflchmooakaaGreatDoor
open Go.RowKit Go.Gar

theorem Tryz.undIV : Tryz.prog.underlying 32 = some (.array 16 5) := by kernel_rfl
theorem Tryz.infoIV : (Tryz.prog.info? 32).map (fun i => (i.zero, i.size)) = some (some (.agg (Array.replicate 16 (.int .u8 0))), 16) := by kernel_rfl
theorem zero_IV (w : World) : (zeroValue 32).run Tryz.prog w = .ok (.agg (u8s (List.replicate 16 0)).toArray) w := by
  have := (zero_of_info Tryz.infoIV).1 w
  rw [this]
  rfl
theorem size_IV (l : List UInt8) (h : l.length = 16) : (Tryz.prog.info? 32).map (·.size) = some (u8s l).length := by
  rw [u8s_len, h]; exact (zero_of_info Tryz.infoIV).2
theorem run_arrIV (g o n c : Nat) (h : 16 ≤ n) (W : World) : (Instr.arrayAt 32 (.slice (some ⟨g, o, none⟩) n c)).run Tryz.prog W = .ok (.pointer (some ⟨g, o, none⟩)) W := by
  have h1 : ¬ n < 16 := by omega
  simp [Instr.arrayAt, run_underlying Tryz.undIV W, h1]

theorem wpList_arrAt {P : Program} {w : World} {ops : Array Oper} {rest : List Oper} {o : Oper} {a : Act} {Q : Exit → Act → World → Prop} (t : TypeId) (p : Operand) (ho : o.op = .sliceToArrayPointer t p) {x v : Value} (hp : a.eval p = x)
    (hrun : (Instr.arrayAt t x).run P w = .ok v w) (hw : Region.wanted o (yielded ops a.tmps) = true) (h : wpList P ops Q rest (a.put o.dst v) w) : wpList P ops Q (o :: rest) a w := by
  refine wpList_run_w hw (v := v) (w' := w) ?_ h
  unfold execOp
  simp only [ho, hp, Sem.run_bind, hrun, Result.andThen_ok, Sem.run_pure]
end Go.Proofs.YtdipflchmooakaaGreatDoor
