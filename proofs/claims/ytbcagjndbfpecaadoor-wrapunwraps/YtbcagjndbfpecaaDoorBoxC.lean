/-
  What is asked of box's functions (contracts).
-/
import Derived.Test.YtbcagjndbfpecaaDoorBoxTab
import Derived.Test.YtbcagjndbfpecaaDoorArr
import Derived.Test.YtbcagjndbfpecaaDoorBase
namespace Go.Proofs.YtbcagjndbfpecaaDoor
open Go.RowKit Go.Gar

theorem Tryd.undArr : Tryd.prog.underlying 43 = some (.array 256 5) := by kernel_rfl
theorem Tryd.infoArr : (Tryd.prog.info? 43).map (fun i => (i.zero, i.size)) = some (some (.agg (Array.replicate 256 (.int .u8 0))), 256) := by kernel_rfl
def zs : List Value := List.replicate 256 (.int .u8 0)
theorem zero_arr (w : World) : (zeroValue 43).run Tryd.prog w = .ok (.agg zs.toArray) w := by
  have := (zero_of_info Tryd.infoArr).1 w
  rw [this]
  rfl
theorem size_arr (l : List UInt8) (h : l.length = 256) : (Tryd.prog.info? 43).map (·.size) = some (u8s l).length := by
  rw [u8s_len, h]; exact (zero_of_info Tryd.infoArr).2
theorem zs_len : zs.length = 256 := List.length_replicate

def MulC : Prop := ∀ (a b : Nat) (w : World), a < 256 → b < 256 → Calls Tryd.prog 35 #[.int .u8 (a : Int), .int .u8 (b : Int)] w fun e w' => e = .returned (.int .u8 ((Box.mul a b : Nat) : Int)) ∧ w' = w
def InvC : Prop := ∀ (a : Nat) (w : World), a < 256 → Calls Tryd.prog 34 #[.int .u8 (a : Int)] w fun e w' => e = .returned (.int .u8 ((Box.inv a : Nat) : Int)) ∧ w' = w
def TabC : Prop := ∀ (w : World), Calls Tryd.prog 20 #[] w fun e w' => e = .returned (.tuple #[.agg (u8s Box.sboxB).toArray, .agg (u8s Box.backB).toArray]) ∧ Below w.heap.size w w'

/-- The world behind 't, b := box.Tables()'. -/
def laidT (w : World) (x y : List Value) : World := (((w.alloc (.cells zs.toArray 43)).alloc (.cells zs.toArray 43)).setRow w.heap.size x.toArray).setRow (w.heap.size + 1) y.toArray
theorem laid_0 (w : World) : Blk ((w.alloc (.cells zs.toArray 43)).alloc (.cells zs.toArray 43)) w.heap.size 43 zs := (Blk.new w _ zs).alloc _
theorem laid_1 (w : World) : Blk ((w.alloc (.cells zs.toArray 43)).alloc (.cells zs.toArray 43)) (w.heap.size + 1) 43 zs := by
  have h2 := Blk.new (w.alloc (.cells zs.toArray 43)) 43 zs
  rw [World.size_alloc] at h2
  exact h2
theorem laid_2 (w : World) (x : List Value) : Blk (((w.alloc (.cells zs.toArray 43)).alloc (.cells zs.toArray 43)).setRow w.heap.size x.toArray) (w.heap.size + 1) 43 zs :=
  (laid_1 w).rowFar (by omega) _
theorem laid_t (w : World) (x y : List Value) : Blk (laidT w x y) w.heap.size 43 x := ((laid_0 w).row x).rowFar (by omega) _
theorem laid_b (w : World) (x y : List Value) : Blk (laidT w x y) (w.heap.size + 1) 43 y := (laid_2 w x).row y
theorem laid_below (w : World) (x y : List Value) : Below w.heap.size w (laidT w x y) :=
  below_setRow (below_setRow (((below_alloc w _).alloc (by rw [World.size_alloc]; omega) _)) (Nat.le_refl _) _) (by omega) _

/-- A table as a value: 256 bytes. -/
def Tab (x : List Value) (l : List UInt8) : Prop := x = u8s l ∧ l.length = 256
theorem Tab.size {x : List Value} {l : List UInt8} (h : Tab x l) : (Tryd.prog.info? 43).map (·.size) = some x.length := by rw [h.1]; exact size_arr _ h.2
theorem Tab.len {x : List Value} {l : List UInt8} (h : Tab x l) : zs.length = x.length := by rw [h.1, u8s_len, h.2, zs_len]
theorem Tab.one {x : List Value} {l : List UInt8} (h : Tab x l) : ∀ u ∈ x, u.oneCell' = true := by rw [h.1]; exact u8s_one _
theorem Tab.get {w : World} {g : Nat} {t : TypeId} {x : List Value} {l : List UInt8} (h : Tab x l) (hb : Blk w g t x) {i c : Nat} (hc : l[i]? = some (UInt8.ofNat c)) (h8 : c < 256) : w.cell? ⟨g, i, none⟩ = some (.int .u8 (c : Int)) := by
  rw [hb.cell, h.1, u8s_get, hc, Option.map_some, Box.ofNat_toNat c h8]
theorem tab_s : Tab (u8s Box.sboxB) Box.sboxB := ⟨rfl, Box.sboxB_len⟩
theorem tab_b : Tab (u8s Box.backB) Box.backB := ⟨rfl, Box.backB_len⟩
end Go.Proofs.YtbcagjndbfpecaaDoor
