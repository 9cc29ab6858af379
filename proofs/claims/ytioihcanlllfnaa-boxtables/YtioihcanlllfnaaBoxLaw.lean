/-
  Layer 3's laws: what is asked of box's functions (contracts), and the fixed fact awake.
-/
import Derived.Test.YtioihcanlllfnaaBoxTab
import Derived.Test.YtioihcanlllfnaaArr
import Derived.Test.YtioihcanlllfnaaLaw
import Derived.Test.YtioihcanlllfnaaOwn
namespace Go.Proofs.Ytioihcanlllfnaa
open Go.RowKit Go.Gar

theorem Try.undArr : Try.prog.underlying 25 = some (.array 256 5) := by kernel_rfl
theorem Try.infoArr : (Try.prog.info? 25).map (fun i => (i.zero, i.size)) = some (some (.agg (Array.replicate 256 (.int .u8 0))), 256) := by kernel_rfl
def zs : List Value := List.replicate 256 (.int .u8 0)
theorem zero_arr (w : World) : (zeroValue 25).run Try.prog w = .ok (.agg zs.toArray) w := by
  have := (zero_of_info Try.infoArr).1 w
  rw [this]
  rfl
theorem size_arr (l : List UInt8) (h : l.length = 256) : (Try.prog.info? 25).map (·.size) = some (u8s l).length := by
  rw [u8s_len, h]; exact (zero_of_info Try.infoArr).2
theorem zs_len : zs.length = 256 := List.length_replicate

def MulC : Prop := ∀ (a b : Nat) (w : World), a < 256 → b < 256 → Calls Try.prog 8 #[.int .u8 (a : Int), .int .u8 (b : Int)] w fun e w' => e = .returned (.int .u8 ((Box.mul a b : Nat) : Int)) ∧ w' = w
def InvC : Prop := ∀ (a : Nat) (w : World), a < 256 → Calls Try.prog 12 #[.int .u8 (a : Int)] w fun e w' => e = .returned (.int .u8 ((Box.inv a : Nat) : Int)) ∧ w' = w
def TabC : Prop := ∀ (w : World), Calls Try.prog 10 #[] w fun e w' => e = .returned (.tuple #[.agg (u8s Box.sboxB).toArray, .agg (u8s Box.backB).toArray]) ∧ Below w.heap.size w w'

/-- The world behind 't, b := box.Tables()'. -/
def laidT (w : World) (x y : List Value) : World := (((w.alloc (.cells zs.toArray 25)).alloc (.cells zs.toArray 25)).setRow w.heap.size x.toArray).setRow (w.heap.size + 1) y.toArray
theorem laid_0 (w : World) : Blk ((w.alloc (.cells zs.toArray 25)).alloc (.cells zs.toArray 25)) w.heap.size 25 zs := (Blk.new w _ zs).alloc _
theorem laid_1 (w : World) : Blk ((w.alloc (.cells zs.toArray 25)).alloc (.cells zs.toArray 25)) (w.heap.size + 1) 25 zs := by
  have h2 := Blk.new (w.alloc (.cells zs.toArray 25)) 25 zs
  rw [World.size_alloc] at h2
  exact h2
theorem laid_2 (w : World) (x : List Value) : Blk (((w.alloc (.cells zs.toArray 25)).alloc (.cells zs.toArray 25)).setRow w.heap.size x.toArray) (w.heap.size + 1) 25 zs :=
  (laid_1 w).rowFar (by omega) _
theorem laid_t (w : World) (x y : List Value) : Blk (laidT w x y) w.heap.size 25 x := ((laid_0 w).row x).rowFar (by omega) _
theorem laid_b (w : World) (x y : List Value) : Blk (laidT w x y) (w.heap.size + 1) 25 y := (laid_2 w x).row y
theorem laid_below (w : World) (x y : List Value) : Below w.heap.size w (laidT w x y) :=
  below_setRow (below_setRow (((below_alloc w _).alloc (by rw [World.size_alloc]; omega) _)) (Nat.le_refl _) _) (by omega) _

/-- A table as a value: 256 bytes. -/
def Tab (x : List Value) (l : List UInt8) : Prop := x = u8s l ∧ l.length = 256
theorem Tab.size {x : List Value} {l : List UInt8} (h : Tab x l) : (Try.prog.info? 25).map (·.size) = some x.length := by rw [h.1]; exact size_arr _ h.2
theorem Tab.len {x : List Value} {l : List UInt8} (h : Tab x l) : zs.length = x.length := by rw [h.1, u8s_len, h.2, zs_len]
theorem Tab.one {x : List Value} {l : List UInt8} (h : Tab x l) : ∀ u ∈ x, u.oneCell' = true := by rw [h.1]; exact u8s_one _
theorem Tab.get {w : World} {g : Nat} {t : TypeId} {x : List Value} {l : List UInt8} (h : Tab x l) (hb : Blk w g t x) {i c : Nat} (hc : l[i]? = some (UInt8.ofNat c)) (h8 : c < 256) : w.cell? ⟨g, i, none⟩ = some (.int .u8 (c : Int)) := by
  rw [hb.cell, h.1, u8s_get, hc, Option.map_some, Box.ofNat_toNat c h8]
theorem tab_s : Tab (u8s Box.sboxB) Box.sboxB := ⟨rfl, Box.sboxB_len⟩
theorem tab_b : Tab (u8s Box.backB) Box.backB := ⟨rfl, Box.backB_len⟩

set_option maxHeartbeats 1000000 in
set_option maxRecDepth 100000 in
theorem awake3_at (hM : MulC) (hI : InvC) (w : World) (x y : List Value) (hT : Hid (∀ (w : World), Calls Try.prog 10 #[] w fun e w' => e = .returned (.tuple #[.agg x.toArray, .agg y.toArray]) ∧ Below w.heap.size w w')) (hx : Hid (Tab x Box.sboxB)) (hy : Hid (Tab y Box.backB)) :
    Calls Try.prog 7 #[] w fun e w' => e = .returned (.bool true) ∧ Below w.heap.size w w' := by
  have HM := Lib.hid hM
  have HI := Lib.hid hI
  clear hM hI
  go_enter Try.func7, Try.ntmps7
  go_wp2_with fail
  refine (hT.out w).mono ?_
  rintro e w1 ⟨rfl, hb1⟩
  have Hb := Lib.hid (hb1.trans ((laid_below w1 x y).mono hb1.size))
  clear hb1
  have c0 : (laidT w1 x y).cell? ⟨w1.heap.size, 0, none⟩ = some (.int .u8 99) := hx.out.get (laid_t w1 x y) (c := 99) (by decide +kernel) (by omega)
  have c1 : (laidT w1 x y).cell? ⟨w1.heap.size, 83, none⟩ = some (.int .u8 237) := hx.out.get (laid_t w1 x y) (c := 237) (by decide +kernel) (by omega)
  have c2 : (laidT w1 x y).cell? ⟨w1.heap.size + 1, 99, none⟩ = some (.int .u8 0) := hy.out.get (laid_b w1 x y) (c := 0) (by decide +kernel) (by omega)
  go_wp2_with (first | refine wpList_alloc_arr rfl 25 zs.toArray rfl zero_arr ?_ | refine wpList_store_arr rfl 25 (.tmp 1) (.tmp 5) w1.heap.size zs x rfl rfl rfl rfl (laid_0 w1) hx.out.size hx.out.len hx.out.one ?_ | refine wpList_store_arr rfl 25 (.tmp 2) (.tmp 6) (w1.heap.size + 1) zs y rfl rfl (by simp [Act.eval, Act.put]) rfl (laid_2 w1 x) hy.out.size hy.out.len hy.out.one ?_)
  refine (HM.out 87 131 _ (by omega) (by omega)).mono ?_
  rintro e w2 ⟨rfl, hw⟩
  rw [show Box.mul 87 131 = 193 from by decide +kernel]
  rw [show ((((w1.alloc (.cells zs.toArray 25)).alloc (.cells zs.toArray 25)).setRow w1.heap.size x.toArray).setRow (w1.heap.size + 1) y.toArray) = laidT w1 x y from rfl] at hw
  generalize laidT w1 x y = w3 at *
  subst hw
  go_wp2_with fail
  refine (HI.out 0 _ (by omega)).mono ?_
  rintro e w2 ⟨rfl, rfl⟩
  rw [show Box.inv 0 = 0 from rfl]
  go_wp2_with fail
  refine (HI.out 83 _ (by omega)).mono ?_
  rintro e w2 ⟨rfl, rfl⟩
  rw [show Box.inv 83 = 202 from rfl]
  go_wp2
  go_ret
  exact ⟨rfl, Hb.out⟩
theorem awake3_any (hM : MulC) (hI : InvC) (hT : TabC) (w : World) :
    Calls Try.prog 7 #[] w fun e w' => e = .returned (.bool true) ∧ Below w.heap.size w w' :=
  awake3_at hM hI w _ _ (Lib.hid hT) (Lib.hid tab_s) (Lib.hid tab_b)
end Go.Proofs.Ytioihcanlllfnaa
