/-
  Layer 5: what is asked of sha.Of (a contract, over whatever the package's own tables may be); digests in memory.
-/
import Derived.Test.YtpaagjhohfjopaaDoorParts
import Derived.Test.YtpaagjhohfjopaaDoorApp
import Derived.Test.YtpaagjhohfjopaaDoorArr
import Derived.Test.YtpaagjhohfjopaaDoorArrEq
import Derived.Test.YtpaagjhohfjopaaDoorBase
import Derived.Test.YtpaagjhohfjopaaDoorShaM
import Derived.RegionTactic
import Derived.BigRegion
set_option maxRecDepth 100000
namespace Go.Proofs.YtpaagjhohfjopaaDoor
open Go.RowKit Go.Gar

abbrev Part := Option Addr × List UInt8 × Nat
/-- sha.Of keeps its promise in every world in which G holds (the package's own tables, if any). -/
structure ShaOK (G : World → Prop) : Prop where
  keep : ∀ {w w' : World}, G w → Below w.heap.size w w' → G w'
  of : ∀ (w : World) (A : Option Addr) (ps : List Part) (cap : Nat), G w → Cells w w.heap.size A (ps.map partV) → (∀ p ∈ ps, Rd w w.heap.size p.1 p.2.1 ∧ p.2.1.length ≤ p.2.2) → (cat ps).length ≤ 1048576 → ps.length ≤ 1000 →
    Calls Tryd.prog 22 #[.slice A ps.length cap] w fun e w' => e = .returned (.agg (u8s (Sha.of (cat ps))).toArray) ∧ Below w.heap.size w w'

theorem sha1 {G : World → Prop} (hOK : ShaOK G) (A : Option Addr) (l : List UInt8) (len c g : Nat) (w : World) (x : Array Value) (hx : x = (u8s (Sha.of l)).toArray) (hG : G w) (hg : g = w.heap.size) (hl : len = l.length) (hr : Rd w w.heap.size A l) (hs : l.length ≤ 1048576) (hc : l.length ≤ c) :
    Calls Tryd.prog 22 #[.slice (some ⟨g, 0, none⟩) 1 1] (w.alloc (.cells #[.slice A len c] 22)) fun e w' => e = .returned (.agg x) ∧ Below w.heap.size w w' := by
  subst hl; subst hg; subst hx
  have hb := Blk.new w 22 [.slice A l.length c]
  have hbl := below_alloc w (.cells #[.slice A l.length c] 22)
  have h := hOK.of (w.alloc (.cells #[.slice A l.length c] 22)) (some ⟨w.heap.size, 0, none⟩) [(A, l, c)] 1 (hOK.keep hG hbl) (by simpa [partV] using Cells.of_blk hb) (by
    intro p hp
    simp at hp
    subst hp
    exact ⟨(hr.alloc (Nat.le_refl _) _).more (by simp), hc⟩) (by simpa [cat] using hs) (by simp)
  refine h.mono fun e w' ⟨h1, h2⟩ => ⟨by simpa [cat] using h1, hbl.trans (h2.mono hbl.size)⟩
theorem sha3 {G : World → Prop} (hOK : ShaOK G) (A1 A2 A3 : Option Addr) (l1 l2 l3 : List UInt8) (n1 n2 n3 c1 c2 c3 g : Nat) (w : World) (x : Array Value) (hx : x = (u8s (Sha.of (l1 ++ (l2 ++ l3)))).toArray) (hG : G w) (hg : g = w.heap.size) (h1 : n1 = l1.length) (h2 : n2 = l2.length) (h3 : n3 = l3.length) (r1 : Rd w w.heap.size A1 l1) (r2 : Rd w w.heap.size A2 l2) (r3 : Rd w w.heap.size A3 l3)
    (hs : (l1 ++ (l2 ++ l3)).length ≤ 1048576) (k1 : l1.length ≤ c1) (k2 : l2.length ≤ c2) (k3 : l3.length ≤ c3) :
    Calls Tryd.prog 22 #[.slice (some ⟨g, 0, none⟩) 3 3] (w.alloc (.cells #[.slice A1 n1 c1, .slice A2 n2 c2, .slice A3 n3 c3] 22)) fun e w' => e = .returned (.agg x) ∧ Below w.heap.size w w' := by
  subst h1; subst h2; subst h3; subst hg; subst hx
  have hb := Blk.new w 22 [.slice A1 l1.length c1, .slice A2 l2.length c2, .slice A3 l3.length c3]
  have hbl := below_alloc w (.cells #[.slice A1 l1.length c1, .slice A2 l2.length c2, .slice A3 l3.length c3] 22)
  have h := hOK.of (w.alloc (.cells #[.slice A1 l1.length c1, .slice A2 l2.length c2, .slice A3 l3.length c3] 22)) (some ⟨w.heap.size, 0, none⟩) [(A1, l1, c1), (A2, l2, c2), (A3, l3, c3)] 3 (hOK.keep hG hbl) (by simpa [partV] using Cells.of_blk hb) (by
    intro p hp
    simp at hp
    rcases hp with rfl | rfl | rfl
    · exact ⟨(r1.alloc (Nat.le_refl _) _).more (by simp), k1⟩
    · exact ⟨(r2.alloc (Nat.le_refl _) _).more (by simp), k2⟩
    · exact ⟨(r3.alloc (Nat.le_refl _) _).more (by simp), k3⟩) (by simpa [cat] using hs) (by simp)
  refine h.mono fun e w' ⟨h1, h2⟩ => ⟨by simpa [cat] using h1, hbl.trans (h2.mono hbl.size)⟩
theorem sha0 {G : World → Prop} (hOK : ShaOK G) (A : Option Addr) (c : Nat) (w : World) (x : Array Value) (hx : x = (u8s (Sha.of [])).toArray) (hG : G w) : Calls Tryd.prog 22 #[.slice A 0 c] w fun e w' => e = .returned (.agg x) ∧ Below w.heap.size w w' := by
  subst hx
  have h := hOK.of w A [] c hG (.inl rfl) (by simp) (by simp [cat]) (by simp)
  simpa [cat] using h

theorem Tryd.und32 : Tryd.prog.underlying 32 = some (.array 32 5) := by kernel_rfl
theorem Tryd.info32 : (Tryd.prog.info? 32).map (fun i => (i.zero, i.size)) = some (some (.agg (Array.replicate 32 (.int .u8 0))), 32) := by kernel_rfl
theorem Tryd.guard32 : Tryd.prog.eqGuardType Tryd.prog.depth 32 = false := by kernel_rfl
theorem Tryd.key5 : Tryd.prog.plainKey 5 = true := by kernel_rfl
theorem Tryd.cells5s : Tryd.prog.cellsOf 5 = 1 := by kernel_rfl
def z32 : List Value := List.replicate 32 (.int .u8 0)
theorem z32_len : z32.length = 32 := List.length_replicate
theorem zero_32 (w : World) : (zeroValue 32).run Tryd.prog w = .ok (.agg z32.toArray) w := by
  have := (zero_of_info Tryd.info32).1 w
  rw [this]
  rfl
theorem size_32 (l : List UInt8) (h : l.length = 32) : (Tryd.prog.info? 32).map (·.size) = some (u8s l).length := by
  rw [u8s_len, h]; exact (zero_of_info Tryd.info32).2
theorem eq32 (l : List UInt8) (h : l.length = 32) : ∀ w, (Op.equalIn 10000 32 (.agg (u8s l).toArray) (.agg (u8s l).toArray)).run Tryd.prog w = .ok true w := by
  intro w
  have := run_equalIn_u8s (P := Tryd.prog) Tryd.und32 Tryd.key5 Tryd.und5 Tryd.cells5s 9998 l l (by omega) (by omega) (w := w)
  simpa using this

/-- The world behind 'x, y := f(), g()', two digests. -/
def laid32 (w : World) (x y : List Value) : World := (((w.alloc (.cells z32.toArray 32)).alloc (.cells z32.toArray 32)).setRow w.heap.size x.toArray).setRow (w.heap.size + 1) y.toArray
theorem l32_0 (w : World) : Blk ((w.alloc (.cells z32.toArray 32)).alloc (.cells z32.toArray 32)) w.heap.size 32 z32 := (Blk.new w _ z32).alloc _
theorem l32_1 (w : World) : Blk ((w.alloc (.cells z32.toArray 32)).alloc (.cells z32.toArray 32)) (w.heap.size + 1) 32 z32 := by
  have h2 := Blk.new (w.alloc (.cells z32.toArray 32)) 32 z32
  rw [World.size_alloc] at h2
  exact h2
theorem l32_2 (w : World) (x : List Value) : Blk (((w.alloc (.cells z32.toArray 32)).alloc (.cells z32.toArray 32)).setRow w.heap.size x.toArray) (w.heap.size + 1) 32 z32 :=
  (l32_1 w).rowFar (by omega) _
theorem l32_t (w : World) (x y : List Value) : Blk (laid32 w x y) w.heap.size 32 x := ((l32_0 w).row x).rowFar (by omega) _
theorem l32_b (w : World) (x y : List Value) : Blk (laid32 w x y) (w.heap.size + 1) 32 y := (l32_2 w x).row y
theorem l32_below (w : World) (x y : List Value) : Below w.heap.size w (laid32 w x y) :=
  below_setRow (below_setRow (((below_alloc w _).alloc (by rw [World.size_alloc]; omega) _)) (Nat.le_refl _) _) (by omega) _
end Go.Proofs.YtpaagjhohfjopaaDoor
