/-
  sha.Of of two parts that the caller lists.
-/
import Derived.Test.YtpaagjhohfjopaaDoorShaC
set_option maxRecDepth 100000
namespace Go.Proofs.YtpaagjhohfjopaaDoor
open Go.RowKit Go.Gar

theorem sha2 {G : World → Prop} (hOK : ShaOK G) (A1 A2 : Option Addr) (l1 l2 : List UInt8) (n1 n2 c1 c2 g : Nat) (w : World) (x : Array Value) (hx : x = (u8s (Sha.of (l1 ++ l2))).toArray) (hG : G w) (hg : g = w.heap.size) (h1 : n1 = l1.length) (h2 : n2 = l2.length) (r1 : Rd w w.heap.size A1 l1) (r2 : Rd w w.heap.size A2 l2)
    (hs : (l1 ++ l2).length ≤ 1048576) (k1 : l1.length ≤ c1) (k2 : l2.length ≤ c2) :
    Calls Tryd.prog 22 #[.slice (some ⟨g, 0, none⟩) 2 2] (w.alloc (.cells #[.slice A1 n1 c1, .slice A2 n2 c2] 22)) fun e w' => e = .returned (.agg x) ∧ Below w.heap.size w w' ∧ Below (w.alloc (.cells #[.slice A1 n1 c1, .slice A2 n2 c2] 22)).heap.size (w.alloc (.cells #[.slice A1 n1 c1, .slice A2 n2 c2] 22)) w' := by
  subst h1; subst h2; subst hg; subst hx
  have hb := Blk.new w 22 [.slice A1 l1.length c1, .slice A2 l2.length c2]
  have hbl := below_alloc w (.cells #[.slice A1 l1.length c1, .slice A2 l2.length c2] 22)
  have h := hOK.of (w.alloc (.cells #[.slice A1 l1.length c1, .slice A2 l2.length c2] 22)) (some ⟨w.heap.size, 0, none⟩) [(A1, l1, c1), (A2, l2, c2)] 2 (hOK.keep hG hbl) (by simpa [partV] using Cells.of_blk hb) (by
    intro p hp
    simp at hp
    rcases hp with rfl | rfl
    · exact ⟨(r1.alloc (Nat.le_refl _) _).more (by simp), k1⟩
    · exact ⟨(r2.alloc (Nat.le_refl _) _).more (by simp), k2⟩) (by simpa [cat] using hs) (by simp)
  refine h.mono fun e w' ⟨h1, h2⟩ => ⟨by simpa [cat] using h1, hbl.trans (h2.mono hbl.size), h2⟩
end Go.Proofs.YtpaagjhohfjopaaDoor
