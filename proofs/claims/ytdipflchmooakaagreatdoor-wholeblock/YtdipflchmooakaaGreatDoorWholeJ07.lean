/-
  Layer 5: what is asked of sha.Of (a contract, over whatever the package's own tables may be); digests in memory. The mathematics of layer 6: the code of a message by a key. Of no program. Layer 6: what is asked of mac's functions (a contract, over whatever the packages' own tables may be). The bytes of a number, the highest first. Of no program. What the functions of package octet do to memory: extended, number, Int: contracts, of every slice and number within the stated bounds. Keys in memory: a struct of two arrays. Of no program. Layer 10: sealed bytes; what is asked of seal's functions (a contract, over whatever the packages' own variables may be).
-/
import Derived.Test.YtdipflchmooakaaGreatDoorWholeJ06
import Derived.Test.YtdipflchmooakaaGreatDoorWholeJ02
import Derived.Test.YtdipflchmooakaaGreatDoorWholeJ01
import Derived.RegionTactic
import Derived.BigRegion
import Derived.Laws.StructEq
import Derived.Test.YtdipflchmooakaaGreatDoorWholeJ04
set_option maxRecDepth 100000
namespace Go.Proofs.YtdipflchmooakaaGreatDoor
open Go.RowKit Go.Gar

abbrev Part := Option Addr × List UInt8 × Nat
/-- sha.Of keeps its promise in every world in which G holds (the package's own tables, if any). -/
structure ShaOK (G : World → Prop) : Prop where
  keep : ∀ {w w' : World}, G w → Below w.heap.size w w' → G w'
  of : ∀ (w : World) (A : Option Addr) (ps : List Part) (cap : Nat), G w → Cells w w.heap.size A (ps.map partV) → (∀ p ∈ ps, Rd w w.heap.size p.1 p.2.1 ∧ p.2.1.length ≤ p.2.2) → (cat ps).length ≤ 1048576 → ps.length ≤ 1000 →
    Calls Tryz.prog 40 #[.slice A ps.length cap] w fun e w' => e = .returned (.agg (u8s (Sha.of (cat ps))).toArray) ∧ Below w.heap.size w w'

theorem sha1 {G : World → Prop} (hOK : ShaOK G) (A : Option Addr) (l : List UInt8) (len c g : Nat) (w : World) (x : Array Value) (hx : x = (u8s (Sha.of l)).toArray) (hG : G w) (hg : g = w.heap.size) (hl : len = l.length) (hr : Rd w w.heap.size A l) (hs : l.length ≤ 1048576) (hc : l.length ≤ c) :
    Calls Tryz.prog 40 #[.slice (some ⟨g, 0, none⟩) 1 1] (w.alloc (.cells #[.slice A len c] 23)) fun e w' => e = .returned (.agg x) ∧ Below w.heap.size w w' := by
  subst hl; subst hg; subst hx
  have hb := Blk.new w 23 [.slice A l.length c]
  have hbl := below_alloc w (.cells #[.slice A l.length c] 23)
  have h := hOK.of (w.alloc (.cells #[.slice A l.length c] 23)) (some ⟨w.heap.size, 0, none⟩) [(A, l, c)] 1 (hOK.keep hG hbl) (by simpa [partV] using Cells.of_blk hb) (by
    intro p hp
    simp at hp
    subst hp
    exact ⟨(hr.alloc (Nat.le_refl _) _).more (by simp), hc⟩) (by simpa [cat] using hs) (by simp)
  refine h.mono fun e w' ⟨h1, h2⟩ => ⟨by simpa [cat] using h1, hbl.trans (h2.mono hbl.size)⟩
theorem sha3 {G : World → Prop} (hOK : ShaOK G) (A1 A2 A3 : Option Addr) (l1 l2 l3 : List UInt8) (n1 n2 n3 c1 c2 c3 g : Nat) (w : World) (x : Array Value) (hx : x = (u8s (Sha.of (l1 ++ (l2 ++ l3)))).toArray) (hG : G w) (hg : g = w.heap.size) (h1 : n1 = l1.length) (h2 : n2 = l2.length) (h3 : n3 = l3.length) (r1 : Rd w w.heap.size A1 l1) (r2 : Rd w w.heap.size A2 l2) (r3 : Rd w w.heap.size A3 l3)
    (hs : (l1 ++ (l2 ++ l3)).length ≤ 1048576) (k1 : l1.length ≤ c1) (k2 : l2.length ≤ c2) (k3 : l3.length ≤ c3) :
    Calls Tryz.prog 40 #[.slice (some ⟨g, 0, none⟩) 3 3] (w.alloc (.cells #[.slice A1 n1 c1, .slice A2 n2 c2, .slice A3 n3 c3] 23)) fun e w' => e = .returned (.agg x) ∧ Below w.heap.size w w' := by
  subst h1; subst h2; subst h3; subst hg; subst hx
  have hb := Blk.new w 23 [.slice A1 l1.length c1, .slice A2 l2.length c2, .slice A3 l3.length c3]
  have hbl := below_alloc w (.cells #[.slice A1 l1.length c1, .slice A2 l2.length c2, .slice A3 l3.length c3] 23)
  have h := hOK.of (w.alloc (.cells #[.slice A1 l1.length c1, .slice A2 l2.length c2, .slice A3 l3.length c3] 23)) (some ⟨w.heap.size, 0, none⟩) [(A1, l1, c1), (A2, l2, c2), (A3, l3, c3)] 3 (hOK.keep hG hbl) (by simpa [partV] using Cells.of_blk hb) (by
    intro p hp
    simp at hp
    rcases hp with rfl | rfl | rfl
    · exact ⟨(r1.alloc (Nat.le_refl _) _).more (by simp), k1⟩
    · exact ⟨(r2.alloc (Nat.le_refl _) _).more (by simp), k2⟩
    · exact ⟨(r3.alloc (Nat.le_refl _) _).more (by simp), k3⟩) (by simpa [cat] using hs) (by simp)
  refine h.mono fun e w' ⟨h1, h2⟩ => ⟨by simpa [cat] using h1, hbl.trans (h2.mono hbl.size)⟩
theorem sha0 {G : World → Prop} (hOK : ShaOK G) (A : Option Addr) (c : Nat) (w : World) (x : Array Value) (hx : x = (u8s (Sha.of [])).toArray) (hG : G w) : Calls Tryz.prog 40 #[.slice A 0 c] w fun e w' => e = .returned (.agg x) ∧ Below w.heap.size w w' := by
  subst hx
  have h := hOK.of w A [] c hG (.inl rfl) (by simp) (by simp [cat]) (by simp)
  simpa [cat] using h

theorem Tryz.und32 : Tryz.prog.underlying 22 = some (.array 32 5) := by kernel_rfl
theorem Tryz.info32 : (Tryz.prog.info? 22).map (fun i => (i.zero, i.size)) = some (some (.agg (Array.replicate 32 (.int .u8 0))), 32) := by kernel_rfl
theorem Tryz.guard32 : Tryz.prog.eqGuardType Tryz.prog.depth 22 = false := by kernel_rfl
theorem Tryz.key5 : Tryz.prog.plainKey 5 = true := by kernel_rfl
theorem Tryz.cells5s : Tryz.prog.cellsOf 5 = 1 := by kernel_rfl
def z32 : List Value := List.replicate 32 (.int .u8 0)
theorem z32_len : z32.length = 32 := List.length_replicate
theorem zero_32 (w : World) : (zeroValue 22).run Tryz.prog w = .ok (.agg z32.toArray) w := by
  have := (zero_of_info Tryz.info32).1 w
  rw [this]
  rfl
theorem size_32 (l : List UInt8) (h : l.length = 32) : (Tryz.prog.info? 22).map (·.size) = some (u8s l).length := by
  rw [u8s_len, h]; exact (zero_of_info Tryz.info32).2
theorem eq32 (l : List UInt8) (h : l.length = 32) : ∀ w, (Op.equalIn 10000 22 (.agg (u8s l).toArray) (.agg (u8s l).toArray)).run Tryz.prog w = .ok true w := by
  intro w
  have := run_equalIn_u8s (P := Tryz.prog) Tryz.und32 Tryz.key5 Tryz.und5 Tryz.cells5s 9998 l l (by omega) (by omega) (w := w)
  simpa using this

/-- The world behind 'x, y := f(), g()', two digests. -/
def laid32 (w : World) (x y : List Value) : World := (((w.alloc (.cells z32.toArray 22)).alloc (.cells z32.toArray 22)).setRow w.heap.size x.toArray).setRow (w.heap.size + 1) y.toArray
theorem l32_0 (w : World) : Blk ((w.alloc (.cells z32.toArray 22)).alloc (.cells z32.toArray 22)) w.heap.size 22 z32 := (Blk.new w _ z32).alloc _
theorem l32_1 (w : World) : Blk ((w.alloc (.cells z32.toArray 22)).alloc (.cells z32.toArray 22)) (w.heap.size + 1) 22 z32 := by
  have h2 := Blk.new (w.alloc (.cells z32.toArray 22)) 22 z32
  rw [World.size_alloc] at h2
  exact h2
theorem l32_2 (w : World) (x : List Value) : Blk (((w.alloc (.cells z32.toArray 22)).alloc (.cells z32.toArray 22)).setRow w.heap.size x.toArray) (w.heap.size + 1) 22 z32 :=
  (l32_1 w).rowFar (by omega) _
theorem l32_t (w : World) (x y : List Value) : Blk (laid32 w x y) w.heap.size 22 x := ((l32_0 w).row x).rowFar (by omega) _
theorem l32_b (w : World) (x y : List Value) : Blk (laid32 w x y) (w.heap.size + 1) 22 y := (l32_2 w x).row y
theorem l32_below (w : World) (x y : List Value) : Below w.heap.size w (laid32 w x y) :=
  below_setRow (below_setRow (((below_alloc w _).alloc (by rw [World.size_alloc]; omega) _)) (Nat.le_refl _) _) (by omega) _
end Go.Proofs.YtdipflchmooakaaGreatDoor
namespace Go.Gar.Mac

/-- The key, or its digest. -/
def key0 (key : List UInt8) : List UInt8 := if 64 < key.length then Sha.of key else key
theorem key0_len (key : List UInt8) : (key0 key).length ≤ 64 := by
  unfold key0
  split
  · rw [Sha.of_len]; omega
  · omega
/-- Filled up with zeros. -/
def pad (key : List UInt8) : List UInt8 := key0 key ++ List.replicate (64 - (key0 key).length) 0
theorem pad_len (key : List UInt8) : (pad key).length = 64 := by
  have := key0_len key
  simp [pad]; omega
def xs (c : UInt8) (k : List UInt8) : List UInt8 := k.map (· ^^^ c)
theorem xs_len (c : UInt8) (k : List UInt8) : (xs c k).length = k.length := List.length_map _
def of (key b : List UInt8) : List UInt8 := Sha.of (xs 92 (pad key) ++ Sha.of (xs 54 (pad key) ++ b))
theorem of_len (key b : List UInt8) : (of key b).length = 32 := Sha.of_len _
/-- A key with zeros behind, up to 64 bytes, is the same. -/
theorem pad_wide (key : List UInt8) (h : key.length ≤ 64) : pad (key ++ List.replicate (64 - key.length) 0) = pad key := by
  have h0 : key0 key = key := if_neg (by omega)
  have h1 : key0 (key ++ List.replicate (64 - key.length) 0) = key ++ List.replicate (64 - key.length) 0 := if_neg (by simp; omega)
  unfold pad
  rw [h0, h1]
  have : 64 - (key ++ List.replicate (64 - key.length) (0 : UInt8)).length = 0 := by simp; omega
  rw [this, List.replicate_zero, List.append_nil]
theorem of_wide (key b : List UInt8) (h : key.length ≤ 64) : of (key ++ List.replicate (64 - key.length) 0) b = of key b := by
  unfold of
  rw [pad_wide key h]
/-- Loop 1 of the reference. -/
def fill (k : List UInt8) (n : Nat) : List UInt8 := k ++ List.replicate n 0
theorem fill_more (k : List UInt8) (n : Nat) : fill k n ++ [0] = fill k (n + 1) := by
  unfold fill
  rw [List.append_assoc, List.replicate_succ']
/-- Loop 2 of the reference. -/
theorem xs_take (c : UInt8) (k : List UInt8) (i : Nat) (x : UInt8) (h : k[i]? = some x) : xs c (k.take i) ++ [x ^^^ c] = xs c (k.take (i + 1)) := by
  unfold xs
  rw [List.take_add_one, h, List.map_append]
  rfl
/-- The document's example. -/
def foxK : List UInt8 := [107, 101, 121]
def foxM : List UInt8 := [84, 104, 101, 32, 113, 117, 105, 99, 107, 32, 98, 114, 111, 119, 110, 32, 102, 111, 120, 32, 106, 117, 109, 112, 115, 32, 111, 118, 101, 114, 32, 116, 104, 101, 32, 108, 97, 122, 121, 32, 100, 111, 103]
theorem fox : of foxK foxM = [247, 188, 131, 244, 48, 83, 132, 36, 177, 50, 152, 230, 170, 111, 177, 67, 239, 77, 89, 161, 73, 70, 23, 89, 151, 71, 157, 188, 45, 26, 60, 216] := by decide +kernel
end Go.Gar.Mac
namespace Go.Proofs.YtdipflchmooakaaGreatDoor
open Go.RowKit Go.Gar

structure MacOK (G : World → Prop) : Prop where
  keep : ∀ {w w' : World}, G w → Below w.heap.size w w' → G w'
  of : ∀ (w : World) (K : Option Addr) (key : List UInt8) (kcap : Nat) (A : Option Addr) (ps : List Part) (cap : Nat), G w → Rd w w.heap.size K key → key.length ≤ kcap → key.length ≤ 1048576 → Cells w w.heap.size A (ps.map partV) → (∀ p ∈ ps, Rd w w.heap.size p.1 p.2.1 ∧ p.2.1.length ≤ p.2.2) → (cat ps).length ≤ 1000000 → ps.length ≤ 900 →
    Calls Tryz.prog 23 #[.slice K key.length kcap, .slice A ps.length cap] w fun e w' => e = .returned (.agg (u8s (Mac.of key (cat ps))).toArray) ∧ Below w.heap.size w w'
  equal : ∀ (w : World) (A B : Option Addr) (a b : List UInt8) (ac bc : Nat), G w → Rd w w.heap.size A a → Rd w w.heap.size B b → a.length ≤ ac → b.length ≤ bc → a.length ≤ 9223372036854775807 → b.length ≤ 9223372036854775807 →
    Calls Tryz.prog 57 #[.slice A a.length ac, .slice B b.length bc] w fun e w' => e = .returned (.bool (decide (a = b))) ∧ Below w.heap.size w w'

theorem mac1 {G : World → Prop} (hOK : MacOK G) (K A : Option Addr) (key l : List UInt8) (kl kc n c g : Nat) (w : World) (x : Array Value) (hx : x = (u8s (Mac.of key l)).toArray) (hG : G w) (hg : g = w.heap.size) (hkl : kl = key.length) (hn : n = l.length) (hkc : key.length ≤ kc) (rK : Rd w w.heap.size K key) (rA : Rd w w.heap.size A l) (hs1 : key.length ≤ 1048576) (hs : l.length ≤ 1000000) (hc : l.length ≤ c) :
    Calls Tryz.prog 23 #[.slice K kl kc, .slice (some ⟨g, 0, none⟩) 1 1] (w.alloc (.cells #[.slice A n c] 23)) fun e w' => e = .returned (.agg x) ∧ Below w.heap.size w w' := by
  subst hkl; subst hn; subst hg; subst hx
  have hb := Blk.new w 23 [.slice A l.length c]
  have hbl := below_alloc w (.cells #[.slice A l.length c] 23)
  have h := hOK.of (w.alloc (.cells #[.slice A l.length c] 23)) K key kc (some ⟨w.heap.size, 0, none⟩) [(A, l, c)] 1 (hOK.keep hG hbl) ((rK.alloc (Nat.le_refl _) _).more (by simp)) hkc hs1 (by simpa [partV] using Cells.of_blk hb) (by
    intro p hp
    simp at hp
    subst hp
    exact ⟨(rA.alloc (Nat.le_refl _) _).more (by simp), hc⟩) (by simpa [cat] using hs) (by simp)
  refine h.mono fun e w' ⟨h1, h2⟩ => ⟨by simpa [cat] using h1, hbl.trans (h2.mono hbl.size)⟩
theorem mac2 {G : World → Prop} (hOK : MacOK G) (K A1 A2 : Option Addr) (key l1 l2 : List UInt8) (kl kc n1 n2 c1 c2 g : Nat) (w : World) (x : Array Value) (hx : x = (u8s (Mac.of key (l1 ++ l2))).toArray) (hG : G w) (hg : g = w.heap.size) (hkl : kl = key.length) (hn1 : n1 = l1.length) (hn2 : n2 = l2.length) (hkc : key.length ≤ kc) (rK : Rd w w.heap.size K key) (r1 : Rd w w.heap.size A1 l1) (r2 : Rd w w.heap.size A2 l2) (hs1 : key.length ≤ 1048576) (hs : (l1 ++ l2).length ≤ 1000000) (h1 : l1.length ≤ c1) (h2 : l2.length ≤ c2) :
    Calls Tryz.prog 23 #[.slice K kl kc, .slice (some ⟨g, 0, none⟩) 2 2] (w.alloc (.cells #[.slice A1 n1 c1, .slice A2 n2 c2] 23)) fun e w' => e = .returned (.agg x) ∧ Below w.heap.size w w' := by
  subst hkl; subst hn1; subst hn2; subst hg; subst hx
  have hb := Blk.new w 23 [.slice A1 l1.length c1, .slice A2 l2.length c2]
  have hbl := below_alloc w (.cells #[.slice A1 l1.length c1, .slice A2 l2.length c2] 23)
  have h := hOK.of (w.alloc (.cells #[.slice A1 l1.length c1, .slice A2 l2.length c2] 23)) K key kc (some ⟨w.heap.size, 0, none⟩) [(A1, l1, c1), (A2, l2, c2)] 2 (hOK.keep hG hbl) ((rK.alloc (Nat.le_refl _) _).more (by simp)) hkc hs1 (by simpa [partV] using Cells.of_blk hb) (by
    intro p hp
    simp at hp
    rcases hp with rfl | rfl
    · exact ⟨(r1.alloc (Nat.le_refl _) _).more (by simp), h1⟩
    · exact ⟨(r2.alloc (Nat.le_refl _) _).more (by simp), h2⟩) (by simpa [cat] using hs) (by simp)
  refine h.mono fun e w' ⟨h1, h2⟩ => ⟨by simpa [cat] using h1, hbl.trans (h2.mono hbl.size)⟩
/-- The same, the list's block being known. -/
theorem mac1b {G : World → Prop} (hOK : MacOK G) (K A : Option Addr) (key l : List UInt8) (kl kc n c g : Nat) (w : World) (x : Array Value) (hx : x = (u8s (Mac.of key l)).toArray) (hG : G w) (hB : Blk w g 23 [.slice A n c]) (hkl : kl = key.length) (hn : n = l.length) (hkc : key.length ≤ kc) (rK : Rd w w.heap.size K key) (rA : Rd w w.heap.size A l) (hs1 : key.length ≤ 1048576) (hs : l.length ≤ 1000000) (hc : l.length ≤ c) :
    Calls Tryz.prog 23 #[.slice K kl kc, .slice (some ⟨g, 0, none⟩) 1 1] w fun e w' => e = .returned (.agg x) ∧ Below w.heap.size w w' := by
  subst hkl; subst hn; subst hx
  have h := hOK.of w K key kc (some ⟨g, 0, none⟩) [(A, l, c)] 1 hG rK hkc hs1 (by simpa [partV] using Cells.of_blk hB) (by
    intro p hp
    simp at hp
    subst hp
    exact ⟨rA, hc⟩) (by simpa [cat] using hs) (by simp)
  exact h.mono fun e w' ⟨h1, h2⟩ => ⟨by simpa [cat] using h1, h2⟩
theorem mac2b {G : World → Prop} (hOK : MacOK G) (K A1 A2 : Option Addr) (key l1 l2 : List UInt8) (kl kc n1 n2 c1 c2 g : Nat) (w : World) (x : Array Value) (hx : x = (u8s (Mac.of key (l1 ++ l2))).toArray) (hG : G w) (hB : Blk w g 23 [.slice A1 n1 c1, .slice A2 n2 c2]) (hkl : kl = key.length) (hn1 : n1 = l1.length) (hn2 : n2 = l2.length) (hkc : key.length ≤ kc) (rK : Rd w w.heap.size K key) (r1 : Rd w w.heap.size A1 l1) (r2 : Rd w w.heap.size A2 l2) (hs1 : key.length ≤ 1048576) (hs : (l1 ++ l2).length ≤ 1000000) (h1 : l1.length ≤ c1) (h2 : l2.length ≤ c2) :
    Calls Tryz.prog 23 #[.slice K kl kc, .slice (some ⟨g, 0, none⟩) 2 2] w fun e w' => e = .returned (.agg x) ∧ Below w.heap.size w w' := by
  subst hkl; subst hn1; subst hn2; subst hx
  have h := hOK.of w K key kc (some ⟨g, 0, none⟩) [(A1, l1, c1), (A2, l2, c2)] 2 hG rK hkc hs1 (by simpa [partV] using Cells.of_blk hB) (by
    intro p hp
    simp at hp
    rcases hp with rfl | rfl
    · exact ⟨r1, h1⟩
    · exact ⟨r2, h2⟩) (by simpa [cat] using hs) (by simp)
  exact h.mono fun e w' ⟨h1, h2⟩ => ⟨by simpa [cat] using h1, h2⟩
end Go.Proofs.YtdipflchmooakaaGreatDoor
namespace Go.Proofs.YtdipflchmooakaaGreatDoor
open Go.RowKit Go.Gar

/-- The low bytes of n, size of them, the highest first. -/
def be (n size : Nat) : List UInt8 := (List.range size).map fun i => UInt8.ofNat (n / 2 ^ (8 * (size - 1 - i)))

theorem be_len (n size : Nat) : (be n size).length = size := by simp [be]
theorem be_set (l rest : List UInt8) (n size k : Nat) (hk : k < size) (hs : size ≤ rest.length) :
    (u8s (l ++ (be n size).take k ++ rest.drop k)).set (l.length + k) (.int .u8 ((n : Int) / 2 ^ (8 * (size - 1 - k)) % 256)) = u8s (l ++ (be n size).take (k + 1) ++ rest.drop (k + 1)) := by
  have e1 : (be n size).take (k + 1) = (be n size).take k ++ [UInt8.ofNat (n / 2 ^ (8 * (size - 1 - k)))] := by
    rw [List.take_succ_eq_append_getElem (by rw [be_len]; exact hk)]
    simp [be]
  have e2 : rest.drop k = rest[k] :: rest.drop (k + 1) := List.drop_eq_getElem_cons (by omega)
  have e3 : ((be n size).take k).length = k := by rw [List.length_take, be_len]; omega
  have e4 : (Value.int .u8 ((n : Int) / 2 ^ (8 * (size - 1 - k)) % 256)) = Value.int .u8 ((UInt8.ofNat (n / 2 ^ (8 * (size - 1 - k)))).toNat : Int) := by
    simp
  have e5 : u8s (l ++ (be n size).take k ++ rest.drop k) = u8s (l ++ (be n size).take k) ++ (Value.int .u8 (rest[k].toNat : Int) :: u8s (rest.drop (k + 1))) := by
    rw [u8s_app (l ++ (be n size).take k), e2]; rfl
  have e6 : (u8s (l ++ (be n size).take k)).length = l.length + k := by rw [u8s_len, List.length_append, e3]
  rw [e5, e4, ← e6, set_mid, e1, ← List.append_assoc, u8s_app (l ++ (be n size).take k ++ [_]), u8s_app (l ++ (be n size).take k)]
  simp [u8s]
/-- The number that 64 bits hold: an int's bits as an unsigned number. -/
def b64 (n : Int) : Nat := (n % 18446744073709551616).toNat

theorem wrap_u64_eq (n : Int) : IntKind.u64.wrap n = (b64 n : Int) := by
  unfold b64
  rw [IntKind.wrap_u64]; omega
end Go.Proofs.YtdipflchmooakaaGreatDoor
namespace Go.Proofs.YtdipflchmooakaaGreatDoor
open Go.RowKit Go.Gar

set_option maxHeartbeats 400000 in
theorem extended_any (A : Option Addr) (l : List UInt8) (c more : Nat) (w : World) (hr : Rd w w.heap.size A l) (hsz : l.length + more ≤ 1099511627776) :
    Calls Tryz.prog 67 #[.slice A l.length c, .int .i64 (more : Int)] w fun e w' =>
      e = .returned (.slice (some ⟨w.heap.size, 0, none⟩) l.length (l.length + more)) ∧ Blk w' w.heap.size 5 (u8s (l ++ List.replicate more 0)) ∧ Below w.heap.size w w' ∧ w'.heap.size = w.heap.size + 1 := by
  have hmk := run_make_bytes l.length (l.length + more) (by omega) (by omega) w
  simp only [Int.natCast_add] at hmk
  have hB := Blk.new w 5 (u8s (List.replicate (l.length + more) 0))
  have hcp := run_copy_rd (P := Tryz.prog) 23 23 3 5 Tryz.und22 Tryz.size5 w.heap.size (l.length + more) c A l w.heap.size (hr.alloc (Nat.le_refl _) _) _ _ hB (by simp [u8s_len])
  have hrow := hB.row (u8s l ++ (u8s (List.replicate (l.length + more) 0)).drop l.length)
  have hbel : Below w.heap.size w ((w.alloc (.cells (u8s (List.replicate (l.length + more) 0)).toArray 5)).setRow w.heap.size (u8s l ++ (u8s (List.replicate (l.length + more) 0)).drop l.length).toArray) :=
    below_setRow ((Below.refl _ _).alloc (Nat.le_refl _) _) (Nat.le_refl _) _
  have hsize : ((w.alloc (.cells (u8s (List.replicate (l.length + more) 0)).toArray 5)).setRow w.heap.size (u8s l ++ (u8s (List.replicate (l.length + more) 0)).drop l.length).toArray).heap.size = w.heap.size + 1 := by simp
  have HR := Lib.hid hrow
  have HS := Lib.hid hsize
  have HL := Lib.hid hbel
  clear hrow hsize hB hbel
  generalize ((w.alloc (.cells (u8s (List.replicate (l.length + more) 0)).toArray 5)).setRow w.heap.size (u8s l ++ (u8s (List.replicate (l.length + more) 0)).drop l.length).toArray) = w2 at *
  go_enter Tryz.func67, Tryz.ntmps67
  go_wp2
  go_ret
  refine ⟨rfl, ?_, HL.out, HS.out⟩
  have := HR.out
  rw [u8s_drop, ← u8s_app] at this
  simpa using this

set_option maxHeartbeats 400000 in
theorem number_any (g : Nat) (l rest : List UInt8) (n size : Nat) (w : World) (hs8 : size ≤ 8) (hs : size ≤ rest.length) (hsz : l.length + rest.length ≤ 1099511627776)
    (hB : Blk w g 5 (u8s (l ++ rest))) :
    Calls Tryz.prog 66 #[.slice (some ⟨g, 0, none⟩) l.length (l.length + rest.length), .int .u64 (n : Int), .int .i64 (size : Int)] w fun e w' =>
      e = .returned (.slice (some ⟨g, 0, none⟩) (l.length + size) (l.length + rest.length)) ∧ Blk w' g 5 (u8s (l ++ be n size ++ rest.drop size)) ∧ w.grownBy w' (some g) := by
  go_enter Tryz.func66, Tryz.ntmps66
  go_wp2
  go_loopw [0, 9] (fun b i w' => ∃ k : Nat, k ≤ size ∧ i = .int .i64 k ∧ b = .slice (some ⟨g, 0, none⟩) (l.length + k) (l.length + rest.length) ∧ Blk w' g 5 (u8s (l ++ (be n size).take k ++ rest.drop k)) ∧ w.grownBy w' (some g)) (fun _ i _ => size - (intOf i).toNat)
  case atStart => exact ⟨0, by omega, rfl, rfl, by simpa using hB, World.grownBy.refl _ _⟩
  case round =>
    obtain ⟨k, hk, rfl, rfl, hBk, hg⟩ := hrel
    by_cases hlt : k < size
    · have hne : g < wr.heap.size := hBk.lt
      have hlen : l.length + k < (u8s (l ++ (be n size).take k ++ rest.drop k)).length := by
        simp [u8s_len, be]; omega
      obtain ⟨v0, hc⟩ : ∃ v0, ∀ o : Obj, (wr.alloc o).cell? ⟨g, l.length + k, none⟩ = some v0 := ⟨_, fun o => by
        rw [(hBk.alloc o).cell, List.getElem?_eq_getElem hlen]⟩
      have hf : ∀ o : Obj, (wr.alloc o).frozen? ⟨g, l.length + k, none⟩ = false := fun o => (hBk.alloc o).frozen _
      have hstep : ∀ o : Obj, Blk ((wr.setCell ⟨g, l.length + k, none⟩ (.int .u8 ((n : Int) / 2 ^ (8 * (size - 1 - k)) % 256))).alloc o) g 5 (u8s (l ++ (be n size).take (k + 1) ++ rest.drop (k + 1))) := fun o => by
        have h := hBk.set_ (l.length + k) (.int .u8 ((n : Int) / 2 ^ (8 * (size - 1 - k)) % 256))
        rw [be_set l rest n size k hlt hs] at h
        exact h.alloc o
      have hgr : ∀ o : Obj, ∀ v : Value, w.grownBy ((wr.setCell ⟨g, l.length + k, none⟩ v).alloc o) (some g) := fun o v => grown_alloc (grown_set hg v) o
      have HS := Lib.hid hstep
      have HG := Lib.hid hgr
      clear hstep hgr hBk hg hlen
      go_wp2
      exact ⟨⟨k + 1, by omega, by go_num, by simp [Nat.add_assoc], HS.out _, HG.out _ _⟩, by simp [intOf]; omega⟩
    · obtain rfl : k = size := by omega
      go_wp2
      go_ret
      have hl : (be n k).length = k := by simp [be]
      rw [List.take_of_length_le (by omega)] at hBk
      exact ⟨rfl, hBk, hg⟩

theorem number_at (g : Nat) (l rest : List UInt8) (cap len : Nat) (m sz : Int) (n size : Nat) (w : World) (hm : m = n) (hz : sz = size) (hc : cap = l.length + rest.length) (hl : len = l.length) (hs8 : size ≤ 8) (hs : size ≤ rest.length)
    (hsz : l.length + rest.length ≤ 1099511627776) (hB : Blk w g 5 (u8s (l ++ rest))) :
    Calls Tryz.prog 66 #[.slice (some ⟨g, 0, none⟩) len cap, .int .u64 m, .int .i64 sz] w fun e w' =>
      e = .returned (.slice (some ⟨g, 0, none⟩) (len + size) cap) ∧ Blk w' g 5 (u8s (l ++ be n size ++ rest.drop size)) ∧ w.grownBy w' (some g) := by
  subst hm; subst hz; subst hc; subst hl
  exact number_any g l rest n size w hs8 hs hsz hB
set_option maxHeartbeats 400000 in
theorem int_any (A : Option Addr) (l : List UInt8) (c : Nat) (n : Int) (w : World) (hr : Rd w w.heap.size A l) (hsz : l.length ≤ 1000000000) :
    Calls Tryz.prog 39 #[.slice A l.length c, .int .i64 n] w fun e w' =>
      e = .returned (.slice (some ⟨w.heap.size, 0, none⟩) (l.length + 8) (l.length + 8)) ∧ Blk w' w.heap.size 5 (u8s (l ++ be (b64 n) 8)) ∧ Below w.heap.size w w' := by
  go_enter Tryz.func39, Tryz.ntmps39
  go_wp2_with fail
  refine (extended_any A l c 8 w hr (by omega)).mono ?_
  rintro e w1 ⟨rfl, hB, hb, hsz1⟩
  have HB := Lib.hid hB
  have Hb := Lib.hid hb
  clear hB hb hsz1
  go_wp2_with fail
  refine (number_at w.heap.size l (List.replicate 8 0) _ _ _ _ (b64 n) 8 w1 (wrap_u64_eq n) rfl (by simp) rfl (by omega) (by simp) (by simp; omega) HB.out).mono ?_
  rintro e w2 ⟨rfl, hB, hg⟩
  have HB2 := Lib.hid hB
  have Hg := Lib.hid hg
  clear hB hg
  go_wp2
  go_ret
  exact ⟨rfl, by simpa using HB2.out, Hb.out.grown Hg.out Hb.out.size (fun k hk => by injection hk; omega)⟩
end Go.Proofs.YtdipflchmooakaaGreatDoor
namespace Go.Proofs.YtdipflchmooakaaGreatDoor
open Go.RowKit Go.Gar

/-! Keys in memory: a struct of two arrays. -/
theorem Tryz.undKeysS : Tryz.prog.underlying 29 = some (.struct (Tryz.prog.fieldsOf 29)) := by kernel_rfl
theorem Tryz.sizeKeys : (Tryz.prog.info? 29).map (·.size) = some 64 := by kernel_rfl
theorem Tryz.infoKeys : (Tryz.prog.info? 29).map (fun i => (i.zero, i.size)) = some (some (.agg (Array.replicate 64 (.int .u8 0))), 64) := by kernel_rfl
theorem Tryz.guardKeys : Tryz.prog.eqGuardType Tryz.prog.depth 29 = false := by kernel_rfl
def z64 : List Value := u8s (List.replicate 64 0)
theorem zero_64 (w : World) : (zeroValue 29).run Tryz.prog w = .ok (.agg z64.toArray) w := by
  have := (zero_of_info Tryz.infoKeys).1 w
  rw [this]
  rfl
theorem size_64 (l : List UInt8) (h : l.length = 64) : (Tryz.prog.info? 29).map (·.size) = some (u8s l).length := by rw [u8s_len, h]; exact Tryz.sizeKeys
theorem load_keys {W : World} {g : Nat} {l : List UInt8} (h : Blk W g 29 (u8s l)) (hl : l.length = 64) : (loadVar 29 ⟨g, 0, none⟩).run Tryz.prog W = .ok (.agg (u8s l).toArray) W := by
  exact run_loadVar_row (P := Tryz.prog) W g 29 29 (u8s l).toArray (0, 0) _ h Tryz.undKeysS rfl (by simpa using size_64 l hl)
theorem Tryz.fieldsKeys : (Tryz.prog.fieldsOf 29).toList.map (fun f => (f.name, f.type, f.offset)) = [("Enc", 22, 0), ("Mac", 22, 32)] := by kernel_rfl
theorem Tryz.stoodKeys : Tryz.prog.stoodInHeld 29 = false := by kernel_rfl
theorem isAgg32 (w : World) : (isAgg 22).run Tryz.prog w = .ok true w := by
  unfold isAgg
  rw [Sem.run_bind, run_underlying Tryz.und32 w]
  rfl
theorem part32 (w : World) (l : List UInt8) (o : Nat) : (part 22 (u8s l).toArray o).run Tryz.prog w = .ok (.agg (u8s ((l.drop o).take 32)).toArray) w := by
  obtain ⟨i, hi, hs⟩ := Option.map_eq_some_iff.1 (zero_of_info Tryz.info32).2
  simp only [part, Sem.run_bind, isAgg32, Result.andThen_ok, if_true, sizeOf, typeInfo, Sem.run_pure]
  simp [hi, hs, u8s_take, u8s_drop, List.extract_eq_take_drop, Result.andThen]
theorem eqKeys (a b : List UInt8) (ha : a.length = 64) (hb : b.length = 64) (w : World) : (Op.equalIn 10000 29 (.agg (u8s a).toArray) (.agg (u8s b).toArray)).run Tryz.prog w = .ok (decide (a = b)) w := by
  rw [run_equalIn_struct w 9999 29 _ _ Tryz.undKeysS Tryz.stoodKeys]
  have hf := Tryz.fieldsKeys
  generalize (Tryz.prog.fieldsOf 29).toList = fs at hf ⊢
  rcases fs with _ | ⟨f1, _ | ⟨f2, _ | ⟨f3, fs⟩⟩⟩
  · cases hf
  · simp at hf
  · simp only [List.map_cons, List.map_nil, List.cons.injEq, Prod.mk.injEq, and_true] at hf
    obtain ⟨⟨n1, t1, o1⟩, n2, t2, o2⟩ := hf
    have e1 : ∀ w, (Op.equalIn 9999 22 (.agg (u8s (a.take 32)).toArray) (.agg (u8s (b.take 32)).toArray)).run Tryz.prog w = .ok (decide (a.take 32 = b.take 32)) w := fun w => run_equalIn_u8s Tryz.und32 Tryz.key5 Tryz.und5 Tryz.cells5s 9997 _ _ (by rw [List.length_take]; omega) (by rw [List.length_take]; omega)
    have e2 : ∀ w, (Op.equalIn 9999 22 (.agg (u8s ((a.drop 32).take 32)).toArray) (.agg (u8s ((b.drop 32).take 32)).toArray)).run Tryz.prog w = .ok (decide ((a.drop 32).take 32 = (b.drop 32).take 32)) w := fun w => run_equalIn_u8s Tryz.und32 Tryz.key5 Tryz.und5 Tryz.cells5s 9997 _ _ (by rw [List.length_take, List.length_drop]; omega) (by rw [List.length_take, List.length_drop]; omega)
    have ea : (a.drop 32).take 32 = a.drop 32 := List.take_of_length_le (by rw [List.length_drop]; omega)
    have eb : (b.drop 32).take 32 = b.drop 32 := List.take_of_length_le (by rw [List.length_drop]; omega)
    rw [ea, eb] at e2
    have p1 := fun w l => part32 w l 0
    have pa := fun w => part32 w a 32
    have pb := fun w => part32 w b 32
    rw [ea] at pa
    rw [eb] at pb
    simp only [List.drop_zero] at p1
    simp only [Op.eqFields, n1, t1, o1, n2, t2, o2, Sem.run_bind, p1, Result.andThen_ok, e1, ne_eq, String.reduceEq, not_false_eq_true, if_true]
    by_cases h1 : a.take 32 = b.take 32
    · by_cases h2 : a.drop 32 = b.drop 32
      · have : a = b := by rw [← List.take_append_drop 32 a, ← List.take_append_drop 32 b, h1, h2]
        subst this
        simp [pa, e2, Result.andThen]
      · have : a ≠ b := fun e => h2 (by rw [e])
        simp [h1, h2, this, pa, pb, e2, Result.andThen]
    · have : a ≠ b := fun e => h1 (by rw [e])
      simp [h1, this]
  · simp at hf
end Go.Proofs.YtdipflchmooakaaGreatDoor
namespace Go.Proofs.YtdipflchmooakaaGreatDoor
open Go.RowKit Go.Gar Go.Gar.Aes

/-! Numbers as bytes say themselves again. -/
theorem be_snoc (n k : Nat) : be n (k + 1) = be (n / 256) k ++ [UInt8.ofNat n] := by
  unfold be
  rw [List.range_succ, List.map_append]
  congr 1
  · apply List.map_congr_left
    intro i hi
    have hi := List.mem_range.1 hi
    have e : (256 : Nat) = 2 ^ 8 := by decide
    rw [e, Nat.div_div_eq_div_mul, ← Nat.pow_add]
    congr 3
    omega
  · simp
theorem be_inj (k : Nat) : ∀ n m : Nat, be n k = be m k → n % 256 ^ k = m % 256 ^ k := by
  induction k with
  | zero => intro n m _; simp [Nat.mod_one]
  | succ k ih =>
    intro n m h
    rw [be_snoc, be_snoc] at h
    obtain ⟨h1, h2⟩ := List.append_inj' h rfl
    have h3 := ih _ _ h1
    have h4 : n % 256 = m % 256 := by
      have h5 : UInt8.ofNat n = UInt8.ofNat m := by simpa using h2
      have := congrArg UInt8.toNat h5
      simpa using this
    rw [Nat.pow_succ, Nat.mul_comm (256 ^ k) 256, Nat.mod_mul, Nat.mod_mul, h3, h4]
theorem be8_inj {n m : Nat} (hn : n < 18446744073709551616) (hm : m < 18446744073709551616) (h : be n 8 = be m 8) : n = m := by
  have h1 := be_inj 8 n m h
  rw [show (256 : Nat) ^ 8 = 18446744073709551616 from by decide, Nat.mod_eq_of_lt hn, Nat.mod_eq_of_lt hm] at h1
  exact h1
theorem b64_inj {n m : Int} (hn : isI64 n) (hm : isI64 m) (h : be (b64 n) 8 = be (b64 m) 8) : n = m := by
  have h1 : b64 n = b64 m := be8_inj (by unfold b64; omega) (by unfold b64; omega) h
  unfold b64 at h1
  unfold isI64 at hn hm
  omega

/-! Sealed bytes: a header of 24 bytes, the chain's beginning, the content, the tag. -/
def headL (id gen : Int) (n : Nat) : List UInt8 := be (b64 id) 8 ++ (be (b64 gen) 8 ++ be n 8)
theorem headL_len (id gen : Int) (n : Nat) : (headL id gen n).length = 24 := by simp only [headL, List.length_append, be_len]
def bodyX (iv : List UInt8) (id gen : Int) (x : List UInt8) : List UInt8 := headL id gen x.length ++ (iv ++ x)
theorem bodyX_len (iv : List UInt8) (id gen : Int) (x : List UInt8) (hiv : iv.length = 16) : (bodyX iv id gen x).length = 40 + x.length := by
  simp only [bodyX, List.length_append, headL_len, hiv]; omega
def bodyL (k iv : List UInt8) (id gen : Int) (b : List UInt8) : List UInt8 := bodyX iv id gen (Cbc.seal_ (k.take 32) iv b)
def sealS (k iv : List UInt8) (id gen : Int) (b : List UInt8) : List UInt8 := bodyL k iv id gen b ++ Mac.of (k.drop 32) (bodyL k iv id gen b)
theorem bodyL_len (k iv : List UInt8) (id gen : Int) (b : List UInt8) (hiv : iv.length = 16) : (bodyL k iv id gen b).length = 56 + b.length / 16 * 16 := by
  rw [bodyL, bodyX_len _ _ _ _ hiv, Cbc.seal_len]; omega
theorem sealS_len (k iv : List UInt8) (id gen : Int) (b : List UInt8) (hiv : iv.length = 16) : (sealS k iv id gen b).length = 88 + b.length / 16 * 16 := by
  rw [sealS, List.length_append, bodyL_len _ _ _ _ _ hiv, Mac.of_len]; omega
/-- The parts of what may be sealed bytes. -/
def ivP (s : List UInt8) : List UInt8 := (s.drop 24).take 16
def conP (s : List UInt8) : List UInt8 := (s.drop 40).take (s.length - 72)
def openS (k : List UInt8) (id gen : Int) (s : List UInt8) : Option (List UInt8) :=
  if s.length < 88 then none else match Cbc.open_ (k.take 32) (ivP s) (conP s) with
    | none => none
    | some x => if sealS k (ivP s) id gen x = s then some x else none
def openSB (k : List UInt8) (id gen : Int) (s : List UInt8) : List UInt8 := (openS k id gen s).getD []
def openSE (k : List UInt8) (id gen : Int) (s : List UInt8) : Nat := if (openS k id gen s).isSome then 0 else 12
/-- Any bytes so put together, in their parts. -/
theorem body_parts (iv : List UInt8) (id gen : Int) (x t : List UInt8) (hiv : iv.length = 16) (ht : t.length = 32) :
    ivP (bodyX iv id gen x ++ t) = iv ∧ conP (bodyX iv id gen x ++ t) = x ∧ (bodyX iv id gen x ++ t).take ((bodyX iv id gen x ++ t).length - 32) = bodyX iv id gen x ∧ (bodyX iv id gen x ++ t).drop ((bodyX iv id gen x ++ t).length - 32) = t ∧ (bodyX iv id gen x ++ t).take 24 = headL id gen x.length := by
  have hl : (bodyX iv id gen x ++ t).length = 72 + x.length := by rw [List.length_append, bodyX_len _ _ _ _ hiv, ht]; omega
  have hb := bodyX_len iv id gen x hiv
  have hh := headL_len id gen x.length
  have e1 : bodyX iv id gen x ++ t = headL id gen x.length ++ (iv ++ (x ++ t)) := by simp only [bodyX, List.append_assoc]
  have e2 : bodyX iv id gen x ++ t = (headL id gen x.length ++ iv) ++ (x ++ t) := by rw [e1, List.append_assoc]
  refine ⟨?_, ?_, ?_, ?_, ?_⟩
  · rw [ivP, e1, List.drop_left' hh, List.take_left' hiv]
  · rw [conP, hl, e2, List.drop_left' (by rw [List.length_append, hh, hiv]), List.take_left' (by omega)]
  · rw [hl]; exact List.take_left' (by rw [hb]; omega)
  · rw [hl]; exact List.drop_left' (by rw [hb]; omega)
  · rw [e1]; exact List.take_left' hh
theorem openS_seal (k iv : List UInt8) (id gen : Int) (b : List UInt8) (hiv : iv.length = 16) : openS k id gen (sealS k iv id gen b) = some b := by
  have hl := sealS_len k iv id gen b hiv
  obtain ⟨p1, p2, _⟩ := body_parts iv id gen (Cbc.seal_ (k.take 32) iv b) (Mac.of (k.drop 32) (bodyL k iv id gen b)) hiv (Mac.of_len _ _)
  have e : bodyX iv id gen (Cbc.seal_ (k.take 32) iv b) ++ Mac.of (k.drop 32) (bodyL k iv id gen b) = sealS k iv id gen b := rfl
  rw [e] at p1 p2
  unfold openS
  rw [if_neg (by omega), p1, p2, Cbc.open_seal]
  simp
/-- What opens is sealed so. -/
theorem openS_some {k : List UInt8} {id gen : Int} {s y : List UInt8} (h : openS k id gen s = some y) : 88 ≤ s.length ∧ Cbc.open_ (k.take 32) (ivP s) (conP s) = some y ∧ sealS k (ivP s) id gen y = s := by
  unfold openS at h
  split at h
  · cases h
  · split at h
    · cases h
    · rename_i x hx
      split at h
      · rename_i he
        obtain rfl := Option.some.inj h
        exact ⟨by omega, hx, he⟩
      · cases h
theorem ivP_len {s : List UInt8} (h : 88 ≤ s.length) : (ivP s).length = 16 := by rw [ivP, List.length_take, List.length_drop]; omega
theorem conP_len {s : List UInt8} (h : 88 ≤ s.length) : (conP s).length = s.length - 72 := by rw [conP, List.length_take, List.length_drop]; omega
/-- The four checks of Open. -/
theorem openS_iff (k : List UInt8) (id gen : Int) (s y : List UInt8) : openS k id gen s = some y ↔ 88 ≤ s.length ∧ Mac.of (k.drop 32) (s.take (s.length - 32)) = s.drop (s.length - 32) ∧ s.take 24 = headL id gen (s.length - 72) ∧ Cbc.open_ (k.take 32) (ivP s) (conP s) = some y := by
  constructor
  · intro h
    obtain ⟨h1, h2, h3⟩ := openS_some h
    have hiv := ivP_len h1
    obtain ⟨_, p2, p3, p4, p5⟩ := body_parts (ivP s) id gen (Cbc.seal_ (k.take 32) (ivP s) y) (Mac.of (k.drop 32) (bodyL k (ivP s) id gen y)) hiv (Mac.of_len _ _)
    have e : bodyX (ivP s) id gen (Cbc.seal_ (k.take 32) (ivP s) y) ++ Mac.of (k.drop 32) (bodyL k (ivP s) id gen y) = s := h3
    rw [e] at p2 p3 p4 p5
    refine ⟨h1, by rw [p3, p4]; rfl, ?_, h2⟩
    rw [p5, ← p2, conP_len h1]
  · rintro ⟨h1, h2, h3, h4⟩
    have hiv := ivP_len h1
    have hcl := conP_len h1
    have hs : Cbc.seal_ (k.take 32) (ivP s) y = conP s := Cbc.seal_open _ _ _ _ hiv h4
    have hbody : bodyL k (ivP s) id gen y = s.take (s.length - 32) := by
      rw [bodyL, hs, bodyX, hcl, ← h3]
      have e1 : s.take (s.length - 32) = s.take 24 ++ (ivP s ++ conP s) := by
        have a1 : s.take (s.length - 32) = (s.take (s.length - 32)).take 24 ++ (s.take (s.length - 32)).drop 24 := (List.take_append_drop _ _).symm
        have a2 : (s.take (s.length - 32)).drop 24 = ((s.take (s.length - 32)).drop 24).take 16 ++ ((s.take (s.length - 32)).drop 24).drop 16 := (List.take_append_drop _ _).symm
        rw [List.take_take, Nat.min_eq_left (by omega)] at a1
        rw [a1, a2]
        congr 2
        · rw [ivP, List.drop_take, List.take_take, Nat.min_eq_left (by omega)]
        · rw [conP, List.drop_drop, List.drop_take]
          congr 1
      exact e1.symm
    have hseal : sealS k (ivP s) id gen y = s := by
      rw [sealS, hbody, h2, List.take_append_drop]
    unfold openS
    rw [if_neg (by omega), h4]
    simp [hseal]
theorem openS_tag {k : List UInt8} {id gen : Int} {s y : List UInt8} (h : openS k id gen s = some y) : 88 ≤ s.length ∧ Mac.of (k.drop 32) (s.take (s.length - 32)) = s.drop (s.length - 32) :=
  have h1 := (openS_iff k id gen s y).1 h
  ⟨h1.1, h1.2.1⟩
theorem openS_other {k iv : List UInt8} {id gen id2 gen2 : Int} {b y : List UInt8} (hiv : iv.length = 16) (h1 : isI64 id) (h2 : isI64 gen) (h3 : isI64 id2) (h4 : isI64 gen2) (h : openS k id2 gen2 (sealS k iv id gen b) = some y) : id2 = id ∧ gen2 = gen := by
  obtain ⟨_, _, hh, _⟩ := (openS_iff _ _ _ _ _).1 h
  obtain ⟨_, _, _, _, p5⟩ := body_parts iv id gen (Cbc.seal_ (k.take 32) iv b) (Mac.of (k.drop 32) (bodyL k iv id gen b)) hiv (Mac.of_len _ _)
  have e : bodyX iv id gen (Cbc.seal_ (k.take 32) iv b) ++ Mac.of (k.drop 32) (bodyL k iv id gen b) = sealS k iv id gen b := rfl
  rw [e, hh] at p5
  unfold headL at p5
  obtain ⟨q1, q2⟩ := List.append_inj p5 (by rw [be_len, be_len])
  obtain ⟨q3, _⟩ := List.append_inj q2 (by rw [be_len, be_len])
  exact ⟨b64_inj h3 h1 q1, b64_inj h4 h2 q3⟩

def sizeN (n : Int) : Int := if 0 ≤ n ∧ n ≤ 1048576 then 88 + n / 16 * 16 else 0
def tagB (k s : List UInt8) : List UInt8 := if s.length < 32 then List.replicate 32 0 else Mac.of (k.drop 32) (s.take (s.length - 32))
theorem tagB_len (k s : List UInt8) : (tagB k s).length = 32 := by
  unfold tagB
  split
  · rfl
  · exact Mac.of_len _ _
structure SealOK (G : World → Prop) : Prop where
  keep : ∀ {w w' : World}, G w → Below w.heap.size w w' → G w'
  size : ∀ (w : World) (n : Int), isI64 n → Calls Tryz.prog 11 #[.int .i64 n] w fun e w' => e = .returned (.int .i64 (sizeN n)) ∧ Below w.heap.size w w'
  seal_ : ∀ (w : World) (k iv b : List UInt8) (id gen : Int) (A : Option Addr) (c : Nat), G w → k.length = 64 → iv.length = 16 → isI64 id → isI64 gen → Rd w w.heap.size A b → b.length ≤ c → b.length ≤ 900000 →
    Calls Tryz.prog 7 #[.agg (u8s k).toArray, .agg (u8s iv).toArray, .int .i64 id, .int .i64 gen, .slice A b.length c] w fun e w' => ∃ v, e = .returned (.tuple #[v, .int .i64 0]) ∧ Out w' v (sealS k iv id gen b) ∧ Below w.heap.size w w'
  open_ : ∀ (w : World) (k s : List UInt8) (id gen : Int) (A : Option Addr) (c : Nat), G w → k.length = 64 → isI64 id → isI64 gen → Rd w w.heap.size A s → s.length ≤ c → s.length ≤ 900000 →
    Calls Tryz.prog 14 #[.agg (u8s k).toArray, .int .i64 id, .int .i64 gen, .slice A s.length c] w fun e w' => ∃ v, e = .returned (.tuple #[v, .int .i64 ((openSE k id gen s : Nat) : Int)]) ∧ Out w' v (openSB k id gen s) ∧ Below w.heap.size w w'
  tag : ∀ (w : World) (k s : List UInt8) (A : Option Addr) (c : Nat), G w → k.length = 64 → Rd w w.heap.size A s → s.length ≤ c → s.length ≤ 900000 →
    Calls Tryz.prog 56 #[.agg (u8s k).toArray, .slice A s.length c] w fun e w' => e = .returned (.tuple #[.agg (u8s (tagB k s)).toArray, .bool (decide (32 ≤ s.length))]) ∧ Below w.heap.size w w'
end Go.Proofs.YtdipflchmooakaaGreatDoor
