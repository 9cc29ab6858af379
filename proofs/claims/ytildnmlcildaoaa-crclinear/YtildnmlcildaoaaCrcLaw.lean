/-
  Layer 2's fixed fact and its shortening of bytes; Of at one part and at three.
-/
import Derived.Test.YtildnmlcildaoaaCrc
import Derived.Test.YtildnmlcildaoaaApp
import Derived.Test.YtildnmlcildaoaaLaw
import Derived.Lib.SmallJoins
namespace Go.Proofs.Ytildnmlcildaoaa
open Go.RowKit Go.Gar Go.Gar.Crc

set_option maxHeartbeats 400000 in
theorem short2_any (A : Option Addr) (len cap m : Nat) (w : World) (hm : m = min len 200) (hc : len ≤ cap) :
    Calls Try.prog 9 #[.slice A len cap] w fun e w' => e = .returned (.slice A m cap) ∧ w' = w := by
  by_cases h : len ≤ 200
  · obtain rfl : m = len := by omega
    clear hm
    go_enter Try.func9, Try.ntmps9
    go_wp2
    go_ret
    exact ⟨rfl, rfl⟩
  · obtain rfl : m = 200 := by omega
    clear hm
    go_enter Try.func9, Try.ntmps9
    go_wp2
    go_ret
    exact ⟨rfl, rfl⟩

/-- Of of one slice, in the block that the call has just made for it. -/
theorem of1 (A : Option Addr) (l : List UInt8) (len c g : Nat) (w : World) (hg : g = w.heap.size) (hl : len = l.length) (hr : Rd w w.heap.size A l) (hs : l.length ≤ 1000000000) :
    Calls Try.prog 11 #[.slice (some ⟨g, 0, none⟩) 1 1] (w.alloc (.cells #[.slice A len c] 23)) fun e w' => e = .returned (.int .u32 ((more 0#32 l).toNat : Int)) ∧ w' = w.alloc (.cells #[.slice A len c] 23) := by
  subst hl; subst hg
  have hb := Blk.new w 23 [.slice A l.length c]
  have h := crcOf_any (some ⟨w.heap.size, 0, none⟩) [(A, l, c)] 1 (w.alloc (.cells #[.slice A l.length c] 23)) (w.heap.size + 1) (by simpa [partV] using Cells.of_blk hb) (by
    intro p hp
    simp at hp
    subst hp
    exact ⟨(hr.alloc (Nat.le_refl _) _).more (by omega), hs⟩) (by simp)
  simpa [cat] using h
theorem of3 (A1 A2 A3 : Option Addr) (l1 l2 l3 : List UInt8) (n1 n2 n3 c1 c2 c3 g : Nat) (w : World) (hg : g = w.heap.size) (h1 : n1 = l1.length) (h2 : n2 = l2.length) (h3 : n3 = l3.length) (r1 : Rd w w.heap.size A1 l1) (r2 : Rd w w.heap.size A2 l2) (r3 : Rd w w.heap.size A3 l3)
    (hs : l1.length ≤ 1000000000 ∧ l2.length ≤ 1000000000 ∧ l3.length ≤ 1000000000) :
    Calls Try.prog 11 #[.slice (some ⟨g, 0, none⟩) 3 3] (w.alloc (.cells #[.slice A1 n1 c1, .slice A2 n2 c2, .slice A3 n3 c3] 23)) fun e w' =>
      e = .returned (.int .u32 ((more 0#32 (l1 ++ (l2 ++ l3))).toNat : Int)) ∧ w' = w.alloc (.cells #[.slice A1 n1 c1, .slice A2 n2 c2, .slice A3 n3 c3] 23) := by
  subst h1; subst h2; subst h3; subst hg
  have hb := Blk.new w 23 [.slice A1 l1.length c1, .slice A2 l2.length c2, .slice A3 l3.length c3]
  have h := crcOf_any (some ⟨w.heap.size, 0, none⟩) [(A1, l1, c1), (A2, l2, c2), (A3, l3, c3)] 3 (w.alloc (.cells #[.slice A1 l1.length c1, .slice A2 l2.length c2, .slice A3 l3.length c3] 23)) (w.heap.size + 1) (by simpa [partV] using Cells.of_blk hb) (by
    intro p hp
    simp at hp
    rcases hp with rfl | rfl | rfl
    · exact ⟨(r1.alloc (Nat.le_refl _) _).more (by omega), hs.1⟩
    · exact ⟨(r2.alloc (Nat.le_refl _) _).more (by omega), hs.2.1⟩
    · exact ⟨(r3.alloc (Nat.le_refl _) _).more (by omega), hs.2.2⟩) (by simp)
  simpa [cat] using h
theorem of0 (A : Option Addr) (c : Nat) (w : World) : Calls Try.prog 11 #[.slice A 0 c] w fun e w' => e = .returned (.int .u32 0) ∧ w' = w := by
  have h := crcOf_any A [] c w 0 (.inl rfl) (by simp) (by simp)
  simpa [cat, more_nil] using h

def d9 : List UInt8 := [49, 50, 51, 52, 53, 54, 55, 56, 57]
def d4 : List UInt8 := [49, 50, 51, 52]
def d5 : List UInt8 := [53, 54, 55, 56, 57]

theorem crcMore_at (s : BitVec 32) (n : Int) (A : Option Addr) (l : List UInt8) (len cap : Nat) (w : World) (B : Nat) (hn : n = (s.toNat : Int)) (hlen : len = l.length) (hr : Rd w B A l) (hl : l.length ≤ 1000000000) :
    Calls Try.prog 8 #[.int .u32 n, .slice A len cap] w fun e w' => e = .returned (.int .u32 ((more s l).toNat : Int)) ∧ w' = w := by
  subst hn; subst hlen
  exact crcMore_any s A l cap w B hr hl
theorem xor8 (a b : UInt8) : bits .xor .u8 (a.toNat : Int) (b.toNat : Int) = ((a ^^^ b).toNat : Int) := by
  show IntKind.u8.wrap ((BitVec.ofInt 8 (a.toNat : Int) ^^^ BitVec.ofInt 8 (b.toNat : Int)).toNat : Int) = _
  have e : ∀ z : UInt8, (BitVec.ofInt 8 (z.toNat : Int)).toNat = z.toNat := fun z => by
    rw [BitVec.ofInt_natCast, BitVec.toNat_ofNat]; exact Nat.mod_eq_of_lt z.toNat_lt
  have hx : a.toNat ^^^ b.toNat < 2 ^ 8 := Nat.xor_lt_two_pow a.toNat_lt b.toNat_lt
  rw [BitVec.toNat_xor, e a, e b, UInt8.toNat_xor]
  simp [IntKind.wrap, IntKind.bits, IntKind.signed]
  omega
theorem pow8 : ∀ j : Nat, j < 8 → (2 : Int) ^ j % 256 = (((1 : UInt8) <<< (UInt8.ofNat j)).toNat : Int) := by decide +kernel
theorem flip8 (c : UInt8) (j : Nat) (h : j < 8) : bits .xor .u8 (c.toNat : Int) (2 ^ j % 256) = ((c ^^^ ((1 : UInt8) <<< (UInt8.ofNat j))).toNat : Int) := by
  rw [pow8 j h, xor8]
theorem u8s_set (l : List UInt8) (q : Nat) (c : UInt8) : (u8s l).set q (.int .u8 (c.toNat : Int)) = u8s (l.set q c) := by
  simp [u8s, List.map_set]

theorem refMore_at (s : BitVec 32) (A : Option Addr) (l : List UInt8) (len cap : Nat) (w : World) (hlen : len = l.length) (hr : Rd w w.heap.size A l) (hl : l.length ≤ 1000000) :
    Calls Try.prog 10 #[.int .u32 (s.toNat : Int), .slice A len cap] w fun e w' => e = .returned (.int .u32 ((more s l).toNat : Int)) ∧ Below w.heap.size w w' := by
  subst hlen
  exact refMore_any s A l cap w hr hl
theorem rd_const (w : World) (l : List UInt8) (t : TypeId) (fr : Nat × Nat) (C : Array Value) (g B : Nat) (hC : C = (u8s l).toArray) (hg : g = w.heap.size) (hB : w.heap.size < B) : Rd (w.alloc (.cells C t fr)) B (some ⟨g, 0, none⟩) l := by
  subst hC; subst hg
  refine .inr ⟨w.heap.size, 0, rfl, hB, fun i c hi => ?_⟩
  rw [Joins.cell_alloc_mark_at w _ t fr _ _ rfl, Nat.zero_add]
  rw [List.getElem?_toArray, u8s_get, hi]; rfl

set_option maxHeartbeats 1000000 in
theorem awake2_any (w : World) : Calls Try.prog 7 #[] w fun e w' => e = .returned (.bool true) ∧ Below w.heap.size w w' := by
  have hcv : ∀ (W : World) (C : Array Value) (n c g : Nat), g = W.heap.size → (convert 23 23 (.slice (some ⟨g, 0, none⟩) n c)).run Try.prog (W.alloc (.cells C 5)) = .ok (.slice (some ⟨g, 0, none⟩) n c) (W.alloc (.cells C 5 (C.size, C.size + 1))) :=
    fun W C n c g hg => Joins.run_convert_bytes_const_at W 23 5 C n c g hg Try.und22 Try.und5
  go_enter Try.func7, Try.ntmps7
  go_wp2_with fail
  refine (of1 _ d9 9 9 _ _ (by simp) (by decide) ?_ (by simp [d9])).mono ?_
  · exact rd_const w d9 5 (9, 10) _ _ _ rfl rfl (by simp)
  rw [show ((more 0#32 d9).toNat : Int) = 3421780262 from by decide +kernel]
  rintro e w1 ⟨rfl, rfl⟩
  have Hb1 := Lib.hid (show Below w.heap.size w ((w.alloc (.cells #[.int .u8 49, .int .u8 50, .int .u8 51, .int .u8 52, .int .u8 53, .int .u8 54, .int .u8 55, .int .u8 56, .int .u8 57] 5 (9, 10))).alloc (.cells #[.slice (some ⟨w.heap.size, 0, none⟩) 9 9] 23)) from (below_alloc w _).alloc (by simp) _)
  generalize ((w.alloc (.cells #[.int .u8 49, .int .u8 50, .int .u8 51, .int .u8 52, .int .u8 53, .int .u8 54, .int .u8 55, .int .u8 56, .int .u8 57] 5 (9, 10))).alloc (.cells #[.slice (some ⟨w.heap.size, 0, none⟩) 9 9] 23)) = w1 at *
  go_wp2_with fail
  refine (of3 _ none _ d4 [] d5 4 0 5 4 0 5 _ _ (by simp) (by decide) rfl (by decide) ?_ Rd.nil ?_ (by simp [d4, d5])).mono ?_
  · exact ((rd_const w1 d4 5 (4, 5) _ _ (w1.heap.size + 1) rfl rfl (by omega)).alloc (by simp) _).more (by simp)
  · exact rd_const _ d5 5 (5, 6) _ _ _ rfl (by simp) (by simp)
  rw [show ((more 0#32 (d4 ++ ([] ++ d5))).toNat : Int) = 3421780262 from by decide +kernel]
  rintro e w2 ⟨rfl, rfl⟩
  have Hb2 := Lib.hid (show Below w.heap.size w (((w1.alloc (.cells #[.int .u8 49, .int .u8 50, .int .u8 51, .int .u8 52] 5 (4, 5))).alloc (.cells #[.int .u8 53, .int .u8 54, .int .u8 55, .int .u8 56, .int .u8 57] 5 (5, 6))).alloc (.cells #[.slice (some ⟨w1.heap.size, 0, none⟩) 4 4, .slice none 0 0, .slice (some ⟨w1.heap.size + 1, 0, none⟩) 5 5] 23)) from
    ((Hb1.out.alloc Hb1.out.size _).alloc (Nat.le_trans Hb1.out.size (by simp)) _).alloc (Nat.le_trans Hb1.out.size (by simp; omega)) _)
  generalize (((w1.alloc (.cells #[.int .u8 49, .int .u8 50, .int .u8 51, .int .u8 52] 5 (4, 5))).alloc (.cells #[.int .u8 53, .int .u8 54, .int .u8 55, .int .u8 56, .int .u8 57] 5 (5, 6))).alloc (.cells #[.slice (some ⟨w1.heap.size, 0, none⟩) 4 4, .slice none 0 0, .slice (some ⟨w1.heap.size + 1, 0, none⟩) 5 5] 23)) = w2 at *
  go_wp2_with fail
  refine (of0 none 0 _).mono ?_
  rintro e w3 ⟨rfl, rfl⟩
  go_wp2_with fail
  refine (crcMore_at 0#32 0 _ [0] 1 1 (w3.alloc (.cells #[.int .u8 0] 5)) (w3.heap.size + 1) rfl rfl (rd_const w3 [0] 5 (0, 0) _ _ _ rfl rfl (by omega)) (by simp)).mono ?_
  rw [show ((more 0#32 [0]).toNat : Int) = 3523407757 from by decide +kernel]
  rintro e w4 ⟨rfl, rfl⟩
  have Hb4 := Lib.hid (show Below w.heap.size w (w3.alloc (.cells #[.int .u8 0] 5)) from Hb2.out.alloc Hb2.out.size _)
  generalize w3.alloc (.cells #[.int .u8 0] 5) = w4 at *
  go_wp2
  go_ret
  exact ⟨rfl, Hb4.out⟩

open Go.ChangeShapes Go.WideShapes Go.ChangeAt in
theorem open_u32 {H : Type} {enc : TypeId × Value → H} {W : World} {base : Nat} {v : Value} {d : DataW H} {p : List MemPlace}
    (hok : Value.okWide Try.prog W .any base 22 v) (h : DataW.Trod enc Try.prog W 0 (fun _ => true) true 22 v d p) : ∃ s : BitVec 32, v = .int .u32 (s.toNat : Int) := by
  obtain ⟨n, rfl, _, _, hw⟩ := open_int Try.underlying22 hok h
  have hb := bounds_u32 hw
  refine ⟨BitVec.ofNat 32 n.toNat, ?_⟩
  rw [BitVec.toNat_ofNat, Nat.mod_eq_of_lt (by omega)]
  congr 1
  omega
end Go.Proofs.Ytildnmlcildaoaa
