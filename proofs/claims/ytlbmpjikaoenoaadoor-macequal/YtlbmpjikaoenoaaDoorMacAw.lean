/-
  Layer 6: the fixed fact awake, from the contract of mac's functions.
-/
import Derived.Test.YtlbmpjikaoenoaaDoorMacC
import Derived.Deep.WholeRow
namespace Go.Proofs.YtlbmpjikaoenoaaDoor
open Go.RowKit Go.Gar

theorem mac1 {G : World → Prop} (hOK : MacOK G) (K A : Option Addr) (key l : List UInt8) (kl kc n c g : Nat) (w : World) (x : Array Value) (hx : x = (u8s (Mac.of key l)).toArray) (hG : G w) (hg : g = w.heap.size) (hkl : kl = key.length) (hn : n = l.length) (hkc : key.length ≤ kc) (rK : Rd w w.heap.size K key) (rA : Rd w w.heap.size A l) (hs1 : key.length ≤ 1048576) (hs : l.length ≤ 1000000) (hc : l.length ≤ c) :
    Calls Tryd.prog 6 #[.slice K kl kc, .slice (some ⟨g, 0, none⟩) 1 1] (w.alloc (.cells #[.slice A n c] 22)) fun e w' => e = .returned (.agg x) ∧ Below w.heap.size w w' := by
  subst hkl; subst hn; subst hg; subst hx
  have hb := Blk.new w 22 [.slice A l.length c]
  have hbl := below_alloc w (.cells #[.slice A l.length c] 22)
  have h := hOK.of (w.alloc (.cells #[.slice A l.length c] 22)) K key kc (some ⟨w.heap.size, 0, none⟩) [(A, l, c)] 1 (hOK.keep hG hbl) ((rK.alloc (Nat.le_refl _) _).more (by simp)) hkc hs1 (by simpa [partV] using Cells.of_blk hb) (by
    intro p hp
    simp at hp
    subst hp
    exact ⟨(rA.alloc (Nat.le_refl _) _).more (by simp), hc⟩) (by simpa [cat] using hs) (by simp)
  refine h.mono fun e w' ⟨h1, h2⟩ => ⟨by simpa [cat] using h1, hbl.trans (h2.mono hbl.size)⟩
theorem mac2 {G : World → Prop} (hOK : MacOK G) (K A1 A2 : Option Addr) (key l1 l2 : List UInt8) (kl kc n1 n2 c1 c2 g : Nat) (w : World) (x : Array Value) (hx : x = (u8s (Mac.of key (l1 ++ l2))).toArray) (hG : G w) (hg : g = w.heap.size) (hkl : kl = key.length) (hn1 : n1 = l1.length) (hn2 : n2 = l2.length) (hkc : key.length ≤ kc) (rK : Rd w w.heap.size K key) (r1 : Rd w w.heap.size A1 l1) (r2 : Rd w w.heap.size A2 l2) (hs1 : key.length ≤ 1048576) (hs : (l1 ++ l2).length ≤ 1000000) (h1 : l1.length ≤ c1) (h2 : l2.length ≤ c2) :
    Calls Tryd.prog 6 #[.slice K kl kc, .slice (some ⟨g, 0, none⟩) 2 2] (w.alloc (.cells #[.slice A1 n1 c1, .slice A2 n2 c2] 22)) fun e w' => e = .returned (.agg x) ∧ Below w.heap.size w w' := by
  subst hkl; subst hn1; subst hn2; subst hg; subst hx
  have hb := Blk.new w 22 [.slice A1 l1.length c1, .slice A2 l2.length c2]
  have hbl := below_alloc w (.cells #[.slice A1 l1.length c1, .slice A2 l2.length c2] 22)
  have h := hOK.of (w.alloc (.cells #[.slice A1 l1.length c1, .slice A2 l2.length c2] 22)) K key kc (some ⟨w.heap.size, 0, none⟩) [(A1, l1, c1), (A2, l2, c2)] 2 (hOK.keep hG hbl) ((rK.alloc (Nat.le_refl _) _).more (by simp)) hkc hs1 (by simpa [partV] using Cells.of_blk hb) (by
    intro p hp
    simp at hp
    rcases hp with rfl | rfl
    · exact ⟨(r1.alloc (Nat.le_refl _) _).more (by simp), h1⟩
    · exact ⟨(r2.alloc (Nat.le_refl _) _).more (by simp), h2⟩) (by simpa [cat] using hs) (by simp)
  refine h.mono fun e w' ⟨h1, h2⟩ => ⟨by simpa [cat] using h1, hbl.trans (h2.mono hbl.size)⟩

theorem short6_any (A : Option Addr) (len cap m : Nat) (w : World) (hm : m = min len 300) (hc : len ≤ cap) :
    Calls Tryd.prog 7 #[.slice A len cap] w fun e w' => e = .returned (.slice A m cap) ∧ w' = w := by
  by_cases h : len ≤ 300
  · obtain rfl : m = len := by omega
    clear hm
    go_enter Tryd.func7, Tryd.ntmps7
    go_wp2
    go_ret
    exact ⟨rfl, rfl⟩
  · obtain rfl : m = 300 := by omega
    clear hm
    go_enter Tryd.func7, Tryd.ntmps7
    go_wp2
    go_ret
    exact ⟨rfl, rfl⟩

def fox1 : List UInt8 := [84, 104, 101, 32, 113, 117, 105, 99, 107, 32, 98, 114, 111, 119, 110, 32, 102, 111, 120, 32]
def fox2 : List UInt8 := [106, 117, 109, 112, 115, 32, 111, 118, 101, 114, 32, 116, 104, 101, 32, 108, 97, 122, 121, 32, 100, 111, 103]
set_option maxHeartbeats 2000000 in
set_option maxRecDepth 100000 in
theorem awake6_any {G : World → Prop} (hOK : MacOK G) (w : World) (hG : G w) : Calls Tryd.prog 8 #[] w fun e w' => e = .returned (.bool true) ∧ Below w.heap.size w w' := by
  have hcv : ∀ (W : World) (C : Array Value) (n c g : Nat), g = W.heap.size → (convert 22 22 (.slice (some ⟨g, 0, none⟩) n c)).run Tryd.prog (W.alloc (.cells C 5)) = .ok (.slice (some ⟨g, 0, none⟩) n c) (W.alloc (.cells C 5 (C.size, C.size + 1))) :=
    fun W C n c g hg => Joins.run_convert_bytes_const_at W 22 5 C n c g hg Tryd.und22 Tryd.und5
  have HOK := Lib.hid hOK
  have HG := Lib.hid hG
  obtain ⟨X, hX, hl, x0, x1, x31⟩ : ∃ X : List UInt8, X = Mac.of Mac.foxK (fox1 ++ fox2) ∧ X.length = 32 ∧ X[0]? = some 247 ∧ X[1]? = some 188 ∧ X[31]? = some 216 := by
    refine ⟨_, rfl, Mac.of_len _ _, ?_⟩
    have h : Mac.of Mac.foxK (fox1 ++ fox2) = _ := Mac.fox
    rw [h]
    exact ⟨rfl, rfl, rfl⟩
  have HX := Lib.hid hX
  have HL := Lib.hid hl
  have H0 := Lib.hid x0
  have H1 := Lib.hid x1
  have H31 := Lib.hid x31
  clear hOK hG hX hl x0 x1 x31
  go_enter Tryd.func8, Tryd.ntmps8
  go_wp2_with fail
  have hb3 : Below w.heap.size w (((w.alloc (.cells (u8s Mac.foxK).toArray 5 (3, 4))).alloc (.cells (u8s fox1).toArray 5 (20, 21))).alloc (.cells (u8s fox2).toArray 5 (23, 24))) := ((below_alloc w _).alloc (by simp) _).alloc (by simp only [World.size_alloc]; omega) _
  refine (mac2 HOK.out _ _ _ Mac.foxK fox1 fox2 3 3 20 23 20 23 _ (((w.alloc (.cells (u8s Mac.foxK).toArray 5 (3, 4))).alloc (.cells (u8s fox1).toArray 5 (20, 21))).alloc (.cells (u8s fox2).toArray 5 (23, 24))) (u8s X).toArray (by rw [HX.out]) (HOK.out.keep HG.out hb3) (by simp) rfl rfl rfl (by decide) ?_ ?_ ?_ (by decide) (by decide) (by decide) (by decide)).mono ?_
  · exact (((rd_const w Mac.foxK 5 (3, 4) _ _ (w.heap.size + 1) rfl rfl (by omega)).alloc (by simp) _).alloc (by simp) _).more (by simp only [World.size_alloc]; omega)
  · exact ((rd_const (w.alloc (.cells (u8s Mac.foxK).toArray 5 (3, 4))) fox1 5 (20, 21) _ _ (w.heap.size + 2) rfl (by simp) (by simp)).alloc (by simp) _).more (by simp)
  · exact rd_const _ fox2 5 (23, 24) _ _ _ rfl (by simp) (by simp)
  rintro e w2 ⟨rfl, hb4⟩
  have HB2 : Hid (Below w.heap.size w w2) := Lib.hid (hb3.trans (hb4.mono hb3.size))
  clear hb3 hb4 hcv
  have hEa : (w2.alloc (.cells z32.toArray 23)).setRow w2.heap.size (u8s X).toArray = w2.alloc (.cells (u8s X).toArray 23) := World.setRow_alloc_new w2 _ _ _
  have HEa := Lib.hid hEa
  have HS := Lib.hid (size_32 X HL.out)
  have HZ : Hid (z32.length = (u8s X).length) := Lib.hid (by rw [u8s_len, HL.out, z32_len])
  have HO := Lib.hid (u8s_one X)
  have HBk := Lib.hid (Blk.new w2 23 (u8s X))
  have HB3 := Lib.hid (HB2.out.alloc HB2.out.size (.cells (u8s X).toArray 23))
  clear hEa HB2
  go_wp2_with (first | refine wpList_alloc_arr rfl 23 z32.toArray rfl zero_32 ?_ | (refine wpList_store_arr rfl 23 (.tmp 1) (.tmp 9) w2.heap.size z32 (u8s X) rfl rfl rfl rfl (Blk.new w2 _ z32) HS.out HZ.out HO.out ?_; rw [HEa.out]))
  clear HEa HS HZ HO
  simp only [Act.put, List.setIfInBounds_toArray, List.set]
  generalize w2.alloc (.cells (u8s X).toArray 23) = w3 at *
  generalize w2.heap.size = g at *
  refine wp_region_G grows (by kernel_rfl) ?_
  have HBd := Lib.hid HBk.out.drew
  have HBb := Lib.hid HB3.out.drew
  clear HBk HB3
  generalize w3.drew = w4 at *
  have g0 : (u8s X)[0]? = some (.int .u8 247) := by rw [u8s_get, H0.out]; rfl
  have g1 : (u8s X)[1]? = some (.int .u8 188) := by rw [u8s_get, H1.out]; rfl
  have g31 : (u8s X)[31]? = some (.int .u8 216) := by rw [u8s_get, H31.out]; rfl
  have c0 := cell_later HBd.out g0
  have c1 := cell_later HBd.out g1
  have c31 := cell_later HBd.out g31
  clear g0 g1 g31
  refine segG (by kernel_rfl) (fun _ _ _ _ _ h => h) [0, 1, 2, 3, 4, 5, 6, 7, 8, 9, 10, 11, 12, 13, 14, 15] [_, _, _, _, _, _, _, _, _, _, _, _, _, _, _, _] 9 rfl rfl (by kernel_rfl) ?_
  repeat (go_big_quiet_step (fail))
  refine wpQuiet_nil ?_
  clear c0 c1 c31
  refine oneG 16 8 rfl (by kernel_rfl) rfl ?_
  go_wp2_with fail
  have rX : Rd w4 w4.heap.size (some ⟨g, 0, none⟩) X := Rd.of_all HBd.out
  have hE1 := HOK.out.equal w4 _ _ X X 32 32 (HOK.out.keep HG.out HBb.out) rX rX (by rw [HL.out]; omega) (by rw [HL.out]; omega) (by rw [HL.out]; omega) (by rw [HL.out]; omega)
  rw [HL.out] at hE1
  refine hE1.mono ?_
  rintro e w5 ⟨rfl, h5⟩
  clear hE1 rX
  have HBd5 := Lib.hid (HBd.out.below h5 HBd.out.lt)
  have HBb5 := bb HBb h5
  rw [decide_eq_true rfl]
  go_wp2
  refine ⟨h5, ?_⟩
  clear h5 HBd HBb
  refine segG (by kernel_rfl) (fun _ _ _ _ _ h => h) [17, 18, 19, 20] [_, _, _, _] 4 rfl rfl (by kernel_rfl) ?_
  repeat (go_big_quiet_step (fail))
  refine wpQuiet_nil ?_
  refine oneG 21 3 rfl (by kernel_rfl) rfl ?_
  go_wp2_with fail
  have rX : Rd w5 w5.heap.size (some ⟨g, 0, none⟩) X := Rd.of_all HBd5.out
  have rY : Rd w5 w5.heap.size (some ⟨g, 1, none⟩) ((X.drop 1).take 31) := Rd.of_blk X HBd5.out HBd5.out.lt 1 31
  have hYl : ((X.drop 1).take 31).length = 31 := by rw [List.length_take, List.length_drop, HL.out]; rfl
  have hE2 := HOK.out.equal w5 _ _ X ((X.drop 1).take 31) 32 31 (HOK.out.keep HG.out HBb5.out) rX rY (by rw [HL.out]; omega) (by rw [hYl]; omega) (by rw [HL.out]; omega) (by rw [hYl]; omega)
  rw [HL.out, hYl] at hE2
  have hd : decide (X = (X.drop 1).take 31) = false := by
    rw [decide_eq_false_iff_not]
    intro h
    have := congrArg List.length h
    rw [hYl, HL.out] at this
    omega
  rw [hd] at hE2
  refine hE2.mono ?_
  rintro e w6 ⟨rfl, h6⟩
  clear hE2 rX rY hYl hd
  have HBb6 := bb HBb5 h6
  go_wp2
  refine ⟨h6, ?_⟩
  clear h6 HBd5 HBb5
  refine segG (by kernel_rfl) (fun _ _ _ _ _ h => h) [22, 23, 24] [_, _, _] 0 rfl rfl (by kernel_rfl) ?_
  repeat (go_big_quiet_step (fail))
  refine wpQuiet_nil ?_
  refine wpAnyG_done (by kernel_rfl) ?_
  go_wp2
  go_ret
  exact ⟨rfl, HBb6.out⟩
end Go.Proofs.YtlbmpjikaoenoaaDoor
