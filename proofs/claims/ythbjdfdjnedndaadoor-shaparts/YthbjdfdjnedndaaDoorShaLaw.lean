/-
  Layer 5: the fixed fact awake, from the contract of sha.Of.
-/
import Derived.Test.YthbjdfdjnedndaaDoorShaC
import Derived.Test.YthbjdfdjnedndaaDoorLaw
namespace Go.Proofs.YthbjdfdjnedndaaDoor
open Go.RowKit Go.Gar

set_option maxHeartbeats 1000000 in
theorem short5_any (A : Option Addr) (len cap m : Nat) (w : World) (hm : m = min len 400) (hc : len ≤ cap) :
    Calls Tryd.prog 6 #[.slice A len cap] w fun e w' => e = .returned (.slice A m cap) ∧ w' = w := by
  by_cases h : len ≤ 400
  · obtain rfl : m = len := by omega
    clear hm
    go_enter Tryd.func6, Tryd.ntmps6
    go_wp2
    go_ret
    exact ⟨rfl, rfl⟩
  · obtain rfl : m = 400 := by omega
    clear hm
    go_enter Tryd.func6, Tryd.ntmps6
    go_wp2
    go_ret
    exact ⟨rfl, rfl⟩

set_option maxHeartbeats 2000000 in
set_option maxRecDepth 100000 in
theorem awake5_any {G : World → Prop} (hOK : ShaOK G) (w : World) (hG : G w) : Calls Tryd.prog 7 #[] w fun e w' => e = .returned (.bool true) ∧ Below w.heap.size w w' := by
  have hcv : ∀ (W : World) (C : Array Value) (n c g : Nat), g = W.heap.size → (convert 22 22 (.slice (some ⟨g, 0, none⟩) n c)).run Tryd.prog (W.alloc (.cells C 5)) = .ok (.slice (some ⟨g, 0, none⟩) n c) (W.alloc (.cells C 5 (C.size, C.size + 1))) :=
    fun W C n c g hg => Joins.run_convert_bytes_const_at W 22 5 C n c g hg Tryd.und22 Tryd.und5
  have HOK := Lib.hid hOK
  have HG := Lib.hid hG
  obtain ⟨x, hx⟩ : ∃ x, x = u8s (Sha.of [97, 98, 99]) := ⟨_, rfl⟩
  have HX := Lib.hid hx
  clear hOK hG hx
  go_enter Tryd.func7, Tryd.ntmps7
  go_wp2_with fail
  have hb1 := below_alloc w (.cells #[.int .u8 97, .int .u8 98, .int .u8 99] 5 (3, 4))
  refine (sha1 HOK.out _ [97, 98, 99] 3 3 _ (w.alloc (.cells #[.int .u8 97, .int .u8 98, .int .u8 99] 5 (3, 4))) x.toArray (by rw [HX.out]) (HOK.out.keep HG.out hb1) (by simp) rfl ?_ (by simp) (by simp)).mono ?_
  · exact rd_const w [97, 98, 99] 5 (3, 4) _ _ _ rfl rfl (by simp)
  rintro e w1 ⟨rfl, hb2⟩
  have HB1 : Hid (Below w.heap.size w w1) := Lib.hid (hb1.trans (hb2.mono hb1.size))
  clear hb1 hb2
  go_wp2_with fail
  have hb3 : Below w1.heap.size w1 ((w1.alloc (.cells #[.int .u8 97] 5 (1, 2))).alloc (.cells #[.int .u8 98, .int .u8 99] 5 (2, 3))) := (below_alloc w1 _).alloc (by simp) _
  refine (sha3 HOK.out _ none _ [97] [] [98, 99] 1 0 2 1 0 2 _ ((w1.alloc (.cells #[.int .u8 97] 5 (1, 2))).alloc (.cells #[.int .u8 98, .int .u8 99] 5 (2, 3))) x.toArray (by rw [HX.out]; rfl) (HOK.out.keep (HOK.out.keep HG.out HB1.out) hb3) (by simp) rfl rfl rfl ?_ Rd.nil ?_ (by simp) (by simp) (by simp) (by simp)).mono ?_
  · exact ((rd_const w1 [97] 5 (1, 2) _ _ (w1.heap.size + 1) rfl rfl (by omega)).alloc (by simp) _).more (by simp)
  · exact rd_const _ [98, 99] 5 (2, 3) _ _ _ rfl (by simp) (by simp)
  rintro e w2 ⟨rfl, hb4⟩
  have HB2 : Hid (Below w.heap.size w w2) := Lib.hid (HB1.out.trans ((hb3.trans (hb4.mono hb3.size)).mono HB1.out.size))
  clear hb3 hb4 HB1
  have hxs : (Tryd.prog.info? 23).map (·.size) = some x.length := by rw [HX.out]; exact size_32 _ (Sha.of_len _)
  have hxl : z32.length = x.length := by rw [HX.out, u8s_len, Sha.of_len, z32_len]
  have hx1 : ∀ u ∈ x, u.oneCell' = true := by rw [HX.out]; exact u8s_one _
  have hxx : x = u8s [186, 120, 22, 191, 143, 1, 207, 234, 65, 65, 64, 222, 93, 174, 34, 35, 176, 3, 97, 163, 150, 23, 122, 156, 180, 16, 255, 97, 242, 0, 21, 173] := by rw [HX.out, Sha.of_abc]
  have c0 : (laid32 w2 x x).cell? ⟨w2.heap.size, 0, none⟩ = some (.int .u8 186) := by rw [(l32_t w2 x x).cell, hxx]; rfl
  have c1 : (laid32 w2 x x).cell? ⟨w2.heap.size, 1, none⟩ = some (.int .u8 120) := by rw [(l32_t w2 x x).cell, hxx]; rfl
  have c2 : (laid32 w2 x x).cell? ⟨w2.heap.size, 31, none⟩ = some (.int .u8 173) := by rw [(l32_t w2 x x).cell, hxx]; rfl
  have HL1 := Lib.hid (run_loadVar_row (P := Tryd.prog) (laid32 w2 x x) w2.heap.size 23 23 x.toArray (0, 0) _ (l32_t w2 x x) Tryd.und32 rfl (by simpa using hxs))
  have HL2 := Lib.hid (run_loadVar_row (P := Tryd.prog) (laid32 w2 x x) (w2.heap.size + 1) 23 23 x.toArray (0, 0) _ (l32_b w2 x x) Tryd.und32 rfl (by simpa using hxs))
  have HE : Hid (∀ w, (Op.equalIn 10000 23 (.agg x.toArray) (.agg x.toArray)).run Tryd.prog w = .ok true w) := Lib.hid (by rw [HX.out]; exact eq32 _ (Sha.of_len _))
  have HBL := Lib.hid (HB2.out.trans ((l32_below w2 x x).mono HB2.out.size))
  have HXs := Lib.hid hxs
  have HXl := Lib.hid hxl
  have HX1 := Lib.hid hx1
  have HC0 := Lib.hid c0
  have HC1 := Lib.hid c1
  have HC2 := Lib.hid c2
  clear hxx hxs hxl hx1 c0 c1 c2
  go_wp2_with (first | refine wpList_alloc_arr rfl 23 z32.toArray rfl zero_32 ?_ | refine wpList_store_arr rfl 23 (.tmp 1) (.tmp 6) w2.heap.size z32 x rfl rfl rfl rfl (l32_0 w2) HXs.out HXl.out HX1.out ?_ | (refine wpList_store_arr rfl 23 (.tmp 2) (.tmp 12) (w2.heap.size + 1) z32 x rfl rfl (by simp [Act.eval, Act.put]) rfl (l32_2 w2 x) HXs.out HXl.out HX1.out ?_; rw [show ((((w2.alloc (.cells z32.toArray 23)).alloc (.cells z32.toArray 23)).setRow w2.heap.size x.toArray).setRow (w2.heap.size + 1) x.toArray) = laid32 w2 x x from rfl]; generalize laid32 w2 x x = w3 at HC0 HC1 HC2 HL1 HL2 HBL ⊢; have c0 := HC0.out; have c1 := HC1.out; have c2 := HC2.out) | refine wpList_load_arr_w 23 (.tmp 1) rfl rfl x.toArray HL1.out (by kernel_rfl) ?_ | refine wpList_load_arr_w 23 (.tmp 2) rfl rfl x.toArray HL2.out (by kernel_rfl) ?_ | refine wpList_eql_arr_w 23 23 (.tmp 27) (.tmp 28) rfl rfl rfl true Tryd.guard32 HE.out (by kernel_rfl) ?_)
  go_ret
  exact ⟨rfl, HBL.out⟩
end Go.Proofs.YthbjdfdjnedndaaDoor
