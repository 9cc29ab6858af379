/-
  Layer 9: DrawBack, walked from the contracts of draw's functions.
-/
import Derived.Test.YtpaagjhohfjopaaDoorDrawAw
set_option maxRecDepth 100000
namespace Go.Proofs.YtpaagjhohfjopaaDoor
open Go.ChangeShapes Go.WideShapes Go.ChangeAt Go.RowKit Go.Gar

set_option maxHeartbeats 4000000 in
theorem drawback_walk {G : World → Prop} (hOK : DrawOK G) (A : Option Addr) (k b : List UInt8) (n bc : Nat) (w : World) (hG : G w) (hk : k.length = 64) (hn : n = b.length) (hbc : n ≤ bc) (hr : Rd w w.heap.size A b) :
    Calls Tryd.prog 4 #[.agg (u8s k).toArray, .slice A n bc] w fun e w' => e = .returned (.bool true) ∧ Below w.heap.size w w' := by
  have hB1 := Blk.new w 34 (u8s k)
  have hb1 := below_alloc w (.cells (u8s k).toArray 34)
  obtain ⟨w1, hw1⟩ : ∃ w1, w.alloc (.cells (u8s k).toArray 34) = w1 := ⟨_, rfl⟩
  rw [hw1] at hB1 hb1
  have hld1 := load_keys hB1 hk
  have HW1 := Lib.hid hw1
  have HB1 := Lib.hid hB1
  have Hb1 := Lib.hid hb1
  have HOK := Lib.hid hOK
  have HG := Lib.hid hG
  have HK := Lib.hid hk
  have HN := Lib.hid hn
  have HR := Lib.hid hr
  have HSz := Lib.hid (size_64 k hk)
  have HLn : Hid (z64.length = (u8s k).length) := Lib.hid (by rw [u8s_len, hk]; rfl)
  have HE1 : Hid ((0 : Int) = ((fromE k : Nat) : Int)) := Lib.hid (by rw [fromE, if_pos hk]; rfl)
  have HF1 : Hid (k = fromL k) := Lib.hid (by rw [fromL, if_pos hk])
  clear hOK hG hk hn hr hB1 hb1 hw1
  go_enter Tryd.func4, Tryd.ntmps4
  go_wp2_with (refine wpList_load_arr_w 34 (.tmp 2) rfl rfl (u8s k).toArray (by rw [HW1.out]; exact hld1) (by kernel_rfl) ?_)
  rw [HW1.out]
  refine (HOK.out.bytes_ w1 k HK.out).mono ?_
  rintro e w2 ⟨A2, c2, rfl, hc2, hr2, hb2⟩
  have HR2 := Lib.hid hr2
  have HB2 := Lib.hid (HB1.out.below hb2 HB1.out.lt)
  have Hb2 := bb Hb1 hb2
  clear hr2 hb2 hld1 HB1 Hb1
  go_wp2_with fail
  refine (from_at HOK.out w2 A2 k 64 c2 0 k HK.out.symm HE1.out HF1.out HR2.out hc2).mono ?_
  rintro e w3 ⟨rfl, hb3⟩
  obtain ⟨w4, heq4, hB4, hb4, hZ4⟩ := laidK_facts w3 k
  have hb34 := hb3.trans (hb4.mono hb3.size)
  have HEq4 := Lib.hid heq4
  have HZ4 := Lib.hid hZ4
  have Hb4 := bb Hb2 hb34
  have hld4 := load_keys hB4 HK.out
  have hld2 := load_keys (HB2.out.below hb34 HB2.out.lt) HK.out
  have heq := fun W => eqKeys k k HK.out HK.out W
  rw [decide_eq_true rfl] at heq
  clear hb3 hb4 heq4 hB4 hZ4 hb34 HB2 HR2 Hb2
  obtain ⟨E5, hE5⟩ : ∃ E5 : Int, E5 = ((fromE b : Nat) : Int) := ⟨_, rfl⟩
  obtain ⟨L5, hL5⟩ : ∃ L5, L5 = fromL b := ⟨_, rfl⟩
  have hL5l : L5.length = 64 := by rw [hL5]; exact fromL_len b
  have HE5 := Lib.hid hE5
  have HL5 := Lib.hid hL5
  have HL5l := Lib.hid hL5l
  clear hE5 hL5 hL5l
  go_wp2_with (first | refine wpList_alloc_arr rfl 34 z64.toArray rfl zero_64 ?_ | (refine wpList_store_arr rfl 34 (.tmp 5) (.tmp 13) w3.heap.size z64 (u8s k) rfl rfl rfl rfl HZ4.out HSz.out HLn.out (u8s_one _) ?_; rw [HEq4.out]) | refine wpList_load_arr_w 34 (.tmp 5) rfl rfl (u8s k).toArray hld4 (by kernel_rfl) ?_ | refine wpList_load_arr_w 34 (.tmp 2) rfl rfl (u8s k).toArray hld2 (by kernel_rfl) ?_ | refine wpList_neq_arr_w 34 34 (.tmp 15) (.tmp 16) rfl rfl rfl true Tryd.guardKeys heq (by kernel_rfl) ?_ | fail)
  refine (from_at HOK.out w4 A b n bc E5 L5 HN.out HE5.out HL5.out ((HR.out.below Hb4.out).more Hb4.out.size) hbc).mono ?_
  rintro e w5 ⟨rfl, hb5⟩
  obtain ⟨w6, heq6, hB6, hb6, hZ6⟩ := laidK_facts w5 L5
  have hb56 := hb5.trans (hb6.mono hb5.size)
  have HEq6 := Lib.hid heq6
  have HZ6 := Lib.hid hZ6
  have HB6 := Lib.hid hB6
  have Hb6 := bb Hb4 hb56
  have HSz5 := Lib.hid (size_64 L5 HL5l.out)
  have HLn5 : Hid (z64.length = (u8s L5).length) := Lib.hid (by rw [u8s_len, HL5l.out]; rfl)
  clear hb5 hb6 heq6 hB6 hZ6 hb56 Hb4 hld4 hld2 heq
  by_cases h64 : n = 64
  · subst h64
    have hEE : E5 = 0 := by rw [HE5.out, fromE, if_pos HN.out.symm]; rfl
    have hLL : L5 = b := by rw [HL5.out, fromL, if_pos HN.out.symm]
    subst hEE
    subst hLL
    clear HE5 HL5
    go_wp2_with (first | refine wpList_alloc_arr rfl 34 z64.toArray rfl zero_64 ?_ | (refine wpList_store_arr rfl 34 (.tmp 7) (.tmp 25) w5.heap.size z64 (u8s L5) rfl rfl rfl rfl HZ6.out HSz5.out HLn5.out (u8s_one _) ?_; rw [HEq6.out]) | fail)
    refine wp_region_G grows (by kernel_rfl) ?_
    have HB7 := Lib.hid HB6.out.drew
    have Hb7 := Lib.hid Hb6.out.drew
    clear HB6 Hb6 HZ6 HEq6
    generalize w6.drew = w7 at HB7 Hb7 ⊢
    refine oneG 0 13 rfl (by kernel_rfl) rfl ?_
    go_wp2_with fail
    refine (awake9_any HOK.out w7 (HOK.out.keep HG.out Hb7.out)).mono ?_
    rintro e w8 ⟨rfl, hb8⟩
    have HB8 := Lib.hid (HB7.out.below hb8 HB7.out.lt)
    have Hb8 := bb Hb7 hb8
    have hld8 := load_arr_laterS HB8.out HL5l.out
    clear HB7 Hb7
    go_wp2
    refine ⟨hb8, ?_⟩
    clear hb8
    refine segG (by kernel_rfl) (fun _ _ _ _ _ h => h) [1, 2, 3, 4, 5, 6, 9, 10] [_, _, _, _, _, _, _, _] 5 rfl rfl (by kernel_rfl) ?_
    repeat (go_big_quiet_step (fail))
    refine wpQuiet_load_arr 34 (.tmp 7) rfl rfl (u8s L5).toArray hld8 (by kernel_rfl) ?_
    simp only [Act.put, List.setIfInBounds_toArray, List.set]
    have hs2 := string_later_rd ((HR.out.below Hb8.out).more Hb8.out.size) bc
    rw [← HN.out] at hs2
    repeat (go_big_quiet_step (fail))
    refine wpQuiet_nil ?_
    clear hld8 hs2
    refine oneG 7 4 rfl (by kernel_rfl) rfl ?_
    go_wp2_with fail
    refine (HOK.out.bytes_ w8 L5 HL5l.out).mono ?_
    rintro e w9 ⟨A9, c9, rfl, hc9, hr9, hb9⟩
    have Hb9 := bb Hb8 hb9
    have hs1 := string_later_rd hr9 c9
    rw [← HN.out] at hs1
    clear hr9 Hb8
    go_wp2
    refine ⟨hb9, ?_⟩
    clear hb9
    refine segG (by kernel_rfl) (fun _ _ _ _ _ h => h) [8, 11, 12, 13] [_, _, _, _] 0 rfl rfl (by kernel_rfl) ?_
    repeat (go_big_quiet_step (fail))
    refine wpQuiet_nil ?_
    refine wpAnyG_done (by kernel_rfl) ?_
    go_wp2
    go_ret
    exact ⟨by simp, Hb9.out⟩
  · have hEE : E5 = 3 := by rw [HE5.out, fromE, if_neg (by rw [← HN.out]; exact h64)]; rfl
    have hLL : L5 = List.replicate 64 0 := by rw [HL5.out, fromL, if_neg (by rw [← HN.out]; exact h64)]
    subst hEE
    have heq := fun W => eqKeys L5 (List.replicate 64 0) HL5l.out rfl W
    rw [decide_eq_true hLL] at heq
    have hd : ¬ (n : Int) = 64 := by omega
    clear HE5 HL5 hLL h64
    go_wp2_with (first | refine wpList_alloc_arr rfl 34 z64.toArray rfl zero_64 ?_ | (refine wpList_store_arr rfl 34 (.tmp 7) (.tmp 25) w5.heap.size z64 (u8s L5) rfl rfl rfl rfl HZ6.out HSz5.out HLn5.out (u8s_one _) ?_; rw [HEq6.out]) | fail)
    refine (awake9_any HOK.out w6 (HOK.out.keep HG.out Hb6.out)).mono ?_
    rintro e w8 ⟨rfl, hb8⟩
    have Hb8 := bb Hb6 hb8
    have hld8 := load_keys (HB6.out.below hb8 HB6.out.lt) HL5l.out
    clear hb8 HB6 Hb6 HZ6 HEq6
    go_wp2_with (first | refine wpList_load_arr_w 34 (.tmp 7) rfl rfl (u8s L5).toArray hld8 (by kernel_rfl) ?_ | refine wpList_eql_arr_w 34 34 (.tmp 36) (.tmp 37) rfl rfl rfl true Tryd.guardKeys heq (by kernel_rfl) ?_)
    go_ret
    exact ⟨by simp, Hb8.out⟩
end Go.Proofs.YtpaagjhohfjopaaDoor
