/-
  Layer 3's laws, walked: each returns true, whatever its arguments, where box's functions keep their contracts.
-/
import Derived.Test.YtioihcanlllfnaaBoxLaw
import Derived.Test.YtioihcanlllfnaaBits
namespace Go.Proofs.Ytioihcanlllfnaa
open Go.ChangeShapes Go.WideShapes Go.ChangeAt Go.RowKit Go.Gar

theorem open_u8 {H : Type} {enc : TypeId × Value → H} {W : World} {base : Nat} {v : Value} {d : DataW H} {p : List MemPlace}
    (hok : Value.okWide Try.prog W .any base 5 v) (h : DataW.Trod enc Try.prog W 0 (fun _ => true) true 5 v d p) : ∃ n : Nat, n < 256 ∧ v = .int .u8 (n : Int) := by
  obtain ⟨n, rfl, _, _, hw⟩ := open_int Try.underlying5 hok h
  have hb := bounds_u8 hw
  exact ⟨n.toNat, by omega, by congr 1; omega⟩

set_option maxHeartbeats 1000000 in
set_option maxRecDepth 100000 in
theorem boxmuls_walk (hM : MulC) (hI : InvC) (hT : TabC) (a b : Nat) (ha : a < 256) (hb : b < 256) (w : World) :
    Calls Try.prog 3 #[.int .u8 (a : Int), .int .u8 (b : Int)] w fun e w' => e = .returned (.bool true) ∧ Below w.heap.size w w' := by
  have HM := Lib.hid hM
  have HA := Lib.hid (awake3_any hM hI hT)
  clear hM hI hT
  go_enter Try.func3, Try.ntmps3
  go_wp2_with fail
  refine (HA.out w).mono ?_
  rintro e w1 ⟨rfl, hb1⟩
  have Hb1 := Lib.hid hb1
  clear hb1
  go_wp2_with fail
  refine (HM.out a b w1 ha hb).mono ?_
  rintro e w2 ⟨rfl, rfl⟩
  go_wp2_with fail
  refine (refMul_any a b _ ha hb).mono ?_
  rintro e w3 ⟨rfl, rfl⟩
  generalize ((Box.mul a b : Nat) : Int) = m
  go_wp2
  go_ret
  exact ⟨by simp, Hb1.out⟩

set_option maxHeartbeats 1000000 in
set_option maxRecDepth 100000 in
theorem boxfields_walk (hM : MulC) (hI : InvC) (hT : TabC) (a b c : Nat) (ha : a < 256) (hb : b < 256) (hc : c < 256) (w : World) :
    Calls Try.prog 6 #[.int .u8 (a : Int), .int .u8 (b : Int), .int .u8 (c : Int)] w fun e w' => e = .returned (.bool true) ∧ Below w.heap.size w w' := by
  have HM := Lib.hid hM
  have HA := Lib.hid (awake3_any hM hI hT)
  clear hM hI hT
  have hx : ∀ m n : Nat, m < 256 → n < 256 → bits .xor .u8 (m : Int) (n : Int) = ((m ^^^ n : Nat) : Int) := fun m n hm hn => xor_u8 m n hm hn
  have HX := Lib.hid hx
  have hbc := hx b c hb hc
  clear hx
  have l1 := Box.mul_lt a b ha
  have l2 := Box.mul_lt b c hb
  have l3 := Box.mul_lt a c ha
  have l4 := Box.xor_lt hb hc
  have K1 := Lib.hid (Box.mul_comm a b ha hb)
  have K2 := Lib.hid (Box.mul_assoc a b c ha hb hc)
  have K3 := Lib.hid (Box.mul_right a b c)
  have K4 := Lib.hid (Box.mul_one a)
  go_enter Try.func6, Try.ntmps6
  go_wp2_with fail
  refine (HA.out w).mono ?_
  rintro e w1 ⟨rfl, hb1⟩
  have Hb1 := Lib.hid hb1
  clear hb1
  go_wp2_with fail
  refine (HM.out a b w1 ha hb).mono ?_
  rintro e w2 ⟨rfl, rfl⟩
  go_wp2_with fail
  refine (HM.out b a _ hb ha).mono ?_
  rintro e w2 ⟨rfl, rfl⟩
  have e1 : (((Box.mul a b : Nat) : Int) == ((Box.mul b a : Nat) : Int)) = true := by rw [K1.out]; simp
  go_wp2_with fail
  refine (HM.out b c _ hb hc).mono ?_
  rintro e w2 ⟨rfl, rfl⟩
  go_wp2_with fail
  refine (HM.out a (Box.mul b c) _ ha l2).mono ?_
  rintro e w2 ⟨rfl, rfl⟩
  go_wp2_with fail
  refine (HM.out a b _ ha hb).mono ?_
  rintro e w2 ⟨rfl, rfl⟩
  go_wp2_with fail
  refine (HM.out (Box.mul a b) c _ l1 hc).mono ?_
  rintro e w2 ⟨rfl, rfl⟩
  have e2 : (((Box.mul a (Box.mul b c) : Nat) : Int) == ((Box.mul (Box.mul a b) c : Nat) : Int)) = true := by rw [K2.out]; simp
  go_wp2_with fail
  refine (HM.out a (b ^^^ c) _ ha l4).mono ?_
  rintro e w2 ⟨rfl, rfl⟩
  go_wp2_with fail
  refine (HM.out a b _ ha hb).mono ?_
  rintro e w2 ⟨rfl, rfl⟩
  go_wp2_with fail
  refine (HM.out a c _ ha hc).mono ?_
  rintro e w2 ⟨rfl, rfl⟩
  have e3 : (((Box.mul a (b ^^^ c) : Nat) : Int) == bits .xor .u8 ((Box.mul a b : Nat) : Int) ((Box.mul a c : Nat) : Int)) = true := by rw [HX.out _ _ l1 l3, K3.out]; simp
  go_wp2_with fail
  refine (HM.out a 1 _ ha (by omega)).mono ?_
  rintro e w2 ⟨rfl, rfl⟩
  have e4 : (((Box.mul a 1 : Nat) : Int) == (a : Int)) = true := by rw [K4.out]; simp
  go_wp2
  go_ret
  exact ⟨by simp, Hb1.out⟩

theorem u8s_at {l : List UInt8} {i c : Nat} (hc : l[i]? = some (UInt8.ofNat c)) (h8 : c < 256) : (u8s l)[i]? = some (.int .u8 (c : Int)) := by
  rw [u8s_get, hc, Option.map_some, Box.ofNat_toNat c h8]

set_option maxHeartbeats 1000000 in
set_option maxRecDepth 100000 in
theorem boxtables_at (hA : Hid (∀ w : World, Calls Try.prog 7 #[] w fun e w' => e = .returned (.bool true) ∧ Below w.heap.size w w')) (a : Nat) (ha : a < 256) (w : World) (x y : List Value) (hT : Hid (∀ (w : World), Calls Try.prog 10 #[] w fun e w' => e = .returned (.tuple #[.agg x.toArray, .agg y.toArray]) ∧ Below w.heap.size w w')) (hx : Hid (Tab x Box.sboxB)) (hy : Hid (Tab y Box.backB)) :
    Calls Try.prog 4 #[.int .u8 (a : Int)] w fun e w' => e = .returned (.bool true) ∧ Below w.heap.size w w' := by
  have hsl := Box.sbox_lt a ha
  have hbl := Box.back_lt a ha
  have Hs : Hid ((u8s Box.sboxB)[a]? = some (.int .u8 ((Box.sbox a : Nat) : Int))) := Lib.hid (u8s_at (Box.sboxB_get a ha) hsl)
  have Hk : Hid ((u8s Box.backB)[a]? = some (.int .u8 ((Box.back a : Nat) : Int))) := Lib.hid (u8s_at (Box.backB_get a ha) hbl)
  generalize Box.sbox a = s at *
  generalize Box.back a = b at *
  go_enter Try.func4, Try.ntmps4
  go_wp2_with fail
  refine (hT.out w).mono ?_
  rintro e w1 ⟨rfl, hb1⟩
  have Hb := Lib.hid (hb1.trans ((laid_below w1 x y).mono hb1.size))
  have HT := Lib.hid (laid_t w1 x y)
  have HB := Lib.hid (laid_b w1 x y)
  clear hb1
  go_wp2_with (first | refine wpList_alloc_arr rfl 25 zs.toArray rfl zero_arr ?_ | refine wpList_store_arr rfl 25 (.tmp 3) (.tmp 9) w1.heap.size zs x rfl rfl rfl rfl (laid_0 w1) hx.out.size hx.out.len hx.out.one ?_ | refine wpList_store_arr rfl 25 (.tmp 4) (.tmp 10) (w1.heap.size + 1) zs y rfl rfl (by simp [Act.eval, Act.put]) rfl (laid_2 w1 x) hy.out.size hy.out.len hy.out.one ?_)
  have hW : ((((w1.alloc (.cells zs.toArray 25)).alloc (.cells zs.toArray 25)).setRow w1.heap.size x.toArray).setRow (w1.heap.size + 1) y.toArray) = laidT w1 x y := rfl
  rw [hW]
  clear hW
  generalize laidT w1 x y = w2 at *
  refine (refTables_any w2).mono ?_
  rintro e w3 ⟨gt, gb, rfl, hne, _, _, hu, hv, hb3⟩
  have HT3 := Lib.hid (HT.out.below hb3 HT.out.lt)
  have HB3 := Lib.hid (HB.out.below hb3 HB.out.lt)
  have HU3 := Lib.hid hu
  have HV3 := Lib.hid hv
  have Hb3 := bb Hb hb3
  clear hu hv hb3
  go_wp2_with fail
  refine wp_region_G grows (by kernel_rfl) ?_
  have HT4 := Lib.hid HT3.out.drew
  have HB4 := Lib.hid HB3.out.drew
  have HU4 := Lib.hid HU3.out.drew
  have HV4 := Lib.hid HV3.out.drew
  have Hb4 := Lib.hid Hb3.out.drew
  generalize w3.drew = wa at *
  refine oneG 0 23 rfl (by kernel_rfl) rfl ?_
  go_wp2_with fail
  refine (hA.out wa).mono ?_
  rintro e wb ⟨rfl, hb⟩
  have Hb5 := bb Hb4 hb
  have c1 := cell_later (HT4.out.below hb HT4.out.lt) (i := a) (by rw [hx.out.1]; exact Hs.out)
  have c2 := cell_later (HB4.out.below hb HB4.out.lt) (i := a) (by rw [hy.out.1]; exact Hk.out)
  have c3 := cell_later (HU4.out.below hb HU4.out.lt) (i := a) Hs.out
  have c4 := cell_later (HV4.out.below hb HV4.out.lt) (i := a) Hk.out
  go_wp2
  refine ⟨hb, ?_⟩
  clear hb
  refine segG (by kernel_rfl) (fun _ _ _ _ _ h => h) [1, 2, 3, 4, 5, 6, 7, 8, 9, 10, 11, 12, 13, 14, 15, 16, 17, 18, 19, 20, 21, 22, 23] [_, _, _, _, _, _, _, _, _, _, _, _, _, _, _, _, _, _, _, _, _, _, _] 0 rfl rfl (by kernel_rfl) ?_
  repeat (go_big_quiet_step (fail))
  refine wpQuiet_nil ?_
  refine wpAnyG_done (by kernel_rfl) ?_
  go_wp2
  go_ret
  exact ⟨by simp, Hb5.out⟩
theorem boxtables_walk (hM : MulC) (hI : InvC) (hT : TabC) (a : Nat) (ha : a < 256) (w : World) :
    Calls Try.prog 4 #[.int .u8 (a : Int)] w fun e w' => e = .returned (.bool true) ∧ Below w.heap.size w w' :=
  boxtables_at (Lib.hid (awake3_any hM hI hT)) a ha w _ _ (Lib.hid hT) (Lib.hid tab_s) (Lib.hid tab_b)

set_option maxHeartbeats 1000000 in
set_option maxRecDepth 100000 in
theorem boxinverts_at (HM : Hid MulC) (HI : Hid InvC) (hA : Hid (∀ w : World, Calls Try.prog 7 #[] w fun e w' => e = .returned (.bool true) ∧ Below w.heap.size w w')) (a : Nat) (ha : a < 256) (w : World) (x y : List Value) (hT : Hid (∀ (w : World), Calls Try.prog 10 #[] w fun e w' => e = .returned (.tuple #[.agg x.toArray, .agg y.toArray]) ∧ Below w.heap.size w w')) (hx : Hid (Tab x Box.sboxB)) (hy : Hid (Tab y Box.backB)) :
    Calls Try.prog 5 #[.int .u8 (a : Int)] w fun e w' => e = .returned (.bool true) ∧ Below w.heap.size w w' := by
  have hsl := Box.sbox_lt a ha
  have hbl := Box.back_lt a ha
  have hil := Box.inv_lt a ha
  have Hs : Hid ((u8s Box.sboxB)[a]? = some (.int .u8 ((Box.sbox a : Nat) : Int))) := Lib.hid (u8s_at (Box.sboxB_get a ha) hsl)
  have Hk : Hid ((u8s Box.backB)[a]? = some (.int .u8 ((Box.back a : Nat) : Int))) := Lib.hid (u8s_at (Box.backB_get a ha) hbl)
  have Hs2 : Hid ((u8s Box.sboxB)[Box.back a]? = some (.int .u8 (a : Int))) := Lib.hid (u8s_at (by rw [Box.sboxB_get _ hbl, Box.sbox_back a ha]) ha)
  have Hk2 : Hid ((u8s Box.backB)[Box.sbox a]? = some (.int .u8 (a : Int))) := Lib.hid (u8s_at (by rw [Box.backB_get _ hsl, Box.back_sbox a ha]) ha)
  have hne : (((Box.sbox a : Nat) : Int) != (a : Int)) = true := by
    have := Box.sbox_ne a ha
    rw [bne_iff_ne]; omega
  generalize Box.sbox a = s at *
  generalize Box.back a = b at *
  obtain ⟨m, hm⟩ : ∃ m, Box.mul a (Box.inv a) = m := ⟨_, rfl⟩
  have hm1 : 0 < a → m = 1 := fun h => by rw [← hm]; exact Box.inv_mul a h ha
  have hm0 : a = 0 → m = 0 := fun h => by rw [← hm, h]; rfl
  have HMM := Lib.hid hm
  clear hm
  go_enter Try.func5, Try.ntmps5
  go_wp2_with fail
  refine (hT.out w).mono ?_
  rintro e w1 ⟨rfl, hb1⟩
  have Hb := Lib.hid (hb1.trans ((laid_below w1 x y).mono hb1.size))
  have HT := Lib.hid (laid_t w1 x y)
  have HB := Lib.hid (laid_b w1 x y)
  clear hb1
  rcases Nat.eq_zero_or_pos a with h0 | h0
  · have hm := hm0 h0
    subst h0
    subst hm
    clear hm1 hm0
    go_wp2_with (first | refine wpList_alloc_arr rfl 25 zs.toArray rfl zero_arr ?_ | refine wpList_store_arr rfl 25 (.tmp 3) (.tmp 8) w1.heap.size zs x rfl rfl rfl rfl (laid_0 w1) hx.out.size hx.out.len hx.out.one ?_ | refine wpList_store_arr rfl 25 (.tmp 4) (.tmp 9) (w1.heap.size + 1) zs y rfl rfl (by simp [Act.eval, Act.put]) rfl (laid_2 w1 x) hy.out.size hy.out.len hy.out.one ?_)
    have hW : ((((w1.alloc (.cells zs.toArray 25)).alloc (.cells zs.toArray 25)).setRow w1.heap.size x.toArray).setRow (w1.heap.size + 1) y.toArray) = laidT w1 x y := rfl
    rw [hW]
    clear hW
    generalize laidT w1 x y = w2 at *
    refine (hA.out w2).mono ?_
    rintro e wb ⟨rfl, hb⟩
    have Hb5 := bb Hb hb
    have c1 := (HT.out.below hb HT.out.lt).cell 0
    have c2 := (HB.out.below hb HB.out.lt).cell 0
    have c3 := (HT.out.below hb HT.out.lt).cell b
    have c4 := (HB.out.below hb HB.out.lt).cell s
    rw [hx.out.1, Hs.out] at c1
    rw [hy.out.1, Hk.out] at c2
    rw [hx.out.1, Hs2.out] at c3
    rw [hy.out.1, Hk2.out] at c4
    clear hb
    go_wp2_with fail
    refine (HI.out 0 wb ha).mono ?_
    rintro e w4 ⟨rfl, rfl⟩
    go_wp2_with fail
    refine (HM.out 0 (Box.inv 0) _ ha hil).mono ?_
    rintro e w5 ⟨rfl, rfl⟩
    rw [HMM.out]
    go_wp2
    go_ret
    exact ⟨by have h := hne; simp at h; simp [h], Hb5.out⟩
  · have hm := hm1 h0
    subst hm
    clear hm1 hm0
    have h00 : ((a : Int) == 0) = false := by rw [beq_eq_false_iff_ne]; omega
    go_wp2_with (first | refine wpList_alloc_arr rfl 25 zs.toArray rfl zero_arr ?_ | refine wpList_store_arr rfl 25 (.tmp 3) (.tmp 8) w1.heap.size zs x rfl rfl rfl rfl (laid_0 w1) hx.out.size hx.out.len hx.out.one ?_ | refine wpList_store_arr rfl 25 (.tmp 4) (.tmp 9) (w1.heap.size + 1) zs y rfl rfl (by simp [Act.eval, Act.put]) rfl (laid_2 w1 x) hy.out.size hy.out.len hy.out.one ?_)
    have hW : ((((w1.alloc (.cells zs.toArray 25)).alloc (.cells zs.toArray 25)).setRow w1.heap.size x.toArray).setRow (w1.heap.size + 1) y.toArray) = laidT w1 x y := rfl
    rw [hW]
    clear hW
    generalize laidT w1 x y = w2 at *
    refine (hA.out w2).mono ?_
    rintro e wb ⟨rfl, hb⟩
    have Hb5 := bb Hb hb
    have c1 := (HT.out.below hb HT.out.lt).cell a
    have c2 := (HB.out.below hb HB.out.lt).cell a
    have c3 := (HT.out.below hb HT.out.lt).cell b
    have c4 := (HB.out.below hb HB.out.lt).cell s
    rw [hx.out.1, Hs.out] at c1
    rw [hy.out.1, Hk.out] at c2
    rw [hx.out.1, Hs2.out] at c3
    rw [hy.out.1, Hk2.out] at c4
    clear hb
    go_wp2_with fail
    refine (HI.out a wb ha).mono ?_
    rintro e w4 ⟨rfl, rfl⟩
    go_wp2_with fail
    refine (HM.out a (Box.inv a) _ ha hil).mono ?_
    rintro e w5 ⟨rfl, rfl⟩
    rw [HMM.out]
    go_wp2
    go_ret
    exact ⟨by simp, Hb5.out⟩
theorem boxinverts_walk (hM : MulC) (hI : InvC) (hT : TabC) (a : Nat) (ha : a < 256) (w : World) :
    Calls Try.prog 5 #[.int .u8 (a : Int)] w fun e w' => e = .returned (.bool true) ∧ Below w.heap.size w w' :=
  boxinverts_at (Lib.hid hM) (Lib.hid hI) (Lib.hid (awake3_any hM hI hT)) a ha w _ _ (Lib.hid hT) (Lib.hid tab_s) (Lib.hid tab_b)
end Go.Proofs.Ytioihcanlllfnaa
