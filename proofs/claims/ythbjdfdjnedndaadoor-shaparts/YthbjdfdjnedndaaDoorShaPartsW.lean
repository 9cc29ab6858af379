/-
  Layer 5: ShaParts, walked from the contract of sha.Of.
-/
import Derived.Test.YthbjdfdjnedndaaDoorShaLaw
import Derived.Test.YthbjdfdjnedndaaDoorReg2
namespace Go.Proofs.YthbjdfdjnedndaaDoor
open Go.ChangeShapes Go.WideShapes Go.ChangeAt Go.RowKit Go.Gar

/-- What stays as it was while the law goes on. -/
structure Sit (G : World → Prop) (w0 w : World) (A : Option Addr) (x : List UInt8) : Prop where
  g : G w
  rd : Rd w w.heap.size A x
  below : Below w0.heap.size w0 w
theorem Sit.onK {G : World → Prop} (hK : ∀ {w w' : World}, G w → Below w.heap.size w w' → G w') {w0 w w' : World} {A : Option Addr} {x : List UInt8} (h : Sit G w0 w A x) (hb : Below w.heap.size w w') : Sit G w0 w' A x :=
  ⟨hK h.g hb, (h.rd.below hb).more hb.size, h.below.trans (hb.mono h.below.size)⟩
theorem rd_cut {w : World} {B : Nat} {A : Option Addr} {x : List UInt8} (h : Rd w B A x) (cap i n : Nat) (hc : x.length ≤ cap) : Rd w B (if cap = i then A else Option.map (fun q => q.add i) A) ((x.drop i).take n) := by
  rcases h with rfl | ⟨b, o, rfl, hb, hc'⟩
  · left; simp
  · by_cases hi : cap = i
    · left
      rw [List.drop_of_length_le (by omega)]
      simp
    · rw [if_neg hi, Option.map_some, Addr.add_lit]
      refine .inr ⟨b, o + i, rfl, hb, fun j c hj => ?_⟩
      rw [List.getElem?_take] at hj
      split at hj
      · rw [List.getElem?_drop] at hj
        rw [Nat.add_assoc]
        exact hc' _ _ hj
      · cases hj
theorem sha1b {G : World → Prop} (hOK : ShaOK G) (A : Option Addr) (l : List UInt8) (len c g : Nat) (w : World) (x : Array Value) (hx : x = (u8s (Sha.of l)).toArray) (hG : G w) (hB : Blk w g 22 [.slice A len c]) (hl : len = l.length) (hr : Rd w w.heap.size A l) (hs : l.length ≤ 1048576) (hc : l.length ≤ c) :
    Calls Tryd.prog 5 #[.slice (some ⟨g, 0, none⟩) 1 1] w fun e w' => e = .returned (.agg x) ∧ Below w.heap.size w w' := by
  subst hl; subst hx
  have h := hOK.of w (some ⟨g, 0, none⟩) [(A, l, c)] 1 hG (by simpa [partV] using Cells.of_blk hB) (by
    intro p hp
    simp at hp
    subst hp
    exact ⟨hr, hc⟩) (by simpa [cat] using hs) (by simp)
  exact h.mono fun e w' ⟨h1, h2⟩ => ⟨by simpa [cat] using h1, h2⟩
theorem sha3b {G : World → Prop} (hOK : ShaOK G) (A1 A2 A3 : Option Addr) (l1 l2 l3 : List UInt8) (n1 n2 n3 c1 c2 c3 g : Nat) (w : World) (x : Array Value) (hx : x = (u8s (Sha.of (l1 ++ (l2 ++ l3)))).toArray) (hG : G w) (hB : Blk w g 22 [.slice A1 n1 c1, .slice A2 n2 c2, .slice A3 n3 c3]) (h1 : n1 = l1.length) (h2 : n2 = l2.length) (h3 : n3 = l3.length) (r1 : Rd w w.heap.size A1 l1) (r2 : Rd w w.heap.size A2 l2) (r3 : Rd w w.heap.size A3 l3)
    (hs : (l1 ++ (l2 ++ l3)).length ≤ 1048576) (k1 : l1.length ≤ c1) (k2 : l2.length ≤ c2) (k3 : l3.length ≤ c3) :
    Calls Tryd.prog 5 #[.slice (some ⟨g, 0, none⟩) 3 3] w fun e w' => e = .returned (.agg x) ∧ Below w.heap.size w w' := by
  subst h1; subst h2; subst h3; subst hx
  have h := hOK.of w (some ⟨g, 0, none⟩) [(A1, l1, c1), (A2, l2, c2), (A3, l3, c3)] 3 hG (by simpa [partV] using Cells.of_blk hB) (by
    intro p hp
    simp at hp
    rcases hp with rfl | rfl | rfl
    · exact ⟨r1, k1⟩
    · exact ⟨r2, k2⟩
    · exact ⟨r3, k3⟩) (by simpa [cat] using hs) (by simp)
  exact h.mono fun e w' ⟨h1, h2⟩ => ⟨by simpa [cat] using h1, h2⟩

set_option maxHeartbeats 2000000 in
set_option maxRecDepth 100000 in
theorem shaparts_walk {G : World → Prop} (hOK : ShaOK G) (A : Option Addr) (l x : List UInt8) (cap m a b : Nat) (w : World) (hG : G w) (hc : l.length ≤ cap) (hx : x.length = m) (hm : m = min l.length 400) (ha : a < 65536) (hb : b < 65536) (r : Rd w w.heap.size A x) :
    Calls Tryd.prog 4 #[.slice A l.length cap, .int .u16 (a : Int), .int .u16 (b : Int)] w fun e w' => e = .returned (.bool true) ∧ Below w.heap.size w w' := by
  have hm4 : m ≤ 400 := by omega
  have hmc : m ≤ cap := by omega
  have HX := Lib.hid hx
  have HM := Lib.hid hm
  have HR := Lib.hid r
  have HOK := Lib.hid hOK
  have HG := Lib.hid hG
  clear hx hm r hOK hG
  obtain ⟨i0, hi0⟩ : ∃ i0, a % (m + 1) = i0 := ⟨_, rfl⟩
  obtain ⟨k0, hk0⟩ : ∃ k0, b % (m + 1) = k0 := ⟨_, rfl⟩
  have hil : i0 ≤ m := by have := Nat.mod_lt a (show 0 < m + 1 by omega); omega
  have hkl : k0 ≤ m := by have := Nat.mod_lt b (show 0 < m + 1 by omega); omega
  have hEi : (a : Int) % ((m : Int) + 1) = (i0 : Int) := by rw [← hi0]; simp
  have hEk : (b : Int) % ((m : Int) + 1) = (k0 : Int) := by rw [← hk0]; simp
  clear hi0 hk0
  go_enter Tryd.func4, Tryd.ntmps4
  go_wp2_with fail
  refine (short5_any A l.length cap m w HM.out hc).mono ?_
  rintro e w' ⟨rfl, rfl⟩
  go_wp2_with fail
  refine wp_region_G grows (by kernel_rfl) ?_
  have HR1 : Hid (Rd w'.drew w'.drew.heap.size A x) := Lib.hid HR.out
  have HB1 := Lib.hid (Below.refl w'.heap.size w').drew
  have HG1 := Lib.hid (HOK.out.keep HG.out HB1.out)
  refine segG (by kernel_rfl) (fun _ _ _ _ _ h => h) [0, 1, 2, 3, 4, 5, 6, 7, 8, 9, 10, 11, 12, 13] [_, _, _, _, _, _, _, _, _, _, _, _, _, _] 0 rfl rfl (by kernel_rfl) ?_
  repeat (go_big_quiet_step (fail))
  refine wpQuiet_nil ?_
  refine wpAnyG_done (by kernel_rfl) ?_
  simp only [hEi, hEk]
  clear hEi hEk
  have HS0 := Lib.hid (show Sit G w' w'.drew.drew A x from ⟨HOK.out.keep HG1.out (Below.refl _ _).drew, HR.out, (Below.refl w'.heap.size w').drew.drew⟩)
  clear HR HR1 HB1 HG1 HG
  by_cases hgt : k0 < i0
  case' pos =>
    go_wp2_with fail
    obtain ⟨i, rfl⟩ : ∃ i, i = k0 := ⟨_, rfl⟩
    obtain ⟨k, rfl⟩ : ∃ k, k = i0 := ⟨_, rfl⟩
    have hik : i ≤ k := by omega
    have hkm : k ≤ m := hil
  case' neg =>
    have hgt' : i0 ≤ k0 := by omega
    go_wp2_with fail
    obtain ⟨i, rfl⟩ : ∃ i, i = i0 := ⟨_, rfl⟩
    obtain ⟨k, rfl⟩ : ∃ k, k = k0 := ⟨_, rfl⟩
    have hik : i ≤ k := by omega
    have hkm : k ≤ m := hkl
  all_goals
    clear hgt hil hkl
    refine wp_region_G grows (by kernel_rfl) ?_
    obtain ⟨w0, rfl⟩ : ∃ w0, w0 = w' := ⟨_, rfl⟩
    generalize w0.drew.drew = wa at HS0 ⊢
    refine oneG 0 34 rfl (by kernel_rfl) rfl ?_
    go_wp2_with fail
    refine (awake5_any HOK.out wa HS0.out.g).mono ?_
    rintro e wb ⟨rfl, hb⟩
    have HS1 := Lib.hid (HS0.out.onK HOK.out.keep hb)
    go_wp2
    refine ⟨hb, ?_⟩
    clear hb HS0
    refine segG (by kernel_rfl) (fun _ _ _ _ _ h => h) [1, 2, 5, 6, 7, 8, 9, 10, 11, 12, 13, 14] [_, _, _, _, _, _, _, _, _, _, _, _] 22 rfl rfl (by kernel_rfl) ?_
    repeat (go_big_quiet_step (fail))
    refine wpQuiet_nil ?_
    obtain ⟨A2, hA2⟩ : ∃ A2, (if cap = i then A else Option.map (fun q => q.add i) A) = A2 := ⟨_, rfl⟩
    obtain ⟨A3, hA3⟩ : ∃ A3, (if cap = k then A else Option.map (fun q => q.add k) A) = A3 := ⟨_, rfl⟩
    rw [hA2, hA3]
    obtain ⟨y1, hy1⟩ : ∃ y1, x.take i = y1 := ⟨_, rfl⟩
    obtain ⟨y2, hy2⟩ : ∃ y2, (x.drop i).take (k - i) = y2 := ⟨_, rfl⟩
    obtain ⟨y3, hy3⟩ : ∃ y3, (x.drop k).take (m - k) = y3 := ⟨_, rfl⟩
    have hxm := HX.out
    have HRY1 : Hid (∀ w, Sit G w0 w A x → Rd w w.heap.size A y1) := Lib.hid fun w h => by rw [← hy1]; exact h.rd.take i
    have HRY2 : Hid (∀ w, Sit G w0 w A x → Rd w w.heap.size A2 y2) := Lib.hid fun w h => by rw [← hy2, ← hA2]; exact rd_cut h.rd cap i _ (by omega)
    have HRY3 : Hid (∀ w, Sit G w0 w A x → Rd w w.heap.size A3 y3) := Lib.hid fun w h => by rw [← hy3, ← hA3]; exact rd_cut h.rd cap k _ (by omega)
    have HY1 : Hid (y1.length = i) := Lib.hid (by rw [← hy1, List.length_take]; omega)
    have HY2 : Hid (y2.length = k - i) := Lib.hid (by rw [← hy2, List.length_take, List.length_drop]; omega)
    have HY3 : Hid (y3.length = m - k) := Lib.hid (by rw [← hy3, List.length_take, List.length_drop]; omega)
    have HY : Hid (y1 ++ (y2 ++ y3) = x) := Lib.hid (by
      rw [← hy1, ← hy2, ← hy3]
      have e3 : (x.drop k).take (m - k) = (x.drop i).drop (k - i) := by rw [List.take_of_length_le (by rw [List.length_drop]; omega), List.drop_drop, show i + (k - i) = k from by omega]
      rw [e3, List.take_append_drop, List.take_append_drop])
    have HL : Hid (x.length ≤ 1048576) := Lib.hid (by omega)
    obtain ⟨D, hD⟩ : ∃ D, D = (u8s (Sha.of x)).toArray := ⟨_, rfl⟩
    obtain ⟨E, hE⟩ : ∃ E, E = (u8s (Sha.of [])).toArray := ⟨_, rfl⟩
    have HDD : Hid (∀ w, (Op.equalIn 10000 23 (.agg D) (.agg D)).run Tryd.prog w = .ok true w) := Lib.hid (by rw [hD]; exact eq32 _ (Sha.of_len _))
    have HEE : Hid (∀ w, (Op.equalIn 10000 23 (.agg E) (.agg E)).run Tryd.prog w = .ok true w) := Lib.hid (by rw [hE]; exact eq32 _ (Sha.of_len _))
    have HD := Lib.hid hD
    have HE := Lib.hid hE
    clear hD hE hy1 hy2 hy3 hA2 hA3 hxm
    refine nameG fun W hW => ?_
    have rest3 : ∀ (c0 c1 c2 c3 c4 c5 c6 c7 c8 c9 c10 c11 c12 c13 c14 c15 c16 c17 c18 c19 c20 c21 c22 c23 c24 c25 c26 c27 c28 c29 c30 c31 c32 c33 c34 c35 c36 c37 c38 c39 c40 c41 c42 c43 c44 c45 c46 c47 c49 c50 c52 c53 c55 c56 c57 c58 c59 c60 c61 c62 : Value) (wq : World), Sit G w0 wq A x → W 9 (Array.replicate 26 true ++ Array.replicate 9 false) { tmps := List.toArray (c0 :: c1 :: c2 :: c3 :: c4 :: c5 :: c6 :: c7 :: c8 :: c9 :: c10 :: c11 :: c12 :: c13 :: c14 :: c15 :: c16 :: c17 :: c18 :: c19 :: c20 :: c21 :: c22 :: c23 :: c24 :: c25 :: c26 :: c27 :: c28 :: c29 :: c30 :: c31 :: c32 :: c33 :: c34 :: c35 :: c36 :: c37 :: c38 :: c39 :: c40 :: c41 :: c42 :: c43 :: c44 :: c45 :: c46 :: c47 :: (.bool true) :: c49 :: c50 :: (.agg D) :: c52 :: c53 :: (.agg D) :: c55 :: c56 :: c57 :: c58 :: c59 :: c60 :: c61 :: c62 :: []), defers := [] } wq := by
      intro c0 c1 c2 c3 c4 c5 c6 c7 c8 c9 c10 c11 c12 c13 c14 c15 c16 c17 c18 c19 c20 c21 c22 c23 c24 c25 c26 c27 c28 c29 c30 c31 c32 c33 c34 c35 c36 c37 c38 c39 c40 c41 c42 c43 c44 c45 c46 c47 c49 c50 c52 c53 c55 c56 c57 c58 c59 c60 c61 c62 wq hS
      have HS := Lib.hid hS
      clear hS
      rw [hW]
      refine segG (by kernel_rfl) (fun _ _ _ _ _ h => h) [26, 27, 28] [_, _, _] 6 rfl rfl (by kernel_rfl) ?_
      refine wpQuiet_eql_arr 23 23 (.tmp 51) (.tmp 54) rfl rfl rfl true Tryd.guard32 HDD.out (by kernel_rfl) ?_
      simp only [Act.put, List.setIfInBounds_toArray, List.set]
      repeat (go_big_quiet_step (fail))
      refine wpQuiet_nil ?_
      refine twoG 29 30 5 rfl (by kernel_rfl) rfl rfl ?_ ?_
      · go_wp2_with fail
        refine (sha0 HOK.out none 0 wq E (by rw [HE.out]) HS.out.g).mono ?_
        rintro e wp1 ⟨rfl, hb⟩
        have S1 := Lib.hid (HS.out.onK HOK.out.keep hb)
        go_wp2
        refine ⟨hb, ?_⟩
        clear hb
        refine oneG 30 4 rfl (by kernel_rfl) rfl ?_
        have S2 := Lib.hid (S1.out.onK HOK.out.keep (below_alloc wp1 (.cells ([.slice none 0 0] : List Value).toArray 22)))
        have P2 := Lib.hid (Blk.new wp1 22 [.slice none 0 0])
        go_wp2
        refine ⟨below_alloc _ _, ?_⟩
        generalize wp1.heap.size = P2g at P2 ⊢
        generalize wp1.alloc (.cells ([.slice none 0 0] : List Value).toArray 22) = wp2 at S2 P2  ⊢
        refine oneG 31 3 rfl (by kernel_rfl) rfl ?_
        go_wp2_with fail
        refine (sha1b HOK.out none [] 0 0 P2g wp2 E (by rw [HE.out]) S2.out.g P2.out rfl Rd.nil (by simp) (by simp)).mono ?_
        rintro e wp3 ⟨rfl, hb⟩
        have S3 := Lib.hid (S2.out.onK HOK.out.keep hb)
        have P2_3 := Lib.hid (P2.out.below hb P2.out.lt)
        go_wp2
        refine ⟨hb, ?_⟩
        clear hb
        refine segG (by kernel_rfl) (fun _ _ _ _ _ h => h) [32, 33, 34] [_, _, _] 0 rfl rfl (by kernel_rfl) ?_
        refine wpQuiet_eql_arr 23 23 (.tmp 58) (.tmp 60) rfl rfl rfl true Tryd.guard32 HEE.out (by kernel_rfl) ?_
        simp only [Act.put, List.setIfInBounds_toArray, List.set]
        repeat (go_big_quiet_step (fail))
        refine wpQuiet_nil ?_
        refine wpAnyG_done (by kernel_rfl) ?_
        go_wp2
        go_ret
        exact ⟨rfl, S3.out.below⟩
      · have S1 := Lib.hid (HS.out.onK HOK.out.keep (below_alloc wq (.cells ([.slice none 0 0] : List Value).toArray 22)))
        have P2 := Lib.hid (Blk.new wq 22 [.slice none 0 0])
        go_wp2
        refine ⟨below_alloc _ _, ?_⟩
        generalize wq.heap.size = P2g at P2 ⊢
        generalize wq.alloc (.cells ([.slice none 0 0] : List Value).toArray 22) = wp1 at S1 P2  ⊢
        refine oneG 29 4 rfl (by kernel_rfl) rfl ?_
        go_wp2_with fail
        refine (sha0 HOK.out none 0 wp1 E (by rw [HE.out]) S1.out.g).mono ?_
        rintro e wp2 ⟨rfl, hb⟩
        have S2 := Lib.hid (S1.out.onK HOK.out.keep hb)
        have P2_2 := Lib.hid (P2.out.below hb P2.out.lt)
        go_wp2
        refine ⟨hb, ?_⟩
        clear hb
        refine oneG 31 3 rfl (by kernel_rfl) rfl ?_
        go_wp2_with fail
        refine (sha1b HOK.out none [] 0 0 P2g wp2 E (by rw [HE.out]) S2.out.g P2_2.out rfl Rd.nil (by simp) (by simp)).mono ?_
        rintro e wp3 ⟨rfl, hb⟩
        have S3 := Lib.hid (S2.out.onK HOK.out.keep hb)
        have P2_3 := Lib.hid (P2_2.out.below hb P2_2.out.lt)
        go_wp2
        refine ⟨hb, ?_⟩
        clear hb
        refine segG (by kernel_rfl) (fun _ _ _ _ _ h => h) [32, 33, 34] [_, _, _] 0 rfl rfl (by kernel_rfl) ?_
        refine wpQuiet_eql_arr 23 23 (.tmp 58) (.tmp 60) rfl rfl rfl true Tryd.guard32 HEE.out (by kernel_rfl) ?_
        simp only [Act.put, List.setIfInBounds_toArray, List.set]
        repeat (go_big_quiet_step (fail))
        refine wpQuiet_nil ?_
        refine wpAnyG_done (by kernel_rfl) ?_
        go_wp2
        go_ret
        exact ⟨rfl, S3.out.below⟩
    have rest2 : ∀ (c0 c1 c2 c3 c4 c5 c6 c8 c9 c10 c11 c12 c13 c14 c15 c16 c17 c18 c19 c20 c21 c22 c23 c24 c25 c26 c27 c28 c29 c31 c32 c34 c35 c36 c37 c38 c39 c40 c41 c42 c43 c44 c46 c47 c48 c49 c50 c51 c52 c53 c54 c55 c56 c57 c58 c59 c60 c61 c62 : Value) (wq : World), Sit G w0 wq A x → W 18 (Array.replicate 17 true ++ Array.replicate 18 false) { tmps := List.toArray (c0 :: c1 :: c2 :: c3 :: c4 :: c5 :: c6 :: (.slice A m cap) :: c8 :: c9 :: c10 :: c11 :: c12 :: c13 :: c14 :: c15 :: c16 :: c17 :: c18 :: c19 :: c20 :: c21 :: c22 :: c23 :: c24 :: c25 :: c26 :: c27 :: c28 :: c29 :: (.bool true) :: c31 :: c32 :: (.agg D) :: c34 :: c35 :: c36 :: c37 :: c38 :: c39 :: c40 :: c41 :: c42 :: c43 :: c44 :: (.agg D) :: c46 :: c47 :: c48 :: c49 :: c50 :: c51 :: c52 :: c53 :: c54 :: c55 :: c56 :: c57 :: c58 :: c59 :: c60 :: c61 :: c62 :: []), defers := [] } wq := by
      intro c0 c1 c2 c3 c4 c5 c6 c8 c9 c10 c11 c12 c13 c14 c15 c16 c17 c18 c19 c20 c21 c22 c23 c24 c25 c26 c27 c28 c29 c31 c32 c34 c35 c36 c37 c38 c39 c40 c41 c42 c43 c44 c46 c47 c48 c49 c50 c51 c52 c53 c54 c55 c56 c57 c58 c59 c60 c61 c62 wq hS
      have HS := Lib.hid hS
      clear hS
      rw [hW]
      refine segG (by kernel_rfl) (fun _ _ _ _ _ h => h) [17, 18, 19, 20, 23] [_, _, _, _, _] 13 rfl rfl (by kernel_rfl) ?_
      refine wpQuiet_eql_arr 23 23 (.tmp 33) (.tmp 45) rfl rfl rfl true Tryd.guard32 HDD.out (by kernel_rfl) ?_
      simp only [Act.put, List.setIfInBounds_toArray, List.set]
      repeat (go_big_quiet_step (fail))
      refine wpQuiet_nil ?_
      refine twoG 21 24 12 rfl (by kernel_rfl) rfl rfl ?_ ?_
      · have S1 := Lib.hid (HS.out.onK HOK.out.keep (below_alloc wq (.cells ([.slice A m cap] : List Value).toArray 22)))
        have P1 := Lib.hid (Blk.new wq 22 [.slice A m cap])
        go_wp2
        refine ⟨below_alloc _ _, ?_⟩
        generalize wq.heap.size = P1g at P1 ⊢
        generalize wq.alloc (.cells ([.slice A m cap] : List Value).toArray 22) = wp1 at S1 P1  ⊢
        refine twoG 22 24 11 rfl (by kernel_rfl) rfl rfl ?_ ?_
        · go_wp2_with fail
          refine (sha1b HOK.out A x m cap P1g wp1 D (by rw [HD.out]) S1.out.g P1.out HX.out.symm S1.out.rd HL.out (by rw [HX.out]; exact hmc)).mono ?_
          rintro e wp2 ⟨rfl, hb⟩
          have S2 := Lib.hid (S1.out.onK HOK.out.keep hb)
          have P1_2 := Lib.hid (P1.out.below hb P1.out.lt)
          go_wp2
          refine ⟨hb, ?_⟩
          clear hb
          refine oneG 24 10 rfl (by kernel_rfl) rfl ?_
          have S3 := Lib.hid (S2.out.onK HOK.out.keep (below_alloc wp2 (.cells ([.slice none 0 0, .slice A m cap, .slice none 0 0] : List Value).toArray 22)))
          have P2 := Lib.hid (Blk.new wp2 22 [.slice none 0 0, .slice A m cap, .slice none 0 0])
          have P1_3 := Lib.hid (P1_2.out.alloc (.cells ([.slice none 0 0, .slice A m cap, .slice none 0 0] : List Value).toArray 22))
          go_wp2
          refine ⟨below_alloc _ _, ?_⟩
          generalize wp2.heap.size = P2g at P2 ⊢
          generalize wp2.alloc (.cells ([.slice none 0 0, .slice A m cap, .slice none 0 0] : List Value).toArray 22) = wp3 at S3 P2 P1_3 ⊢
          refine oneG 25 9 rfl (by kernel_rfl) rfl ?_
          go_wp2_with fail
          refine (sha3b HOK.out none A none [] x [] 0 m 0 0 cap 0 P2g wp3 D (by rw [HD.out]; simp) S3.out.g P2.out rfl HX.out.symm rfl Rd.nil S3.out.rd Rd.nil (by simpa using HL.out) (by simp) (by rw [HX.out]; exact hmc) (by simp)).mono ?_
          rintro e wp4 ⟨rfl, hb⟩
          have S4 := Lib.hid (S3.out.onK HOK.out.keep hb)
          have P1_4 := Lib.hid (P1_3.out.below hb P1_3.out.lt)
          have P2_4 := Lib.hid (P2.out.below hb P2.out.lt)
          go_wp2
          refine ⟨hb, ?_⟩
          clear hb
          exact sameG (by kernel_rfl) (hW ▸ rest3 _ _ _ _ _ _ _ _ _ _ _ _ _ _ _ _ _ _ _ _ _ _ _ _ _ _ _ _ _ _ _ _ _ _ _ _ _ _ _ _ _ _ _ _ _ _ _ _ _ _ _ _ _ _ _ _ _ _ _ _ wp4 S4.out)
        · have S2 := Lib.hid (S1.out.onK HOK.out.keep (below_alloc wp1 (.cells ([.slice none 0 0, .slice A m cap, .slice none 0 0] : List Value).toArray 22)))
          have P2 := Lib.hid (Blk.new wp1 22 [.slice none 0 0, .slice A m cap, .slice none 0 0])
          have P1_2 := Lib.hid (P1.out.alloc (.cells ([.slice none 0 0, .slice A m cap, .slice none 0 0] : List Value).toArray 22))
          go_wp2
          refine ⟨below_alloc _ _, ?_⟩
          generalize wp1.heap.size = P2g at P2 ⊢
          generalize wp1.alloc (.cells ([.slice none 0 0, .slice A m cap, .slice none 0 0] : List Value).toArray 22) = wp2 at S2 P2 P1_2 ⊢
          refine oneG 22 10 rfl (by kernel_rfl) rfl ?_
          go_wp2_with fail
          refine (sha1b HOK.out A x m cap P1g wp2 D (by rw [HD.out]) S2.out.g P1_2.out HX.out.symm S2.out.rd HL.out (by rw [HX.out]; exact hmc)).mono ?_
          rintro e wp3 ⟨rfl, hb⟩
          have S3 := Lib.hid (S2.out.onK HOK.out.keep hb)
          have P1_3 := Lib.hid (P1_2.out.below hb P1_2.out.lt)
          have P2_3 := Lib.hid (P2.out.below hb P2.out.lt)
          go_wp2
          refine ⟨hb, ?_⟩
          clear hb
          refine oneG 25 9 rfl (by kernel_rfl) rfl ?_
          go_wp2_with fail
          refine (sha3b HOK.out none A none [] x [] 0 m 0 0 cap 0 P2g wp3 D (by rw [HD.out]; simp) S3.out.g P2_3.out rfl HX.out.symm rfl Rd.nil S3.out.rd Rd.nil (by simpa using HL.out) (by simp) (by rw [HX.out]; exact hmc) (by simp)).mono ?_
          rintro e wp4 ⟨rfl, hb⟩
          have S4 := Lib.hid (S3.out.onK HOK.out.keep hb)
          have P1_4 := Lib.hid (P1_3.out.below hb P1_3.out.lt)
          have P2_4 := Lib.hid (P2_3.out.below hb P2_3.out.lt)
          go_wp2
          refine ⟨hb, ?_⟩
          clear hb
          exact sameG (by kernel_rfl) (hW ▸ rest3 _ _ _ _ _ _ _ _ _ _ _ _ _ _ _ _ _ _ _ _ _ _ _ _ _ _ _ _ _ _ _ _ _ _ _ _ _ _ _ _ _ _ _ _ _ _ _ _ _ _ _ _ _ _ _ _ _ _ _ _ wp4 S4.out)
      · have S1 := Lib.hid (HS.out.onK HOK.out.keep (below_alloc wq (.cells ([.slice none 0 0, .slice A m cap, .slice none 0 0] : List Value).toArray 22)))
        have P2 := Lib.hid (Blk.new wq 22 [.slice none 0 0, .slice A m cap, .slice none 0 0])
        go_wp2
        refine ⟨below_alloc _ _, ?_⟩
        generalize wq.heap.size = P2g at P2 ⊢
        generalize wq.alloc (.cells ([.slice none 0 0, .slice A m cap, .slice none 0 0] : List Value).toArray 22) = wp1 at S1 P2  ⊢
        refine oneG 21 11 rfl (by kernel_rfl) rfl ?_
        have S2 := Lib.hid (S1.out.onK HOK.out.keep (below_alloc wp1 (.cells ([.slice A m cap] : List Value).toArray 22)))
        have P1 := Lib.hid (Blk.new wp1 22 [.slice A m cap])
        have P2_2 := Lib.hid (P2.out.alloc (.cells ([.slice A m cap] : List Value).toArray 22))
        go_wp2
        refine ⟨below_alloc _ _, ?_⟩
        generalize wp1.heap.size = P1g at P1 ⊢
        generalize wp1.alloc (.cells ([.slice A m cap] : List Value).toArray 22) = wp2 at S2 P1 P2_2 ⊢
        refine oneG 22 10 rfl (by kernel_rfl) rfl ?_
        go_wp2_with fail
        refine (sha1b HOK.out A x m cap P1g wp2 D (by rw [HD.out]) S2.out.g P1.out HX.out.symm S2.out.rd HL.out (by rw [HX.out]; exact hmc)).mono ?_
        rintro e wp3 ⟨rfl, hb⟩
        have S3 := Lib.hid (S2.out.onK HOK.out.keep hb)
        have P2_3 := Lib.hid (P2_2.out.below hb P2_2.out.lt)
        have P1_3 := Lib.hid (P1.out.below hb P1.out.lt)
        go_wp2
        refine ⟨hb, ?_⟩
        clear hb
        refine oneG 25 9 rfl (by kernel_rfl) rfl ?_
        go_wp2_with fail
        refine (sha3b HOK.out none A none [] x [] 0 m 0 0 cap 0 P2g wp3 D (by rw [HD.out]; simp) S3.out.g P2_3.out rfl HX.out.symm rfl Rd.nil S3.out.rd Rd.nil (by simpa using HL.out) (by simp) (by rw [HX.out]; exact hmc) (by simp)).mono ?_
        rintro e wp4 ⟨rfl, hb⟩
        have S4 := Lib.hid (S3.out.onK HOK.out.keep hb)
        have P2_4 := Lib.hid (P2_3.out.below hb P2_3.out.lt)
        have P1_4 := Lib.hid (P1_3.out.below hb P1_3.out.lt)
        go_wp2
        refine ⟨hb, ?_⟩
        clear hb
        exact sameG (by kernel_rfl) (hW ▸ rest3 _ _ _ _ _ _ _ _ _ _ _ _ _ _ _ _ _ _ _ _ _ _ _ _ _ _ _ _ _ _ _ _ _ _ _ _ _ _ _ _ _ _ _ _ _ _ _ _ _ _ _ _ _ _ _ _ _ _ _ _ wp4 S4.out)
    rw [hW]
    obtain ⟨wq, rfl⟩ : ∃ wq, wq = wb := ⟨_, rfl⟩
    have HS := HS1
    clear HS1
    refine twoG 3 15 21 rfl (by kernel_rfl) rfl rfl ?_ ?_
    · have S1 := Lib.hid (HS.out.onK HOK.out.keep (below_alloc wq (.cells ([.slice A m cap] : List Value).toArray 22)))
      have P1 := Lib.hid (Blk.new wq 22 [.slice A m cap])
      go_wp2
      refine ⟨below_alloc _ _, ?_⟩
      generalize wq.heap.size = P1g at P1 ⊢
      generalize wq.alloc (.cells ([.slice A m cap] : List Value).toArray 22) = wp1 at S1 P1  ⊢
      refine twoG 4 15 20 rfl (by kernel_rfl) rfl rfl ?_ ?_
      · go_wp2_with fail
        refine (sha1b HOK.out A x m cap P1g wp1 D (by rw [HD.out]) S1.out.g P1.out HX.out.symm S1.out.rd HL.out (by rw [HX.out]; exact hmc)).mono ?_
        rintro e wp2 ⟨rfl, hb⟩
        have S2 := Lib.hid (S1.out.onK HOK.out.keep hb)
        have P1_2 := Lib.hid (P1.out.below hb P1.out.lt)
        go_wp2
        refine ⟨hb, ?_⟩
        clear hb
        refine oneG 15 19 rfl (by kernel_rfl) rfl ?_
        have S3 := Lib.hid (S2.out.onK HOK.out.keep (below_alloc wp2 (.cells ([.slice A i cap, .slice A2 (k - i) (cap - i), .slice A3 (m - k) (cap - k)] : List Value).toArray 22)))
        have P2 := Lib.hid (Blk.new wp2 22 [.slice A i cap, .slice A2 (k - i) (cap - i), .slice A3 (m - k) (cap - k)])
        have P1_3 := Lib.hid (P1_2.out.alloc (.cells ([.slice A i cap, .slice A2 (k - i) (cap - i), .slice A3 (m - k) (cap - k)] : List Value).toArray 22))
        go_wp2
        refine ⟨below_alloc _ _, ?_⟩
        generalize wp2.heap.size = P2g at P2 ⊢
        generalize wp2.alloc (.cells ([.slice A i cap, .slice A2 (k - i) (cap - i), .slice A3 (m - k) (cap - k)] : List Value).toArray 22) = wp3 at S3 P2 P1_3 ⊢
        refine oneG 16 18 rfl (by kernel_rfl) rfl ?_
        go_wp2_with fail
        refine (sha3b HOK.out A A2 A3 y1 y2 y3 i (k - i) (m - k) cap (cap - i) (cap - k) P2g wp3 D (by rw [HD.out, HY.out]) S3.out.g P2.out HY1.out.symm HY2.out.symm HY3.out.symm (HRY1.out wp3 S3.out) (HRY2.out wp3 S3.out) (HRY3.out wp3 S3.out) (by rw [HY.out]; exact HL.out) (by rw [HY1.out]; omega) (by rw [HY2.out]; omega) (by rw [HY3.out]; omega)).mono ?_
        rintro e wp4 ⟨rfl, hb⟩
        have S4 := Lib.hid (S3.out.onK HOK.out.keep hb)
        have P1_4 := Lib.hid (P1_3.out.below hb P1_3.out.lt)
        have P2_4 := Lib.hid (P2.out.below hb P2.out.lt)
        go_wp2
        refine ⟨hb, ?_⟩
        clear hb
        exact sameG (by kernel_rfl) (hW ▸ rest2 _ _ _ _ _ _ _ _ _ _ _ _ _ _ _ _ _ _ _ _ _ _ _ _ _ _ _ _ _ _ _ _ _ _ _ _ _ _ _ _ _ _ _ _ _ _ _ _ _ _ _ _ _ _ _ _ _ _ _ wp4 S4.out)
      · have S2 := Lib.hid (S1.out.onK HOK.out.keep (below_alloc wp1 (.cells ([.slice A i cap, .slice A2 (k - i) (cap - i), .slice A3 (m - k) (cap - k)] : List Value).toArray 22)))
        have P2 := Lib.hid (Blk.new wp1 22 [.slice A i cap, .slice A2 (k - i) (cap - i), .slice A3 (m - k) (cap - k)])
        have P1_2 := Lib.hid (P1.out.alloc (.cells ([.slice A i cap, .slice A2 (k - i) (cap - i), .slice A3 (m - k) (cap - k)] : List Value).toArray 22))
        go_wp2
        refine ⟨below_alloc _ _, ?_⟩
        generalize wp1.heap.size = P2g at P2 ⊢
        generalize wp1.alloc (.cells ([.slice A i cap, .slice A2 (k - i) (cap - i), .slice A3 (m - k) (cap - k)] : List Value).toArray 22) = wp2 at S2 P2 P1_2 ⊢
        refine oneG 4 19 rfl (by kernel_rfl) rfl ?_
        go_wp2_with fail
        refine (sha1b HOK.out A x m cap P1g wp2 D (by rw [HD.out]) S2.out.g P1_2.out HX.out.symm S2.out.rd HL.out (by rw [HX.out]; exact hmc)).mono ?_
        rintro e wp3 ⟨rfl, hb⟩
        have S3 := Lib.hid (S2.out.onK HOK.out.keep hb)
        have P1_3 := Lib.hid (P1_2.out.below hb P1_2.out.lt)
        have P2_3 := Lib.hid (P2.out.below hb P2.out.lt)
        go_wp2
        refine ⟨hb, ?_⟩
        clear hb
        refine oneG 16 18 rfl (by kernel_rfl) rfl ?_
        go_wp2_with fail
        refine (sha3b HOK.out A A2 A3 y1 y2 y3 i (k - i) (m - k) cap (cap - i) (cap - k) P2g wp3 D (by rw [HD.out, HY.out]) S3.out.g P2_3.out HY1.out.symm HY2.out.symm HY3.out.symm (HRY1.out wp3 S3.out) (HRY2.out wp3 S3.out) (HRY3.out wp3 S3.out) (by rw [HY.out]; exact HL.out) (by rw [HY1.out]; omega) (by rw [HY2.out]; omega) (by rw [HY3.out]; omega)).mono ?_
        rintro e wp4 ⟨rfl, hb⟩
        have S4 := Lib.hid (S3.out.onK HOK.out.keep hb)
        have P1_4 := Lib.hid (P1_3.out.below hb P1_3.out.lt)
        have P2_4 := Lib.hid (P2_3.out.below hb P2_3.out.lt)
        go_wp2
        refine ⟨hb, ?_⟩
        clear hb
        exact sameG (by kernel_rfl) (hW ▸ rest2 _ _ _ _ _ _ _ _ _ _ _ _ _ _ _ _ _ _ _ _ _ _ _ _ _ _ _ _ _ _ _ _ _ _ _ _ _ _ _ _ _ _ _ _ _ _ _ _ _ _ _ _ _ _ _ _ _ _ _ wp4 S4.out)
    · have S1 := Lib.hid (HS.out.onK HOK.out.keep (below_alloc wq (.cells ([.slice A i cap, .slice A2 (k - i) (cap - i), .slice A3 (m - k) (cap - k)] : List Value).toArray 22)))
      have P2 := Lib.hid (Blk.new wq 22 [.slice A i cap, .slice A2 (k - i) (cap - i), .slice A3 (m - k) (cap - k)])
      go_wp2
      refine ⟨below_alloc _ _, ?_⟩
      generalize wq.heap.size = P2g at P2 ⊢
      generalize wq.alloc (.cells ([.slice A i cap, .slice A2 (k - i) (cap - i), .slice A3 (m - k) (cap - k)] : List Value).toArray 22) = wp1 at S1 P2  ⊢
      refine oneG 3 20 rfl (by kernel_rfl) rfl ?_
      have S2 := Lib.hid (S1.out.onK HOK.out.keep (below_alloc wp1 (.cells ([.slice A m cap] : List Value).toArray 22)))
      have P1 := Lib.hid (Blk.new wp1 22 [.slice A m cap])
      have P2_2 := Lib.hid (P2.out.alloc (.cells ([.slice A m cap] : List Value).toArray 22))
      go_wp2
      refine ⟨below_alloc _ _, ?_⟩
      generalize wp1.heap.size = P1g at P1 ⊢
      generalize wp1.alloc (.cells ([.slice A m cap] : List Value).toArray 22) = wp2 at S2 P1 P2_2 ⊢
      refine oneG 4 19 rfl (by kernel_rfl) rfl ?_
      go_wp2_with fail
      refine (sha1b HOK.out A x m cap P1g wp2 D (by rw [HD.out]) S2.out.g P1.out HX.out.symm S2.out.rd HL.out (by rw [HX.out]; exact hmc)).mono ?_
      rintro e wp3 ⟨rfl, hb⟩
      have S3 := Lib.hid (S2.out.onK HOK.out.keep hb)
      have P2_3 := Lib.hid (P2_2.out.below hb P2_2.out.lt)
      have P1_3 := Lib.hid (P1.out.below hb P1.out.lt)
      go_wp2
      refine ⟨hb, ?_⟩
      clear hb
      refine oneG 16 18 rfl (by kernel_rfl) rfl ?_
      go_wp2_with fail
      refine (sha3b HOK.out A A2 A3 y1 y2 y3 i (k - i) (m - k) cap (cap - i) (cap - k) P2g wp3 D (by rw [HD.out, HY.out]) S3.out.g P2_3.out HY1.out.symm HY2.out.symm HY3.out.symm (HRY1.out wp3 S3.out) (HRY2.out wp3 S3.out) (HRY3.out wp3 S3.out) (by rw [HY.out]; exact HL.out) (by rw [HY1.out]; omega) (by rw [HY2.out]; omega) (by rw [HY3.out]; omega)).mono ?_
      rintro e wp4 ⟨rfl, hb⟩
      have S4 := Lib.hid (S3.out.onK HOK.out.keep hb)
      have P2_4 := Lib.hid (P2_3.out.below hb P2_3.out.lt)
      have P1_4 := Lib.hid (P1_3.out.below hb P1_3.out.lt)
      go_wp2
      refine ⟨hb, ?_⟩
      clear hb
      exact sameG (by kernel_rfl) (hW ▸ rest2 _ _ _ _ _ _ _ _ _ _ _ _ _ _ _ _ _ _ _ _ _ _ _ _ _ _ _ _ _ _ _ _ _ _ _ _ _ _ _ _ _ _ _ _ _ _ _ _ _ _ _ _ _ _ _ _ _ _ _ wp4 S4.out)
end Go.Proofs.YthbjdfdjnedndaaDoor
