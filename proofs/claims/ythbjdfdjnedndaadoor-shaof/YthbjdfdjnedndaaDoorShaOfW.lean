/-
  Layer 5: ShaOf, walked from the contract of sha.Of.
-/
import Derived.Test.YthbjdfdjnedndaaDoorShaLaw
import Derived.Test.YthbjdfdjnedndaaDoorShaRefO
namespace Go.Proofs.YthbjdfdjnedndaaDoor
open Go.ChangeShapes Go.WideShapes Go.ChangeAt Go.RowKit Go.Gar

/-- The world behind 'x := f()', a digest. -/
def laid1 (w : World) (x : List Value) : World := (w.alloc (.cells z32.toArray 23)).setRow w.heap.size x.toArray
theorem l1_0 (w : World) : Blk (w.alloc (.cells z32.toArray 23)) w.heap.size 23 z32 := Blk.new w _ z32
theorem l1_t (w : World) (x : List Value) : Blk (laid1 w x) w.heap.size 23 x := (l1_0 w).row x
theorem l1_below (w : World) (x : List Value) : Below w.heap.size w (laid1 w x) := below_setRow (below_alloc w _) (Nat.le_refl _) _

/-- string(x[:]) of a digest, in every world to which memory may have grown. -/
theorem string_of_arr {w : World} {g : Nat} {t : TypeId} {k : List UInt8} (h : Blk w g t (u8s k)) (hl : k.length = 32) :
    ∀ x : Later grows w, (convert 22 9 (.slice (some ⟨g, 0, none⟩) 32 32)).run Tryd.prog x.to = .ok (.string ⟨k.toArray⟩) x.to := by
  intro x
  have hx : Below w.heap.size w x.to := x.grown
  have := run_string_rd (P := Tryd.prog) 22 9 5 Tryd.und22 Tryd.und5 Tryd.und9 _ _ _ 32 (Rd.of_all (h.below hx h.lt))
  rw [hl] at this
  exact this

set_option maxHeartbeats 2000000 in
set_option maxRecDepth 100000 in
theorem shaof_walk {G : World → Prop} (hOK : ShaOK G) (A1 A2 A3 : Option Addr) (l1 l2 l3 x1 x2 x3 : List UInt8) (k1 k2 k3 m1 m2 m3 : Nat) (w : World) (hG : G w) (hc1 : l1.length ≤ k1) (hc2 : l2.length ≤ k2) (hc3 : l3.length ≤ k3)
    (hx1 : x1.length = m1) (hx2 : x2.length = m2) (hx3 : x3.length = m3) (hm1 : m1 = min l1.length 400) (hm2 : m2 = min l2.length 400) (hm3 : m3 = min l3.length 400)
    (r1 : Rd w w.heap.size A1 x1) (r2 : Rd w w.heap.size A2 x2) (r3 : Rd w w.heap.size A3 x3) :
    Calls Tryd.prog 3 #[.slice A1 l1.length k1, .slice A2 l2.length k2, .slice A3 l3.length k3] w fun e w' => e = .returned (.bool true) ∧ Below w.heap.size w w' := by
  have b1 : m1 ≤ 400 := by omega
  have b2 : m2 ≤ 400 := by omega
  have b3 : m3 ≤ 400 := by omega
  have hlX : (x1 ++ (x2 ++ x3)).length ≤ 1200 := by simp; omega
  obtain ⟨X, hX⟩ : ∃ X, x1 ++ (x2 ++ x3) = X := ⟨_, rfl⟩
  obtain ⟨D, hD⟩ : ∃ D, u8s (Sha.of X) = D := ⟨_, rfl⟩
  rw [hX] at hlX
  have HLX := Lib.hid hlX
  have HX := Lib.hid hX
  have HD := Lib.hid hD
  have HX1 := Lib.hid hx1
  have HX2 := Lib.hid hx2
  have HX3 := Lib.hid hx3
  have HM1 := Lib.hid hm1
  have HM2 := Lib.hid hm2
  have HM3 := Lib.hid hm3
  have HR1 := Lib.hid r1
  have HR2 := Lib.hid r2
  have HR3 := Lib.hid r3
  have HOK := Lib.hid hOK
  have HG := Lib.hid hG
  clear hX hD hlX hx1 hx2 hx3 hm1 hm2 hm3 r1 r2 r3 hOK hG
  go_enter Tryd.func3, Tryd.ntmps3
  go_wp2_with fail
  refine (short5_any A1 l1.length k1 m1 w HM1.out hc1).mono ?_
  rintro e w' ⟨rfl, rfl⟩
  go_wp2_with fail
  refine (short5_any A2 l2.length k2 m2 w' HM2.out hc2).mono ?_
  rintro e w'' ⟨rfl, rfl⟩
  go_wp2_with fail
  refine (short5_any A3 l3.length k3 m3 w'' HM3.out hc3).mono ?_
  rintro e w ⟨rfl, rfl⟩
  go_wp2_with fail
  refine (sha3 HOK.out A1 A2 A3 x1 x2 x3 m1 m2 m3 k1 k2 k3 _ w D.toArray (by rw [← HD.out, HX.out]) HG.out rfl HX1.out.symm HX2.out.symm HX3.out.symm HR1.out HR2.out HR3.out (by rw [HX.out]; have := HLX.out; omega) (by rw [HX1.out]; have := HM1.out; omega) (by rw [HX2.out]; have := HM2.out; omega) (by rw [HX3.out]; have := HM3.out; omega)).mono ?_
  rintro e w2 ⟨rfl, hb2⟩
  have HDs : Hid ((Tryd.prog.info? 23).map (·.size) = some D.length) := Lib.hid (by rw [← HD.out]; exact size_32 _ (Sha.of_len _))
  have HDl : Hid (z32.length = D.length) := Lib.hid (by rw [← HD.out, u8s_len, Sha.of_len, z32_len])
  have HD1 : Hid (∀ u ∈ D, u.oneCell' = true) := Lib.hid (by rw [← HD.out]; exact u8s_one _)
  have hb3 := hb2.trans ((l1_below w2 D).mono hb2.size)
  -- the three texts joined, ahead of the walk
  have hbO := below_alloc (laid1 w2 D) (.cells #[] 5)
  have hOw := own_made (laid1 w2 D) (laid1 w2 D).heap.size 5 (Nat.le_refl _)
  have rr : ∀ {A : Option Addr} {x : List UInt8}, Rd w w.heap.size A x → Rd (laid1 w2 D) (laid1 w2 D).heap.size A x := fun r => (r.below hb3).more hb3.size
  obtain ⟨v1, wa1, e1, o1, n1, -⟩ := app_rd (P := Tryd.prog) 22 22 Tryd.und22 Tryd.info5 hOw hbO.size k1 ((rr HR1.out).below hbO) (by rw [HX1.out]; simp; omega)
  have B1 := hbO.trans n1
  obtain ⟨v2, wa2, e2, o2, n2, -⟩ := app_rd (P := Tryd.prog) 22 22 Tryd.und22 Tryd.info5 o1 B1.size k2 ((rr HR2.out).below B1) (by rw [List.length_append, HX1.out, HX2.out]; simp; omega)
  have B2 := B1.trans n2
  obtain ⟨v3, wa3, e3, o3, n3, -⟩ := app_rd (P := Tryd.prog) 22 22 Tryd.und22 Tryd.info5 o2 B2.size k3 ((rr HR3.out).below B2) (by rw [List.length_append, List.length_append, HX1.out, HX2.out, HX3.out]; simp; omega)
  have B3 := B2.trans n3
  simp only [List.nil_append, List.append_assoc] at o3
  rw [HX.out] at o3
  obtain ⟨A4, k4, rfl, r4⟩ := o3.rd
  obtain ⟨m4, hm4⟩ : ∃ m4, X.length = m4 := ⟨_, rfl⟩
  rw [hm4, HX3.out] at e3
  rw [HX1.out] at e1
  rw [HX2.out] at e2
  have HM4 := Lib.hid hm4
  have HR4 := Lib.hid r4
  have HB4 := Lib.hid (hb3.trans (B3.mono hb3.size))
  have HT4 := Lib.hid ((l1_t w2 D).below B3 (l1_t w2 D).lt)
  clear hOw hbO o1 n1 B1 o2 n2 B2 o3 n3 B3 hm4 r4 rr hb3 hb2
  go_wp2_with (first | refine wpList_alloc_arr rfl 23 z32.toArray rfl zero_32 ?_ | (refine wpList_store_arr rfl 23 (.tmp 7) (.tmp 16) w2.heap.size z32 D rfl rfl rfl rfl (l1_0 w2) HDs.out HDl.out HD1.out ?_; rw [show (w2.alloc (.cells z32.toArray 23)).setRow w2.heap.size D.toArray = laid1 w2 D from rfl]; generalize laid1 w2 D = w3 at e1 e2 e3 ⊢))
  refine (short5_any A1 l1.length k1 m1 _ HM1.out hc1).mono ?_
  rintro e w' ⟨rfl, rfl⟩
  go_wp2_with (at_builtin; refine wpList_append_run rfl (.tmp 17) (.tmp 19) _ rfl rfl rfl e1 ?_)
  refine (short5_any A2 l2.length k2 m2 _ HM2.out hc2).mono ?_
  rintro e w' ⟨rfl, rfl⟩
  go_wp2_with (at_builtin; refine wpList_append_run rfl (.tmp 20) (.tmp 22) _ rfl rfl rfl e2 ?_)
  refine (short5_any A3 l3.length k3 m3 _ HM3.out hc3).mono ?_
  rintro e w' ⟨rfl, rfl⟩
  go_wp2_with (at_builtin; refine wpList_append_run rfl (.tmp 23) (.tmp 25) _ rfl rfl rfl e3 ?_)
  clear e1 e2 e3
  refine wp_region_G grows (by kernel_rfl) ?_
  have HR5 : Hid (Rd wa3.drew wa3.drew.heap.size A4 X) := Lib.hid HR4.out
  have HB5 := Lib.hid HB4.out.drew
  have HT5 := Lib.hid HT4.out.drew
  clear HR4 HB4 HT4
  generalize wa3.drew = wa at *
  refine oneG 0 10 rfl (by kernel_rfl) rfl ?_
  go_wp2_with fail
  refine (awake5_any HOK.out wa (HOK.out.keep HG.out HB5.out)).mono ?_
  rintro e wb ⟨rfl, hb⟩
  have HB6 := bb HB5 hb
  have HR6 := Lib.hid ((HR5.out.below hb).more hb.size)
  have HT6 := Lib.hid (HT5.out.below hb HT5.out.lt)
  go_wp2
  refine ⟨hb, ?_⟩
  clear hb HB5 HR5 HT5
  have hT6 := HT6.out
  rw [← HD.out] at hT6
  have hs6 := string_of_arr hT6 (Sha.of_len X)
  refine segG (by kernel_rfl) (fun _ _ _ _ _ h => h) [1, 2, 3, 5] [_, _, _, _] 6 rfl rfl (by kernel_rfl) ?_
  repeat (go_big_quiet_step (fail))
  refine wpQuiet_nil ?_
  clear hs6 hT6
  refine oneG 4 5 rfl (by kernel_rfl) rfl ?_
  go_wp2_with fail
  refine (refNew5_any wb).mono ?_
  rintro e wc ⟨vk, vh, rfl, hok, hoh, hb⟩
  have hkl : (u32s Sha.kL).length = 64 := by rw [u32s_len, Sha.kL_len]
  have hhl : (u32s Sha.hL).length = 8 := by rw [u32s_len, Sha.hL_len]
  obtain ⟨AK, cK, rfl, hrk⟩ := hok.rd
  obtain ⟨AH, cH, rfl, hrh⟩ := hoh.rd
  rw [hkl, hhl]
  have HRK := Lib.hid hrk
  have HRH := Lib.hid hrh
  have HB7 := bb HB6 hb
  have HR7 := Lib.hid ((HR6.out.below hb).more hb.size)
  clear hok hoh hrk hrh hkl hhl HB6 HR6 HT6
  go_wp2
  refine ⟨hb, ?_⟩
  clear hb
  refine oneG 6 4 rfl (by kernel_rfl) rfl ?_
  go_wp2_with fail
  refine (refOf5_any wc AK AH cK cH A4 X m4 k4 HRK.out HRH.out HM4.out.symm HR7.out (by have := HLX.out; omega)).mono ?_
  rintro e wd ⟨vo, rfl, hoo, hb⟩
  obtain ⟨AO, cO, rfl, hro⟩ := hoo.rd
  have hs8 := string_later_rd hro cO
  rw [Sha.of_len] at hs8 ⊢
  have HB8 := bb HB7 hb
  clear HRK HRH HB7 HR7 hoo hro
  go_wp2
  refine ⟨hb, ?_⟩
  clear hb
  refine segG (by kernel_rfl) (fun _ _ _ _ _ h => h) [7, 8, 9, 10] [_, _, _, _] 0 rfl rfl (by kernel_rfl) ?_
  repeat (go_big_quiet_step (fail))
  refine wpQuiet_nil ?_
  refine wpAnyG_done (by kernel_rfl) ?_
  go_wp2
  go_ret
  exact ⟨by simp, HB8.out⟩
end Go.Proofs.YthbjdfdjnedndaaDoor
