/-
  Layer 4's fixed fact, from the contracts of aes's functions.
-/
import Derived.Test.YtphlpedecnoooaaAesLaw
import Derived.Test.YtphlpedecnoooaaAesLem
namespace Go.Proofs.Ytphlpedecnoooaa
open Go.ChangeShapes Go.WideShapes Go.ChangeAt Go.RowKit Go.Gar Go.Gar.Aes

def kA : List UInt8 := st fun i => UInt8.ofNat i
def bA : List UInt8 := st fun i => UInt8.ofNat (17 * i)
def eA : List UInt8 := [0x69, 0xc4, 0xe0, 0xd8, 0x6a, 0x7b, 0x04, 0x30, 0xd8, 0xcd, 0xb7, 0x80, 0x70, 0xb4, 0xc5, 0x5a]
theorem enc_awake : encrypt kA bA = eA := by decide +kernel

theorem Try.info16 : (Try.prog.info? 23).map (fun i => (i.zero, i.size)) = some (some (.agg (Array.replicate 16 (.int .u8 0))), 16) := by kernel_rfl
def z16 : List Value := List.replicate 16 (.int .u8 0)
theorem zero16 (w : World) : (zeroValue 23).run Try.prog w = .ok (.agg z16.toArray) w := by
  have := (zero_of_info Try.info16).1 w
  rw [this]
  rfl
theorem kA_len : kA.length = 16 := rfl
theorem bA_len : bA.length = 16 := rfl
theorem kA_get (i : Nat) (h : i < 16) : kA[i]? = some (UInt8.ofNat i) := st_get _ i h
theorem bA_get (i : Nat) (h : i < 16) : bA[i]? = some (UInt8.ofNat (17 * i)) := st_get _ i h

set_option maxHeartbeats 2000000 in
set_option maxRecDepth 100000 in
theorem awake4_any {Rep : World → Nat → List UInt8 → Prop} (hOK : AesOK Rep) (w : World) :
    Calls Try.prog 12 #[] w fun e w' => e = .returned (.bool true) ∧ Below w.heap.size w w' := by
  have HOK := Lib.hid hOK
  have hmk : (Instr.makeSlice 22 (.int .i64 16) (.int .i64 16)).run Try.prog w = .ok (.slice (some ⟨w.heap.size, 0, none⟩) 16 16) (w.alloc (.cells (u8s (List.replicate 16 0)).toArray 5)) := run_make_bytes 16 16 (by omega) (by omega) w
  obtain ⟨Z, hZ⟩ : ∃ Z, Z = List.replicate 16 (0 : UInt8) := ⟨_, rfl⟩
  rw [← hZ] at hmk
  have HZl : Hid (Z.length = 16) := Lib.hid (by rw [hZ]; rfl)
  have hzz : (#[.int .u8 0, .int .u8 0, .int .u8 0, .int .u8 0, .int .u8 0, .int .u8 0, .int .u8 0, .int .u8 0, .int .u8 0, .int .u8 0, .int .u8 0, .int .u8 0, .int .u8 0, .int .u8 0, .int .u8 0, .int .u8 0] : Array Value) = (u8s Z).toArray := by rw [hZ]; rfl
  have HZZ := Lib.hid hzz
  have hK := (Blk.new w 5 (u8s Z)).alloc (.cells (u8s Z).toArray 23)
  have hC := Blk.new (w.alloc (.cells (u8s Z).toArray 5)) 23 (u8s Z)
  rw [World.size_alloc] at hC
  have hb := (below_alloc w (.cells (u8s Z).toArray 5)).alloc (by rw [World.size_alloc]; omega) (.cells (u8s Z).toArray 23)
  have HK := Lib.hid hK
  have HC := Lib.hid hC
  have Hb := Lib.hid hb
  clear hOK hZ hzz hK hC hb
  go_enter Try.func12, Try.ntmps12
  go_wp2
  rw [HZZ.out]
  generalize (w.alloc (.cells (u8s Z).toArray 5)).alloc (.cells (u8s Z).toArray 23) = w1 at HK HC Hb ⊢
  clear hmk
  go_loopw [3] (fun i w' => ∃ i' : Nat, i' ≤ 16 ∧ i = .int .i64 (i' : Int) ∧ Blk w' w.heap.size 5 (u8s (prog Z kA i')) ∧ Blk w' (w.heap.size + 1) 23 (u8s (prog Z bA i')) ∧ Below w.heap.size w w') (fun i _ => 16 - (intOf i).toNat)
  case atStart => exact ⟨0, by omega, rfl, by rw [prog_0]; exact HK.out, by rw [prog_0]; exact HC.out, Hb.out⟩
  case round =>
    obtain ⟨i, hi, rfl, hK, hC, hb⟩ := hrel
    clear HK HC Hb
    have hkl : kA.length = Z.length := by rw [HZl.out, kA_len]
    have hbl : bA.length = Z.length := by rw [HZl.out, bA_len]
    by_cases hlt : i < 16
    · have hf1 := hK.frozen i
      obtain ⟨v0, hc1⟩ : ∃ v0, wr.cell? ⟨w.heap.size, i, none⟩ = some v0 := ⟨_, by
        rw [hK.cell, List.getElem?_eq_getElem (by rw [u8s_len, prog_len _ _ _ hkl, HZl.out]; omega)]⟩
      have hf2 := hC.frozen i
      obtain ⟨v1, hc2⟩ : ∃ v1, wr.cell? ⟨w.heap.size + 1, i, none⟩ = some v1 := ⟨_, by
        rw [hC.cell, List.getElem?_eq_getElem (by rw [u8s_len, prog_len _ _ _ hbl, HZl.out]; omega)]⟩
      have hK2 := (hK.set_ i (.int .u8 ((UInt8.ofNat i).toNat : Int))).far (p := ⟨w.heap.size + 1, i, none⟩) (by simp) (.int .u8 ((UInt8.ofNat (17 * i)).toNat : Int))
      rw [u8s_set, prog_set _ _ _ _ hkl (kA_get i hlt)] at hK2
      have hC2 := (hC.far (p := ⟨w.heap.size, i, none⟩) (by simp) (.int .u8 ((UInt8.ofNat i).toNat : Int))).set_ i (.int .u8 ((UInt8.ofNat (17 * i)).toNat : Int))
      rw [u8s_set, prog_set _ _ _ _ hbl (bA_get i hlt)] at hC2
      have hb2 := (hb.setCell (p := ⟨w.heap.size, i, none⟩) (Nat.le_refl _) (.int .u8 ((UInt8.ofNat i).toNat : Int))).setCell (p := ⟨w.heap.size + 1, i, none⟩) (by simp) (.int .u8 ((UInt8.ofNat (17 * i)).toNat : Int))
      rw [show ((UInt8.ofNat i).toNat : Int) = (i : Int) from by simp; omega, show ((UInt8.ofNat (17 * i)).toNat : Int) = 17 * (i : Int) from by simp; omega] at hK2 hC2 hb2
      have HK2 := Lib.hid hK2
      have HC2 := Lib.hid hC2
      have Hb2 := Lib.hid hb2
      clear hK hC hb hK2 hC2 hb2
      go_wp2
      exact ⟨⟨i + 1, by omega, by go_num, HK2.out, HC2.out, Hb2.out⟩, by simp [intOf]; omega⟩
    · obtain rfl : i = 16 := by omega
      rw [prog_end _ _ _ HZl.out.symm (by rw [kA_len])] at hK
      rw [prog_end _ _ _ HZl.out.symm (by rw [bA_len])] at hC
      obtain ⟨x, hx⟩ : ∃ x, (u8s bA).toArray = x := ⟨_, rfl⟩
      have HX := Lib.hid hx.symm
      have HC := Lib.hid (show Blk wr (w.heap.size + 1) 23 x.toList from by rw [← hx]; exact hC)
      have HK := Lib.hid hK
      have Hb := Lib.hid hb
      clear hK hC hb hx
      go_wp2_with fail
      refine (HOK.out.new_yes wr _ kA 16 16 (.inl kA_len) rfl (by rw [kA_len]; exact Nat.le_refl _) (Rd.of_all HK.out)).mono ?_
      rintro e w2 ⟨gc, rfl, hRep, hb⟩
      have HRep := Lib.hid hRep
      have HC2 := Lib.hid (HC.out.below hb HC.out.lt)
      have HK2 := Lib.hid (HK.out.below hb HK.out.lt)
      have Hb2 := bb Hb hb
      clear hRep hb HC HK Hb
      have hld := load16 bA x HX.out rfl HC2.out ⟨w2, grows.refl _⟩
      go_wp2_with (refine wpList_load_arr rfl 23 (.tmp 2) rfl rfl x hld ?_)
      clear hld
      refine (HOK.out.enc_at w2 gc kA bA x HX.out (.inl kA_len) HRep.out bA_len).mono ?_
      rintro e w3 ⟨y, rfl, hy, hb⟩
      rw [enc_awake] at hy
      have HY := Lib.hid hy
      have hyl : y.toList = u8s eA := by rw [hy]
      have hO3 : y.toList.length = 16 := by rw [hyl, u8s_len]; rfl
      have Hs3 : Hid ((Try.prog.info? 23).map (·.size) = some y.toList.length) := Lib.hid (by rw [hO3]; exact Try.size16)
      have Hl3 : Hid (z16.length = y.toList.length) := Lib.hid (by rw [hO3]; rfl)
      have H13 : Hid (∀ u ∈ y.toList, u.oneCell' = true) := Lib.hid (by rw [hyl]; exact u8s_one _)
      have hE4 := Blk.new w3 23 y.toList
      rw [Array.toArray_toList] at hE4
      have hb4 := hb.alloc hb.size (.cells y 23)
      have HE4 := Lib.hid hE4
      have HRep4 := Lib.hid (HOK.out.stay HRep.out hb4)
      have HC4 := Lib.hid (HC2.out.below hb4 HC2.out.lt)
      have HK4 := Lib.hid (HK2.out.below hb4 HK2.out.lt)
      have Hb4 := bb Hb2 hb4
      have HBZ := Lib.hid (Blk.new w3 23 z16)
      clear hy hyl hO3 hb hE4 hb4 HRep HC2 HK2 Hb2
      go_wp2_with (first | refine wpList_alloc_arr rfl 23 z16.toArray rfl zero16 ?_ | refine wpList_store_arr rfl 23 (.tmp 6) (.tmp 32) w3.heap.size z16 y.toList rfl rfl rfl (by rw [Array.toArray_toList]; rfl) HBZ.out Hs3.out Hl3.out H13.out ?_)
      rw [World.setRow_alloc_new]
      clear HBZ Hs3 Hl3 H13
      generalize w3.alloc (.cells y 23) = w4 at HE4 HRep4 HC4 HK4 Hb4 ⊢
      generalize w3.heap.size = gE at HE4 ⊢
      refine (HOK.out.new_no w4 _ 15 16 (by unfold sizeOk; omega)).mono ?_
      rintro e w5 ⟨rfl, hb⟩
      have HE5 := Lib.hid (HE4.out.below hb HE4.out.lt).drew
      have HC5 := Lib.hid (HC4.out.below hb HC4.out.lt).drew
      have Hb5 := Lib.hid (bb Hb4 hb).out.drew
      have HRep5 := Lib.hid (HOK.out.stay (HOK.out.stay HRep4.out hb) (Below.refl _ w5).drew)
      clear hb HE4 HC4 HK4 Hb4 HRep4
      go_wp2_with fail
      refine wp_region_G grows (by kernel_rfl) ?_
      generalize w5.drew = wa at HE5 HC5 Hb5 HRep5 ⊢
      have c0 := cell_later HE5.out (i := 0) (v := .int .u8 105) (by rw [HY.out]; rfl)
      have c1 := cell_later HE5.out (i := 1) (v := .int .u8 196) (by rw [HY.out]; rfl)
      have c2 := cell_later HE5.out (i := 15) (v := .int .u8 90) (by rw [HY.out]; rfl)
      have HLD1 := Lib.hid (load16 eA y HY.out rfl HE5.out)
      have HLD2 := Lib.hid (load16 bA x HX.out rfl HC5.out)
      refine segG (by kernel_rfl) (fun _ _ _ _ _ h => h) [0, 1, 2, 3, 4, 5, 6, 7, 8, 9, 10, 11, 12, 13, 14, 15, 16, 17, 18, 19, 20, 21, 22, 23, 25] [_, _, _, _, _, _, _, _, _, _, _, _, _, _, _, _, _, _, _, _, _, _, _, _, _] 4 rfl rfl (by kernel_rfl) ?_
      repeat (go_big_quiet_step (fail))
      refine wpQuiet_load_arr 23 (.tmp 6) rfl rfl y HLD1.out (by kernel_rfl) ?_
      simp only [Act.put, List.setIfInBounds_toArray, List.set]
      refine wpQuiet_load_arr 23 (.tmp 2) rfl rfl x HLD2.out (by kernel_rfl) ?_
      simp only [Act.put, List.setIfInBounds_toArray, List.set]
      refine wpQuiet_nil ?_
      clear c0 c1 c2 HLD1 HLD2
      refine oneG 24 3 rfl (by kernel_rfl) rfl ?_
      go_wp2_with fail
      refine (HOK.out.dec_at wa gc kA eA y HY.out (.inl kA_len) HRep5.out rfl).mono ?_
      rintro e wb ⟨z, rfl, hz, hb⟩
      rw [← enc_awake, decrypt_encrypt kA bA bA_len] at hz
      have hzx : z = x := hz.trans HX.out.symm
      clear hz
      subst hzx
      have HEQ := Lib.hid (eq16_at bA bA z z HX.out HX.out rfl rfl true (by simp))
      have Hb6 := bb Hb5 hb
      go_wp2
      refine ⟨hb, ?_⟩
      clear hb Hb5 HRep5
      refine segG (by kernel_rfl) (fun _ _ _ _ _ h => h) [26, 27, 28] [_, _, _] 0 rfl rfl (by kernel_rfl) ?_
      refine wpQuiet_eql_arr 23 23 (.tmp 63) (.tmp 64) rfl rfl rfl true Try.guard16 HEQ.out (by kernel_rfl) ?_
      simp only [Act.put, List.setIfInBounds_toArray, List.set]
      repeat (go_big_quiet_step (fail))
      refine wpQuiet_nil ?_
      refine wpAnyG_done (by kernel_rfl) ?_
      go_wp2
      go_ret
      exact ⟨rfl, Hb6.out⟩
end Go.Proofs.Ytphlpedecnoooaa
