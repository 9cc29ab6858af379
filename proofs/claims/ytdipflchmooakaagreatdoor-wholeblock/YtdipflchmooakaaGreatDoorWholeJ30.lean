/-
  Layer 7: the contracts of cbc's functions with plain variables. The landed seal: Seal. The landed seal: Size, rightSize, headBytes, headOf. The landed seal: Open; its contract. Two parts of one size laid side by side: 'build' of keys.
-/
import Derived.Test.YtdipflchmooakaaGreatDoorWholeJ06
import Derived.Test.YtdipflchmooakaaGreatDoorWholeJ02
import Derived.Test.YtdipflchmooakaaGreatDoorWholeJ01
import Derived.Test.YtdipflchmooakaaGreatDoorWholeJ07
import Derived.Test.YtdipflchmooakaaGreatDoorWholeJ05
import Derived.Test.YtdipflchmooakaaGreatDoorWholeJ09
import Derived.Test.YtdipflchmooakaaGreatDoorWholeJ13
import Derived.Test.YtdipflchmooakaaGreatDoorWholeJ22
import Derived.Test.YtdipflchmooakaaGreatDoorWholeJ08
import Derived.Test.YtdipflchmooakaaGreatDoorWholeJ23
import Derived.Test.YtdipflchmooakaaGreatDoorWholeJ24
import Derived.Test.YtdipflchmooakaaGreatDoorWholeJ10
import Derived.Test.YtdipflchmooakaaGreatDoorWholeJ12
import Derived.Test.YtdipflchmooakaaGreatDoorWholeJ25
import Derived.Test.YtdipflchmooakaaGreatDoorWholeJ26
import Derived.Test.YtdipflchmooakaaGreatDoorWholeJ29
import Derived.BigQuiet
import Derived.BigRegion
import Derived.Deep.CutRange
import Derived.Lib.Mul64
import Derived.RegionTactic
set_option maxRecDepth 100000
namespace Go.Proofs.YtdipflchmooakaaGreatDoor
open Go.ChangeShapes Go.WideShapes Go.ChangeAt Go.RowKit Go.Gar Go.Gar.Aes

theorem seal_at (hOK : CbcOK) (w : World) (K A : Option Addr) (key iv b : List UInt8) (kl kc bl bc : Nat) (x : Array Value) (E : Int) (O : List UInt8) (n : Nat) (hx : x = (u8s iv).toArray) (hkl : kl = key.length) (hbl : bl = b.length) (hE : E = ((sealE key : Nat) : Int)) (hO : O = sealB key iv b) (hn : n = O.length)
    (rK : Rd w w.heap.size K key) (rA : Rd w w.heap.size A b) (hiv : iv.length = 16) (hkc : kl ≤ kc) (hbc : bl ≤ bc) (hb : bl ≤ 1048576) :
    Calls Tryz.prog 20 #[.slice K kl kc, .agg x, .slice A bl bc] w fun e w' => ∃ B c, e = .returned (.tuple #[.slice B n c, .int .i64 E]) ∧ n ≤ c ∧ Rd w' w'.heap.size B O ∧ Below w.heap.size w w' := by
  subst hx; subst hkl; subst hbl; subst hE; subst hO; subst hn
  refine (hOK.seal_ w K A key iv b kc bc rK rA hiv hkc hbc hb).mono fun e w' he => ?_
  obtain ⟨v, h1, ⟨B, c, rfl, h2, h3⟩, h4⟩ := he
  exact ⟨B, c, h1, h2, h3, h4⟩
theorem open_at (hOK : CbcOK) (w : World) (K A : Option Addr) (key iv b : List UInt8) (kl kc bl bc : Nat) (x : Array Value) (E : Int) (O : List UInt8) (n : Nat) (hx : x = (u8s iv).toArray) (hkl : kl = key.length) (hbl : bl = b.length) (hE : E = ((openE key iv b : Nat) : Int)) (hO : O = openB key iv b) (hn : n = O.length)
    (rK : Rd w w.heap.size K key) (rA : Rd w w.heap.size A b) (hiv : iv.length = 16) (hkc : kl ≤ kc) (hbc : bl ≤ bc) (hb : bl ≤ 1048576) :
    Calls Tryz.prog 31 #[.slice K kl kc, .agg x, .slice A bl bc] w fun e w' => ∃ B c, e = .returned (.tuple #[.slice B n c, .int .i64 E]) ∧ n ≤ c ∧ Rd w' w'.heap.size B O ∧ Below w.heap.size w w' := by
  subst hx; subst hkl; subst hbl; subst hE; subst hO; subst hn
  refine (hOK.open_ w K A key iv b kc bc rK rA hiv hkc hbc hb).mono fun e w' he => ?_
  obtain ⟨v, h1, ⟨B, c, rfl, h2, h3⟩, h4⟩ := he
  exact ⟨B, c, h1, h2, h3, h4⟩

def zA : List UInt8 := List.replicate 16 0
theorem zA_len : zA.length = 16 := rfl
theorem seal_awake : (Cbc.seal_ zA zA [])[0]? = some 1 := by decide +kernel
theorem Tryz.infoI : (Tryz.prog.info? 32).map (fun i => (i.zero, i.size)) = some (some (.agg (Array.replicate 16 (.int .u8 0))), 16) := by kernel_rfl
theorem zeroI (w : World) : (zeroValue 32).run Tryz.prog w = .ok (.agg (u8s zA).toArray) w := by
  have := (zero_of_info Tryz.infoI).1 w
  rw [this]
  rfl

end Go.Proofs.YtdipflchmooakaaGreatDoor
namespace Go.Proofs.YtdipflchmooakaaGreatDoor
open Go.RowKit Go.Gar Go.Gar.Aes

theorem keys_rd {w : World} {g : Nat} {k : List UInt8} (h : Blk w g 29 (u8s k)) (hk : k.length = 64) : Rd w w.heap.size (some ⟨g, 0, none⟩) (k.take 32) ∧ Rd w w.heap.size (some ⟨g, 32, none⟩) (k.drop 32) ∧ (k.take 32).length = 32 ∧ (k.drop 32).length = 32 := by
  have h2 := Rd.of_blk k h h.lt 32 32
  rw [show (k.drop 32).take 32 = k.drop 32 from List.take_of_length_le (by rw [List.length_drop]; omega)] at h2
  exact ⟨Rd.of_blk0 k h h.lt 32, h2, by rw [List.length_take]; omega, by rw [List.length_drop]; omega⟩
theorem sealB32 {k iv b : List UInt8} (h : (k.take 32).length = 32) : sealE (k.take 32) = 0 ∧ sealB (k.take 32) iv b = Cbc.seal_ (k.take 32) iv b := by
  have hs : (k.take 32).length = 16 ∨ (k.take 32).length = 24 ∨ (k.take 32).length = 32 := .inr (.inr h)
  unfold sealE sealB
  rw [if_pos hs, if_pos hs]
  exact ⟨rfl, rfl⟩

set_option maxHeartbeats 4000000 in
theorem sealG_any (w : World) (hG : Gl w) (k iv b : List UInt8) (id gen : Int) (A : Option Addr) (n c : Nat) (hk : k.length = 64) (hiv : iv.length = 16) (hn : n = b.length) (hr : Rd w w.heap.size A b) (hc : n ≤ c) (hl : n ≤ 900000) (S : List UInt8) (hS : S = sealS k iv id gen b) :
    Calls Tryz.prog 7 #[.agg (u8s k).toArray, .agg (u8s iv).toArray, .int .i64 id, .int .i64 gen, .slice A n c] w fun e w' => ∃ v, e = .returned (.tuple #[v, .int .i64 0]) ∧ Out w' v S ∧ Below w.heap.size w w' := by
  have hK := Blk.new w 29 (u8s k)
  have hb0 := below_alloc w (.cells (u8s k).toArray 29)
  obtain ⟨w0, hw0⟩ : ∃ w0, w.alloc (.cells (u8s k).toArray 29) = w0 := ⟨_, rfl⟩
  have hs0 : w0.heap.size = w.heap.size + 1 := by rw [← hw0, World.size_alloc]
  rw [hw0] at hK hb0
  have hV := Blk.new w0 32 (u8s iv)
  have hb1 := below_alloc w0 (.cells (u8s iv).toArray 32)
  have hK1 := hK.alloc (.cells (u8s iv).toArray 32)
  obtain ⟨w1, hw1⟩ : ∃ w1, w0.alloc (.cells (u8s iv).toArray 32) = w1 := ⟨_, rfl⟩
  rw [hw1] at hV hb1 hK1
  rw [hs0] at hV
  have hb01 := hb0.trans (hb1.mono hb0.size)
  obtain ⟨X, hX⟩ : ∃ X, X = Cbc.seal_ (k.take 32) iv b := ⟨_, rfl⟩
  obtain ⟨nx, hnx⟩ : ∃ nx, nx = X.length := ⟨_, rfl⟩
  have hnl : nx ≤ 900016 := by rw [hnx, hX, Cbc.seal_len]; omega
  obtain ⟨O, hO⟩ : ∃ O, O = bodyL k iv id gen b := ⟨_, rfl⟩
  have hO3 : O = headL id gen nx ++ iv ++ X := by rw [hO, bodyL, bodyX, ← hX, ← hnx, List.append_assoc]
  obtain ⟨no, hno⟩ : ∃ no, no = O.length := ⟨_, rfl⟩
  have hnol : no = 40 + nx := by rw [hno, hO3]; simp only [List.length_append, headL_len, hiv, ← hnx]
  obtain ⟨T, hT⟩ : ∃ T, T = Mac.of (k.drop 32) O := ⟨_, rfl⟩
  have hTl : T.length = 32 := by rw [hT]; exact Mac.of_len _ _
  have hS2 : S = O ++ T := by rw [hS, sealS, ← hO, ← hT]
  have HW0 := Lib.hid hw0
  have HW1 := Lib.hid hw1
  have HK := Lib.hid hK1.drew
  have HV := Lib.hid hV.drew
  have Hb1 := Lib.hid hb01.drew
  have HG1 := Lib.hid (Gl.keep hG hb01.drew)
  have HR1 := Lib.hid (show Rd w1.drew w1.drew.heap.size A b from (hr.below hb01).more hb01.size)
  have HX := Lib.hid hX
  have Hnx := Lib.hid hnx
  have HO3 := Lib.hid hO3
  have Hno := Lib.hid hno
  have Hnol := Lib.hid hnol
  have HT := Lib.hid hT
  have HTl := Lib.hid hTl
  have HS := Lib.hid hS2
  have Hkl := Lib.hid hk
  have Hivl := Lib.hid hiv
  have Hn := Lib.hid hn
  have HS0 := Lib.hid hs0
  clear hw0 hw1 hK hK1 hV hb0 hb1 hb01 hG hr hX hnx hO hO3 hno hnol hT hTl hS hS2 hk hiv hn hs0
  go_enter Tryz.func7, Tryz.ntmps7
  go_wp2_with (first | (refine wpList_box_arr rfl 29 _ _ rfl rfl ?_; rw [HW0.out]) | (refine wpList_box_arr rfl 32 _ _ rfl rfl ?_; rw [HW1.out, HS0.out]))
  refine wp_region_G grows (by kernel_rfl) ?_
  clear HW0 HW1 HS0
  generalize w1.drew = W1 at *
  have hlv := load_arr_later (P := Tryz.prog) Tryz.undIV (size_IV iv Hivl.out) HV.out
  refine segG (by kernel_rfl) (fun _ _ _ _ _ h => h) [2, 0, 1, 3] [_, _, _, _] 6 rfl rfl (by kernel_rfl) ?_
  refine wpQuiet_load_arr 32 (.tmp 6) rfl rfl (u8s iv).toArray hlv (by kernel_rfl) ?_
  simp only [Act.put, List.setIfInBounds_toArray, List.set]
  repeat (go_big_quiet_step (fail))
  refine wpQuiet_nil ?_
  clear hlv
  refine oneG 4 5 rfl (by kernel_rfl) rfl ?_
  go_wp2_with fail
  obtain ⟨rk1, _, kl1, _⟩ := keys_rd HK.out Hkl.out
  refine (seal_at cbcOK W1 (some ⟨w.heap.size, 0, none⟩) A (k.take 32) iv b 32 32 n c (u8s iv).toArray 0 X nx rfl kl1.symm Hn.out (by rw [(sealB32 (iv := iv) (b := b) kl1).1]; rfl) (by rw [(sealB32 kl1).2, HX.out]) Hnx.out rk1 HR1.out Hivl.out (by omega) hc (by omega)).mono ?_
  rintro e W2 ⟨B, cx, rfl, hcx, hr2, hb2⟩
  have Hb2' := Lib.hid hb2
  have HK2 := Lib.hid (HK.out.below hb2 HK.out.lt)
  have HV2 := Lib.hid (HV.out.below hb2 HV.out.lt)
  have Hb2 := Lib.hid (Hb1.out.trans (hb2.mono Hb1.out.size))
  have HR2 := Lib.hid hr2
  have Hcx := Lib.hid hcx
  have HG2 := Lib.hid (Gl.keep HG1.out hb2)
  clear hb2 hr2 hcx rk1 kl1 HK HV Hb1 HR1 HG1 HX
  go_wp2
  refine ⟨Hb2'.out, ?_⟩
  clear Hb2'
  refine segG (by kernel_rfl) (fun _ _ _ _ _ h => h) [5, 6, 7, 8, 9] [_, _, _, _, _] 0 rfl rfl (by kernel_rfl) ?_
  repeat (go_big_quiet_step (fail))
  refine wpQuiet_nil ?_
  refine wpAnyG_done (by kernel_rfl) ?_
  go_wp2_with fail
  refine wp_region_G grows (by kernel_rfl) ?_
  have HK3 := Lib.hid HK2.out.drew
  have HV3 := Lib.hid HV2.out.drew
  have Hb3 := Lib.hid Hb2.out.drew
  have HR3 := Lib.hid (show Rd W2.drew W2.drew.heap.size B X from HR2.out)
  have HG3 := Lib.hid (Gl.keep HG2.out (Below.refl _ W2).drew)
  clear HK2 HV2 Hb2 HR2 HG2
  generalize W2.drew = W3 at *
  refine segG (by kernel_rfl) (fun _ _ _ _ _ h => h) [0, 1, 2, 3, 6, 7] [_, _, _, _, _, _] 5 rfl rfl (by kernel_rfl) ?_
  repeat (go_big_quiet_step (fail))
  refine wpQuiet_nil ?_
  refine oneG 4 4 rfl (by kernel_rfl) rfl ?_
  refine wpList_build_w 49 _ rfl (by simp [Act.eval]) (built3 id gen (nx : Int)) (by kernel_rfl) ?_
  go_wp2
  refine ⟨Below.refl _ _, ?_⟩
  simp only [Act.put, List.setIfInBounds_toArray, List.set]
  refine oneG 5 3 rfl (by kernel_rfl) rfl ?_
  go_wp2_with fail
  refine (headBytes_any W3 id gen nx (by omega) _ rfl).mono ?_
  rintro e W4 ⟨gh, rfl, hr4, hb4⟩
  have Hb4' := Lib.hid hb4
  have HK4 := Lib.hid (HK3.out.below hb4 HK3.out.lt)
  have HV4 := Lib.hid (HV3.out.below hb4 HV3.out.lt)
  have Hb4 := Lib.hid (Hb3.out.trans (hb4.mono Hb3.out.size))
  have HR4 := Lib.hid ((HR3.out.below hb4).more hb4.size)
  have HH4 := Lib.hid hr4
  have HG4 := Lib.hid (Gl.keep HG3.out hb4)
  clear hb4 hr4 HK3 HV3 Hb3 HR3 HG3
  go_wp2
  refine ⟨Hb4'.out, ?_⟩
  clear Hb4'
  refine oneG 8 2 rfl (by kernel_rfl) rfl ?_
  go_wp2
  refine ⟨below_alloc W4 _, ?_⟩
  refine oneG 9 1 rfl (by kernel_rfl) rfl ?_
  go_wp2_with fail
  have hC := Blk.new W4 23 [.slice (some ⟨gh, 0, none⟩) 24 24, .slice (some ⟨w.heap.size + 1, 0, none⟩) 16 16, .slice B nx cx]
  have hbl := below_alloc W4 (.cells #[.slice (some ⟨gh, 0, none⟩) 24 24, .slice (some ⟨w.heap.size + 1, 0, none⟩) 16 16, .slice B nx cx] 23)
  refine (concat3_any _ W4.heap.size _ _ _ (headL id gen nx) iv X 24 16 nx 24 16 cx hC (headL_len _ _ _).symm Hivl.out.symm Hnx.out ((HH4.out.below hbl).more hbl.size) (((Rd.of_all HV4.out).below hbl).more hbl.size) ((HR4.out.below hbl).more hbl.size) (by omega) (by omega) O HO3.out).mono ?_
  rintro e W5 ⟨v, rfl, hO5, hb5⟩
  obtain ⟨gR, cp, rest, rfl, hgR, hcp, hB5⟩ := hO5.blk (by rw [← Hno.out, Hnol.out]; omega)
  rw [← Hno.out] at hO5 hcp ⊢
  have hb45 := hbl.trans (hb5.mono hbl.size)
  have hbs := hbl.size
  obtain ⟨b0, hb0⟩ : ∃ b0, (W4.alloc (.cells #[.slice (some ⟨gh, 0, none⟩) 24 24, .slice (some ⟨w.heap.size + 1, 0, none⟩) 16 16, .slice B nx cx] 23)).heap.size = b0 := ⟨_, rfl⟩
  have Hb5' := Lib.hid hb5
  rw [hb0] at hO5 hbs
  have hb5s := hb5.size
  rw [hb0] at hb5s
  have HO5 := Lib.hid hO5
  have HK5 := Lib.hid (HK4.out.below hb45 HK4.out.lt)
  have Hb5 := Lib.hid (Hb4.out.trans (hb45.mono Hb4.out.size))
  have HG5 := Lib.hid (Gl.keep HG4.out hb45)
  have HR5 := Lib.hid (Rd.of_row hB5)
  have Hcp := Lib.hid hcp
  have Hbs := Lib.hid (Nat.le_trans Hb4.out.size hbs)
  have Hb5s := Lib.hid hb5s
  clear hO5 hb5 hb45 hbs hb0 hb5s hC hbl hB5 hcp hgR HK4 HV4 Hb4 HR4 HH4 HG4
  go_wp2
  refine ⟨Hb5'.out, ?_⟩
  clear Hb5'
  refine segG (by kernel_rfl) (fun _ _ _ _ _ h => h) [10] [_] 0 rfl rfl (by kernel_rfl) ?_
  repeat (go_big_quiet_step (fail))
  refine wpQuiet_nil ?_
  refine wpAnyG_done (by kernel_rfl) ?_
  go_wp2_with fail
  obtain ⟨_, rk2, _, kl2⟩ := keys_rd HK5.out Hkl.out
  refine (mac1 macOK (some ⟨w.heap.size, 32, none⟩) (some ⟨gR, 0, none⟩) (k.drop 32) O 32 32 no cp _ W5 (u8s T).toArray (by rw [HT.out]) HG5.out rfl kl2.symm Hno.out (by omega) rk2 HR5.out (by omega) (by rw [← Hno.out, Hnol.out]; omega) (by rw [← Hno.out]; exact Hcp.out)).mono ?_
  rintro e W6 ⟨rfl, hb6⟩
  obtain ⟨W7, hw7, hB7, hb7, hZ7⟩ := s32_facts W6 T
  have hb57 := hb6.trans (hb7.mono hb6.size)
  have hO7 : OwnB W7 b0 5 (.slice (some ⟨gR, 0, none⟩) no cp) O := HO5.out.keep (fun g hg => hb57.block g (HO5.out.block_lt hg).2)
  obtain ⟨v8, W8, e1, ho8, hb8, _⟩ := app_rd (P := Tryz.prog) 23 23 Tryz.und22 Tryz.info5 hO7 (Nat.le_trans Hb5s.out hb57.size) 32 (Rd.of_all hB7) (by rw [← Hno.out, Hnol.out, HTl.out]; omega)
  rw [HTl.out] at e1
  have HE1 := Lib.hid e1
  have HO8 := Lib.hid ho8
  have Hb8 := Lib.hid ((Hb5.out.trans (hb57.mono Hb5.out.size)).trans (hb8.mono Hbs.out))
  have HZ7 := Lib.hid hZ7
  have HW7 := Lib.hid hw7
  have HSz := Lib.hid (size_32 T HTl.out)
  have HLn : Hid (z32.length = (u8s T).length) := Lib.hid (by rw [u8s_len, HTl.out, z32_len])
  clear hb6 hw7 hB7 hb7 hZ7 hb57 hO7 e1 ho8 hb8 rk2 kl2 HK5 HG5 HO5 HR5 Hb5
  go_wp2_with (first | (refine wpList_alloc_arr rfl 22 z32.toArray rfl zero_32 ?_) | (refine wpList_store_arr rfl 22 (.tmp 15) (.tmp 41) W6.heap.size z32 (u8s T) rfl rfl rfl rfl HZ7.out HSz.out HLn.out (u8s_one _) ?_; rw [HW7.out]) | (at_builtin; refine wpList_append_run rfl (.tmp 42) (.tmp 43) _ rfl rfl rfl HE1.out ?_))
  go_ret2
  refine ⟨v8, rfl, ?_, Hb8.out⟩
  obtain ⟨g9, cap, rest, e9, _, hcap, hB9⟩ := HO8.out.blk (by rw [List.length_append, HTl.out]; omega)
  rw [HS.out]
  exact ⟨_, cap, e9, hcap, Rd.of_row hB9⟩
end Go.Proofs.YtdipflchmooakaaGreatDoor
namespace Go.Proofs.YtdipflchmooakaaGreatDoor
open Go.RowKit Go.Gar Go.Gar.Aes

theorem sizeG_any (w : World) (n : Int) (hn : isI64 n) :
    Calls Tryz.prog 11 #[.int .i64 n] w fun e w' => e = .returned (.int .i64 (sizeN n)) ∧ w' = w := by
  unfold isI64 at hn
  by_cases h0 : n < 0
  · have hs : sizeN n = 0 := by unfold sizeN; rw [if_neg (by omega)]
    rw [hs]
    have hd : decide (n < 0) = true := by simpa using h0
    clear hs h0 hn
    go_enter Tryz.func11, Tryz.ntmps11
    go_wp2
    go_ret
    exact ⟨rfl, rfl⟩
  · by_cases h1 : 1048576 < n
    · have hs : sizeN n = 0 := by unfold sizeN; rw [if_neg (by omega)]
      rw [hs]
      have hd : decide (n < 0) = false := by simpa using h0
      have hd2 : decide (1048576 < n) = true := by simpa using h1
      clear hs h0 h1 hn
      go_enter Tryz.func11, Tryz.ntmps11
      go_wp2
      go_ret
      exact ⟨rfl, rfl⟩
    · obtain ⟨m, rfl⟩ : ∃ m : Nat, n = (m : Int) := ⟨n.toNat, by omega⟩
      have hs : sizeN (m : Int) = 40 + ((m : Int) / 16 + 1) * 16 + 32 := by unfold sizeN; rw [if_pos (by omega)]; omega
      rw [hs]
      have hm : m ≤ 1048576 := by omega
      have hd : decide ((m : Int) < 0) = false := by simp
      have hd2 : decide (1048576 < (m : Int)) = false := by simpa using h1
      have hq : Int.tdiv (m : Int) 16 = (m : Int) / 16 := Int.tdiv_eq_ediv_of_nonneg (by omega)
      clear hs h0 h1 hn
      go_enter Tryz.func11, Tryz.ntmps11
      go_wp2
      go_ret
      exact ⟨rfl, rfl⟩
theorem size_at (w : World) (n s : Int) (hn : isI64 n) (hs : s = sizeN n) :
    Calls Tryz.prog 11 #[.int .i64 n] w fun e w' => e = .returned (.int .i64 s) ∧ w' = w := by
  subst hs
  exact sizeG_any w n hn

theorem size_zero : (88 : Int) = sizeN 0 := rfl
theorem size_max : (1048664 : Int) = sizeN 1048576 := rfl
def okSize (n : Nat) : Bool := decide (88 ≤ n) && decide (n ≤ 1048664) && decide ((n - 88) % 16 = 0)
set_option maxHeartbeats 1000000 in
theorem rightSize_any (w : World) (n : Nat) (hn : n ≤ 900000) (r : Bool) (hr : r = okSize n) :
    Calls Tryz.prog 28 #[.int .i64 (n : Int)] w fun e w' => e = .returned (.bool r) ∧ w' = w := by
  by_cases h0 : 88 ≤ n
  · have hd : decide ((88 : Int) ≤ (n : Int)) = true := by simp; omega
    have hd2 : decide ((n : Int) ≤ 1048664) = true := by simp; omega
    have hrm : Int.tmod ((n : Int) - 88) 16 = ((n - 88) % 16 : Nat) := by
      rw [Int.tmod_eq_emod_of_nonneg (by omega)]
      omega
    obtain ⟨q, hq⟩ : ∃ q, (n - 88) % 16 = q := ⟨_, rfl⟩
    have hr2 : r = decide (q = 0) := by
      rw [hr, okSize, hq]
      simp
      omega
    rw [hr2]
    clear hr hr2
    go_enter Tryz.func28, Tryz.ntmps28
    go_wp2_with fail
    refine (size_at _ 0 88 (by unfold isI64; omega) size_zero).mono ?_
    rintro e w1 ⟨rfl, rfl⟩
    go_wp2_with fail
    refine (size_at _ 1048576 1048664 (by unfold isI64; omega) size_max).mono ?_
    rintro e w1 ⟨rfl, rfl⟩
    go_wp2_with fail
    refine (size_at _ 0 88 (by unfold isI64; omega) size_zero).mono ?_
    rintro e w1 ⟨rfl, rfl⟩
    go_wp2
    go_ret
    refine ⟨?_, rfl⟩
    refine ret_bool (b := decide (q = 0)) ?_
    rw [Bool.eq_iff_iff]
    simp
  · have hd : decide ((88 : Int) ≤ (n : Int)) = false := by simp; omega
    have hr2 : r = false := by rw [hr, okSize]; simp; omega
    rw [hr2]
    clear hr hr2
    go_enter Tryz.func28, Tryz.ntmps28
    go_wp2_with fail
    refine (size_at _ 0 88 (by unfold isI64; omega) size_zero).mono ?_
    rintro e w1 ⟨rfl, rfl⟩
    go_wp2
    go_ret
    exact ⟨rfl, rfl⟩
end Go.Proofs.YtdipflchmooakaaGreatDoor
namespace Go.Proofs.YtdipflchmooakaaGreatDoor
open Go.RowKit Go.Gar Go.Gar.Aes

/-- What opens has whole blocks. -/
theorem open_mod {key iv c y : List UInt8} (h : Cbc.open_ key iv c = some y) : c.length % 16 = 0 ∧ 16 ≤ c.length := by
  unfold Cbc.open_ at h
  split at h
  · rename_i hc
    exact ⟨hc.2, hc.1⟩
  · cases h
/-- The chain's beginning, loaded from the midst of sealed bytes. -/
theorem load_iv {w : World} {B ab ao : Nat} {s : List UInt8} (h : Rd w B (some ⟨ab, ao, none⟩) s) (hl : 88 ≤ s.length) : (loadVar 32 ⟨ab, ao + 24, none⟩).run Tryz.prog w = .ok (.agg (u8s (ivP s)).toArray) w := by
  refine run_loadVar_mid (P := Tryz.prog) w ab (ao + 24) 32 (u8s (ivP s)) _ (fun j v hv => ?_) Tryz.undIV rfl (size_IV _ (ivP_len hl))
  have h2 := rd_cut h 24
  rw [u8s_get] at hv
  cases hq : (ivP s)[j]? with
  | none => rw [hq] at hv; cases hv
  | some x =>
    rw [hq] at hv
    obtain rfl := Option.some.inj hv
    rcases h2 with h2 | ⟨b', o', e, _, hc⟩
    · have := congrArg List.length h2
      rw [List.length_drop, List.length_nil] at this
      omega
    · obtain ⟨rfl, rfl⟩ : ab = b' ∧ ao + 24 = o' := by simpa using e
      refine hc j x ?_
      rw [ivP, List.getElem?_take] at hq
      split at hq
      · exact hq
      · cases hq
theorem sIV_facts (w2 : World) (L : List UInt8) : ∃ w3, (w2.alloc (.cells (u8s (List.replicate 16 0)).toArray 32)).setRow w2.heap.size (u8s L).toArray = w3 ∧ Blk w3 w2.heap.size 32 (u8s L) ∧ Below w2.heap.size w2 w3 ∧ Blk (w2.alloc (.cells (u8s (List.replicate 16 0)).toArray 32)) w2.heap.size 32 (u8s (List.replicate 16 0)) :=
  ⟨_, World.setRow_alloc_new w2 _ _ _, Blk.new w2 _ _, below_alloc w2 _, Blk.new w2 _ _⟩
theorem openSEB_none {k s : List UInt8} {id gen : Int} (h : openS k id gen s = none) : openSE k id gen s = 12 ∧ openSB k id gen s = [] := by
  unfold openSE openSB
  rw [h]
  exact ⟨rfl, rfl⟩
theorem openSEB_some {k s y : List UInt8} {id gen : Int} (h : openS k id gen s = some y) : openSE k id gen s = 0 ∧ openSB k id gen s = y := by
  unfold openSE openSB
  rw [h]
  exact ⟨rfl, rfl⟩
theorem openS_size {k s : List UInt8} {id gen : Int} (hl : s.length ≤ 900000) (h : okSize s.length = false) : openS k id gen s = none := by
  cases hq : openS k id gen s with
  | none => rfl
  | some y =>
    obtain ⟨h1, _, _, h4⟩ := (openS_iff k id gen s y).1 hq
    obtain ⟨h5, _⟩ := open_mod h4
    rw [conP_len h1] at h5
    have : okSize s.length = true := by
      unfold okSize
      simp
      omega
    rw [this] at h
    cases h
theorem openS_mac {k s : List UInt8} {id gen : Int} (h : ¬ Mac.of (k.drop 32) (s.take (s.length - 32)) = s.drop (s.length - 32)) : openS k id gen s = none := by
  cases hq : openS k id gen s with
  | none => rfl
  | some y => exact absurd ((openS_iff k id gen s y).1 hq).2.1 h
theorem openS_head {k s : List UInt8} {id gen : Int} (h : ¬ s.take 24 = headL id gen (s.length - 72)) : openS k id gen s = none := by
  cases hq : openS k id gen s with
  | none => rfl
  | some y => exact absurd ((openS_iff k id gen s y).1 hq).2.2.1 h

set_option maxHeartbeats 4000000 in
theorem openG_any (w : World) (hG : Gl w) (k s : List UInt8) (id gen : Int) (A : Option Addr) (n c : Nat) (hk : k.length = 64) (hid : isI64 id) (hgen : isI64 gen) (hn : n = s.length) (hr : Rd w w.heap.size A s) (hc : n ≤ c) (hl : n ≤ 900000) (R : Option (List UInt8)) (hR : R = openS k id gen s) (E : Int) (hE : E = if R.isSome then 0 else 12) :
    Calls Tryz.prog 14 #[.agg (u8s k).toArray, .int .i64 id, .int .i64 gen, .slice A n c] w fun e w' => ∃ v, e = .returned (.tuple #[v, .int .i64 E]) ∧ Out w' v (R.getD []) ∧ Below w.heap.size w w' := by
  have hK := Blk.new w 29 (u8s k)
  have hb0 := below_alloc w (.cells (u8s k).toArray 29)
  obtain ⟨w0, hw0⟩ : ∃ w0, w.alloc (.cells (u8s k).toArray 29) = w0 := ⟨_, rfl⟩
  rw [hw0] at hK hb0
  have hr0 := (hr.below hb0).more hb0.size
  have hG0 := Gl.keep hG hb0
  have HW0 := Lib.hid hw0
  have HLK := Lib.hid (load_keys hK hk)
  have HK := Lib.hid hK
  have Hb0 := Lib.hid hb0
  have HR0 := Lib.hid hr0
  have HG0 := Lib.hid hG0
  have Hkl := Lib.hid hk
  have Hn := Lib.hid hn
  have HR := Lib.hid hR
  have Hid1 := Lib.hid hid
  have HE := Lib.hid hE
  have Hgen := Lib.hid hgen
  clear hw0 hK hb0 hr0 hG0 hG hr hk hid hgen hR hE
  have hsz := fun W => rightSize_any W n hl (okSize n) rfl
  cases hq : okSize n with
  | false =>
    have hR2 : R = none := by rw [HR.out]; exact openS_size (by rw [← hn]; exact hl) (by rw [← hn]; exact hq)
    subst hR2
    obtain rfl : E = 12 := HE.out
    rw [hq] at hsz
    clear hq hn
    go_enter Tryz.func14, Tryz.ntmps14
    go_wp2_with (refine wpList_box_arr rfl 29 _ _ rfl rfl ?_; rw [HW0.out])
    refine (hsz _).mono ?_
    rintro e w1 ⟨rfl, rfl⟩
    clear hsz
    go_wp2
    go_ret2
    exact ⟨_, rfl, ⟨none, 0, rfl, Nat.le_refl _, Rd.nil⟩, Hb0.out⟩
  | true =>
    have h88 : 88 ≤ n ∧ (n - 88) % 16 = 0 := by
      unfold okSize at hq
      simp at hq
      omega
    rw [hq] at hsz
    obtain ⟨ab, ao, rfl⟩ := rd_at HR0.out (by omega)
    clear hq hn
    obtain ⟨rt, hrt⟩ : ∃ rt, rt = decide (Mac.of (k.drop 32) (s.take (s.length - 32)) = s.drop (s.length - 32)) := ⟨_, rfl⟩
    have HRt := Lib.hid hrt
    clear hrt
    go_enter Tryz.func14, Tryz.ntmps14
    go_wp2_with (refine wpList_box_arr rfl 29 _ _ rfl rfl ?_; rw [HW0.out])
    refine (hsz _).mono ?_
    rintro e w1 ⟨rfl, rfl⟩
    clear hsz HW0
    go_wp2_with (refine wpList_load_arr_w 29 (.tmp 4) rfl rfl (u8s k).toArray HLK.out (by kernel_rfl) ?_)
    refine (rightTag_any _ HG0.out k s (some ⟨ab, ao, none⟩) n c Hkl.out Hn.out HR0.out hc (by omega) hl rt HRt.out).mono ?_
    rintro e w2 ⟨rfl, hb2⟩
    have HK2 := Lib.hid (HK.out.below hb2 HK.out.lt)
    have Hb2 := Lib.hid (Hb0.out.trans (hb2.mono Hb0.out.size))
    have HR2 := Lib.hid ((HR0.out.below hb2).more hb2.size)
    have HG2 := Lib.hid (Gl.keep HG0.out hb2)
    clear hb2 HK Hb0 HR0 HG0 HLK
    cases rt with
    | false =>
      have hR2 : R = none := by rw [HR.out]; exact openS_mac (of_decide_eq_false HRt.out.symm)
      subst hR2
      obtain rfl : E = 12 := HE.out
      go_wp2
      go_ret2
      exact ⟨_, rfl, ⟨none, 0, rfl, Nat.le_refl _, Rd.nil⟩, Hb2.out⟩
    | true =>
      have Hmac := Lib.hid (of_decide_eq_true HRt.out.symm)
      have hsub : (n : Int) - 32 = ((n - 32 : Nat) : Int) := by omega
      have hs1 : ∀ W, (Instr.sliceAt 23 (.slice (some ⟨ab, ao, none⟩) n c) (some (.int .i64 24)) none none).run Tryz.prog W = .ok (.slice (some ⟨ab, ao + 24, none⟩) (n - 24) (c - 24)) W := fun W => cut_from ab ao n c 24 (n - 24) rfl (by omega) (by omega) W
      have hs2 : ∀ W, (Instr.sliceAt 23 (.slice (some ⟨ab, ao, none⟩) n c) (some (.int .i64 40)) (some (.int .i64 ((n : Int) - 32))) none).run Tryz.prog W = .ok (.slice (some ⟨ab, ao + 40, none⟩) (n - 72) (c - 40)) W := fun W => by
        have := run_slice_mid W ab ao n c 40 (n - 32) 40 ((n : Int) - 32) rfl hsub (by omega) (by omega) (by omega)
        rwa [show n - 32 - 40 = n - 72 by omega] at this
      obtain ⟨V, hV⟩ : ∃ V, V = ivP s := ⟨_, rfl⟩
      have hVl : V.length = 16 := by rw [hV]; exact ivP_len (by have := Hn.out; omega)
      have hat := fun W => run_arrIV ab (ao + 24) (n - 24) (c - 24) (by omega) W
      have hld := load_iv HR2.out (by have := Hn.out; omega)
      rw [← hV] at hld
      obtain ⟨w3, hw3, hB3, hb3, hZ3⟩ := sIV_facts w2 V
      obtain ⟨Z, hZ⟩ : ∃ Z, u8s (List.replicate 16 0) = Z := ⟨_, rfl⟩
      have hz := zero_IV
      have hZl : Z.length = 16 := by rw [← hZ, u8s_len, List.length_replicate]
      rw [hZ] at hw3 hZ3 hz
      obtain ⟨gI, hgI⟩ : ∃ gI, gI = w2.heap.size := ⟨_, rfl⟩
      rw [← hgI] at hw3 hB3 hZ3
      have HgI := Lib.hid hgI
      have HW3 := Lib.hid hw3
      have HB3 := Lib.hid hB3
      have HZ3 := Lib.hid hZ3
      have Hz := Lib.hid hz
      have Hat := Lib.hid hat
      have Hld := Lib.hid hld
      have HV := Lib.hid hV
      have HVl := Lib.hid hVl
      have HSz := Lib.hid (size_IV V hVl)
      have HLn : Hid (Z.length = (u8s V).length) := Lib.hid (by rw [u8s_len, hVl, hZl])
      have HK3 := Lib.hid (HK2.out.below hb3 HK2.out.lt)
      have Hb3 := Lib.hid (Hb2.out.trans (hb3.mono Hb2.out.size))
      have HR3 := Lib.hid ((HR2.out.below hb3).more hb3.size)
      have HG3 := Lib.hid (Gl.keep HG2.out hb3)
      clear hw3 hB3 hb3 hZ3 hz hat hld hV hVl hZ hZl hgI HK2 Hb2 HR2 HG2 hsub HRt
      go_wp2_with (first | refine wpList_arrAt 32 (.tmp 25) rfl rfl (Hat.out _) (by kernel_rfl) ?_ | refine wpList_load_at 32 (.tmp 26) rfl rfl (u8s V).toArray Hld.out (by kernel_rfl) ?_ | (refine wpList_alloc_arr rfl 32 Z.toArray rfl Hz.out ?_; rw [← HgI.out]) | (refine wpList_store_arr rfl 32 (.tmp 10) (.tmp 27) gI Z (u8s V) rfl rfl rfl rfl HZ3.out HSz.out HLn.out (u8s_one _) ?_; rw [HW3.out]))
      clear hs1 hs2
      refine (headOf_any w3 ab ao s n c Hn.out HR3.out hc (by omega)).mono ?_
      rintro e w4 ⟨rfl, hb4⟩
      have HK4 := Lib.hid (HK3.out.below hb4 HK3.out.lt)
      have HB4 := Lib.hid (HB3.out.below hb4 HB3.out.lt)
      have Hb4 := Lib.hid (Hb3.out.trans (hb4.mono Hb3.out.size))
      have HR4 := Lib.hid ((HR3.out.below hb4).more hb4.size)
      have HG4 := Lib.hid (Gl.keep HG3.out hb4)
      clear hb4 HK3 HB3 Hb3 HR3 HG3 HgI HW3 HZ3 Hz Hat Hld HSz HLn
      have hhd := head_iff s id gen (n - 72) (by have := Hn.out; omega) Hid1.out Hgen.out (by omega)
      obtain ⟨x0, h0⟩ : ∃ x, x = hN s 0 := ⟨_, rfl⟩
      obtain ⟨x1, h1⟩ : ∃ x, x = hN s 1 := ⟨_, rfl⟩
      obtain ⟨x2, h2⟩ : ∃ x, x = hN s 2 := ⟨_, rfl⟩
      rw [← h0, ← h1, ← h2] at hhd ⊢
      have HHD := Lib.hid hhd
      obtain ⟨q, hqq⟩ : ∃ q, q = decide (x0 = id ∧ x1 = gen ∧ x2 = ((n - 72 : Nat) : Int)) := ⟨_, rfl⟩
      have heq : ∀ w, (Op.equalIn 10000 49 (.agg #[.int .i64 x0, .int .i64 x1, .int .i64 x2]) (.agg #[.int .i64 id, .int .i64 gen, .int .i64 ((n - 72 : Nat) : Int)])).run Tryz.prog w = .ok q w := fun w => by rw [hqq]; exact eq3 _ _ _ _ _ _ w
      have HEq := Lib.hid heq
      have Hqq := Lib.hid hqq
      clear hhd h0 h1 h2 heq hqq
      cases q with
      | false =>
        have hR2 : R = none := by rw [HR.out]; exact openS_head (by rw [← Hn.out]; intro h; exact of_decide_eq_false Hqq.out.symm (HHD.out.1 h))
        subst hR2
        obtain rfl : E = 12 := HE.out
        go_wp2_with (first | refine wpList_build_w 49 _ rfl (by simp [Act.eval]) (built3 id gen ((n - 72 : Nat) : Int)) (by kernel_rfl) ?_ | refine wpList_neq_arr_w 49 _ (.tmp 34) (.tmp 39) rfl rfl rfl false Tryz.guard3I HEq.out (by kernel_rfl) ?_)
        go_ret2
        exact ⟨_, rfl, ⟨none, 0, rfl, Nat.le_refl _, Rd.nil⟩, Hb4.out⟩
      | true =>
        have Hhd := Lib.hid (HHD.out.2 (of_decide_eq_true Hqq.out.symm))
        clear HHD Hqq
        go_wp2_with (first | refine wpList_build_w 49 _ rfl (by simp [Act.eval]) (built3 id gen ((n - 72 : Nat) : Int)) (by kernel_rfl) ?_ | refine wpList_neq_arr_w 49 _ (.tmp 34) (.tmp 39) rfl rfl rfl true Tryz.guard3I HEq.out (by kernel_rfl) ?_)
        refine wp_region_G grows (by kernel_rfl) ?_
        have HK5 := Lib.hid HK4.out.drew
        have HB5 := Lib.hid HB4.out.drew
        have Hb5 := Lib.hid Hb4.out.drew
        have HR5 := Lib.hid (show Rd w4.drew w4.drew.heap.size (some ⟨ab, ao, none⟩) s from HR4.out)
        clear HK4 HB4 Hb4 HR4 HG4 HEq
        generalize w4.drew = W5 at *
        have hlv := load_arr_later (P := Tryz.prog) Tryz.undIV (size_IV V HVl.out) HB5.out
        refine segG (by kernel_rfl) (fun _ _ _ _ _ h => h) [2, 0, 1, 3] [_, _, _, _] 6 rfl rfl (by kernel_rfl) ?_
        refine wpQuiet_load_arr 32 (.tmp 10) rfl rfl (u8s V).toArray hlv (by kernel_rfl) ?_
        simp only [Act.put, List.setIfInBounds_toArray, List.set]
        repeat (go_big_quiet_step (fail))
        refine wpQuiet_nil ?_
        clear hlv
        refine oneG 4 5 rfl (by kernel_rfl) rfl ?_
        go_wp2_with fail
        obtain ⟨rk1, _, kl1, _⟩ := keys_rd HK5.out Hkl.out
        have hcl : (conP s).length = n - 72 := by rw [conP_len (by have := Hn.out; omega), Hn.out]
        have hrc := rd_part HR5.out 40 (s.length - 72) (l := conP s) rfl
        have Hiff := Lib.hid (openS_iff k id gen s)
        cases ho : Cbc.open_ (k.take 32) (ivP s) (conP s) with
        | none =>
          have hR2 : R = none := by rw [HR.out]; exact openS_none ho
          subst hR2
          obtain rfl : E = 12 := HE.out
          have hq := open7_none kl1 ho
          refine (open_at cbcOK W5 (some ⟨w.heap.size, 0, none⟩) (some ⟨ab, ao + 40, none⟩) (k.take 32) V (conP s) 32 32 (n - 72) (c - 40) (u8s V).toArray 12 [] 0 rfl kl1.symm hcl.symm (by rw [HV.out, hq.1]; rfl) (by rw [HV.out, hq.2]) rfl rk1 hrc HVl.out (by omega) (by omega) (by omega)).mono ?_
          rintro e W6 ⟨B, cx, rfl, _, _, hb6⟩
          have Hb6' := Lib.hid hb6
          have Hb6 := Lib.hid (Hb5.out.trans (hb6.mono Hb5.out.size))
          clear hb6 hq ho hrc hcl rk1 kl1 HK5 HB5 Hb5 HR5
          go_wp2
          refine ⟨Hb6'.out, ?_⟩
          refine segG (by kernel_rfl) (fun _ _ _ _ _ h => h) [5, 6, 7, 8, 9] [_, _, _, _, _] 0 rfl rfl (by kernel_rfl) ?_
          repeat (go_big_quiet_step (fail))
          refine wpQuiet_nil ?_
          refine wpAnyG_done (by kernel_rfl) ?_
          go_wp2
          go_ret2
          exact ⟨_, rfl, ⟨none, 0, rfl, Nat.le_refl _, Rd.nil⟩, Hb6.out⟩
        | some y =>
          have hR2 : R = some y := by rw [HR.out]; exact (Hiff.out y).2 ⟨by have := Hn.out; omega, Hmac.out, by rw [← Hn.out]; exact Hhd.out, ho⟩
          subst hR2
          obtain rfl : E = 0 := HE.out
          have hq := open7_some kl1 ho
          obtain ⟨ny, hny⟩ : ∃ ny, ny = y.length := ⟨_, rfl⟩
          refine (open_at cbcOK W5 (some ⟨w.heap.size, 0, none⟩) (some ⟨ab, ao + 40, none⟩) (k.take 32) V (conP s) 32 32 (n - 72) (c - 40) (u8s V).toArray 0 y ny rfl kl1.symm hcl.symm (by rw [HV.out, hq.1]; rfl) (by rw [HV.out, hq.2]) hny rk1 hrc HVl.out (by omega) (by omega) (by omega)).mono ?_
          rintro e W6 ⟨B, cx, rfl, hcx, hr6, hb6⟩
          have Hb6' := Lib.hid hb6
          have Hb6 := Lib.hid (Hb5.out.trans (hb6.mono Hb5.out.size))
          have HR6 := Lib.hid hr6
          have Hcx := Lib.hid hcx
          have Hny := Lib.hid hny
          clear hb6 hq ho hrc hcl rk1 kl1 HK5 HB5 Hb5 HR5 hr6 hcx hny
          go_wp2
          refine ⟨Hb6'.out, ?_⟩
          refine segG (by kernel_rfl) (fun _ _ _ _ _ h => h) [5, 6, 7, 8, 9] [_, _, _, _, _] 0 rfl rfl (by kernel_rfl) ?_
          repeat (go_big_quiet_step (fail))
          refine wpQuiet_nil ?_
          refine wpAnyG_done (by kernel_rfl) ?_
          go_wp2
          go_ret2
          exact ⟨_, rfl, ⟨B, cx, by rw [Hny.out]; rfl, by show y.length ≤ cx; rw [← Hny.out]; exact Hcx.out, HR6.out⟩, Hb6.out⟩

/-- The landed seal keeps its contract wherever sha's table lies as its text lays it. -/
theorem sealOK : SealOK Gl :=
  ⟨fun h hb => h.keep hb, fun w n hn => (sizeG_any w n hn).mono fun _ _ ⟨h1, h2⟩ => ⟨h1, by rw [h2]; exact Below.refl _ _⟩,
    fun w k iv b id gen A c hG hk hiv _ _ hr hc hl => sealG_any w hG k iv b id gen A _ c hk hiv rfl hr hc hl _ rfl,
    fun w k s id gen A c hG hk hid hgen hr hc hl => openG_any w hG k s id gen A _ c hk hid hgen rfl hr hc hl _ rfl _ (by unfold openSE; split <;> simp_all),
    fun w k s A c hG hk hr hc hl => tagG_any w hG k s A _ c hk rfl hr hc hl _ rfl⟩
end Go.Proofs.YtdipflchmooakaaGreatDoor
namespace Go.Proofs.YtdipflchmooakaaGreatDoor
open Go.RowKit Go.Gar

theorem infoZ {t : TypeId} {v : Value} {n : Nat} (h : (Tryz.prog.info? t).map (fun i => (i.zero, i.size)) = some (some v, n)) : ∃ i, Tryz.prog.info? t = some i ∧ i.zero = some v ∧ i.size = n := by
  obtain ⟨i, hi, he⟩ := Option.map_eq_some_iff.1 h
  simp only [Prod.mk.injEq] at he
  exact ⟨i, hi, he.1, he.2⟩
theorem builtKeys (a b : List UInt8) (ha : a.length = 32) (hb : b.length = 32) : Tryz.prog.built 29 [(0, .agg (u8s a).toArray), (1, .agg (u8s b).toArray)] = some (u8s (a ++ b)).toArray := by
  obtain ⟨i, hi, hz, _⟩ := infoZ Tryz.infoKeys
  obtain ⟨j, hj, _, hs⟩ := infoZ Tryz.info32
  unfold Program.built
  rw [hi, Tryz.undKeysS]
  simp only [hz]
  have hf := Tryz.fieldsKeys
  generalize (Tryz.prog.fieldsOf 29).toList = fs at hf ⊢
  rcases fs with _ | ⟨f1, _ | ⟨f2, _ | ⟨f3, fs⟩⟩⟩
  · cases hf
  · simp at hf
  · simp only [List.map_cons, List.map_nil, List.cons.injEq, Prod.mk.injEq, and_true] at hf
    obtain ⟨⟨_, t1, o1⟩, _, t2, o2⟩ := hf
    simp only [List.mapM_cons, List.mapM_nil, t1, t2, o1, o2, hj, hs, Option.map_some]
    have := fill_two (fun x => ([(0, 32), (32, 32)] : List (Nat × Nat)).toArray[x]?) (Value.agg (Array.replicate 64 (.int .u8 0))).cells (u8s a).toArray (u8s b).toArray 32 rfl rfl (by simp [u8s_len, ha]) (by simp [u8s_len, hb]) (by simp [Value.cells])
    rw [u8s_app]
    simpa using this
  · simp at hf
theorem builtKeys0 : Tryz.prog.built 29 [] = some z64.toArray := by
  obtain ⟨i, hi, hz, _⟩ := infoZ Tryz.infoKeys
  obtain ⟨j, hj, _, hs⟩ := infoZ Tryz.info32
  unfold Program.built
  rw [hi, Tryz.undKeysS]
  simp only [hz]
  have hf := Tryz.fieldsKeys
  generalize (Tryz.prog.fieldsOf 29).toList = fs at hf ⊢
  rcases fs with _ | ⟨f1, _ | ⟨f2, _ | ⟨f3, fs⟩⟩⟩
  · cases hf
  · simp at hf
  · simp only [List.map_cons, List.map_nil, List.cons.injEq, Prod.mk.injEq, and_true] at hf
    obtain ⟨⟨_, t1, o1⟩, _, t2, o2⟩ := hf
    simp only [List.mapM_cons, List.mapM_nil, t1, t2, o1, o2, hj, hs, Option.map_some]
    rfl
  · simp at hf
end Go.Proofs.YtdipflchmooakaaGreatDoor
