/-
  The landed draw: derived, Keys, IV: their contracts. The landed draw: Keys, IV: their contracts. The landed draw: Bytes, From; its contract. The landed wrap keeps its contract wherever the package's variable lies as its text lays it. Tokens in memory: the zero token, a token loaded; rows apart by their types. Of no program but api.Token. The landed lz: Good and Expand: their contracts. Tokens built: their cells. Of no program but api.Token.
-/
import Derived.Test.YtdipflchmooakaaGreatDoorWholeJ01
import Derived.Test.YtdipflchmooakaaGreatDoorWholeJ07
import Derived.Test.YtdipflchmooakaaGreatDoorWholeJ06
import Derived.Test.YtdipflchmooakaaGreatDoorWholeJ09
import Derived.Test.YtdipflchmooakaaGreatDoorWholeJ02
import Derived.Test.YtdipflchmooakaaGreatDoorWholeJ08
import Derived.Test.YtdipflchmooakaaGreatDoorWholeJ10
import Derived.Test.YtdipflchmooakaaGreatDoorWholeJ12
import Derived.Test.YtdipflchmooakaaGreatDoorWholeJ24
import Derived.Test.YtdipflchmooakaaGreatDoorWholeJ13
import Derived.RegionTactic
import Derived.BigRegion
import Derived.Test.YtdipflchmooakaaGreatDoorWholeJ23
import Derived.Test.YtdipflchmooakaaGreatDoorWholeJ30
import Derived.Test.YtdipflchmooakaaGreatDoorWholeJ05
import Derived.Test.YtdipflchmooakaaGreatDoorWholeJ22
import Derived.Deep.CutRange
import Derived.Test.YtdipflchmooakaaGreatDoorWholeJ04
import Derived.Laws.Tables
import Derived.Deep.Cut
set_option maxRecDepth 100000
namespace Go.Proofs.YtdipflchmooakaaGreatDoor
open Go.RowKit Go.Gar

theorem int_m (A : Option Addr) (l : List UInt8) (m c : Nat) (n : Int) (w : World) (hm : m = l.length) (hr : Rd w w.heap.size A l) (hsz : l.length ≤ 1000000000) (k : Nat) (hk : k = m + 8) (X : List UInt8) (hX : X = l ++ be (b64 n) 8) :
    Calls Tryz.prog 39 #[.slice A m c, .int .i64 n] w fun e w' =>
      e = .returned (.slice (some ⟨w.heap.size, 0, none⟩) k k) ∧ Blk w' w.heap.size 5 (u8s X) ∧ Below w.heap.size w w' := by
  subst hm; subst hk; subst hX
  exact int_any A l c n w hr hsz

set_option maxHeartbeats 1000000 in
theorem derived_any (w : World) (hG : Gl w) (kind : UInt8) (kz : Int) (hk : kz = (kind.toNat : Int)) (id gen : Int) (A : Option Addr) (d : List UInt8) (n c : Nat) (hn : n = d.length) (hr : Rd w w.heap.size A d) (hc : d.length ≤ c) (hl : d.length ≤ 1000000) (O : List UInt8) (hO : O = drawn kind id gen d) :
    Calls Tryz.prog 19 #[.int .u8 kz, .int .i64 id, .int .i64 gen, .slice A n c] w fun e w' => e = .returned (.agg (u8s O).toArray) ∧ Below w.heap.size w w' := by
  have hOl : O.length = 32 := by rw [hO]; exact drawn_len kind id gen d
  have hR0 := Blk.new w 22 z32
  have hb0 := below_alloc w (.cells z32.toArray 22)
  have hs0 : (w.alloc (.cells z32.toArray 22)).heap.size = w.heap.size + 1 := World.size_alloc _ _
  obtain ⟨w0, hw0⟩ : ∃ w0, w.alloc (.cells z32.toArray 22) = w0 := ⟨_, rfl⟩
  rw [hw0] at hR0 hb0 hs0
  have hB1 := Blk.new w0 5 (u8s [kind])
  have hb1 := below_alloc w0 (.cells (u8s [kind]).toArray 5)
  have hs1 : (w0.alloc (.cells (u8s [kind]).toArray 5)).heap.size = w0.heap.size + 1 := World.size_alloc _ _
  have hw1 : w0.alloc (.cells #[.int .u8 kz] 5) = w0.alloc (.cells (u8s [kind]).toArray 5) := by rw [hk]; rfl
  obtain ⟨w1, hw1'⟩ : ∃ w1, w0.alloc (.cells (u8s [kind]).toArray 5) = w1 := ⟨_, rfl⟩
  rw [hw1'] at hB1 hb1 hs1 hw1
  have HW0 := Lib.hid hw0
  have HW1 := Lib.hid hw1
  have HR0 := Lib.hid hR0
  have HB1 := Lib.hid hB1
  have HS0 := Lib.hid hs0
  have HS1 := Lib.hid hs1
  have Hb0 := Lib.hid hb0
  have Hb1 := Lib.hid hb1
  have HN := Lib.hid hn
  have HR := Lib.hid hr
  have HC := Lib.hid hc
  have HL := Lib.hid hl
  have HO := Lib.hid hO
  have HOl := Lib.hid hOl
  have HG := Lib.hid hG
  clear hw0 hw1 hw1' hR0 hB1 hs0 hs1 hb0 hb1 hn hr hc hl hO hOl hG hk
  go_enter Tryz.func19, Tryz.ntmps19
  go_wp2_with (refine wpList_alloc_arr rfl 22 z32.toArray rfl zero_32 ?_; rw [HW0.out])
  rw [HW1.out]
  obtain ⟨X1, hX1⟩ : ∃ X1, X1 = [kind] ++ be (b64 id) 8 := ⟨_, rfl⟩
  have hl1 : X1.length = 9 := by rw [hX1, List.length_append, be_len]; rfl
  obtain ⟨X2, hX2⟩ : ∃ X2, X2 = X1 ++ be (b64 gen) 8 := ⟨_, rfl⟩
  have hl2 : X2.length = 17 := by rw [hX2, List.length_append, be_len, hl1]
  refine (int_m _ [kind] 1 1 id w1 rfl (by have := Rd.of_all HB1.out; exact this) (by simp) 9 rfl X1 hX1).mono ?_
  rintro e w2 ⟨rfl, hB2, hb2⟩
  have HX1 := Lib.hid hX1
  have HX2 := Lib.hid hX2
  have Hl1 := Lib.hid hl1
  have Hl2 := Lib.hid hl2
  have HB2 := Lib.hid hB2
  have Hb2 := Lib.hid hb2
  clear hX1 hX2 hl1 hl2 hB2 hb2
  go_wp2_with fail
  refine (int_m _ X1 9 9 gen w2 Hl1.out.symm (Rd.of_all HB2.out) (by rw [Hl1.out]; omega) 17 rfl X2 HX2.out).mono ?_
  rintro e w3 ⟨rfl, hB3, hb3⟩
  have hb13 : Below w1.heap.size w1 w3 := Hb2.out.trans (hb3.mono Hb2.out.size)
  have hb03 : Below w0.heap.size w0 w3 := Hb1.out.trans (hb13.mono Hb1.out.size)
  have hbw3 : Below w.heap.size w w3 := Hb0.out.trans (hb03.mono Hb0.out.size)
  have HB3 := Lib.hid hB3
  have Hb3 := Lib.hid hbw3
  have HR3 := Lib.hid (HR0.out.below hb03 HR0.out.lt)
  have HG3 := Lib.hid (Gl.keep HG.out hbw3)
  have HD3 := Lib.hid ((HR.out.below hbw3).more hbw3.size)
  clear hB3 hb3 hb13 hb03 hbw3 HB2 Hb2 HB1 HR0 HR HG
  go_wp2_with fail
  refine (sha2 shaOK _ A X2 d 17 n 17 c _ w3 (u8s O).toArray (by rw [HO.out, drawn, drawPre, HX2.out, HX1.out]; simp only [List.append_assoc]) HG3.out rfl Hl2.out.symm HN.out (Rd.of_all HB3.out) HD3.out (by rw [List.length_append, Hl2.out]; have := HL.out; omega) (by rw [Hl2.out]; exact Nat.le_refl _) HC.out).mono ?_
  rintro e w4 ⟨rfl, hb4, _⟩
  have HR4 := Lib.hid (HR3.out.below hb4 HR3.out.lt)
  have Hb4 := Lib.hid (below_setRow (Hb3.out.trans (hb4.mono Hb3.out.size)) (Nat.le_refl _) (u8s O).toArray)
  have HSz := Lib.hid (size_32 O HOl.out)
  have HLn : Hid (z32.length = (u8s O).length) := Lib.hid (by rw [u8s_len, HOl.out, z32_len])
  have hl2 := run_loadVar_row (P := Tryz.prog) (w4.setRow w.heap.size (u8s O).toArray) w.heap.size 22 22 (u8s O).toArray (0, 0) _ (HR4.out.row _) Tryz.und32 rfl (by simpa using size_32 O HOl.out)
  have HL2 := Lib.hid hl2
  clear hb4 HR3 Hb3 hl2
  go_wp2_with (refine wpList_store_arr rfl 22 (.tmp 8) (.tmp 19) w.heap.size z32 (u8s O) rfl rfl rfl rfl HR4.out HSz.out HLn.out (u8s_one _) ?_)
  refine bodyPost_ret (v := .agg (u8s O).toArray) ?_ rfl ⟨rfl, Hb4.out⟩
  have hl2 := HL2.out
  generalize (u8s O).toArray = Y at hl2 ⊢
  simp [results, Tryz.results19, asAddr, hl2]
end Go.Proofs.YtdipflchmooakaaGreatDoor
namespace Go.Proofs.YtdipflchmooakaaGreatDoor
open Go.RowKit Go.Gar

set_option maxHeartbeats 1000000 in
theorem keysG_any (w : World) (hG : Gl w) (id gen : Int) (A : Option Addr) (d : List UInt8) (n c : Nat) (hn : n = d.length) (hr : Rd w w.heap.size A d) (hc : d.length ≤ c) (hl : d.length ≤ 1000000) (O : List UInt8) (hO : O = keysL id gen d) :
    Calls Tryz.prog 6 #[.int .i64 id, .int .i64 gen, .slice A n c] w fun e w' => e = .returned (.agg (u8s O).toArray) ∧ Below w.heap.size w w' := by
  have hOl : O.length = 64 := by rw [hO]; exact keysL_len id gen d
  have hz0 : z64.length = 64 := by simp [z64, u8s_len]
  have hR0 := Blk.new w 29 z64
  have hb0 := below_alloc w (.cells z64.toArray 29)
  have hs0 : (w.alloc (.cells z64.toArray 29)).heap.size = w.heap.size + 1 := World.size_alloc _ _
  obtain ⟨w0, hw0⟩ : ∃ w0, w.alloc (.cells z64.toArray 29) = w0 := ⟨_, rfl⟩
  rw [hw0] at hR0 hb0 hs0
  have HW0 := Lib.hid hw0
  have HR0 := Lib.hid hR0
  have Hb0 := Lib.hid hb0
  have HN := Lib.hid hn
  have HR := Lib.hid hr
  have HC := Lib.hid hc
  have HL := Lib.hid hl
  have HO := Lib.hid hO
  have HOl := Lib.hid hOl
  have HG := Lib.hid hG
  have HZ0 := Lib.hid hz0
  clear hw0 hR0 hb0 hs0 hn hr hc hl hO hOl hG hz0
  go_enter Tryz.func6, Tryz.ntmps6
  go_wp2_with (refine wpList_alloc_arr rfl 29 z64.toArray rfl zero_64 ?_; rw [HW0.out])
  refine (derived_any w0 (Gl.keep HG.out Hb0.out) 1 1 rfl id gen A d n c HN.out ((HR.out.below Hb0.out).more Hb0.out.size) HC.out HL.out _ rfl).mono ?_
  rintro e w1 ⟨rfl, hb1⟩
  have Hb1 := Lib.hid (Hb0.out.trans (hb1.mono Hb0.out.size))
  have HR1 := Lib.hid (HR0.out.below hb1 HR0.out.lt)
  obtain ⟨D1, hD1⟩ : ∃ D1, drawn 1 id gen d = D1 := ⟨_, rfl⟩
  rw [hD1]
  have HD1 := Lib.hid hD1
  have Hl1 : Hid (D1.length = 32) := Lib.hid (by rw [← hD1]; exact drawn_len _ _ _ _)
  clear hb1 HR0 Hb0 hD1
  go_wp2_with fail
  refine (derived_any w1 (Gl.keep HG.out Hb1.out) 2 2 rfl id gen A d n c HN.out ((HR.out.below Hb1.out).more Hb1.out.size) HC.out HL.out _ rfl).mono ?_
  rintro e w2 ⟨rfl, hb2⟩
  obtain ⟨D2, hD2⟩ : ∃ D2, drawn 2 id gen d = D2 := ⟨_, rfl⟩
  rw [hD2]
  have HR2 := Lib.hid (HR1.out.below hb2 HR1.out.lt)
  have hO2 : D1 ++ D2 = O := by rw [HO.out, keysL, hD2, HD1.out]
  have hbt := builtKeys D1 D2 Hl1.out (by rw [← hD2]; exact drawn_len _ _ _ _)
  rw [hO2] at hbt
  have Hb2 := Lib.hid (below_setRow (Hb1.out.trans (hb2.mono Hb1.out.size)) (Nat.le_refl _) (u8s O).toArray)
  have HSz := Lib.hid (size_64 O HOl.out)
  have HLn : Hid (z64.length = (u8s O).length) := Lib.hid (by rw [u8s_len, HOl.out, HZ0.out])
  have hl2 := load_keys (HR2.out.row (u8s O)) HOl.out
  have HL2 := Lib.hid hl2
  have HBt := Lib.hid hbt
  clear hb2 HR1 Hb1 hl2 hbt hO2 hD2 HO HD1 Hl1
  go_wp2_with (first | refine wpList_build_w 29 _ rfl (by simp [Act.eval]) HBt.out (by kernel_rfl) ?_ | refine wpList_store_arr rfl 29 (.tmp 6) (.tmp 15) w.heap.size z64 (u8s O) rfl rfl rfl rfl HR2.out HSz.out HLn.out (u8s_one _) ?_)
  refine bodyPost_ret (v := .agg (u8s O).toArray) ?_ rfl ⟨rfl, Hb2.out⟩
  have hl2 := HL2.out
  generalize (u8s O).toArray = Y at hl2 ⊢
  simp [results, Act.put, Tryz.results6, asAddr, hl2]

set_option maxHeartbeats 1000000 in
theorem ivG_any (w : World) (hG : Gl w) (id gen : Int) (A : Option Addr) (d : List UInt8) (n c : Nat) (hn : n = d.length) (hr : Rd w w.heap.size A d) (hc : d.length ≤ c) (hl : d.length ≤ 1000000) (O : List UInt8) (hO : O = ivL id gen d) :
    Calls Tryz.prog 8 #[.int .i64 id, .int .i64 gen, .slice A n c] w fun e w' => e = .returned (.agg (u8s O).toArray) ∧ Below w.heap.size w w' := by
  have hOl : O.length = 16 := by rw [hO]; exact ivL_len id gen d
  have hR0 := Blk.new w 32 (u8s (List.replicate 16 0))
  have hb0 := below_alloc w (.cells (u8s (List.replicate 16 0)).toArray 32)
  have hs0 : (w.alloc (.cells (u8s (List.replicate 16 0)).toArray 32)).heap.size = w.heap.size + 1 := World.size_alloc _ _
  obtain ⟨w0, hw0⟩ : ∃ w0, w.alloc (.cells (u8s (List.replicate 16 0)).toArray 32) = w0 := ⟨_, rfl⟩
  rw [hw0] at hR0 hb0 hs0
  obtain ⟨zz, hzz⟩ : ∃ zz, u8s (List.replicate 16 0) = zz := ⟨_, rfl⟩
  rw [hzz] at hR0 hw0
  have hzl : zz.length = 16 := by rw [← hzz, u8s_len, List.length_replicate]
  have hz := zero_IV
  rw [hzz] at hz
  have HW0 := Lib.hid hw0
  have HR0 := Lib.hid hR0
  have Hb0 := Lib.hid hb0
  have HN := Lib.hid hn
  have HR := Lib.hid hr
  have HC := Lib.hid hc
  have HL := Lib.hid hl
  have HO := Lib.hid hO
  have HOl := Lib.hid hOl
  have HG := Lib.hid hG
  have HZl := Lib.hid hzl
  have HZ := Lib.hid hz
  clear hw0 hR0 hb0 hs0 hn hr hc hl hO hOl hG hzl hz hzz
  go_enter Tryz.func8, Tryz.ntmps8
  go_wp2_with (refine wpList_alloc_arr rfl 32 zz.toArray rfl HZ.out ?_; rw [HW0.out])
  refine (derived_any w0 (Gl.keep HG.out Hb0.out) 3 3 rfl id gen A d n c HN.out ((HR.out.below Hb0.out).more Hb0.out.size) HC.out HL.out _ rfl).mono ?_
  rintro e w1 ⟨rfl, hb1⟩
  obtain ⟨D, hD⟩ : ∃ D, drawn 3 id gen d = D := ⟨_, rfl⟩
  rw [hD]
  have hDl : D.length = 32 := by rw [← hD]; exact drawn_len _ _ _ _
  have hOD : O = D.take 16 := by rw [HO.out, ivL, hD]
  have hEa : (w1.alloc (.cells z32.toArray 22)).setRow w1.heap.size (u8s D).toArray = w1.alloc (.cells (u8s D).toArray 22) := World.setRow_alloc_new w1 _ _ _
  have hD2 := Blk.new w1 22 (u8s D)
  have hb2 := below_alloc w1 (.cells (u8s D).toArray 22)
  obtain ⟨w2, hw2⟩ : ∃ w2, w1.alloc (.cells (u8s D).toArray 22) = w2 := ⟨_, rfl⟩
  rw [hw2] at hEa hD2 hb2
  have hb12 := hb1.trans (hb2.mono hb1.size)
  have HR2 := Lib.hid (HR0.out.below hb12 HR0.out.lt)
  have Hb2 := Lib.hid (below_setRow (Hb0.out.trans (hb12.mono Hb0.out.size)) (Nat.le_refl _) (u8s O).toArray)
  have HEa := Lib.hid hEa
  have HZ1 := Lib.hid (Blk.new w1 22 z32)
  have HSD := Lib.hid (size_32 D hDl)
  have HZD : Hid (z32.length = (u8s D).length) := Lib.hid (by rw [u8s_len, hDl, z32_len])
  have hat := run_arrIV w1.heap.size 0 32 32 (by omega) w2
  have hld := run_loadVar_seg (P := Tryz.prog) w1.heap.size 0 (u8s D) (u8s O) hD2 (fun j v hj => by
    have hlt : j < 16 := by have := (List.getElem?_eq_some_iff.1 hj).1; rw [u8s_len, HOl.out] at this; exact this
    rw [Nat.zero_add, ← hj, u8s_get, u8s_get, hOD, List.getElem?_take_of_lt hlt]) Tryz.undIV rfl (size_IV O HOl.out)
  have HSz := Lib.hid (size_IV O HOl.out)
  have HLn : Hid (zz.length = (u8s O).length) := Lib.hid (by rw [u8s_len, HOl.out, HZl.out])
  have hl2 := run_loadVar_row (P := Tryz.prog) (w2.setRow w.heap.size (u8s O).toArray) w.heap.size 32 32 (u8s O).toArray (0, 0) _ (HR2.out.row _) Tryz.undIV rfl (by simpa using size_IV O HOl.out)
  have HL2 := Lib.hid hl2
  have Hat := Lib.hid hat
  have Hld := Lib.hid hld
  clear hD hDl hOD hEa hD2 hb2 hw2 hb12 hb1 hat hld hl2 HR0 Hb0
  go_wp2_with (first | refine wpList_alloc_arr rfl 22 z32.toArray rfl zero_32 ?_ | (refine wpList_store_arr rfl 22 (.tmp 7) (.tmp 11) w1.heap.size z32 (u8s D) rfl rfl rfl rfl HZ1.out HSD.out HZD.out (u8s_one _) ?_; rw [HEa.out]) | refine wpList_arrAt 32 (.tmp 12) rfl rfl Hat.out (by kernel_rfl) ?_ | refine wpList_load_at 32 (.tmp 13) rfl rfl (u8s O).toArray Hld.out (by kernel_rfl) ?_ | refine wpList_store_arr rfl 32 (.tmp 6) (.tmp 14) w.heap.size zz (u8s O) rfl rfl rfl rfl HR2.out HSz.out HLn.out (u8s_one _) ?_)
  refine bodyPost_ret (v := .agg (u8s O).toArray) ?_ rfl ⟨rfl, Hb2.out⟩
  have hl2 := HL2.out
  generalize (u8s O).toArray = Y at hl2 ⊢
  simp [results, Act.put, Tryz.results8, asAddr, hl2]
end Go.Proofs.YtdipflchmooakaaGreatDoor
namespace Go.Proofs.YtdipflchmooakaaGreatDoor
open Go.RowKit Go.Gar

set_option maxHeartbeats 1000000 in
theorem bytesG_any (w : World) (l : List UInt8) (hl : l.length = 64) :
    Calls Tryz.prog 10 #[.agg (u8s l).toArray] w fun e w' => ∃ A c, e = .returned (.slice A 64 c) ∧ 64 ≤ c ∧ Rd w' w'.heap.size A l ∧ Below w.heap.size w w' := by
  have hB0 := Blk.new w 29 (u8s l)
  have hb0 := below_alloc w (.cells (u8s l).toArray 29)
  have hs0 : (w.alloc (.cells (u8s l).toArray 29)).heap.size = w.heap.size + 1 := World.size_alloc _ _
  obtain ⟨w0, hw0⟩ : ∃ w0, w.alloc (.cells (u8s l).toArray 29) = w0 := ⟨_, rfl⟩
  rw [hw0] at hB0 hb0 hs0
  have HW0 := Lib.hid hw0
  have HB0 := Lib.hid hB0
  have Hb0 := Lib.hid hb0
  have HS0 := Lib.hid hs0
  have HL := Lib.hid hl
  clear hw0 hB0 hb0 hs0 hl
  go_enter Tryz.func10, Tryz.ntmps10
  go_wp2_with fail
  rw [HW0.out]
  refine wp_region_G grows (by kernel_rfl) ?_
  have HB1 := Lib.hid HB0.out.drew
  have Hb1 := Lib.hid Hb0.out.drew
  have HS1 : Hid (w0.drew.heap.size = w.heap.size + 1) := Lib.hid HS0.out
  clear HB0 Hb0 HS0 HW0
  generalize w0.drew = W1 at *
  refine segG (by kernel_rfl) (fun _ _ _ _ _ h => h) [0, 1, 2, 3] [_, _, _, _] 3 rfl rfl (by kernel_rfl) ?_
  repeat (go_big_quiet_step (fail))
  refine wpQuiet_nil ?_
  refine oneG 4 2 rfl (by kernel_rfl) rfl ?_
  go_wp2
  refine ⟨below_alloc W1 _, ?_⟩
  have hbl := below_alloc W1 (.cells #[.slice (some ⟨w.heap.size, 0, none⟩) 32 32, .slice (some ⟨w.heap.size, 32, none⟩) 32 32] 23)
  have hC := Blk.new W1 23 [.slice (some ⟨w.heap.size, 0, none⟩) 32 32, .slice (some ⟨w.heap.size, 32, none⟩) 32 32]
  have hs1 := HS1.out
  have r1 := Rd.of_blk0 l HB1.out (B := W1.heap.size) (by omega) 32
  have r2 := Rd.of_blk l HB1.out (B := W1.heap.size) (by omega) 32 32
  clear hs1
  refine oneG 5 1 rfl (by kernel_rfl) rfl ?_
  go_wp2_with fail
  refine (concat_any (W1.alloc (.cells #[.slice (some ⟨w.heap.size, 0, none⟩) 32 32, .slice (some ⟨w.heap.size, 32, none⟩) 32 32] 23)) W1.heap.size _ _ (l.take 32) ((l.drop 32).take 32) 32 32 32 32 hC (by rw [List.length_take, HL.out]; rfl) (by rw [List.length_take, List.length_drop, HL.out]; rfl) ((r1.below hbl).more hbl.size) ((r2.below hbl).more hbl.size) (by omega) (by omega)).mono ?_
  rintro e W2 ⟨v, rfl, hO, hb2⟩
  have hll : l.take 32 ++ (l.drop 32).take 32 = l := by
    rw [show (l.drop 32).take 32 = l.drop 32 from List.take_of_length_le (by rw [List.length_drop, HL.out]; omega), List.take_append_drop]
  rw [hll] at hO
  obtain ⟨gR, cp, rest, rfl, _, hcp, hB⟩ := hO.blk (by rw [HL.out]; omega)
  rw [HL.out] at hcp ⊢
  have HR := Lib.hid (Rd.of_row hB)
  have Hcp := Lib.hid hcp
  have Hb2 := Lib.hid hb2
  have Hbw := Lib.hid (Hb1.out.trans ((hbl.trans (hb2.mono hbl.size)).mono Hb1.out.size))
  clear hO hB hcp hb2 hbl hC r1 r2 hll
  go_wp2
  refine ⟨Hb2.out, ?_⟩
  refine segG (by kernel_rfl) (fun _ _ _ _ _ h => h) [6] [_] 0 rfl rfl (by kernel_rfl) ?_
  repeat (go_big_quiet_step (fail))
  refine wpQuiet_nil ?_
  refine wpAnyG_done (by kernel_rfl) ?_
  go_wp2
  go_ret
  exact ⟨_, cp, rfl, Hcp.out, HR.out, Hbw.out⟩

theorem run_arr32 (g o n c : Nat) (h : 32 ≤ n) (W : World) : (Instr.arrayAt 22 (.slice (some ⟨g, o, none⟩) n c)).run Tryz.prog W = .ok (.pointer (some ⟨g, o, none⟩)) W := by
  have h1 : ¬ n < 32 := by omega
  simp [Instr.arrayAt, run_underlying Tryz.und32 W, h1]

theorem load_mid32 {B : Nat} {w : World} {g o : Nat} {b : List UInt8} (k : Nat) (hg : g < B) (hk : k + 32 ≤ b.length) (hc : ∀ (i : Nat) (x : UInt8), b[i]? = some x → w.cell? ⟨g, o + i, none⟩ = some (.int .u8 (x.toNat : Int))) :
    ∀ V : Later (belowG B) w, (loadVar 22 ⟨g, o + k, none⟩).run Tryz.prog V.to = .ok (.agg (u8s ((b.drop k).take 32)).toArray) V.to := fun V =>
  run_loadVar_mid (P := Tryz.prog) V.to g (o + k) 22 (u8s ((b.drop k).take 32)) _ (fun j v hv => by
    have hV : Below B w V.to := V.grown
    rw [u8s_get] at hv
    cases hq : ((b.drop k).take 32)[j]? with
    | none => rw [hq] at hv; cases hv
    | some c =>
      rw [hq] at hv
      obtain rfl := Option.some.inj hv
      rw [List.getElem?_take] at hq
      split at hq
      · rw [List.getElem?_drop] at hq
        have := (hV.cell (p := ⟨g, o + k + j, none⟩) hg).trans (show w.cell? ⟨g, o + k + j, none⟩ = some (.int .u8 (c.toNat : Int)) by rw [Nat.add_assoc]; exact hc (k + j) c hq)
        exact this
      · cases hq) Tryz.und32 rfl (size_32 _ (by rw [List.length_take, List.length_drop]; omega))

set_option maxHeartbeats 2000000 in
theorem fromG_any (w : World) (A : Option Addr) (b : List UInt8) (c : Nat) (hr : Rd w w.heap.size A b) (hc : b.length ≤ c) :
    Calls Tryz.prog 13 #[.slice A b.length c] w fun e w' => e = .returned (.tuple #[.agg (u8s (fromL b)).toArray, .int .i64 ((fromE b : Nat) : Int)]) ∧ Below w.heap.size w w' := by
  have hz0 : z64.length = 64 := by simp [z64, u8s_len]
  have hR0 := Blk.new w 29 z64
  have hb0 := below_alloc w (.cells z64.toArray 29)
  obtain ⟨w0, hw0⟩ : ∃ w0, w.alloc (.cells z64.toArray 29) = w0 := ⟨_, rfl⟩
  rw [hw0] at hR0 hb0
  by_cases h64 : b.length = 64
  · have hF : fromL b = b := by unfold fromL; rw [if_pos h64]
    have hE : fromE b = 0 := by unfold fromE; rw [if_pos h64]
    rw [hF, hE, h64]
    obtain ⟨g, o, rfl, hgB, hcl⟩ : ∃ g o, A = some ⟨g, o, none⟩ ∧ g < w.heap.size ∧ ∀ (i : Nat) (x : UInt8), b[i]? = some x → w.cell? ⟨g, o + i, none⟩ = some (.int .u8 (x.toNat : Int)) := by
      rcases hr with h | ⟨g, o, h1, h2, h3⟩
      · rw [h] at h64; cases h64
      · exact ⟨g, o, h1, h2, h3⟩
    have hcl0 : ∀ (i : Nat) (x : UInt8), b[i]? = some x → w0.cell? ⟨g, o + i, none⟩ = some (.int .u8 (x.toNat : Int)) := fun i x hx => (hb0.cell (p := ⟨g, o + i, none⟩) hgB).trans (hcl i x hx)
    have s1 := fun W => slice_upto g o 64 c 32 (by omega) W
    have s2 := fun W => slice_from g o 64 c 32 (by omega) (by omega) W
    rw [show ((32 : Nat) : Int) = 32 from rfl] at s1 s2
    have p1 := fun W => run_arr32 g o 32 c (by omega) W
    have p2 := fun W => run_arr32 g (o + 32) 32 (c - 32) (by omega) W
    have l1 := load_mid32 (B := w.heap.size) (w := w0.drew) (g := g) (o := o) 0 hgB (by omega) hcl0
    have l2 := load_mid32 (B := w.heap.size) (w := w0.drew) (g := g) (o := o) 32 hgB (by omega) hcl0
    rw [List.drop_zero, Nat.add_zero] at l1
    have hbt := builtKeys (b.take 32) ((b.drop 32).take 32) (by rw [List.length_take]; omega) (by rw [List.length_take, List.length_drop]; omega)
    have hll : b.take 32 ++ (b.drop 32).take 32 = b := by
      rw [show (b.drop 32).take 32 = b.drop 32 from List.take_of_length_le (by rw [List.length_drop]; omega), List.take_append_drop]
    rw [hll] at hbt
    obtain ⟨X1, hX1⟩ : ∃ X1, b.take 32 = X1 := ⟨_, rfl⟩
    obtain ⟨X2, hX2⟩ : ∃ X2, (b.drop 32).take 32 = X2 := ⟨_, rfl⟩
    rw [hX1] at l1 hbt
    rw [hX2] at l2 hbt
    have HW0 := Lib.hid hw0
    have HR0 := Lib.hid hR0.drew
    have HSz := Lib.hid (size_64 b h64)
    have HLn : Hid (z64.length = (u8s b).length) := Lib.hid (by rw [u8s_len, h64, hz0])
    have Hb1 := Lib.hid (below_setRow hb0.drew (Nat.le_refl _) (u8s b).toArray)
    have HL2 := Lib.hid (load_keys (hR0.drew.row (u8s b)) h64)
    have HBt := Lib.hid hbt
    have Hp1 := Lib.hid p1
    have Hp2 := Lib.hid p2
    have Hl1 := Lib.hid l1
    have Hl2 := Lib.hid l2
    have Hs1 := Lib.hid s1
    have Hs2 := Lib.hid s2
    clear hX1 hX2 hll hbt l1 l2 p1 p2 s1 s2 hcl hcl0 hgB hz0 hR0 hb0 hw0 hF hE h64 hr hc
    go_enter Tryz.func13, Tryz.ntmps13
    go_wp2_with (refine wpList_alloc_arr rfl 29 z64.toArray rfl zero_64 ?_; rw [HW0.out])
    refine wp_region_G (belowG w.heap.size) (by kernel_rfl) ?_
    clear HW0
    generalize w0.drew = W1 at *
    have s1 := Hs1.out
    have s2 := Hs2.out
    clear Hs1 Hs2
    refine segG (by kernel_rfl) (fun _ _ _ _ _ h => h) [0, 1, 4, 5] [_, _, _, _] 7 rfl rfl (by kernel_rfl) ?_
    repeat (go_big_quiet_step (fail))
    refine wpQuiet_nil ?_
    clear s1 s2
    refine firstG_arrayAt 22 (.tmp 9) (i := 2) (n := 6) (by kernel_rfl) (fun _ _ _ _ _ h => h) rfl rfl (by kernel_rfl) rfl rfl Hp1.out (by kernel_rfl) ?_
    simp only [Act.put, List.setIfInBounds_toArray, List.set]
    refine firstG_arrayAt 22 (.tmp 13) (i := 6) (n := 5) (by kernel_rfl) (fun _ _ _ _ _ h => h) rfl rfl (by kernel_rfl) rfl rfl Hp2.out (by kernel_rfl) ?_
    simp only [Act.put, List.setIfInBounds_toArray, List.set]
    refine segG (by kernel_rfl) (fun _ _ _ _ _ h => h) [3, 7] [_, _] 3 rfl rfl (by kernel_rfl) ?_
    refine wpQuiet_load_at 22 (.tmp 10) rfl rfl (u8s X1).toArray Hl1.out (by kernel_rfl) ?_
    simp only [Act.put, List.setIfInBounds_toArray, List.set]
    refine wpQuiet_load_at 22 (.tmp 14) rfl rfl (u8s X2).toArray Hl2.out (by kernel_rfl) ?_
    simp only [Act.put, List.setIfInBounds_toArray, List.set]
    refine wpQuiet_nil ?_
    clear Hl1 Hl2
    refine oneG 8 2 rfl (by kernel_rfl) rfl ?_
    refine wpList_build_w 29 _ rfl (by simp [Act.eval]) HBt.out (by kernel_rfl) ?_
    go_wp2
    refine ⟨Below.refl _ _, ?_⟩
    simp only [Act.put, List.setIfInBounds_toArray, List.set]
    refine lateG 9 1 rfl (by kernel_rfl) (by kernel_rfl) rfl ?_
    refine wpList_store_arr rfl 29 (.tmp 2) (.tmp 16) w.heap.size z64 (u8s b) rfl rfl rfl rfl HR0.out HSz.out HLn.out (u8s_one _) ?_
    go_wp2
    refine ⟨trivial, ?_⟩
    refine segG (by kernel_rfl) (fun _ _ _ _ _ h => h) [10] [_] 0 rfl rfl (by kernel_rfl) ?_
    repeat (go_big_quiet_step (fail))
    refine wpQuiet_nil ?_
    refine wpAnyG_done (by kernel_rfl) ?_
    go_wp2
    have hl2 := HL2.out
    refine bodyPost_ret (v := .tuple #[.agg (u8s b).toArray, .int .i64 ((0 : Nat) : Int)]) ?_ rfl ⟨rfl, Hb1.out⟩
    generalize (u8s b).toArray = Y at hl2 ⊢
    simp [results, Tryz.results13, asAddr, hl2]
  · have hF : fromL b = List.replicate 64 0 := by unfold fromL; rw [if_neg h64]
    have hE : fromE b = 3 := by unfold fromE; rw [if_neg h64]
    rw [hF, hE]
    have hzb : z64 = u8s (List.replicate 64 0) := rfl
    have HW0 := Lib.hid hw0
    have HR0 := Lib.hid hR0
    have HSz := Lib.hid (show (Tryz.prog.info? 29).map (·.size) = some z64.length by rw [hz0]; exact Tryz.sizeKeys)
    have Hb1 := Lib.hid (below_setRow hb0 (Nat.le_refl _) z64.toArray)
    have hl2 := load_keys (W := w0.setRow w.heap.size z64.toArray) (g := w.heap.size) (l := List.replicate 64 0) (hR0.row z64) rfl
    rw [← hzb] at hl2 ⊢
    have H1 : Hid (∀ u ∈ z64, u.oneCell' = true) := Lib.hid (u8s_one _)
    have HL2 := Lib.hid hl2
    generalize b.length = n at *
    have hne : ((n : Int) != 64) = true := by simp; omega
    clear hF hE hzb hl2 hr hc h64 hb0 hR0 hw0 hz0
    go_enter Tryz.func13, Tryz.ntmps13
    go_wp2_with (first | (refine wpList_alloc_arr rfl 29 z64.toArray rfl zero_64 ?_; rw [HW0.out]) | refine wpList_build_w 29 _ rfl (by simp [Act.eval]) builtKeys0 (by kernel_rfl) ?_ | refine wpList_store_arr rfl 29 (.tmp 2) (.tmp 7) w.heap.size z64 z64 rfl rfl rfl rfl HR0.out HSz.out rfl H1.out ?_)
    have hl2 := HL2.out
    refine bodyPost_ret (v := .tuple #[.agg z64.toArray, .int .i64 ((3 : Nat) : Int)]) ?_ rfl ⟨rfl, Hb1.out⟩
    generalize z64.toArray = Y at hl2 ⊢
    simp [results, Tryz.results13, asAddr, hl2]

/-- The landed draw keeps its contract wherever sha's table lies as its text lays it. -/
theorem drawOK : DrawOK Gl :=
  ⟨fun h hb => h.keep hb, fun w id gen A d c hG hr hc hl => keysG_any w hG id gen A d _ c rfl hr hc hl _ rfl, fun w id gen A d c hG hr hc hl => ivG_any w hG id gen A d _ c rfl hr hc hl _ rfl, bytesG_any, fromG_any⟩
end Go.Proofs.YtdipflchmooakaaGreatDoor
namespace Go.Proofs.YtdipflchmooakaaGreatDoor
open Go.RowKit Go.Gar Go.Gar.Aes

theorem wrapOK : WrapOK GlW where
  keep := fun h hb => h.keep hb
  wrap_ := fun w K A key b kc bc hG rK rA hk hbc hl => by
    unfold wrapB wrapE
    by_cases hs : sizeOk key.length
    · by_cases hf : fits b.length
      · have hc : sizeOk key.length ∧ fits b.length := ⟨hs, hf⟩
        rw [if_pos hc, if_pos hc]
        exact wrap_yes w hG K A key b _ kc _ bc rfl hk rfl rK rA hs hf _ rfl
      · rw [if_neg (fun h => hf h.2), if_neg (fun h => hf h.2)]
        exact (wrap_arg w K A key _ kc _ bc rfl hk rK hs hf hl).mono fun e w' ⟨h1, h2⟩ => ⟨_, h1, Out.nil _, h2⟩
    · rw [if_neg (fun h => hs h.1), if_neg (fun h => hs h.1)]
      exact (wrap_no w K A _ kc _ bc hs).mono fun e w' ⟨h1, h2⟩ => ⟨_, h1, Out.nil _, h2⟩
  unwrap_ := fun w K A key b kc bc hG rK rA hk hbc hl => by
    unfold unwrapB unwrapE
    by_cases hs : sizeOk key.length
    · by_cases hf : 8 ≤ b.length ∧ fits (b.length - 8)
      · have hc : sizeOk key.length ∧ 8 ≤ b.length ∧ fits (b.length - 8) := ⟨hs, hf⟩
        rw [if_pos hc, if_pos hc]
        exact unwrap_yes w hG K A key b _ kc _ bc rfl hk rfl hbc rK rA hs hf.1 hf.2 _ _ rfl rfl
      · rw [if_neg (fun h => hf h.2), if_neg (fun h => hf h.2)]
        exact (unwrap_arg w K A key _ kc _ bc rfl hk rK hs hf hl).mono fun e w' ⟨h1, h2⟩ => ⟨_, h1, Out.nil _, h2⟩
    · rw [if_neg (fun h => hs h.1), if_neg (fun h => hs h.1)]
      exact (unwrap_no w K A _ kc _ bc hs).mono fun e w' ⟨h1, h2⟩ => ⟨_, h1, Out.nil _, h2⟩
end Go.Proofs.YtdipflchmooakaaGreatDoor
namespace Go.Proofs.YtdipflchmooakaaGreatDoor
open Go.RowKit Go.Gar

def zT : List Value := [.slice none 0 0, .int .i64 0, .int .i64 0]
theorem Tryz.infoTok2 : (Tryz.prog.info? 61).map (fun i => (i.zero, i.size)) = some (some (.agg #[.slice none 0 0, .int .i64 0, .int .i64 0]), 3) := by kernel_rfl
theorem zero_T (w : World) : (zeroValue 61).run Tryz.prog w = .ok (.agg zT.toArray) w := by
  have := (zero_of_info Tryz.infoTok2).1 w
  rw [this]
  rfl
theorem size_T (t : Tv) : (Tryz.prog.info? 61).map (·.size) = some t.cells.length := Tryz.sizeTok
theorem load_T {W : World} {b o i : Nat} {t : Tv} (hc : ∀ j v, j < 3 → t.cells[j]? = some v → W.cell? ⟨b, o + (3 * i + j), none⟩ = some v) (q : Nat) (hq : q = o + 3 * i) : (loadVar 61 ⟨b, q, none⟩).run Tryz.prog W = .ok (.agg t.cells.toArray) W := by
  subst hq
  refine run_loadVar_mid (P := Tryz.prog) W b _ 61 t.cells _ (fun j v hv => ?_) Tryz.undTok rfl (size_T t)
  rw [Nat.add_assoc]
  exact hc j v (List.getElem?_eq_some_iff.1 hv).1 hv
theorem load_T0 {W : World} {g : Nat} {t : Tv} (h : Blk W g 61 t.cells) : (loadVar 61 ⟨g, 0, none⟩).run Tryz.prog W = .ok (.agg t.cells.toArray) W :=
  run_loadVar_row (P := Tryz.prog) W g 61 61 t.cells.toArray (0, 0) _ h Tryz.undTok rfl (by simpa using size_T t)

def lenV : Value → Nat
  | .slice _ n _ => n
  | _ => 0
theorem own_ne {w : World} {base g : Nat} {e t : TypeId} {v : Value} {k : List UInt8} {cs : List Value} (h : OwnB w base e v k) (hB : Blk w g t cs) (hne : e ≠ t) : some g ≠ v.ownBlock := by
  intro he
  rcases h.2 with ⟨rfl, _⟩ | ⟨g', cap, cur, rfl, _, hg', _⟩
  · cases he
  · obtain rfl : g = g' := by simpa [Value.ownBlock] using he
    unfold Blk at hB
    rw [hB] at hg'
    simp only [Option.some.injEq, Obj.cells.injEq] at hg'
    exact hne hg'.2.1.symm
end Go.Proofs.YtdipflchmooakaaGreatDoor
namespace Go.Proofs.YtdipflchmooakaaGreatDoor
open Go.RowKit Go.Gar

theorem good_lit_eq {t : Lz.Tok} {ln : Nat} (h : t.lit.length = ln) (h0 : 0 < ln) : Lz.good t = (decide (ln ≤ 128) && (decide (t.len = 0) && decide (t.dist = 0))) := by
  unfold Lz.good
  rw [if_neg (fun e => by rw [e] at h; simp at h; omega), h]
  by_cases h1 : ln ≤ 128 <;> by_cases h2 : t.len = 0 <;> by_cases h3 : t.dist = 0 <;> simp [h1, h2, h3] <;> omega
theorem good_mat_eq {t : Lz.Tok} (h : t.lit.length = 0) : Lz.good t = (decide (3 ≤ t.len) && (decide (t.len ≤ 130) && (decide (1 ≤ t.dist) && decide (t.dist ≤ 4096)))) := by
  unfold Lz.good
  rw [if_pos (List.eq_nil_of_length_eq_zero h)]
  by_cases h1 : 3 ≤ t.len <;> by_cases h2 : t.len ≤ 130 <;> by_cases h3 : 1 ≤ t.dist <;> by_cases h4 : t.dist ≤ 4096 <;> simp [h1, h2, h3, h4] <;> omega

set_option maxHeartbeats 1000000 in
theorem lzGood_any (t : Tv) (w : World) (z : Bool) (hz : z = Lz.good t.tok) :
    Calls Tryz.prog 34 #[.agg t.cells.toArray] w fun e w' => e = .returned (.bool z) ∧ Below w.heap.size w w' := by
  rcases t with ⟨A, l, c, n, d⟩
  unfold Tv.cells
  simp only
  obtain ⟨ln, hln⟩ : ∃ ln, l.length = ln := ⟨_, rfl⟩
  rw [hln]
  have hb := below_alloc w (.cells #[.slice A ln c, .int .i64 n, .int .i64 d] 61)
  have Hb := Lib.hid hb
  by_cases h0 : 0 < ln
  · rw [good_lit_eq (t := (⟨A, l, c, n, d⟩ : Tv).tok) hln h0] at hz
    simp only [Tv.tok] at hz
    have d0 : decide ((0 : Int) < (ln : Int)) = true := by simp; omega
    by_cases h1 : ln ≤ 128
    · have d1 : decide ((ln : Int) ≤ 128) = true := by simp; omega
      by_cases h2 : n = 0
      · subst h2
        by_cases h3 : d = 0
        · subst h3
          have HZ := Lib.hid (show z = true by rw [hz]; simp [h1])
          clear hz hb hln
          go_enter Tryz.func34, Tryz.ntmps34
          go_wp2
          go_ret
          exact ⟨by rw [HZ.out]; rfl, Hb.out⟩
        · have d3 : (d == 0) = false := by simp [h3]
          have HZ := Lib.hid (show z = false by rw [hz]; simp [h3])
          clear hz hb hln
          go_enter Tryz.func34, Tryz.ntmps34
          go_wp2
          go_ret
          exact ⟨by rw [HZ.out]; rfl, Hb.out⟩
      · have d2 : (n == 0) = false := by simp [h2]
        have HZ := Lib.hid (show z = false by rw [hz]; simp [h2])
        clear hz hb hln
        go_enter Tryz.func34, Tryz.ntmps34
        go_wp2
        go_ret
        exact ⟨by rw [HZ.out]; rfl, Hb.out⟩
    · have d1 : decide ((ln : Int) ≤ 128) = false := by simp; omega
      have HZ := Lib.hid (show z = false by rw [hz]; simp [h1])
      clear hz hb hln
      go_enter Tryz.func34, Tryz.ntmps34
      go_wp2
      go_ret
      exact ⟨by rw [HZ.out]; rfl, Hb.out⟩
  · obtain rfl : ln = 0 := by omega
    rw [good_mat_eq (t := (⟨A, l, c, n, d⟩ : Tv).tok) hln] at hz
    simp only [Tv.tok] at hz
    by_cases h1 : 3 ≤ n
    · have d1 : decide (3 ≤ n) = true := by simp [h1]
      by_cases h2 : n ≤ 130
      · have d2 : decide (n ≤ 130) = true := by simp [h2]
        by_cases h3 : 1 ≤ d
        · have d3 : decide (1 ≤ d) = true := by simp [h3]
          by_cases h4 : d ≤ 4096
          · have d4 : decide (d ≤ 4096) = true := by simp [h4]
            have HZ := Lib.hid (show z = true by rw [hz]; simp [h1, h2, h3, h4])
            clear hz hb hln
            go_enter Tryz.func34, Tryz.ntmps34
            go_wp2
            go_ret
            exact ⟨by rw [HZ.out]; rfl, Hb.out⟩
          · have d4 : decide (d ≤ 4096) = false := by simp [h4]
            have HZ := Lib.hid (show z = false by rw [hz]; simp [h4])
            clear hz hb hln
            go_enter Tryz.func34, Tryz.ntmps34
            go_wp2
            go_ret
            exact ⟨by rw [HZ.out]; rfl, Hb.out⟩
        · have d3 : decide (1 ≤ d) = false := by simp [h3]
          have HZ := Lib.hid (show z = false by rw [hz]; simp [h3])
          clear hz hb hln
          go_enter Tryz.func34, Tryz.ntmps34
          go_wp2
          go_ret
          exact ⟨by rw [HZ.out]; rfl, Hb.out⟩
      · have d2 : decide (n ≤ 130) = false := by simp [h2]
        have HZ := Lib.hid (show z = false by rw [hz]; simp [h2])
        clear hz hb hln
        go_enter Tryz.func34, Tryz.ntmps34
        go_wp2
        go_ret
        exact ⟨by rw [HZ.out]; rfl, Hb.out⟩
    · have d1 : decide (3 ≤ n) = false := by simp [h1]
      have HZ := Lib.hid (show z = false by rw [hz]; simp [h1])
      clear hz hb hln
      go_enter Tryz.func34, Tryz.ntmps34
      go_wp2
      go_ret
      exact ⟨by rw [HZ.out]; rfl, Hb.out⟩
end Go.Proofs.YtdipflchmooakaaGreatDoor
namespace Go.Proofs.YtdipflchmooakaaGreatDoor
open Go.RowKit Go.Gar

theorem Tryz.fieldsTok : (Tryz.prog.fieldsOf 61).toList.map (fun f => (f.name, f.type, f.offset)) = [("Lit", 23, 0), ("Len", 3, 1), ("Dist", 3, 2)] := by kernel_rfl
theorem Tryz.infoSl : (Tryz.prog.info? 23).map (·.size) = some 1 := by kernel_rfl
theorem Tryz.infoIn : (Tryz.prog.info? 3).map (·.size) = some 1 := by kernel_rfl
/-- build of a token, its cells known. -/
theorem built_tok (parts : List (Nat × Value)) (x : Array Value) (h : Instr.fill (fun k => ([(0, 1), (1, 1), (2, 1)] : List (Nat × Nat)).toArray[k]?) #[.slice none 0 0, .int .i64 0, .int .i64 0] parts = some x) : Tryz.prog.built 61 parts = some x := by
  obtain ⟨i, hi, he⟩ := Option.map_eq_some_iff.1 Tryz.infoTok2
  simp only [Prod.mk.injEq] at he
  obtain ⟨j, hj, hjs⟩ := Option.map_eq_some_iff.1 Tryz.infoSl
  obtain ⟨k, hk, hks⟩ := Option.map_eq_some_iff.1 Tryz.infoIn
  unfold Program.built
  rw [hi, Tryz.undTok]
  simp only [he.1]
  have hf := Tryz.fieldsTok
  generalize (Tryz.prog.fieldsOf 61).toList = fs at hf ⊢
  rcases fs with _ | ⟨f1, _ | ⟨f2, _ | ⟨f3, _ | ⟨f4, fs⟩⟩⟩⟩
  · cases hf
  · simp at hf
  · simp at hf
  · simp only [List.map_cons, List.map_nil, List.cons.injEq, Prod.mk.injEq, and_true] at hf
    obtain ⟨⟨_, t1, o1⟩, ⟨_, t2, o2⟩, _, t3, o3⟩ := hf
    simp only [List.mapM_cons, List.mapM_nil, t1, t2, t3, o1, o2, o3, hj, hk, hjs, hks, Option.map_some]
    exact h
  · simp at hf
theorem built_match (n d : Int) : Tryz.prog.built 61 [(1, .int .i64 n), (2, .int .i64 d)] = some (Tv.cells ⟨none, [], 0, n, d⟩).toArray := built_tok _ _ rfl
theorem built_lit (A : Option Addr) (l : List UInt8) (m c : Nat) (hm : m = l.length) : Tryz.prog.built 61 [(0, .slice A m c)] = some (Tv.cells ⟨A, l, c, 0, 0⟩).toArray := by
  subst hm
  exact built_tok _ _ rfl
end Go.Proofs.YtdipflchmooakaaGreatDoor
