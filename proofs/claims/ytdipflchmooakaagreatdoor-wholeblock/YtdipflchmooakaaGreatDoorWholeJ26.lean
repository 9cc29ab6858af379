/-
  The landed seal: Tag, rightTag. The landed seal: rightTag. slices.Concat of three: of no program. A range over an iterator, as in ShGe, where the caller may rest on what the iterator has yielded so far (Pf). Of no program. A statement that draws its order, within a round of a range over a function: what the plain calculus shows of it serves there too. Of no program; a tool for the walks.
-/
import Derived.Test.YtdipflchmooakaaGreatDoorWholeJ01
import Derived.Test.YtdipflchmooakaaGreatDoorWholeJ07
import Derived.Test.YtdipflchmooakaaGreatDoorWholeJ05
import Derived.Test.YtdipflchmooakaaGreatDoorWholeJ02
import Derived.Test.YtdipflchmooakaaGreatDoorWholeJ06
import Derived.Test.YtdipflchmooakaaGreatDoorWholeJ09
import Derived.Test.YtdipflchmooakaaGreatDoorWholeJ13
import Derived.Test.YtdipflchmooakaaGreatDoorWholeJ22
import Derived.Test.YtdipflchmooakaaGreatDoorWholeJ08
import Derived.Test.YtdipflchmooakaaGreatDoorWholeJ23
import Derived.Test.YtdipflchmooakaaGreatDoorWholeJ24
import Derived.Test.YtdipflchmooakaaGreatDoorWholeJ10
import Derived.Test.YtdipflchmooakaaGreatDoorWholeJ12
import Derived.Test.YtdipflchmooakaaGreatDoorWholeJ25
import Derived.BigQuiet
import Derived.BigRegion
import Derived.Deep.CutRange
import Derived.Lib.Mul64
import Derived.RegionTactic
import Derived.RangeFuncNested
import Derived.RangeFuncBound
import Derived.RangeFuncCalls
import Derived.RangeFuncLeaves
import Derived.Shelf.Abstract
import Derived.WalkKit
import Derived.OrdersIn
set_option maxRecDepth 100000
namespace Go.Proofs.YtdipflchmooakaaGreatDoor
open Go.RowKit Go.Gar Go.Gar.Aes

set_option maxHeartbeats 2000000 in
theorem tagG_any (w : World) (hG : Gl w) (k s : List UInt8) (A : Option Addr) (n c : Nat) (hk : k.length = 64) (hn : n = s.length) (hr : Rd w w.heap.size A s) (hc : n ≤ c) (hl : n ≤ 900000) (T : List UInt8) (hT : T = tagB k s) :
    Calls Tryz.prog 56 #[.agg (u8s k).toArray, .slice A n c] w fun e w' => e = .returned (.tuple #[.agg (u8s T).toArray, .bool (decide (32 ≤ n))]) ∧ Below w.heap.size w w' := by
  have hTl : T.length = 32 := by rw [hT]; exact tagB_len k s
  have hK := Blk.new w 29 (u8s k)
  have hb0 := below_alloc w (.cells (u8s k).toArray 29)
  obtain ⟨w0, hw0⟩ : ∃ w0, w.alloc (.cells (u8s k).toArray 29) = w0 := ⟨_, rfl⟩
  have hs0 : w0.heap.size = w.heap.size + 1 := by rw [← hw0, World.size_alloc]
  rw [hw0] at hK hb0
  have hR0 := Blk.new w0 22 z32
  have hb1 := below_alloc w0 (.cells z32.toArray 22)
  obtain ⟨w1, hw1⟩ : ∃ w1, w0.alloc (.cells z32.toArray 22) = w1 := ⟨_, rfl⟩
  have hs1 : w1.heap.size = w.heap.size + 2 := by rw [← hw1, World.size_alloc, hs0]
  have hK1 := hK.alloc (.cells z32.toArray 22)
  rw [hw1] at hR0 hb1 hK1
  rw [hs0] at hR0
  have hb01 := hb0.trans (hb1.mono hb0.size)
  have HW0 := Lib.hid hw0
  have HW1 := Lib.hid hw1
  have HSz := Lib.hid (size_32 T hTl)
  have HLn : Hid (z32.length = (u8s T).length) := Lib.hid (by rw [u8s_len, hTl, z32_len])
  have HR := Lib.hid ((hr.below hb01).more hb01.size)
  have HS0 := Lib.hid hs0
  have HS1 := Lib.hid hs1
  clear hw0 hw1 hb0 hb1 hs0 hs1 hK
  by_cases h32 : n < 32
  · have hd : decide ((n : Int) < 32) = true := by simp; omega
    have hd2 : decide (32 ≤ n) = false := by simp; omega
    have hTz : u8s T = z32 := by rw [hT, tagB, if_pos (by omega)]; rfl
    rw [hd2]
    have Hb9 := Lib.hid (below_setRow hb01 (Nat.le_succ _) (u8s T).toArray)
    have hl2 := run_loadVar_row (P := Tryz.prog) (w1.setRow (w.heap.size + 1) (u8s T).toArray) (w.heap.size + 1) 22 22 (u8s T).toArray (0, 0) _ (hR0.row _) Tryz.und32 rfl (by simpa using size_32 T hTl)
    have HL2 := Lib.hid hl2
    have HR0 := Lib.hid hR0
    have HTz := Lib.hid hTz
    have hbt : Tryz.prog.built 22 [] = some z32.toArray := by kernel_rfl
    have HBt := Lib.hid hbt
    clear hTz hTl hT hK1 hR0 hb01 hl2 hd2 hbt
    go_enter Tryz.func56, Tryz.ntmps56
    go_wp2_with (first | (refine wpList_box_arr rfl 29 _ _ rfl rfl ?_; rw [HW0.out]) | (refine wpList_alloc_arr rfl 22 z32.toArray rfl zero_32 ?_; rw [HW1.out, HS0.out]) | refine wpList_build_w 22 _ rfl (by simp [Act.eval]) HBt.out (by kernel_rfl) ?_ | (rw [← HTz.out]; refine wpList_store_arr rfl 22 (.tmp 4) (.tmp 9) (w.heap.size + 1) z32 (u8s T) rfl rfl rfl rfl HR0.out HSz.out HLn.out (u8s_one _) ?_))
    refine bodyPost_ret (v := .tuple #[.agg (u8s T).toArray, .bool false]) ?_ rfl ⟨rfl, Hb9.out⟩
    have hl2 := HL2.out
    generalize (u8s T).toArray = Y at hl2 ⊢
    simp [results, Tryz.results56, asAddr, hl2]
  · have hd : decide ((n : Int) < 32) = false := by simp; omega
    have hd2 : decide (32 ≤ n) = true := by simp; omega
    rw [hd2]
    have hT2 : T = Mac.of (k.drop 32) (s.take (n - 32)) := by rw [hT, tagB, if_neg (by omega), hn]
    obtain ⟨ab, ao, rfl⟩ := rd_at hr (by omega)
    have hsub : (n : Int) - 32 = ((n - 32 : Nat) : Int) := by omega
    have hcut : ∀ W, (Instr.sliceAt 23 (.slice (some ⟨ab, ao, none⟩) n c) none (some (.int .i64 ((n : Int) - 32))) none).run Tryz.prog W = .ok (.slice (some ⟨ab, ao, none⟩) (n - 32) c) W := fun W => cut_to ab ao n c (n - 32) _ hsub (by omega) W
    have HTk : Hid (T = Mac.of (k.drop 32) (s.take (n - 32))) := Lib.hid hT2
    have HK1 := Lib.hid hK1.drew
    have HR0 := Lib.hid hR0.drew
    have HR1 := Lib.hid (show Rd w1.drew w1.drew.heap.size _ s from HR.out)
    have Hb1 := Lib.hid hb01.drew
    have HG1 := Lib.hid (Gl.keep hG hb01.drew)
    have Hkl := Lib.hid hk
    have Hn := Lib.hid hn
    have HS2 := Lib.hid (show w1.drew.heap.size = w.heap.size + 2 from HS1.out)
    clear hT hT2 hR0 hK1 hb01 hG hk hr hTl hd2 HR HS1 hsub hn
    go_enter Tryz.func56, Tryz.ntmps56
    go_wp2_with (first | (refine wpList_box_arr rfl 29 _ _ rfl rfl ?_; rw [HW0.out]) | (refine wpList_alloc_arr rfl 22 z32.toArray rfl zero_32 ?_; rw [HW1.out, HS0.out]))
    refine wp_region_G grows (by kernel_rfl) ?_
    clear HW0 HW1 HS0
    generalize w1.drew = W1 at *
    refine segG (by kernel_rfl) (fun _ _ _ _ _ h => h) [0, 1, 2, 3, 4, 5, 6] [_, _, _, _, _, _, _] 4 rfl rfl (by kernel_rfl) ?_
    repeat (go_big_quiet_step (fail))
    refine wpQuiet_nil ?_
    clear hcut
    refine oneG 7 3 rfl (by kernel_rfl) rfl ?_
    go_wp2
    refine ⟨below_alloc W1 _, ?_⟩
    refine oneG 8 2 rfl (by kernel_rfl) rfl ?_
    go_wp2_with fail
    have hkd : (k.drop 32).take 32 = k.drop 32 := List.take_of_length_le (by rw [List.length_drop, Hkl.out]; omega)
    have hrk := Rd.of_blk k HK1.out (B := W1.heap.size) (by have := HS2.out; omega) 32 32
    rw [hkd] at hrk
    have hbl := below_alloc W1 (.cells #[.slice (some ⟨ab, ao, none⟩) (n - 32) c] 23)
    refine (mac1b macOK (some ⟨w.heap.size, 32, none⟩) (some ⟨ab, ao, none⟩) (k.drop 32) (s.take (n - 32)) 32 32 (n - 32) c _ _ (u8s T).toArray (by rw [HTk.out]) (Gl.keep HG1.out hbl) (Blk.new W1 23 [.slice (some ⟨ab, ao, none⟩) (n - 32) c]) (by rw [List.length_drop, Hkl.out]) (by rw [List.length_take]; have := Hn.out; omega) (by rw [List.length_drop, Hkl.out]; omega) ((hrk.below hbl).more hbl.size) (((HR1.out.take _).below hbl).more hbl.size) (by rw [List.length_drop, Hkl.out]; omega) (by rw [List.length_take]; have := Hn.out; omega) (by rw [List.length_take]; have := Hn.out; omega)).mono ?_
    rintro e W2 ⟨rfl, hb2⟩
    have Hb2' := Lib.hid hb2
    have hb2 := hbl.trans (hb2.mono hbl.size)
    have HR2 := Lib.hid (HR0.out.below hb2 HR0.out.lt)
    have Hb2 := Lib.hid (below_setRow (Hb1.out.trans (hb2.mono Hb1.out.size)) (Nat.le_succ _) (u8s T).toArray)
    have hl2 := run_loadVar_row (P := Tryz.prog) (W2.setRow (w.heap.size + 1) (u8s T).toArray) (w.heap.size + 1) 22 22 (u8s T).toArray (0, 0) _ (HR2.out.row _) Tryz.und32 rfl (by simpa using HSz.out)
    have HL2 := Lib.hid hl2
    clear hb2 hbl hkd hrk hl2 HR0 Hb1 HK1 HR1 HS2
    go_wp2
    refine ⟨Hb2'.out, ?_⟩
    refine lateG 9 1 rfl (by kernel_rfl) (by kernel_rfl) rfl ?_
    refine wpList_store_arr rfl 22 (.tmp 4) (.tmp 18) (w.heap.size + 1) z32 (u8s T) rfl rfl rfl rfl HR2.out HSz.out HLn.out (u8s_one _) ?_
    go_wp2
    refine ⟨trivial, ?_⟩
    refine segG (by kernel_rfl) (fun _ _ _ _ _ h => h) [10] [_] 0 rfl rfl (by kernel_rfl) ?_
    repeat (go_big_quiet_step (fail))
    refine wpQuiet_nil ?_
    refine wpAnyG_done (by kernel_rfl) ?_
    go_wp2
    refine bodyPost_ret (v := .tuple #[.agg (u8s T).toArray, .bool true]) ?_ rfl ⟨rfl, Hb2.out⟩
    have hl2 := HL2.out
    generalize (u8s T).toArray = Y at hl2 ⊢
    simp [results, Tryz.results56, asAddr, hl2]
end Go.Proofs.YtdipflchmooakaaGreatDoor
namespace Go.Proofs.YtdipflchmooakaaGreatDoor
open Go.RowKit Go.Gar Go.Gar.Aes

set_option maxHeartbeats 2000000 in
theorem rightTag_any (w : World) (hG : Gl w) (k s : List UInt8) (A : Option Addr) (n c : Nat) (hk : k.length = 64) (hn : n = s.length) (hr : Rd w w.heap.size A s) (hc : n ≤ c) (h32 : 32 ≤ n) (hl : n ≤ 900000) (r : Bool) (hrv : r = decide (Mac.of (k.drop 32) (s.take (s.length - 32)) = s.drop (s.length - 32))) :
    Calls Tryz.prog 29 #[.agg (u8s k).toArray, .slice A n c] w fun e w' => e = .returned (.bool r) ∧ Below w.heap.size w w' := by
  obtain ⟨ab, ao, rfl⟩ := rd_at hr (by omega)
  obtain ⟨T, hT⟩ : ∃ T, T = tagB k s := ⟨_, rfl⟩
  have hTl : T.length = 32 := by rw [hT]; exact tagB_len k s
  have hrT : r = decide (T = s.drop (n - 32)) := by rw [hrv, hT, tagB, if_neg (by omega), hn]
  have hd2 : decide (32 ≤ n) = true := by simp; omega
  have hK := Blk.new w 29 (u8s k)
  have hb0 := below_alloc w (.cells (u8s k).toArray 29)
  obtain ⟨w0, hw0⟩ : ∃ w0, w.alloc (.cells (u8s k).toArray 29) = w0 := ⟨_, rfl⟩
  rw [hw0] at hK hb0
  have HLK := Lib.hid (load_keys hK hk)
  have HR := Lib.hid ((hr.below hb0).more hb0.size)
  have Hb0 := Lib.hid hb0
  have HG := Lib.hid hG
  have HT := Lib.hid hT
  have HTl := Lib.hid hTl
  have HrT := Lib.hid hrT
  have Hn := Lib.hid hn
  have Hkl := Lib.hid hk
  have HW0 := Lib.hid hw0
  have HK := Lib.hid hK
  clear hrv hr hb0 hG hT hTl hrT hn hk hw0 hK
  have hsub : (n : Int) - 32 = ((n - 32 : Nat) : Int) := by omega
  have hcut : ∀ W, (Instr.sliceAt 23 (.slice (some ⟨ab, ao, none⟩) n c) (some (.int .i64 ((n : Int) - 32))) none none).run Tryz.prog W = .ok (.slice (some ⟨ab, ao + (n - 32), none⟩) 32 (c - (n - 32))) W := fun W => by
    rw [hsub]
    exact cut_from ab ao n c (n - 32) 32 (by omega) (by omega) (by omega) W
  have Hcut := Lib.hid hcut
  clear hsub hcut
  go_enter Tryz.func29, Tryz.ntmps29
  go_wp2_with (first | (refine wpList_box_arr rfl 29 _ _ rfl rfl ?_; rw [HW0.out]) | refine wpList_load_arr_w 29 (.tmp 2) rfl rfl (u8s k).toArray HLK.out (by kernel_rfl) ?_)
  refine (tagG_any w0 (Gl.keep HG.out Hb0.out) k s (some ⟨ab, ao, none⟩) n c Hkl.out Hn.out HR.out hc hl T HT.out).mono ?_
  rintro e w1 ⟨rfl, hb1⟩
  rw [hd2]
  have HR1 := Lib.hid ((HR.out.below hb1).more hb1.size)
  have Hb1 := Lib.hid (Hb0.out.trans (hb1.mono Hb0.out.size))
  obtain ⟨w2, hw2, hB2, hb2, hZ2⟩ := s32_facts w1 T
  have HW2 := Lib.hid hw2
  have HB2 := Lib.hid hB2
  have HZ2 := Lib.hid hZ2
  have HR2 := Lib.hid ((HR1.out.below hb2).more hb2.size)
  have Hb2 := Lib.hid (Hb1.out.trans (hb2.mono Hb1.out.size))
  have HSz := Lib.hid (size_32 T HTl.out)
  have HLn : Hid (z32.length = (u8s T).length) := Lib.hid (by rw [u8s_len, HTl.out, z32_len])
  obtain ⟨gt, hgt⟩ : ∃ gt, gt = w1.heap.size := ⟨_, rfl⟩
  rw [← hgt] at HB2 HZ2 HW2
  have Hgt := Lib.hid hgt
  clear hb1 hw2 hB2 hb2 hZ2 hd2 HR HR1 Hb0 Hb1 HLK HW0 HK hgt
  go_wp2_with (first | (refine wpList_alloc_arr rfl 22 z32.toArray rfl zero_32 ?_; rw [← Hgt.out]) | (refine wpList_store_arr rfl 22 (.tmp 5) (.tmp 11) gt z32 (u8s T) rfl rfl rfl rfl HZ2.out HSz.out HLn.out (u8s_one _) ?_; rw [HW2.out]))
  refine wp_region_G grows (by kernel_rfl) ?_
  have HB3 := Lib.hid HB2.out.drew
  have HR3 := Lib.hid (show Rd w2.drew w2.drew.heap.size (some ⟨ab, ao, none⟩) s from HR2.out)
  have Hb3 := Lib.hid Hb2.out.drew
  have HG3 := Lib.hid (Gl.keep HG.out Hb2.out.drew)
  clear HW2 HZ2 HR2 Hb2 HB2 Hgt HG HSz HLn HT Hkl
  generalize w2.drew = W3 at *
  have hcut := Hcut.out
  refine segG (by kernel_rfl) (fun _ _ _ _ _ h => h) [0, 1, 2, 3, 4, 5, 6, 7] [_, _, _, _, _, _, _, _] 3 rfl rfl (by kernel_rfl) ?_
  repeat (go_big_quiet_step (fail))
  refine wpQuiet_nil ?_
  clear hcut Hcut
  refine oneG 8 2 rfl (by kernel_rfl) rfl ?_
  go_wp2_with fail
  have hsl : (s.drop (n - 32)).length = 32 := by rw [List.length_drop]; have := Hn.out; omega
  have heq := equal_any W3 (some ⟨gt, 0, none⟩) (some ⟨ab, ao + (n - 32), none⟩) T (s.drop (n - 32)) 32 32 32 (c - (n - 32)) HTl.out.symm hsl.symm (by have := Rd.of_all HB3.out; exact this) (rd_cut HR3.out (n - 32)) (by omega) (by omega)
  rw [← HrT.out] at heq
  refine heq.mono ?_
  rintro e W4 ⟨rfl, rfl⟩
  clear heq hsl
  go_wp2
  refine ⟨Below.refl _ _, ?_⟩
  refine segG (by kernel_rfl) (fun _ _ _ _ _ h => h) [9, 10] [_, _] 0 rfl rfl (by kernel_rfl) ?_
  repeat (go_big_quiet_step (fail))
  refine wpQuiet_nil ?_
  refine wpAnyG_done (by kernel_rfl) ?_
  go_wp2
  go_ret
  exact ⟨by simp, Hb3.out⟩
end Go.Proofs.YtdipflchmooakaaGreatDoor
namespace Go.Proofs.YtdipflchmooakaaGreatDoor
open Go.RowKit Go.Gar

set_option maxHeartbeats 4000000 in
theorem concat3_any (w : World) (gC : Nat) (A1 A2 A3 : Option Addr) (l1 l2 l3 : List UInt8) (n1 n2 n3 c1 c2 c3 : Nat) (hC : Blk w gC 23 [.slice A1 n1 c1, .slice A2 n2 c2, .slice A3 n3 c3]) (h1 : n1 = l1.length) (h2 : n2 = l2.length) (h3 : n3 = l3.length) (r1 : Rd w w.heap.size A1 l1) (r2 : Rd w w.heap.size A2 l2) (r3 : Rd w w.heap.size A3 l3) (h0 : 0 < n1 + n2 + n3) (hl : n1 + n2 + n3 ≤ 1048576) (O : List UInt8) (hO : O = l1 ++ l2 ++ l3) :
    Calls Tryz.prog 21 #[.slice (some ⟨gC, 0, none⟩) 3 3] w fun e w' => ∃ v, e = .returned v ∧ OwnB w' w.heap.size 5 v O ∧ Below w.heap.size w w' := by
  have HC := Lib.hid hC
  have HOO := Lib.hid hO
  have H1 := Lib.hid h1
  have H2 := Lib.hid h2
  have H3 := Lib.hid h3
  have R1 := Lib.hid r1
  have R2 := Lib.hid r2
  have R3 := Lib.hid r3
  have q1 := hC.cell 0
  have q2 := hC.cell 1
  have q3 := hC.cell 2
  rw [show ([.slice A1 n1 c1, .slice A2 n2 c2, .slice A3 n3 c3] : List Value)[0]? = some (.slice A1 n1 c1) from rfl] at q1
  rw [show ([.slice A1 n1 c1, .slice A2 n2 c2, .slice A3 n3 c3] : List Value)[1]? = some (.slice A2 n2 c2) from rfl] at q2
  rw [show ([.slice A1 n1 c1, .slice A2 n2 c2, .slice A3 n3 c3] : List Value)[2]? = some (.slice A3 n3 c3) from rfl] at q3
  clear hC hO h1 h2 h3 r1 r2 r3
  go_enter Tryz.func21, Tryz.ntmps21
  go_wp2
  go_loopw [3, 11] (fun z i w' => w' = w ∧ ((i = .int .i64 0 ∧ z = .int .i64 0) ∨ (i = .int .i64 1 ∧ z = .int .i64 (n1 : Int)) ∨ (i = .int .i64 2 ∧ z = .int .i64 ((n1 + n2 : Nat) : Int)) ∨ (i = .int .i64 3 ∧ z = .int .i64 ((n1 + n2 + n3 : Nat) : Int)))) (fun _ i _ => 3 - (intOf i).toNat)
  case atStart => exact ⟨rfl, .inl ⟨rfl, rfl⟩⟩
  case round =>
    obtain ⟨rfl, h | h | h | h⟩ := hrel
    · obtain ⟨rfl, rfl⟩ := h
      go_wp2
      exact ⟨⟨trivial, .inr (.inl ⟨by go_num, by go_num⟩)⟩, by simp [intOf]⟩
    · obtain ⟨rfl, rfl⟩ := h
      have hnn : ¬ ((n1 : Int) + (n2 : Int) < 0) := by omega
      go_wp2
      exact ⟨⟨trivial, .inr (.inr (.inl ⟨by go_num, by go_num⟩))⟩, by simp [intOf]⟩
    · obtain ⟨rfl, rfl⟩ := h
      have hnn : ¬ ((n1 : Int) + (n2 : Int) + (n3 : Int) < 0) := by omega
      go_wp2
      exact ⟨⟨trivial, .inr (.inr (.inr ⟨by go_num, by go_num⟩))⟩, by simp [intOf]⟩
    · obtain ⟨rfl, rfl⟩ := h
      go_wp2_with fail
      refine (grow_any wr (n1 + n2 + n3) h0 hl).mono ?_
      rintro e w1 ⟨v, rfl, hO, hb⟩
      have HO := Lib.hid hO
      have Hb := Lib.hid hb
      clear q1 q2 q3 hO hb
      go_wp2
      go_loopw [6, 27] (fun v i w' => Below wr.heap.size wr w' ∧ ((i = .int .i64 0 ∧ OwnB w' wr.heap.size 5 v []) ∨ (i = .int .i64 1 ∧ OwnB w' wr.heap.size 5 v l1) ∨ (i = .int .i64 2 ∧ OwnB w' wr.heap.size 5 v (l1 ++ l2)) ∨ (i = .int .i64 3 ∧ OwnB w' wr.heap.size 5 v (l1 ++ l2 ++ l3)))) (fun _ i _ => 3 - (intOf i).toNat)
      case atStart => exact ⟨Hb.out, .inl ⟨rfl, HO.out⟩⟩
      case round =>
        obtain ⟨hb, h | h | h | h⟩ := hrel
        · obtain ⟨rfl, hO⟩ := h
          have q := (HC.out.below hb HC.out.lt).cell 0
          rw [show ([.slice A1 n1 c1, .slice A2 n2 c2, .slice A3 n3 c3] : List Value)[0]? = some (.slice A1 n1 c1) from rfl] at q
          obtain ⟨v', w', e1, ho1, hb1, _⟩ := app_rd (P := Tryz.prog) 23 23 Tryz.und22 Tryz.info5 hO hb.size c1 (R1.out.below hb) (by have := H1.out; have := H2.out; have := H3.out; simp; omega)
          rw [← H1.out] at e1
          have HO1 := Lib.hid ho1
          have Hb1 := Lib.hid (hb.trans hb1)
          clear ho1 hb1 hO hb
          go_wp2_with (at_builtin; refine wpList_append_run rfl (.tmp 31) (.tmp 32) _ rfl rfl rfl e1 ?_)
          exact ⟨⟨Hb1.out, .inr (.inl ⟨by go_num, by simpa using HO1.out⟩)⟩, by simp [intOf]⟩
        · obtain ⟨rfl, hO⟩ := h
          have q := (HC.out.below hb HC.out.lt).cell 1
          rw [show ([.slice A1 n1 c1, .slice A2 n2 c2, .slice A3 n3 c3] : List Value)[1]? = some (.slice A2 n2 c2) from rfl] at q
          obtain ⟨v', w', e1, ho1, hb1, _⟩ := app_rd (P := Tryz.prog) 23 23 Tryz.und22 Tryz.info5 hO hb.size c2 (R2.out.below hb) (by have := H1.out; have := H2.out; have := H3.out; simp; omega)
          rw [← H2.out] at e1
          have HO1 := Lib.hid ho1
          have Hb1 := Lib.hid (hb.trans hb1)
          clear ho1 hb1 hO hb
          go_wp2_with (at_builtin; refine wpList_append_run rfl (.tmp 31) (.tmp 32) _ rfl rfl rfl e1 ?_)
          exact ⟨⟨Hb1.out, .inr (.inr (.inl ⟨by go_num, HO1.out⟩))⟩, by simp [intOf]⟩
        · obtain ⟨rfl, hO⟩ := h
          have q := (HC.out.below hb HC.out.lt).cell 2
          rw [show ([.slice A1 n1 c1, .slice A2 n2 c2, .slice A3 n3 c3] : List Value)[2]? = some (.slice A3 n3 c3) from rfl] at q
          obtain ⟨v', w', e1, ho1, hb1, _⟩ := app_rd (P := Tryz.prog) 23 23 Tryz.und22 Tryz.info5 hO hb.size c3 (R3.out.below hb) (by have := H1.out; have := H2.out; have := H3.out; simp; omega)
          rw [← H3.out] at e1
          have HO1 := Lib.hid ho1
          have Hb1 := Lib.hid (hb.trans hb1)
          clear ho1 hb1 hO hb
          go_wp2_with (at_builtin; refine wpList_append_run rfl (.tmp 31) (.tmp 32) _ rfl rfl rfl e1 ?_)
          exact ⟨⟨Hb1.out, .inr (.inr (.inr ⟨by go_num, HO1.out⟩))⟩, by simp [intOf]⟩
        · obtain ⟨rfl, hO⟩ := h
          have HO1 := Lib.hid hO
          have Hb1 := Lib.hid hb
          clear hO hb
          go_wp2
          go_ret
          exact ⟨_, rfl, by rw [HOO.out]; exact HO1.out, Hb1.out⟩
end Go.Proofs.YtdipflchmooakaaGreatDoor
namespace Go.Gar
open Go Go.RowKit
variable {F : Fence} {n : Nat} {P : Program}

/-- The iterator's contract: its rounds go on, each keeps Kp; it may lay blocks and turn what it laid. -/
def SeqP {α : Type} (F : Fence) (n : Nat) (P : Program) (g : Nat) (lb : Array Value) (encs : α → Array Value) (Kp : World → World → Prop) (S Pf : List α → Prop) (w : World) : Prop :=
  ∀ (l : Nat) (J : List α → World → Prop) (W : World), Below w.heap.size w W → Low W.heap.size J →
    (∀ pre x W1, Pf (pre ++ [x]) → J pre W1 → YieldAt F (n - 1) P l (encs x) W1 fun e W' => e = .returned (.bool true) ∧ J (pre ++ [x]) W' ∧ Kp W1 W') →
    J [] W → CallsIn F n P g (#[.func (.yield l) #[] #[]] ++ lb) W fun e W' => (∃ v, e = .returned v) ∧ ∃ xs, S xs ∧ J xs W'

/-- The caller's law: the loop's variable may be laid anew in each round (Ax). -/
theorem rangeP {α : Type} {g : Operand} {ps : Array Tmp} {assign body : Code} {Q : Exit → Act → World → Prop} {a : Act} {w : World}
    (hro : F.round = none) (h1 : 1 ≤ n) {gf : Nat} {lb : Array Value} (hg : a.eval g = .func (.func gf) #[] lb) (hFg : F.fn gf) (eg : ∀ args w, (callFunc gf args).run P w = .ok (.enter gf args) w)
    {encs : α → Array Value} {Kp : World → World → Prop} {S Pf : List α → Prop} (hseq : SeqP F (n - 1) P gf lb encs Kp S Pf w)
    (hKt : ∀ {A B C : World}, Kp A B → Kp B C → Kp A C) (hKb : ∀ (W : World) (l : Nat) (o o' : Obj), W.heap[l]? = some o → o.isCells = false → Kp W (W.putObj l o')) (hps : ∀ x, (encs x).size = ps.size)
    (I : List α → World → Prop) (hI : Low w.heap.size I) (h0 : I [] w) (Ax : α → Act → World → Prop) (hAx : ∀ x a' W l o o', Ax x a' W → W.heap[l]? = some o → o.isCells = false → Ax x a' (W.putObj l o'))
    (hassign : ∀ (l : Nat) (pre : List α) (x : α) (W : World) (K : Act → World → Prop), Pf (pre ++ [x]) → I pre W → (∀ a' W', KeepsOthers W W' → Kp W W' → I pre W' → Ax x a' W' → K a' W') →
      assign.wpIn (F.inRound l) (n - 1 - 1) P (Exit.then K (fun _ _ _ => False)) { tmps := (ps.zip (encs x)).foldl (fun t (p, v) => t.setIfInBounds p v) a.tmps, defers := [] } W)
    (hbody : ∀ (l : Nat) (pre : List α) (x : α) (a' : Act) (W : World), Pf (pre ++ [x]) → I pre W → Ax x a' W → body.wpIn (F.inRound l) (n - 1 - 1) P (fun e _ W' => e = .normal ∧ KeepsOthers W W' ∧ Kp W W' ∧ I (pre ++ [x]) W') a' W)
    (hdone : ∀ (D : Nat) (xs : List α) (W : World), w.heap.size ≤ D → S xs → I xs W → W.heap[D]? = some (.deferred (some [])) → Q .normal { a with defers := { target := .collected D, args := #[] } :: a.defers } W) :
    (Code.rangeFunc g ps assign body).wpIn F n P Q a w := by
  refine wpIn_rangeFunc fun fn hfn => ?_
  rw [hro]
  -- the record, as it stands between two rounds
  let r0 : Loop := { state := .ready, pending := none, fn, tmps := a.tmps, params := ps, assign, body, defers := w.heap.size }
  let D := w.heap.size
  let l := w.heap.size + 1
  let W1 := (w.alloc (.deferred (some []))).alloc (.loop r0)
  have hs1 : W1.heap.size = w.heap.size + 2 := by simp [W1]
  have hDl : W1.heap[D]? = some (.deferred (some [])) := (Below.heap_alloc _ _ _ (by simp [D])).trans (World.alloc_heap_new w _)
  have hll : W1.heap[l]? = some (.loop r0) := by
    have := World.alloc_heap_new (w.alloc (.deferred (some []))) (.loop r0)
    rwa [World.size_alloc] at this
  have hbel : Below w.heap.size w W1 := ((Below.refl _ w).alloc (Nat.le_refl _) _).alloc (by simp) _
  let J : List α → World → Prop := fun pre W => I pre W ∧ W.heap[l]? = some (.loop r0) ∧ W.heap[D]? = some (.deferred (some []))
  have hJ : Low W1.heap.size J := fun s A B row hs hgr hr => by
    have far : ∀ k o, k < W1.heap.size → A.heap[k]? = some o → B.heap[k]? = some o := fun k o hk ho =>
      (hgr.block k (Array.getElem?_eq_some_iff.1 ho).1 (fun e => by have := hr k e.symm; omega)).trans ho
    exact ⟨hI s A B row hs.1 hgr (fun r e => by have := hr r e; omega), far l _ (by simp [l, hs1]) hs.2.1, far D _ (by simp [D, hs1]) hs.2.2⟩
  refine ⟨l, [{ target := .collected D, args := #[] }], W1, { target := .fn (.func gf) lb, args := #[.func (.yield l) #[] #[]] }, W1, gf, #[.func (.yield l) #[] #[]] ++ lb, W1, run_enterLoop_outer _ _ _ _ _, ?_, ?_, ?_, fun _ => h1, ?_⟩
  · simp only [resolve, hg]
    simp [go_sem]
  · intro f' hf'
    simp [Target.leads] at hf'
    subst hf'
    exact hFg
  · simp [invoke, go_sem, eg]
  refine (hseq l J W1 hbel hJ ?_ ⟨hI.alloc _ (hI.alloc _ h0), hll, hDl⟩).mono ?_
  · -- a round
    rintro pre x W hpf ⟨hi, hl, hd⟩
    have hy := run_yield (P := P) (args := encs x) hl (hps x)
    refine ⟨fn, _, assign, body, hy, roundIn_of_wpIn hfn (hassign l pre x W _ hpf hi fun a' W2 hk2 hp2 hi2 hx2 => ?_)⟩
    have hl2 := hk2.same l _ hl rfl
    have hd2 := hk2.same D _ hd rfl
    let rb : Loop := { r0 with state := .busy }
    refine ⟨_, run_beginRound hl2 rfl, ?_⟩
    have hl3 : (W2.putObj l (.loop rb)).heap[l]? = some (.loop rb) := World.putObj_heap_same (Array.getElem?_eq_some_iff.1 hl2).1
    have hd3 : (W2.putObj l (.loop rb)).heap[D]? = some (.deferred (some [])) := (World.putObj_heap_other (by simp [D, l])).trans hd2
    refine wpIn_mono (hbody l pre x a' _ hpf (hI.put _ hi2 (by simp [l])) (hAx _ _ _ _ _ _ hx2 hl2 rfl)) ?_
    rintro e a3 W4 ⟨rfl, hk4, hp4, hi4⟩
    have hl4 := hk4.same l _ hl3 rfl
    have hd4 := hk4.same D _ hd3 rfl
    refine ⟨_, _, run_endRound none hl4, rfl, ⟨hI.put _ hi4 (by simp [l]), World.putObj_heap_same (Array.getElem?_eq_some_iff.1 hl4).1, (World.putObj_heap_other (by simp [D, l])).trans hd4⟩, ?_⟩
    exact hKt (hKt hp2 (hKb _ _ _ _ hl2 rfl)) (hKt hp4 (hKb _ _ _ _ hl4 rfl))
  · rintro e W2 ⟨⟨v, rfl⟩, xs, hS, hi, hl, hd⟩
    exact ⟨none, _, run_endLoop hl (by simp [r0]), hdone D xs _ (Nat.le_refl _) hS (hI.put _ hi (by simp [l])) ((World.putObj_heap_other (by simp [D, l])).trans hd)⟩
end Go.Gar
namespace Go.Gar
open Go Go.RowKit
section
variable {P : Program} {ops : Array Oper} {Q : Exit → Act → World → Prop} {md : Region.Mode}

/-- No operation defers a call, none is a call of a row of the model's table. -/
def noDefer (ops : Array Oper) : Bool := ops.all fun o => match o.op with | .defer _ => false | _ => true
theorem noDefer_spec (h : noDefer ops = true) {i : Nat} {o : Oper} (hi : ops[i]? = some o) : ∀ c, o.op ≠ .defer c := by
  intro c hc
  rw [noDefer, Array.all_eq_true_iff_forall_mem] at h
  have := h o (Array.mem_of_getElem? hi)
  rw [hc] at this
  cases this

theorem rowsIn_round {l n : Nat} {row : String} {args : Array Value} {w : World} {R : Value → World → Prop} (h : Rows P row args w R) : RowsIn (Fence.wide.inRound l) n P row args w R :=
  fun c cs _ => let ⟨v, w', r, s⟩ := h c cs; ⟨v, w', r, stepsIn_wide.2 s⟩
theorem wpOpIn_round {l n i : Nat} {K : Act → World → Prop} {a : Act} {w : World} (hd : noDefer ops = true) (hno : ¬ LetsOut Q)
    (h : wpOp P ops Q i K a w) : wpOpIn (Fence.wide.inRound l) n P ops Q i K a w := by
  unfold wpOp at h
  unfold wpOpIn
  cases ho : ops[i]? with
  | none => simp only [ho] at h; exact h
  | some o =>
    simp only [ho] at h ⊢
    split
    · rename_i hw
      simp only [hw, if_true] at h
      have h1 : o.wp P a w K Q := h.elim id fun h => (hno h.2).elim
      refine ⟨fun _ _ => trivial, ?_⟩
      rw [Oper.semAt_eq _ _ _ (noDefer_spec hd ho)]
      unfold Oper.wp at h1
      generalize (execOp a.eval o).run P w = r at *
      cases r with
      | ok x w' =>
        cases x <;> simp only [Oper.upon, Oper.uponIn] at h1 ⊢
        case value u => exact h1
        case skip => exact h1
        case defer d => exact h1
        case enter f args =>
          refine ⟨fun h => (by cases h), CallsIn.inRound l (callsIn_wide.2 (h1.mono fun e w'' he => ?_))⟩
          cases e <;> exact he
        case row row args =>
          refine ⟨fun h => (by cases h), ?_⟩
          exact rowsIn_round h1
      | halt x w' =>
        cases x <;> simp only [Oper.upon, Oper.uponIn] at h1 ⊢
        exact h1
    · rename_i hw
      simp only [hw] at h
      exact ⟨fun _ _ => trivial, h⟩
theorem wpAnyIn_round {l n : Nat} (hd : noDefer ops = true) (hno : ¬ LetsOut Q) : ∀ (fuel : Nat) (listed : Array Bool) (a : Act) (w : World), wpAny P md ops Q fuel listed a w → wpAnyIn (Fence.wide.inRound l) n P md ops Q fuel listed a w
  | 0, _, _, _, h => h
  | fuel + 1, _, _, _, h => ⟨h.1, fun i hi => wpOpIn_round hd hno (wpOp_mono (fun a' w' h' => wpAnyIn_round hd hno fuel _ a' w' h') (h.2 i hi))⟩
/-- The beginning, within a round. -/
theorem wpIn_region_G (G : Growth) {id l n : Nat} {L : List Oper} {a : Act} {w : World} (hm : P.follows .mixedOrders = true) (hd : noDefer L.toArray = true) (hno : ¬ LetsOut Q)
    (h : wpAnyG G P .any L.toArray Q L.length (Array.replicate L.length false) a w.drew) : (Code.region id L.toArray true).wpIn (Fence.wide.inRound l) n P Q a w :=
  wpIn_region_any hm (wpAnyIn_round hd hno _ _ _ _ (wpAny_of_G _ _ _ _ (by simpa using h)))
end
end Go.Gar
