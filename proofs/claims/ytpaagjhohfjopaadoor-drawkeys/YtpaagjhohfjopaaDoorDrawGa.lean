/-
  The landed draw: derived, Keys, IV: their contracts.
-/
import Derived.Test.YtpaagjhohfjopaaDoorDrawC
import Derived.Test.YtpaagjhohfjopaaDoorShGg
import Derived.Test.YtpaagjhohfjopaaDoorSha2
import Derived.Test.YtpaagjhohfjopaaDoorCat2
import Derived.Test.YtpaagjhohfjopaaDoorReg3
import Derived.Test.YtpaagjhohfjopaaDoorMidB
import Derived.RegionTactic
import Derived.BigRegion
set_option maxRecDepth 100000
namespace Go.Proofs.YtpaagjhohfjopaaDoor
open Go.RowKit Go.Gar

theorem int_m (A : Option Addr) (l : List UInt8) (m c : Nat) (n : Int) (w : World) (hm : m = l.length) (hr : Rd w w.heap.size A l) (hsz : l.length ≤ 1000000000) (k : Nat) (hk : k = m + 8) (X : List UInt8) (hX : X = l ++ be (b64 n) 8) :
    Calls Tryd.prog 21 #[.slice A m c, .int .i64 n] w fun e w' =>
      e = .returned (.slice (some ⟨w.heap.size, 0, none⟩) k k) ∧ Blk w' w.heap.size 5 (u8s X) ∧ Below w.heap.size w w' := by
  subst hm; subst hk; subst hX
  exact int_any A l c n w hr hsz

set_option maxHeartbeats 1000000 in
theorem derived_any (w : World) (hG : Gl w) (kind : UInt8) (kz : Int) (hk : kz = (kind.toNat : Int)) (id gen : Int) (A : Option Addr) (d : List UInt8) (n c : Nat) (hn : n = d.length) (hr : Rd w w.heap.size A d) (hc : d.length ≤ c) (hl : d.length ≤ 1000000) (O : List UInt8) (hO : O = drawn kind id gen d) :
    Calls Tryd.prog 16 #[.int .u8 kz, .int .i64 id, .int .i64 gen, .slice A n c] w fun e w' => e = .returned (.agg (u8s O).toArray) ∧ Below w.heap.size w w' := by
  have hOl : O.length = 32 := by rw [hO]; exact drawn_len kind id gen d
  have hR0 := Blk.new w 32 z32
  have hb0 := below_alloc w (.cells z32.toArray 32)
  have hs0 : (w.alloc (.cells z32.toArray 32)).heap.size = w.heap.size + 1 := World.size_alloc _ _
  obtain ⟨w0, hw0⟩ : ∃ w0, w.alloc (.cells z32.toArray 32) = w0 := ⟨_, rfl⟩
  rw [hw0] at hR0 hb0 hs0
  have hB1 := Blk.new w0 5 (u8s [kind])
  have hb1 := below_alloc w0 (.cells (u8s [kind]).toArray 5)
  have hs1 : (w0.alloc (.cells (u8s [kind]).toArray 5)).heap.size = w0.heap.size + 1 := World.size_alloc _ _
  have hw1 : w0.alloc (.cells #[.int .u8 kz] 5) = w0.alloc (.cells (u8s [kind]).toArray 5) := by rw [hk]; rfl
  obtain ⟨w1, hw1'⟩ : ∃ w1, w0.alloc (.cells (u8s [kind]).toArray 5) = w1 := ⟨_, rfl⟩
  rw [hw1'] at hB1 hb1 hs1 hw1
  have HW0 := Lib.hid hw0
  have HW1 := Lib.hid hw1
  have HR0 := Lib.hid hR0
  have HB1 := Lib.hid hB1
  have HS0 := Lib.hid hs0
  have HS1 := Lib.hid hs1
  have Hb0 := Lib.hid hb0
  have Hb1 := Lib.hid hb1
  have HN := Lib.hid hn
  have HR := Lib.hid hr
  have HC := Lib.hid hc
  have HL := Lib.hid hl
  have HO := Lib.hid hO
  have HOl := Lib.hid hOl
  have HG := Lib.hid hG
  clear hw0 hw1 hw1' hR0 hB1 hs0 hs1 hb0 hb1 hn hr hc hl hO hOl hG hk
  go_enter Tryd.func16, Tryd.ntmps16
  go_wp2_with (refine wpList_alloc_arr rfl 32 z32.toArray rfl zero_32 ?_; rw [HW0.out])
  rw [HW1.out]
  obtain ⟨X1, hX1⟩ : ∃ X1, X1 = [kind] ++ be (b64 id) 8 := ⟨_, rfl⟩
  have hl1 : X1.length = 9 := by rw [hX1, List.length_append, be_len]; rfl
  obtain ⟨X2, hX2⟩ : ∃ X2, X2 = X1 ++ be (b64 gen) 8 := ⟨_, rfl⟩
  have hl2 : X2.length = 17 := by rw [hX2, List.length_append, be_len, hl1]
  refine (int_m _ [kind] 1 1 id w1 rfl (by have := Rd.of_all HB1.out; exact this) (by simp) 9 rfl X1 hX1).mono ?_
  rintro e w2 ⟨rfl, hB2, hb2⟩
  have HX1 := Lib.hid hX1
  have HX2 := Lib.hid hX2
  have Hl1 := Lib.hid hl1
  have Hl2 := Lib.hid hl2
  have HB2 := Lib.hid hB2
  have Hb2 := Lib.hid hb2
  clear hX1 hX2 hl1 hl2 hB2 hb2
  go_wp2_with fail
  refine (int_m _ X1 9 9 gen w2 Hl1.out.symm (Rd.of_all HB2.out) (by rw [Hl1.out]; omega) 17 rfl X2 HX2.out).mono ?_
  rintro e w3 ⟨rfl, hB3, hb3⟩
  have hb13 : Below w1.heap.size w1 w3 := Hb2.out.trans (hb3.mono Hb2.out.size)
  have hb03 : Below w0.heap.size w0 w3 := Hb1.out.trans (hb13.mono Hb1.out.size)
  have hbw3 : Below w.heap.size w w3 := Hb0.out.trans (hb03.mono Hb0.out.size)
  have HB3 := Lib.hid hB3
  have Hb3 := Lib.hid hbw3
  have HR3 := Lib.hid (HR0.out.below hb03 HR0.out.lt)
  have HG3 := Lib.hid (Gl.keep HG.out hbw3)
  have HD3 := Lib.hid ((HR.out.below hbw3).more hbw3.size)
  clear hB3 hb3 hb13 hb03 hbw3 HB2 Hb2 HB1 HR0 HR HG
  go_wp2_with fail
  refine (sha2 shaOK _ A X2 d 17 n 17 c _ w3 (u8s O).toArray (by rw [HO.out, drawn, drawPre, HX2.out, HX1.out]; simp only [List.append_assoc]) HG3.out rfl Hl2.out.symm HN.out (Rd.of_all HB3.out) HD3.out (by rw [List.length_append, Hl2.out]; have := HL.out; omega) (by rw [Hl2.out]; exact Nat.le_refl _) HC.out).mono ?_
  rintro e w4 ⟨rfl, hb4, _⟩
  have HR4 := Lib.hid (HR3.out.below hb4 HR3.out.lt)
  have Hb4 := Lib.hid (below_setRow (Hb3.out.trans (hb4.mono Hb3.out.size)) (Nat.le_refl _) (u8s O).toArray)
  have HSz := Lib.hid (size_32 O HOl.out)
  have HLn : Hid (z32.length = (u8s O).length) := Lib.hid (by rw [u8s_len, HOl.out, z32_len])
  have hl2 := run_loadVar_row (P := Tryd.prog) (w4.setRow w.heap.size (u8s O).toArray) w.heap.size 32 32 (u8s O).toArray (0, 0) _ (HR4.out.row _) Tryd.und32 rfl (by simpa using size_32 O HOl.out)
  have HL2 := Lib.hid hl2
  clear hb4 HR3 Hb3 hl2
  go_wp2_with (refine wpList_store_arr rfl 32 (.tmp 8) (.tmp 19) w.heap.size z32 (u8s O) rfl rfl rfl rfl HR4.out HSz.out HLn.out (u8s_one _) ?_)
  refine bodyPost_ret (v := .agg (u8s O).toArray) ?_ rfl ⟨rfl, Hb4.out⟩
  have hl2 := HL2.out
  generalize (u8s O).toArray = Y at hl2 ⊢
  simp [results, Tryd.results16, asAddr, hl2]
end Go.Proofs.YtpaagjhohfjopaaDoor
