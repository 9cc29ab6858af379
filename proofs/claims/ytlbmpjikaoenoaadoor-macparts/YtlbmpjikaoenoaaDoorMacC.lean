/-
  Layer 6: what is asked of mac's functions (a contract, over whatever the packages' own tables may be).
-/
import Derived.Test.YtlbmpjikaoenoaaDoorShaC
import Derived.Test.YtlbmpjikaoenoaaDoorMacM
import Derived.Test.YtlbmpjikaoenoaaDoorReg
namespace Go.Proofs.YtlbmpjikaoenoaaDoor
open Go.RowKit Go.Gar

structure MacOK (G : World → Prop) : Prop where
  keep : ∀ {w w' : World}, G w → Below w.heap.size w w' → G w'
  of : ∀ (w : World) (K : Option Addr) (key : List UInt8) (kcap : Nat) (A : Option Addr) (ps : List Part) (cap : Nat), G w → Rd w w.heap.size K key → key.length ≤ kcap → key.length ≤ 1048576 → Cells w w.heap.size A (ps.map partV) → (∀ p ∈ ps, Rd w w.heap.size p.1 p.2.1 ∧ p.2.1.length ≤ p.2.2) → (cat ps).length ≤ 1000000 → ps.length ≤ 900 →
    Calls Tryd.prog 6 #[.slice K key.length kcap, .slice A ps.length cap] w fun e w' => e = .returned (.agg (u8s (Mac.of key (cat ps))).toArray) ∧ Below w.heap.size w w'
  equal : ∀ (w : World) (A B : Option Addr) (a b : List UInt8) (ac bc : Nat), G w → Rd w w.heap.size A a → Rd w w.heap.size B b → a.length ≤ ac → b.length ≤ bc → a.length ≤ 9223372036854775807 → b.length ≤ 9223372036854775807 →
    Calls Tryd.prog 11 #[.slice A a.length ac, .slice B b.length bc] w fun e w' => e = .returned (.bool (decide (a = b))) ∧ Below w.heap.size w w'

set_option maxHeartbeats 2000000 in
set_option maxRecDepth 100000 in
theorem macequal_walk {G : World → Prop} (hOK : MacOK G) (hA : ∀ w : World, G w → Calls Tryd.prog 8 #[] w fun e w' => e = .returned (.bool true) ∧ Below w.heap.size w w') (w : World) (hG : G w) (A B : Option Addr) (a b : List UInt8) (ac bc n m : Nat) (hn : n = a.length) (hm : m = b.length) (ha : a.length ≤ ac) (hb : b.length ≤ bc) (ha' : a.length ≤ 9223372036854775807) (hb' : b.length ≤ 9223372036854775807) (rA : Rd w w.heap.size A a) (rB : Rd w w.heap.size B b) :
    Calls Tryd.prog 4 #[.slice A n ac, .slice B m bc] w fun e w' => e = .returned (.bool true) ∧ Below w.heap.size w w' := by
  have HOK := Lib.hid hOK
  have HA := Lib.hid hA
  have HG := Lib.hid hG
  have HN := Lib.hid hn
  have HM := Lib.hid hm
  have Ha := Lib.hid ha
  have Hb := Lib.hid hb
  have Ha' := Lib.hid ha'
  have Hb' := Lib.hid hb'
  have HRA := Lib.hid rA
  have HRB := Lib.hid rB
  clear hOK hA hG hn hm ha hb ha' hb' rA rB
  go_enter Tryd.func4, Tryd.ntmps4
  go_wp2_with fail
  refine wp_region_G grows (by kernel_rfl) ?_
  have hb0 : Below w.heap.size w w.drew := (Below.refl _ w).drew
  refine oneG 0 12 rfl (by kernel_rfl) rfl ?_
  go_wp2_with fail
  refine (HA.out w.drew (HOK.out.keep HG.out hb0)).mono ?_
  rintro e w1 ⟨rfl, h1⟩
  have hb1 : Below w.heap.size w w1 := hb0.trans h1
  have HB1 := Lib.hid hb1
  have HG1 := Lib.hid (HOK.out.keep HG.out hb1)
  have HRA1 := Lib.hid ((HRA.out.below hb1).more hb1.size)
  have HRB1 := Lib.hid ((HRB.out.below hb1).more hb1.size)
  have hs1 := string_later_rd HRA1.out ac
  have hs2 := string_later_rd HRB1.out bc
  rw [← HN.out] at hs1
  rw [← HM.out] at hs2
  clear hb0 hb1
  go_wp2
  refine ⟨h1, ?_⟩
  clear h1
  refine segG (by kernel_rfl) (fun _ _ _ _ _ h => h) [1, 2, 3, 5, 6, 7, 8, 9] [_, _, _, _, _, _, _, _] 4 rfl rfl (by kernel_rfl) ?_
  repeat (go_big_quiet_step (fail))
  refine wpQuiet_nil ?_
  refine oneG 4 3 rfl (by kernel_rfl) rfl ?_
  go_wp2_with fail
  have hE := HOK.out.equal w1 A B a b ac bc HG1.out HRA1.out HRB1.out Ha.out Hb.out Ha'.out Hb'.out
  rw [← HN.out, ← HM.out] at hE
  refine hE.mono ?_
  rintro e w2 ⟨rfl, h2⟩
  clear hE hs1 hs2
  have hd : decide (a = b) = (a == b) := by
    rw [Bool.eq_iff_iff, beq_iff_eq, decide_eq_true_iff]
  rw [hd]
  have HB2 := bb HB1 h2
  clear hd
  generalize (a == b) = q at *
  go_wp2
  refine ⟨h2, ?_⟩
  clear h2
  refine segG (by kernel_rfl) (fun _ _ _ _ _ h => h) [10, 11, 12] [_, _, _] 0 rfl rfl (by kernel_rfl) ?_
  repeat (go_big_quiet_step (fail))
  refine wpQuiet_nil ?_
  refine wpAnyG_done (by kernel_rfl) ?_
  go_wp2
  go_ret
  exact ⟨by simp, HB2.out⟩
end Go.Proofs.YtlbmpjikaoenoaaDoor
