/-
  CrcMore: for every sum and every bytes the law returns true and leaves its arguments as they were. No condition.
-/
import Derived.Test.YtildnmlcildaoaaCrcLaw
import Derived.Test.YtildnmlcildaoaaLaw
import Derived.Test.YtildnmlcildaoaaOwn
namespace Go.Proofs.Ytildnmlcildaoaa
open Go.ChangeShapes Go.WideShapes Go.ChangeAt Go.RowKit Go.Gar Go.Gar.Crc

set_option maxHeartbeats 1000000 in
theorem crcmore_walk (s : BitVec 32) (A : Option Addr) (l lb : List UInt8) (cap m : Nat) (w : World) (hc : l.length ≤ cap) (hlb : lb.length = m) (hm : m = min l.length 200) (hr : Rd w w.heap.size A lb) :
    Calls Try.prog 3 #[.int .u32 (s.toNat : Int), .slice A l.length cap] w fun e w' => e = .returned (.bool true) ∧ Below w.heap.size w w' := by
  have HM := Lib.hid hm
  have hm2 : m ≤ 200 := by omega
  have HLB := Lib.hid hlb
  clear hm hlb
  go_enter Try.func3, Try.ntmps3
  go_wp2_with fail
  refine (awake2_any w).mono ?_
  rintro e w1 ⟨rfl, hb1⟩
  have Hb1 := Lib.hid hb1
  have HR1 := Lib.hid ((hr.below hb1).more hb1.size)
  clear hb1
  go_wp2_with fail
  refine (short2_any A l.length cap m w1 HM.out hc).mono ?_
  rintro e w2 ⟨rfl, rfl⟩
  go_wp2_with fail
  refine (crcMore_at s _ A lb m cap _ _ rfl HLB.out.symm HR1.out (by rw [HLB.out]; omega)).mono ?_
  rintro e w3 ⟨rfl, rfl⟩
  go_wp2_with fail
  refine (short2_any A l.length cap m _ HM.out hc).mono ?_
  rintro e w4 ⟨rfl, rfl⟩
  go_wp2_with fail
  refine (refMore_at s A lb m cap _ HLB.out.symm HR1.out (by rw [HLB.out]; omega)).mono ?_
  rintro e w5 ⟨rfl, hb5⟩
  have Hb5 := bb Hb1 hb5
  clear hb5
  go_wp2
  go_ret
  exact ⟨rfl, Hb5.out⟩

set_option maxRecDepth 100000 in
theorem crcmore_lifted (os : Os) (started : os.Started) (H : Type) (enc : TypeId × Value → H) :
    ReturnsInHanded {} Try.checked os 3 .any (Rows.crcMoreSpec.pre6 enc Try.prog Try.f3 Rows.crcMoreRow.domain false) (Rows.crcMoreSpec.post enc Try.prog Try.f3 false true false false) := by
  refine returnsInHanded_of_change (C := Try.checked) own started (by kernel_rfl) Try.func3
    (ChangeSpec.witness6 (enc := enc) (C := Try.checked) false ⟨#[], #[.int .u32 0, .slice none 0 0], []⟩ 8 (by kernel_rfl) (by kernel_rfl) (by kernel_rfl) (by kernel_rfl)) ?_
  intro W base args ds gs before hval0 hW hcnd _
  have hval : ∀ (j : Nat) t v, Try.f3.params[j]? = some t → args[j]? = some v → Value.okWide Try.prog W .any base t v := hval0
  have hW' := hW
  obtain ⟨p, q, hA0, hV, rfl, hfz, hnd⟩ := hW
  have hA : DataW.TrodAll enc Try.prog W 0 (fun _ => true) true Try.f3.params.toList args.toList ds p := hA0
  rw [Try.params3] at hA hval
  obtain ⟨v0, vs0, d0, ds0, p0, q0, hargs, rfl, rfl, h0, r0⟩ := trodAll_cons hA
  obtain ⟨v1, vs1, d1, ds1, p1, q1, rfl, rfl, rfl, h1, r1⟩ := trodAll_cons r0
  obtain ⟨rfl, rfl, rfl⟩ := trodAll_nil r1
  obtain rfl : args = #[v0, v1] := by cases args; simp_all
  obtain ⟨rfl, rfl⟩ := trodVars_none hV
  obtain ⟨s, rfl⟩ := open_u32 (hval 0 22 v0 rfl rfl) h0
  obtain ⟨A, l, cap, rfl, hc, hr⟩ := open_bytes Try.und22 Try.und5 (by kernel_rfl) (hval 1 23 v1 rfl rfl) h1
  refine (crcmore_walk s A l (l.take 200) cap _ W hc rfl (by rw [List.length_take]; omega) (hr.take 200)).mono fun e W' ⟨he, hb⟩ => ?_
  subst he
  exact ⟨_, rfl, law_post laid (by kernel_rfl) rfl (by kernel_rfl) Try.underlying4 hW' rfl hb⟩

theorem crcmore_holds : Rows.CrcMoreSaid :=
  OpenClaim.holds_of_wide 3 Try.f3 rfl rfl rfl rfl rfl rfl rfl ⟨rfl, rfl, rfl, rfl, rfl⟩ rfl rfl rfl rfl rfl (by kernel_rfl) Try.func3 (by kernel_rfl)
    (of_decide_eq_true (by kernel_rfl)) (by unfold Func.isWrapper; first | (rw [if_pos (by decide +kernel)]; kernel_rfl) | (rw [if_neg (by decide +kernel)]; exact ⟨rfl, rfl⟩))
    (fun os started H enc _ => crcmore_lifted os started H enc)
#print axioms crcmore_holds
end Go.Proofs.Ytildnmlcildaoaa
