/-
  Layer 12: TokenEncodes, walked from the contract of token's functions.
-/
import Derived.Test.YtnphmppngjfjfaaTokAw
import Derived.Test.YtnphmppngjfjfaaTokRefE
set_option maxRecDepth 100000
namespace Go.Proofs.Ytnphmppngjfjfaa
open Go.RowKit Go.Gar

set_option maxHeartbeats 2000000 in
theorem tokenencodes_walk {G : World → Prop} (hOK : TokenOK G) (A : Option Addr) (us : List Tv) (n c m : Nat) (w : World) (hG : G w) (hc : n ≤ c) (hm : m = min n 60) (hul : us.length = m) (hr : RdT w w.heap.size A us) (hi : ∀ x ∈ us, isI64 x.n ∧ isI64 x.d) :
    Calls Try.prog 3 #[.slice A n c] w fun e w' => e = .returned (.bool true) ∧ Below w.heap.size w w' := by
  have hm60 : m ≤ 60 := by omega
  have hmc : m ≤ c := by omega
  obtain ⟨E, hE⟩ : ∃ E, (Lz.encode (us.map Tv.tok)).1 = E := ⟨_, rfl⟩
  obtain ⟨O, hO⟩ : ∃ O, (Lz.encode (us.map Tv.tok)).2 = O := ⟨_, rfl⟩
  obtain ⟨on, hon⟩ : ∃ on, on = O.length := ⟨_, rfl⟩
  have HOK := Lib.hid hOK
  have HG := Lib.hid hG
  have HM := Lib.hid hm
  have HUl := Lib.hid hul
  have HR := Lib.hid hr
  have HI := Lib.hid hi
  have HE := Lib.hid hE
  have HO := Lib.hid hO
  have HOn := Lib.hid hon
  clear hOK hG hm hul hr hi hE hO hon
  go_enter Try.func3, Try.ntmps3
  go_wp2_with fail
  refine (few12_any A n c m w HM.out hc).mono ?_
  rintro e w1 ⟨rfl, rfl⟩
  go_wp2_with fail
  refine (tokE_at HOK.out w1 A us m c (E : Int) O on HG.out HUl.out.symm HR.out hmc (by omega) HI.out (by rw [HE.out]) HO.out.symm HOn.out).mono ?_
  rintro e w2 ⟨A2, c2, rfl, hc2, hr2, hb2⟩
  have HR2 := Lib.hid hr2
  have Hb2 := Lib.hid hb2
  clear hr2 hb2
  go_wp2_with fail
  refine (few12_any A n c m w2 HM.out hc).mono ?_
  rintro e w3 ⟨rfl, rfl⟩
  go_wp2_with fail
  refine (refEncode_any A us m c w3 HUl.out.symm ((HR.out.below Hb2.out).more Hb2.out.size) (by omega) E O (Prod.ext HE.out HO.out)).mono ?_
  rintro e w4 ⟨v4, rfl, hO4, hb4⟩
  obtain ⟨A4, c4, rfl, hr4⟩ := hO4.rd
  have HR4 := Lib.hid hr4
  have HR24 := Lib.hid ((HR2.out.below hb4).more hb4.size)
  have Hb4 := bb Hb2 hb4
  rw [← HOn.out]
  clear hO4 hr4 hb4 HR2 Hb2
  go_wp2_with fail
  refine (awake12_any HOK.out w4 (HOK.out.keep HG.out Hb4.out)).mono ?_
  rintro e w5 ⟨rfl, hb5⟩
  have Hb5 := bb Hb4 hb5
  have hs1 := string_later_rd ((HR24.out.below hb5).more hb5.size) c2 ⟨w5, grows.refl _⟩
  have hs2 := string_later_rd ((HR4.out.below hb5).more hb5.size) c4 ⟨w5, grows.refl _⟩
  rw [← HOn.out] at hs1 hs2
  obtain ⟨S, hS⟩ : ∃ S : ByteArray, (⟨O.toArray⟩ : ByteArray) = S := ⟨_, rfl⟩
  rw [hS] at hs1 hs2
  clear hS hb5 HR24 HR4 Hb4
  go_wp2
  go_ret
  exact ⟨by simp, Hb5.out⟩
end Go.Proofs.Ytnphmppngjfjfaa
