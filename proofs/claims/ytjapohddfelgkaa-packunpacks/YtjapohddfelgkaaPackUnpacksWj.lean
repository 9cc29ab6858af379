/-
  Layer 13: PackUnpacks, walked from the contract of pack's functions.
-/
import Derived.Test.YtjapohddfelgkaaPackJ07
import Derived.Test.YtjapohddfelgkaaPackRefUj
set_option maxRecDepth 100000
namespace Go.Proofs.Ytjapohddfelgkaa
open Go.RowKit Go.Gar

set_option maxHeartbeats 2000000 in
theorem packunpacks_walk {G : World → Prop} (hOK : PackOK G) (A : Option Addr) (n c m : Nat) (d : List UInt8) (w : World) (hG : G w) (hc : n ≤ c) (hm : m = min n 1100) (hdl : d.length = m) (hr : Rd w w.heap.size A d) :
    Calls Try.prog 4 #[.slice A n c] w fun e w' => e = .returned (.bool true) ∧ Below w.heap.size w w' := by
  have hm1 : m ≤ 1100 := by omega
  have hmc : m ≤ c := by omega
  obtain ⟨E, hE⟩ : ∃ E, (Lz.unpackB d).1 = E := ⟨_, rfl⟩
  obtain ⟨O, hO⟩ : ∃ O, (Lz.unpackB d).2 = O := ⟨_, rfl⟩
  obtain ⟨on, hon⟩ : ∃ on, on = O.length := ⟨_, rfl⟩
  have HOK := Lib.hid hOK
  have HG := Lib.hid hG
  have HM := Lib.hid hm
  have HDl := Lib.hid hdl
  have HR := Lib.hid hr
  have HE := Lib.hid (show Lz.unpackB d = (E, O) from Prod.ext hE hO)
  have HOn := Lib.hid hon
  clear hOK hG hm hdl hr hE hO hon
  go_enter Try.func4, Try.ntmps4
  go_wp2_with fail
  refine (short13_any A n c m w HM.out hc).mono ?_
  rintro e w1 ⟨rfl, rfl⟩
  go_wp2_with fail
  refine (unpack_at HOK.out w1 A d m c E O on HG.out HDl.out.symm HR.out hmc (by omega) HE.out HOn.out).mono ?_
  rintro e w2 ⟨A2, c2, rfl, hc2, hr2, hb2⟩
  have HR2 := Lib.hid hr2
  have Hb2 := Lib.hid hb2
  clear hr2 hb2
  go_wp2_with fail
  refine (short13_any A n c m w2 HM.out hc).mono ?_
  rintro e w3 ⟨rfl, rfl⟩
  go_wp2_with fail
  refine (refUnpack_any A d m c w3 HDl.out.symm ((HR.out.below Hb2.out).more Hb2.out.size) hmc (by omega) E O HE.out).mono ?_
  rintro e w4 ⟨v4, rfl, hO4, hb4⟩
  obtain ⟨A4, c4, rfl, hr4⟩ := OwnB.rd hO4
  have HR4 := Lib.hid hr4
  have HR24 := Lib.hid ((HR2.out.below hb4).more hb4.size)
  have Hb4 := bb Hb2 hb4
  rw [← HOn.out]
  clear hO4 hr4 hb4 HR2 Hb2
  go_wp2_with fail
  refine (awake13_any HOK.out w4 (HOK.out.keep HG.out Hb4.out)).mono ?_
  rintro e w5 ⟨rfl, hb5⟩
  have Hb5 := bb Hb4 hb5
  have hs1 := string_later_rd ((HR24.out.below hb5).more hb5.size) c2 ⟨w5, grows.refl _⟩
  have hs2 := string_later_rd ((HR4.out.below hb5).more hb5.size) c4 ⟨w5, grows.refl _⟩
  rw [← HOn.out] at hs1 hs2
  obtain ⟨S, hS⟩ : ∃ S : ByteArray, (⟨O.toArray⟩ : ByteArray) = S := ⟨_, rfl⟩
  rw [hS] at hs1 hs2
  clear hS hb5 HR24 HR4 Hb4
  go_wp2
  go_ret
  exact ⟨by simp, Hb5.out⟩
end Go.Proofs.Ytjapohddfelgkaa
