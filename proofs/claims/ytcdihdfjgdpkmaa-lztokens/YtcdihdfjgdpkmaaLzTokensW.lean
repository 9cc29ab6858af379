/-
  Layer 11: LzTokens, walked from the contract of lz's functions.
-/
import Derived.Test.YtcdihdfjgdpkmaaLzAw
import Derived.Test.YtcdihdfjgdpkmaaLzRefC
import Derived.Test.YtcdihdfjgdpkmaaLzRefD
set_option maxRecDepth 100000
namespace Go.Proofs.Ytcdihdfjgdpkmaa
open Go.RowKit Go.Gar

set_option maxHeartbeats 2000000 in
theorem lztokens_walk {G : World → Prop} (hOK : LzOK G) (A : Option Addr) (l d : List UInt8) (c m : Nat) (w : World) (hG : G w) (hc : l.length ≤ c) (hdl : d.length = m) (hm : m = min l.length 600) (hr : Rd w w.heap.size A d) :
    Calls Try.prog 3 #[.slice A l.length c] w fun e w' => e = .returned (.bool true) ∧ Below w.heap.size w w' := by
  have hm600 : m ≤ 600 := by omega
  have hmc : m ≤ c := by omega
  have HOK := Lib.hid hOK
  have HG := Lib.hid hG
  have HDl := Lib.hid hdl
  have HM := Lib.hid hm
  have HR := Lib.hid hr
  clear hOK hG hdl hm hr
  go_enter Try.func3, Try.ntmps3
  go_wp2_with fail
  refine (awake11_any HOK.out w HG.out).mono ?_
  rintro e w1 ⟨rfl, hb1⟩
  have Hb1 := Lib.hid hb1
  clear hb1
  go_wp2_with fail
  refine (short11_any A l.length c m w1 HM.out hc).mono ?_
  rintro e w2 ⟨rfl, rfl⟩
  go_wp2_with fail
  refine (lzT_at HOK.out w2 A d m c _ (HOK.out.keep HG.out Hb1.out) HDl.out.symm rfl ((HR.out.below Hb1.out).more Hb1.out.size) hmc (by omega)).mono ?_
  rintro e w3 ⟨A3, n3, c3, ts, rfl, hn3, hc3, hr3, ht3, hb3⟩
  have HN3 := Lib.hid hn3
  have HR3 := Lib.hid hr3
  have HT3 := Lib.hid ht3
  have Hb3 := bb Hb1 hb3
  clear hn3 hr3 ht3 hb3
  go_wp2_with fail
  refine (short11_any A l.length c m w3 HM.out hc).mono ?_
  rintro e w4 ⟨rfl, rfl⟩
  go_wp2_with fail
  refine (refTokens_any A d m c w4 HDl.out.symm ((HR.out.below Hb3.out).more Hb3.out.size) (by omega)).mono ?_
  rintro e w5 ⟨v5, us, rfl, hO5, ht5, hb5⟩
  obtain ⟨A5, c5, rfl, hc5, hr5⟩ := hO5.slice
  obtain ⟨n5, hn5⟩ : ∃ n5, us.length = n5 := ⟨_, rfl⟩
  rw [hn5] at hc5 ⊢
  have HN5 := Lib.hid hn5
  have HR5 := Lib.hid hr5
  have HT5 := Lib.hid ht5
  have HR35 := Lib.hid ((HR3.out.below hb5).more hb5.size)
  have Hb5 := bb Hb3 hb5
  have hle : n3 ≤ 600 := by
    rw [HN3.out, ← toks_len ts, HT3.out]
    have := Lz.tokens_len d
    have := HDl.out
    omega
  clear hn5 hO5 hr5 ht5 hb5
  go_wp2_with fail
  refine (refEven_any A3 A5 ts us n3 n5 c3 c5 w5 HN3.out HN5.out.symm HR35.out HR5.out (by omega) true (by rw [HT3.out, HT5.out]; simp)).mono ?_
  rintro e w6 ⟨rfl, hb6⟩
  have Hb6 := bb Hb5 hb6
  clear hb6
  go_wp2
  go_ret
  exact ⟨by simp, Hb6.out⟩
end Go.Proofs.Ytcdihdfjgdpkmaa
