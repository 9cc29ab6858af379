/-
  Layer 12: TokenDecodes, walked from the contract of token's functions.
-/
import Derived.Test.YtnphmppngjfjfaaTokAw
import Derived.Test.YtnphmppngjfjfaaTokRefD
import Derived.Test.YtnphmppngjfjfaaLzRefD
set_option maxRecDepth 100000
namespace Go.Proofs.Ytnphmppngjfjfaa
open Go.RowKit Go.Gar

theorem Lz.decode_len {b : List UInt8} : (Lz.decode b).2.length ≤ b.length := by
  rcases Lz.decode_cases b with ⟨l, h⟩ | h
  · obtain ⟨h1, h2⟩ := Lz.decode_ok h
    rw [h, ← h2]
    clear h h2
    induction l with
    | nil => simp
    | cons t l ih =>
      rw [List.flatMap_cons, List.length_append, List.length_cons]
      have := ih (fun s hs => h1 s (by simp [hs]))
      have : 0 < (Lz.encT t).length := by
        unfold Lz.encT
        split <;> simp
      simp only at *
      omega
  · rw [h]; simp

set_option maxHeartbeats 2000000 in
theorem tokendecodes_walk {G : World → Prop} (hOK : TokenOK G) (A : Option Addr) (l d : List UInt8) (c m : Nat) (w : World) (hG : G w) (hc : l.length ≤ c) (hdl : d.length = m) (hm : m = min l.length 600) (hr : Rd w w.heap.size A d) :
    Calls Try.prog 4 #[.slice A l.length c] w fun e w' => e = .returned (.bool true) ∧ Below w.heap.size w w' := by
  have hm600 : m ≤ 600 := by omega
  have hmc : m ≤ c := by omega
  obtain ⟨E, hE⟩ : ∃ E, (Lz.decode d).1 = E := ⟨_, rfl⟩
  obtain ⟨T, hT⟩ : ∃ T, (Lz.decode d).2 = T := ⟨_, rfl⟩
  have hTl : T.length ≤ m := by rw [← hT, ← hdl]; exact Lz.decode_len
  have HOK := Lib.hid hOK
  have HG := Lib.hid hG
  have HDl := Lib.hid hdl
  have HM := Lib.hid hm
  have HR := Lib.hid hr
  have HE := Lib.hid hE
  have HT := Lib.hid hT
  have HTl := Lib.hid hTl
  clear hOK hG hdl hm hr hE hT hTl
  go_enter Try.func4, Try.ntmps4
  go_wp2_with fail
  refine (short12_any A l.length c m w HM.out hc).mono ?_
  rintro e w1 ⟨rfl, rfl⟩
  go_wp2_with fail
  refine (tokD_at HOK.out w1 A d m c (E : Int) T HG.out HDl.out.symm HR.out hmc (by omega) (by rw [HE.out]) HT.out.symm).mono ?_
  rintro e w2 ⟨A2, n2, c2, ts, rfl, hn2, hc2, hr2, ht2, hb2⟩
  have HN2 := Lib.hid hn2
  have HR2 := Lib.hid hr2
  have HT2 := Lib.hid ht2
  have Hb2 := Lib.hid hb2
  have hle : n2 ≤ 600 := by
    rw [hn2, ← toks_len ts, ht2]
    have := HTl.out
    omega
  clear hn2 hr2 ht2 hb2
  go_wp2_with fail
  refine (short12_any A l.length c m w2 HM.out hc).mono ?_
  rintro e w3 ⟨rfl, rfl⟩
  go_wp2_with fail
  refine (refDecode_any A d m c w3 HDl.out.symm ((HR.out.below Hb2.out).more Hb2.out.size) hmc (by omega) E T (Prod.ext HE.out HT.out)).mono ?_
  rintro e w4 ⟨v4, us, rfl, hO4, ht4, _, hb4⟩
  obtain ⟨A4, c4, rfl, hc4, hr4⟩ := hO4.slice
  obtain ⟨n4, hn4⟩ : ∃ n4, us.length = n4 := ⟨_, rfl⟩
  rw [hn4] at hc4 ⊢
  have HN4 := Lib.hid hn4
  have HR4 := Lib.hid hr4
  have HT4 := Lib.hid ht4
  have HR24 := Lib.hid ((HR2.out.below hb4).more hb4.size)
  have Hb4 := bb Hb2 hb4
  clear hn4 hO4 hr4 ht4 hb4 HR2 Hb2
  go_wp2_with fail
  refine (awake12_any HOK.out w4 (HOK.out.keep HG.out Hb4.out)).mono ?_
  rintro e w5 ⟨rfl, hb5⟩
  have Hb5 := bb Hb4 hb5
  have HRa := Lib.hid ((HR24.out.below hb5).more hb5.size)
  have HRb := Lib.hid ((HR4.out.below hb5).more hb5.size)
  clear hb5 HR24 HR4 Hb4
  go_wp2_with fail
  refine (refEven_any A2 A4 ts us n2 n4 c2 c4 w5 HN2.out HN4.out.symm HRa.out HRb.out (by omega) true (by rw [HT2.out, HT4.out]; simp)).mono ?_
  rintro e w6 ⟨rfl, hb6⟩
  have Hb6 := bb Hb5 hb6
  clear hb6
  go_wp2
  go_ret
  exact ⟨by simp, Hb6.out⟩
end Go.Proofs.Ytnphmppngjfjfaa
