/-
  Layer 14: DiskNobody, walked from the contract of disk's functions.
-/
import Derived.Test.YtampdfmakhdliaaDiskJ05
set_option maxRecDepth 100000
namespace Go.Proofs.Ytampdfmakhdliaa
open Go.RowKit Go.Gar
open Go.Gar.Dsk (Dsk)

set_option maxHeartbeats 4000000 in
theorem disknobody_walk {Rep : World → (Nat → Prop) → Nat → Dsk → Prop} (hOK : DiskOK Rep) (hN : DiskNil) (i n : Int) (A : Option Addr) (l c : Nat) (w : World) :
    Calls Try.prog 8 #[.int .i64 i, .int .i64 n, .slice A l c] w fun e w' => e = .returned (.bool true) ∧ Below w.heap.size w w' := by
  have HOK := Lib.hid hOK
  have HN := Lib.hid hN
  clear hOK hN
  go_enter Try.func8, Try.ntmps8
  go_wp2_with fail
  refine (HN.out.fuse w n).mono ?_
  rintro e w1 ⟨rfl, hb1⟩
  have Hb1 := Lib.hid hb1
  clear hb1
  go_wp2_with fail
  refine (HN.out.crash w1 n i n).mono ?_
  rintro e w2 ⟨rfl, hb2⟩
  have Hb2 := bb Hb1 hb2
  clear hb2 Hb1
  go_wp2_with fail
  refine (HN.out.read w2 i).mono ?_
  rintro e w3 ⟨A3, c3, rfl, hb3⟩
  have Hb3 := bb Hb2 hb3
  clear hb3 Hb2
  go_wp2_with fail
  refine (awake14_any HOK.out w3).mono ?_
  rintro e w4 ⟨rfl, hb⟩
  have Hb4 := bb Hb3 hb
  clear hb Hb3
  go_wp2_with fail
  refine (HN.out.size w4).mono ?_
  rintro e w5 ⟨rfl, hb⟩
  have Hb5 := bb Hb4 hb
  clear hb Hb4
  go_wp2_with fail
  refine (HN.out.write w5 i A l c).mono ?_
  rintro e w6 ⟨rfl, hb⟩
  have Hb6 := bb Hb5 hb
  clear hb Hb5
  go_wp2_with fail
  refine (HN.out.flush w6).mono ?_
  rintro e w7 ⟨rfl, hb⟩
  have Hb7 := bb Hb6 hb
  clear hb Hb6
  go_wp2_with fail
  refine (HN.out.pending w7).mono ?_
  rintro e w8 ⟨rfl, hb⟩
  have Hb8 := bb Hb7 hb
  clear hb Hb7
  go_wp2_with fail
  refine (HN.out.writes w8).mono ?_
  rintro e w9 ⟨rfl, hb⟩
  have Hb9 := bb Hb8 hb
  clear hb Hb8
  go_wp2_with fail
  refine (HN.out.since w9 i).mono ?_
  rintro e w10 ⟨rfl, hb⟩
  have Hb10 := bb Hb9 hb
  clear hb Hb9
  go_wp2
  go_ret
  exact ⟨by simp, Hb10.out⟩
end Go.Proofs.Ytampdfmakhdliaa
