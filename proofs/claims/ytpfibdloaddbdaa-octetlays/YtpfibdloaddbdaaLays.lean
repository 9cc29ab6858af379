/-
  OctetLays: for every slice of bytes, int, string and small number the law returns true and leaves its arguments as they were. No condition.
-/
import Derived.Test.YtpfibdloaddbdaaRefA
import Derived.Test.YtpfibdloaddbdaaLaw
import Derived.Test.YtpfibdloaddbdaaOwn
import Derived.Test.YtpfibdloaddbdaaReg
namespace Go.Proofs.Ytpfibdloaddbdaa
open Go.ChangeShapes Go.WideShapes Go.ChangeAt Go.RowKit Go.Gar
open Go.ChangeMaps (open_string shut_string)

set_option maxHeartbeats 1000000 in
theorem lays_over (A : Option Addr) (l : List UInt8) (cap : Nat) (n : Int) (s : ByteArray) (many : Int) (w : World) (hc : l.length ≤ cap) (hs : 65535 < s.size) :
    Calls Try.prog 3 #[.slice A l.length cap, .int .i64 n, .string s, .int .u8 many] w fun e w' => e = .returned (.bool true) ∧ Below w.heap.size w w' := by
  go_enter Try.func3, Try.ntmps3
  go_wp2_with fail
  refine (short_any A l.length cap _ w rfl hc).mono ?_
  rintro e w1 ⟨rfl, rfl⟩
  go_wp2_with fail
  refine (text_over A _ cap s _ hs).mono ?_
  rintro e w2 ⟨rfl, rfl⟩
  go_wp2_with fail
  refine (awake_any _).mono ?_
  rintro e w3 ⟨rfl, hb⟩
  have Hb := Lib.hid hb
  clear hb
  go_wp2
  go_ret
  exact ⟨rfl, Hb.out⟩

/-- make([]byte, c) and the string of it: some bytes, c of them. -/
theorem make_some (c : Nat) (hc : c ≤ 281474976710656) (w : World) : ∃ (S : ByteArray) (w' : World), S.size = c ∧
    (Instr.makeSlice 22 (.int .i64 (c : Int)) (.int .i64 (c : Int))).run Try.prog w = .ok (.slice (some ⟨w.heap.size, 0, none⟩) c c) w' ∧
    (convert 22 9 (.slice (some ⟨w.heap.size, 0, none⟩) c c)).run Try.prog w' = .ok (.string S) w' ∧ Below w.heap.size w w' := by
  have hmk := run_make_bytes c c (Nat.le_refl _) hc w
  have hB := Blk.new w 5 (u8s (List.replicate c 0))
  have hcv := run_string_rd (P := Try.prog) 22 9 5 Try.und22 Try.und5 Try.und9 _ _ _ c (Rd.of_all hB)
  rw [List.length_replicate] at hcv
  exact ⟨_, _, by simp [ByteArray.size], hmk, hcv, below_alloc w _⟩

/-- string(b) of a row that is known whole, in every world to which memory may have grown. -/
theorem string_later {w : World} {g : Nat} {k : List UInt8} (h : Blk w g 5 (u8s k)) (len cap : Nat) (hl : len = k.length) :
    ∀ x : Later grows w, (convert 22 9 (.slice (some ⟨g, 0, none⟩) len cap)).run Try.prog x.to = .ok (.string ⟨k.toArray⟩) x.to := by
  intro x
  subst hl
  have hx : Below w.heap.size w x.to := x.grown
  exact run_string_rd (P := Try.prog) 22 9 5 Try.und22 Try.und5 Try.und9 _ _ _ cap (Rd.of_all (h.below hx h.lt))
theorem string_later_rd {w : World} {A : Option Addr} {k : List UInt8} (h : Rd w w.heap.size A k) (cap : Nat) :
    ∀ x : Later grows w, (convert 22 9 (.slice A k.length cap)).run Try.prog x.to = .ok (.string ⟨k.toArray⟩) x.to := by
  intro x
  have hx : Below w.heap.size w x.to := x.grown
  exact run_string_rd (P := Try.prog) 22 9 5 Try.und22 Try.und5 Try.und9 _ _ _ cap (h.below hx)

theorem refInt_at (A : Option Addr) (l k : List UInt8) (len c : Nat) (n : Int) (w : World) (hl : len = l.length) (hk : l ++ be (b64 n) 8 = k) (hr : Rd w w.heap.size A l) (hsz : l.length ≤ 1000000000) :
    Calls Try.prog 12 #[.slice A len c, .int .i64 n] w fun e w' => GotSlice w' k e ∧ Below w.heap.size w w' := by
  subst hl; subst hk
  exact refInt_any A l c n w hr hsz
theorem refText_at (A : Option Addr) (l k : List UInt8) (len c : Nat) (s : ByteArray) (w : World) (hl : len = l.length) (hk : l ++ be s.size 2 ++ s.data.toList = k) (hr : Rd w w.heap.size A l) (hsz : l.length ≤ 1000000000) (hs : s.size ≤ 65535) :
    Calls Try.prog 13 #[.slice A len c, .string s] w fun e w' => GotSlice w' k e ∧ Below w.heap.size w w' := by
  subst hl; subst hk
  exact refText_any A l c s w hr hsz hs

set_option maxHeartbeats 2000000 in
theorem lays_fit (A : Option Addr) (l lb : List UInt8) (cap m : Nat) (n : Int) (s : ByteArray) (many : Nat) (w : World) (hc : l.length ≤ cap) (hlb : lb.length = m) (hm : m = min l.length 300) (hr : Rd w w.heap.size A lb) (hs : s.size ≤ 65535) (hmany : many < 256) :
    Calls Try.prog 3 #[.slice A l.length cap, .int .i64 n, .string s, .int .u8 (many : Int)] w fun e w' => e = .returned (.bool true) ∧ Below w.heap.size w w' := by
  have HM := Lib.hid hm
  have HLB := Lib.hid hlb
  have hm3 : m ≤ 300 := by omega
  obtain ⟨kI, hkI⟩ : ∃ kI, lb ++ be (b64 n) 8 = kI := ⟨_, rfl⟩
  obtain ⟨kT, hkT⟩ : ∃ kT, lb ++ be s.size 2 ++ s.data.toList = kT := ⟨_, rfl⟩
  have HLI := Lib.hid (show m + 8 = kI.length from by rw [← hkI, List.length_append, be_len]; omega)
  have HLT := Lib.hid (show m + 2 + s.size = kT.length from by rw [← hkT, List.length_append, List.length_append, be_len, len_str]; omega)
  have HKI := Lib.hid hkI
  have HKT := Lib.hid hkT
  clear hm hlb hkI hkT
  go_enter Try.func3, Try.ntmps3
  go_wp2_with fail
  refine (short_any A l.length cap m w HM.out hc).mono ?_
  rintro e w1 ⟨rfl, rfl⟩
  go_wp2_with fail
  refine (text_at A lb kT m cap _ s _ rfl HLB.out.symm HKT.out hr (by have := HLB.out; omega) hs).mono ?_
  rintro e w2 ⟨rfl, hB2, hb2⟩
  have HB2 := Lib.hid hB2
  have Hb2 := Lib.hid hb2
  clear hB2 hb2
  obtain ⟨S, w3, hS, hmk, hcv, hb3⟩ := make_some (65500 + many) (by omega) w2
  have Hb3 := bb Hb2 hb3
  have HB3 := Lib.hid (HB2.out.below hb3 HB2.out.lt)
  have HS := Lib.hid hS
  clear hb3 hS
  rw [show ((65500 + many : Nat) : Int) = 65500 + (many : Int) from by omega] at hmk
  go_wp2_with fail
  by_cases hbig : 65535 < 65500 + many
  · refine (text_over none 0 0 S w3 (by have := HS.out; omega)).mono ?_
    rintro e w4 ⟨rfl, rfl⟩
    clear hmk hcv
    go_wp2_with fail
    refine wp_region_G grows (by kernel_rfl) ?_
    have HRW := Lib.hid (show Rd w3.drew w3.drew.heap.size A lb from ((hr.below Hb3.out).more Hb3.out.size))
    have HXW := Lib.hid (show Blk w3.drew w1.heap.size 5 (u8s kT) from HB3.out)
    have HbW := Lib.hid (show Below w1.heap.size w1 w3.drew from Hb3.out.drew)
    generalize w3.drew = wa at *
    refine oneG 0 36 rfl (by kernel_rfl) rfl ?_
    go_wp2_with fail
    refine (awake_any wa).mono ?_
    rintro e wb ⟨rfl, hb⟩
    have HRb := Lib.hid ((HRW.out.below hb).more hb.size)
    have HXb := Lib.hid (HXW.out.below hb HXW.out.lt)
    have Hbb := bb HbW hb
    go_wp2
    refine ⟨hb, ?_⟩
    clear hb
    refine segG (by kernel_rfl) (fun _ _ _ _ _ h => h) [1, 2, 4, 7, 9] [_, _, _, _, _] 31 rfl rfl (by kernel_rfl) ?_
    repeat (go_big_quiet_step (fail))
    refine wpQuiet_nil ?_
    refine oneG 3 30 rfl (by kernel_rfl) rfl ?_
    go_wp2_with fail
    refine (short_any A l.length cap m wb HM.out hc).mono ?_
    rintro e wb' ⟨rfl, rfl⟩
    go_wp2
    refine ⟨grows.refl _, ?_⟩
    refine oneG 5 29 rfl (by kernel_rfl) rfl ?_
    go_wp2_with fail
    refine (int_at A lb kI m cap _ n _ rfl HLB.out.symm HKI.out HRb.out (by have := HLB.out; omega)).mono ?_
    rintro e wc ⟨rfl, hBc, hb⟩
    have HRc := Lib.hid ((HRb.out.below hb).more hb.size)
    have HXc := Lib.hid (HXb.out.below hb HXb.out.lt)
    have HIc := Lib.hid hBc
    have Hbc := bb Hbb hb
    go_wp2
    refine ⟨hb, ?_⟩
    clear hb hBc
    have hcI := string_later HIc.out (m + 8) (m + 8) HLI.out
    refine segG (by kernel_rfl) (fun _ _ _ _ _ h => h) [6] [_] 28 rfl rfl (by kernel_rfl) ?_
    repeat (go_big_quiet_step (fail))
    refine wpQuiet_nil ?_
    clear hcI
    refine oneG 8 27 rfl (by kernel_rfl) rfl ?_
    go_wp2_with fail
    refine (short_any A l.length cap m wc HM.out hc).mono ?_
    rintro e wc' ⟨rfl, rfl⟩
    go_wp2
    refine ⟨grows.refl _, ?_⟩
    refine oneG 10 26 rfl (by kernel_rfl) rfl ?_
    go_wp2_with fail
    refine (refInt_at A lb kI m cap n _ HLB.out.symm HKI.out HRc.out (by have := HLB.out; omega)).mono ?_
    rintro e wd ⟨⟨A2, c2, rfl, hrd⟩, hb⟩
    have HRd := Lib.hid ((HRc.out.below hb).more hb.size)
    have HXd := Lib.hid (HXc.out.below hb HXc.out.lt)
    have Hbd := bb Hbc hb
    have hcR := string_later_rd hrd c2
    go_wp2
    refine ⟨hb, ?_⟩
    clear hb hrd
    have hcX := string_later HXd.out (m + 2 + s.size) (m + 2 + s.size) HLT.out
    refine segG (by kernel_rfl) (fun _ _ _ _ _ h => h) [11, 12, 13, 14, 15, 16, 17, 19] [_, _, _, _, _, _, _, _] 18 rfl rfl (by kernel_rfl) ?_
    repeat (go_big_quiet_step (fail))
    refine wpQuiet_nil ?_
    clear hcR hcX
    refine oneG 18 17 rfl (by kernel_rfl) rfl ?_
    go_wp2_with fail
    refine (short_any A l.length cap m wd HM.out hc).mono ?_
    rintro e wd' ⟨rfl, rfl⟩
    go_wp2
    refine ⟨grows.refl _, ?_⟩
    refine oneG 20 16 rfl (by kernel_rfl) rfl ?_
    go_wp2_with fail
    refine (refText_at A lb kT m cap s _ HLB.out.symm HKT.out HRd.out (by have := HLB.out; omega) hs).mono ?_
    rintro e we ⟨⟨A3, c3, rfl, hrd⟩, hb⟩
    have Hbe := bb Hbd hb
    have hcT := string_later_rd hrd c3
    go_wp2
    refine ⟨hb, ?_⟩
    clear hb hrd
    have hgt : decide ((65535 : Int) < 65500 + (many : Int)) = true := by simp; omega
    refine segG (by kernel_rfl) (fun _ _ _ _ _ h => h) [21, 22, 23, 24, 25, 26, 27, 28, 29, 30, 31, 32, 33, 34, 35, 36] [_, _, _, _, _, _, _, _, _, _, _, _, _, _, _, _] 0 rfl rfl (by kernel_rfl) ?_
    repeat (go_big_quiet_step (fail))
    refine wpQuiet_nil ?_
    refine wpAnyG_done (by kernel_rfl) ?_
    go_wp2
    go_ret
    exact ⟨rfl, Hbe.out⟩
  · refine (text_at none [] _ 0 0 _ S w3 rfl rfl rfl Rd.nil (by simp) (by have := HS.out; omega)).mono ?_
    rintro e w4 ⟨rfl, _, hb4⟩
    have HB4 := Lib.hid (HB3.out.below hb4 HB3.out.lt)
    have Hb4 := bb Hb3 hb4
    clear hmk hcv hb4
    go_wp2_with fail
    refine wp_region_G grows (by kernel_rfl) ?_
    have HRW := Lib.hid (show Rd w4.drew w4.drew.heap.size A lb from ((hr.below Hb4.out).more Hb4.out.size))
    have HXW := Lib.hid (show Blk w4.drew w1.heap.size 5 (u8s kT) from HB4.out)
    have HbW := Lib.hid (show Below w1.heap.size w1 w4.drew from Hb4.out.drew)
    generalize w4.drew = wa at *
    refine oneG 0 36 rfl (by kernel_rfl) rfl ?_
    go_wp2_with fail
    refine (awake_any wa).mono ?_
    rintro e wb ⟨rfl, hb⟩
    have HRb := Lib.hid ((HRW.out.below hb).more hb.size)
    have HXb := Lib.hid (HXW.out.below hb HXW.out.lt)
    have Hbb := bb HbW hb
    go_wp2
    refine ⟨hb, ?_⟩
    clear hb
    refine segG (by kernel_rfl) (fun _ _ _ _ _ h => h) [1, 2, 4, 7, 9] [_, _, _, _, _] 31 rfl rfl (by kernel_rfl) ?_
    repeat (go_big_quiet_step (fail))
    refine wpQuiet_nil ?_
    refine oneG 3 30 rfl (by kernel_rfl) rfl ?_
    go_wp2_with fail
    refine (short_any A l.length cap m wb HM.out hc).mono ?_
    rintro e wb' ⟨rfl, rfl⟩
    go_wp2
    refine ⟨grows.refl _, ?_⟩
    refine oneG 5 29 rfl (by kernel_rfl) rfl ?_
    go_wp2_with fail
    refine (int_at A lb kI m cap _ n _ rfl HLB.out.symm HKI.out HRb.out (by have := HLB.out; omega)).mono ?_
    rintro e wc ⟨rfl, hBc, hb⟩
    have HRc := Lib.hid ((HRb.out.below hb).more hb.size)
    have HXc := Lib.hid (HXb.out.below hb HXb.out.lt)
    have HIc := Lib.hid hBc
    have Hbc := bb Hbb hb
    go_wp2
    refine ⟨hb, ?_⟩
    clear hb hBc
    have hcI := string_later HIc.out (m + 8) (m + 8) HLI.out
    refine segG (by kernel_rfl) (fun _ _ _ _ _ h => h) [6] [_] 28 rfl rfl (by kernel_rfl) ?_
    repeat (go_big_quiet_step (fail))
    refine wpQuiet_nil ?_
    clear hcI
    refine oneG 8 27 rfl (by kernel_rfl) rfl ?_
    go_wp2_with fail
    refine (short_any A l.length cap m wc HM.out hc).mono ?_
    rintro e wc' ⟨rfl, rfl⟩
    go_wp2
    refine ⟨grows.refl _, ?_⟩
    refine oneG 10 26 rfl (by kernel_rfl) rfl ?_
    go_wp2_with fail
    refine (refInt_at A lb kI m cap n _ HLB.out.symm HKI.out HRc.out (by have := HLB.out; omega)).mono ?_
    rintro e wd ⟨⟨A2, c2, rfl, hrd⟩, hb⟩
    have HRd := Lib.hid ((HRc.out.below hb).more hb.size)
    have HXd := Lib.hid (HXc.out.below hb HXc.out.lt)
    have Hbd := bb Hbc hb
    have hcR := string_later_rd hrd c2
    go_wp2
    refine ⟨hb, ?_⟩
    clear hb hrd
    have hcX := string_later HXd.out (m + 2 + s.size) (m + 2 + s.size) HLT.out
    refine segG (by kernel_rfl) (fun _ _ _ _ _ h => h) [11, 12, 13, 14, 15, 16, 17, 19] [_, _, _, _, _, _, _, _] 18 rfl rfl (by kernel_rfl) ?_
    repeat (go_big_quiet_step (fail))
    refine wpQuiet_nil ?_
    clear hcR hcX
    refine oneG 18 17 rfl (by kernel_rfl) rfl ?_
    go_wp2_with fail
    refine (short_any A l.length cap m wd HM.out hc).mono ?_
    rintro e wd' ⟨rfl, rfl⟩
    go_wp2
    refine ⟨grows.refl _, ?_⟩
    refine oneG 20 16 rfl (by kernel_rfl) rfl ?_
    go_wp2_with fail
    refine (refText_at A lb kT m cap s _ HLB.out.symm HKT.out HRd.out (by have := HLB.out; omega) hs).mono ?_
    rintro e we ⟨⟨A3, c3, rfl, hrd⟩, hb⟩
    have Hbe := bb Hbd hb
    have hcT := string_later_rd hrd c3
    go_wp2
    refine ⟨hb, ?_⟩
    clear hb hrd
    have hgt : decide ((65535 : Int) < 65500 + (many : Int)) = false := by simp; omega
    refine segG (by kernel_rfl) (fun _ _ _ _ _ h => h) [21, 22, 23, 24, 25, 26, 27, 28, 29, 30, 31, 32, 33, 34, 35, 36] [_, _, _, _, _, _, _, _, _, _, _, _, _, _, _, _] 0 rfl rfl (by kernel_rfl) ?_
    repeat (go_big_quiet_step (fail))
    refine wpQuiet_nil ?_
    refine wpAnyG_done (by kernel_rfl) ?_
    go_wp2
    go_ret
    exact ⟨rfl, Hbe.out⟩

theorem lays_all (A : Option Addr) (l : List UInt8) (cap : Nat) (n : Int) (s : ByteArray) (many : Int) (w : World) (hc : l.length ≤ cap) (hr : Rd w w.heap.size A l) (hm : (Lit.int .u8 many).wf = true) :
    Calls Try.prog 3 #[.slice A l.length cap, .int .i64 n, .string s, .int .u8 many] w fun e w' => e = .returned (.bool true) ∧ Below w.heap.size w w' := by
  by_cases hs : s.size ≤ 65535
  · have h3 := bounds_u8 hm
    obtain ⟨many, rfl⟩ := Int.eq_ofNat_of_zero_le h3.1
    exact lays_fit A l (l.take 300) cap _ n s many w hc rfl (by rw [List.length_take]; omega) (hr.take 300) hs (by omega)
  · exact lays_over A l cap n s many w hc (by omega)

set_option maxRecDepth 100000 in
theorem lays_lifted (os : Os) (started : os.Started) (H : Type) (enc : TypeId × Value → H) :
    ReturnsInHanded {} Try.checked os 3 .any (Rows.octetLaysSpec.pre6 enc Try.prog Try.f3 Rows.octetLaysRow.domain false) (Rows.octetLaysSpec.post enc Try.prog Try.f3 false true false false) := by
  refine returnsInHanded_of_change (C := Try.checked) own started (by kernel_rfl) Try.func3
    (ChangeSpec.witness6 (enc := enc) (C := Try.checked) false ⟨#[], #[.slice none 0 0, .int .i64 0, .string ByteArray.empty, .int .u8 0], []⟩ 8 (by kernel_rfl) (by kernel_rfl) (by kernel_rfl) (by kernel_rfl)) ?_
  intro W base args ds gs before hval0 hW hcnd _
  have hval : ∀ (j : Nat) t v, Try.f3.params[j]? = some t → args[j]? = some v → Value.okWide Try.prog W .any base t v := hval0
  have hW' := hW
  obtain ⟨p, q, hA0, hV, rfl, hfz, hnd⟩ := hW
  have hA : DataW.TrodAll enc Try.prog W 0 (fun _ => true) true Try.f3.params.toList args.toList ds p := hA0
  rw [Try.params3] at hA hval
  obtain ⟨v0, vs0, d0, ds0, p0, q0, hargs, rfl, rfl, h0, r0⟩ := trodAll_cons hA
  obtain ⟨v1, vs1, d1, ds1, p1, q1, rfl, rfl, rfl, h1, r1⟩ := trodAll_cons r0
  obtain ⟨v2, vs2, d2, ds2, p2, q2, rfl, rfl, rfl, h2, r2⟩ := trodAll_cons r1
  obtain ⟨v3, vs3, d3, ds3, p3, q3, rfl, rfl, rfl, h3, r3⟩ := trodAll_cons r2
  obtain ⟨rfl, rfl, rfl⟩ := trodAll_nil r3
  obtain rfl : args = #[v0, v1, v2, v3] := by cases args; simp_all
  obtain ⟨rfl, rfl⟩ := trodVars_none hV
  obtain ⟨A, l, cap, rfl, hc, hr⟩ := open_bytes Try.und22 Try.und5 (by kernel_rfl) (hval 0 22 v0 rfl rfl) h0
  obtain ⟨a1, rfl, rfl, rfl, w1⟩ := open_int Try.underlying3 (hval 1 3 v1 rfl rfl) h1
  obtain ⟨a2, rfl, rfl, rfl, w2⟩ := open_string Try.underlying9 (hval 2 9 v2 rfl rfl) h2
  obtain ⟨a3, rfl, rfl, rfl, w3⟩ := open_int Try.underlying5 (hval 3 5 v3 rfl rfl) h3
  refine (lays_all A l cap a1 a2 a3 W hc hr w3).mono fun e W' ⟨he, hb⟩ => ?_
  subst he
  exact ⟨_, rfl, law_post laid (by kernel_rfl) rfl (by kernel_rfl) Try.underlying4 hW' rfl hb⟩

theorem lays_holds : Rows.OctetLaysSaid :=
  OpenClaim.holds_of_wide 3 Try.f3 rfl rfl rfl rfl rfl rfl rfl ⟨rfl, rfl, rfl, rfl, rfl⟩ rfl rfl rfl rfl rfl (by kernel_rfl) Try.func3 (by kernel_rfl)
    (of_decide_eq_true (by kernel_rfl)) (by unfold Func.isWrapper; first | (rw [if_pos (by decide +kernel)]; kernel_rfl) | (rw [if_neg (by decide +kernel)]; exact ⟨rfl, rfl⟩))
    (fun os started H enc _ => lays_lifted os started H enc)
#print axioms lays_holds
end Go.Proofs.Ytpfibdloaddbdaa
