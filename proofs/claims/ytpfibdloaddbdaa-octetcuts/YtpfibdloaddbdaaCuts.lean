/-
  OctetCuts: for every two ints, string and cut the law returns true and leaves its arguments as they were. No condition.
-/
import Derived.Test.YtpfibdloaddbdaaEnc
import Derived.Test.YtpfibdloaddbdaaLaw
import Derived.Test.YtpfibdloaddbdaaOwn
namespace Go.Proofs.Ytpfibdloaddbdaa
open Go.ChangeShapes Go.WideShapes Go.ChangeAt Go.RowKit Go.Gar
open Go.ChangeMaps (open_string shut_string)

set_option maxHeartbeats 1000000 in
theorem cuts_walk (n m : Int) (s : ByteArray) (c k : Nat) (w : World) (hn1 : -9223372036854775808 ≤ n) (hn2 : n ≤ 9223372036854775807) (hm1 : -9223372036854775808 ≤ m) (hm2 : m ≤ 9223372036854775807) (hs : s.size ≤ 100) (hc : c < 256) (hkc : (c : Int) % (10 + (s.size : Int) + 8 + 1) = k) (hk : (k : Int) ≤ 10 + (s.size : Int) + 8) :
    Calls Try.prog 6 #[.int .i64 n, .int .i64 m, .string s, .int .u8 (c : Int)] w fun e w' => e = .returned (.bool true) ∧ Below w.heap.size w w' := by
  have HN := Lib.hid (s64_u64 n hn1 hn2)
  have HM := Lib.hid (s64_u64 m hm1 hm2)
  clear hn1 hn2 hm1 hm2
  go_enter Try.func6, Try.ntmps6
  go_wp2_with fail
  refine (int_at none [] (be (b64 n) 8) 0 0 _ _ _ rfl rfl rfl Rd.nil (by simp)).mono ?_
  rintro e w1 ⟨rfl, hB1, hb1⟩
  have HB1 := Lib.hid hB1
  have Hb1 := Lib.hid hb1
  clear hB1 hb1
  go_wp2_with fail
  refine (text_at _ (be (b64 n) 8) _ 8 8 _ _ _ rfl (by simp [be_len]) rfl (Rd.of_all HB1.out) (by simp [be_len]) (by omega)).mono ?_
  rintro e w2 ⟨rfl, hB2, hb2⟩
  have Hb2 := Lib.hid (Hb1.out.trans (hb2.mono Hb1.out.size))
  have HB2 := Lib.hid hB2
  clear hB2 hb2
  generalize w1.heap.size = g1 at *
  go_wp2_with fail
  refine (int_at _ (be (b64 n) 8 ++ be s.size 2 ++ s.data.toList) (be (b64 n) 8 ++ (be s.size 2 ++ (s.data.toList ++ be (b64 m) 8))) (10 + s.size) (10 + s.size) _ _ _ rfl (by rw [List.length_append, List.length_append, be_len, be_len, len_str]) (by simp) (Rd.of_all HB2.out) (by rw [List.length_append, List.length_append, be_len, be_len, len_str]; omega)).mono ?_
  rintro e w3 ⟨rfl, hB3, hb3⟩
  have Hb3 := Lib.hid (Hb2.out.trans (hb3.mono Hb2.out.size))
  have HB3 := Lib.hid hB3
  clear hB3 hb3 HB1 HB2
  generalize w2.heap.size = g2 at *
  go_wp2_with fail
  have hlD : (be (b64 n) 8 ++ (be s.size 2 ++ (s.data.toList ++ be (b64 m) 8))).length = 18 + s.size := by simp only [List.length_append, be_len, len_str]; omega
  generalize hl : (be (b64 n) 8 ++ (be s.size 2 ++ (s.data.toList ++ be (b64 m) 8))).take k = l
  have hlk : l.length = k := by rw [← hl, List.length_take, hlD]; omega
  have HL := Lib.hid hl
  have HK := Lib.hid hlk
  clear hl hlk hlD
  refine (new_at _ l k _ _ _ rfl HK.out.symm (by rw [← HL.out]; exact Rd.of_blk0 _ HB3.out HB3.out.lt k) (by have := HK.out; omega)).mono ?_
  rintro e w4 ⟨rfl, hr4, hb4⟩
  have Hb4 := Lib.hid (Hb3.out.trans (hb4.mono Hb3.out.size))
  have Hw := Lib.hid (show w.heap.size ≤ w3.heap.size + 1 from by have := Hb3.out.size; omega)
  have HR4 := Lib.hid hr4
  clear hr4 hb4
  generalize w3.heap.size + 1 = g at *
  generalize w3.heap.size = d at *
  have hcase : k < 8 ∨ (8 ≤ k ∧ k < 10 + s.size) ∨ (10 + s.size ≤ k ∧ k < 18 + s.size) ∨ k = 18 + s.size := by omega
  rcases hcase with hc1 | ⟨hc1, hc2⟩ | ⟨hc1, hc2⟩ | hc1
  · have hbe : ((k : Int) == 10 + (s.size : Int) + 8) = false := by rw [beq_eq_false_iff_ne]; omega
    go_wp2_with fail
    refine (rint_not g d 0 l false _ HR4.out (by omega) (by have := HK.out; omega) (.inr (by have := HK.out; omega))).mono ?_
    rintro e w5 ⟨rfl, hr5, hg5⟩
    have HR5 := Lib.hid hr5
    have Hb5 := bg Hb4 hg5 Hw
    clear hr5 hg5
    go_wp2_with fail
    refine (rtext_not g d 0 l true _ _ HR5.out (by omega) (by have := HK.out; omega) (.inl (.inl rfl))).mono ?_
    rintro e w6 ⟨rfl, ⟨a6, ha6, hr6⟩, hg6⟩
    have HR6 := Lib.hid hr6
    have Hb6 := bg Hb5 hg6 Hw
    clear hr6 hg6
    go_wp2_with fail
    refine (rint_not g d a6 l true _ HR6.out ha6 (by have := HK.out; omega) (.inl rfl)).mono ?_
    rintro e w7 ⟨rfl, hr7, hg7⟩
    have HR7 := Lib.hid hr7
    have Hb7 := bg Hb6 hg7 Hw
    clear hr7 hg7
    go_wp2_with fail
    refine (awake_any _).mono ?_
    rintro e w8 ⟨rfl, hb8⟩
    have HR8 := Lib.hid (HR7.out.below hb8 HR7.out.1.lt HR7.out.2.lt)
    have Hb8 := bb Hb7 hb8
    clear hb8
    go_wp2_with fail
    refine (end_bad g d _ l _ HR8.out).mono ?_
    rintro e w9 ⟨rfl, n9, rfl⟩
    have Hb9 := bd Hb8 n9
    go_wp2
    go_ret
    exact ⟨rfl, Hb9.out⟩
  · have hbe : ((k : Int) == 10 + (s.size : Int) + 8) = false := by rw [beq_eq_false_iff_ne]; omega
    go_wp2_with fail
    refine (rint_fit g d 0 l _ HR4.out (by have := HK.out; omega) (by have := HK.out; omega)).mono ?_
    rw [show s64 (val ((l.drop 0).take 8)) = n from by
      have h8 := seg [] (be (b64 n) 8) (be s.size 2 ++ (s.data.toList ++ be (b64 m) 8)) k 0 8 rfl (be_len _ _) (by omega)
      rw [List.nil_append] at h8
      rw [← HL.out, h8, val_be8, HN.out]]
    rintro e w5 ⟨rfl, hr5, hg5⟩
    have HR5 := Lib.hid hr5
    have Hb5 := bg Hb4 hg5 Hw
    clear hr5 hg5
    have hno : NoText l 8 false 100 := by
      have hk := HK.out
      by_cases h10 : k < 10
      · exact .inl (.inr (by omega))
      · refine .inr ⟨rfl, by omega, .inr ?_⟩
        rw [← HL.out, seg (be (b64 n) 8) (be s.size 2) _ k 8 2 (be_len _ _) (be_len _ _) (by omega), val_be2 _ (by omega), HL.out]
        omega
    have HNo := Lib.hid hno
    clear hno
    go_wp2_with fail
    refine (rtext_not g d 8 l false _ _ HR5.out (by have := HK.out; omega) (by have := HK.out; omega) HNo.out).mono ?_
    rintro e w6 ⟨rfl, ⟨a6, ha6, hr6⟩, hg6⟩
    have HR6 := Lib.hid hr6
    have Hb6 := bg Hb5 hg6 Hw
    clear hr6 hg6
    go_wp2_with fail
    refine (rint_not g d a6 l true _ HR6.out ha6 (by have := HK.out; omega) (.inl rfl)).mono ?_
    rintro e w7 ⟨rfl, hr7, hg7⟩
    have HR7 := Lib.hid hr7
    have Hb7 := bg Hb6 hg7 Hw
    clear hr7 hg7
    go_wp2_with fail
    refine (awake_any _).mono ?_
    rintro e w8 ⟨rfl, hb8⟩
    have HR8 := Lib.hid (HR7.out.below hb8 HR7.out.1.lt HR7.out.2.lt)
    have Hb8 := bb Hb7 hb8
    clear hb8
    go_wp2_with fail
    refine (end_bad g d _ l _ HR8.out).mono ?_
    rintro e w9 ⟨rfl, n9, rfl⟩
    have Hb9 := bd Hb8 n9
    go_wp2
    go_ret
    exact ⟨rfl, Hb9.out⟩
  · have hbe : ((k : Int) == 10 + (s.size : Int) + 8) = false := by rw [beq_eq_false_iff_ne]; omega
    go_wp2_with fail
    refine (rint_fit g d 0 l _ HR4.out (by have := HK.out; omega) (by have := HK.out; omega)).mono ?_
    rw [show s64 (val ((l.drop 0).take 8)) = n from by
      have h8 := seg [] (be (b64 n) 8) (be s.size 2 ++ (s.data.toList ++ be (b64 m) 8)) k 0 8 rfl (be_len _ _) (by omega)
      rw [List.nil_append] at h8
      rw [← HL.out, h8, val_be8, HN.out]]
    rintro e w5 ⟨rfl, hr5, hg5⟩
    have HR5 := Lib.hid hr5
    have Hb5 := bg Hb4 hg5 Hw
    clear hr5 hg5
    go_wp2_with fail
    refine (rtext_fit g d 8 l _ s.size s.data.toList _ HR5.out (by have := HK.out; omega) (by have := HK.out; omega)
      (by rw [← HL.out, seg (be (b64 n) 8) (be s.size 2) _ k 8 2 (be_len _ _) (be_len _ _) (by omega), val_be2 _ (by omega)])
      (by rw [← HL.out, ← List.append_assoc]; exact seg (be (b64 n) 8 ++ be s.size 2) s.data.toList _ k 10 s.size (by simp [be_len]) (len_str s) (by omega)) (by have := HK.out; omega) (by omega)).mono ?_
    rw [str_back]
    rintro e w6 ⟨rfl, hr6, hg6⟩
    have HR6 := Lib.hid hr6
    have Hb6 := bg Hb5 hg6 Hw
    clear hr6 hg6
    go_wp2_with fail
    refine (rint_not g d _ l false _ HR6.out (by have := HK.out; omega) (by have := HK.out; omega) (.inr (by have := HK.out; omega))).mono ?_
    rintro e w7 ⟨rfl, hr7, hg7⟩
    have HR7 := Lib.hid hr7
    have Hb7 := bg Hb6 hg7 Hw
    clear hr7 hg7
    go_wp2_with fail
    refine (awake_any _).mono ?_
    rintro e w8 ⟨rfl, hb8⟩
    have HR8 := Lib.hid (HR7.out.below hb8 HR7.out.1.lt HR7.out.2.lt)
    have Hb8 := bb Hb7 hb8
    clear hb8
    go_wp2_with fail
    refine (end_bad g d _ l _ HR8.out).mono ?_
    rintro e w9 ⟨rfl, n9, rfl⟩
    have Hb9 := bd Hb8 n9
    go_wp2
    go_ret
    exact ⟨rfl, Hb9.out⟩
  · have hbe : ((k : Int) == 10 + (s.size : Int) + 8) = true := by rw [beq_iff_eq]; omega
    have hk0 : 18 + s.size ≤ k := by omega
    have hk1 : k ≤ 18 + s.size := by omega
    clear hc1
    go_wp2_with fail
    refine (rint_fit g d 0 l _ HR4.out (by have := HK.out; omega) (by have := HK.out; omega)).mono ?_
    rw [show s64 (val ((l.drop 0).take 8)) = n from by
      have h8 := seg [] (be (b64 n) 8) (be s.size 2 ++ (s.data.toList ++ be (b64 m) 8)) k 0 8 rfl (be_len _ _) (by omega)
      rw [List.nil_append] at h8
      rw [← HL.out, h8, val_be8, HN.out]]
    rintro e w5 ⟨rfl, hr5, hg5⟩
    have HR5 := Lib.hid hr5
    have Hb5 := bg Hb4 hg5 Hw
    clear hr5 hg5
    go_wp2_with fail
    refine (rtext_fit g d 8 l _ s.size s.data.toList _ HR5.out (by have := HK.out; omega) (by have := HK.out; omega)
      (by rw [← HL.out, seg (be (b64 n) 8) (be s.size 2) _ k 8 2 (be_len _ _) (be_len _ _) (by omega), val_be2 _ (by omega)])
      (by rw [← HL.out, ← List.append_assoc]; exact seg (be (b64 n) 8 ++ be s.size 2) s.data.toList _ k 10 s.size (by simp [be_len]) (len_str s) (by omega)) (by have := HK.out; omega) (by omega)).mono ?_
    rw [str_back]
    rintro e w6 ⟨rfl, hr6, hg6⟩
    have HR6 := Lib.hid hr6
    have Hb6 := bg Hb5 hg6 Hw
    clear hr6 hg6
    go_wp2_with fail
    refine (rint_fit g d _ l _ HR6.out (by have := HK.out; omega) (by have := HK.out; omega)).mono ?_
    rw [show s64 (val ((l.drop (8 + 2 + s.size)).take 8)) = m from by
      rw [← HL.out, ← List.append_assoc, ← List.append_assoc]
      have := seg (be (b64 n) 8 ++ be s.size 2 ++ s.data.toList) (be (b64 m) 8) [] k (8 + 2 + s.size) 8 (by rw [List.length_append, List.length_append, be_len, be_len, len_str]) (be_len _ _) (by omega)
      rw [List.append_nil] at this
      rw [this, val_be8, HM.out]]
    rintro e w7 ⟨rfl, hr7, hg7⟩
    have HR7 := Lib.hid hr7
    have Hb7 := bg Hb6 hg7 Hw
    clear hr7 hg7
    go_wp2_with fail
    refine (awake_any _).mono ?_
    rintro e w8 ⟨rfl, hb8⟩
    have HR8 := Lib.hid (HR7.out.below hb8 HR7.out.1.lt HR7.out.2.lt)
    have Hb8 := bb Hb7 hb8
    clear hb8
    go_wp2_with fail
    refine (end_good g d _ l _ HR8.out).mono ?_
    rw [show decide (8 + 2 + s.size + 8 = l.length) = true from by have := HK.out; simp; omega]
    rintro e w9 ⟨rfl, n9, rfl⟩
    have Hb9 := bd Hb8 n9
    go_wp2
    go_ret
    exact ⟨rfl, Hb9.out⟩

set_option maxHeartbeats 400000 in
theorem cuts_long (n m : Int) (s : ByteArray) (c : Int) (w : World) (hs : 100 < s.size) :
    Calls Try.prog 6 #[.int .i64 n, .int .i64 m, .string s, .int .u8 c] w fun e w' => e = .returned (.bool true) ∧ Below w.heap.size w w' := by
  go_enter Try.func6, Try.ntmps6
  go_wp2_with fail
  refine (awake_any _).mono ?_
  rintro e w1 ⟨rfl, hb⟩
  have Hb := Lib.hid hb
  clear hb
  go_wp2
  go_ret
  exact ⟨rfl, Hb.out⟩

theorem cuts_all (n m : Int) (s : ByteArray) (c : Int) (w : World) (hn : (Lit.int .i64 n).wf = true) (hm : (Lit.int .i64 m).wf = true) (hc : (Lit.int .u8 c).wf = true) :
    Calls Try.prog 6 #[.int .i64 n, .int .i64 m, .string s, .int .u8 c] w fun e w' => e = .returned (.bool true) ∧ Below w.heap.size w w' := by
  by_cases hs : s.size ≤ 100
  · have h1 := bounds_i64 hn
    have h2 := bounds_i64 hm
    have h3 := bounds_u8 hc
    obtain ⟨c, rfl⟩ := Int.eq_ofNat_of_zero_le h3.1
    have h4 : 0 ≤ (c : Int) % (10 + (s.size : Int) + 8 + 1) := Int.emod_nonneg _ (by omega)
    have h5 : (c : Int) % (10 + (s.size : Int) + 8 + 1) < 10 + (s.size : Int) + 8 + 1 := Int.emod_lt_of_pos _ (by omega)
    exact cuts_walk n m s c ((c : Int) % (10 + (s.size : Int) + 8 + 1)).toNat w h1.1 h1.2 h2.1 h2.2 hs (by omega) (by omega) (by omega)
  · exact cuts_long n m s c w (by omega)

set_option maxRecDepth 100000 in
theorem cuts_lifted (os : Os) (started : os.Started) (H : Type) (enc : TypeId × Value → H) :
    ReturnsInHanded {} Try.checked os 6 .any (Rows.octetCutsSpec.pre6 enc Try.prog Try.f6 Rows.octetCutsRow.domain false) (Rows.octetCutsSpec.post enc Try.prog Try.f6 false true false false) := by
  refine returnsInHanded_of_change (C := Try.checked) own started (by kernel_rfl) Try.func6
    (ChangeSpec.witness6 (enc := enc) (C := Try.checked) false ⟨#[], #[.int .i64 0, .int .i64 0, .string ByteArray.empty, .int .u8 0], []⟩ 8 (by kernel_rfl) (by kernel_rfl) (by kernel_rfl) (by kernel_rfl)) ?_
  intro W base args ds gs before hval0 hW hcnd _
  have hval : ∀ (j : Nat) t v, Try.f6.params[j]? = some t → args[j]? = some v → Value.okWide Try.prog W .any base t v := hval0
  have hW' := hW
  obtain ⟨p, q, hA0, hV, rfl, hfz, hnd⟩ := hW
  have hA : DataW.TrodAll enc Try.prog W 0 (fun _ => true) true Try.f6.params.toList args.toList ds p := hA0
  rw [Try.params6] at hA hval
  obtain ⟨v0, vs0, d0, ds0, p0, q0, hargs, rfl, rfl, h0, r0⟩ := trodAll_cons hA
  obtain ⟨v1, vs1, d1, ds1, p1, q1, rfl, rfl, rfl, h1, r1⟩ := trodAll_cons r0
  obtain ⟨v2, vs2, d2, ds2, p2, q2, rfl, rfl, rfl, h2, r2⟩ := trodAll_cons r1
  obtain ⟨v3, vs3, d3, ds3, p3, q3, rfl, rfl, rfl, h3, r3⟩ := trodAll_cons r2
  obtain ⟨rfl, rfl, rfl⟩ := trodAll_nil r3
  obtain rfl : args = #[v0, v1, v2, v3] := by cases args; simp_all
  obtain ⟨rfl, rfl⟩ := trodVars_none hV
  obtain ⟨a0, rfl, rfl, rfl, w0⟩ := open_int Try.underlying3 (hval 0 3 v0 rfl rfl) h0
  obtain ⟨a1, rfl, rfl, rfl, w1⟩ := open_int Try.underlying3 (hval 1 3 v1 rfl rfl) h1
  obtain ⟨a2, rfl, rfl, rfl, w2⟩ := open_string Try.underlying9 (hval 2 9 v2 rfl rfl) h2
  obtain ⟨a3, rfl, rfl, rfl, w3⟩ := open_int Try.underlying5 (hval 3 5 v3 rfl rfl) h3
  refine (cuts_all a0 a1 a2 a3 W w0 w1 w3).mono fun e W' ⟨he, hb⟩ => ?_
  subst he
  exact ⟨_, rfl, law_post laid (by kernel_rfl) rfl (by kernel_rfl) Try.underlying4 hW' rfl hb⟩

theorem cuts_holds : Rows.OctetCutsSaid :=
  OpenClaim.holds_of_wide 6 Try.f6 rfl rfl rfl rfl rfl rfl rfl ⟨rfl, rfl, rfl, rfl, rfl⟩ rfl rfl rfl rfl rfl (by kernel_rfl) Try.func6 (by kernel_rfl)
    (of_decide_eq_true (by kernel_rfl)) (by unfold Func.isWrapper; first | (rw [if_pos (by decide +kernel)]; kernel_rfl) | (rw [if_neg (by decide +kernel)]; exact ⟨rfl, rfl⟩))
    (fun os started H enc _ => cuts_lifted os started H enc)
#print axioms cuts_holds
end Go.Proofs.Ytpfibdloaddbdaa
