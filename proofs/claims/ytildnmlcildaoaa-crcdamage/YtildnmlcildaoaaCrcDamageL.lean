/-
  CrcDamage: for every bytes, place and bits the law returns true and leaves its arguments as they were. No condition.
-/
import Derived.Test.YtildnmlcildaoaaCrcLaw
import Derived.Test.YtildnmlcildaoaaLaw
import Derived.Test.YtildnmlcildaoaaOwn
namespace Go.Proofs.Ytildnmlcildaoaa
open Go.ChangeShapes Go.WideShapes Go.ChangeAt Go.RowKit Go.Gar Go.Gar.Crc

set_option maxHeartbeats 1000000 in
theorem crcdamage_none (A : Option Addr) (cap : Nat) (at_ bits_ : Int) (w : World) :
    Calls Try.prog 5 #[.slice A 0 cap, .int .u16 at_, .int .u32 bits_] w fun e w' => e = .returned (.bool true) ∧ Below w.heap.size w w' := by
  have hOw := own_made w w.heap.size 5 (Nat.le_refl _)
  have hbO := below_alloc w (.cells #[] 5)
  obtain ⟨v1, w1, e1, o1, n1, _⟩ := app_rd (P := Try.prog) 23 23 Try.und22 Try.info5 hOw hbO.size cap (Rd.nil (w := w.alloc (.cells #[] 5)) (B := 0) (A := A)) (by simp)
  obtain ⟨A4, k4, rfl, _⟩ := o1.rd
  have HB1 := Lib.hid (hbO.trans n1)
  simp only [List.length_nil, List.append_nil] at e1
  clear hOw hbO o1 n1
  go_enter Try.func5, Try.ntmps5
  go_wp2_with fail
  refine (short2_any A 0 cap 0 _ rfl (by omega)).mono ?_
  rintro e w' ⟨rfl, rfl⟩
  go_wp2_with (at_builtin; refine wpList_append_run rfl (.tmp 12) (.tmp 14) _ rfl rfl rfl e1 ?_)
  refine (awake2_any w1).mono ?_
  rintro e w2 ⟨rfl, hb2⟩
  have HB2 := bb HB1 hb2
  clear hb2
  go_wp2
  go_ret
  exact ⟨rfl, HB2.out⟩

set_option maxHeartbeats 2000000 in
theorem crcdamage_walk (A : Option Addr) (l x : List UInt8) (cap n from_ at_ : Nat) (B : BitVec 32) (w : World) (hc : l.length ≤ cap) (hx : x.length = n) (hn : n = min l.length 200) (hn0 : 0 < n) (r : Rd w w.heap.size A x)
    (hat : at_ < 65536) (hfr : (at_ : Int) % (8 * (n : Int)) = (from_ : Int)) (hf8 : from_ < 8 * n) :
    Calls Try.prog 5 #[.slice A l.length cap, .int .u16 (at_ : Int), .int .u32 (B.toNat : Int)] w fun e w' => e = .returned (.bool true) ∧ Below w.heap.size w w' := by
  have b1 : n ≤ 200 := by omega
  have hBl := B.isLt
  have hOw := own_made w w.heap.size 5 (Nat.le_refl _)
  have hbO := below_alloc w (.cells #[] 5)
  obtain ⟨v1, w1, e1, o1, n1, _⟩ := app_rd (P := Try.prog) 23 23 Try.und22 Try.info5 hOw hbO.size cap (r.below hbO) (by simp; omega)
  simp only [List.nil_append] at o1
  obtain ⟨g, k4, rest, rfl, hg, hk4, hB1⟩ := o1.blk (by omega)
  rw [hx] at e1 hk4
  have hz : ((n : Int) == 0) = false := by rw [beq_eq_false_iff_ne]; omega
  have HX := Lib.hid hx
  have HN := Lib.hid hn
  have HG := Lib.hid hg
  have HB1 := Lib.hid (hbO.trans n1)
  have HK1 := Lib.hid hB1
  clear hOw hbO o1 n1 hx hn hg hB1 r
  go_enter Try.func5, Try.ntmps5
  go_wp2_with fail
  refine (short2_any A l.length cap n _ HN.out hc).mono ?_
  rintro e w' ⟨rfl, rfl⟩
  go_wp2_with (at_builtin; refine wpList_append_run rfl (.tmp 12) (.tmp 14) _ rfl rfl rfl e1 ?_)
  refine (of1 _ x n k4 _ w1 rfl HX.out.symm ?_ (by rw [HX.out]; omega)).mono ?_
  · have := Rd.of_row HK1.out
    exact this
  rintro e w2 ⟨rfl, rfl⟩
  have HB2 := Lib.hid (HB1.out.alloc HB1.out.size (.cells #[.slice (some ⟨g, 0, none⟩) n k4] 23))
  have HK2 := Lib.hid (HK1.out.alloc (.cells #[.slice (some ⟨g, 0, none⟩) n k4] 23))
  generalize w1.alloc (.cells #[.slice (some ⟨g, 0, none⟩) n k4] 23) = w2 at *
  clear e1
  go_wp2
  go_loopw [10, 11] (fun t i W => ∃ (k : Nat) (y : List UInt8) (tb : Bool), k ≤ 32 ∧ from_ + k ≤ 8 * n ∧ i = .int .i64 k ∧ t = .bool tb ∧ (tb = true ↔ ∃ j, j < k ∧ gb B j = true) ∧ y.length = n ∧ run (~~~ 0#32) y = run (~~~ 0#32) x ^^^ steps (8 * n - from_) (low B k) ∧ Blk W g 5 (u8s y ++ rest) ∧ Below w.heap.size w W) (fun _ i _ => 32 - (intOf i).toNat)
  case atStart => exact ⟨0, x, false, by omega, by omega, rfl, rfl, by simp, HX.out, by rw [low, steps_of_zero, BitVec.xor_zero], HK2.out, HB2.out⟩
  case round =>
    obtain ⟨k, y, tb, hk, hfk, rfl, rfl, htb, hy, hrun, hK, hB⟩ := hrel
    have HTB := Lib.hid htb
    have HY := Lib.hid hy
    have HRUN := Lib.hid hrun
    have HK := Lib.hid hK
    have HB := Lib.hid hB
    clear htb hy hrun hK hB
    by_cases hlt : k < 32 ∧ from_ + k < 8 * n
    · obtain ⟨hlt1, hlt2⟩ := hlt
      have hd1 : decide ((k : Int) < 32) = true := by simp; omega
      have hd2 : decide ((from_ : Int) + (k : Int) < 8 * (n : Int)) = true := by simp; omega
      obtain ⟨bt, hbt⟩ : ∃ bt, gb B k = bt := ⟨_, rfl⟩
      have hbit : (bits .and .u32 ((B.toNat : Int) / 2 ^ k) 1 == 1) = bt := by rw [bit32, toNat_eq1, ← hbt]; rfl
      have HBT := Lib.hid hbt
      clear hbt
      cases bt with
      | true =>
        have hq : (from_ + k) / 8 < y.length := by rw [HY.out]; omega
        have hcell : wr.cell? ⟨g, (from_ + k) / 8, none⟩ = some (.int .u8 ((y[(from_ + k) / 8]).toNat : Int)) := by
          rw [HK.out.cell, List.getElem?_append_left (by rw [u8s_len]; exact hq), u8s_get, List.getElem?_eq_getElem hq]; rfl
        have hfz := HK.out.frozen ((from_ + k) / 8)
        obtain ⟨c, hcc⟩ : ∃ c, y[(from_ + k) / 8] = c := ⟨_, rfl⟩
        rw [hcc] at hcell
        have hc8 := c.toNat_lt
        have HCC := Lib.hid hcc
        have HQ := Lib.hid hq
        clear hcc
        go_wp2
        have hj8 : (from_ + k) % 8 < 8 := Nat.mod_lt _ (by omega)
        have hset := HK.out.set_ ((from_ + k) / 8) (.int .u8 (bits .xor .u8 (c.toNat : Int) (2 ^ ((from_ + k) % 8) % 256)))
        rw [flip8 c _ hj8, List.set_append_left _ _ (by rw [u8s_len]; exact HQ.out), u8s_set, ← flip8 c _ hj8] at hset
        refine ⟨⟨k + 1, _, true, by omega, by omega, by go_num, rfl, ?_, ?_, ?_, hset, HB.out.setCell HG.out _⟩, by simp [intOf]; omega⟩
        · exact ⟨fun _ => ⟨k, by omega, HBT.out⟩, fun _ => rfl⟩
        · rw [List.length_set, HY.out]
        · have h1 := run_flip (~~~ 0#32) y ((from_ + k) / 8) ((from_ + k) % 8) HQ.out hj8
          rw [HCC.out] at h1
          rw [h1, HRUN.out, HY.out, show 8 * n - (8 * ((from_ + k) / 8) + (from_ + k) % 8) = (8 * n - from_) - k from by omega, steps_sub _ k hlt1 (by omega), BitVec.xor_assoc, ← steps_xor, low, if_pos (show B.getLsbD k = true from HBT.out)]
      | false =>
        go_wp2
        refine ⟨⟨k + 1, y, tb, by omega, by omega, by go_num, rfl, ?_, HY.out, ?_, HK.out, HB.out⟩, by simp [intOf]; omega⟩
        · rw [HTB.out]
          constructor
          · rintro ⟨j, hj, h⟩; exact ⟨j, by omega, h⟩
          · rintro ⟨j, hj, h⟩
            refine ⟨j, ?_, h⟩
            by_cases hjk : j = k
            · rw [hjk, HBT.out] at h; cases h
            · omega
        · rw [HRUN.out, low, if_neg (by rw [show B.getLsbD k = false from HBT.out]; simp), BitVec.xor_zero]
    · have hmt : more 0#32 y ≠ more 0#32 x ↔ tb = true := by
        rw [HTB.out]
        exact more_turned 0#32 x y _ B k hk HRUN.out
      have hne : (((more 0#32 y).toNat : Int) != ((more 0#32 x).toNat : Int)) = tb := by
        cases tb with
        | true =>
          rw [bne_iff_ne]
          intro h
          exact hmt.2 rfl (BitVec.eq_of_toNat_eq (by omega))
        | false =>
          have : more 0#32 y = more 0#32 x := Classical.byContradiction fun h => by have := hmt.1 h; cases this
          rw [this]; simp
      have hd0 : (decide ((k : Int) < 32) && decide ((from_ : Int) + (k : Int) < 8 * (n : Int))) = false := by simp; omega
      have HNE := Lib.hid hne
      have HD := Lib.hid hd0
      clear hmt hne hd0
      by_cases hk32 : k < 32
      · have hd1 : decide ((k : Int) < 32) = true := by simp; omega
        have hd2 : decide ((from_ : Int) + (k : Int) < 8 * (n : Int)) = false := by simp; omega
        clear hlt
        go_wp2_with fail
        refine (awake2_any wr).mono ?_
        rintro e w3 ⟨rfl, hb3⟩
        have HB3 := bb HB hb3
        have HK3 := Lib.hid (HK.out.below hb3 HK.out.lt)
        clear hb3
        go_wp2_with fail
        refine (of1 _ y n k4 _ w3 rfl HY.out.symm (Rd.of_row HK3.out) (by rw [HY.out]; omega)).mono ?_
        rintro e w4 ⟨rfl, rfl⟩
        have HB4 := Lib.hid (HB3.out.alloc HB3.out.size (.cells #[.slice (some ⟨g, 0, none⟩) n k4] 23))
        generalize w3.alloc (.cells #[.slice (some ⟨g, 0, none⟩) n k4] 23) = w4 at *
        have hne := HNE.out
        generalize ((more 0#32 y).toNat : Int) = a1 at *
        generalize ((more 0#32 x).toNat : Int) = a2 at *
        go_wp2
        go_ret
        exact ⟨by simp, HB4.out⟩
      · have hd1 : decide ((k : Int) < 32) = false := by simp; omega
        clear hlt
        go_wp2_with fail
        refine (awake2_any wr).mono ?_
        rintro e w3 ⟨rfl, hb3⟩
        have HB3 := bb HB hb3
        have HK3 := Lib.hid (HK.out.below hb3 HK.out.lt)
        clear hb3
        go_wp2_with fail
        refine (of1 _ y n k4 _ w3 rfl HY.out.symm (Rd.of_row HK3.out) (by rw [HY.out]; omega)).mono ?_
        rintro e w4 ⟨rfl, rfl⟩
        have HB4 := Lib.hid (HB3.out.alloc HB3.out.size (.cells #[.slice (some ⟨g, 0, none⟩) n k4] 23))
        generalize w3.alloc (.cells #[.slice (some ⟨g, 0, none⟩) n k4] 23) = w4 at *
        have hne := HNE.out
        generalize ((more 0#32 y).toNat : Int) = a1 at *
        generalize ((more 0#32 x).toNat : Int) = a2 at *
        go_wp2
        go_ret
        exact ⟨by simp, HB4.out⟩

theorem crcdamage_all (A : Option Addr) (l : List UInt8) (cap : Nat) (at_ : Int) (B : BitVec 32) (w : World) (hc : l.length ≤ cap) (r : Rd w w.heap.size A l) (hat : (Lit.int .u16 at_).wf = true) :
    Calls Try.prog 5 #[.slice A l.length cap, .int .u16 at_, .int .u32 (B.toNat : Int)] w fun e w' => e = .returned (.bool true) ∧ Below w.heap.size w w' := by
  have hb := bounds_u16 hat
  obtain ⟨a, rfl⟩ := Int.eq_ofNat_of_zero_le hb.1
  by_cases h0 : l.length = 0
  · rw [h0]
    exact crcdamage_none A cap _ _ w
  · have hn : (l.take 200).length = min l.length 200 := by rw [List.length_take]; omega
    have h1 : 0 ≤ (a : Int) % (8 * ((min l.length 200 : Nat) : Int)) := Int.emod_nonneg _ (by omega)
    have h2 : (a : Int) % (8 * ((min l.length 200 : Nat) : Int)) < 8 * ((min l.length 200 : Nat) : Int) := Int.emod_lt_of_pos _ (by omega)
    exact crcdamage_walk A l (l.take 200) cap (min l.length 200) ((a : Int) % (8 * ((min l.length 200 : Nat) : Int))).toNat a B w hc hn rfl (by omega) (r.take 200) (by omega) (by omega) (by omega)

set_option maxRecDepth 100000 in
theorem crcdamage_lifted (os : Os) (started : os.Started) (H : Type) (enc : TypeId × Value → H) :
    ReturnsInHanded {} Try.checked os 5 .any (Rows.crcDamageSpec.pre6 enc Try.prog Try.f5 Rows.crcDamageRow.domain false) (Rows.crcDamageSpec.post enc Try.prog Try.f5 false true false false) := by
  refine returnsInHanded_of_change (C := Try.checked) own started (by kernel_rfl) Try.func5
    (ChangeSpec.witness6 (enc := enc) (C := Try.checked) false ⟨#[], #[.slice none 0 0, .int .u16 0, .int .u32 0], []⟩ 8 (by kernel_rfl) (by kernel_rfl) (by kernel_rfl) (by kernel_rfl)) ?_
  intro W base args ds gs before hval0 hW hcnd _
  have hval : ∀ (j : Nat) t v, Try.f5.params[j]? = some t → args[j]? = some v → Value.okWide Try.prog W .any base t v := hval0
  have hW' := hW
  obtain ⟨p, q, hA0, hV, rfl, hfz, hnd⟩ := hW
  have hA : DataW.TrodAll enc Try.prog W 0 (fun _ => true) true Try.f5.params.toList args.toList ds p := hA0
  rw [Try.params5] at hA hval
  obtain ⟨v0, vs0, d0, ds0, p0, q0, hargs, rfl, rfl, h0, r0⟩ := trodAll_cons hA
  obtain ⟨v1, vs1, d1, ds1, p1, q1, rfl, rfl, rfl, h1, r1⟩ := trodAll_cons r0
  obtain ⟨v2, vs2, d2, ds2, p2, q2, rfl, rfl, rfl, h2, r2⟩ := trodAll_cons r1
  obtain ⟨rfl, rfl, rfl⟩ := trodAll_nil r2
  obtain rfl : args = #[v0, v1, v2] := by cases args; simp_all
  obtain ⟨rfl, rfl⟩ := trodVars_none hV
  obtain ⟨A, l, cap, rfl, hc, hr⟩ := open_bytes Try.und22 Try.und5 (by kernel_rfl) (hval 0 23 v0 rfl rfl) h0
  obtain ⟨a1, rfl, rfl, rfl, w1⟩ := open_int Try.underlying30 (hval 1 30 v1 rfl rfl) h1
  obtain ⟨s, rfl⟩ := open_u32 (hval 2 22 v2 rfl rfl) h2
  refine (crcdamage_all A l cap a1 s W hc hr w1).mono fun e W' ⟨he, hb⟩ => ?_
  subst he
  exact ⟨_, rfl, law_post laid (by kernel_rfl) rfl (by kernel_rfl) Try.underlying4 hW' rfl hb⟩

theorem crcdamage_holds : Rows.CrcDamageSaid :=
  OpenClaim.holds_of_wide 5 Try.f5 rfl rfl rfl rfl rfl rfl rfl ⟨rfl, rfl, rfl, rfl, rfl⟩ rfl rfl rfl rfl rfl (by kernel_rfl) Try.func5 (by kernel_rfl)
    (of_decide_eq_true (by kernel_rfl)) (by unfold Func.isWrapper; first | (rw [if_pos (by decide +kernel)]; kernel_rfl) | (rw [if_neg (by decide +kernel)]; exact ⟨rfl, rfl⟩))
    (fun os started H enc _ => crcdamage_lifted os started H enc)
#print axioms crcdamage_holds
end Go.Proofs.Ytildnmlcildaoaa
