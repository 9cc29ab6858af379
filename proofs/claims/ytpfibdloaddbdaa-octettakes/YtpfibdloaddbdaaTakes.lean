/-
  OctetTakes: for every slice of bytes and every list of wishes the law returns true and leaves its arguments as they were. No condition.
-/
import Derived.Test.YtpfibdloaddbdaaRefB
import Derived.Test.YtpfibdloaddbdaaLaw
import Derived.Test.YtpfibdloaddbdaaOwn
import Derived.Deep.Slices
import Derived.ChangeSame
namespace Go.Proofs.Ytpfibdloaddbdaa
open Go.ChangeShapes Go.WideShapes Go.ChangeAt Go.RowKit Go.Gar

/-- A slice of wishes reads as the list ws. -/
def Wants (w : World) (B : Nat) (A : Option Addr) (ws : List (Bool × Int)) : Prop :=
  ws = [] ∨ ∃ b o, A = some ⟨b, o, none⟩ ∧ b < B ∧ ∀ i p, ws[i]? = some p → w.cell? ⟨b, o + i * 2, none⟩ = some (.bool p.1) ∧ w.cell? ⟨b, o + i * 2 + 1, none⟩ = some (.int .i64 p.2)

theorem refNum_okm (A : Option Addr) (l : List UInt8) (m cap at_ : Nat) (w : World) (hm : m = l.length) (hr : Rd w w.heap.size A l) (hl : m ≤ 1000000000) (h : at_ + 8 ≤ m) :
    Calls Try.prog 15 #[.slice A m cap, .int .i64 (at_ : Int)] w fun e w' => e = .returned (.tuple #[.int .i64 (s64 (val ((l.drop at_).take 8))), .int .i64 ((at_ : Int) + 8)]) ∧ w = w' := by
  subst hm
  exact refNum_ok A l cap at_ w hr hl h
theorem refWord_failm (A : Option Addr) (l : List UInt8) (m cap a : Nat) (bad : Bool) (most : Int) (w : World) (hm : m = l.length) (hr : Rd w w.heap.size A l) (hl : m ≤ 1000000000) (hat : a ≤ m) (h : NoText l a bad most) :
    Calls Try.prog 17 #[.slice A m cap, .int .i64 (atv bad a), .int .i64 most] w fun e w' => e = .returned (.tuple #[.string ByteArray.empty, .int .i64 (-1)]) ∧ ∃ n, w' = w.drewN n := by
  subst hm
  exact refWord_fail A l cap a bad most w hr hl hat h
theorem refWord_okm (A : Option Addr) (l x : List UInt8) (m cap at_ v : Nat) (most : Int) (w : World) (hm : m = l.length) (hr : Rd w w.heap.size A l) (hl : m ≤ 1000000000) (hcap : m ≤ cap) (h : at_ + 2 + v ≤ m) (hv : val ((l.drop at_).take 2) = v)
    (hx : (l.drop (at_ + 2)).take v = x) (hmo : (v : Int) ≤ most) :
    Calls Try.prog 17 #[.slice A m cap, .int .i64 (at_ : Int), .int .i64 most] w fun e w' => e = .returned (.tuple #[.string ⟨x.toArray⟩, .int .i64 ((at_ : Int) + 2 + (v : Int))]) ∧ ∃ n, w' = w.drewN n := by
  subst hm
  exact refWord_ok A l x cap at_ v most w hr hl hcap h hv hx hmo

set_option maxHeartbeats 2000000 in
theorem takes_walk (A : Option Addr) (l lb : List UInt8) (cap m : Nat) (A2 : Option Addr) (ws : List (Bool × Int)) (cap2 : Nat) (w : World) (hc : l.length ≤ cap) (hlb : lb.length = m) (hm : m = min l.length 300) (hr : Rd w w.heap.size A lb)
    (hws : Wants w w.heap.size A2 ws) :
    Calls Try.prog 4 #[.slice A l.length cap, .slice A2 ws.length cap2] w fun e w' => e = .returned (.bool true) ∧ Below w.heap.size w w' := by
  have HM := Lib.hid hm
  have hm3 : m ≤ 300 := by omega
  have hmc : m ≤ cap := by omega
  have HLB := Lib.hid hlb
  clear hm hlb
  go_enter Try.func4, Try.ntmps4
  go_wp2_with fail
  refine (short_any A l.length cap m w HM.out hc).mono ?_
  rintro e w' ⟨rfl, rfl⟩
  go_wp2_with fail
  refine (new_at A lb m cap _ _ rfl HLB.out.symm hr (by have := HLB.out; omega)).mono ?_
  rintro e w1 ⟨rfl, hr1, hb1⟩
  have Hb1 := Lib.hid hb1
  have HR1 := Lib.hid hr1
  have Hw := Lib.hid (show w'.heap.size ≤ w'.heap.size + 1 from by omega)
  have HRD := Lib.hid hr
  have HWS := Lib.hid hws
  clear hb1 hr1 hr hws
  have Hgen : ∃ g d, g = w'.heap.size + 1 ∧ d = w'.heap.size := ⟨_, _, rfl, rfl⟩
  obtain ⟨g, d, hg, hd⟩ := Hgen
  rw [← hg, ← hd] at HR1
  rw [← hg] at Hw ⊢
  clear hg hd
  go_wp2
  go_loopw [7, 8] (fun t i W => ∃ (k a : Nat) (bad : Bool), k ≤ ws.length ∧ k ≤ 40 ∧ i = .int .i64 k ∧ t = .int .i64 (atv bad a) ∧ a ≤ m ∧ Rdr W g d lb a bad ∧ Below w'.heap.size w' W) (fun _ i _ => 40 - (intOf i).toNat)
  case atStart => exact ⟨0, 0, false, by omega, by omega, rfl, rfl, by omega, HR1.out, Hb1.out⟩
  case round =>
    obtain ⟨k, a, bad, hk1, hk2, rfl, rfl, ha, hR, hB⟩ := hrel
    have HR := Lib.hid hR
    have HB := Lib.hid hB
    clear hR hB
    by_cases hlt : k < ws.length ∧ k < 40
    · obtain ⟨hlt1, hlt2⟩ := hlt
      have hd1 : decide ((k : Int) < (ws.length : Int)) = true := by simp; omega
      have hd2 : decide ((k : Int) < 40) = true := by simp; omega
      rcases HWS.out with hnil | ⟨b, o, rfl, hbB, hcell⟩
      · rw [hnil] at hlt1; simp at hlt1
      obtain ⟨q, most, hq⟩ : ∃ q most, ws[k]? = some (q, most) := ⟨_, _, List.getElem?_eq_getElem hlt1⟩
      have hcells : ∀ W : World, Below w'.heap.size w' W → W.cell? ⟨b, o + k * 2, none⟩ = some (.bool q) ∧ W.cell? ⟨b, o + k * 2 + 1, none⟩ = some (.int .i64 most) := fun W hW => by
        have := hcell k _ hq
        exact ⟨(hW.cell (p := ⟨b, _, none⟩) hbB).trans this.1, (hW.cell (p := ⟨b, _, none⟩) hbB).trans this.2⟩
      have HC := Lib.hid hcells
      clear hcells hcell hq
      obtain ⟨hcA, hcB⟩ := HC.out wr HB.out
      have hneg : ((-1 : Int) == (m : Int)) = false := by rw [beq_eq_false_iff_ne]; omega
      cases q with
      | true =>
        by_cases hf : bad = true ∨ m < a + 8
        · have HF := Lib.hid hf
          clear hf
          go_wp2_with fail
          refine (refNum_fail A m cap a bad wr (by omega) ha HF.out).mono ?_
          rintro e w2 ⟨rfl, rfl⟩
          go_wp2_with fail
          refine (rint_not g d a lb bad wr HR.out (by rw [HLB.out]; omega) (by rw [HLB.out]; omega) (by rw [HLB.out]; exact HF.out)).mono ?_
          rintro e w3 ⟨rfl, hr3, hg3⟩
          have HR3 := Lib.hid hr3
          have HB3 := bg HB hg3 Hw
          clear hr3 hg3
          go_wp2_with fail
          refine (left_bad g d _ lb _ HR3.out).mono ?_
          rintro e w4 ⟨rfl, n4, rfl⟩
          have HR4 := Lib.hid (HR3.out.drewN n4)
          have HB4 := bd HB3 n4
          go_wp2_with fail
          refine (end_bad g d _ lb _ HR4.out).mono ?_
          rintro e w5 ⟨rfl, n5, rfl⟩
          have HR5 := Lib.hid (HR3.out.drewN (n4 + n5))
          have HB5 := bd HB3 (n4 + n5)
          go_wp2
          exact ⟨⟨k + 1, a, true, by omega, by omega, by go_num, rfl, ha, HR5.out, HB5.out⟩, by simp [intOf]; omega⟩
        · have hbad : bad = false := by cases bad <;> simp_all
          subst hbad
          have hfit : a + 8 ≤ m := by simp at hf; omega
          clear hf
          have hE : ((a : Int) + 8 == (m : Int)) = decide (a + 8 = m) := beq_cast (a + 8) m
          rw [show atv false a = (a : Int) from rfl]
          go_wp2_with fail
          refine (refNum_okm A lb m cap a wr HLB.out.symm ((HRD.out.below HB.out).more HB.out.size) (by omega) hfit).mono ?_
          rintro e w2 ⟨rfl, rfl⟩
          go_wp2_with fail
          refine (rint_fit g d a lb wr HR.out (by rw [HLB.out]; omega) (by rw [HLB.out]; omega)).mono ?_
          rintro e w3 ⟨rfl, hr3, hg3⟩
          have HR3 := Lib.hid hr3
          have HB3 := bg HB hg3 Hw
          clear hr3 hg3
          go_wp2_with fail
          refine (left_good g d _ lb _ HR3.out (by rw [HLB.out]; omega) (by rw [HLB.out]; omega)).mono ?_
          rw [HLB.out]
          rintro e w4 ⟨rfl, n4, rfl⟩
          have HR4 := Lib.hid (HR3.out.drewN n4)
          have HB4 := bd HB3 n4
          go_wp2_with fail
          refine (end_good g d _ lb _ HR4.out).mono ?_
          rw [HLB.out]
          rintro e w5 ⟨rfl, n5, rfl⟩
          have HR5 := Lib.hid (HR3.out.drewN (n4 + n5))
          have HB5 := bd HB3 (n4 + n5)
          go_wp2
          exact ⟨⟨k + 1, a + 8, false, by omega, by omega, by go_num, by unfold atv; go_num, by omega, HR5.out, HB5.out⟩, by simp [intOf]; omega⟩
      | false =>
        by_cases hf : NoText lb a bad most
        · have HF := Lib.hid hf
          clear hf
          go_wp2_with fail
          refine (refWord_failm A lb m cap a bad most wr HLB.out.symm ((HRD.out.below HB.out).more HB.out.size) (by omega) ha HF.out).mono ?_
          rintro e w2 ⟨rfl, n2, rfl⟩
          have HR2 := Lib.hid (HR.out.drewN n2)
          have HB2 := bd HB n2
          go_wp2_with fail
          refine (rtext_not g d a lb bad most _ HR2.out (by rw [HLB.out]; omega) (by rw [HLB.out]; omega) HF.out).mono ?_
          rintro e w3 ⟨rfl, ⟨a3, ha3, hr3⟩, hg3⟩
          have HR3 := Lib.hid hr3
          have HB3 := bg HB2 hg3 Hw
          have HA3 := Lib.hid (show a3 ≤ m from by have := HLB.out; omega)
          clear hr3 hg3 ha3
          go_wp2_with fail
          refine (left_bad g d _ lb _ HR3.out).mono ?_
          rintro e w4 ⟨rfl, n4, rfl⟩
          have HR4 := Lib.hid (HR3.out.drewN n4)
          have HB4 := bd HB3 n4
          go_wp2_with fail
          refine (end_bad g d _ lb _ HR4.out).mono ?_
          rintro e w5 ⟨rfl, n5, rfl⟩
          have HR5 := Lib.hid (HR3.out.drewN (n4 + n5))
          have HB5 := bd HB3 (n4 + n5)
          go_wp2
          exact ⟨⟨k + 1, a3, true, by omega, by omega, by go_num, rfl, HA3.out, HR5.out, HB5.out⟩, by simp [intOf]; omega⟩
        · have hbad : bad = false ∧ a + 2 ≤ m := by
            have := HLB.out
            cases bad
            · refine ⟨rfl, Nat.le_of_not_lt fun hh => hf (.inl (.inr (by omega)))⟩
            · exact absurd (.inl (.inl rfl)) hf
          obtain ⟨rfl, h2⟩ := hbad
          obtain ⟨v, hv⟩ : ∃ v, val ((lb.drop a).take 2) = v := ⟨_, rfl⟩
          have hfit : a + 2 + v ≤ m ∧ (v : Int) ≤ most := by
            have := HLB.out
            refine ⟨Nat.le_of_not_lt fun hh => hf (.inr ⟨rfl, by omega, .inr (by omega)⟩), Int.not_lt.1 fun hh => hf (.inr ⟨rfl, by omega, .inl (by rw [hv]; exact hh)⟩)⟩
          obtain ⟨hfit, hmost⟩ := hfit
          have HV := Lib.hid hv
          clear hf hv
          have hE : ((a : Int) + 2 + (v : Int) == (m : Int)) = decide (a + 2 + v = m) := beq_cast (a + 2 + v) m
          rw [show atv false a = (a : Int) from rfl]
          obtain ⟨x, hx⟩ : ∃ x, (lb.drop (a + 2)).take v = x := ⟨_, rfl⟩
          have HX := Lib.hid hx
          clear hx
          go_wp2_with fail
          refine (refWord_okm A lb x m cap a v most wr HLB.out.symm ((HRD.out.below HB.out).more HB.out.size) (by omega) hmc hfit HV.out HX.out hmost).mono ?_
          rintro e w2 ⟨rfl, n2, rfl⟩
          have HR2 := Lib.hid (HR.out.drewN n2)
          have HB2 := bd HB n2
          go_wp2_with fail
          refine (rtext_fit g d a lb most v x _ HR2.out (by rw [HLB.out]; omega) (by rw [HLB.out]; omega) HV.out HX.out (by rw [HLB.out]; omega) hmost).mono ?_
          rintro e w3 ⟨rfl, hr3, hg3⟩
          have HR3 := Lib.hid hr3
          have HB3 := bg HB2 hg3 Hw
          clear hr3 hg3
          go_wp2_with fail
          refine (left_good g d _ lb _ HR3.out (by rw [HLB.out]; omega) (by rw [HLB.out]; omega)).mono ?_
          rw [HLB.out]
          rintro e w4 ⟨rfl, n4, rfl⟩
          have HR4 := Lib.hid (HR3.out.drewN n4)
          have HB4 := bd HB3 n4
          go_wp2_with fail
          refine (end_good g d _ lb _ HR4.out).mono ?_
          rw [HLB.out]
          rintro e w5 ⟨rfl, n5, rfl⟩
          have HR5 := Lib.hid (HR3.out.drewN (n4 + n5))
          have HB5 := bd HB3 (n4 + n5)
          go_wp2
          exact ⟨⟨k + 1, a + 2 + v, false, by omega, by omega, by go_num, by unfold atv; go_num, by omega, HR5.out, HB5.out⟩, by simp [intOf]; omega⟩
    · have hd1 : (decide ((k : Int) < (ws.length : Int)) && decide ((k : Int) < 40)) = false := by simp; omega
      by_cases hw1 : k < ws.length
      all_goals
        have hz : k < ws.length ∨ ¬ k < ws.length := Nat.lt_or_ge k ws.length |>.imp id (by omega)
        go_wp2_with fail
        refine (awake_any wr).mono ?_
        rintro e w2 ⟨rfl, hb2⟩
        have HB2 := bb HB hb2
        clear hb2
        go_wp2
        go_ret
        exact ⟨rfl, HB2.out⟩

theorem open_wants {H : Type} {enc : TypeId × Value → H} {W : World} {base : Nat} {v : Value} {d : DataW H} {p : List MemPlace}
    (hok : Value.okWide Try.prog W .any base 31 v) (h : DataW.Trod enc Try.prog W 0 (fun _ => true) true 31 v d p) : ∃ A ws cap, v = .slice A ws.length cap ∧ Wants W W.heap.size A ws := by
  obtain ⟨a0, len0, cap0, rfl⟩ := okWide_slice Try.underlying31 hok
  obtain ⟨fuel, hf⟩ := h
  rcases Go.Deep.open_slice Try.underlying31 hf with ⟨hcs, _⟩ | ⟨a, l, c, m, n, D, Pl, hcs, _, hl, hm, hmm, _, hi⟩
  · simp [Value.cells] at hcs
    obtain ⟨rfl, rfl, rfl⟩ := hcs
    exact ⟨none, [], 0, rfl, .inl rfl⟩
  · simp [Value.cells] at hcs
    obtain ⟨rfl, rfl, rfl⟩ := hcs
    simp only [if_true] at hmm
    have hC : Try.prog.cellsOf 35 = 2 := by kernel_rfl
    have hCb : Try.prog.cellsOf 4 = 1 := by kernel_rfl
    have hCi : Try.prog.cellsOf 3 = 1 := by kernel_rfl
    have hel : ∀ i, ∃ q : Bool × Int, i < len0 → W.cell? ((a.add (i * 2)).add 0) = some (.bool q.1) ∧ W.cell? ((a.add (i * 2)).add 1) = some (.int .i64 q.2) := by
      intro i
      by_cases hlt : i < len0
      · obtain ⟨cs', hc, ht⟩ := hi i (by omega)
        rw [hC] at hc
        obtain ⟨_, hlen, hat⟩ := World.cells?_some hc
        obtain ⟨y0, y1, n', _, _, h0, h1⟩ := trod_struct2 Try.underlying35 ht
        simp only [hCb, hCi, List.drop_zero] at h0 h1
        obtain ⟨q, e0, _⟩ := DataW.trod_bool Try.underlying4 h0
        obtain ⟨z, e1, _, _⟩ := DataW.trod_int Try.underlying3 h1
        match cs', hlen, e0, e1 with
        | [x0, x1], _, e0, e1 =>
          simp at e0 e1
          subst e0; subst e1
          exact ⟨(q, z), fun _ => ⟨hat 0 (by omega), hat 1 (by omega)⟩⟩
      · exact ⟨(false, 0), fun h => absurd h hlt⟩
    obtain ⟨f, hfq⟩ := Classical.axiomOfChoice hel
    refine ⟨some a, (List.range len0).map f, cap0, by simp, ?_⟩
    by_cases h0 : len0 = 0
    · subst h0; exact .inl (by simp)
    · obtain ⟨b, o, spot⟩ := a
      have hspot : spot = none := by simpa [Addr.add] using World.cell?_spot (hfq 0 (by omega)).1
      subst hspot
      have hb : b < W.heap.size := by simpa [Addr.add] using World.block_lt_of_cell? W _ (hfq 0 (by omega)).1
      refine .inr ⟨b, o, rfl, hb, fun i q hq => ?_⟩
      rw [List.getElem?_map] at hq
      by_cases hlt : i < len0
      · rw [List.getElem?_eq_getElem (by simpa using hlt)] at hq
        simp at hq
        subst hq
        have := hfq i hlt
        rw [Addr.add_lit, Addr.add_lit, Addr.add_lit] at this
        simpa [Nat.add_assoc] using this
      · rw [List.getElem?_eq_none (by simp; omega)] at hq
        cases hq

set_option maxRecDepth 100000 in
theorem takes_lifted (os : Os) (started : os.Started) (H : Type) (enc : TypeId × Value → H) :
    ReturnsInHanded {} Try.checked os 4 .any (Rows.octetTakesSpec.pre6 enc Try.prog Try.f4 Rows.octetTakesRow.domain false) (Rows.octetTakesSpec.post enc Try.prog Try.f4 false true false false) := by
  refine returnsInHanded_of_change (C := Try.checked) own started (by kernel_rfl) Try.func4
    (ChangeSpec.witness6 (enc := enc) (C := Try.checked) false ⟨#[], #[.slice none 0 0, .slice none 0 0], []⟩ 8 (by kernel_rfl) (by kernel_rfl) (by kernel_rfl) (by kernel_rfl)) ?_
  intro W base args ds gs before hval0 hW hcnd _
  have hval : ∀ (j : Nat) t v, Try.f4.params[j]? = some t → args[j]? = some v → Value.okWide Try.prog W .any base t v := hval0
  have hW' := hW
  obtain ⟨p, q, hA0, hV, rfl, hfz, hnd⟩ := hW
  have hA : DataW.TrodAll enc Try.prog W 0 (fun _ => true) true Try.f4.params.toList args.toList ds p := hA0
  rw [Try.params4] at hA hval
  obtain ⟨v0, vs0, d0, ds0, p0, q0, hargs, rfl, rfl, h0, r0⟩ := trodAll_cons hA
  obtain ⟨v1, vs1, d1, ds1, p1, q1, rfl, rfl, rfl, h1, r1⟩ := trodAll_cons r0
  obtain ⟨rfl, rfl, rfl⟩ := trodAll_nil r1
  obtain rfl : args = #[v0, v1] := by cases args; simp_all
  obtain ⟨rfl, rfl⟩ := trodVars_none hV
  obtain ⟨A, l, cap, rfl, hc, hr⟩ := open_bytes Try.und22 Try.und5 (by kernel_rfl) (hval 0 22 v0 rfl rfl) h0
  obtain ⟨A2, ws, cap2, rfl, hws⟩ := open_wants (hval 1 31 v1 rfl rfl) h1
  refine (takes_walk A l (l.take 300) cap _ A2 ws cap2 W hc rfl (by rw [List.length_take]; omega) (hr.take 300) hws).mono fun e W' ⟨he, hb⟩ => ?_
  subst he
  exact ⟨_, rfl, law_post laid (by kernel_rfl) rfl (by kernel_rfl) Try.underlying4 hW' rfl hb⟩

theorem takes_holds : Rows.OctetTakesSaid :=
  OpenClaim.holds_of_wide 4 Try.f4 rfl rfl rfl rfl rfl rfl rfl ⟨rfl, rfl, rfl, rfl, rfl⟩ rfl rfl rfl rfl rfl (by kernel_rfl) Try.func4 (by kernel_rfl)
    (of_decide_eq_true (by kernel_rfl)) (by unfold Func.isWrapper; first | (rw [if_pos (by decide +kernel)]; kernel_rfl) | (rw [if_neg (by decide +kernel)]; exact ⟨rfl, rfl⟩))
    (fun os started H enc _ => takes_lifted os started H enc)
#print axioms takes_holds
end Go.Proofs.Ytpfibdloaddbdaa
