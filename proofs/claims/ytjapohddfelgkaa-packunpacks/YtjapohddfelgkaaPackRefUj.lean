/-
  The reference of layer 13: Unpack: its contract.
-/
import Derived.Test.YtjapohddfelgkaaTokRefDj
import Derived.Test.YtjapohddfelgkaaPackJ05
import Derived.Test.YtjapohddfelgkaaPackJ07
set_option maxRecDepth 100000
namespace Go.Proofs.Ytjapohddfelgkaa
open Go.RowKit Go.Gar

theorem OwnB.lower13 {w : World} {base base' : Nat} {e : TypeId} {v : Value} {k : List UInt8} (h : OwnB w base e v k) (hb : base' ≤ base) : OwnB w base' e v k := by
  refine ⟨h.1, ?_⟩
  rcases h.2 with hx | ⟨g, cp, cur, h1, h2, h4⟩
  · exact .inl hx
  · exact .inr ⟨g, cp, cur, h1, Nat.le_trans hb h2, h4⟩
/-- What stands behind the first byte. -/
theorem cut_one {w : World} {B g o c : Nat} {x : UInt8} {r : List UInt8} (hr : Rd w B (some ⟨g, o, none⟩) (x :: r)) (hc : r.length + 1 ≤ c) : ∃ A', (∀ W, (Instr.sliceAt 22 (.slice (some ⟨g, o, none⟩) (r.length + 1) c) (some (.int .i64 1)) none none).run Try.prog W = .ok (.slice A' r.length (c - 1)) W) ∧ Rd w B A' r := by
  obtain ⟨i, hi, hs⟩ := Option.map_eq_some_iff.1 Try.size5
  by_cases h1 : c = 1
  · subst h1
    obtain rfl : r = [] := List.eq_nil_of_length_eq_zero (by omega)
    exact ⟨some ⟨g, o, none⟩, fun W => by simp [Instr.sliceAt, Instr.sliceBounds, Instr.sureAddr, run_underlying Try.und22 W, sizeOf, typeInfo, hi, hs, go_sem], .inl rfl⟩
  · have a1 : ¬ ((r.length : Int) + 1 < 1) := by omega
    refine ⟨some ⟨g, o + 1, none⟩, fun W => by simp [Instr.sliceAt, Instr.sliceBounds, Instr.sureAddr, run_underlying Try.und22 W, sizeOf, typeInfo, hi, hs, go_sem, h1, a1, Addr.add_lit], ?_⟩
    rcases hr with h | ⟨b, q, e, hb, hcl⟩
    · cases h
    · obtain ⟨rfl, rfl⟩ : g = b ∧ o = q := by simpa using e
      refine .inr ⟨g, o + 1, rfl, hb, fun j y hj => ?_⟩
      have := hcl (j + 1) y (by simpa using hj)
      rw [show o + 1 + j = o + (j + 1) by omega]
      exact this

set_option maxHeartbeats 1000000 in
theorem refUnpack_any (A : Option Addr) (p : List UInt8) (n c : Nat) (w : World) (hn : n = p.length) (hr : Rd w w.heap.size A p) (hc : n ≤ c) (hl : n ≤ 100000) (E : Nat) (O : List UInt8) (hE : Lz.unpackB p = (E, O)) :
    Calls Try.prog 11 #[.slice A n c] w fun e w' => ∃ v, e = .returned (.tuple #[v, .int .i64 ((E : Nat) : Int)]) ∧ OwnB w' w.heap.size 5 v O ∧ Below w.heap.size w w' := by
  cases p with
  | nil =>
    obtain rfl : n = 0 := hn
    obtain ⟨rfl, rfl⟩ : 12 = E ∧ [] = O := by simpa [Lz.unpackB] using hE
    clear hr hE
    go_enter Try.func11, Try.ntmps11
    go_wp2
    go_ret2
    exact ⟨_, rfl, World.ownsRow_nil _ _ _ _, Below.refl _ _⟩
  | cons x r =>
    obtain ⟨g, o, rfl, hgB, hcell⟩ : ∃ g o, A = some ⟨g, o, none⟩ ∧ g < w.heap.size ∧ ∀ (i : Nat) (y : UInt8), (x :: r)[i]? = some y → w.cell? ⟨g, o + i, none⟩ = some (.int .u8 (y.toNat : Int)) := by
      rcases hr with h | ⟨g, o, h1, h2, h3⟩
      · cases h
      · exact ⟨g, o, h1, h2, h3⟩
    have k0 := hcell 0 x rfl
    rw [Nat.add_zero] at k0
    obtain ⟨rn, hrn⟩ : ∃ rn, r.length = rn := ⟨_, rfl⟩
    rw [List.length_cons, hrn] at hn
    subst hn
    have hq0 : (((rn + 1 : Nat) : Int) == 0) = false := by simp; omega
    have hx8 := x.toNat_lt
    by_cases hx1 : 1 < x.toNat
    · have hd1 : decide ((1 : Int) < (x.toNat : Int)) = true := by simp; omega
      obtain ⟨rfl, rfl⟩ : 12 = E ∧ [] = O := by
        unfold Lz.unpackB at hE
        simp only [if_pos hx1] at hE
        simpa using hE
      clear hr hE hcell
      go_enter Try.func11, Try.ntmps11
      go_wp2
      go_ret2
      exact ⟨_, rfl, World.ownsRow_nil _ _ _ _, Below.refl _ _⟩
    · have hd1 : decide ((1 : Int) < (x.toNat : Int)) = false := by simp; omega
      unfold Lz.unpackB at hE
      simp only [if_neg hx1] at hE
      obtain ⟨A', hcut, hrr⟩ := cut_one hr (c := c) (by omega)
      rw [hrn] at hcut
      have hb1 := below_alloc w (.cells #[] 5)
      have hO1 := own_made w w.heap.size 5 (Nat.le_refl _)
      obtain ⟨v2, w2, e2, hO2, hb2, _⟩ := app_rd (P := Try.prog) 22 22 Try.und22 Try.info5 hO1 hb1.size (c - 1) (hrr.below hb1) (by simp; omega)
      rw [hrn] at e2
      rw [List.nil_append] at hO2
      have hbw2 := hb1.trans hb2
      have k2 := (hbw2.cell (p := ⟨g, o, none⟩) hgB).trans k0
      obtain ⟨A2, c2, rfl, hr2⟩ := hO2.rd
      have hc2 : rn ≤ c2 := by
        rcases hO2.2 with ⟨hv, hn⟩ | ⟨g', cap, cur, hv, _, _, hcc, _⟩
        · rw [hrn] at hn; omega
        · injection hv with _ _ h3
          rw [hrn] at hcc; omega
      rw [hrn] at e2
      have He2 := Lib.hid e2
      have HO2 := Lib.hid hO2
      have HR2 := Lib.hid hr2
      have Hb2 := Lib.hid hbw2
      have HRn := Lib.hid hrn
      clear hb1 hO1 e2 hO2 hb2 hbw2 hr2 hrr hcell hr hrn
      by_cases hx0 : x = 0
      · subst hx0
        simp only [if_true, HRn.out] at hE
        by_cases hbig : 1024 < rn
        · have hd2 : (1024 : Int) < (rn : Int) := by omega
          obtain ⟨rfl, rfl⟩ : 12 = E ∧ [] = O := by
            rw [if_pos hbig] at hE
            simpa using hE
          clear hE
          go_enter Try.func11, Try.ntmps11
          go_wp2_with (at_builtin; refine wpList_append_run rfl (.tmp 18) (.tmp 20) _ rfl rfl rfl He2.out ?_)
          go_ret2
          exact ⟨_, rfl, World.ownsRow_nil _ _ _ _, Hb2.out⟩
        · have hd2 : ¬ (1024 : Int) < (rn : Int) := by omega
          obtain ⟨rfl, rfl⟩ : 0 = E ∧ r = O := by
            rw [if_neg hbig] at hE
            simpa using hE
          clear hE
          go_enter Try.func11, Try.ntmps11
          go_wp2_with (at_builtin; refine wpList_append_run rfl (.tmp 18) (.tmp 20) _ rfl rfl rfl He2.out ?_)
          go_ret2
          have := HO2.out
          rw [HRn.out] at this
          exact ⟨_, rfl, this, Hb2.out⟩
      · rw [if_neg hx0] at hE
        have hx00 : ((x.toNat : Int) == 0) = false := by
          rw [beq_eq_false_iff_ne]
          intro e
          exact hx0 (UInt8.toNat_inj.1 (by simpa using e))
        obtain ⟨F, hF⟩ : ∃ F, (Lz.decode r).1 = F := ⟨_, rfl⟩
        obtain ⟨T, hT⟩ : ∃ T, (Lz.decode r).2 = T := ⟨_, rfl⟩
        rw [hF, hT] at hE
        have HE := Lib.hid hE
        have HF := Lib.hid hF
        have HT := Lib.hid hT
        clear hE hF hT
        go_enter Try.func11, Try.ntmps11
        go_wp2_with (at_builtin; refine wpList_append_run rfl (.tmp 18) (.tmp 20) _ rfl rfl rfl He2.out ?_)
        refine (refDecode_any A2 r rn c2 w2 HRn.out.symm HR2.out hc2 (by omega) F T (Prod.ext HF.out HT.out)).mono ?_
        rintro e w3 ⟨v3, ts, rfl, hOT, htT, hts, hb3⟩
        obtain ⟨A3, c3, hv3, hc3, hr3⟩ := hOT.slice
        obtain ⟨n3, hn3⟩ : ∃ n3, ts.length = n3 := ⟨_, rfl⟩
        rw [hn3] at hc3 hts hv3
        subst hv3
        have HTs := Lib.hid htT
        have HR3 := Lib.hid hr3
        have HN3 := Lib.hid hn3
        have Hb3 := Lib.hid (Hb2.out.trans (hb3.mono Hb2.out.size))
        clear htT hr3 hn3 hb3 hOT
        rcases Lz.decode_cases r with ⟨l, hd⟩ | hd
        · obtain rfl : F = 0 := by rw [← HF.out, hd]
          clear hd
          have HEE := HE.out
          simp only [true_and] at HEE
          obtain ⟨F2, hF2⟩ : ∃ F2, (Lz.expand T 1024).1 = F2 := ⟨_, rfl⟩
          obtain ⟨O2, hO2⟩ : ∃ O2, (Lz.expand T 1024).2 = O2 := ⟨_, rfl⟩
          rw [hF2, hO2] at HEE
          have hex : Lz.expand (ts.map Tv.tok) 1024 = (F2, O2) := by rw [HTs.out]; exact Prod.ext hF2 hO2
          have HEx := Lib.hid hex
          clear HE hF2 hO2 hex HTs
          go_wp2_with fail
          refine (refExpand_any A3 ts n3 c3 1024 _ HN3.out.symm HR3.out (by omega) F2 O2 HEx.out).mono ?_
          rintro e w4 ⟨v4, rfl, hO4, hb4⟩
          have HO4 := Lib.hid (OwnB.lower13 hO4 Hb3.out.size)
          have Hb4 := Lib.hid (Hb3.out.trans (hb4.mono Hb3.out.size))
          clear hO4 hb4
          by_cases hz : F2 = 0
          · subst hz
            obtain ⟨rfl, rfl⟩ : 0 = E ∧ O2 = O := by simpa using HEE
            clear HEE
            go_wp2_with fail
            go_ret2
            exact ⟨_, rfl, HO4.out, Hb4.out⟩
          · obtain ⟨rfl, rfl⟩ : 12 = E ∧ [] = O := by simpa [hz] using HEE
            have hz2 : ((F2 : Int) == 0) = false := by simp; omega
            clear HEE
            go_wp2_with fail
            go_ret2
            exact ⟨_, rfl, World.ownsRow_nil _ _ _ _, Hb4.out⟩
        · obtain rfl : F = 12 := by rw [← HF.out, hd]
          obtain ⟨rfl, rfl⟩ : 12 = E ∧ [] = O := by simpa using HE.out
          clear hd
          go_wp2_with fail
          go_ret2
          exact ⟨_, rfl, World.ownsRow_nil _ _ _ _, Hb3.out⟩
end Go.Proofs.Ytjapohddfelgkaa
