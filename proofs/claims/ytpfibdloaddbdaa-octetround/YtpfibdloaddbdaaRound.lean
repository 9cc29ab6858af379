/-
  OctetRound: for every list of ints and every list of strings the law returns true and leaves its arguments as they were. No condition.
-/
import Derived.Test.YtpfibdloaddbdaaEnc
import Derived.Test.YtpfibdloaddbdaaLaw
import Derived.Test.YtpfibdloaddbdaaOwn
import Derived.Test.YtpfibdloaddbdaaReg
import Derived.Deep.Slices
import Derived.SliceStrings
namespace Go.Proofs.Ytpfibdloaddbdaa
open Go.ChangeShapes Go.WideShapes Go.ChangeAt Go.RowKit Go.Gar

/-- A slice whose elements take one cell each reads as the values vs. -/
def Cells (w : World) (B : Nat) (A : Option Addr) (vs : List Value) : Prop :=
  vs = [] ∨ ∃ b o, A = some ⟨b, o, none⟩ ∧ b < B ∧ ∀ i v, vs[i]? = some v → w.cell? ⟨b, o + i, none⟩ = some v

def hasT (ts : List ByteArray) (i : Nat) : Bool := decide (i < ts.length) && decide ((ts.getD i ByteArray.empty).size ≤ 200)
def textOf (ts : List ByteArray) (i : Nat) : List UInt8 := if hasT ts i then be (ts.getD i ByteArray.empty).size 2 ++ (ts.getD i ByteArray.empty).data.toList else []
def item (ns : List Int) (ts : List ByteArray) (i : Nat) : List UInt8 := be (b64 (ns.getD i 0)) 8 ++ textOf ts i
def encTo (ns : List Int) (ts : List ByteArray) (k : Nat) : List UInt8 := (List.range k).flatMap (item ns ts)
theorem enc_succ (ns : List Int) (ts : List ByteArray) (k : Nat) : encTo ns ts (k + 1) = encTo ns ts k ++ item ns ts k := by
  simp [encTo, List.range_succ]
theorem textOf_len (ts : List ByteArray) (i : Nat) : (textOf ts i).length ≤ 202 := by
  unfold textOf
  split
  · rename_i h
    simp only [hasT, Bool.and_eq_true, decide_eq_true_eq] at h
    rw [List.length_append, be_len, len_str]; omega
  · simp
theorem enc_len (ns : List Int) (ts : List ByteArray) (k : Nat) : (encTo ns ts k).length ≤ 210 * k := by
  induction k with
  | zero => simp [encTo]
  | succ k ih =>
    have := textOf_len ts k
    rw [enc_succ, List.length_append, item, List.length_append, be_len]; omega
theorem enc_split (ns : List Int) (ts : List ByteArray) (k N : Nat) (h : k < N) : ∃ rest, encTo ns ts N = encTo ns ts k ++ (be (b64 (ns.getD k 0)) 8 ++ (textOf ts k ++ rest)) := by
  induction N with
  | zero => omega
  | succ N ih =>
    by_cases hk : k = N
    · subst hk; exact ⟨[], by rw [enc_succ, item]; simp⟩
    · obtain ⟨r, hr⟩ := ih (by omega)
      exact ⟨r ++ item ns ts N, by rw [enc_succ, hr]; simp⟩
theorem cut_at {α : Type} (a b c : List α) (n m : Nat) (hn : a.length = n) (hm : b.length = m) : ((a ++ (b ++ c)).drop n).take m = b := by
  subst hn; subst hm
  rw [List.drop_left, List.take_left]

/-- Only block g may turn. -/
def turns (g : Nat) : Growth := ⟨fun w w' => w.grownBy w' (some g), fun w => World.grownBy.refl w _, fun h k => grown_trans h k⟩

/-- A load of an old cell, in every world in which only block g and what is newer has turned. -/
theorem load_later {w wa : World} {g b o : Nat} {v : Value} (hb : Below w.heap.size w wa) (hc : w.cell? ⟨b, o, none⟩ = some v) (hlt : b < w.heap.size) (hg : w.heap.size ≤ g) :
    ∀ x : Later (turns g) wa, x.to.cell? ⟨b, o, none⟩ = some v := by
  intro x
  have hx : wa.grownBy x.to (some g) := x.grown
  exact hx.cell ((hb.cell (p := ⟨b, o, none⟩) hlt).trans hc) (fun e => by simp at e; omega)

set_option maxHeartbeats 2000000 in
theorem round_walk (A1 : Option Addr) (ns : List Int) (c1 : Nat) (A2 : Option Addr) (ts : List ByteArray) (c2 : Nat) (w : World) (h1 : Cells w w.heap.size A1 (ns.map (Value.int .i64))) (h2 : Cells w w.heap.size A2 (ts.map Value.string)) (hwf : ∀ n ∈ ns, (Lit.int .i64 n).wf = true) :
    Calls Try.prog 5 #[.slice A1 ns.length c1, .slice A2 ts.length c2] w fun e w' => e = .returned (.bool true) ∧ Below w.heap.size w w' := by
  have H1 := Lib.hid h1
  have H2 := Lib.hid h2
  have HWF := Lib.hid hwf
  clear h1 h2 hwf
  go_enter Try.func5, Try.ntmps5
  go_wp2
  go_loopw [5, 6] (fun b i W => ∃ (k L : Nat) (A : Option Addr) (c : Nat), k ≤ ns.length ∧ k ≤ 20 ∧ i = .int .i64 k ∧ b = .slice A L c ∧ L = (encTo ns ts k).length ∧ Rd W W.heap.size A (encTo ns ts k) ∧ Below w.heap.size w W) (fun _ i _ => 20 - (intOf i).toNat)
  case atStart => exact ⟨0, 0, _, _, by omega, by omega, rfl, rfl, by simp [encTo], Rd.nil, below_alloc w _⟩
  case round =>
    obtain ⟨k, L, A, c, hk1, hk2, rfl, rfl, hL, hrd, hB⟩ := hrel
    have HL := Lib.hid hL
    have HRD := Lib.hid hrd
    have HB := Lib.hid hB
    clear hL hrd hB
    by_cases hlt : k < ns.length ∧ k < 20
    · obtain ⟨hlt1, hlt2⟩ := hlt
      have hd1 : decide ((k : Int) < (ns.length : Int)) = true := by simp; omega
      have hd2 : decide ((k : Int) < 20) = true := by simp; omega
      obtain ⟨b1, o1, rfl, hcn⟩ : ∃ b o, A1 = some ⟨b, o, none⟩ ∧ wr.cell? ⟨b, o + k, none⟩ = some (.int .i64 (ns.getD k 0)) := by
        rcases H1.out with hnil | ⟨b, o, e, hb, hcc⟩
        · have hz : (ns.map (Value.int .i64)).length = 0 := by rw [hnil]; rfl
          rw [List.length_map] at hz; omega
        · exact ⟨b, o, e, (HB.out.cell (p := ⟨b, _, none⟩) hb).trans (hcc k _ (by simp [List.getElem?_eq_getElem hlt1, List.getD]))⟩
      generalize hn : ns.getD k 0 = n at *
      have HN := Lib.hid hn
      clear hn
      go_wp2_with fail
      refine (int_at A (encTo ns ts k) _ L c _ n _ rfl HL.out rfl HRD.out (by have := enc_len ns ts k; omega)).mono ?_
      rintro e w2 ⟨rfl, hB2, hb2⟩
      have HB2 := bb HB hb2
      have HK2 := Lib.hid hB2
      clear hB2 hb2
      by_cases hT : k < ts.length ∧ (ts.getD k ByteArray.empty).size ≤ 200
      · obtain ⟨hT1, hT2⟩ := hT
        have hd3 : decide ((k : Int) < (ts.length : Int)) = true := by simp; omega
        obtain ⟨b3, o3, rfl, hct⟩ : ∃ b o, A2 = some ⟨b, o, none⟩ ∧ w2.cell? ⟨b, o + k, none⟩ = some (.string (ts.getD k ByteArray.empty)) := by
          rcases H2.out with hnil | ⟨b, o, e, hb, hcc⟩
          · have hz : (ts.map Value.string).length = 0 := by rw [hnil]; rfl
            rw [List.length_map] at hz; omega
          · exact ⟨b, o, e, (HB2.out.cell (p := ⟨b, _, none⟩) hb).trans (hcc k _ (by simp [List.getElem?_eq_getElem hT1, List.getD]))⟩
        have hitem : encTo ns ts (k + 1) = encTo ns ts k ++ be (b64 n) 8 ++ be (ts.getD k ByteArray.empty).size 2 ++ (ts.getD k ByteArray.empty).data.toList := by
          rw [enc_succ, item, textOf, if_pos (by unfold hasT; rw [decide_eq_true hT1, decide_eq_true hT2]; rfl), HN.out]; simp
        generalize ts.getD k ByteArray.empty = s at *
        have HI := Lib.hid hitem
        clear hitem
        go_wp2_with fail
        refine (text_at _ (encTo ns ts k ++ be (b64 n) 8) (encTo ns ts (k + 1)) (L + 8) (L + 8) _ s _ rfl (by rw [List.length_append, be_len, HL.out]) HI.out.symm (Rd.of_all HK2.out) (by rw [List.length_append, be_len]; have := enc_len ns ts k; omega) (by omega)).mono ?_
        rintro e w3 ⟨rfl, hB3, hb3⟩
        have HB3 := bb HB2 hb3
        have HK3 := Lib.hid hB3
        have HL3 := Lib.hid (show L + 8 + 2 + s.size = (encTo ns ts (k + 1)).length from by rw [HI.out]; simp only [List.length_append, be_len, len_str]; rw [HL.out])
        clear hB3 hb3
        go_wp2
        exact ⟨⟨k + 1, _, _, _, by omega, by omega, by go_num, rfl, HL3.out, Rd.of_all HK3.out, HB3.out⟩, by simp [intOf]; omega⟩
      · have hitem : encTo ns ts (k + 1) = encTo ns ts k ++ be (b64 n) 8 := by
          rw [enc_succ, item, textOf, if_neg (fun hh => hT (by simpa only [hasT, Bool.and_eq_true, decide_eq_true_eq] using hh)), HN.out]; simp
        have HI := Lib.hid hitem
        have HL3 := Lib.hid (show L + 8 = (encTo ns ts (k + 1)).length from by rw [HI.out, List.length_append, be_len, HL.out])
        clear hitem
        by_cases hT1 : k < ts.length
        · have hd3 : decide ((k : Int) < (ts.length : Int)) = true := by simp; omega
          obtain ⟨b3, o3, rfl, hct⟩ : ∃ b o, A2 = some ⟨b, o, none⟩ ∧ w2.cell? ⟨b, o + k, none⟩ = some (.string (ts.getD k ByteArray.empty)) := by
            rcases H2.out with hnil | ⟨b, o, e, hb, hcc⟩
            · have hz : (ts.map Value.string).length = 0 := by rw [hnil]; rfl
              rw [List.length_map] at hz; omega
            · exact ⟨b, o, e, (HB2.out.cell (p := ⟨b, _, none⟩) hb).trans (hcc k _ (by simp [List.getElem?_eq_getElem hT1, List.getD]))⟩
          have hT2 : 200 < (ts.getD k ByteArray.empty).size := Nat.lt_of_not_le fun hh => hT ⟨hT1, hh⟩
          have hd4 : decide (((ts.getD k ByteArray.empty).size : Int) ≤ 200) = false := decide_eq_false (by omega)
          clear hT
          generalize ts.getD k ByteArray.empty = s at *
          go_wp2
          exact ⟨⟨k + 1, _, _, _, by omega, by omega, by go_num, rfl, HL3.out, by rw [HI.out]; exact Rd.of_all HK2.out, HB2.out⟩, by simp [intOf]; omega⟩
        · have hd3 : decide ((k : Int) < (ts.length : Int)) = false := by simp; omega
          clear hT
          go_wp2
          exact ⟨⟨k + 1, _, _, _, by omega, by omega, by go_num, rfl, HL3.out, by rw [HI.out]; exact Rd.of_all HK2.out, HB2.out⟩, by simp [intOf]; omega⟩
    · have hN : ∃ N, N = k := ⟨_, rfl⟩
      obtain ⟨N, rfl⟩ := hN
      have HN := Lib.hid hlt
      clear hlt
      have hd20 : N < ns.length → decide ((N : Int) < 20) = false := fun hh => by have := HN.out; simp; omega
      have hdn : ¬ N < ns.length → decide ((N : Int) < (ns.length : Int)) = false := fun hh => by simp; omega
      have HD := Lib.hid hd20
      have HE := Lib.hid hdn
      clear hd20 hdn
      by_cases hw1 : N < ns.length
      · have hda : decide ((N : Int) < (ns.length : Int)) = true := by simp; omega
        have hdb := HD.out hw1
        go_wp2_with fail
        refine (new_at A (encTo ns ts N) L c _ _ rfl HL.out HRD.out (by have := enc_len ns ts N; omega)).mono ?_
        rintro e w1 ⟨rfl, hr1, hb1⟩
        have HB1 := bb HB hb1
        have HR1 := Lib.hid hr1
        have Hw := Lib.hid (show w.heap.size ≤ wr.heap.size + 1 from by have := HB.out.size; omega)
        clear hb1 hr1
        obtain ⟨g, d, hg, hd⟩ : ∃ g d, g = wr.heap.size + 1 ∧ d = wr.heap.size := ⟨_, _, rfl, rfl⟩
        rw [← hg, ← hd] at HR1
        rw [← hg] at Hw ⊢
        clear hg hd
        generalize hE : encTo ns ts N = E at *
        clear HE
        have HE := Lib.hid hE
        have HEl := Lib.hid (show E.length ≤ 4200 from by rw [← hE]; have := enc_len ns ts N; omega)
        clear hE
        go_wp2
        go_loopw [10] (fun i W => ∃ j a : Nat, j ≤ N ∧ i = .int .i64 j ∧ a = (encTo ns ts j).length ∧ Rdr W g d E a false ∧ Below w.heap.size w W) (fun i _ => N - (intOf i).toNat)
        case atStart => exact ⟨0, 0, by omega, rfl, by simp [encTo], HR1.out, HB1.out⟩
        case round =>
          obtain ⟨j, a, hj, rfl, ha, hR, hB⟩ := hrel
          have HA := Lib.hid ha
          have HR := Lib.hid hR
          have HBj := Lib.hid hB
          clear ha hR hB
          by_cases hjN : j < N
          · have hj1 : decide ((j : Int) < (ns.length : Int)) = true := by simp; omega
            have hj2 : decide ((j : Int) < 20) = true := by simp; omega
            obtain ⟨rest, hsp⟩ := enc_split ns ts j N hjN
            rw [HE.out] at hsp
            obtain ⟨b1, o1, rfl, hb1, hcn⟩ : ∃ b o, A1 = some ⟨b, o, none⟩ ∧ b < w.heap.size ∧ w.cell? ⟨b, o + j, none⟩ = some (.int .i64 (ns.getD j 0)) := by
              rcases H1.out with hnil | ⟨b, o, e, hb, hcc⟩
              · have hz : (ns.map (Value.int .i64)).length = 0 := by rw [hnil]; rfl
                rw [List.length_map] at hz; omega
              · exact ⟨b, o, e, hb, hcc j _ (by simp [List.getElem?_eq_getElem (show j < ns.length by omega), List.getD])⟩
            have hwn : s64 (b64 (ns.getD j 0)) = ns.getD j 0 := by
              have hb := bounds_i64 (HWF.out (ns.getD j 0) (by simp [List.getD, List.getElem?_eq_getElem (show j < ns.length by omega)]))
              exact s64_u64 _ hb.1 hb.2
            generalize ns.getD j 0 = n at *
            have hfitI : a + 8 ≤ E.length := by rw [hsp, HA.out]; simp only [List.length_append, be_len]; omega
            have hvI : s64 (val ((E.drop a).take 8)) = n := by
              rw [hsp, cut_at (encTo ns ts j) (be (b64 n) 8) (textOf ts j ++ rest) a 8 HA.out.symm (be_len _ _), val_be8, hwn]
            have HSP := Lib.hid hsp
            have HFI := Lib.hid hfitI
            have HVI := Lib.hid hvI
            have HCN := Lib.hid hcn
            clear hsp hfitI hvI hcn hwn
            go_wp2_with fail
            refine wp_region_G (turns g) (by kernel_rfl) ?_
            have HRa := Lib.hid (show Rdr wr.drew g d E a false from HR.out)
            have HBa := Lib.hid (show Below w.heap.size w wr.drew from HBj.out.drew)
            generalize wr.drew = wa at *
            have hlN := load_later HBa.out HCN.out hb1 Hw.out
            refine segG (by kernel_rfl) (fun _ _ _ _ _ h => h) [0, 2, 3, 4, 5] [_, _, _, _, _] 2 rfl rfl (by kernel_rfl) ?_
            repeat (go_big_quiet_step (fail))
            refine wpQuiet_nil ?_
            clear hlN
            refine oneG 1 1 rfl (by kernel_rfl) rfl ?_
            go_wp2_with fail
            refine (rint_fit g d a E wa HRa.out (by have := HEl.out; omega) HFI.out).mono ?_
            rw [HVI.out]
            rintro e wb ⟨rfl, hrb, hgb⟩
            have HRb := Lib.hid hrb
            have HBb := bg HBa hgb Hw
            go_wp2
            refine ⟨hgb, ?_⟩
            clear hrb hgb
            refine segG (by kernel_rfl) (fun _ _ _ _ _ h => h) [6] [_] 0 rfl rfl (by kernel_rfl) ?_
            repeat (go_big_quiet_step (fail))
            refine wpQuiet_nil ?_
            refine wpAnyG_done (by kernel_rfl) ?_
            go_wp2_with fail
            by_cases hT : j < ts.length ∧ (ts.getD j ByteArray.empty).size ≤ 200
            · obtain ⟨hT1, hT2⟩ := hT
              have hd3 : decide ((j : Int) < (ts.length : Int)) = true := by simp; omega
              obtain ⟨b3, o3, rfl, hb3, hct⟩ : ∃ b o, A2 = some ⟨b, o, none⟩ ∧ b < w.heap.size ∧ w.cell? ⟨b, o + j, none⟩ = some (.string (ts.getD j ByteArray.empty)) := by
                rcases H2.out with hnil | ⟨b, o, e, hb, hcc⟩
                · have hz : (ts.map Value.string).length = 0 := by rw [hnil]; rfl
                  rw [List.length_map] at hz; omega
                · exact ⟨b, o, e, hb, hcc j _ (by simp [List.getElem?_eq_getElem hT1, List.getD])⟩
              have htx : textOf ts j = be (ts.getD j ByteArray.empty).size 2 ++ (ts.getD j ByteArray.empty).data.toList := by
                rw [textOf, if_pos (by unfold hasT; rw [decide_eq_true hT1, decide_eq_true hT2]; rfl)]
              have hnext : (encTo ns ts (j + 1)).length = a + 8 + 2 + (ts.getD j ByteArray.empty).size := by
                rw [enc_succ, item, htx, HA.out]; simp only [List.length_append, be_len, len_str]; omega
              have hsp := HSP.out
              rw [htx] at hsp
              generalize ts.getD j ByteArray.empty = s at *
              have hd4 : decide ((s.size : Int) ≤ 200) = true := by simp; omega
              have hEl : a + 8 + 2 + s.size ≤ E.length := by rw [hsp]; simp only [List.length_append, be_len, len_str]; rw [← HA.out]; omega
              have hv2 : val ((E.drop (a + 8)).take 2) = s.size := by
                rw [hsp, ← List.append_assoc, List.append_assoc (be s.size 2)]
                rw [cut_at (encTo ns ts j ++ be (b64 n) 8) (be s.size 2) _ (a + 8) 2 (by rw [List.length_append, be_len, HA.out]) (be_len _ _), val_be2 _ (by omega)]
              have hx2 : (E.drop (a + 8 + 2)).take s.size = s.data.toList := by
                rw [hsp, ← List.append_assoc, List.append_assoc (be s.size 2), ← List.append_assoc (encTo ns ts j ++ be (b64 n) 8)]
                exact cut_at (encTo ns ts j ++ be (b64 n) 8 ++ be s.size 2) s.data.toList _ (a + 8 + 2) s.size (by rw [List.length_append, List.length_append, be_len, be_len, HA.out]) (len_str s)
              have HV2 := Lib.hid hv2
              have HX2 := Lib.hid hx2
              have HNX := Lib.hid hnext
              have HCT := Lib.hid hct
              clear hv2 hx2 hnext hct hsp htx
              refine wp_region_G (turns g) (by kernel_rfl) ?_
              have HRc := Lib.hid (show Rdr wb.drew g d E (a + 8) false from HRb.out)
              have HBc := Lib.hid (show Below w.heap.size w wb.drew from HBb.out.drew)
              generalize wb.drew = wc at *
              have hlT := load_later HBc.out HCT.out hb3 Hw.out
              refine segG (by kernel_rfl) (fun _ _ _ _ _ h => h) [0, 1, 2, 3, 4, 5, 6, 7, 8, 9, 10, 11, 12, 13, 14, 15, 16, 17, 18, 20, 21, 22, 23] [_, _, _, _, _, _, _, _, _, _, _, _, _, _, _, _, _, _, _, _, _, _, _] 3 rfl rfl (by kernel_rfl) ?_
              repeat (go_big_quiet_step (fail))
              refine wpQuiet_nil ?_
              refine oneG 19 2 rfl (by kernel_rfl) rfl ?_
              clear hlT
              go_wp2_with fail
              refine (rtext_fit g d (a + 8) E _ s.size s.data.toList wc HRc.out (by have := HEl.out; omega) (by omega) HV2.out HX2.out hEl (by omega)).mono ?_
              rw [str_back]
              rintro e wd ⟨rfl, hrd, hgd⟩
              have HRd := Lib.hid hrd
              have HBd := bg HBc hgd Hw
              go_wp2
              refine ⟨hgd, ?_⟩
              clear hrd hgd
              refine segG (by kernel_rfl) (fun _ _ _ _ _ h => h) [24, 25] [_, _] 0 rfl rfl (by kernel_rfl) ?_
              repeat (go_big_quiet_step (fail))
              refine wpQuiet_nil ?_
              refine wpAnyG_done (by kernel_rfl) ?_
              go_wp2
              exact ⟨⟨j + 1, _, by omega, by go_num, HNX.out.symm, HRd.out, HBd.out⟩, by simp [intOf]; omega⟩
            · have hnext : (encTo ns ts (j + 1)).length = a + 8 := by
                rw [enc_succ, item, textOf, if_neg (fun hh => hT (by simpa only [hasT, Bool.and_eq_true, decide_eq_true_eq] using hh)), HA.out]; simp [be_len]
              have HNX := Lib.hid hnext
              clear hnext
              by_cases hT1 : j < ts.length
              · have hd3 : decide ((j : Int) < (ts.length : Int)) = true := by simp; omega
                obtain ⟨b3, o3, rfl, hb3, hct⟩ : ∃ b o, A2 = some ⟨b, o, none⟩ ∧ b < w.heap.size ∧ w.cell? ⟨b, o + j, none⟩ = some (.string (ts.getD j ByteArray.empty)) := by
                  rcases H2.out with hnil | ⟨b, o, e, hb, hcc⟩
                  · have hz : (ts.map Value.string).length = 0 := by rw [hnil]; rfl
                    rw [List.length_map] at hz; omega
                  · exact ⟨b, o, e, hb, hcc j _ (by simp [List.getElem?_eq_getElem hT1, List.getD])⟩
                have hT2 : 200 < (ts.getD j ByteArray.empty).size := Nat.lt_of_not_le fun hh => hT ⟨hT1, hh⟩
                have hd4 : decide (((ts.getD j ByteArray.empty).size : Int) ≤ 200) = false := decide_eq_false (by omega)
                clear hT
                generalize ts.getD j ByteArray.empty = s at *
                have HCT := Lib.hid hct
                clear hct
                refine wp_region_G (turns g) (by kernel_rfl) ?_
                have HRc := Lib.hid (show Rdr wb.drew g d E (a + 8) false from HRb.out)
                have HBc := Lib.hid (show Below w.heap.size w wb.drew from HBb.out.drew)
                generalize wb.drew = wc at *
                have hlT := load_later HBc.out HCT.out hb3 Hw.out
                refine segG (by kernel_rfl) (fun _ _ _ _ _ h => h) [0, 1, 2, 3, 4, 5, 6, 7, 8, 9, 10, 11, 12, 13, 14, 15, 16, 17, 18, 20, 21, 22, 23] [_, _, _, _, _, _, _, _, _, _, _, _, _, _, _, _, _, _, _, _, _, _, _] 3 rfl rfl (by kernel_rfl) ?_
                repeat (go_big_quiet_step (fail))
                refine wpQuiet_nil ?_
                refine oneG 19 2 rfl (by kernel_rfl) rfl ?_
                clear hlT
                go_wp2
                refine ⟨(turns g).refl _, ?_⟩
                refine segG (by kernel_rfl) (fun _ _ _ _ _ h => h) [24, 25] [_, _] 0 rfl rfl (by kernel_rfl) ?_
                repeat (go_big_quiet_step (fail))
                refine wpQuiet_nil ?_
                refine wpAnyG_done (by kernel_rfl) ?_
                go_wp2
                exact ⟨⟨j + 1, _, by omega, by go_num, HNX.out.symm, HRc.out, HBc.out⟩, by simp [intOf]; omega⟩
              · have hd3 : decide ((j : Int) < (ts.length : Int)) = false := by simp; omega
                clear hT
                refine wp_region_G (turns g) (by kernel_rfl) ?_
                have HRc := Lib.hid (show Rdr wb.drew g d E (a + 8) false from HRb.out)
                have HBc := Lib.hid (show Below w.heap.size w wb.drew from HBb.out.drew)
                generalize wb.drew = wc at *
                refine segG (by kernel_rfl) (fun _ _ _ _ _ h => h) [0, 1, 2, 3, 4, 5, 6, 7, 8, 9, 10, 11, 12, 13, 14, 15, 16, 17, 18, 20, 21, 22, 23] [_, _, _, _, _, _, _, _, _, _, _, _, _, _, _, _, _, _, _, _, _, _, _] 3 rfl rfl (by kernel_rfl) ?_
                repeat (go_big_quiet_step (fail))
                refine wpQuiet_nil ?_
                refine oneG 19 2 rfl (by kernel_rfl) rfl ?_
                go_wp2
                refine ⟨(turns g).refl _, ?_⟩
                refine segG (by kernel_rfl) (fun _ _ _ _ _ h => h) [24, 25] [_, _] 0 rfl rfl (by kernel_rfl) ?_
                repeat (go_big_quiet_step (fail))
                refine wpQuiet_nil ?_
                refine wpAnyG_done (by kernel_rfl) ?_
                go_wp2
                exact ⟨⟨j + 1, _, by omega, by go_num, HNX.out.symm, HRc.out, HBc.out⟩, by simp [intOf]; omega⟩
          · obtain rfl : j = N := by omega
            have haE : a = E.length := by rw [HA.out, HE.out]
            subst haE
            go_wp2_with fail
            refine (awake_any wr).mono ?_
            rintro e wb ⟨rfl, hb⟩
            have HRb := Lib.hid (HR.out.below hb HR.out.1.lt HR.out.2.lt)
            have HBb := bb HBj hb
            clear hb
            go_wp2_with fail
            refine (end_good g d _ E wb HRb.out).mono ?_
            rw [show decide (E.length = E.length) = true from by simp]
            rintro e wc ⟨rfl, n1, rfl⟩
            have HRc := Lib.hid (HRb.out.drewN n1)
            have HBc := bd HBb n1
            generalize wb.drewN n1 = wc at *
            go_wp2_with fail
            refine (left_good g d _ E wc HRc.out (Nat.le_refl _) (by have := HEl.out; omega)).mono ?_
            rw [Int.sub_self]
            rintro e wd ⟨rfl, n2, rfl⟩
            have HBd := bd HBc n2
            go_wp2
            go_ret
            exact ⟨rfl, HBd.out⟩
      · have hda := HE.out hw1
        go_wp2_with fail
        refine (new_at A (encTo ns ts N) L c _ _ rfl HL.out HRD.out (by have := enc_len ns ts N; omega)).mono ?_
        rintro e w1 ⟨rfl, hr1, hb1⟩
        have HB1 := bb HB hb1
        have HR1 := Lib.hid hr1
        have Hw := Lib.hid (show w.heap.size ≤ wr.heap.size + 1 from by have := HB.out.size; omega)
        clear hb1 hr1
        obtain ⟨g, d, hg, hd⟩ : ∃ g d, g = wr.heap.size + 1 ∧ d = wr.heap.size := ⟨_, _, rfl, rfl⟩
        rw [← hg, ← hd] at HR1
        rw [← hg] at Hw ⊢
        clear hg hd
        generalize hE : encTo ns ts N = E at *
        clear HE
        have HE := Lib.hid hE
        have HEl := Lib.hid (show E.length ≤ 4200 from by rw [← hE]; have := enc_len ns ts N; omega)
        clear hE
        go_wp2
        go_loopw [10] (fun i W => ∃ j a : Nat, j ≤ N ∧ i = .int .i64 j ∧ a = (encTo ns ts j).length ∧ Rdr W g d E a false ∧ Below w.heap.size w W) (fun i _ => N - (intOf i).toNat)
        case atStart => exact ⟨0, 0, by omega, rfl, by simp [encTo], HR1.out, HB1.out⟩
        case round =>
          obtain ⟨j, a, hj, rfl, ha, hR, hB⟩ := hrel
          have HA := Lib.hid ha
          have HR := Lib.hid hR
          have HBj := Lib.hid hB
          clear ha hR hB
          by_cases hjN : j < N
          · have hj1 : decide ((j : Int) < (ns.length : Int)) = true := by simp; omega
            have hj2 : decide ((j : Int) < 20) = true := by simp; omega
            obtain ⟨rest, hsp⟩ := enc_split ns ts j N hjN
            rw [HE.out] at hsp
            obtain ⟨b1, o1, rfl, hb1, hcn⟩ : ∃ b o, A1 = some ⟨b, o, none⟩ ∧ b < w.heap.size ∧ w.cell? ⟨b, o + j, none⟩ = some (.int .i64 (ns.getD j 0)) := by
              rcases H1.out with hnil | ⟨b, o, e, hb, hcc⟩
              · have hz : (ns.map (Value.int .i64)).length = 0 := by rw [hnil]; rfl
                rw [List.length_map] at hz; omega
              · exact ⟨b, o, e, hb, hcc j _ (by simp [List.getElem?_eq_getElem (show j < ns.length by omega), List.getD])⟩
            have hwn : s64 (b64 (ns.getD j 0)) = ns.getD j 0 := by
              have hb := bounds_i64 (HWF.out (ns.getD j 0) (by simp [List.getD, List.getElem?_eq_getElem (show j < ns.length by omega)]))
              exact s64_u64 _ hb.1 hb.2
            generalize ns.getD j 0 = n at *
            have hfitI : a + 8 ≤ E.length := by rw [hsp, HA.out]; simp only [List.length_append, be_len]; omega
            have hvI : s64 (val ((E.drop a).take 8)) = n := by
              rw [hsp, cut_at (encTo ns ts j) (be (b64 n) 8) (textOf ts j ++ rest) a 8 HA.out.symm (be_len _ _), val_be8, hwn]
            have HSP := Lib.hid hsp
            have HFI := Lib.hid hfitI
            have HVI := Lib.hid hvI
            have HCN := Lib.hid hcn
            clear hsp hfitI hvI hcn hwn
            go_wp2_with fail
            refine wp_region_G (turns g) (by kernel_rfl) ?_
            have HRa := Lib.hid (show Rdr wr.drew g d E a false from HR.out)
            have HBa := Lib.hid (show Below w.heap.size w wr.drew from HBj.out.drew)
            generalize wr.drew = wa at *
            have hlN := load_later HBa.out HCN.out hb1 Hw.out
            refine segG (by kernel_rfl) (fun _ _ _ _ _ h => h) [0, 2, 3, 4, 5] [_, _, _, _, _] 2 rfl rfl (by kernel_rfl) ?_
            repeat (go_big_quiet_step (fail))
            refine wpQuiet_nil ?_
            clear hlN
            refine oneG 1 1 rfl (by kernel_rfl) rfl ?_
            go_wp2_with fail
            refine (rint_fit g d a E wa HRa.out (by have := HEl.out; omega) HFI.out).mono ?_
            rw [HVI.out]
            rintro e wb ⟨rfl, hrb, hgb⟩
            have HRb := Lib.hid hrb
            have HBb := bg HBa hgb Hw
            go_wp2
            refine ⟨hgb, ?_⟩
            clear hrb hgb
            refine segG (by kernel_rfl) (fun _ _ _ _ _ h => h) [6] [_] 0 rfl rfl (by kernel_rfl) ?_
            repeat (go_big_quiet_step (fail))
            refine wpQuiet_nil ?_
            refine wpAnyG_done (by kernel_rfl) ?_
            go_wp2_with fail
            by_cases hT : j < ts.length ∧ (ts.getD j ByteArray.empty).size ≤ 200
            · obtain ⟨hT1, hT2⟩ := hT
              have hd3 : decide ((j : Int) < (ts.length : Int)) = true := by simp; omega
              obtain ⟨b3, o3, rfl, hb3, hct⟩ : ∃ b o, A2 = some ⟨b, o, none⟩ ∧ b < w.heap.size ∧ w.cell? ⟨b, o + j, none⟩ = some (.string (ts.getD j ByteArray.empty)) := by
                rcases H2.out with hnil | ⟨b, o, e, hb, hcc⟩
                · have hz : (ts.map Value.string).length = 0 := by rw [hnil]; rfl
                  rw [List.length_map] at hz; omega
                · exact ⟨b, o, e, hb, hcc j _ (by simp [List.getElem?_eq_getElem hT1, List.getD])⟩
              have htx : textOf ts j = be (ts.getD j ByteArray.empty).size 2 ++ (ts.getD j ByteArray.empty).data.toList := by
                rw [textOf, if_pos (by unfold hasT; rw [decide_eq_true hT1, decide_eq_true hT2]; rfl)]
              have hnext : (encTo ns ts (j + 1)).length = a + 8 + 2 + (ts.getD j ByteArray.empty).size := by
                rw [enc_succ, item, htx, HA.out]; simp only [List.length_append, be_len, len_str]; omega
              have hsp := HSP.out
              rw [htx] at hsp
              generalize ts.getD j ByteArray.empty = s at *
              have hd4 : decide ((s.size : Int) ≤ 200) = true := by simp; omega
              have hEl : a + 8 + 2 + s.size ≤ E.length := by rw [hsp]; simp only [List.length_append, be_len, len_str]; rw [← HA.out]; omega
              have hv2 : val ((E.drop (a + 8)).take 2) = s.size := by
                rw [hsp, ← List.append_assoc, List.append_assoc (be s.size 2)]
                rw [cut_at (encTo ns ts j ++ be (b64 n) 8) (be s.size 2) _ (a + 8) 2 (by rw [List.length_append, be_len, HA.out]) (be_len _ _), val_be2 _ (by omega)]
              have hx2 : (E.drop (a + 8 + 2)).take s.size = s.data.toList := by
                rw [hsp, ← List.append_assoc, List.append_assoc (be s.size 2), ← List.append_assoc (encTo ns ts j ++ be (b64 n) 8)]
                exact cut_at (encTo ns ts j ++ be (b64 n) 8 ++ be s.size 2) s.data.toList _ (a + 8 + 2) s.size (by rw [List.length_append, List.length_append, be_len, be_len, HA.out]) (len_str s)
              have HV2 := Lib.hid hv2
              have HX2 := Lib.hid hx2
              have HNX := Lib.hid hnext
              have HCT := Lib.hid hct
              clear hv2 hx2 hnext hct hsp htx
              refine wp_region_G (turns g) (by kernel_rfl) ?_
              have HRc := Lib.hid (show Rdr wb.drew g d E (a + 8) false from HRb.out)
              have HBc := Lib.hid (show Below w.heap.size w wb.drew from HBb.out.drew)
              generalize wb.drew = wc at *
              have hlT := load_later HBc.out HCT.out hb3 Hw.out
              refine segG (by kernel_rfl) (fun _ _ _ _ _ h => h) [0, 1, 2, 3, 4, 5, 6, 7, 8, 9, 10, 11, 12, 13, 14, 15, 16, 17, 18, 20, 21, 22, 23] [_, _, _, _, _, _, _, _, _, _, _, _, _, _, _, _, _, _, _, _, _, _, _] 3 rfl rfl (by kernel_rfl) ?_
              repeat (go_big_quiet_step (fail))
              refine wpQuiet_nil ?_
              refine oneG 19 2 rfl (by kernel_rfl) rfl ?_
              clear hlT
              go_wp2_with fail
              refine (rtext_fit g d (a + 8) E _ s.size s.data.toList wc HRc.out (by have := HEl.out; omega) (by omega) HV2.out HX2.out hEl (by omega)).mono ?_
              rw [str_back]
              rintro e wd ⟨rfl, hrd, hgd⟩
              have HRd := Lib.hid hrd
              have HBd := bg HBc hgd Hw
              go_wp2
              refine ⟨hgd, ?_⟩
              clear hrd hgd
              refine segG (by kernel_rfl) (fun _ _ _ _ _ h => h) [24, 25] [_, _] 0 rfl rfl (by kernel_rfl) ?_
              repeat (go_big_quiet_step (fail))
              refine wpQuiet_nil ?_
              refine wpAnyG_done (by kernel_rfl) ?_
              go_wp2
              exact ⟨⟨j + 1, _, by omega, by go_num, HNX.out.symm, HRd.out, HBd.out⟩, by simp [intOf]; omega⟩
            · have hnext : (encTo ns ts (j + 1)).length = a + 8 := by
                rw [enc_succ, item, textOf, if_neg (fun hh => hT (by simpa only [hasT, Bool.and_eq_true, decide_eq_true_eq] using hh)), HA.out]; simp [be_len]
              have HNX := Lib.hid hnext
              clear hnext
              by_cases hT1 : j < ts.length
              · have hd3 : decide ((j : Int) < (ts.length : Int)) = true := by simp; omega
                obtain ⟨b3, o3, rfl, hb3, hct⟩ : ∃ b o, A2 = some ⟨b, o, none⟩ ∧ b < w.heap.size ∧ w.cell? ⟨b, o + j, none⟩ = some (.string (ts.getD j ByteArray.empty)) := by
                  rcases H2.out with hnil | ⟨b, o, e, hb, hcc⟩
                  · have hz : (ts.map Value.string).length = 0 := by rw [hnil]; rfl
                    rw [List.length_map] at hz; omega
                  · exact ⟨b, o, e, hb, hcc j _ (by simp [List.getElem?_eq_getElem hT1, List.getD])⟩
                have hT2 : 200 < (ts.getD j ByteArray.empty).size := Nat.lt_of_not_le fun hh => hT ⟨hT1, hh⟩
                have hd4 : decide (((ts.getD j ByteArray.empty).size : Int) ≤ 200) = false := decide_eq_false (by omega)
                clear hT
                generalize ts.getD j ByteArray.empty = s at *
                have HCT := Lib.hid hct
                clear hct
                refine wp_region_G (turns g) (by kernel_rfl) ?_
                have HRc := Lib.hid (show Rdr wb.drew g d E (a + 8) false from HRb.out)
                have HBc := Lib.hid (show Below w.heap.size w wb.drew from HBb.out.drew)
                generalize wb.drew = wc at *
                have hlT := load_later HBc.out HCT.out hb3 Hw.out
                refine segG (by kernel_rfl) (fun _ _ _ _ _ h => h) [0, 1, 2, 3, 4, 5, 6, 7, 8, 9, 10, 11, 12, 13, 14, 15, 16, 17, 18, 20, 21, 22, 23] [_, _, _, _, _, _, _, _, _, _, _, _, _, _, _, _, _, _, _, _, _, _, _] 3 rfl rfl (by kernel_rfl) ?_
                repeat (go_big_quiet_step (fail))
                refine wpQuiet_nil ?_
                refine oneG 19 2 rfl (by kernel_rfl) rfl ?_
                clear hlT
                go_wp2
                refine ⟨(turns g).refl _, ?_⟩
                refine segG (by kernel_rfl) (fun _ _ _ _ _ h => h) [24, 25] [_, _] 0 rfl rfl (by kernel_rfl) ?_
                repeat (go_big_quiet_step (fail))
                refine wpQuiet_nil ?_
                refine wpAnyG_done (by kernel_rfl) ?_
                go_wp2
                exact ⟨⟨j + 1, _, by omega, by go_num, HNX.out.symm, HRc.out, HBc.out⟩, by simp [intOf]; omega⟩
              · have hd3 : decide ((j : Int) < (ts.length : Int)) = false := by simp; omega
                clear hT
                refine wp_region_G (turns g) (by kernel_rfl) ?_
                have HRc := Lib.hid (show Rdr wb.drew g d E (a + 8) false from HRb.out)
                have HBc := Lib.hid (show Below w.heap.size w wb.drew from HBb.out.drew)
                generalize wb.drew = wc at *
                refine segG (by kernel_rfl) (fun _ _ _ _ _ h => h) [0, 1, 2, 3, 4, 5, 6, 7, 8, 9, 10, 11, 12, 13, 14, 15, 16, 17, 18, 20, 21, 22, 23] [_, _, _, _, _, _, _, _, _, _, _, _, _, _, _, _, _, _, _, _, _, _, _] 3 rfl rfl (by kernel_rfl) ?_
                repeat (go_big_quiet_step (fail))
                refine wpQuiet_nil ?_
                refine oneG 19 2 rfl (by kernel_rfl) rfl ?_
                go_wp2
                refine ⟨(turns g).refl _, ?_⟩
                refine segG (by kernel_rfl) (fun _ _ _ _ _ h => h) [24, 25] [_, _] 0 rfl rfl (by kernel_rfl) ?_
                repeat (go_big_quiet_step (fail))
                refine wpQuiet_nil ?_
                refine wpAnyG_done (by kernel_rfl) ?_
                go_wp2
                exact ⟨⟨j + 1, _, by omega, by go_num, HNX.out.symm, HRc.out, HBc.out⟩, by simp [intOf]; omega⟩
          · obtain rfl : j = N := by omega
            have haE : a = E.length := by rw [HA.out, HE.out]
            subst haE
            go_wp2_with fail
            refine (awake_any wr).mono ?_
            rintro e wb ⟨rfl, hb⟩
            have HRb := Lib.hid (HR.out.below hb HR.out.1.lt HR.out.2.lt)
            have HBb := bb HBj hb
            clear hb
            go_wp2_with fail
            refine (end_good g d _ E wb HRb.out).mono ?_
            rw [show decide (E.length = E.length) = true from by simp]
            rintro e wc ⟨rfl, n1, rfl⟩
            have HRc := Lib.hid (HRb.out.drewN n1)
            have HBc := bd HBb n1
            generalize wb.drewN n1 = wc at *
            go_wp2_with fail
            refine (left_good g d _ E wc HRc.out (Nat.le_refl _) (by have := HEl.out; omega)).mono ?_
            rw [Int.sub_self]
            rintro e wd ⟨rfl, n2, rfl⟩
            have HBd := bd HBc n2
            go_wp2
            go_ret
            exact ⟨rfl, HBd.out⟩

theorem open_numbers {H : Type} {enc : TypeId × Value → H} {W : World} {base : Nat} {v : Value} {d : DataW H} {p : List MemPlace}
    (hok : Value.okWide Try.prog W .any base 43 v) (h : DataW.Trod enc Try.prog W 0 (fun _ => true) true 43 v d p) : ∃ (A : Option Addr) (ns : List Int) (cap : Nat), v = .slice A ns.length cap ∧ Cells W W.heap.size A (ns.map (Value.int .i64)) ∧ ∀ n ∈ ns, (Lit.int .i64 n).wf = true := by
  obtain ⟨a0, len0, cap0, rfl⟩ := okWide_slice Try.underlying43 hok
  obtain ⟨fuel, hf⟩ := h
  rcases open_ints Try.underlying43 Try.underlying3 (by kernel_rfl) hf with ⟨hcs, _⟩ | ⟨x, l, c, zs, hcs, _, hl, hm, hz, _, hcell, hwz⟩
  · simp [Value.cells] at hcs
    obtain ⟨rfl, rfl, rfl⟩ := hcs
    exact ⟨none, [], 0, rfl, .inl rfl, by simp⟩
  · simp [Value.cells] at hcs
    obtain ⟨rfl, rfl, rfl⟩ := hcs
    simp only [if_true] at hz
    refine ⟨some x, zs.take len0, cap0, by rw [List.length_take, Nat.min_eq_left (by omega)], ?_, fun n hn => hwz n (List.mem_of_mem_take hn)⟩
    by_cases h0 : len0 = 0
    · subst h0; exact .inl (by simp)
    · obtain ⟨b, o, rfl, hc⟩ := ints_at hcell (by omega)
      have hb : b < W.heap.size := World.block_lt_of_cell? W ⟨b, o + 0, none⟩ (hc 0 (by omega))
      refine .inr ⟨b, o, rfl, hb, fun i u hi => ?_⟩
      rw [List.getElem?_map, List.getElem?_take] at hi
      split at hi
      · rename_i hlt
        have hzi : i < zs.length := by omega
        rw [List.getElem?_eq_getElem hzi] at hi
        simp only [Option.map_some, Option.some.injEq] at hi
        subst hi
        rw [hc i hzi]
        simp [List.getD, List.getElem?_eq_getElem hzi]
      · simp at hi

theorem open_texts {H : Type} {enc : TypeId × Value → H} {W : World} {base : Nat} {v : Value} {d : DataW H} {p : List MemPlace}
    (hok : Value.okWide Try.prog W .any base 44 v) (h : DataW.Trod enc Try.prog W 0 (fun _ => true) true 44 v d p) : ∃ (A : Option Addr) (ts : List ByteArray) (cap : Nat), v = .slice A ts.length cap ∧ Cells W W.heap.size A (ts.map Value.string) := by
  obtain ⟨a0, len0, cap0, rfl⟩ := okWide_slice Try.underlying44 hok
  obtain ⟨fuel, hf⟩ := h
  rcases open_strings Try.underlying44 Try.underlying9 (by kernel_rfl) hf with ⟨hcs, _⟩ | ⟨x, l, c, zs, hcs, _, hl, hm, hz, _, hcell, _⟩
  · simp [Value.cells] at hcs
    obtain ⟨rfl, rfl, rfl⟩ := hcs
    exact ⟨none, [], 0, rfl, .inl rfl⟩
  · simp [Value.cells] at hcs
    obtain ⟨rfl, rfl, rfl⟩ := hcs
    simp only [if_true] at hz
    refine ⟨some x, zs.take len0, cap0, by rw [List.length_take, Nat.min_eq_left (by omega)], ?_⟩
    by_cases h0 : len0 = 0
    · subst h0; exact .inl (by simp)
    · obtain ⟨b, o, spot⟩ := x
      have hspot : spot = none := by simpa [Addr.add] using World.cell?_spot (hcell 0 (by omega))
      subst hspot
      have hb : b < W.heap.size := by simpa [Addr.add] using World.block_lt_of_cell? W _ (hcell 0 (by omega))
      refine .inr ⟨b, o, rfl, hb, fun i u hi => ?_⟩
      rw [List.getElem?_map, List.getElem?_take] at hi
      split at hi
      · rename_i hlt
        have hzi : i < zs.length := by omega
        rw [List.getElem?_eq_getElem hzi] at hi
        simp only [Option.map_some, Option.some.injEq] at hi
        subst hi
        have := hcell i hzi
        rw [Addr.add_lit] at this
        rw [this]
        simp [List.getD, List.getElem?_eq_getElem hzi]
      · simp at hi

set_option maxRecDepth 100000 in
theorem round_lifted (os : Os) (started : os.Started) (H : Type) (enc : TypeId × Value → H) :
    ReturnsInHanded {} Try.checked os 5 .any (Rows.octetRoundSpec.pre6 enc Try.prog Try.f5 Rows.octetRoundRow.domain false) (Rows.octetRoundSpec.post enc Try.prog Try.f5 false true false false) := by
  refine returnsInHanded_of_change (C := Try.checked) own started (by kernel_rfl) Try.func5
    (ChangeSpec.witness6 (enc := enc) (C := Try.checked) false ⟨#[], #[.slice none 0 0, .slice none 0 0], []⟩ 8 (by kernel_rfl) (by kernel_rfl) (by kernel_rfl) (by kernel_rfl)) ?_
  intro W base args ds gs before hval0 hW hcnd _
  have hval : ∀ (j : Nat) t v, Try.f5.params[j]? = some t → args[j]? = some v → Value.okWide Try.prog W .any base t v := hval0
  have hW' := hW
  obtain ⟨p, q, hA0, hV, rfl, hfz, hnd⟩ := hW
  have hA : DataW.TrodAll enc Try.prog W 0 (fun _ => true) true Try.f5.params.toList args.toList ds p := hA0
  rw [Try.params5] at hA hval
  obtain ⟨v0, vs0, d0, ds0, p0, q0, hargs, rfl, rfl, h0, r0⟩ := trodAll_cons hA
  obtain ⟨v1, vs1, d1, ds1, p1, q1, rfl, rfl, rfl, h1, r1⟩ := trodAll_cons r0
  obtain ⟨rfl, rfl, rfl⟩ := trodAll_nil r1
  obtain rfl : args = #[v0, v1] := by cases args; simp_all
  obtain ⟨rfl, rfl⟩ := trodVars_none hV
  obtain ⟨A1, ns, c1, rfl, hns, hwf⟩ := open_numbers (hval 0 43 v0 rfl rfl) h0
  obtain ⟨A2, ts, c2, rfl, hts⟩ := open_texts (hval 1 44 v1 rfl rfl) h1
  refine (round_walk A1 ns c1 A2 ts c2 W hns hts hwf).mono fun e W' ⟨he, hb⟩ => ?_
  subst he
  exact ⟨_, rfl, law_post laid (by kernel_rfl) rfl (by kernel_rfl) Try.underlying4 hW' rfl hb⟩

theorem round_holds : Rows.OctetRoundSaid :=
  OpenClaim.holds_of_wide 5 Try.f5 rfl rfl rfl rfl rfl rfl rfl ⟨rfl, rfl, rfl, rfl, rfl⟩ rfl rfl rfl rfl rfl (by kernel_rfl) Try.func5 (by kernel_rfl)
    (of_decide_eq_true (by kernel_rfl)) (by unfold Func.isWrapper; first | (rw [if_pos (by decide +kernel)]; kernel_rfl) | (rw [if_neg (by decide +kernel)]; exact ⟨rfl, rfl⟩))
    (fun os started H enc _ => round_lifted os started H enc)
#print axioms round_holds
end Go.Proofs.Ytpfibdloaddbdaa
