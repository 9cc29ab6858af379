/-
  Layer 14: DiskSurvives, walked from the contract of disk's functions.
-/
import Derived.Test.YtampdfmakhdliaaDiskJ08
import Derived.Test.YtampdfmakhdliaaDiskJ01
import Derived.Test.YtampdfmakhdliaaStrOj
set_option maxRecDepth 100000
namespace Go.Proofs.Ytampdfmakhdliaa
open Go.RowKit Go.Gar
open Go.Gar.Dsk (Dsk)

/-- Strings that are cut and joined. -/
theorem str_mix (a b : List UInt8) (c : Nat) (hb : b.length = 32) :
    ((⟨a.toArray⟩ : ByteArray).extract 0 c ++ (⟨b.toArray⟩ : ByteArray).extract c 32) = ⟨(a.take c ++ b.drop c).toArray⟩ := by
  have h1 : (⟨a.toArray⟩ : ByteArray).extract 0 c = ⟨(a.take c).toArray⟩ := by
    rw [ByteArray.extract_mk]
    simp
  have h2 : (⟨b.toArray⟩ : ByteArray).extract c 32 = ⟨(b.drop c).toArray⟩ := by
    rw [ByteArray.extract_mk]
    congr 1
    rw [← Array.toList_inj]
    simp [← hb]
    exact List.take_of_length_le (by rw [List.length_drop]; omega)
  rw [h1, h2]
  rw [ByteArray.ext_iff]
  simp
set_option maxHeartbeats 8000000 in
set_option maxRecDepth 100000 in
theorem disksurvives_walk {Rep : World → (Nat → Prop) → Nat → Dsk → Prop} (hOK : DiskOK Rep) (A B : Option Addr) (ds es : List Deed) (keep torn cut : Int) (n cap m mcap : Nat) (hn : n = ds.length) (hm : m = es.length) (w : World) (hr : RdD w w.heap.size A ds) (hr2 : RdD w w.heap.size B es) (hI : ∀ t ∈ ds, t.Is) (hI2 : ∀ t ∈ es, t.Is) (hk : isI64 keep) (ht : isI64 torn) (hc : isI64 cut) :
    Calls Try.prog 4 #[.slice A n cap, .slice B m mcap, .int .i64 keep, .int .i64 torn, .int .i64 cut] w fun e w' => e = .returned (.bool true) ∧ Below w.heap.size w w' := by
  have HOK := Lib.hid hOK
  have HN := Lib.hid hn
  have HM := Lib.hid hm
  have HR := Lib.hid hr
  have HRm := Lib.hid hr2
  have HI := Lib.hid hI
  have HI2 := Lib.hid hI2
  have Hk := Lib.hid hk
  have Ht := Lib.hid ht
  have Hc := Lib.hid hc
  clear hOK hn hm hr hr2 hI hI2 hk ht hc
  go_enter Try.func4, Try.ntmps4
  go_wp2_with fail
  refine (some_any HOK.out w A ds n cap HN.out HR.out HI.out).mono ?_
  rintro e w1 ⟨F, g, d, rfl, hR1, hF1, hb1, h91, hfu1, hm1⟩
  have HR1 := Lib.hid hR1
  have HF1 := Lib.hid hF1
  have Hb1 := Lib.hid hb1
  have H91 := Lib.hid h91
  have Hfu1 := Lib.hid hfu1
  have Hm1 := Lib.hid hm1
  clear hR1 hF1 hb1 h91 hfu1 hm1
  unfold ptr
  go_wp2_with fail
  refine (HOK.out.flush HR1.out).mono ?_
  rintro e w2 ⟨rfl, F2, hR2, hF2, ho⟩
  rw [Dsk.flushE_none Hfu1.out]
  obtain ⟨d1, hd1⟩ : ∃ d1, d1 = Dsk.flush d := ⟨_, rfl⟩
  have Hdry := Lib.hid (show Dsk.Dry d1 by rw [hd1]; exact Dsk.dry_flush Hfu1.out)
  have H92 := Lib.hid (show d1.secs.length = 9 by rw [hd1, Dsk.flush_len]; exact H91.out)
  have Hm2 := Lib.hid (show d1.many ≤ 30 by rw [hd1, Dsk.flush_many]; exact Hm1.out)
  have Hfu2 := Lib.hid (show d1.fuse = none by rw [hd1]; exact Dsk.flush_fuse Hfu1.out)
  rw [← hd1] at hR2
  have HR2 := Lib.hid hR2
  have HF2 := Lib.hid (show ∀ j, F2 j → w.heap.size ≤ j from fun j hj => by rcases hF2 j hj with h | h; exact HF1.out j h; exact Nat.le_trans Hb1.out.size h)
  have Hb2 := Lib.hid (Hb1.out.trans (ho.below HF1.out Hb1.out.size))
  clear hR2 hF2 ho hd1 HR1 HF1 Hb1 H91 Hfu1 Hm1
  go_wp2_with fail
  refine (HOK.out.pending HR2.out).mono ?_
  rintro e w3 ⟨rfl, hb3⟩
  rw [Dsk.pending_dry Hdry.out]
  have HR3 := Lib.hid (HOK.out.keep HR2.out (fun j hj => hb3.block j (HOK.out.lt HR2.out j hj)))
  have Hb3 := bb Hb2 hb3
  clear hb3 HR2 Hb2
  go_wp2_with fail
  refine (all_any HOK.out HR3.out).mono ?_
  rintro e w4 ⟨v4, rfl, hO4, hb4⟩
  obtain ⟨s1, hs1⟩ : ∃ s1, s1 = w3.heap.size := ⟨_, rfl⟩
  rw [← hs1] at hO4
  have HO4 := Lib.hid hO4
  have HV4 := Lib.hid (show ∀ j, v4.ownBlock = some j → ¬ F2 j from fun j hj hf => by have := HOK.out.lt HR3.out j hf; have := (hO4.lt hj).1; omega)
  have HR4 := Lib.hid (HOK.out.keep HR3.out (fun j hj => hb4.block j (HOK.out.lt HR3.out j hj)))
  have Hb4 := bb Hb3 hb4
  have Hwr := Lib.hid (Dsk.Wrote.refl (HOK.out.ok HR3.out) Hdry.out)
  have Hok1 := Lib.hid (HOK.out.ok HR3.out)
  clear hO4 hb4 hs1 HR3 Hb3
  go_wp2
  go_loopw [13] (fun i w' => ∃ k : Nat, k ≤ m ∧ k ≤ 20 ∧ i = .int .i64 k ∧ ∃ F d, Rep w' F g d ∧ (∀ j, F j → w.heap.size ≤ j) ∧ Below w.heap.size w w' ∧ d.fuse = none ∧ d.many ≤ 30 + k ∧ Dsk.Wrote d1 d ∧ OwnV w' s1 9 v4 (strs d1) ∧ (∀ j, v4.ownBlock = some j → ¬ F j)) (fun i _ => 20 - (intOf i).toNat)
  case atStart => exact ⟨0, by omega, by omega, rfl, F2, d1, HR4.out, HF2.out, Hb4.out, Hfu2.out, Hm2.out, Hwr.out, HO4.out, HV4.out⟩
  case round =>
    obtain ⟨k, hkm, hk20, rfl, F5, d5, hR5, hF5, hb5, hfu5, hm5, hwr5, hO5, hV5⟩ := hrel
    clear HR4 HF2 Hb4 Hfu2 Hm2 Hwr HO4 HV4
    have HR5 := Lib.hid hR5
    have HF5 := Lib.hid hF5
    have Hb5 := Lib.hid hb5
    have Hfu5 := Lib.hid hfu5
    have Hm5 := Lib.hid hm5
    have Hwr5 := Lib.hid hwr5
    have HO5 := Lib.hid hO5
    have HV5 := Lib.hid hV5
    clear hR5 hF5 hb5 hfu5 hm5 hwr5 hO5 hV5
    by_cases h1m : k < m
    · have hd1 : decide ((k : Int) < (m : Int)) = true := by simp; omega
      by_cases h20 : k < 20
      · have hd2 : decide ((k : Int) < 20) = true := by simp; omega
        obtain ⟨t, b, q, ht, hbB, hix, hcl⟩ := deed_at (cap := mcap) (HRm.out.below Hb5.out) HM.out k h1m
        have hti : t.Is := HI2.out t (List.mem_of_getElem? ht)
        have Hti := Lib.hid hti
        have HbB := Lib.hid hbB
        have Hcl := Lib.hid hcl
        clear ht hti hbB hcl
        go_wp2_with fail
        refine wp_region_G (belowG w.heap.size) (by kernel_rfl) ?_
        have HRd := Lib.hid (HOK.out.keep (w' := wr.drew) HR5.out (fun _ _ => rfl))
        have Hltd := Lib.hid (show ∀ j, F5 j → j < wr.drew.heap.size from HOK.out.lt HRd.out)
        have Hbd := Lib.hid Hb5.out.drew
        have Hcd := Lib.hid (show ∀ j u, t.cells[j]? = some u → wr.drew.cell? ⟨b, q + j, none⟩ = some u from Hcl.out)
        have HOd := Lib.hid (show OwnV wr.drew s1 9 v4 (strs d1) from HO5.out)
        clear HR5 Hb5 Hcl HO5
        generalize wr.drew = W at *
        have hll : ∀ x : Later (belowG w.heap.size) W, ∀ j u, t.cells[j]? = some u → x.to.cell? ⟨b, q + j, none⟩ = some u := fun x j u hj => (show Below w.heap.size W x.to from x.grown).cell (p := ⟨b, q + j, none⟩) HbB.out |>.trans (Hcd.out j u hj)
        have hq1 : ∀ x : Later (belowG w.heap.size) W, x.to.cell? ⟨b, q + 1, none⟩ = some (.int .i64 t.at_) := fun x => hll x 1 _ rfl
        have Hld := Lib.hid (deed_load hll)
        clear hll
        refine segG (by kernel_rfl) (fun _ _ _ _ _ h => h) [0, 1, 2, 3, 4, 5, 6, 7, 8, 9] [_, _, _, _, _, _, _, _, _, _] 2 rfl rfl (by kernel_rfl) ?_
        repeat (first | (refine wpQuiet_load_at 34 (.tmp 49) rfl rfl t.cells.toArray Hld.out (by kernel_rfl) ?_; simp only [Act.put, List.setIfInBounds_toArray, List.set]) | go_big_quiet_step (fail))
        refine wpQuiet_nil ?_
        clear hq1 Hld hix Hcd
        refine oneG 10 1 rfl (by kernel_rfl) rfl ?_
        go_wp2_with fail
        refine (wrote_any W t Hti.out).mono ?_
        rintro e w6 ⟨g2, n2, rfl, hn2, hg2, hB2, hb2⟩
        have hbr := hb2.mono Hbd.out.size
        have HR6 := Lib.hid (HOK.out.keep HRd.out (fun j hj => hb2.block j (Hltd.out j hj)))
        have Hn2 := Lib.hid hn2
        have HB2 := Lib.hid hB2
        have Hb6 := Lib.hid (Hbd.out.trans hbr)
        have HO6 := Lib.hid (HOd.out.below hb2)
        have HW6 := Lib.hid (show ∀ j, v4.ownBlock = some j → j < w6.heap.size from fun j hj => Nat.lt_of_lt_of_le (HOd.out.lt hj).2 hb2.size)
        have Hnf := Lib.hid (show ∀ p, some (⟨g2, 0, none⟩ : Addr) = some p → ¬ F5 p.block from fun p hp hf => by
          obtain rfl := Option.some.inj hp
          have h9 : g2 < W.heap.size := Hltd.out g2 hf
          omega)
        clear hn2 hB2 hb2 hg2 HRd Hbd HOd
        go_wp2
        refine ⟨hbr, ?_⟩
        clear hbr
        refine oneG 11 0 rfl (by kernel_rfl) rfl ?_
        go_wp2_with fail
        have hwl := wroteL_len t
        refine (write_at HOK.out t.at_ (some ⟨g2, 0, none⟩) (wroteL t) n2 n2 HR6.out Hti.out.at_ Hn2.out (Rd.of_all HB2.out) Hnf.out (Nat.le_refl _) (by have := Hn2.out; omega) (by have := Hm5.out; omega)).mono ?_
        rintro e w7 ⟨E, rfl, _, F7, hR7, hF7, ho⟩
        have hbr := ho.below HF5.out Hb6.out.size
        have HR7 := Lib.hid hR7
        have HF7 := Lib.hid (show ∀ j, F7 j → w.heap.size ≤ j from fun j hj => by rcases hF7 j hj with h | h; exact HF5.out j h; exact Nat.le_trans Hb6.out.size h)
        have Hb7 := Lib.hid (Hb6.out.trans hbr)
        have HO7 := Lib.hid (HO6.out.keep (fun j hj => ho.block j (HO6.out.lt hj).2 (HV5.out j hj)))
        have HV7 := Lib.hid (show ∀ j, v4.ownBlock = some j → ¬ F7 j from fun j hj hf => by
          rcases hF7 j hf with h | h
          · exact HV5.out j hj h
          · have := HW6.out j hj; omega)
        clear hR7 hF7 ho hwl HR6 HB2 Hb6 HO6 HW6
        go_wp2
        refine ⟨hbr, ?_⟩
        clear hbr
        refine wpAnyG_done (by kernel_rfl) ?_
        go_wp2
        exact ⟨⟨k + 1, by omega, by omega, by go_num, F7, _, HR7.out, HF7.out, Hb7.out, Dsk.write_fuse Hfu5.out _ _, by have := Hm5.out; have := Dsk.write_many d5 t.at_ (wroteL t); omega, Hwr5.out.write _ _, HO7.out, HV7.out⟩, by simp [intOf]; omega⟩
      · have hd2 : decide ((k : Int) < 20) = false := by simp; omega
        go_wp2_with fail
        refine (all_any HOK.out HR5.out).mono ?_
        rintro e w6 ⟨v6, rfl, hO6, hb6⟩
        have HO6 := Lib.hid hO6
        have HV6 := Lib.hid (show ∀ j, v6.ownBlock = some j → ¬ F5 j from fun j hj hf => by have := HOK.out.lt HR5.out j hf; have := (hO6.lt hj).1; omega)
        have HO46 := Lib.hid (HO5.out.below hb6)
        have HR6 := Lib.hid (HOK.out.keep HR5.out (fun j hj => hb6.block j (HOK.out.lt HR5.out j hj)))
        have Hb6 := bb Hb5 hb6
        clear hO6 hb6 HR5 Hb5 HO5
        go_wp2_with fail
        refine (HOK.out.crash keep torn cut HR6.out Hk.out Ht.out Hc.out).mono ?_
        rintro e w7 ⟨rfl, F7, hR7, hF7, ho⟩
        obtain ⟨d7, hd7⟩ : ∃ d7, d7 = Dsk.crash d5 keep torn cut := ⟨_, rfl⟩
        have h55 : d5.secs.length = 9 := by rw [Hwr5.out.len]; exact H92.out
        have Hcore := Lib.hid (show ∀ k : Nat, k < 9 → Dsk.read d7 (k : Int) = Dsk.read d1 (k : Int) ∨ Dsk.read d7 (k : Int) = Dsk.read d5 (k : Int) ∨ (torn = (Dsk.wetN d5.secs k : Int) ∧ Dsk.wetN d5.secs (k + 1) = Dsk.wetN d5.secs k + 1 ∧ 0 ≤ cut ∧ cut < 32 ∧ Dsk.read d7 (k : Int) = (Dsk.read d5 (k : Int)).take cut.toNat ++ (Dsk.read d1 (k : Int)).drop cut.toNat) from fun k hk => by
          rw [hd7]
          exact Dsk.survives Hwr5.out keep torn cut k (by rw [H92.out]; exact hk))
        have h57 : d7.secs.length = 9 := by rw [hd7, Dsk.crash_len]; exact h55
        have Hdry7 := Lib.hid (show Dsk.Dry d7 by rw [hd7]; exact Dsk.dry_crash _ _ _ _)
        have Hfu7 := Lib.hid (show d7.fuse = none by rw [hd7]; rfl)
        rw [← hd7] at hR7
        have HR7 := Lib.hid hR7
        have HF7 := Lib.hid (show ∀ j, F7 j → w.heap.size ≤ j from fun j hj => by rcases hF7 j hj with h | h; exact HF5.out j h; exact Nat.le_trans Hb6.out.size h)
        have HO47 := Lib.hid (HO46.out.keep (fun j hj => ho.block j (HO46.out.lt hj).2 (HV5.out j hj)))
        have HO67 := Lib.hid (HO6.out.keep (fun j hj => ho.block j (HO6.out.lt hj).2 (HV6.out j hj)))
        have Hb7 := Lib.hid (Hb6.out.trans (ho.below HF5.out Hb6.out.size))
        have Hok5 := Lib.hid (HOK.out.ok HR6.out)
        have H55 := Lib.hid h55
        have H57 := Lib.hid h57
        clear hR7 hF7 ho hd7 h55 h57 HR6 Hb6 HO46 HO6 HF5 HV5 HV6 Hfu5 Hm5
        go_wp2_with fail
        refine (all_any HOK.out HR7.out).mono ?_
        rintro e w8 ⟨v8, rfl, hO8, hb8⟩
        obtain ⟨A4, c4, e4, r4⟩ := (HO47.out.below hb8).rd
        obtain ⟨A6, c6, e6, r6⟩ := (HO67.out.below hb8).rd
        obtain ⟨A8, c8, e8, r8'⟩ := hO8.rd
        have h4l : (strs d1).length = 9 := by rw [strs_len]; exact H92.out
        have h6l : (strs d5).length = 9 := by rw [strs_len]; exact H55.out
        have h8l : (strs d7).length = 9 := by rw [strs_len]; exact H57.out
        rw [h4l] at e4
        rw [h6l] at e6
        rw [h8l] at e8
        subst e4
        subst e6
        subst e8
        have HR8 := Lib.hid (HOK.out.keep HR7.out (fun j hj => hb8.block j (HOK.out.lt HR7.out j hj)))
        have Hb8 := bb Hb7 hb8
        have R4 := Lib.hid r4
        have R6 := Lib.hid r6
        have R8 := Lib.hid r8'
        have H4l := Lib.hid h4l
        have H6l := Lib.hid h6l
        have H8l := Lib.hid h8l
        have Hl1 := Lib.hid (show ∀ k : Nat, k < 9 → (Dsk.read d1 (k : Int)).length = 32 ∧ (Dsk.read d5 (k : Int)).length = 32 ∧ (Dsk.read d7 (k : Int)).length = 32 from fun k hk =>
          ⟨by rw [Dsk.Ok.read Hok1.out (there9 H92.out k hk)], by rw [Dsk.Ok.read Hok5.out (there9 H55.out k hk)], by rw [Dsk.Ok.read (HOK.out.ok HR8.out) (there9 H57.out k hk)]⟩)
        clear hO8 hb8 r4 r6 r8' h4l h6l h8l HR7 Hb7 HO47 HO67 Hok5
        clear hd1 hd2
        go_wp2
        go_loopw [16, 17] (fun mv i w' => ∃ k mx : Nat, k ≤ 9 ∧ mv = .int .i64 mx ∧ i = .int .i64 k ∧ mx ≤ 1 ∧ (mx = 1 → torn < (Dsk.wetN d5.secs k : Int)) ∧ Below w8.heap.size w8 w') (fun _ i _ => 9 - (intOf i).toNat)
        case atStart => exact ⟨0, 0, by omega, rfl, rfl, by omega, fun h => by omega, Below.refl _ _⟩
        case round =>
          obtain ⟨k3, mx, hk3, rfl, rfl, hmx, hmt, hbx⟩ := hrel
          have Hmt := Lib.hid hmt
          clear hmt
          by_cases h9 : k3 < 9
          · have hd9 : decide ((k3 : Int) < 9) = true := by simp; omega
            obtain ⟨u4, b4, q4, hu4, hb4, hix4, hc4⟩ := str_at (cap := c4) (R4.out.below hbx) H4l.out.symm k3 h9
            obtain ⟨u6, b6, q6, hu6, hb6, hix6, hc6⟩ := str_at (cap := c6) (R6.out.below hbx) H6l.out.symm k3 h9
            obtain ⟨u8', b8, q8, hu8, hb8, hix8, hc8⟩ := str_at (cap := c8) (R8.out.below hbx) H8l.out.symm k3 h9
            have hs4 := strs_at (by rw [H92.out]; exact h9) hu4
            have hs6 := strs_at (by rw [H55.out]; exact h9) hu6
            have hs8 := strs_at (by rw [H57.out]; exact h9) hu8
            subst hs4
            subst hs6
            subst hs8
            obtain ⟨S1, hS1⟩ : ∃ S1 : ByteArray, S1 = ⟨(Dsk.read d1 (k3 : Int)).toArray⟩ := ⟨_, rfl⟩
            obtain ⟨S2, hS2⟩ : ∃ S2 : ByteArray, S2 = ⟨(Dsk.read d5 (k3 : Int)).toArray⟩ := ⟨_, rfl⟩
            obtain ⟨S3, hS3⟩ : ∃ S3 : ByteArray, S3 = ⟨(Dsk.read d7 (k3 : Int)).toArray⟩ := ⟨_, rfl⟩
            unfold strV at hc4 hc6 hc8
            rw [← hS1] at hc4
            rw [← hS2] at hc6
            rw [← hS3] at hc8
            have HS1 := Lib.hid hS1
            have HS2 := Lib.hid hS2
            have HS3 := Lib.hid hS3
            have Hbx := Lib.hid hbx
            have Hc4 := Lib.hid (show wr.drew.cell? ⟨b4, q4, none⟩ = some (.string S1) from hc4)
            have Hc6 := Lib.hid (show wr.drew.cell? ⟨b6, q6, none⟩ = some (.string S2) from hc6)
            have Hc8 := Lib.hid (show wr.drew.cell? ⟨b8, q8, none⟩ = some (.string S3) from hc8)
            have Hlt4 := Lib.hid (show b4 < wr.drew.heap.size from Nat.lt_of_lt_of_le hb4 hbx.size)
            have Hlt6 := Lib.hid (show b6 < wr.drew.heap.size from Nat.lt_of_lt_of_le hb6 hbx.size)
            have Hlt8 := Lib.hid (show b8 < wr.drew.heap.size from Nat.lt_of_lt_of_le hb8 hbx.size)
            clear hbx hu4 hu6 hu8 hb4 hb6 hb8 hc4 hc6 hc8 hS1 hS2 hS3
            go_wp2_with fail
            refine wp_region_G grows (by kernel_rfl) ?_
            have Hbx := Lib.hid Hbx.out.drew
            generalize wr.drew = W9 at *
            have hl4 := str_later Hlt4.out (Nat.le_refl _) Hc4.out
            have hl6 := str_later Hlt6.out (Nat.le_refl _) Hc6.out
            have hl8 := str_later Hlt8.out (Nat.le_refl _) Hc8.out
            cases hS31 : (S3.toList == S1.toList) with
            | true =>
              refine segG (by kernel_rfl) (fun _ _ _ _ _ h => h) [0, 1, 2, 3, 4, 5, 6, 7, 8, 9] [_, _, _, _, _, _, _, _, _, _] 10 rfl rfl (by kernel_rfl) ?_
              repeat (go_big_quiet_step (fail))
              refine wpQuiet_nil ?_
              refine segG (by kernel_rfl) (fun _ _ _ _ _ h => h) [10, 11, 12, 13, 14, 15, 16, 17, 18, 19] [_, _, _, _, _, _, _, _, _, _] 0 rfl rfl (by kernel_rfl) ?_
              repeat (go_big_quiet_step (fail))
              refine wpQuiet_nil ?_
              refine wpAnyG_done (by kernel_rfl) ?_
              clear hl4 hl6 hl8 hix4 hix6 hix8 hS31
              go_wp2
              exact ⟨⟨k3 + 1, mx, by omega, by go_num, by go_num, hmx, fun h => by have := Hmt.out h; have := Dsk.wetN_mono d5.secs k3; omega, Hbx.out⟩, by simp [intOf]; omega⟩
            | false =>
              cases hS32 : (S3.toList == S2.toList) with
              | true =>
                refine segG (by kernel_rfl) (fun _ _ _ _ _ h => h) [0, 1, 2, 3, 4, 5, 6, 7, 8, 9] [_, _, _, _, _, _, _, _, _, _] 10 rfl rfl (by kernel_rfl) ?_
                repeat (go_big_quiet_step (fail))
                refine wpQuiet_nil ?_
                refine segG (by kernel_rfl) (fun _ _ _ _ _ h => h) [10, 11, 12, 13, 14, 15, 16, 17, 18, 19] [_, _, _, _, _, _, _, _, _, _] 0 rfl rfl (by kernel_rfl) ?_
                repeat (go_big_quiet_step (fail))
                refine wpQuiet_nil ?_
                refine wpAnyG_done (by kernel_rfl) ?_
                clear hl4 hl6 hl8 hix4 hix6 hix8 hS31 hS32
                go_wp2
                exact ⟨⟨k3 + 1, mx, by omega, by go_num, by go_num, hmx, fun h => by have := Hmt.out h; have := Dsk.wetN_mono d5.secs k3; omega, Hbx.out⟩, by simp [intOf]; omega⟩
              | false =>
                have hcx : torn = (Dsk.wetN d5.secs k3 : Int) ∧ Dsk.wetN d5.secs (k3 + 1) = Dsk.wetN d5.secs k3 + 1 ∧ 0 ≤ cut ∧ cut < 32 ∧ Dsk.read d7 (k3 : Int) = (Dsk.read d5 (k3 : Int)).take cut.toNat ++ (Dsk.read d1 (k3 : Int)).drop cut.toNat := by
                  rcases Hcore.out k3 h9 with h | h | h
                  · rw [HS3.out, HS1.out, h] at hS31; simp at hS31
                  · rw [HS3.out, HS2.out, h] at hS32; simp at hS32
                  · exact h
                obtain ⟨hl1, hl5, hl7⟩ := Hl1.out k3 h9
                have hz1 : S1.size = 32 := by rw [HS1.out]; show (Dsk.read d1 (k3 : Int)).toArray.size = 32; simpa using hl1
                have hz2 : S2.size = 32 := by rw [HS2.out]; show (Dsk.read d5 (k3 : Int)).toArray.size = 32; simpa using hl5
                have hz3 : S3.size = 32 := by rw [HS3.out]; show (Dsk.read d7 (k3 : Int)).toArray.size = 32; simpa using hl7
                have hmix : S2.extract 0 cut.toNat ++ S1.extract cut.toNat 32 = S3 := by
                  rw [HS1.out, HS2.out, HS3.out, hcx.2.2.2.2]
                  exact str_mix _ _ cut.toNat hl1
                obtain ⟨X2, hX2⟩ : ∃ X2, X2 = S2.extract 0 cut.toNat := ⟨_, rfl⟩
                obtain ⟨X1, hX1⟩ : ∃ X1, X1 = S1.extract cut.toNat 32 := ⟨_, rfl⟩
                have hu := fun W => str_upto S2 cut hcx.2.2.1 (by rw [hz2]; have := hcx.2.2.2.1; omega) W
                have hf := fun W => str_from S1 cut hcx.2.2.1 (by rw [hz1]; have := hcx.2.2.2.1; omega) W
                rw [hz1] at hf
                rw [← hX2] at hu
                rw [← hX1] at hf
                rw [← hX2, ← hX1] at hmix
                have hadd := fun W => str_add X2 X1 S3 hmix (by rw [hX2, hX1]; simp only [ByteArray.size_extract]; omega) W
                have hmx0 : mx = 0 := by
                  rcases Nat.eq_zero_or_pos mx with h | h
                  · exact h
                  · have h1 : mx = 1 := by omega
                    have := Hmt.out h1
                    have := hcx.1
                    omega
                have Hmx0 := Lib.hid hmx0
                have Hcx := Lib.hid hcx
                have hcut0 : decide (cut < 0) = false := by have := hcx.2.2.1; simp; omega
                have hcut1 : decide (32 < cut) = false := by have := hcx.2.2.2.1; simp; omega
                clear hmx0 hcx hX2 hX1 hmix hl1 hl5 hl7 hz1 hz2
                refine segG (by kernel_rfl) (fun _ _ _ _ _ h => h) [0, 1, 2, 3, 4, 5, 6, 7, 8, 9] [_, _, _, _, _, _, _, _, _, _] 10 rfl rfl (by kernel_rfl) ?_
                repeat (go_big_quiet_step (fail))
                refine wpQuiet_nil ?_
                refine segG (by kernel_rfl) (fun _ _ _ _ _ h => h) [10, 11, 12, 13, 14, 15, 16, 17, 18, 19] [_, _, _, _, _, _, _, _, _, _] 0 rfl rfl (by kernel_rfl) ?_
                repeat (go_big_quiet_step (fail))
                refine wpQuiet_nil ?_
                refine wpAnyG_done (by kernel_rfl) ?_
                clear hl4 hl6 hl8 hS31 hS32
                go_wp2_with fail
                refine wp_region_G grows (by kernel_rfl) ?_
                have Hbx := Lib.hid Hbx.out.drew
                have Hc4 := Lib.hid (show W9.drew.cell? ⟨b4, q4, none⟩ = some (.string S1) from Hc4.out)
                have Hc6 := Lib.hid (show W9.drew.cell? ⟨b6, q6, none⟩ = some (.string S2) from Hc6.out)
                have Hc8 := Lib.hid (show W9.drew.cell? ⟨b8, q8, none⟩ = some (.string S3) from Hc8.out)
                have Hlt4 := Lib.hid (show b4 < W9.drew.heap.size from Hlt4.out)
                have Hlt6 := Lib.hid (show b6 < W9.drew.heap.size from Hlt6.out)
                have Hlt8 := Lib.hid (show b8 < W9.drew.heap.size from Hlt8.out)
                generalize W9.drew = W10 at *
                have hl4 := str_later Hlt4.out (Nat.le_refl _) Hc4.out
                have hl6 := str_later Hlt6.out (Nat.le_refl _) Hc6.out
                have hl8 := str_later Hlt8.out (Nat.le_refl _) Hc8.out
                refine segG (by kernel_rfl) (fun _ _ _ _ _ h => h) [0, 1, 2, 3, 4, 5, 6, 7, 8, 9, 10, 11, 12] [_, _, _, _, _, _, _, _, _, _, _, _, _] 21 rfl rfl (by kernel_rfl) ?_
                repeat (go_big_quiet_step (fail))
                refine wpQuiet_nil ?_
                refine segG (by kernel_rfl) (fun _ _ _ _ _ h => h) [13, 14, 15, 16, 17, 18, 19, 20, 21, 22, 23] [_, _, _, _, _, _, _, _, _, _, _] 10 rfl rfl (by kernel_rfl) ?_
                repeat (go_big_quiet_step (fail))
                refine wpQuiet_nil ?_
                refine segG (by kernel_rfl) (fun _ _ _ _ _ h => h) [24, 25, 26, 27, 28, 29, 30, 31, 32, 33] [_, _, _, _, _, _, _, _, _, _] 0 rfl rfl (by kernel_rfl) ?_
                repeat (first | (refine wpQuiet_str_add (.tmp 127) (.tmp 133) rfl rfl rfl hadd (by kernel_rfl) ?_; simp only [Act.put, List.setIfInBounds_toArray, List.set]) | go_big_quiet_step (fail))
                refine wpQuiet_nil ?_
                refine wpAnyG_done (by kernel_rfl) ?_
                clear hl4 hl6 hl8 hix4 hix6 hix8 hu hf hadd hcut0 hcut1 hz3
                go_wp2
                exact ⟨⟨k3 + 1, mx + 1, by omega, by go_num, by go_num, by have := Hmx0.out; omega, fun _ => by have := Hcx.out.1; have := Hcx.out.2.1; omega, Hbx.out⟩, by simp [intOf]; omega⟩
          · have hd9 : decide ((k3 : Int) < 9) = false := by simp; omega
            have HR9 := Lib.hid (HOK.out.keep HR8.out (fun j hj => hbx.block j (HOK.out.lt HR8.out j hj)))
            have Hb9 := Lib.hid (Hb8.out.trans (hbx.mono Hb8.out.size))
            clear hbx
            go_wp2_with fail
            refine (awake14_any HOK.out wr).mono ?_
            rintro e w10 ⟨rfl, hb10⟩
            have HR10 := Lib.hid (HOK.out.keep HR9.out (fun j hj => hb10.block j (HOK.out.lt HR9.out j hj)))
            have Hb10 := bb Hb9 hb10
            clear hb10 HR9 Hb9
            go_wp2_with fail
            refine (HOK.out.pending HR10.out).mono ?_
            rintro e w11 ⟨rfl, hb11⟩
            rw [Dsk.pending_dry Hdry7.out]
            have HR11 := Lib.hid (HOK.out.keep HR10.out (fun j hj => hb11.block j (HOK.out.lt HR10.out j hj)))
            have Hb11 := bb Hb10 hb11
            clear hb11 HR10 Hb10
            go_wp2_with fail
            refine (HOK.out.flush HR11.out).mono ?_
            rintro e w12 ⟨rfl, F12, hR12, hF12, ho⟩
            rw [Dsk.flushE_none Hfu7.out]
            have Hb12 := Lib.hid (Hb11.out.trans (ho.below HF7.out Hb11.out.size))
            clear hR12 hF12 ho HR11 Hb11
            go_wp2
            go_ret
            exact ⟨by simp, Hb12.out⟩
    · have hd1 : decide ((k : Int) < (m : Int)) = false := by simp; omega
      go_wp2_with fail
      refine (all_any HOK.out HR5.out).mono ?_
      rintro e w6 ⟨v6, rfl, hO6, hb6⟩
      have HO6 := Lib.hid hO6
      have HV6 := Lib.hid (show ∀ j, v6.ownBlock = some j → ¬ F5 j from fun j hj hf => by have := HOK.out.lt HR5.out j hf; have := (hO6.lt hj).1; omega)
      have HO46 := Lib.hid (HO5.out.below hb6)
      have HR6 := Lib.hid (HOK.out.keep HR5.out (fun j hj => hb6.block j (HOK.out.lt HR5.out j hj)))
      have Hb6 := bb Hb5 hb6
      clear hO6 hb6 HR5 Hb5 HO5
      go_wp2_with fail
      refine (HOK.out.crash keep torn cut HR6.out Hk.out Ht.out Hc.out).mono ?_
      rintro e w7 ⟨rfl, F7, hR7, hF7, ho⟩
      obtain ⟨d7, hd7⟩ : ∃ d7, d7 = Dsk.crash d5 keep torn cut := ⟨_, rfl⟩
      have h55 : d5.secs.length = 9 := by rw [Hwr5.out.len]; exact H92.out
      have Hcore := Lib.hid (show ∀ k : Nat, k < 9 → Dsk.read d7 (k : Int) = Dsk.read d1 (k : Int) ∨ Dsk.read d7 (k : Int) = Dsk.read d5 (k : Int) ∨ (torn = (Dsk.wetN d5.secs k : Int) ∧ Dsk.wetN d5.secs (k + 1) = Dsk.wetN d5.secs k + 1 ∧ 0 ≤ cut ∧ cut < 32 ∧ Dsk.read d7 (k : Int) = (Dsk.read d5 (k : Int)).take cut.toNat ++ (Dsk.read d1 (k : Int)).drop cut.toNat) from fun k hk => by
        rw [hd7]
        exact Dsk.survives Hwr5.out keep torn cut k (by rw [H92.out]; exact hk))
      have h57 : d7.secs.length = 9 := by rw [hd7, Dsk.crash_len]; exact h55
      have Hdry7 := Lib.hid (show Dsk.Dry d7 by rw [hd7]; exact Dsk.dry_crash _ _ _ _)
      have Hfu7 := Lib.hid (show d7.fuse = none by rw [hd7]; rfl)
      rw [← hd7] at hR7
      have HR7 := Lib.hid hR7
      have HF7 := Lib.hid (show ∀ j, F7 j → w.heap.size ≤ j from fun j hj => by rcases hF7 j hj with h | h; exact HF5.out j h; exact Nat.le_trans Hb6.out.size h)
      have HO47 := Lib.hid (HO46.out.keep (fun j hj => ho.block j (HO46.out.lt hj).2 (HV5.out j hj)))
      have HO67 := Lib.hid (HO6.out.keep (fun j hj => ho.block j (HO6.out.lt hj).2 (HV6.out j hj)))
      have Hb7 := Lib.hid (Hb6.out.trans (ho.below HF5.out Hb6.out.size))
      have Hok5 := Lib.hid (HOK.out.ok HR6.out)
      have H55 := Lib.hid h55
      have H57 := Lib.hid h57
      clear hR7 hF7 ho hd7 h55 h57 HR6 Hb6 HO46 HO6 HF5 HV5 HV6 Hfu5 Hm5
      go_wp2_with fail
      refine (all_any HOK.out HR7.out).mono ?_
      rintro e w8 ⟨v8, rfl, hO8, hb8⟩
      obtain ⟨A4, c4, e4, r4⟩ := (HO47.out.below hb8).rd
      obtain ⟨A6, c6, e6, r6⟩ := (HO67.out.below hb8).rd
      obtain ⟨A8, c8, e8, r8'⟩ := hO8.rd
      have h4l : (strs d1).length = 9 := by rw [strs_len]; exact H92.out
      have h6l : (strs d5).length = 9 := by rw [strs_len]; exact H55.out
      have h8l : (strs d7).length = 9 := by rw [strs_len]; exact H57.out
      rw [h4l] at e4
      rw [h6l] at e6
      rw [h8l] at e8
      subst e4
      subst e6
      subst e8
      have HR8 := Lib.hid (HOK.out.keep HR7.out (fun j hj => hb8.block j (HOK.out.lt HR7.out j hj)))
      have Hb8 := bb Hb7 hb8
      have R4 := Lib.hid r4
      have R6 := Lib.hid r6
      have R8 := Lib.hid r8'
      have H4l := Lib.hid h4l
      have H6l := Lib.hid h6l
      have H8l := Lib.hid h8l
      have Hl1 := Lib.hid (show ∀ k : Nat, k < 9 → (Dsk.read d1 (k : Int)).length = 32 ∧ (Dsk.read d5 (k : Int)).length = 32 ∧ (Dsk.read d7 (k : Int)).length = 32 from fun k hk =>
        ⟨by rw [Dsk.Ok.read Hok1.out (there9 H92.out k hk)], by rw [Dsk.Ok.read Hok5.out (there9 H55.out k hk)], by rw [Dsk.Ok.read (HOK.out.ok HR8.out) (there9 H57.out k hk)]⟩)
      clear hO8 hb8 r4 r6 r8' h4l h6l h8l HR7 Hb7 HO47 HO67 Hok5
      clear hd1
      go_wp2
      go_loopw [16, 17] (fun mv i w' => ∃ k mx : Nat, k ≤ 9 ∧ mv = .int .i64 mx ∧ i = .int .i64 k ∧ mx ≤ 1 ∧ (mx = 1 → torn < (Dsk.wetN d5.secs k : Int)) ∧ Below w8.heap.size w8 w') (fun _ i _ => 9 - (intOf i).toNat)
      case atStart => exact ⟨0, 0, by omega, rfl, rfl, by omega, fun h => by omega, Below.refl _ _⟩
      case round =>
        obtain ⟨k3, mx, hk3, rfl, rfl, hmx, hmt, hbx⟩ := hrel
        have Hmt := Lib.hid hmt
        clear hmt
        by_cases h9 : k3 < 9
        · have hd9 : decide ((k3 : Int) < 9) = true := by simp; omega
          obtain ⟨u4, b4, q4, hu4, hb4, hix4, hc4⟩ := str_at (cap := c4) (R4.out.below hbx) H4l.out.symm k3 h9
          obtain ⟨u6, b6, q6, hu6, hb6, hix6, hc6⟩ := str_at (cap := c6) (R6.out.below hbx) H6l.out.symm k3 h9
          obtain ⟨u8', b8, q8, hu8, hb8, hix8, hc8⟩ := str_at (cap := c8) (R8.out.below hbx) H8l.out.symm k3 h9
          have hs4 := strs_at (by rw [H92.out]; exact h9) hu4
          have hs6 := strs_at (by rw [H55.out]; exact h9) hu6
          have hs8 := strs_at (by rw [H57.out]; exact h9) hu8
          subst hs4
          subst hs6
          subst hs8
          obtain ⟨S1, hS1⟩ : ∃ S1 : ByteArray, S1 = ⟨(Dsk.read d1 (k3 : Int)).toArray⟩ := ⟨_, rfl⟩
          obtain ⟨S2, hS2⟩ : ∃ S2 : ByteArray, S2 = ⟨(Dsk.read d5 (k3 : Int)).toArray⟩ := ⟨_, rfl⟩
          obtain ⟨S3, hS3⟩ : ∃ S3 : ByteArray, S3 = ⟨(Dsk.read d7 (k3 : Int)).toArray⟩ := ⟨_, rfl⟩
          unfold strV at hc4 hc6 hc8
          rw [← hS1] at hc4
          rw [← hS2] at hc6
          rw [← hS3] at hc8
          have HS1 := Lib.hid hS1
          have HS2 := Lib.hid hS2
          have HS3 := Lib.hid hS3
          have Hbx := Lib.hid hbx
          have Hc4 := Lib.hid (show wr.drew.cell? ⟨b4, q4, none⟩ = some (.string S1) from hc4)
          have Hc6 := Lib.hid (show wr.drew.cell? ⟨b6, q6, none⟩ = some (.string S2) from hc6)
          have Hc8 := Lib.hid (show wr.drew.cell? ⟨b8, q8, none⟩ = some (.string S3) from hc8)
          have Hlt4 := Lib.hid (show b4 < wr.drew.heap.size from Nat.lt_of_lt_of_le hb4 hbx.size)
          have Hlt6 := Lib.hid (show b6 < wr.drew.heap.size from Nat.lt_of_lt_of_le hb6 hbx.size)
          have Hlt8 := Lib.hid (show b8 < wr.drew.heap.size from Nat.lt_of_lt_of_le hb8 hbx.size)
          clear hbx hu4 hu6 hu8 hb4 hb6 hb8 hc4 hc6 hc8 hS1 hS2 hS3
          go_wp2_with fail
          refine wp_region_G grows (by kernel_rfl) ?_
          have Hbx := Lib.hid Hbx.out.drew
          generalize wr.drew = W9 at *
          have hl4 := str_later Hlt4.out (Nat.le_refl _) Hc4.out
          have hl6 := str_later Hlt6.out (Nat.le_refl _) Hc6.out
          have hl8 := str_later Hlt8.out (Nat.le_refl _) Hc8.out
          cases hS31 : (S3.toList == S1.toList) with
          | true =>
            refine segG (by kernel_rfl) (fun _ _ _ _ _ h => h) [0, 1, 2, 3, 4, 5, 6, 7, 8, 9] [_, _, _, _, _, _, _, _, _, _] 10 rfl rfl (by kernel_rfl) ?_
            repeat (go_big_quiet_step (fail))
            refine wpQuiet_nil ?_
            refine segG (by kernel_rfl) (fun _ _ _ _ _ h => h) [10, 11, 12, 13, 14, 15, 16, 17, 18, 19] [_, _, _, _, _, _, _, _, _, _] 0 rfl rfl (by kernel_rfl) ?_
            repeat (go_big_quiet_step (fail))
            refine wpQuiet_nil ?_
            refine wpAnyG_done (by kernel_rfl) ?_
            clear hl4 hl6 hl8 hix4 hix6 hix8 hS31
            go_wp2
            exact ⟨⟨k3 + 1, mx, by omega, by go_num, by go_num, hmx, fun h => by have := Hmt.out h; have := Dsk.wetN_mono d5.secs k3; omega, Hbx.out⟩, by simp [intOf]; omega⟩
          | false =>
            cases hS32 : (S3.toList == S2.toList) with
            | true =>
              refine segG (by kernel_rfl) (fun _ _ _ _ _ h => h) [0, 1, 2, 3, 4, 5, 6, 7, 8, 9] [_, _, _, _, _, _, _, _, _, _] 10 rfl rfl (by kernel_rfl) ?_
              repeat (go_big_quiet_step (fail))
              refine wpQuiet_nil ?_
              refine segG (by kernel_rfl) (fun _ _ _ _ _ h => h) [10, 11, 12, 13, 14, 15, 16, 17, 18, 19] [_, _, _, _, _, _, _, _, _, _] 0 rfl rfl (by kernel_rfl) ?_
              repeat (go_big_quiet_step (fail))
              refine wpQuiet_nil ?_
              refine wpAnyG_done (by kernel_rfl) ?_
              clear hl4 hl6 hl8 hix4 hix6 hix8 hS31 hS32
              go_wp2
              exact ⟨⟨k3 + 1, mx, by omega, by go_num, by go_num, hmx, fun h => by have := Hmt.out h; have := Dsk.wetN_mono d5.secs k3; omega, Hbx.out⟩, by simp [intOf]; omega⟩
            | false =>
              have hcx : torn = (Dsk.wetN d5.secs k3 : Int) ∧ Dsk.wetN d5.secs (k3 + 1) = Dsk.wetN d5.secs k3 + 1 ∧ 0 ≤ cut ∧ cut < 32 ∧ Dsk.read d7 (k3 : Int) = (Dsk.read d5 (k3 : Int)).take cut.toNat ++ (Dsk.read d1 (k3 : Int)).drop cut.toNat := by
                rcases Hcore.out k3 h9 with h | h | h
                · rw [HS3.out, HS1.out, h] at hS31; simp at hS31
                · rw [HS3.out, HS2.out, h] at hS32; simp at hS32
                · exact h
              obtain ⟨hl1, hl5, hl7⟩ := Hl1.out k3 h9
              have hz1 : S1.size = 32 := by rw [HS1.out]; show (Dsk.read d1 (k3 : Int)).toArray.size = 32; simpa using hl1
              have hz2 : S2.size = 32 := by rw [HS2.out]; show (Dsk.read d5 (k3 : Int)).toArray.size = 32; simpa using hl5
              have hz3 : S3.size = 32 := by rw [HS3.out]; show (Dsk.read d7 (k3 : Int)).toArray.size = 32; simpa using hl7
              have hmix : S2.extract 0 cut.toNat ++ S1.extract cut.toNat 32 = S3 := by
                rw [HS1.out, HS2.out, HS3.out, hcx.2.2.2.2]
                exact str_mix _ _ cut.toNat hl1
              obtain ⟨X2, hX2⟩ : ∃ X2, X2 = S2.extract 0 cut.toNat := ⟨_, rfl⟩
              obtain ⟨X1, hX1⟩ : ∃ X1, X1 = S1.extract cut.toNat 32 := ⟨_, rfl⟩
              have hu := fun W => str_upto S2 cut hcx.2.2.1 (by rw [hz2]; have := hcx.2.2.2.1; omega) W
              have hf := fun W => str_from S1 cut hcx.2.2.1 (by rw [hz1]; have := hcx.2.2.2.1; omega) W
              rw [hz1] at hf
              rw [← hX2] at hu
              rw [← hX1] at hf
              rw [← hX2, ← hX1] at hmix
              have hadd := fun W => str_add X2 X1 S3 hmix (by rw [hX2, hX1]; simp only [ByteArray.size_extract]; omega) W
              have hmx0 : mx = 0 := by
                rcases Nat.eq_zero_or_pos mx with h | h
                · exact h
                · have h1 : mx = 1 := by omega
                  have := Hmt.out h1
                  have := hcx.1
                  omega
              have Hmx0 := Lib.hid hmx0
              have Hcx := Lib.hid hcx
              have hcut0 : decide (cut < 0) = false := by have := hcx.2.2.1; simp; omega
              have hcut1 : decide (32 < cut) = false := by have := hcx.2.2.2.1; simp; omega
              clear hmx0 hcx hX2 hX1 hmix hl1 hl5 hl7 hz1 hz2
              refine segG (by kernel_rfl) (fun _ _ _ _ _ h => h) [0, 1, 2, 3, 4, 5, 6, 7, 8, 9] [_, _, _, _, _, _, _, _, _, _] 10 rfl rfl (by kernel_rfl) ?_
              repeat (go_big_quiet_step (fail))
              refine wpQuiet_nil ?_
              refine segG (by kernel_rfl) (fun _ _ _ _ _ h => h) [10, 11, 12, 13, 14, 15, 16, 17, 18, 19] [_, _, _, _, _, _, _, _, _, _] 0 rfl rfl (by kernel_rfl) ?_
              repeat (go_big_quiet_step (fail))
              refine wpQuiet_nil ?_
              refine wpAnyG_done (by kernel_rfl) ?_
              clear hl4 hl6 hl8 hS31 hS32
              go_wp2_with fail
              refine wp_region_G grows (by kernel_rfl) ?_
              have Hbx := Lib.hid Hbx.out.drew
              have Hc4 := Lib.hid (show W9.drew.cell? ⟨b4, q4, none⟩ = some (.string S1) from Hc4.out)
              have Hc6 := Lib.hid (show W9.drew.cell? ⟨b6, q6, none⟩ = some (.string S2) from Hc6.out)
              have Hc8 := Lib.hid (show W9.drew.cell? ⟨b8, q8, none⟩ = some (.string S3) from Hc8.out)
              have Hlt4 := Lib.hid (show b4 < W9.drew.heap.size from Hlt4.out)
              have Hlt6 := Lib.hid (show b6 < W9.drew.heap.size from Hlt6.out)
              have Hlt8 := Lib.hid (show b8 < W9.drew.heap.size from Hlt8.out)
              generalize W9.drew = W10 at *
              have hl4 := str_later Hlt4.out (Nat.le_refl _) Hc4.out
              have hl6 := str_later Hlt6.out (Nat.le_refl _) Hc6.out
              have hl8 := str_later Hlt8.out (Nat.le_refl _) Hc8.out
              refine segG (by kernel_rfl) (fun _ _ _ _ _ h => h) [0, 1, 2, 3, 4, 5, 6, 7, 8, 9, 10, 11, 12] [_, _, _, _, _, _, _, _, _, _, _, _, _] 21 rfl rfl (by kernel_rfl) ?_
              repeat (go_big_quiet_step (fail))
              refine wpQuiet_nil ?_
              refine segG (by kernel_rfl) (fun _ _ _ _ _ h => h) [13, 14, 15, 16, 17, 18, 19, 20, 21, 22, 23] [_, _, _, _, _, _, _, _, _, _, _] 10 rfl rfl (by kernel_rfl) ?_
              repeat (go_big_quiet_step (fail))
              refine wpQuiet_nil ?_
              refine segG (by kernel_rfl) (fun _ _ _ _ _ h => h) [24, 25, 26, 27, 28, 29, 30, 31, 32, 33] [_, _, _, _, _, _, _, _, _, _] 0 rfl rfl (by kernel_rfl) ?_
              repeat (first | (refine wpQuiet_str_add (.tmp 127) (.tmp 133) rfl rfl rfl hadd (by kernel_rfl) ?_; simp only [Act.put, List.setIfInBounds_toArray, List.set]) | go_big_quiet_step (fail))
              refine wpQuiet_nil ?_
              refine wpAnyG_done (by kernel_rfl) ?_
              clear hl4 hl6 hl8 hix4 hix6 hix8 hu hf hadd hcut0 hcut1 hz3
              go_wp2
              exact ⟨⟨k3 + 1, mx + 1, by omega, by go_num, by go_num, by have := Hmx0.out; omega, fun _ => by have := Hcx.out.1; have := Hcx.out.2.1; omega, Hbx.out⟩, by simp [intOf]; omega⟩
        · have hd9 : decide ((k3 : Int) < 9) = false := by simp; omega
          have HR9 := Lib.hid (HOK.out.keep HR8.out (fun j hj => hbx.block j (HOK.out.lt HR8.out j hj)))
          have Hb9 := Lib.hid (Hb8.out.trans (hbx.mono Hb8.out.size))
          clear hbx
          go_wp2_with fail
          refine (awake14_any HOK.out wr).mono ?_
          rintro e w10 ⟨rfl, hb10⟩
          have HR10 := Lib.hid (HOK.out.keep HR9.out (fun j hj => hb10.block j (HOK.out.lt HR9.out j hj)))
          have Hb10 := bb Hb9 hb10
          clear hb10 HR9 Hb9
          go_wp2_with fail
          refine (HOK.out.pending HR10.out).mono ?_
          rintro e w11 ⟨rfl, hb11⟩
          rw [Dsk.pending_dry Hdry7.out]
          have HR11 := Lib.hid (HOK.out.keep HR10.out (fun j hj => hb11.block j (HOK.out.lt HR10.out j hj)))
          have Hb11 := bb Hb10 hb11
          clear hb11 HR10 Hb10
          go_wp2_with fail
          refine (HOK.out.flush HR11.out).mono ?_
          rintro e w12 ⟨rfl, F12, hR12, hF12, ho⟩
          rw [Dsk.flushE_none Hfu7.out]
          have Hb12 := Lib.hid (Hb11.out.trans (ho.below HF7.out Hb11.out.size))
          clear hR12 hF12 ho HR11 Hb11
          go_wp2
          go_ret
          exact ⟨by simp, Hb12.out⟩
end Go.Proofs.Ytampdfmakhdliaa
