/-
  Layer 14: DiskBurns, walked from the contract of disk's functions.
-/
import Derived.Test.YtampdfmakhdliaaDiskJ05
set_option maxRecDepth 100000
namespace Go.Gar.Dsk
theorem writeE_none {d : Dsk} (h : d.fuse = none) (i : Int) (b : List UInt8) (hi : there d i = true) (hb : b.length = 32) : writeE d i b = 0 := by
  unfold writeE
  rw [h, hi, hb]
  rfl
theorem flushE_none {d : Dsk} (h : d.fuse = none) : flushE d = 0 := by
  unfold flushE
  rw [h]
  rfl
end Go.Gar.Dsk
namespace Go.Proofs.Ytampdfmakhdliaa
open Go.RowKit Go.Gar
open Go.Gar.Dsk (Dsk)

theorem there9 {d : Dsk} (h : d.secs.length = 9) (i : Nat) (hi : i < 9) : Dsk.there d (i : Int) = true := by
  unfold Dsk.there
  rw [h]
  simp
  omega
set_option maxHeartbeats 8000000 in
set_option maxRecDepth 100000 in
theorem diskburns_walk {Rep : World → (Nat → Prop) → Nat → Dsk → Prop} (hOK : DiskOK Rep) (nb : UInt8) (A : Option Addr) (ds : List Deed) (n cap : Nat) (hn : n = ds.length) (w : World) (hr : RdD w w.heap.size A ds) :
    Calls Try.prog 6 #[.int .u8 (nb.toNat : Int), .slice A n cap] w fun e w' => e = .returned (.bool true) ∧ Below w.heap.size w w' := by
  obtain ⟨N, hN⟩ : ∃ N, N = nb.toNat := ⟨_, rfl⟩
  have hN8 : N < 256 := by rw [hN]; exact nb.toNat_lt
  rw [← hN]
  obtain ⟨M, hM⟩ : ∃ M, M = N % 25 := ⟨_, rfl⟩
  have hM25 : M < 25 := by omega
  have hrem : Int.tmod (N : Int) 25 = (M : Int) := by rw [Int.tmod_eq_emod_of_nonneg (by omega)]; omega
  have HOK := Lib.hid hOK
  have HN := Lib.hid hn
  have HR := Lib.hid hr
  clear hOK hn hr hM hN
  go_enter Try.func6, Try.ntmps6
  go_wp2_with fail
  refine (HOK.out.new w 9 (by unfold isI64; omega)).mono ?_
  rintro e w1 ⟨F, g, rfl, hR1, hF1, hb1⟩
  have HR1 := Lib.hid hR1
  have HF1 := Lib.hid hF1
  have Hb1 := Lib.hid hb1
  clear hR1 hF1 hb1
  unfold ptr
  go_wp2_with fail
  refine (HOK.out.fuse (M : Int) HR1.out (by unfold isI64; omega)).mono ?_
  rintro e w2 ⟨rfl, F2, hR2, hF2, ho⟩
  have HR2 := Lib.hid hR2
  have HF2 := Lib.hid (show ∀ j, F2 j → w.heap.size ≤ j from fun j hj => by rcases hF2 j hj with h | h; exact HF1.out j h; exact Nat.le_trans Hb1.out.size h)
  have Hb2 := Lib.hid (Hb1.out.trans (ho.below HF1.out Hb1.out.size))
  have Hfu := Lib.hid (show (Dsk.fuse (Dsk.new 9) (M : Int)).fuse = some (M - 0) by show (if (M : Int) < 0 then none else some (M : Int).toNat) = _; rw [if_neg (by omega)]; rfl)
  clear hR2 hF2 ho HR1 HF1 Hb1
  clear hrem
  go_wp2
  go_loopw [7, 8] (fun dv i w' => ∃ k dn : Nat, k ≤ n ∧ k ≤ 50 ∧ dv = .int .i64 dn ∧ i = .int .i64 k ∧ dn = min k M ∧ ∃ F d, Rep w' F g d ∧ (∀ j, F j → w.heap.size ≤ j) ∧ Below w.heap.size w w' ∧ d.secs.length = 9 ∧ d.fuse = some (M - k) ∧ d.many ≤ k) (fun _ i _ => 50 - (intOf i).toNat)
  case atStart => exact ⟨0, 0, by omega, by omega, rfl, rfl, by omega, F2, _, HR2.out, HF2.out, Hb2.out, rfl, Hfu.out, Nat.le_refl _⟩
  case round =>
    obtain ⟨k, dn, hkn, hk50, rfl, rfl, hdn, F3, d, hR3, hF3, hb3, h9, hfu, hm⟩ := hrel
    clear HR2 HF2 Hb2 Hfu
    have Hdn := Lib.hid hdn
    have HR3 := Lib.hid hR3
    have HF3 := Lib.hid hF3
    have Hb3 := Lib.hid hb3
    have H9 := Lib.hid h9
    have Hfu := Lib.hid hfu
    have Hm := Lib.hid hm
    clear hdn hR3 hF3 hb3 h9 hfu hm
    by_cases h1 : k < n
    · have hd1 : decide ((k : Int) < (n : Int)) = true := by simp; omega
      by_cases h2 : k < 50
      · have hd2 : decide ((k : Int) < 50) = true := by simp; omega
        obtain ⟨t, b, q, ht, hbB, hix, hcl⟩ := deed_at (cap := cap) (HR.out.below Hb3.out) HN.out k h1
        obtain ⟨K, hK⟩ : ∃ K : Nat, K = t.kind.toNat := ⟨_, rfl⟩
        have hK8 : K < 256 := by rw [hK]; exact t.kind.toNat_lt
        obtain ⟨C, hC⟩ : ∃ C : Nat, C = t.c.toNat := ⟨_, rfl⟩
        have hC8 : C < 256 := by rw [hC]; exact t.c.toNat_lt
        have hq0 := hcl 0 _ (show t.cells[0]? = some (.int .u8 (K : Int)) by rw [hK]; rfl)
        rw [Nat.add_zero] at hq0
        have Hq0 := Lib.hid hq0
        have Hq2 := Lib.hid (hcl 2 _ (show t.cells[2]? = some (.int .u8 (C : Int)) by rw [hC]; rfl))
        have HbB := Lib.hid hbB
        have hff := fun W => full_any W t.c
        rw [← hC] at hff
        have Hff := Lib.hid hff
        have Hix := Lib.hid hix
        clear ht hcl hbB hK hC hff hq0 hix
        go_wp2_with fail
        refine (all_any HOK.out HR3.out).mono ?_
        rintro e w4 ⟨v4, rfl, hO4, hb4⟩
        have Hlt := Lib.hid (HOK.out.lt HR3.out)
        have HO4 := Lib.hid hO4
        have HR4 := Lib.hid (HOK.out.keep HR3.out (fun j hj => hb4.block j (HOK.out.lt HR3.out j hj)))
        have Hs34 := Lib.hid hb4.size
        have Hq0 := Lib.hid ((hb4.cell (p := ⟨b, q, none⟩) (Nat.lt_of_lt_of_le HbB.out Hb3.out.size)).trans Hq0.out)
        have Hq2 := Lib.hid ((hb4.cell (p := ⟨b, q + 2, none⟩) (Nat.lt_of_lt_of_le HbB.out Hb3.out.size)).trans Hq2.out)
        have Hb4 := bb Hb3 hb4
        clear hO4 hb4 HR3 Hb3
        have hkr : Int.tmod (K : Int) 3 = ((K % 3 : Nat) : Int) := by rw [Int.tmod_eq_emod_of_nonneg (by omega)]; omega
        have hix := Hix.out
        have hq0 := Hq0.out
        by_cases hkM : k < M
        · by_cases h3 : K % 3 = 0
          · go_wp2_with fail
            refine (HOK.out.flush HR4.out).mono ?_
            rintro e w5 ⟨rfl, F5, hR5, hF5, ho⟩
            have hpu := Dsk.burn_flush Hfu.out
            obtain ⟨d5, hd5⟩ : ∃ d5, d5 = Dsk.flush d := ⟨_, rfl⟩
            have h95 : d5.secs.length = 9 := by rw [hd5, Dsk.flush_len]; exact H9.out
            have hm5 : d5.many ≤ k + 1 := by rw [hd5, Dsk.flush_many]; have := Hm.out; omega
            rw [← hd5] at hR5 hpu
            clear hkr hix hq0 Hix Hq0 Hq2 hd5
            rw [show Dsk.flushE d = 0 from hpu.1 (by omega)]
            have HR5 := Lib.hid hR5
            have HF5 := Lib.hid (show ∀ j, F5 j → w.heap.size ≤ j from fun j hj => by rcases hF5 j hj with h | h; exact HF3.out j h; exact Nat.le_trans Hb4.out.size h)
            have Hb5 := Lib.hid (Hb4.out.trans (ho.below HF3.out Hb4.out.size))
            have HO5 := Lib.hid (HO4.out.keep (fun j hj => ho.block j (HO4.out.lt hj).2 (fun hf => by have := Hlt.out j hf; have := (HO4.out.lt hj).1; omega)))
            have H95 := Lib.hid h95
            have Hm5 := Lib.hid hm5
            have Hfu5 := Lib.hid hpu.2.2
            have Hs5 := Lib.hid (Nat.le_trans Hs34.out ho.size)
            clear hpu hR5 hF5 ho h95 hm5 HR4 HF3 Hb4 HO4 H9 Hm Hfu Hlt Hff HbB

            have hge : ¬ M ≤ k := by omega
            have hdn25 : dn ≤ 25 := by have := Hdn.out; omega
            go_wp2_with fail
            refine (all_any HOK.out HR5.out).mono ?_
            rintro e w7 ⟨v7, rfl, hO7, hb7⟩
            obtain ⟨A7, c7, rfl, hc7⟩ := hO7.slice
            rw [strs_len, H95.out]
            have HR7 := Lib.hid (HOK.out.keep HR5.out (fun j hj => hb7.block j (HOK.out.lt HR5.out j hj)))
            have Hb7 := bb Hb5 hb7
            clear hO7 hb7 hc7 HR5 Hb5 hge
            go_wp2
            go_loopw [12] (fun i w' => i = .int .i64 0 ∧ w' = w7) (fun _ _ => 0)
            case atStart => exact ⟨rfl, rfl⟩
            case round =>
              obtain ⟨rfl, rfl⟩ := hrel
              go_wp2
              exact ⟨⟨k + 1, dn + 1, by omega, by omega, by go_num, by go_num, by have := Hdn.out; omega, F5, d5, HR7.out, HF5.out, Hb7.out, H95.out, by rw [Hfu5.out]; congr 1, Hm5.out⟩, by simp [intOf]; omega⟩
          · go_wp2_with fail
            refine wp_region_G (belowG w.heap.size) (by kernel_rfl) ?_
            have HRd := Lib.hid (HOK.out.keep (w' := w4.drew) HR4.out (fun _ _ => rfl))
            have Hltd := Lib.hid (show ∀ j, F3 j → j < w4.drew.heap.size from HOK.out.lt HRd.out)
            have Hbd := Lib.hid Hb4.out.drew
            have HOd := Lib.hid (show OwnV w4.drew wr.heap.size 9 v4 (strs d) from HO4.out)
            have Hcd := Lib.hid (show w4.drew.cell? ⟨b, q + 2, none⟩ = some (.int .u8 (C : Int)) from Hq2.out)
            have Hs34 := Lib.hid (show wr.heap.size ≤ w4.drew.heap.size from Hs34.out)
            clear hq0 Hq0 Hq2 HR4 Hb4 HO4 hkr
            generalize w4.drew = W at *
            have hq2 : ∀ x : Later (belowG w.heap.size) W, x.to.cell? ⟨b, q + 2, none⟩ = some (.int .u8 (C : Int)) := fun x => (show Below w.heap.size W x.to from x.grown).cell (p := ⟨b, q + 2, none⟩) HbB.out |>.trans Hcd.out
            obtain ⟨C9, hC9⟩ : ∃ C9, C9 = C % 9 := ⟨_, rfl⟩
            have hc9 : C9 < 9 := by omega
            have hcr : Int.tmod (C : Int) 9 = (C9 : Int) := by rw [Int.tmod_eq_emod_of_nonneg (by omega)]; omega
            clear hC9
            refine segG (by kernel_rfl) (fun _ _ _ _ _ h => h) [0, 1, 2, 3, 4, 5, 6, 7, 8, 9, 10, 11, 12] [_, _, _, _, _, _, _, _, _, _, _, _, _] 3 rfl rfl (by kernel_rfl) ?_
            repeat (go_big_quiet_step (fail))
            refine wpQuiet_nil ?_
            clear hq2 hcr hix Hix Hcd
            refine oneG 13 2 rfl (by kernel_rfl) rfl ?_
            go_wp2_with fail
            refine (Hff.out W).mono ?_
            rintro e w6 ⟨rfl, hB6, hb6⟩
            have hbr := hb6.mono Hbd.out.size
            have HR6 := Lib.hid (HOK.out.keep HRd.out (fun j hj => hb6.block j (Hltd.out j hj)))
            have HB6 := Lib.hid hB6
            have Hb6 := Lib.hid (Hbd.out.trans hbr)
            have HO6 := Lib.hid (HOd.out.below hb6)
            have Hs6 := Lib.hid (Nat.le_trans Hs34.out hb6.size)
            have Hnf := Lib.hid (show ∀ p, some (⟨W.heap.size, 0, none⟩ : Addr) = some p → ¬ F3 p.block from fun p hp hf => by
              obtain rfl := Option.some.inj hp
              exact absurd (Hltd.out _ hf) (Nat.lt_irrefl _))
            clear hB6 hb6 HRd Hbd HOd
            go_wp2
            refine ⟨hbr, ?_⟩
            clear hbr
            refine oneG 14 1 rfl (by kernel_rfl) rfl ?_
            go_wp2_with fail
            refine (write_at HOK.out (C9 : Int) (some ⟨W.heap.size, 0, none⟩) (r8 t.c) 32 32 HR6.out (by unfold isI64; omega) rfl (Rd.of_all HB6.out) Hnf.out (Nat.le_refl _) (by omega) (by have := Hm.out; omega)).mono ?_
            rintro e w5 ⟨E, rfl, hE, F5, hR5, hF5, ho⟩
            have hpu := Dsk.burn_write Hfu.out (C9 : Int) (r8 t.c) (there9 H9.out C9 hc9) rfl
            obtain ⟨d5, hd5⟩ : ∃ d5, d5 = Dsk.write d (C9 : Int) (r8 t.c) := ⟨_, rfl⟩
            have h95 : d5.secs.length = 9 := by rw [hd5, Dsk.write_len]; exact H9.out
            have hm5 : d5.many ≤ k + 1 := by rw [hd5]; have := Hm.out; have := Dsk.write_many d (C9 : Int) (r8 t.c); omega
            rw [← hd5] at hR5 hpu
            have hF4' : ∀ j, F5 j → w.heap.size ≤ j := fun j hj => by rcases hF5 j hj with h | h; exact HF3.out j h; exact Nat.le_trans Hb6.out.size h
            have hbr := ho.below HF3.out Hb6.out.size
            have hO5 := HO6.out.keep (fun j hj => ho.block j (HO6.out.lt hj).2 (fun hf => by have := Hlt.out j hf; have := (HO6.out.lt hj).1; omega))
            rw [hpu.1 (by omega)] at hE
            obtain rfl : E = 0 := hE
            have HR5 := Lib.hid hR5
            have HF5 := Lib.hid hF4'
            have Hb5 := Lib.hid (Hb6.out.trans hbr)
            have HO5 := Lib.hid hO5
            have H95 := Lib.hid h95
            have Hm5 := Lib.hid hm5
            have Hfu5 := Lib.hid hpu.2.2
            have Hs5 := Lib.hid (Nat.le_trans Hs6.out ho.size)
            clear hpu hR5 hF5 ho h95 hm5 hF4' hO5 hd5 HR6 HF3 Hb6 HO6 H9 Hm Hfu Hlt Hff HbB HB6 Hnf
            go_wp2
            refine ⟨hbr, ?_⟩
            clear hbr
            refine segG (by kernel_rfl) (fun _ _ _ _ _ h => h) [15] [_] 0 rfl rfl (by kernel_rfl) ?_
            repeat (go_big_quiet_step (fail))
            refine wpQuiet_nil ?_
            refine wpAnyG_done (by kernel_rfl) ?_

            have hge : ¬ M ≤ k := by omega
            have hdn25 : dn ≤ 25 := by have := Hdn.out; omega
            go_wp2_with fail
            refine (all_any HOK.out HR5.out).mono ?_
            rintro e w7 ⟨v7, rfl, hO7, hb7⟩
            obtain ⟨A7, c7, rfl, hc7⟩ := hO7.slice
            rw [strs_len, H95.out]
            have HR7 := Lib.hid (HOK.out.keep HR5.out (fun j hj => hb7.block j (HOK.out.lt HR5.out j hj)))
            have Hb7 := bb Hb5 hb7
            clear hO7 hb7 hc7 HR5 Hb5 hge
            go_wp2
            go_loopw [12] (fun i w' => i = .int .i64 0 ∧ w' = w7) (fun _ _ => 0)
            case atStart => exact ⟨rfl, rfl⟩
            case round =>
              obtain ⟨rfl, rfl⟩ := hrel
              go_wp2
              exact ⟨⟨k + 1, dn + 1, by omega, by omega, by go_num, by go_num, by have := Hdn.out; omega, F5, d5, HR7.out, HF5.out, Hb7.out, H95.out, by rw [Hfu5.out]; congr 1, Hm5.out⟩, by simp [intOf]; omega⟩
        · by_cases h3 : K % 3 = 0
          · go_wp2_with fail
            refine (HOK.out.flush HR4.out).mono ?_
            rintro e w5 ⟨rfl, F5, hR5, hF5, ho⟩
            have hpu := Dsk.burn_flush Hfu.out
            obtain ⟨d5, hd5⟩ : ∃ d5, d5 = Dsk.flush d := ⟨_, rfl⟩
            have h95 : d5.secs.length = 9 := by rw [hd5, Dsk.flush_len]; exact H9.out
            have hm5 : d5.many ≤ k + 1 := by rw [hd5, Dsk.flush_many]; have := Hm.out; omega
            rw [← hd5] at hR5 hpu
            clear hkr hix hq0 Hix Hq0 Hq2 hd5
            have Hdd := Lib.hid (show d5 = d from (hpu.2.1 (by omega)).2)
            rw [show Dsk.flushE d = 10 from (hpu.2.1 (by omega)).1]
            have HR5 := Lib.hid hR5
            have HF5 := Lib.hid (show ∀ j, F5 j → w.heap.size ≤ j from fun j hj => by rcases hF5 j hj with h | h; exact HF3.out j h; exact Nat.le_trans Hb4.out.size h)
            have Hb5 := Lib.hid (Hb4.out.trans (ho.below HF3.out Hb4.out.size))
            have HO5 := Lib.hid (HO4.out.keep (fun j hj => ho.block j (HO4.out.lt hj).2 (fun hf => by have := Hlt.out j hf; have := (HO4.out.lt hj).1; omega)))
            have H95 := Lib.hid h95
            have Hm5 := Lib.hid hm5
            have Hfu5 := Lib.hid hpu.2.2
            have Hs5 := Lib.hid (Nat.le_trans Hs34.out ho.size)
            clear hpu hR5 hF5 ho h95 hm5 HR4 HF3 Hb4 HO4 H9 Hm Hfu Hlt Hff HbB

            have hge : M ≤ k := by omega
            go_wp2_with fail
            refine (all_any HOK.out HR5.out).mono ?_
            rintro e w7 ⟨v7, rfl, hO7, hb7⟩
            have hOb := HO5.out.below hb7
            obtain ⟨A4, c4, e4, r4⟩ := hOb.rd
            obtain ⟨A7, c7, e7, r7⟩ := hO7.rd
            have h4l : (strs d).length = 9 := by rw [← Hdd.out, strs_len]; exact H95.out
            have h7l : (strs d5).length = 9 := by rw [strs_len]; exact H95.out
            rw [h4l] at e4
            rw [h7l] at e7
            subst e4
            subst e7
            rw [Hdd.out] at r7
            have HR7 := Lib.hid (HOK.out.keep HR5.out (fun j hj => hb7.block j (HOK.out.lt HR5.out j hj)))
            have Hb7 := bb Hb5 hb7
            have R4 := Lib.hid r4
            have R7 := Lib.hid r7
            have H4l := Lib.hid h4l
            clear hO7 hb7 hOb r4 r7 h4l h7l HR5 Hb5 hge HO5
            go_wp2
            go_loopw [12] (fun i w' => ∃ k2 : Nat, k2 ≤ 9 ∧ i = .int .i64 k2 ∧ Below w7.heap.size w7 w') (fun i _ => 9 - (intOf i).toNat)
            case atStart => exact ⟨0, by omega, rfl, Below.refl _ _⟩
            case round =>
              obtain ⟨k2, hk2, rfl, hbx⟩ := hrel
              by_cases h9 : k2 < 9
              · have hd9 : decide ((k2 : Int) < 9) = true := by simp; omega
                obtain ⟨u4, b4, q4, hu4, hb4, hix4, hc4⟩ := str_at (cap := c4) (R4.out.below hbx) H4l.out.symm k2 h9
                obtain ⟨u7, b7, q7, hu7, hb7, hix7, hc7⟩ := str_at (cap := c7) (R7.out.below hbx) H4l.out.symm k2 h9
                rw [hu4] at hu7
                obtain rfl := Option.some.inj hu7
                obtain ⟨S, rfl⟩ : ∃ S, u4 = .string S := by
                  obtain ⟨x, _, hx⟩ := List.mem_map.1 (List.mem_of_getElem? hu4)
                  exact ⟨_, hx.symm⟩
                have Hbx := Lib.hid hbx
                have Hlt4 := Lib.hid (show b4 < wr.drew.heap.size from Nat.lt_of_lt_of_le hb4 hbx.size)
                have Hlt7 := Lib.hid (show b7 < wr.drew.heap.size from Nat.lt_of_lt_of_le hb7 hbx.size)
                clear hbx hu4 hb4 hb7
                go_wp2_with fail
                refine wp_region_G grows (by kernel_rfl) ?_
                have Hbx := Lib.hid Hbx.out.drew
                have Hc4 := Lib.hid (show wr.drew.cell? ⟨b4, q4, none⟩ = some (.string S) from hc4)
                have Hc7 := Lib.hid (show wr.drew.cell? ⟨b7, q7, none⟩ = some (.string S) from hc7)
                clear hc4 hc7
                generalize wr.drew = W9 at *
                have hl4 : ∀ x : Later grows W9, x.to.cell? ⟨b4, q4, none⟩ = some (.string S) := fun x => ((show Below W9.heap.size W9 x.to from x.grown).cell (p := ⟨b4, q4, none⟩) (Nat.lt_of_lt_of_le Hlt4.out (Nat.le_refl _))).trans Hc4.out
                have hl7 : ∀ x : Later grows W9, x.to.cell? ⟨b7, q7, none⟩ = some (.string S) := fun x => ((show Below W9.heap.size W9 x.to from x.grown).cell (p := ⟨b7, q7, none⟩) (Nat.lt_of_lt_of_le Hlt7.out (Nat.le_refl _))).trans Hc7.out
                refine segG (by kernel_rfl) (fun _ _ _ _ _ h => h) [0, 1, 2, 3, 4, 5, 6, 7, 8] [_, _, _, _, _, _, _, _, _] 0 rfl rfl (by kernel_rfl) ?_
                repeat (go_big_quiet_step (fail))
                refine wpQuiet_nil ?_
                refine wpAnyG_done (by kernel_rfl) ?_
                clear hl4 hl7 hix4 hix7
                go_wp2
                exact ⟨⟨k2 + 1, by omega, by go_num, Hbx.out⟩, by simp [intOf]; omega⟩
              · have hd9 : decide ((k2 : Int) < 9) = false := by simp; omega
                have HR9 := Lib.hid (HOK.out.keep HR7.out (fun j hj => hbx.block j (HOK.out.lt HR7.out j hj)))
                have Hb9 := Lib.hid (Hb7.out.trans (hbx.mono Hb7.out.size))
                clear hbx
                go_wp2
                exact ⟨⟨k + 1, dn, by omega, by omega, by go_num, by go_num, by have := Hdn.out; omega, F5, d5, HR9.out, HF5.out, Hb9.out, H95.out, by rw [Hfu5.out]; congr 1, Hm5.out⟩, by simp [intOf]; omega⟩
          · go_wp2_with fail
            refine wp_region_G (belowG w.heap.size) (by kernel_rfl) ?_
            have HRd := Lib.hid (HOK.out.keep (w' := w4.drew) HR4.out (fun _ _ => rfl))
            have Hltd := Lib.hid (show ∀ j, F3 j → j < w4.drew.heap.size from HOK.out.lt HRd.out)
            have Hbd := Lib.hid Hb4.out.drew
            have HOd := Lib.hid (show OwnV w4.drew wr.heap.size 9 v4 (strs d) from HO4.out)
            have Hcd := Lib.hid (show w4.drew.cell? ⟨b, q + 2, none⟩ = some (.int .u8 (C : Int)) from Hq2.out)
            have Hs34 := Lib.hid (show wr.heap.size ≤ w4.drew.heap.size from Hs34.out)
            clear hq0 Hq0 Hq2 HR4 Hb4 HO4 hkr
            generalize w4.drew = W at *
            have hq2 : ∀ x : Later (belowG w.heap.size) W, x.to.cell? ⟨b, q + 2, none⟩ = some (.int .u8 (C : Int)) := fun x => (show Below w.heap.size W x.to from x.grown).cell (p := ⟨b, q + 2, none⟩) HbB.out |>.trans Hcd.out
            obtain ⟨C9, hC9⟩ : ∃ C9, C9 = C % 9 := ⟨_, rfl⟩
            have hc9 : C9 < 9 := by omega
            have hcr : Int.tmod (C : Int) 9 = (C9 : Int) := by rw [Int.tmod_eq_emod_of_nonneg (by omega)]; omega
            clear hC9
            refine segG (by kernel_rfl) (fun _ _ _ _ _ h => h) [0, 1, 2, 3, 4, 5, 6, 7, 8, 9, 10, 11, 12] [_, _, _, _, _, _, _, _, _, _, _, _, _] 3 rfl rfl (by kernel_rfl) ?_
            repeat (go_big_quiet_step (fail))
            refine wpQuiet_nil ?_
            clear hq2 hcr hix Hix Hcd
            refine oneG 13 2 rfl (by kernel_rfl) rfl ?_
            go_wp2_with fail
            refine (Hff.out W).mono ?_
            rintro e w6 ⟨rfl, hB6, hb6⟩
            have hbr := hb6.mono Hbd.out.size
            have HR6 := Lib.hid (HOK.out.keep HRd.out (fun j hj => hb6.block j (Hltd.out j hj)))
            have HB6 := Lib.hid hB6
            have Hb6 := Lib.hid (Hbd.out.trans hbr)
            have HO6 := Lib.hid (HOd.out.below hb6)
            have Hs6 := Lib.hid (Nat.le_trans Hs34.out hb6.size)
            have Hnf := Lib.hid (show ∀ p, some (⟨W.heap.size, 0, none⟩ : Addr) = some p → ¬ F3 p.block from fun p hp hf => by
              obtain rfl := Option.some.inj hp
              exact absurd (Hltd.out _ hf) (Nat.lt_irrefl _))
            clear hB6 hb6 HRd Hbd HOd
            go_wp2
            refine ⟨hbr, ?_⟩
            clear hbr
            refine oneG 14 1 rfl (by kernel_rfl) rfl ?_
            go_wp2_with fail
            refine (write_at HOK.out (C9 : Int) (some ⟨W.heap.size, 0, none⟩) (r8 t.c) 32 32 HR6.out (by unfold isI64; omega) rfl (Rd.of_all HB6.out) Hnf.out (Nat.le_refl _) (by omega) (by have := Hm.out; omega)).mono ?_
            rintro e w5 ⟨E, rfl, hE, F5, hR5, hF5, ho⟩
            have hpu := Dsk.burn_write Hfu.out (C9 : Int) (r8 t.c) (there9 H9.out C9 hc9) rfl
            obtain ⟨d5, hd5⟩ : ∃ d5, d5 = Dsk.write d (C9 : Int) (r8 t.c) := ⟨_, rfl⟩
            have h95 : d5.secs.length = 9 := by rw [hd5, Dsk.write_len]; exact H9.out
            have hm5 : d5.many ≤ k + 1 := by rw [hd5]; have := Hm.out; have := Dsk.write_many d (C9 : Int) (r8 t.c); omega
            rw [← hd5] at hR5 hpu
            have hF4' : ∀ j, F5 j → w.heap.size ≤ j := fun j hj => by rcases hF5 j hj with h | h; exact HF3.out j h; exact Nat.le_trans Hb6.out.size h
            have hbr := ho.below HF3.out Hb6.out.size
            have hO5 := HO6.out.keep (fun j hj => ho.block j (HO6.out.lt hj).2 (fun hf => by have := Hlt.out j hf; have := (HO6.out.lt hj).1; omega))
            have Hdd := Lib.hid (show d5 = d from (hpu.2.1 (by omega)).2)
            rw [(hpu.2.1 (by omega)).1] at hE
            obtain rfl : E = 10 := hE
            have HR5 := Lib.hid hR5
            have HF5 := Lib.hid hF4'
            have Hb5 := Lib.hid (Hb6.out.trans hbr)
            have HO5 := Lib.hid hO5
            have H95 := Lib.hid h95
            have Hm5 := Lib.hid hm5
            have Hfu5 := Lib.hid hpu.2.2
            have Hs5 := Lib.hid (Nat.le_trans Hs6.out ho.size)
            clear hpu hR5 hF5 ho h95 hm5 hF4' hO5 hd5 HR6 HF3 Hb6 HO6 H9 Hm Hfu Hlt Hff HbB HB6 Hnf
            go_wp2
            refine ⟨hbr, ?_⟩
            clear hbr
            refine segG (by kernel_rfl) (fun _ _ _ _ _ h => h) [15] [_] 0 rfl rfl (by kernel_rfl) ?_
            repeat (go_big_quiet_step (fail))
            refine wpQuiet_nil ?_
            refine wpAnyG_done (by kernel_rfl) ?_

            have hge : M ≤ k := by omega
            go_wp2_with fail
            refine (all_any HOK.out HR5.out).mono ?_
            rintro e w7 ⟨v7, rfl, hO7, hb7⟩
            have hOb := HO5.out.below hb7
            obtain ⟨A4, c4, e4, r4⟩ := hOb.rd
            obtain ⟨A7, c7, e7, r7⟩ := hO7.rd
            have h4l : (strs d).length = 9 := by rw [← Hdd.out, strs_len]; exact H95.out
            have h7l : (strs d5).length = 9 := by rw [strs_len]; exact H95.out
            rw [h4l] at e4
            rw [h7l] at e7
            subst e4
            subst e7
            rw [Hdd.out] at r7
            have HR7 := Lib.hid (HOK.out.keep HR5.out (fun j hj => hb7.block j (HOK.out.lt HR5.out j hj)))
            have Hb7 := bb Hb5 hb7
            have R4 := Lib.hid r4
            have R7 := Lib.hid r7
            have H4l := Lib.hid h4l
            clear hO7 hb7 hOb r4 r7 h4l h7l HR5 Hb5 hge HO5
            go_wp2
            go_loopw [12] (fun i w' => ∃ k2 : Nat, k2 ≤ 9 ∧ i = .int .i64 k2 ∧ Below w7.heap.size w7 w') (fun i _ => 9 - (intOf i).toNat)
            case atStart => exact ⟨0, by omega, rfl, Below.refl _ _⟩
            case round =>
              obtain ⟨k2, hk2, rfl, hbx⟩ := hrel
              by_cases h9 : k2 < 9
              · have hd9 : decide ((k2 : Int) < 9) = true := by simp; omega
                obtain ⟨u4, b4, q4, hu4, hb4, hix4, hc4⟩ := str_at (cap := c4) (R4.out.below hbx) H4l.out.symm k2 h9
                obtain ⟨u7, b7, q7, hu7, hb7, hix7, hc7⟩ := str_at (cap := c7) (R7.out.below hbx) H4l.out.symm k2 h9
                rw [hu4] at hu7
                obtain rfl := Option.some.inj hu7
                obtain ⟨S, rfl⟩ : ∃ S, u4 = .string S := by
                  obtain ⟨x, _, hx⟩ := List.mem_map.1 (List.mem_of_getElem? hu4)
                  exact ⟨_, hx.symm⟩
                have Hbx := Lib.hid hbx
                have Hlt4 := Lib.hid (show b4 < wr.drew.heap.size from Nat.lt_of_lt_of_le hb4 hbx.size)
                have Hlt7 := Lib.hid (show b7 < wr.drew.heap.size from Nat.lt_of_lt_of_le hb7 hbx.size)
                clear hbx hu4 hb4 hb7
                go_wp2_with fail
                refine wp_region_G grows (by kernel_rfl) ?_
                have Hbx := Lib.hid Hbx.out.drew
                have Hc4 := Lib.hid (show wr.drew.cell? ⟨b4, q4, none⟩ = some (.string S) from hc4)
                have Hc7 := Lib.hid (show wr.drew.cell? ⟨b7, q7, none⟩ = some (.string S) from hc7)
                clear hc4 hc7
                generalize wr.drew = W9 at *
                have hl4 : ∀ x : Later grows W9, x.to.cell? ⟨b4, q4, none⟩ = some (.string S) := fun x => ((show Below W9.heap.size W9 x.to from x.grown).cell (p := ⟨b4, q4, none⟩) (Nat.lt_of_lt_of_le Hlt4.out (Nat.le_refl _))).trans Hc4.out
                have hl7 : ∀ x : Later grows W9, x.to.cell? ⟨b7, q7, none⟩ = some (.string S) := fun x => ((show Below W9.heap.size W9 x.to from x.grown).cell (p := ⟨b7, q7, none⟩) (Nat.lt_of_lt_of_le Hlt7.out (Nat.le_refl _))).trans Hc7.out
                refine segG (by kernel_rfl) (fun _ _ _ _ _ h => h) [0, 1, 2, 3, 4, 5, 6, 7, 8] [_, _, _, _, _, _, _, _, _] 0 rfl rfl (by kernel_rfl) ?_
                repeat (go_big_quiet_step (fail))
                refine wpQuiet_nil ?_
                refine wpAnyG_done (by kernel_rfl) ?_
                clear hl4 hl7 hix4 hix7
                go_wp2
                exact ⟨⟨k2 + 1, by omega, by go_num, Hbx.out⟩, by simp [intOf]; omega⟩
              · have hd9 : decide ((k2 : Int) < 9) = false := by simp; omega
                have HR9 := Lib.hid (HOK.out.keep HR7.out (fun j hj => hbx.block j (HOK.out.lt HR7.out j hj)))
                have Hb9 := Lib.hid (Hb7.out.trans (hbx.mono Hb7.out.size))
                clear hbx
                go_wp2
                exact ⟨⟨k + 1, dn, by omega, by omega, by go_num, by go_num, by have := Hdn.out; omega, F5, d5, HR9.out, HF5.out, Hb9.out, H95.out, by rw [Hfu5.out]; congr 1, Hm5.out⟩, by simp [intOf]; omega⟩
      · have hd2 : decide ((k : Int) < 50) = false := by simp; omega
        have hle : dn ≤ M := by have := Hdn.out; omega
        go_wp2_with fail
        refine (HOK.out.crash 0 0 0 HR3.out (by unfold isI64; omega) (by unfold isI64; omega) (by unfold isI64; omega)).mono ?_
        rintro e w4 ⟨rfl, F4, hR4, hF4, ho⟩
        obtain ⟨d4, hd4⟩ : ∃ d4, d4 = Dsk.crash d 0 0 0 := ⟨_, rfl⟩
        rw [← hd4] at hR4
        have HR4 := Lib.hid hR4
        have HF4 := Lib.hid (show ∀ j, F4 j → w.heap.size ≤ j from fun j hj => by rcases hF4 j hj with h | h; exact HF3.out j h; exact Nat.le_trans Hb3.out.size h)
        have Hb4 := Lib.hid (Hb3.out.trans (ho.below HF3.out Hb3.out.size))
        have H94 := Lib.hid (show d4.secs.length = 9 by rw [hd4, Dsk.crash_len]; exact H9.out)
        have Hfu4 := Lib.hid (show d4.fuse = none by rw [hd4]; rfl)
        have Hm4 := Lib.hid (show d4.many ≤ 50 by rw [hd4]; exact Nat.le_trans Hm.out hk50)
        clear hR4 hF4 ho hd4 HR3 HF3 Hb3 H9 Hfu Hm
        go_wp2_with fail
        refine (awake14_any HOK.out w4).mono ?_
        rintro e w5 ⟨rfl, hb5⟩
        have HR5 := Lib.hid (HOK.out.keep HR4.out (fun j hj => hb5.block j (HOK.out.lt HR4.out j hj)))
        have Hb5 := bb Hb4 hb5
        clear hb5 HR4 Hb4
        go_wp2_with fail
        refine (full_any w5 1).mono ?_
        rintro e w6 ⟨rfl, hB6, hb6⟩
        have HR6 := Lib.hid (HOK.out.keep HR5.out (fun j hj => hb6.block j (HOK.out.lt HR5.out j hj)))
        have Hb6 := bb Hb5 hb6
        have HB6 := Lib.hid hB6
        have Hnf := Lib.hid (show ∀ p, some (⟨w5.heap.size, 0, none⟩ : Addr) = some p → ¬ F4 p.block from fun p hp hf => by
          obtain rfl := Option.some.inj hp
          exact absurd (HOK.out.lt HR5.out _ hf) (Nat.lt_irrefl _))
        clear hb6 hB6 HR5 Hb5
        go_wp2_with fail
        have hwe := Dsk.writeE_none Hfu4.out 0 (r8 1) (there9 H94.out 0 (by omega)) rfl
        refine (write_at HOK.out 0 (some ⟨w5.heap.size, 0, none⟩) (r8 1) 32 32 HR6.out (by unfold isI64; omega) rfl (Rd.of_all HB6.out) Hnf.out (Nat.le_refl _) (by omega) (by have := Hm4.out; omega)).mono ?_
        rintro e w7 ⟨E, rfl, hE, F7, hR7, hF7, ho⟩
        rw [hwe] at hE
        obtain rfl : E = 0 := hE
        have HR7 := Lib.hid hR7
        have HF7 := Lib.hid (show ∀ j, F7 j → w.heap.size ≤ j from fun j hj => by rcases hF7 j hj with h | h; exact HF4.out j h; exact Nat.le_trans Hb6.out.size h)
        have Hb7 := Lib.hid (Hb6.out.trans (ho.below HF4.out Hb6.out.size))
        clear hR7 hF7 ho hwe HR6 HB6 Hnf HF4 Hb6
        go_wp2_with fail
        have hfe := Dsk.flushE_none (Dsk.write_fuse Hfu4.out 0 (r8 1))
        refine (HOK.out.flush HR7.out).mono ?_
        rintro e w8 ⟨rfl, F8, hR8, hF8, ho⟩
        rw [hfe]
        have Hb8 := Lib.hid (Hb7.out.trans (ho.below HF7.out Hb7.out.size))
        clear hR8 hF8 ho hfe HR7 HF7 Hb7
        go_wp2
        go_ret
        exact ⟨by simp, Hb8.out⟩
    · have hd1 : decide ((k : Int) < (n : Int)) = false := by simp; omega
      have hle : dn ≤ M := by have := Hdn.out; omega
      go_wp2_with fail
      refine (HOK.out.crash 0 0 0 HR3.out (by unfold isI64; omega) (by unfold isI64; omega) (by unfold isI64; omega)).mono ?_
      rintro e w4 ⟨rfl, F4, hR4, hF4, ho⟩
      obtain ⟨d4, hd4⟩ : ∃ d4, d4 = Dsk.crash d 0 0 0 := ⟨_, rfl⟩
      rw [← hd4] at hR4
      have HR4 := Lib.hid hR4
      have HF4 := Lib.hid (show ∀ j, F4 j → w.heap.size ≤ j from fun j hj => by rcases hF4 j hj with h | h; exact HF3.out j h; exact Nat.le_trans Hb3.out.size h)
      have Hb4 := Lib.hid (Hb3.out.trans (ho.below HF3.out Hb3.out.size))
      have H94 := Lib.hid (show d4.secs.length = 9 by rw [hd4, Dsk.crash_len]; exact H9.out)
      have Hfu4 := Lib.hid (show d4.fuse = none by rw [hd4]; rfl)
      have Hm4 := Lib.hid (show d4.many ≤ 50 by rw [hd4]; exact Nat.le_trans Hm.out hk50)
      clear hR4 hF4 ho hd4 HR3 HF3 Hb3 H9 Hfu Hm
      go_wp2_with fail
      refine (awake14_any HOK.out w4).mono ?_
      rintro e w5 ⟨rfl, hb5⟩
      have HR5 := Lib.hid (HOK.out.keep HR4.out (fun j hj => hb5.block j (HOK.out.lt HR4.out j hj)))
      have Hb5 := bb Hb4 hb5
      clear hb5 HR4 Hb4
      go_wp2_with fail
      refine (full_any w5 1).mono ?_
      rintro e w6 ⟨rfl, hB6, hb6⟩
      have HR6 := Lib.hid (HOK.out.keep HR5.out (fun j hj => hb6.block j (HOK.out.lt HR5.out j hj)))
      have Hb6 := bb Hb5 hb6
      have HB6 := Lib.hid hB6
      have Hnf := Lib.hid (show ∀ p, some (⟨w5.heap.size, 0, none⟩ : Addr) = some p → ¬ F4 p.block from fun p hp hf => by
        obtain rfl := Option.some.inj hp
        exact absurd (HOK.out.lt HR5.out _ hf) (Nat.lt_irrefl _))
      clear hb6 hB6 HR5 Hb5
      go_wp2_with fail
      have hwe := Dsk.writeE_none Hfu4.out 0 (r8 1) (there9 H94.out 0 (by omega)) rfl
      refine (write_at HOK.out 0 (some ⟨w5.heap.size, 0, none⟩) (r8 1) 32 32 HR6.out (by unfold isI64; omega) rfl (Rd.of_all HB6.out) Hnf.out (Nat.le_refl _) (by omega) (by have := Hm4.out; omega)).mono ?_
      rintro e w7 ⟨E, rfl, hE, F7, hR7, hF7, ho⟩
      rw [hwe] at hE
      obtain rfl : E = 0 := hE
      have HR7 := Lib.hid hR7
      have HF7 := Lib.hid (show ∀ j, F7 j → w.heap.size ≤ j from fun j hj => by rcases hF7 j hj with h | h; exact HF4.out j h; exact Nat.le_trans Hb6.out.size h)
      have Hb7 := Lib.hid (Hb6.out.trans (ho.below HF4.out Hb6.out.size))
      clear hR7 hF7 ho hwe HR6 HB6 Hnf HF4 Hb6
      go_wp2_with fail
      have hfe := Dsk.flushE_none (Dsk.write_fuse Hfu4.out 0 (r8 1))
      refine (HOK.out.flush HR7.out).mono ?_
      rintro e w8 ⟨rfl, F8, hR8, hF8, ho⟩
      rw [hfe]
      have Hb8 := Lib.hid (Hb7.out.trans (ho.below HF7.out Hb7.out.size))
      clear hR8 hF8 ho hfe HR7 HF7 Hb7
      go_wp2
      go_ret
      exact ⟨by simp, Hb8.out⟩
end Go.Proofs.Ytampdfmakhdliaa
