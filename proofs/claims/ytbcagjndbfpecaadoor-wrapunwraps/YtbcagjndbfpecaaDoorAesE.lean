/-
  Package aes: Encrypt and Decrypt, walked.
-/
import Derived.Test.YtbcagjndbfpecaaDoorAesC
namespace Go.Proofs.YtbcagjndbfpecaaDoor
open Go.RowKit Go.Gar Go.Gar.Aes

set_option maxHeartbeats 1000000 in
set_option maxRecDepth 100000 in
theorem enc_nil (w : World) (l : List UInt8) (hl : l.length = 16) :
    Calls Tryd.prog 25 #[.pointer none, .agg (u8s l).toArray] w fun e w' => e = .returned (.agg (u8s l).toArray) ∧ Below w.heap.size w w' := by
  have H2 := Two16.start w l
  have hs1 : (w.alloc (.cells (u8s l).toArray 56)).heap.size = w.heap.size + 1 := World.size_alloc _ _
  obtain ⟨w1, hw1⟩ : ∃ w1, w.alloc (.cells (u8s l).toArray 56) = w1 := ⟨_, rfl⟩
  rw [hw1] at H2 hs1
  obtain ⟨w2, hw2⟩ : ∃ w2, w1.alloc (.cells zr16.toArray 56) = w2 := ⟨_, rfl⟩
  rw [hw2] at H2
  have HW1 := Lib.hid hw1
  have HW2 := Lib.hid hw2
  have HS1 := Lib.hid hs1
  have HE := Lib.hid H2
  have hld := H2.load hl
  have hbk := H2.back hl
  have HSe := Lib.hid (sizeA16 l hl)
  have HZe : Hid (zr16.length = (u8s l).length) := Lib.hid (by rw [u8s_len, hl]; rfl)
  have HOe := Lib.hid (u8s_one l)
  have HbE := Lib.hid (below_setRow H2.b (by omega : w.heap.size ≤ w.heap.size + 1) (u8s l).toArray)
  clear hl hw1 hw2 hs1 H2
  go_enter Tryd.func25, Tryd.ntmps25
  go_wp2_with (first | (refine wpList_box_arr rfl 56 (.tmp 1) (u8s l).toArray rfl rfl ?_; rw [HW1.out]) | (refine wpList_alloc_arr rfl 56 zr16.toArray rfl zeroR16 ?_; rw [HW2.out, HS1.out]))
  refine (ready_nil w2).mono ?_
  rintro e w3 ⟨rfl, rfl⟩
  go_wp2_with (first | refine wpList_load_arr_w 56 (.tmp 3) rfl rfl (u8s l).toArray hld (by kernel_rfl) ?_ | refine wpList_store_arr rfl 56 (.tmp 4) (.tmp 9) (w.heap.size + 1) _ _ rfl rfl rfl rfl HE.out.r HSe.out HZe.out HOe.out ?_)
  try simp only [Act.put, List.setIfInBounds_toArray, List.set]
  refine bodyPost_ret (v := .agg (u8s l).toArray) ?_ rfl ⟨rfl, HbE.out⟩
  generalize (u8s l).toArray = X at hbk ⊢
  simp [results, Tryd.results25, asAddr, hbk]
set_option maxHeartbeats 1000000 in
set_option maxRecDepth 100000 in
theorem dec_nil (w : World) (l : List UInt8) (hl : l.length = 16) :
    Calls Tryd.prog 32 #[.pointer none, .agg (u8s l).toArray] w fun e w' => e = .returned (.agg (u8s l).toArray) ∧ Below w.heap.size w w' := by
  have H2 := Two16.start w l
  have hs1 : (w.alloc (.cells (u8s l).toArray 56)).heap.size = w.heap.size + 1 := World.size_alloc _ _
  obtain ⟨w1, hw1⟩ : ∃ w1, w.alloc (.cells (u8s l).toArray 56) = w1 := ⟨_, rfl⟩
  rw [hw1] at H2 hs1
  obtain ⟨w2, hw2⟩ : ∃ w2, w1.alloc (.cells zr16.toArray 56) = w2 := ⟨_, rfl⟩
  rw [hw2] at H2
  have HW1 := Lib.hid hw1
  have HW2 := Lib.hid hw2
  have HS1 := Lib.hid hs1
  have HE := Lib.hid H2
  have hld := H2.load hl
  have hbk := H2.back hl
  have HSe := Lib.hid (sizeA16 l hl)
  have HZe : Hid (zr16.length = (u8s l).length) := Lib.hid (by rw [u8s_len, hl]; rfl)
  have HOe := Lib.hid (u8s_one l)
  have HbE := Lib.hid (below_setRow H2.b (by omega : w.heap.size ≤ w.heap.size + 1) (u8s l).toArray)
  clear hl hw1 hw2 hs1 H2
  go_enter Tryd.func32, Tryd.ntmps32
  go_wp2_with (first | (refine wpList_box_arr rfl 56 (.tmp 1) (u8s l).toArray rfl rfl ?_; rw [HW1.out]) | (refine wpList_alloc_arr rfl 56 zr16.toArray rfl zeroR16 ?_; rw [HW2.out, HS1.out]))
  refine (ready_nil w2).mono ?_
  rintro e w3 ⟨rfl, rfl⟩
  go_wp2_with (first | refine wpList_load_arr_w 56 (.tmp 3) rfl rfl (u8s l).toArray hld (by kernel_rfl) ?_ | refine wpList_store_arr rfl 56 (.tmp 4) (.tmp 9) (w.heap.size + 1) _ _ rfl rfl rfl rfl HE.out.r HSe.out HZe.out HOe.out ?_)
  try simp only [Act.put, List.setIfInBounds_toArray, List.set]
  refine bodyPost_ret (v := .agg (u8s l).toArray) ?_ rfl ⟨rfl, HbE.out⟩
  generalize (u8s l).toArray = X at hbk ⊢
  simp [results, Tryd.results32, asAddr, hbk]

set_option maxHeartbeats 2000000 in
set_option maxRecDepth 100000 in
theorem encrypt_at (w : World) (gc gk nk cap last : Nat) (K : Nat → List UInt8) (l : List UInt8) (hl : l.length = 16) (hR : Ready w gc gk nk cap K) (hn : nk = last + 1) (h1 : 1 ≤ last) (h2 : last ≤ 100) :
    Calls Tryd.prog 25 #[.pointer (some ⟨gc, 0, none⟩), .agg (u8s l).toArray] w fun e w' => e = .returned (.agg (u8s (enc K last l)).toArray) ∧ Below w.heap.size w w' := by
  have HR := Lib.hid hR
  have HL := Lib.hid hl
  have HN := Lib.hid hn
  have hnk : 2 ≤ nk ∧ nk ≤ 101 := by omega
  have H2 := Two16.start w l
  have hs1 : (w.alloc (.cells (u8s l).toArray 56)).heap.size = w.heap.size + 1 := World.size_alloc _ _
  obtain ⟨w1, hw1⟩ : ∃ w1, w.alloc (.cells (u8s l).toArray 56) = w1 := ⟨_, rfl⟩
  rw [hw1] at H2 hs1
  obtain ⟨w2, hw2⟩ : ∃ w2, w1.alloc (.cells zr16.toArray 56) = w2 := ⟨_, rfl⟩
  rw [hw2] at H2
  have HW1 := Lib.hid hw1
  have HW2 := Lib.hid hw2
  have HS1 := Lib.hid hs1
  have HH := Lib.hid H2
  have hcell := hR.at_ H2.b
  clear hl hR hw1 hw2 hs1 H2 hn h1 h2
  obtain ⟨hnk1, hnk2⟩ := hnk
  go_enter Tryd.func25, Tryd.ntmps25
  go_wp2_with (first | (refine wpList_box_arr rfl 56 (.tmp 1) (u8s l).toArray rfl rfl ?_; rw [HW1.out]) | (refine wpList_alloc_arr rfl 56 zr16.toArray rfl zeroR16 ?_; rw [HW2.out, HS1.out]))
  refine (ready_yes w2 gc nk cap _ (by omega) hcell).mono ?_
  rintro e w3 ⟨rfl, rfl⟩
  go_wp2_with fail
  refine (HR.out.add HL.out HH.out 0 0 rfl (by omega)).mono ?_
  rintro e w4 ⟨⟨rv, rfl⟩, h4⟩
  have H4 : Hid (Two16 w w4 (encN K last l 0)) := Lib.hid h4
  clear h4 HH hcell HW1 HW2 HS1
  go_wp2_with fail
  go_loopw [5] (fun v w' => ∃ r : Nat, r < nk ∧ v = .int .i64 ((r : Int) + 1) ∧ Two16 w w' (encN K last l r)) (fun v _ => nk - (intOf v).toNat)
  case atStart => exact ⟨0, by omega, rfl, H4.out⟩
  case round =>
    obtain ⟨r, hr, rfl, h5⟩ := hrel
    clear H4
    have hcell := HR.out.at_ h5.b
    have H5 := Lib.hid h5
    clear h5
    by_cases hlt : r + 1 < nk
    · have d1 : decide ((r : Int) + 1 < (nk : Int)) = true := by simp; omega
      go_wp2_with fail
      refine (HR.out.sub (encN_len K last l r) H5.out).mono ?_
      rintro e w6 ⟨⟨rv6, rfl⟩, h6⟩
      have H6 := Lib.hid h6
      clear h6 hcell
      go_wp2_with fail
      refine (Two16.rot1 (by rw [List.length_map]; exact encN_len K last l r) H6.out).mono ?_
      rintro e w7 ⟨⟨rv7, rfl⟩, h7⟩
      rw [shift_rot _ (encN_len K last l r)] at h7
      have hcell := HR.out.at_ h7.b
      have H7 := Lib.hid h7
      clear h7 H6 H5
      by_cases hlm : r + 1 < last
      · have d2 : decide ((r : Int) + 1 < (nk : Int) - 1) = true := by have := HN.out; simp; omega
        go_wp2_with fail
        refine (HR.out.mix (shift_len _) H7.out).mono ?_
        rintro e w8 ⟨⟨rv8, rfl⟩, h8⟩
        have hcell := HR.out.at_ h8.b
        have H8 := Lib.hid h8
        clear h8
        go_wp2_with fail
        refine (HR.out.add (mix_len _) H8.out (r + 1) _ rfl (by omega)).mono ?_
        rintro e w9 ⟨⟨rv9, rfl⟩, h9⟩
        have H9 : Hid (Two16 w w9 (encN K last l (r + 1))) := Lib.hid (by rw [encN, if_pos hlm]; exact h9)
        clear h9
        go_wp2
        exact ⟨⟨r + 1, by omega, by go_num, H9.out⟩, by simp [intOf]; omega⟩
      · have d2 : decide ((r : Int) + 1 < (nk : Int) - 1) = false := by have := HN.out; simp; omega
        have H8 := H7
        go_wp2_with fail
        refine (HR.out.add (shift_len _) H8.out (r + 1) _ rfl (by omega)).mono ?_
        rintro e w9 ⟨⟨rv9, rfl⟩, h9⟩
        have H9 : Hid (Two16 w w9 (encN K last l (r + 1))) := Lib.hid (by rw [encN, if_neg hlm]; exact h9)
        clear h9
        go_wp2
        exact ⟨⟨r + 1, by omega, by go_num, H9.out⟩, by simp [intOf]; omega⟩
    · have d1 : decide ((r : Int) + 1 < (nk : Int)) = false := by simp; omega
      have hrl : r = last := by have := HN.out; omega
      have HE : Hid (Two16 w wr (enc K last l)) := Lib.hid (by unfold enc; have := H5.out; rw [hrl] at this; exact this)
      have hel := enc_len K last l
      clear hrl H5
      obtain ⟨out, hout⟩ : ∃ out, enc K last l = out := ⟨_, rfl⟩
      rw [hout] at HE hel
      have HOut := Lib.hid hout
      clear hout
      have hld := HE.out.load hel
      have hbk := HE.out.back hel
      have HSe := Lib.hid (sizeA16 out hel)
      have HZe : Hid (zr16.length = (u8s out).length) := Lib.hid (by rw [u8s_len, hel]; rfl)
      have HOe := Lib.hid (u8s_one out)
      have HbE := Lib.hid (below_setRow HE.out.b (by omega : w.heap.size ≤ w.heap.size + 1) (u8s out).toArray)
      go_wp2_with (first | refine wpList_load_arr_w 56 (.tmp 3) rfl rfl (u8s out).toArray hld (by kernel_rfl) ?_ | refine wpList_store_arr rfl 56 (.tmp 4) (.tmp 49) (w.heap.size + 1) _ _ rfl rfl rfl rfl HE.out.r HSe.out HZe.out HOe.out ?_)
      try simp only [Act.put, List.setIfInBounds_toArray, List.set]
      refine bodyPost_ret (v := .agg (u8s out).toArray) ?_ rfl ⟨by rw [HOut.out], HbE.out⟩
      generalize (u8s out).toArray = X at hbk ⊢
      simp [results, Tryd.results25, asAddr, hbk]
set_option maxHeartbeats 2000000 in
set_option maxRecDepth 100000 in
theorem decrypt_at (w : World) (gc gk nk cap last : Nat) (K : Nat → List UInt8) (l : List UInt8) (hl : l.length = 16) (hR : Ready w gc gk nk cap K) (hn : nk = last + 1) (h1 : 1 ≤ last) (h2 : last ≤ 100) :
    Calls Tryd.prog 32 #[.pointer (some ⟨gc, 0, none⟩), .agg (u8s l).toArray] w fun e w' => e = .returned (.agg (u8s (dec K last l)).toArray) ∧ Below w.heap.size w w' := by
  have HR := Lib.hid hR
  have HL := Lib.hid hl
  have HN := Lib.hid hn
  have hnk : 2 ≤ nk ∧ nk ≤ 101 := by omega
  have H2 := Two16.start w l
  have hs1 : (w.alloc (.cells (u8s l).toArray 56)).heap.size = w.heap.size + 1 := World.size_alloc _ _
  obtain ⟨w1, hw1⟩ : ∃ w1, w.alloc (.cells (u8s l).toArray 56) = w1 := ⟨_, rfl⟩
  rw [hw1] at H2 hs1
  obtain ⟨w2, hw2⟩ : ∃ w2, w1.alloc (.cells zr16.toArray 56) = w2 := ⟨_, rfl⟩
  rw [hw2] at H2
  have HW1 := Lib.hid hw1
  have HW2 := Lib.hid hw2
  have HS1 := Lib.hid hs1
  have HH := Lib.hid H2
  have hcell := hR.at_ H2.b
  clear hl hR hw1 hw2 hs1 H2 hn h1 h2
  obtain ⟨hnk1, hnk2⟩ := hnk
  go_enter Tryd.func32, Tryd.ntmps32
  go_wp2_with (first | (refine wpList_box_arr rfl 56 (.tmp 1) (u8s l).toArray rfl rfl ?_; rw [HW1.out]) | (refine wpList_alloc_arr rfl 56 zr16.toArray rfl zeroR16 ?_; rw [HW2.out, HS1.out]))
  refine (ready_yes w2 gc nk cap _ (by omega) hcell).mono ?_
  rintro e w3 ⟨rfl, rfl⟩
  have H4 : Hid (Two16 w w3 (decN K last l 0)) := HH
  clear HH HW1 HW2 HS1
  go_wp2_with fail
  clear hcell
  go_loopw [5] (fun v w' => ∃ r : Nat, r < nk ∧ v = .int .i64 ((r : Int)) ∧ Two16 w w' (decN K last l (last - r))) (fun v _ => (intOf v).toNat)
  case atStart => exact ⟨nk - 1, by omega, by go_num, by have := HN.out; rw [show last - (nk - 1) = 0 from by omega]; exact H4.out⟩
  case round =>
    obtain ⟨r, hr, rfl, h5⟩ := hrel
    clear H4
    have hcell := HR.out.at_ h5.b
    have hl5 := decN_len K last l HL.out (last - r)
    by_cases hlt : 0 < r
    · have hD : decN K last l (last - (r - 1)) = unshift (if r < last then mix3 (addK (decN K last l (last - r)) (K r)) else addK (decN K last l (last - r)) (K r)) := by
        have := HN.out
        rw [show last - (r - 1) = (last - r) + 1 from by omega, decN, show last - (last - r) = r from by omega]
      have HD := Lib.hid hD
      have H5 := Lib.hid h5
      have HL5 := Lib.hid hl5
      clear h5 hl5 hD
      go_wp2_with fail
      refine (HR.out.add HL5.out H5.out r _ rfl hr).mono ?_
      rintro e w6 ⟨⟨rv6, rfl⟩, h6⟩
      have hcell := HR.out.at_ h6.b
      have H6 := Lib.hid h6
      clear h6
      by_cases hlm : r < last
      · have d2 : decide ((r : Int) < (nk : Int) - 1) = true := by have := HN.out; simp; omega
        rw [if_pos hlm] at HD
        go_wp2_with fail
        refine (HR.out.unmix (addK_len _ _) H6.out).mono ?_
        rintro e w7 ⟨⟨rv7, rfl⟩, h7⟩
        have H7 := Lib.hid h7
        have HL7 : Hid ((mix3 (addK (decN K last l (last - r)) (K r))).length = 16) := Lib.hid (mix_len _)
        clear h7 hcell
        generalize mix3 (addK (decN K last l (last - r)) (K r)) = m7 at *
        go_wp2_with fail
        refine (Two16.rot3 HL7.out H7.out).mono ?_
        rintro e w8 ⟨⟨rv8, rfl⟩, h8⟩
        have H8 := Lib.hid h8
        clear h8
        go_wp2_with fail
        refine (HR.out.unsub (rot_len _ _) H8.out).mono ?_
        rintro e w9 ⟨⟨rv9, rfl⟩, h9⟩
        rw [unshift_rot, ← HD.out] at h9
        have H9 := Lib.hid h9
        clear h9
        go_wp2
        exact ⟨⟨r - 1, by omega, by go_num, H9.out⟩, by simp [intOf]; omega⟩
      · have d2 : decide ((r : Int) < (nk : Int) - 1) = false := by have := HN.out; simp; omega
        rw [if_neg hlm] at HD
        have H7 := H6
        have HL7 : Hid ((addK (decN K last l (last - r)) (K r)).length = 16) := Lib.hid (addK_len _ _)
        generalize addK (decN K last l (last - r)) (K r) = m7 at *
        go_wp2_with fail
        refine (Two16.rot3 HL7.out H7.out).mono ?_
        rintro e w8 ⟨⟨rv8, rfl⟩, h8⟩
        have H8 := Lib.hid h8
        clear h8
        go_wp2_with fail
        refine (HR.out.unsub (rot_len _ _) H8.out).mono ?_
        rintro e w9 ⟨⟨rv9, rfl⟩, h9⟩
        rw [unshift_rot, ← HD.out] at h9
        have H9 := Lib.hid h9
        clear h9
        go_wp2
        exact ⟨⟨r - 1, by omega, by go_num, H9.out⟩, by simp [intOf]; omega⟩
    · obtain rfl : r = 0 := by omega
      rw [Nat.sub_zero] at h5 hl5
      have H5 := Lib.hid h5
      have HL5 := Lib.hid hl5
      clear h5 hl5
      go_wp2_with fail
      refine (HR.out.add HL5.out H5.out 0 0 rfl (by omega)).mono ?_
      rintro e w9 ⟨⟨rv9, rfl⟩, h9⟩
      have HE : Hid (Two16 w w9 (dec K last l)) := Lib.hid h9
      have hel := dec_len K last l
      clear h9 H5 HL5 hcell
      obtain ⟨out, hout⟩ : ∃ out, dec K last l = out := ⟨_, rfl⟩
      rw [hout] at HE hel
      have HOut := Lib.hid hout
      clear hout
      have hld := HE.out.load hel
      have hbk := HE.out.back hel
      have HSe := Lib.hid (sizeA16 out hel)
      have HZe : Hid (zr16.length = (u8s out).length) := Lib.hid (by rw [u8s_len, hel]; rfl)
      have HOe := Lib.hid (u8s_one out)
      have HbE := Lib.hid (below_setRow HE.out.b (by omega : w.heap.size ≤ w.heap.size + 1) (u8s out).toArray)
      go_wp2_with (first | refine wpList_load_arr_w 56 (.tmp 3) rfl rfl (u8s out).toArray hld (by kernel_rfl) ?_ | refine wpList_store_arr rfl 56 (.tmp 4) (.tmp 50) (w.heap.size + 1) _ _ rfl rfl rfl rfl HE.out.r HSe.out HZe.out HOe.out ?_)
      try simp only [Act.put, List.setIfInBounds_toArray, List.set]
      refine bodyPost_ret (v := .agg (u8s out).toArray) ?_ rfl ⟨by rw [HOut.out], HbE.out⟩
      generalize (u8s out).toArray = X at hbk ⊢
      simp [results, Tryd.results32, asAddr, hbk]
end Go.Proofs.YtbcagjndbfpecaaDoor
