/-
  The reference's tables of GF(256): a contract.
-/
import Derived.Test.YtbcagjndbfpecaaDoorBoxRef
import Derived.RegionTactic
import Derived.BigRegion
import Derived.Deep.CutRange
namespace Go.Proofs.YtbcagjndbfpecaaDoor
open Go.RowKit Go.Gar

theorem u8s_set (l : List UInt8) (i : Nat) (c : UInt8) : (u8s l).set i (.int .u8 (c.toNat : Int)) = u8s (l.set i c) := by simp [u8s, List.map_set]

theorem two_new (w : World) (t : TypeId) (l : List Value) : Blk ((w.alloc (.cells l.toArray t)).alloc (.cells l.toArray t)).drew w.heap.size t l ∧ Blk ((w.alloc (.cells l.toArray t)).alloc (.cells l.toArray t)).drew (w.heap.size + 1) t l ∧ Below w.heap.size w ((w.alloc (.cells l.toArray t)).alloc (.cells l.toArray t)).drew := by
  have h1 := Blk.new w t l
  have h2 := Blk.new (w.alloc (.cells l.toArray t)) t l
  rw [World.size_alloc] at h2
  have h3 := (below_alloc w (.cells l.toArray t)).alloc (by rw [World.size_alloc]; omega) (.cells l.toArray t)
  exact ⟨(h1.alloc _).drew, h2.drew, ⟨h3.os, h3.tape, h3.output, h3.size, h3.block⟩⟩

set_option maxHeartbeats 2000000 in
set_option maxRecDepth 100000 in
theorem refTables_any (w : World) :
    Calls Tryd.prog 29 #[] w fun e w' => ∃ gt gb, e = .returned (.tuple #[.slice (some ⟨gt, 0, none⟩) 256 256, .slice (some ⟨gb, 0, none⟩) 256 256]) ∧ gt ≠ gb ∧ w.heap.size ≤ gt ∧ w.heap.size ≤ gb ∧ Blk w' gt 5 (u8s Box.sboxB) ∧ Blk w' gb 5 (u8s Box.backB) ∧ Below w.heap.size w w' := by
  have hmk : ∀ w : World, (Instr.makeSlice 22 (.int .i64 256) (.int .i64 256)).run Tryd.prog w = .ok (.slice (some ⟨w.heap.size, 0, none⟩) 256 256) (w.alloc (.cells (u8s (List.replicate 256 0)).toArray 5)) := run_make_bytes 256 256 (by omega) (by omega)
  obtain ⟨Z, hZ⟩ : ∃ Z, Z = List.replicate 256 (0 : UInt8) := ⟨_, rfl⟩
  have HZ := Lib.hid hZ
  rw [← hZ] at hmk
  clear hZ
  go_enter Tryd.func29, Tryd.ntmps29
  go_wp2_with fail
  refine (refPowers_any w).mono ?_
  rintro e w1 ⟨v, rfl, hO1, hb1⟩
  obtain ⟨gp, pcap, rest, rfl, hgp, hpc, hP1⟩ := hO1.blk (by rw [Box.pows_len]; omega)
  have Hb1 := Lib.hid hb1
  have HP1 := Lib.hid hP1
  have HGP := Lib.hid hP1.lt
  rw [Box.pows_len] at *
  clear hb1 hP1 hO1
  have HB2 := Lib.hid (Blk.new w1 5 (u8s Z))
  have HP2 := Lib.hid (HP1.out.alloc (.cells (u8s Z).toArray 5))
  have Hb2 := Lib.hid (Hb1.out.alloc Hb1.out.size (.cells (u8s Z).toArray 5))
  have HGI := Lib.hid Hb1.out.size
  clear HP1
  have hsz : w1.heap.size ≠ gp := by have := HGP.out; omega
  go_wp2
  go_loopw [4] (fun i w' => ∃ k : Nat, k ≤ 255 ∧ i = .int .i64 (k : Int) ∧ Blk w' w1.heap.size 5 (u8s (Box.itab k)) ∧ Blk w' gp 5 (u8s (Box.pows 255) ++ rest) ∧ Below w.heap.size w w') (fun i _ => 255 - (intOf i).toNat)
  case atStart => exact ⟨0, by omega, rfl, by show Blk _ _ _ (u8s (List.replicate 256 0)); rw [← HZ.out]; exact HB2.out, HP2.out, Hb2.out⟩
  case round =>
    obtain ⟨k, hk, rfl, hI, hP, hb⟩ := hrel
    by_cases hlt : k < 255
    · have hc1 : wr.cell? ⟨gp, k, none⟩ = some (.int .u8 ((Box.pow k : Nat) : Int)) := by
        rw [hP.cell, List.getElem?_append_left (by rw [u8s_len, Box.pows_len]; omega), u8s_get, Box.pows_get 255 k (by omega)]
        simp [Box.ofNat_toNat _ (Box.pow_small _)]
      obtain ⟨j, hj⟩ : ∃ j, (255 - k) % 255 = j := ⟨_, rfl⟩
      have hjl : j < 255 := by rw [← hj]; exact Nat.mod_lt _ (by omega)
      have hjm : (255 - (k : Int)).tmod 255 = (j : Int) := by
        rw [Int.tmod_eq_emod_of_nonneg (by omega)]; omega
      have hc2 : wr.cell? ⟨gp, j, none⟩ = some (.int .u8 ((Box.pow j : Nat) : Int)) := by
        rw [hP.cell, List.getElem?_append_left (by rw [u8s_len, Box.pows_len]; omega), u8s_get, Box.pows_get 255 _ hjl]
        simp [Box.ofNat_toNat _ (Box.pow_small _)]
      have hp1 := Box.pow_small k
      have hp2 := Box.pow_small j
      have hI2 := hI.set_ (Box.pow k) (.int .u8 ((UInt8.ofNat (Box.pow j)).toNat : Int))
      rw [u8s_set, Box.ofNat_toNat _ hp2, ← hj] at hI2
      have HI2 : Hid (Blk _ _ _ (u8s (Box.itab (k + 1)))) := Lib.hid hI2
      have HP2 := Lib.hid (hP.far (p := ⟨w1.heap.size, Box.pow k, none⟩) (Ne.symm hsz) (.int .u8 ((Box.pow j : Nat) : Int)))
      have Hb2 := Lib.hid (hb.setCell (p := ⟨w1.heap.size, Box.pow k, none⟩) HGI.out (.int .u8 ((Box.pow j : Nat) : Int)))
      obtain ⟨v0, hcs⟩ : ∃ v0, wr.cell? ⟨w1.heap.size, Box.pow k, none⟩ = some v0 := ⟨_, by
        rw [hI.cell, List.getElem?_eq_getElem (by rw [u8s_len, Box.itab_len]; exact hp1)]⟩
      have hf := hI.frozen (Box.pow k)
      rw [hj] at HI2
      have HJ := Lib.hid hj
      clear hI2 hI hP hb hj
      generalize Box.pow k = a at *
      generalize Box.pow j = b at *
      go_wp2
      go_region
      go_wp2
      exact ⟨⟨k + 1, by omega, by go_num, HI2.out, HP2.out, ⟨Hb2.out.os, Hb2.out.tape, Hb2.out.output, Hb2.out.size, Hb2.out.block⟩⟩, by simp [intOf]; omega⟩
    · obtain rfl : k = 255 := by omega
      rw [Box.itab_end] at hI
      have HI := Lib.hid hI
      have HB := Lib.hid hb
      have HGJ := Lib.hid hI.lt
      clear hI hb hP HP2 Hb2 HB2
      go_wp2
      go_cut [5, 6] from 32 to 33 (fun t b w' => ∃ gt gb, t = .slice (some ⟨gt, 0, none⟩) 256 256 ∧ b = .slice (some ⟨gb, 0, none⟩) 256 256 ∧ gt ≠ gb ∧ wr.heap.size ≤ gt ∧ wr.heap.size ≤ gb ∧ Blk w' gt 5 (u8s Z) ∧ Blk w' gb 5 (u8s Z) ∧ Below wr.heap.size wr w')
      case first =>
        go_region
        all_goals (go_wp2; go_meet)
        case rel => exact ⟨wr.heap.size, wr.heap.size + 1, rfl, rfl, by omega, by omega, by omega, (two_new wr _ _).1, (two_new wr _ _).2.1, (two_new wr _ _).2.2⟩
        case rel => exact ⟨wr.heap.size + 1, wr.heap.size, rfl, rfl, by omega, by omega, by omega, (two_new wr _ _).2.1, (two_new wr _ _).1, (two_new wr _ _).2.2⟩
      case rest =>
        obtain ⟨gt, gb, rfl, rfl, hne, hgt, hgb, hT, hB, hb⟩ := hcut
        have HI2 := Lib.hid (HI.out.below hb HGJ.out)
        have HB2 := Lib.hid (HB.out.trans (hb.mono HB.out.size))
        have Hgt : Hid (w.heap.size ≤ gt) := Lib.hid (Nat.le_trans HB.out.size hgt)
        have Hgb : Hid (w.heap.size ≤ gb) := Lib.hid (Nat.le_trans HB.out.size hgb)
        have HT := Lib.hid hT
        have HBk := Lib.hid hB
        have hti : w1.heap.size ≠ gt := by have := HGJ.out; omega
        have hbi : w1.heap.size ≠ gb := by have := HGJ.out; omega
        clear hb hT hB hgt hgb HI HB
        go_wp2
        go_loopw [7] (fun i w' => ∃ a : Nat, a ≤ 256 ∧ i = .int .i64 (a : Int) ∧ Blk w' gt 5 (u8s (Box.ttab a)) ∧ Blk w' gb 5 (u8s (Box.btab a)) ∧ Blk w' w1.heap.size 5 (u8s Box.invB) ∧ Below w.heap.size w w') (fun i _ => 256 - (intOf i).toNat)
        case atStart => exact ⟨0, by omega, rfl, by show Blk _ _ _ (u8s (List.replicate 256 0)); rw [← HZ.out]; exact HT.out, by show Blk _ _ _ (u8s (List.replicate 256 0)); rw [← HZ.out]; exact HBk.out, HI2.out, HB2.out⟩
        case round =>
          obtain ⟨a, ha, rfl, hT, hB, hI, hb⟩ := hrel
          clear HT HBk HI2 HB2
          by_cases hlt : a < 256
          · have hc := hI.cell a
            rw [u8s_get, Box.invB_get a hlt, Option.map_some, Box.ofNat_toNat _ (Box.inv_lt a hlt)] at hc
            have hcl := Box.inv_lt a hlt
            have HD := Lib.hid (Box.sbox_def a hlt)
            have hsl := Box.sbox_lt a hlt
            obtain ⟨c, hcc⟩ : ∃ c, Box.inv a = c := ⟨_, rfl⟩
            rw [hcc] at hc hcl HD
            have HT := Lib.hid hT
            have HB := Lib.hid hB
            have HI := Lib.hid hI
            have Hb := Lib.hid hb
            clear hT hB hI hb hcc
            go_wp2
            go_loop [9, 10] (fun s i => ∃ i' s' : Nat, i' ≤ 8 ∧ i = .int .i64 (i' : Int) ∧ s = .int .i64 (s' : Int) ∧ s' = Box.sumK c i') (fun _ i => 8 - (intOf i).toNat)
            case atStart => exact ⟨0, 0, by omega, rfl, rfl, rfl⟩
            case round =>
              obtain ⟨i, s, hi, rfl, rfl, hs⟩ := hrel
              have HS := Lib.hid hs
              have hs2 : s < 256 := by
                have h1 := Box.sumK_lt c i
                have h2 : 2 ^ i ≤ 2 ^ 8 := Nat.pow_le_pow_right (by omega) hi
                omega
              clear hs
              by_cases hi8 : i < 8
              · have hb0 := bit64 c i (by omega)
                have hb0' : bits .and .i64 ((c : Int) / 2 ^ i) 1 = ((Box.bitK c i 0 : Nat) : Int) := hb0
                have Hb0 := Lib.hid hb0'
                clear hb0 hb0'
                go_wp2
                go_loop [11, 12] (fun b k => ∃ k' b' : Nat, k' ≤ 4 ∧ k = .int .i64 ((4 + k' : Nat) : Int) ∧ b = .int .i64 (b' : Int) ∧ b' = Box.bitK c i k') (fun _ k => 8 - (intOf k).toNat)
                case atStart => exact ⟨0, Box.bitK c i 0, by omega, rfl, by rw [Hb0.out], rfl⟩
                case round =>
                  obtain ⟨k, b, hk4, rfl, rfl, hbb⟩ := hrel
                  have HBB := Lib.hid hbb
                  have hb2 : b < 2 := by rw [hbb]; exact Box.bitK_lt c i k
                  clear hbb
                  by_cases hkl : k < 4
                  · have HX : Hid (bits .xor .i64 (b : Int) (bits .and .i64 ((c : Int) / 2 ^ ((i + (4 + k)) % 8)) 1) = ((Box.bitK c i (k + 1) : Nat) : Int)) := Lib.hid (by
                      have h2 := Box.toNat_lt2 (c.testBit ((i + (4 + k)) % 8))
                      rw [bit64 c _ (by omega), xor64 b _ (by omega) (by omega), HBB.out]; rfl)
                    go_wp2
                    exact ⟨⟨k + 1, Box.bitK c i (k + 1), by omega, by go_num, by rw [HX.out], rfl⟩, by simp [intOf]; omega⟩
                  · obtain rfl : k = 4 := by omega
                    have HX : Hid (wrap64 ((s : Int) + wrap64 ((b : Int) * 2 ^ i)) = ((Box.sumK c (i + 1) : Nat) : Int)) := Lib.hid (by
                      have h1 := shl_small b i (by omega) hi8
                      rw [shl64 b i (by omega), Box.sumK, ← HS.out, ← HBB.out, Nat.shiftLeft_eq]
                      unfold wrap64
                      omega)
                    go_wp2
                    exact ⟨⟨i + 1, by omega, by omega, HX.out⟩, by simp [intOf]; omega⟩
              · obtain rfl : i = 8 := by omega
                have hx : bits .xor .i64 (s : Int) 99 = ((Box.sbox a : Nat) : Int) := by
                  rw [show (99 : Int) = ((99 : Nat) : Int) from rfl, xor64 s 99 (by omega) (by omega), HS.out, Box.sumK_affine c hcl, HD.out]
                obtain ⟨v0, hcs⟩ : ∃ v0, wr.cell? ⟨gt, a, none⟩ = some v0 := ⟨_, by
                  rw [HT.out.cell, List.getElem?_eq_getElem (by rw [u8s_len, Box.ttab_len a (by omega)]; exact hlt)]⟩
                have hf := HT.out.frozen a
                obtain ⟨v1, hcb⟩ : ∃ v1, (wr.setCell ⟨gt, a, none⟩ (.int .u8 ((Box.sbox a : Nat) : Int))).cell? ⟨gb, Box.sbox a, none⟩ = some v1 := ⟨_, by
                  rw [(HB.out.far (p := ⟨gt, a, none⟩) (Ne.symm hne) _).cell, List.getElem?_eq_getElem (by rw [u8s_len, Box.btab_len]; exact hsl)]⟩
                have hfb := (HB.out.far (p := ⟨gt, a, none⟩) (Ne.symm hne) (.int .u8 ((Box.sbox a : Nat) : Int))).frozen (Box.sbox a)
                have HT2 := Lib.hid ((HT.out.set_ a (.int .u8 ((UInt8.ofNat (Box.sbox a)).toNat : Int))).far (p := ⟨gb, Box.sbox a, none⟩) hne (.int .u8 ((UInt8.ofNat a).toNat : Int)))
                have HBk2 := Lib.hid ((HB.out.far (p := ⟨gt, a, none⟩) (Ne.symm hne) (.int .u8 ((UInt8.ofNat (Box.sbox a)).toNat : Int))).set_ (Box.sbox a) (.int .u8 ((UInt8.ofNat a).toNat : Int)))
                have HI2 := Lib.hid ((HI.out.far (p := ⟨gt, a, none⟩) hti (.int .u8 ((UInt8.ofNat (Box.sbox a)).toNat : Int))).far (p := ⟨gb, Box.sbox a, none⟩) hbi (.int .u8 ((UInt8.ofNat a).toNat : Int)))
                have HB2 := Lib.hid ((Hb.out.setCell (p := ⟨gt, a, none⟩) Hgt.out (.int .u8 ((UInt8.ofNat (Box.sbox a)).toNat : Int))).setCell (p := ⟨gb, Box.sbox a, none⟩) Hgb.out (.int .u8 ((UInt8.ofNat a).toNat : Int)))
                rw [u8s_set, Box.ttab_set a hlt] at HT2
                rw [u8s_set] at HBk2
                rw [Box.ofNat_toNat _ hsl, Box.ofNat_toNat a hlt] at HT2 HBk2 HI2 HB2
                have HBk3 : Hid (Blk _ gb 5 (u8s (Box.btab (a + 1)))) := HBk2
                clear HBk2
                generalize Box.sbox a = q at *
                go_wp2
                exact ⟨⟨a + 1, by omega, by go_num, HT2.out, HBk3.out, HI2.out, HB2.out⟩, by simp [intOf]; omega⟩
          · obtain rfl : a = 256 := by omega
            rw [Box.ttab_end] at hT
            rw [Box.btab_end] at hB
            go_wp2
            go_ret2
            exact ⟨gt, gb, rfl, hne, Hgt.out, Hgb.out, hT, hB, hb⟩
end Go.Proofs.YtbcagjndbfpecaaDoor
