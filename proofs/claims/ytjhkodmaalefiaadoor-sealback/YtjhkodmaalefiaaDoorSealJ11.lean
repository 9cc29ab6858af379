/-
  The reference's tables of GF(256): a contract. The reference's cipher: its representation in memory, and the contract of its round key's addition. Small facts on AES's bytes in memory, and the reference's product of bytes.
-/
import Derived.Test.YtjhkodmaalefiaaDoorSealJ10
import Derived.RegionTactic
import Derived.BigRegion
import Derived.Deep.CutRange
import Derived.Test.YtjhkodmaalefiaaDoorSealJ08
import Derived.Test.YtjhkodmaalefiaaDoorSealJ04
set_option maxRecDepth 100000
namespace Go.Proofs.YtjhkodmaalefiaaDoor
open Go.RowKit Go.Gar

theorem u8s_set (l : List UInt8) (i : Nat) (c : UInt8) : (u8s l).set i (.int .u8 (c.toNat : Int)) = u8s (l.set i c) := by simp [u8s, List.map_set]

theorem two_new (w : World) (t : TypeId) (l : List Value) : Blk ((w.alloc (.cells l.toArray t)).alloc (.cells l.toArray t)).drew w.heap.size t l ∧ Blk ((w.alloc (.cells l.toArray t)).alloc (.cells l.toArray t)).drew (w.heap.size + 1) t l ∧ Below w.heap.size w ((w.alloc (.cells l.toArray t)).alloc (.cells l.toArray t)).drew := by
  have h1 := Blk.new w t l
  have h2 := Blk.new (w.alloc (.cells l.toArray t)) t l
  rw [World.size_alloc] at h2
  have h3 := (below_alloc w (.cells l.toArray t)).alloc (by rw [World.size_alloc]; omega) (.cells l.toArray t)
  exact ⟨(h1.alloc _).drew, h2.drew, ⟨h3.os, h3.tape, h3.output, h3.size, h3.block⟩⟩

set_option maxHeartbeats 2000000 in
set_option maxRecDepth 100000 in
theorem refTables_any (w : World) :
    Calls Tryd.prog 72 #[] w fun e w' => ∃ gt gb, e = .returned (.tuple #[.slice (some ⟨gt, 0, none⟩) 256 256, .slice (some ⟨gb, 0, none⟩) 256 256]) ∧ gt ≠ gb ∧ w.heap.size ≤ gt ∧ w.heap.size ≤ gb ∧ Blk w' gt 5 (u8s Box.sboxB) ∧ Blk w' gb 5 (u8s Box.backB) ∧ Below w.heap.size w w' := by
  have hmk : ∀ w : World, (Instr.makeSlice 26 (.int .i64 256) (.int .i64 256)).run Tryd.prog w = .ok (.slice (some ⟨w.heap.size, 0, none⟩) 256 256) (w.alloc (.cells (u8s (List.replicate 256 0)).toArray 5)) := run_make_bytes 256 256 (by omega) (by omega)
  obtain ⟨Z, hZ⟩ : ∃ Z, Z = List.replicate 256 (0 : UInt8) := ⟨_, rfl⟩
  have HZ := Lib.hid hZ
  rw [← hZ] at hmk
  clear hZ
  go_enter Tryd.func72, Tryd.ntmps72
  go_wp2_with fail
  refine (refPowers_any w).mono ?_
  rintro e w1 ⟨v, rfl, hO1, hb1⟩
  obtain ⟨gp, pcap, rest, rfl, hgp, hpc, hP1⟩ := hO1.blk (by rw [Box.pows_len]; omega)
  have Hb1 := Lib.hid hb1
  have HP1 := Lib.hid hP1
  have HGP := Lib.hid hP1.lt
  rw [Box.pows_len] at *
  clear hb1 hP1 hO1
  have HB2 := Lib.hid (Blk.new w1 5 (u8s Z))
  have HP2 := Lib.hid (HP1.out.alloc (.cells (u8s Z).toArray 5))
  have Hb2 := Lib.hid (Hb1.out.alloc Hb1.out.size (.cells (u8s Z).toArray 5))
  have HGI := Lib.hid Hb1.out.size
  clear HP1
  have hsz : w1.heap.size ≠ gp := by have := HGP.out; omega
  go_wp2
  go_loopw [4] (fun i w' => ∃ k : Nat, k ≤ 255 ∧ i = .int .i64 (k : Int) ∧ Blk w' w1.heap.size 5 (u8s (Box.itab k)) ∧ Blk w' gp 5 (u8s (Box.pows 255) ++ rest) ∧ Below w.heap.size w w') (fun i _ => 255 - (intOf i).toNat)
  case atStart => exact ⟨0, by omega, rfl, by show Blk _ _ _ (u8s (List.replicate 256 0)); rw [← HZ.out]; exact HB2.out, HP2.out, Hb2.out⟩
  case round =>
    obtain ⟨k, hk, rfl, hI, hP, hb⟩ := hrel
    by_cases hlt : k < 255
    · have hc1 : wr.cell? ⟨gp, k, none⟩ = some (.int .u8 ((Box.pow k : Nat) : Int)) := by
        rw [hP.cell, List.getElem?_append_left (by rw [u8s_len, Box.pows_len]; omega), u8s_get, Box.pows_get 255 k (by omega)]
        simp [Box.ofNat_toNat _ (Box.pow_small _)]
      obtain ⟨j, hj⟩ : ∃ j, (255 - k) % 255 = j := ⟨_, rfl⟩
      have hjl : j < 255 := by rw [← hj]; exact Nat.mod_lt _ (by omega)
      have hjm : (255 - (k : Int)).tmod 255 = (j : Int) := by
        rw [Int.tmod_eq_emod_of_nonneg (by omega)]; omega
      have hc2 : wr.cell? ⟨gp, j, none⟩ = some (.int .u8 ((Box.pow j : Nat) : Int)) := by
        rw [hP.cell, List.getElem?_append_left (by rw [u8s_len, Box.pows_len]; omega), u8s_get, Box.pows_get 255 _ hjl]
        simp [Box.ofNat_toNat _ (Box.pow_small _)]
      have hp1 := Box.pow_small k
      have hp2 := Box.pow_small j
      have hI2 := hI.set_ (Box.pow k) (.int .u8 ((UInt8.ofNat (Box.pow j)).toNat : Int))
      rw [u8s_set, Box.ofNat_toNat _ hp2, ← hj] at hI2
      have HI2 : Hid (Blk _ _ _ (u8s (Box.itab (k + 1)))) := Lib.hid hI2
      have HP2 := Lib.hid (hP.far (p := ⟨w1.heap.size, Box.pow k, none⟩) (Ne.symm hsz) (.int .u8 ((Box.pow j : Nat) : Int)))
      have Hb2 := Lib.hid (hb.setCell (p := ⟨w1.heap.size, Box.pow k, none⟩) HGI.out (.int .u8 ((Box.pow j : Nat) : Int)))
      obtain ⟨v0, hcs⟩ : ∃ v0, wr.cell? ⟨w1.heap.size, Box.pow k, none⟩ = some v0 := ⟨_, by
        rw [hI.cell, List.getElem?_eq_getElem (by rw [u8s_len, Box.itab_len]; exact hp1)]⟩
      have hf := hI.frozen (Box.pow k)
      rw [hj] at HI2
      have HJ := Lib.hid hj
      clear hI2 hI hP hb hj
      generalize Box.pow k = a at *
      generalize Box.pow j = b at *
      go_wp2
      go_region
      go_wp2
      exact ⟨⟨k + 1, by omega, by go_num, HI2.out, HP2.out, ⟨Hb2.out.os, Hb2.out.tape, Hb2.out.output, Hb2.out.size, Hb2.out.block⟩⟩, by simp [intOf]; omega⟩
    · obtain rfl : k = 255 := by omega
      rw [Box.itab_end] at hI
      have HI := Lib.hid hI
      have HB := Lib.hid hb
      have HGJ := Lib.hid hI.lt
      clear hI hb hP HP2 Hb2 HB2
      go_wp2
      go_cut [5, 6] from 32 to 33 (fun t b w' => ∃ gt gb, t = .slice (some ⟨gt, 0, none⟩) 256 256 ∧ b = .slice (some ⟨gb, 0, none⟩) 256 256 ∧ gt ≠ gb ∧ wr.heap.size ≤ gt ∧ wr.heap.size ≤ gb ∧ Blk w' gt 5 (u8s Z) ∧ Blk w' gb 5 (u8s Z) ∧ Below wr.heap.size wr w')
      case first =>
        go_region
        all_goals (go_wp2; go_meet)
        case rel => exact ⟨wr.heap.size, wr.heap.size + 1, rfl, rfl, by omega, by omega, by omega, (two_new wr _ _).1, (two_new wr _ _).2.1, (two_new wr _ _).2.2⟩
        case rel => exact ⟨wr.heap.size + 1, wr.heap.size, rfl, rfl, by omega, by omega, by omega, (two_new wr _ _).2.1, (two_new wr _ _).1, (two_new wr _ _).2.2⟩
      case rest =>
        obtain ⟨gt, gb, rfl, rfl, hne, hgt, hgb, hT, hB, hb⟩ := hcut
        have HI2 := Lib.hid (HI.out.below hb HGJ.out)
        have HB2 := Lib.hid (HB.out.trans (hb.mono HB.out.size))
        have Hgt : Hid (w.heap.size ≤ gt) := Lib.hid (Nat.le_trans HB.out.size hgt)
        have Hgb : Hid (w.heap.size ≤ gb) := Lib.hid (Nat.le_trans HB.out.size hgb)
        have HT := Lib.hid hT
        have HBk := Lib.hid hB
        have hti : w1.heap.size ≠ gt := by have := HGJ.out; omega
        have hbi : w1.heap.size ≠ gb := by have := HGJ.out; omega
        clear hb hT hB hgt hgb HI HB
        go_wp2
        go_loopw [7] (fun i w' => ∃ a : Nat, a ≤ 256 ∧ i = .int .i64 (a : Int) ∧ Blk w' gt 5 (u8s (Box.ttab a)) ∧ Blk w' gb 5 (u8s (Box.btab a)) ∧ Blk w' w1.heap.size 5 (u8s Box.invB) ∧ Below w.heap.size w w') (fun i _ => 256 - (intOf i).toNat)
        case atStart => exact ⟨0, by omega, rfl, by show Blk _ _ _ (u8s (List.replicate 256 0)); rw [← HZ.out]; exact HT.out, by show Blk _ _ _ (u8s (List.replicate 256 0)); rw [← HZ.out]; exact HBk.out, HI2.out, HB2.out⟩
        case round =>
          obtain ⟨a, ha, rfl, hT, hB, hI, hb⟩ := hrel
          clear HT HBk HI2 HB2
          by_cases hlt : a < 256
          · have hc := hI.cell a
            rw [u8s_get, Box.invB_get a hlt, Option.map_some, Box.ofNat_toNat _ (Box.inv_lt a hlt)] at hc
            have hcl := Box.inv_lt a hlt
            have HD := Lib.hid (Box.sbox_def a hlt)
            have hsl := Box.sbox_lt a hlt
            obtain ⟨c, hcc⟩ : ∃ c, Box.inv a = c := ⟨_, rfl⟩
            rw [hcc] at hc hcl HD
            have HT := Lib.hid hT
            have HB := Lib.hid hB
            have HI := Lib.hid hI
            have Hb := Lib.hid hb
            clear hT hB hI hb hcc
            go_wp2
            go_loop [9, 10] (fun s i => ∃ i' s' : Nat, i' ≤ 8 ∧ i = .int .i64 (i' : Int) ∧ s = .int .i64 (s' : Int) ∧ s' = Box.sumK c i') (fun _ i => 8 - (intOf i).toNat)
            case atStart => exact ⟨0, 0, by omega, rfl, rfl, rfl⟩
            case round =>
              obtain ⟨i, s, hi, rfl, rfl, hs⟩ := hrel
              have HS := Lib.hid hs
              have hs2 : s < 256 := by
                have h1 := Box.sumK_lt c i
                have h2 : 2 ^ i ≤ 2 ^ 8 := Nat.pow_le_pow_right (by omega) hi
                omega
              clear hs
              by_cases hi8 : i < 8
              · have hb0 := bit64 c i (by omega)
                have hb0' : bits .and .i64 ((c : Int) / 2 ^ i) 1 = ((Box.bitK c i 0 : Nat) : Int) := hb0
                have Hb0 := Lib.hid hb0'
                clear hb0 hb0'
                go_wp2
                go_loop [11, 12] (fun b k => ∃ k' b' : Nat, k' ≤ 4 ∧ k = .int .i64 ((4 + k' : Nat) : Int) ∧ b = .int .i64 (b' : Int) ∧ b' = Box.bitK c i k') (fun _ k => 8 - (intOf k).toNat)
                case atStart => exact ⟨0, Box.bitK c i 0, by omega, rfl, by rw [Hb0.out], rfl⟩
                case round =>
                  obtain ⟨k, b, hk4, rfl, rfl, hbb⟩ := hrel
                  have HBB := Lib.hid hbb
                  have hb2 : b < 2 := by rw [hbb]; exact Box.bitK_lt c i k
                  clear hbb
                  by_cases hkl : k < 4
                  · have HX : Hid (bits .xor .i64 (b : Int) (bits .and .i64 ((c : Int) / 2 ^ ((i + (4 + k)) % 8)) 1) = ((Box.bitK c i (k + 1) : Nat) : Int)) := Lib.hid (by
                      have h2 := Box.toNat_lt2 (c.testBit ((i + (4 + k)) % 8))
                      rw [bit64 c _ (by omega), xor64 b _ (by omega) (by omega), HBB.out]; rfl)
                    go_wp2
                    exact ⟨⟨k + 1, Box.bitK c i (k + 1), by omega, by go_num, by rw [HX.out], rfl⟩, by simp [intOf]; omega⟩
                  · obtain rfl : k = 4 := by omega
                    have HX : Hid (wrap64 ((s : Int) + wrap64 ((b : Int) * 2 ^ i)) = ((Box.sumK c (i + 1) : Nat) : Int)) := Lib.hid (by
                      have h1 := shl_small b i (by omega) hi8
                      rw [shl64 b i (by omega), Box.sumK, ← HS.out, ← HBB.out, Nat.shiftLeft_eq]
                      unfold wrap64
                      omega)
                    go_wp2
                    exact ⟨⟨i + 1, by omega, by omega, HX.out⟩, by simp [intOf]; omega⟩
              · obtain rfl : i = 8 := by omega
                have hx : bits .xor .i64 (s : Int) 99 = ((Box.sbox a : Nat) : Int) := by
                  rw [show (99 : Int) = ((99 : Nat) : Int) from rfl, xor64 s 99 (by omega) (by omega), HS.out, Box.sumK_affine c hcl, HD.out]
                obtain ⟨v0, hcs⟩ : ∃ v0, wr.cell? ⟨gt, a, none⟩ = some v0 := ⟨_, by
                  rw [HT.out.cell, List.getElem?_eq_getElem (by rw [u8s_len, Box.ttab_len a (by omega)]; exact hlt)]⟩
                have hf := HT.out.frozen a
                obtain ⟨v1, hcb⟩ : ∃ v1, (wr.setCell ⟨gt, a, none⟩ (.int .u8 ((Box.sbox a : Nat) : Int))).cell? ⟨gb, Box.sbox a, none⟩ = some v1 := ⟨_, by
                  rw [(HB.out.far (p := ⟨gt, a, none⟩) (Ne.symm hne) _).cell, List.getElem?_eq_getElem (by rw [u8s_len, Box.btab_len]; exact hsl)]⟩
                have hfb := (HB.out.far (p := ⟨gt, a, none⟩) (Ne.symm hne) (.int .u8 ((Box.sbox a : Nat) : Int))).frozen (Box.sbox a)
                have HT2 := Lib.hid ((HT.out.set_ a (.int .u8 ((UInt8.ofNat (Box.sbox a)).toNat : Int))).far (p := ⟨gb, Box.sbox a, none⟩) hne (.int .u8 ((UInt8.ofNat a).toNat : Int)))
                have HBk2 := Lib.hid ((HB.out.far (p := ⟨gt, a, none⟩) (Ne.symm hne) (.int .u8 ((UInt8.ofNat (Box.sbox a)).toNat : Int))).set_ (Box.sbox a) (.int .u8 ((UInt8.ofNat a).toNat : Int)))
                have HI2 := Lib.hid ((HI.out.far (p := ⟨gt, a, none⟩) hti (.int .u8 ((UInt8.ofNat (Box.sbox a)).toNat : Int))).far (p := ⟨gb, Box.sbox a, none⟩) hbi (.int .u8 ((UInt8.ofNat a).toNat : Int)))
                have HB2 := Lib.hid ((Hb.out.setCell (p := ⟨gt, a, none⟩) Hgt.out (.int .u8 ((UInt8.ofNat (Box.sbox a)).toNat : Int))).setCell (p := ⟨gb, Box.sbox a, none⟩) Hgb.out (.int .u8 ((UInt8.ofNat a).toNat : Int)))
                rw [u8s_set, Box.ttab_set a hlt] at HT2
                rw [u8s_set] at HBk2
                rw [Box.ofNat_toNat _ hsl, Box.ofNat_toNat a hlt] at HT2 HBk2 HI2 HB2
                have HBk3 : Hid (Blk _ gb 5 (u8s (Box.btab (a + 1)))) := HBk2
                clear HBk2
                generalize Box.sbox a = q at *
                go_wp2
                exact ⟨⟨a + 1, by omega, by go_num, HT2.out, HBk3.out, HI2.out, HB2.out⟩, by simp [intOf]; omega⟩
          · obtain rfl : a = 256 := by omega
            rw [Box.ttab_end] at hT
            rw [Box.btab_end] at hB
            go_wp2
            go_ret2
            exact ⟨gt, gb, rfl, hne, Hgt.out, Hgb.out, hT, hB, hb⟩
end Go.Proofs.YtjhkodmaalefiaaDoor
namespace Go.Proofs.YtjhkodmaalefiaaDoor
open Go.RowKit Go.Gar Go.Gar.Aes

/-- The reference's cipher lies in block gc: two tables and its words. -/
structure RefC (w : World) (gc gt gb gw cap : Nat) (ws : List (List UInt8)) : Prop where
  at0 : w.cell? ⟨gc, 0, none⟩ = some (.slice (some ⟨gt, 0, none⟩) 256 256)
  at1 : w.cell? ⟨gc, 1, none⟩ = some (.slice (some ⟨gb, 0, none⟩) 256 256)
  at2 : w.cell? ⟨gc, 2, none⟩ = some (.slice (some ⟨gw, 0, none⟩) ws.length cap)
  there : Blk w gt 5 (u8s Box.sboxB)
  back : Blk w gb 5 (u8s Box.backB)
  len : ws.length ≤ 60
  word : ∀ i l, ws[i]? = some l → ∃ g o c, w.cell? ⟨gw, i, none⟩ = some (.slice (some ⟨g, o, none⟩) 4 c) ∧ l.length = 4 ∧ ∀ k x, l[k]? = some x → w.cell? ⟨g, o + k, none⟩ = some (.int .u8 (x.toNat : Int))

theorem cell_below {w w' : World} (hb : Below w.heap.size w w') {p : Addr} {v : Value} (h : w.cell? p = some v) : w'.cell? p = some v := by
  rw [hb.cell (p := p) (World.block_lt_of_cell? w p h), h]
theorem RefC.below {w w' : World} {gc gt gb gw cap : Nat} {ws : List (List UInt8)} (h : RefC w gc gt gb gw cap ws) (hb : Below w.heap.size w w') : RefC w' gc gt gb gw cap ws where
  at0 := cell_below hb h.at0
  at1 := cell_below hb h.at1
  at2 := cell_below hb h.at2
  there := h.there.below hb h.there.lt
  back := h.back.below hb h.back.lt
  len := h.len
  word := fun i l hl => by
    obtain ⟨g, o, c, h1, h2, h3⟩ := h.word i l hl
    exact ⟨g, o, c, cell_below hb h1, h2, fun k x hx => cell_below hb (h3 k x hx)⟩

/-- A row that is turned from l to l2, byte by byte. -/
def prog (l l2 : List UInt8) (k : Nat) : List UInt8 := l2.take k ++ l.drop k
theorem prog_0 (l l2 : List UInt8) : prog l l2 0 = l := by simp [prog]
theorem prog_end (l l2 : List UInt8) (k : Nat) (h1 : k = l.length) (h2 : k = l2.length) : prog l l2 k = l2 := by
  unfold prog
  rw [List.take_of_length_le (by omega), List.drop_of_length_le (by omega), List.append_nil]
theorem prog_len (l l2 : List UInt8) (k : Nat) (h : l2.length = l.length) : (prog l l2 k).length = l.length := by simp [prog]; omega
theorem prog_set (l l2 : List UInt8) (k : Nat) (x : UInt8) (h : l2.length = l.length) (hx : l2[k]? = some x) : (prog l l2 k).set k x = prog l l2 (k + 1) := by
  have hk : k < l2.length := (List.getElem?_eq_some_iff.1 hx).1
  unfold prog
  rw [List.take_succ_eq_append_getElem hk, (List.getElem?_eq_some_iff.1 hx).2, List.set_append_right _ _ (by simp; omega)]
  have : k - (l2.take k).length = 0 := by simp; omega
  rw [this, List.drop_eq_getElem_cons (show k < l.length by omega), List.set_cons_zero]
  simp only [List.append_assoc, List.cons_append, List.nil_append]
theorem prog_get (l l2 : List UInt8) (k : Nat) (h : l2.length = l.length) (hk : k < l.length) : (prog l l2 k)[k]? = l[k]? := by
  unfold prog
  rw [List.getElem?_append_right (by simp; omega)]
  have : k - (l2.take k).length = 0 := by simp; omega
  rw [this]
  simp

theorem div4 (k : Nat) : (k : Int).tdiv 4 = ((k / 4 : Nat) : Int) := by
  rw [Int.tdiv_eq_ediv_of_nonneg (by omega)]; simp
theorem mod4 (k : Nat) : (k : Int).tmod 4 = ((k % 4 : Nat) : Int) := by
  rw [Int.tmod_eq_emod_of_nonneg (by omega)]; simp
theorem u8s_row_set (l : List UInt8) (rest : List Value) (i : Nat) (c : UInt8) (h : i < l.length) : (u8s l ++ rest).set i (.int .u8 (c.toNat : Int)) = u8s (l.set i c) ++ rest := by
  rw [List.set_append_left _ _ (by rw [u8s_len]; exact h), u8s_set]
theorem row_get {w : World} {g : Nat} {t : TypeId} {l : List UInt8} {rest : List Value} (h : Blk w g t (u8s l ++ rest)) {i : Nat} {c : UInt8} (hc : l[i]? = some c) : w.cell? ⟨g, i, none⟩ = some (.int .u8 (c.toNat : Int)) := by
  rw [h.cell, List.getElem?_append_left (by rw [u8s_len]; exact (List.getElem?_eq_some_iff.1 hc).1), u8s_get, hc]; rfl
theorem xor_byte (a b : UInt8) : bits .xor .u8 (a.toNat : Int) (b.toNat : Int) = ((a ^^^ b).toNat : Int) := by
  rw [xor_u8 _ _ a.toNat_lt b.toNat_lt, UInt8.toNat_xor]

theorem own_nil (w : World) (base : Nat) (e : TypeId) (hb : base ≤ w.heap.size) : OwnB (w.alloc (.cells #[] e)) base e (.slice (some ⟨w.heap.size, 0, none⟩) 0 0) [] := own_made w base e hb

set_option maxHeartbeats 2000000 in
set_option maxRecDepth 100000 in
theorem refAdd_any2 (w : World) (gc gt gb gw cap : Nat) (ws : List (List UInt8)) (hC : RefC w gc gt gb gw cap ws) (A : Option Addr) (l : List UInt8) (c r : Nat) (hl : l.length = 16) (hr : Rd w w.heap.size A l) (hrr : 4 * r + 4 ≤ ws.length) :
    Calls Tryd.prog 74 #[.pointer (some ⟨gc, 0, none⟩), .slice A 16 c, .int .i64 (r : Int)] w fun e w' => ∃ g cp rest, e = .returned (.slice (some ⟨g, 0, none⟩) 16 cp) ∧ w.heap.size ≤ g ∧ Blk w' g 5 (u8s (addK l (rk ws r)) ++ rest) ∧ Below w.heap.size w w' ∧ 16 ≤ cp := by
  have hO := own_nil w w.heap.size 5 (Nat.le_refl _)
  have hb0 := below_alloc w (.cells #[] 5)
  obtain ⟨v1, w1, e1, ho1, hb1, _⟩ := app_rd (P := Tryd.prog) 26 26 Tryd.und22 Tryd.info5 hO (by rw [World.size_alloc]; omega) c (hr.below hb0) (by simp [hl])
  rw [List.nil_append] at ho1
  rw [hl] at e1
  obtain ⟨g, cp, rest, rfl, hg, hcp, hB⟩ := ho1.blk (by omega)
  have HL := Lib.hid hl
  rw [hl] at e1 hcp
  have HCP : Hid (16 ≤ cp) := Lib.hid (by omega)
  have HB := Lib.hid hB
  have Hb := Lib.hid (hb0.trans hb1)
  have HC := Lib.hid hC
  have HG := Lib.hid hg
  clear hb0 hb1 hB ho1 hO hr hC hg hl
  have hlen := HC.out.len
  go_enter Tryd.func74, Tryd.ntmps74
  go_wp2_with (at_builtin; refine wpList_append_run rfl (.tmp 9) (.tmp 10) _ rfl rfl rfl e1 ?_)
  clear e1
  go_loopw [8] (fun i w' => ∃ k : Nat, k ≤ 16 ∧ i = .int .i64 (k : Int) ∧ Blk w' g 5 (u8s (prog l (addK l (rk ws r)) k) ++ rest) ∧ Below w.heap.size w w') (fun i _ => 16 - (intOf i).toNat)
  case atStart => exact ⟨0, by omega, rfl, by rw [prog_0]; exact HB.out, Hb.out⟩
  case round =>
    obtain ⟨k, hk, rfl, hB, hb⟩ := hrel
    clear HB Hb
    have hL2 : (addK l (rk ws r)).length = l.length := by rw [addK_len, HL.out]
    by_cases hlt : k < 16
    · have hC2 := HC.out.below hb
      obtain ⟨x, hx⟩ : ∃ x, l[k]? = some x := ⟨_, List.getElem?_eq_getElem (by rw [HL.out]; exact hlt)⟩
      obtain ⟨ww, hww⟩ : ∃ ww, ws[4 * r + k / 4]? = some ww := ⟨_, List.getElem?_eq_getElem (by omega)⟩
      obtain ⟨g2, o2, c2, hw1, hw2, hw3⟩ := hC2.word _ _ hww
      obtain ⟨y, hy⟩ : ∃ y, ww[k % 4]? = some y := ⟨_, List.getElem?_eq_getElem (by rw [hw2]; omega)⟩
      have hc1 := row_get hB (c := x) (by rw [prog_get _ _ _ hL2 (by rw [HL.out]; exact hlt), hx])
      have hc2 := hC2.at2
      have hc3 := hw3 _ _ hy
      have hz : (addK l (rk ws r))[k]? = some (x ^^^ y) := by
        unfold addK
        rw [st_get _ _ hlt]
        unfold rk
        rw [at_st _ _ hlt]
        simp [at_, wordAt, hx, hww, hy]
      have hf := hB.frozen k
      have hS := hB.set_ k (.int .u8 ((x ^^^ y).toNat : Int))
      rw [u8s_row_set _ _ _ _ (by rw [prog_len _ _ _ hL2, HL.out]; exact hlt), prog_set _ _ _ _ hL2 hz, ← xor_byte] at hS
      have HS := Lib.hid hS
      have Hb := Lib.hid (hb.setCell (p := ⟨g, k, none⟩) HG.out (.int .u8 (bits .xor .u8 (x.toNat : Int) (y.toNat : Int))))
      have hx8 := x.toNat_lt
      have hy8 := y.toNat_lt
      clear hS hB hb hC2 hw3 hy hz hx hww hw2
      generalize x.toNat = xn at *
      generalize y.toNat = yn at *
      go_wp2
      go_region
      go_wp2
      exact ⟨⟨k + 1, by omega, by go_num, HS.out, ⟨Hb.out.os, Hb.out.tape, Hb.out.output, Hb.out.size, Hb.out.block⟩⟩, by simp [intOf]; omega⟩
    · obtain rfl : k = 16 := by omega
      rw [prog_end _ _ _ HL.out.symm (by rw [addK_len])] at hB
      go_wp2
      go_ret
      exact ⟨g, cp, rest, rfl, HG.out, hB, hb, HCP.out⟩
theorem refAdd_any (w : World) (gc gt gb gw cap : Nat) (ws : List (List UInt8)) (hC : RefC w gc gt gb gw cap ws) (A : Option Addr) (l : List UInt8) (c r : Nat) (hl : l.length = 16) (hr : Rd w w.heap.size A l) (hrr : 4 * r + 4 ≤ ws.length) :
    Calls Tryd.prog 74 #[.pointer (some ⟨gc, 0, none⟩), .slice A 16 c, .int .i64 (r : Int)] w fun e w' => ∃ g cp rest, e = .returned (.slice (some ⟨g, 0, none⟩) 16 cp) ∧ w.heap.size ≤ g ∧ Blk w' g 5 (u8s (addK l (rk ws r)) ++ rest) ∧ Below w.heap.size w w' := by
  refine (refAdd_any2 w gc gt gb gw cap ws hC A l c r hl hr hrr).mono fun e w' he => ?_
  obtain ⟨g, cp, rest, h1, h2, h3, h4, _⟩ := he
  exact ⟨g, cp, rest, h1, h2, h3, h4⟩
end Go.Proofs.YtjhkodmaalefiaaDoor
namespace Go.Proofs.YtjhkodmaalefiaaDoor
open Go.RowKit Go.Gar Go.Gar.Aes

theorem gm_call (a b : UInt8) : ((Box.mul a.toNat b.toNat : Nat) : Int) = ((gm a b).toNat : Int) := by rw [gm_toNat]
theorem refMul_byte (a b : UInt8) (n m : Int) (hn : n = (a.toNat : Int)) (hm : m = (b.toNat : Int)) (w : World) :
    Calls Tryd.prog 73 #[.int .u8 n, .int .u8 m] w fun e w' => e = .returned (.int .u8 ((gm a b).toNat : Int)) ∧ w' = w := by
  subst hn; subst hm
  have := refMul_any a.toNat b.toNat w a.toNat_lt b.toNat_lt
  rw [gm_call] at this
  exact this
theorem at_get {l : List UInt8} {i : Nat} (h : i < l.length) : l[i]? = some (at_ l i) := by
  simp [at_, List.getElem?_eq_getElem h]
theorem prog_later (l l2 : List UInt8) (k j : Nat) (h : l2.length = l.length) (hj : k ≤ j) (hl : j < l.length) : (prog l l2 k)[j]? = some (at_ l j) := by
  unfold prog
  rw [List.getElem?_append_right (by simp; omega)]
  have : k + (j - (l2.take k).length) = j := by simp; omega
  rw [List.getElem?_drop, this, at_get hl]
theorem mixcol (T : List UInt8) (col : Nat) (hc : col < 4) : (mix T)[4 * col]? = some (gm 2 (at_ T (4 * col)) ^^^ gm 3 (at_ T (4 * col + 1)) ^^^ at_ T (4 * col + 2) ^^^ at_ T (4 * col + 3)) ∧
    (mix T)[4 * col + 1]? = some (at_ T (4 * col) ^^^ gm 2 (at_ T (4 * col + 1)) ^^^ gm 3 (at_ T (4 * col + 2)) ^^^ at_ T (4 * col + 3)) ∧
    (mix T)[4 * col + 2]? = some (at_ T (4 * col) ^^^ at_ T (4 * col + 1) ^^^ gm 2 (at_ T (4 * col + 2)) ^^^ gm 3 (at_ T (4 * col + 3))) ∧
    (mix T)[4 * col + 3]? = some (gm 3 (at_ T (4 * col)) ^^^ at_ T (4 * col + 1) ^^^ at_ T (4 * col + 2) ^^^ gm 2 (at_ T (4 * col + 3))) := by
  unfold mix
  rw [st_get _ _ (by omega), st_get _ _ (by omega), st_get _ _ (by omega), st_get _ _ (by omega)]
  have d0 : 4 * col / 4 * 4 = 4 * col := by omega
  have d1 : (4 * col + 1) / 4 * 4 = 4 * col := by omega
  have d2 : (4 * col + 2) / 4 * 4 = 4 * col := by omega
  have d3 : (4 * col + 3) / 4 * 4 = 4 * col := by omega
  have m0 : 4 * col % 4 = 0 := by omega
  have m1 : (4 * col + 1) % 4 = 1 := by omega
  have m2 : (4 * col + 2) % 4 = 2 := by omega
  have m3 : (4 * col + 3) % 4 = 3 := by omega
  rw [d0, d1, d2, d3, m0, m1, m2, m3]
  refine ⟨rfl, ?_, ?_, ?_⟩
  · show some (m (at_ T (4 * col + 1)) (at_ T (4 * col + 2)) (at_ T (4 * col + 3)) (at_ T (4 * col))) = _
    unfold m; congr 1; ac_rfl
  · show some (m (at_ T (4 * col + 2)) (at_ T (4 * col + 3)) (at_ T (4 * col)) (at_ T (4 * col + 1))) = _
    unfold m; congr 1; ac_rfl
  · show some (m (at_ T (4 * col + 3)) (at_ T (4 * col)) (at_ T (4 * col + 1)) (at_ T (4 * col + 2))) = _
    unfold m; congr 1; ac_rfl
theorem shift_idx (s : List UInt8) (col r : Nat) (hc : col < 4) (hr : r < 4) : (shift s)[4 * col + r]? = some (sb (at_ s (4 * ((col + r) % 4) + r))) := by
  unfold shift
  rw [st_get _ _ (by omega)]
  congr 3
  omega
theorem sboxB_byte (a : UInt8) : Box.sboxB[a.toNat]? = some (sb a) := by rw [Box.sboxB_get _ a.toNat_lt]; rfl
theorem backB_byte (a : UInt8) : Box.backB[a.toNat]? = some (ib a) := by rw [Box.backB_get _ a.toNat_lt]; rfl
theorem blk_byte {w : World} {g : Nat} {t : TypeId} {l : List UInt8} (h : Blk w g t (u8s l)) {i : Nat} {c : UInt8} (hc : l[i]? = some c) : w.cell? ⟨g, i, none⟩ = some (.int .u8 (c.toNat : Int)) := by
  rw [h.cell, u8s_get, hc]; rfl

end Go.Proofs.YtjhkodmaalefiaaDoor
