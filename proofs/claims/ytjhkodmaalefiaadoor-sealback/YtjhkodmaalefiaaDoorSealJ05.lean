/-
  The reference's right and Message: contracts. The landed sha: right (over bits.RotateLeft32), squareRoots, joined: contracts. The landed sha: words: the 64 numbers that a block expands to.
-/
import Derived.Test.YtjhkodmaalefiaaDoorSealJ03
import Derived.Test.YtjhkodmaalefiaaDoorSealJ04
import Derived.Test.YtjhkodmaalefiaaDoorSealJ02
import Derived.RegionTactic
import Derived.BigRegion
set_option maxRecDepth 100000
namespace Go.Proofs.YtjhkodmaalefiaaDoor
open Go.RowKit Go.Gar

set_option maxRecDepth 100000 in
theorem rotr_bits (x n : Nat) (hx : x < 4294967296) : bits .or .u32 ((x : Int) / 2 ^ n) ((x : Int) * 2 ^ (32 - n) % 4294967296) = ((Sha.rotr x n : Nat) : Int) := by
  rw [show (x : Int) / 2 ^ n = ((x / 2 ^ n : Nat) : Int) from by simp, show (x : Int) * 2 ^ (32 - n) % 4294967296 = ((x * 2 ^ (32 - n) % 4294967296 : Nat) : Int) from by rw [Int.natCast_emod, Int.natCast_mul, Int.natCast_pow]; rfl,
    or_u32 _ _ (Nat.lt_of_le_of_lt (Nat.div_le_self _ _) hx) (Nat.mod_lt _ (by omega))]
  rfl

set_option maxHeartbeats 1000000 in
set_option maxRecDepth 100000 in
theorem right_any (x n : Nat) (w : World) (hx : x < 4294967296) (hn : n ≤ 32) :
    Calls Tryd.prog 52 #[.int .u32 (x : Int), .int .i64 (n : Int)] w fun e w' => e = .returned (.int .u32 ((Sha.rotr x n : Nat) : Int)) ∧ w' = w := by
  have HO := Lib.hid (rotr_bits x n hx)
  have hz : ((32 : Int) - (n : Int)).toNat = 32 - n := by omega
  go_enter Tryd.func52, Tryd.ntmps52
  go_wp2
  go_ret
  exact ⟨congrArg (fun v => Ending.returned (.int .u32 v)) HO.out, rfl⟩

set_option maxHeartbeats 1000000 in
set_option maxRecDepth 100000 in
theorem message_any (w : World) (A : Option Addr) (l : List UInt8) (len cap : Nat) (hlen : len = l.length) (hr : Rd w w.heap.size A l) (hl : l.length ≤ 1048576) :
    Calls Tryd.prog 51 #[.slice A len cap] w fun e w' => ∃ v, e = .returned v ∧ OwnB w' w.heap.size 5 v (Sha.msg l) ∧ Below w.heap.size w w' := by
  have h1 : ∃ v1 w1, (Builtin.append_ #[26, 26] 26 #[.slice (some ⟨w.heap.size, 0, none⟩) 0 0, .slice A len cap]).run Tryd.prog (w.alloc (.cells #[] 5)) = .ok v1 w1 ∧ OwnB w1 w.heap.size 5 v1 l ∧ Below w.heap.size w w1 := by
    obtain ⟨v1, w1, a1, a2, a3, _⟩ := app_rd (P := Tryd.prog) 26 26 Tryd.und22 Tryd.info5 (own_made w w.heap.size 5 (Nat.le_refl _)) (by rw [World.size_alloc]; omega) cap (hr.alloc (Nat.le_refl _) _) (by simp; omega)
    rw [← hlen] at a1
    exact ⟨v1, w1, a1, by simpa using a2, (below_alloc w _).trans a3⟩
  obtain ⟨v1, w1, a1, a2, hb1⟩ := h1
  obtain ⟨v2, w2, b1, b2, b3⟩ := app_one (P := Tryd.prog) 26 26 Tryd.und22 Tryd.info5 a2 hb1.size 128 128 rfl (by omega)
  have HO : Hid (OwnB w2 w.heap.size 5 v2 (Sha.msgK l 0)) := Lib.hid (by simpa [Sha.msgK] using b2)
  have HB := Lib.hid (hb1.trans b3)
  have HL := Lib.hid hlen
  have hl20 : len ≤ 1048576 := by omega
  clear a2 b2 b3 hb1 hr hlen hl
  go_enter Tryd.func51, Tryd.ntmps51
  go_wp2_with (first | (at_builtin; refine wpList_append_run rfl (.tmp 6) (.tmp 7) _ rfl rfl rfl a1 ?_) | (at_builtin; refine wpList_append_run rfl (.tmp 8) (.tmp 9) _ rfl rfl rfl b1 ?_))
  clear a1 b1
  go_loopw [3] (fun v w' => ∃ z : Nat, z ≤ Sha.zeros l ∧ OwnB w' w.heap.size 5 v (Sha.msgK l z) ∧ Below w.heap.size w w') (fun v _ => len + 65 - (match v with | .slice _ n _ => n | _ => 0))
  case atStart => exact ⟨0, Nat.zero_le _, HO.out, HB.out⟩
  case round =>
    obtain ⟨z, hz, hO, hB⟩ := hrel
    clear HO HB
    have ht := Sha.msgK_test l z hz
    have hzl : Sha.zeros l < 64 := Nat.mod_lt _ (by omega)
    obtain ⟨A2, c2, rfl, _⟩ := hO.rd
    have hml := Sha.msgK_len l z
    rw [hml, ← HL.out] at ht
    rw [hml, ← HL.out] at hO ⊢
    clear hml
    have HO := Lib.hid hO
    have HB := Lib.hid hB
    clear hO hB
    by_cases hzz : z = Sha.zeros l
    · have hm := ht.2 hzz
      have HZ := Lib.hid hzz
      clear ht hzz
      have d1 : (((len : Int) + 1 + (z : Int)) % 64 != 56) = false := by simp; omega
      go_wp2
      have HO0 : Hid (OwnB wr w.heap.size 5 (.slice A2 (len + 1 + z) c2) (Sha.msgK l (Sha.zeros l) ++ Sha.be8K (8 * len) 0)) := Lib.hid (by rw [← HZ.out, show Sha.be8K (8 * len) 0 = [] from rfl, List.append_nil]; exact HO.out)
      have HM : Hid ((Sha.msgK l (Sha.zeros l)).length ≤ 1048700) := Lib.hid (by rw [Sha.msgK_len, ← HL.out]; omega)
      clear HO d1 hm
      have HF : Hid (Sha.msg l = Sha.msgK l (Sha.zeros l) ++ Sha.be8K (8 * len) 8) := Lib.hid (by rw [HL.out]; rfl)
      generalize Sha.msgK l (Sha.zeros l) = mk at HO0 HM HF
      generalize Value.slice A2 (len + 1 + z) c2 = v0 at HO0 ⊢
      clear HZ HL hz hzl
      go_loopw [3, 5] (fun v i w' => ∃ k : Nat, k ≤ 8 ∧ i = .int .i64 (7 - (k : Int)) ∧ OwnB w' w.heap.size 5 v (mk ++ Sha.be8K (8 * len) k) ∧ Below w.heap.size w w') (fun _ i _ => (intOf i + 1).toNat)
      case atStart => exact ⟨0, by omega, rfl, HO0.out, HB.out⟩
      case round =>
        obtain ⟨k, hk, rfl, hO, hB⟩ := hrel
        clear HO0 HB
        have HO := Lib.hid hO
        have HB := Lib.hid hB
        clear hO hB
        by_cases hk8 : k < 8
        · have hz : (8 * ((7 : Int) - (k : Int))).toNat = 56 - 8 * k := by omega
          obtain ⟨v', w3, h1, h2, h3⟩ := app_one (P := Tryd.prog) 26 26 Tryd.und22 Tryd.info5 HO.out HB.out.size (UInt8.ofNat (8 * len / 2 ^ (56 - 8 * k))) (8 * (len : Int) / 2 ^ (56 - 8 * k) % 256) (by
            rw [UInt8.toNat_ofNat']; simp) (by rw [List.length_append, Sha.be8K_len]; have := HM.out; omega)
          rw [List.append_assoc, ← Sha.be8K_succ] at h2
          have H2 := Lib.hid h2
          have H3 := Lib.hid h3
          clear h2 h3
          go_wp2_with (at_builtin; refine wpList_append_run rfl (.tmp 26) (.tmp 33) _ rfl rfl rfl h1 ?_)
          exact ⟨⟨k + 1, by omega, by simp; omega, H2.out, HB.out.trans H3.out⟩, by simp [intOf]; omega⟩
        · obtain rfl : k = 8 := by omega
          go_wp2
          go_ret
          exact ⟨_, rfl, by rw [HF.out]; exact HO.out, HB.out⟩
    · have hm : ¬ ((len + 1 + z) % 64 = 56) := fun h => hzz (ht.1 h)
      have d1 : (((len : Int) + 1 + (z : Int)) % 64 != 56) = true := by simp; omega
      clear ht
      obtain ⟨v', w3, h1, h2, h3⟩ := app_one (P := Tryd.prog) 26 26 Tryd.und22 Tryd.info5 HO.out HB.out.size 0 0 rfl (by rw [Sha.msgK_len, ← HL.out]; omega)
      rw [Sha.msgK_succ] at h2
      obtain ⟨A3, c3, rfl, _⟩ := h2.rd
      have H2 := Lib.hid h2
      have H3 := Lib.hid h3
      clear h2 h3
      go_wp2_with (at_builtin; refine wpList_append_run rfl (.tmp 15) (.tmp 16) _ rfl rfl rfl h1 ?_)
      refine ⟨⟨z + 1, by omega, H2.out, HB.out.trans H3.out⟩, ?_⟩
      simp [Sha.msgK_len, ← HL.out]
      omega
end Go.Proofs.YtjhkodmaalefiaaDoor
namespace Go.Proofs.YtjhkodmaalefiaaDoor
open Go.RowKit Go.Gar

theorem low5 : ∀ n : Fin 32, 0 < n.1 → bits .and .u64 (IntKind.u64.wrap (-(n.1 : Int))) 31 = ((32 - n.1 : Nat) : Int) := by decide +kernel
theorem rotr_bits' (x n m : Nat) (hx : x < 4294967296) (hm : m = 32 - n) : bits .or .u32 ((x : Int) * 2 ^ m % 4294967296) ((x : Int) / 2 ^ n) = ((Sha.rotr x n : Nat) : Int) := by
  subst hm
  rw [show (x : Int) / 2 ^ n = ((x / 2 ^ n : Nat) : Int) from by simp, show (x : Int) * 2 ^ (32 - n) % 4294967296 = ((x * 2 ^ (32 - n) % 4294967296 : Nat) : Int) from by rw [Int.natCast_emod, Int.natCast_mul, Int.natCast_pow]; rfl,
    or_u32 _ _ (Nat.mod_lt _ (by omega)) (Nat.lt_of_le_of_lt (Nat.div_le_self _ _) hx), Nat.or_comm]
  rfl
set_option maxHeartbeats 1000000 in
set_option maxRecDepth 100000 in
theorem rotl_any (x n : Nat) (w : World) (hx : x < 4294967296) (hn : n < 32) (h0 : 0 < n) :
    Calls Tryd.prog 91 #[.int .u32 (x : Int), .int .i64 (-(n : Int))] w fun e w' => e = .returned (.int .u32 ((Sha.rotr x n : Nat) : Int)) ∧ w' = w := by
  obtain ⟨m, hm⟩ : ∃ m, m = 32 - n := ⟨_, rfl⟩
  have hb : bits .and .u64 (IntKind.u64.wrap (-(n : Int))) 31 = (m : Int) := by rw [hm]; exact low5 ⟨n, hn⟩ h0
  have HO := Lib.hid (rotr_bits' x n m hx hm)
  have hz : ((32 : Int) - (m : Int)).toNat = n := by omega
  have hm0 : 0 ≤ (32 : Int) - (m : Int) := by omega
  have Hm := Lib.hid hm
  clear hm
  go_enter Tryd.func91, Tryd.ntmps91
  go_wp2
  go_ret
  exact ⟨congrArg (fun v => Ending.returned (.int .u32 v)) HO.out, rfl⟩

set_option maxHeartbeats 1000000 in
set_option maxRecDepth 100000 in
theorem rightL_any (x n : Nat) (w : World) (hx : x < 4294967296) (hn : n < 32) (h0 : 0 < n) :
    Calls Tryd.prog 82 #[.int .u32 (x : Int), .int .i64 (n : Int)] w fun e w' => e = .returned (.int .u32 ((Sha.rotr x n : Nat) : Int)) ∧ w' = w := by
  go_enter Tryd.func82, Tryd.ntmps82
  go_wp2_with fail
  refine (rotl_any x n w hx hn h0).mono ?_
  rintro e w1 ⟨rfl, rfl⟩
  go_wp2
  go_ret
  exact ⟨rfl, rfl⟩

/-- A row half laid: the first k of t, the rest of z. -/
def pg {α : Type} (z t : List α) (k : Nat) : List α := t.take k ++ z.drop k
theorem pg_0 {α : Type} (z t : List α) : pg z t 0 = z := by simp [pg]
theorem pg_end {α : Type} (z t : List α) (k : Nat) (h : z.length ≤ k) (h2 : t.length ≤ k) : pg z t k = t := by
  rw [pg, List.take_of_length_le h2, List.drop_eq_nil_of_le h, List.append_nil]
theorem pg_len {α : Type} (z t : List α) (k : Nat) (h : t.length = z.length) : (pg z t k).length = z.length := by
  simp [pg]; omega
theorem pg_set {α : Type} (z t : List α) (k : Nat) (x : α) (h : t.length = z.length) (hx : t[k]? = some x) : (pg z t k).set k x = pg z t (k + 1) := by
  have hk : k < t.length := (List.getElem?_eq_some_iff.1 hx).1
  have hl : (t.take k).length = k := by rw [List.length_take]; omega
  have e2 : z.drop k = z[k]'(by omega) :: z.drop (k + 1) := List.drop_eq_getElem_cons (by omega)
  rw [List.getElem?_eq_getElem hk] at hx
  injection hx with hx
  unfold pg
  rw [List.set_append_right _ _ (by omega), hl, Nat.sub_self, e2, List.set_cons_zero, List.take_succ_eq_append_getElem hk, hx, List.append_assoc]
  rfl
theorem u8s_set' (l : List UInt8) (i : Nat) (c : UInt8) : (u8s l).set i (.int .u8 (c.toNat : Int)) = u8s (l.set i c) := by simp [u8s, List.map_set]

theorem Tryd.undH8 : Tryd.prog.underlying 88 = some (.array 8 58) := by kernel_rfl
theorem Tryd.sizeH8 : (Tryd.prog.info? 88).map (·.size) = some 8 := by kernel_rfl
theorem Tryd.undD32 : Tryd.prog.underlying 22 = some (.array 32 5) := by kernel_rfl
theorem Tryd.sizeD32 : (Tryd.prog.info? 22).map (·.size) = some 32 := by kernel_rfl
theorem Tryd.infoD32 : (Tryd.prog.info? 22).map (fun i => (i.zero, i.size)) = some (some (.agg (Array.replicate 32 (.int .u8 0))), 32) := by kernel_rfl
def zB (n : Nat) : List UInt8 := List.replicate n 0
theorem zB_len (n : Nat) : (zB n).length = n := List.length_replicate
theorem zero32B (w : World) : (zeroValue 22).run Tryd.prog w = .ok (.agg (u8s (zB 32)).toArray) w := by
  rw [(zero_of_info (P := Tryd.prog) Tryd.infoD32).1 w, zB, u8s, List.map_replicate]; rfl
theorem size32B (l : List UInt8) (h : l.length = 32) : (Tryd.prog.info? 22).map (·.size) = some (u8s l).length := by
  rw [u8s_len, h]; exact Tryd.sizeD32

set_option maxHeartbeats 1000000 in
set_option maxRecDepth 100000 in
theorem squares_any (w : World) :
    Calls Tryd.prog 53 #[] w fun e w' => e = .returned (.agg (u32s Sha.start.list).toArray) ∧ Below w.heap.size w w' := by
  have hl2 := run_loadVar_row (P := Tryd.prog) (w.alloc (.cells (u32s Sha.start.list).toArray 88)) w.heap.size 88 88 (u32s Sha.start.list).toArray (0, 0) _ (Blk.new w 88 (u32s Sha.start.list)) Tryd.undH8 rfl Tryd.sizeH8
  go_enter Tryd.func53, Tryd.ntmps53
  go_wp2
  refine bodyPost_ret (v := .agg (u32s Sha.start.list).toArray) ?_ rfl ⟨rfl, below_alloc w _⟩
  rw [show #[Value.int .u32 1779033703, .int .u32 3144134277, .int .u32 1013904242, .int .u32 2773480762, .int .u32 1359893119, .int .u32 2600822924, .int .u32 528734635, .int .u32 1541459225] = (u32s Sha.start.list).toArray from rfl]
  generalize (u32s Sha.start.list).toArray = X at hl2 ⊢
  simp [results, Tryd.results53, asAddr, hl2]

/-- Byte i of the digest. -/
def outB (s : List Nat) (i : Nat) : UInt8 := UInt8.ofNat (s.getD (i / 4) 0 / 2 ^ (24 - 8 * (i % 4)))
theorem out_bytes (s : Sha.St) : Sha.out s = (List.range 32).map (outB s.list) := by
  cases s
  simp [Sha.out, Sha.outK, Sha.St.list, outB, Sha.be4, List.range_succ]
theorem out_get (s : Sha.St) (i : Nat) (h : i < 32) : (Sha.out s)[i]? = some (outB s.list i) := by
  rw [out_bytes, List.getElem?_map, List.getElem?_range h]; rfl
theorem out_len (s : Sha.St) : (Sha.out s).length = 32 := by rw [out_bytes, List.length_map, List.length_range]
theorem outB_int (s : List Nat) (i : Nat) (x : Nat) (hx : s.getD (i / 4) 0 = x) : Value.int .u8 ((x : Int) / 2 ^ (24 - 8 * (i % 4)) % 256) = .int .u8 ((outB s i).toNat : Int) := by
  subst hx
  simp [outB]

set_option maxHeartbeats 1000000 in
set_option maxRecDepth 100000 in
theorem joined_any (s : Sha.St) (w : World) (hs : s.ok) :
    Calls Tryd.prog 58 #[.agg (u32s s.list).toArray] w fun e w' => e = .returned (.agg (u8s (Sha.out s)).toArray) ∧ Below w.heap.size w w' := by
  have hB0 := Blk.new w 88 (u32s s.list)
  have hb0 := below_alloc w (.cells (u32s s.list).toArray 88)
  have hs0 : (w.alloc (.cells (u32s s.list).toArray 88)).heap.size = w.heap.size + 1 := World.size_alloc _ _
  obtain ⟨w1, hw1⟩ : ∃ w1, w.alloc (.cells (u32s s.list).toArray 88) = w1 := ⟨_, rfl⟩
  rw [hw1] at hB0 hb0 hs0
  have hR1 := Blk.new w1 22 (u8s (zB 32))
  have hb1 := hb0.alloc (by omega) (.cells (u8s (zB 32)).toArray 22)
  have hB1 := hB0.alloc (.cells (u8s (zB 32)).toArray 22)
  have hs1 : (w1.alloc (.cells (u8s (zB 32)).toArray 22)).heap.size = w1.heap.size + 1 := World.size_alloc _ _
  obtain ⟨w2, hw2⟩ : ∃ w2, w1.alloc (.cells (u8s (zB 32)).toArray 22) = w2 := ⟨_, rfl⟩
  rw [hw2] at hB1 hb1 hs1 hR1
  have hT2 := Blk.new w2 22 (u8s (zB 32))
  have hb2 := hb1.alloc (by omega) (.cells (u8s (zB 32)).toArray 22)
  have hB2 := hB1.alloc (.cells (u8s (zB 32)).toArray 22)
  have hR2 := hR1.alloc (.cells (u8s (zB 32)).toArray 22)
  obtain ⟨w3, hw3⟩ : ∃ w3, w2.alloc (.cells (u8s (zB 32)).toArray 22) = w3 := ⟨_, rfl⟩
  rw [hw3] at hB2 hb2 hT2 hR2
  have HT2 := Lib.hid hT2
  have HR2 := Lib.hid hR2
  have HB2 := Lib.hid hB2
  have Hb2 := Lib.hid hb2
  have HS : Hid (w.heap.size < w1.heap.size ∧ w1.heap.size < w2.heap.size) := Lib.hid (by omega)
  have HW1 := Lib.hid hw1
  have HW2 := Lib.hid hw2
  have HW3 := Lib.hid hw3
  clear hB0 hb0 hs0 hR1 hb1 hB1 hs1 hT2 hb2 hB2 hR2 hw1 hw2 hw3
  go_enter Tryd.func58, Tryd.ntmps58
  go_wp2_with (first | (refine wpList_box_arr rfl 88 (.tmp 0) (u32s s.list).toArray rfl rfl ?_; rw [HW1.out]) | (refine wpList_alloc_arr rfl 22 (u8s (zB 32)).toArray rfl zero32B ?_; first | rw [HW2.out] | rw [HW3.out]))
  generalize w2.heap.size = gT at *
  generalize w1.heap.size = gR at *
  clear HW1 HW2 HW3
  go_loopw [5] (fun i w' => ∃ j : Nat, j ≤ 32 ∧ i = .int .i64 (j : Int) ∧ Blk w' gT 22 (u8s (pg (zB 32) (Sha.out s) j)) ∧ Blk w' gR 22 (u8s (zB 32)) ∧ Blk w' w.heap.size 88 (u32s s.list) ∧ Below w.heap.size w w') (fun i _ => 32 - (intOf i).toNat)
  case atStart => exact ⟨0, by omega, rfl, by rw [pg_0]; exact HT2.out, HR2.out, HB2.out, Hb2.out⟩
  case round =>
    obtain ⟨i, hi, rfl, hT, hR, hB, hb⟩ := hrel
    clear HT2 HR2 HB2 Hb2
    by_cases hlt : i < 32
    · have hx : s.list.getD (i / 4) 0 < 4294967296 := Sha.getD_lt hs _
      have hcx : wr.cell? ⟨w.heap.size, i / 4, none⟩ = some (.int .u32 ((s.list.getD (i / 4) 0 : Nat) : Int)) := by rw [hB.cell, u32s_get _ _ (by rw [Sha.St.list_len]; omega)]
      have HV := Lib.hid (fun x h => outB_int s.list i x h)
      obtain ⟨x, hxe⟩ : ∃ x, s.list.getD (i / 4) 0 = x := ⟨_, rfl⟩
      rw [hxe] at hx hcx
      have HV := Lib.hid (HV.out x hxe)
      have hp : (Sha.out s).length = (zB 32).length := by rw [out_len, zB_len]
      have hg := out_get s i hlt
      have hS := hT.set_ i (.int .u8 ((outB s.list i).toNat : Int))
      rw [u8s_set', pg_set _ _ _ _ hp hg] at hS
      have hc0 : ∃ v0, wr.cell? ⟨gT, i, none⟩ = some v0 := by rw [hT.cell, List.getElem?_eq_getElem (by rw [u8s_len, pg_len _ _ _ hp, zB_len]; exact hlt)]; exact ⟨_, rfl⟩
      obtain ⟨v0, hc0⟩ := hc0
      have hf := hT.frozen i
      have HTn := Lib.hid hS
      have HRn := Lib.hid (hR.far (p := ⟨gT, i, none⟩) (by have := HS.out; show gR ≠ gT; omega) (.int .u8 ((outB s.list i).toNat : Int)))
      have HBn := Lib.hid (hB.far (p := ⟨gT, i, none⟩) (by have := HS.out; show w.heap.size ≠ gT; omega) (.int .u8 ((outB s.list i).toNat : Int)))
      have Hbn := Lib.hid (hb.setCell (p := ⟨gT, i, none⟩) (by have := HS.out; show w.heap.size ≤ gT; omega) (.int .u8 ((outB s.list i).toNat : Int)))
      clear hS hT hR hB hb hp hg hxe
      go_wp2
      rw [HV.out]
      exact ⟨⟨i + 1, by omega, by go_num, HTn.out, HRn.out, HBn.out, Hbn.out⟩, by simp [intOf]; omega⟩
    · have hE : pg (zB 32) (Sha.out s) i = Sha.out s := pg_end _ _ _ (by rw [zB_len]; omega) (by rw [out_len]; omega)
      rw [hE] at hT
      have HR := Lib.hid hR
      have Hb := Lib.hid hb
      have hld := run_loadVar_row (P := Tryd.prog) wr gT 22 22 (u8s (Sha.out s)).toArray (0, 0) _ hT Tryd.undD32 rfl (by simpa using size32B _ (out_len s))
      have HS2 := Lib.hid (size32B _ (out_len s))
      have HZ2 : Hid ((u8s (zB 32)).length = (u8s (Sha.out s)).length) := Lib.hid (by rw [u8s_len, u8s_len, out_len, zB_len])
      have HO2 := Lib.hid (u8s_one (Sha.out s))
      have hl2 := run_loadVar_row (P := Tryd.prog) (wr.setRow gR (u8s (Sha.out s)).toArray) gR 22 22 (u8s (Sha.out s)).toArray (0, 0) _ (HR.out.row _) Tryd.undD32 rfl (by simpa using size32B _ (out_len s))
      have Hbn := Lib.hid (below_setRow Hb.out (by have := HS.out; omega : w.heap.size ≤ gR) (u8s (Sha.out s)).toArray)
      clear hE hT hR hB hb
      go_wp2_with (first | refine wpList_load_arr_w 22 (.tmp 3) rfl rfl (u8s (Sha.out s)).toArray hld (by kernel_rfl) ?_ | refine wpList_store_arr rfl 22 (.tmp 2) (.tmp 21) gR _ _ rfl rfl rfl rfl HR.out HS2.out HZ2.out HO2.out ?_)
      simp only [Act.put, List.setIfInBounds_toArray, List.set]
      refine bodyPost_ret (v := .agg (u8s (Sha.out s)).toArray) ?_ rfl ⟨rfl, Hbn.out⟩
      generalize (u8s (Sha.out s)).toArray = X at hl2 ⊢
      simp [results, Tryd.results58, asAddr, hl2]
end Go.Proofs.YtjhkodmaalefiaaDoor
namespace Go.Proofs.YtjhkodmaalefiaaDoor
open Go.RowKit Go.Gar

/-- The numbers when i bytes of the block have come. -/
def wb (m : List UInt8) : Nat → List Nat
  | 0 => List.replicate 64 0
  | i + 1 => (wb m i).set (i / 4) ((wb m i).getD (i / 4) 0 * 256 % 4294967296 ||| Sha.at8 m i)
theorem wb_len (m : List UInt8) : ∀ i, (wb m i).length = 64
  | 0 => List.length_replicate
  | i + 1 => by rw [wb, List.length_set, wb_len m i]
theorem at_mid (l r : List Nat) (t x : Nat) (h : l.length = t) : (l ++ x :: r).getD t 0 = x := by
  subst h; simp [List.getD_eq_getElem?_getD]
theorem set_mid' (l r : List Nat) (t x y : Nat) (h : l.length = t) : (l ++ x :: r).set t y = l ++ y :: r := by
  subst h; rw [List.set_append_right _ _ (Nat.le_refl _)]; simp
theorem or_byte (x c : Nat) (hx : x < 16777216) (hc : c < 256) : x * 256 % 4294967296 ||| c = x * 256 + c := by
  rw [Nat.mod_eq_of_lt (by omega), show x * 256 = x <<< 8 from by rw [Nat.shiftLeft_eq], ← Nat.shiftLeft_add_eq_or_of_lt (by simpa using hc)]
theorem wb_step (m : List UInt8) (l r : List Nat) (t x i : Nat) (hl : l.length = t) (hi : i / 4 = t) (h : wb m i = l ++ x :: r) (hx : x < 16777216) : wb m (i + 1) = l ++ (x * 256 + Sha.at8 m i) :: r := by
  rw [wb, hi, h, at_mid _ _ _ _ hl, set_mid' _ _ _ _ _ hl, or_byte _ _ hx (Sha.at8_lt _ _)]
theorem cell_bel' {w w' : World} (hb : Below w.heap.size w w') {p : Addr} {v : Value} (h : w.cell? p = some v) : w'.cell? p = some v := by
  rw [hb.cell (p := p) (World.block_lt_of_cell? w p h), h]
theorem four_bytes (a b c d : Nat) : (((0 * 256 + a) * 256 + b) * 256 + c) * 256 + d = a * 16777216 + b * 65536 + c * 256 + d := by omega
theorem wb_four (m : List UInt8) : ∀ t, t ≤ 16 → wb m (4 * t) = Sha.wK m 0 t ++ List.replicate (64 - t) 0
  | 0, _ => by simp [wb, Sha.wK]
  | t + 1, h => by
    have ih := wb_four m t (by omega)
    rw [show 64 - t = (64 - (t + 1)) + 1 from by omega, List.replicate_succ] at ih
    have hl := Sha.wK_len m 0 t
    have b0 := Sha.at8_lt m (4 * t)
    have b1 := Sha.at8_lt m (4 * t + 1)
    have b2 := Sha.at8_lt m (4 * t + 1 + 1)
    have h1 := wb_step m _ _ t _ _ hl (by omega) ih (by omega)
    have h2 := wb_step m _ _ t _ _ hl (by omega) h1 (by omega)
    have h3 := wb_step m _ _ t _ _ hl (by omega) h2 (by omega)
    have h4 := wb_step m _ _ t _ _ hl (by omega) h3 (by omega)
    have e : (((0 * 256 + Sha.at8 m (4 * t)) * 256 + Sha.at8 m (4 * t + 1)) * 256 + Sha.at8 m (4 * t + 1 + 1)) * 256 + Sha.at8 m (4 * t + 1 + 1 + 1) = Sha.word m (0 + 4 * t) := by
      rw [four_bytes, Nat.zero_add, Sha.word]
    rw [e] at h4
    rw [show 4 * (t + 1) = 4 * t + 1 + 1 + 1 + 1 from by omega, h4, Sha.wK, Sha.wStep, if_pos (by omega), List.append_assoc]
    rfl
theorem wb_end (m : List UInt8) : wb m 64 = Sha.wK m 0 16 ++ List.replicate 48 0 := wb_four m 16 (by omega)
theorem wb_lt (m : List UInt8) : ∀ i, ∀ x ∈ wb m i, x < 4294967296
  | 0 => by intro x hx; rw [wb, List.mem_replicate] at hx; omega
  | i + 1 => by
    intro x hx
    rw [wb] at hx
    rcases List.mem_or_eq_of_mem_set hx with h | h
    · exact wb_lt m i x h
    · rw [h]
      exact Nat.or_lt_two_pow (n := 32) (Nat.mod_lt _ (by omega)) (Nat.lt_of_lt_of_le (Sha.at8_lt m i) (by omega))
/-- The numbers, t of them made. -/
def wq (m : List UInt8) (t : Nat) : List Nat := Sha.wK m 0 t ++ List.replicate (64 - t) 0
theorem wq_len (m : List UInt8) (t : Nat) (h : t ≤ 64) : (wq m t).length = 64 := by
  rw [wq, List.length_append, Sha.wK_len, List.length_replicate]; omega
theorem wq_end (m : List UInt8) : wq m 64 = Sha.wK m 0 64 := by simp [wq]
theorem wq_get (m : List UInt8) (t j : Nat) (h : j < t) : (wq m t).getD j 0 = (Sha.wK m 0 t).getD j 0 := by
  rw [wq, List.getD_eq_getElem?_getD, List.getElem?_append_left (by rw [Sha.wK_len]; exact h), ← List.getD_eq_getElem?_getD]
theorem wq_set (m : List UInt8) (t : Nat) (h : t < 64) (h16 : 16 ≤ t) : (wq m t).set t (Sha.wNext (Sha.wK m 0 t) t) = wq m (t + 1) := by
  unfold wq
  rw [show 64 - t = (64 - (t + 1)) + 1 from by omega, List.replicate_succ, set_mid' _ _ _ _ _ (Sha.wK_len m 0 t), Sha.wK, Sha.wStep, if_neg (by omega), List.append_assoc]
  rfl
theorem wq_lt (m : List UInt8) (t j : Nat) : (wq m t).getD j 0 < 4294967296 := by
  refine Sha.getD_lt (fun x hx => ?_) j
  rw [wq, List.mem_append, List.mem_replicate] at hx
  rcases hx with h | h
  · exact Sha.wK_lt _ _ _ x h
  · omega

theorem rightL_z (x : Nat) (k : Int) (w : World) (hx : x < 4294967296) (h0 : 0 < k) (h : k < 32) :
    Calls Tryd.prog 82 #[.int .u32 (x : Int), .int .i64 k] w fun e w' => e = .returned (.int .u32 ((Sha.rotr x k.toNat : Nat) : Int)) ∧ w' = w := by
  have := rightL_any x k.toNat w hx (by omega) (by omega)
  rw [Int.toNat_of_nonneg (by omega)] at this
  exact this
theorem Tryd.undB64 : Tryd.prog.underlying 64 = some (.array 64 5) := by kernel_rfl
theorem Tryd.sizeB64 : (Tryd.prog.info? 64).map (·.size) = some 64 := by kernel_rfl
theorem Tryd.undW64 : Tryd.prog.underlying 96 = some (.array 64 58) := by kernel_rfl
theorem Tryd.sizeW64 : (Tryd.prog.info? 96).map (·.size) = some 64 := by kernel_rfl
theorem Tryd.infoW64 : (Tryd.prog.info? 96).map (fun i => (i.zero, i.size)) = some (some (.agg (Array.replicate 64 (.int .u32 0))), 64) := by kernel_rfl
def zW : List Nat := List.replicate 64 0
theorem zW_len : zW.length = 64 := List.length_replicate
theorem zero64W (w : World) : (zeroValue 96).run Tryd.prog w = .ok (.agg (u32s zW).toArray) w := by
  rw [(zero_of_info (P := Tryd.prog) Tryd.infoW64).1 w, zW, u32s, List.map_replicate]; rfl
theorem size64W (l : List Nat) (h : l.length = 64) : (Tryd.prog.info? 96).map (·.size) = some (u32s l).length := by
  rw [u32s_len, h]; exact Tryd.sizeW64
theorem at8_get (m : List UInt8) (i : Nat) (h : i < m.length) : m[i]? = some (UInt8.ofNat (Sha.at8 m i)) := by
  rw [List.getElem?_eq_getElem h, Sha.at8, List.getD_eq_getElem?_getD, List.getElem?_eq_getElem h]; simp

set_option maxHeartbeats 2000000 in
set_option maxRecDepth 100000 in
theorem words_at (m : List UInt8) (W : List Nat) (w : World) (hm : m.length = 64) (hW0 : W = Sha.wK m 0 64) :
    Calls Tryd.prog 57 #[.agg (u8s m).toArray] w fun e w' => e = .returned (.agg (u32s W).toArray) ∧ Below w.heap.size w w' := by
  have HW0 := Lib.hid hW0
  clear hW0
  have hB0 := Blk.new w 64 (u8s m)
  have hb0 := below_alloc w (.cells (u8s m).toArray 64)
  have hs0 : (w.alloc (.cells (u8s m).toArray 64)).heap.size = w.heap.size + 1 := World.size_alloc _ _
  obtain ⟨w1, hw1⟩ : ∃ w1, w.alloc (.cells (u8s m).toArray 64) = w1 := ⟨_, rfl⟩
  rw [hw1] at hB0 hb0 hs0
  have hR1 := Blk.new w1 96 (u32s zW)
  have hb1 := hb0.alloc (by omega) (.cells (u32s zW).toArray 96)
  have hB1 := hB0.alloc (.cells (u32s zW).toArray 96)
  have hs1 : (w1.alloc (.cells (u32s zW).toArray 96)).heap.size = w1.heap.size + 1 := World.size_alloc _ _
  obtain ⟨w2, hw2⟩ : ∃ w2, w1.alloc (.cells (u32s zW).toArray 96) = w2 := ⟨_, rfl⟩
  rw [hw2] at hB1 hb1 hs1 hR1
  have hT2 := Blk.new w2 96 (u32s zW)
  have hb2 := hb1.alloc (by omega) (.cells (u32s zW).toArray 96)
  have hB2 := hB1.alloc (.cells (u32s zW).toArray 96)
  have hR2 := hR1.alloc (.cells (u32s zW).toArray 96)
  obtain ⟨w3, hw3⟩ : ∃ w3, w2.alloc (.cells (u32s zW).toArray 96) = w3 := ⟨_, rfl⟩
  rw [hw3] at hB2 hb2 hT2 hR2
  have hld := run_loadVar_row (P := Tryd.prog) w3 w.heap.size 64 64 (u8s m).toArray (0, 0) _ hB2 Tryd.undB64 rfl (by simpa [u8s_len, hm] using Tryd.sizeB64)
  have HT2 := Lib.hid hT2
  have HR2 := Lib.hid hR2
  have Hb2 := Lib.hid hb2
  have HS : Hid (w.heap.size < w1.heap.size ∧ w1.heap.size < w2.heap.size) := Lib.hid (by omega)
  have HW1 := Lib.hid hw1
  have HW2 := Lib.hid hw2
  have HW3 := Lib.hid hw3
  have HL := Lib.hid hm
  clear hB0 hb0 hs0 hR1 hb1 hB1 hs1 hT2 hb2 hB2 hR2 hw1 hw2 hw3 hm
  go_enter Tryd.func57, Tryd.ntmps57
  go_wp2_with (first | (refine wpList_box_arr rfl 64 (.tmp 0) (u8s m).toArray rfl rfl ?_; rw [HW1.out]) | (refine wpList_alloc_arr rfl 96 (u32s zW).toArray rfl zero64W ?_; first | rw [HW2.out] | rw [HW3.out]) | refine wpList_load_arr_w 64 (.tmp 1) rfl rfl (u8s m).toArray hld (by kernel_rfl) ?_)
  generalize w2.heap.size = gT at *
  generalize w1.heap.size = gR at *
  clear hld HW1 HW2 HW3
  go_loopw [12] (fun i w' => ∃ j : Nat, j ≤ 64 ∧ i = .int .i64 (j : Int) ∧ Blk w' gT 96 (u32s (wb m j)) ∧ Blk w' gR 96 (u32s zW) ∧ Below w.heap.size w w') (fun i _ => 64 - (intOf i).toNat)
  case atStart => exact ⟨0, by omega, rfl, HT2.out, HR2.out, Hb2.out⟩
  case round =>
    obtain ⟨i, hi, rfl, hT, hR, hb⟩ := hrel
    clear HT2 HR2 Hb2
    by_cases hlt : i < 64
    · have hix := run_index_u8 (P := Tryd.prog) (w := wr) Tryd.undB64 Tryd.und5 Tryd.size5 m i hlt _ (at8_get m i (by rw [HL.out]; exact hlt))
      have hb8 := Sha.at8_lt m i
      rw [show (UInt8.ofNat (Sha.at8 m i)).toNat = Sha.at8 m i from by simp; omega] at hix
      have hx : (wb m i).getD (i / 4) 0 < 4294967296 := Sha.getD_lt (wb_lt m i) _
      have hcx : wr.cell? ⟨gT, i / 4, none⟩ = some (.int .u32 (((wb m i).getD (i / 4) 0 : Nat) : Int)) := by rw [hT.cell, u32s_get _ _ (by rw [wb_len]; omega)]
      have hf := hT.frozen (i / 4)
      have hS := hT.set_ (i / 4) (.int .u32 (((wb m i).getD (i / 4) 0 * 256 % 4294967296 ||| Sha.at8 m i : Nat) : Int))
      rw [u32s_set, show (wb m i).set (i / 4) ((wb m i).getD (i / 4) 0 * 256 % 4294967296 ||| Sha.at8 m i) = wb m (i + 1) from rfl] at hS
      have hV : bits .or .u32 ((((wb m i).getD (i / 4) 0 : Nat) : Int) * 256 % 4294967296) ((Sha.at8 m i : Nat) : Int) = (((wb m i).getD (i / 4) 0 * 256 % 4294967296 ||| Sha.at8 m i : Nat) : Int) := by
        rw [← or_u32 _ _ (Nat.mod_lt _ (by omega)) (by omega)]; simp
      generalize (wb m i).getD (i / 4) 0 = x at *
      generalize (x * 256 % 4294967296 ||| Sha.at8 m i) = y at *
      have HTn := Lib.hid hS
      have HRn := Lib.hid (hR.far (p := ⟨gT, i / 4, none⟩) (by have := HS.out; show gR ≠ gT; omega) (.int .u32 (y : Int)))
      have Hbn := Lib.hid (hb.setCell (p := ⟨gT, i / 4, none⟩) (by have := HS.out; show w.heap.size ≤ gT; omega) (.int .u32 (y : Int)))
      have HV := Lib.hid hV
      clear hS hT hR hb hV
      go_wp2_with (refine wpList_index_u8 64 (.tmp 11) (.tmp 12) rfl rfl rfl hix (by kernel_rfl) ?_)
      rw [HV.out]
      exact ⟨⟨i + 1, by omega, by go_num, HTn.out, HRn.out, Hbn.out⟩, by simp [intOf]; omega⟩
    · have hT16 : Blk wr gT 96 (u32s (wq m 16)) := by
        have e : i = 64 := by omega
        rw [e, wb_end] at hT
        exact hT
      have HT := Lib.hid hT16
      have HR := Lib.hid hR
      have Hb := Lib.hid hb
      clear hT16 hT hR hb
      go_wp2
      go_loopw [6] (fun i w' => ∃ j : Nat, 16 ≤ j ∧ j ≤ 64 ∧ i = .int .i64 (j : Int) ∧ Blk w' gT 96 (u32s (wq m j)) ∧ Blk w' gR 96 (u32s zW) ∧ Below w.heap.size w w') (fun i _ => 64 - (intOf i).toNat)
      case atStart => exact ⟨16, by omega, by omega, rfl, HT.out, HR.out, Hb.out⟩
      case round =>
        obtain ⟨t, ht16, ht, rfl, hT, hR, hb⟩ := hrel
        clear HT HR Hb
        have hlen := wq_len m t ht
        by_cases htl : t < 64
        · have c2 : wr.cell? ⟨gT, t - 2, none⟩ = some (.int .u32 (((wq m t).getD (t - 2) 0 : Nat) : Int)) := by rw [hT.cell, u32s_get _ _ (by rw [hlen]; omega)]
          have c15 : wr.cell? ⟨gT, t - 15, none⟩ = some (.int .u32 (((wq m t).getD (t - 15) 0 : Nat) : Int)) := by rw [hT.cell, u32s_get _ _ (by rw [hlen]; omega)]
          have c7 : wr.cell? ⟨gT, t - 7, none⟩ = some (.int .u32 (((wq m t).getD (t - 7) 0 : Nat) : Int)) := by rw [hT.cell, u32s_get _ _ (by rw [hlen]; omega)]
          have c16 : wr.cell? ⟨gT, t - 16, none⟩ = some (.int .u32 (((wq m t).getD (t - 16) 0 : Nat) : Int)) := by rw [hT.cell, u32s_get _ _ (by rw [hlen]; omega)]
          have c0 : wr.cell? ⟨gT, t, none⟩ = some (.int .u32 (((wq m t).getD t 0 : Nat) : Int)) := by rw [hT.cell, u32s_get _ _ (by rw [hlen]; omega)]
          have l2 := wq_lt m t (t - 2)
          have l7 := wq_lt m t (t - 7)
          have l15 := wq_lt m t (t - 15)
          have l16 := wq_lt m t (t - 16)
          have hf := hT.frozen t
          have hS := hT.set_ t (.int .u32 ((Sha.wNext (Sha.wK m 0 t) t : Nat) : Int))
          rw [u32s_set, wq_set m t htl ht16] at hS
          have hW : Sha.wNext (Sha.wK m 0 t) t = (Sha.s1 ((wq m t).getD (t - 2) 0) + (wq m t).getD (t - 7) 0 + Sha.s0 ((wq m t).getD (t - 15) 0) + (wq m t).getD (t - 16) 0) % 4294967296 := by
            rw [wq_get _ _ _ (by omega), wq_get _ _ _ (by omega), wq_get _ _ _ (by omega), wq_get _ _ _ (by omega)]
            rfl
          generalize (wq m t).getD (t - 2) 0 = x2 at *
          generalize (wq m t).getD (t - 7) 0 = x7 at *
          generalize (wq m t).getD (t - 15) 0 = x15 at *
          generalize (wq m t).getD (t - 16) 0 = x16 at *
          generalize (wq m t).getD t 0 = x0 at *
          generalize Sha.wNext (Sha.wK m 0 t) t = y at *
          have HTn := Lib.hid hS
          have HRn := Lib.hid (hR.far (p := ⟨gT, t, none⟩) (by have := HS.out; show gR ≠ gT; omega) (.int .u32 (y : Int)))
          have Hbn := Lib.hid (hb.setCell (p := ⟨gT, t, none⟩) (by have := HS.out; show w.heap.size ≤ gT; omega) (.int .u32 (y : Int)))
          have HW := Lib.hid hW
          clear hS hT hR hb hW hlen
          go_wp2_with fail
          refine wp_region_G grows (by kernel_rfl) ?_
          have hcl : ∀ {p : Addr} {v : Value}, wr.cell? p = some v → ∀ x : Later grows wr.drew, x.to.cell? p = some v := fun h x => by
            have hb : Below wr.drew.heap.size wr.drew x.to := x.grown
            exact cell_bel' (w := wr.drew) hb h
          have q2 := hcl c2
          have q15 := hcl c15
          refine segG (by kernel_rfl) (fun _ _ _ _ _ h => h) [0, 1, 2, 3, 4, 5, 6, 7, 8, 9] [_, _, _, _, _, _, _, _, _, _] 0 rfl rfl (by kernel_rfl) ?_
          repeat (go_big_quiet_step (fail))
          refine wpQuiet_nil ?_
          refine wpAnyG_done (by kernel_rfl) ?_
          clear q2 q15 hcl c2 c15
          have HV1 : Hid (bits .xor .u32 (bits .xor .u32 ((Sha.rotr x2 17 : Nat) : Int) ((Sha.rotr x2 19 : Nat) : Int)) ((x2 : Int) / 1024) = ((Sha.s1 x2 : Nat) : Int)) := Lib.hid (by
            rw [show (x2 : Int) / 1024 = ((x2 / 1024 : Nat) : Int) from by simp, xor_u32 _ _ (Sha.rotr_lt _ _ l2) (Sha.rotr_lt _ _ l2), xor_u32 _ _ (Sha.xor_lt (Sha.rotr_lt _ _ l2) (Sha.rotr_lt _ _ l2)) (by omega)]
            rfl)
          have HV0 : Hid (bits .xor .u32 (bits .xor .u32 ((Sha.rotr x15 7 : Nat) : Int) ((Sha.rotr x15 18 : Nat) : Int)) ((x15 : Int) / 8) = ((Sha.s0 x15 : Nat) : Int)) := Lib.hid (by
            rw [show (x15 : Int) / 8 = ((x15 / 8 : Nat) : Int) from by simp, xor_u32 _ _ (Sha.rotr_lt _ _ l15) (Sha.rotr_lt _ _ l15), xor_u32 _ _ (Sha.xor_lt (Sha.rotr_lt _ _ l15) (Sha.rotr_lt _ _ l15)) (by omega)]
            rfl)
          go_wp2_with (refine (rightL_z _ _ _ (by assumption) (by decide) (by decide)).mono ?_; rintro e w' ⟨rfl, rfl⟩; simp only [Int.reduceToNat])
          rw [HV1.out, HV0.out]
          have ls1 := Sha.s1_lt x2 l2
          have ls0 := Sha.s0_lt x15 l15
          have HY : Hid ((((Sha.s1 x2 : Nat) : Int) + (x7 : Int) + ((Sha.s0 x15 : Nat) : Int) + (x16 : Int)) % 4294967296 = ((y : Nat) : Int)) := Lib.hid (by rw [HW.out]; omega)
          clear HV1 HV0 HW
          generalize Sha.s1 x2 = y1 at *
          generalize Sha.s0 x15 = y0 at *
          refine wp_region_G grows (by kernel_rfl) ?_
          have hcl : ∀ {p : Addr} {v : Value}, wr.cell? p = some v → ∀ x : Later grows wr.drew.drew, x.to.cell? p = some v := fun h x => by
            have hb : Below wr.drew.drew.heap.size wr.drew.drew x.to := x.grown
            exact cell_bel' (w := wr.drew.drew) hb h
          have q7 := hcl c7
          have q16 := hcl c16
          refine segG (by kernel_rfl) (fun _ _ _ _ _ h => h) [0, 1, 2, 3, 4, 5, 6, 7, 8, 9] [_, _, _, _, _, _, _, _, _, _] 6 rfl rfl (by kernel_rfl) ?_
          repeat (go_big_quiet_step (fail))
          refine wpQuiet_nil ?_
          refine segG (by kernel_rfl) (fun _ _ _ _ _ h => h) [10, 11, 12, 13, 14] [_, _, _, _, _] 1 rfl rfl (by kernel_rfl) ?_
          repeat (go_big_quiet_step (fail))
          refine wpQuiet_nil ?_
          refine lateG 15 0 rfl (by kernel_rfl) (by kernel_rfl) rfl ?_
          clear q7 q16 hcl
          go_wp2
          refine ⟨trivial, ?_⟩
          refine wpAnyG_done (by kernel_rfl) ?_
          go_wp2
          rw [HY.out]
          exact ⟨⟨t + 1, by omega, by omega, by go_num, HTn.out, HRn.out, ⟨Hbn.out.os, Hbn.out.tape, Hbn.out.output, Hbn.out.size, Hbn.out.block⟩⟩, by simp [intOf]; omega⟩
        · have hE : wq m t = W := by rw [show t = 64 from by omega, wq_end, HW0.out]
          rw [hE] at hT
          have hwl : W.length = 64 := by rw [HW0.out]; exact Sha.wK_len m 0 64
          have HR := Lib.hid hR
          have Hb := Lib.hid hb
          have hld := run_loadVar_row (P := Tryd.prog) wr gT 96 96 (u32s W).toArray (0, 0) _ hT Tryd.undW64 rfl (by simpa using size64W _ hwl)
          have HS2 := Lib.hid (size64W _ hwl)
          have HZ2 : Hid ((u32s zW).length = (u32s W).length) := Lib.hid (by rw [u32s_len, u32s_len, hwl, zW_len])
          have HO2 := Lib.hid (u32s_one W)
          have hl2 := run_loadVar_row (P := Tryd.prog) (wr.setRow gR (u32s W).toArray) gR 96 96 (u32s W).toArray (0, 0) _ (HR.out.row _) Tryd.undW64 rfl (by simpa using size64W _ hwl)
          have Hbn := Lib.hid (below_setRow Hb.out (by have := HS.out; omega : w.heap.size ≤ gR) (u32s W).toArray)
          clear hE hT hR hb hlen
          have d1 : decide ((t : Int) < 64) = false := by simp; omega
          clear hwl HL
          go_wp2_with (first | refine wpList_load_at 96 (.tmp 3) (by exact rfl) (g := gT) (q := 0) (by exact rfl) (u32s W).toArray hld (by kernel_rfl) ?_ | refine wpList_store_arr rfl 96 (.tmp 2) (.tmp 71) gR (u32s zW) (u32s W) (by exact rfl) (by exact rfl) (by exact rfl) (by exact rfl) HR.out HS2.out HZ2.out HO2.out ?_)
          simp only [Act.put, List.setIfInBounds_toArray, List.set]
          refine bodyPost_ret (v := .agg (u32s W).toArray) ?_ rfl ⟨rfl, Hbn.out⟩
          generalize (u32s W).toArray = X at hl2 ⊢
          simp [results, Tryd.results57, asAddr, hl2]
theorem words_any (m : List UInt8) (w : World) (hm : m.length = 64) :
    Calls Tryd.prog 57 #[.agg (u8s m).toArray] w fun e w' => e = .returned (.agg (u32s (Sha.wK m 0 64)).toArray) ∧ Below w.heap.size w w' :=
  words_at m _ w hm rfl
end Go.Proofs.YtjhkodmaalefiaaDoor
