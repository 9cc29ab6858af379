/-
  The landed sha: right (over bits.RotateLeft32), squareRoots, joined: contracts.
-/
import Derived.Test.YtpaagjhohfjopaaDoorBase
import Derived.Test.YtpaagjhohfjopaaDoorRow
import Derived.Test.YtpaagjhohfjopaaDoorBits
import Derived.Test.YtpaagjhohfjopaaDoorShaM
import Derived.Test.YtpaagjhohfjopaaDoorMidB
import Derived.Test.YtpaagjhohfjopaaDoorShaRefC
set_option maxRecDepth 100000
namespace Go.Proofs.YtpaagjhohfjopaaDoor
open Go.RowKit Go.Gar

theorem low5 : ∀ n : Fin 32, 0 < n.1 → bits .and .u64 (IntKind.u64.wrap (-(n.1 : Int))) 31 = ((32 - n.1 : Nat) : Int) := by decide +kernel
theorem rotr_bits' (x n m : Nat) (hx : x < 4294967296) (hm : m = 32 - n) : bits .or .u32 ((x : Int) * 2 ^ m % 4294967296) ((x : Int) / 2 ^ n) = ((Sha.rotr x n : Nat) : Int) := by
  subst hm
  rw [show (x : Int) / 2 ^ n = ((x / 2 ^ n : Nat) : Int) from by simp, show (x : Int) * 2 ^ (32 - n) % 4294967296 = ((x * 2 ^ (32 - n) % 4294967296 : Nat) : Int) from by rw [Int.natCast_emod, Int.natCast_mul, Int.natCast_pow]; rfl,
    or_u32 _ _ (Nat.mod_lt _ (by omega)) (Nat.lt_of_le_of_lt (Nat.div_le_self _ _) hx), Nat.or_comm]
  rfl
set_option maxHeartbeats 1000000 in
set_option maxRecDepth 100000 in
theorem rotl_any (x n : Nat) (w : World) (hx : x < 4294967296) (hn : n < 32) (h0 : 0 < n) :
    Calls Tryd.prog 41 #[.int .u32 (x : Int), .int .i64 (-(n : Int))] w fun e w' => e = .returned (.int .u32 ((Sha.rotr x n : Nat) : Int)) ∧ w' = w := by
  obtain ⟨m, hm⟩ : ∃ m, m = 32 - n := ⟨_, rfl⟩
  have hb : bits .and .u64 (IntKind.u64.wrap (-(n : Int))) 31 = (m : Int) := by rw [hm]; exact low5 ⟨n, hn⟩ h0
  have HO := Lib.hid (rotr_bits' x n m hx hm)
  have hz : ((32 : Int) - (m : Int)).toNat = n := by omega
  have hm0 : 0 ≤ (32 : Int) - (m : Int) := by omega
  have Hm := Lib.hid hm
  clear hm
  go_enter Tryd.func41, Tryd.ntmps41
  go_wp2
  go_ret
  exact ⟨congrArg (fun v => Ending.returned (.int .u32 v)) HO.out, rfl⟩

set_option maxHeartbeats 1000000 in
set_option maxRecDepth 100000 in
theorem rightL_any (x n : Nat) (w : World) (hx : x < 4294967296) (hn : n < 32) (h0 : 0 < n) :
    Calls Tryd.prog 40 #[.int .u32 (x : Int), .int .i64 (n : Int)] w fun e w' => e = .returned (.int .u32 ((Sha.rotr x n : Nat) : Int)) ∧ w' = w := by
  go_enter Tryd.func40, Tryd.ntmps40
  go_wp2_with fail
  refine (rotl_any x n w hx hn h0).mono ?_
  rintro e w1 ⟨rfl, rfl⟩
  go_wp2
  go_ret
  exact ⟨rfl, rfl⟩

/-- A row half laid: the first k of t, the rest of z. -/
def pg {α : Type} (z t : List α) (k : Nat) : List α := t.take k ++ z.drop k
theorem pg_0 {α : Type} (z t : List α) : pg z t 0 = z := by simp [pg]
theorem pg_end {α : Type} (z t : List α) (k : Nat) (h : z.length ≤ k) (h2 : t.length ≤ k) : pg z t k = t := by
  rw [pg, List.take_of_length_le h2, List.drop_eq_nil_of_le h, List.append_nil]
theorem pg_len {α : Type} (z t : List α) (k : Nat) (h : t.length = z.length) : (pg z t k).length = z.length := by
  simp [pg]; omega
theorem pg_set {α : Type} (z t : List α) (k : Nat) (x : α) (h : t.length = z.length) (hx : t[k]? = some x) : (pg z t k).set k x = pg z t (k + 1) := by
  have hk : k < t.length := (List.getElem?_eq_some_iff.1 hx).1
  have hl : (t.take k).length = k := by rw [List.length_take]; omega
  have e2 : z.drop k = z[k]'(by omega) :: z.drop (k + 1) := List.drop_eq_getElem_cons (by omega)
  rw [List.getElem?_eq_getElem hk] at hx
  injection hx with hx
  unfold pg
  rw [List.set_append_right _ _ (by omega), hl, Nat.sub_self, e2, List.set_cons_zero, List.take_succ_eq_append_getElem hk, hx, List.append_assoc]
  rfl
theorem u8s_set' (l : List UInt8) (i : Nat) (c : UInt8) : (u8s l).set i (.int .u8 (c.toNat : Int)) = u8s (l.set i c) := by simp [u8s, List.map_set]

theorem Tryd.undH8 : Tryd.prog.underlying 58 = some (.array 8 44) := by kernel_rfl
theorem Tryd.sizeH8 : (Tryd.prog.info? 58).map (·.size) = some 8 := by kernel_rfl
theorem Tryd.undD32 : Tryd.prog.underlying 32 = some (.array 32 5) := by kernel_rfl
theorem Tryd.sizeD32 : (Tryd.prog.info? 32).map (·.size) = some 32 := by kernel_rfl
theorem Tryd.infoD32 : (Tryd.prog.info? 32).map (fun i => (i.zero, i.size)) = some (some (.agg (Array.replicate 32 (.int .u8 0))), 32) := by kernel_rfl
def zB (n : Nat) : List UInt8 := List.replicate n 0
theorem zB_len (n : Nat) : (zB n).length = n := List.length_replicate
theorem zero32B (w : World) : (zeroValue 32).run Tryd.prog w = .ok (.agg (u8s (zB 32)).toArray) w := by
  rw [(zero_of_info (P := Tryd.prog) Tryd.infoD32).1 w, zB, u8s, List.map_replicate]; rfl
theorem size32B (l : List UInt8) (h : l.length = 32) : (Tryd.prog.info? 32).map (·.size) = some (u8s l).length := by
  rw [u8s_len, h]; exact Tryd.sizeD32

set_option maxHeartbeats 1000000 in
set_option maxRecDepth 100000 in
theorem squares_any (w : World) :
    Calls Tryd.prog 29 #[] w fun e w' => e = .returned (.agg (u32s Sha.start.list).toArray) ∧ Below w.heap.size w w' := by
  have hl2 := run_loadVar_row (P := Tryd.prog) (w.alloc (.cells (u32s Sha.start.list).toArray 58)) w.heap.size 58 58 (u32s Sha.start.list).toArray (0, 0) _ (Blk.new w 58 (u32s Sha.start.list)) Tryd.undH8 rfl Tryd.sizeH8
  go_enter Tryd.func29, Tryd.ntmps29
  go_wp2
  refine bodyPost_ret (v := .agg (u32s Sha.start.list).toArray) ?_ rfl ⟨rfl, below_alloc w _⟩
  rw [show #[Value.int .u32 1779033703, .int .u32 3144134277, .int .u32 1013904242, .int .u32 2773480762, .int .u32 1359893119, .int .u32 2600822924, .int .u32 528734635, .int .u32 1541459225] = (u32s Sha.start.list).toArray from rfl]
  generalize (u32s Sha.start.list).toArray = X at hl2 ⊢
  simp [results, Tryd.results29, asAddr, hl2]

/-- Byte i of the digest. -/
def outB (s : List Nat) (i : Nat) : UInt8 := UInt8.ofNat (s.getD (i / 4) 0 / 2 ^ (24 - 8 * (i % 4)))
theorem out_bytes (s : Sha.St) : Sha.out s = (List.range 32).map (outB s.list) := by
  cases s
  simp [Sha.out, Sha.outK, Sha.St.list, outB, Sha.be4, List.range_succ]
theorem out_get (s : Sha.St) (i : Nat) (h : i < 32) : (Sha.out s)[i]? = some (outB s.list i) := by
  rw [out_bytes, List.getElem?_map, List.getElem?_range h]; rfl
theorem out_len (s : Sha.St) : (Sha.out s).length = 32 := by rw [out_bytes, List.length_map, List.length_range]
theorem outB_int (s : List Nat) (i : Nat) (x : Nat) (hx : s.getD (i / 4) 0 = x) : Value.int .u8 ((x : Int) / 2 ^ (24 - 8 * (i % 4)) % 256) = .int .u8 ((outB s i).toNat : Int) := by
  subst hx
  simp [outB]

set_option maxHeartbeats 1000000 in
set_option maxRecDepth 100000 in
theorem joined_any (s : Sha.St) (w : World) (hs : s.ok) :
    Calls Tryd.prog 34 #[.agg (u32s s.list).toArray] w fun e w' => e = .returned (.agg (u8s (Sha.out s)).toArray) ∧ Below w.heap.size w w' := by
  have hB0 := Blk.new w 58 (u32s s.list)
  have hb0 := below_alloc w (.cells (u32s s.list).toArray 58)
  have hs0 : (w.alloc (.cells (u32s s.list).toArray 58)).heap.size = w.heap.size + 1 := World.size_alloc _ _
  obtain ⟨w1, hw1⟩ : ∃ w1, w.alloc (.cells (u32s s.list).toArray 58) = w1 := ⟨_, rfl⟩
  rw [hw1] at hB0 hb0 hs0
  have hR1 := Blk.new w1 32 (u8s (zB 32))
  have hb1 := hb0.alloc (by omega) (.cells (u8s (zB 32)).toArray 32)
  have hB1 := hB0.alloc (.cells (u8s (zB 32)).toArray 32)
  have hs1 : (w1.alloc (.cells (u8s (zB 32)).toArray 32)).heap.size = w1.heap.size + 1 := World.size_alloc _ _
  obtain ⟨w2, hw2⟩ : ∃ w2, w1.alloc (.cells (u8s (zB 32)).toArray 32) = w2 := ⟨_, rfl⟩
  rw [hw2] at hB1 hb1 hs1 hR1
  have hT2 := Blk.new w2 32 (u8s (zB 32))
  have hb2 := hb1.alloc (by omega) (.cells (u8s (zB 32)).toArray 32)
  have hB2 := hB1.alloc (.cells (u8s (zB 32)).toArray 32)
  have hR2 := hR1.alloc (.cells (u8s (zB 32)).toArray 32)
  obtain ⟨w3, hw3⟩ : ∃ w3, w2.alloc (.cells (u8s (zB 32)).toArray 32) = w3 := ⟨_, rfl⟩
  rw [hw3] at hB2 hb2 hT2 hR2
  have HT2 := Lib.hid hT2
  have HR2 := Lib.hid hR2
  have HB2 := Lib.hid hB2
  have Hb2 := Lib.hid hb2
  have HS : Hid (w.heap.size < w1.heap.size ∧ w1.heap.size < w2.heap.size) := Lib.hid (by omega)
  have HW1 := Lib.hid hw1
  have HW2 := Lib.hid hw2
  have HW3 := Lib.hid hw3
  clear hB0 hb0 hs0 hR1 hb1 hB1 hs1 hT2 hb2 hB2 hR2 hw1 hw2 hw3
  go_enter Tryd.func34, Tryd.ntmps34
  go_wp2_with (first | (refine wpList_box_arr rfl 58 (.tmp 0) (u32s s.list).toArray rfl rfl ?_; rw [HW1.out]) | (refine wpList_alloc_arr rfl 32 (u8s (zB 32)).toArray rfl zero32B ?_; first | rw [HW2.out] | rw [HW3.out]))
  generalize w2.heap.size = gT at *
  generalize w1.heap.size = gR at *
  clear HW1 HW2 HW3
  go_loopw [5] (fun i w' => ∃ j : Nat, j ≤ 32 ∧ i = .int .i64 (j : Int) ∧ Blk w' gT 32 (u8s (pg (zB 32) (Sha.out s) j)) ∧ Blk w' gR 32 (u8s (zB 32)) ∧ Blk w' w.heap.size 58 (u32s s.list) ∧ Below w.heap.size w w') (fun i _ => 32 - (intOf i).toNat)
  case atStart => exact ⟨0, by omega, rfl, by rw [pg_0]; exact HT2.out, HR2.out, HB2.out, Hb2.out⟩
  case round =>
    obtain ⟨i, hi, rfl, hT, hR, hB, hb⟩ := hrel
    clear HT2 HR2 HB2 Hb2
    by_cases hlt : i < 32
    · have hx : s.list.getD (i / 4) 0 < 4294967296 := Sha.getD_lt hs _
      have hcx : wr.cell? ⟨w.heap.size, i / 4, none⟩ = some (.int .u32 ((s.list.getD (i / 4) 0 : Nat) : Int)) := by rw [hB.cell, u32s_get _ _ (by rw [Sha.St.list_len]; omega)]
      have HV := Lib.hid (fun x h => outB_int s.list i x h)
      obtain ⟨x, hxe⟩ : ∃ x, s.list.getD (i / 4) 0 = x := ⟨_, rfl⟩
      rw [hxe] at hx hcx
      have HV := Lib.hid (HV.out x hxe)
      have hp : (Sha.out s).length = (zB 32).length := by rw [out_len, zB_len]
      have hg := out_get s i hlt
      have hS := hT.set_ i (.int .u8 ((outB s.list i).toNat : Int))
      rw [u8s_set', pg_set _ _ _ _ hp hg] at hS
      have hc0 : ∃ v0, wr.cell? ⟨gT, i, none⟩ = some v0 := by rw [hT.cell, List.getElem?_eq_getElem (by rw [u8s_len, pg_len _ _ _ hp, zB_len]; exact hlt)]; exact ⟨_, rfl⟩
      obtain ⟨v0, hc0⟩ := hc0
      have hf := hT.frozen i
      have HTn := Lib.hid hS
      have HRn := Lib.hid (hR.far (p := ⟨gT, i, none⟩) (by have := HS.out; show gR ≠ gT; omega) (.int .u8 ((outB s.list i).toNat : Int)))
      have HBn := Lib.hid (hB.far (p := ⟨gT, i, none⟩) (by have := HS.out; show w.heap.size ≠ gT; omega) (.int .u8 ((outB s.list i).toNat : Int)))
      have Hbn := Lib.hid (hb.setCell (p := ⟨gT, i, none⟩) (by have := HS.out; show w.heap.size ≤ gT; omega) (.int .u8 ((outB s.list i).toNat : Int)))
      clear hS hT hR hB hb hp hg hxe
      go_wp2
      rw [HV.out]
      exact ⟨⟨i + 1, by omega, by go_num, HTn.out, HRn.out, HBn.out, Hbn.out⟩, by simp [intOf]; omega⟩
    · have hE : pg (zB 32) (Sha.out s) i = Sha.out s := pg_end _ _ _ (by rw [zB_len]; omega) (by rw [out_len]; omega)
      rw [hE] at hT
      have HR := Lib.hid hR
      have Hb := Lib.hid hb
      have hld := run_loadVar_row (P := Tryd.prog) wr gT 32 32 (u8s (Sha.out s)).toArray (0, 0) _ hT Tryd.undD32 rfl (by simpa using size32B _ (out_len s))
      have HS2 := Lib.hid (size32B _ (out_len s))
      have HZ2 : Hid ((u8s (zB 32)).length = (u8s (Sha.out s)).length) := Lib.hid (by rw [u8s_len, u8s_len, out_len, zB_len])
      have HO2 := Lib.hid (u8s_one (Sha.out s))
      have hl2 := run_loadVar_row (P := Tryd.prog) (wr.setRow gR (u8s (Sha.out s)).toArray) gR 32 32 (u8s (Sha.out s)).toArray (0, 0) _ (HR.out.row _) Tryd.undD32 rfl (by simpa using size32B _ (out_len s))
      have Hbn := Lib.hid (below_setRow Hb.out (by have := HS.out; omega : w.heap.size ≤ gR) (u8s (Sha.out s)).toArray)
      clear hE hT hR hB hb
      go_wp2_with (first | refine wpList_load_arr_w 32 (.tmp 3) rfl rfl (u8s (Sha.out s)).toArray hld (by kernel_rfl) ?_ | refine wpList_store_arr rfl 32 (.tmp 2) (.tmp 21) gR _ _ rfl rfl rfl rfl HR.out HS2.out HZ2.out HO2.out ?_)
      simp only [Act.put, List.setIfInBounds_toArray, List.set]
      refine bodyPost_ret (v := .agg (u8s (Sha.out s)).toArray) ?_ rfl ⟨rfl, Hbn.out⟩
      generalize (u8s (Sha.out s)).toArray = X at hl2 ⊢
      simp [results, Tryd.results34, asAddr, hl2]
end Go.Proofs.YtpaagjhohfjopaaDoor
