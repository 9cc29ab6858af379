/-
  The landed draw: Bytes, From; its contract.
-/
import Derived.Test.YtpaagjhohfjopaaDoorDrawGk
import Derived.Test.YtpaagjhohfjopaaDoorSliceO
set_option maxRecDepth 100000
namespace Go.Proofs.YtpaagjhohfjopaaDoor
open Go.RowKit Go.Gar

set_option maxHeartbeats 1000000 in
theorem bytesG_any (w : World) (l : List UInt8) (hl : l.length = 64) :
    Calls Tryd.prog 9 #[.agg (u8s l).toArray] w fun e w' => ∃ A c, e = .returned (.slice A 64 c) ∧ 64 ≤ c ∧ Rd w' w'.heap.size A l ∧ Below w.heap.size w w' := by
  have hB0 := Blk.new w 34 (u8s l)
  have hb0 := below_alloc w (.cells (u8s l).toArray 34)
  have hs0 : (w.alloc (.cells (u8s l).toArray 34)).heap.size = w.heap.size + 1 := World.size_alloc _ _
  obtain ⟨w0, hw0⟩ : ∃ w0, w.alloc (.cells (u8s l).toArray 34) = w0 := ⟨_, rfl⟩
  rw [hw0] at hB0 hb0 hs0
  have HW0 := Lib.hid hw0
  have HB0 := Lib.hid hB0
  have Hb0 := Lib.hid hb0
  have HS0 := Lib.hid hs0
  have HL := Lib.hid hl
  clear hw0 hB0 hb0 hs0 hl
  go_enter Tryd.func9, Tryd.ntmps9
  go_wp2_with fail
  rw [HW0.out]
  refine wp_region_G grows (by kernel_rfl) ?_
  have HB1 := Lib.hid HB0.out.drew
  have Hb1 := Lib.hid Hb0.out.drew
  have HS1 : Hid (w0.drew.heap.size = w.heap.size + 1) := Lib.hid HS0.out
  clear HB0 Hb0 HS0 HW0
  generalize w0.drew = W1 at *
  refine segG (by kernel_rfl) (fun _ _ _ _ _ h => h) [0, 1, 2, 3] [_, _, _, _] 3 rfl rfl (by kernel_rfl) ?_
  repeat (go_big_quiet_step (fail))
  refine wpQuiet_nil ?_
  refine oneG 4 2 rfl (by kernel_rfl) rfl ?_
  go_wp2
  refine ⟨below_alloc W1 _, ?_⟩
  have hbl := below_alloc W1 (.cells #[.slice (some ⟨w.heap.size, 0, none⟩) 32 32, .slice (some ⟨w.heap.size, 32, none⟩) 32 32] 22)
  have hC := Blk.new W1 22 [.slice (some ⟨w.heap.size, 0, none⟩) 32 32, .slice (some ⟨w.heap.size, 32, none⟩) 32 32]
  have hs1 := HS1.out
  have r1 := Rd.of_blk0 l HB1.out (B := W1.heap.size) (by omega) 32
  have r2 := Rd.of_blk l HB1.out (B := W1.heap.size) (by omega) 32 32
  clear hs1
  refine oneG 5 1 rfl (by kernel_rfl) rfl ?_
  go_wp2_with fail
  refine (concat_any (W1.alloc (.cells #[.slice (some ⟨w.heap.size, 0, none⟩) 32 32, .slice (some ⟨w.heap.size, 32, none⟩) 32 32] 22)) W1.heap.size _ _ (l.take 32) ((l.drop 32).take 32) 32 32 32 32 hC (by rw [List.length_take, HL.out]; rfl) (by rw [List.length_take, List.length_drop, HL.out]; rfl) ((r1.below hbl).more hbl.size) ((r2.below hbl).more hbl.size) (by omega) (by omega)).mono ?_
  rintro e W2 ⟨v, rfl, hO, hb2⟩
  have hll : l.take 32 ++ (l.drop 32).take 32 = l := by
    rw [show (l.drop 32).take 32 = l.drop 32 from List.take_of_length_le (by rw [List.length_drop, HL.out]; omega), List.take_append_drop]
  rw [hll] at hO
  obtain ⟨gR, cp, rest, rfl, _, hcp, hB⟩ := hO.blk (by rw [HL.out]; omega)
  rw [HL.out] at hcp ⊢
  have HR := Lib.hid (Rd.of_row hB)
  have Hcp := Lib.hid hcp
  have Hb2 := Lib.hid hb2
  have Hbw := Lib.hid (Hb1.out.trans ((hbl.trans (hb2.mono hbl.size)).mono Hb1.out.size))
  clear hO hB hcp hb2 hbl hC r1 r2 hll
  go_wp2
  refine ⟨Hb2.out, ?_⟩
  refine segG (by kernel_rfl) (fun _ _ _ _ _ h => h) [6] [_] 0 rfl rfl (by kernel_rfl) ?_
  repeat (go_big_quiet_step (fail))
  refine wpQuiet_nil ?_
  refine wpAnyG_done (by kernel_rfl) ?_
  go_wp2
  go_ret
  exact ⟨_, cp, rfl, Hcp.out, HR.out, Hbw.out⟩

theorem run_arr32 (g o n c : Nat) (h : 32 ≤ n) (W : World) : (Instr.arrayAt 32 (.slice (some ⟨g, o, none⟩) n c)).run Tryd.prog W = .ok (.pointer (some ⟨g, o, none⟩)) W := by
  have h1 : ¬ n < 32 := by omega
  simp [Instr.arrayAt, run_underlying Tryd.und32 W, h1]

theorem load_mid32 {B : Nat} {w : World} {g o : Nat} {b : List UInt8} (k : Nat) (hg : g < B) (hk : k + 32 ≤ b.length) (hc : ∀ (i : Nat) (x : UInt8), b[i]? = some x → w.cell? ⟨g, o + i, none⟩ = some (.int .u8 (x.toNat : Int))) :
    ∀ V : Later (belowG B) w, (loadVar 32 ⟨g, o + k, none⟩).run Tryd.prog V.to = .ok (.agg (u8s ((b.drop k).take 32)).toArray) V.to := fun V =>
  run_loadVar_mid (P := Tryd.prog) V.to g (o + k) 32 (u8s ((b.drop k).take 32)) _ (fun j v hv => by
    have hV : Below B w V.to := V.grown
    rw [u8s_get] at hv
    cases hq : ((b.drop k).take 32)[j]? with
    | none => rw [hq] at hv; cases hv
    | some c =>
      rw [hq] at hv
      obtain rfl := Option.some.inj hv
      rw [List.getElem?_take] at hq
      split at hq
      · rw [List.getElem?_drop] at hq
        have := (hV.cell (p := ⟨g, o + k + j, none⟩) hg).trans (show w.cell? ⟨g, o + k + j, none⟩ = some (.int .u8 (c.toNat : Int)) by rw [Nat.add_assoc]; exact hc (k + j) c hq)
        exact this
      · cases hq) Tryd.und32 rfl (size_32 _ (by rw [List.length_take, List.length_drop]; omega))

set_option maxHeartbeats 2000000 in
theorem fromG_any (w : World) (A : Option Addr) (b : List UInt8) (c : Nat) (hr : Rd w w.heap.size A b) (hc : b.length ≤ c) :
    Calls Tryd.prog 13 #[.slice A b.length c] w fun e w' => e = .returned (.tuple #[.agg (u8s (fromL b)).toArray, .int .i64 ((fromE b : Nat) : Int)]) ∧ Below w.heap.size w w' := by
  have hz0 : z64.length = 64 := by simp [z64, u8s_len]
  have hR0 := Blk.new w 34 z64
  have hb0 := below_alloc w (.cells z64.toArray 34)
  obtain ⟨w0, hw0⟩ : ∃ w0, w.alloc (.cells z64.toArray 34) = w0 := ⟨_, rfl⟩
  rw [hw0] at hR0 hb0
  by_cases h64 : b.length = 64
  · have hF : fromL b = b := by unfold fromL; rw [if_pos h64]
    have hE : fromE b = 0 := by unfold fromE; rw [if_pos h64]
    rw [hF, hE, h64]
    obtain ⟨g, o, rfl, hgB, hcl⟩ : ∃ g o, A = some ⟨g, o, none⟩ ∧ g < w.heap.size ∧ ∀ (i : Nat) (x : UInt8), b[i]? = some x → w.cell? ⟨g, o + i, none⟩ = some (.int .u8 (x.toNat : Int)) := by
      rcases hr with h | ⟨g, o, h1, h2, h3⟩
      · rw [h] at h64; cases h64
      · exact ⟨g, o, h1, h2, h3⟩
    have hcl0 : ∀ (i : Nat) (x : UInt8), b[i]? = some x → w0.cell? ⟨g, o + i, none⟩ = some (.int .u8 (x.toNat : Int)) := fun i x hx => (hb0.cell (p := ⟨g, o + i, none⟩) hgB).trans (hcl i x hx)
    have s1 := fun W => slice_upto g o 64 c 32 (by omega) W
    have s2 := fun W => slice_from g o 64 c 32 (by omega) (by omega) W
    rw [show ((32 : Nat) : Int) = 32 from rfl] at s1 s2
    have p1 := fun W => run_arr32 g o 32 c (by omega) W
    have p2 := fun W => run_arr32 g (o + 32) 32 (c - 32) (by omega) W
    have l1 := load_mid32 (B := w.heap.size) (w := w0.drew) (g := g) (o := o) 0 hgB (by omega) hcl0
    have l2 := load_mid32 (B := w.heap.size) (w := w0.drew) (g := g) (o := o) 32 hgB (by omega) hcl0
    rw [List.drop_zero, Nat.add_zero] at l1
    have hbt := builtKeys (b.take 32) ((b.drop 32).take 32) (by rw [List.length_take]; omega) (by rw [List.length_take, List.length_drop]; omega)
    have hll : b.take 32 ++ (b.drop 32).take 32 = b := by
      rw [show (b.drop 32).take 32 = b.drop 32 from List.take_of_length_le (by rw [List.length_drop]; omega), List.take_append_drop]
    rw [hll] at hbt
    obtain ⟨X1, hX1⟩ : ∃ X1, b.take 32 = X1 := ⟨_, rfl⟩
    obtain ⟨X2, hX2⟩ : ∃ X2, (b.drop 32).take 32 = X2 := ⟨_, rfl⟩
    rw [hX1] at l1 hbt
    rw [hX2] at l2 hbt
    have HW0 := Lib.hid hw0
    have HR0 := Lib.hid hR0.drew
    have HSz := Lib.hid (size_64 b h64)
    have HLn : Hid (z64.length = (u8s b).length) := Lib.hid (by rw [u8s_len, h64, hz0])
    have Hb1 := Lib.hid (below_setRow hb0.drew (Nat.le_refl _) (u8s b).toArray)
    have HL2 := Lib.hid (load_keys (hR0.drew.row (u8s b)) h64)
    have HBt := Lib.hid hbt
    have Hp1 := Lib.hid p1
    have Hp2 := Lib.hid p2
    have Hl1 := Lib.hid l1
    have Hl2 := Lib.hid l2
    have Hs1 := Lib.hid s1
    have Hs2 := Lib.hid s2
    clear hX1 hX2 hll hbt l1 l2 p1 p2 s1 s2 hcl hcl0 hgB hz0 hR0 hb0 hw0 hF hE h64 hr hc
    go_enter Tryd.func13, Tryd.ntmps13
    go_wp2_with (refine wpList_alloc_arr rfl 34 z64.toArray rfl zero_64 ?_; rw [HW0.out])
    refine wp_region_G (belowG w.heap.size) (by kernel_rfl) ?_
    clear HW0
    generalize w0.drew = W1 at *
    have s1 := Hs1.out
    have s2 := Hs2.out
    clear Hs1 Hs2
    refine segG (by kernel_rfl) (fun _ _ _ _ _ h => h) [0, 1, 4, 5] [_, _, _, _] 7 rfl rfl (by kernel_rfl) ?_
    repeat (go_big_quiet_step (fail))
    refine wpQuiet_nil ?_
    clear s1 s2
    refine firstG_arrayAt 32 (.tmp 9) (i := 2) (n := 6) (by kernel_rfl) (fun _ _ _ _ _ h => h) rfl rfl (by kernel_rfl) rfl rfl Hp1.out (by kernel_rfl) ?_
    simp only [Act.put, List.setIfInBounds_toArray, List.set]
    refine firstG_arrayAt 32 (.tmp 13) (i := 6) (n := 5) (by kernel_rfl) (fun _ _ _ _ _ h => h) rfl rfl (by kernel_rfl) rfl rfl Hp2.out (by kernel_rfl) ?_
    simp only [Act.put, List.setIfInBounds_toArray, List.set]
    refine segG (by kernel_rfl) (fun _ _ _ _ _ h => h) [3, 7] [_, _] 3 rfl rfl (by kernel_rfl) ?_
    refine wpQuiet_load_at 32 (.tmp 10) rfl rfl (u8s X1).toArray Hl1.out (by kernel_rfl) ?_
    simp only [Act.put, List.setIfInBounds_toArray, List.set]
    refine wpQuiet_load_at 32 (.tmp 14) rfl rfl (u8s X2).toArray Hl2.out (by kernel_rfl) ?_
    simp only [Act.put, List.setIfInBounds_toArray, List.set]
    refine wpQuiet_nil ?_
    clear Hl1 Hl2
    refine oneG 8 2 rfl (by kernel_rfl) rfl ?_
    refine wpList_build_w 34 _ rfl (by simp [Act.eval]) HBt.out (by kernel_rfl) ?_
    go_wp2
    refine ⟨Below.refl _ _, ?_⟩
    simp only [Act.put, List.setIfInBounds_toArray, List.set]
    refine lateG 9 1 rfl (by kernel_rfl) (by kernel_rfl) rfl ?_
    refine wpList_store_arr rfl 34 (.tmp 2) (.tmp 16) w.heap.size z64 (u8s b) rfl rfl rfl rfl HR0.out HSz.out HLn.out (u8s_one _) ?_
    go_wp2
    refine ⟨trivial, ?_⟩
    refine segG (by kernel_rfl) (fun _ _ _ _ _ h => h) [10] [_] 0 rfl rfl (by kernel_rfl) ?_
    repeat (go_big_quiet_step (fail))
    refine wpQuiet_nil ?_
    refine wpAnyG_done (by kernel_rfl) ?_
    go_wp2
    have hl2 := HL2.out
    refine bodyPost_ret (v := .tuple #[.agg (u8s b).toArray, .int .i64 ((0 : Nat) : Int)]) ?_ rfl ⟨rfl, Hb1.out⟩
    generalize (u8s b).toArray = Y at hl2 ⊢
    simp [results, Tryd.results13, asAddr, hl2]
  · have hF : fromL b = List.replicate 64 0 := by unfold fromL; rw [if_neg h64]
    have hE : fromE b = 3 := by unfold fromE; rw [if_neg h64]
    rw [hF, hE]
    have hzb : z64 = u8s (List.replicate 64 0) := rfl
    have HW0 := Lib.hid hw0
    have HR0 := Lib.hid hR0
    have HSz := Lib.hid (show (Tryd.prog.info? 34).map (·.size) = some z64.length by rw [hz0]; exact Tryd.sizeKeys)
    have Hb1 := Lib.hid (below_setRow hb0 (Nat.le_refl _) z64.toArray)
    have hl2 := load_keys (W := w0.setRow w.heap.size z64.toArray) (g := w.heap.size) (l := List.replicate 64 0) (hR0.row z64) rfl
    rw [← hzb] at hl2 ⊢
    have H1 : Hid (∀ u ∈ z64, u.oneCell' = true) := Lib.hid (u8s_one _)
    have HL2 := Lib.hid hl2
    generalize b.length = n at *
    have hne : ((n : Int) != 64) = true := by simp; omega
    clear hF hE hzb hl2 hr hc h64 hb0 hR0 hw0 hz0
    go_enter Tryd.func13, Tryd.ntmps13
    go_wp2_with (first | (refine wpList_alloc_arr rfl 34 z64.toArray rfl zero_64 ?_; rw [HW0.out]) | refine wpList_build_w 34 _ rfl (by simp [Act.eval]) builtKeys0 (by kernel_rfl) ?_ | refine wpList_store_arr rfl 34 (.tmp 2) (.tmp 7) w.heap.size z64 z64 rfl rfl rfl rfl HR0.out HSz.out rfl H1.out ?_)
    have hl2 := HL2.out
    refine bodyPost_ret (v := .tuple #[.agg z64.toArray, .int .i64 ((3 : Nat) : Int)]) ?_ rfl ⟨rfl, Hb1.out⟩
    generalize z64.toArray = Y at hl2 ⊢
    simp [results, Tryd.results13, asAddr, hl2]

/-- The landed draw keeps its contract wherever sha's table lies as its text lays it. -/
theorem drawOK : DrawOK Gl :=
  ⟨fun h hb => h.keep hb, fun w id gen A d c hG hr hc hl => keysG_any w hG id gen A d _ c rfl hr hc hl _ rfl, fun w id gen A d c hG hr hc hl => ivG_any w hG id gen A d _ c rfl hr hc hl _ rfl, bytesG_any, fromG_any⟩
end Go.Proofs.YtpaagjhohfjopaaDoor
