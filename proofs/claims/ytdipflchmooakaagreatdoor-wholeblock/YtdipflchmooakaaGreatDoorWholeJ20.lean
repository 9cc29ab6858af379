/-
  The landed wrap: bytes.Clone; what the rounds of forward and backward find; forward: its contract.
-/
import Derived.Test.YtdipflchmooakaaGreatDoorWholeJ01
import Derived.Test.YtdipflchmooakaaGreatDoorWholeJ07
import Derived.Test.YtdipflchmooakaaGreatDoorWholeJ05
import Derived.Test.YtdipflchmooakaaGreatDoorWholeJ02
import Derived.Test.YtdipflchmooakaaGreatDoorWholeJ06
import Derived.Test.YtdipflchmooakaaGreatDoorWholeJ09
import Derived.Test.YtdipflchmooakaaGreatDoorWholeJ13
import Derived.Test.YtdipflchmooakaaGreatDoorWholeJ08
import Derived.Test.YtdipflchmooakaaGreatDoorWholeJ14
import Derived.Test.YtdipflchmooakaaGreatDoorWholeJ16
import Derived.Test.YtdipflchmooakaaGreatDoorWholeJ18
import Derived.Test.YtdipflchmooakaaGreatDoorWholeJ19
import Derived.Lib.LazyBuf
import Derived.BigRegion
import Derived.Deep.CutRange
import Derived.RegionTactic
set_option maxRecDepth 100000
namespace Go.Proofs.YtdipflchmooakaaGreatDoor
open Go.RowKit Go.Gar Go.Gar.Aes

set_option maxHeartbeats 1000000 in
theorem cloneW_any (w : World) (A : Option Addr) (b : List UInt8) (n c : Nat) (hn : n = b.length) (h0 : 0 < n) (hl : n ≤ 1048576) (hr : Rd w w.heap.size A b) :
    Calls Tryz.prog 52 #[.slice A n c] w fun e w' => ∃ g cp rest, e = .returned (.slice (some ⟨g, 0, none⟩) n cp) ∧ n ≤ cp ∧ w.heap.size ≤ g ∧ Blk w' g 5 (u8s b ++ rest) ∧ Below w.heap.size w w' := by
  have hne : ∃ p, A = some p := by
    rcases hr with h | ⟨g, o, e, _⟩
    · rw [hn, h] at h0; exact absurd h0 (by simp)
    · exact ⟨_, e⟩
  obtain ⟨p, rfl⟩ := hne
  have hO := own_made w w.heap.size 5 (Nat.le_refl _)
  have hb0 := below_alloc w (.cells #[] 5)
  obtain ⟨v1, w1, e1, ho1, hb1, _⟩ := app_rd (P := Tryz.prog) 23 23 Tryz.und22 Tryz.info5 hO (by rw [World.size_alloc]; omega) c (hr.below hb0) (by simp; omega)
  rw [List.nil_append] at ho1
  rw [← hn] at e1
  obtain ⟨g, cp, rest, rfl, hg, hcp, hB⟩ := ho1.blk (by omega)
  rw [← hn] at hcp e1
  have Hb1 := Lib.hid (hb0.trans hb1)
  have HB := Lib.hid hB
  have Hcp := Lib.hid hcp
  have Hg := Lib.hid hg
  have hq := run_eql_slice_nil (P := Tryz.prog) w 23 5 (some p) n c Tryz.und22
  rw [Option.isNone_some] at hq
  clear hO hb0 hb1 ho1 hg hcp hB hr hn
  go_enter Tryz.func52, Tryz.ntmps52
  go_wp2_with (at_builtin; refine wpList_append_run rfl (.tmp 5) (.tmp 6) _ rfl rfl rfl e1 ?_)
  go_ret
  exact ⟨g, cp, rest, rfl, Hcp.out, Hg.out, HB.out, Hb1.out⟩

theorem run_arr8 (g o n c : Nat) (h : 8 ≤ n) (W : World) : (Instr.arrayAt 55 (.slice (some ⟨g, o, none⟩) n c)).run Tryz.prog W = .ok (.pointer (some ⟨g, o, none⟩)) W := by
  have h1 : ¬ n < 8 := by omega
  simp [Instr.arrayAt, run_underlying Tryz.und8 W, h1]
theorem load_at8 {W : World} {g o : Nat} {t : TypeId} {cs : List Value} {x : List UInt8} (h : Blk W g t cs) (hx : x.length = 8) (hc : ∀ j v, (u8s x)[j]? = some v → cs[o + j]? = some v) : (loadVar 55 ⟨g, o, none⟩).run Tryz.prog W = .ok (.agg (u8s x).toArray) W :=
  run_loadVar_seg (P := Tryz.prog) g o cs (u8s x) h hc Tryz.und8 rfl (sizeA8 x hx)
theorem part_get (r : List UInt8) (rest : List Value) (j : Nat) (x : List UInt8) (hx : x = Wrp.b8 r j) (h : 8 * j + 8 ≤ r.length) : ∀ i v, (u8s x)[i]? = some v → (u8s r ++ rest)[8 * j + i]? = some v := by
  subst hx
  intro i v hi
  have hlt : i < 8 := by
    have := (List.getElem?_eq_some_iff.1 hi).1
    rw [u8s_len, Wrp.b8_len _ _ h] at this
    exact this
  rw [List.getElem?_append_left (by rw [u8s_len]; omega), ← hi, u8s_get, u8s_get, Wrp.b8, List.getElem?_take_of_lt hlt, List.getElem?_drop]
theorem part_put (r z : List UInt8) (rest : List Value) (j : Nat) (hz : z.length = 16) (h : 8 * j + 8 ≤ r.length) : (u8s r ++ rest).take (8 * j) ++ u8s ((z.drop 8).take 8) ++ (u8s r ++ rest).drop (8 * j + 8) = u8s (Wrp.p8 r j (z.drop 8)) ++ rest := by
  have e1 : (z.drop 8).take 8 = z.drop 8 := List.take_of_length_le (by rw [List.length_drop]; omega)
  rw [e1, Wrp.p8, List.take_append_of_le_length (by rw [u8s_len]; omega), List.drop_append_of_le_length (by rw [u8s_len]; omega), u8s_take, u8s_drop, u8s_app, u8s_app, List.append_assoc, List.append_assoc, List.append_assoc]

/-- What a round finds: the part ahead, the result's variable, the other parts' row. -/
structure Wq (w0 W : World) (gA gO gR : Nat) (a r : List UInt8) (rest : List Value) : Prop where
  a : Blk W gA 55 (u8s a)
  o : Blk W gO 55 zr8
  r : Blk W gR 5 (u8s r ++ rest)
  b : Below w0.heap.size w0 W
section
variable {w0 W W' : World} {gA gO gR : Nat} {a r : List UInt8} {rest : List Value}
theorem Wq.below (h : Wq w0 W gA gO gR a r rest) (hb : Below W.heap.size W W') : Wq w0 W' gA gO gR a r rest :=
  ⟨h.a.below hb h.a.lt, h.o.below hb h.o.lt, h.r.below hb h.r.lt, h.b.trans (hb.mono h.b.size)⟩
theorem Wq.setA (h : Wq w0 W gA gO gR a r rest) (a' : List UInt8) (hd : gO ≠ gA ∧ gR ≠ gA ∧ w0.heap.size ≤ gA) : Wq w0 (W.setRow gA (u8s a').toArray) gA gO gR a' r rest :=
  ⟨h.a.row _, h.o.rowFar hd.1 _, h.r.rowFar hd.2.1 _, below_setRow h.b hd.2.2 _⟩
theorem Wq.setR (h : Wq w0 W gA gO gR a r rest) (r' : List UInt8) (hd : gA ≠ gR ∧ gO ≠ gR ∧ w0.heap.size ≤ gR) : Wq w0 (W.setRow gR (u8s r' ++ rest).toArray) gA gO gR a r' rest :=
  ⟨h.a.rowFar hd.1 _, h.o.rowFar hd.2.1 _, h.r.row _, below_setRow h.b hd.2.2 _⟩
theorem Wq.setX (h : Wq w0 W gA gO gR a r rest) (g : Nat) (cs : Array Value) (hd : gA ≠ g ∧ gO ≠ g ∧ gR ≠ g ∧ w0.heap.size ≤ g) : Wq w0 (W.setRow g cs) gA gO gR a r rest :=
  ⟨h.a.rowFar hd.1 _, h.o.rowFar hd.2.1 _, h.r.rowFar hd.2.2.1 _, below_setRow h.b hd.2.2.2 _⟩
end

set_option maxHeartbeats 4000000 in
set_option maxRecDepth 100000 in
theorem forward_any (w : World) (gc : Nat) (key a b : List UInt8) (A : Option Addr) (n L bc : Nat) (hs : sizeOk key.length) (hRep : Rep w gc key) (ha : a.length = 8) (hL : L = b.length) (hn : L = 8 * n) (h1 : 1 ≤ n) (h32 : n ≤ 32) (hr : Rd w w.heap.size A b)
    (Z : List UInt8 × List UInt8) (hZ : Z = Wrp.fw key n (a, b) (6 * n)) :
    Calls Tryz.prog 26 #[.pointer (some ⟨gc, 0, none⟩), .agg (u8s a).toArray, .slice A L bc] w fun e w' => ∃ g cp rest, e = .returned (.tuple #[.agg (u8s Z.1).toArray, .slice (some ⟨g, 0, none⟩) L cp]) ∧ L ≤ cp ∧ Blk w' g 5 (u8s Z.2 ++ rest) ∧ Below w.heap.size w w' := by
  obtain ⟨g, hg⟩ : ∃ g, w.heap.size = g := ⟨_, rfl⟩
  have hA1 := Blk.new w 55 (u8s a)
  have hb1 := below_alloc w (.cells (u8s a).toArray 55)
  have hs1 : (w.alloc (.cells (u8s a).toArray 55)).heap.size = w.heap.size + 1 := World.size_alloc _ _
  obtain ⟨w1, hw1⟩ : ∃ w1, w.alloc (.cells (u8s a).toArray 55) = w1 := ⟨_, rfl⟩
  rw [hw1] at hA1 hb1 hs1
  have hA2 := hA1.alloc (.cells zr8.toArray 55)
  have hO2 := Blk.new w1 55 zr8
  have hb2 := hb1.alloc hb1.size (.cells zr8.toArray 55)
  have hs2 : (w1.alloc (.cells zr8.toArray 55)).heap.size = w1.heap.size + 1 := World.size_alloc _ _
  obtain ⟨w2, hw2⟩ : ∃ w2, w1.alloc (.cells zr8.toArray 55) = w2 := ⟨_, rfl⟩
  rw [hw2] at hA2 hO2 hb2 hs2
  have hcl := cloneW_any w2 A b L bc hL (by omega) (by omega) ((hr.below hb2).more hb2.size)
  have HCl := Lib.hid hcl
  have HW1 := Lib.hid hw1
  have HW2 := Lib.hid hw2
  have HA2 := Lib.hid hA2
  have HO2 := Lib.hid hO2
  have Hb2 := Lib.hid hb2
  have HSz : Hid (w.heap.size = g ∧ w1.heap.size = g + 1 ∧ w2.heap.size = g + 1 + 1) := Lib.hid (by omega)
  have HRep := Lib.hid hRep
  have HS := Lib.hid hs
  have HL := Lib.hid hL
  have HN := Lib.hid hn
  have Ha := Lib.hid ha
  have HZ := Lib.hid hZ
  clear hA1 hb1 hs1 hw1 hA2 hO2 hb2 hs2 hw2 hcl hRep hs hL hn ha hZ hr
  go_enter Tryz.func26, Tryz.ntmps26
  go_wp2_with (first | (refine wpList_box_arr rfl 55 (.tmp 1) (u8s a).toArray rfl rfl ?_; rw [HW1.out]) | (refine wpList_alloc_arr rfl 55 zr8.toArray rfl zeroR8 ?_; rw [HW2.out]) | fail)
  refine HCl.out.mono ?_
  rintro e w3 ⟨gR, cp, rest, rfl, hcp, hgR, hR3, hb3⟩
  have hz := HSz.out
  have hW3 : Wq w w3 g (g + 1) gR a b rest := ⟨by have := HA2.out.below hb3 HA2.out.lt; rw [hz.1] at this; exact this, by have := HO2.out.below hb3 HO2.out.lt; rw [hz.2.1] at this; exact this, hR3, Hb2.out.trans (hb3.mono Hb2.out.size)⟩
  have HW3 := Lib.hid hW3
  have HCp := Lib.hid hcp
  have HgR : Hid (g + 1 + 1 ≤ gR) := Lib.hid (by omega)
  have Hg := Lib.hid hz.1
  clear hg hW3 hcp hgR hR3 hb3 HSz HA2 HO2 Hb2 HW1 HW2 HCl
  have hq8 : wrap64 ((L : Int) / 8) = (n : Int) := by
    have := HN.out
    rw [wrap64]
    omega
  go_wp2
  rw [hq8]
  clear hq8 hz
  go_loopw [19] (fun i w' => ∃ k : Nat, k ≤ 6 ∧ i = .int .i64 (k : Int) ∧ Wq w w' g (g + 1) gR (Wrp.fw key n (a, b) (k * n)).1 (Wrp.fw key n (a, b) (k * n)).2 rest) (fun i _ => 6 - (intOf i).toNat)
  case atStart => exact ⟨0, by omega, rfl, by rw [Nat.zero_mul]; exact HW3.out⟩
  case round =>
    obtain ⟨k, hk, rfl, hW⟩ := hrel
    clear HW3
    have HW := Lib.hid hW
    clear hW
    by_cases hlt : k < 6
    · have hlt2 : (k : Int) < 6 := by omega
      have hkn : (k : Int) * (n : Int) = ((k * n : Nat) : Int) := (Int.natCast_mul k n).symm
      have hm : k * n ≤ 160 := by
        have := Nat.mul_le_mul (show k ≤ 5 by omega) h32
        omega
      have HKN : Hid (k * n + n = (k + 1) * n) := Lib.hid (by rw [Nat.add_mul, Nat.one_mul])
      have hmod : ∀ j, j < n → (k * n + j) % n = j := fun j h => by rw [Nat.mul_comm, Nat.mul_add_mod]; exact Nat.mod_eq_of_lt h
      have HMod := Lib.hid hmod
      clear hmod
      obtain ⟨m, hme⟩ : ∃ m, k * n = m := ⟨_, rfl⟩
      rw [hme] at HW hkn hm HKN HMod
      clear hme
      go_wp2
      go_loopw [23] (fun i w' => ∃ j : Nat, j ≤ n ∧ i = .int .i64 (j : Int) ∧ Wq w w' g (g + 1) gR (Wrp.fw key n (a, b) (m + j)).1 (Wrp.fw key n (a, b) (m + j)).2 rest) (fun i _ => n - (intOf i).toNat)
      case atStart => exact ⟨0, by omega, rfl, HW.out⟩
      case round =>
        obtain ⟨j, hj, rfl, hW⟩ := hrel
        clear HW
        by_cases hjn : j < n
        · have hok := Wrp.fw_ok (key := key) (n := n) (by omega) (s := (a, b)) ⟨Ha.out, by show b.length = _; rw [← HL.out, HN.out]⟩ (m + j)
          have hst : Wrp.fw key n (a, b) (m + (j + 1)) = Wrp.step key n (m + j) (Wrp.fw key n (a, b) (m + j)) := rfl
          rw [Wrp.step, HMod.out j hjn] at hst
          generalize Wrp.fw key n (a, b) (m + j) = st at hW hok hst
          obtain ⟨x, r⟩ := st
          obtain ⟨hx, hrl⟩ := hok
          simp only at hW hx hrl hst
          obtain ⟨y, hy⟩ : ∃ y, Wrp.b8 r j = y := ⟨_, rfl⟩
          have hyl : y.length = 8 := by rw [← hy]; exact Wrp.b8_len _ _ (by omega)
          obtain ⟨z, hz⟩ : ∃ z, encrypt key (x ++ y) = z := ⟨_, rfl⟩
          have hzl : z.length = 16 := by rw [← hz]; exact encrypt_len _ _
          rw [hy, hz] at hst
          have HST := Lib.hid hst
          have HX := Lib.hid hx
          have HRl := Lib.hid hrl
          have HY := Lib.hid hyl
          have HYE := Lib.hid hy
          have HZE := Lib.hid hz
          have HZl := Lib.hid hzl
          have HQ0 := Lib.hid hW
          have hj2 : (j : Int) < (n : Int) := by omega
          have hjL : (j : Int) * 8 + 8 ≤ (L : Int) := by have := HN.out; omega
          have hcp8 : (L : Int) ≤ (cp : Int) := by have := HCp.out; omega
          clear hst hx hrl hy hyl hz hzl hW
          go_wp2
          refine wp_region_G grows (by kernel_rfl) ?_
          have HQ1 := Lib.hid (HQ0.out.below (Below.refl _ wr).drew)
          clear HQ0
          generalize wr.drew = W1 at *
          have qa := load_arr_later (P := Tryz.prog) Tryz.und8 (by simpa using sizeA8 x HX.out) HQ1.out.a
          have qy : ∀ V : Later grows W1, (loadVar 55 ⟨gR, j * 8, none⟩).run Tryz.prog V.to = .ok (.agg (u8s y).toArray) V.to := fun V => load_at8 (HQ1.out.r.below V.grown HQ1.out.r.lt) HY.out (fun i v hv => by rw [Nat.mul_comm j 8]; exact part_get r rest j y HYE.out.symm (by have := HRl.out; omega) i v hv)
          have qp := fun V => run_arr8 gR (j * 8) (L - j * 8) (cp - j * 8) (by have := HN.out; omega) V
          refine segG (by kernel_rfl) (fun _ _ _ _ _ h => h) [0, 1, 2] [_, _, _] 6 rfl rfl (by kernel_rfl) ?_
          repeat (go_big_quiet_step (fail))
          refine wpQuiet_load_arr 55 (.tmp 4) rfl rfl (u8s x).toArray qa (by kernel_rfl) ?_
          simp only [Act.put, List.setIfInBounds_toArray, List.set]
          repeat (go_big_quiet_step (fail))
          refine wpQuiet_nil ?_
          refine firstG_arrayAt 55 (.tmp 32) (i := 3) (n := 5) (by kernel_rfl) (fun _ _ _ _ _ h => h) rfl rfl (by kernel_rfl) rfl rfl qp (by kernel_rfl) ?_
          simp only [Act.put, List.setIfInBounds_toArray, List.set]
          refine segG (by kernel_rfl) (fun _ _ _ _ _ h => h) [4] [_] 4 rfl rfl (by kernel_rfl) ?_
          refine wpQuiet_load_at 55 (.tmp 33) rfl rfl (u8s y).toArray qy (by kernel_rfl) ?_
          simp only [Act.put, List.setIfInBounds_toArray, List.set]
          refine wpQuiet_nil ?_
          clear qa qy qp
          refine twoG 5 7 3 rfl (by kernel_rfl) rfl rfl ?_ ?_
          · skip
            go_wp2_with fail
            refine (joinedW_any W1 x y _ _ rfl rfl HX.out HY.out).mono ?_
            rintro e W2 ⟨rfl, hb⟩
            have HQ2 := Lib.hid (HQ1.out.below hb)
            clear HQ1
            go_wp2
            refine ⟨hb, ?_⟩
            clear hb
            refine twoG 6 7 2 rfl (by kernel_rfl) rfl rfl ?_ ?_
            · skip
              go_wp2_with fail
              refine (aesOK.enc W2 gc key (x ++ y) HS.out (aesOK.stay HRep.out (by have := HQ2.out.b; exact this)) (by rw [List.length_append, HX.out, HY.out])).mono ?_
              rintro e W3 ⟨rfl, hb⟩
              rw [HZE.out]
              have HQ3 := Lib.hid (HQ2.out.below hb)
              clear HQ2
              go_wp2
              refine ⟨hb, ?_⟩
              clear hb
              refine oneG 7 1 rfl (by kernel_rfl) rfl ?_
              go_wp2_with (refine wpList_alloc_arr rfl 32 zr16.toArray rfl zeroR16 ?_)
              refine ⟨below_alloc W3 _, ?_⟩
              have HB4 := Lib.hid (Blk.new W3 32 zr16)
              have HQ4 := Lib.hid (HQ3.out.below (below_alloc W3 (.cells zr16.toArray 32)))
              obtain ⟨gX, hgX⟩ : ∃ gX, W3.heap.size = gX := ⟨_, rfl⟩
              have HGX : Hid (g < gX ∧ g + 1 < gX ∧ gR < gX) := Lib.hid (by have h1 := HQ3.out.a.lt; have h2 := HQ3.out.o.lt; have h3 := HQ3.out.r.lt; rw [hgX] at h1 h2 h3; exact ⟨h1, h2, h3⟩)
              rw [hgX] at HB4 ⊢
              clear HQ3 hgX
              generalize W3.alloc (.cells zr16.toArray 32) = W4 at *
              simp only [Act.put, List.setIfInBounds_toArray, List.set]
              refine lateG 8 0 rfl (by kernel_rfl) (by kernel_rfl) rfl ?_
              have HSz := Lib.hid (sizeA16 z HZl.out)
              have HLn : Hid (zr16.length = (u8s z).length) := Lib.hid (by rw [u8s_len, HZl.out]; rfl)
              have HQ5 := Lib.hid (HQ4.out.setX gX (u8s z).toArray ⟨by have := HGX.out; omega, by have := HGX.out; omega, by have := HGX.out; omega, by have := HGX.out; have := Hg.out; omega⟩)
              have HB5 := Lib.hid (HB4.out.row (u8s z))
              obtain ⟨W5, hW5⟩ : ∃ W5, W4.setRow gX (u8s z).toArray = W5 := ⟨_, rfl⟩
              rw [hW5] at HQ5 HB5
              have HW5 := Lib.hid hW5
              clear hW5 HQ4
              go_wp2_with (refine wpList_store_arr rfl 32 (.tmp 13) (.tmp 36) gX zr16 (u8s z) rfl rfl rfl rfl HB4.out HSz.out HLn.out (u8s_one _) ?_; rw [HW5.out])
              refine ⟨trivial, ?_⟩
              refine wpAnyG_done (by kernel_rfl) ?_
              clear HW5 HB4 HSz HLn
              have hld := load_at8 (o := 0) HB5.out (x := z.take 8) (Wrp.half1 z HZl.out) (fun i v hv => by
                have h1 : (u8s (z.take 8))[i]? = some v := hv
                rw [← u8s_take, List.getElem?_take] at h1
                split at h1
                · rw [Nat.zero_add]; exact h1
                · cases h1)
              have hat := run_arr8 gX 0 8 16 (by omega) W5
              have HH := Lib.hid (Wrp.half1 z HZl.out)
              generalize z.take 8 = zh at *
              go_wp2_with (first | refine wpList_arrayAt 55 (.tmp 37) rfl rfl hat (by kernel_rfl) ?_ | refine wpList_load_at 55 (.tmp 38) rfl rfl (u8s zh).toArray hld (by kernel_rfl) ?_ | fail)
              refine (counted_any W5 zh _ (m + j + 1) _ rfl (by omega) HH.out (by omega)).mono ?_
              rintro e W6 ⟨rfl, hb⟩
              have HQ6 := Lib.hid (HQ5.out.below hb)
              have HB6 := Lib.hid (HB5.out.below hb HB5.out.lt)
              have hdd : g + 1 ≠ g ∧ gR ≠ g ∧ w.heap.size ≤ g := ⟨by omega, by have := HgR.out; omega, by have := Hg.out; omega⟩
              have hQ7 := HQ6.out.setA (Wrp.xt zh (m + j + 1)) hdd
              have hB7 := HB6.out.rowFar (g' := g) (by have := HGX.out; omega) (u8s (Wrp.xt zh (m + j + 1))).toArray
              obtain ⟨X, hX⟩ : ∃ X, Wrp.xt zh (m + j + 1) = X := ⟨_, rfl⟩
              have hXl : X.length = 8 := by rw [← hX, Wrp.xt_len]; exact HH.out
              rw [hX] at hQ7 hB7 ⊢
              have HSz := Lib.hid (sizeA8 X hXl)
              have HLn : Hid ((u8s x).length = (u8s X).length) := Lib.hid (by rw [u8s_len, u8s_len, HX.out, hXl])
              obtain ⟨W7, hW7⟩ : ∃ W7, W6.setRow g (u8s X).toArray = W7 := ⟨_, rfl⟩
              rw [hW7] at hQ7 hB7
              have HW7 := Lib.hid hW7
              have hcp7 := run_copy_seg (P := Tryz.prog) (w := W7) 23 23 3 5 Tryz.und22 Tryz.size5 gR (j * 8) (L - j * 8) (cp - j * 8) 8 8 gX 8 (z.drop 8) 8 (fun i c hi => by
                rw [hB7.cell, u8s_get]
                rw [List.getElem?_drop] at hi
                rw [hi]; rfl) (Wrp.half2 z HZl.out).symm (by rw [Wrp.half2 z HZl.out]; have := HN.out; omega) _ _ hQ7.r (by have h1 := HRl.out; have h2 := HN.out; rw [List.length_append, u8s_len]; omega)
              have hE : (u8s r ++ rest).take (j * 8) ++ u8s ((z.drop 8).take 8) ++ (u8s r ++ rest).drop (j * 8 + 8) = u8s (Wrp.p8 r j (z.drop 8)) ++ rest := by
                rw [Nat.mul_comm j 8]
                exact part_put r z rest j HZl.out (by have := HRl.out; omega)
              rw [hE] at hcp7
              have HQ8 := Lib.hid (hQ7.setR (Wrp.p8 r j (z.drop 8)) ⟨by have := HgR.out; omega, by have := HgR.out; omega, by have := HgR.out; have := Hg.out; omega⟩)
              have HE : Hid (Wrp.fw key n (a, b) (m + (j + 1)) = (X, Wrp.p8 r j (z.drop 8))) := Lib.hid (by rw [HST.out, hX])
              clear hb hdd hQ7 hB7 hX hXl hW7 hE hld hat HQ5 HB5 HB6
              go_wp2_with (first | (refine wpList_store_arr rfl 55 (.tmp 4) (.tmp 46) g (u8s x) (u8s X) rfl rfl rfl rfl HQ6.out.a HSz.out HLn.out (u8s_one _) ?_; rw [HW7.out]) | refine wpList_copy_runW rfl (.tmp 47) (.tmp 48) _ rfl rfl rfl hcp7 ?_ | fail)
              refine ⟨⟨j + 1, by omega, by go_num, ?_⟩, by simp [intOf]; omega⟩
              rw [HE.out]
              exact HQ8.out
            · skip
              go_wp2_with (refine wpList_alloc_arr rfl 32 zr16.toArray rfl zeroR16 ?_)
              refine ⟨below_alloc W2 _, ?_⟩
              have HB3 := Lib.hid (Blk.new W2 32 zr16)
              have HQ3 := Lib.hid (HQ2.out.below (below_alloc W2 (.cells zr16.toArray 32)))
              obtain ⟨gX, hgX⟩ : ∃ gX, W2.heap.size = gX := ⟨_, rfl⟩
              have HGX : Hid (g < gX ∧ g + 1 < gX ∧ gR < gX) := Lib.hid (by have h1 := HQ2.out.a.lt; have h2 := HQ2.out.o.lt; have h3 := HQ2.out.r.lt; rw [hgX] at h1 h2 h3; exact ⟨h1, h2, h3⟩)
              rw [hgX] at HB3 ⊢
              clear HQ2 hgX
              generalize W2.alloc (.cells zr16.toArray 32) = W3 at *
              simp only [Act.put, List.setIfInBounds_toArray, List.set]
              refine oneG 6 1 rfl (by kernel_rfl) rfl ?_
              go_wp2_with fail
              refine (aesOK.enc W3 gc key (x ++ y) HS.out (aesOK.stay HRep.out (by have := HQ3.out.b; exact this)) (by rw [List.length_append, HX.out, HY.out])).mono ?_
              rintro e W4 ⟨rfl, hb⟩
              rw [HZE.out]
              have HQ4 := Lib.hid (HQ3.out.below hb)
              have HB4 := Lib.hid (HB3.out.below hb HB3.out.lt)
              clear HQ3
              clear HB3
              go_wp2
              refine ⟨hb, ?_⟩
              clear hb
              refine lateG 8 0 rfl (by kernel_rfl) (by kernel_rfl) rfl ?_
              have HSz := Lib.hid (sizeA16 z HZl.out)
              have HLn : Hid (zr16.length = (u8s z).length) := Lib.hid (by rw [u8s_len, HZl.out]; rfl)
              have HQ5 := Lib.hid (HQ4.out.setX gX (u8s z).toArray ⟨by have := HGX.out; omega, by have := HGX.out; omega, by have := HGX.out; omega, by have := HGX.out; have := Hg.out; omega⟩)
              have HB5 := Lib.hid (HB4.out.row (u8s z))
              obtain ⟨W5, hW5⟩ : ∃ W5, W4.setRow gX (u8s z).toArray = W5 := ⟨_, rfl⟩
              rw [hW5] at HQ5 HB5
              have HW5 := Lib.hid hW5
              clear hW5 HQ4
              go_wp2_with (refine wpList_store_arr rfl 32 (.tmp 13) (.tmp 36) gX zr16 (u8s z) rfl rfl rfl rfl HB4.out HSz.out HLn.out (u8s_one _) ?_; rw [HW5.out])
              refine ⟨trivial, ?_⟩
              refine wpAnyG_done (by kernel_rfl) ?_
              clear HW5 HB4 HSz HLn
              have hld := load_at8 (o := 0) HB5.out (x := z.take 8) (Wrp.half1 z HZl.out) (fun i v hv => by
                have h1 : (u8s (z.take 8))[i]? = some v := hv
                rw [← u8s_take, List.getElem?_take] at h1
                split at h1
                · rw [Nat.zero_add]; exact h1
                · cases h1)
              have hat := run_arr8 gX 0 8 16 (by omega) W5
              have HH := Lib.hid (Wrp.half1 z HZl.out)
              generalize z.take 8 = zh at *
              go_wp2_with (first | refine wpList_arrayAt 55 (.tmp 37) rfl rfl hat (by kernel_rfl) ?_ | refine wpList_load_at 55 (.tmp 38) rfl rfl (u8s zh).toArray hld (by kernel_rfl) ?_ | fail)
              refine (counted_any W5 zh _ (m + j + 1) _ rfl (by omega) HH.out (by omega)).mono ?_
              rintro e W6 ⟨rfl, hb⟩
              have HQ6 := Lib.hid (HQ5.out.below hb)
              have HB6 := Lib.hid (HB5.out.below hb HB5.out.lt)
              have hdd : g + 1 ≠ g ∧ gR ≠ g ∧ w.heap.size ≤ g := ⟨by omega, by have := HgR.out; omega, by have := Hg.out; omega⟩
              have hQ7 := HQ6.out.setA (Wrp.xt zh (m + j + 1)) hdd
              have hB7 := HB6.out.rowFar (g' := g) (by have := HGX.out; omega) (u8s (Wrp.xt zh (m + j + 1))).toArray
              obtain ⟨X, hX⟩ : ∃ X, Wrp.xt zh (m + j + 1) = X := ⟨_, rfl⟩
              have hXl : X.length = 8 := by rw [← hX, Wrp.xt_len]; exact HH.out
              rw [hX] at hQ7 hB7 ⊢
              have HSz := Lib.hid (sizeA8 X hXl)
              have HLn : Hid ((u8s x).length = (u8s X).length) := Lib.hid (by rw [u8s_len, u8s_len, HX.out, hXl])
              obtain ⟨W7, hW7⟩ : ∃ W7, W6.setRow g (u8s X).toArray = W7 := ⟨_, rfl⟩
              rw [hW7] at hQ7 hB7
              have HW7 := Lib.hid hW7
              have hcp7 := run_copy_seg (P := Tryz.prog) (w := W7) 23 23 3 5 Tryz.und22 Tryz.size5 gR (j * 8) (L - j * 8) (cp - j * 8) 8 8 gX 8 (z.drop 8) 8 (fun i c hi => by
                rw [hB7.cell, u8s_get]
                rw [List.getElem?_drop] at hi
                rw [hi]; rfl) (Wrp.half2 z HZl.out).symm (by rw [Wrp.half2 z HZl.out]; have := HN.out; omega) _ _ hQ7.r (by have h1 := HRl.out; have h2 := HN.out; rw [List.length_append, u8s_len]; omega)
              have hE : (u8s r ++ rest).take (j * 8) ++ u8s ((z.drop 8).take 8) ++ (u8s r ++ rest).drop (j * 8 + 8) = u8s (Wrp.p8 r j (z.drop 8)) ++ rest := by
                rw [Nat.mul_comm j 8]
                exact part_put r z rest j HZl.out (by have := HRl.out; omega)
              rw [hE] at hcp7
              have HQ8 := Lib.hid (hQ7.setR (Wrp.p8 r j (z.drop 8)) ⟨by have := HgR.out; omega, by have := HgR.out; omega, by have := HgR.out; have := Hg.out; omega⟩)
              have HE : Hid (Wrp.fw key n (a, b) (m + (j + 1)) = (X, Wrp.p8 r j (z.drop 8))) := Lib.hid (by rw [HST.out, hX])
              clear hb hdd hQ7 hB7 hX hXl hW7 hE hld hat HQ5 HB5 HB6
              go_wp2_with (first | (refine wpList_store_arr rfl 55 (.tmp 4) (.tmp 46) g (u8s x) (u8s X) rfl rfl rfl rfl HQ6.out.a HSz.out HLn.out (u8s_one _) ?_; rw [HW7.out]) | refine wpList_copy_runW rfl (.tmp 47) (.tmp 48) _ rfl rfl rfl hcp7 ?_ | fail)
              refine ⟨⟨j + 1, by omega, by go_num, ?_⟩, by simp [intOf]; omega⟩
              rw [HE.out]
              exact HQ8.out
          · skip
            go_wp2_with (refine wpList_alloc_arr rfl 32 zr16.toArray rfl zeroR16 ?_)
            refine ⟨below_alloc W1 _, ?_⟩
            have HB2 := Lib.hid (Blk.new W1 32 zr16)
            have HQ2 := Lib.hid (HQ1.out.below (below_alloc W1 (.cells zr16.toArray 32)))
            obtain ⟨gX, hgX⟩ : ∃ gX, W1.heap.size = gX := ⟨_, rfl⟩
            have HGX : Hid (g < gX ∧ g + 1 < gX ∧ gR < gX) := Lib.hid (by have h1 := HQ1.out.a.lt; have h2 := HQ1.out.o.lt; have h3 := HQ1.out.r.lt; rw [hgX] at h1 h2 h3; exact ⟨h1, h2, h3⟩)
            rw [hgX] at HB2 ⊢
            clear HQ1 hgX
            generalize W1.alloc (.cells zr16.toArray 32) = W2 at *
            simp only [Act.put, List.setIfInBounds_toArray, List.set]
            refine oneG 5 2 rfl (by kernel_rfl) rfl ?_
            go_wp2_with fail
            refine (joinedW_any W2 x y _ _ rfl rfl HX.out HY.out).mono ?_
            rintro e W3 ⟨rfl, hb⟩
            have HQ3 := Lib.hid (HQ2.out.below hb)
            have HB3 := Lib.hid (HB2.out.below hb HB2.out.lt)
            clear HQ2
            clear HB2
            go_wp2
            refine ⟨hb, ?_⟩
            clear hb
            refine oneG 6 1 rfl (by kernel_rfl) rfl ?_
            go_wp2_with fail
            refine (aesOK.enc W3 gc key (x ++ y) HS.out (aesOK.stay HRep.out (by have := HQ3.out.b; exact this)) (by rw [List.length_append, HX.out, HY.out])).mono ?_
            rintro e W4 ⟨rfl, hb⟩
            rw [HZE.out]
            have HQ4 := Lib.hid (HQ3.out.below hb)
            have HB4 := Lib.hid (HB3.out.below hb HB3.out.lt)
            clear HQ3
            clear HB3
            go_wp2
            refine ⟨hb, ?_⟩
            clear hb
            refine lateG 8 0 rfl (by kernel_rfl) (by kernel_rfl) rfl ?_
            have HSz := Lib.hid (sizeA16 z HZl.out)
            have HLn : Hid (zr16.length = (u8s z).length) := Lib.hid (by rw [u8s_len, HZl.out]; rfl)
            have HQ5 := Lib.hid (HQ4.out.setX gX (u8s z).toArray ⟨by have := HGX.out; omega, by have := HGX.out; omega, by have := HGX.out; omega, by have := HGX.out; have := Hg.out; omega⟩)
            have HB5 := Lib.hid (HB4.out.row (u8s z))
            obtain ⟨W5, hW5⟩ : ∃ W5, W4.setRow gX (u8s z).toArray = W5 := ⟨_, rfl⟩
            rw [hW5] at HQ5 HB5
            have HW5 := Lib.hid hW5
            clear hW5 HQ4
            go_wp2_with (refine wpList_store_arr rfl 32 (.tmp 13) (.tmp 36) gX zr16 (u8s z) rfl rfl rfl rfl HB4.out HSz.out HLn.out (u8s_one _) ?_; rw [HW5.out])
            refine ⟨trivial, ?_⟩
            refine wpAnyG_done (by kernel_rfl) ?_
            clear HW5 HB4 HSz HLn
            have hld := load_at8 (o := 0) HB5.out (x := z.take 8) (Wrp.half1 z HZl.out) (fun i v hv => by
              have h1 : (u8s (z.take 8))[i]? = some v := hv
              rw [← u8s_take, List.getElem?_take] at h1
              split at h1
              · rw [Nat.zero_add]; exact h1
              · cases h1)
            have hat := run_arr8 gX 0 8 16 (by omega) W5
            have HH := Lib.hid (Wrp.half1 z HZl.out)
            generalize z.take 8 = zh at *
            go_wp2_with (first | refine wpList_arrayAt 55 (.tmp 37) rfl rfl hat (by kernel_rfl) ?_ | refine wpList_load_at 55 (.tmp 38) rfl rfl (u8s zh).toArray hld (by kernel_rfl) ?_ | fail)
            refine (counted_any W5 zh _ (m + j + 1) _ rfl (by omega) HH.out (by omega)).mono ?_
            rintro e W6 ⟨rfl, hb⟩
            have HQ6 := Lib.hid (HQ5.out.below hb)
            have HB6 := Lib.hid (HB5.out.below hb HB5.out.lt)
            have hdd : g + 1 ≠ g ∧ gR ≠ g ∧ w.heap.size ≤ g := ⟨by omega, by have := HgR.out; omega, by have := Hg.out; omega⟩
            have hQ7 := HQ6.out.setA (Wrp.xt zh (m + j + 1)) hdd
            have hB7 := HB6.out.rowFar (g' := g) (by have := HGX.out; omega) (u8s (Wrp.xt zh (m + j + 1))).toArray
            obtain ⟨X, hX⟩ : ∃ X, Wrp.xt zh (m + j + 1) = X := ⟨_, rfl⟩
            have hXl : X.length = 8 := by rw [← hX, Wrp.xt_len]; exact HH.out
            rw [hX] at hQ7 hB7 ⊢
            have HSz := Lib.hid (sizeA8 X hXl)
            have HLn : Hid ((u8s x).length = (u8s X).length) := Lib.hid (by rw [u8s_len, u8s_len, HX.out, hXl])
            obtain ⟨W7, hW7⟩ : ∃ W7, W6.setRow g (u8s X).toArray = W7 := ⟨_, rfl⟩
            rw [hW7] at hQ7 hB7
            have HW7 := Lib.hid hW7
            have hcp7 := run_copy_seg (P := Tryz.prog) (w := W7) 23 23 3 5 Tryz.und22 Tryz.size5 gR (j * 8) (L - j * 8) (cp - j * 8) 8 8 gX 8 (z.drop 8) 8 (fun i c hi => by
              rw [hB7.cell, u8s_get]
              rw [List.getElem?_drop] at hi
              rw [hi]; rfl) (Wrp.half2 z HZl.out).symm (by rw [Wrp.half2 z HZl.out]; have := HN.out; omega) _ _ hQ7.r (by have h1 := HRl.out; have h2 := HN.out; rw [List.length_append, u8s_len]; omega)
            have hE : (u8s r ++ rest).take (j * 8) ++ u8s ((z.drop 8).take 8) ++ (u8s r ++ rest).drop (j * 8 + 8) = u8s (Wrp.p8 r j (z.drop 8)) ++ rest := by
              rw [Nat.mul_comm j 8]
              exact part_put r z rest j HZl.out (by have := HRl.out; omega)
            rw [hE] at hcp7
            have HQ8 := Lib.hid (hQ7.setR (Wrp.p8 r j (z.drop 8)) ⟨by have := HgR.out; omega, by have := HgR.out; omega, by have := HgR.out; have := Hg.out; omega⟩)
            have HE : Hid (Wrp.fw key n (a, b) (m + (j + 1)) = (X, Wrp.p8 r j (z.drop 8))) := Lib.hid (by rw [HST.out, hX])
            clear hb hdd hQ7 hB7 hX hXl hW7 hE hld hat HQ5 HB5 HB6
            go_wp2_with (first | (refine wpList_store_arr rfl 55 (.tmp 4) (.tmp 46) g (u8s x) (u8s X) rfl rfl rfl rfl HQ6.out.a HSz.out HLn.out (u8s_one _) ?_; rw [HW7.out]) | refine wpList_copy_runW rfl (.tmp 47) (.tmp 48) _ rfl rfl rfl hcp7 ?_ | fail)
            refine ⟨⟨j + 1, by omega, by go_num, ?_⟩, by simp [intOf]; omega⟩
            rw [HE.out]
            exact HQ8.out
        · obtain rfl : j = n := by omega
          have HQ := Lib.hid hW
          have HE := Lib.hid HKN.out
          clear hW
          go_wp2
          exact ⟨⟨k + 1, by omega, by go_num, by rw [← HE.out]; exact HQ.out⟩, by simp [intOf]; omega⟩
    · obtain rfl : k = 6 := by omega
      rw [← HZ.out] at HW
      have hZl : Wrp.Ok n Z := by rw [HZ.out]; exact Wrp.fw_ok (by omega) ⟨Ha.out, by show b.length = _; rw [← HL.out, HN.out]⟩ _
      have HSz := Lib.hid (sizeA8 Z.1 hZl.1)
      have HLn : Hid (zr8.length = (u8s Z.1).length) := Lib.hid (by rw [u8s_len, hZl.1]; rfl)
      have hld := run_loadVar_row (P := Tryz.prog) wr g 55 55 (u8s Z.1).toArray (0, 0) _ HW.out.a Tryz.und8 rfl (by simpa using HSz.out)
      have hbk := run_loadVar_row (P := Tryz.prog) _ (g + 1) 55 55 (u8s Z.1).toArray (0, 0) _ (HW.out.o.row (u8s Z.1)) Tryz.und8 rfl (by simpa using HSz.out)
      have HR := Lib.hid (HW.out.r.rowFar (g' := g + 1) (by have := HgR.out; omega) (u8s Z.1).toArray)
      have Hb := Lib.hid (below_setRow HW.out.b (by have := Hg.out; omega : w.heap.size ≤ g + 1) (u8s Z.1).toArray)
      have HOe := Lib.hid (u8s_one Z.1)
      clear hZl
      go_wp2_with (first | refine wpList_load_arr_w 55 (.tmp 4) rfl rfl (u8s Z.1).toArray hld (by kernel_rfl) ?_ | refine wpList_store_arr rfl 55 (.tmp 6) (.tmp 52) (g + 1) _ _ rfl rfl rfl rfl HW.out.o HSz.out HLn.out HOe.out ?_)
      try simp only [Act.put, List.setIfInBounds_toArray, List.set]
      refine bodyPost_ret (v := .tuple #[.agg (u8s Z.1).toArray, .slice (some ⟨gR, 0, none⟩) L cp]) ?_ rfl ⟨gR, cp, rest, rfl, HCp.out, HR.out, Hb.out⟩
      generalize (u8s Z.1).toArray = X at hbk ⊢
      simp [results, Tryz.results26, asAddr, hbk]
end Go.Proofs.YtdipflchmooakaaGreatDoor
