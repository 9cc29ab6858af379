/-
  The reference of layer 9: Drawn, Keys, IV: contracts.
-/
import Derived.Test.YtpaagjhohfjopaaDoorDrawC
import Derived.Test.YtpaagjhohfjopaaDoorRefI
import Derived.Test.YtpaagjhohfjopaaDoorShaRefO
import Derived.Test.YtpaagjhohfjopaaDoorApp2
import Derived.Test.YtpaagjhohfjopaaDoorReg3
import Derived.RegionTactic
import Derived.BigRegion
set_option maxRecDepth 100000
namespace Go.Proofs.YtpaagjhohfjopaaDoor
open Go.RowKit Go.Gar

/-- The reference's sums, as a value. -/
def SumsV (w : World) (x : Array Value) : Prop := ∃ AK AH cK cH, x = #[.slice AK 64 cK, .slice AH 8 cH] ∧ RdV w w.heap.size AK (u32s Sha.kL) ∧ RdV w w.heap.size AH (u32s Sha.hL)
theorem SumsV.below {w w' : World} {x : Array Value} (h : SumsV w x) (hb : Below w.heap.size w w') : SumsV w' x := by
  obtain ⟨AK, AH, cK, cH, h1, h2, h3⟩ := h
  exact ⟨AK, AH, cK, cH, h1, (h2.below hb).more hb.size, (h3.below hb).more hb.size⟩
theorem SumsV.size {w : World} {x : Array Value} (h : SumsV w x) : x.size = 2 := by
  obtain ⟨AK, AH, cK, cH, rfl, _⟩ := h
  rfl
theorem Tryd.undSumsS : Tryd.prog.underlying 25 = some (.struct (Tryd.prog.fieldsOf 25)) := by kernel_rfl
theorem Tryd.sizeSums : (Tryd.prog.info? 25).map (·.size) = some 2 := by kernel_rfl
theorem load_sums {G : Growth} {w : World} {g : Nat} {x : Array Value} (hsz : x.size = 2) (h : ∀ W : Later G w, Blk W.to g 25 x.toList) :
    ∀ W : Later G w, (Instr.loadAt 25 (.pointer (some ⟨g, 0, none⟩))).run Tryd.prog W.to = .ok (.agg x) W.to := by
  intro W
  have h1 := h W
  have := run_loadVar_row (P := Tryd.prog) W.to g 25 25 x (0, 0) _ (by have h2 := h1; unfold Blk at h2; rw [Array.toArray_toList] at h2; exact h2) Tryd.undSumsS rfl (by rw [hsz]; exact Tryd.sizeSums)
  simp only [Instr.loadAt, Instr.sureAddr, Sem.run_bind, Sem.run_pure, Result.andThen]
  exact this
theorem refSum_at (w : World) (x : Array Value) (hx : SumsV w x) (A : Option Addr) (l : List UInt8) (n c : Nat) (hn : n = l.length) (hr : Rd w w.heap.size A l) (hl : l.length ≤ 1048576) :
    Calls Tryd.prog 24 #[.agg x, .slice A n c] w fun e w' => ∃ v, e = .returned v ∧ OwnB w' w.heap.size 5 v (Sha.of l) ∧ Below w.heap.size w w' := by
  obtain ⟨AK, AH, cK, cH, rfl, h2, h3⟩ := hx
  exact refOf5_any w AK AH cK cH A l n c h2 h3 hn hr hl
theorem refIntO_at (A : Option Addr) (l : List UInt8) (m c : Nat) (n : Int) (w : World) (hm : m = l.length) (hr : Rd w w.heap.size A l) (hl : l.length ≤ 1000000000) :
    Calls Tryd.prog 25 #[.slice A m c, .int .i64 n] w fun e w' => ∃ v, e = .returned v ∧ OwnB w' w.heap.size 5 v (l ++ be (b64 n) 8) ∧ Below w.heap.size w w' := by
  subst hm
  exact refIntO_any A l c n w hr hl

set_option maxHeartbeats 2000000 in
theorem refDrawn_any (w : World) (x : Array Value) (hx : SumsV w x) (what : UInt8) (wz : Int) (hwz : wz = (what.toNat : Int)) (id gen : Int) (A : Option Addr) (d : List UInt8) (n c : Nat) (hn : n = d.length) (hr : Rd w w.heap.size A d) (hl : d.length ≤ 1000000) (O : List UInt8) (hO : O = drawn what id gen d) :
    Calls Tryd.prog 18 #[.agg x, .int .u8 wz, .int .i64 id, .int .i64 gen, .slice A n c] w fun e w' => ∃ v, e = .returned v ∧ OwnB w' w.heap.size 5 v O ∧ Below w.heap.size w w' := by
  have hS0 : Blk (w.alloc (.cells x 25)) w.heap.size 25 x.toList := by
    have := Blk.new w 25 x.toList
    rw [Array.toArray_toList] at this
    exact this
  have hb0 := below_alloc w (.cells x 25)
  obtain ⟨w0, hw0⟩ : ∃ w0, w.alloc (.cells x 25) = w0 := ⟨_, rfl⟩
  rw [hw0] at hS0 hb0
  have HW0 := Lib.hid hw0
  have HS0 := Lib.hid hS0
  have Hb0 := Lib.hid hb0
  have HX := Lib.hid hx
  have HN := Lib.hid hn
  have HR := Lib.hid hr
  have HL := Lib.hid hl
  have HO := Lib.hid hO
  have HWZ := Lib.hid hwz
  clear hw0 hS0 hb0 hx hn hr hl hO hwz
  go_enter Tryd.func18, Tryd.ntmps18
  go_wp2_with fail
  rw [HW0.out]
  refine wp_region_G (belowG w0.heap.size) (by kernel_rfl) ?_
  have hsz0 : w0.drew.heap.size = w0.heap.size := rfl
  have hlt0 := HS0.out.lt
  have HS1 := Lib.hid HS0.out.drew
  have Hb1 := Lib.hid Hb0.out.drew
  clear HS0 Hb0 HW0
  obtain ⟨B, hB⟩ : ∃ B, w0.heap.size = B := ⟨_, rfl⟩
  rw [hB] at hsz0 hlt0 ⊢
  have HSz := Lib.hid hsz0
  have HLt := Lib.hid hlt0
  clear hsz0 hlt0 hB
  generalize w0.drew = W1 at *
  have hld := load_sums (G := belowG B) (w := W1) HX.out.size (fun V => HS1.out.below (show Below B W1 V.to from V.grown) HLt.out)
  refine segG (by kernel_rfl) (fun _ _ _ _ _ h => h) [0, 1, 3, 5, 7] [_, _, _, _, _] 6 rfl rfl (by kernel_rfl) ?_
  refine wpQuiet_load_arr 25 (.tmp 5) rfl rfl x hld (by kernel_rfl) ?_
  simp only [Act.put, List.setIfInBounds_toArray, List.set]
  repeat (go_big_quiet_step (fail))
  refine wpQuiet_nil ?_
  clear hld
  -- the kind's row
  have hK2 : Blk (W1.alloc (.cells #[.int .u8 wz] 5)) W1.heap.size 5 (u8s [what]) := by
    have := Blk.new W1 5 (u8s [what])
    rw [show (u8s [what]).toArray = #[.int .u8 wz] from by rw [HWZ.out]; rfl] at this
    exact this
  have hb2 : Below B W1 (W1.alloc (.cells #[.int .u8 wz] 5)) := (below_alloc W1 _).mono (by rw [HSz.out]; exact Nat.le_refl _)
  have HK2 := Lib.hid hK2
  have Hb2 := Lib.hid hb2
  have Hbw2 := Lib.hid (Hb1.out.trans (hb2.mono (Nat.le_of_lt HLt.out)))
  have HLe2 : Hid (B ≤ (W1.alloc (.cells #[.int .u8 wz] 5)).heap.size) := Lib.hid (by have := hb2.size; rw [HSz.out] at this; exact this)
  clear hK2 hb2
  refine oneG 2 5 rfl (by kernel_rfl) rfl ?_
  go_wp2
  refine ⟨Hb2.out, ?_⟩
  generalize W1.alloc (.cells #[.int .u8 wz] 5) = W2 at *
  refine oneG 4 4 rfl (by kernel_rfl) rfl ?_
  go_wp2_with fail
  refine (refIntO_at _ [what] 1 1 id W2 rfl (Rd.of_all HK2.out) (by simp)).mono ?_
  rintro e W3 ⟨v3, rfl, hO3, hb3⟩
  obtain ⟨A3, c3, rfl, hr3⟩ := hO3.rd
  rw [show ([what] ++ be (b64 id) 8).length = 9 from by rw [List.length_append, be_len]; rfl]
  have HR3 := Lib.hid hr3
  have Hb3 := Lib.hid (hb3.mono HLe2.out)
  have HLe3 : Hid (B ≤ W3.heap.size) := Lib.hid (Nat.le_trans HLe2.out hb3.size)
  have Hbw3 := Lib.hid (Hbw2.out.trans (hb3.mono Hbw2.out.size))
  clear hO3 hb3 hr3
  go_wp2
  refine ⟨Hb3.out, ?_⟩
  refine oneG 6 3 rfl (by kernel_rfl) rfl ?_
  go_wp2_with fail
  refine (refIntO_at A3 ([what] ++ be (b64 id) 8) 9 c3 gen W3 (by rw [List.length_append, be_len]; rfl) HR3.out (by rw [List.length_append, be_len]; simp)).mono ?_
  rintro e W4 ⟨v4, rfl, hO4, hb4⟩
  have hbw4 := Hbw3.out.trans (hb4.mono Hbw3.out.size)
  obtain ⟨v5, W5, e5, hO5, hb5, _⟩ := app_rd (P := Tryd.prog) 22 22 Tryd.und22 Tryd.info5 hO4 hb4.size c ((HR.out.below hbw4).below (Below.refl _ W4)) (by have := HL.out; simp only [List.length_append, be_len, List.length_singleton]; omega)
  rw [← HN.out] at e5
  have HLe4 : Hid (B ≤ W4.heap.size) := Lib.hid (Nat.le_trans HLe3.out hb4.size)
  have hpre : [what] ++ be (b64 id) 8 ++ be (b64 gen) 8 ++ d = drawPre what id gen d := by simp [drawPre]
  rw [hpre] at hO5
  obtain ⟨A5, c5, rfl, hr5⟩ := hO5.rd
  have He5 := Lib.hid e5
  have HR5 := Lib.hid hr5
  have Hb4 := Lib.hid (hb4.mono HLe3.out)
  have Hb5 := Lib.hid (hb5.mono HLe3.out)
  have Hbw5 := Lib.hid (hbw4.trans (hb5.mono Hbw3.out.size))
  have HP : Hid ((drawPre what id gen d).length = 17 + n) := Lib.hid (by rw [drawPre_len, HN.out])
  rw [HP.out] at He5
  clear e5 hO4 hO5 hb4 hb5 hbw4 hr5 hpre
  go_wp2
  refine ⟨Hb4.out, ?_⟩
  refine oneG 8 2 rfl (by kernel_rfl) rfl ?_
  go_wp2_with (at_builtin; refine wpList_append_run rfl (.tmp 17) (.tmp 18) _ rfl rfl rfl He5.out ?_)
  refine ⟨Hb5.out, ?_⟩
  simp only [Act.put, List.setIfInBounds_toArray, List.set]
  have HS5 : Hid (SumsV W5 x) := Lib.hid (HX.out.below Hbw5.out)
  refine oneG 9 1 rfl (by kernel_rfl) rfl ?_
  go_wp2_with fail
  refine (refSum_at W5 x HS5.out A5 (drawPre what id gen d) (17 + n) c5 HP.out.symm HR5.out (by rw [HP.out, HN.out]; have := HL.out; omega)).mono ?_
  rintro e W6 ⟨v6, rfl, hO6, hb6⟩
  have hbs := Hbw5.out.size
  have HO6 := Lib.hid (show OwnB W6 w.heap.size 5 v6 O from by rw [HO.out]; exact hO6.lower hbs)
  have Hbw6 := Lib.hid (Hbw5.out.trans (hb6.mono hbs))
  have Hb6 := Lib.hid (hb6.mono (Nat.le_trans HLe4.out (by have := Hb5.out.size; exact this)))
  clear hO6 hb6 hbs
  go_wp2
  refine ⟨Hb6.out, ?_⟩
  refine segG (by kernel_rfl) (fun _ _ _ _ _ h => h) [10] [_] 0 rfl rfl (by kernel_rfl) ?_
  repeat (go_big_quiet_step (fail))
  refine wpQuiet_nil ?_
  refine wpAnyG_done (by kernel_rfl) ?_
  go_wp2
  go_ret
  exact ⟨v6, rfl, HO6.out, Hbw6.out⟩

set_option maxHeartbeats 2000000 in
theorem refKeysB_any (w : World) (x : Array Value) (hx : SumsV w x) (id gen : Int) (A : Option Addr) (d : List UInt8) (n c : Nat) (hn : n = d.length) (hr : Rd w w.heap.size A d) (hl : d.length ≤ 1000000) (O : List UInt8) (hO : O = keysL id gen d) :
    Calls Tryd.prog 11 #[.agg x, .int .i64 id, .int .i64 gen, .slice A n c] w fun e w' => ∃ v, e = .returned v ∧ OwnB w' w.heap.size 5 v O ∧ Below w.heap.size w w' := by
  have hS0 : Blk (w.alloc (.cells x 25)) w.heap.size 25 x.toList := by
    have := Blk.new w 25 x.toList
    rw [Array.toArray_toList] at this
    exact this
  have hb0 := below_alloc w (.cells x 25)
  obtain ⟨w0, hw0⟩ : ∃ w0, w.alloc (.cells x 25) = w0 := ⟨_, rfl⟩
  rw [hw0] at hS0 hb0
  have HW0 := Lib.hid hw0
  have HS0 := Lib.hid hS0
  have Hb0 := Lib.hid hb0
  have HX := Lib.hid hx
  have HN := Lib.hid hn
  have HR := Lib.hid hr
  have HL := Lib.hid hl
  have HO := Lib.hid hO
  clear hw0 hS0 hb0 hx hn hr hl hO
  go_enter Tryd.func11, Tryd.ntmps11
  go_wp2_with fail
  rw [HW0.out]
  refine wp_region_G (belowG w0.heap.size) (by kernel_rfl) ?_
  have hsz0 : w0.drew.heap.size = w0.heap.size := rfl
  have hlt0 := HS0.out.lt
  have HS1 := Lib.hid HS0.out.drew
  have Hb1 := Lib.hid Hb0.out.drew
  clear HS0 Hb0 HW0
  obtain ⟨B, hB⟩ : ∃ B, w0.heap.size = B := ⟨_, rfl⟩
  rw [hB] at hsz0 hlt0 ⊢
  have HSz := Lib.hid hsz0
  have HLt := Lib.hid hlt0
  clear hsz0 hlt0 hB
  generalize w0.drew = W1 at *
  have hld := load_sums (G := belowG B) (w := W1) HX.out.size (fun V => HS1.out.below (show Below B W1 V.to from V.grown) HLt.out)
  refine segG (by kernel_rfl) (fun _ _ _ _ _ h => h) [0, 1, 2, 3, 5, 6, 7, 8] [_, _, _, _, _, _, _, _] 4 rfl rfl (by kernel_rfl) ?_
  refine wpQuiet_load_arr 25 (.tmp 4) rfl rfl x hld (by kernel_rfl) ?_
  simp only [Act.put, List.setIfInBounds_toArray, List.set]
  repeat (go_big_quiet_step (fail))
  refine wpQuiet_load_arr 25 (.tmp 4) rfl rfl x hld (by kernel_rfl) ?_
  simp only [Act.put, List.setIfInBounds_toArray, List.set]
  repeat (go_big_quiet_step (fail))
  refine wpQuiet_nil ?_
  clear hld
  refine oneG 4 3 rfl (by kernel_rfl) rfl ?_
  go_wp2_with fail
  refine (refDrawn_any W1 x (HX.out.below Hb1.out) 1 1 rfl id gen A d n c HN.out ((HR.out.below Hb1.out).more Hb1.out.size) HL.out _ rfl).mono ?_
  rintro e W2 ⟨v2, rfl, hO2, hb2⟩
  have HO2 := Lib.hid hO2
  have Hb2 := Lib.hid hb2
  have Hbw2 := Lib.hid (Hb1.out.trans (hb2.mono Hb1.out.size))
  clear hO2 hb2
  go_wp2
  refine ⟨Hb2.out.mono (by rw [HSz.out]; exact Nat.le_refl _), ?_⟩
  refine oneG 9 2 rfl (by kernel_rfl) rfl ?_
  go_wp2_with fail
  refine (refDrawn_any W2 x (HX.out.below Hbw2.out) 2 2 rfl id gen A d n c HN.out ((HR.out.below Hbw2.out).more Hbw2.out.size) HL.out _ rfl).mono ?_
  rintro e W3 ⟨v3, rfl, hO3, hb3⟩
  have hO23 : OwnB W3 W1.heap.size 5 v2 (drawn 1 id gen d) := HO2.out.keep fun g hg => hb3.block g (HO2.out.block_lt hg).2
  have hle3 := Nat.le_trans Hb2.out.size hb3.size
  obtain ⟨A3, c3, rfl, hr3⟩ := hO3.rd
  obtain ⟨v4, W4, e4, hO4, hb4, _⟩ := app_rd (P := Tryd.prog) 22 22 Tryd.und22 Tryd.info5 hO23 hle3 c3 hr3 (by rw [drawn_len, drawn_len]; omega)
  rw [drawn_len] at e4 ⊢
  have He4 := Lib.hid e4
  have HO4 := Lib.hid (show OwnB W4 w.heap.size 5 v4 O from by rw [HO.out]; exact hO4.lower Hb1.out.size)
  have HLe2 : Hid (B ≤ W2.heap.size) := Lib.hid (by have := Hb2.out.size; rw [HSz.out] at this; exact this)
  have Hb3 := Lib.hid (hb3.mono HLe2.out)
  have Hb4 := Lib.hid (hb4.mono (show B ≤ W1.heap.size by rw [HSz.out]; exact Nat.le_refl _))
  have Hbw4 := Lib.hid ((Hbw2.out.trans (hb3.mono Hbw2.out.size)).trans (hb4.mono Hb1.out.size))
  clear hO3 hb3 hr3 hO4 hb4 hO23 hle3 e4
  go_wp2
  refine ⟨Hb3.out, ?_⟩
  refine oneG 10 1 rfl (by kernel_rfl) rfl ?_
  go_wp2_with (at_builtin; refine wpList_append_run rfl (.tmp 13) (.tmp 18) _ rfl rfl rfl He4.out ?_)
  refine ⟨Hb4.out, ?_⟩
  simp only [Act.put, List.setIfInBounds_toArray, List.set]
  refine segG (by kernel_rfl) (fun _ _ _ _ _ h => h) [11] [_] 0 rfl rfl (by kernel_rfl) ?_
  repeat (go_big_quiet_step (fail))
  refine wpQuiet_nil ?_
  refine wpAnyG_done (by kernel_rfl) ?_
  go_wp2
  go_ret
  exact ⟨v4, rfl, HO4.out, Hbw4.out⟩

set_option maxHeartbeats 2000000 in
theorem refIVB_any (w : World) (x : Array Value) (hx : SumsV w x) (id gen : Int) (A : Option Addr) (d : List UInt8) (n c : Nat) (hn : n = d.length) (hr : Rd w w.heap.size A d) (hl : d.length ≤ 1000000) (O : List UInt8) (hO : O = ivL id gen d) :
    Calls Tryd.prog 12 #[.agg x, .int .i64 id, .int .i64 gen, .slice A n c] w fun e w' => ∃ A' c', e = .returned (.slice A' 16 c') ∧ Rd w' w'.heap.size A' O ∧ Below w.heap.size w w' := by
  have hS0 : Blk (w.alloc (.cells x 25)) w.heap.size 25 x.toList := by
    have := Blk.new w 25 x.toList
    rw [Array.toArray_toList] at this
    exact this
  have hb0 := below_alloc w (.cells x 25)
  obtain ⟨w0, hw0⟩ : ∃ w0, w.alloc (.cells x 25) = w0 := ⟨_, rfl⟩
  rw [hw0] at hS0 hb0
  have HW0 := Lib.hid hw0
  have Hb0 := Lib.hid hb0
  have HX := Lib.hid hx
  have HN := Lib.hid hn
  have HR := Lib.hid hr
  have HL := Lib.hid hl
  have HO := Lib.hid hO
  have hld := run_loadVar_row (P := Tryd.prog) w0 w.heap.size 25 25 x (0, 0) _ (by have h2 := hS0; unfold Blk at h2; rw [Array.toArray_toList] at h2; exact h2) Tryd.undSumsS rfl (by rw [HX.out.size]; exact Tryd.sizeSums)
  clear hw0 hS0 hb0 hx hn hr hl hO
  go_enter Tryd.func12, Tryd.ntmps12
  go_wp2_with (refine wpList_load_arr_w 25 (.tmp 4) rfl rfl x (by rw [HW0.out]; exact hld) (by kernel_rfl) ?_)
  rw [HW0.out]
  refine (refDrawn_any w0 x (HX.out.below Hb0.out) 3 3 rfl id gen A d n c HN.out ((HR.out.below Hb0.out).more Hb0.out.size) HL.out _ rfl).mono ?_
  rintro e W2 ⟨v2, rfl, hO2, hb2⟩
  obtain ⟨g2, c2, rest, rfl, _, hc2, hB2⟩ := hO2.blk (by rw [drawn_len]; omega)
  rw [drawn_len] at hc2 ⊢
  have hr2 : Rd W2 W2.heap.size (some ⟨g2, 0, none⟩) O := by
    rw [HO.out]; exact (Rd.of_row hB2).take 16
  have HR2 := Lib.hid hr2
  have Hb2 := Lib.hid (Hb0.out.trans (hb2.mono Hb0.out.size))
  have hc16 : (16 : Int) ≤ (c2 : Int) := by omega
  clear hO2 hB2 hb2 hr2 hld
  go_wp2
  go_ret
  exact ⟨_, _, rfl, HR2.out, Hb2.out⟩
end Go.Proofs.YtpaagjhohfjopaaDoor
