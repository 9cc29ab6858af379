/-
  Layer 10: the reference's Seal and Open. Layer 10: the reference's Open. octet.New: its contract; a Reader in memory. What the methods of octet.Reader do to memory: contracts, for a nil Reader and for every Reader in memory. octet.Reader's number, Int, Text, Left, End: contracts, for a nil Reader and for every Reader in memory.
-/
import Derived.Test.YtjhkodmaalefiaaDoorSealJ10
import Derived.Test.YtjhkodmaalefiaaDoorSealJ16
import Derived.Test.YtjhkodmaalefiaaDoorSealJ20
import Derived.Test.YtjhkodmaalefiaaDoorSealJ03
import Derived.Lib.EndianBits
set_option maxRecDepth 100000
namespace Go.Proofs.YtjhkodmaalefiaaDoor
open Go.RowKit Go.Gar Go.Gar.Aes

theorem seal_in_yes {key : List UInt8} (h : key.length = 32) (iv b : List UInt8) : sealB key iv b = Cbc.seal_ key iv b ∧ sealE key = 0 := ⟨if_pos (.inr (.inr h)), if_pos (.inr (.inr h))⟩
theorem rd_enc {w : World} {g : Nat} {k : List UInt8} (h : Blk w g 24 (u8s k)) : Rd w w.heap.size (some ⟨g, 0, none⟩) (k.take 32) := by
  have := Rd.of_blk k h h.lt 0 32
  simpa using this
theorem rd_mac {w : World} {g : Nat} {k : List UInt8} (h : Blk w g 24 (u8s k)) (hk : k.length = 64) : Rd w w.heap.size (some ⟨g, 32, none⟩) (k.drop 32) := by
  have := Rd.of_blk k h h.lt 32 32
  rwa [List.take_of_length_le (by rw [List.length_drop]; omega)] at this
theorem ref7_at (w : World) (K V A : Option Addr) (key iv b X : List UInt8) (kc vc bl bc m : Nat) (hk : key.length = 32) (hbl : bl = b.length) (hkc : 32 ≤ kc) (hiv : iv.length = 16) (rK : Rd w w.heap.size K key) (rV : Rd w w.heap.size V iv) (rA : Rd w w.heap.size A b) (hb : b.length ≤ 900000) (hX : X = Cbc.seal_ key iv b) (hm : m = X.length) :
    Calls Tryd.prog 21 #[.slice K 32 kc, .slice V 16 vc, .slice A bl bc] w fun e w' => ∃ B c, e = .returned (.tuple #[.slice B m c, .int .i64 0]) ∧ m ≤ c ∧ Rd w' w'.heap.size B X ∧ Below w.heap.size w w' := by
  obtain ⟨h1, h2⟩ := seal_in_yes hk iv b
  refine (refSeal_any w K V A key iv b 32 kc vc bl bc hk.symm hbl hkc hiv rK rV rA (by omega)).mono fun e w' he => ?_
  rw [h1, h2, ← hX] at he
  obtain ⟨v, e1, ⟨B, c, rfl, h3, h4⟩, h5⟩ := he
  rw [← hm] at e1 h3
  exact ⟨B, c, e1, h3, h4, h5⟩
theorem refMac_at (w : World) (x : Array Value) (hx : SumsV w x) (K A : Option Addr) (key l : List UInt8) (kl kc n c : Nat) (hkl : kl = key.length) (hn : n = l.length) (rK : Rd w w.heap.size K key) (rA : Rd w w.heap.size A l) (hk : key.length ≤ 1000000) (hl : l.length ≤ 1000000) :
    Calls Tryd.prog 16 #[.agg x, .slice K kl kc, .slice A n c] w fun e w' => ∃ v, e = .returned v ∧ OwnB w' w.heap.size 5 v (Mac.of key l) ∧ Below w.heap.size w w' := by
  obtain ⟨AK, AH, cK, cH, rfl, h2, h3⟩ := hx
  exact refOf6_any w AK AH cK cH K A key l kl n kc c h2 h3 hkl hn rK rA hk hl
theorem b64_nat (m : Nat) (h : m < 18446744073709551616) : b64 (m : Int) = m := by unfold b64; omega
set_option maxHeartbeats 4000000 in
theorem refSealT_any (w : World) (x : Array Value) (hx : SumsV w x) (k iv b : List UInt8) (id gen : Int) (V A : Option Addr) (vc bl bc : Nat) (hk : k.length = 64) (hiv : iv.length = 16) (hbl : bl = b.length) (rV : Rd w w.heap.size V iv) (rA : Rd w w.heap.size A b) (hb : b.length ≤ 900000) (O : List UInt8) (n : Nat) (hO : O = sealS k iv id gen b) (hn : n = O.length) :
    Calls Tryd.prog 9 #[.agg x, .agg (u8s k).toArray, .slice V 16 vc, .int .i64 id, .int .i64 gen, .slice A bl bc] w fun e w' => ∃ A' c', e = .returned (.tuple #[.slice A' n c', .int .i64 0]) ∧ Rd w' w'.heap.size A' O ∧ Below w.heap.size w w' := by
  have hS0 : Blk (w.alloc (.cells x 35)) w.heap.size 35 x.toList := by
    have := Blk.new w 35 x.toList
    rw [Array.toArray_toList] at this
    exact this
  have hb0 := below_alloc w (.cells x 35)
  obtain ⟨g0, hg0⟩ : ∃ g, w.heap.size = g := ⟨_, rfl⟩
  obtain ⟨w0, hw0⟩ : ∃ w0, w.alloc (.cells x 35) = w0 := ⟨_, rfl⟩
  rw [hw0] at hS0 hb0
  have hK1 := Blk.new w0 24 (u8s k)
  have hb1 := below_alloc w0 (.cells (u8s k).toArray 24)
  obtain ⟨w1, hw1⟩ : ∃ w1, w0.alloc (.cells (u8s k).toArray 24) = w1 := ⟨_, rfl⟩
  have hS1 : Blk w1 w.heap.size 35 x.toList := by
    have := hS0.alloc (.cells (u8s k).toArray 24)
    rw [hw1] at this
    exact this
  rw [hw1] at hK1 hb1
  have hs0 : w0.heap.size = w.heap.size + 1 := by rw [← hw0, World.size_alloc]
  have HW0 := Lib.hid hw0
  have HW1 := Lib.hid hw1
  have HX := Lib.hid hx
  have HK := Lib.hid hk
  have HIV := Lib.hid hiv
  have HBL := Lib.hid hbl
  have HV := Lib.hid rV
  have HA := Lib.hid rA
  have HB := Lib.hid hb
  have HO := Lib.hid hO
  have HN := Lib.hid hn
  have HS1 := Lib.hid hS1
  have HK1 := Lib.hid hK1
  have Hb1 := Lib.hid (hb0.trans (hb1.mono hb0.size))
  have HSz := Lib.hid hs0
  clear hw0 hw1 hx hk hiv hbl rV rA hb hO hn hS0 hb0 hK1 hb1 hS1 hs0 hg0
  go_enter Tryd.func9, Tryd.ntmps9
  go_wp2_with fail
  rw [HW0.out, HW1.out, ← HSz.out]
  clear HW0 HW1 HSz
  obtain ⟨g1, hg1⟩ : ∃ g, w0.heap.size = g := ⟨_, rfl⟩
  rw [hg1] at HK1 ⊢
  clear hg1
  obtain ⟨X, hX⟩ : ∃ X, X = Cbc.seal_ (k.take 32) iv b := ⟨_, rfl⟩
  obtain ⟨m, hm⟩ : ∃ m, m = X.length := ⟨_, rfl⟩
  have hmn : m ≤ 900016 := by rw [hm, hX, Cbc.seal_len]; have := HB.out; omega
  refine (ref7_at w1 _ V A (k.take 32) iv b X 32 vc bl bc m (by rw [List.length_take, HK.out]; rfl) HBL.out (by omega) HIV.out (rd_enc HK1.out) ((HV.out.below Hb1.out).more Hb1.out.size) ((HA.out.below Hb1.out).more Hb1.out.size) HB.out hX hm).mono ?_
  rintro e w2 ⟨B2, c2, rfl, hc2, hr2, hb2⟩
  have HXX := Lib.hid hX
  have HM := Lib.hid hm
  have HMN := Lib.hid hmn
  have HC2 := Lib.hid hc2
  have HR2 := Lib.hid hr2
  have Hb2 := bb Hb1 hb2
  have HK2 := Lib.hid (HK1.out.below hb2 HK1.out.lt)
  have HS2 := Lib.hid (HS1.out.below hb2 HS1.out.lt)
  clear hX hm hmn hc2 hr2 hb2 HK1 HS1 Hb1
  go_wp2_with fail
  refine (refIntO_at none [] 0 0 id w2 rfl Rd.nil (by simp)).mono ?_
  rintro e w3 ⟨v3, rfl, hO3, hb3⟩
  obtain ⟨A3, c3, rfl, hr3⟩ := hO3.rd
  rw [show ([] ++ be (b64 id) 8 : List UInt8).length = 8 from by rw [List.nil_append, be_len]]
  have HR3 := Lib.hid hr3
  have Hb3 := Lib.hid hb3
  clear hO3 hr3 hb3
  go_wp2_with fail
  refine (refIntO_at A3 ([] ++ be (b64 id) 8) 8 c3 gen w3 (by rw [List.nil_append, be_len]) HR3.out (by rw [List.nil_append, be_len]; omega)).mono ?_
  rintro e w4 ⟨v4, rfl, hO4, hb4⟩
  obtain ⟨A4, c4, rfl, hr4⟩ := hO4.rd
  rw [show ([] ++ be (b64 id) 8 ++ be (b64 gen) 8 : List UInt8).length = 16 from by rw [List.nil_append, List.length_append, be_len, be_len]]
  have HR4 := Lib.hid hr4
  have Hb4 := Lib.hid (Hb3.out.trans (hb4.mono Hb3.out.size))
  clear hO4 hr4 hb4 HR3 Hb3
  go_wp2_with fail
  refine (refIntO_at A4 ([] ++ be (b64 id) 8 ++ be (b64 gen) 8) 16 c4 m w4 (by rw [List.nil_append, List.length_append, be_len, be_len]) HR4.out (by rw [List.nil_append, List.length_append, be_len, be_len]; omega)).mono ?_
  rintro e w5 ⟨v5, rfl, hO5, hb5⟩
  have hh5 : [] ++ be (b64 id) 8 ++ be (b64 gen) 8 ++ be (b64 (m : Int)) 8 = headL id gen X.length := by
    rw [b64_nat m (by have := HMN.out; omega), HM.out, headL, List.nil_append, List.append_assoc]
  rw [hh5] at hO5
  have hO5' := hO5.lower Hb4.out.size
  have hb5' := Hb4.out.trans (hb5.mono Hb4.out.size)
  clear hO5 hb5 hh5 HR4 Hb4
  have hbw5 := Hb2.out.trans (hb5'.mono Hb2.out.size)
  obtain ⟨v6, w6, e6, hO6, hb6, _⟩ := app_rd (P := Tryd.prog) 26 26 Tryd.und22 Tryd.info5 hO5' hb5'.size vc ((HV.out.below hbw5).more hbw5.size) (by rw [headL_len, HIV.out]; omega)
  rw [HIV.out] at e6
  have hb6' := hb5'.trans hb6
  have hbw6 := Hb2.out.trans (hb6'.mono Hb2.out.size)
  obtain ⟨v7, w7, e7, hO7, hb7, _⟩ := app_rd (P := Tryd.prog) 26 26 Tryd.und22 Tryd.info5 hO6 hb6'.size c2 ((HR2.out.below hb6').more hb6'.size) (by rw [List.length_append, headL_len, HIV.out, ← HM.out]; have := HMN.out; omega)
  rw [← HM.out] at e7
  have hbody : headL id gen X.length ++ iv ++ X = bodyL k iv id gen b := by rw [bodyL, bodyX, ← HXX.out, List.append_assoc]
  rw [hbody] at hO7
  have hb7' := hb6'.trans hb7
  have hbl7 : (bodyL k iv id gen b).length = m + 40 := by rw [← hbody, List.length_append, List.length_append, headL_len, HIV.out, HM.out]; omega
  obtain ⟨A7, c7, rfl, hr7⟩ := hO7.rd
  rw [hbl7] at hO7 e7
  have HL7 := Lib.hid hbl7
  have He6 := Lib.hid e6
  have He7 := Lib.hid e7
  have HO7 := Lib.hid hO7
  have HR7 := Lib.hid hr7
  have Hb7 := Lib.hid hb7'
  have Hbw7 := Lib.hid (Hb2.out.trans (hb7'.mono Hb2.out.size))
  clear hbl7 e6 e7 hO6 hO7 hr7 hb7' hb6' hb7 hb6 hbw6 hbw5 hb5' hO5' hbody
  go_wp2_with (at_builtin; first | refine wpList_append_run rfl (.tmp 35) (.tmp 36) _ rfl rfl rfl He6.out ?_ | refine wpList_append_run rfl (.tmp 37) (.tmp 38) _ rfl rfl rfl He7.out ?_)
  refine wp_region_G (belowG w2.heap.size) (by kernel_rfl) ?_
  obtain ⟨B, hB⟩ : ∃ B, w2.heap.size = B := ⟨_, rfl⟩
  have HSb : Hid (B ≤ w7.drew.heap.size) := Lib.hid (by rw [← hB]; exact Hb7.out.size)
  have hltS : w.heap.size < B := by rw [← hB]; exact HS2.out.lt
  have hltK : g1 < B := by rw [← hB]; exact HK2.out.lt
  have HS7 : Hid (Blk w7.drew w.heap.size 35 x.toList) := Lib.hid ((HS2.out.below Hb7.out HS2.out.lt).drew)
  have HK7 : Hid (Blk w7.drew g1 24 (u8s k)) := Lib.hid ((HK2.out.below Hb7.out HK2.out.lt).drew)
  have HO8 : Hid (OwnB w7.drew B 5 (.slice A7 (m + 40) c7) (bodyL k iv id gen b)) := Lib.hid (by rw [← hB]; exact HO7.out)
  have HR8 : Hid (Rd w7.drew w7.drew.heap.size A7 (bodyL k iv id gen b)) := Lib.hid HR7.out
  have Hbw8 := Lib.hid Hbw7.out.drew
  have HwB : Hid (w.heap.size ≤ B) := Lib.hid (Nat.le_of_lt hltS)
  have HltK := Lib.hid hltK
  rw [hB]
  clear HO7 HR7 Hbw7 Hb7 HS2 HK2 He6 He7 hltK
  generalize w7.drew = w8 at *
  have hld := load_sums (G := belowG B) (w := w8) HX.out.size (fun V => HS7.out.below (show Below B w8 V.to from V.grown) hltS)
  refine segG (by kernel_rfl) (fun _ _ _ _ _ h => h) [0, 1, 2, 3, 4] [_, _, _, _, _] 4 rfl rfl (by kernel_rfl) ?_
  repeat (go_big_quiet_step (fail))
  refine wpQuiet_load_arr 35 (.tmp 6) rfl rfl x hld (by kernel_rfl) ?_
  simp only [Act.put, List.setIfInBounds_toArray, List.set]
  repeat (go_big_quiet_step (fail))
  refine wpQuiet_nil ?_
  clear hld hltS
  refine oneG 5 3 rfl (by kernel_rfl) rfl ?_
  go_wp2_with fail
  refine (refMac_at w8 x (HX.out.below Hbw8.out) (some ⟨g1, 32, none⟩) A7 (k.drop 32) (bodyL k iv id gen b) 32 32 (m + 40) c7 (by rw [List.length_drop, HK.out]) HL7.out.symm (rd_mac HK7.out HK.out) HR8.out (by rw [List.length_drop, HK.out]; omega) (by rw [HL7.out]; have := HMN.out; omega)).mono ?_
  rintro e w9 ⟨v9, rfl, hO9, hb9⟩
  obtain ⟨A9, c9, rfl, hr9⟩ := hO9.rd
  have hO89 : OwnB w9 B 5 (.slice A7 (m + 40) c7) (bodyL k iv id gen b) := HO8.out.keep fun g hg => hb9.block g (HO8.out.block_lt hg).2
  obtain ⟨v10, w10, e10, hO10, hb10, _⟩ := app_rd (P := Tryd.prog) 26 26 Tryd.und22 Tryd.info5 hO89 (Nat.le_trans HSb.out hb9.size) c9 hr9 (by rw [HL7.out, Mac.of_len]; have := HMN.out; omega)
  obtain ⟨A10, c10, rfl, hr10⟩ := hO10.rd
  have hfin : bodyL k iv id gen b ++ Mac.of (k.drop 32) (bodyL k iv id gen b) = O := by rw [HO.out]; rfl
  rw [hfin, ← HN.out] at e10
  rw [hfin] at hr10
  rw [hfin, ← HN.out] at hO10
  have He10 := Lib.hid e10
  have HR10 := Lib.hid hr10
  have Hb9 := Lib.hid (hb9.mono HSb.out)
  have Hb10 := Lib.hid hb10
  have Hbw10 := Lib.hid ((Hbw8.out.trans (hb9.mono Hbw8.out.size)).trans (hb10.mono HwB.out))
  clear e10 hO10 hb10 hO89 hO9 hr9 hb9 hr10 hfin
  go_wp2
  refine ⟨Hb9.out, ?_⟩
  refine oneG 6 2 rfl (by kernel_rfl) rfl ?_
  go_wp2_with (at_builtin; refine wpList_append_run rfl (.tmp 40) (.tmp 45) _ rfl rfl rfl He10.out ?_)
  refine ⟨Hb10.out, ?_⟩
  simp only [Act.put, List.setIfInBounds_toArray, List.set]
  refine segG (by kernel_rfl) (fun _ _ _ _ _ h => h) [7, 8] [_, _] 0 rfl rfl (by kernel_rfl) ?_
  repeat (go_big_quiet_step (fail))
  refine wpQuiet_nil ?_
  refine wpAnyG_done (by kernel_rfl) ?_
  go_wp2
  go_ret2
  exact ⟨A10, c10, rfl, HR10.out, Hbw10.out⟩
end Go.Proofs.YtjhkodmaalefiaaDoor
namespace Go.Proofs.YtjhkodmaalefiaaDoor
open Go.RowKit Go.Gar Go.Gar.Aes

theorem openS_short {k s : List UInt8} {id gen : Int} (h : s.length < 88) : openS k id gen s = none := by unfold openS; rw [if_pos h]
theorem openS_none {k s : List UInt8} {id gen : Int} (h : Cbc.open_ (k.take 32) (ivP s) (conP s) = none) : openS k id gen s = none := by
  unfold openS
  rw [h]
  split <;> rfl
theorem openS_yes {k s y : List UInt8} {id gen : Int} (h88 : ¬ s.length < 88) (h : Cbc.open_ (k.take 32) (ivP s) (conP s) = some y) : openS k id gen s = if sealS k (ivP s) id gen y = s then some y else none := by
  unfold openS
  rw [if_neg h88, h]
theorem open7_none {key iv c : List UInt8} (hk : key.length = 32) (h : Cbc.open_ key iv c = none) : openE key iv c = 12 ∧ openB key iv c = [] := by
  have hs : key.length = 16 ∨ key.length = 24 ∨ key.length = 32 := .inr (.inr hk)
  unfold openE openB
  rw [if_pos hs, if_pos hs, h]
  exact ⟨rfl, rfl⟩
theorem open7_some {key iv c y : List UInt8} (hk : key.length = 32) (h : Cbc.open_ key iv c = some y) : openE key iv c = 0 ∧ openB key iv c = y := by
  have hs : key.length = 16 ∨ key.length = 24 ∨ key.length = 32 := .inr (.inr hk)
  unfold openE openB
  rw [if_pos hs, if_pos hs, h]
  exact ⟨rfl, rfl⟩
theorem load_keys_later {G : Growth} {w : World} {g : Nat} {l : List UInt8} (hl : l.length = 64) (h : ∀ W : Later G w, Blk W.to g 24 (u8s l)) :
    ∀ W : Later G w, (Instr.loadAt 24 (.pointer (some ⟨g, 0, none⟩))).run Tryd.prog W.to = .ok (.agg (u8s l).toArray) W.to := by
  intro W
  simp only [Instr.loadAt, Instr.sureAddr, Sem.run_bind, Sem.run_pure, Result.andThen]
  exact load_keys (h W) hl

theorem rd_part {w : World} {B bb oo : Nat} {s : List UInt8} (h : Rd w B (some ⟨bb, oo, none⟩) s) (o n : Nat) {l : List UInt8} (hl : (s.drop o).take n = l) : Rd w B (some ⟨bb, oo + o, none⟩) l := by
  subst hl
  rcases h with rfl | ⟨b, q, e, hb, hc⟩
  · exact .inl (by simp)
  · obtain ⟨rfl, rfl⟩ : bb = b ∧ oo = q := by simpa using e
    refine .inr ⟨bb, oo + o, rfl, hb, fun i c hi => ?_⟩
    have := hc (o + i) c (by
      rw [List.getElem?_take] at hi
      split at hi
      · rw [List.getElem?_drop] at hi; exact hi
      · cases hi)
    rw [Nat.add_assoc]
    exact this
set_option maxHeartbeats 4000000 in
theorem refOpenT_any (w : World) (x : Array Value) (hx : SumsV w x) (k s : List UInt8) (id gen : Int) (A : Option Addr) (nn bc : Nat) (hk : k.length = 64) (hnn : nn = s.length) (hbc : nn ≤ bc) (rA : Rd w w.heap.size A s) (hb : nn ≤ 900000) (E : Int) (O : List UInt8) (m : Nat) (hE : E = ((openSE k id gen s : Nat) : Int)) (hO : O = openSB k id gen s) (hm : m = O.length) :
    Calls Tryd.prog 14 #[.agg x, .agg (u8s k).toArray, .int .i64 id, .int .i64 gen, .slice A nn bc] w fun e w' => ∃ A' c', e = .returned (.tuple #[.slice A' m c', .int .i64 E]) ∧ Rd w' w'.heap.size A' O ∧ Below w.heap.size w w' := by
  have hS0 : Blk (w.alloc (.cells x 35)) w.heap.size 35 x.toList := by
    have := Blk.new w 35 x.toList
    rw [Array.toArray_toList] at this
    exact this
  have hb0 := below_alloc w (.cells x 35)
  obtain ⟨w0, hw0⟩ : ∃ w0, w.alloc (.cells x 35) = w0 := ⟨_, rfl⟩
  rw [hw0] at hS0 hb0
  have hK1 := Blk.new w0 24 (u8s k)
  have hb1 := below_alloc w0 (.cells (u8s k).toArray 24)
  obtain ⟨w1, hw1⟩ : ∃ w1, w0.alloc (.cells (u8s k).toArray 24) = w1 := ⟨_, rfl⟩
  have hS1 : Blk w1 w.heap.size 35 x.toList := by
    have := hS0.alloc (.cells (u8s k).toArray 24)
    rw [hw1] at this
    exact this
  rw [hw1] at hK1 hb1
  have hs0 : w0.heap.size = w.heap.size + 1 := by rw [← hw0, World.size_alloc]
  have HW0 := Lib.hid hw0
  have HW1 := Lib.hid hw1
  have HX := Lib.hid hx
  have HK := Lib.hid hk
  have HNN := Lib.hid hnn
  have HA := Lib.hid rA
  have HE := Lib.hid hE
  have HO := Lib.hid hO
  have HM := Lib.hid hm
  have HS1 := Lib.hid hS1
  have HK1 := Lib.hid hK1
  have Hb1 := Lib.hid (hb0.trans (hb1.mono hb0.size))
  have HSz := Lib.hid hs0
  clear hw0 hw1 hx hk hnn rA hE hO hm hS0 hb0 hK1 hb1 hS1 hs0
  by_cases h88 : nn < 88
  · have hd : decide ((nn : Int) < 88) = true := by simp; omega
    obtain ⟨rfl, rfl, rfl⟩ : E = 12 ∧ O = [] ∧ m = 0 := by
      have h1 : openS k id gen s = none := openS_short (by rw [← HNN.out]; exact h88)
      have e2 : O = [] := by rw [HO.out, openSB, h1]; rfl
      exact ⟨by rw [HE.out, openSE, h1]; rfl, e2, by rw [HM.out, e2]; rfl⟩
    clear HE HO HM h88
    go_enter Tryd.func14, Tryd.ntmps14
    go_wp2_with fail
    go_ret2
    rw [HW0.out, HW1.out]
    exact ⟨none, 0, rfl, Rd.nil, Hb1.out⟩
  · have hd : decide ((nn : Int) < 88) = false := by simp; omega
    obtain ⟨ab, oo, rfl⟩ : ∃ ab oo, A = some ⟨ab, oo, none⟩ := by
      rcases HA.out with h | ⟨ab, oo, h, _⟩
      · have := HNN.out; rw [h] at this; exact absurd this (by simp; omega)
      · exact ⟨ab, oo, h⟩
    have hc1 : ∀ W, (Instr.sliceAt 26 (.slice (some ⟨ab, oo, none⟩) nn bc) (some (.int .i64 24)) (some (.int .i64 40)) none).run Tryd.prog W = .ok (.slice (some ⟨ab, oo + 24, none⟩) 16 (bc - 24)) W := fun W => run_slice_mid W ab oo nn bc 24 40 24 40 rfl rfl (by omega) (by omega) (by omega)
    have hc2 : ∀ W, (Instr.sliceAt 26 (.slice (some ⟨ab, oo, none⟩) nn bc) (some (.int .i64 40)) (some (.int .i64 ((nn : Int) - 32))) none).run Tryd.prog W = .ok (.slice (some ⟨ab, oo + 40, none⟩) (nn - 72) (bc - 40)) W := fun W => by
      have := run_slice_mid W ab oo nn bc 40 (nn - 32) 40 ((nn : Int) - 32) rfl (by omega) (by omega) (by omega) (by omega)
      rw [this, show nn - 32 - 40 = nn - 72 by omega]
    go_enter Tryd.func14, Tryd.ntmps14
    go_wp2_with fail
    rw [HW0.out, HW1.out, ← HSz.out]
    clear HW0 HW1 HSz
    obtain ⟨g1, hg1⟩ : ∃ g, w0.heap.size = g := ⟨_, rfl⟩
    rw [hg1] at HK1 ⊢
    clear hg1
    refine wp_region_G grows (by kernel_rfl) ?_
    have HS2 : Hid (Blk w1.drew w.heap.size 35 x.toList) := Lib.hid HS1.out.drew
    have HK2 : Hid (Blk w1.drew g1 24 (u8s k)) := Lib.hid HK1.out.drew
    have Hb2 := Lib.hid Hb1.out.drew
    clear HS1 HK1 Hb1
    generalize w1.drew = w2 at *
    refine segG (by kernel_rfl) (fun _ _ _ _ _ h => h) [0, 1, 2, 3, 4, 5, 6, 7, 8] [_, _, _, _, _, _, _, _, _] 6 rfl rfl (by kernel_rfl) ?_
    repeat (go_big_quiet_step (fail))
    refine wpQuiet_nil ?_
    have hlen : 88 ≤ s.length := by rw [← HNN.out]; omega
    have hV : Rd w w.heap.size (some ⟨ab, oo + 24, none⟩) (ivP s) := rd_part HA.out 24 16 rfl
    have hC : Rd w w.heap.size (some ⟨ab, oo + 40, none⟩) (conP s) := rd_part HA.out 40 (s.length - 72) rfl
    have HVV := Lib.hid hV
    have HCC := Lib.hid hC
    have HIV := Lib.hid (ivP_len hlen)
    have HCL : Hid (nn - 72 = (conP s).length) := Lib.hid (by rw [conP_len hlen, HNN.out])
    have HK32 : Hid ((k.take 32).length = 32) := Lib.hid (by rw [List.length_take, HK.out]; rfl)
    clear hV hC
    have HL88 := Lib.hid hlen
    clear hlen
    refine oneG 9 5 rfl (by kernel_rfl) rfl ?_
    go_wp2_with fail
    have hcall := refOpen_any w2 (some ⟨g1, 0, none⟩) (some ⟨ab, oo + 24, none⟩) (some ⟨ab, oo + 40, none⟩) (k.take 32) (ivP s) (conP s) 32 32 (bc - 24) (nn - 72) (bc - 40) HK32.out.symm HCL.out (by omega) (by omega) HIV.out (rd_enc HK2.out) ((HVV.out.below Hb2.out).more Hb2.out.size) ((HCC.out.below Hb2.out).more Hb2.out.size) (by rw [← HCL.out]; omega)
    rcases hcase : Cbc.open_ (k.take 32) (ivP s) (conP s) with _ | y
    · obtain ⟨h1, h2⟩ := open7_none HK32.out hcase
      rw [h1, h2] at hcall
      obtain ⟨rfl, rfl, rfl⟩ : E = 12 ∧ O = [] ∧ m = 0 := by
        have h1 : openS k id gen s = none := openS_none hcase
        have e2 : O = [] := by rw [HO.out, openSB, h1]; rfl
        exact ⟨by rw [HE.out, openSE, h1]; rfl, e2, by rw [HM.out, e2]; rfl⟩
      clear HE HO HM h1 h2 hcase
      refine hcall.mono ?_
      rintro e w3 ⟨v3, rfl, ⟨A3, c3, rfl, -, -⟩, hb3⟩
      have Hb3 := bb Hb2 hb3
      clear hcall
      go_wp2
      refine ⟨hb3, ?_⟩
      clear hb3
      refine segG (by kernel_rfl) (fun _ _ _ _ _ h => h) [10, 11, 12, 13, 14] [_, _, _, _, _] 0 rfl rfl (by kernel_rfl) ?_
      repeat (go_big_quiet_step (fail))
      refine wpQuiet_nil ?_
      refine wpAnyG_done (by kernel_rfl) ?_
      go_wp2
      go_ret2
      exact ⟨none, 0, rfl, Rd.nil, Hb3.out⟩
    · obtain ⟨h1, h2⟩ := open7_some HK32.out hcase
      rw [h1, h2] at hcall
      have hop := openS_yes (k := k) (id := id) (gen := gen) (s := s) (y := y) (by have := HL88.out; omega) hcase
      have hyl : y.length ≤ 900000 := by
        have := congrArg List.length (Cbc.seal_open _ _ _ _ HIV.out hcase)
        rw [Cbc.seal_len, ← HCL.out] at this
        omega
      have HOP := Lib.hid hop
      have HYL := Lib.hid hyl
      clear h1 h2 hcase hop hyl
      refine hcall.mono ?_
      rintro e w3 ⟨v3, rfl, ⟨A3, c3, rfl, hc3, hr3⟩, hb3⟩
      have Hb3 := bb Hb2 hb3
      have HR3 := Lib.hid hr3
      have HS3 := Lib.hid (HS2.out.below hb3 HS2.out.lt)
      have HK3 := Lib.hid (HK2.out.below hb3 HK2.out.lt)
      obtain ⟨yn, hyn⟩ : ∃ yn, yn = y.length := ⟨_, rfl⟩
      rw [← hyn]
      have HYN := Lib.hid hyn
      clear hcall hc3 hr3 HS2 HK2 Hb2 hyn
      go_wp2
      refine ⟨hb3, ?_⟩
      clear hb3
      refine segG (by kernel_rfl) (fun _ _ _ _ _ h => h) [10, 11, 12, 13, 14] [_, _, _, _, _] 0 rfl rfl (by kernel_rfl) ?_
      repeat (go_big_quiet_step (fail))
      refine wpQuiet_nil ?_
      refine wpAnyG_done (by kernel_rfl) ?_
      go_wp2_with fail
      refine wp_region_G grows (by kernel_rfl) ?_
      have HS4 : Hid (Blk w3.drew w.heap.size 35 x.toList) := Lib.hid HS3.out.drew
      have HK4 : Hid (Blk w3.drew g1 24 (u8s k)) := Lib.hid HK3.out.drew
      have HR4 : Hid (Rd w3.drew w3.drew.heap.size A3 y) := Lib.hid HR3.out
      have Hb4 := Lib.hid Hb3.out.drew
      clear HS3 HK3 HR3 Hb3
      generalize w3.drew = w4 at *
      have hld1 := load_sums (G := grows) (w := w4) HX.out.size (fun V => HS4.out.below (show Below w4.heap.size w4 V.to from V.grown) HS4.out.lt)
      have hld2 := load_keys_later (G := grows) (w := w4) HK.out (fun V => HK4.out.below (show Below w4.heap.size w4 V.to from V.grown) HK4.out.lt)
      refine segG (by kernel_rfl) (fun _ _ _ _ _ h => h) [0, 1, 2, 3, 4, 5, 6] [_, _, _, _, _, _, _] 6 rfl rfl (by kernel_rfl) ?_
      refine wpQuiet_load_arr 35 (.tmp 5) rfl rfl x hld1 (by kernel_rfl) ?_
      simp only [Act.put, List.setIfInBounds_toArray, List.set]
      refine wpQuiet_load_arr 24 (.tmp 6) rfl rfl (u8s k).toArray hld2 (by kernel_rfl) ?_
      simp only [Act.put, List.setIfInBounds_toArray, List.set]
      repeat (go_big_quiet_step (fail))
      refine wpQuiet_nil ?_
      clear hld1 hld2
      obtain ⟨Z, hZ⟩ : ∃ Z, Z = sealS k (ivP s) id gen y := ⟨_, rfl⟩
      obtain ⟨zn, hzn⟩ : ∃ zn, zn = Z.length := ⟨_, rfl⟩
      refine oneG 7 5 rfl (by kernel_rfl) rfl ?_
      go_wp2_with fail
      refine (refSealT_any w4 x (HX.out.below Hb4.out) k (ivP s) y id gen _ A3 (bc - 24) yn c3 HK.out HIV.out HYN.out ((HVV.out.below Hb4.out).more Hb4.out.size) HR4.out HYL.out Z zn hZ hzn).mono ?_
      rintro e w5 ⟨A5, c5, rfl, hr5, hb5⟩
      have Hb5 := bb Hb4 hb5
      have HR5 : Hid (Rd w5 w5.heap.size A3 y) := Lib.hid ((HR4.out.below hb5).more hb5.size)
      have hs1 := string_later_rd hr5 c5 ⟨w5, grows.refl _⟩
      have hs2 := string_later_rd ((HA.out.below Hb5.out).more Hb5.out.size) bc ⟨w5, grows.refl _⟩
      rw [← hzn] at hs1
      rw [← HNN.out] at hs2
      rw [← hZ] at HOP
      clear hr5 HR4 Hb4 hZ hzn HS4 HK4
      go_wp2
      refine ⟨hb5, ?_⟩
      clear hb5
      refine segG (by kernel_rfl) (fun _ _ _ _ _ h => h) [8, 9, 10, 11, 12] [_, _, _, _, _] 0 rfl rfl (by kernel_rfl) ?_
      repeat (go_big_quiet_step (fail))
      refine wpQuiet_nil ?_
      refine wpAnyG_done (by kernel_rfl) ?_
      by_cases he : Z = s
      · subst he
        rw [if_pos rfl] at HOP
        obtain ⟨S, hS⟩ : ∃ S : ByteArray, (⟨Z.toArray⟩ : ByteArray) = S := ⟨_, rfl⟩
        rw [hS] at hs1 hs2
        clear hS
        obtain ⟨rfl, rfl, rfl⟩ : E = 0 ∧ O = y ∧ m = yn := by
          have h1 := HOP.out
          have e2 : O = y := by rw [HO.out, openSB, h1]; rfl
          exact ⟨by rw [HE.out, openSE, h1]; rfl, e2, by rw [HM.out, e2, ← HYN.out]⟩
        go_wp2
        go_ret2
        exact ⟨A3, c3, rfl, HR5.out, Hb5.out⟩
      · rw [if_neg he] at HOP
        obtain ⟨rfl, rfl, rfl⟩ : E = 12 ∧ O = [] ∧ m = 0 := by
          have h1 := HOP.out
          have e2 : O = [] := by rw [HO.out, openSB, h1]; rfl
          exact ⟨by rw [HE.out, openSE, h1]; rfl, e2, by rw [HM.out, e2]; rfl⟩
        obtain ⟨S1, hS1⟩ : ∃ S : ByteArray, (⟨Z.toArray⟩ : ByteArray) = S := ⟨_, rfl⟩
        obtain ⟨S2, hS2⟩ : ∃ S : ByteArray, (⟨s.toArray⟩ : ByteArray) = S := ⟨_, rfl⟩
        have hne : (!S1.toList == S2.toList) = true := by
          rw [← hS1, ← hS2, Lib.toList_data, Lib.toList_data]
          simpa using he
        rw [hS1] at hs1
        rw [hS2] at hs2
        clear he hS1 hS2
        go_wp2
        go_ret2
        exact ⟨none, 0, rfl, Rd.nil, Hb5.out⟩
end Go.Proofs.YtjhkodmaalefiaaDoor
namespace Go.Proofs.YtjhkodmaalefiaaDoor
open Go.RowKit Go.Gar

/-- A Reader in memory: block g holds the struct, block d its bytes l; it stands at place at. -/
def Rdr (w : World) (g d : Nat) (l : List UInt8) (at_ : Nat) (bad : Bool) : Prop :=
  Blk w g 130 [.slice (some ⟨d, 0, none⟩) l.length l.length, .int .i64 (at_ : Int), .bool bad] ∧ Blk w d 5 (u8s l)

set_option maxHeartbeats 400000 in
theorem new_any (A : Option Addr) (l : List UInt8) (c : Nat) (w : World) (hr : Rd w w.heap.size A l) (hsz : l.length ≤ 1000000000) :
    Calls Tryd.prog 46 #[.slice A l.length c] w fun e w' =>
      e = .returned (.pointer (some ⟨w.heap.size + 1, 0, none⟩)) ∧ Rdr w' (w.heap.size + 1) w.heap.size l 0 false ∧ Below w.heap.size w w' := by
  go_enter Tryd.func46, Tryd.ntmps46
  go_wp2_with fail
  refine (extended_any A l c 0 w hr (by omega)).mono ?_
  rintro e w1 ⟨rfl, hB, hb, hsz1⟩
  have HB := Lib.hid hB
  have Hb := Lib.hid hb
  have Hz := Lib.hid hsz1
  clear hB hb hsz1
  go_wp2
  go_ret
  have hz := Hz.out
  refine ⟨?_, ⟨?_, ?_⟩, Hb.out.alloc Hb.out.size _⟩
  · show Ending.returned (.pointer (some ⟨w1.heap.size, 0, none⟩)) = _
    rw [hz]
  · rw [← hz]
    exact Blk.new w1 _ [_, _, _]
  · have := HB.out
    rw [List.replicate_zero, List.append_nil] at this
    exact this.alloc _
end Go.Proofs.YtjhkodmaalefiaaDoor
namespace Go.Proofs.YtjhkodmaalefiaaDoor
open Go.RowKit Go.Gar

section
variable {w w' : World} {g d at_ : Nat} {l : List UInt8} {bad : Bool}
theorem Rdr.c0 (h : Rdr w g d l at_ bad) : w.cell? ⟨g, 0, none⟩ = some (.slice (some ⟨d, 0, none⟩) l.length l.length) := by rw [h.1.cell]; rfl
theorem Rdr.c1 (h : Rdr w g d l at_ bad) : w.cell? ⟨g, 1, none⟩ = some (.int .i64 (at_ : Int)) := by rw [h.1.cell]; rfl
theorem Rdr.c2 (h : Rdr w g d l at_ bad) : w.cell? ⟨g, 2, none⟩ = some (.bool bad) := by rw [h.1.cell]; rfl
theorem Rdr.ne (h : Rdr w g d l at_ bad) : d ≠ g := (h.2.ne h.1 (by decide))
theorem Rdr.setBad (h : Rdr w g d l at_ bad) (b : Bool) : Rdr (w.setCell ⟨g, 2, none⟩ (.bool b)) g d l at_ b := ⟨h.1.set_ 2 _, h.2.far h.ne _⟩
theorem Rdr.setAt (h : Rdr w g d l at_ bad) (k : Nat) : Rdr (w.setCell ⟨g, 1, none⟩ (.int .i64 (k : Int))) g d l k bad := ⟨h.1.set_ 1 _, h.2.far h.ne _⟩
theorem Rdr.drewN (h : Rdr w g d l at_ bad) (n : Nat) : Rdr (w.drewN n) g d l at_ bad := h
theorem Rdr.below {B : Nat} (h : Rdr w g d l at_ bad) (hb : Below B w w') (hg : g < B) (hd : d < B) : Rdr w' g d l at_ bad := ⟨h.1.below hb hg, h.2.below hb hd⟩
end

set_option maxHeartbeats 400000 in
theorem valid_nil (w : World) : Calls Tryd.prog 98 #[.pointer none] w fun e w' => e = .returned (.bool false) ∧ w' = w := by
  go_enter Tryd.func98, Tryd.ntmps98
  go_wp2
  go_ret
  exact ⟨rfl, rfl⟩

set_option maxHeartbeats 400000 in
theorem valid_any (g d at_ : Nat) (l : List UInt8) (bad : Bool) (w : World) (h : Rdr w g d l at_ bad) : Calls Tryd.prog 98 #[.pointer (some ⟨g, 0, none⟩)] w fun e w' => e = .returned (.bool (!bad)) ∧ w' = w := by
  have h2 := h.c2
  go_enter Tryd.func98, Tryd.ntmps98
  go_wp2
  go_ret
  exact ⟨rfl, rfl⟩

set_option maxHeartbeats 400000 in
theorem fail_nil (w : World) : Calls Tryd.prog 99 #[.pointer none] w fun e w' => e = .returned (.tuple #[]) ∧ w' = w := by
  go_enter Tryd.func99, Tryd.ntmps99
  go_wp2
  go_end0
  exact ⟨rfl, rfl⟩

set_option maxHeartbeats 400000 in
theorem fail_any (g d at_ : Nat) (l : List UInt8) (bad : Bool) (w : World) (h : Rdr w g d l at_ bad) : Calls Tryd.prog 99 #[.pointer (some ⟨g, 0, none⟩)] w fun e w' => e = .returned (.tuple #[]) ∧ w' = w.setCell ⟨g, 2, none⟩ (.bool true) := by
  have h2 := h.c2
  have hf := h.1.frozen 2
  go_enter Tryd.func99, Tryd.ntmps99
  go_wp2
  go_end0
  exact ⟨rfl, rfl⟩

set_option maxHeartbeats 400000 in
theorem take_nil (n : Int) (w : World) : Calls Tryd.prog 89 #[.pointer none, .int .i64 n] w fun e w' => e = .returned (.slice none 0 0) ∧ w' = w := by
  go_enter Tryd.func89, Tryd.ntmps89
  go_wp2_with (go_at_call 98; refine (valid_nil _).mono ?_; rintro e w' ⟨rfl, rfl⟩)
  go_ret
  exact ⟨rfl, rfl⟩

set_option maxHeartbeats 400000 in
theorem take_bad (g d at_ : Nat) (l : List UInt8) (n : Int) (w : World) (h : Rdr w g d l at_ true) : Calls Tryd.prog 89 #[.pointer (some ⟨g, 0, none⟩), .int .i64 n] w fun e w' => e = .returned (.slice none 0 0) ∧ w' = w := by
  go_enter Tryd.func89, Tryd.ntmps89
  go_wp2_with (go_at_call 98; refine (valid_any g d at_ l true _ h).mono ?_; rintro e w' ⟨rfl, rfl⟩)
  go_ret
  exact ⟨rfl, rfl⟩

set_option maxHeartbeats 400000 in
theorem take_short (g d at_ : Nat) (l : List UInt8) (n : Nat) (w : World) (h : Rdr w g d l at_ false) (_hat : at_ ≤ l.length) (_hl : l.length ≤ 1000000000) (_hn : l.length < at_ + n) (_hn2 : n ≤ 1000000000) :
    Calls Tryd.prog 89 #[.pointer (some ⟨g, 0, none⟩), .int .i64 (n : Int)] w fun e w' => e = .returned (.slice none 0 0) ∧ Rdr w' g d l at_ true ∧ w.grownBy w' (some g) := by
  have h0 := h.c0
  have h1 := h.c1
  go_enter Tryd.func89, Tryd.ntmps89
  go_wp2_with (go_at_call 98; refine (valid_any g d at_ l false _ h).mono ?_; rintro e w' ⟨rfl, rfl⟩)
  go_quiet (fail)
  go_wp2_with fail
  refine (fail_any g d at_ l false (w'.drewN nq) (h.drewN nq)).mono ?_
  rintro e w2 ⟨rfl, rfl⟩
  have hr : Rdr ((w'.drewN nq).setCell ⟨g, 2, none⟩ (.bool true)) g d l at_ true := Rdr.setBad (w := w'.drewN nq) h true
  have hg : w'.grownBy ((w'.drewN nq).setCell ⟨g, 2, none⟩ (.bool true)) (some g) := grown_set (only_drewN (World.grownBy.refl w' _) nq) _
  have HR := Lib.hid hr
  have HG := Lib.hid hg
  clear hr hg h h0 h1
  generalize (w'.drewN nq).setCell ⟨g, 2, none⟩ (.bool true) = w3 at *
  go_wp2
  go_ret
  exact ⟨rfl, HR.out, HG.out⟩

/-- The value is a slice of n elements that reads as l. -/
def GotSlice (w' : World) (l : List UInt8) (e : Ending) : Prop := ∃ A c, e = .returned (.slice A l.length c) ∧ Rd w' w'.heap.size A l

theorem take_end {w : World} {g d at_ n : Nat} {l : List UInt8} (h : Rdr w g d l at_ false) (hn : at_ + n ≤ l.length) (p q : Nat) (A : Option Addr) (c : Nat) (hA : n = 0 ∨ A = some ⟨d, at_, none⟩ ) :
    GotSlice (((w.drewN p).setCell ⟨g, 1, none⟩ (.int .i64 ((at_ : Int) + (n : Int)))).drewN q) ((l.drop at_).take n) (.returned (.slice A n c)) ∧
      Rdr (((w.drewN p).setCell ⟨g, 1, none⟩ (.int .i64 ((at_ : Int) + (n : Int)))).drewN q) g d l (at_ + n) false ∧ w.grownBy (((w.drewN p).setCell ⟨g, 1, none⟩ (.int .i64 ((at_ : Int) + (n : Int)))).drewN q) (some g) := by
  have hr : Rdr (((w.drewN p).setCell ⟨g, 1, none⟩ (.int .i64 ((at_ : Int) + (n : Int)))).drewN q) g d l (at_ + n) false := by
    have := (h.drewN p).setAt (at_ + n)
    rw [Int.natCast_add] at this
    exact this.drewN q
  refine ⟨⟨A, c, ?_, ?_⟩, hr, only_drewN (grown_set (only_drewN (World.grownBy.refl w _) p) _) q⟩
  · simp [Nat.min_eq_left (show n ≤ l.length - at_ by omega)]
  · rcases hA with rfl | rfl
    · exact .inl (by simp)
    · exact Rd.of_blk l hr.2 hr.2.lt at_ n

set_option maxHeartbeats 400000 in
theorem take_fit (g d at_ : Nat) (l : List UInt8) (n : Nat) (w : World) (h : Rdr w g d l at_ false) (hl : l.length ≤ 1000000000) (hn : at_ + n ≤ l.length) :
    Calls Tryd.prog 89 #[.pointer (some ⟨g, 0, none⟩), .int .i64 (n : Int)] w fun e w' => GotSlice w' ((l.drop at_).take n) e ∧ Rdr w' g d l (at_ + n) false ∧ w.grownBy w' (some g) := by
  have h0 := h.c0
  have h1 := h.c1
  have hf1 := h.1.frozen 1
  go_enter Tryd.func89, Tryd.ntmps89
  go_wp2_with (go_at_call 98; refine (valid_any g d at_ l false _ h).mono ?_; rintro e w' ⟨rfl, rfl⟩)
  go_quiet (fail)
  go_wp2
  go_quiet (fail)
  go_wp2
  all_goals go_ret
  · exact take_end ‹_› hn _ _ _ _ (.inl (by omega))
  · exact take_end ‹_› hn _ _ _ _ (.inr rfl)
end Go.Proofs.YtjhkodmaalefiaaDoor
namespace Go.Proofs.YtjhkodmaalefiaaDoor
open Go.RowKit Go.Gar

/-- The number that bytes say, the highest first. -/
def val (l : List UInt8) : Nat := l.foldl (fun n c => n * 256 + c.toNat) 0
theorem val_snoc (l : List UInt8) (c : UInt8) : val (l ++ [c]) = val l * 256 + c.toNat := by simp [val]
theorem val_lt (l : List UInt8) : val l < 256 ^ l.length := by
  suffices h : ∀ k : List UInt8, val k.reverse < 256 ^ k.length by simpa using h l.reverse
  intro k
  induction k with
  | nil => simp [val]
  | cons c k ih =>
    rw [List.reverse_cons, val_snoc, List.length_cons, Nat.pow_succ]
    have := c.toNat_lt
    omega

theorem or_comm_u64 (x y : Int) : bits .or .u64 x y = bits .or .u64 y x := by
  show IntKind.u64.wrap ((BitVec.ofInt 64 x ||| BitVec.ofInt 64 y).toNat : Int) = IntKind.u64.wrap ((BitVec.ofInt 64 y ||| BitVec.ofInt 64 x).toNat : Int)
  rw [BitVec.or_comm]
theorem step_u64 (n c : Nat) (hn : n < 72057594037927936) (hc : c < 256) : bits .or .u64 (IntKind.u64.wrap ((n : Int) * 256)) (IntKind.u64.wrap (c : Int)) = ((n * 256 + c : Nat) : Int) := by
  rw [or_comm_u64, wraps_u64 (c : Int) (by omega) (by omega), wraps_u64 ((n : Int) * 256) (by omega) (by omega), u64_or8 (c : Int) ((n : Int) * 256) (by omega) (by omega) (by omega) (by omega) (by omega)]
  omega
theorem val_take_lt (x : List UInt8) (k : Nat) (h : k < 8) : val (x.take k) < 72057594037927936 := by
  refine Nat.lt_of_lt_of_le (val_lt _) ?_
  refine Nat.le_trans (Nat.pow_le_pow_right (by omega) (show (x.take k).length ≤ 7 by rw [List.length_take]; omega)) (by decide)

set_option maxHeartbeats 400000 in
theorem rnum_nil (n : Int) (w : World) : Calls Tryd.prog 77 #[.pointer none, .int .i64 n] w fun e w' => e = .returned (.int .u64 0) ∧ w' = w := by
  go_enter Tryd.func77, Tryd.ntmps77
  go_wp2_with (go_at_call 89; refine (take_nil _ _).mono ?_; rintro e w' ⟨rfl, rfl⟩)
  refine wp_loop_rounds 1 ?_
  rw [rounds_succ]
  go_wp2
  go_ret
  exact ⟨rfl, rfl⟩

set_option maxHeartbeats 400000 in
theorem rnum_bad (g d at_ : Nat) (l : List UInt8) (n : Int) (w : World) (h : Rdr w g d l at_ true) : Calls Tryd.prog 77 #[.pointer (some ⟨g, 0, none⟩), .int .i64 n] w fun e w' => e = .returned (.int .u64 0) ∧ w' = w := by
  go_enter Tryd.func77, Tryd.ntmps77
  go_wp2_with (go_at_call 89; refine (take_bad g d at_ l _ _ h).mono ?_; rintro e w' ⟨rfl, rfl⟩)
  refine wp_loop_rounds 1 ?_
  rw [rounds_succ]
  go_wp2
  go_ret
  exact ⟨rfl, rfl⟩

set_option maxHeartbeats 400000 in
theorem rnum_short (g d at_ : Nat) (l : List UInt8) (n : Nat) (w : World) (h : Rdr w g d l at_ false) (hat : at_ ≤ l.length) (hl : l.length ≤ 1000000000) (hn : l.length < at_ + n) (hn2 : n ≤ 1000000000) :
    Calls Tryd.prog 77 #[.pointer (some ⟨g, 0, none⟩), .int .i64 (n : Int)] w fun e w' => e = .returned (.int .u64 0) ∧ Rdr w' g d l at_ true ∧ w.grownBy w' (some g) := by
  go_enter Tryd.func77, Tryd.ntmps77
  go_wp2_with (go_at_call 89; refine (take_short g d at_ l n _ h hat hl hn hn2).mono ?_; rintro e w2 ⟨rfl, hr, hg⟩; have HR := Lib.hid hr; have HG := Lib.hid hg; clear hr hg)
  refine wp_loop_rounds 1 ?_
  rw [rounds_succ]
  go_wp2
  go_ret
  exact ⟨rfl, HR.out, HG.out⟩

set_option maxHeartbeats 400000 in
theorem rnum_fit (g d at_ : Nat) (l : List UInt8) (n : Nat) (w : World) (h : Rdr w g d l at_ false) (hl : l.length ≤ 1000000000) (hn : at_ + n ≤ l.length) (hn2 : n ≤ 8) :
    Calls Tryd.prog 77 #[.pointer (some ⟨g, 0, none⟩), .int .i64 (n : Int)] w fun e w' => e = .returned (.int .u64 (val ((l.drop at_).take n) : Int)) ∧ Rdr w' g d l (at_ + n) false ∧ w.grownBy w' (some g) := by
  go_enter Tryd.func77, Tryd.ntmps77
  go_wp2_with fail
  refine (take_fit g d at_ l n _ h hl hn).mono ?_
  rintro e w2 ⟨⟨A, c, rfl, hrd⟩, hr, hg⟩
  have HR := Lib.hid hr
  have HG := Lib.hid hg
  have hlen : ((l.drop at_).take n).length = n := by simp; omega
  clear hr hg
  generalize hx : (l.drop at_).take n = x at *
  have HX := Lib.hid hx
  have HRD := Lib.hid hrd
  clear hx hrd
  subst hlen
  go_wp2_with fail
  go_loop [5, 12] (fun a i => ∃ k : Nat, k ≤ x.length ∧ i = .int .i64 k ∧ a = .int .u64 (val (x.take k) : Int)) (fun _ i => x.length - (intOf i).toNat)
  case atStart => exact ⟨0, by omega, rfl, rfl⟩
  case round =>
    obtain ⟨k, hk, rfl, rfl⟩ := hrel
    by_cases hlt : k < x.length
    · rcases HRD.out with hnil | ⟨b, o, rfl, hb, hc⟩
      · rw [hnil] at hlt; simp at hlt
      · have hck := hc k x[k] (List.getElem?_eq_getElem hlt)
        have hs := step_u64 (val (x.take k)) x[k].toNat (val_take_lt x k (by omega)) x[k].toNat_lt
        rw [← val_snoc, ← List.take_succ_eq_append_getElem hlt] at hs
        have HS := Lib.hid hs
        clear hc hs
        go_wp2
        exact ⟨⟨k + 1, by omega, by go_num, by rw [HS.out]⟩, by simp [intOf]; omega⟩
    · obtain rfl : k = x.length := by omega
      go_wp2
      go_ret
      exact ⟨by rw [HX.out]; simp, HR.out, HG.out⟩
end Go.Proofs.YtjhkodmaalefiaaDoor
