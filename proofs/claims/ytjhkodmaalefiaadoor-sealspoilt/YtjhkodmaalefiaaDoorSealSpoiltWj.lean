/-
  Layer 10: SealSpoilt, walked from the contracts of seal's and mac's functions.
-/
import Derived.Test.YtjhkodmaalefiaaDoorSealJ24
set_option maxRecDepth 100000
namespace Go.Gar
open Go.RowKit
section
variable {P : Program} {w : World} {base : Nat} {e : TypeId} {v : Value} {k : List UInt8}
theorem app_rd47 (t ty : TypeId) (ht : P.underlying t = some (.slice e)) (hinfo : (P.info? e).map (fun i => (i.zero, i.size, i.bytes)) = some (some (.int .u8 0), 1, 1))
    (hown : OwnB w base e v k) (hbase : base ≤ w.heap.size) {B : Nat} {A : Option Addr} {l : List UInt8} (c : Nat) (hr : Rd w B A l) (hlen : k.length + l.length ≤ 140737488355328) :
    ∃ v' w', (Builtin.append_ #[t, t] ty #[v, .slice A l.length c]).run P w = .ok v' w' ∧ OwnB w' base e v' (k ++ l) ∧ Below base w w' ∧ w.grownBy w' v.ownBlock := by
  obtain ⟨i, hi, hzz⟩ := Option.map_eq_some_iff.1 hinfo
  simp only [Prod.mk.injEq] at hzz
  obtain ⟨hz, hs, hby⟩ := hzz
  cases A with
  | none =>
    have hl : l = [] := by
      rcases hr with hl | ⟨b, o, h, _⟩
      · exact hl
      · cases h
    subst hl
    refine ⟨v, w, ?_, by simpa using hown, Below.refl _ _, World.grownBy.refl _ _⟩
    rcases hown.2 with ⟨rfl, hn⟩ | ⟨g, cap, cur, rfl, _, _, hnc, _⟩
    · simp [Builtin.append_, run_underlying ht, sizeOf, typeInfo, hi, Builtin.lenOf, Builtin.firstCells]
    · simp [Builtin.append_, run_underlying ht, sizeOf, typeInfo, hi, Builtin.lenOf, Builtin.firstCells, hnc, storeCells]
  | some a =>
    obtain ⟨v', w', h1, h2, h3, _⟩ := run_append_own (P := P) w base t ty e i _ 1 1 ht hi hz hs hby rfl (by omega) v k.length (u8s k) hown a l.length c (u8s l) (by simp [u8s_len]) (by
      intro j u hj
      rw [u8s_get] at hj
      rcases hr with rfl | ⟨b, o, hA, _, hc⟩
      · simp at hj
      · injection hA with hA
        subst hA
        cases hq : l[j]? with
        | none => simp [hq] at hj
        | some c =>
          rw [hq] at hj
          simp at hj
          subst hj
          have : (⟨b, o, none⟩ : Addr).add j = ⟨b, o + j, none⟩ := Addr.add_lit _ _ _
          rw [this]
          exact hc j c hq) (u8s_one l) (by simp only [maxLen]; omega) (by omega) hbase
    refine ⟨v', w', h1, ?_, hown.below h3 hbase, h3⟩
    unfold OwnB
    rw [List.length_append, u8s_app]
    exact h2

end
end Go.Gar
namespace Go.Proofs.YtjhkodmaalefiaaDoor
open Go.RowKit Go.Gar Go.Gar.Aes

/-- What stays as it was while the tag's variable is made. -/
structure SitT (w11 W : World) (gk : Nat) (k : List UInt8) (A : Option Addr) (t : List UInt8) : Prop where
  k : Blk W gk 24 (u8s k)
  rd : Rd W W.heap.size A t
  q : Below w11.heap.size w11 W
theorem SitT.on {w11 W W' : World} {gk : Nat} {k : List UInt8} {A : Option Addr} {t : List UInt8} (h : SitT w11 W gk k A t) (hb : Below W.heap.size W W') : SitT w11 W' gk k A t :=
  ⟨h.k.below hb h.k.lt, (h.rd.below hb).more hb.size, h.q.trans (hb.mono h.q.size)⟩
theorem rd_key {W : World} {g : Nat} {k : List UInt8} (h : Blk W g 24 (u8s k)) (hk : k.length = 64) : Rd W W.heap.size (some ⟨g, 32, none⟩) (k.drop 32) := by
  have := Rd.of_blk k h h.lt 32 32
  rw [show (k.drop 32).take 32 = k.drop 32 from List.take_of_length_le (by rw [List.length_drop, hk]; omega)] at this
  exact this
theorem cut_fromz (g o n c k m : Nat) (z : Int) (hz : z = (k : Int)) (hm : m = n - k) (h : k ≤ n) (h3 : k < c) (W : World) :
    (Instr.sliceAt 26 (.slice (some ⟨g, o, none⟩) n c) (some (.int .i64 z)) none none).run Tryd.prog W = .ok (.slice (some ⟨g, o + k, none⟩) m (c - k)) W := by
  subst hz
  exact cut_from g o n c k m hm h h3 W
theorem own_out {w : World} {base : Nat} {e : TypeId} {v : Value} {k : List UInt8} (h : OwnB w base e v k) : ∃ A c, v = .slice A k.length c ∧ k.length ≤ c ∧ Rd w w.heap.size A k := by
  obtain ⟨A, c, rfl, hr⟩ := h.rd
  refine ⟨A, c, rfl, ?_, hr⟩
  rcases h.2 with ⟨hv, hn⟩ | ⟨g, cap, cur, hv, _, _, hc, _⟩
  · omega
  · injection hv with _ _ h3
    omega
set_option maxHeartbeats 4000000 in
theorem sealspoilt_walk {G : World → Prop} (hOK : SealOK G) (hMac : MacOK G) (A P : Option Addr) (p : List UInt8) (pn pc : Nat) (at_ : Nat) (z : UInt8) (l d k iv : List UInt8) (id gen : Int) (c m : Nat) (w : World) (hG : G w) (hk : k.length = 64) (hiv : iv.length = 16) (hid : isI64 id) (hgen : isI64 gen) (hc : l.length ≤ c) (hdl : d.length = m) (hm : m = min l.length 200) (hr : Rd w w.heap.size A d) (hpn : pn = p.length) (hpl : pn ≤ 140737488355328) (hat : at_ < 65536) (hrp : Rd w w.heap.size P p) :
    Calls Tryd.prog 6 #[.agg (u8s k).toArray, .agg (u8s iv).toArray, .int .i64 id, .int .i64 gen, .slice A l.length c, .slice P pn pc, .int .u16 (at_ : Int), .int .u8 (z.toNat : Int)] w fun e w' => e = .returned (.bool true) ∧ Below w.heap.size w w' := by
  have hm200 : m ≤ 200 := by omega
  have hmc : m ≤ c := by omega
  have hK0 := Blk.new w 24 (u8s k)
  have hb0 := below_alloc w (.cells (u8s k).toArray 24)
  obtain ⟨w0, hw0⟩ : ∃ w0, w.alloc (.cells (u8s k).toArray 24) = w0 := ⟨_, rfl⟩
  rw [hw0] at hK0 hb0
  have hV1 := Blk.new w0 25 (u8s iv)
  have hb1 := below_alloc w0 (.cells (u8s iv).toArray 25)
  have hK1 := hK0.alloc (.cells (u8s iv).toArray 25)
  obtain ⟨w1, hw1⟩ : ∃ w1, w0.alloc (.cells (u8s iv).toArray 25) = w1 := ⟨_, rfl⟩
  rw [hw1] at hV1 hb1 hK1
  have hs0 : w0.heap.size = w.heap.size + 1 := by rw [← hw0, World.size_alloc]
  obtain ⟨Z, hZ⟩ : ∃ Z, Z = sealS k iv id gen d := ⟨_, rfl⟩
  obtain ⟨zn, hzn⟩ : ∃ zn, zn = Z.length := ⟨_, rfl⟩
  have hzl : zn ≤ 900000 := by rw [hzn, hZ, sealS_len _ _ _ _ _ hiv, hdl]; omega
  have hzl2 : zn ≤ 280 := by rw [hzn, hZ, sealS_len _ _ _ _ _ hiv, hdl]; omega
  have hzl3 : 88 ≤ zn := by rw [hzn, hZ, sealS_len _ _ _ _ _ hiv, hdl]; omega
  have hop : openS k id gen Z = some d := by rw [hZ]; exact openS_seal _ _ _ _ _ hiv
  have HOP := Lib.hid hop
  have HZL := Lib.hid hzl
  clear hop hzl
  have HOK := Lib.hid hOK
  have HG := Lib.hid hG
  have HK := Lib.hid hk
  have HIV := Lib.hid hiv
  have HI := Lib.hid hid
  have HJ := Lib.hid hgen
  have HMac := Lib.hid hMac
  have HPN := Lib.hid hpn
  have HRP := Lib.hid hrp
  have HDl := Lib.hid hdl
  have HM := Lib.hid hm
  have HR := Lib.hid hr
  have HW0 := Lib.hid hw0
  have HW1 := Lib.hid hw1
  have HSz := Lib.hid hs0
  have HK1 := Lib.hid hK1
  have HV1 := Lib.hid hV1
  have HZ := Lib.hid hZ
  have HZN := Lib.hid hzn
  have Hb1 := Lib.hid (hb0.trans (hb1.mono hb0.size))
  clear hOK hG hk hiv hid hgen hMac hpn hrp hdl hm hr hw0 hw1 hs0 hK0 hK1 hV1 hb0 hb1 hZ hzn
  go_enter Tryd.func6, Tryd.ntmps6
  go_wp2_with fail
  rw [HW0.out, HW1.out, ← HSz.out]
  clear HW0 HW1 HSz
  obtain ⟨gv, hgv⟩ : ∃ g, w0.heap.size = g := ⟨_, rfl⟩
  obtain ⟨gk, hgk⟩ : ∃ g, w.heap.size = g := ⟨_, rfl⟩
  rw [hgv] at HV1 ⊢
  have HK1' : Hid (Blk w1 gk 24 (u8s k)) := Lib.hid (by rw [← hgk]; exact HK1.out)
  clear hgv HK1
  refine wp_region_G grows (by kernel_rfl) ?_
  have HK2 := Lib.hid HK1'.out.drew
  have HV2 := Lib.hid HV1.out.drew
  have Hb2 := Lib.hid Hb1.out.drew
  clear HK1' HV1 Hb1
  generalize w1.drew = w2 at HK2 HV2 Hb2 ⊢
  have hld1 := load_k_later HK2.out HK.out
  have hld2 := load_v_later HV2.out HIV.out
  rw [hgk]
  refine segG (by kernel_rfl) (fun _ _ _ _ _ h => h) [0, 1, 2, 3, 4] [_, _, _, _, _] 7 rfl rfl (by kernel_rfl) ?_
  refine wpQuiet_load_arr 24 (.tmp 8) rfl rfl (u8s k).toArray hld1 (by kernel_rfl) ?_
  simp only [Act.put, List.setIfInBounds_toArray, List.set]
  refine wpQuiet_load_arr 25 (.tmp 9) rfl rfl (u8s iv).toArray hld2 (by kernel_rfl) ?_
  simp only [Act.put, List.setIfInBounds_toArray, List.set]
  repeat (go_big_quiet_step (fail))
  refine wpQuiet_nil ?_
  clear hld1 hld2
  refine oneG 5 6 rfl (by kernel_rfl) rfl ?_
  go_wp2_with fail
  refine (short10_any A l.length c m w2 HM.out hc).mono ?_
  rintro e w3 ⟨rfl, rfl⟩
  go_wp2
  refine ⟨grows.refl _, ?_⟩
  refine oneG 6 5 rfl (by kernel_rfl) rfl ?_
  go_wp2_with fail
  refine (sealS_at HOK.out w3 k iv d _ _ id gen A m c zn Z rfl rfl (HOK.out.keep HG.out Hb2.out) HK.out HIV.out HI.out HJ.out ((HR.out.below Hb2.out).more Hb2.out.size) HDl.out.symm hmc (by omega) HZ.out HZN.out).mono ?_
  rintro e w4 ⟨A4, c4, rfl, hc4, hr4, hb4⟩
  have HK4 := Lib.hid (HK2.out.below hb4 HK2.out.lt)
  have HV4 := Lib.hid (HV2.out.below hb4 HV2.out.lt)
  have HR4 := Lib.hid hr4
  have Hb4 := bb Hb2 hb4
  clear hr4 HK2 HV2 Hb2
  go_wp2
  refine ⟨hb4, ?_⟩
  clear hb4
  refine segG (by kernel_rfl) (fun _ _ _ _ _ h => h) [7, 8, 9, 10, 11] [_, _, _, _, _] 0 rfl rfl (by kernel_rfl) ?_
  repeat (go_big_quiet_step (fail))
  refine wpQuiet_nil ?_
  refine wpAnyG_done (by kernel_rfl) ?_
  have hnz : ((zn : Int) == 0) = false := by simp; omega
  have hb5 := below_alloc w4 (.cells #[] 5)
  have hO5 := own_made w4 w4.heap.size 5 (Nat.le_refl _)
  obtain ⟨v6, w6, e6, hO6, hb6, _⟩ := app_rd47 (P := Tryd.prog) 26 26 Tryd.und22 Tryd.info5 hO5 hb5.size pc ((HRP.out.below (Hb4.out.trans (hb5.mono Hb4.out.size)))) (by rw [← HPN.out]; simpa using hpl)
  rw [← HPN.out] at e6
  rw [List.nil_append] at hO6
  obtain ⟨A6, c6, rfl, hc6, hr6⟩ := own_out hO6
  rw [← HPN.out] at hc6 e6
  have hbw6 := hb5.trans hb6
  have HK6 := Lib.hid (HK4.out.below hbw6 HK4.out.lt)
  have HR6z := Lib.hid ((HR4.out.below hbw6).more hbw6.size)
  have Hb6 := bb Hb4 hbw6
  have HR6 := Lib.hid hr6
  have He6 := Lib.hid e6
  clear hb5 hO5 e6 hO6 hb6 hr6 hbw6 HK4 HR4 Hb4
  go_upto_if 45 with (at_builtin; refine wpList_append_run rfl (.tmp 40) (.tmp 41) _ rfl rfl rfl He6.out ?_)
  clear He6
  go_cut [19] from 43 to 59 (fun v wx => ∃ (A7 : Option Addr) (X : List UInt8) (xn c7 : Nat), v = .slice A7 xn c7 ∧ xn = X.length ∧ xn ≤ c7 ∧ xn ≤ 140737488355328 ∧ Rd wx wx.heap.size A7 X ∧ Below w6.heap.size w6 wx)
  case first =>
    by_cases hz4 : z.toNat % 4 = 0
    · have hq : ((z.toNat : Int) % 4 != 0) = false := by simp; omega
      go_wp2
      go_meet
      case rel => exact ⟨A6, p, pn, c6, rfl, HPN.out, hc6, hpl, HR6.out, Below.refl _ _⟩
    · have hq : ((z.toNat : Int) % 4 != 0) = true := by simp; omega
      have hb7 := below_alloc w6 (.cells #[] 5)
      have hO7 := own_made w6 w6.heap.size 5 (Nat.le_refl _)
      obtain ⟨v8, w8, e8, hO8, hb8, _⟩ := app_rd47 (P := Tryd.prog) 26 26 Tryd.und22 Tryd.info5 hO7 hb7.size c4 (HR6z.out.below hb7) (by rw [← HZN.out]; simp; omega)
      rw [← HZN.out] at e8
      rw [List.nil_append] at hO8
      obtain ⟨g8, c8, rest8, rfl, hg8, hc8, hB8⟩ := hO8.blk (by rw [← HZN.out]; omega)
      rw [← HZN.out] at hc8 e8
      obtain ⟨i, hi⟩ : ∃ i, at_ % zn = i := ⟨_, rfl⟩
      have hmod : (at_ : Int) % (zn : Int) = (i : Int) := by rw [← hi]; omega
      have hilt : i < zn := by rw [← hi]; exact Nat.mod_lt _ (by omega)
      have hiz : i < Z.length := by rw [← HZN.out]; exact hilt
      have hcell : w8.cell? ⟨g8, i, none⟩ = some (.int .u8 ((Z[i]).toNat : Int)) := by
        rw [hB8.cell, List.getElem?_append_left (by rw [u8s_len]; exact hiz), u8s_get, List.getElem?_eq_getElem hiz]; rfl
      have hfz := hB8.frozen i
      obtain ⟨ch, hch⟩ : ∃ ch, Z[i] = ch := ⟨_, rfl⟩
      rw [hch] at hcell
      have hset := hB8.set_ i (.int .u8 (bits .xor .u8 (ch.toNat : Int) (z.toNat : Int)))
      rw [xor_byte, List.set_append_left _ _ (by rw [u8s_len]; exact hiz), u8s_set, ← xor_byte] at hset
      have hbe := (hb7.trans hb8).setCell (p := ⟨g8, i, none⟩) hg8 (.int .u8 (bits .xor .u8 (ch.toNat : Int) (z.toNat : Int)))
      have HSet := Lib.hid hset
      have Hbe := Lib.hid hbe
      have He8 := Lib.hid e8
      have HLs : Hid (zn = (Z.set i (ch ^^^ z)).length) := Lib.hid (by rw [List.length_set]; exact HZN.out)
      clear hb7 hO7 hO8 hB8 e8 hb8 hi hiz hch hset hbe hg8
      go_wp2_with (at_builtin; refine wpList_append_run rfl (.tmp 46) (.tmp 47) _ rfl rfl rfl He8.out ?_)
      go_meet
      case rel => exact ⟨_, Z.set i (ch ^^^ z), zn, c8, rfl, HLs.out, hc8, by omega, Rd.of_row HSet.out, Hbe.out⟩
  case rest =>
    obtain ⟨A7, X, xn, c7, rfl, hxn, hc7, hx47, hr7, hb7⟩ := hcut
    have HK7 := Lib.hid (HK6.out.below hb7 HK6.out.lt)
    have HR7z := Lib.hid ((HR6z.out.below hb7).more hb7.size)
    have Hb7 := bb Hb6 hb7
    have HXN := Lib.hid hxn
    have HR7 := Lib.hid hr7
    clear hxn hr7 hb7 HK6 HR6z HR6 Hb6 HPN HRP
    go_upto_if 62 with fail
    go_cut [19] from 60 to 64 (fun v wy => ∃ (A8 : Option Addr) (Y : List UInt8) (yn c8 : Nat), v = .slice A8 yn c8 ∧ yn = Y.length ∧ yn ≤ c8 ∧ yn ≤ 400 ∧ Rd wy wy.heap.size A8 Y ∧ wy = wc)
    case first =>
      by_cases h4 : xn ≤ 400
      · have hd1 : ¬ (400 : Int) < (xn : Int) := by omega
        go_wp2
        go_meet
        case rel => exact ⟨A7, X, xn, c7, rfl, HXN.out, hc7, h4, HR7.out, rfl⟩
      · have hd1 : (400 : Int) < (xn : Int) := by omega
        have hcx : (400 : Int) ≤ (c7 : Int) := by omega
        go_wp2
        go_meet
        case rel => exact ⟨A7, X.take 400, 400, c7, rfl, by rw [List.length_take, ← HXN.out]; omega, by omega, Nat.le_refl _, HR7.out.take 400, rfl⟩
    case rest =>
      obtain ⟨A8, Y, yn, c8, rfl, hyn, hc8, hy4, hr8, rfl⟩ := hcut
      have HYN := Lib.hid hyn
      have HR8 := Lib.hid hr8
      clear hyn hr8 HXN HR7 hx47 hc7
      have hld := load_keys HK7.out HK.out
      obtain ⟨E, hE⟩ : ∃ E : Int, E = ((openSE k id gen Y : Nat) : Int) := ⟨_, rfl⟩
      obtain ⟨O, hO⟩ : ∃ O, O = openSB k id gen Y := ⟨_, rfl⟩
      obtain ⟨on, hon⟩ : ∃ on, on = O.length := ⟨_, rfl⟩
      have HON := Lib.hid hon
      clear hon
      go_wp2_with (refine wpList_load_arr_w 24 (.tmp 8) rfl rfl (u8s k).toArray hld (by kernel_rfl) ?_)
      clear hld
      refine (sealO_at HOK.out wc k Y _ id gen A8 yn c8 on E O rfl (HOK.out.keep HG.out Hb7.out) HK.out HI.out HJ.out HR8.out HYN.out hc8 (by omega) hE hO HON.out).mono ?_
      rintro e w11 ⟨A11, c11, rfl, hc11, hr11, hb11⟩
      have HR11 := Lib.hid hr11
      have HKy := Lib.hid (HK7.out.below hb11 HK7.out.lt)
      have HRy := Lib.hid ((HR8.out.below hb11).more hb11.size)
      have HRz := Lib.hid ((HR7z.out.below hb11).more hb11.size)
      have Hby := bb Hb7 hb11
      clear hr11 hb11 HK7 HR8 HR7z Hb7
      rcases hcase : openS k id gen Y with _ | y
      · obtain ⟨rfl, rfl, rfl⟩ : E = 12 ∧ O = [] ∧ on = 0 := by
          have e2 : O = [] := by rw [hO, openSB, hcase]; rfl
          exact ⟨by rw [hE, openSE, hcase]; rfl, e2, by rw [HON.out, e2]; rfl⟩
        clear hE hO hcase
        go_wp2_with fail
        refine (awake10_any HOK.out w11 (HOK.out.keep HG.out Hby.out)).mono ?_
        rintro e w12 ⟨rfl, hb12⟩
        have Hb12 := bb Hby hb12
        clear hb12
        go_wp2
        go_ret
        exact ⟨by simp, Hb12.out⟩
      · obtain ⟨rfl, rfl⟩ : E = 0 ∧ O = y := ⟨by rw [hE, openSE, hcase]; rfl, by rw [hO, openSB, hcase]; rfl⟩
        have HCS := Lib.hid hcase
        clear hE hO hcase
        have hs1 := string_later_rd HRy.out c8 ⟨w11, grows.refl _⟩
        have hs2 := string_later_rd HRz.out c4 ⟨w11, grows.refl _⟩
        rw [← HYN.out] at hs1
        rw [← HZN.out] at hs2
        by_cases hxz : Y = Z
        · obtain rfl : d = O := Option.some.inj (by rw [← HOP.out, ← hxz, HCS.out])
          rw [hxz] at hs1
          obtain ⟨S, hS⟩ : ∃ S : ByteArray, (⟨Z.toArray⟩ : ByteArray) = S := ⟨_, rfl⟩
          rw [hS] at hs1 hs2
          obtain rfl : on = m := by rw [HON.out, HDl.out]
          clear hS hxz HCS
          go_wp2_with fail
          refine wp_region_G grows (by kernel_rfl) ?_
          have HR12 : Hid (Rd w11.drew w11.drew.heap.size A11 d) := Lib.hid HR11.out
          have Hb12 := Lib.hid Hby.out.drew
          clear HR11 Hby hs1 hs2 HRy HRz HKy
          generalize w11.drew = w12 at HR12 Hb12 ⊢
          refine oneG 0 9 rfl (by kernel_rfl) rfl ?_
          go_wp2_with fail
          refine (awake10_any HOK.out w12 (HOK.out.keep HG.out Hb12.out)).mono ?_
          rintro e w13 ⟨rfl, hb13⟩
          have Hb13 := bb Hb12 hb13
          have hs3 := string_later_rd ((HR12.out.below hb13).more hb13.size) c11
          have hs4 := string_later_rd ((HR.out.below Hb13.out).more Hb13.out.size) c
          rw [HDl.out] at hs3 hs4
          obtain ⟨S3, hS3⟩ : ∃ S : ByteArray, (⟨d.toArray⟩ : ByteArray) = S := ⟨_, rfl⟩
          rw [hS3] at hs3 hs4
          clear hS3 HR12 Hb12
          go_wp2
          refine ⟨hb13, ?_⟩
          clear hb13
          refine segG (by kernel_rfl) (fun _ _ _ _ _ h => h) [1, 2, 3, 4] [_, _, _, _] 5 rfl rfl (by kernel_rfl) ?_
          repeat (go_big_quiet_step (fail))
          refine wpQuiet_nil ?_
          refine oneG 5 4 rfl (by kernel_rfl) rfl ?_
          go_wp2_with fail
          refine (short10_any A l.length c on w13 HM.out hc).mono ?_
          rintro e w14 ⟨rfl, rfl⟩
          go_wp2
          refine ⟨grows.refl _, ?_⟩
          refine segG (by kernel_rfl) (fun _ _ _ _ _ h => h) [6, 7, 8, 9] [_, _, _, _] 0 rfl rfl (by kernel_rfl) ?_
          repeat (go_big_quiet_step (fail))
          refine wpQuiet_nil ?_
          refine wpAnyG_done (by kernel_rfl) ?_
          go_wp2
          go_ret
          exact ⟨by simp, Hb13.out⟩
        · obtain ⟨S1, hS1⟩ : ∃ S : ByteArray, (⟨Y.toArray⟩ : ByteArray) = S := ⟨_, rfl⟩
          obtain ⟨S2, hS2⟩ : ∃ S : ByteArray, (⟨Z.toArray⟩ : ByteArray) = S := ⟨_, rfl⟩
          have hne : (S1.toList == S2.toList) = false := by
            rw [← hS1, ← hS2, Lib.toList_data, Lib.toList_data]
            simpa using hxz
          rw [hS1] at hs1
          rw [hS2] at hs2
          obtain ⟨hx88, htag⟩ := openS_tag HCS.out
          rw [← HYN.out] at hx88 htag
          obtain ⟨T, hT⟩ : ∃ T, Y.drop (yn - 32) = T := ⟨_, rfl⟩
          rw [hT] at htag
          obtain ⟨xb, xo, rfl⟩ := rd_at HRy.out (by have := HYN.out; omega)
          have hTl : T.length = 32 := by rw [← hT, List.length_drop, ← HYN.out]; omega
          have HTg : Hid (T = Mac.of (k.drop 32) (Y.take (yn - 32))) := Lib.hid htag.symm
          have HTd := Lib.hid hT
          have HTl := Lib.hid hTl
          have hcut := cut_to xb xo yn c8 (yn - 32) ((yn : Int) - 32) (by omega) (by omega)
          have HSz := Lib.hid (size_32 T hTl)
          have HLn : Hid (z32.length = (u8s T).length) := Lib.hid (by rw [u8s_len, hTl, z32_len])
          clear hS1 hS2 hxz htag hT hTl
          go_upto_region 15 with fail
          clear hs1 hs2 hne
          go_cut [22] from 99 to 107 (fun t wz => ∃ gT, t = .pointer (some ⟨gT, 0, none⟩) ∧ Blk wz gT 22 (u8s T) ∧ Below w11.heap.size w11 wz)
          case first =>
            refine wp_region_G grows (by kernel_rfl) ?_
            have HSit0 : Hid (SitT w11 w11.drew gk k (some ⟨xb, xo, none⟩) (Y.take (yn - 32))) := Lib.hid ⟨HKy.out.drew, (HRy.out.take (yn - 32)), (Below.refl _ w11).drew⟩
            generalize w11.drew = wz0 at HSit0 ⊢
            refine segG (by kernel_rfl) (fun _ _ _ _ _ h => h) [0, 1, 2, 3, 4, 5, 6] [_, _, _, _, _, _, _] 4 rfl rfl (by kernel_rfl) ?_
            repeat (go_big_quiet_step (fail))
            refine wpQuiet_nil ?_
            clear hcut
            refine twoG 7 9 3 rfl (by kernel_rfl) rfl rfl ?_ ?_
            · go_wp2
              refine ⟨below_alloc wz0 _, ?_⟩
              have HP1 := Lib.hid (Blk.new wz0 26 [.slice (some ⟨xb, xo, none⟩) (yn - 32) c8])
              have hbl := below_alloc wz0 (.cells #[.slice (some ⟨xb, xo, none⟩) (yn - 32) c8] 26)
              have HSit1 := Lib.hid (HSit0.out.on hbl)
              obtain ⟨gP, hgP⟩ : ∃ g, wz0.heap.size = g := ⟨_, rfl⟩
              rw [hgP] at HP1 ⊢
              clear hbl hgP HSit0 
              generalize wz0.alloc (.cells #[.slice (some ⟨xb, xo, none⟩) (yn - 32) c8] 26) = wz1 at *
              refine twoG 8 9 2 rfl (by kernel_rfl) rfl rfl ?_ ?_
              · go_wp2_with fail
                have hgc := HOK.out.keep HG.out (bb Hby HSit1.out.q).out
                refine (mac1b HMac.out _ _ (k.drop 32) (Y.take (yn - 32)) 32 32 (yn - 32) c8 gP wz1 (u8s T).toArray (by rw [HTg.out]) hgc HP1.out (by rw [List.length_drop, HK.out]) (by rw [List.length_take, ← HYN.out]; omega) (by rw [List.length_drop, HK.out]; omega) (rd_key HSit1.out.k HK.out) HSit1.out.rd (by rw [List.length_drop, HK.out]; omega) (by rw [List.length_take]; omega) (by rw [List.length_take]; omega)).mono ?_
                rintro e wz2 ⟨rfl, hbn⟩
                have HSit2 := Lib.hid (HSit1.out.on hbn)
                clear hgc HSit1 HP1 
                go_wp2
                refine ⟨hbn, ?_⟩
                clear hbn
                refine oneG 9 1 rfl (by kernel_rfl) rfl ?_
                go_wp2_with (refine wpList_alloc_arr rfl 22 z32.toArray rfl zero_32 ?_)
                refine ⟨below_alloc wz2 _, ?_⟩
                have HT3 := Lib.hid (Blk.new wz2 22 z32)
                have hbl := below_alloc wz2 (.cells z32.toArray 22)
                have HSit3 := Lib.hid (HSit2.out.on hbl)
                have HgT : Hid (w11.heap.size ≤ wz2.heap.size) := Lib.hid HSit2.out.q.size
                obtain ⟨gT, hgT⟩ : ∃ g, wz2.heap.size = g := ⟨_, rfl⟩
                rw [hgT] at HT3 HgT ⊢
                clear hbl hgT HSit2 
                generalize wz2.alloc (.cells z32.toArray 22) = wz3 at *
                simp only [Act.put, List.setIfInBounds_toArray, List.set]
                refine lateG 10 0 rfl (by kernel_rfl) (by kernel_rfl) rfl ?_
                have HRow := Lib.hid (HT3.out.row (u8s T))
                have Hq := Lib.hid (below_setRow HSit3.out.q HgT.out (u8s T).toArray)
                refine wpList_store_arr rfl 22 (.tmp 22) (.tmp 107) gT z32 (u8s T) rfl rfl rfl rfl HT3.out HSz.out HLn.out (u8s_one _) ?_
                go_wp2
                refine ⟨trivial, ?_⟩
                refine wpAnyG_done (by kernel_rfl) ?_
                go_wp2
                go_meet
                case rel => exact ⟨gT, rfl, HRow.out, Hq.out⟩
              · go_wp2_with (refine wpList_alloc_arr rfl 22 z32.toArray rfl zero_32 ?_)
                refine ⟨below_alloc wz1 _, ?_⟩
                have HT2 := Lib.hid (Blk.new wz1 22 z32)
                have hbl := below_alloc wz1 (.cells z32.toArray 22)
                have HSit2 := Lib.hid (HSit1.out.on hbl)
                have HgT : Hid (w11.heap.size ≤ wz1.heap.size) := Lib.hid HSit1.out.q.size
                have HP2 := Lib.hid (HP1.out.below hbl HP1.out.lt)
                obtain ⟨gT, hgT⟩ : ∃ g, wz1.heap.size = g := ⟨_, rfl⟩
                rw [hgT] at HT2 HgT ⊢
                clear hbl hgT HSit1 HP1
                generalize wz1.alloc (.cells z32.toArray 22) = wz2 at *
                simp only [Act.put, List.setIfInBounds_toArray, List.set]
                refine oneG 8 1 rfl (by kernel_rfl) rfl ?_
                go_wp2_with fail
                have hgc := HOK.out.keep HG.out (bb Hby HSit2.out.q).out
                refine (mac1b HMac.out _ _ (k.drop 32) (Y.take (yn - 32)) 32 32 (yn - 32) c8 gP wz2 (u8s T).toArray (by rw [HTg.out]) hgc HP2.out (by rw [List.length_drop, HK.out]) (by rw [List.length_take, ← HYN.out]; omega) (by rw [List.length_drop, HK.out]; omega) (rd_key HSit2.out.k HK.out) HSit2.out.rd (by rw [List.length_drop, HK.out]; omega) (by rw [List.length_take]; omega) (by rw [List.length_take]; omega)).mono ?_
                rintro e wz3 ⟨rfl, hbn⟩
                have HSit3 := Lib.hid (HSit2.out.on hbn)
                have HT3 := Lib.hid (HT2.out.below hbn HT2.out.lt)
                clear hgc HSit2 HP2 HT2
                go_wp2
                refine ⟨hbn, ?_⟩
                clear hbn
                refine lateG 10 0 rfl (by kernel_rfl) (by kernel_rfl) rfl ?_
                have HRow := Lib.hid (HT3.out.row (u8s T))
                have Hq := Lib.hid (below_setRow HSit3.out.q HgT.out (u8s T).toArray)
                refine wpList_store_arr rfl 22 (.tmp 22) (.tmp 107) gT z32 (u8s T) rfl rfl rfl rfl HT3.out HSz.out HLn.out (u8s_one _) ?_
                go_wp2
                refine ⟨trivial, ?_⟩
                refine wpAnyG_done (by kernel_rfl) ?_
                go_wp2
                go_meet
                case rel => exact ⟨gT, rfl, HRow.out, Hq.out⟩
            · go_wp2_with (refine wpList_alloc_arr rfl 22 z32.toArray rfl zero_32 ?_)
              refine ⟨below_alloc wz0 _, ?_⟩
              have HT1 := Lib.hid (Blk.new wz0 22 z32)
              have hbl := below_alloc wz0 (.cells z32.toArray 22)
              have HSit1 := Lib.hid (HSit0.out.on hbl)
              have HgT : Hid (w11.heap.size ≤ wz0.heap.size) := Lib.hid HSit0.out.q.size
              obtain ⟨gT, hgT⟩ : ∃ g, wz0.heap.size = g := ⟨_, rfl⟩
              rw [hgT] at HT1 HgT ⊢
              clear hbl hgT HSit0 
              generalize wz0.alloc (.cells z32.toArray 22) = wz1 at *
              simp only [Act.put, List.setIfInBounds_toArray, List.set]
              refine oneG 7 2 rfl (by kernel_rfl) rfl ?_
              go_wp2
              refine ⟨below_alloc wz1 _, ?_⟩
              have HP2 := Lib.hid (Blk.new wz1 26 [.slice (some ⟨xb, xo, none⟩) (yn - 32) c8])
              have hbl := below_alloc wz1 (.cells #[.slice (some ⟨xb, xo, none⟩) (yn - 32) c8] 26)
              have HSit2 := Lib.hid (HSit1.out.on hbl)
              have HT2 := Lib.hid (HT1.out.below hbl HT1.out.lt)
              obtain ⟨gP, hgP⟩ : ∃ g, wz1.heap.size = g := ⟨_, rfl⟩
              rw [hgP] at HP2 ⊢
              clear hbl hgP HSit1 HT1
              generalize wz1.alloc (.cells #[.slice (some ⟨xb, xo, none⟩) (yn - 32) c8] 26) = wz2 at *
              refine oneG 8 1 rfl (by kernel_rfl) rfl ?_
              go_wp2_with fail
              have hgc := HOK.out.keep HG.out (bb Hby HSit2.out.q).out
              refine (mac1b HMac.out _ _ (k.drop 32) (Y.take (yn - 32)) 32 32 (yn - 32) c8 gP wz2 (u8s T).toArray (by rw [HTg.out]) hgc HP2.out (by rw [List.length_drop, HK.out]) (by rw [List.length_take, ← HYN.out]; omega) (by rw [List.length_drop, HK.out]; omega) (rd_key HSit2.out.k HK.out) HSit2.out.rd (by rw [List.length_drop, HK.out]; omega) (by rw [List.length_take]; omega) (by rw [List.length_take]; omega)).mono ?_
              rintro e wz3 ⟨rfl, hbn⟩
              have HSit3 := Lib.hid (HSit2.out.on hbn)
              have HT3 := Lib.hid (HT2.out.below hbn HT2.out.lt)
              clear hgc HSit2 HP2 HT2
              go_wp2
              refine ⟨hbn, ?_⟩
              clear hbn
              refine lateG 10 0 rfl (by kernel_rfl) (by kernel_rfl) rfl ?_
              have HRow := Lib.hid (HT3.out.row (u8s T))
              have Hq := Lib.hid (below_setRow HSit3.out.q HgT.out (u8s T).toArray)
              refine wpList_store_arr rfl 22 (.tmp 22) (.tmp 107) gT z32 (u8s T) rfl rfl rfl rfl HT3.out HSz.out HLn.out (u8s_one _) ?_
              go_wp2
              refine ⟨trivial, ?_⟩
              refine wpAnyG_done (by kernel_rfl) ?_
              go_wp2
              go_meet
              case rel => exact ⟨gT, rfl, HRow.out, Hq.out⟩
          case rest =>
            obtain ⟨gT, rfl, hBT, hbT⟩ := hcut
            have HBT := Lib.hid hBT.drew
            have HbT := Lib.hid (bb Hby hbT).out.drew
            have HRT := Lib.hid ((HRy.out.below hbT).more hbT.size)
            clear hBT hbT HR11 HKy HRy HRz Hby hcut
            go_wp2_with fail
            refine wp_region_G grows (by kernel_rfl) ?_
            have HRU : Hid (Rd wc.drew wc.drew.heap.size (some ⟨xb, xo, none⟩) Y) := Lib.hid HRT.out
            clear HRT
            generalize wc.drew = wd at HBT HbT HRU ⊢
            refine oneG 0 12 rfl (by kernel_rfl) rfl ?_
            go_wp2_with fail
            refine (awake10_any HOK.out wd (HOK.out.keep HG.out HbT.out)).mono ?_
            rintro e we ⟨rfl, hbe⟩
            have HbE := bb HbT hbe
            have hs1 := string_later_rd (Rd.of_all (HBT.out.below hbe HBT.out.lt)) 32
            have hs2 := string_later_rd (rd_cut ((HRU.out.below hbe).more hbe.size) (yn - 32)) (c8 - (yn - 32))
            rw [HTl.out] at hs1
            rw [HTd.out, HTl.out] at hs2
            obtain ⟨S3, hS3⟩ : ∃ S : ByteArray, (⟨T.toArray⟩ : ByteArray) = S := ⟨_, rfl⟩
            rw [hS3] at hs1 hs2
            have hcf := cut_fromz xb xo yn c8 (yn - 32) 32 ((yn : Int) - 32) (by omega) (by omega) (by omega) (by omega)
            clear hS3 HBT HbT HRU
            go_wp2
            refine ⟨hbe, ?_⟩
            clear hbe
            refine segG (by kernel_rfl) (fun _ _ _ _ _ h => h) [1, 2, 3, 4, 5, 6, 7, 8, 9, 10, 11, 12] [_, _, _, _, _, _, _, _, _, _, _, _] 0 rfl rfl (by kernel_rfl) ?_
            repeat (go_big_quiet_step (fail))
            refine wpQuiet_nil ?_
            refine wpAnyG_done (by kernel_rfl) ?_
            go_wp2
            go_ret
            exact ⟨by simp, HbE.out⟩
end Go.Proofs.YtjhkodmaalefiaaDoor
