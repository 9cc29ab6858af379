/-
  The reference's Of of layer 6: its contract. The reference's Int of layer 1: its contract, the answer a slice of its own. A statement that draws its order: one operation that yields the same value in every later world may be taken first. Of no program; a tool for the walks. The reference's sums, as a value; Sums.Of and Int in forms with plain variables.
-/
import Derived.Test.YtjhkodmaalefiaaDoorSealJ19
import Derived.Test.YtjhkodmaalefiaaDoorSealJ09
import Derived.Test.YtjhkodmaalefiaaDoorSealJ15
import Derived.Test.YtjhkodmaalefiaaDoorSealJ03
import Derived.Test.YtjhkodmaalefiaaDoorSealJ02
set_option maxRecDepth 100000
namespace Go.Proofs.YtjhkodmaalefiaaDoor
open Go.RowKit Go.Gar

set_option maxHeartbeats 800000 in
set_option maxRecDepth 100000 in
theorem refOf6_any (w : World) (AK AH : Option Addr) (cK cH : Nat) (Ak Ab : Option Addr) (key b : List UInt8) (kl bl kc bc : Nat) (hK : RdV w w.heap.size AK (u32s Sha.kL)) (hH : RdV w w.heap.size AH (u32s Sha.hL))
    (hkl : kl = key.length) (hbl : bl = b.length) (rk : Rd w w.heap.size Ak key) (rb : Rd w w.heap.size Ab b) (hk : key.length ≤ 1000000) (hb : b.length ≤ 1000000) :
    Calls Tryd.prog 16 #[.agg #[.slice AK 64 cK, .slice AH 8 cH], .slice Ak kl kc, .slice Ab bl bc] w fun e w' => ∃ v, e = .returned v ∧ OwnB w' w.heap.size 5 v (Mac.of key b) ∧ Below w.heap.size w w' := by
  have hB0 := Blk.new w 35 [.slice AK 64 cK, .slice AH 8 cH]
  have hb0 := below_alloc w (.cells #[.slice AK 64 cK, .slice AH 8 cH] 35)
  obtain ⟨w0, hw0⟩ : ∃ w0, w.alloc (.cells #[.slice AK 64 cK, .slice AH 8 cH] 35) = w0 := ⟨_, rfl⟩
  rw [show ([.slice AK 64 cK, .slice AH 8 cH] : List Value).toArray = #[.slice AK 64 cK, .slice AH 8 cH] from rfl, hw0] at hB0
  rw [hw0] at hb0
  have hz0 : w0.heap.size = w.heap.size + 1 := by rw [← hw0]; simp
  obtain ⟨v1, w1, a1, a2, a3, _⟩ := app_rd (P := Tryd.prog) 26 26 Tryd.und22 Tryd.info5 (own_made w0 w0.heap.size 5 (Nat.le_refl _)) (by rw [World.size_alloc]; omega) kc (((rk.below hb0).more hb0.size).alloc (Nat.le_refl _) _) (by simp; omega)
  rw [← hkl] at a1
  rw [List.nil_append] at a2
  have hb1 : Below w0.heap.size w0 w1 := (below_alloc w0 _).trans a3
  obtain ⟨A1, c1, rfl, r1⟩ := a2.rd
  rw [← hkl] at a1 a2
  rw [hz0, ← hw0] at a1
  have HO1 := Lib.hid a2
  have HR1 := Lib.hid r1
  have Hb1 := Lib.hid (hb0.trans (hb1.mono hb0.size))
  have HB1 := Lib.hid (hB0.below hb1 (by rw [hz0]; omega))
  have HW0 := Lib.hid hw0
  have HZ0 := Lib.hid hz0
  have HKL := Lib.hid hkl
  have HBL := Lib.hid hbl
  have HRB := Lib.hid rb
  have HK := Lib.hid hK
  have HH := Lib.hid hH
  have Hk := Lib.hid hk
  have Hb := Lib.hid hb
  clear a2 a3 r1 hb1 hB0 hb0 hw0 hz0 hkl hbl rb rk hK hH hk hb
  obtain ⟨kk, hkk⟩ : ∃ kk, kk = Mac.key0 key := ⟨_, rfl⟩
  have HKK := Lib.hid hkk
  have hkk64 : kk.length ≤ 64 := by rw [hkk]; exact Mac.key0_len key
  have HK64 := Lib.hid hkk64
  have hc0 := HB1.out.cell 0
  have hc1 := HB1.out.cell 1
  simp only [List.getElem?_cons_zero, List.getElem?_cons_succ] at hc0 hc1
  clear hkk hkk64
  by_cases hlong : 64 < kl
  case' pos =>
    have hd : decide ((64 : Int) < (kl : Int)) = true := by simp; omega
    go_enter Tryd.func16, Tryd.ntmps16
    go_wp2_with (at_builtin; refine wpList_append_run rfl (.tmp 11) (.tmp 12) _ rfl rfl rfl a1 ?_)
    refine (refOf5_any w1 AK AH cK cH A1 key kl c1 (HK.out.below Hb1.out |>.more Hb1.out.size) (HH.out.below Hb1.out |>.more Hb1.out.size) HKL.out HR1.out (by have := Hk.out; omega)).mono ?_
    rintro e wk ⟨v2, rfl, hO2, hb2⟩
    have hk0 : kk = Sha.of key := by rw [HKK.out, Mac.key0, if_pos (by rw [← HKL.out]; exact hlong)]
    rw [← hk0] at hO2
    have HO := Lib.hid (ownB_lower hO2 Hb1.out.size)
    have HB := Lib.hid (HB1.out.below hb2 HB1.out.lt)
    have HBel := Lib.hid (Hb1.out.trans (hb2.mono Hb1.out.size))
    have Hne : Hid (∀ g, v2.ownBlock = some g → w.heap.size < g) := Lib.hid (fun g hg => by have := (hO2.block_lt hg).1; have := HZ0.out; have := HO1.out.1; have h3 := HB1.out.lt; omega)
    clear hO2 hb2 hk0 HO1 HB1 Hb1 HR1 a1 hc0 hc1 hd
    go_wp2
  case' neg =>
    have hd : decide ((64 : Int) < (kl : Int)) = false := by simp; omega
    go_enter Tryd.func16, Tryd.ntmps16
    go_wp2_with (at_builtin; refine wpList_append_run rfl (.tmp 11) (.tmp 12) _ rfl rfl rfl a1 ?_)
    have hk0 : kk = key := by rw [HKK.out, Mac.key0, if_neg (by rw [← HKL.out]; exact hlong)]
    obtain ⟨wk, hwk⟩ : ∃ wk, wk = w1 := ⟨_, rfl⟩
    obtain ⟨v2, hv2⟩ : ∃ v2, v2 = Value.slice A1 kl c1 := ⟨_, rfl⟩
    have hO2 := HO1.out
    rw [← hk0, ← hwk, ← hv2] at hO2
    have HO := Lib.hid (ownB_lower hO2 (show w.heap.size ≤ w0.heap.size by have := HZ0.out; omega))
    have HB : Hid (Blk wk w.heap.size 35 [.slice AK 64 cK, .slice AH 8 cH]) := Lib.hid (by rw [hwk]; exact HB1.out)
    have HBel : Hid (Below w.heap.size w wk) := Lib.hid (by rw [hwk]; exact Hb1.out)
    have Hne : Hid (∀ g, v2.ownBlock = some g → w.heap.size < g) := Lib.hid (fun g hg => by have := (hO2.block_lt hg).1; have := HZ0.out; omega)
    rw [← hwk, ← hv2]
    clear hO2 hk0 HO1 HB1 Hb1 HR1 a1 hc0 hc1 hd hwk hv2
  all_goals
    go_loopw [7] (fun v w' => ∃ n : Nat, n ≤ 64 - kk.length ∧ OwnB w' w.heap.size 5 v (Mac.fill kk n) ∧ (∀ g, v.ownBlock = some g → w.heap.size < g) ∧ Blk w' w.heap.size 35 [.slice AK 64 cK, .slice AH 8 cH] ∧ Below w.heap.size w w') (fun v _ => 64 - (match v with | .slice _ n _ => n | _ => 0))
    case atStart => exact ⟨0, by omega, by simpa [Mac.fill] using HO.out, Hne.out, HB.out, HBel.out⟩
    case round =>
      obtain ⟨n, hn, hO, hne, hB, hBel⟩ := hrel
      clear HO HB HBel Hne
      have hk64 := HK64.out
      obtain ⟨A7, c7, rfl, r7⟩ := hO.rd
      have hfl : (Mac.fill kk n).length = kk.length + n := by simp [Mac.fill]
      obtain ⟨t, ht⟩ : ∃ t, t = kk.length + n := ⟨_, rfl⟩
      rw [hfl, ← ht] at hO hne ⊢
      by_cases hlt : t < 64
      · obtain ⟨v3, w3, a1, a2, a3, a4⟩ := app_at (P := Tryd.prog) 26 26 Tryd.und22 Tryd.info5 (hO.alloc (.cells #[.int .u8 0] 5)) (by rw [World.size_alloc]; exact Nat.le_trans hBel.size (Nat.le_succ _)) (l := [0]) 1 1 rfl (Rd.of_all (Blk.new wr 5 (u8s [0]))) (by rw [hfl]; simp; omega)
        rw [Mac.fill_more] at a2
        have hB3 : Blk w3 w.heap.size 35 [.slice AK 64 cK, .slice AH 8 cH] := (hB.alloc _).grown a3 (fun h => by have := hne _ h.symm; omega)
        have hb3 : Below w.heap.size w w3 := (hBel.alloc hBel.size _).grown a3 (by rw [World.size_alloc]; exact Nat.le_trans hBel.size (Nat.le_succ _)) (fun k h => by have := hne _ h; omega)
        have hne3 : ∀ g, v3.ownBlock = some g → w.heap.size < g := fun g hg => by
          rcases a4 with h | h
          · exact hne g (h.symm.trans hg)
          · have := Option.some.inj (h.symm.trans hg)
            rw [World.size_alloc] at this
            have := hBel.size
            omega
        obtain ⟨A8, c8, rfl, -⟩ := a2.rd
        have hfl3 : (Mac.fill kk (n + 1)).length = t + 1 := by simp [Mac.fill]; omega
        rw [hfl3] at a1 a2 hne3
        have HO3 := Lib.hid a2
        have HB3 := Lib.hid hB3
        have Hb3 := Lib.hid hb3
        have Hn3 := Lib.hid hne3
        have HT := Lib.hid ht
        clear a2 a3 a4 hO hne hB hBel r7 hB3 hb3 hne3 hfl hfl3 ht
        go_wp2_with (at_builtin; refine wpList_append_run rfl (.tmp 23) (.tmp 24) _ rfl rfl rfl a1 ?_)
        exact ⟨⟨n + 1, by have := HT.out; omega, HO3.out, Hn3.out, HB3.out, Hb3.out⟩, by show 64 - (t + 1) < 64 - t; omega⟩
      · have ht64 : t = 64 := by omega
        subst ht64
        obtain ⟨gk, ck, restk, hv, hgk, hck, hBk⟩ := hO.blk (by rw [hfl]; omega)
        rw [hfl, ← ht] at hv
        injection hv with hv1 len_eq hv3
        subst hv1
        subst hv3
        have hkp : Mac.fill kk n = Mac.pad key := by rw [Mac.pad, ← HKK.out, Mac.fill, show n = 64 - kk.length from by omega]
        rw [hkp] at hBk
        have hgk2 := hne gk rfl
        have hpl := Mac.pad_len key
        obtain ⟨kp, hkpe⟩ : ∃ kp, kp = Mac.pad key := ⟨_, rfl⟩
        rw [← hkpe] at hBk hpl
        have HKP := Lib.hid hkpe
        have HBk := Lib.hid hBk
        have HB := Lib.hid hB
        have HBel := Lib.hid hBel
        have HPL := Lib.hid hpl
        have HGK := Lib.hid hgk2
        clear hO hne hB hBel r7 hfl ht hgk hck hBk hkp hkpe hgk2 hpl len_eq
        go_wp2
        have hzr : w.heap.size < wr.heap.size ∧ gk < wr.heap.size := ⟨HB.out.lt, HBk.out.lt⟩
        have hT0 : Two ((wr.alloc (.cells #[] 5)).alloc (.cells #[] 5)) ((wr.alloc (.cells #[] 5)).alloc (.cells #[] 5)) w.heap.size gk 5 (.slice (some ⟨wr.heap.size, 0, none⟩) 0 0) (.slice (some ⟨wr.heap.size + 1, 0, none⟩) 0 0) [] [] none none := by
          have o2 := own_made (wr.alloc (.cells #[] 5)) w.heap.size 5 (by rw [World.size_alloc]; omega)
          rw [World.size_alloc] at o2
          refine ⟨(own_made wr w.heap.size 5 (by omega)).alloc _, o2, fun g h1 h2 => ?_, fun g h1 => ?_, fun g h1 => ?_, fun _ _ e => (by cases e), fun _ _ e => (by cases e), Below.refl _ _, rfl, rfl, by simp only [World.size_alloc]; omega⟩
          · have e1 := Option.some.inj h1
            have e2 := Option.some.inj h2
            simp only at e1 e2
            omega
          · have e1 := Option.some.inj h1
            simp only at e1
            omega
          · have e1 := Option.some.inj h1
            simp only at e1
            omega
        have HT0 := Lib.hid hT0
        have HBS := Lib.hid ((HB.out.alloc (.cells #[] 5)).alloc (.cells #[] 5))
        have HKS := Lib.hid ((HBk.out.alloc (.cells #[] 5)).alloc (.cells #[] 5))
        have HLS : Hid (Below w.heap.size w ((wr.alloc (.cells #[] 5)).alloc (.cells #[] 5))) := Lib.hid ((HBel.out.alloc HBel.out.size _).alloc (by rw [World.size_alloc]; exact Nat.le_trans HBel.out.size (Nat.le_succ _)) _)
        clear hT0
        generalize wr.heap.size + 1 = g27 at HT0 ⊢
        generalize (wr.alloc (.cells #[] 5)).alloc (.cells #[] 5) = wS at HT0 HBS HKS HLS ⊢
        clear HB HBk HBel hzr
        go_loopw [8, 9, 10] (fun x y iv w' => ∃ i : Nat, i ≤ 64 ∧ iv = .int .i64 (i : Int) ∧ Two wS w' w.heap.size gk 5 x y (Mac.xs 54 (kp.take i)) (Mac.xs 92 (kp.take i)) none none) (fun _ _ iv _ => 64 - (intOf iv).toNat)
        case atStart => exact ⟨0, by omega, rfl, by simpa [Mac.xs] using HT0.out⟩
        case round =>
          obtain ⟨i, hi, rfl, hT⟩ := hrel
          clear HT0
          by_cases hil : i < 64
          · obtain ⟨c, hc⟩ : ∃ c, kp[i]? = some c := ⟨_, List.getElem?_eq_getElem (by rw [HPL.out]; exact hil)⟩
            have hcx : ∀ q : Later (stays gk) wr.drew, q.to.cell? ⟨gk, i, none⟩ = some (.int .u8 (c.toNat : Int)) := fun q => by
              have e1 : q.to.heap[gk]? = wS.heap[gk]? := q.grown.trans hT.keepK
              have e2 : wS.cell? ⟨gk, i, none⟩ = some (.int .u8 (c.toNat : Int)) := by
                rw [HKS.out.cell, List.getElem?_append_left (by rw [u8s_len, HPL.out]; exact hil), u8s_get, hc]; rfl
              rw [← e2]
              exact World.cell?_of_block e1
            obtain ⟨d1, hd1⟩ : ∃ d : UInt8, d = c ^^^ 54 := ⟨_, rfl⟩
            have hx1 : bits .xor .u8 (c.toNat : Int) 54 = (d1.toNat : Int) := by
              rw [hd1, UInt8.toNat_xor]; exact xor_u8 c.toNat 54 c.toNat_lt (by decide)
            obtain ⟨d2, hd2⟩ : ∃ d : UInt8, d = c ^^^ 92 := ⟨_, rfl⟩
            have hx2 : bits .xor .u8 (c.toNat : Int) 92 = (d2.toNat : Int) := by
              rw [hd2, UInt8.toNat_xor]; exact xor_u8 c.toNat 92 c.toNat_lt (by decide)
            have HX1 : Hid (Mac.xs 54 (kp.take i) ++ [d1] = Mac.xs 54 (kp.take (i + 1))) := Lib.hid (hd1 ▸ Mac.xs_take 54 kp i c hc)
            have HX2 : Hid (Mac.xs 92 (kp.take i) ++ [d2] = Mac.xs 92 (kp.take (i + 1))) := Lib.hid (hd2 ▸ Mac.xs_take 92 kp i c hc)
            have HL1 : Hid ((Mac.xs 54 (kp.take i)).length ≤ 1099511627775) := Lib.hid (by rw [Mac.xs_len, List.length_take]; omega)
            have HL2 : Hid ((Mac.xs 92 (kp.take i)).length ≤ 1099511627775) := Lib.hid (by rw [Mac.xs_len, List.length_take]; omega)
            have hc8 := c.toNat_lt
            have HS := Lib.hid hT.drew
            clear hT hc hd1 hd2
            go_wp2_with fail
            refine wp_region_G (stays gk) (by kernel_rfl) ?_
            generalize wr.drew = wq at HS hcx ⊢
            refine segG (by kernel_rfl) (fun _ _ _ _ _ h => h) [0, 1, 2, 3, 4, 5] [_, _, _, _, _, _] 12 rfl rfl (by kernel_rfl) ?_
            repeat (go_big_quiet_step (fail))
            refine wpQuiet_nil ?_
            refine segG (by kernel_rfl) (fun _ _ _ _ _ h => h) [8, 9, 10, 11, 12, 13] [_, _, _, _, _, _] 6 rfl rfl (by kernel_rfl) ?_
            repeat (go_big_quiet_step (fail))
            refine wpQuiet_nil ?_
            clear hcx hx1 hx2
            refine twoG 6 14 5 rfl (by kernel_rfl) rfl rfl ?_ ?_
            · have S1 := Lib.hid (HS.out.made d1)
              rw [show (u8s [d1]).toArray = #[.int .u8 (d1.toNat : Int)] from rfl] at S1
              have hlt1 := HS.out.lt.2
              go_wp2
              refine ⟨stays_alloc hlt1, ?_⟩
              generalize wq.heap.size = ga at S1 ⊢
              generalize wq.alloc (.cells #[.int .u8 (d1.toNat : Int)] 5) = wp1 at S1 ⊢
              refine twoG 7 14 4 rfl (by kernel_rfl) rfl rfl ?_ ?_
              · obtain ⟨xa, wp2, a1, a2, a3⟩ := S1.out.app (P := Tryd.prog) (ty := 26) 26 Tryd.und22 Tryd.info5 HL1.out
                have S2 := Lib.hid a2
                clear a2
                go_wp2_with (at_builtin; refine wpList_append_run rfl (.tmp 32) (.tmp 38) _ rfl rfl rfl a1 ?_)
                refine ⟨a3, ?_⟩
                clear a1 a3
                refine oneG 14 3 rfl (by kernel_rfl) rfl ?_
                have S3 := Lib.hid (S2.out.madeR d2)
                rw [show (u8s [d2]).toArray = #[.int .u8 (d2.toNat : Int)] from rfl] at S3
                have hlt3 := S2.out.lt.2
                go_wp2
                refine ⟨stays_alloc hlt3, ?_⟩
                generalize wp2.heap.size = gb at S3 ⊢
                generalize wp2.alloc (.cells #[.int .u8 (d2.toNat : Int)] 5) = wp3 at S3 ⊢
                refine oneG 15 2 rfl (by kernel_rfl) rfl ?_
                obtain ⟨ya, wp4, a1, a2, a3⟩ := S3.out.appR (P := Tryd.prog) (ty := 26) 26 Tryd.und22 Tryd.info5 HL2.out
                have S4 := Lib.hid a2
                clear a2
                go_wp2_with (at_builtin; refine wpList_append_run rfl (.tmp 40) (.tmp 46) _ rfl rfl rfl a1 ?_)
                refine ⟨a3, ?_⟩
                clear a1 a3
                simp only [Act.put, List.setIfInBounds_toArray, List.set]
                refine segG (by kernel_rfl) (fun _ _ _ _ _ h => h) [16, 17] [_, _] 0 rfl rfl (by kernel_rfl) ?_
                repeat (go_big_quiet_step (fail))
                refine wpQuiet_nil ?_
                refine wpAnyG_done (by kernel_rfl) ?_
                have SE := Lib.hid S4.out.done
                rw [HX1.out, HX2.out] at SE
                go_wp2
                exact ⟨⟨i + 1, by omega, by go_num, SE.out⟩, by simp [intOf]; omega⟩
              · have S2 := Lib.hid (S1.out.madeR d2)
                rw [show (u8s [d2]).toArray = #[.int .u8 (d2.toNat : Int)] from rfl] at S2
                have hlt2 := S1.out.lt.2
                go_wp2
                refine ⟨stays_alloc hlt2, ?_⟩
                generalize wp1.heap.size = gb at S2 ⊢
                generalize wp1.alloc (.cells #[.int .u8 (d2.toNat : Int)] 5) = wp2 at S2 ⊢
                refine oneG 7 3 rfl (by kernel_rfl) rfl ?_
                obtain ⟨xa, wp3, a1, a2, a3⟩ := S2.out.app (P := Tryd.prog) (ty := 26) 26 Tryd.und22 Tryd.info5 HL1.out
                have S3 := Lib.hid a2
                clear a2
                go_wp2_with (at_builtin; refine wpList_append_run rfl (.tmp 32) (.tmp 38) _ rfl rfl rfl a1 ?_)
                refine ⟨a3, ?_⟩
                clear a1 a3
                refine oneG 15 2 rfl (by kernel_rfl) rfl ?_
                obtain ⟨ya, wp4, a1, a2, a3⟩ := S3.out.appR (P := Tryd.prog) (ty := 26) 26 Tryd.und22 Tryd.info5 HL2.out
                have S4 := Lib.hid a2
                clear a2
                go_wp2_with (at_builtin; refine wpList_append_run rfl (.tmp 40) (.tmp 46) _ rfl rfl rfl a1 ?_)
                refine ⟨a3, ?_⟩
                clear a1 a3
                simp only [Act.put, List.setIfInBounds_toArray, List.set]
                refine segG (by kernel_rfl) (fun _ _ _ _ _ h => h) [16, 17] [_, _] 0 rfl rfl (by kernel_rfl) ?_
                repeat (go_big_quiet_step (fail))
                refine wpQuiet_nil ?_
                refine wpAnyG_done (by kernel_rfl) ?_
                have SE := Lib.hid S4.out.done
                rw [HX1.out, HX2.out] at SE
                go_wp2
                exact ⟨⟨i + 1, by omega, by go_num, SE.out⟩, by simp [intOf]; omega⟩
            · have S1 := Lib.hid (HS.out.madeR d2)
              rw [show (u8s [d2]).toArray = #[.int .u8 (d2.toNat : Int)] from rfl] at S1
              have hlt1 := HS.out.lt.2
              go_wp2
              refine ⟨stays_alloc hlt1, ?_⟩
              generalize wq.heap.size = gb at S1 ⊢
              generalize wq.alloc (.cells #[.int .u8 (d2.toNat : Int)] 5) = wp1 at S1 ⊢
              refine oneG 6 4 rfl (by kernel_rfl) rfl ?_
              have S2 := Lib.hid (S1.out.made d1)
              rw [show (u8s [d1]).toArray = #[.int .u8 (d1.toNat : Int)] from rfl] at S2
              have hlt2 := S1.out.lt.2
              go_wp2
              refine ⟨stays_alloc hlt2, ?_⟩
              generalize wp1.heap.size = ga at S2 ⊢
              generalize wp1.alloc (.cells #[.int .u8 (d1.toNat : Int)] 5) = wp2 at S2 ⊢
              refine oneG 7 3 rfl (by kernel_rfl) rfl ?_
              obtain ⟨xa, wp3, a1, a2, a3⟩ := S2.out.app (P := Tryd.prog) (ty := 26) 26 Tryd.und22 Tryd.info5 HL1.out
              have S3 := Lib.hid a2
              clear a2
              go_wp2_with (at_builtin; refine wpList_append_run rfl (.tmp 32) (.tmp 38) _ rfl rfl rfl a1 ?_)
              refine ⟨a3, ?_⟩
              clear a1 a3
              refine oneG 15 2 rfl (by kernel_rfl) rfl ?_
              obtain ⟨ya, wp4, a1, a2, a3⟩ := S3.out.appR (P := Tryd.prog) (ty := 26) 26 Tryd.und22 Tryd.info5 HL2.out
              have S4 := Lib.hid a2
              clear a2
              go_wp2_with (at_builtin; refine wpList_append_run rfl (.tmp 40) (.tmp 46) _ rfl rfl rfl a1 ?_)
              refine ⟨a3, ?_⟩
              clear a1 a3
              simp only [Act.put, List.setIfInBounds_toArray, List.set]
              refine segG (by kernel_rfl) (fun _ _ _ _ _ h => h) [16, 17] [_, _] 0 rfl rfl (by kernel_rfl) ?_
              repeat (go_big_quiet_step (fail))
              refine wpQuiet_nil ?_
              refine wpAnyG_done (by kernel_rfl) ?_
              have SE := Lib.hid S4.out.done
              rw [HX1.out, HX2.out] at SE
              go_wp2
              exact ⟨⟨i + 1, by omega, by go_num, SE.out⟩, by simp [intOf]; omega⟩
          · have hkt : kp.take i = kp := List.take_of_length_le (by rw [HPL.out]; omega)
            rw [hkt] at hT
            have hlx : (Mac.xs 54 kp).length = 64 := by rw [Mac.xs_len, HPL.out]
            have hly : (Mac.xs 92 kp).length = 64 := by rw [Mac.xs_len, HPL.out]
            have hBelW : Below w.heap.size w wr.drew := (HLS.out.trans hT.below).drew
            have hBS : Blk wr.drew w.heap.size 35 [.slice AK 64 cK, .slice AH 8 cH] := hT.keepB.trans HBS.out
            have q0 : ∀ q : Later (stays w.heap.size) wr.drew, q.to.cell? ⟨w.heap.size, 0, none⟩ = some (.slice AK 64 cK) := fun q => (World.cell?_of_block (a := ⟨w.heap.size, 0, none⟩) (show q.to.heap[w.heap.size]? = wr.drew.heap[w.heap.size]? from q.grown)).trans (hBS.cell 0)
            have q1 : ∀ q : Later (stays w.heap.size) wr.drew, q.to.cell? ⟨w.heap.size, 1, none⟩ = some (.slice AH 8 cH) := fun q => (World.cell?_of_block (a := ⟨w.heap.size, 1, none⟩) (show q.to.heap[w.heap.size]? = wr.drew.heap[w.heap.size]? from q.grown)).trans (hBS.cell 1)
            have HS := Lib.hid hT.drew
            have HBW := Lib.hid hBelW
            have HBl := Lib.hid hBS.lt
            have HLX := Lib.hid hlx
            have HLY := Lib.hid hly
            clear hT hkt hlx hly hBelW hBS
            go_wp2_with fail
            refine wp_region_G (stays w.heap.size) (by kernel_rfl) ?_
            generalize wr.drew = wq at HS HBW HBl q0 q1 ⊢
            refine segG (by kernel_rfl) (fun _ _ _ _ _ h => h) [0, 1, 2, 3, 4] [_, _, _, _, _] 5 rfl rfl (by kernel_rfl) ?_
            repeat (go_big_quiet_step (fail))
            refine wpQuiet_nil ?_
            clear q0 q1
            have hbq := HBW.out.size
            obtain ⟨x1, wa, e1, o1, n1, p1⟩ := app_at (P := Tryd.prog) 26 26 Tryd.und22 Tryd.info5 HS.out.ox hbq bl bc HBL.out (HRB.out.below HBW.out) (by rw [HLX.out]; have := Hb.out; omega)
            obtain ⟨A5, c5, hv5, r5⟩ := o1.rd
            subst hv5
            have hl5 : (Mac.xs 54 kp ++ b).length ≤ 1048576 := by rw [List.length_append, HLX.out]; have := Hb.out; omega
            have hy1 := HS.out.oy.far n1 (fun q hq e => HS.out.apart q e hq)
            have hba : Below w.heap.size w wa := HBW.out.grown n1 hbq (fun q hq => by have := HS.out.nx q hq; omega)
            have hsa : (stays w.heap.size).rel wq wa := n1.block _ HBl.out (fun e => by have := HS.out.nx _ e.symm; omega)
            obtain ⟨t5, ht5⟩ : ∃ t5, t5 = (Mac.xs 54 kp ++ b).length := ⟨_, rfl⟩
            rw [← ht5] at e1
            have HR5 := Lib.hid r5
            have HL5 := Lib.hid hl5
            have HY1 := Lib.hid hy1
            have HBA := Lib.hid hba
            have HT5 := Lib.hid ht5
            have HNY := Lib.hid HS.out.ny
            have HSa : Hid (w.heap.size < wa.heap.size) := Lib.hid (Nat.lt_of_lt_of_le HBl.out n1.size)
            clear o1 n1 p1 r5 hl5 hy1 hba ht5 hbq
            refine oneG 5 4 rfl (by kernel_rfl) rfl ?_
            go_wp2_with (at_builtin; refine wpList_append_run rfl (.tmp 51) (.tmp 52) _ rfl rfl rfl e1 ?_)
            refine ⟨hsa, ?_⟩
            clear e1 hsa
            simp only [Act.put, List.setIfInBounds_toArray, List.set]
            refine oneG 6 3 rfl (by kernel_rfl) rfl ?_
            go_wp2_with fail
            refine (refOf5_any wa AK AH cK cH A5 (Mac.xs 54 kp ++ b) t5 c5 (HK.out.below HBA.out |>.more HBA.out.size) (HH.out.below HBA.out |>.more HBA.out.size) HT5.out HR5.out HL5.out).mono ?_
            rintro e wb ⟨v6, rfl, o6, b6⟩
            obtain ⟨A6, c6, hv6, r6⟩ := o6.rd
            subst hv6
            rw [Sha.of_len]
            have hy6 : OwnB wb w.heap.size 5 u9 (Mac.xs 92 kp) := HY1.out.keep (fun g hg => b6.block g (HY1.out.block_lt hg).2)
            have hbb : Below w.heap.size w wb := HBA.out.trans (b6.mono HBA.out.size)
            have hsz6 := hbb.size
            obtain ⟨x2, wc, e2, o2, n2, p2⟩ := app_at (P := Tryd.prog) 26 26 Tryd.und22 Tryd.info5 hy6 hsz6 32 c6 (Sha.of_len _).symm r6 (by rw [HLY.out, Sha.of_len]; omega)
            obtain ⟨A7, c8, hv7, r7⟩ := o2.rd
            subst hv7
            have hl7 : (Mac.xs 92 kp ++ Sha.of (Mac.xs 54 kp ++ b)).length = 96 := by rw [List.length_append, HLY.out, Sha.of_len]
            rw [hl7] at e2
            have hbc : Below w.heap.size w wc := hbb.grown n2 hsz6 (fun q hq => by have := HNY.out q hq; omega)
            have hsb : (stays w.heap.size).rel wa wb := b6.block _ HSa.out
            have hsc : (stays w.heap.size).rel wb wc := n2.block _ (Nat.lt_of_lt_of_le HSa.out b6.size) (fun e => by have := HNY.out _ e.symm; omega)
            have HR7 := Lib.hid r7
            have HBC := Lib.hid hbc
            have HL7 := Lib.hid hl7
            have HSc : Hid (w.heap.size < wc.heap.size) := Lib.hid (Nat.lt_of_lt_of_le HSa.out (Nat.le_trans b6.size n2.size))
            clear o6 b6 r6 hy6 hbb hsz6 o2 n2 p2 r7 hl7 hbc
            go_wp2
            refine ⟨hsb, ?_⟩
            clear hsb
            refine oneG 7 2 rfl (by kernel_rfl) rfl ?_
            go_wp2_with (at_builtin; refine wpList_append_run rfl (.tmp 49) (.tmp 54) _ rfl rfl rfl e2 ?_)
            refine ⟨hsc, ?_⟩
            clear e2 hsc
            simp only [Act.put, List.setIfInBounds_toArray, List.set]
            refine oneG 8 1 rfl (by kernel_rfl) rfl ?_
            go_wp2_with fail
            refine (refOf5_any wc AK AH cK cH A7 (Mac.xs 92 kp ++ Sha.of (Mac.xs 54 kp ++ b)) 96 c8 (HK.out.below HBC.out |>.more HBC.out.size) (HH.out.below HBC.out |>.more HBC.out.size) HL7.out.symm HR7.out (by rw [HL7.out]; omega)).mono ?_
            rintro e wd ⟨v8, rfl, o8, b8⟩
            have hfin : Sha.of (Mac.xs 92 kp ++ Sha.of (Mac.xs 54 kp ++ b)) = Mac.of key b := by rw [HKP.out]; rfl
            rw [hfin] at o8
            have HO8 := Lib.hid (ownB_lower o8 HBC.out.size)
            have HBD := Lib.hid (HBC.out.trans (b8.mono HBC.out.size))
            have hsd : (stays w.heap.size).rel wc wd := b8.block _ HSc.out
            clear o8 b8 hfin
            go_wp2
            refine ⟨hsd, ?_⟩
            clear hsd
            refine segG (by kernel_rfl) (fun _ _ _ _ _ h => h) [9] [_] 0 rfl rfl (by kernel_rfl) ?_
            repeat (go_big_quiet_step (fail))
            refine wpQuiet_nil ?_
            refine wpAnyG_done (by kernel_rfl) ?_
            go_wp2
            go_ret
            exact ⟨_, rfl, HO8.out, HBD.out⟩
end Go.Proofs.YtjhkodmaalefiaaDoor
namespace Go.Gar
open Go.RowKit
theorem OwnB.lower {w : World} {base base' : Nat} {e : TypeId} {v : Value} {k : List UInt8} (h : OwnB w base e v k) (hb : base' ≤ base) : OwnB w base' e v k := by
  refine ⟨h.1, ?_⟩
  rcases h.2 with hn | ⟨g, cap, cur, hv, hg, rest⟩
  · exact .inl hn
  · exact .inr ⟨g, cap, cur, hv, Nat.le_trans hb hg, rest⟩
end Go.Gar
namespace Go.Proofs.YtjhkodmaalefiaaDoor
open Go.RowKit Go.Gar

theorem be_cons (n k : Nat) : be n (k + 1) = UInt8.ofNat (n / 256 ^ k) :: be n k := by
  unfold be
  rw [List.range_succ_eq_map, List.map_cons, List.map_map]
  congr 1
  · congr 2
    rw [show (256 : Nat) = 2 ^ 8 from by decide, ← Nat.pow_mul]
    congr 1
  · apply List.map_congr_left
    intro i _
    simp only [Function.comp]
    congr 4
    omega

theorem u64_lt (n : Int) : b64 n < 18446744073709551616 := by unfold b64; omega
theorem ri_cast (U k : Nat) : (U : Int) / 256 ^ k = ((U / 256 ^ k : Nat) : Int) := by simp
theorem ri_u (U k : Nat) (hU : U < 18446744073709551616) : IntKind.u64.wrap (((U : Int) / 256 ^ k).tdiv 256) = ((U / 256 ^ (k + 1) : Nat) : Int) := by
  have : U / 256 ^ k ≤ U := Nat.div_le_self _ _
  rw [ri_cast, Nat.pow_succ, ← Nat.div_div_eq_div_mul]
  generalize U / 256 ^ k = q at *
  rw [IntKind.wrap_u64, Int.tdiv_eq_ediv_of_nonneg (by omega)]
  omega
theorem ri_b (U k : Nat) : ((U : Int) / 256 ^ k).tmod 256 % 256 = ((UInt8.ofNat (U / 256 ^ k)).toNat : Int) := by
  rw [ri_cast]
  generalize U / 256 ^ k = q
  rw [Int.tmod_eq_emod_of_nonneg (by omega)]
  simp
theorem ri_set (U k : Nat) (hk : k < 8) : (u8s (List.replicate (8 - k) 0 ++ be U k)).set (7 - k) (.int .u8 ((UInt8.ofNat (U / 256 ^ k)).toNat : Int)) = u8s (List.replicate (8 - (k + 1)) 0 ++ be U (k + 1)) := by
  have e1 : List.replicate (8 - k) (0 : UInt8) = List.replicate (7 - k) 0 ++ [0] := by
    rw [show 8 - k = (7 - k) + 1 from by omega, List.replicate_succ']
  have e2 : (u8s (List.replicate (7 - k) 0)).length = 7 - k := by simp [u8s_len]
  rw [e1, be_cons, List.append_assoc, u8s_app, u8s_app (List.replicate (8 - (k + 1)) 0), show 8 - (k + 1) = 7 - k from by omega]
  have := set_mid (u8s (List.replicate (7 - k) 0)) (u8s (be U k)) (.int .u8 ((0 : UInt8).toNat : Int)) (.int .u8 ((UInt8.ofNat (U / 256 ^ k)).toNat : Int))
  rw [e2] at this
  exact this

set_option maxHeartbeats 1000000 in
theorem refIntO_any (A : Option Addr) (l : List UInt8) (c : Nat) (n : Int) (w : World) (hr : Rd w w.heap.size A l) (hl : l.length ≤ 1000000000) :
    Calls Tryd.prog 22 #[.slice A l.length c, .int .i64 n] w fun e w' => ∃ v, e = .returned v ∧ OwnB w' w.heap.size 5 v (l ++ be (b64 n) 8) ∧ Below w.heap.size w w' := by
  have hmk : (Instr.makeSlice 26 (.int .i64 8) (.int .i64 8)).run Tryd.prog w = .ok (.slice (some ⟨w.heap.size, 0, none⟩) 8 8) (w.alloc (.cells (u8s (List.replicate 8 0)).toArray 5)) := run_make_bytes 8 8 (by omega) (by omega) w
  have hB0 := Blk.new w 5 (u8s (List.replicate 8 0))
  have hb0 := below_alloc w (.cells (u8s (List.replicate 8 0)).toArray 5)
  have HB0 := Lib.hid hB0
  have Hb0 := Lib.hid hb0
  clear hB0 hb0
  generalize w.alloc (.cells (u8s (List.replicate 8 0)).toArray 5) = w0 at *
  go_enter Tryd.func22, Tryd.ntmps22
  go_wp2
  rw [wrap_u64_eq]
  go_loopw [6, 7] (fun u i w' => ∃ k : Nat, k ≤ 8 ∧ i = .int .i64 k ∧ u = .int .u64 ((b64 n / 256 ^ k : Nat) : Int) ∧ Blk w' w.heap.size 5 (u8s (List.replicate (8 - k) 0 ++ be (b64 n) k)) ∧ Below w.heap.size w w') (fun _ i _ => 8 - (intOf i).toNat)
  case atStart => exact ⟨0, by omega, rfl, by simp, by simpa [be] using HB0.out, Hb0.out⟩
  case round =>
    obtain ⟨k, hk, rfl, rfl, hBk, hb⟩ := hrel
    by_cases hlt : k < 8
    · have hlen : 7 - k < (u8s (List.replicate (8 - k) 0 ++ be (b64 n) k)).length := by
        simp [u8s_len, be_len]; omega
      obtain ⟨v0, hc⟩ : ∃ v0, wr.cell? ⟨w.heap.size, 7 - k, none⟩ = some v0 := ⟨_, by
        rw [hBk.cell, List.getElem?_eq_getElem hlen]⟩
      have hf := hBk.frozen (7 - k)
      have hbS : ∀ v : Value, Below w.heap.size w (wr.setCell ⟨w.heap.size, 7 - k, none⟩ v) := fun v => hb.setCell (Nat.le_refl _) v
      have hBS := hBk.set_ (7 - k) (.int .u8 (((b64 n : Int) / 256 ^ k).tmod 256 % 256))
      rw [ri_b, ri_set (b64 n) k hlt, ← ri_b] at hBS
      have HB := Lib.hid hBS
      have Hb := Lib.hid hbS
      have HU := Lib.hid (ri_u (b64 n) k (u64_lt n))
      clear hBS hbS hBk hb hlen
      go_wp2
      exact ⟨⟨k + 1, by omega, by go_num, by rw [HU.out], HB.out, Hb.out _⟩, by simp [intOf]; omega⟩
    · obtain rfl : k = 8 := by omega
      have hBk' : Blk wr w.heap.size 5 (u8s (be (b64 n) 8)) := by simpa using hBk
      have hOw := own_made wr w.heap.size 5 (Nat.le_of_lt hBk'.lt)
      have hbO : Below w.heap.size w (wr.alloc (.cells #[] 5)) := hb.alloc (Nat.le_of_lt hBk'.lt) _
      obtain ⟨v1, w1, hr1, ho1, hb1, hg1⟩ := app_rd (P := Tryd.prog) 26 26 Tryd.und22 Tryd.info5 hOw hbO.size c (hr.below hbO) (by simp; omega)
      have hne : some w.heap.size ≠ Value.ownBlock (.slice (some ⟨wr.heap.size, 0, none⟩) 0 0) := by
        have := hBk'.lt
        simp [Value.ownBlock]; omega
      have hP := (hBk'.alloc (.cells #[] 5)).grown hg1 hne
      obtain ⟨v2, w2, hr2, ho2, hb2, _⟩ := app_rd (P := Tryd.prog) 26 26 Tryd.und22 Tryd.info5 ho1 (hbO.trans hb1).size 8 (Rd.of_all hP) (by simp [be_len]; omega)
      simp only [be_len, List.nil_append] at hr2 ho2
      have Hb2 := Lib.hid ((hbO.trans hb1).trans hb2)
      have HO2 := Lib.hid ho2
      clear hBk hBk' hOw hbO ho1 hb1 hg1 hne hP ho2 hb2 hb
      go_wp2_with (at_builtin; first | refine wpList_append_run rfl (.tmp 24) (.tmp 25) _ rfl rfl rfl hr1 ?_ | refine wpList_append_run rfl (.tmp 26) (.tmp 27) _ rfl rfl rfl hr2 ?_)
      go_ret
      exact ⟨v2, rfl, HO2.out, Hb2.out⟩

end Go.Proofs.YtjhkodmaalefiaaDoor
namespace Go.Gar
open Go.RowKit
/-- All blocks below a bound stay as they were. -/
def belowG (B : Nat) : Growth := ⟨fun w w' => Below B w w', fun w => Below.refl _ w, fun h k => h.trans k⟩
theorem wpList_neq_arr_w {P : Program} {w : World} {ops : Array Oper} {rest : List Oper} {o : Oper} {a : Act} {Q : Exit → Act → World → Prop} (t t2 : TypeId) (p q : Operand) (ho : o.op = .binOp .neq t p q t2) {x y : Array Value} (hp : a.eval p = .agg x) (hq : a.eval q = .agg y) (r : Bool)
    (hg : P.eqGuardType P.depth t = false) (heq : ∀ w, (Op.equalIn 10000 t (.agg x) (.agg y)).run P w = .ok r w) (hw : Region.wanted o (yielded ops a.tmps) = true)
    (h : wpList P ops Q rest (a.put o.dst (.bool (!r))) w) : wpList P ops Q (o :: rest) a w := by
  refine wpList_run_w hw (v := .bool (!r)) (w' := w) ?_ h
  have h1 : (eqGuard .neq t p q (.agg x) (.agg y)).run P w = .ok () w := by
    simp [eqGuard, hg, Sem.run_bind]
  have h2 : (binOp .neq t (.agg x) (.agg y)).run P w = .ok (.bool (!r)) w := by
    have := heq w
    simp [binOp, Op.equal, Op.maxDepth, this, Result.andThen]
  unfold execOp
  simp only [ho, hp, hq, Sem.run_bind, h1, h2, Result.andThen_ok, Sem.run_pure]
section
variable {G : Growth} {P : Program} {Q : Exit → Act → World → Prop} {md : Region.Mode}
def firstOk (md : Region.Mode) (ops : Array Oper) (i : Nat) (listed : Array Bool) : Bool :=
  closedB md ops listed && (Region.ready md ops listed).contains i && Region.free md ops listed i
theorem firstG {L : List Oper} (hs : Region.noSelect L.toArray = true) (hQ : ∀ c (a : Act) (d : Tmp) v w, Q (.panic c) (a.put (some d) v) w → Q (.panic c) a w) (i n : Nat) {N : Nat} {o : Oper} {listed : Array Bool} {a : Act} {w : World} (hN : N = n + 1)
    (hi : L[i]? = some o) (hok : firstOk md L.toArray i listed = true) {v : Value} (hw : Region.wanted o (yielded L.toArray a.tmps) = true) (hrun : ∀ W : Later G w, (execOp a.eval o).run P W.to = .ok (.value v) W.to)
    (h : wpAnyG G P md L.toArray Q n (listed.setIfInBounds i true) (a.put o.dst v) w) : wpAnyG G P md L.toArray Q N listed a w := by
  subst hN
  simp only [firstOk, Bool.and_eq_true] at hok
  obtain ⟨⟨hcl, hr⟩, hf⟩ := hok
  have hi' : L.toArray[i]? = some o := by simpa using hi
  exact wpAnyG_first w hi' (Region.noSelect_spec hs) (fun c a w h => panic_put hQ c a _ _ w h) n listed a w (closed_of hcl) (Region.free_spec hi' hf) (by simpa using hr) (.inl ⟨hw, fun W hW => hrun ⟨W, hW⟩⟩) (G.refl w) h
/-- A slice turned into an array's address, first. -/
theorem firstG_arrayAt {L : List Oper} (t : TypeId) (p : Operand) {x v : Value} {n i : Nat} {N : Nat} {o : Oper} {listed : Array Bool} {a : Act} {w : World} (hs : Region.noSelect L.toArray = true) (hQ : ∀ c (a : Act) (d : Tmp) v w, Q (.panic c) (a.put (some d) v) w → Q (.panic c) a w) (hN : N = n + 1)
    (hi : L[i]? = some o) (hok : firstOk md L.toArray i listed = true) (ho : o.op = .sliceToArrayPointer t p) (hp : a.eval p = x) (hrun : ∀ W, (Instr.arrayAt t x).run P W = .ok v W) (hw : Region.wanted o (yielded L.toArray a.tmps) = true)
    (h : wpAnyG G P md L.toArray Q n (listed.setIfInBounds i true) (a.put o.dst v) w) : wpAnyG G P md L.toArray Q N listed a w := by
  refine firstG hs hQ i n hN hi hok hw (fun W => ?_) h
  unfold execOp
  simp only [ho, hp, Sem.run_bind, hrun, Result.andThen_ok, Sem.run_pure]
/-- An array loaded from the midst of a block, in a segment. -/
theorem wpQuiet_load_at {w : World} {ops : Array Oper} {Q : Act → Prop} {rest : List Oper} {o : Oper} {a : Act} (t : TypeId) (p : Operand) (ho : o.op = .load t p) {g q : Nat} (hp : a.eval p = .pointer (some ⟨g, q, none⟩)) (x : Array Value)
    (hld : ∀ W : Later G w, (loadVar t ⟨g, q, none⟩).run P W.to = .ok (.agg x) W.to) (hw : Region.wanted o (yielded ops a.tmps) = true)
    (h : wpQuiet P ops (fun W => ∃ y : Later G w, W = y.to) Q rest (a.put o.dst (.agg x))) : wpQuiet P ops (fun W => ∃ y : Later G w, W = y.to) Q (o :: rest) a := by
  refine wpQuiet_val hw (fun W hW => ?_) h
  obtain ⟨y, rfl⟩ := hW
  unfold execOp
  simp only [ho, hp, Instr.loadAt, Instr.sureAddr, Sem.run_bind, hld y, Result.andThen_ok, Sem.run_pure]
end
end Go.Gar
namespace Go.Proofs.YtjhkodmaalefiaaDoor
open Go.RowKit Go.Gar

/-- The reference's sums, as a value. -/
def SumsV (w : World) (x : Array Value) : Prop := ∃ AK AH cK cH, x = #[.slice AK 64 cK, .slice AH 8 cH] ∧ RdV w w.heap.size AK (u32s Sha.kL) ∧ RdV w w.heap.size AH (u32s Sha.hL)
theorem SumsV.below {w w' : World} {x : Array Value} (h : SumsV w x) (hb : Below w.heap.size w w') : SumsV w' x := by
  obtain ⟨AK, AH, cK, cH, h1, h2, h3⟩ := h
  exact ⟨AK, AH, cK, cH, h1, (h2.below hb).more hb.size, (h3.below hb).more hb.size⟩
theorem SumsV.size {w : World} {x : Array Value} (h : SumsV w x) : x.size = 2 := by
  obtain ⟨AK, AH, cK, cH, rfl, _⟩ := h
  rfl
theorem Tryd.undSumsS : Tryd.prog.underlying 35 = some (.struct (Tryd.prog.fieldsOf 35)) := by kernel_rfl
theorem Tryd.sizeSums : (Tryd.prog.info? 35).map (·.size) = some 2 := by kernel_rfl
theorem load_sums {G : Growth} {w : World} {g : Nat} {x : Array Value} (hsz : x.size = 2) (h : ∀ W : Later G w, Blk W.to g 35 x.toList) :
    ∀ W : Later G w, (Instr.loadAt 35 (.pointer (some ⟨g, 0, none⟩))).run Tryd.prog W.to = .ok (.agg x) W.to := by
  intro W
  have h1 := h W
  have := run_loadVar_row (P := Tryd.prog) W.to g 35 35 x (0, 0) _ (by have h2 := h1; unfold Blk at h2; rw [Array.toArray_toList] at h2; exact h2) Tryd.undSumsS rfl (by rw [hsz]; exact Tryd.sizeSums)
  simp only [Instr.loadAt, Instr.sureAddr, Sem.run_bind, Sem.run_pure, Result.andThen]
  exact this
theorem refSum_at (w : World) (x : Array Value) (hx : SumsV w x) (A : Option Addr) (l : List UInt8) (n c : Nat) (hn : n = l.length) (hr : Rd w w.heap.size A l) (hl : l.length ≤ 1048576) :
    Calls Tryd.prog 30 #[.agg x, .slice A n c] w fun e w' => ∃ v, e = .returned v ∧ OwnB w' w.heap.size 5 v (Sha.of l) ∧ Below w.heap.size w w' := by
  obtain ⟨AK, AH, cK, cH, rfl, h2, h3⟩ := hx
  exact refOf5_any w AK AH cK cH A l n c h2 h3 hn hr hl
theorem refIntO_at (A : Option Addr) (l : List UInt8) (m c : Nat) (n : Int) (w : World) (hm : m = l.length) (hr : Rd w w.heap.size A l) (hl : l.length ≤ 1000000000) :
    Calls Tryd.prog 22 #[.slice A m c, .int .i64 n] w fun e w' => ∃ v, e = .returned v ∧ OwnB w' w.heap.size 5 v (l ++ be (b64 n) 8) ∧ Below w.heap.size w w' := by
  subst hm
  exact refIntO_any A l c n w hr hl

end Go.Proofs.YtjhkodmaalefiaaDoor
