/-
  Layer 6: MacParts, walked from the contract of mac's functions.
-/
import Derived.Test.YtlbmpjikaoenoaaDoorMacAw
import Derived.Test.YtlbmpjikaoenoaaDoorReg2
import Derived.Test.YtlbmpjikaoenoaaDoorShGh
namespace Go.Proofs.YtlbmpjikaoenoaaDoor
open Go.ChangeShapes Go.WideShapes Go.ChangeAt Go.RowKit Go.Gar

/-- What stays as it was while the law goes on. -/
structure SitM (G : World → Prop) (w0 w : World) (K A : Option Addr) (xk x : List UInt8) (gw : Nat) (wide : List UInt8) : Prop where
  g : G w
  rk : Rd w w.heap.size K xk
  rd : Rd w w.heap.size A x
  wd : Blk w gw 5 (u8s wide)
  below : Below w0.heap.size w0 w
theorem SitM.onK {G : World → Prop} (hK : ∀ {w w' : World}, G w → Below w.heap.size w w' → G w') {w0 w w' : World} {K A : Option Addr} {xk x : List UInt8} {gw : Nat} {wide : List UInt8} (h : SitM G w0 w K A xk x gw wide) (hb : Below w.heap.size w w') : SitM G w0 w' K A xk x gw wide :=
  ⟨hK h.g hb, (h.rk.below hb).more hb.size, (h.rd.below hb).more hb.size, h.wd.below hb h.wd.lt, h.below.trans (hb.mono h.below.size)⟩
theorem rd_cutM {w : World} {B : Nat} {A : Option Addr} {x : List UInt8} (h : Rd w B A x) (cap i n : Nat) (hc : x.length ≤ cap) : Rd w B (if cap = i then A else Option.map (fun q => q.add i) A) ((x.drop i).take n) := by
  rcases h with rfl | ⟨b, o, rfl, hb, hc'⟩
  · left; simp
  · by_cases hi : cap = i
    · left
      rw [List.drop_of_length_le (by omega)]
      simp
    · rw [if_neg hi, Option.map_some, Addr.add_lit]
      refine .inr ⟨b, o + i, rfl, hb, fun j c hj => ?_⟩
      rw [List.getElem?_take] at hj
      split at hj
      · rw [List.getElem?_drop] at hj
        rw [Nat.add_assoc]
        exact hc' _ _ hj
      · cases hj
theorem mac1b {G : World → Prop} (hOK : MacOK G) (K A : Option Addr) (key l : List UInt8) (kl kc n c g : Nat) (w : World) (x : Array Value) (hx : x = (u8s (Mac.of key l)).toArray) (hG : G w) (hB : Blk w g 22 [.slice A n c]) (hkl : kl = key.length) (hn : n = l.length) (hkc : key.length ≤ kc) (rK : Rd w w.heap.size K key) (rA : Rd w w.heap.size A l) (hs1 : key.length ≤ 1048576) (hs : l.length ≤ 1000000) (hc : l.length ≤ c) :
    Calls Tryd.prog 6 #[.slice K kl kc, .slice (some ⟨g, 0, none⟩) 1 1] w fun e w' => e = .returned (.agg x) ∧ Below w.heap.size w w' := by
  subst hkl; subst hn; subst hx
  have h := hOK.of w K key kc (some ⟨g, 0, none⟩) [(A, l, c)] 1 hG rK hkc hs1 (by simpa [partV] using Cells.of_blk hB) (by
    intro p hp
    simp at hp
    subst hp
    exact ⟨rA, hc⟩) (by simpa [cat] using hs) (by simp)
  exact h.mono fun e w' ⟨h1, h2⟩ => ⟨by simpa [cat] using h1, h2⟩
theorem mac2b {G : World → Prop} (hOK : MacOK G) (K A1 A2 : Option Addr) (key l1 l2 : List UInt8) (kl kc n1 n2 c1 c2 g : Nat) (w : World) (x : Array Value) (hx : x = (u8s (Mac.of key (l1 ++ l2))).toArray) (hG : G w) (hB : Blk w g 22 [.slice A1 n1 c1, .slice A2 n2 c2]) (hkl : kl = key.length) (hn1 : n1 = l1.length) (hn2 : n2 = l2.length) (hkc : key.length ≤ kc) (rK : Rd w w.heap.size K key) (r1 : Rd w w.heap.size A1 l1) (r2 : Rd w w.heap.size A2 l2) (hs1 : key.length ≤ 1048576) (hs : (l1 ++ l2).length ≤ 1000000) (h1 : l1.length ≤ c1) (h2 : l2.length ≤ c2) :
    Calls Tryd.prog 6 #[.slice K kl kc, .slice (some ⟨g, 0, none⟩) 2 2] w fun e w' => e = .returned (.agg x) ∧ Below w.heap.size w w' := by
  subst hkl; subst hn1; subst hn2; subst hx
  have h := hOK.of w K key kc (some ⟨g, 0, none⟩) [(A1, l1, c1), (A2, l2, c2)] 2 hG rK hkc hs1 (by simpa [partV] using Cells.of_blk hB) (by
    intro p hp
    simp at hp
    rcases hp with rfl | rfl
    · exact ⟨r1, h1⟩
    · exact ⟨r2, h2⟩) (by simpa [cat] using hs) (by simp)
  exact h.mono fun e w' ⟨h1, h2⟩ => ⟨by simpa [cat] using h1, h2⟩
/-- copy(wide, k): the key's first bytes, zeros behind them. -/
def wideOf (k : List UInt8) : List UInt8 := k.take 64 ++ List.replicate (64 - (k.take 64).length) 0
theorem wideOf_len (k : List UInt8) : (wideOf k).length = 64 := by simp [wideOf]; omega
def zW64 : List UInt8 := List.replicate 64 0
theorem make_wide (w : World) : (Instr.makeSlice 22 (.int .i64 64) (.int .i64 64)).run Tryd.prog w = .ok (.slice (some ⟨w.heap.size, 0, none⟩) 64 64) (w.alloc (.cells (u8s zW64).toArray 5)) := run_make_bytes 64 64 (by omega) (by omega) w
theorem copy_wide {w : World} {g : Nat} (hB : Blk w g 5 (u8s zW64)) {K : Option Addr} {k : List UInt8} {B : Nat} (hr : Rd w B K k) (n kc : Nat) (hn : n = k.length) :
    ∃ q : Nat, (Builtin.copy_ #[22, 22] 3 #[.slice (some ⟨g, 0, none⟩) 64 64, .slice K n kc]).run Tryd.prog w = .ok (goInt q) (w.setRow g (u8s (wideOf k)).toArray) := by
  subst hn
  rcases hr with rfl | ⟨b, o, rfl, _, hc⟩
  · refine ⟨0, ?_⟩
    rw [run_copy_none w 22 22 3 5 _ _ _ _ _ _ Tryd.und22 Tryd.size5 (by simp)]
    have := setRow_self w g (u8s zW64).toArray 5 (0, 0) hB
    rw [show wideOf [] = zW64 from rfl, this]
    rfl
  · refine ⟨min k.length 64, ?_⟩
    rw [run_copy_seg (P := Tryd.prog) (w := w) 22 22 3 5 Tryd.und22 Tryd.size5 g 0 64 64 k.length kc b o k (min k.length 64) hc rfl rfl _ _ hB (by rw [u8s_len, zW64, List.length_replicate]; omega)]
    have e : (u8s zW64).take 0 ++ u8s (k.take (min k.length 64)) ++ (u8s zW64).drop (0 + min k.length 64) = u8s (wideOf k) := by
      rw [List.take_zero, List.nil_append, Nat.zero_add, u8s_drop, ← u8s_app, wideOf, zW64, List.drop_replicate]
      have e1 : k.take (min k.length 64) = k.take 64 := by rw [List.take_eq_take_iff]; omega
      rw [e1, List.length_take, Nat.min_comm]
    rw [e]

set_option maxHeartbeats 4000000 in
set_option maxRecDepth 100000 in
theorem macparts_walk {G : World → Prop} (hOK : MacOK G) (K A : Option Addr) (lk lx xk x : List UInt8) (kc cap mk m a : Nat) (w : World) (hG : G w) (hck : lk.length ≤ kc) (hc : lx.length ≤ cap) (hxk : xk.length = mk) (hx : x.length = m) (hmk : mk = min lk.length 300) (hm : m = min lx.length 300) (ha : a < 65536) (rk : Rd w w.heap.size K xk) (r : Rd w w.heap.size A x) :
    Calls Tryd.prog 5 #[.slice K lk.length kc, .slice A lx.length cap, .int .u16 (a : Int)] w fun e w' => e = .returned (.bool true) ∧ Below w.heap.size w w' := by
  have bk : mk ≤ 300 := by omega
  have bm : m ≤ 300 := by omega
  have dk : mk ≤ kc := by omega
  have dm : m ≤ cap := by omega
  have HXk := Lib.hid hxk
  have HX := Lib.hid hx
  have HMk := Lib.hid hmk
  have HM := Lib.hid hm
  have HRk := Lib.hid rk
  have HR := Lib.hid r
  have HOK := Lib.hid hOK
  have HG := Lib.hid hG
  obtain ⟨i, hi0⟩ : ∃ i, a % (m + 1) = i := ⟨_, rfl⟩
  have him : i ≤ m := by have := Nat.mod_lt a (show 0 < m + 1 by omega); omega
  have hEi : (a : Int) % ((m : Int) + 1) = (i : Int) := by rw [← hi0]; simp
  have hmkb := make_wide w
  have hB0 := Blk.new w 5 (u8s zW64)
  obtain ⟨q, hcw⟩ := copy_wide hB0 ((rk.alloc (Nat.le_refl _) (.cells (u8s zW64).toArray 5))) mk kc hxk.symm
  have hBw := hB0.row (u8s (wideOf xk))
  have hbw : Below w.heap.size w ((w.alloc (.cells (u8s zW64).toArray 5)).setRow w.heap.size (u8s (wideOf xk)).toArray) := below_setRow (below_alloc w _) (Nat.le_refl _) _
  obtain ⟨wide, hwide⟩ : ∃ wide, wide = wideOf xk := ⟨_, rfl⟩
  rw [← hwide] at hBw hbw hcw
  have HWl : Hid (wide.length = 64) := Lib.hid (by rw [hwide]; exact wideOf_len xk)
  have HWide : Hid (¬ 64 < mk → Mac.of wide x = Mac.of xk x) := Lib.hid (fun h => by
    have h64 : xk.length ≤ 64 := by omega
    rw [hwide, wideOf, List.take_of_length_le h64]
    exact Mac.of_wide xk x h64)
  clear hxk hx hmk hm rk r hOK hG hi0 hB0 hwide
  go_enter Tryd.func5, Tryd.ntmps5
  go_wp2_with fail
  refine (short6_any A lx.length cap m w HM.out hc).mono ?_
  rintro e w' ⟨rfl, rfl⟩
  go_wp2_with fail
  refine (short6_any K lk.length kc mk w' HMk.out hck).mono ?_
  rintro e w0 ⟨rfl, rfl⟩
  have hS0 : SitM G w0 ((w0.alloc (.cells (u8s zW64).toArray 5)).setRow w0.heap.size (u8s wide).toArray).drew K A xk x w0.heap.size wide :=
    ⟨HOK.out.keep HG.out hbw.drew, (HRk.out.below hbw).more hbw.size, (HR.out.below hbw).more hbw.size, hBw, hbw.drew⟩
  have HS0 := Lib.hid hS0
  clear hS0 hBw hbw
  go_wp2_with fail
  refine wp_region_G grows (by kernel_rfl) ?_
  obtain ⟨gw, hgw⟩ : ∃ gw, gw = w0.heap.size := ⟨_, rfl⟩
  rw [← hgw] at HS0 ⊢
  generalize ((w0.alloc (.cells (u8s zW64).toArray 5)).setRow gw (u8s wide).toArray).drew = wa at HS0 ⊢
  clear hgw
  refine oneG 0 33 rfl (by kernel_rfl) rfl ?_
  go_wp2_with fail
  refine (awake6_any HOK.out wa HS0.out.g).mono ?_
  rintro e wb ⟨rfl, hb⟩
  have HS1 := Lib.hid (HS0.out.onK HOK.out.keep hb)
  go_wp2
  refine ⟨hb, ?_⟩
  clear hb HS0
  refine segG (by kernel_rfl) (fun _ _ _ _ _ h => h) [1, 2, 3, 6, 7, 8, 9, 10, 11, 12] [_, _, _, _, _, _, _, _, _, _] 23 rfl rfl (by kernel_rfl) ?_
  repeat (go_big_quiet_step (fail))
  refine wpQuiet_nil ?_
  obtain ⟨A2, hA2⟩ : ∃ A2, (if cap = i then A else Option.map (fun q => q.add i) A) = A2 := ⟨_, rfl⟩
  rw [hA2]
  obtain ⟨y1, hy1⟩ : ∃ y1, x.take i = y1 := ⟨_, rfl⟩
  obtain ⟨y2, hy2⟩ : ∃ y2, (x.drop i).take (m - i) = y2 := ⟨_, rfl⟩
  have hxm := HX.out
  have HRY1 : Hid (∀ w, SitM G w0 w K A xk x gw wide → Rd w w.heap.size A y1) := Lib.hid fun w h => by rw [← hy1]; exact h.rd.take i
  have HRY2 : Hid (∀ w, SitM G w0 w K A xk x gw wide → Rd w w.heap.size A2 y2) := Lib.hid fun w h => by rw [← hy2, ← hA2]; exact rd_cutM h.rd cap i _ (by omega)
  have HY1 : Hid (y1.length = i) := Lib.hid (by rw [← hy1, List.length_take]; omega)
  have HY2 : Hid (y2.length = m - i) := Lib.hid (by rw [← hy2, List.length_take, List.length_drop]; omega)
  have HY : Hid (y1 ++ y2 = x) := Lib.hid (by
    rw [← hy1, ← hy2, List.take_of_length_le (l := x.drop i) (by rw [List.length_drop]; omega), List.take_append_drop])
  obtain ⟨D, hD⟩ : ∃ D, D = (u8s (Mac.of xk x)).toArray := ⟨_, rfl⟩
  have HDD : Hid (∀ w, (Op.equalIn 10000 23 (.agg D) (.agg D)).run Tryd.prog w = .ok true w) := Lib.hid (by rw [hD]; exact eq32 _ (Mac.of_len _ _))
  have HD := Lib.hid hD
  clear hD hy1 hy2 hA2 hxm
  refine nameG fun W hW => ?_
  by_cases hlong : 64 < mk
  · have hd : decide ((64 : Int) < (mk : Int)) = true := by simp; omega
    have rest2 : ∀ (c0 c1 c2 c3 c4 c5 c6 c8 c11 c12 c13 c14 c15 c16 c17 c18 c19 c20 c21 c22 c23 c24 c25 c27 c28 c29 c31 c32 c33 c34 c35 c36 c37 c38 c40 c41 c42 c43 c44 c45 c46 c47 c48 c49 c50 c51 c52 c53 c54 c55 c56 c57 : Value) (wq : World), SitM G w0 wq K A xk x gw wide → W 19 (Array.replicate 15 true ++ Array.replicate 19 false) { tmps := List.toArray (c0 :: c1 :: c2 :: c3 :: c4 :: c5 :: c6 :: (.slice A m cap) :: c8 :: (.slice K mk kc) :: (.slice (some ⟨gw, 0, none⟩) 64 64) :: c11 :: c12 :: c13 :: c14 :: c15 :: c16 :: c17 :: c18 :: c19 :: c20 :: c21 :: c22 :: c23 :: c24 :: c25 :: (.bool true) :: c27 :: c28 :: c29 :: (.agg D) :: c31 :: c32 :: c33 :: c34 :: c35 :: c36 :: c37 :: c38 :: (.agg D) :: c40 :: c41 :: c42 :: c43 :: c44 :: c45 :: c46 :: c47 :: c48 :: c49 :: c50 :: c51 :: c52 :: c53 :: c54 :: c55 :: c56 :: c57 :: []), defers := [] } wq := by
      intro c0 c1 c2 c3 c4 c5 c6 c8 c11 c12 c13 c14 c15 c16 c17 c18 c19 c20 c21 c22 c23 c24 c25 c27 c28 c29 c31 c32 c33 c34 c35 c36 c37 c38 c40 c41 c42 c43 c44 c45 c46 c47 c48 c49 c50 c51 c52 c53 c54 c55 c56 c57 wq hS
      have HS := Lib.hid hS
      clear hS
      rw [hW]
      refine segG (by kernel_rfl) (fun _ _ _ _ _ h => h) [15, 16, 17, 18, 19, 20, 21] [_, _, _, _, _, _, _] 12 rfl rfl (by kernel_rfl) ?_
      refine wpQuiet_eql_arr 23 23 (.tmp 30) (.tmp 39) rfl rfl rfl true Tryd.guard32 HDD.out (by kernel_rfl) ?_
      simp only [Act.put, List.setIfInBounds_toArray, List.set]
      repeat (go_big_quiet_step (fail))
      refine wpQuiet_nil ?_
      refine segG (by kernel_rfl) (fun _ _ _ _ _ h => h) [22, 23, 26, 27] [_, _, _, _] 8 rfl rfl (by kernel_rfl) ?_
      repeat (go_big_quiet_step (fail))
      refine wpQuiet_nil ?_
      refine twoG 24 28 7 rfl (by kernel_rfl) rfl rfl ?_ ?_
      · go_wp2
        refine ⟨grows.refl _, ?_⟩
        refine twoG 25 28 6 rfl (by kernel_rfl) rfl rfl ?_ ?_
        · go_wp2
          refine ⟨grows.refl _, ?_⟩
          refine oneG 28 5 rfl (by kernel_rfl) rfl ?_
          go_wp2
          refine ⟨grows.refl _, ?_⟩
          refine oneG 29 4 rfl (by kernel_rfl) rfl ?_
          go_wp2
          refine ⟨grows.refl _, ?_⟩
          refine segG (by kernel_rfl) (fun _ _ _ _ _ h => h) [30, 31, 32, 33] [_, _, _, _] 0 rfl rfl (by kernel_rfl) ?_
          repeat (go_big_quiet_step (fail))
          refine wpQuiet_nil ?_
          refine wpAnyG_done (by kernel_rfl) ?_
          go_wp2
          go_ret
          exact ⟨rfl, HS.out.below⟩
        · go_wp2
          refine ⟨grows.refl _, ?_⟩
          refine oneG 25 5 rfl (by kernel_rfl) rfl ?_
          go_wp2
          refine ⟨grows.refl _, ?_⟩
          refine oneG 29 4 rfl (by kernel_rfl) rfl ?_
          go_wp2
          refine ⟨grows.refl _, ?_⟩
          refine segG (by kernel_rfl) (fun _ _ _ _ _ h => h) [30, 31, 32, 33] [_, _, _, _] 0 rfl rfl (by kernel_rfl) ?_
          repeat (go_big_quiet_step (fail))
          refine wpQuiet_nil ?_
          refine wpAnyG_done (by kernel_rfl) ?_
          go_wp2
          go_ret
          exact ⟨rfl, HS.out.below⟩
      · go_wp2
        refine ⟨grows.refl _, ?_⟩
        refine oneG 24 6 rfl (by kernel_rfl) rfl ?_
        go_wp2
        refine ⟨grows.refl _, ?_⟩
        refine oneG 25 5 rfl (by kernel_rfl) rfl ?_
        go_wp2
        refine ⟨grows.refl _, ?_⟩
        refine oneG 29 4 rfl (by kernel_rfl) rfl ?_
        go_wp2
        refine ⟨grows.refl _, ?_⟩
        refine segG (by kernel_rfl) (fun _ _ _ _ _ h => h) [30, 31, 32, 33] [_, _, _, _] 0 rfl rfl (by kernel_rfl) ?_
        repeat (go_big_quiet_step (fail))
        refine wpQuiet_nil ?_
        refine wpAnyG_done (by kernel_rfl) ?_
        go_wp2
        go_ret
        exact ⟨rfl, HS.out.below⟩
    rw [hW]
    obtain ⟨wq, rfl⟩ : ∃ wq, wq = wb := ⟨_, rfl⟩
    have HS := HS1
    clear HS1
    refine twoG 4 13 22 rfl (by kernel_rfl) rfl rfl ?_ ?_
    · have S1 := Lib.hid (HS.out.onK HOK.out.keep (below_alloc wq (.cells ([.slice A m cap] : List Value).toArray 22)))
      have P1_1 := Lib.hid (Blk.new wq 22 [.slice A m cap])
      go_wp2
      refine ⟨below_alloc _ _, ?_⟩
      generalize wq.heap.size = P1g at P1_1 ⊢
      generalize wq.alloc (.cells ([.slice A m cap] : List Value).toArray 22) = wp1 at S1 P1_1  ⊢
      refine twoG 5 13 21 rfl (by kernel_rfl) rfl rfl ?_ ?_
      · go_wp2_with fail
        refine (mac1b HOK.out K A xk x mk kc m cap P1g wp1 D (by rw [HD.out]) S1.out.g P1_1.out HXk.out.symm HX.out.symm (by rw [HXk.out]; exact dk) S1.out.rk S1.out.rd (by rw [HXk.out]; omega) (by rw [HX.out]; omega) (by rw [HX.out]; exact dm)).mono ?_
        rintro e wp2 ⟨rfl, hb⟩
        have S2 := Lib.hid (S1.out.onK HOK.out.keep hb)
        have P1_2 := Lib.hid (P1_1.out.below hb P1_1.out.lt)
        go_wp2
        refine ⟨hb, ?_⟩
        clear hb
        refine oneG 13 20 rfl (by kernel_rfl) rfl ?_
        have S3 := Lib.hid (S2.out.onK HOK.out.keep (below_alloc wp2 (.cells ([.slice A i cap, .slice A2 (m - i) (cap - i)] : List Value).toArray 22)))
        have P2_3 := Lib.hid (Blk.new wp2 22 [.slice A i cap, .slice A2 (m - i) (cap - i)])
        have P1_3 := Lib.hid (P1_2.out.alloc (.cells ([.slice A i cap, .slice A2 (m - i) (cap - i)] : List Value).toArray 22))
        go_wp2
        refine ⟨below_alloc _ _, ?_⟩
        generalize wp2.heap.size = P2g at P2_3 ⊢
        generalize wp2.alloc (.cells ([.slice A i cap, .slice A2 (m - i) (cap - i)] : List Value).toArray 22) = wp3 at S3 P2_3 P1_3 ⊢
        refine oneG 14 19 rfl (by kernel_rfl) rfl ?_
        go_wp2_with fail
        refine (mac2b HOK.out K A A2 xk y1 y2 mk kc i (m - i) cap (cap - i) P2g wp3 D (by rw [HD.out, HY.out]) S3.out.g P2_3.out HXk.out.symm HY1.out.symm HY2.out.symm (by rw [HXk.out]; exact dk) S3.out.rk (HRY1.out wp3 S3.out) (HRY2.out wp3 S3.out) (by rw [HXk.out]; omega) (by rw [HY.out, HX.out]; omega) (by rw [HY1.out]; omega) (by rw [HY2.out]; omega)).mono ?_
        rintro e wp4 ⟨rfl, hb⟩
        have S4 := Lib.hid (S3.out.onK HOK.out.keep hb)
        have P1_4 := Lib.hid (P1_3.out.below hb P1_3.out.lt)
        have P2_4 := Lib.hid (P2_3.out.below hb P2_3.out.lt)
        go_wp2
        refine ⟨hb, ?_⟩
        clear hb
        exact sameG (by kernel_rfl) (hW ▸ rest2 _ _ _ _ _ _ _ _ _ _ _ _ _ _ _ _ _ _ _ _ _ _ _ _ _ _ _ _ _ _ _ _ _ _ _ _ _ _ _ _ _ _ _ _ _ _ _ _ _ _ _ _ wp4 S4.out)
      · have S2 := Lib.hid (S1.out.onK HOK.out.keep (below_alloc wp1 (.cells ([.slice A i cap, .slice A2 (m - i) (cap - i)] : List Value).toArray 22)))
        have P2_2 := Lib.hid (Blk.new wp1 22 [.slice A i cap, .slice A2 (m - i) (cap - i)])
        have P1_2 := Lib.hid (P1_1.out.alloc (.cells ([.slice A i cap, .slice A2 (m - i) (cap - i)] : List Value).toArray 22))
        go_wp2
        refine ⟨below_alloc _ _, ?_⟩
        generalize wp1.heap.size = P2g at P2_2 ⊢
        generalize wp1.alloc (.cells ([.slice A i cap, .slice A2 (m - i) (cap - i)] : List Value).toArray 22) = wp2 at S2 P2_2 P1_2 ⊢
        refine oneG 5 20 rfl (by kernel_rfl) rfl ?_
        go_wp2_with fail
        refine (mac1b HOK.out K A xk x mk kc m cap P1g wp2 D (by rw [HD.out]) S2.out.g P1_2.out HXk.out.symm HX.out.symm (by rw [HXk.out]; exact dk) S2.out.rk S2.out.rd (by rw [HXk.out]; omega) (by rw [HX.out]; omega) (by rw [HX.out]; exact dm)).mono ?_
        rintro e wp3 ⟨rfl, hb⟩
        have S3 := Lib.hid (S2.out.onK HOK.out.keep hb)
        have P1_3 := Lib.hid (P1_2.out.below hb P1_2.out.lt)
        have P2_3 := Lib.hid (P2_2.out.below hb P2_2.out.lt)
        go_wp2
        refine ⟨hb, ?_⟩
        clear hb
        refine oneG 14 19 rfl (by kernel_rfl) rfl ?_
        go_wp2_with fail
        refine (mac2b HOK.out K A A2 xk y1 y2 mk kc i (m - i) cap (cap - i) P2g wp3 D (by rw [HD.out, HY.out]) S3.out.g P2_3.out HXk.out.symm HY1.out.symm HY2.out.symm (by rw [HXk.out]; exact dk) S3.out.rk (HRY1.out wp3 S3.out) (HRY2.out wp3 S3.out) (by rw [HXk.out]; omega) (by rw [HY.out, HX.out]; omega) (by rw [HY1.out]; omega) (by rw [HY2.out]; omega)).mono ?_
        rintro e wp4 ⟨rfl, hb⟩
        have S4 := Lib.hid (S3.out.onK HOK.out.keep hb)
        have P1_4 := Lib.hid (P1_3.out.below hb P1_3.out.lt)
        have P2_4 := Lib.hid (P2_3.out.below hb P2_3.out.lt)
        go_wp2
        refine ⟨hb, ?_⟩
        clear hb
        exact sameG (by kernel_rfl) (hW ▸ rest2 _ _ _ _ _ _ _ _ _ _ _ _ _ _ _ _ _ _ _ _ _ _ _ _ _ _ _ _ _ _ _ _ _ _ _ _ _ _ _ _ _ _ _ _ _ _ _ _ _ _ _ _ wp4 S4.out)
    · have S1 := Lib.hid (HS.out.onK HOK.out.keep (below_alloc wq (.cells ([.slice A i cap, .slice A2 (m - i) (cap - i)] : List Value).toArray 22)))
      have P2_1 := Lib.hid (Blk.new wq 22 [.slice A i cap, .slice A2 (m - i) (cap - i)])
      go_wp2
      refine ⟨below_alloc _ _, ?_⟩
      generalize wq.heap.size = P2g at P2_1 ⊢
      generalize wq.alloc (.cells ([.slice A i cap, .slice A2 (m - i) (cap - i)] : List Value).toArray 22) = wp1 at S1 P2_1  ⊢
      refine oneG 4 21 rfl (by kernel_rfl) rfl ?_
      have S2 := Lib.hid (S1.out.onK HOK.out.keep (below_alloc wp1 (.cells ([.slice A m cap] : List Value).toArray 22)))
      have P1_2 := Lib.hid (Blk.new wp1 22 [.slice A m cap])
      have P2_2 := Lib.hid (P2_1.out.alloc (.cells ([.slice A m cap] : List Value).toArray 22))
      go_wp2
      refine ⟨below_alloc _ _, ?_⟩
      generalize wp1.heap.size = P1g at P1_2 ⊢
      generalize wp1.alloc (.cells ([.slice A m cap] : List Value).toArray 22) = wp2 at S2 P1_2 P2_2 ⊢
      refine oneG 5 20 rfl (by kernel_rfl) rfl ?_
      go_wp2_with fail
      refine (mac1b HOK.out K A xk x mk kc m cap P1g wp2 D (by rw [HD.out]) S2.out.g P1_2.out HXk.out.symm HX.out.symm (by rw [HXk.out]; exact dk) S2.out.rk S2.out.rd (by rw [HXk.out]; omega) (by rw [HX.out]; omega) (by rw [HX.out]; exact dm)).mono ?_
      rintro e wp3 ⟨rfl, hb⟩
      have S3 := Lib.hid (S2.out.onK HOK.out.keep hb)
      have P2_3 := Lib.hid (P2_2.out.below hb P2_2.out.lt)
      have P1_3 := Lib.hid (P1_2.out.below hb P1_2.out.lt)
      go_wp2
      refine ⟨hb, ?_⟩
      clear hb
      refine oneG 14 19 rfl (by kernel_rfl) rfl ?_
      go_wp2_with fail
      refine (mac2b HOK.out K A A2 xk y1 y2 mk kc i (m - i) cap (cap - i) P2g wp3 D (by rw [HD.out, HY.out]) S3.out.g P2_3.out HXk.out.symm HY1.out.symm HY2.out.symm (by rw [HXk.out]; exact dk) S3.out.rk (HRY1.out wp3 S3.out) (HRY2.out wp3 S3.out) (by rw [HXk.out]; omega) (by rw [HY.out, HX.out]; omega) (by rw [HY1.out]; omega) (by rw [HY2.out]; omega)).mono ?_
      rintro e wp4 ⟨rfl, hb⟩
      have S4 := Lib.hid (S3.out.onK HOK.out.keep hb)
      have P2_4 := Lib.hid (P2_3.out.below hb P2_3.out.lt)
      have P1_4 := Lib.hid (P1_3.out.below hb P1_3.out.lt)
      go_wp2
      refine ⟨hb, ?_⟩
      clear hb
      exact sameG (by kernel_rfl) (hW ▸ rest2 _ _ _ _ _ _ _ _ _ _ _ _ _ _ _ _ _ _ _ _ _ _ _ _ _ _ _ _ _ _ _ _ _ _ _ _ _ _ _ _ _ _ _ _ _ _ _ _ _ _ _ _ wp4 S4.out)
  · have hd : decide ((64 : Int) < (mk : Int)) = false := by simp; omega
    have rest2 : ∀ (c0 c1 c2 c3 c4 c5 c6 c8 c11 c12 c13 c14 c15 c16 c17 c18 c19 c20 c21 c22 c23 c24 c25 c27 c28 c29 c31 c32 c33 c34 c35 c36 c37 c38 c40 c41 c42 c43 c44 c45 c46 c47 c48 c49 c50 c51 c52 c53 c54 c55 c56 c57 : Value) (wq : World), SitM G w0 wq K A xk x gw wide → W 19 (Array.replicate 15 true ++ Array.replicate 19 false) { tmps := List.toArray (c0 :: c1 :: c2 :: c3 :: c4 :: c5 :: c6 :: (.slice A m cap) :: c8 :: (.slice K mk kc) :: (.slice (some ⟨gw, 0, none⟩) 64 64) :: c11 :: c12 :: c13 :: c14 :: c15 :: c16 :: c17 :: c18 :: c19 :: c20 :: c21 :: c22 :: c23 :: c24 :: c25 :: (.bool true) :: c27 :: c28 :: c29 :: (.agg D) :: c31 :: c32 :: c33 :: c34 :: c35 :: c36 :: c37 :: c38 :: (.agg D) :: c40 :: c41 :: c42 :: c43 :: c44 :: c45 :: c46 :: c47 :: c48 :: c49 :: c50 :: c51 :: c52 :: c53 :: c54 :: c55 :: c56 :: c57 :: []), defers := [] } wq := by
      intro c0 c1 c2 c3 c4 c5 c6 c8 c11 c12 c13 c14 c15 c16 c17 c18 c19 c20 c21 c22 c23 c24 c25 c27 c28 c29 c31 c32 c33 c34 c35 c36 c37 c38 c40 c41 c42 c43 c44 c45 c46 c47 c48 c49 c50 c51 c52 c53 c54 c55 c56 c57 wq hS
      have HS := Lib.hid hS
      clear hS
      rw [hW]
      refine segG (by kernel_rfl) (fun _ _ _ _ _ h => h) [15, 16, 17, 18, 19, 20, 21] [_, _, _, _, _, _, _] 12 rfl rfl (by kernel_rfl) ?_
      refine wpQuiet_eql_arr 23 23 (.tmp 30) (.tmp 39) rfl rfl rfl true Tryd.guard32 HDD.out (by kernel_rfl) ?_
      simp only [Act.put, List.setIfInBounds_toArray, List.set]
      repeat (go_big_quiet_step (fail))
      refine wpQuiet_nil ?_
      refine segG (by kernel_rfl) (fun _ _ _ _ _ h => h) [22, 23, 26, 27] [_, _, _, _] 8 rfl rfl (by kernel_rfl) ?_
      repeat (go_big_quiet_step (fail))
      refine wpQuiet_nil ?_
      refine twoG 24 28 7 rfl (by kernel_rfl) rfl rfl ?_ ?_
      · have S1 := Lib.hid (HS.out.onK HOK.out.keep (below_alloc wq (.cells ([.slice A m cap] : List Value).toArray 22)))
        have P1_1 := Lib.hid (Blk.new wq 22 [.slice A m cap])
        go_wp2
        refine ⟨below_alloc _ _, ?_⟩
        generalize wq.heap.size = P1g at P1_1 ⊢
        generalize wq.alloc (.cells ([.slice A m cap] : List Value).toArray 22) = wp1 at S1 P1_1  ⊢
        refine twoG 25 28 6 rfl (by kernel_rfl) rfl rfl ?_ ?_
        · go_wp2_with fail
          refine (mac1b HOK.out K A xk x mk kc m cap P1g wp1 D (by rw [HD.out]) S1.out.g P1_1.out HXk.out.symm HX.out.symm (by rw [HXk.out]; exact dk) S1.out.rk S1.out.rd (by rw [HXk.out]; omega) (by rw [HX.out]; omega) (by rw [HX.out]; exact dm)).mono ?_
          rintro e wp2 ⟨rfl, hb⟩
          have S2 := Lib.hid (S1.out.onK HOK.out.keep hb)
          have P1_2 := Lib.hid (P1_1.out.below hb P1_1.out.lt)
          go_wp2
          refine ⟨hb, ?_⟩
          clear hb
          refine oneG 28 5 rfl (by kernel_rfl) rfl ?_
          have S3 := Lib.hid (S2.out.onK HOK.out.keep (below_alloc wp2 (.cells ([.slice A m cap] : List Value).toArray 22)))
          have P2_3 := Lib.hid (Blk.new wp2 22 [.slice A m cap])
          have P1_3 := Lib.hid (P1_2.out.alloc (.cells ([.slice A m cap] : List Value).toArray 22))
          go_wp2
          refine ⟨below_alloc _ _, ?_⟩
          generalize wp2.heap.size = P2g at P2_3 ⊢
          generalize wp2.alloc (.cells ([.slice A m cap] : List Value).toArray 22) = wp3 at S3 P2_3 P1_3 ⊢
          refine oneG 29 4 rfl (by kernel_rfl) rfl ?_
          go_wp2_with fail
          refine (mac1b HOK.out (some ⟨gw, 0, none⟩) A wide x 64 64 m cap P2g wp3 D (by rw [HD.out, HWide.out hlong]) S3.out.g P2_3.out HWl.out.symm HX.out.symm (by rw [HWl.out]; omega) (Rd.of_all S3.out.wd) S3.out.rd (by rw [HWl.out]; omega) (by rw [HX.out]; omega) (by rw [HX.out]; exact dm)).mono ?_
          rintro e wp4 ⟨rfl, hb⟩
          have S4 := Lib.hid (S3.out.onK HOK.out.keep hb)
          have P1_4 := Lib.hid (P1_3.out.below hb P1_3.out.lt)
          have P2_4 := Lib.hid (P2_3.out.below hb P2_3.out.lt)
          go_wp2
          refine ⟨hb, ?_⟩
          clear hb
          refine segG (by kernel_rfl) (fun _ _ _ _ _ h => h) [30, 31, 32, 33] [_, _, _, _] 0 rfl rfl (by kernel_rfl) ?_
          refine wpQuiet_eql_arr 23 23 (.tmp 50) (.tmp 54) rfl rfl rfl true Tryd.guard32 HDD.out (by kernel_rfl) ?_
          simp only [Act.put, List.setIfInBounds_toArray, List.set]
          repeat (go_big_quiet_step (fail))
          refine wpQuiet_nil ?_
          refine wpAnyG_done (by kernel_rfl) ?_
          go_wp2
          go_ret
          exact ⟨rfl, S4.out.below⟩
        · have S2 := Lib.hid (S1.out.onK HOK.out.keep (below_alloc wp1 (.cells ([.slice A m cap] : List Value).toArray 22)))
          have P2_2 := Lib.hid (Blk.new wp1 22 [.slice A m cap])
          have P1_2 := Lib.hid (P1_1.out.alloc (.cells ([.slice A m cap] : List Value).toArray 22))
          go_wp2
          refine ⟨below_alloc _ _, ?_⟩
          generalize wp1.heap.size = P2g at P2_2 ⊢
          generalize wp1.alloc (.cells ([.slice A m cap] : List Value).toArray 22) = wp2 at S2 P2_2 P1_2 ⊢
          refine oneG 25 5 rfl (by kernel_rfl) rfl ?_
          go_wp2_with fail
          refine (mac1b HOK.out K A xk x mk kc m cap P1g wp2 D (by rw [HD.out]) S2.out.g P1_2.out HXk.out.symm HX.out.symm (by rw [HXk.out]; exact dk) S2.out.rk S2.out.rd (by rw [HXk.out]; omega) (by rw [HX.out]; omega) (by rw [HX.out]; exact dm)).mono ?_
          rintro e wp3 ⟨rfl, hb⟩
          have S3 := Lib.hid (S2.out.onK HOK.out.keep hb)
          have P1_3 := Lib.hid (P1_2.out.below hb P1_2.out.lt)
          have P2_3 := Lib.hid (P2_2.out.below hb P2_2.out.lt)
          go_wp2
          refine ⟨hb, ?_⟩
          clear hb
          refine oneG 29 4 rfl (by kernel_rfl) rfl ?_
          go_wp2_with fail
          refine (mac1b HOK.out (some ⟨gw, 0, none⟩) A wide x 64 64 m cap P2g wp3 D (by rw [HD.out, HWide.out hlong]) S3.out.g P2_3.out HWl.out.symm HX.out.symm (by rw [HWl.out]; omega) (Rd.of_all S3.out.wd) S3.out.rd (by rw [HWl.out]; omega) (by rw [HX.out]; omega) (by rw [HX.out]; exact dm)).mono ?_
          rintro e wp4 ⟨rfl, hb⟩
          have S4 := Lib.hid (S3.out.onK HOK.out.keep hb)
          have P1_4 := Lib.hid (P1_3.out.below hb P1_3.out.lt)
          have P2_4 := Lib.hid (P2_3.out.below hb P2_3.out.lt)
          go_wp2
          refine ⟨hb, ?_⟩
          clear hb
          refine segG (by kernel_rfl) (fun _ _ _ _ _ h => h) [30, 31, 32, 33] [_, _, _, _] 0 rfl rfl (by kernel_rfl) ?_
          refine wpQuiet_eql_arr 23 23 (.tmp 50) (.tmp 54) rfl rfl rfl true Tryd.guard32 HDD.out (by kernel_rfl) ?_
          simp only [Act.put, List.setIfInBounds_toArray, List.set]
          repeat (go_big_quiet_step (fail))
          refine wpQuiet_nil ?_
          refine wpAnyG_done (by kernel_rfl) ?_
          go_wp2
          go_ret
          exact ⟨rfl, S4.out.below⟩
      · have S1 := Lib.hid (HS.out.onK HOK.out.keep (below_alloc wq (.cells ([.slice A m cap] : List Value).toArray 22)))
        have P2_1 := Lib.hid (Blk.new wq 22 [.slice A m cap])
        go_wp2
        refine ⟨below_alloc _ _, ?_⟩
        generalize wq.heap.size = P2g at P2_1 ⊢
        generalize wq.alloc (.cells ([.slice A m cap] : List Value).toArray 22) = wp1 at S1 P2_1  ⊢
        refine oneG 24 6 rfl (by kernel_rfl) rfl ?_
        have S2 := Lib.hid (S1.out.onK HOK.out.keep (below_alloc wp1 (.cells ([.slice A m cap] : List Value).toArray 22)))
        have P1_2 := Lib.hid (Blk.new wp1 22 [.slice A m cap])
        have P2_2 := Lib.hid (P2_1.out.alloc (.cells ([.slice A m cap] : List Value).toArray 22))
        go_wp2
        refine ⟨below_alloc _ _, ?_⟩
        generalize wp1.heap.size = P1g at P1_2 ⊢
        generalize wp1.alloc (.cells ([.slice A m cap] : List Value).toArray 22) = wp2 at S2 P1_2 P2_2 ⊢
        refine oneG 25 5 rfl (by kernel_rfl) rfl ?_
        go_wp2_with fail
        refine (mac1b HOK.out K A xk x mk kc m cap P1g wp2 D (by rw [HD.out]) S2.out.g P1_2.out HXk.out.symm HX.out.symm (by rw [HXk.out]; exact dk) S2.out.rk S2.out.rd (by rw [HXk.out]; omega) (by rw [HX.out]; omega) (by rw [HX.out]; exact dm)).mono ?_
        rintro e wp3 ⟨rfl, hb⟩
        have S3 := Lib.hid (S2.out.onK HOK.out.keep hb)
        have P2_3 := Lib.hid (P2_2.out.below hb P2_2.out.lt)
        have P1_3 := Lib.hid (P1_2.out.below hb P1_2.out.lt)
        go_wp2
        refine ⟨hb, ?_⟩
        clear hb
        refine oneG 29 4 rfl (by kernel_rfl) rfl ?_
        go_wp2_with fail
        refine (mac1b HOK.out (some ⟨gw, 0, none⟩) A wide x 64 64 m cap P2g wp3 D (by rw [HD.out, HWide.out hlong]) S3.out.g P2_3.out HWl.out.symm HX.out.symm (by rw [HWl.out]; omega) (Rd.of_all S3.out.wd) S3.out.rd (by rw [HWl.out]; omega) (by rw [HX.out]; omega) (by rw [HX.out]; exact dm)).mono ?_
        rintro e wp4 ⟨rfl, hb⟩
        have S4 := Lib.hid (S3.out.onK HOK.out.keep hb)
        have P2_4 := Lib.hid (P2_3.out.below hb P2_3.out.lt)
        have P1_4 := Lib.hid (P1_3.out.below hb P1_3.out.lt)
        go_wp2
        refine ⟨hb, ?_⟩
        clear hb
        refine segG (by kernel_rfl) (fun _ _ _ _ _ h => h) [30, 31, 32, 33] [_, _, _, _] 0 rfl rfl (by kernel_rfl) ?_
        refine wpQuiet_eql_arr 23 23 (.tmp 50) (.tmp 54) rfl rfl rfl true Tryd.guard32 HDD.out (by kernel_rfl) ?_
        simp only [Act.put, List.setIfInBounds_toArray, List.set]
        repeat (go_big_quiet_step (fail))
        refine wpQuiet_nil ?_
        refine wpAnyG_done (by kernel_rfl) ?_
        go_wp2
        go_ret
        exact ⟨rfl, S4.out.below⟩
    rw [hW]
    obtain ⟨wq, rfl⟩ : ∃ wq, wq = wb := ⟨_, rfl⟩
    have HS := HS1
    clear HS1
    refine twoG 4 13 22 rfl (by kernel_rfl) rfl rfl ?_ ?_
    · have S1 := Lib.hid (HS.out.onK HOK.out.keep (below_alloc wq (.cells ([.slice A m cap] : List Value).toArray 22)))
      have P1_1 := Lib.hid (Blk.new wq 22 [.slice A m cap])
      go_wp2
      refine ⟨below_alloc _ _, ?_⟩
      generalize wq.heap.size = P1g at P1_1 ⊢
      generalize wq.alloc (.cells ([.slice A m cap] : List Value).toArray 22) = wp1 at S1 P1_1  ⊢
      refine twoG 5 13 21 rfl (by kernel_rfl) rfl rfl ?_ ?_
      · go_wp2_with fail
        refine (mac1b HOK.out K A xk x mk kc m cap P1g wp1 D (by rw [HD.out]) S1.out.g P1_1.out HXk.out.symm HX.out.symm (by rw [HXk.out]; exact dk) S1.out.rk S1.out.rd (by rw [HXk.out]; omega) (by rw [HX.out]; omega) (by rw [HX.out]; exact dm)).mono ?_
        rintro e wp2 ⟨rfl, hb⟩
        have S2 := Lib.hid (S1.out.onK HOK.out.keep hb)
        have P1_2 := Lib.hid (P1_1.out.below hb P1_1.out.lt)
        go_wp2
        refine ⟨hb, ?_⟩
        clear hb
        refine oneG 13 20 rfl (by kernel_rfl) rfl ?_
        have S3 := Lib.hid (S2.out.onK HOK.out.keep (below_alloc wp2 (.cells ([.slice A i cap, .slice A2 (m - i) (cap - i)] : List Value).toArray 22)))
        have P2_3 := Lib.hid (Blk.new wp2 22 [.slice A i cap, .slice A2 (m - i) (cap - i)])
        have P1_3 := Lib.hid (P1_2.out.alloc (.cells ([.slice A i cap, .slice A2 (m - i) (cap - i)] : List Value).toArray 22))
        go_wp2
        refine ⟨below_alloc _ _, ?_⟩
        generalize wp2.heap.size = P2g at P2_3 ⊢
        generalize wp2.alloc (.cells ([.slice A i cap, .slice A2 (m - i) (cap - i)] : List Value).toArray 22) = wp3 at S3 P2_3 P1_3 ⊢
        refine oneG 14 19 rfl (by kernel_rfl) rfl ?_
        go_wp2_with fail
        refine (mac2b HOK.out K A A2 xk y1 y2 mk kc i (m - i) cap (cap - i) P2g wp3 D (by rw [HD.out, HY.out]) S3.out.g P2_3.out HXk.out.symm HY1.out.symm HY2.out.symm (by rw [HXk.out]; exact dk) S3.out.rk (HRY1.out wp3 S3.out) (HRY2.out wp3 S3.out) (by rw [HXk.out]; omega) (by rw [HY.out, HX.out]; omega) (by rw [HY1.out]; omega) (by rw [HY2.out]; omega)).mono ?_
        rintro e wp4 ⟨rfl, hb⟩
        have S4 := Lib.hid (S3.out.onK HOK.out.keep hb)
        have P1_4 := Lib.hid (P1_3.out.below hb P1_3.out.lt)
        have P2_4 := Lib.hid (P2_3.out.below hb P2_3.out.lt)
        go_wp2
        refine ⟨hb, ?_⟩
        clear hb
        exact sameG (by kernel_rfl) (hW ▸ rest2 _ _ _ _ _ _ _ _ _ _ _ _ _ _ _ _ _ _ _ _ _ _ _ _ _ _ _ _ _ _ _ _ _ _ _ _ _ _ _ _ _ _ _ _ _ _ _ _ _ _ _ _ wp4 S4.out)
      · have S2 := Lib.hid (S1.out.onK HOK.out.keep (below_alloc wp1 (.cells ([.slice A i cap, .slice A2 (m - i) (cap - i)] : List Value).toArray 22)))
        have P2_2 := Lib.hid (Blk.new wp1 22 [.slice A i cap, .slice A2 (m - i) (cap - i)])
        have P1_2 := Lib.hid (P1_1.out.alloc (.cells ([.slice A i cap, .slice A2 (m - i) (cap - i)] : List Value).toArray 22))
        go_wp2
        refine ⟨below_alloc _ _, ?_⟩
        generalize wp1.heap.size = P2g at P2_2 ⊢
        generalize wp1.alloc (.cells ([.slice A i cap, .slice A2 (m - i) (cap - i)] : List Value).toArray 22) = wp2 at S2 P2_2 P1_2 ⊢
        refine oneG 5 20 rfl (by kernel_rfl) rfl ?_
        go_wp2_with fail
        refine (mac1b HOK.out K A xk x mk kc m cap P1g wp2 D (by rw [HD.out]) S2.out.g P1_2.out HXk.out.symm HX.out.symm (by rw [HXk.out]; exact dk) S2.out.rk S2.out.rd (by rw [HXk.out]; omega) (by rw [HX.out]; omega) (by rw [HX.out]; exact dm)).mono ?_
        rintro e wp3 ⟨rfl, hb⟩
        have S3 := Lib.hid (S2.out.onK HOK.out.keep hb)
        have P1_3 := Lib.hid (P1_2.out.below hb P1_2.out.lt)
        have P2_3 := Lib.hid (P2_2.out.below hb P2_2.out.lt)
        go_wp2
        refine ⟨hb, ?_⟩
        clear hb
        refine oneG 14 19 rfl (by kernel_rfl) rfl ?_
        go_wp2_with fail
        refine (mac2b HOK.out K A A2 xk y1 y2 mk kc i (m - i) cap (cap - i) P2g wp3 D (by rw [HD.out, HY.out]) S3.out.g P2_3.out HXk.out.symm HY1.out.symm HY2.out.symm (by rw [HXk.out]; exact dk) S3.out.rk (HRY1.out wp3 S3.out) (HRY2.out wp3 S3.out) (by rw [HXk.out]; omega) (by rw [HY.out, HX.out]; omega) (by rw [HY1.out]; omega) (by rw [HY2.out]; omega)).mono ?_
        rintro e wp4 ⟨rfl, hb⟩
        have S4 := Lib.hid (S3.out.onK HOK.out.keep hb)
        have P1_4 := Lib.hid (P1_3.out.below hb P1_3.out.lt)
        have P2_4 := Lib.hid (P2_3.out.below hb P2_3.out.lt)
        go_wp2
        refine ⟨hb, ?_⟩
        clear hb
        exact sameG (by kernel_rfl) (hW ▸ rest2 _ _ _ _ _ _ _ _ _ _ _ _ _ _ _ _ _ _ _ _ _ _ _ _ _ _ _ _ _ _ _ _ _ _ _ _ _ _ _ _ _ _ _ _ _ _ _ _ _ _ _ _ wp4 S4.out)
    · have S1 := Lib.hid (HS.out.onK HOK.out.keep (below_alloc wq (.cells ([.slice A i cap, .slice A2 (m - i) (cap - i)] : List Value).toArray 22)))
      have P2_1 := Lib.hid (Blk.new wq 22 [.slice A i cap, .slice A2 (m - i) (cap - i)])
      go_wp2
      refine ⟨below_alloc _ _, ?_⟩
      generalize wq.heap.size = P2g at P2_1 ⊢
      generalize wq.alloc (.cells ([.slice A i cap, .slice A2 (m - i) (cap - i)] : List Value).toArray 22) = wp1 at S1 P2_1  ⊢
      refine oneG 4 21 rfl (by kernel_rfl) rfl ?_
      have S2 := Lib.hid (S1.out.onK HOK.out.keep (below_alloc wp1 (.cells ([.slice A m cap] : List Value).toArray 22)))
      have P1_2 := Lib.hid (Blk.new wp1 22 [.slice A m cap])
      have P2_2 := Lib.hid (P2_1.out.alloc (.cells ([.slice A m cap] : List Value).toArray 22))
      go_wp2
      refine ⟨below_alloc _ _, ?_⟩
      generalize wp1.heap.size = P1g at P1_2 ⊢
      generalize wp1.alloc (.cells ([.slice A m cap] : List Value).toArray 22) = wp2 at S2 P1_2 P2_2 ⊢
      refine oneG 5 20 rfl (by kernel_rfl) rfl ?_
      go_wp2_with fail
      refine (mac1b HOK.out K A xk x mk kc m cap P1g wp2 D (by rw [HD.out]) S2.out.g P1_2.out HXk.out.symm HX.out.symm (by rw [HXk.out]; exact dk) S2.out.rk S2.out.rd (by rw [HXk.out]; omega) (by rw [HX.out]; omega) (by rw [HX.out]; exact dm)).mono ?_
      rintro e wp3 ⟨rfl, hb⟩
      have S3 := Lib.hid (S2.out.onK HOK.out.keep hb)
      have P2_3 := Lib.hid (P2_2.out.below hb P2_2.out.lt)
      have P1_3 := Lib.hid (P1_2.out.below hb P1_2.out.lt)
      go_wp2
      refine ⟨hb, ?_⟩
      clear hb
      refine oneG 14 19 rfl (by kernel_rfl) rfl ?_
      go_wp2_with fail
      refine (mac2b HOK.out K A A2 xk y1 y2 mk kc i (m - i) cap (cap - i) P2g wp3 D (by rw [HD.out, HY.out]) S3.out.g P2_3.out HXk.out.symm HY1.out.symm HY2.out.symm (by rw [HXk.out]; exact dk) S3.out.rk (HRY1.out wp3 S3.out) (HRY2.out wp3 S3.out) (by rw [HXk.out]; omega) (by rw [HY.out, HX.out]; omega) (by rw [HY1.out]; omega) (by rw [HY2.out]; omega)).mono ?_
      rintro e wp4 ⟨rfl, hb⟩
      have S4 := Lib.hid (S3.out.onK HOK.out.keep hb)
      have P2_4 := Lib.hid (P2_3.out.below hb P2_3.out.lt)
      have P1_4 := Lib.hid (P1_3.out.below hb P1_3.out.lt)
      go_wp2
      refine ⟨hb, ?_⟩
      clear hb
      exact sameG (by kernel_rfl) (hW ▸ rest2 _ _ _ _ _ _ _ _ _ _ _ _ _ _ _ _ _ _ _ _ _ _ _ _ _ _ _ _ _ _ _ _ _ _ _ _ _ _ _ _ _ _ _ _ _ _ _ _ _ _ _ _ wp4 S4.out)
end Go.Proofs.YtlbmpjikaoenoaaDoor
