/-
  Layer 10: short, the contracts with plain variables, the fixed fact awake. Layer 10: loads in every later world, the reference's sums: what the laws' walks share. The landed seal: Tag, rightTag. The landed seal: rightTag. slices.Grow of nil, slices.Concat of two: of no program. slices.Concat of three: of no program.
-/
import Derived.Test.YtjhkodmaalefiaaDoorSealJ10
import Derived.Test.YtjhkodmaalefiaaDoorSealJ04
import Derived.Test.YtjhkodmaalefiaaDoorSealJ02
import Derived.Test.YtjhkodmaalefiaaDoorSealJ15
import Derived.BigQuiet
import Derived.Test.YtjhkodmaalefiaaDoorSealJ21
import Derived.Test.YtjhkodmaalefiaaDoorSealJ22
import Derived.Test.YtjhkodmaalefiaaDoorSealJ23
import Derived.Test.YtjhkodmaalefiaaDoorSealJ03
import Derived.Lib.AppendZeros
set_option maxRecDepth 100000
namespace Go.Proofs.YtjhkodmaalefiaaDoor
open Go.RowKit Go.Gar Go.Gar.Aes

theorem short10_any (A : Option Addr) (len cap m : Nat) (w : World) (hm : m = min len 200) (hc : len ≤ cap) :
    Calls Tryd.prog 8 #[.slice A len cap] w fun e w' => e = .returned (.slice A m cap) ∧ w' = w := by
  by_cases h : len ≤ 200
  · obtain rfl : m = len := by omega
    clear hm
    go_enter Tryd.func8, Tryd.ntmps8
    go_wp2
    go_ret
    exact ⟨rfl, rfl⟩
  · obtain rfl : m = 200 := by omega
    clear hm
    go_enter Tryd.func8, Tryd.ntmps8
    go_wp2
    go_ret
    exact ⟨rfl, rfl⟩

theorem sealS_at {G : World → Prop} (hOK : SealOK G) (w : World) (k iv b : List UInt8) (kx vx : Array Value) (id gen : Int) (A : Option Addr) (bl c n : Nat) (O : List UInt8) (hkx : kx = (u8s k).toArray) (hvx : vx = (u8s iv).toArray) (hG : G w) (hk : k.length = 64) (hiv : iv.length = 16) (hid : isI64 id) (hgen : isI64 gen) (r : Rd w w.heap.size A b) (hbl : bl = b.length) (hc : bl ≤ c) (hb : bl ≤ 900000) (hO : O = sealS k iv id gen b) (hn : n = O.length) :
    Calls Tryd.prog 7 #[.agg kx, .agg vx, .int .i64 id, .int .i64 gen, .slice A bl c] w fun e w' => ∃ B d, e = .returned (.tuple #[.slice B n d, .int .i64 0]) ∧ n ≤ d ∧ Rd w' w'.heap.size B O ∧ Below w.heap.size w w' := by
  subst hkx; subst hvx; subst hbl; subst hO; subst hn
  refine (hOK.seal_ w k iv b id gen A c hG hk hiv hid hgen r hc hb).mono fun e w' he => ?_
  obtain ⟨v, h1, ⟨B, d, rfl, h3, h4⟩, h5⟩ := he
  exact ⟨B, d, h1, h3, h4, h5⟩
theorem sealO_at {G : World → Prop} (hOK : SealOK G) (w : World) (k s : List UInt8) (kx : Array Value) (id gen : Int) (A : Option Addr) (sl c n : Nat) (E : Int) (O : List UInt8) (hkx : kx = (u8s k).toArray) (hG : G w) (hk : k.length = 64) (hid : isI64 id) (hgen : isI64 gen) (r : Rd w w.heap.size A s) (hsl : sl = s.length) (hc : sl ≤ c) (hb : sl ≤ 900000) (hE : E = ((openSE k id gen s : Nat) : Int)) (hO : O = openSB k id gen s) (hn : n = O.length) :
    Calls Tryd.prog 13 #[.agg kx, .int .i64 id, .int .i64 gen, .slice A sl c] w fun e w' => ∃ B d, e = .returned (.tuple #[.slice B n d, .int .i64 E]) ∧ n ≤ d ∧ Rd w' w'.heap.size B O ∧ Below w.heap.size w w' := by
  subst hkx; subst hsl; subst hO; subst hn; subst hE
  refine (hOK.open_ w k s id gen A c hG hk hid hgen r hc hb).mono fun e w' he => ?_
  obtain ⟨v, h1, ⟨B, d, rfl, h3, h4⟩, h5⟩ := he
  exact ⟨B, d, h1, h3, h4, h5⟩
theorem sealT_at {G : World → Prop} (hOK : SealOK G) (w : World) (k s : List UInt8) (kx tx : Array Value) (A : Option Addr) (sl c : Nat) (ok : Bool) (T : List UInt8) (hkx : kx = (u8s k).toArray) (htx : tx = (u8s T).toArray) (hG : G w) (hk : k.length = 64) (r : Rd w w.heap.size A s) (hsl : sl = s.length) (hc : sl ≤ c) (hb : sl ≤ 900000) (hT : T = tagB k s) (hok : ok = decide (32 ≤ s.length)) :
    Calls Tryd.prog 15 #[.agg kx, .slice A sl c] w fun e w' => e = .returned (.tuple #[.agg tx, .bool ok]) ∧ Below w.heap.size w w' := by
  subst hkx; subst hsl; subst htx; subst hT; subst hok
  exact hOK.tag w k s A c hG hk r hc hb

theorem sK_facts (w2 : World) (L : List UInt8) : ∃ w3, (w2.alloc (.cells z64.toArray 24)).setRow w2.heap.size (u8s L).toArray = w3 ∧ Blk w3 w2.heap.size 24 (u8s L) ∧ Below w2.heap.size w2 w3 ∧ Blk (w2.alloc (.cells z64.toArray 24)) w2.heap.size 24 z64 :=
  ⟨_, World.setRow_alloc_new w2 _ _ _, Blk.new w2 _ _, below_alloc w2 _, Blk.new w2 _ _⟩
theorem s32_facts (w2 : World) (L : List UInt8) : ∃ w3, (w2.alloc (.cells z32.toArray 22)).setRow w2.heap.size (u8s L).toArray = w3 ∧ Blk w3 w2.heap.size 22 (u8s L) ∧ Below w2.heap.size w2 w3 ∧ Blk (w2.alloc (.cells z32.toArray 22)) w2.heap.size 22 z32 :=
  ⟨_, World.setRow_alloc_new w2 _ _ _, Blk.new w2 _ _, below_alloc w2 _, Blk.new w2 _ _⟩
theorem cut_from (g o n c k m : Nat) (hm : m = n - k) (h : k ≤ n) (h3 : k < c) (W : World) :
    (Instr.sliceAt 26 (.slice (some ⟨g, o, none⟩) n c) (some (.int .i64 (k : Int))) none none).run Tryd.prog W = .ok (.slice (some ⟨g, o + k, none⟩) m (c - k)) W := by
  subst hm
  obtain ⟨i, hi, hs⟩ := Option.map_eq_some_iff.1 Tryd.size5
  have h1 : (k : Int) ≤ (n : Int) := by omega
  have h5 : ¬ c = k := by omega
  simp [Instr.sliceAt, Instr.sliceBounds, Instr.sureAddr, run_underlying Tryd.und22 W, sizeOf, typeInfo, hi, hs, go_sem, h1, h5, Addr.add_lit]
theorem rd_at {w : World} {B : Nat} {A : Option Addr} {s : List UInt8} (h : Rd w B A s) (hs : 0 < s.length) : ∃ ab ao, A = some ⟨ab, ao, none⟩ := by
  rcases h with rfl | ⟨b, q, e, _⟩
  · simp at hs
  · exact ⟨b, q, e⟩
theorem rd_cut {w : World} {B ab oo : Nat} {s : List UInt8} (h : Rd w B (some ⟨ab, oo, none⟩) s) (o : Nat) : Rd w B (some ⟨ab, oo + o, none⟩) (s.drop o) := by
  rcases h with rfl | ⟨b, q, e, hb, hc⟩
  · exact .inl (by simp)
  · obtain ⟨rfl, rfl⟩ : ab = b ∧ oo = q := by simpa using e
    refine .inr ⟨ab, oo + o, rfl, hb, fun i c hi => ?_⟩
    have := hc (o + i) c (by rw [List.getElem?_drop] at hi; exact hi)
    rw [Nat.add_assoc]
    exact this
def zK : List UInt8 := List.replicate 64 0
def zV : List UInt8 := List.replicate 16 0
theorem isI64_of (n : Int) (h1 : -9223372036854775808 ≤ n) (h2 : n ≤ 9223372036854775807) : isI64 n := ⟨h1, h2⟩

set_option maxHeartbeats 4000000 in
theorem awake10_any {G : World → Prop} (hOK : SealOK G) (w : World) (hG : G w) :
    Calls Tryd.prog 11 #[] w fun e w' => e = .returned (.bool true) ∧ Below w.heap.size w w' := by
  obtain ⟨X, hX⟩ : ∃ X, X = sealS zK zV 3 4 [] := ⟨_, rfl⟩
  have hXl : X.length = 88 := by rw [hX, sealS_len _ _ _ _ _ rfl]; rfl
  have hop1 : openS zK 3 4 X = some [] := by rw [hX]; exact openS_seal _ _ _ _ _ rfl
  have hop2 : openS zK 4 4 X = none := by
    rcases h : openS zK 4 4 X with _ | y
    · rfl
    · rw [hX] at h
      have := (openS_other rfl (isI64_of _ (by omega) (by omega)) (isI64_of _ (by omega) (by omega)) (isI64_of _ (by omega) (by omega)) (isI64_of _ (by omega) (by omega)) h).1
      omega
  obtain ⟨T, hT⟩ : ∃ T, T = tagB zK X := ⟨_, rfl⟩
  have hTl : T.length = 32 := by rw [hT]; exact tagB_len _ _
  have hTX : X.drop 56 = T := by
    have h := (openS_tag hop1).2
    rw [hXl] at h
    rw [hT, tagB, if_neg (by omega), hXl]
    exact h.symm
  have HE1 : Hid ((0 : Int) = ((openSE zK 3 4 X : Nat) : Int)) := Lib.hid (by rw [openSE, hop1]; rfl)
  have HO1 : Hid (([] : List UInt8) = openSB zK 3 4 X) := Lib.hid (by rw [openSB, hop1]; rfl)
  have HE2 : Hid ((12 : Int) = ((openSE zK 4 4 X : Nat) : Int)) := Lib.hid (by rw [openSE, hop2]; rfl)
  have HO2 : Hid (([] : List UInt8) = openSB zK 4 4 X) := Lib.hid (by rw [openSB, hop2]; rfl)
  have HI3 := Lib.hid (isI64_of 3 (by omega) (by omega))
  have HI4 := Lib.hid (isI64_of 4 (by omega) (by omega))
  have HI0 := Lib.hid (isI64_of 0 (by omega) (by omega))
  have HOK := Lib.hid hOK
  have HG := Lib.hid hG
  have HX := Lib.hid hX
  have HXl := Lib.hid hXl
  have HT := Lib.hid hT
  have HTl := Lib.hid hTl
  have HTX := Lib.hid hTX
  obtain ⟨w1, heq1, hB1, hb1, hZ1⟩ := sK_facts w zK
  have hld1 := load_keys hB1 rfl
  have HEq1 := Lib.hid heq1
  have HB1 := Lib.hid hB1
  have Hb1 := Lib.hid hb1
  have HZ1 := Lib.hid hZ1
  have HSz := Lib.hid (size_64 zK rfl)
  clear hOK hG hX hXl hT hTl hTX hop1 hop2 heq1 hB1 hb1 hZ1
  go_enter Tryd.func11, Tryd.ntmps11
  go_wp2_with (first | refine wpList_alloc_arr rfl 24 z64.toArray rfl zero_64 ?_ | (refine wpList_store_arr rfl 24 (.tmp 1) (.tmp 10) w.heap.size z64 (u8s zK) rfl rfl rfl rfl HZ1.out HSz.out rfl (u8s_one _) ?_; rw [HEq1.out]) | refine wpList_load_arr_w 24 (.tmp 1) rfl rfl (u8s zK).toArray hld1 (by kernel_rfl) ?_)
  clear hld1 HEq1 HZ1
  refine (sealS_at HOK.out w1 zK zV [] _ _ 3 4 none 0 0 88 X rfl rfl (HOK.out.keep HG.out Hb1.out) rfl rfl HI3.out HI4.out Rd.nil rfl (Nat.le_refl _) (by omega) HX.out HXl.out.symm).mono ?_
  rintro e w2 ⟨A2, c2, rfl, hc2, hr2, hb2⟩
  obtain ⟨ab, ao, rfl⟩ := rd_at hr2 (by rw [HXl.out]; omega)
  have HB2 := Lib.hid (HB1.out.below hb2 HB1.out.lt)
  have HR2 := Lib.hid hr2
  have Hb2 := bb Hb1 hb2
  have hld2 := load_keys HB2.out rfl
  clear HB1 Hb1 hr2 hb2
  go_wp2_with (first | refine wpList_load_arr_w 24 (.tmp 1) rfl rfl (u8s zK).toArray hld2 (by kernel_rfl) ?_)
  clear hld2
  refine (sealO_at HOK.out w2 zK X _ 3 4 _ 88 c2 0 0 [] rfl (HOK.out.keep HG.out Hb2.out) rfl HI3.out HI4.out HR2.out HXl.out.symm hc2 (by omega) HE1.out HO1.out rfl).mono ?_
  rintro e w3 ⟨A3, c3, rfl, hc3, hr3, hb3⟩
  have HB3 := Lib.hid (HB2.out.below hb3 HB2.out.lt)
  have HR3 := Lib.hid ((HR2.out.below hb3).more hb3.size)
  have Hb3 := bb Hb2 hb3
  have hld3 := load_keys HB3.out rfl
  clear HB2 HR2 Hb2 hr3 hb3
  go_wp2_with (first | refine wpList_load_arr_w 24 (.tmp 1) rfl rfl (u8s zK).toArray hld3 (by kernel_rfl) ?_)
  clear hld3
  refine (sealO_at HOK.out w3 zK X _ 4 4 _ 88 c2 0 12 [] rfl (HOK.out.keep HG.out Hb3.out) rfl HI4.out HI4.out HR3.out HXl.out.symm hc2 (by omega) HE2.out HO2.out rfl).mono ?_
  rintro e w4 ⟨A4, c4, rfl, hc4, hr4, hb4⟩
  have HB4 := Lib.hid (HB3.out.below hb4 HB3.out.lt)
  have HR4 := Lib.hid ((HR3.out.below hb4).more hb4.size)
  have Hb4 := bb Hb3 hb4
  have hld4 := load_keys HB4.out rfl
  clear HB3 HR3 Hb3 hr4 hb4
  go_wp2_with (first | refine wpList_load_arr_w 24 (.tmp 1) rfl rfl (u8s zK).toArray hld4 (by kernel_rfl) ?_)
  clear hld4
  refine (sealT_at HOK.out w4 zK X _ (u8s T).toArray _ 88 c2 true T rfl rfl (HOK.out.keep HG.out Hb4.out) rfl HR4.out HXl.out.symm hc2 (by omega) HT.out (by rw [HXl.out]; rfl)).mono ?_
  rintro e w5 ⟨rfl, hb5⟩
  obtain ⟨w6, heq6, hB6, hb6, hZ6⟩ := s32_facts w5 T
  have HEq6 := Lib.hid heq6
  have HZ6 := Lib.hid hZ6
  have HB6 := Lib.hid hB6
  have HST := Lib.hid (size_32 T HTl.out)
  have HLT : Hid (z32.length = (u8s T).length) := Lib.hid (by rw [u8s_len, HTl.out]; rfl)
  have hb56 := hb5.trans (hb6.mono hb5.size)
  have HR6 := Lib.hid ((HR4.out.below hb56).more hb56.size)
  have Hb6 := bb Hb4 hb56
  clear heq6 hZ6 hB6 hb6 hb5 hb56 HR4 Hb4 HB4
  go_wp2_with (first | refine wpList_alloc_arr rfl 22 z32.toArray rfl zero_32 ?_ | (refine wpList_store_arr rfl 22 (.tmp 8) (.tmp 33) w5.heap.size z32 (u8s T) rfl rfl rfl rfl HZ6.out HST.out HLT.out (u8s_one _) ?_; rw [HEq6.out]))
  refine wp_region_G grows (by kernel_rfl) ?_
  have HB7 := Lib.hid HB6.out.drew
  have HR7 : Hid (Rd w6.drew w6.drew.heap.size (some ⟨ab, ao, none⟩) X) := Lib.hid HR6.out
  have Hb7 := Lib.hid Hb6.out.drew
  clear HB6 HR6 Hb6 HEq6 HZ6
  generalize w6.drew = w7 at HB7 HR7 Hb7 ⊢
  refine segG (by kernel_rfl) (fun _ _ _ _ _ h => h) [0, 1, 2, 3] [_, _, _, _] 32 rfl rfl (by kernel_rfl) ?_
  repeat (go_big_quiet_step (fail))
  refine wpQuiet_nil ?_
  refine oneG 4 31 rfl (by kernel_rfl) rfl ?_
  go_wp2_with fail
  refine (HOK.out.size w7 0 HI0.out).mono ?_
  rintro e w8 ⟨rfl, hb8⟩
  have Hb8 := bb Hb7 hb8
  have hcut := cut_from ab ao 88 c2 56 32 rfl (by omega) (by omega)
  have hs1 := string_later_rd (Rd.of_all (HB7.out.below hb8 HB7.out.lt)) 32
  have hs2 := string_later_rd (rd_cut ((HR7.out.below hb8).more hb8.size) 56) (c2 - 56)
  rw [HTX.out, HTl.out] at hs2
  rw [HTl.out] at hs1
  have hsz : sizeN 0 = 88 := rfl
  rw [hsz]
  clear hsz HB7 HR7 Hb7
  go_wp2
  refine ⟨hb8, ?_⟩
  clear hb8
  refine segG (by kernel_rfl) (fun _ _ _ _ _ h => h) [5, 6, 7, 8, 9, 10, 11, 12, 13, 14, 15, 16, 17, 18, 19, 20, 21, 22, 23, 24, 25, 26, 27, 28, 29, 30, 31, 32, 33, 34, 35] [_, _, _, _, _, _, _, _, _, _, _, _, _, _, _, _, _, _, _, _, _, _, _, _, _, _, _, _, _, _, _] 0 rfl rfl (by kernel_rfl) ?_
  repeat (go_big_quiet_step (fail))
  refine wpQuiet_nil ?_
  refine wpAnyG_done (by kernel_rfl) ?_
  go_wp2
  go_ret
  exact ⟨by simp, Hb8.out⟩
end Go.Proofs.YtjhkodmaalefiaaDoor
namespace Go.Proofs.YtjhkodmaalefiaaDoor
section
open Go.ChangeShapes Go.WideShapes Go.ChangeAt Go.RowKit Go.Gar
theorem sumsV_of {w0 w : World} {v u : Value} (hv : Go.Gar.OwnV w w0.heap.size 58 v (u32s Sha.kL)) (hu : Go.Gar.OwnV w w0.heap.size 58 u (u32s Sha.hL)) : SumsV w #[v, u] := by
  have hkl : (u32s Sha.kL).length = 64 := by rw [u32s_len, Sha.kL_len]
  have hhl : (u32s Sha.hL).length = 8 := by rw [u32s_len, Sha.hL_len]
  obtain ⟨bk, cK, restk, hvk, hbk, -, hBk⟩ := hv.blk (by rw [hkl]; omega)
  obtain ⟨bh, cH, resth, hvh, hbh, -, hBh⟩ := hu.blk (by rw [hhl]; omega)
  rw [hkl] at hvk
  rw [hhl] at hvh
  subst hvk
  subst hvh
  exact ⟨_, _, _, _, rfl, RdV.of_blk hBk hBk.lt, RdV.of_blk hBh hBh.lt⟩
end
open Go.RowKit Go.Gar Go.Gar.Aes

theorem load_k_later {w : World} {g : Nat} {l : List UInt8} (h : Blk w g 24 (u8s l)) (hl : l.length = 64) :
    ∀ W : Later grows w, (Instr.loadAt 24 (.pointer (some ⟨g, 0, none⟩))).run Tryd.prog W.to = .ok (.agg (u8s l).toArray) W.to :=
  load_keys_later hl (fun W => h.below (show Below w.heap.size w W.to from W.grown) h.lt)
theorem load_v_later {w : World} {g : Nat} {l : List UInt8} (h : Blk w g 25 (u8s l)) (hl : l.length = 16) :
    ∀ W : Later grows w, (Instr.loadAt 25 (.pointer (some ⟨g, 0, none⟩))).run Tryd.prog W.to = .ok (.agg (u8s l).toArray) W.to :=
  load16 l (u8s l).toArray rfl hl h
theorem refSums_at (w : World) : Calls Tryd.prog 10 #[] w fun e w' => ∃ x, e = .returned (.agg x) ∧ SumsV w' x ∧ Below w.heap.size w w' := by
  refine (refNew5_any w).mono ?_
  rintro e w' ⟨v, u, rfl, hv, hu, hb⟩
  exact ⟨_, rfl, sumsV_of hv hu, hb⟩
theorem cut_to (g o n c k : Nat) (z : Int) (hz : z = (k : Int)) (h2 : k ≤ c) (W : World) :
    (Instr.sliceAt 26 (.slice (some ⟨g, o, none⟩) n c) none (some (.int .i64 z)) none).run Tryd.prog W = .ok (.slice (some ⟨g, o, none⟩) k c) W := by
  subst hz
  obtain ⟨i, hi, hs⟩ := Option.map_eq_some_iff.1 Tryd.size5
  have h4 : (k : Int) ≤ (c : Int) := by omega
  simp [Instr.sliceAt, Instr.sliceBounds, Instr.sureAddr, run_underlying Tryd.und22 W, sizeOf, typeInfo, hi, hs, go_sem, h4]
end Go.Proofs.YtjhkodmaalefiaaDoor
namespace Go.Proofs.YtjhkodmaalefiaaDoor
open Go.RowKit Go.Gar Go.Gar.Aes

set_option maxHeartbeats 2000000 in
theorem tagG_any (w : World) (hG : Gl w) (k s : List UInt8) (A : Option Addr) (n c : Nat) (hk : k.length = 64) (hn : n = s.length) (hr : Rd w w.heap.size A s) (hc : n ≤ c) (hl : n ≤ 900000) (T : List UInt8) (hT : T = tagB k s) :
    Calls Tryd.prog 15 #[.agg (u8s k).toArray, .slice A n c] w fun e w' => e = .returned (.tuple #[.agg (u8s T).toArray, .bool (decide (32 ≤ n))]) ∧ Below w.heap.size w w' := by
  have hTl : T.length = 32 := by rw [hT]; exact tagB_len k s
  have hK := Blk.new w 24 (u8s k)
  have hb0 := below_alloc w (.cells (u8s k).toArray 24)
  obtain ⟨w0, hw0⟩ : ∃ w0, w.alloc (.cells (u8s k).toArray 24) = w0 := ⟨_, rfl⟩
  have hs0 : w0.heap.size = w.heap.size + 1 := by rw [← hw0, World.size_alloc]
  rw [hw0] at hK hb0
  have hR0 := Blk.new w0 22 z32
  have hb1 := below_alloc w0 (.cells z32.toArray 22)
  obtain ⟨w1, hw1⟩ : ∃ w1, w0.alloc (.cells z32.toArray 22) = w1 := ⟨_, rfl⟩
  have hs1 : w1.heap.size = w.heap.size + 2 := by rw [← hw1, World.size_alloc, hs0]
  have hK1 := hK.alloc (.cells z32.toArray 22)
  rw [hw1] at hR0 hb1 hK1
  rw [hs0] at hR0
  have hb01 := hb0.trans (hb1.mono hb0.size)
  have HW0 := Lib.hid hw0
  have HW1 := Lib.hid hw1
  have HSz := Lib.hid (size_32 T hTl)
  have HLn : Hid (z32.length = (u8s T).length) := Lib.hid (by rw [u8s_len, hTl, z32_len])
  have HR := Lib.hid ((hr.below hb01).more hb01.size)
  have HS0 := Lib.hid hs0
  have HS1 := Lib.hid hs1
  clear hw0 hw1 hb0 hb1 hs0 hs1 hK
  by_cases h32 : n < 32
  · have hd : decide ((n : Int) < 32) = true := by simp; omega
    have hd2 : decide (32 ≤ n) = false := by simp; omega
    have hTz : u8s T = z32 := by rw [hT, tagB, if_pos (by omega)]; rfl
    rw [hd2]
    have Hb9 := Lib.hid (below_setRow hb01 (Nat.le_succ _) (u8s T).toArray)
    have hl2 := run_loadVar_row (P := Tryd.prog) (w1.setRow (w.heap.size + 1) (u8s T).toArray) (w.heap.size + 1) 22 22 (u8s T).toArray (0, 0) _ (hR0.row _) Tryd.und32 rfl (by simpa using size_32 T hTl)
    have HL2 := Lib.hid hl2
    have HR0 := Lib.hid hR0
    have HTz := Lib.hid hTz
    have hbt : Tryd.prog.built 22 [] = some z32.toArray := by kernel_rfl
    have HBt := Lib.hid hbt
    clear hTz hTl hT hK1 hR0 hb01 hl2 hd2 hbt
    go_enter Tryd.func15, Tryd.ntmps15
    go_wp2_with (first | (refine wpList_box_arr rfl 24 _ _ rfl rfl ?_; rw [HW0.out]) | (refine wpList_alloc_arr rfl 22 z32.toArray rfl zero_32 ?_; rw [HW1.out, HS0.out]) | refine wpList_build_w 22 _ rfl (by simp [Act.eval]) HBt.out (by kernel_rfl) ?_ | (rw [← HTz.out]; refine wpList_store_arr rfl 22 (.tmp 4) (.tmp 9) (w.heap.size + 1) z32 (u8s T) rfl rfl rfl rfl HR0.out HSz.out HLn.out (u8s_one _) ?_))
    refine bodyPost_ret (v := .tuple #[.agg (u8s T).toArray, .bool false]) ?_ rfl ⟨rfl, Hb9.out⟩
    have hl2 := HL2.out
    generalize (u8s T).toArray = Y at hl2 ⊢
    simp [results, Tryd.results15, asAddr, hl2]
  · have hd : decide ((n : Int) < 32) = false := by simp; omega
    have hd2 : decide (32 ≤ n) = true := by simp; omega
    rw [hd2]
    have hT2 : T = Mac.of (k.drop 32) (s.take (n - 32)) := by rw [hT, tagB, if_neg (by omega), hn]
    obtain ⟨ab, ao, rfl⟩ := rd_at hr (by omega)
    have hsub : (n : Int) - 32 = ((n - 32 : Nat) : Int) := by omega
    have hcut : ∀ W, (Instr.sliceAt 26 (.slice (some ⟨ab, ao, none⟩) n c) none (some (.int .i64 ((n : Int) - 32))) none).run Tryd.prog W = .ok (.slice (some ⟨ab, ao, none⟩) (n - 32) c) W := fun W => cut_to ab ao n c (n - 32) _ hsub (by omega) W
    have HTk : Hid (T = Mac.of (k.drop 32) (s.take (n - 32))) := Lib.hid hT2
    have HK1 := Lib.hid hK1.drew
    have HR0 := Lib.hid hR0.drew
    have HR1 := Lib.hid (show Rd w1.drew w1.drew.heap.size _ s from HR.out)
    have Hb1 := Lib.hid hb01.drew
    have HG1 := Lib.hid (Gl.keep hG hb01.drew)
    have Hkl := Lib.hid hk
    have Hn := Lib.hid hn
    have HS2 := Lib.hid (show w1.drew.heap.size = w.heap.size + 2 from HS1.out)
    clear hT hT2 hR0 hK1 hb01 hG hk hr hTl hd2 HR HS1 hsub hn
    go_enter Tryd.func15, Tryd.ntmps15
    go_wp2_with (first | (refine wpList_box_arr rfl 24 _ _ rfl rfl ?_; rw [HW0.out]) | (refine wpList_alloc_arr rfl 22 z32.toArray rfl zero_32 ?_; rw [HW1.out, HS0.out]))
    refine wp_region_G grows (by kernel_rfl) ?_
    clear HW0 HW1 HS0
    generalize w1.drew = W1 at *
    refine segG (by kernel_rfl) (fun _ _ _ _ _ h => h) [0, 1, 2, 3, 4, 5, 6] [_, _, _, _, _, _, _] 4 rfl rfl (by kernel_rfl) ?_
    repeat (go_big_quiet_step (fail))
    refine wpQuiet_nil ?_
    clear hcut
    refine oneG 7 3 rfl (by kernel_rfl) rfl ?_
    go_wp2
    refine ⟨below_alloc W1 _, ?_⟩
    refine oneG 8 2 rfl (by kernel_rfl) rfl ?_
    go_wp2_with fail
    have hkd : (k.drop 32).take 32 = k.drop 32 := List.take_of_length_le (by rw [List.length_drop, Hkl.out]; omega)
    have hrk := Rd.of_blk k HK1.out (B := W1.heap.size) (by have := HS2.out; omega) 32 32
    rw [hkd] at hrk
    have hbl := below_alloc W1 (.cells #[.slice (some ⟨ab, ao, none⟩) (n - 32) c] 26)
    refine (mac1b macOK (some ⟨w.heap.size, 32, none⟩) (some ⟨ab, ao, none⟩) (k.drop 32) (s.take (n - 32)) 32 32 (n - 32) c _ _ (u8s T).toArray (by rw [HTk.out]) (Gl.keep HG1.out hbl) (Blk.new W1 26 [.slice (some ⟨ab, ao, none⟩) (n - 32) c]) (by rw [List.length_drop, Hkl.out]) (by rw [List.length_take]; have := Hn.out; omega) (by rw [List.length_drop, Hkl.out]; omega) ((hrk.below hbl).more hbl.size) (((HR1.out.take _).below hbl).more hbl.size) (by rw [List.length_drop, Hkl.out]; omega) (by rw [List.length_take]; have := Hn.out; omega) (by rw [List.length_take]; have := Hn.out; omega)).mono ?_
    rintro e W2 ⟨rfl, hb2⟩
    have Hb2' := Lib.hid hb2
    have hb2 := hbl.trans (hb2.mono hbl.size)
    have HR2 := Lib.hid (HR0.out.below hb2 HR0.out.lt)
    have Hb2 := Lib.hid (below_setRow (Hb1.out.trans (hb2.mono Hb1.out.size)) (Nat.le_succ _) (u8s T).toArray)
    have hl2 := run_loadVar_row (P := Tryd.prog) (W2.setRow (w.heap.size + 1) (u8s T).toArray) (w.heap.size + 1) 22 22 (u8s T).toArray (0, 0) _ (HR2.out.row _) Tryd.und32 rfl (by simpa using HSz.out)
    have HL2 := Lib.hid hl2
    clear hb2 hbl hkd hrk hl2 HR0 Hb1 HK1 HR1 HS2
    go_wp2
    refine ⟨Hb2'.out, ?_⟩
    refine lateG 9 1 rfl (by kernel_rfl) (by kernel_rfl) rfl ?_
    refine wpList_store_arr rfl 22 (.tmp 4) (.tmp 18) (w.heap.size + 1) z32 (u8s T) rfl rfl rfl rfl HR2.out HSz.out HLn.out (u8s_one _) ?_
    go_wp2
    refine ⟨trivial, ?_⟩
    refine segG (by kernel_rfl) (fun _ _ _ _ _ h => h) [10] [_] 0 rfl rfl (by kernel_rfl) ?_
    repeat (go_big_quiet_step (fail))
    refine wpQuiet_nil ?_
    refine wpAnyG_done (by kernel_rfl) ?_
    go_wp2
    refine bodyPost_ret (v := .tuple #[.agg (u8s T).toArray, .bool true]) ?_ rfl ⟨rfl, Hb2.out⟩
    have hl2 := HL2.out
    generalize (u8s T).toArray = Y at hl2 ⊢
    simp [results, Tryd.results15, asAddr, hl2]
end Go.Proofs.YtjhkodmaalefiaaDoor
namespace Go.Proofs.YtjhkodmaalefiaaDoor
open Go.RowKit Go.Gar Go.Gar.Aes

set_option maxHeartbeats 2000000 in
theorem rightTag_any (w : World) (hG : Gl w) (k s : List UInt8) (A : Option Addr) (n c : Nat) (hk : k.length = 64) (hn : n = s.length) (hr : Rd w w.heap.size A s) (hc : n ≤ c) (h32 : 32 ≤ n) (hl : n ≤ 900000) (r : Bool) (hrv : r = decide (Mac.of (k.drop 32) (s.take (s.length - 32)) = s.drop (s.length - 32))) :
    Calls Tryd.prog 26 #[.agg (u8s k).toArray, .slice A n c] w fun e w' => e = .returned (.bool r) ∧ Below w.heap.size w w' := by
  obtain ⟨ab, ao, rfl⟩ := rd_at hr (by omega)
  obtain ⟨T, hT⟩ : ∃ T, T = tagB k s := ⟨_, rfl⟩
  have hTl : T.length = 32 := by rw [hT]; exact tagB_len k s
  have hrT : r = decide (T = s.drop (n - 32)) := by rw [hrv, hT, tagB, if_neg (by omega), hn]
  have hd2 : decide (32 ≤ n) = true := by simp; omega
  have hK := Blk.new w 24 (u8s k)
  have hb0 := below_alloc w (.cells (u8s k).toArray 24)
  obtain ⟨w0, hw0⟩ : ∃ w0, w.alloc (.cells (u8s k).toArray 24) = w0 := ⟨_, rfl⟩
  rw [hw0] at hK hb0
  have HLK := Lib.hid (load_keys hK hk)
  have HR := Lib.hid ((hr.below hb0).more hb0.size)
  have Hb0 := Lib.hid hb0
  have HG := Lib.hid hG
  have HT := Lib.hid hT
  have HTl := Lib.hid hTl
  have HrT := Lib.hid hrT
  have Hn := Lib.hid hn
  have Hkl := Lib.hid hk
  have HW0 := Lib.hid hw0
  have HK := Lib.hid hK
  clear hrv hr hb0 hG hT hTl hrT hn hk hw0 hK
  have hsub : (n : Int) - 32 = ((n - 32 : Nat) : Int) := by omega
  have hcut : ∀ W, (Instr.sliceAt 26 (.slice (some ⟨ab, ao, none⟩) n c) (some (.int .i64 ((n : Int) - 32))) none none).run Tryd.prog W = .ok (.slice (some ⟨ab, ao + (n - 32), none⟩) 32 (c - (n - 32))) W := fun W => by
    rw [hsub]
    exact cut_from ab ao n c (n - 32) 32 (by omega) (by omega) (by omega) W
  have Hcut := Lib.hid hcut
  clear hsub hcut
  go_enter Tryd.func26, Tryd.ntmps26
  go_wp2_with (first | (refine wpList_box_arr rfl 24 _ _ rfl rfl ?_; rw [HW0.out]) | refine wpList_load_arr_w 24 (.tmp 2) rfl rfl (u8s k).toArray HLK.out (by kernel_rfl) ?_)
  refine (tagG_any w0 (Gl.keep HG.out Hb0.out) k s (some ⟨ab, ao, none⟩) n c Hkl.out Hn.out HR.out hc hl T HT.out).mono ?_
  rintro e w1 ⟨rfl, hb1⟩
  rw [hd2]
  have HR1 := Lib.hid ((HR.out.below hb1).more hb1.size)
  have Hb1 := Lib.hid (Hb0.out.trans (hb1.mono Hb0.out.size))
  obtain ⟨w2, hw2, hB2, hb2, hZ2⟩ := s32_facts w1 T
  have HW2 := Lib.hid hw2
  have HB2 := Lib.hid hB2
  have HZ2 := Lib.hid hZ2
  have HR2 := Lib.hid ((HR1.out.below hb2).more hb2.size)
  have Hb2 := Lib.hid (Hb1.out.trans (hb2.mono Hb1.out.size))
  have HSz := Lib.hid (size_32 T HTl.out)
  have HLn : Hid (z32.length = (u8s T).length) := Lib.hid (by rw [u8s_len, HTl.out, z32_len])
  obtain ⟨gt, hgt⟩ : ∃ gt, gt = w1.heap.size := ⟨_, rfl⟩
  rw [← hgt] at HB2 HZ2 HW2
  have Hgt := Lib.hid hgt
  clear hb1 hw2 hB2 hb2 hZ2 hd2 HR HR1 Hb0 Hb1 HLK HW0 HK hgt
  go_wp2_with (first | (refine wpList_alloc_arr rfl 22 z32.toArray rfl zero_32 ?_; rw [← Hgt.out]) | (refine wpList_store_arr rfl 22 (.tmp 5) (.tmp 11) gt z32 (u8s T) rfl rfl rfl rfl HZ2.out HSz.out HLn.out (u8s_one _) ?_; rw [HW2.out]))
  refine wp_region_G grows (by kernel_rfl) ?_
  have HB3 := Lib.hid HB2.out.drew
  have HR3 := Lib.hid (show Rd w2.drew w2.drew.heap.size (some ⟨ab, ao, none⟩) s from HR2.out)
  have Hb3 := Lib.hid Hb2.out.drew
  have HG3 := Lib.hid (Gl.keep HG.out Hb2.out.drew)
  clear HW2 HZ2 HR2 Hb2 HB2 Hgt HG HSz HLn HT Hkl
  generalize w2.drew = W3 at *
  have hcut := Hcut.out
  refine segG (by kernel_rfl) (fun _ _ _ _ _ h => h) [0, 1, 2, 3, 4, 5, 6, 7] [_, _, _, _, _, _, _, _] 3 rfl rfl (by kernel_rfl) ?_
  repeat (go_big_quiet_step (fail))
  refine wpQuiet_nil ?_
  clear hcut Hcut
  refine oneG 8 2 rfl (by kernel_rfl) rfl ?_
  go_wp2_with fail
  have hsl : (s.drop (n - 32)).length = 32 := by rw [List.length_drop]; have := Hn.out; omega
  have heq := equal_any W3 (some ⟨gt, 0, none⟩) (some ⟨ab, ao + (n - 32), none⟩) T (s.drop (n - 32)) 32 32 32 (c - (n - 32)) HTl.out.symm hsl.symm (by have := Rd.of_all HB3.out; exact this) (rd_cut HR3.out (n - 32)) (by omega) (by omega)
  rw [← HrT.out] at heq
  refine heq.mono ?_
  rintro e W4 ⟨rfl, rfl⟩
  clear heq hsl
  go_wp2
  refine ⟨Below.refl _ _, ?_⟩
  refine segG (by kernel_rfl) (fun _ _ _ _ _ h => h) [9, 10] [_, _] 0 rfl rfl (by kernel_rfl) ?_
  repeat (go_big_quiet_step (fail))
  refine wpQuiet_nil ?_
  refine wpAnyG_done (by kernel_rfl) ?_
  go_wp2
  go_ret
  exact ⟨by simp, Hb3.out⟩
end Go.Proofs.YtjhkodmaalefiaaDoor
namespace Go.Proofs.YtjhkodmaalefiaaDoor
open Go.RowKit Go.Gar

theorem Tryd.und3 : Tryd.prog.underlying 3 = some (.int .i64) := by kernel_rfl
theorem slice_to0 (g n c : Nat) (W : World) : (Instr.sliceAt 26 (.slice (some ⟨g, 0, none⟩) n c) none (some (.int .i64 0)) none).run Tryd.prog W = .ok (.slice (some ⟨g, 0, none⟩) 0 c) W := by
  obtain ⟨i, hi, hs⟩ := Option.map_eq_some_iff.1 Tryd.size5
  simp [Instr.sliceAt, Instr.sliceBounds, Instr.sureAddr, run_underlying Tryd.und22 W, sizeOf, typeInfo, hi, hs, go_sem]
set_option maxHeartbeats 1000000 in
theorem grow_any (w : World) (n : Nat) (h0 : 0 < n) (hl : n ≤ 1048576) :
    Calls Tryd.prog 39 #[.slice none 0 0, .int .i64 (n : Int)] w fun e w' => ∃ v, e = .returned v ∧ OwnB w' w.heap.size 5 v [] ∧ Below w.heap.size w w' := by
  obtain ⟨i, hi, hzz⟩ := Option.map_eq_some_iff.1 Tryd.info5
  simp only [Prod.mk.injEq] at hzz
  obtain ⟨hz, hs, hby⟩ := hzz
  have hrun := Lib.run_append_nil_zeros (P := Tryd.prog) w 26 3 26 5 i _ .i64 .i64 Tryd.und22 Tryd.und3 hi hz n h0 (by omega) (by omega) (by rw [hby]; omega)
  have hge := grownCap_ge w n 0 5
  have hle := grownCap_le_maxLen w n 0 5 (by simp only [maxLen]; omega)
  generalize grownCap w n 0 5 = cp at hrun hge hle
  have hO : OwnB (w.drew.alloc (.cells (Builtin.zeroCells (Value.int .u8 0).cells n ++ Builtin.zeroCells (Value.int .u8 0).cells (cp - n)) 5)) w.heap.size 5 (.slice (some ⟨w.heap.size, 0, none⟩) 0 cp) [] :=
    World.ownsRow_made w.drew _ cp (Nat.le_refl _) hle (by simp [size_zeroCells, Value.cells]; omega)
  have hb : Below w.heap.size w (w.drew.alloc (.cells (Builtin.zeroCells (Value.int .u8 0).cells n ++ Builtin.zeroCells (Value.int .u8 0).cells (cp - n)) 5)) := (Below.refl _ w).drew.alloc (Nat.le_refl _) _
  generalize w.drew.alloc (.cells (Builtin.zeroCells (Value.int .u8 0).cells n ++ Builtin.zeroCells (Value.int .u8 0).cells (cp - n)) 5) = w1 at *
  have hsl := fun W => slice_to0 w.heap.size n cp W
  have HO := Lib.hid hO
  have Hb := Lib.hid hb
  have hn1 : (0 : Int) < (n : Int) := by omega
  clear hO hb hi hz hs hby hge hle h0
  go_enter Tryd.func39, Tryd.ntmps39
  go_wp2_with (at_builtin; refine wpList_append_run rfl (.tmp 20) (.tmp 21) _ rfl rfl rfl hrun ?_)
  go_ret
  exact ⟨_, rfl, HO.out, Hb.out⟩

set_option maxHeartbeats 2000000 in
theorem concat_any (w : World) (gC : Nat) (A1 A2 : Option Addr) (l1 l2 : List UInt8) (n1 n2 c1 c2 : Nat) (hC : Blk w gC 26 [.slice A1 n1 c1, .slice A2 n2 c2]) (h1 : n1 = l1.length) (h2 : n2 = l2.length) (r1 : Rd w w.heap.size A1 l1) (r2 : Rd w w.heap.size A2 l2) (h0 : 0 < n1 + n2) (hl : n1 + n2 ≤ 1048576) :
    Calls Tryd.prog 19 #[.slice (some ⟨gC, 0, none⟩) 2 2] w fun e w' => ∃ v, e = .returned v ∧ OwnB w' w.heap.size 5 v (l1 ++ l2) ∧ Below w.heap.size w w' := by
  have HC := Lib.hid hC
  have H1 := Lib.hid h1
  have H2 := Lib.hid h2
  have R1 := Lib.hid r1
  have R2 := Lib.hid r2
  have q1 := hC.cell 0
  have q2 := hC.cell 1
  rw [show ([.slice A1 n1 c1, .slice A2 n2 c2] : List Value)[0]? = some (.slice A1 n1 c1) from rfl] at q1
  rw [show ([.slice A1 n1 c1, .slice A2 n2 c2] : List Value)[1]? = some (.slice A2 n2 c2) from rfl] at q2
  clear hC h1 h2 r1 r2
  go_enter Tryd.func19, Tryd.ntmps19
  go_wp2
  go_loopw [3, 11] (fun z i w' => w' = w ∧ ((i = .int .i64 0 ∧ z = .int .i64 0) ∨ (i = .int .i64 1 ∧ z = .int .i64 (n1 : Int)) ∨ (i = .int .i64 2 ∧ z = .int .i64 ((n1 + n2 : Nat) : Int)))) (fun _ i _ => 2 - (intOf i).toNat)
  case atStart => exact ⟨rfl, .inl ⟨rfl, rfl⟩⟩
  case round =>
    obtain ⟨rfl, h | h | h⟩ := hrel
    · obtain ⟨rfl, rfl⟩ := h
      go_wp2
      exact ⟨⟨trivial, .inr (.inl ⟨by go_num, by go_num⟩)⟩, by simp [intOf]⟩
    · obtain ⟨rfl, rfl⟩ := h
      have hnn : ¬ ((n1 : Int) + (n2 : Int) < 0) := by omega
      go_wp2
      exact ⟨⟨trivial, .inr (.inr ⟨by go_num, by go_num⟩)⟩, by simp [intOf]⟩
    · obtain ⟨rfl, rfl⟩ := h
      go_wp2_with fail
      refine (grow_any wr (n1 + n2) h0 hl).mono ?_
      rintro e w1 ⟨v, rfl, hO, hb⟩
      have HO := Lib.hid hO
      have Hb := Lib.hid hb
      clear q1 q2 hO hb
      go_wp2
      go_loopw [6, 27] (fun v i w' => Below wr.heap.size wr w' ∧ ((i = .int .i64 0 ∧ OwnB w' wr.heap.size 5 v []) ∨ (i = .int .i64 1 ∧ OwnB w' wr.heap.size 5 v l1) ∨ (i = .int .i64 2 ∧ OwnB w' wr.heap.size 5 v (l1 ++ l2)))) (fun _ i _ => 2 - (intOf i).toNat)
      case atStart => exact ⟨Hb.out, .inl ⟨rfl, HO.out⟩⟩
      case round =>
        obtain ⟨hb, h | h | h⟩ := hrel
        · obtain ⟨rfl, hO⟩ := h
          have q := (HC.out.below hb HC.out.lt).cell 0
          rw [show ([.slice A1 n1 c1, .slice A2 n2 c2] : List Value)[0]? = some (.slice A1 n1 c1) from rfl] at q
          obtain ⟨v', w', e1, ho1, hb1, _⟩ := app_rd (P := Tryd.prog) 26 26 Tryd.und22 Tryd.info5 hO hb.size c1 (R1.out.below hb) (by have := H1.out; have := H2.out; simp; omega)
          rw [← H1.out] at e1
          have HO1 := Lib.hid ho1
          have Hb1 := Lib.hid (hb.trans hb1)
          clear ho1 hb1 hO hb
          go_wp2_with (at_builtin; refine wpList_append_run rfl (.tmp 31) (.tmp 32) _ rfl rfl rfl e1 ?_)
          exact ⟨⟨Hb1.out, .inr (.inl ⟨by go_num, by simpa using HO1.out⟩)⟩, by simp [intOf]⟩
        · obtain ⟨rfl, hO⟩ := h
          have q := (HC.out.below hb HC.out.lt).cell 1
          rw [show ([.slice A1 n1 c1, .slice A2 n2 c2] : List Value)[1]? = some (.slice A2 n2 c2) from rfl] at q
          obtain ⟨v', w', e1, ho1, hb1, _⟩ := app_rd (P := Tryd.prog) 26 26 Tryd.und22 Tryd.info5 hO hb.size c2 (R2.out.below hb) (by have := H1.out; have := H2.out; simp; omega)
          rw [← H2.out] at e1
          have HO1 := Lib.hid ho1
          have Hb1 := Lib.hid (hb.trans hb1)
          clear ho1 hb1 hO hb
          go_wp2_with (at_builtin; refine wpList_append_run rfl (.tmp 31) (.tmp 32) _ rfl rfl rfl e1 ?_)
          exact ⟨⟨Hb1.out, .inr (.inr ⟨by go_num, HO1.out⟩)⟩, by simp [intOf]⟩
        · obtain ⟨rfl, hO⟩ := h
          have HO1 := Lib.hid hO
          have Hb1 := Lib.hid hb
          clear hO hb
          go_wp2
          go_ret
          exact ⟨_, rfl, HO1.out, Hb1.out⟩

/-- Concat of two slices that the caller lists: some bytes there are. -/
theorem concat2o (w : World) (g : Nat) (A1 A2 : Option Addr) (l1 l2 l : List UInt8) (n1 n2 c1 c2 : Nat) (hg : g = w.heap.size) (hlv : l = l1 ++ l2) (h1 : n1 = l1.length) (h2 : n2 = l2.length) (r1 : Rd w w.heap.size A1 l1) (r2 : Rd w w.heap.size A2 l2) (h0 : 0 < n1 + n2) (hl : n1 + n2 ≤ 1048576) :
    Calls Tryd.prog 19 #[.slice (some ⟨g, 0, none⟩) 2 2] (w.alloc (.cells #[.slice A1 n1 c1, .slice A2 n2 c2] 26)) fun e w' => ∃ A c, e = .returned (.slice A l.length c) ∧ l.length ≤ c ∧ Rd w' w'.heap.size A l ∧ Below w.heap.size w w' := by
  subst hg
  have hbl := below_alloc w (.cells #[.slice A1 n1 c1, .slice A2 n2 c2] 26)
  refine (concat_any (w.alloc (.cells #[.slice A1 n1 c1, .slice A2 n2 c2] 26)) w.heap.size A1 A2 l1 l2 n1 n2 c1 c2 (Blk.new w _ _) h1 h2 ((r1.below hbl).more hbl.size) ((r2.below hbl).more hbl.size) h0 hl).mono ?_
  rintro e w' ⟨v, rfl, hO, hb⟩
  obtain ⟨gR, cp, rest, rfl, _, hcp, hB⟩ := hO.blk (by rw [List.length_append]; omega)
  rw [hlv]
  exact ⟨_, cp, rfl, hcp, Rd.of_row hB, hbl.trans (hb.mono hbl.size)⟩
end Go.Proofs.YtjhkodmaalefiaaDoor
namespace Go.Proofs.YtjhkodmaalefiaaDoor
open Go.RowKit Go.Gar

set_option maxHeartbeats 4000000 in
theorem concat3_any (w : World) (gC : Nat) (A1 A2 A3 : Option Addr) (l1 l2 l3 : List UInt8) (n1 n2 n3 c1 c2 c3 : Nat) (hC : Blk w gC 26 [.slice A1 n1 c1, .slice A2 n2 c2, .slice A3 n3 c3]) (h1 : n1 = l1.length) (h2 : n2 = l2.length) (h3 : n3 = l3.length) (r1 : Rd w w.heap.size A1 l1) (r2 : Rd w w.heap.size A2 l2) (r3 : Rd w w.heap.size A3 l3) (h0 : 0 < n1 + n2 + n3) (hl : n1 + n2 + n3 ≤ 1048576) (O : List UInt8) (hO : O = l1 ++ l2 ++ l3) :
    Calls Tryd.prog 19 #[.slice (some ⟨gC, 0, none⟩) 3 3] w fun e w' => ∃ v, e = .returned v ∧ OwnB w' w.heap.size 5 v O ∧ Below w.heap.size w w' := by
  have HC := Lib.hid hC
  have HOO := Lib.hid hO
  have H1 := Lib.hid h1
  have H2 := Lib.hid h2
  have H3 := Lib.hid h3
  have R1 := Lib.hid r1
  have R2 := Lib.hid r2
  have R3 := Lib.hid r3
  have q1 := hC.cell 0
  have q2 := hC.cell 1
  have q3 := hC.cell 2
  rw [show ([.slice A1 n1 c1, .slice A2 n2 c2, .slice A3 n3 c3] : List Value)[0]? = some (.slice A1 n1 c1) from rfl] at q1
  rw [show ([.slice A1 n1 c1, .slice A2 n2 c2, .slice A3 n3 c3] : List Value)[1]? = some (.slice A2 n2 c2) from rfl] at q2
  rw [show ([.slice A1 n1 c1, .slice A2 n2 c2, .slice A3 n3 c3] : List Value)[2]? = some (.slice A3 n3 c3) from rfl] at q3
  clear hC hO h1 h2 h3 r1 r2 r3
  go_enter Tryd.func19, Tryd.ntmps19
  go_wp2
  go_loopw [3, 11] (fun z i w' => w' = w ∧ ((i = .int .i64 0 ∧ z = .int .i64 0) ∨ (i = .int .i64 1 ∧ z = .int .i64 (n1 : Int)) ∨ (i = .int .i64 2 ∧ z = .int .i64 ((n1 + n2 : Nat) : Int)) ∨ (i = .int .i64 3 ∧ z = .int .i64 ((n1 + n2 + n3 : Nat) : Int)))) (fun _ i _ => 3 - (intOf i).toNat)
  case atStart => exact ⟨rfl, .inl ⟨rfl, rfl⟩⟩
  case round =>
    obtain ⟨rfl, h | h | h | h⟩ := hrel
    · obtain ⟨rfl, rfl⟩ := h
      go_wp2
      exact ⟨⟨trivial, .inr (.inl ⟨by go_num, by go_num⟩)⟩, by simp [intOf]⟩
    · obtain ⟨rfl, rfl⟩ := h
      have hnn : ¬ ((n1 : Int) + (n2 : Int) < 0) := by omega
      go_wp2
      exact ⟨⟨trivial, .inr (.inr (.inl ⟨by go_num, by go_num⟩))⟩, by simp [intOf]⟩
    · obtain ⟨rfl, rfl⟩ := h
      have hnn : ¬ ((n1 : Int) + (n2 : Int) + (n3 : Int) < 0) := by omega
      go_wp2
      exact ⟨⟨trivial, .inr (.inr (.inr ⟨by go_num, by go_num⟩))⟩, by simp [intOf]⟩
    · obtain ⟨rfl, rfl⟩ := h
      go_wp2_with fail
      refine (grow_any wr (n1 + n2 + n3) h0 hl).mono ?_
      rintro e w1 ⟨v, rfl, hO, hb⟩
      have HO := Lib.hid hO
      have Hb := Lib.hid hb
      clear q1 q2 q3 hO hb
      go_wp2
      go_loopw [6, 27] (fun v i w' => Below wr.heap.size wr w' ∧ ((i = .int .i64 0 ∧ OwnB w' wr.heap.size 5 v []) ∨ (i = .int .i64 1 ∧ OwnB w' wr.heap.size 5 v l1) ∨ (i = .int .i64 2 ∧ OwnB w' wr.heap.size 5 v (l1 ++ l2)) ∨ (i = .int .i64 3 ∧ OwnB w' wr.heap.size 5 v (l1 ++ l2 ++ l3)))) (fun _ i _ => 3 - (intOf i).toNat)
      case atStart => exact ⟨Hb.out, .inl ⟨rfl, HO.out⟩⟩
      case round =>
        obtain ⟨hb, h | h | h | h⟩ := hrel
        · obtain ⟨rfl, hO⟩ := h
          have q := (HC.out.below hb HC.out.lt).cell 0
          rw [show ([.slice A1 n1 c1, .slice A2 n2 c2, .slice A3 n3 c3] : List Value)[0]? = some (.slice A1 n1 c1) from rfl] at q
          obtain ⟨v', w', e1, ho1, hb1, _⟩ := app_rd (P := Tryd.prog) 26 26 Tryd.und22 Tryd.info5 hO hb.size c1 (R1.out.below hb) (by have := H1.out; have := H2.out; have := H3.out; simp; omega)
          rw [← H1.out] at e1
          have HO1 := Lib.hid ho1
          have Hb1 := Lib.hid (hb.trans hb1)
          clear ho1 hb1 hO hb
          go_wp2_with (at_builtin; refine wpList_append_run rfl (.tmp 31) (.tmp 32) _ rfl rfl rfl e1 ?_)
          exact ⟨⟨Hb1.out, .inr (.inl ⟨by go_num, by simpa using HO1.out⟩)⟩, by simp [intOf]⟩
        · obtain ⟨rfl, hO⟩ := h
          have q := (HC.out.below hb HC.out.lt).cell 1
          rw [show ([.slice A1 n1 c1, .slice A2 n2 c2, .slice A3 n3 c3] : List Value)[1]? = some (.slice A2 n2 c2) from rfl] at q
          obtain ⟨v', w', e1, ho1, hb1, _⟩ := app_rd (P := Tryd.prog) 26 26 Tryd.und22 Tryd.info5 hO hb.size c2 (R2.out.below hb) (by have := H1.out; have := H2.out; have := H3.out; simp; omega)
          rw [← H2.out] at e1
          have HO1 := Lib.hid ho1
          have Hb1 := Lib.hid (hb.trans hb1)
          clear ho1 hb1 hO hb
          go_wp2_with (at_builtin; refine wpList_append_run rfl (.tmp 31) (.tmp 32) _ rfl rfl rfl e1 ?_)
          exact ⟨⟨Hb1.out, .inr (.inr (.inl ⟨by go_num, HO1.out⟩))⟩, by simp [intOf]⟩
        · obtain ⟨rfl, hO⟩ := h
          have q := (HC.out.below hb HC.out.lt).cell 2
          rw [show ([.slice A1 n1 c1, .slice A2 n2 c2, .slice A3 n3 c3] : List Value)[2]? = some (.slice A3 n3 c3) from rfl] at q
          obtain ⟨v', w', e1, ho1, hb1, _⟩ := app_rd (P := Tryd.prog) 26 26 Tryd.und22 Tryd.info5 hO hb.size c3 (R3.out.below hb) (by have := H1.out; have := H2.out; have := H3.out; simp; omega)
          rw [← H3.out] at e1
          have HO1 := Lib.hid ho1
          have Hb1 := Lib.hid (hb.trans hb1)
          clear ho1 hb1 hO hb
          go_wp2_with (at_builtin; refine wpList_append_run rfl (.tmp 31) (.tmp 32) _ rfl rfl rfl e1 ?_)
          exact ⟨⟨Hb1.out, .inr (.inr (.inr ⟨by go_num, HO1.out⟩))⟩, by simp [intOf]⟩
        · obtain ⟨rfl, hO⟩ := h
          have HO1 := Lib.hid hO
          have Hb1 := Lib.hid hb
          clear hO hb
          go_wp2
          go_ret
          exact ⟨_, rfl, by rw [HOO.out]; exact HO1.out, Hb1.out⟩
end Go.Proofs.YtjhkodmaalefiaaDoor
