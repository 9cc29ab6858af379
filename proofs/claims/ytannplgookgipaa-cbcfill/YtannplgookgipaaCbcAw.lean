/-
  Layer 7: the fixed fact awake, and short, from the contracts of cbc's functions.
-/
import Derived.Test.YtannplgookgipaaCbcC
import Derived.Test.YtannplgookgipaaArrEq
import Derived.Test.YtannplgookgipaaBase
namespace Go.Proofs.Ytannplgookgipaa
open Go.ChangeShapes Go.WideShapes Go.ChangeAt Go.RowKit Go.Gar Go.Gar.Aes

theorem short7_any (A : Option Addr) (len cap m : Nat) (w : World) (hm : m = min len 200) (hc : len ≤ cap) :
    Calls Try.prog 8 #[.slice A len cap] w fun e w' => e = .returned (.slice A m cap) ∧ w' = w := by
  by_cases h : len ≤ 200
  · obtain rfl : m = len := by omega
    clear hm
    go_enter Try.func8, Try.ntmps8
    go_wp2
    go_ret
    exact ⟨rfl, rfl⟩
  · obtain rfl : m = 200 := by omega
    clear hm
    go_enter Try.func8, Try.ntmps8
    go_wp2
    go_ret
    exact ⟨rfl, rfl⟩

theorem seal_at (hOK : CbcOK) (w : World) (K A : Option Addr) (key iv b : List UInt8) (kl kc bl bc : Nat) (x : Array Value) (E : Int) (O : List UInt8) (n : Nat) (hx : x = (u8s iv).toArray) (hkl : kl = key.length) (hbl : bl = b.length) (hE : E = ((sealE key : Nat) : Int)) (hO : O = sealB key iv b) (hn : n = O.length)
    (rK : Rd w w.heap.size K key) (rA : Rd w w.heap.size A b) (hiv : iv.length = 16) (hkc : kl ≤ kc) (hbc : bl ≤ bc) (hb : bl ≤ 1048576) :
    Calls Try.prog 7 #[.slice K kl kc, .agg x, .slice A bl bc] w fun e w' => ∃ B c, e = .returned (.tuple #[.slice B n c, .int .i64 E]) ∧ n ≤ c ∧ Rd w' w'.heap.size B O ∧ Below w.heap.size w w' := by
  subst hx; subst hkl; subst hbl; subst hE; subst hO; subst hn
  refine (hOK.seal_ w K A key iv b kc bc rK rA hiv hkc hbc hb).mono fun e w' he => ?_
  obtain ⟨v, h1, ⟨B, c, rfl, h2, h3⟩, h4⟩ := he
  exact ⟨B, c, h1, h2, h3, h4⟩
theorem open_at (hOK : CbcOK) (w : World) (K A : Option Addr) (key iv b : List UInt8) (kl kc bl bc : Nat) (x : Array Value) (E : Int) (O : List UInt8) (n : Nat) (hx : x = (u8s iv).toArray) (hkl : kl = key.length) (hbl : bl = b.length) (hE : E = ((openE key iv b : Nat) : Int)) (hO : O = openB key iv b) (hn : n = O.length)
    (rK : Rd w w.heap.size K key) (rA : Rd w w.heap.size A b) (hiv : iv.length = 16) (hkc : kl ≤ kc) (hbc : bl ≤ bc) (hb : bl ≤ 1048576) :
    Calls Try.prog 11 #[.slice K kl kc, .agg x, .slice A bl bc] w fun e w' => ∃ B c, e = .returned (.tuple #[.slice B n c, .int .i64 E]) ∧ n ≤ c ∧ Rd w' w'.heap.size B O ∧ Below w.heap.size w w' := by
  subst hx; subst hkl; subst hbl; subst hE; subst hO; subst hn
  refine (hOK.open_ w K A key iv b kc bc rK rA hiv hkc hbc hb).mono fun e w' he => ?_
  obtain ⟨v, h1, ⟨B, c, rfl, h2, h3⟩, h4⟩ := he
  exact ⟨B, c, h1, h2, h3, h4⟩

def zA : List UInt8 := List.replicate 16 0
theorem zA_len : zA.length = 16 := rfl
theorem seal_awake : (Cbc.seal_ zA zA [])[0]? = some 1 := by decide +kernel
theorem Try.infoI : (Try.prog.info? 23).map (fun i => (i.zero, i.size)) = some (some (.agg (Array.replicate 16 (.int .u8 0))), 16) := by kernel_rfl
theorem zeroI (w : World) : (zeroValue 23).run Try.prog w = .ok (.agg (u8s zA).toArray) w := by
  have := (zero_of_info Try.infoI).1 w
  rw [this]
  rfl

set_option maxHeartbeats 2000000 in
set_option maxRecDepth 100000 in
theorem awake7_any (hOK : CbcOK) (w : World) :
    Calls Try.prog 10 #[] w fun e w' => e = .returned (.bool true) ∧ Below w.heap.size w w' := by
  have HOK := Lib.hid hOK
  have hmk : (Instr.makeSlice 22 (.int .i64 16) (.int .i64 16)).run Try.prog w = .ok (.slice (some ⟨w.heap.size, 0, none⟩) 16 16) (w.alloc (.cells (u8s zA).toArray 5)) := run_make_bytes 16 16 (by omega) (by omega) w
  have hK := (Blk.new w 5 (u8s zA)).alloc (.cells (u8s zA).toArray 23)
  have hC := Blk.new (w.alloc (.cells (u8s zA).toArray 5)) 23 (u8s zA)
  rw [World.size_alloc] at hC
  have hb := (below_alloc w (.cells (u8s zA).toArray 5)).alloc (by rw [World.size_alloc]; omega) (.cells (u8s zA).toArray 23)
  have hzz : (#[.int .u8 0, .int .u8 0, .int .u8 0, .int .u8 0, .int .u8 0, .int .u8 0, .int .u8 0, .int .u8 0, .int .u8 0, .int .u8 0, .int .u8 0, .int .u8 0, .int .u8 0, .int .u8 0, .int .u8 0, .int .u8 0] : Array Value) = (u8s zA).toArray := rfl
  have HZZ := Lib.hid hzz
  obtain ⟨X, hX⟩ : ∃ X, X = Cbc.seal_ zA zA [] := ⟨_, rfl⟩
  have hXl : X.length = 16 := by rw [hX, Cbc.seal_len]; rfl
  have hs : sizeOk zA.length := .inl rfl
  have HE1 : Hid ((0 : Int) = ((sealE zA : Nat) : Int)) := Lib.hid (by rw [show sealE zA = 0 from if_pos hs]; rfl)
  have HO1 : Hid (X = sealB zA zA []) := Lib.hid (by rw [show sealB zA zA [] = Cbc.seal_ zA zA [] from if_pos hs, hX])
  have hop : Cbc.open_ zA zA X = some [] := by rw [hX]; exact Cbc.open_seal zA zA []
  have HE2 : Hid ((0 : Int) = ((openE zA zA X : Nat) : Int)) := Lib.hid (by rw [show openE zA zA X = if (Cbc.open_ zA zA X).isSome then 0 else 12 from if_pos hs, hop]; rfl)
  have HO2 : Hid (([] : List UInt8) = openB zA zA X) := Lib.hid (by rw [show openB zA zA X = (Cbc.open_ zA zA X).getD [] from if_pos hs, hop]; rfl)
  have hon : Cbc.open_ zA zA [] = none := rfl
  have HE3 : Hid ((12 : Int) = ((openE zA zA [] : Nat) : Int)) := Lib.hid (by rw [show openE zA zA [] = if (Cbc.open_ zA zA []).isSome then 0 else 12 from if_pos hs, hon]; rfl)
  have HO3 : Hid (([] : List UInt8) = openB zA zA []) := Lib.hid (by rw [show openB zA zA [] = (Cbc.open_ zA zA []).getD [] from if_pos hs, hon]; rfl)
  have HE4 : Hid ((1 : Int) = ((sealE [] : Nat) : Int)) := Lib.hid rfl
  have HO4 : Hid (([] : List UInt8) = sealB [] zA []) := Lib.hid rfl
  have HX0 : Hid (X[0]? = some 1) := Lib.hid (by rw [hX]; exact seal_awake)
  have HXl := Lib.hid hXl
  obtain ⟨z, hz⟩ : ∃ z, (u8s zA).toArray = z := ⟨_, rfl⟩
  have HZ := Lib.hid hz.symm
  have HK := Lib.hid hK
  have HC := Lib.hid (show Blk _ (w.heap.size + 1) 23 z.toList from by rw [← hz]; exact hC)
  have Hb := Lib.hid hb
  clear hOK hK hC hb hX hXl hop hon hs hzz hz
  go_enter Try.func10, Try.ntmps10
  go_wp2_with fail
  rw [HZZ.out]
  generalize (w.alloc (.cells (u8s zA).toArray 5)).alloc (.cells (u8s zA).toArray 23) = w1 at HK HC Hb ⊢
  rw [HZ.out.symm]
  clear hmk
  refine (seal_at HOK.out w1 _ _ zA zA [] 16 16 0 0 z 0 X 16 HZ.out rfl rfl HE1.out HO1.out HXl.out.symm (Rd.of_all HK.out) Rd.nil rfl (by omega) (by omega) (by omega)).mono ?_
  rintro e w2 ⟨B2, c2, rfl, hc2, r2, hb2⟩
  have HR2 := Lib.hid r2
  have HK2 := Lib.hid (HK.out.below hb2 HK.out.lt)
  have HC2 := Lib.hid (HC.out.below hb2 HC.out.lt)
  have Hb2 := bb Hb hb2
  clear r2 hb2 HK HC Hb
  have hld := load16 zA z HZ.out rfl HC2.out ⟨w2, grows.refl _⟩
  go_wp2_with (refine wpList_load_arr rfl 23 (.tmp 2) rfl rfl z hld ?_)
  clear hld
  refine (open_at HOK.out w2 _ _ zA zA X 16 16 16 c2 z 0 [] 0 HZ.out rfl HXl.out.symm HE2.out HO2.out rfl (Rd.of_all HK2.out) HR2.out rfl (by omega) hc2 (by omega)).mono ?_
  rintro e w3 ⟨B3, c3, rfl, hc3, r3, hb3⟩
  have HR3 := Lib.hid ((HR2.out.below hb3).more hb3.size)
  have HK3 := Lib.hid (HK2.out.below hb3 HK2.out.lt)
  have HC3 := Lib.hid (HC2.out.below hb3 HC2.out.lt)
  have Hb3 := bb Hb2 hb3
  clear r3 hb3 HK2 HC2 Hb2 HR2
  have hld := load16 zA z HZ.out rfl HC3.out ⟨w3, grows.refl _⟩
  go_wp2_with (refine wpList_load_arr rfl 23 (.tmp 2) rfl rfl z hld ?_)
  clear hld
  refine (open_at HOK.out w3 _ _ zA zA [] 16 16 0 0 z 12 [] 0 HZ.out rfl rfl HE3.out HO3.out rfl (Rd.of_all HK3.out) Rd.nil rfl (by omega) (by omega) (by omega)).mono ?_
  rintro e w4 ⟨B4, c4, rfl, hc4, r4, hb4⟩
  have HR4 := Lib.hid ((HR3.out.below hb4).more hb4.size)
  have HC4 := Lib.hid (HC3.out.below hb4 HC3.out.lt)
  have Hb4 := bb Hb3 hb4
  clear r4 hb4 HK3 HC3 Hb3 HR3
  have hld := load16 zA z HZ.out rfl HC4.out ⟨w4, grows.refl _⟩
  go_wp2_with (refine wpList_load_arr rfl 23 (.tmp 2) rfl rfl z hld ?_)
  clear hld
  refine (seal_at HOK.out w4 none none [] zA [] 0 0 0 0 z 1 [] 0 HZ.out rfl rfl HE4.out HO4.out rfl Rd.nil Rd.nil rfl (by omega) (by omega) (by omega)).mono ?_
  rintro e w5 ⟨B5, c5, rfl, hc5, r5, hb5⟩
  have hr5 := (HR4.out.below hb5).more hb5.size
  obtain ⟨bx, ox, hB, hcx⟩ : ∃ bx ox, B2 = some ⟨bx, ox, none⟩ ∧ w5.cell? ⟨bx, ox, none⟩ = some (.int .u8 1) := by
    rcases hr5 with h | ⟨b', o', e', _, hc'⟩
    · have := HXl.out; rw [h] at this; cases this
    · exact ⟨b', o', e', hc' 0 _ HX0.out⟩
  subst hB
  have Hb5 := bb Hb4 hb5
  clear r5 hb5 hr5 HC4 Hb4 HR4 HX0
  go_wp2
  go_ret
  exact ⟨rfl, Hb5.out⟩
end Go.Proofs.Ytannplgookgipaa
