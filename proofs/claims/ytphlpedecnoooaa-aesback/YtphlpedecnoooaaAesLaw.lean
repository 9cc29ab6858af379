/-
  Layer 4's laws: what is asked of aes's functions (contracts); an array argument; sized.
-/
import Derived.Test.YtphlpedecnoooaaAesM
import Derived.Test.YtphlpedecnoooaaArrEq
import Derived.Test.YtphlpedecnoooaaBase
import Derived.Test.YtphlpedecnoooaaApp
import Derived.Test.YtphlpedecnoooaaLaw
import Derived.Test.YtphlpedecnoooaaOwn
namespace Go.Gar
open Go.ChangeShapes Go.WideShapes Go.ChangeAt Go.RowKit
/-- An array of bytes by value. -/
theorem open_arr {H : Type} {enc : TypeId × Value → H} {P : Program} {t e : TypeId} {n : Nat} (ht : P.underlying t = some (.array n e)) (he : P.underlying e = some (.int .u8)) (hce : P.cellsOf e = 1) (hct : P.cellsOf t = n) {W : World} {base : Nat} {v : Value} {d : DataW H} {p : List MemPlace}
    (hok : Value.okWide P W .any base t v) (h : DataW.Trod enc P W 0 (fun _ => true) true t v d p) : ∃ l : List UInt8, l.length = n ∧ v = .agg (u8s l).toArray := by
  simp only [Value.okWide, ht] at hok
  obtain ⟨cs, rfl, h2, _⟩ := hok
  rw [hct] at h2
  obtain ⟨fuel, hf⟩ := h
  obtain ⟨xs, m, _, _, _, hx, hall⟩ := DataW.trod_array ht hf
  have key : ∀ i, i < n → ∃ z : UInt8, cs.toList[i]? = some (.int .u8 (z.toNat : Int)) := by
    intro i hi
    have h3 := hall i hi
    rw [hce, Nat.mul_one, List.getElem?_eq_getElem (by omega)] at h3
    obtain ⟨q, hq, _, hw⟩ := DataW.trod_int he h3
    have hb := bounds_u8 hw
    have h4 : ((Value.agg cs).cells.toList.drop i).take 1 = [.int .u8 q] := hq
    have h5 : cs.toList[i]? = some (.int .u8 q) := by
      have h6 : (((Value.agg cs).cells.toList.drop i).take 1)[0]? = some (.int .u8 q) := by rw [h4]; rfl
      simpa [Value.cells] using h6
    refine ⟨UInt8.ofNat q.toNat, ?_⟩
    rw [h5]
    congr 2
    simp
    omega
  refine ⟨cs.toList.map (fun u => match u with | .int _ z => UInt8.ofNat z.toNat | _ => 0), by simp [h2], ?_⟩
  congr 1
  apply Array.ext'
  apply List.ext_getElem?
  intro i
  by_cases hi : i < n
  · obtain ⟨z, hz⟩ := key i hi
    rw [hz, u8s_get, List.getElem?_map, hz]
    simp
  · rw [List.getElem?_eq_none (by simp [h2]; omega), List.getElem?_eq_none (by simp [u8s_len, h2]; omega)]
/-- copy of as many bytes as both slices have. -/
theorem run_copy_min {P : Program} {w : World} (dT sT ty e : TypeId) (hu : P.underlying dT = some (.slice e)) (hs : (P.info? e).map (·.size) = some 1) (g dLen dCap sCap : Nat) (A : Option Addr) (l : List UInt8) (B : Nat)
    (hr : Rd w B A l) (cs : List Value) (t : TypeId) (hg : Blk w g t cs) (hfit : dLen ≤ cs.length) :
    (Builtin.copy_ #[dT, sT] ty #[.slice (some ⟨g, 0, none⟩) dLen dCap, .slice A l.length sCap]).run P w = .ok (goInt ((min l.length dLen : Nat) : Int)) (w.setRow g (u8s (l.take dLen) ++ cs.drop (min l.length dLen)).toArray) := by
  rcases hr with rfl | ⟨b, o, rfl, _, hc⟩
  · rw [run_copy_none w dT sT ty e _ _ _ _ _ _ hu hs (by simp)]
    have := setRow_self w g cs.toArray t (0, 0) hg
    simp only [List.length_nil, u8s, List.map_nil, List.drop_zero, List.nil_append, List.take_nil, Nat.zero_min]
    rw [this]
    rfl
  · have hlen : (u8s (l.take dLen)).length = min l.length dLen := by rw [u8s_len, List.length_take, Nat.min_comm]
    have h := run_copy_row (P := P) w dT sT ty e g 0 dLen dCap ⟨b, o, none⟩ l.length sCap cs.toArray t (u8s (l.take dLen)) hu hs hg hlen ?_ (by rw [hlen]; simp; omega) (u8s_one _)
    · rw [h, hlen]
      simp
    · intro j v hj
      rw [u8s_get] at hj
      cases hq : (l.take dLen)[j]? with
      | none => simp [hq] at hj
      | some c =>
        rw [hq] at hj
        simp at hj
        subst hj
        have : (⟨b, o, none⟩ : Addr).add j = ⟨b, o + j, none⟩ := Addr.add_lit _ _ _
        rw [this]
        refine hc j c ?_
        rw [List.getElem?_take] at hq
        split at hq
        · exact hq
        · cases hq
end Go.Gar
namespace Go.Proofs.Ytphlpedecnoooaa
open Go.ChangeShapes Go.WideShapes Go.ChangeAt Go.RowKit Go.Gar Go.Gar.Aes

theorem Try.und16 : Try.prog.underlying 23 = some (.array 16 5) := by kernel_rfl
theorem Try.size16 : (Try.prog.info? 23).map (·.size) = some 16 := by kernel_rfl
theorem Try.plain5 : Try.prog.plainKey 5 = true := by kernel_rfl
theorem Try.cells5 : Try.prog.cellsOf 5 = 1 := by kernel_rfl
theorem Try.cells16 : Try.prog.cellsOf 23 = 16 := by kernel_rfl
theorem Try.guard16 : Try.prog.eqGuardType Try.prog.depth 23 = false := by kernel_rfl

structure AesOK (Rep : World → Nat → List UInt8 → Prop) : Prop where
  stay : ∀ {w w' : World} {gc : Nat} {key : List UInt8}, Rep w gc key → Below w.heap.size w w' → Rep w' gc key
  new_yes : ∀ (w : World) (A : Option Addr) (key : List UInt8) (len cap : Nat), sizeOk key.length → len = key.length → key.length ≤ cap → Rd w w.heap.size A key →
    Calls Try.prog 7 #[.slice A len cap] w fun e w' => ∃ gc, e = .returned (.tuple #[.pointer (some ⟨gc, 0, none⟩), .int .i64 0]) ∧ Rep w' gc key ∧ Below w.heap.size w w'
  new_no : ∀ (w : World) (A : Option Addr) (len cap : Nat), ¬ sizeOk len →
    Calls Try.prog 7 #[.slice A len cap] w fun e w' => e = .returned (.tuple #[.pointer none, .int .i64 1]) ∧ Below w.heap.size w w'
  enc : ∀ (w : World) (gc : Nat) (key l : List UInt8), sizeOk key.length → Rep w gc key → l.length = 16 →
    Calls Try.prog 10 #[.pointer (some ⟨gc, 0, none⟩), .agg (u8s l).toArray] w fun e w' => e = .returned (.agg (u8s (encrypt key l)).toArray) ∧ Below w.heap.size w w'
  dec : ∀ (w : World) (gc : Nat) (key l : List UInt8), sizeOk key.length → Rep w gc key → l.length = 16 →
    Calls Try.prog 11 #[.pointer (some ⟨gc, 0, none⟩), .agg (u8s l).toArray] w fun e w' => e = .returned (.agg (u8s (decrypt key l)).toArray) ∧ Below w.heap.size w w'
  enc_nil : ∀ (w : World) (l : List UInt8), l.length = 16 →
    Calls Try.prog 10 #[.pointer none, .agg (u8s l).toArray] w fun e w' => e = .returned (.agg (u8s l).toArray) ∧ Below w.heap.size w w'
  dec_nil : ∀ (w : World) (l : List UInt8), l.length = 16 →
    Calls Try.prog 11 #[.pointer none, .agg (u8s l).toArray] w fun e w' => e = .returned (.agg (u8s l).toArray) ∧ Below w.heap.size w w'

/-- A key made of any bytes: cut or filled up with zeros. -/
def fit (key : List UInt8) (n : Nat) : List UInt8 := key.take n ++ List.replicate (n - key.length) 0
theorem fit_len (key : List UInt8) (n : Nat) : (fit key n).length = n := by simp [fit]; omega

set_option maxHeartbeats 1000000 in
set_option maxRecDepth 100000 in
theorem sized_any (w : World) (A : Option Addr) (key : List UInt8) (cap n m : Nat) (hm : m = 16 + 8 * (n % 3)) (hn : n < 256) (hr : Rd w w.heap.size A key) :
    Calls Try.prog 8 #[.slice A key.length cap, .int .u8 (n : Int)] w fun e w' => ∃ g, e = .returned (.slice (some ⟨g, 0, none⟩) m m) ∧ w.heap.size ≤ g ∧ Blk w' g 5 (u8s (fit key m)) ∧ Below w.heap.size w w' := by
  have hmk := run_make_bytes m m (Nat.le_refl _) (by omega) w
  have hBn := Blk.new w 5 (u8s (List.replicate m 0))
  have hb0 := below_alloc w (.cells (u8s (List.replicate m 0)).toArray 5)
  have hcp := run_copy_min (P := Try.prog) 22 22 3 5 Try.und22 Try.size5 w.heap.size m m cap A key w.heap.size (hr.below hb0) _ _ hBn (by simp [u8s_len])
  have hrow := hBn.row (u8s (key.take m) ++ (u8s (List.replicate m 0)).drop (min key.length m))
  have hfit : u8s (key.take m) ++ (u8s (List.replicate m 0)).drop (min key.length m) = u8s (fit key m) := by
    rw [u8s_drop, ← u8s_app, fit, List.drop_replicate]
    congr 3
    omega
  rw [hfit] at hcp hrow
  have Hrow := Lib.hid hrow
  have Hb := Lib.hid (below_setRow hb0 (Nat.le_refl _) (u8s (fit key m)).toArray)
  rw [show ((m : Nat) : Int) = 16 + 8 * ((n : Int) % 3) from by omega] at hmk
  clear hBn hb0 hrow hfit hr hm
  generalize w.alloc (.cells (u8s (List.replicate m 0)).toArray 5) = w1 at *
  generalize w1.setRow w.heap.size (u8s (fit key m)).toArray = w2 at *
  go_enter Try.func8, Try.ntmps8
  go_wp2
  go_ret
  exact ⟨w.heap.size, rfl, Nat.le_refl _, Hrow.out, Hb.out⟩

theorem run_eq16 (a b : List UInt8) (ha : a.length = 16) (hb : b.length = 16) (w : World) : (Op.equalIn 10000 23 (.agg (u8s a).toArray) (.agg (u8s b).toArray)).run Try.prog w = .ok (decide (a = b)) w :=
  run_equalIn_u8s Try.und16 Try.plain5 Try.und5 Try.cells5 9998 a b ha hb
theorem size16 (l : List UInt8) (h : l.length = 16) : (Try.prog.info? 23).map (·.size) = some (u8s l).length := by rw [u8s_len, h]; exact Try.size16
theorem fit_ok (key : List UInt8) (n : Nat) : sizeOk (fit key (16 + 8 * (n % 3))).length := by
  rw [fit_len]; unfold sizeOk; omega

section
variable {Rep : World → Nat → List UInt8 → Prop}
theorem AesOK.enc_at (h : AesOK Rep) (w : World) (gc : Nat) (key l : List UInt8) (x : Array Value) (hx : x = (u8s l).toArray) (hk : sizeOk key.length) (hr : Rep w gc key) (hl : l.length = 16) :
    Calls Try.prog 10 #[.pointer (some ⟨gc, 0, none⟩), .agg x] w fun e w' => ∃ y, e = .returned (.agg y) ∧ y = (u8s (encrypt key l)).toArray ∧ Below w.heap.size w w' := by
  subst hx
  exact (h.enc w gc key l hk hr hl).mono fun e w' he => ⟨_, he.1, rfl, he.2⟩
theorem AesOK.dec_at (h : AesOK Rep) (w : World) (gc : Nat) (key l : List UInt8) (x : Array Value) (hx : x = (u8s l).toArray) (hk : sizeOk key.length) (hr : Rep w gc key) (hl : l.length = 16) :
    Calls Try.prog 11 #[.pointer (some ⟨gc, 0, none⟩), .agg x] w fun e w' => ∃ y, e = .returned (.agg y) ∧ y = (u8s (decrypt key l)).toArray ∧ Below w.heap.size w w' := by
  subst hx
  exact (h.dec w gc key l hk hr hl).mono fun e w' he => ⟨_, he.1, rfl, he.2⟩
theorem AesOK.enc_nil_at (h : AesOK Rep) (w : World) (l : List UInt8) (x : Array Value) (hx : x = (u8s l).toArray) (hl : l.length = 16) :
    Calls Try.prog 10 #[.pointer none, .agg x] w fun e w' => e = .returned (.agg x) ∧ Below w.heap.size w w' := by
  subst hx
  exact h.enc_nil w l hl
theorem AesOK.dec_nil_at (h : AesOK Rep) (w : World) (l : List UInt8) (x : Array Value) (hx : x = (u8s l).toArray) (hl : l.length = 16) :
    Calls Try.prog 11 #[.pointer none, .agg x] w fun e w' => e = .returned (.agg x) ∧ Below w.heap.size w w' := by
  subst hx
  exact h.dec_nil w l hl
end
theorem eq16_at (a b : List UInt8) (x y : Array Value) (hx : x = (u8s a).toArray) (hy : y = (u8s b).toArray) (ha : a.length = 16) (hb : b.length = 16) (r : Bool) (hr : decide (a = b) = r) (w : World) : (Op.equalIn 10000 23 (.agg x) (.agg y)).run Try.prog w = .ok r w := by
  subst hx; subst hy; subst hr
  exact run_eq16 a b ha hb w
theorem load16 {w : World} {g : Nat} (l : List UInt8) (x : Array Value) (hx : x = (u8s l).toArray) (hl : l.length = 16) (h : Blk w g 23 x.toList) :
    ∀ W : Later grows w, (Instr.loadAt 23 (.pointer (some ⟨g, 0, none⟩))).run Try.prog W.to = .ok (.agg x) W.to := by
  intro W
  have := load_arr_later (P := Try.prog) Try.und16 (by rw [hx, List.toList_toArray]; exact size16 l hl) h W
  rw [Array.toArray_toList] at this
  exact this

set_option maxHeartbeats 2000000 in
set_option maxRecDepth 100000 in
theorem aesback_walk {Rep : World → Nat → List UInt8 → Prop} (hOK : AesOK Rep) (hA : ∀ w : World, Calls Try.prog 12 #[] w fun e w' => e = .returned (.bool true) ∧ Below w.heap.size w w')
    (w : World) (A : Option Addr) (key l : List UInt8) (cap n : Nat) (x : Array Value) (hx : x = (u8s l).toArray) (hl : l.length = 16) (hn : n < 256) (hr : Rd w w.heap.size A key) :
    Calls Try.prog 4 #[.slice A key.length cap, .int .u8 (n : Int), .agg x] w fun e w' => e = .returned (.bool true) ∧ Below w.heap.size w w' := by
  have HOK := Lib.hid hOK
  have HA := Lib.hid hA
  have HX := Lib.hid hx
  have HL := Lib.hid hl
  have HR := Lib.hid ((hr.below (below_alloc w (.cells x 23))).more (below_alloc w (.cells x 23)).size)
  have Hb0 := Lib.hid (below_alloc w (.cells x 23))
  have hB0 := Blk.new w 23 x.toList
  rw [Array.toArray_toList] at hB0
  have HB0 := Lib.hid hB0
  clear hOK hA hx hl hr hB0
  go_enter Try.func4, Try.ntmps4
  go_wp2_with fail
  generalize w.alloc (.cells x 23) = w1 at HR Hb0 HB0 ⊢
  refine (sized_any w1 A key cap n _ rfl hn HR.out).mono ?_
  rintro e w2 ⟨g2, rfl, hg2, hB2, hb2⟩
  have HB2 := Lib.hid (HB0.out.below hb2 HB0.out.lt)
  have Hb2 := bb Hb0 hb2
  have HK2 := Lib.hid (Rd.of_all hB2)
  have HKok := Lib.hid (fit_ok key n)
  have HKl := Lib.hid (fit_len key (16 + 8 * (n % 3)))
  clear hg2 hB2 hb2 HB0 Hb0 HR
  generalize fit key (16 + 8 * (n % 3)) = K at *
  generalize 16 + 8 * (n % 3) = m at *
  go_wp2_with fail
  refine (HOK.out.new_yes w2 _ K m m HKok.out HKl.out.symm (by rw [HKl.out]; exact Nat.le_refl _) HK2.out).mono ?_
  rintro e w3 ⟨gc, rfl, hRep, hb3⟩
  have HB3 := Lib.hid ((HB2.out.below hb3 HB2.out.lt).drew)
  have Hb3 := Lib.hid (bb Hb2 hb3).out.drew
  have HRep := Lib.hid (HOK.out.stay hRep (Below.refl _ w3).drew)
  clear hRep hb3 HB2 Hb2 HK2
  go_wp2_with fail
  refine wp_region_G grows (by kernel_rfl) ?_
  generalize w3.drew = wa at HB3 HRep Hb3 ⊢
  refine oneG 0 23 rfl (by kernel_rfl) rfl ?_
  go_wp2_with fail
  refine (HA.out wa).mono ?_
  rintro e wb ⟨rfl, hb⟩
  have HB4 := Lib.hid (HB3.out.below hb HB3.out.lt)
  have Hb4 := bb Hb3 hb
  have HRep4 := Lib.hid (HOK.out.stay HRep.out hb)
  have hld := load16 l x HX.out HL.out HB4.out
  go_wp2
  refine ⟨hb, ?_⟩
  clear hb HB3 Hb3 HRep
  refine segG (by kernel_rfl) (fun _ _ _ _ _ h => h) [1, 2, 3, 4, 5, 6, 7, 8, 11] [_, _, _, _, _, _, _, _, _] 14 rfl rfl (by kernel_rfl) ?_
  repeat (go_big_quiet_step (fail))
  refine wpQuiet_load_arr 23 (.tmp 5) rfl rfl x hld (by kernel_rfl) ?_
  simp only [Act.put, List.setIfInBounds_toArray, List.set]
  refine wpQuiet_load_arr 23 (.tmp 5) rfl rfl x hld (by kernel_rfl) ?_
  simp only [Act.put, List.setIfInBounds_toArray, List.set]
  refine wpQuiet_nil ?_
  clear hld
  refine oneG 9 13 rfl (by kernel_rfl) rfl ?_
  go_wp2_with fail
  refine (HOK.out.enc_at wb gc K l x HX.out HKok.out HRep4.out HL.out).mono ?_
  rintro e wc ⟨y, rfl, hy, hb⟩
  have HY := Lib.hid hy
  clear hy
  have HB5 := Lib.hid (HB4.out.below hb HB4.out.lt)
  have Hb5 := bb Hb4 hb
  have HRep5 := Lib.hid (HOK.out.stay HRep4.out hb)
  go_wp2
  refine ⟨hb, ?_⟩
  clear hb HB4 Hb4 HRep4
  refine oneG 10 12 rfl (by kernel_rfl) rfl ?_
  go_wp2_with fail
  refine (HOK.out.dec_at wc gc K _ y HY.out HKok.out HRep5.out (encrypt_len _ _)).mono ?_
  rintro e wd ⟨z, rfl, hz, hb⟩
  rw [decrypt_encrypt K l HL.out] at hz
  have hzx : z = x := hz.trans HX.out.symm
  clear hz
  subst hzx
  have HB6 := Lib.hid (HB5.out.below hb HB5.out.lt)
  have Hb6 := bb Hb5 hb
  have HRep6 := Lib.hid (HOK.out.stay HRep5.out hb)
  have hld := load16 l z HX.out HL.out HB6.out
  have heq := eq16_at l l z z HX.out HX.out HL.out HL.out true (by simp)
  go_wp2
  refine ⟨hb, ?_⟩
  clear hb HB5 Hb5 HRep5
  refine segG (by kernel_rfl) (fun _ _ _ _ _ h => h) [12, 13, 14, 15, 16, 17, 20] [_, _, _, _, _, _, _] 5 rfl rfl (by kernel_rfl) ?_
  refine wpQuiet_eql_arr 23 23 (.tmp 26) (.tmp 27) rfl rfl rfl true Try.guard16 heq (by kernel_rfl) ?_
  simp only [Act.put, List.setIfInBounds_toArray, List.set]
  repeat (go_big_quiet_step (fail))
  refine wpQuiet_load_arr 23 (.tmp 5) rfl rfl z hld (by kernel_rfl) ?_
  simp only [Act.put, List.setIfInBounds_toArray, List.set]
  refine wpQuiet_load_arr 23 (.tmp 5) rfl rfl z hld (by kernel_rfl) ?_
  simp only [Act.put, List.setIfInBounds_toArray, List.set]
  refine wpQuiet_nil ?_
  clear hld
  refine oneG 18 4 rfl (by kernel_rfl) rfl ?_
  go_wp2_with fail
  refine (HOK.out.dec_at wd gc K l z HX.out HKok.out HRep6.out HL.out).mono ?_
  rintro e we ⟨y2, rfl, hy2, hb⟩
  have HY2 := Lib.hid hy2
  clear hy2
  have Hb7 := bb Hb6 hb
  have HRep7 := Lib.hid (HOK.out.stay HRep6.out hb)
  go_wp2
  refine ⟨hb, ?_⟩
  clear hb Hb6 HRep6
  refine oneG 19 3 rfl (by kernel_rfl) rfl ?_
  go_wp2_with fail
  refine (HOK.out.enc_at we gc K _ y2 HY2.out HKok.out HRep7.out (decrypt_len _ _)).mono ?_
  rintro e wf ⟨z2, rfl, hz2, hb⟩
  rw [encrypt_decrypt K l HL.out] at hz2
  have hzz : z2 = z := hz2.trans HX.out.symm
  clear hz2
  subst hzz
  have Hb8 := bb Hb7 hb
  go_wp2
  refine ⟨hb, ?_⟩
  clear hb Hb7 HRep7
  refine segG (by kernel_rfl) (fun _ _ _ _ _ h => h) [21, 22, 23] [_, _, _] 0 rfl rfl (by kernel_rfl) ?_
  refine wpQuiet_eql_arr 23 23 (.tmp 35) (.tmp 36) rfl rfl rfl true Try.guard16 heq (by kernel_rfl) ?_
  simp only [Act.put, List.setIfInBounds_toArray, List.set]
  repeat (go_big_quiet_step (fail))
  refine wpQuiet_nil ?_
  refine wpAnyG_done (by kernel_rfl) ?_
  go_wp2
  go_ret
  exact ⟨rfl, Hb8.out⟩
end Go.Proofs.Ytphlpedecnoooaa
