/-
  What is asked of aes's functions (contracts); an array argument.
-/
import Derived.Test.YtbcagjndbfpecaaDoorAesM
import Derived.Test.YtbcagjndbfpecaaDoorArrEq
import Derived.Test.YtbcagjndbfpecaaDoorBase
import Derived.Test.YtbcagjndbfpecaaDoorApp
import Derived.Test.YtbcagjndbfpecaaDoorLaw
import Derived.Test.YtbcagjndbfpecaaDoorOwn
namespace Go.Gar
open Go.ChangeShapes Go.WideShapes Go.ChangeAt Go.RowKit
/-- An array of bytes by value. -/
theorem open_arr {H : Type} {enc : TypeId × Value → H} {P : Program} {t e : TypeId} {n : Nat} (ht : P.underlying t = some (.array n e)) (he : P.underlying e = some (.int .u8)) (hce : P.cellsOf e = 1) (hct : P.cellsOf t = n) {W : World} {base : Nat} {v : Value} {d : DataW H} {p : List MemPlace}
    (hok : Value.okWide P W .any base t v) (h : DataW.Trod enc P W 0 (fun _ => true) true t v d p) : ∃ l : List UInt8, l.length = n ∧ v = .agg (u8s l).toArray := by
  simp only [Value.okWide, ht] at hok
  obtain ⟨cs, rfl, h2, _⟩ := hok
  rw [hct] at h2
  obtain ⟨fuel, hf⟩ := h
  obtain ⟨xs, m, _, _, _, hx, hall⟩ := DataW.trod_array ht hf
  have key : ∀ i, i < n → ∃ z : UInt8, cs.toList[i]? = some (.int .u8 (z.toNat : Int)) := by
    intro i hi
    have h3 := hall i hi
    rw [hce, Nat.mul_one, List.getElem?_eq_getElem (by omega)] at h3
    obtain ⟨q, hq, _, hw⟩ := DataW.trod_int he h3
    have hb := bounds_u8 hw
    have h4 : ((Value.agg cs).cells.toList.drop i).take 1 = [.int .u8 q] := hq
    have h5 : cs.toList[i]? = some (.int .u8 q) := by
      have h6 : (((Value.agg cs).cells.toList.drop i).take 1)[0]? = some (.int .u8 q) := by rw [h4]; rfl
      simpa [Value.cells] using h6
    refine ⟨UInt8.ofNat q.toNat, ?_⟩
    rw [h5]
    congr 2
    simp
    omega
  refine ⟨cs.toList.map (fun u => match u with | .int _ z => UInt8.ofNat z.toNat | _ => 0), by simp [h2], ?_⟩
  congr 1
  apply Array.ext'
  apply List.ext_getElem?
  intro i
  by_cases hi : i < n
  · obtain ⟨z, hz⟩ := key i hi
    rw [hz, u8s_get, List.getElem?_map, hz]
    simp
  · rw [List.getElem?_eq_none (by simp [h2]; omega), List.getElem?_eq_none (by simp [u8s_len, h2]; omega)]
/-- copy of as many bytes as both slices have. -/
theorem run_copy_min {P : Program} {w : World} (dT sT ty e : TypeId) (hu : P.underlying dT = some (.slice e)) (hs : (P.info? e).map (·.size) = some 1) (g dLen dCap sCap : Nat) (A : Option Addr) (l : List UInt8) (B : Nat)
    (hr : Rd w B A l) (cs : List Value) (t : TypeId) (hg : Blk w g t cs) (hfit : dLen ≤ cs.length) :
    (Builtin.copy_ #[dT, sT] ty #[.slice (some ⟨g, 0, none⟩) dLen dCap, .slice A l.length sCap]).run P w = .ok (goInt ((min l.length dLen : Nat) : Int)) (w.setRow g (u8s (l.take dLen) ++ cs.drop (min l.length dLen)).toArray) := by
  rcases hr with rfl | ⟨b, o, rfl, _, hc⟩
  · rw [run_copy_none w dT sT ty e _ _ _ _ _ _ hu hs (by simp)]
    have := setRow_self w g cs.toArray t (0, 0) hg
    simp only [List.length_nil, u8s, List.map_nil, List.drop_zero, List.nil_append, List.take_nil, Nat.zero_min]
    rw [this]
    rfl
  · have hlen : (u8s (l.take dLen)).length = min l.length dLen := by rw [u8s_len, List.length_take, Nat.min_comm]
    have h := run_copy_row (P := P) w dT sT ty e g 0 dLen dCap ⟨b, o, none⟩ l.length sCap cs.toArray t (u8s (l.take dLen)) hu hs hg hlen ?_ (by rw [hlen]; simp; omega) (u8s_one _)
    · rw [h, hlen]
      simp
    · intro j v hj
      rw [u8s_get] at hj
      cases hq : (l.take dLen)[j]? with
      | none => simp [hq] at hj
      | some c =>
        rw [hq] at hj
        simp at hj
        subst hj
        have : (⟨b, o, none⟩ : Addr).add j = ⟨b, o + j, none⟩ := Addr.add_lit _ _ _
        rw [this]
        refine hc j c ?_
        rw [List.getElem?_take] at hq
        split at hq
        · exact hq
        · cases hq
end Go.Gar
namespace Go.Proofs.YtbcagjndbfpecaaDoor
open Go.ChangeShapes Go.WideShapes Go.ChangeAt Go.RowKit Go.Gar Go.Gar.Aes

theorem Tryd.und16 : Tryd.prog.underlying 56 = some (.array 16 5) := by kernel_rfl
theorem Tryd.size16 : (Tryd.prog.info? 56).map (·.size) = some 16 := by kernel_rfl
theorem Tryd.plain5 : Tryd.prog.plainKey 5 = true := by kernel_rfl
theorem Tryd.cells5 : Tryd.prog.cellsOf 5 = 1 := by kernel_rfl
theorem Tryd.cells16 : Tryd.prog.cellsOf 56 = 16 := by kernel_rfl
theorem Tryd.guard16 : Tryd.prog.eqGuardType Tryd.prog.depth 56 = false := by kernel_rfl

structure AesOK (Rep : World → Nat → List UInt8 → Prop) : Prop where
  stay : ∀ {w w' : World} {gc : Nat} {key : List UInt8}, Rep w gc key → Below w.heap.size w w' → Rep w' gc key
  new_yes : ∀ (w : World) (A : Option Addr) (key : List UInt8) (len cap : Nat), sizeOk key.length → len = key.length → key.length ≤ cap → Rd w w.heap.size A key →
    Calls Tryd.prog 12 #[.slice A len cap] w fun e w' => ∃ gc, e = .returned (.tuple #[.pointer (some ⟨gc, 0, none⟩), .int .i64 0]) ∧ Rep w' gc key ∧ Below w.heap.size w w'
  new_no : ∀ (w : World) (A : Option Addr) (len cap : Nat), ¬ sizeOk len →
    Calls Tryd.prog 12 #[.slice A len cap] w fun e w' => e = .returned (.tuple #[.pointer none, .int .i64 1]) ∧ Below w.heap.size w w'
  enc : ∀ (w : World) (gc : Nat) (key l : List UInt8), sizeOk key.length → Rep w gc key → l.length = 16 →
    Calls Tryd.prog 25 #[.pointer (some ⟨gc, 0, none⟩), .agg (u8s l).toArray] w fun e w' => e = .returned (.agg (u8s (encrypt key l)).toArray) ∧ Below w.heap.size w w'
  dec : ∀ (w : World) (gc : Nat) (key l : List UInt8), sizeOk key.length → Rep w gc key → l.length = 16 →
    Calls Tryd.prog 32 #[.pointer (some ⟨gc, 0, none⟩), .agg (u8s l).toArray] w fun e w' => e = .returned (.agg (u8s (decrypt key l)).toArray) ∧ Below w.heap.size w w'
  enc_nil : ∀ (w : World) (l : List UInt8), l.length = 16 →
    Calls Tryd.prog 25 #[.pointer none, .agg (u8s l).toArray] w fun e w' => e = .returned (.agg (u8s l).toArray) ∧ Below w.heap.size w w'
  dec_nil : ∀ (w : World) (l : List UInt8), l.length = 16 →
    Calls Tryd.prog 32 #[.pointer none, .agg (u8s l).toArray] w fun e w' => e = .returned (.agg (u8s l).toArray) ∧ Below w.heap.size w w'

/-- A key made of any bytes: cut or filled up with zeros. -/
def fit (key : List UInt8) (n : Nat) : List UInt8 := key.take n ++ List.replicate (n - key.length) 0
theorem fit_len (key : List UInt8) (n : Nat) : (fit key n).length = n := by simp [fit]; omega

theorem run_eq16 (a b : List UInt8) (ha : a.length = 16) (hb : b.length = 16) (w : World) : (Op.equalIn 10000 56 (.agg (u8s a).toArray) (.agg (u8s b).toArray)).run Tryd.prog w = .ok (decide (a = b)) w :=
  run_equalIn_u8s Tryd.und16 Tryd.plain5 Tryd.und5 Tryd.cells5 9998 a b ha hb
theorem size16 (l : List UInt8) (h : l.length = 16) : (Tryd.prog.info? 56).map (·.size) = some (u8s l).length := by rw [u8s_len, h]; exact Tryd.size16
theorem fit_ok (key : List UInt8) (n : Nat) : sizeOk (fit key (16 + 8 * (n % 3))).length := by
  rw [fit_len]; unfold sizeOk; omega

section
variable {Rep : World → Nat → List UInt8 → Prop}
theorem AesOK.enc_at (h : AesOK Rep) (w : World) (gc : Nat) (key l : List UInt8) (x : Array Value) (hx : x = (u8s l).toArray) (hk : sizeOk key.length) (hr : Rep w gc key) (hl : l.length = 16) :
    Calls Tryd.prog 25 #[.pointer (some ⟨gc, 0, none⟩), .agg x] w fun e w' => ∃ y, e = .returned (.agg y) ∧ y = (u8s (encrypt key l)).toArray ∧ Below w.heap.size w w' := by
  subst hx
  exact (h.enc w gc key l hk hr hl).mono fun e w' he => ⟨_, he.1, rfl, he.2⟩
theorem AesOK.dec_at (h : AesOK Rep) (w : World) (gc : Nat) (key l : List UInt8) (x : Array Value) (hx : x = (u8s l).toArray) (hk : sizeOk key.length) (hr : Rep w gc key) (hl : l.length = 16) :
    Calls Tryd.prog 32 #[.pointer (some ⟨gc, 0, none⟩), .agg x] w fun e w' => ∃ y, e = .returned (.agg y) ∧ y = (u8s (decrypt key l)).toArray ∧ Below w.heap.size w w' := by
  subst hx
  exact (h.dec w gc key l hk hr hl).mono fun e w' he => ⟨_, he.1, rfl, he.2⟩
theorem AesOK.enc_nil_at (h : AesOK Rep) (w : World) (l : List UInt8) (x : Array Value) (hx : x = (u8s l).toArray) (hl : l.length = 16) :
    Calls Tryd.prog 25 #[.pointer none, .agg x] w fun e w' => e = .returned (.agg x) ∧ Below w.heap.size w w' := by
  subst hx
  exact h.enc_nil w l hl
theorem AesOK.dec_nil_at (h : AesOK Rep) (w : World) (l : List UInt8) (x : Array Value) (hx : x = (u8s l).toArray) (hl : l.length = 16) :
    Calls Tryd.prog 32 #[.pointer none, .agg x] w fun e w' => e = .returned (.agg x) ∧ Below w.heap.size w w' := by
  subst hx
  exact h.dec_nil w l hl
end
theorem eq16_at (a b : List UInt8) (x y : Array Value) (hx : x = (u8s a).toArray) (hy : y = (u8s b).toArray) (ha : a.length = 16) (hb : b.length = 16) (r : Bool) (hr : decide (a = b) = r) (w : World) : (Op.equalIn 10000 56 (.agg x) (.agg y)).run Tryd.prog w = .ok r w := by
  subst hx; subst hy; subst hr
  exact run_eq16 a b ha hb w
theorem load16 {w : World} {g : Nat} (l : List UInt8) (x : Array Value) (hx : x = (u8s l).toArray) (hl : l.length = 16) (h : Blk w g 56 x.toList) :
    ∀ W : Later grows w, (Instr.loadAt 56 (.pointer (some ⟨g, 0, none⟩))).run Tryd.prog W.to = .ok (.agg x) W.to := by
  intro W
  have := load_arr_later (P := Tryd.prog) Tryd.und16 (by rw [hx, List.toList_toArray]; exact size16 l hl) h W
  rw [Array.toArray_toList] at this
  exact this

end Go.Proofs.YtbcagjndbfpecaaDoor
