/-
  An argument of the keys' type: 64 bytes.
-/
import Derived.Test.YtpaagjhohfjopaaDoorDrawC
import Derived.Test.YtpaagjhohfjopaaDoorLaw
import Derived.Test.YtpaagjhohfjopaaDoorOwn
set_option maxRecDepth 100000
namespace Go.Proofs.YtpaagjhohfjopaaDoor
open Go.ChangeShapes Go.WideShapes Go.ChangeAt Go.WideMaps Go.WideElems Go.RowKit Go.Gar

/-- The cells of an array of bytes. -/
theorem trod_u8s {H : Type} {enc : TypeId × Value → H} {P : Program} {W : World} {t e : TypeId} {n f : Nat} {cs : List Value} {x : DataW H × List MemPlace} (ht : P.underlying t = some (.array n e)) (he : P.underlying e = some (.int .u8)) (hce : P.cellsOf e = 1)
    (h : DataW.trod enc P W 0 (fun _ => true) true f t cs = some x) (hl : cs.length = n) : ∀ i, i < n → ∃ z : UInt8, cs[i]? = some (.int .u8 (z.toNat : Int)) := by
  obtain ⟨xs, m, _, _, _, hx, hall⟩ := DataW.trod_array ht h
  intro i hi
  have h3 := hall i hi
  rw [hce, Nat.mul_one, List.getElem?_eq_getElem (by omega)] at h3
  obtain ⟨q, hq, _, hw⟩ := DataW.trod_int he h3
  have hb := bounds_u8 hw
  have h5 : cs[i]? = some (.int .u8 q) := by
    have h6 : ((cs.drop i).take 1)[0]? = some (.int .u8 q) := by rw [hq]; rfl
    simpa using h6
  refine ⟨UInt8.ofNat q.toNat, ?_⟩
  rw [h5]
  congr 2
  simp
  omega
theorem Tryd.cellsKeys : Tryd.prog.cellsOf 34 = 64 := by kernel_rfl
theorem Tryd.cellsK32 : Tryd.prog.cellsOf 32 = 32 := by kernel_rfl
theorem Tryd.cellsK1 : Tryd.prog.cellsOf 5 = 1 := by kernel_rfl
theorem Tryd.undK1 : Tryd.prog.underlying 5 = some (.int .u8) := by kernel_rfl
theorem open_keys {H : Type} {enc : TypeId × Value → H} {W : World} {base : Nat} {v : Value} {d : DataW H} {p : List MemPlace}
    (hok : Value.okWide Tryd.prog W .any base 34 v) (h : DataW.Trod enc Tryd.prog W 0 (fun _ => true) true 34 v d p) : ∃ l : List UInt8, l.length = 64 ∧ v = .agg (u8s l).toArray := by
  obtain ⟨cs, rfl, h2⟩ := okWide_struct Tryd.undKeysS hok
  rw [Tryd.cellsKeys] at h2
  obtain ⟨fuel, hf⟩ := h
  obtain ⟨xs, m, _, _, hl, hlen, hall⟩ := DataW.trod_struct Tryd.undKeysS hf
  have hcs : (Value.agg cs).cells.toList = cs.toList := rfl
  rw [hcs] at hall
  have fk := Tryd.fieldsKeys
  generalize hfs : (Tryd.prog.fieldsOf 34).toList = fs at fk
  match fs, fk with
  | [f0, f1], fk =>
    simp only [List.map_cons, List.map_nil, List.cons.injEq, Prod.mk.injEq, and_true] at fk
    obtain ⟨⟨_, ht0, ho0⟩, ⟨_, ht1, ho1⟩⟩ := fk
    have g0 : (Tryd.prog.fieldsOf 34)[0]? = some f0 := by rw [← Array.getElem?_toList, hfs]; rfl
    have g1 : (Tryd.prog.fieldsOf 34)[1]? = some f1 := by rw [← Array.getElem?_toList, hfs]; rfl
    have h0 := hall 0 f0 g0
    have h1 := hall 1 f1 g1
    rw [ht0, ho0, Tryd.cellsK32] at h0
    rw [ht1, ho1, Tryd.cellsK32] at h1
    have hxs : xs.length = 2 := by rw [hlen, ← Array.length_toList, hfs]; rfl
    rw [List.getElem?_eq_getElem (show 0 < xs.length by omega)] at h0
    rw [List.getElem?_eq_getElem (show 1 < xs.length by omega)] at h1
    have k0 := trod_u8s Tryd.und32 Tryd.undK1 Tryd.cellsK1 h0 (by simp [h2])
    have k1 := trod_u8s Tryd.und32 Tryd.undK1 Tryd.cellsK1 h1 (by simp [h2])
    have key : ∀ i, i < 64 → ∃ z : UInt8, cs.toList[i]? = some (.int .u8 (z.toNat : Int)) := by
      intro i hi
      by_cases hi2 : i < 32
      · obtain ⟨z, hz⟩ := k0 i hi2
        refine ⟨z, ?_⟩
        rw [List.getElem?_take, if_pos hi2, List.drop_zero] at hz
        exact hz
      · obtain ⟨z, hz⟩ := k1 (i - 32) (by omega)
        refine ⟨z, ?_⟩
        rw [List.getElem?_take, if_pos (by omega), List.getElem?_drop, show 32 + (i - 32) = i by omega] at hz
        exact hz
    refine ⟨cs.toList.map (fun u => match u with | .int _ z => UInt8.ofNat z.toNat | _ => 0), by simp [h2], ?_⟩
    congr 1
    apply Array.ext'
    apply List.ext_getElem?
    intro i
    by_cases hi : i < 64
    · obtain ⟨z, hz⟩ := key i hi
      rw [hz, u8s_get, List.getElem?_map, hz]
      simp
    · rw [List.getElem?_eq_none (by simp [h2]; omega), List.getElem?_eq_none (by simp [u8s_len, h2]; omega)]
end Go.Proofs.YtpaagjhohfjopaaDoor
