/-
  Layer 10: sealed bytes; what is asked of seal's functions (a contract, over whatever the packages' own variables may be). An argument of the keys' type: 64 bytes. The reach of an argument that is a []byte: its room has at most 2^47 - 4096 bytes (the form's own condition). Of no program. The package-level table of the landed sha: what it holds when the call begins. The reference's product, powers and tables of GF(256): contracts.
-/
import Derived.Test.YtjhkodmaalefiaaDoorSealJ09
import Derived.Test.YtjhkodmaalefiaaDoorSealJ03
import Derived.Test.YtjhkodmaalefiaaDoorSealJ08
import Derived.Test.YtjhkodmaalefiaaDoorSealJ07
import Derived.Test.YtjhkodmaalefiaaDoorCards
import Derived.Test.YtjhkodmaalefiaaDoorTie
import Derived.LaidMore
import Derived.Stop.Joined
import Derived.OpenShut
import Derived.ProofKit
import Derived.SevenTiedAt
set_option maxRecDepth 100000
namespace Go.Proofs.YtjhkodmaalefiaaDoor
open Go.RowKit Go.Gar Go.Gar.Aes

/-! Numbers as bytes say themselves again. -/
theorem be_snoc (n k : Nat) : be n (k + 1) = be (n / 256) k ++ [UInt8.ofNat n] := by
  unfold be
  rw [List.range_succ, List.map_append]
  congr 1
  · apply List.map_congr_left
    intro i hi
    have hi := List.mem_range.1 hi
    have e : (256 : Nat) = 2 ^ 8 := by decide
    rw [e, Nat.div_div_eq_div_mul, ← Nat.pow_add]
    congr 3
    omega
  · simp
theorem be_inj (k : Nat) : ∀ n m : Nat, be n k = be m k → n % 256 ^ k = m % 256 ^ k := by
  induction k with
  | zero => intro n m _; simp [Nat.mod_one]
  | succ k ih =>
    intro n m h
    rw [be_snoc, be_snoc] at h
    obtain ⟨h1, h2⟩ := List.append_inj' h rfl
    have h3 := ih _ _ h1
    have h4 : n % 256 = m % 256 := by
      have h5 : UInt8.ofNat n = UInt8.ofNat m := by simpa using h2
      have := congrArg UInt8.toNat h5
      simpa using this
    rw [Nat.pow_succ, Nat.mul_comm (256 ^ k) 256, Nat.mod_mul, Nat.mod_mul, h3, h4]
theorem be8_inj {n m : Nat} (hn : n < 18446744073709551616) (hm : m < 18446744073709551616) (h : be n 8 = be m 8) : n = m := by
  have h1 := be_inj 8 n m h
  rw [show (256 : Nat) ^ 8 = 18446744073709551616 from by decide, Nat.mod_eq_of_lt hn, Nat.mod_eq_of_lt hm] at h1
  exact h1
theorem b64_inj {n m : Int} (hn : isI64 n) (hm : isI64 m) (h : be (b64 n) 8 = be (b64 m) 8) : n = m := by
  have h1 : b64 n = b64 m := be8_inj (by unfold b64; omega) (by unfold b64; omega) h
  unfold b64 at h1
  unfold isI64 at hn hm
  omega

/-! Sealed bytes: a header of 24 bytes, the chain's beginning, the content, the tag. -/
def headL (id gen : Int) (n : Nat) : List UInt8 := be (b64 id) 8 ++ (be (b64 gen) 8 ++ be n 8)
theorem headL_len (id gen : Int) (n : Nat) : (headL id gen n).length = 24 := by simp only [headL, List.length_append, be_len]
def bodyX (iv : List UInt8) (id gen : Int) (x : List UInt8) : List UInt8 := headL id gen x.length ++ (iv ++ x)
theorem bodyX_len (iv : List UInt8) (id gen : Int) (x : List UInt8) (hiv : iv.length = 16) : (bodyX iv id gen x).length = 40 + x.length := by
  simp only [bodyX, List.length_append, headL_len, hiv]; omega
def bodyL (k iv : List UInt8) (id gen : Int) (b : List UInt8) : List UInt8 := bodyX iv id gen (Cbc.seal_ (k.take 32) iv b)
def sealS (k iv : List UInt8) (id gen : Int) (b : List UInt8) : List UInt8 := bodyL k iv id gen b ++ Mac.of (k.drop 32) (bodyL k iv id gen b)
theorem bodyL_len (k iv : List UInt8) (id gen : Int) (b : List UInt8) (hiv : iv.length = 16) : (bodyL k iv id gen b).length = 56 + b.length / 16 * 16 := by
  rw [bodyL, bodyX_len _ _ _ _ hiv, Cbc.seal_len]; omega
theorem sealS_len (k iv : List UInt8) (id gen : Int) (b : List UInt8) (hiv : iv.length = 16) : (sealS k iv id gen b).length = 88 + b.length / 16 * 16 := by
  rw [sealS, List.length_append, bodyL_len _ _ _ _ _ hiv, Mac.of_len]; omega
/-- The parts of what may be sealed bytes. -/
def ivP (s : List UInt8) : List UInt8 := (s.drop 24).take 16
def conP (s : List UInt8) : List UInt8 := (s.drop 40).take (s.length - 72)
def openS (k : List UInt8) (id gen : Int) (s : List UInt8) : Option (List UInt8) :=
  if s.length < 88 then none else match Cbc.open_ (k.take 32) (ivP s) (conP s) with
    | none => none
    | some x => if sealS k (ivP s) id gen x = s then some x else none
def openSB (k : List UInt8) (id gen : Int) (s : List UInt8) : List UInt8 := (openS k id gen s).getD []
def openSE (k : List UInt8) (id gen : Int) (s : List UInt8) : Nat := if (openS k id gen s).isSome then 0 else 12
/-- Any bytes so put together, in their parts. -/
theorem body_parts (iv : List UInt8) (id gen : Int) (x t : List UInt8) (hiv : iv.length = 16) (ht : t.length = 32) :
    ivP (bodyX iv id gen x ++ t) = iv ∧ conP (bodyX iv id gen x ++ t) = x ∧ (bodyX iv id gen x ++ t).take ((bodyX iv id gen x ++ t).length - 32) = bodyX iv id gen x ∧ (bodyX iv id gen x ++ t).drop ((bodyX iv id gen x ++ t).length - 32) = t ∧ (bodyX iv id gen x ++ t).take 24 = headL id gen x.length := by
  have hl : (bodyX iv id gen x ++ t).length = 72 + x.length := by rw [List.length_append, bodyX_len _ _ _ _ hiv, ht]; omega
  have hb := bodyX_len iv id gen x hiv
  have hh := headL_len id gen x.length
  have e1 : bodyX iv id gen x ++ t = headL id gen x.length ++ (iv ++ (x ++ t)) := by simp only [bodyX, List.append_assoc]
  have e2 : bodyX iv id gen x ++ t = (headL id gen x.length ++ iv) ++ (x ++ t) := by rw [e1, List.append_assoc]
  refine ⟨?_, ?_, ?_, ?_, ?_⟩
  · rw [ivP, e1, List.drop_left' hh, List.take_left' hiv]
  · rw [conP, hl, e2, List.drop_left' (by rw [List.length_append, hh, hiv]), List.take_left' (by omega)]
  · rw [hl]; exact List.take_left' (by rw [hb]; omega)
  · rw [hl]; exact List.drop_left' (by rw [hb]; omega)
  · rw [e1]; exact List.take_left' hh
theorem openS_seal (k iv : List UInt8) (id gen : Int) (b : List UInt8) (hiv : iv.length = 16) : openS k id gen (sealS k iv id gen b) = some b := by
  have hl := sealS_len k iv id gen b hiv
  obtain ⟨p1, p2, _⟩ := body_parts iv id gen (Cbc.seal_ (k.take 32) iv b) (Mac.of (k.drop 32) (bodyL k iv id gen b)) hiv (Mac.of_len _ _)
  have e : bodyX iv id gen (Cbc.seal_ (k.take 32) iv b) ++ Mac.of (k.drop 32) (bodyL k iv id gen b) = sealS k iv id gen b := rfl
  rw [e] at p1 p2
  unfold openS
  rw [if_neg (by omega), p1, p2, Cbc.open_seal]
  simp
/-- What opens is sealed so. -/
theorem openS_some {k : List UInt8} {id gen : Int} {s y : List UInt8} (h : openS k id gen s = some y) : 88 ≤ s.length ∧ Cbc.open_ (k.take 32) (ivP s) (conP s) = some y ∧ sealS k (ivP s) id gen y = s := by
  unfold openS at h
  split at h
  · cases h
  · split at h
    · cases h
    · rename_i x hx
      split at h
      · rename_i he
        obtain rfl := Option.some.inj h
        exact ⟨by omega, hx, he⟩
      · cases h
theorem ivP_len {s : List UInt8} (h : 88 ≤ s.length) : (ivP s).length = 16 := by rw [ivP, List.length_take, List.length_drop]; omega
theorem conP_len {s : List UInt8} (h : 88 ≤ s.length) : (conP s).length = s.length - 72 := by rw [conP, List.length_take, List.length_drop]; omega
/-- The four checks of Open. -/
theorem openS_iff (k : List UInt8) (id gen : Int) (s y : List UInt8) : openS k id gen s = some y ↔ 88 ≤ s.length ∧ Mac.of (k.drop 32) (s.take (s.length - 32)) = s.drop (s.length - 32) ∧ s.take 24 = headL id gen (s.length - 72) ∧ Cbc.open_ (k.take 32) (ivP s) (conP s) = some y := by
  constructor
  · intro h
    obtain ⟨h1, h2, h3⟩ := openS_some h
    have hiv := ivP_len h1
    obtain ⟨_, p2, p3, p4, p5⟩ := body_parts (ivP s) id gen (Cbc.seal_ (k.take 32) (ivP s) y) (Mac.of (k.drop 32) (bodyL k (ivP s) id gen y)) hiv (Mac.of_len _ _)
    have e : bodyX (ivP s) id gen (Cbc.seal_ (k.take 32) (ivP s) y) ++ Mac.of (k.drop 32) (bodyL k (ivP s) id gen y) = s := h3
    rw [e] at p2 p3 p4 p5
    refine ⟨h1, by rw [p3, p4]; rfl, ?_, h2⟩
    rw [p5, ← p2, conP_len h1]
  · rintro ⟨h1, h2, h3, h4⟩
    have hiv := ivP_len h1
    have hcl := conP_len h1
    have hs : Cbc.seal_ (k.take 32) (ivP s) y = conP s := Cbc.seal_open _ _ _ _ hiv h4
    have hbody : bodyL k (ivP s) id gen y = s.take (s.length - 32) := by
      rw [bodyL, hs, bodyX, hcl, ← h3]
      have e1 : s.take (s.length - 32) = s.take 24 ++ (ivP s ++ conP s) := by
        have a1 : s.take (s.length - 32) = (s.take (s.length - 32)).take 24 ++ (s.take (s.length - 32)).drop 24 := (List.take_append_drop _ _).symm
        have a2 : (s.take (s.length - 32)).drop 24 = ((s.take (s.length - 32)).drop 24).take 16 ++ ((s.take (s.length - 32)).drop 24).drop 16 := (List.take_append_drop _ _).symm
        rw [List.take_take, Nat.min_eq_left (by omega)] at a1
        rw [a1, a2]
        congr 2
        · rw [ivP, List.drop_take, List.take_take, Nat.min_eq_left (by omega)]
        · rw [conP, List.drop_drop, List.drop_take]
          congr 1
      exact e1.symm
    have hseal : sealS k (ivP s) id gen y = s := by
      rw [sealS, hbody, h2, List.take_append_drop]
    unfold openS
    rw [if_neg (by omega), h4]
    simp [hseal]
theorem openS_tag {k : List UInt8} {id gen : Int} {s y : List UInt8} (h : openS k id gen s = some y) : 88 ≤ s.length ∧ Mac.of (k.drop 32) (s.take (s.length - 32)) = s.drop (s.length - 32) :=
  have h1 := (openS_iff k id gen s y).1 h
  ⟨h1.1, h1.2.1⟩
theorem openS_other {k iv : List UInt8} {id gen id2 gen2 : Int} {b y : List UInt8} (hiv : iv.length = 16) (h1 : isI64 id) (h2 : isI64 gen) (h3 : isI64 id2) (h4 : isI64 gen2) (h : openS k id2 gen2 (sealS k iv id gen b) = some y) : id2 = id ∧ gen2 = gen := by
  obtain ⟨_, _, hh, _⟩ := (openS_iff _ _ _ _ _).1 h
  obtain ⟨_, _, _, _, p5⟩ := body_parts iv id gen (Cbc.seal_ (k.take 32) iv b) (Mac.of (k.drop 32) (bodyL k iv id gen b)) hiv (Mac.of_len _ _)
  have e : bodyX iv id gen (Cbc.seal_ (k.take 32) iv b) ++ Mac.of (k.drop 32) (bodyL k iv id gen b) = sealS k iv id gen b := rfl
  rw [e, hh] at p5
  unfold headL at p5
  obtain ⟨q1, q2⟩ := List.append_inj p5 (by rw [be_len, be_len])
  obtain ⟨q3, _⟩ := List.append_inj q2 (by rw [be_len, be_len])
  exact ⟨b64_inj h3 h1 q1, b64_inj h4 h2 q3⟩

def sizeN (n : Int) : Int := if 0 ≤ n ∧ n ≤ 1048576 then 88 + n / 16 * 16 else 0
def tagB (k s : List UInt8) : List UInt8 := if s.length < 32 then List.replicate 32 0 else Mac.of (k.drop 32) (s.take (s.length - 32))
theorem tagB_len (k s : List UInt8) : (tagB k s).length = 32 := by
  unfold tagB
  split
  · rfl
  · exact Mac.of_len _ _
structure SealOK (G : World → Prop) : Prop where
  keep : ∀ {w w' : World}, G w → Below w.heap.size w w' → G w'
  size : ∀ (w : World) (n : Int), isI64 n → Calls Tryd.prog 12 #[.int .i64 n] w fun e w' => e = .returned (.int .i64 (sizeN n)) ∧ Below w.heap.size w w'
  seal_ : ∀ (w : World) (k iv b : List UInt8) (id gen : Int) (A : Option Addr) (c : Nat), G w → k.length = 64 → iv.length = 16 → isI64 id → isI64 gen → Rd w w.heap.size A b → b.length ≤ c → b.length ≤ 900000 →
    Calls Tryd.prog 7 #[.agg (u8s k).toArray, .agg (u8s iv).toArray, .int .i64 id, .int .i64 gen, .slice A b.length c] w fun e w' => ∃ v, e = .returned (.tuple #[v, .int .i64 0]) ∧ Out w' v (sealS k iv id gen b) ∧ Below w.heap.size w w'
  open_ : ∀ (w : World) (k s : List UInt8) (id gen : Int) (A : Option Addr) (c : Nat), G w → k.length = 64 → isI64 id → isI64 gen → Rd w w.heap.size A s → s.length ≤ c → s.length ≤ 900000 →
    Calls Tryd.prog 13 #[.agg (u8s k).toArray, .int .i64 id, .int .i64 gen, .slice A s.length c] w fun e w' => ∃ v, e = .returned (.tuple #[v, .int .i64 ((openSE k id gen s : Nat) : Int)]) ∧ Out w' v (openSB k id gen s) ∧ Below w.heap.size w w'
  tag : ∀ (w : World) (k s : List UInt8) (A : Option Addr) (c : Nat), G w → k.length = 64 → Rd w w.heap.size A s → s.length ≤ c → s.length ≤ 900000 →
    Calls Tryd.prog 15 #[.agg (u8s k).toArray, .slice A s.length c] w fun e w' => e = .returned (.tuple #[.agg (u8s (tagB k s)).toArray, .bool (decide (32 ≤ s.length))]) ∧ Below w.heap.size w w'
end Go.Proofs.YtjhkodmaalefiaaDoor
namespace Go.Proofs.YtjhkodmaalefiaaDoor
open Go.ChangeShapes Go.WideShapes Go.ChangeAt Go.WideMaps Go.WideElems Go.RowKit Go.Gar

/-- The cells of an array of bytes. -/
theorem trod_u8s {H : Type} {enc : TypeId × Value → H} {P : Program} {W : World} {t e : TypeId} {n f : Nat} {cs : List Value} {x : DataW H × List MemPlace} (ht : P.underlying t = some (.array n e)) (he : P.underlying e = some (.int .u8)) (hce : P.cellsOf e = 1)
    (h : DataW.trod enc P W 0 (fun _ => true) true f t cs = some x) (hl : cs.length = n) : ∀ i, i < n → ∃ z : UInt8, cs[i]? = some (.int .u8 (z.toNat : Int)) := by
  obtain ⟨xs, m, _, _, _, hx, hall⟩ := DataW.trod_array ht h
  intro i hi
  have h3 := hall i hi
  rw [hce, Nat.mul_one, List.getElem?_eq_getElem (by omega)] at h3
  obtain ⟨q, hq, _, hw⟩ := DataW.trod_int he h3
  have hb := bounds_u8 hw
  have h5 : cs[i]? = some (.int .u8 q) := by
    have h6 : ((cs.drop i).take 1)[0]? = some (.int .u8 q) := by rw [hq]; rfl
    simpa using h6
  refine ⟨UInt8.ofNat q.toNat, ?_⟩
  rw [h5]
  congr 2
  simp
  omega
theorem Tryd.cellsKeys : Tryd.prog.cellsOf 24 = 64 := by kernel_rfl
theorem Tryd.cellsK32 : Tryd.prog.cellsOf 22 = 32 := by kernel_rfl
theorem Tryd.cellsK1 : Tryd.prog.cellsOf 5 = 1 := by kernel_rfl
theorem Tryd.undK1 : Tryd.prog.underlying 5 = some (.int .u8) := by kernel_rfl
theorem open_keys {H : Type} {enc : TypeId × Value → H} {W : World} {base : Nat} {v : Value} {d : DataW H} {p : List MemPlace}
    (hok : Value.okWide Tryd.prog W .any base 24 v) (h : DataW.Trod enc Tryd.prog W 0 (fun _ => true) true 24 v d p) : ∃ l : List UInt8, l.length = 64 ∧ v = .agg (u8s l).toArray := by
  obtain ⟨cs, rfl, h2⟩ := okWide_struct Tryd.undKeysS hok
  rw [Tryd.cellsKeys] at h2
  obtain ⟨fuel, hf⟩ := h
  obtain ⟨xs, m, _, _, hl, hlen, hall⟩ := DataW.trod_struct Tryd.undKeysS hf
  have hcs : (Value.agg cs).cells.toList = cs.toList := rfl
  rw [hcs] at hall
  have fk := Tryd.fieldsKeys
  generalize hfs : (Tryd.prog.fieldsOf 24).toList = fs at fk
  match fs, fk with
  | [f0, f1], fk =>
    simp only [List.map_cons, List.map_nil, List.cons.injEq, Prod.mk.injEq, and_true] at fk
    obtain ⟨⟨_, ht0, ho0⟩, ⟨_, ht1, ho1⟩⟩ := fk
    have g0 : (Tryd.prog.fieldsOf 24)[0]? = some f0 := by rw [← Array.getElem?_toList, hfs]; rfl
    have g1 : (Tryd.prog.fieldsOf 24)[1]? = some f1 := by rw [← Array.getElem?_toList, hfs]; rfl
    have h0 := hall 0 f0 g0
    have h1 := hall 1 f1 g1
    rw [ht0, ho0, Tryd.cellsK32] at h0
    rw [ht1, ho1, Tryd.cellsK32] at h1
    have hxs : xs.length = 2 := by rw [hlen, ← Array.length_toList, hfs]; rfl
    rw [List.getElem?_eq_getElem (show 0 < xs.length by omega)] at h0
    rw [List.getElem?_eq_getElem (show 1 < xs.length by omega)] at h1
    have k0 := trod_u8s Tryd.und32 Tryd.undK1 Tryd.cellsK1 h0 (by simp [h2])
    have k1 := trod_u8s Tryd.und32 Tryd.undK1 Tryd.cellsK1 h1 (by simp [h2])
    have key : ∀ i, i < 64 → ∃ z : UInt8, cs.toList[i]? = some (.int .u8 (z.toNat : Int)) := by
      intro i hi
      by_cases hi2 : i < 32
      · obtain ⟨z, hz⟩ := k0 i hi2
        refine ⟨z, ?_⟩
        rw [List.getElem?_take, if_pos hi2, List.drop_zero] at hz
        exact hz
      · obtain ⟨z, hz⟩ := k1 (i - 32) (by omega)
        refine ⟨z, ?_⟩
        rw [List.getElem?_take, if_pos (by omega), List.getElem?_drop, show 32 + (i - 32) = i by omega] at hz
        exact hz
    refine ⟨cs.toList.map (fun u => match u with | .int _ z => UInt8.ofNat z.toNat | _ => 0), by simp [h2], ?_⟩
    congr 1
    apply Array.ext'
    apply List.ext_getElem?
    intro i
    by_cases hi : i < 64
    · obtain ⟨z, hz⟩ := key i hi
      rw [hz, u8s_get, List.getElem?_map, hz]
      simp
    · rw [List.getElem?_eq_none (by simp [h2]; omega), List.getElem?_eq_none (by simp [u8s_len, h2]; omega)]
end Go.Proofs.YtjhkodmaalefiaaDoor
namespace Go.Gar
open Go.ChangeShapes Go.WideShapes Go.ChangeAt Go.RowKit

theorem weights_at {H : Type} {P : Program} : ∀ (ts : List TypeId) (ds : List (DataW H)), (DataW.weightsEach P ts ds).all (· ≤ reachBytes) = true → ∀ (j : Nat) (t : TypeId) (d : DataW H), ts[j]? = some t → ds[j]? = some d → (d.weights P t).all (· ≤ reachBytes) = true
  | [], _, _, j, t, d, h, _ => by simp at h
  | _ :: _, [], _, j, t, d, _, h => by simp at h
  | t0 :: ts, d0 :: ds, h, 0, t, d, h1, h2 => by
    simp only [List.getElem?_cons_zero, Option.some.injEq] at h1 h2
    subst h1; subst h2
    rw [DataW.weightsEach, List.all_append, Bool.and_eq_true] at h
    exact h.1
  | t0 :: ts, d0 :: ds, h, j + 1, t, d, h1, h2 => by
    rw [DataW.weightsEach, List.all_append, Bool.and_eq_true] at h
    exact weights_at ts ds h.2 j t d (by simpa using h1) (by simpa using h2)
theorem bytes_reach {H : Type} {enc : TypeId × Value → H} {P : Program} {t e : TypeId} (ht : P.underlying t = some (.slice e)) (he : P.underlying e = some (.int .u8)) (hce : P.cellsOf e = 1) (hbe : P.bytesOf e = 1) {W : World} {A : Option Addr} {n cap : Nat} {d : DataW H} {p : List MemPlace}
    (h : DataW.Trod enc P W 0 (fun _ => true) true t (.slice A n cap) d p) (hw : (d.weights P t).all (· ≤ reachBytes) = true) : cap ≤ 140737488351232 := by
  obtain ⟨fuel, hf⟩ := h
  rcases open_ints ht he hce hf with ⟨hcs, _⟩ | ⟨x, l, c, zs, hcs, _, hl, hm, hz, hx, _⟩
  · simp [Value.cells] at hcs
    omega
  · simp [Value.cells] at hcs
    obtain ⟨rfl, rfl, rfl⟩ := hcs
    simp only [if_true] at hz
    simp only [Prod.mk.injEq] at hx
    obtain ⟨rfl, -⟩ := hx
    unfold DataW.weights at hw
    rw [ht] at hw
    simp only [List.all_cons, Bool.and_eq_true, decide_eq_true_eq, hbe, Nat.mul_one] at hw
    have h1 := hw.1
    have h2 : (lits (H := H) .u8 (zs.take n)).length + (lits (H := H) .u8 (zs.drop n)).length = cap := by
      simp [lits]; omega
    unfold reachBytes at h1
    omega
end Go.Gar
namespace Go.Proofs.YtjhkodmaalefiaaDoor
open Go.ChangeShapes Go.WideShapes Go.ChangeAt Go.WideMaps Go.WideElems Go.RowKit Go.Gar

/-- A listed table of 32-bit numbers: its cells. -/
theorem laid_u32 {P : Program} {W : World} {t e : TypeId} {n f : Nat} {cs : List Value} {l : List Nat} {p : List MemPlace} (ht : P.underlying t = some (.array n e)) (he : P.underlying e = some (.int .u32)) (hce : P.cellsOf e = 1)
    (h : DataW.trod (fun _ => ()) P W 0 (fun _ => true) false f t cs = some (.agg (l.map fun z : Nat => .lit (.int .u32 (z : Int))), p)) : ∀ i, i < l.length → cs[i]? = some (.int .u32 ((l.getD i 0 : Nat) : Int)) := by
  obtain ⟨xs, m, _, hx, _, hn, hall⟩ := DataW.trod_array ht h
  simp only [Prod.mk.injEq, DataW.agg.injEq] at hx
  have hlen : l.length = n := by
    have := congrArg List.length hx.1
    simpa [hn] using this
  intro i hi
  have h3 := hall i (by omega)
  rw [hce, Nat.mul_one, List.getElem?_eq_getElem (by omega)] at h3
  obtain ⟨q, hq, hx2, _⟩ := DataW.trod_int he h3
  have h5 : cs[i]? = some (.int .u32 q) := by
    have h6 : ((cs.drop i).take 1)[0]? = some (.int .u32 q) := by rw [hq]; rfl
    simpa using h6
  have h7 : (l.map fun z : Nat => (DataW.lit (.int .u32 (z : Int)) : DataW Unit))[i]? = some (.lit (.int .u32 q)) := by
    rw [hx.1, List.getElem?_map, List.getElem?_eq_getElem (by omega), hx2]; rfl
  rw [List.getElem?_map, List.getElem?_eq_getElem hi] at h7
  simp only [Option.map_some, Option.some.injEq, DataW.lit.injEq, Lit.int.injEq, true_and] at h7
  rw [h5, ← h7, List.getD_eq_getElem?_getD, List.getElem?_eq_getElem hi]
  rfl
theorem gK : Tryd.prog.globalNamed ((Rows.sealSealsRow.laid.map (·.1)).getD 0 default) = some 0 := by kernel_rfl
theorem tK : (Tryd.prog.globals[0]?).map (·.type) = some 96 := by kernel_rfl
theorem uK : Tryd.prog.underlying 96 = some (.array 64 58) := by kernel_rfl
theorem uU32 : Tryd.prog.underlying 58 = some (.int .u32) := by kernel_rfl
theorem cU32 : Tryd.prog.cellsOf 58 = 1 := by kernel_rfl
theorem dK : (Rows.laid_garderobe_sha_cubeRoots : DataW Unit) = .agg (Sha.kL.map fun z : Nat => .lit (.int .u32 (z : Int))) := rfl
theorem of_laidK {W : World} (h : laidMetH Tryd.prog Rows.sealSealsRow.laid W) : Gl W := by
  rw [MakeChecks.laidMetH_plain _ _ _ (by kernel_rfl)] at h
  obtain ⟨ps, ⟨g0, t0, cs0, f0, p0, q0, hg0, ht0, hv0, hd0, _, _⟩, _, _⟩ := h
  obtain rfl := Option.some.inj (gK.symm.trans hg0)
  obtain rfl := Option.some.inj (tK.symm.trans ht0)
  rw [dK] at hd0
  intro i hi
  rw [World.var?_cell hg0 hv0 i, ← Array.getElem?_toList]
  exact laid_u32 uK uU32 cU32 hd0 i hi

theorem gB : Tryd.prog.globalNamed ((Rows.sealOpensRow.laid.map (·.1)).getD 0 default) = some 0 := by kernel_rfl
theorem of_laidB {W : World} (h : laidMetH Tryd.prog Rows.sealOpensRow.laid W) : Gl W := by
  rw [MakeChecks.laidMetH_plain _ _ _ (by kernel_rfl)] at h
  obtain ⟨ps, ⟨g0, t0, cs0, f0, p0, q0, hg0, ht0, hv0, hd0, _, _⟩, _, _⟩ := h
  obtain rfl := Option.some.inj (gB.symm.trans hg0)
  obtain rfl := Option.some.inj (tK.symm.trans ht0)
  rw [dK] at hd0
  intro i hi
  rw [World.var?_cell hg0 hv0 i, ← Array.getElem?_toList]
  exact laid_u32 uK uU32 cU32 hd0 i hi

theorem gC : Tryd.prog.globalNamed ((Rows.sealBackRow.laid.map (·.1)).getD 0 default) = some 0 := by kernel_rfl
theorem of_laidC {W : World} (h : laidMetH Tryd.prog Rows.sealBackRow.laid W) : Gl W := by
  rw [MakeChecks.laidMetH_plain _ _ _ (by kernel_rfl)] at h
  obtain ⟨ps, ⟨g0, t0, cs0, f0, p0, q0, hg0, ht0, hv0, hd0, _, _⟩, _, _⟩ := h
  obtain rfl := Option.some.inj (gC.symm.trans hg0)
  obtain rfl := Option.some.inj (tK.symm.trans ht0)
  rw [dK] at hd0
  intro i hi
  rw [World.var?_cell hg0 hv0 i, ← Array.getElem?_toList]
  exact laid_u32 uK uU32 cU32 hd0 i hi

theorem gD : Tryd.prog.globalNamed ((Rows.sealSpoiltRow.laid.map (·.1)).getD 0 default) = some 0 := by kernel_rfl
theorem of_laidD {W : World} (h : laidMetH Tryd.prog Rows.sealSpoiltRow.laid W) : Gl W := by
  rw [MakeChecks.laidMetH_plain _ _ _ (by kernel_rfl)] at h
  obtain ⟨ps, ⟨g0, t0, cs0, f0, p0, q0, hg0, ht0, hv0, hd0, _, _⟩, _, _⟩ := h
  obtain rfl := Option.some.inj (gD.symm.trans hg0)
  obtain rfl := Option.some.inj (tK.symm.trans ht0)
  rw [dK] at hd0
  intro i hi
  rw [World.var?_cell hg0 hv0 i, ← Array.getElem?_toList]
  exact laid_u32 uK uU32 cU32 hd0 i hi

theorem open_i64 {H : Type} {enc : TypeId × Value → H} {W : World} {base : Nat} {v : Value} {d : DataW H} {p : List MemPlace}
    (hok : Value.okWide Tryd.prog W .any base 3 v) (h : DataW.Trod enc Tryd.prog W 0 (fun _ => true) true 3 v d p) : ∃ n : Int, isI64 n ∧ v = .int .i64 n := by
  obtain ⟨n, rfl, _, _, hw⟩ := open_int Tryd.underlying3 hok h
  have hb := bounds_i64 hw
  exact ⟨n, by unfold isI64; omega, rfl⟩
theorem open_z8 {H : Type} {enc : TypeId × Value → H} {W : World} {base : Nat} {v : Value} {d : DataW H} {p : List MemPlace}
    (hok : Value.okWide Tryd.prog W .any base 5 v) (h : DataW.Trod enc Tryd.prog W 0 (fun _ => true) true 5 v d p) : ∃ z : UInt8, v = .int .u8 (z.toNat : Int) := by
  obtain ⟨n, rfl, _, _, hw⟩ := open_int Tryd.undK1 hok h
  have hb := bounds_u8 hw
  refine ⟨UInt8.ofNat n.toNat, ?_⟩
  congr 1
  simp
  omega
theorem open_w16 {H : Type} {enc : TypeId × Value → H} {W : World} {base : Nat} {v : Value} {d : DataW H} {p : List MemPlace} (hu : Tryd.prog.underlying 47 = some (.int .u16))
    (hok : Value.okWide Tryd.prog W .any base 47 v) (h : DataW.Trod enc Tryd.prog W 0 (fun _ => true) true 47 v d p) : ∃ n : Nat, n < 65536 ∧ v = .int .u16 (n : Int) := by
  obtain ⟨n, rfl, _, _, hw⟩ := open_int hu hok h
  have hb := bounds_u16 hw
  exact ⟨n.toNat, by omega, by congr 1; omega⟩
end Go.Proofs.YtjhkodmaalefiaaDoor
namespace Go.Proofs.YtjhkodmaalefiaaDoor
open Go.RowKit Go.Gar

theorem ofInt64 (a : Nat) (ha : a < 9223372036854775808) : (BitVec.ofInt 64 (a : Int)).toNat = a := by
  rw [BitVec.ofInt_natCast, BitVec.toNat_ofNat]; exact Nat.mod_eq_of_lt (by omega)
theorem and64 (a b : Nat) (ha : a < 9223372036854775808) (hb : b < 9223372036854775808) : bits .and .i64 (a : Int) (b : Int) = ((a &&& b : Nat) : Int) := by
  show IntKind.i64.wrap ((BitVec.ofInt 64 (a : Int) &&& BitVec.ofInt 64 (b : Int)).toNat : Int) = _
  have hx : a &&& b ≤ a := Nat.and_le_left
  rw [BitVec.toNat_and, ofInt64 a ha, ofInt64 b hb, IntKind.wrap_i64]
  omega
theorem xor64 (a b : Nat) (ha : a < 9223372036854775808) (hb : b < 9223372036854775808) : bits .xor .i64 (a : Int) (b : Int) = ((a ^^^ b : Nat) : Int) := by
  show IntKind.i64.wrap ((BitVec.ofInt 64 (a : Int) ^^^ BitVec.ofInt 64 (b : Int)).toNat : Int) = _
  have hx : a ^^^ b < 2 ^ 63 := Nat.xor_lt_two_pow (by omega) (by omega)
  rw [BitVec.toNat_xor, ofInt64 a ha, ofInt64 b hb, IntKind.wrap_i64]
  omega
theorem tb_and (n k : Nat) : n / 2 ^ k &&& 1 = (n.testBit k).toNat := by
  rw [Nat.and_one_is_mod, Nat.testBit_eq_decide_div_mod_eq]
  rcases Nat.mod_two_eq_zero_or_one (n / 2 ^ k) with h | h <;> simp [h]
theorem bit64 (n k : Nat) (hn : n < 9223372036854775808) : bits .and .i64 ((n : Int) / 2 ^ k) 1 = ((n.testBit k).toNat : Int) := by
  have h : n / 2 ^ k ≤ n := Nat.div_le_self _ _
  have e := and64 (n / 2 ^ k) 1 (by omega) (by omega)
  rw [show (n : Int) / 2 ^ k = ((n / 2 ^ k : Nat) : Int) from by simp, show (1 : Int) = ((1 : Nat) : Int) from rfl, e, tb_and]
theorem bool_one (b : Bool) : (((b.toNat : Nat) : Int) == 1) = b := by cases b <;> rfl

theorem shl64 (a k : Nat) (ha : a * 2 ^ k < 9223372036854775808) : wrap64 ((a : Int) * 2 ^ k) = ((a <<< k : Nat) : Int) := by
  rw [Nat.shiftLeft_eq, show (a : Int) * 2 ^ k = ((a * 2 ^ k : Nat) : Int) from by push_cast; rfl]
  unfold wrap64; omega
theorem shl_small (a k : Nat) (ha : a < 512) (hk : k < 8) : a * 2 ^ k < 65536 := by
  have h1 : 2 ^ k ≤ 2 ^ 7 := Nat.pow_le_pow_right (by omega) (by omega)
  have h2 : a * 2 ^ k ≤ 511 * 2 ^ 7 := Nat.mul_le_mul (by omega) h1
  omega
theorem long_lt (a b i : Nat) (ha : a < 256) (hi : i ≤ 8) : Box.long a b i < 2 ^ 16 := by
  induction i with
  | zero => simp [Box.long]
  | succ i ih =>
    refine Nat.xor_lt_two_pow (ih (by omega)) ?_
    split
    · rw [Nat.shiftLeft_eq]
      have : 2 ^ i ≤ 2 ^ 7 := Nat.pow_le_pow_right (by omega) (by omega)
      calc a * 2 ^ i ≤ 255 * 2 ^ 7 := Nat.mul_le_mul (by omega) this
        _ < 2 ^ 16 := by decide
    · decide
theorem red_lt (n i : Nat) (hn : n < 2 ^ 16) (hi : i ≤ 7) : Box.red n i < 2 ^ 16 := by
  induction i with
  | zero => exact hn
  | succ i ih =>
    refine Nat.xor_lt_two_pow (ih (by omega)) ?_
    split
    · have h : ∀ j, j < 7 → 0x11b <<< (14 - j - 8) < 2 ^ 16 := by decide
      exact h i (by omega)
    · decide

set_option maxHeartbeats 1000000 in
theorem refMul_any (a b : Nat) (w : World) (ha : a < 256) (hb : b < 256) :
    Calls Tryd.prog 73 #[.int .u8 (a : Int), .int .u8 (b : Int)] w fun e w' => e = .returned (.int .u8 ((Box.mul a b : Nat) : Int)) ∧ w' = w := by
  go_enter Tryd.func73, Tryd.ntmps73
  go_wp2
  go_loop [5, 6] (fun n i => ∃ k m : Nat, k ≤ 8 ∧ i = .int .i64 k ∧ n = .int .i64 (m : Int) ∧ m = Box.long a b k) (fun _ i => 8 - (intOf i).toNat)
  case atStart => exact ⟨0, 0, by omega, rfl, rfl, rfl⟩
  case round =>
    obtain ⟨k, m, hk, rfl, rfl, hm⟩ := hrel
    have hml : m < 65536 := by rw [hm]; exact long_lt a b k ha hk
    by_cases hlt : k < 8
    · obtain ⟨t, ht⟩ : ∃ t, b.testBit k = t := ⟨_, rfl⟩
      have hbit : (bits .and .i64 ((b : Int) / 2 ^ k) 1 == 1) = t := by rw [bit64 b k (by omega), bool_one, ht]
      have HT := Lib.hid ht
      have HM := Lib.hid hm
      clear ht hm
      cases t with
      | true =>
        have HX : Hid (bits .xor .i64 (m : Int) (wrap64 ((a : Int) * 2 ^ k)) = ((m ^^^ a <<< k : Nat) : Int)) := Lib.hid (by
          have := shl_small a k (by omega) hlt
          rw [shl64 a k (by omega), xor64 m _ (by omega) (by rw [Nat.shiftLeft_eq]; omega)])
        go_wp2
        exact ⟨⟨k + 1, m ^^^ a <<< k, by omega, by go_num, by rw [HX.out], by rw [HM.out, Box.long, if_pos HT.out]⟩, by simp [intOf]; omega⟩
      | false =>
        go_wp2
        exact ⟨⟨k + 1, m, by omega, by go_num, rfl, by rw [HM.out, Box.long, if_neg (by rw [HT.out]; simp), Nat.xor_zero]⟩, by simp [intOf]; omega⟩
    · obtain rfl : k = 8 := by omega
      have HM := Lib.hid hm
      clear hm
      go_wp2
      go_loop [5, 7] (fun n i => ∃ p m : Nat, 7 ≤ p ∧ p ≤ 14 ∧ i = .int .i64 (p : Int) ∧ n = .int .i64 (m : Int) ∧ m = Box.red (Box.long a b 8) (14 - p)) (fun _ i => (intOf i).toNat)
      case atStart => exact ⟨14, m, by omega, by omega, rfl, rfl, HM.out⟩
      case round =>
        obtain ⟨p, r, hp7, hp14, rfl, rfl, hr⟩ := hrel
        have hrl : r < 65536 := by rw [hr]; exact red_lt _ _ (long_lt a b 8 ha (by omega)) (by omega)
        by_cases hlt : 7 < p
        · obtain ⟨t, ht⟩ : ∃ t, r.testBit p = t := ⟨_, rfl⟩
          have hbit : (bits .and .i64 ((r : Int) / 2 ^ p) 1 == 1) = t := by rw [bit64 r p (by omega), bool_one, ht]
          have HT := Lib.hid ht
          have HR := Lib.hid hr
          have HS : Hid (14 - (p - 1) = (14 - p) + 1) := Lib.hid (by omega)
          have HP : Hid (14 - (14 - p) = p) := Lib.hid (by omega)
          clear ht hr
          cases t with
          | true =>
            have HX : Hid (bits .xor .i64 (r : Int) (wrap64 (283 * 2 ^ (p - 8))) = ((r ^^^ 283 <<< (p - 8) : Nat) : Int)) := Lib.hid (by
              have := shl_small 283 (p - 8) (by omega) (by omega)
              have := shl64 283 (p - 8) (by omega)
              rw [show (283 : Int) = ((283 : Nat) : Int) from rfl, this, xor64 r _ (by omega) (by rw [Nat.shiftLeft_eq]; omega)])
            go_wp2
            exact ⟨⟨p - 1, r ^^^ 283 <<< (p - 8), by omega, by omega, by go_num, by rw [HX.out], by rw [HS.out, Box.red, HP.out, ← HR.out, if_pos HT.out]⟩, by simp [intOf]; omega⟩
          | false =>
            go_wp2
            exact ⟨⟨p - 1, r, by omega, by omega, by go_num, rfl, by rw [HS.out, Box.red, HP.out, ← HR.out, if_neg (by rw [HT.out]; simp), Nat.xor_zero]⟩, by simp [intOf]; omega⟩
        · obtain rfl : p = 7 := by omega
          have HR := Lib.hid hr
          clear hr
          go_wp2
          go_ret
          exact ⟨congrArg (fun v => Ending.returned (.int .u8 v)) (by rw [← Box.refmul_eq a b ha hb, Box.refmul, ← HR.out]; rfl), rfl⟩

theorem own_new (w : World) (base : Nat) (e : TypeId) (l : List UInt8) (hb : base ≤ w.heap.size) (hl : l.length ≤ 1000000000) : OwnB (w.alloc (.cells (u8s l).toArray e)) base e (.slice (some ⟨w.heap.size, 0, none⟩) l.length l.length) l := by
  refine ⟨by simp [u8s_len], .inr ⟨w.heap.size, l.length, (u8s l).toArray, rfl, hb, heap_alloc_new w _, Nat.le_refl _, by simp [maxLen]; omega, by simp [u8s_len], ?_⟩⟩
  rw [Nat.mul_one, ← u8s_len l, List.take_of_length_le (by simp)]

set_option maxHeartbeats 1000000 in
set_option maxRecDepth 100000 in
theorem refPowers_any (w : World) :
    Calls Tryd.prog 88 #[] w fun e w' => ∃ v, e = .returned v ∧ OwnB w' w.heap.size 5 v (Box.pows 255) ∧ Below w.heap.size w w' := by
  have HB0 := Lib.hid (own_new w w.heap.size 5 [1] (Nat.le_refl _) (by simp))
  have Hb0 := Lib.hid (below_alloc w (.cells (u8s [1]).toArray 5))
  go_enter Tryd.func88, Tryd.ntmps88
  go_wp2
  go_loopw [1, 2] (fun v i w' => ∃ k : Nat, 1 ≤ k ∧ k ≤ 255 ∧ i = .int .i64 (k : Int) ∧ OwnB w' w.heap.size 5 v (Box.pows k) ∧ Below w.heap.size w w') (fun _ i _ => 255 - (intOf i).toNat)
  case atStart => exact ⟨1, by omega, by omega, rfl, HB0.out, Hb0.out⟩
  case round =>
    obtain ⟨k, hk1, hk, rfl, hO, hb⟩ := hrel
    have HO := Lib.hid hO
    have Hb := Lib.hid hb
    clear hO hb
    by_cases hlt : k < 255
    · obtain ⟨g, cap, rest, rfl, hg, hcap, hB⟩ := HO.out.blk (by rw [Box.pows_len]; omega)
      have hc : wr.cell? ⟨g, k - 1, none⟩ = some (.int .u8 ((Box.pow (k - 1) : Nat) : Int)) := by
        rw [hB.cell, List.getElem?_append_left (by rw [u8s_len, Box.pows_len]; omega), u8s_get, Box.pows_get k (k - 1) (by omega)]
        simp [Box.ofNat_toNat _ (Box.pow_small _)]
      rw [Box.pows_len] at *
      clear hB
      obtain ⟨q, hq⟩ : ∃ q, Box.pow (k - 1) = q := ⟨_, rfl⟩
      have hq256 := Box.pow_small (k - 1)
      rw [hq] at hc hq256
      have HQ := Lib.hid hq
      clear hq
      go_wp2_with fail
      refine (refMul_any q 3 wr hq256 (by omega)).mono ?_
      rintro e w' ⟨rfl, rfl⟩
      have HP : Hid (Box.mul q 3 = Box.pow k) := Lib.hid (by
        obtain ⟨j, rfl⟩ : ∃ j, k = j + 1 := ⟨k - 1, by omega⟩
        rw [← HQ.out]; rfl)
      obtain ⟨v', w1, e1, ho1, hb1⟩ := app_one (P := Tryd.prog) 26 26 Tryd.und22 Tryd.info5 HO.out (Below.size Hb.out) (UInt8.ofNat (Box.mul q 3)) ((Box.mul q 3 : Nat) : Int) (by rw [Box.ofNat_toNat _ (Box.mul_lt q 3 hq256)]) (by rw [Box.pows_len]; omega)
      have HO1 := Lib.hid ho1
      have HB1 := Lib.hid (Below.trans Hb.out hb1)
      clear ho1 hb1
      go_wp2_with (at_builtin; refine wpList_append_run rfl (.tmp 8) (.tmp 15) _ rfl rfl rfl e1 ?_)
      exact ⟨⟨k + 1, by omega, by omega, by go_num, by rw [Box.pows_succ, ← HP.out]; exact HO1.out, HB1.out⟩, by simp [intOf]; omega⟩
    · obtain rfl : k = 255 := by omega
      go_wp2
      go_ret
      exact ⟨_, rfl, HO.out, Hb.out⟩
end Go.Proofs.YtjhkodmaalefiaaDoor
