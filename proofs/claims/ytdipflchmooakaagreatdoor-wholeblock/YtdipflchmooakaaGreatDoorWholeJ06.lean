/-
  What is asked of aes's functions (contracts); an array argument. Cipher block chaining with padding, as plain mathematics on lists of bytes. Of no program. Bytes handed back: a slice that reads as them. Of no program. Layer 7: what is asked of cbc's functions (contracts). Parts of a variadic call: slices of bytes in a row; rows of constants. Of no program. SHA-256 as plain mathematics on numbers below 2^32 and lists of bytes; its constants by primes and roots. No program's text.
-/
import Derived.Test.YtdipflchmooakaaGreatDoorWholeJ05
import Derived.Test.YtdipflchmooakaaGreatDoorWholeJ02
import Derived.Test.YtdipflchmooakaaGreatDoorWholeJ01
import Derived.Lib.SmallJoins
set_option maxRecDepth 100000
namespace Go.Gar
open Go.ChangeShapes Go.WideShapes Go.ChangeAt Go.RowKit
/-- An array of bytes by value. -/
theorem open_arr {H : Type} {enc : TypeId × Value → H} {P : Program} {t e : TypeId} {n : Nat} (ht : P.underlying t = some (.array n e)) (he : P.underlying e = some (.int .u8)) (hce : P.cellsOf e = 1) (hct : P.cellsOf t = n) {W : World} {base : Nat} {v : Value} {d : DataW H} {p : List MemPlace}
    (hok : Value.okWide P W .any base t v) (h : DataW.Trod enc P W 0 (fun _ => true) true t v d p) : ∃ l : List UInt8, l.length = n ∧ v = .agg (u8s l).toArray := by
  simp only [Value.okWide, ht] at hok
  obtain ⟨cs, rfl, h2, _⟩ := hok
  rw [hct] at h2
  obtain ⟨fuel, hf⟩ := h
  obtain ⟨xs, m, _, _, _, hx, hall⟩ := DataW.trod_array ht hf
  have key : ∀ i, i < n → ∃ z : UInt8, cs.toList[i]? = some (.int .u8 (z.toNat : Int)) := by
    intro i hi
    have h3 := hall i hi
    rw [hce, Nat.mul_one, List.getElem?_eq_getElem (by omega)] at h3
    obtain ⟨q, hq, _, hw⟩ := DataW.trod_int he h3
    have hb := bounds_u8 hw
    have h4 : ((Value.agg cs).cells.toList.drop i).take 1 = [.int .u8 q] := hq
    have h5 : cs.toList[i]? = some (.int .u8 q) := by
      have h6 : (((Value.agg cs).cells.toList.drop i).take 1)[0]? = some (.int .u8 q) := by rw [h4]; rfl
      simpa [Value.cells] using h6
    refine ⟨UInt8.ofNat q.toNat, ?_⟩
    rw [h5]
    congr 2
    simp
    omega
  refine ⟨cs.toList.map (fun u => match u with | .int _ z => UInt8.ofNat z.toNat | _ => 0), by simp [h2], ?_⟩
  congr 1
  apply Array.ext'
  apply List.ext_getElem?
  intro i
  by_cases hi : i < n
  · obtain ⟨z, hz⟩ := key i hi
    rw [hz, u8s_get, List.getElem?_map, hz]
    simp
  · rw [List.getElem?_eq_none (by simp [h2]; omega), List.getElem?_eq_none (by simp [u8s_len, h2]; omega)]
/-- copy of as many bytes as both slices have. -/
theorem run_copy_min {P : Program} {w : World} (dT sT ty e : TypeId) (hu : P.underlying dT = some (.slice e)) (hs : (P.info? e).map (·.size) = some 1) (g dLen dCap sCap : Nat) (A : Option Addr) (l : List UInt8) (B : Nat)
    (hr : Rd w B A l) (cs : List Value) (t : TypeId) (hg : Blk w g t cs) (hfit : dLen ≤ cs.length) :
    (Builtin.copy_ #[dT, sT] ty #[.slice (some ⟨g, 0, none⟩) dLen dCap, .slice A l.length sCap]).run P w = .ok (goInt ((min l.length dLen : Nat) : Int)) (w.setRow g (u8s (l.take dLen) ++ cs.drop (min l.length dLen)).toArray) := by
  rcases hr with rfl | ⟨b, o, rfl, _, hc⟩
  · rw [run_copy_none w dT sT ty e _ _ _ _ _ _ hu hs (by simp)]
    have := setRow_self w g cs.toArray t (0, 0) hg
    simp only [List.length_nil, u8s, List.map_nil, List.drop_zero, List.nil_append, List.take_nil, Nat.zero_min]
    rw [this]
    rfl
  · have hlen : (u8s (l.take dLen)).length = min l.length dLen := by rw [u8s_len, List.length_take, Nat.min_comm]
    have h := run_copy_row (P := P) w dT sT ty e g 0 dLen dCap ⟨b, o, none⟩ l.length sCap cs.toArray t (u8s (l.take dLen)) hu hs hg hlen ?_ (by rw [hlen]; simp; omega) (u8s_one _)
    · rw [h, hlen]
      simp
    · intro j v hj
      rw [u8s_get] at hj
      cases hq : (l.take dLen)[j]? with
      | none => simp [hq] at hj
      | some c =>
        rw [hq] at hj
        simp at hj
        subst hj
        have : (⟨b, o, none⟩ : Addr).add j = ⟨b, o + j, none⟩ := Addr.add_lit _ _ _
        rw [this]
        refine hc j c ?_
        rw [List.getElem?_take] at hq
        split at hq
        · exact hq
        · cases hq
end Go.Gar
namespace Go.Proofs.YtdipflchmooakaaGreatDoor
open Go.ChangeShapes Go.WideShapes Go.ChangeAt Go.RowKit Go.Gar Go.Gar.Aes

theorem Tryz.und16 : Tryz.prog.underlying 32 = some (.array 16 5) := by kernel_rfl
theorem Tryz.size16 : (Tryz.prog.info? 32).map (·.size) = some 16 := by kernel_rfl
theorem Tryz.plain5 : Tryz.prog.plainKey 5 = true := by kernel_rfl
theorem Tryz.cells5 : Tryz.prog.cellsOf 5 = 1 := by kernel_rfl
theorem Tryz.cells16 : Tryz.prog.cellsOf 32 = 16 := by kernel_rfl
theorem Tryz.guard16 : Tryz.prog.eqGuardType Tryz.prog.depth 32 = false := by kernel_rfl

structure AesOK (Rep : World → Nat → List UInt8 → Prop) : Prop where
  stay : ∀ {w w' : World} {gc : Nat} {key : List UInt8}, Rep w gc key → Below w.heap.size w w' → Rep w' gc key
  new_yes : ∀ (w : World) (A : Option Addr) (key : List UInt8) (len cap : Nat), sizeOk key.length → len = key.length → key.length ≤ cap → Rd w w.heap.size A key →
    Calls Tryz.prog 24 #[.slice A len cap] w fun e w' => ∃ gc, e = .returned (.tuple #[.pointer (some ⟨gc, 0, none⟩), .int .i64 0]) ∧ Rep w' gc key ∧ Below w.heap.size w w'
  new_no : ∀ (w : World) (A : Option Addr) (len cap : Nat), ¬ sizeOk len →
    Calls Tryz.prog 24 #[.slice A len cap] w fun e w' => e = .returned (.tuple #[.pointer none, .int .i64 1]) ∧ Below w.heap.size w w'
  enc : ∀ (w : World) (gc : Nat) (key l : List UInt8), sizeOk key.length → Rep w gc key → l.length = 16 →
    Calls Tryz.prog 43 #[.pointer (some ⟨gc, 0, none⟩), .agg (u8s l).toArray] w fun e w' => e = .returned (.agg (u8s (encrypt key l)).toArray) ∧ Below w.heap.size w w'
  dec : ∀ (w : World) (gc : Nat) (key l : List UInt8), sizeOk key.length → Rep w gc key → l.length = 16 →
    Calls Tryz.prog 55 #[.pointer (some ⟨gc, 0, none⟩), .agg (u8s l).toArray] w fun e w' => e = .returned (.agg (u8s (decrypt key l)).toArray) ∧ Below w.heap.size w w'
  enc_nil : ∀ (w : World) (l : List UInt8), l.length = 16 →
    Calls Tryz.prog 43 #[.pointer none, .agg (u8s l).toArray] w fun e w' => e = .returned (.agg (u8s l).toArray) ∧ Below w.heap.size w w'
  dec_nil : ∀ (w : World) (l : List UInt8), l.length = 16 →
    Calls Tryz.prog 55 #[.pointer none, .agg (u8s l).toArray] w fun e w' => e = .returned (.agg (u8s l).toArray) ∧ Below w.heap.size w w'

/-- A key made of any bytes: cut or filled up with zeros. -/
def fit (key : List UInt8) (n : Nat) : List UInt8 := key.take n ++ List.replicate (n - key.length) 0
theorem fit_len (key : List UInt8) (n : Nat) : (fit key n).length = n := by simp [fit]; omega

theorem run_eq16 (a b : List UInt8) (ha : a.length = 16) (hb : b.length = 16) (w : World) : (Op.equalIn 10000 32 (.agg (u8s a).toArray) (.agg (u8s b).toArray)).run Tryz.prog w = .ok (decide (a = b)) w :=
  run_equalIn_u8s Tryz.und16 Tryz.plain5 Tryz.und5 Tryz.cells5 9998 a b ha hb
theorem size16 (l : List UInt8) (h : l.length = 16) : (Tryz.prog.info? 32).map (·.size) = some (u8s l).length := by rw [u8s_len, h]; exact Tryz.size16
theorem fit_ok (key : List UInt8) (n : Nat) : sizeOk (fit key (16 + 8 * (n % 3))).length := by
  rw [fit_len]; unfold sizeOk; omega

section
variable {Rep : World → Nat → List UInt8 → Prop}
theorem AesOK.enc_at (h : AesOK Rep) (w : World) (gc : Nat) (key l : List UInt8) (x : Array Value) (hx : x = (u8s l).toArray) (hk : sizeOk key.length) (hr : Rep w gc key) (hl : l.length = 16) :
    Calls Tryz.prog 43 #[.pointer (some ⟨gc, 0, none⟩), .agg x] w fun e w' => ∃ y, e = .returned (.agg y) ∧ y = (u8s (encrypt key l)).toArray ∧ Below w.heap.size w w' := by
  subst hx
  exact (h.enc w gc key l hk hr hl).mono fun e w' he => ⟨_, he.1, rfl, he.2⟩
theorem AesOK.dec_at (h : AesOK Rep) (w : World) (gc : Nat) (key l : List UInt8) (x : Array Value) (hx : x = (u8s l).toArray) (hk : sizeOk key.length) (hr : Rep w gc key) (hl : l.length = 16) :
    Calls Tryz.prog 55 #[.pointer (some ⟨gc, 0, none⟩), .agg x] w fun e w' => ∃ y, e = .returned (.agg y) ∧ y = (u8s (decrypt key l)).toArray ∧ Below w.heap.size w w' := by
  subst hx
  exact (h.dec w gc key l hk hr hl).mono fun e w' he => ⟨_, he.1, rfl, he.2⟩
theorem AesOK.enc_nil_at (h : AesOK Rep) (w : World) (l : List UInt8) (x : Array Value) (hx : x = (u8s l).toArray) (hl : l.length = 16) :
    Calls Tryz.prog 43 #[.pointer none, .agg x] w fun e w' => e = .returned (.agg x) ∧ Below w.heap.size w w' := by
  subst hx
  exact h.enc_nil w l hl
theorem AesOK.dec_nil_at (h : AesOK Rep) (w : World) (l : List UInt8) (x : Array Value) (hx : x = (u8s l).toArray) (hl : l.length = 16) :
    Calls Tryz.prog 55 #[.pointer none, .agg x] w fun e w' => e = .returned (.agg x) ∧ Below w.heap.size w w' := by
  subst hx
  exact h.dec_nil w l hl
end
theorem eq16_at (a b : List UInt8) (x y : Array Value) (hx : x = (u8s a).toArray) (hy : y = (u8s b).toArray) (ha : a.length = 16) (hb : b.length = 16) (r : Bool) (hr : decide (a = b) = r) (w : World) : (Op.equalIn 10000 32 (.agg x) (.agg y)).run Tryz.prog w = .ok r w := by
  subst hx; subst hy; subst hr
  exact run_eq16 a b ha hb w
theorem load16 {w : World} {g : Nat} (l : List UInt8) (x : Array Value) (hx : x = (u8s l).toArray) (hl : l.length = 16) (h : Blk w g 32 x.toList) :
    ∀ W : Later grows w, (Instr.loadAt 32 (.pointer (some ⟨g, 0, none⟩))).run Tryz.prog W.to = .ok (.agg x) W.to := by
  intro W
  have := load_arr_later (P := Tryz.prog) Tryz.und16 (by rw [hx, List.toList_toArray]; exact size16 l hl) h W
  rw [Array.toArray_toList] at this
  exact this

end Go.Proofs.YtdipflchmooakaaGreatDoor
namespace Go.Gar.Cbc
open Go.Gar Go.Gar.Aes

/-- The 16 bytes of number j. -/
def blk (m : List UInt8) (j : Nat) : List UInt8 := (m.drop (16 * j)).take 16
theorem blk_len (m : List UInt8) (j : Nat) (h : 16 * j + 16 ≤ m.length) : (blk m j).length = 16 := by
  rw [blk, List.length_take, List.length_drop]; omega
theorem blk_app (a b : List UInt8) (j : Nat) (h : 16 * j + 16 ≤ a.length) : blk (a ++ b) j = blk a j := by
  unfold blk
  rw [List.drop_append, List.take_append, List.length_drop, show 16 - (a.length - 16 * j) = 0 from by omega, List.take_zero, List.append_nil]
theorem blk_end (a b : List UInt8) (j : Nat) (h : a.length = 16 * j) (hb : b.length = 16) : blk (a ++ b) j = b := by
  unfold blk
  rw [← h, List.drop_left, List.take_of_length_le (by omega)]
theorem take_blk (m : List UInt8) (j : Nat) : m.take (16 * j) ++ blk m j = m.take (16 * (j + 1)) := by
  rw [blk, show 16 * (j + 1) = 16 * j + 16 from by omega, List.take_add]

section
variable (key iv m : List UInt8)
/-- The block that is mixed into block j: iv, or what came before, encrypted. -/
def last : Nat → List UInt8
  | 0 => iv
  | j + 1 => encrypt key (addK (blk m j) (last j))
def outK : Nat → List UInt8
  | 0 => []
  | j + 1 => outK j ++ last key iv m (j + 1)
theorem last_len (h : iv.length = 16) : ∀ j, (last key iv m j).length = 16
  | 0 => h
  | _ + 1 => encrypt_len _ _
theorem outK_len : ∀ j, (outK key iv m j).length = 16 * j
  | 0 => rfl
  | j + 1 => by rw [outK, List.length_append, outK_len j, last, encrypt_len]; omega
theorem outK_blk : ∀ N j, j < N → blk (outK key iv m N) j = last key iv m (j + 1)
  | 0, _, h => by omega
  | N + 1, j, h => by
    by_cases hj : j = N
    · subst hj
      rw [outK]
      exact blk_end _ _ _ (outK_len key iv m j) (by rw [last]; exact encrypt_len _ _)
    · rw [outK, blk_app _ _ _ (by rw [outK_len]; omega), outK_blk N j (by omega)]
/-- The block before block j of what is to be opened. -/
def prev (c : List UInt8) : Nat → List UInt8
  | 0 => iv
  | j + 1 => blk c j
def opK (c : List UInt8) : Nat → List UInt8
  | 0 => []
  | j + 1 => opK c j ++ addK (decrypt key (blk c j)) (prev iv c j)
theorem opK_len (c : List UInt8) : ∀ j, (opK key iv c j).length = 16 * j
  | 0 => rfl
  | j + 1 => by rw [opK, List.length_append, opK_len c j, addK_len]; omega
theorem opK_blk (c : List UInt8) : ∀ N j, j < N → blk (opK key iv c N) j = addK (decrypt key (blk c j)) (prev iv c j)
  | 0, _, h => by omega
  | N + 1, j, h => by
    by_cases hj : j = N
    · subst hj
      rw [opK, blk_end _ _ _ (opK_len key iv c j) (addK_len _ _)]
    · rw [opK, blk_app _ _ _ (by rw [opK_len]; omega), opK_blk c N j (by omega)]
theorem prev_out (N : Nat) : ∀ j, j ≤ N → prev iv (outK key iv m N) j = last key iv m j
  | 0, _ => rfl
  | j + 1, h => by rw [prev, outK_blk key iv m N j (by omega)]
theorem op_out (N : Nat) (hm : 16 * N ≤ m.length) : ∀ j, j ≤ N → opK key iv (outK key iv m N) j = m.take (16 * j)
  | 0, _ => by simp [opK]
  | j + 1, h => by
    rw [opK, op_out N hm j (by omega), outK_blk key iv m N j (by omega), prev_out key iv m N j (by omega), last, decrypt_encrypt _ _ (addK_len _ _), addK_addK _ _ (blk_len m j (by omega)), take_blk]
theorem last_op (c : List UInt8) (N : Nat) (hc : 16 * N ≤ c.length) (hiv : iv.length = 16) : ∀ j, j ≤ N → last key iv (opK key iv c N) j = prev iv c j
  | 0, _ => rfl
  | j + 1, h => by
    rw [last, last_op c N hc hiv j (by omega), opK_blk key iv c N j (by omega), addK_addK _ _ (decrypt_len _ _), encrypt_decrypt _ _ (blk_len c j (by omega)), prev]
theorem out_op (c : List UInt8) (N : Nat) (hc : 16 * N ≤ c.length) (hiv : iv.length = 16) : ∀ j, j ≤ N → outK key iv (opK key iv c N) j = c.take (16 * j)
  | 0, _ => by simp [outK]
  | j + 1, h => by rw [outK, out_op c N hc hiv j (by omega), last_op key iv c N hc hiv (j + 1) h, prev, take_blk]
end

/-- Filled up. -/
def fillN (b : List UInt8) : Nat := 16 - b.length % 16
def padK (b : List UInt8) (k : Nat) : List UInt8 := b ++ List.replicate k (UInt8.ofNat (fillN b))
def pad (b : List UInt8) : List UInt8 := padK b (fillN b)
theorem padK_len (b : List UInt8) (k : Nat) : (padK b k).length = b.length + k := by simp [padK]
theorem padK_succ (b : List UInt8) (k : Nat) : padK b k ++ [UInt8.ofNat (fillN b)] = padK b (k + 1) := by simp [padK, List.replicate_succ']
theorem pad_len (b : List UInt8) : (pad b).length = b.length / 16 * 16 + 16 := by
  rw [pad, padK_len, fillN]; omega
theorem fillN_lt (b : List UInt8) : 1 ≤ fillN b ∧ fillN b ≤ 16 := by unfold fillN; omega
/-- The number in the last byte. -/
def endN (o : List UInt8) : Nat := (at_ o (o.length - 1)).toNat
/-- Are the last n bytes all n? -/
def filled (o : List UInt8) (n : Nat) : Prop := ∀ i, i < n → (at_ o (o.length - 1 - i)).toNat = n
instance (o : List UInt8) (n : Nat) : Decidable (filled o n) := inferInstanceAs (Decidable (∀ i, i < n → _))
def unpad (o : List UInt8) : Option (List UInt8) := if 1 ≤ endN o ∧ endN o ≤ 16 ∧ filled o (endN o) then some (o.take (o.length - endN o)) else none
theorem at_right (a b : List UInt8) (i : Nat) (h : a.length ≤ i) : at_ (a ++ b) i = at_ b (i - a.length) := by
  unfold at_
  rw [List.getD_eq_getElem?_getD, List.getD_eq_getElem?_getD, List.getElem?_append_right h]
theorem at_rep (n i : Nat) (c : UInt8) (h : i < n) : at_ (List.replicate n c) i = c := by
  unfold at_
  rw [List.getD_eq_getElem?_getD, List.getElem?_replicate, if_pos h]; rfl
theorem unpad_pad (b : List UInt8) : unpad (pad b) = some b := by
  have hf := fillN_lt b
  have hv : (UInt8.ofNat (fillN b)).toNat = fillN b := by simp; omega
  have hl : (pad b).length = b.length + fillN b := padK_len b _
  have ha : ∀ i, i < fillN b → (at_ (pad b) ((pad b).length - 1 - i)).toNat = fillN b := by
    intro i hi
    rw [hl, pad, padK, at_right _ _ _ (by omega), at_rep _ _ _ (by omega), hv]
  have he : endN (pad b) = fillN b := by have := ha 0 (by omega); rwa [Nat.sub_zero] at this
  rw [unpad, he, if_pos ⟨hf.1, hf.2, ha⟩, hl, Nat.add_sub_cancel, pad, padK, List.take_left]
theorem pad_unpad (o z : List UInt8) (ho : o.length % 16 = 0) (h16 : 16 ≤ o.length) (h : unpad o = some z) : pad z = o := by
  unfold unpad at h
  split at h
  · rename_i hc
    obtain ⟨h1, h2, h3⟩ := hc
    injection h with h
    subst h
    have hzl : (o.take (o.length - endN o)).length = o.length - endN o := by rw [List.length_take]; omega
    have hfn : fillN (o.take (o.length - endN o)) = endN o := by unfold fillN; rw [hzl]; omega
    rw [pad, padK, hfn]
    apply List.ext_getElem?
    intro i
    by_cases hi : i < o.length - endN o
    · rw [List.getElem?_append_left (by rw [hzl]; exact hi), List.getElem?_take, if_pos hi]
    · rw [List.getElem?_append_right (by rw [hzl]; omega), hzl, List.getElem?_replicate]
      by_cases hi2 : i < o.length
      · rw [if_pos (by omega)]
        have hx := h3 (o.length - 1 - i) (by omega)
        rw [show o.length - 1 - (o.length - 1 - i) = i from by omega, at_, List.getD_eq_getElem?_getD, List.getElem?_eq_getElem hi2] at hx
        rw [List.getElem?_eq_getElem hi2]
        simp only [Option.getD_some] at hx
        congr 1
        rw [← hx]
        simp
      · rw [if_neg (by omega), List.getElem?_eq_none (by omega)]
  · cases h
def seal_ (key iv b : List UInt8) : List UInt8 := outK key iv (pad b) (b.length / 16 + 1)
theorem seal_len (key iv b : List UInt8) : (seal_ key iv b).length = b.length / 16 * 16 + 16 := by rw [seal_, outK_len]; omega
def open_ (key iv c : List UInt8) : Option (List UInt8) := if 16 ≤ c.length ∧ c.length % 16 = 0 then unpad (opK key iv c (c.length / 16)) else none
theorem open_seal (key iv b : List UInt8) : open_ key iv (seal_ key iv b) = some b := by
  have hl := seal_len key iv b
  have hp := pad_len b
  rw [open_, if_pos (by omega), show (seal_ key iv b).length / 16 = b.length / 16 + 1 from by omega, seal_, op_out _ _ _ _ (by omega) _ (Nat.le_refl _), List.take_of_length_le (by omega), unpad_pad]
theorem seal_open (key iv c z : List UInt8) (hiv : iv.length = 16) (h : open_ key iv c = some z) : seal_ key iv z = c := by
  unfold open_ at h
  split at h
  · rename_i hc
    have hol := opK_len key iv c (c.length / 16)
    have hp := pad_unpad _ z (by omega) (by omega) h
    have hpl := pad_len z
    rw [hp, hol] at hpl
    rw [seal_, hp, show z.length / 16 + 1 = c.length / 16 from by omega, out_op key iv c (c.length / 16) (by omega) hiv _ (Nat.le_refl _), List.take_of_length_le (by omega)]
  · cases h
end Go.Gar.Cbc
namespace Go.Proofs.YtdipflchmooakaaGreatDoor
open Go.RowKit Go.Gar

/-- A slice that reads as the bytes l. -/
def Out (w : World) (v : Value) (l : List UInt8) : Prop := ∃ A c, v = .slice A l.length c ∧ l.length ≤ c ∧ Rd w w.heap.size A l
theorem Out.below {w w' : World} {v : Value} {l : List UInt8} (h : Out w v l) (hb : Below w.heap.size w w') : Out w' v l := by
  obtain ⟨A, c, h1, h2, h3⟩ := h
  exact ⟨A, c, h1, h2, (h3.below hb).more hb.size⟩
theorem Out.nil (w : World) : Out w (.slice none 0 0) [] := ⟨none, 0, rfl, Nat.le_refl _, Rd.nil⟩
end Go.Proofs.YtdipflchmooakaaGreatDoor
namespace Go.Proofs.YtdipflchmooakaaGreatDoor
open Go.ChangeShapes Go.WideShapes Go.ChangeAt Go.RowKit Go.Gar Go.Gar.Aes

/-- What Seal and Open answer: bytes, and an error's number. -/
def sealB (key iv b : List UInt8) : List UInt8 := if key.length = 16 ∨ key.length = 24 ∨ key.length = 32 then Cbc.seal_ key iv b else []
def sealE (key : List UInt8) : Nat := if key.length = 16 ∨ key.length = 24 ∨ key.length = 32 then 0 else 1
def openB (key iv c : List UInt8) : List UInt8 := if key.length = 16 ∨ key.length = 24 ∨ key.length = 32 then (Cbc.open_ key iv c).getD [] else []
def openE (key iv c : List UInt8) : Nat := if key.length = 16 ∨ key.length = 24 ∨ key.length = 32 then (if (Cbc.open_ key iv c).isSome then 0 else 12) else 1
structure CbcOK : Prop where
  seal_ : ∀ (w : World) (K A : Option Addr) (key iv b : List UInt8) (kc bc : Nat), Rd w w.heap.size K key → Rd w w.heap.size A b → iv.length = 16 → key.length ≤ kc → b.length ≤ bc → b.length ≤ 1048576 →
    Calls Tryz.prog 20 #[.slice K key.length kc, .agg (u8s iv).toArray, .slice A b.length bc] w fun e w' => ∃ v, e = .returned (.tuple #[v, .int .i64 ((sealE key : Nat) : Int)]) ∧ Out w' v (sealB key iv b) ∧ Below w.heap.size w w'
  open_ : ∀ (w : World) (K A : Option Addr) (key iv b : List UInt8) (kc bc : Nat), Rd w w.heap.size K key → Rd w w.heap.size A b → iv.length = 16 → key.length ≤ kc → b.length ≤ bc → b.length ≤ 1048576 →
    Calls Tryz.prog 31 #[.slice K key.length kc, .agg (u8s iv).toArray, .slice A b.length bc] w fun e w' => ∃ v, e = .returned (.tuple #[v, .int .i64 ((openE key iv b : Nat) : Int)]) ∧ Out w' v (openB key iv b) ∧ Below w.heap.size w w'
end Go.Proofs.YtdipflchmooakaaGreatDoor
namespace Go.Proofs.YtdipflchmooakaaGreatDoor
open Go.RowKit Go.Gar

/-- A part: where its slice lies, what it reads as, its capacity. -/
def partV (p : Option Addr × List UInt8 × Nat) : Value := .slice p.1 p.2.1.length p.2.2
def cat (ps : List (Option Addr × List UInt8 × Nat)) : List UInt8 := ps.flatMap (·.2.1)

theorem rd_const (w : World) (l : List UInt8) (t : TypeId) (fr : Nat × Nat) (C : Array Value) (g B : Nat) (hC : C = (u8s l).toArray) (hg : g = w.heap.size) (hB : w.heap.size < B) : Rd (w.alloc (.cells C t fr)) B (some ⟨g, 0, none⟩) l := by
  subst hC; subst hg
  refine .inr ⟨w.heap.size, 0, rfl, hB, fun i c hi => ?_⟩
  rw [Joins.cell_alloc_mark_at w _ t fr _ _ rfl, Nat.zero_add]
  rw [List.getElem?_toArray, u8s_get, hi]; rfl

end Go.Proofs.YtdipflchmooakaaGreatDoor
namespace Go.Gar.Sha

def kL : List Nat := [1116352408, 1899447441, 3049323471, 3921009573, 961987163, 1508970993, 2453635748, 2870763221, 3624381080, 310598401, 607225278, 1426881987, 1925078388, 2162078206, 2614888103, 3248222580, 3835390401, 4022224774, 264347078, 604807628, 770255983, 1249150122, 1555081692, 1996064986, 2554220882, 2821834349, 2952996808, 3210313671, 3336571891, 3584528711, 113926993, 338241895, 666307205, 773529912, 1294757372, 1396182291, 1695183700, 1986661051, 2177026350, 2456956037, 2730485921, 2820302411, 3259730800, 3345764771, 3516065817, 3600352804, 4094571909, 275423344, 430227734, 506948616, 659060556, 883997877, 958139571, 1322822218, 1537002063, 1747873779, 1955562222, 2024104815, 2227730452, 2361852424, 2428436474, 2756734187, 3204031479, 3329325298]
def hL : List Nat := [1779033703, 3144134277, 1013904242, 2773480762, 1359893119, 2600822924, 528734635, 1541459225]
def prL : List Nat := [2, 3, 5, 7, 11, 13, 17, 19, 23, 29, 31, 37, 41, 43, 47, 53, 59, 61, 67, 71, 73, 79, 83, 89, 97, 101, 103, 107, 109, 113, 127, 131, 137, 139, 149, 151, 157, 163, 167, 173, 179, 181, 191, 193, 197, 199, 211, 223, 227, 229, 233, 239, 241, 251, 257, 263, 269, 271, 277, 281, 283, 293, 307, 311]

/-- The primes below n, by trial division. -/
def isP (ps : List Nat) (n : Nat) : Bool := ps.all fun p => n % p != 0
def pr : Nat → List Nat
  | 0 => []
  | k + 1 => if isP (pr k) (k + 2) then pr k ++ [k + 2] else pr k
theorem pr_end : pr 310 = prL := by decide +kernel
theorem pr_less : (pr 309).length = 63 := by decide +kernel
theorem pr_mono (k : Nat) : (pr k).length ≤ (pr (k + 1)).length := by
  simp only [pr]
  split
  · simp
  · exact Nat.le_refl _
theorem pr_le {j k : Nat} (h : j ≤ k) : (pr j).length ≤ (pr k).length := by
  induction k with
  | zero => rw [show j = 0 from by omega]; exact Nat.le_refl _
  | succ k ih =>
    by_cases hj : j = k + 1
    · rw [hj]; exact Nat.le_refl _
    · exact Nat.le_trans (ih (by omega)) (pr_mono k)
theorem pr_short {k : Nat} (h : k ≤ 310) : (pr k).length < 64 ↔ k < 310 := by
  constructor
  · intro hl
    by_cases hk : k = 310
    · rw [hk, pr_end] at hl; exact absurd hl (by decide)
    · omega
  · intro hk
    have := pr_le (j := k) (k := 309) (by omega)
    rw [pr_less] at this
    omega
theorem pr_ge (k : Nat) : ∀ p ∈ pr k, 2 ≤ p := by
  induction k with
  | zero => intro p hp; simp [pr] at hp
  | succ k ih =>
    intro p hp
    simp only [pr] at hp
    split at hp
    · rcases List.mem_append.1 hp with h | h
      · exact ih p h
      · simp at h; omega
    · exact ih p hp
theorem pr_lt (k : Nat) : ∀ p ∈ pr k, p < k + 2 := by
  induction k with
  | zero => intro p hp; simp [pr] at hp
  | succ k ih =>
    intro p hp
    simp only [pr] at hp
    split at hp
    · rcases List.mem_append.1 hp with h | h
      · have := ih p h; omega
      · simp at h; omega
    · have := ih p hp; omega

/-- Roots, bit by bit. -/
def good3 (m p : Nat) : Bool := decide (m * m * m / 18446744073709551616 < p * 4294967296) || (m * m * m / 18446744073709551616 == p * 4294967296 && m * m * m % 18446744073709551616 == 0)
def good2 (m p : Nat) : Bool := decide (m * m / 18446744073709551616 < p) || (m * m / 18446744073709551616 == p && m * m % 18446744073709551616 == 0)
def good (third : Bool) (m p : Nat) : Bool := if third then good3 m p else good2 m p
def rootK (p : Nat) (third : Bool) : Nat → Nat
  | 0 => 0
  | k + 1 => if good third (rootK p third k + 2 ^ (35 - k)) p then rootK p third k + 2 ^ (35 - k) else rootK p third k
def root (p : Nat) (third : Bool) : Nat := rootK p third 36 % 4294967296
theorem rootK_le (p : Nat) (third : Bool) (k : Nat) (hk : k ≤ 36) : rootK p third k + 2 ^ (36 - k) ≤ 2 ^ 36 := by
  induction k with
  | zero => simp [rootK]
  | succ k ih =>
    have h := ih (by omega)
    have e : 2 ^ (36 - k) = 2 ^ (35 - k) + 2 ^ (35 - k) := by rw [show 36 - k = (35 - k) + 1 from by omega, Nat.pow_succ]; omega
    rw [show 36 - (k + 1) = 35 - k from by omega]
    simp only [rootK]
    generalize 2 ^ (35 - k) = c at *
    generalize 2 ^ (36 - k) = d at *
    split <;> omega
theorem kL_root : prL.map (fun p => root p true) = kL := by decide +kernel
theorem hL_root : (prL.take 8).map (fun p => root p false) = hL := by decide +kernel
theorem kL_len : kL.length = 64 := by decide +kernel
theorem hL_len : hL.length = 8 := by decide +kernel
theorem prL_len : prL.length = 64 := by decide +kernel
theorem kL_lt : ∀ k ∈ kL, k < 4294967296 := by decide +kernel
theorem hL_lt : ∀ k ∈ hL, k < 4294967296 := by decide +kernel
theorem prL_lt : ∀ k ∈ prL, k < 312 := by decide +kernel
theorem root_lt (p : Nat) (t : Bool) : root p t < 4294967296 := Nat.mod_lt _ (by omega)

def rotr (x n : Nat) : Nat := x / 2 ^ n ||| x * 2 ^ (32 - n) % 4294967296
theorem rotr_lt (x n : Nat) (hx : x < 4294967296) : rotr x n < 4294967296 :=
  Nat.or_lt_two_pow (n := 32) (Nat.lt_of_le_of_lt (Nat.div_le_self _ _) hx) (Nat.mod_lt _ (by omega))
theorem xor_lt {a b : Nat} (ha : a < 4294967296) (hb : b < 4294967296) : a ^^^ b < 4294967296 := Nat.xor_lt_two_pow (n := 32) ha hb
theorem and_lt {a b : Nat} (ha : a < 4294967296) : a &&& b < 4294967296 := Nat.lt_of_le_of_lt Nat.and_le_left ha

def at8 (m : List UInt8) (k : Nat) : Nat := (m.getD k 0).toNat
theorem at8_lt (m : List UInt8) (k : Nat) : at8 m k < 256 := UInt8.toNat_lt _
/-- Four bytes, the most significant first. -/
def word (m : List UInt8) (k : Nat) : Nat := at8 m k * 16777216 + at8 m (k + 1) * 65536 + at8 m (k + 2) * 256 + at8 m (k + 3)
theorem word_lt (m : List UInt8) (k : Nat) : word m k < 4294967296 := by
  have h0 := at8_lt m k
  have h1 := at8_lt m (k + 1)
  have h2 := at8_lt m (k + 2)
  have h3 := at8_lt m (k + 3)
  unfold word
  omega
def s1 (x : Nat) : Nat := rotr x 17 ^^^ rotr x 19 ^^^ x / 1024
def s0 (x : Nat) : Nat := rotr x 7 ^^^ rotr x 18 ^^^ x / 8
theorem s1_lt (x : Nat) (h : x < 4294967296) : s1 x < 4294967296 := xor_lt (xor_lt (rotr_lt _ _ h) (rotr_lt _ _ h)) (by omega)
theorem s0_lt (x : Nat) (h : x < 4294967296) : s0 x < 4294967296 := xor_lt (xor_lt (rotr_lt _ _ h) (rotr_lt _ _ h)) (by omega)
def wNext (w : List Nat) (t : Nat) : Nat := (s1 (w.getD (t - 2) 0) + w.getD (t - 7) 0 + s0 (w.getD (t - 15) 0) + w.getD (t - 16) 0) % 4294967296
def wStep (m : List UInt8) (p : Nat) (w : List Nat) (t : Nat) : Nat := if t < 16 then word m (p + 4 * t) else wNext w t
/-- The words of the 64 bytes from p on, the first t of them. -/
def wK (m : List UInt8) (p : Nat) : Nat → List Nat
  | 0 => []
  | t + 1 => wK m p t ++ [wStep m p (wK m p t) t]
theorem wK_len (m : List UInt8) (p t : Nat) : (wK m p t).length = t := by
  induction t with
  | zero => rfl
  | succ t ih => simp [wK, ih]
theorem wK_lt (m : List UInt8) (p t : Nat) : ∀ x ∈ wK m p t, x < 4294967296 := by
  induction t with
  | zero => intro x hx; simp [wK] at hx
  | succ t ih =>
    intro x hx
    rw [wK, List.mem_append] at hx
    rcases hx with h | h
    · exact ih x h
    · simp at h
      rw [h, wStep]
      split
      · exact word_lt _ _
      · exact Nat.mod_lt _ (by omega)
theorem getD_lt {l : List Nat} (h : ∀ x ∈ l, x < 4294967296) (i : Nat) : l.getD i 0 < 4294967296 := by
  rw [List.getD_eq_getElem?_getD]
  by_cases hi : i < l.length
  · rw [List.getElem?_eq_getElem hi]; exact h _ (List.getElem_mem hi)
  · rw [List.getElem?_eq_none (by omega)]; show 0 < 4294967296; omega

structure St where
  (a b c d e f g h : Nat)
def St.list (s : St) : List Nat := [s.a, s.b, s.c, s.d, s.e, s.f, s.g, s.h]
def St.ok (s : St) : Prop := ∀ x ∈ s.list, x < 4294967296
theorem St.ok_all {s : St} (h : s.ok) : s.a < 4294967296 ∧ s.b < 4294967296 ∧ s.c < 4294967296 ∧ s.d < 4294967296 ∧ s.e < 4294967296 ∧ s.f < 4294967296 ∧ s.g < 4294967296 ∧ s.h < 4294967296 :=
  ⟨h _ (by simp [St.list]), h _ (by simp [St.list]), h _ (by simp [St.list]), h _ (by simp [St.list]), h _ (by simp [St.list]), h _ (by simp [St.list]), h _ (by simp [St.list]), h _ (by simp [St.list])⟩
theorem St.list_len (s : St) : s.list.length = 8 := rfl
def ch (e f g : Nat) : Nat := (e &&& f) ^^^ ((4294967295 - e) &&& g)
def maj (a b c : Nat) : Nat := (a &&& b) ^^^ (a &&& c) ^^^ (b &&& c)
def e1 (e : Nat) : Nat := rotr e 6 ^^^ rotr e 11 ^^^ rotr e 25
def e0 (a : Nat) : Nat := rotr a 2 ^^^ rotr a 13 ^^^ rotr a 22
theorem e1_lt (x : Nat) (h : x < 4294967296) : e1 x < 4294967296 := xor_lt (xor_lt (rotr_lt _ _ h) (rotr_lt _ _ h)) (rotr_lt _ _ h)
theorem e0_lt (x : Nat) (h : x < 4294967296) : e0 x < 4294967296 := xor_lt (xor_lt (rotr_lt _ _ h) (rotr_lt _ _ h)) (rotr_lt _ _ h)
theorem ch_lt (e f g : Nat) (h : e < 4294967296) : ch e f g < 4294967296 := xor_lt (and_lt h) (and_lt (by omega))
theorem maj_lt (a b c : Nat) (h : a < 4294967296) (hb : b < 4294967296) : maj a b c < 4294967296 := xor_lt (xor_lt (and_lt h) (and_lt h)) (and_lt hb)
def t1 (s : St) (k w : Nat) : Nat := (s.h + e1 s.e + ch s.e s.f s.g + k + w) % 4294967296
def t2 (s : St) : Nat := (e0 s.a + maj s.a s.b s.c) % 4294967296
def step (k w : Nat) (s : St) : St := ⟨(t1 s k w + t2 s) % 4294967296, s.a, s.b, s.c, (s.d + t1 s k w) % 4294967296, s.e, s.f, s.g⟩
theorem step_ok (k w : Nat) {s : St} (h : s.ok) : (step k w s).ok := by
  obtain ⟨h1, h2, h3, h4, h5, h6, h7, h8⟩ := St.ok_all h
  intro x hx
  simp only [St.list, step, List.mem_cons, List.not_mem_nil, or_false] at hx
  rcases hx with rfl | rfl | rfl | rfl | rfl | rfl | rfl | rfl <;> first | assumption | exact Nat.mod_lt _ (by omega)
def vK (w : List Nat) (s : St) : Nat → St
  | 0 => s
  | t + 1 => step (kL.getD t 0) (w.getD t 0) (vK w s t)
theorem vK_ok (w : List Nat) {s : St} (h : s.ok) (t : Nat) : (vK w s t).ok := by
  induction t with
  | zero => exact h
  | succ t ih => exact step_ok _ _ ih
def plus (x y : Nat) : Nat := (x + y) % 4294967296
def St.add (s v : St) : St := ⟨plus s.a v.a, plus s.b v.b, plus s.c v.c, plus s.d v.d, plus s.e v.e, plus s.f v.f, plus s.g v.g, plus s.h v.h⟩
theorem add_ok (s v : St) : (s.add v).ok := by
  intro x hx
  simp only [St.list, St.add, List.mem_cons, List.not_mem_nil, or_false] at hx
  rcases hx with rfl | rfl | rfl | rfl | rfl | rfl | rfl | rfl <;> exact Nat.mod_lt _ (by omega)
/-- The sums, the first i of them made. -/
def addK (s v : List Nat) : Nat → List Nat
  | 0 => s
  | i + 1 => (addK s v i).set i (plus (s.getD i 0) (v.getD i 0))
theorem addK_len (s v : List Nat) (i : Nat) : (addK s v i).length = s.length := by
  induction i with
  | zero => rfl
  | succ i ih => simp [addK, ih]
theorem addK_end (s v : St) : addK s.list v.list 8 = (s.add v).list := rfl
theorem addK_get (s v : List Nat) (i : Nat) : (addK s v i).getD i 0 = s.getD i 0 := by
  suffices H : ∀ k i, i ≤ k → (addK s v i)[k]? = s[k]? by
    simp only [List.getD_eq_getElem?_getD]; rw [H i i (Nat.le_refl _)]
  intro k i
  induction i with
  | zero => intro _; rfl
  | succ i ih => intro hk; rw [addK, List.getElem?_set_ne (by omega), ih (by omega)]
/-- One block: the 64 bytes from p on. -/
def comp (s : St) (m : List UInt8) (p : Nat) : St := s.add (vK (wK m p 64) s 64)
def start : St := ⟨hL.getD 0 0, hL.getD 1 0, hL.getD 2 0, hL.getD 3 0, hL.getD 4 0, hL.getD 5 0, hL.getD 6 0, hL.getD 7 0⟩
theorem start_list : start.list = hL := rfl
theorem start_ok : start.ok := by unfold St.ok; rw [start_list]; exact hL_lt
def hashN (m : List UInt8) : Nat → St
  | 0 => start
  | n + 1 => comp (hashN m n) m (64 * n)
theorem hashN_ok (m : List UInt8) (n : Nat) : (hashN m n).ok := by
  cases n with
  | zero => exact start_ok
  | succ n => exact add_ok _ _
def zeros (l : List UInt8) : Nat := (119 - l.length % 64) % 64
def be8 (n : Nat) : List UInt8 := [UInt8.ofNat (n / 2 ^ 56), UInt8.ofNat (n / 2 ^ 48), UInt8.ofNat (n / 2 ^ 40), UInt8.ofNat (n / 2 ^ 32), UInt8.ofNat (n / 2 ^ 24), UInt8.ofNat (n / 2 ^ 16), UInt8.ofNat (n / 2 ^ 8), UInt8.ofNat n]
def be8K (n : Nat) (k : Nat) : List UInt8 := (List.range k).map fun i => UInt8.ofNat (n / 2 ^ (56 - 8 * i))
theorem be8K_succ (n k : Nat) : be8K n (k + 1) = be8K n k ++ [UInt8.ofNat (n / 2 ^ (56 - 8 * k))] := by simp [be8K, List.range_succ]
theorem be8K_len (n k : Nat) : (be8K n k).length = k := by simp [be8K]
def be4 (n : Nat) : List UInt8 := [UInt8.ofNat (n / 2 ^ 24), UInt8.ofNat (n / 2 ^ 16), UInt8.ofNat (n / 2 ^ 8), UInt8.ofNat n]
def msgK (l : List UInt8) (z : Nat) : List UInt8 := l ++ [128] ++ List.replicate z 0
def msg (l : List UInt8) : List UInt8 := msgK l (zeros l) ++ be8K (8 * l.length) 8
theorem msgK_len (l : List UInt8) (z : Nat) : (msgK l z).length = l.length + 1 + z := by simp [msgK]; omega
theorem msgK_succ (l : List UInt8) (z : Nat) : msgK l z ++ [0] = msgK l (z + 1) := by
  simp [msgK, List.replicate_succ']
theorem msgK_test (l : List UInt8) (z : Nat) (hz : z ≤ zeros l) : (msgK l z).length % 64 = 56 ↔ z = zeros l := by
  rw [msgK_len]
  unfold zeros at *
  omega
theorem msg_len (l : List UInt8) : (msg l).length % 64 = 0 := by
  have := (msgK_test l (zeros l) (Nat.le_refl _)).2 rfl
  rw [msg, List.length_append, be8K_len]
  omega
def outK (s : List Nat) (i : Nat) : List UInt8 := (s.take i).flatMap be4
theorem outK_succ (s : List Nat) (i : Nat) (h : i < s.length) : outK s (i + 1) = outK s i ++ be4 (s.getD i 0) := by
  have e : s.getD i 0 = s[i] := by rw [List.getD_eq_getElem?_getD, List.getElem?_eq_getElem h]; rfl
  rw [outK, outK, List.take_succ_eq_append_getElem h, List.flatMap_append, e]
  rfl
def out (s : St) : List UInt8 := outK s.list 8
/-- The digest. -/
def of (l : List UInt8) : List UInt8 := out (hashN (msg l) ((msg l).length / 64))
theorem outK_len (s : List Nat) : ∀ i, i ≤ s.length → (outK s i).length = 4 * i := by
  intro i
  induction i with
  | zero => intro _; simp [outK]
  | succ i ih => intro h; rw [outK_succ s i (by omega), List.length_append, ih (by omega)]; show 4 * i + 4 = _; omega
theorem of_len (l : List UInt8) : (of l).length = 32 := outK_len _ 8 (by simp [St.list_len])
theorem of_abc : of [97, 98, 99] = [186, 120, 22, 191, 143, 1, 207, 234, 65, 65, 64, 222, 93, 174, 34, 35, 176, 3, 97, 163, 150, 23, 122, 156, 180, 16, 255, 97, 242, 0, 21, 173] := by decide +kernel
/-- A block taken out of the message by itself. -/
theorem at8_block (m : List UInt8) (p k : Nat) (hk : k < 64) : at8 ((m.drop p).take 64) k = at8 m (p + k) := by
  unfold at8
  simp only [List.getD_eq_getElem?_getD, List.getElem?_take, hk, if_true, List.getElem?_drop]
theorem word_block (m : List UInt8) (p k : Nat) (hk : k + 3 < 64) : word ((m.drop p).take 64) k = word m (p + k) := by
  unfold word
  rw [at8_block m p k (by omega), at8_block m p (k + 1) (by omega), at8_block m p (k + 2) (by omega), at8_block m p (k + 3) (by omega)]
  rfl
theorem wK_block (m : List UInt8) (p : Nat) : ∀ t, wK ((m.drop p).take 64) 0 t = wK m p t
  | 0 => rfl
  | t + 1 => by
    rw [wK, wK, wK_block m p t, wStep, wStep]
    by_cases ht : t < 16
    · rw [if_pos ht, if_pos ht, word_block m p (0 + 4 * t) (by omega), Nat.zero_add]
    · rw [if_neg ht, if_neg ht]
theorem comp_block (s : St) (m : List UInt8) (p : Nat) : comp s ((m.drop p).take 64) 0 = comp s m p := by
  unfold comp
  rw [wK_block]
end Go.Gar.Sha
