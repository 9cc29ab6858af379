/-
  What is asked of aes's functions (contracts); an array argument. Cipher block chaining with padding, as plain mathematics on lists of bytes. Of no program. Layer 7: what is asked of cbc's functions (contracts). The mathematics of layer 6: the code of a message by a key. Of no program. Layer 6: what is asked of mac's functions (a contract, over whatever the packages' own tables may be). Keys in memory: a struct of two arrays. Of no program. The numbers of an int. Of no program.
-/
import Derived.Test.YtjhkodmaalefiaaDoorSealJ08
import Derived.Test.YtjhkodmaalefiaaDoorSealJ02
import Derived.Test.YtjhkodmaalefiaaDoorSealJ03
import Derived.Test.YtjhkodmaalefiaaDoorSealJ04
import Derived.Laws.StructEq
import Derived.IntWalk
set_option maxRecDepth 100000
namespace Go.Gar
open Go.ChangeShapes Go.WideShapes Go.ChangeAt Go.RowKit
/-- An array of bytes by value. -/
theorem open_arr {H : Type} {enc : TypeId × Value → H} {P : Program} {t e : TypeId} {n : Nat} (ht : P.underlying t = some (.array n e)) (he : P.underlying e = some (.int .u8)) (hce : P.cellsOf e = 1) (hct : P.cellsOf t = n) {W : World} {base : Nat} {v : Value} {d : DataW H} {p : List MemPlace}
    (hok : Value.okWide P W .any base t v) (h : DataW.Trod enc P W 0 (fun _ => true) true t v d p) : ∃ l : List UInt8, l.length = n ∧ v = .agg (u8s l).toArray := by
  simp only [Value.okWide, ht] at hok
  obtain ⟨cs, rfl, h2, _⟩ := hok
  rw [hct] at h2
  obtain ⟨fuel, hf⟩ := h
  obtain ⟨xs, m, _, _, _, hx, hall⟩ := DataW.trod_array ht hf
  have key : ∀ i, i < n → ∃ z : UInt8, cs.toList[i]? = some (.int .u8 (z.toNat : Int)) := by
    intro i hi
    have h3 := hall i hi
    rw [hce, Nat.mul_one, List.getElem?_eq_getElem (by omega)] at h3
    obtain ⟨q, hq, _, hw⟩ := DataW.trod_int he h3
    have hb := bounds_u8 hw
    have h4 : ((Value.agg cs).cells.toList.drop i).take 1 = [.int .u8 q] := hq
    have h5 : cs.toList[i]? = some (.int .u8 q) := by
      have h6 : (((Value.agg cs).cells.toList.drop i).take 1)[0]? = some (.int .u8 q) := by rw [h4]; rfl
      simpa [Value.cells] using h6
    refine ⟨UInt8.ofNat q.toNat, ?_⟩
    rw [h5]
    congr 2
    simp
    omega
  refine ⟨cs.toList.map (fun u => match u with | .int _ z => UInt8.ofNat z.toNat | _ => 0), by simp [h2], ?_⟩
  congr 1
  apply Array.ext'
  apply List.ext_getElem?
  intro i
  by_cases hi : i < n
  · obtain ⟨z, hz⟩ := key i hi
    rw [hz, u8s_get, List.getElem?_map, hz]
    simp
  · rw [List.getElem?_eq_none (by simp [h2]; omega), List.getElem?_eq_none (by simp [u8s_len, h2]; omega)]
/-- copy of as many bytes as both slices have. -/
theorem run_copy_min {P : Program} {w : World} (dT sT ty e : TypeId) (hu : P.underlying dT = some (.slice e)) (hs : (P.info? e).map (·.size) = some 1) (g dLen dCap sCap : Nat) (A : Option Addr) (l : List UInt8) (B : Nat)
    (hr : Rd w B A l) (cs : List Value) (t : TypeId) (hg : Blk w g t cs) (hfit : dLen ≤ cs.length) :
    (Builtin.copy_ #[dT, sT] ty #[.slice (some ⟨g, 0, none⟩) dLen dCap, .slice A l.length sCap]).run P w = .ok (goInt ((min l.length dLen : Nat) : Int)) (w.setRow g (u8s (l.take dLen) ++ cs.drop (min l.length dLen)).toArray) := by
  rcases hr with rfl | ⟨b, o, rfl, _, hc⟩
  · rw [run_copy_none w dT sT ty e _ _ _ _ _ _ hu hs (by simp)]
    have := setRow_self w g cs.toArray t (0, 0) hg
    simp only [List.length_nil, u8s, List.map_nil, List.drop_zero, List.nil_append, List.take_nil, Nat.zero_min]
    rw [this]
    rfl
  · have hlen : (u8s (l.take dLen)).length = min l.length dLen := by rw [u8s_len, List.length_take, Nat.min_comm]
    have h := run_copy_row (P := P) w dT sT ty e g 0 dLen dCap ⟨b, o, none⟩ l.length sCap cs.toArray t (u8s (l.take dLen)) hu hs hg hlen ?_ (by rw [hlen]; simp; omega) (u8s_one _)
    · rw [h, hlen]
      simp
    · intro j v hj
      rw [u8s_get] at hj
      cases hq : (l.take dLen)[j]? with
      | none => simp [hq] at hj
      | some c =>
        rw [hq] at hj
        simp at hj
        subst hj
        have : (⟨b, o, none⟩ : Addr).add j = ⟨b, o + j, none⟩ := Addr.add_lit _ _ _
        rw [this]
        refine hc j c ?_
        rw [List.getElem?_take] at hq
        split at hq
        · exact hq
        · cases hq
end Go.Gar
namespace Go.Proofs.YtjhkodmaalefiaaDoor
open Go.ChangeShapes Go.WideShapes Go.ChangeAt Go.RowKit Go.Gar Go.Gar.Aes

theorem Tryd.und16 : Tryd.prog.underlying 25 = some (.array 16 5) := by kernel_rfl
theorem Tryd.size16 : (Tryd.prog.info? 25).map (·.size) = some 16 := by kernel_rfl
theorem Tryd.plain5 : Tryd.prog.plainKey 5 = true := by kernel_rfl
theorem Tryd.cells5 : Tryd.prog.cellsOf 5 = 1 := by kernel_rfl
theorem Tryd.cells16 : Tryd.prog.cellsOf 25 = 16 := by kernel_rfl
theorem Tryd.guard16 : Tryd.prog.eqGuardType Tryd.prog.depth 25 = false := by kernel_rfl

structure AesOK (Rep : World → Nat → List UInt8 → Prop) : Prop where
  stay : ∀ {w w' : World} {gc : Nat} {key : List UInt8}, Rep w gc key → Below w.heap.size w w' → Rep w' gc key
  new_yes : ∀ (w : World) (A : Option Addr) (key : List UInt8) (len cap : Nat), sizeOk key.length → len = key.length → key.length ≤ cap → Rd w w.heap.size A key →
    Calls Tryd.prog 34 #[.slice A len cap] w fun e w' => ∃ gc, e = .returned (.tuple #[.pointer (some ⟨gc, 0, none⟩), .int .i64 0]) ∧ Rep w' gc key ∧ Below w.heap.size w w'
  new_no : ∀ (w : World) (A : Option Addr) (len cap : Nat), ¬ sizeOk len →
    Calls Tryd.prog 34 #[.slice A len cap] w fun e w' => e = .returned (.tuple #[.pointer none, .int .i64 1]) ∧ Below w.heap.size w w'
  enc : ∀ (w : World) (gc : Nat) (key l : List UInt8), sizeOk key.length → Rep w gc key → l.length = 16 →
    Calls Tryd.prog 37 #[.pointer (some ⟨gc, 0, none⟩), .agg (u8s l).toArray] w fun e w' => e = .returned (.agg (u8s (encrypt key l)).toArray) ∧ Below w.heap.size w w'
  dec : ∀ (w : World) (gc : Nat) (key l : List UInt8), sizeOk key.length → Rep w gc key → l.length = 16 →
    Calls Tryd.prog 48 #[.pointer (some ⟨gc, 0, none⟩), .agg (u8s l).toArray] w fun e w' => e = .returned (.agg (u8s (decrypt key l)).toArray) ∧ Below w.heap.size w w'
  enc_nil : ∀ (w : World) (l : List UInt8), l.length = 16 →
    Calls Tryd.prog 37 #[.pointer none, .agg (u8s l).toArray] w fun e w' => e = .returned (.agg (u8s l).toArray) ∧ Below w.heap.size w w'
  dec_nil : ∀ (w : World) (l : List UInt8), l.length = 16 →
    Calls Tryd.prog 48 #[.pointer none, .agg (u8s l).toArray] w fun e w' => e = .returned (.agg (u8s l).toArray) ∧ Below w.heap.size w w'

/-- A key made of any bytes: cut or filled up with zeros. -/
def fit (key : List UInt8) (n : Nat) : List UInt8 := key.take n ++ List.replicate (n - key.length) 0
theorem fit_len (key : List UInt8) (n : Nat) : (fit key n).length = n := by simp [fit]; omega

theorem run_eq16 (a b : List UInt8) (ha : a.length = 16) (hb : b.length = 16) (w : World) : (Op.equalIn 10000 25 (.agg (u8s a).toArray) (.agg (u8s b).toArray)).run Tryd.prog w = .ok (decide (a = b)) w :=
  run_equalIn_u8s Tryd.und16 Tryd.plain5 Tryd.und5 Tryd.cells5 9998 a b ha hb
theorem size16 (l : List UInt8) (h : l.length = 16) : (Tryd.prog.info? 25).map (·.size) = some (u8s l).length := by rw [u8s_len, h]; exact Tryd.size16
theorem fit_ok (key : List UInt8) (n : Nat) : sizeOk (fit key (16 + 8 * (n % 3))).length := by
  rw [fit_len]; unfold sizeOk; omega

section
variable {Rep : World → Nat → List UInt8 → Prop}
theorem AesOK.enc_at (h : AesOK Rep) (w : World) (gc : Nat) (key l : List UInt8) (x : Array Value) (hx : x = (u8s l).toArray) (hk : sizeOk key.length) (hr : Rep w gc key) (hl : l.length = 16) :
    Calls Tryd.prog 37 #[.pointer (some ⟨gc, 0, none⟩), .agg x] w fun e w' => ∃ y, e = .returned (.agg y) ∧ y = (u8s (encrypt key l)).toArray ∧ Below w.heap.size w w' := by
  subst hx
  exact (h.enc w gc key l hk hr hl).mono fun e w' he => ⟨_, he.1, rfl, he.2⟩
theorem AesOK.dec_at (h : AesOK Rep) (w : World) (gc : Nat) (key l : List UInt8) (x : Array Value) (hx : x = (u8s l).toArray) (hk : sizeOk key.length) (hr : Rep w gc key) (hl : l.length = 16) :
    Calls Tryd.prog 48 #[.pointer (some ⟨gc, 0, none⟩), .agg x] w fun e w' => ∃ y, e = .returned (.agg y) ∧ y = (u8s (decrypt key l)).toArray ∧ Below w.heap.size w w' := by
  subst hx
  exact (h.dec w gc key l hk hr hl).mono fun e w' he => ⟨_, he.1, rfl, he.2⟩
theorem AesOK.enc_nil_at (h : AesOK Rep) (w : World) (l : List UInt8) (x : Array Value) (hx : x = (u8s l).toArray) (hl : l.length = 16) :
    Calls Tryd.prog 37 #[.pointer none, .agg x] w fun e w' => e = .returned (.agg x) ∧ Below w.heap.size w w' := by
  subst hx
  exact h.enc_nil w l hl
theorem AesOK.dec_nil_at (h : AesOK Rep) (w : World) (l : List UInt8) (x : Array Value) (hx : x = (u8s l).toArray) (hl : l.length = 16) :
    Calls Tryd.prog 48 #[.pointer none, .agg x] w fun e w' => e = .returned (.agg x) ∧ Below w.heap.size w w' := by
  subst hx
  exact h.dec_nil w l hl
end
theorem eq16_at (a b : List UInt8) (x y : Array Value) (hx : x = (u8s a).toArray) (hy : y = (u8s b).toArray) (ha : a.length = 16) (hb : b.length = 16) (r : Bool) (hr : decide (a = b) = r) (w : World) : (Op.equalIn 10000 25 (.agg x) (.agg y)).run Tryd.prog w = .ok r w := by
  subst hx; subst hy; subst hr
  exact run_eq16 a b ha hb w
theorem load16 {w : World} {g : Nat} (l : List UInt8) (x : Array Value) (hx : x = (u8s l).toArray) (hl : l.length = 16) (h : Blk w g 25 x.toList) :
    ∀ W : Later grows w, (Instr.loadAt 25 (.pointer (some ⟨g, 0, none⟩))).run Tryd.prog W.to = .ok (.agg x) W.to := by
  intro W
  have := load_arr_later (P := Tryd.prog) Tryd.und16 (by rw [hx, List.toList_toArray]; exact size16 l hl) h W
  rw [Array.toArray_toList] at this
  exact this

end Go.Proofs.YtjhkodmaalefiaaDoor
namespace Go.Gar.Cbc
open Go.Gar Go.Gar.Aes

/-- The 16 bytes of number j. -/
def blk (m : List UInt8) (j : Nat) : List UInt8 := (m.drop (16 * j)).take 16
theorem blk_len (m : List UInt8) (j : Nat) (h : 16 * j + 16 ≤ m.length) : (blk m j).length = 16 := by
  rw [blk, List.length_take, List.length_drop]; omega
theorem blk_app (a b : List UInt8) (j : Nat) (h : 16 * j + 16 ≤ a.length) : blk (a ++ b) j = blk a j := by
  unfold blk
  rw [List.drop_append, List.take_append, List.length_drop, show 16 - (a.length - 16 * j) = 0 from by omega, List.take_zero, List.append_nil]
theorem blk_end (a b : List UInt8) (j : Nat) (h : a.length = 16 * j) (hb : b.length = 16) : blk (a ++ b) j = b := by
  unfold blk
  rw [← h, List.drop_left, List.take_of_length_le (by omega)]
theorem take_blk (m : List UInt8) (j : Nat) : m.take (16 * j) ++ blk m j = m.take (16 * (j + 1)) := by
  rw [blk, show 16 * (j + 1) = 16 * j + 16 from by omega, List.take_add]

section
variable (key iv m : List UInt8)
/-- The block that is mixed into block j: iv, or what came before, encrypted. -/
def last : Nat → List UInt8
  | 0 => iv
  | j + 1 => encrypt key (addK (blk m j) (last j))
def outK : Nat → List UInt8
  | 0 => []
  | j + 1 => outK j ++ last key iv m (j + 1)
theorem last_len (h : iv.length = 16) : ∀ j, (last key iv m j).length = 16
  | 0 => h
  | _ + 1 => encrypt_len _ _
theorem outK_len : ∀ j, (outK key iv m j).length = 16 * j
  | 0 => rfl
  | j + 1 => by rw [outK, List.length_append, outK_len j, last, encrypt_len]; omega
theorem outK_blk : ∀ N j, j < N → blk (outK key iv m N) j = last key iv m (j + 1)
  | 0, _, h => by omega
  | N + 1, j, h => by
    by_cases hj : j = N
    · subst hj
      rw [outK]
      exact blk_end _ _ _ (outK_len key iv m j) (by rw [last]; exact encrypt_len _ _)
    · rw [outK, blk_app _ _ _ (by rw [outK_len]; omega), outK_blk N j (by omega)]
/-- The block before block j of what is to be opened. -/
def prev (c : List UInt8) : Nat → List UInt8
  | 0 => iv
  | j + 1 => blk c j
def opK (c : List UInt8) : Nat → List UInt8
  | 0 => []
  | j + 1 => opK c j ++ addK (decrypt key (blk c j)) (prev iv c j)
theorem opK_len (c : List UInt8) : ∀ j, (opK key iv c j).length = 16 * j
  | 0 => rfl
  | j + 1 => by rw [opK, List.length_append, opK_len c j, addK_len]; omega
theorem opK_blk (c : List UInt8) : ∀ N j, j < N → blk (opK key iv c N) j = addK (decrypt key (blk c j)) (prev iv c j)
  | 0, _, h => by omega
  | N + 1, j, h => by
    by_cases hj : j = N
    · subst hj
      rw [opK, blk_end _ _ _ (opK_len key iv c j) (addK_len _ _)]
    · rw [opK, blk_app _ _ _ (by rw [opK_len]; omega), opK_blk c N j (by omega)]
theorem prev_out (N : Nat) : ∀ j, j ≤ N → prev iv (outK key iv m N) j = last key iv m j
  | 0, _ => rfl
  | j + 1, h => by rw [prev, outK_blk key iv m N j (by omega)]
theorem op_out (N : Nat) (hm : 16 * N ≤ m.length) : ∀ j, j ≤ N → opK key iv (outK key iv m N) j = m.take (16 * j)
  | 0, _ => by simp [opK]
  | j + 1, h => by
    rw [opK, op_out N hm j (by omega), outK_blk key iv m N j (by omega), prev_out key iv m N j (by omega), last, decrypt_encrypt _ _ (addK_len _ _), addK_addK _ _ (blk_len m j (by omega)), take_blk]
theorem last_op (c : List UInt8) (N : Nat) (hc : 16 * N ≤ c.length) (hiv : iv.length = 16) : ∀ j, j ≤ N → last key iv (opK key iv c N) j = prev iv c j
  | 0, _ => rfl
  | j + 1, h => by
    rw [last, last_op c N hc hiv j (by omega), opK_blk key iv c N j (by omega), addK_addK _ _ (decrypt_len _ _), encrypt_decrypt _ _ (blk_len c j (by omega)), prev]
theorem out_op (c : List UInt8) (N : Nat) (hc : 16 * N ≤ c.length) (hiv : iv.length = 16) : ∀ j, j ≤ N → outK key iv (opK key iv c N) j = c.take (16 * j)
  | 0, _ => by simp [outK]
  | j + 1, h => by rw [outK, out_op c N hc hiv j (by omega), last_op key iv c N hc hiv (j + 1) h, prev, take_blk]
end

/-- Filled up. -/
def fillN (b : List UInt8) : Nat := 16 - b.length % 16
def padK (b : List UInt8) (k : Nat) : List UInt8 := b ++ List.replicate k (UInt8.ofNat (fillN b))
def pad (b : List UInt8) : List UInt8 := padK b (fillN b)
theorem padK_len (b : List UInt8) (k : Nat) : (padK b k).length = b.length + k := by simp [padK]
theorem padK_succ (b : List UInt8) (k : Nat) : padK b k ++ [UInt8.ofNat (fillN b)] = padK b (k + 1) := by simp [padK, List.replicate_succ']
theorem pad_len (b : List UInt8) : (pad b).length = b.length / 16 * 16 + 16 := by
  rw [pad, padK_len, fillN]; omega
theorem fillN_lt (b : List UInt8) : 1 ≤ fillN b ∧ fillN b ≤ 16 := by unfold fillN; omega
/-- The number in the last byte. -/
def endN (o : List UInt8) : Nat := (at_ o (o.length - 1)).toNat
/-- Are the last n bytes all n? -/
def filled (o : List UInt8) (n : Nat) : Prop := ∀ i, i < n → (at_ o (o.length - 1 - i)).toNat = n
instance (o : List UInt8) (n : Nat) : Decidable (filled o n) := inferInstanceAs (Decidable (∀ i, i < n → _))
def unpad (o : List UInt8) : Option (List UInt8) := if 1 ≤ endN o ∧ endN o ≤ 16 ∧ filled o (endN o) then some (o.take (o.length - endN o)) else none
theorem at_right (a b : List UInt8) (i : Nat) (h : a.length ≤ i) : at_ (a ++ b) i = at_ b (i - a.length) := by
  unfold at_
  rw [List.getD_eq_getElem?_getD, List.getD_eq_getElem?_getD, List.getElem?_append_right h]
theorem at_rep (n i : Nat) (c : UInt8) (h : i < n) : at_ (List.replicate n c) i = c := by
  unfold at_
  rw [List.getD_eq_getElem?_getD, List.getElem?_replicate, if_pos h]; rfl
theorem unpad_pad (b : List UInt8) : unpad (pad b) = some b := by
  have hf := fillN_lt b
  have hv : (UInt8.ofNat (fillN b)).toNat = fillN b := by simp; omega
  have hl : (pad b).length = b.length + fillN b := padK_len b _
  have ha : ∀ i, i < fillN b → (at_ (pad b) ((pad b).length - 1 - i)).toNat = fillN b := by
    intro i hi
    rw [hl, pad, padK, at_right _ _ _ (by omega), at_rep _ _ _ (by omega), hv]
  have he : endN (pad b) = fillN b := by have := ha 0 (by omega); rwa [Nat.sub_zero] at this
  rw [unpad, he, if_pos ⟨hf.1, hf.2, ha⟩, hl, Nat.add_sub_cancel, pad, padK, List.take_left]
theorem pad_unpad (o z : List UInt8) (ho : o.length % 16 = 0) (h16 : 16 ≤ o.length) (h : unpad o = some z) : pad z = o := by
  unfold unpad at h
  split at h
  · rename_i hc
    obtain ⟨h1, h2, h3⟩ := hc
    injection h with h
    subst h
    have hzl : (o.take (o.length - endN o)).length = o.length - endN o := by rw [List.length_take]; omega
    have hfn : fillN (o.take (o.length - endN o)) = endN o := by unfold fillN; rw [hzl]; omega
    rw [pad, padK, hfn]
    apply List.ext_getElem?
    intro i
    by_cases hi : i < o.length - endN o
    · rw [List.getElem?_append_left (by rw [hzl]; exact hi), List.getElem?_take, if_pos hi]
    · rw [List.getElem?_append_right (by rw [hzl]; omega), hzl, List.getElem?_replicate]
      by_cases hi2 : i < o.length
      · rw [if_pos (by omega)]
        have hx := h3 (o.length - 1 - i) (by omega)
        rw [show o.length - 1 - (o.length - 1 - i) = i from by omega, at_, List.getD_eq_getElem?_getD, List.getElem?_eq_getElem hi2] at hx
        rw [List.getElem?_eq_getElem hi2]
        simp only [Option.getD_some] at hx
        congr 1
        rw [← hx]
        simp
      · rw [if_neg (by omega), List.getElem?_eq_none (by omega)]
  · cases h
def seal_ (key iv b : List UInt8) : List UInt8 := outK key iv (pad b) (b.length / 16 + 1)
theorem seal_len (key iv b : List UInt8) : (seal_ key iv b).length = b.length / 16 * 16 + 16 := by rw [seal_, outK_len]; omega
def open_ (key iv c : List UInt8) : Option (List UInt8) := if 16 ≤ c.length ∧ c.length % 16 = 0 then unpad (opK key iv c (c.length / 16)) else none
theorem open_seal (key iv b : List UInt8) : open_ key iv (seal_ key iv b) = some b := by
  have hl := seal_len key iv b
  have hp := pad_len b
  rw [open_, if_pos (by omega), show (seal_ key iv b).length / 16 = b.length / 16 + 1 from by omega, seal_, op_out _ _ _ _ (by omega) _ (Nat.le_refl _), List.take_of_length_le (by omega), unpad_pad]
theorem seal_open (key iv c z : List UInt8) (hiv : iv.length = 16) (h : open_ key iv c = some z) : seal_ key iv z = c := by
  unfold open_ at h
  split at h
  · rename_i hc
    have hol := opK_len key iv c (c.length / 16)
    have hp := pad_unpad _ z (by omega) (by omega) h
    have hpl := pad_len z
    rw [hp, hol] at hpl
    rw [seal_, hp, show z.length / 16 + 1 = c.length / 16 from by omega, out_op key iv c (c.length / 16) (by omega) hiv _ (Nat.le_refl _), List.take_of_length_le (by omega)]
  · cases h
end Go.Gar.Cbc
namespace Go.Proofs.YtjhkodmaalefiaaDoor
open Go.ChangeShapes Go.WideShapes Go.ChangeAt Go.RowKit Go.Gar Go.Gar.Aes

/-- A slice that reads as the bytes l. -/
def Out (w : World) (v : Value) (l : List UInt8) : Prop := ∃ A c, v = .slice A l.length c ∧ l.length ≤ c ∧ Rd w w.heap.size A l
theorem Out.below {w w' : World} {v : Value} {l : List UInt8} (h : Out w v l) (hb : Below w.heap.size w w') : Out w' v l := by
  obtain ⟨A, c, h1, h2, h3⟩ := h
  exact ⟨A, c, h1, h2, (h3.below hb).more hb.size⟩
/-- What Seal and Open answer: bytes, and an error's number. -/
def sealB (key iv b : List UInt8) : List UInt8 := if key.length = 16 ∨ key.length = 24 ∨ key.length = 32 then Cbc.seal_ key iv b else []
def sealE (key : List UInt8) : Nat := if key.length = 16 ∨ key.length = 24 ∨ key.length = 32 then 0 else 1
def openB (key iv c : List UInt8) : List UInt8 := if key.length = 16 ∨ key.length = 24 ∨ key.length = 32 then (Cbc.open_ key iv c).getD [] else []
def openE (key iv c : List UInt8) : Nat := if key.length = 16 ∨ key.length = 24 ∨ key.length = 32 then (if (Cbc.open_ key iv c).isSome then 0 else 12) else 1
structure CbcOK : Prop where
  seal_ : ∀ (w : World) (K A : Option Addr) (key iv b : List UInt8) (kc bc : Nat), Rd w w.heap.size K key → Rd w w.heap.size A b → iv.length = 16 → key.length ≤ kc → b.length ≤ bc → b.length ≤ 1048576 →
    Calls Tryd.prog 18 #[.slice K key.length kc, .agg (u8s iv).toArray, .slice A b.length bc] w fun e w' => ∃ v, e = .returned (.tuple #[v, .int .i64 ((sealE key : Nat) : Int)]) ∧ Out w' v (sealB key iv b) ∧ Below w.heap.size w w'
  open_ : ∀ (w : World) (K A : Option Addr) (key iv b : List UInt8) (kc bc : Nat), Rd w w.heap.size K key → Rd w w.heap.size A b → iv.length = 16 → key.length ≤ kc → b.length ≤ bc → b.length ≤ 1048576 →
    Calls Tryd.prog 28 #[.slice K key.length kc, .agg (u8s iv).toArray, .slice A b.length bc] w fun e w' => ∃ v, e = .returned (.tuple #[v, .int .i64 ((openE key iv b : Nat) : Int)]) ∧ Out w' v (openB key iv b) ∧ Below w.heap.size w w'
end Go.Proofs.YtjhkodmaalefiaaDoor
namespace Go.Gar.Mac

/-- The key, or its digest. -/
def key0 (key : List UInt8) : List UInt8 := if 64 < key.length then Sha.of key else key
theorem key0_len (key : List UInt8) : (key0 key).length ≤ 64 := by
  unfold key0
  split
  · rw [Sha.of_len]; omega
  · omega
/-- Filled up with zeros. -/
def pad (key : List UInt8) : List UInt8 := key0 key ++ List.replicate (64 - (key0 key).length) 0
theorem pad_len (key : List UInt8) : (pad key).length = 64 := by
  have := key0_len key
  simp [pad]; omega
def xs (c : UInt8) (k : List UInt8) : List UInt8 := k.map (· ^^^ c)
theorem xs_len (c : UInt8) (k : List UInt8) : (xs c k).length = k.length := List.length_map _
def of (key b : List UInt8) : List UInt8 := Sha.of (xs 92 (pad key) ++ Sha.of (xs 54 (pad key) ++ b))
theorem of_len (key b : List UInt8) : (of key b).length = 32 := Sha.of_len _
/-- A key with zeros behind, up to 64 bytes, is the same. -/
theorem pad_wide (key : List UInt8) (h : key.length ≤ 64) : pad (key ++ List.replicate (64 - key.length) 0) = pad key := by
  have h0 : key0 key = key := if_neg (by omega)
  have h1 : key0 (key ++ List.replicate (64 - key.length) 0) = key ++ List.replicate (64 - key.length) 0 := if_neg (by simp; omega)
  unfold pad
  rw [h0, h1]
  have : 64 - (key ++ List.replicate (64 - key.length) (0 : UInt8)).length = 0 := by simp; omega
  rw [this, List.replicate_zero, List.append_nil]
theorem of_wide (key b : List UInt8) (h : key.length ≤ 64) : of (key ++ List.replicate (64 - key.length) 0) b = of key b := by
  unfold of
  rw [pad_wide key h]
/-- Loop 1 of the reference. -/
def fill (k : List UInt8) (n : Nat) : List UInt8 := k ++ List.replicate n 0
theorem fill_more (k : List UInt8) (n : Nat) : fill k n ++ [0] = fill k (n + 1) := by
  unfold fill
  rw [List.append_assoc, List.replicate_succ']
/-- Loop 2 of the reference. -/
theorem xs_take (c : UInt8) (k : List UInt8) (i : Nat) (x : UInt8) (h : k[i]? = some x) : xs c (k.take i) ++ [x ^^^ c] = xs c (k.take (i + 1)) := by
  unfold xs
  rw [List.take_add_one, h, List.map_append]
  rfl
/-- The document's example. -/
def foxK : List UInt8 := [107, 101, 121]
def foxM : List UInt8 := [84, 104, 101, 32, 113, 117, 105, 99, 107, 32, 98, 114, 111, 119, 110, 32, 102, 111, 120, 32, 106, 117, 109, 112, 115, 32, 111, 118, 101, 114, 32, 116, 104, 101, 32, 108, 97, 122, 121, 32, 100, 111, 103]
theorem fox : of foxK foxM = [247, 188, 131, 244, 48, 83, 132, 36, 177, 50, 152, 230, 170, 111, 177, 67, 239, 77, 89, 161, 73, 70, 23, 89, 151, 71, 157, 188, 45, 26, 60, 216] := by decide +kernel
end Go.Gar.Mac
namespace Go.Proofs.YtjhkodmaalefiaaDoor
open Go.RowKit Go.Gar

structure MacOK (G : World → Prop) : Prop where
  keep : ∀ {w w' : World}, G w → Below w.heap.size w w' → G w'
  of : ∀ (w : World) (K : Option Addr) (key : List UInt8) (kcap : Nat) (A : Option Addr) (ps : List Part) (cap : Nat), G w → Rd w w.heap.size K key → key.length ≤ kcap → key.length ≤ 1048576 → Cells w w.heap.size A (ps.map partV) → (∀ p ∈ ps, Rd w w.heap.size p.1 p.2.1 ∧ p.2.1.length ≤ p.2.2) → (cat ps).length ≤ 1000000 → ps.length ≤ 900 →
    Calls Tryd.prog 17 #[.slice K key.length kcap, .slice A ps.length cap] w fun e w' => e = .returned (.agg (u8s (Mac.of key (cat ps))).toArray) ∧ Below w.heap.size w w'
  equal : ∀ (w : World) (A B : Option Addr) (a b : List UInt8) (ac bc : Nat), G w → Rd w w.heap.size A a → Rd w w.heap.size B b → a.length ≤ ac → b.length ≤ bc → a.length ≤ 9223372036854775807 → b.length ≤ 9223372036854775807 →
    Calls Tryd.prog 45 #[.slice A a.length ac, .slice B b.length bc] w fun e w' => e = .returned (.bool (decide (a = b))) ∧ Below w.heap.size w w'

theorem mac1 {G : World → Prop} (hOK : MacOK G) (K A : Option Addr) (key l : List UInt8) (kl kc n c g : Nat) (w : World) (x : Array Value) (hx : x = (u8s (Mac.of key l)).toArray) (hG : G w) (hg : g = w.heap.size) (hkl : kl = key.length) (hn : n = l.length) (hkc : key.length ≤ kc) (rK : Rd w w.heap.size K key) (rA : Rd w w.heap.size A l) (hs1 : key.length ≤ 1048576) (hs : l.length ≤ 1000000) (hc : l.length ≤ c) :
    Calls Tryd.prog 17 #[.slice K kl kc, .slice (some ⟨g, 0, none⟩) 1 1] (w.alloc (.cells #[.slice A n c] 26)) fun e w' => e = .returned (.agg x) ∧ Below w.heap.size w w' := by
  subst hkl; subst hn; subst hg; subst hx
  have hb := Blk.new w 26 [.slice A l.length c]
  have hbl := below_alloc w (.cells #[.slice A l.length c] 26)
  have h := hOK.of (w.alloc (.cells #[.slice A l.length c] 26)) K key kc (some ⟨w.heap.size, 0, none⟩) [(A, l, c)] 1 (hOK.keep hG hbl) ((rK.alloc (Nat.le_refl _) _).more (by simp)) hkc hs1 (by simpa [partV] using Cells.of_blk hb) (by
    intro p hp
    simp at hp
    subst hp
    exact ⟨(rA.alloc (Nat.le_refl _) _).more (by simp), hc⟩) (by simpa [cat] using hs) (by simp)
  refine h.mono fun e w' ⟨h1, h2⟩ => ⟨by simpa [cat] using h1, hbl.trans (h2.mono hbl.size)⟩
theorem mac2 {G : World → Prop} (hOK : MacOK G) (K A1 A2 : Option Addr) (key l1 l2 : List UInt8) (kl kc n1 n2 c1 c2 g : Nat) (w : World) (x : Array Value) (hx : x = (u8s (Mac.of key (l1 ++ l2))).toArray) (hG : G w) (hg : g = w.heap.size) (hkl : kl = key.length) (hn1 : n1 = l1.length) (hn2 : n2 = l2.length) (hkc : key.length ≤ kc) (rK : Rd w w.heap.size K key) (r1 : Rd w w.heap.size A1 l1) (r2 : Rd w w.heap.size A2 l2) (hs1 : key.length ≤ 1048576) (hs : (l1 ++ l2).length ≤ 1000000) (h1 : l1.length ≤ c1) (h2 : l2.length ≤ c2) :
    Calls Tryd.prog 17 #[.slice K kl kc, .slice (some ⟨g, 0, none⟩) 2 2] (w.alloc (.cells #[.slice A1 n1 c1, .slice A2 n2 c2] 26)) fun e w' => e = .returned (.agg x) ∧ Below w.heap.size w w' := by
  subst hkl; subst hn1; subst hn2; subst hg; subst hx
  have hb := Blk.new w 26 [.slice A1 l1.length c1, .slice A2 l2.length c2]
  have hbl := below_alloc w (.cells #[.slice A1 l1.length c1, .slice A2 l2.length c2] 26)
  have h := hOK.of (w.alloc (.cells #[.slice A1 l1.length c1, .slice A2 l2.length c2] 26)) K key kc (some ⟨w.heap.size, 0, none⟩) [(A1, l1, c1), (A2, l2, c2)] 2 (hOK.keep hG hbl) ((rK.alloc (Nat.le_refl _) _).more (by simp)) hkc hs1 (by simpa [partV] using Cells.of_blk hb) (by
    intro p hp
    simp at hp
    rcases hp with rfl | rfl
    · exact ⟨(r1.alloc (Nat.le_refl _) _).more (by simp), h1⟩
    · exact ⟨(r2.alloc (Nat.le_refl _) _).more (by simp), h2⟩) (by simpa [cat] using hs) (by simp)
  refine h.mono fun e w' ⟨h1, h2⟩ => ⟨by simpa [cat] using h1, hbl.trans (h2.mono hbl.size)⟩
/-- The same, the list's block being known. -/
theorem mac1b {G : World → Prop} (hOK : MacOK G) (K A : Option Addr) (key l : List UInt8) (kl kc n c g : Nat) (w : World) (x : Array Value) (hx : x = (u8s (Mac.of key l)).toArray) (hG : G w) (hB : Blk w g 26 [.slice A n c]) (hkl : kl = key.length) (hn : n = l.length) (hkc : key.length ≤ kc) (rK : Rd w w.heap.size K key) (rA : Rd w w.heap.size A l) (hs1 : key.length ≤ 1048576) (hs : l.length ≤ 1000000) (hc : l.length ≤ c) :
    Calls Tryd.prog 17 #[.slice K kl kc, .slice (some ⟨g, 0, none⟩) 1 1] w fun e w' => e = .returned (.agg x) ∧ Below w.heap.size w w' := by
  subst hkl; subst hn; subst hx
  have h := hOK.of w K key kc (some ⟨g, 0, none⟩) [(A, l, c)] 1 hG rK hkc hs1 (by simpa [partV] using Cells.of_blk hB) (by
    intro p hp
    simp at hp
    subst hp
    exact ⟨rA, hc⟩) (by simpa [cat] using hs) (by simp)
  exact h.mono fun e w' ⟨h1, h2⟩ => ⟨by simpa [cat] using h1, h2⟩
theorem mac2b {G : World → Prop} (hOK : MacOK G) (K A1 A2 : Option Addr) (key l1 l2 : List UInt8) (kl kc n1 n2 c1 c2 g : Nat) (w : World) (x : Array Value) (hx : x = (u8s (Mac.of key (l1 ++ l2))).toArray) (hG : G w) (hB : Blk w g 26 [.slice A1 n1 c1, .slice A2 n2 c2]) (hkl : kl = key.length) (hn1 : n1 = l1.length) (hn2 : n2 = l2.length) (hkc : key.length ≤ kc) (rK : Rd w w.heap.size K key) (r1 : Rd w w.heap.size A1 l1) (r2 : Rd w w.heap.size A2 l2) (hs1 : key.length ≤ 1048576) (hs : (l1 ++ l2).length ≤ 1000000) (h1 : l1.length ≤ c1) (h2 : l2.length ≤ c2) :
    Calls Tryd.prog 17 #[.slice K kl kc, .slice (some ⟨g, 0, none⟩) 2 2] w fun e w' => e = .returned (.agg x) ∧ Below w.heap.size w w' := by
  subst hkl; subst hn1; subst hn2; subst hx
  have h := hOK.of w K key kc (some ⟨g, 0, none⟩) [(A1, l1, c1), (A2, l2, c2)] 2 hG rK hkc hs1 (by simpa [partV] using Cells.of_blk hB) (by
    intro p hp
    simp at hp
    rcases hp with rfl | rfl
    · exact ⟨r1, h1⟩
    · exact ⟨r2, h2⟩) (by simpa [cat] using hs) (by simp)
  exact h.mono fun e w' ⟨h1, h2⟩ => ⟨by simpa [cat] using h1, h2⟩
end Go.Proofs.YtjhkodmaalefiaaDoor
namespace Go.Proofs.YtjhkodmaalefiaaDoor
open Go.RowKit Go.Gar

/-! Keys in memory: a struct of two arrays. -/
theorem Tryd.undKeysS : Tryd.prog.underlying 24 = some (.struct (Tryd.prog.fieldsOf 24)) := by kernel_rfl
theorem Tryd.sizeKeys : (Tryd.prog.info? 24).map (·.size) = some 64 := by kernel_rfl
theorem Tryd.infoKeys : (Tryd.prog.info? 24).map (fun i => (i.zero, i.size)) = some (some (.agg (Array.replicate 64 (.int .u8 0))), 64) := by kernel_rfl
theorem Tryd.guardKeys : Tryd.prog.eqGuardType Tryd.prog.depth 24 = false := by kernel_rfl
def z64 : List Value := u8s (List.replicate 64 0)
theorem zero_64 (w : World) : (zeroValue 24).run Tryd.prog w = .ok (.agg z64.toArray) w := by
  have := (zero_of_info Tryd.infoKeys).1 w
  rw [this]
  rfl
theorem size_64 (l : List UInt8) (h : l.length = 64) : (Tryd.prog.info? 24).map (·.size) = some (u8s l).length := by rw [u8s_len, h]; exact Tryd.sizeKeys
theorem load_keys {W : World} {g : Nat} {l : List UInt8} (h : Blk W g 24 (u8s l)) (hl : l.length = 64) : (loadVar 24 ⟨g, 0, none⟩).run Tryd.prog W = .ok (.agg (u8s l).toArray) W := by
  exact run_loadVar_row (P := Tryd.prog) W g 24 24 (u8s l).toArray (0, 0) _ h Tryd.undKeysS rfl (by simpa using size_64 l hl)
theorem Tryd.fieldsKeys : (Tryd.prog.fieldsOf 24).toList.map (fun f => (f.name, f.type, f.offset)) = [("Enc", 22, 0), ("Mac", 22, 32)] := by kernel_rfl
theorem Tryd.stoodKeys : Tryd.prog.stoodInHeld 24 = false := by kernel_rfl
theorem isAgg32 (w : World) : (isAgg 22).run Tryd.prog w = .ok true w := by
  unfold isAgg
  rw [Sem.run_bind, run_underlying Tryd.und32 w]
  rfl
theorem part32 (w : World) (l : List UInt8) (o : Nat) : (part 22 (u8s l).toArray o).run Tryd.prog w = .ok (.agg (u8s ((l.drop o).take 32)).toArray) w := by
  obtain ⟨i, hi, hs⟩ := Option.map_eq_some_iff.1 (zero_of_info Tryd.info32).2
  simp only [part, Sem.run_bind, isAgg32, Result.andThen_ok, if_true, sizeOf, typeInfo, Sem.run_pure]
  simp [hi, hs, u8s_take, u8s_drop, List.extract_eq_take_drop, Result.andThen]
theorem eqKeys (a b : List UInt8) (ha : a.length = 64) (hb : b.length = 64) (w : World) : (Op.equalIn 10000 24 (.agg (u8s a).toArray) (.agg (u8s b).toArray)).run Tryd.prog w = .ok (decide (a = b)) w := by
  rw [run_equalIn_struct w 9999 24 _ _ Tryd.undKeysS Tryd.stoodKeys]
  have hf := Tryd.fieldsKeys
  generalize (Tryd.prog.fieldsOf 24).toList = fs at hf ⊢
  rcases fs with _ | ⟨f1, _ | ⟨f2, _ | ⟨f3, fs⟩⟩⟩
  · cases hf
  · simp at hf
  · simp only [List.map_cons, List.map_nil, List.cons.injEq, Prod.mk.injEq, and_true] at hf
    obtain ⟨⟨n1, t1, o1⟩, n2, t2, o2⟩ := hf
    have e1 : ∀ w, (Op.equalIn 9999 22 (.agg (u8s (a.take 32)).toArray) (.agg (u8s (b.take 32)).toArray)).run Tryd.prog w = .ok (decide (a.take 32 = b.take 32)) w := fun w => run_equalIn_u8s Tryd.und32 Tryd.key5 Tryd.und5 Tryd.cells5s 9997 _ _ (by rw [List.length_take]; omega) (by rw [List.length_take]; omega)
    have e2 : ∀ w, (Op.equalIn 9999 22 (.agg (u8s ((a.drop 32).take 32)).toArray) (.agg (u8s ((b.drop 32).take 32)).toArray)).run Tryd.prog w = .ok (decide ((a.drop 32).take 32 = (b.drop 32).take 32)) w := fun w => run_equalIn_u8s Tryd.und32 Tryd.key5 Tryd.und5 Tryd.cells5s 9997 _ _ (by rw [List.length_take, List.length_drop]; omega) (by rw [List.length_take, List.length_drop]; omega)
    have ea : (a.drop 32).take 32 = a.drop 32 := List.take_of_length_le (by rw [List.length_drop]; omega)
    have eb : (b.drop 32).take 32 = b.drop 32 := List.take_of_length_le (by rw [List.length_drop]; omega)
    rw [ea, eb] at e2
    have p1 := fun w l => part32 w l 0
    have pa := fun w => part32 w a 32
    have pb := fun w => part32 w b 32
    rw [ea] at pa
    rw [eb] at pb
    simp only [List.drop_zero] at p1
    simp only [Op.eqFields, n1, t1, o1, n2, t2, o2, Sem.run_bind, p1, Result.andThen_ok, e1, ne_eq, String.reduceEq, not_false_eq_true, if_true]
    by_cases h1 : a.take 32 = b.take 32
    · by_cases h2 : a.drop 32 = b.drop 32
      · have : a = b := by rw [← List.take_append_drop 32 a, ← List.take_append_drop 32 b, h1, h2]
        subst this
        simp [pa, e2, Result.andThen]
      · have : a ≠ b := fun e => h2 (by rw [e])
        simp [h1, h2, this, pa, pb, e2, Result.andThen]
    · have : a ≠ b := fun e => h1 (by rw [e])
      simp [h1, this]
  · simp at hf
end Go.Proofs.YtjhkodmaalefiaaDoor
namespace Go.Proofs.YtjhkodmaalefiaaDoor
def isI64 (n : Int) : Prop := -9223372036854775808 ≤ n ∧ n ≤ 9223372036854775807
end Go.Proofs.YtjhkodmaalefiaaDoor
