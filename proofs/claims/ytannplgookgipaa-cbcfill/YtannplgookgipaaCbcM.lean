/-
  Cipher block chaining with padding, as plain mathematics on lists of bytes. Of no program.
-/
import Derived.Test.YtannplgookgipaaAesM
namespace Go.Gar.Cbc
open Go.Gar Go.Gar.Aes

/-- The 16 bytes of number j. -/
def blk (m : List UInt8) (j : Nat) : List UInt8 := (m.drop (16 * j)).take 16
theorem blk_len (m : List UInt8) (j : Nat) (h : 16 * j + 16 ≤ m.length) : (blk m j).length = 16 := by
  rw [blk, List.length_take, List.length_drop]; omega
theorem blk_app (a b : List UInt8) (j : Nat) (h : 16 * j + 16 ≤ a.length) : blk (a ++ b) j = blk a j := by
  unfold blk
  rw [List.drop_append, List.take_append, List.length_drop, show 16 - (a.length - 16 * j) = 0 from by omega, List.take_zero, List.append_nil]
theorem blk_end (a b : List UInt8) (j : Nat) (h : a.length = 16 * j) (hb : b.length = 16) : blk (a ++ b) j = b := by
  unfold blk
  rw [← h, List.drop_left, List.take_of_length_le (by omega)]
theorem take_blk (m : List UInt8) (j : Nat) : m.take (16 * j) ++ blk m j = m.take (16 * (j + 1)) := by
  rw [blk, show 16 * (j + 1) = 16 * j + 16 from by omega, List.take_add]

section
variable (key iv m : List UInt8)
/-- The block that is mixed into block j: iv, or what came before, encrypted. -/
def last : Nat → List UInt8
  | 0 => iv
  | j + 1 => encrypt key (addK (blk m j) (last j))
def outK : Nat → List UInt8
  | 0 => []
  | j + 1 => outK j ++ last key iv m (j + 1)
theorem last_len (h : iv.length = 16) : ∀ j, (last key iv m j).length = 16
  | 0 => h
  | _ + 1 => encrypt_len _ _
theorem outK_len : ∀ j, (outK key iv m j).length = 16 * j
  | 0 => rfl
  | j + 1 => by rw [outK, List.length_append, outK_len j, last, encrypt_len]; omega
theorem outK_blk : ∀ N j, j < N → blk (outK key iv m N) j = last key iv m (j + 1)
  | 0, _, h => by omega
  | N + 1, j, h => by
    by_cases hj : j = N
    · subst hj
      rw [outK]
      exact blk_end _ _ _ (outK_len key iv m j) (by rw [last]; exact encrypt_len _ _)
    · rw [outK, blk_app _ _ _ (by rw [outK_len]; omega), outK_blk N j (by omega)]
/-- The block before block j of what is to be opened. -/
def prev (c : List UInt8) : Nat → List UInt8
  | 0 => iv
  | j + 1 => blk c j
def opK (c : List UInt8) : Nat → List UInt8
  | 0 => []
  | j + 1 => opK c j ++ addK (decrypt key (blk c j)) (prev iv c j)
theorem opK_len (c : List UInt8) : ∀ j, (opK key iv c j).length = 16 * j
  | 0 => rfl
  | j + 1 => by rw [opK, List.length_append, opK_len c j, addK_len]; omega
theorem opK_blk (c : List UInt8) : ∀ N j, j < N → blk (opK key iv c N) j = addK (decrypt key (blk c j)) (prev iv c j)
  | 0, _, h => by omega
  | N + 1, j, h => by
    by_cases hj : j = N
    · subst hj
      rw [opK, blk_end _ _ _ (opK_len key iv c j) (addK_len _ _)]
    · rw [opK, blk_app _ _ _ (by rw [opK_len]; omega), opK_blk c N j (by omega)]
theorem prev_out (N : Nat) : ∀ j, j ≤ N → prev iv (outK key iv m N) j = last key iv m j
  | 0, _ => rfl
  | j + 1, h => by rw [prev, outK_blk key iv m N j (by omega)]
theorem op_out (N : Nat) (hm : 16 * N ≤ m.length) : ∀ j, j ≤ N → opK key iv (outK key iv m N) j = m.take (16 * j)
  | 0, _ => by simp [opK]
  | j + 1, h => by
    rw [opK, op_out N hm j (by omega), outK_blk key iv m N j (by omega), prev_out key iv m N j (by omega), last, decrypt_encrypt _ _ (addK_len _ _), addK_addK _ _ (blk_len m j (by omega)), take_blk]
theorem last_op (c : List UInt8) (N : Nat) (hc : 16 * N ≤ c.length) (hiv : iv.length = 16) : ∀ j, j ≤ N → last key iv (opK key iv c N) j = prev iv c j
  | 0, _ => rfl
  | j + 1, h => by
    rw [last, last_op c N hc hiv j (by omega), opK_blk key iv c N j (by omega), addK_addK _ _ (decrypt_len _ _), encrypt_decrypt _ _ (blk_len c j (by omega)), prev]
theorem out_op (c : List UInt8) (N : Nat) (hc : 16 * N ≤ c.length) (hiv : iv.length = 16) : ∀ j, j ≤ N → outK key iv (opK key iv c N) j = c.take (16 * j)
  | 0, _ => by simp [outK]
  | j + 1, h => by rw [outK, out_op c N hc hiv j (by omega), last_op key iv c N hc hiv (j + 1) h, prev, take_blk]
end

/-- Filled up. -/
def fillN (b : List UInt8) : Nat := 16 - b.length % 16
def padK (b : List UInt8) (k : Nat) : List UInt8 := b ++ List.replicate k (UInt8.ofNat (fillN b))
def pad (b : List UInt8) : List UInt8 := padK b (fillN b)
theorem padK_len (b : List UInt8) (k : Nat) : (padK b k).length = b.length + k := by simp [padK]
theorem padK_succ (b : List UInt8) (k : Nat) : padK b k ++ [UInt8.ofNat (fillN b)] = padK b (k + 1) := by simp [padK, List.replicate_succ']
theorem pad_len (b : List UInt8) : (pad b).length = b.length / 16 * 16 + 16 := by
  rw [pad, padK_len, fillN]; omega
theorem fillN_lt (b : List UInt8) : 1 ≤ fillN b ∧ fillN b ≤ 16 := by unfold fillN; omega
/-- The number in the last byte. -/
def endN (o : List UInt8) : Nat := (at_ o (o.length - 1)).toNat
/-- Are the last n bytes all n? -/
def filled (o : List UInt8) (n : Nat) : Prop := ∀ i, i < n → (at_ o (o.length - 1 - i)).toNat = n
instance (o : List UInt8) (n : Nat) : Decidable (filled o n) := inferInstanceAs (Decidable (∀ i, i < n → _))
def unpad (o : List UInt8) : Option (List UInt8) := if 1 ≤ endN o ∧ endN o ≤ 16 ∧ filled o (endN o) then some (o.take (o.length - endN o)) else none
theorem at_right (a b : List UInt8) (i : Nat) (h : a.length ≤ i) : at_ (a ++ b) i = at_ b (i - a.length) := by
  unfold at_
  rw [List.getD_eq_getElem?_getD, List.getD_eq_getElem?_getD, List.getElem?_append_right h]
theorem at_rep (n i : Nat) (c : UInt8) (h : i < n) : at_ (List.replicate n c) i = c := by
  unfold at_
  rw [List.getD_eq_getElem?_getD, List.getElem?_replicate, if_pos h]; rfl
theorem unpad_pad (b : List UInt8) : unpad (pad b) = some b := by
  have hf := fillN_lt b
  have hv : (UInt8.ofNat (fillN b)).toNat = fillN b := by simp; omega
  have hl : (pad b).length = b.length + fillN b := padK_len b _
  have ha : ∀ i, i < fillN b → (at_ (pad b) ((pad b).length - 1 - i)).toNat = fillN b := by
    intro i hi
    rw [hl, pad, padK, at_right _ _ _ (by omega), at_rep _ _ _ (by omega), hv]
  have he : endN (pad b) = fillN b := by have := ha 0 (by omega); rwa [Nat.sub_zero] at this
  rw [unpad, he, if_pos ⟨hf.1, hf.2, ha⟩, hl, Nat.add_sub_cancel, pad, padK, List.take_left]
theorem pad_unpad (o z : List UInt8) (ho : o.length % 16 = 0) (h16 : 16 ≤ o.length) (h : unpad o = some z) : pad z = o := by
  unfold unpad at h
  split at h
  · rename_i hc
    obtain ⟨h1, h2, h3⟩ := hc
    injection h with h
    subst h
    have hzl : (o.take (o.length - endN o)).length = o.length - endN o := by rw [List.length_take]; omega
    have hfn : fillN (o.take (o.length - endN o)) = endN o := by unfold fillN; rw [hzl]; omega
    rw [pad, padK, hfn]
    apply List.ext_getElem?
    intro i
    by_cases hi : i < o.length - endN o
    · rw [List.getElem?_append_left (by rw [hzl]; exact hi), List.getElem?_take, if_pos hi]
    · rw [List.getElem?_append_right (by rw [hzl]; omega), hzl, List.getElem?_replicate]
      by_cases hi2 : i < o.length
      · rw [if_pos (by omega)]
        have hx := h3 (o.length - 1 - i) (by omega)
        rw [show o.length - 1 - (o.length - 1 - i) = i from by omega, at_, List.getD_eq_getElem?_getD, List.getElem?_eq_getElem hi2] at hx
        rw [List.getElem?_eq_getElem hi2]
        simp only [Option.getD_some] at hx
        congr 1
        rw [← hx]
        simp
      · rw [if_neg (by omega), List.getElem?_eq_none (by omega)]
  · cases h
def seal_ (key iv b : List UInt8) : List UInt8 := outK key iv (pad b) (b.length / 16 + 1)
theorem seal_len (key iv b : List UInt8) : (seal_ key iv b).length = b.length / 16 * 16 + 16 := by rw [seal_, outK_len]; omega
def open_ (key iv c : List UInt8) : Option (List UInt8) := if 16 ≤ c.length ∧ c.length % 16 = 0 then unpad (opK key iv c (c.length / 16)) else none
theorem open_seal (key iv b : List UInt8) : open_ key iv (seal_ key iv b) = some b := by
  have hl := seal_len key iv b
  have hp := pad_len b
  rw [open_, if_pos (by omega), show (seal_ key iv b).length / 16 = b.length / 16 + 1 from by omega, seal_, op_out _ _ _ _ (by omega) _ (Nat.le_refl _), List.take_of_length_le (by omega), unpad_pad]
theorem seal_open (key iv c z : List UInt8) (hiv : iv.length = 16) (h : open_ key iv c = some z) : seal_ key iv z = c := by
  unfold open_ at h
  split at h
  · rename_i hc
    have hol := opK_len key iv c (c.length / 16)
    have hp := pad_unpad _ z (by omega) (by omega) h
    have hpl := pad_len z
    rw [hp, hol] at hpl
    rw [seal_, hp, show z.length / 16 + 1 = c.length / 16 from by omega, out_op key iv c (c.length / 16) (by omega) hiv _ (Nat.le_refl _), List.take_of_length_le (by omega)]
  · cases h
end Go.Gar.Cbc
