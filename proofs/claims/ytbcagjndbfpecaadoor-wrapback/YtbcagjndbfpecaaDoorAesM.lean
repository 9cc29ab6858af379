/-
  AES as plain mathematics on lists of bytes: the rounds, their inverses, the expanded key. No program's text.
-/
import Derived.Test.YtbcagjndbfpecaaDoorBoxM
namespace Go.Gar.Aes
open Go.Gar

def gm (a b : UInt8) : UInt8 := UInt8.ofNat (Box.mul a.toNat b.toNat)
def sb (a : UInt8) : UInt8 := UInt8.ofNat (Box.sbox a.toNat)
def ib (a : UInt8) : UInt8 := UInt8.ofNat (Box.back a.toNat)
theorem u8lt (a : UInt8) : a.toNat < 256 := a.toNat_lt
theorem gm_toNat (a b : UInt8) : (gm a b).toNat = Box.mul a.toNat b.toNat := Box.ofNat_toNat _ (Box.mul_lt _ _ (u8lt a))
theorem sb_toNat (a : UInt8) : (sb a).toNat = Box.sbox a.toNat := Box.ofNat_toNat _ (Box.sbox_lt _ (u8lt a))
theorem ib_toNat (a : UInt8) : (ib a).toNat = Box.back a.toNat := Box.ofNat_toNat _ (Box.back_lt _ (u8lt a))
theorem u8ext {a b : UInt8} (h : a.toNat = b.toNat) : a = b := UInt8.toNat_inj.1 h
theorem gm_right (a b c : UInt8) : gm a (b ^^^ c) = gm a b ^^^ gm a c := u8ext (by
  rw [gm_toNat, UInt8.toNat_xor, UInt8.toNat_xor, gm_toNat, gm_toNat, Box.mul_right])
theorem gm_left (a c b : UInt8) : gm (a ^^^ c) b = gm a b ^^^ gm c b := u8ext (by
  rw [gm_toNat, UInt8.toNat_xor, UInt8.toNat_xor, gm_toNat, gm_toNat, Box.mul_left _ _ _ (u8lt a) (u8lt c)])
theorem gm_one (a : UInt8) : gm a 1 = a := u8ext (by rw [gm_toNat]; exact Box.mul_one _)
theorem gm_comm (a b : UInt8) : gm a b = gm b a := u8ext (by rw [gm_toNat, gm_toNat, Box.mul_comm _ _ (u8lt a) (u8lt b)])
theorem gm_three (a : UInt8) : gm 3 a = gm 2 a ^^^ a := by
  rw [show (3 : UInt8) = 2 ^^^ 1 from by decide, gm_left, gm_comm 1 a, gm_one]
theorem ib_sb (a : UInt8) : ib (sb a) = a := u8ext (by rw [ib_toNat, sb_toNat, Box.back_sbox _ (u8lt a)])
theorem sb_ib (a : UInt8) : sb (ib a) = a := u8ext (by rw [sb_toNat, ib_toNat, Box.sbox_back _ (u8lt a)])

/-- A byte of a list; 0 past its end. -/
def at_ (l : List UInt8) (i : Nat) : UInt8 := l.getD i 0
/-- Sixteen bytes by their numbers. -/
def st (f : Nat → UInt8) : List UInt8 := (List.range 16).map f
theorem st_len (f : Nat → UInt8) : (st f).length = 16 := by simp [st]
theorem st_get (f : Nat → UInt8) (i : Nat) (h : i < 16) : (st f)[i]? = some (f i) := by simp [st, h]
theorem at_st (f : Nat → UInt8) (i : Nat) (h : i < 16) : at_ (st f) i = f i := by simp [at_, st_get f i h]
theorem st_at (l : List UInt8) (h : l.length = 16) : st (at_ l) = l := by
  apply List.ext_getElem?
  intro i
  by_cases hi : i < 16
  · rw [st_get _ i hi, at_]
    simp [List.getElem?_eq_getElem (show i < l.length by omega)]
  · rw [List.getElem?_eq_none (by rw [st_len]; omega), List.getElem?_eq_none (by omega)]
theorem st_congr {f g : Nat → UInt8} (h : ∀ i, i < 16 → f i = g i) : st f = st g := by
  unfold st
  apply List.map_congr_left
  intro i hi
  exact h i (by simpa using hi)

def addK (l k : List UInt8) : List UInt8 := st fun i => at_ l i ^^^ at_ k i
def shift (l : List UInt8) : List UInt8 := st fun i => sb (at_ l ((i + i % 4 * 4) % 16))
def unshift (l : List UInt8) : List UInt8 := st fun j => ib (at_ l ((j + (4 - j % 4) * 4) % 16))
/-- A column's first byte after mixing; the others by turning. -/
def m (a b c d : UInt8) : UInt8 := gm 2 a ^^^ gm 3 b ^^^ c ^^^ d
def mix (l : List UInt8) : List UInt8 := st fun i => m (at_ l i) (at_ l (i / 4 * 4 + (i % 4 + 1) % 4)) (at_ l (i / 4 * 4 + (i % 4 + 2) % 4)) (at_ l (i / 4 * 4 + (i % 4 + 3) % 4))
def mix3 (l : List UInt8) : List UInt8 := mix (mix (mix l))
theorem addK_len (l k : List UInt8) : (addK l k).length = 16 := st_len _
theorem shift_len (l : List UInt8) : (shift l).length = 16 := st_len _
theorem unshift_len (l : List UInt8) : (unshift l).length = 16 := st_len _
theorem mix_len (l : List UInt8) : (mix l).length = 16 := st_len _

theorem addK_addK (l k : List UInt8) (h : l.length = 16) : addK (addK l k) k = l := by
  rw [← st_at l h]
  unfold addK
  refine st_congr fun i hi => ?_
  rw [at_st _ i hi, UInt8.xor_assoc, UInt8.xor_self, UInt8.xor_zero, at_st _ i hi]
theorem idx1 : ∀ i, i < 16 → (((i + (4 - i % 4) * 4) % 16) + ((i + (4 - i % 4) * 4) % 16) % 4 * 4) % 16 = i := by decide
theorem idx2 : ∀ i, i < 16 → (((i + i % 4 * 4) % 16) + (4 - ((i + i % 4 * 4) % 16) % 4) * 4) % 16 = i := by decide
theorem unshift_shift (l : List UInt8) (h : l.length = 16) : unshift (shift l) = l := by
  rw [← st_at l h]
  unfold unshift shift
  refine st_congr fun i hi => ?_
  rw [at_st _ _ (Nat.mod_lt _ (by omega)), ib_sb, idx1 i hi, at_st _ i hi]
theorem shift_unshift (l : List UInt8) (h : l.length = 16) : shift (unshift l) = l := by
  rw [← st_at l h]
  unfold unshift shift
  refine st_congr fun i hi => ?_
  rw [at_st _ _ (Nat.mod_lt _ (by omega)), sb_ib, idx2 i hi, at_st _ i hi]

theorem xc (x y : UInt8) : x ^^^ (x ^^^ y) = y := by rw [← UInt8.xor_assoc, UInt8.xor_self, UInt8.zero_xor]
theorem xlc (x y z : UInt8) : x ^^^ (y ^^^ z) = y ^^^ (x ^^^ z) := by rw [← UInt8.xor_assoc, UInt8.xor_comm x y, UInt8.xor_assoc]
/-- A column mixed twice. -/
theorem m_twice (a b c d : UInt8) : m (m a b c d) (m b c d a) (m c d a b) (m d a b c) = gm 2 (gm 2 a) ^^^ a ^^^ gm 2 (gm 2 c) := by
  simp only [m, gm_three, gm_right, UInt8.xor_assoc]
  simp only [UInt8.xor_assoc, UInt8.xor_comm, xlc, xc, UInt8.xor_self, UInt8.zero_xor]
theorem m_four (a c : UInt8) : gm 2 (gm 2 (gm 2 (gm 2 a) ^^^ a ^^^ gm 2 (gm 2 c))) ^^^ (gm 2 (gm 2 a) ^^^ a ^^^ gm 2 (gm 2 c)) ^^^ gm 2 (gm 2 (gm 2 (gm 2 c) ^^^ c ^^^ gm 2 (gm 2 a))) = a := by
  simp only [gm_right, UInt8.xor_assoc]
  simp only [UInt8.xor_comm, xlc, xc, UInt8.xor_self, UInt8.xor_zero]
theorem list16 (l : List UInt8) (h : l.length = 16) : ∃ a0 a1 a2 a3 a4 a5 a6 a7 a8 a9 a10 a11 a12 a13 a14 a15, l = [a0, a1, a2, a3, a4, a5, a6, a7, a8, a9, a10, a11, a12, a13, a14, a15] :=
  ⟨at_ l 0, at_ l 1, at_ l 2, at_ l 3, at_ l 4, at_ l 5, at_ l 6, at_ l 7, at_ l 8, at_ l 9, at_ l 10, at_ l 11, at_ l 12, at_ l 13, at_ l 14, at_ l 15, (st_at l h).symm⟩
theorem mix_four (l : List UInt8) (h : l.length = 16) : mix (mix (mix (mix l))) = l := by
  obtain ⟨a0, a1, a2, a3, a4, a5, a6, a7, a8, a9, a10, a11, a12, a13, a14, a15, rfl⟩ := list16 l h
  have e : ∀ a0 a1 a2 a3 a4 a5 a6 a7 a8 a9 a10 a11 a12 a13 a14 a15 : UInt8, mix [a0, a1, a2, a3, a4, a5, a6, a7, a8, a9, a10, a11, a12, a13, a14, a15] =
    [m a0 a1 a2 a3, m a1 a2 a3 a0, m a2 a3 a0 a1, m a3 a0 a1 a2, m a4 a5 a6 a7, m a5 a6 a7 a4, m a6 a7 a4 a5, m a7 a4 a5 a6, m a8 a9 a10 a11, m a9 a10 a11 a8, m a10 a11 a8 a9, m a11 a8 a9 a10, m a12 a13 a14 a15, m a13 a14 a15 a12, m a14 a15 a12 a13, m a15 a12 a13 a14] := fun _ _ _ _ _ _ _ _ _ _ _ _ _ _ _ _ => rfl
  rw [e, e]
  simp only [m_twice]
  rw [e, e]
  simp only [m_twice, m_four]
theorem mix3_mix (l : List UInt8) (h : l.length = 16) : mix3 (mix l) = l := mix_four l h
theorem mix_mix3 (l : List UInt8) (h : l.length = 16) : mix (mix3 l) = l := mix_four l h

section
variable (K : Nat → List UInt8) (last : Nat) (b : List UInt8)
/-- The block after n rounds. -/
def encN : Nat → List UInt8
  | 0 => addK b (K 0)
  | n + 1 => addK (if n + 1 < last then mix (shift (encN n)) else shift (encN n)) (K (n + 1))
def enc : List UInt8 := encN K last b last
/-- The block after j rounds back. -/
def decN : Nat → List UInt8
  | 0 => b
  | j + 1 => unshift (if last - j < last then mix3 (addK (decN j) (K (last - j))) else addK (decN j) (K (last - j)))
def dec : List UInt8 := addK (decN K last b last) (K 0)
theorem encN_len (n : Nat) : (encN K last b n).length = 16 := by cases n <;> exact st_len _
theorem enc_len : (enc K last b).length = 16 := encN_len K last b last
theorem decN_len (h : b.length = 16) (n : Nat) : (decN K last b n).length = 16 := by
  cases n with
  | zero => exact h
  | succ n => exact st_len _
theorem dec_len : (dec K last b).length = 16 := st_len _
theorem decN_enc (j : Nat) (hj : j ≤ last) : decN K last (enc K last b) j = encN K last b (last - j) := by
  induction j with
  | zero => rfl
  | succ j ih =>
    obtain ⟨n, hn⟩ : ∃ n, last - j = n + 1 := ⟨last - j - 1, by omega⟩
    rw [decN, ih (by omega), hn, show last - (j + 1) = n from by omega, encN]
    by_cases h : n + 1 < last
    · rw [if_pos h, if_pos h, addK_addK _ _ (mix_len _), mix3_mix _ (shift_len _), unshift_shift _ (encN_len _ _ _ _)]
    · rw [if_neg h, if_neg h, addK_addK _ _ (shift_len _), unshift_shift _ (encN_len _ _ _ _)]
theorem dec_enc (h : b.length = 16) : dec K last (enc K last b) = b := by
  rw [dec, decN_enc K last b last (Nat.le_refl _), Nat.sub_self, encN, addK_addK _ _ h]
theorem encN_dec (h : b.length = 16) (n : Nat) (hn : n ≤ last) : encN K last (dec K last b) n = decN K last b (last - n) := by
  induction n with
  | zero => rw [encN, dec, addK_addK _ _ (decN_len _ _ _ h _), Nat.sub_zero]
  | succ n ih =>
    rw [encN, ih (by omega), show last - n = (last - (n + 1)) + 1 from by omega, decN, show last - (last - (n + 1)) = n + 1 from by omega]
    by_cases h2 : n + 1 < last
    · rw [if_pos h2, if_pos h2, shift_unshift _ (show (mix3 _).length = 16 from mix_len _), mix_mix3 _ (addK_len _ _), addK_addK _ _ (decN_len _ _ _ h _)]
    · rw [if_neg h2, if_neg h2, shift_unshift _ (addK_len _ _), addK_addK _ _ (decN_len _ _ _ h _)]
theorem enc_dec (h : b.length = 16) : enc K last (dec K last b) = b := by
  rw [enc, encN_dec K last b h last (Nat.le_refl _), Nat.sub_self, decN]
end

/-- The expanded key: n words of the key first. -/
def xp : Nat → UInt8
  | 0 => 1
  | k + 1 => gm (xp k) 2
def turnW (n i : Nat) (w : List UInt8) : List UInt8 :=
  if i % n = 0 then [sb (at_ w 1) ^^^ xp (i / n - 1), sb (at_ w 2), sb (at_ w 3), sb (at_ w 0)]
  else if n = 8 ∧ i % 8 = 4 then [sb (at_ w 0), sb (at_ w 1), sb (at_ w 2), sb (at_ w 3)]
  else [at_ w 0, at_ w 1, at_ w 2, at_ w 3]
def xor4 (a b : List UInt8) : List UInt8 := [at_ a 0 ^^^ at_ b 0, at_ a 1 ^^^ at_ b 1, at_ a 2 ^^^ at_ b 2, at_ a 3 ^^^ at_ b 3]
def wordAt (ws : List (List UInt8)) (i : Nat) : List UInt8 := ws.getD i []
def nextW (key : List UInt8) (n : Nat) (ws : List (List UInt8)) (i : Nat) : List UInt8 :=
  if i < n then [at_ key (4 * i), at_ key (4 * i + 1), at_ key (4 * i + 2), at_ key (4 * i + 3)]
  else xor4 (turnW n i (wordAt ws (i - 1))) (wordAt ws (i - n))
def words (key : List UInt8) (n : Nat) : Nat → List (List UInt8)
  | 0 => []
  | i + 1 => words key n i ++ [nextW key n (words key n i) i]
theorem words_len (key : List UInt8) (n i : Nat) : (words key n i).length = i := by
  induction i with
  | zero => rfl
  | succ i ih => simp [words, ih]
theorem words_get (key : List UInt8) (n : Nat) {i j : Nat} (h : i < j) : (words key n j)[i]? = some (nextW key n (words key n i) i) := by
  induction j with
  | zero => omega
  | succ j ih =>
    by_cases hij : i < j
    · rw [words, List.getElem?_append_left (by rw [words_len]; exact hij), ih hij]
    · obtain rfl : i = j := by omega
      rw [words, List.getElem?_append_right (by rw [words_len]; exact Nat.le_refl _), words_len]
      simp
theorem nextW_len (key : List UInt8) (n : Nat) (ws : List (List UInt8)) (i : Nat) : (nextW key n ws i).length = 4 := by
  unfold nextW xor4
  split <;> rfl
/-- A round's key. -/
def rk (ws : List (List UInt8)) (r : Nat) : List UInt8 := st fun i => at_ (wordAt ws (4 * r + i / 4)) (i % 4)
def roundsOf (key : List UInt8) : Nat := key.length / 4 + 6
def keysOf (key : List UInt8) : Nat → List UInt8 := rk (words key (key.length / 4) (4 * (key.length / 4) + 28))
/-- AES by a key of 16, 24 or 32 bytes. -/
def encrypt (key b : List UInt8) : List UInt8 := enc (keysOf key) (roundsOf key) b
def decrypt (key b : List UInt8) : List UInt8 := dec (keysOf key) (roundsOf key) b
def sizeOk (n : Nat) : Prop := n = 16 ∨ n = 24 ∨ n = 32
theorem encrypt_len (key b : List UInt8) : (encrypt key b).length = 16 := enc_len _ _ _
theorem decrypt_len (key b : List UInt8) : (decrypt key b).length = 16 := dec_len _ _ _
theorem decrypt_encrypt (key b : List UInt8) (h : b.length = 16) : decrypt key (encrypt key b) = b := dec_enc _ _ _ h
theorem encrypt_decrypt (key b : List UInt8) (h : b.length = 16) : encrypt key (decrypt key b) = b := enc_dec _ _ _ h
theorem encrypt_inj (key : List UInt8) {a b : List UInt8} (ha : a.length = 16) (hb : b.length = 16) : encrypt key a = encrypt key b ↔ a = b :=
  ⟨fun h => by rw [← decrypt_encrypt key a ha, h, decrypt_encrypt key b hb], fun h => by rw [h]⟩
theorem decrypt_inj (key : List UInt8) {a b : List UInt8} (ha : a.length = 16) (hb : b.length = 16) : decrypt key a = decrypt key b ↔ a = b :=
  ⟨fun h => by rw [← encrypt_decrypt key a ha, h, encrypt_decrypt key b hb], fun h => by rw [h]⟩
end Go.Gar.Aes
