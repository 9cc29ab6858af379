/-
  Key wrapping: its mathematics: the steps forth and back, and that they undo each other. Of no program.
-/
import Derived.Test.YtbcagjndbfpecaaDoorAesM
namespace Go.Gar.Wrp
open Go.Gar.Aes

/-- Part i of 8 bytes; the same part replaced. -/
def b8 (l : List UInt8) (i : Nat) : List UInt8 := (l.drop (8 * i)).take 8
def p8 (l : List UInt8) (i : Nat) (x : List UInt8) : List UInt8 := l.take (8 * i) ++ x ++ l.drop (8 * i + 8)
theorem b8_len (l : List UInt8) (i : Nat) (h : 8 * i + 8 ≤ l.length) : (b8 l i).length = 8 := by
  rw [b8, List.length_take, List.length_drop]; omega
theorem p8_len (l : List UInt8) (i : Nat) (x : List UInt8) (hx : x.length = 8) (h : 8 * i + 8 ≤ l.length) : (p8 l i x).length = l.length := by
  rw [p8, List.length_append, List.length_append, List.length_take, List.length_drop, hx]; omega
theorem b8_p8 (l : List UInt8) (i : Nat) (x : List UInt8) (hx : x.length = 8) (h : 8 * i + 8 ≤ l.length) : b8 (p8 l i x) i = x := by
  have hl : (l.take (8 * i)).length = 8 * i := by rw [List.length_take]; omega
  rw [b8, p8, List.append_assoc, List.drop_left' hl]
  exact List.take_left' hx
theorem p8_p8 (l : List UInt8) (i : Nat) (x y : List UInt8) (hx : x.length = 8) (h : 8 * i + 8 ≤ l.length) : p8 (p8 l i x) i y = p8 l i y := by
  have hl : (l.take (8 * i)).length = 8 * i := by rw [List.length_take]; omega
  have e1 : (p8 l i x).take (8 * i) = l.take (8 * i) := by rw [p8, List.append_assoc]; exact List.take_left' hl
  have e2 : (p8 l i x).drop (8 * i + 8) = l.drop (8 * i + 8) := by
    rw [p8]; exact List.drop_left' (by rw [List.length_append, hl, hx])
  rw [p8, e1, e2]
  rfl
theorem p8_b8 (l : List UInt8) (i : Nat) : p8 l i (b8 l i) = l := by
  rw [p8, b8, ← List.drop_drop, List.append_assoc, List.take_append_drop, List.take_append_drop]

/-- 8 bytes, XORed with a small number (its other bytes are zero). -/
def xt (a : List UInt8) (t : Nat) : List UInt8 := a.set 7 (at_ a 7 ^^^ UInt8.ofNat t)
theorem xt_len (a : List UInt8) (t : Nat) : (xt a t).length = a.length := by rw [xt, List.length_set]
theorem xt_xt (a : List UInt8) (t : Nat) (h : a.length = 8) : xt (xt a t) t = a := by
  have h7 : 7 < a.length := by omega
  have e : at_ (a.set 7 (at_ a 7 ^^^ UInt8.ofNat t)) 7 = at_ a 7 ^^^ UInt8.ofNat t := by
    rw [at_, List.getD_eq_getElem?_getD, List.getElem?_set_self (by omega)]; rfl
  rw [xt, xt, e, List.set_set, UInt8.xor_assoc, UInt8.xor_self, UInt8.xor_zero]
  have : at_ a 7 = a[7] := by rw [at_, List.getD_eq_getElem?_getD, List.getElem?_eq_getElem h7]; rfl
  rw [this, List.set_getElem_self]
def iv8 : List UInt8 := List.replicate 8 166

section
variable (key : List UInt8) (n : Nat)
/-- Step k (from 0 on), and the same one back. -/
def step (k : Nat) (s : List UInt8 × List UInt8) : List UInt8 × List UInt8 :=
  (xt ((encrypt key (s.1 ++ b8 s.2 (k % n))).take 8) (k + 1), p8 s.2 (k % n) ((encrypt key (s.1 ++ b8 s.2 (k % n))).drop 8))
def back (k : Nat) (s : List UInt8 × List UInt8) : List UInt8 × List UInt8 :=
  ((decrypt key (xt s.1 (k + 1) ++ b8 s.2 (k % n))).take 8, p8 s.2 (k % n) ((decrypt key (xt s.1 (k + 1) ++ b8 s.2 (k % n))).drop 8))
def Ok (s : List UInt8 × List UInt8) : Prop := s.1.length = 8 ∧ s.2.length = 8 * n
variable {key n}
theorem part_in (hn : 0 < n) (k : Nat) {s : List UInt8 × List UInt8} (h : Ok n s) : 8 * (k % n) + 8 ≤ s.2.length := by
  have := Nat.mod_lt k hn
  rw [h.2]; omega
theorem half1 (x : List UInt8) (h : x.length = 16) : (x.take 8).length = 8 := by rw [List.length_take]; omega
theorem half2 (x : List UInt8) (h : x.length = 16) : (x.drop 8).length = 8 := by rw [List.length_drop]; omega
theorem step_ok (hn : 0 < n) (k : Nat) {s : List UInt8 × List UInt8} (h : Ok n s) : Ok n (step key n k s) :=
  ⟨by rw [step, xt_len]; exact half1 _ (encrypt_len _ _), by rw [step, p8_len _ _ _ (half2 _ (encrypt_len _ _)) (part_in hn k h)]; exact h.2⟩
theorem back_ok (hn : 0 < n) (k : Nat) {s : List UInt8 × List UInt8} (h : Ok n s) : Ok n (back key n k s) :=
  ⟨by rw [back]; exact half1 _ (decrypt_len _ _), by rw [back, p8_len _ _ _ (half2 _ (decrypt_len _ _)) (part_in hn k h)]; exact h.2⟩
theorem back_step (hn : 0 < n) (k : Nat) {s : List UInt8 × List UInt8} (h : Ok n s) : back key n k (step key n k s) = s := by
  have hp := part_in hn k h
  have hb := b8_len _ _ hp
  have hx : (encrypt key (s.1 ++ b8 s.2 (k % n))).length = 16 := encrypt_len _ _
  have hd : decrypt key (encrypt key (s.1 ++ b8 s.2 (k % n))) = s.1 ++ b8 s.2 (k % n) := decrypt_encrypt _ _ (by rw [List.length_append, h.1, hb])
  simp only [back, step, xt_xt _ _ (half1 _ hx), b8_p8 _ _ _ (half2 _ hx) hp, p8_p8 _ _ _ _ (half2 _ hx) hp, List.take_append_drop, hd]
  rw [List.take_left' h.1, List.drop_left' h.1, p8_b8]
theorem step_back (hn : 0 < n) (k : Nat) {s : List UInt8 × List UInt8} (h : Ok n s) : step key n k (back key n k s) = s := by
  have hp := part_in hn k h
  have hb := b8_len _ _ hp
  have hx : (decrypt key (xt s.1 (k + 1) ++ b8 s.2 (k % n))).length = 16 := decrypt_len _ _
  have hd : encrypt key (decrypt key (xt s.1 (k + 1) ++ b8 s.2 (k % n))) = xt s.1 (k + 1) ++ b8 s.2 (k % n) := encrypt_decrypt _ _ (by rw [List.length_append, xt_len, h.1, hb])
  simp only [back, step, b8_p8 _ _ _ (half2 _ hx) hp, p8_p8 _ _ _ _ (half2 _ hx) hp, List.take_append_drop, hd]
  have h1 : (xt s.1 (k + 1)).length = 8 := by rw [xt_len]; exact h.1
  rw [List.take_left' h1, List.drop_left' h1, p8_b8, xt_xt _ _ h.1]

variable (key n)
/-- The first k steps; the last m steps of N, back. -/
def fw (s : List UInt8 × List UInt8) : Nat → List UInt8 × List UInt8
  | 0 => s
  | k + 1 => step key n k (fw s k)
def bw (s : List UInt8 × List UInt8) (N : Nat) : Nat → List UInt8 × List UInt8
  | 0 => s
  | m + 1 => back key n (N - 1 - m) (bw s N m)
variable {key n}
theorem fw_ok (hn : 0 < n) {s : List UInt8 × List UInt8} (h : Ok n s) : ∀ k, Ok n (fw key n s k)
  | 0 => h
  | k + 1 => step_ok hn k (fw_ok hn h k)
theorem bw_ok (hn : 0 < n) {s : List UInt8 × List UInt8} (h : Ok n s) (N : Nat) : ∀ m, Ok n (bw key n s N m)
  | 0 => h
  | m + 1 => back_ok hn _ (bw_ok hn h N m)
theorem bw_fw (hn : 0 < n) {s : List UInt8 × List UInt8} (h : Ok n s) (N : Nat) : ∀ m, m ≤ N → bw key n (fw key n s N) N m = fw key n s (N - m)
  | 0, _ => rfl
  | m + 1, hm => by
    rw [bw, bw_fw hn h N m (by omega), show N - m = (N - 1 - m) + 1 from by omega, fw, back_step hn _ (fw_ok hn h _), show N - (m + 1) = N - 1 - m from by omega]
theorem fw_bw (hn : 0 < n) {s : List UInt8 × List UInt8} (h : Ok n s) (N : Nat) : ∀ k, k ≤ N → fw key n (bw key n s N N) k = bw key n s N (N - k)
  | 0, _ => rfl
  | k + 1, hk => by
    rw [fw, fw_bw hn h N k (by omega), show N - k = (N - 1 - k) + 1 from by omega, bw, show N - 1 - (N - 1 - k) = k from by omega, step_back hn _ (bw_ok hn h N _), show N - (k + 1) = N - 1 - k from by omega]
end

def wrap_ (key b : List UInt8) : List UInt8 := (fw key (b.length / 8) (iv8, b) (6 * (b.length / 8))).1 ++ (fw key (b.length / 8) (iv8, b) (6 * (b.length / 8))).2
def unwrap_ (key w : List UInt8) : Option (List UInt8) :=
  if (bw key (w.length / 8 - 1) (w.take 8, w.drop 8) (6 * (w.length / 8 - 1)) (6 * (w.length / 8 - 1))).1 = iv8 then some (bw key (w.length / 8 - 1) (w.take 8, w.drop 8) (6 * (w.length / 8 - 1)) (6 * (w.length / 8 - 1))).2 else none
theorem wrap_len (key b : List UInt8) (h8 : b.length % 8 = 0) (hn : 0 < b.length) : (wrap_ key b).length = b.length + 8 := by
  have hp : 0 < b.length / 8 := by omega
  have h := fw_ok (key := key) hp (s := (iv8, b)) ⟨rfl, by show b.length = _; omega⟩ (6 * (b.length / 8))
  rw [wrap_, List.length_append, h.1, h.2]; omega
theorem unwrap_wrap (key b : List UInt8) (h8 : b.length % 8 = 0) (hn : 0 < b.length) : unwrap_ key (wrap_ key b) = some b := by
  have hp : 0 < b.length / 8 := by omega
  have h0 : Ok (b.length / 8) (iv8, b) := ⟨rfl, by show b.length = _; omega⟩
  have h := fw_ok (key := key) hp h0 (6 * (b.length / 8))
  have hw := wrap_len key b h8 hn
  have e1 : (wrap_ key b).length / 8 - 1 = b.length / 8 := by omega
  have e2 : ((wrap_ key b).take 8, (wrap_ key b).drop 8) = fw key (b.length / 8) (iv8, b) (6 * (b.length / 8)) := by
    rw [wrap_, List.take_left' h.1, List.drop_left' h.1]
  rw [unwrap_, e1, e2, bw_fw hp h0 _ _ (Nat.le_refl _), Nat.sub_self]
  exact if_pos rfl
theorem wrap_unwrap (key w z : List UInt8) (h8 : w.length % 8 = 0) (hn : 24 ≤ w.length) (h : unwrap_ key w = some z) : wrap_ key z = w ∧ z.length = w.length - 8 := by
  have hp : 0 < w.length / 8 - 1 := by omega
  have h0 : Ok (w.length / 8 - 1) (w.take 8, w.drop 8) := ⟨by show (w.take 8).length = 8; rw [List.length_take]; omega, by show (w.drop 8).length = _; rw [List.length_drop]; omega⟩
  have hb := bw_ok (key := key) hp h0 (6 * (w.length / 8 - 1)) (6 * (w.length / 8 - 1))
  rw [unwrap_] at h
  split at h
  · rename_i hi
    have hz := Option.some.inj h
    have hzl : z.length = w.length - 8 := by rw [← hz, hb.2]; omega
    have e1 : z.length / 8 = w.length / 8 - 1 := by omega
    have e2 : ((iv8, z) : List UInt8 × List UInt8) = bw key (w.length / 8 - 1) (w.take 8, w.drop 8) (6 * (w.length / 8 - 1)) (6 * (w.length / 8 - 1)) := by
      rw [← hz, ← hi]
    refine ⟨?_, hzl⟩
    rw [wrap_, e1, e2, fw_bw hp h0 _ _ (Nat.le_refl _), Nat.sub_self]
    exact List.take_append_drop 8 w
  · cases h
end Go.Gar.Wrp
