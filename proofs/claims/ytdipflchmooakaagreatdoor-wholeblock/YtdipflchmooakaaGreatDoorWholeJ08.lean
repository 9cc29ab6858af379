/-
  Layer 9: what is asked of draw's functions (a contract, over whatever the package's own variables may be). Key wrapping: its mathematics: the steps forth and back, and that they undo each other. Of no program. Layer 8: what is asked of wrap's functions (a contract, over whatever the package's own variables may be). A statement that draws its order, where two operations may come up: both are walked. Of no program; a tool for the walks. A statement that draws its order: one operation that yields the same value in every later world may be taken first. Of no program; a tool for the walks. WholeBlock: the contracts that it rests on, with plain variables; packs.
-/
import Derived.Test.YtdipflchmooakaaGreatDoorWholeJ07
import Derived.Test.YtdipflchmooakaaGreatDoorWholeJ05
import Derived.Test.YtdipflchmooakaaGreatDoorWholeJ06
import Derived.Test.YtdipflchmooakaaGreatDoorWholeJ01
import Derived.Test.YtdipflchmooakaaGreatDoorWholeJ02
import Derived.Test.YtdipflchmooakaaGreatDoorWholeJ04
set_option maxRecDepth 100000
namespace Go.Proofs.YtdipflchmooakaaGreatDoor
open Go.RowKit Go.Gar

/-- What is digested: a kind, two numbers, the draw; the digests; keys and the chain's beginning. -/
def drawPre (kind : UInt8) (id gen : Int) (d : List UInt8) : List UInt8 := [kind] ++ (be (b64 id) 8 ++ (be (b64 gen) 8 ++ d))
def drawn (kind : UInt8) (id gen : Int) (d : List UInt8) : List UInt8 := Sha.of (drawPre kind id gen d)
theorem drawn_len (kind : UInt8) (id gen : Int) (d : List UInt8) : (drawn kind id gen d).length = 32 := Sha.of_len _
theorem drawPre_len (kind : UInt8) (id gen : Int) (d : List UInt8) : (drawPre kind id gen d).length = 17 + d.length := by
  simp only [drawPre, List.length_append, be_len, List.length_singleton]; omega
def keysL (id gen : Int) (d : List UInt8) : List UInt8 := drawn 1 id gen d ++ drawn 2 id gen d
def ivL (id gen : Int) (d : List UInt8) : List UInt8 := (drawn 3 id gen d).take 16
theorem keysL_len (id gen : Int) (d : List UInt8) : (keysL id gen d).length = 64 := by rw [keysL, List.length_append, drawn_len, drawn_len]
theorem ivL_len (id gen : Int) (d : List UInt8) : (ivL id gen d).length = 16 := by rw [ivL, List.length_take, drawn_len]; rfl
/-- What From answers. -/
def fromL (b : List UInt8) : List UInt8 := if b.length = 64 then b else List.replicate 64 0
def fromE (b : List UInt8) : Nat := if b.length = 64 then 0 else 3
theorem fromL_len (b : List UInt8) : (fromL b).length = 64 := by
  unfold fromL
  split
  · assumption
  · rfl
structure DrawOK (G : World → Prop) : Prop where
  keep : ∀ {w w' : World}, G w → Below w.heap.size w w' → G w'
  keys : ∀ (w : World) (id gen : Int) (A : Option Addr) (d : List UInt8) (c : Nat), G w → Rd w w.heap.size A d → d.length ≤ c → d.length ≤ 1000000 →
    Calls Tryz.prog 6 #[.int .i64 id, .int .i64 gen, .slice A d.length c] w fun e w' => e = .returned (.agg (u8s (keysL id gen d)).toArray) ∧ Below w.heap.size w w'
  iv : ∀ (w : World) (id gen : Int) (A : Option Addr) (d : List UInt8) (c : Nat), G w → Rd w w.heap.size A d → d.length ≤ c → d.length ≤ 1000000 →
    Calls Tryz.prog 8 #[.int .i64 id, .int .i64 gen, .slice A d.length c] w fun e w' => e = .returned (.agg (u8s (ivL id gen d)).toArray) ∧ Below w.heap.size w w'
  bytes_ : ∀ (w : World) (l : List UInt8), l.length = 64 → Calls Tryz.prog 10 #[.agg (u8s l).toArray] w fun e w' => ∃ A c, e = .returned (.slice A 64 c) ∧ 64 ≤ c ∧ Rd w' w'.heap.size A l ∧ Below w.heap.size w w'
  from_ : ∀ (w : World) (A : Option Addr) (b : List UInt8) (c : Nat), Rd w w.heap.size A b → b.length ≤ c →
    Calls Tryz.prog 13 #[.slice A b.length c] w fun e w' => e = .returned (.tuple #[.agg (u8s (fromL b)).toArray, .int .i64 ((fromE b : Nat) : Int)]) ∧ Below w.heap.size w w'

end Go.Proofs.YtdipflchmooakaaGreatDoor
namespace Go.Gar.Wrp
open Go.Gar.Aes

/-- Part i of 8 bytes; the same part replaced. -/
def b8 (l : List UInt8) (i : Nat) : List UInt8 := (l.drop (8 * i)).take 8
def p8 (l : List UInt8) (i : Nat) (x : List UInt8) : List UInt8 := l.take (8 * i) ++ x ++ l.drop (8 * i + 8)
theorem b8_len (l : List UInt8) (i : Nat) (h : 8 * i + 8 ≤ l.length) : (b8 l i).length = 8 := by
  rw [b8, List.length_take, List.length_drop]; omega
theorem p8_len (l : List UInt8) (i : Nat) (x : List UInt8) (hx : x.length = 8) (h : 8 * i + 8 ≤ l.length) : (p8 l i x).length = l.length := by
  rw [p8, List.length_append, List.length_append, List.length_take, List.length_drop, hx]; omega
theorem b8_p8 (l : List UInt8) (i : Nat) (x : List UInt8) (hx : x.length = 8) (h : 8 * i + 8 ≤ l.length) : b8 (p8 l i x) i = x := by
  have hl : (l.take (8 * i)).length = 8 * i := by rw [List.length_take]; omega
  rw [b8, p8, List.append_assoc, List.drop_left' hl]
  exact List.take_left' hx
theorem p8_p8 (l : List UInt8) (i : Nat) (x y : List UInt8) (hx : x.length = 8) (h : 8 * i + 8 ≤ l.length) : p8 (p8 l i x) i y = p8 l i y := by
  have hl : (l.take (8 * i)).length = 8 * i := by rw [List.length_take]; omega
  have e1 : (p8 l i x).take (8 * i) = l.take (8 * i) := by rw [p8, List.append_assoc]; exact List.take_left' hl
  have e2 : (p8 l i x).drop (8 * i + 8) = l.drop (8 * i + 8) := by
    rw [p8]; exact List.drop_left' (by rw [List.length_append, hl, hx])
  rw [p8, e1, e2]
  rfl
theorem p8_b8 (l : List UInt8) (i : Nat) : p8 l i (b8 l i) = l := by
  rw [p8, b8, ← List.drop_drop, List.append_assoc, List.take_append_drop, List.take_append_drop]

/-- 8 bytes, XORed with a small number (its other bytes are zero). -/
def xt (a : List UInt8) (t : Nat) : List UInt8 := a.set 7 (at_ a 7 ^^^ UInt8.ofNat t)
theorem xt_len (a : List UInt8) (t : Nat) : (xt a t).length = a.length := by rw [xt, List.length_set]
theorem xt_xt (a : List UInt8) (t : Nat) (h : a.length = 8) : xt (xt a t) t = a := by
  have h7 : 7 < a.length := by omega
  have e : at_ (a.set 7 (at_ a 7 ^^^ UInt8.ofNat t)) 7 = at_ a 7 ^^^ UInt8.ofNat t := by
    rw [at_, List.getD_eq_getElem?_getD, List.getElem?_set_self (by omega)]; rfl
  rw [xt, xt, e, List.set_set, UInt8.xor_assoc, UInt8.xor_self, UInt8.xor_zero]
  have : at_ a 7 = a[7] := by rw [at_, List.getD_eq_getElem?_getD, List.getElem?_eq_getElem h7]; rfl
  rw [this, List.set_getElem_self]
def iv8 : List UInt8 := List.replicate 8 166

section
variable (key : List UInt8) (n : Nat)
/-- Step k (from 0 on), and the same one back. -/
def step (k : Nat) (s : List UInt8 × List UInt8) : List UInt8 × List UInt8 :=
  (xt ((encrypt key (s.1 ++ b8 s.2 (k % n))).take 8) (k + 1), p8 s.2 (k % n) ((encrypt key (s.1 ++ b8 s.2 (k % n))).drop 8))
def back (k : Nat) (s : List UInt8 × List UInt8) : List UInt8 × List UInt8 :=
  ((decrypt key (xt s.1 (k + 1) ++ b8 s.2 (k % n))).take 8, p8 s.2 (k % n) ((decrypt key (xt s.1 (k + 1) ++ b8 s.2 (k % n))).drop 8))
def Ok (s : List UInt8 × List UInt8) : Prop := s.1.length = 8 ∧ s.2.length = 8 * n
variable {key n}
theorem part_in (hn : 0 < n) (k : Nat) {s : List UInt8 × List UInt8} (h : Ok n s) : 8 * (k % n) + 8 ≤ s.2.length := by
  have := Nat.mod_lt k hn
  rw [h.2]; omega
theorem half1 (x : List UInt8) (h : x.length = 16) : (x.take 8).length = 8 := by rw [List.length_take]; omega
theorem half2 (x : List UInt8) (h : x.length = 16) : (x.drop 8).length = 8 := by rw [List.length_drop]; omega
theorem step_ok (hn : 0 < n) (k : Nat) {s : List UInt8 × List UInt8} (h : Ok n s) : Ok n (step key n k s) :=
  ⟨by rw [step, xt_len]; exact half1 _ (encrypt_len _ _), by rw [step, p8_len _ _ _ (half2 _ (encrypt_len _ _)) (part_in hn k h)]; exact h.2⟩
theorem back_ok (hn : 0 < n) (k : Nat) {s : List UInt8 × List UInt8} (h : Ok n s) : Ok n (back key n k s) :=
  ⟨by rw [back]; exact half1 _ (decrypt_len _ _), by rw [back, p8_len _ _ _ (half2 _ (decrypt_len _ _)) (part_in hn k h)]; exact h.2⟩
theorem back_step (hn : 0 < n) (k : Nat) {s : List UInt8 × List UInt8} (h : Ok n s) : back key n k (step key n k s) = s := by
  have hp := part_in hn k h
  have hb := b8_len _ _ hp
  have hx : (encrypt key (s.1 ++ b8 s.2 (k % n))).length = 16 := encrypt_len _ _
  have hd : decrypt key (encrypt key (s.1 ++ b8 s.2 (k % n))) = s.1 ++ b8 s.2 (k % n) := decrypt_encrypt _ _ (by rw [List.length_append, h.1, hb])
  simp only [back, step, xt_xt _ _ (half1 _ hx), b8_p8 _ _ _ (half2 _ hx) hp, p8_p8 _ _ _ _ (half2 _ hx) hp, List.take_append_drop, hd]
  rw [List.take_left' h.1, List.drop_left' h.1, p8_b8]
theorem step_back (hn : 0 < n) (k : Nat) {s : List UInt8 × List UInt8} (h : Ok n s) : step key n k (back key n k s) = s := by
  have hp := part_in hn k h
  have hb := b8_len _ _ hp
  have hx : (decrypt key (xt s.1 (k + 1) ++ b8 s.2 (k % n))).length = 16 := decrypt_len _ _
  have hd : encrypt key (decrypt key (xt s.1 (k + 1) ++ b8 s.2 (k % n))) = xt s.1 (k + 1) ++ b8 s.2 (k % n) := encrypt_decrypt _ _ (by rw [List.length_append, xt_len, h.1, hb])
  simp only [back, step, b8_p8 _ _ _ (half2 _ hx) hp, p8_p8 _ _ _ _ (half2 _ hx) hp, List.take_append_drop, hd]
  have h1 : (xt s.1 (k + 1)).length = 8 := by rw [xt_len]; exact h.1
  rw [List.take_left' h1, List.drop_left' h1, p8_b8, xt_xt _ _ h.1]

variable (key n)
/-- The first k steps; the last m steps of N, back. -/
def fw (s : List UInt8 × List UInt8) : Nat → List UInt8 × List UInt8
  | 0 => s
  | k + 1 => step key n k (fw s k)
def bw (s : List UInt8 × List UInt8) (N : Nat) : Nat → List UInt8 × List UInt8
  | 0 => s
  | m + 1 => back key n (N - 1 - m) (bw s N m)
variable {key n}
theorem fw_ok (hn : 0 < n) {s : List UInt8 × List UInt8} (h : Ok n s) : ∀ k, Ok n (fw key n s k)
  | 0 => h
  | k + 1 => step_ok hn k (fw_ok hn h k)
theorem bw_ok (hn : 0 < n) {s : List UInt8 × List UInt8} (h : Ok n s) (N : Nat) : ∀ m, Ok n (bw key n s N m)
  | 0 => h
  | m + 1 => back_ok hn _ (bw_ok hn h N m)
theorem bw_fw (hn : 0 < n) {s : List UInt8 × List UInt8} (h : Ok n s) (N : Nat) : ∀ m, m ≤ N → bw key n (fw key n s N) N m = fw key n s (N - m)
  | 0, _ => rfl
  | m + 1, hm => by
    rw [bw, bw_fw hn h N m (by omega), show N - m = (N - 1 - m) + 1 from by omega, fw, back_step hn _ (fw_ok hn h _), show N - (m + 1) = N - 1 - m from by omega]
theorem fw_bw (hn : 0 < n) {s : List UInt8 × List UInt8} (h : Ok n s) (N : Nat) : ∀ k, k ≤ N → fw key n (bw key n s N N) k = bw key n s N (N - k)
  | 0, _ => rfl
  | k + 1, hk => by
    rw [fw, fw_bw hn h N k (by omega), show N - k = (N - 1 - k) + 1 from by omega, bw, show N - 1 - (N - 1 - k) = k from by omega, step_back hn _ (bw_ok hn h N _), show N - (k + 1) = N - 1 - k from by omega]
end

def wrap_ (key b : List UInt8) : List UInt8 := (fw key (b.length / 8) (iv8, b) (6 * (b.length / 8))).1 ++ (fw key (b.length / 8) (iv8, b) (6 * (b.length / 8))).2
def unwrap_ (key w : List UInt8) : Option (List UInt8) :=
  if (bw key (w.length / 8 - 1) (w.take 8, w.drop 8) (6 * (w.length / 8 - 1)) (6 * (w.length / 8 - 1))).1 = iv8 then some (bw key (w.length / 8 - 1) (w.take 8, w.drop 8) (6 * (w.length / 8 - 1)) (6 * (w.length / 8 - 1))).2 else none
theorem wrap_len (key b : List UInt8) (h8 : b.length % 8 = 0) (hn : 0 < b.length) : (wrap_ key b).length = b.length + 8 := by
  have hp : 0 < b.length / 8 := by omega
  have h := fw_ok (key := key) hp (s := (iv8, b)) ⟨rfl, by show b.length = _; omega⟩ (6 * (b.length / 8))
  rw [wrap_, List.length_append, h.1, h.2]; omega
theorem unwrap_wrap (key b : List UInt8) (h8 : b.length % 8 = 0) (hn : 0 < b.length) : unwrap_ key (wrap_ key b) = some b := by
  have hp : 0 < b.length / 8 := by omega
  have h0 : Ok (b.length / 8) (iv8, b) := ⟨rfl, by show b.length = _; omega⟩
  have h := fw_ok (key := key) hp h0 (6 * (b.length / 8))
  have hw := wrap_len key b h8 hn
  have e1 : (wrap_ key b).length / 8 - 1 = b.length / 8 := by omega
  have e2 : ((wrap_ key b).take 8, (wrap_ key b).drop 8) = fw key (b.length / 8) (iv8, b) (6 * (b.length / 8)) := by
    rw [wrap_, List.take_left' h.1, List.drop_left' h.1]
  rw [unwrap_, e1, e2, bw_fw hp h0 _ _ (Nat.le_refl _), Nat.sub_self]
  exact if_pos rfl
theorem wrap_unwrap (key w z : List UInt8) (h8 : w.length % 8 = 0) (hn : 24 ≤ w.length) (h : unwrap_ key w = some z) : wrap_ key z = w ∧ z.length = w.length - 8 := by
  have hp : 0 < w.length / 8 - 1 := by omega
  have h0 : Ok (w.length / 8 - 1) (w.take 8, w.drop 8) := ⟨by show (w.take 8).length = 8; rw [List.length_take]; omega, by show (w.drop 8).length = _; rw [List.length_drop]; omega⟩
  have hb := bw_ok (key := key) hp h0 (6 * (w.length / 8 - 1)) (6 * (w.length / 8 - 1))
  rw [unwrap_] at h
  split at h
  · rename_i hi
    have hz := Option.some.inj h
    have hzl : z.length = w.length - 8 := by rw [← hz, hb.2]; omega
    have e1 : z.length / 8 = w.length / 8 - 1 := by omega
    have e2 : ((iv8, z) : List UInt8 × List UInt8) = bw key (w.length / 8 - 1) (w.take 8, w.drop 8) (6 * (w.length / 8 - 1)) (6 * (w.length / 8 - 1)) := by
      rw [← hz, ← hi]
    refine ⟨?_, hzl⟩
    rw [wrap_, e1, e2, fw_bw hp h0 _ _ (Nat.le_refl _), Nat.sub_self]
    exact List.take_append_drop 8 w
  · cases h
end Go.Gar.Wrp
namespace Go.Proofs.YtdipflchmooakaaGreatDoor
open Go.ChangeShapes Go.WideShapes Go.ChangeAt Go.RowKit Go.Gar Go.Gar.Aes

/-- So many bytes can be wrapped. -/
def fits (n : Nat) : Prop := n % 8 = 0 ∧ 16 ≤ n ∧ n ≤ 256
instance (n : Nat) : Decidable (fits n) := inferInstanceAs (Decidable (_ ∧ _ ∧ _))
instance (n : Nat) : Decidable (sizeOk n) := inferInstanceAs (Decidable (_ ∨ _ ∨ _))
/-- What Wrap and Unwrap answer: bytes, and an error's number. -/
def wrapB (key b : List UInt8) : List UInt8 := if sizeOk key.length ∧ fits b.length then Wrp.wrap_ key b else []
def wrapE (key b : List UInt8) : Nat := if sizeOk key.length ∧ fits b.length then 0 else 1
def unwrapB (key b : List UInt8) : List UInt8 := if sizeOk key.length ∧ 8 ≤ b.length ∧ fits (b.length - 8) then (Wrp.unwrap_ key b).getD [] else []
def unwrapE (key b : List UInt8) : Nat := if sizeOk key.length ∧ 8 ≤ b.length ∧ fits (b.length - 8) then (if (Wrp.unwrap_ key b).isSome then 0 else 8) else 1
structure WrapOK (G : World → Prop) : Prop where
  keep : ∀ {w w' : World}, G w → Below w.heap.size w w' → G w'
  wrap_ : ∀ (w : World) (K A : Option Addr) (key b : List UInt8) (kc bc : Nat), G w → Rd w w.heap.size K key → Rd w w.heap.size A b → key.length ≤ kc → b.length ≤ bc → b.length ≤ 1048576 →
    Calls Tryz.prog 9 #[.slice K key.length kc, .slice A b.length bc] w fun e w' => ∃ v, e = .returned (.tuple #[v, .int .i64 ((wrapE key b : Nat) : Int)]) ∧ Out w' v (wrapB key b) ∧ Below w.heap.size w w'
  unwrap_ : ∀ (w : World) (K A : Option Addr) (key b : List UInt8) (kc bc : Nat), G w → Rd w w.heap.size K key → Rd w w.heap.size A b → key.length ≤ kc → b.length ≤ bc → b.length ≤ 1048576 →
    Calls Tryz.prog 12 #[.slice K key.length kc, .slice A b.length bc] w fun e w' => ∃ v, e = .returned (.tuple #[v, .int .i64 ((unwrapE key b : Nat) : Int)]) ∧ Out w' v (unwrapB key b) ∧ Below w.heap.size w w'
end Go.Proofs.YtdipflchmooakaaGreatDoor
namespace Go.Gar
open Go.RowKit
section
variable {G : Growth} {P : Program} {ops : Array Oper} {Q : Exit → Act → World → Prop} {md : Region.Mode}

theorem wpOp_of_list {i : Nat} {o : Oper} {a : Act} {w : World} {K : Act → World → Prop} (hi : ops[i]? = some o) (h : wpList P ops (Exit.then K Q) [o] a w) : wpOp P ops Q i K a w := by
  unfold wpOp
  simp only [hi]
  unfold wpList at h
  split
  · rename_i hw
    simp only [hw, if_true] at h
    rcases h with h | ⟨h1, h2⟩
    · left
      unfold Oper.wp at h ⊢
      generalize (execOp a.eval o).run P w = r at *
      cases r with
      | ok n w' => cases n <;> exact h
      | halt x w' => cases x <;> exact h
    · exact .inr ⟨h1, h2⟩
  · rename_i hw
    simp only [hw] at h
    exact h
/-- Two operations may come up now. -/
theorem twoG {L : List Oper} (i j n : Nat) {N : Nat} {o p : Oper} {listed : Array Bool} {a : Act} {w : World} (hN : N = n + 1) (hr : Region.ready md L.toArray listed = [i, j]) (hi : L[i]? = some o) (hj : L[j]? = some p)
    (h1 : wpList P L.toArray (Exit.then (fun a' w' => G.rel w w' ∧ wpAnyG G P md L.toArray Q n (listed.setIfInBounds i true) a' w') Q) [o] a w)
    (h2 : wpList P L.toArray (Exit.then (fun a' w' => G.rel w w' ∧ wpAnyG G P md L.toArray Q n (listed.setIfInBounds j true) a' w') Q) [p] a w) : wpAnyG G P md L.toArray Q N listed a w := by
  subst hN
  refine ⟨fun h0 => (by rw [h0] at hr; cases hr), fun k hk => ?_⟩
  rw [hr] at hk
  rcases List.mem_cons.1 hk with rfl | hk
  · exact wpOp_mono (fun a' w' h => ⟨.inl h.1, h.2⟩) (wpOp_of_list (by simpa using hi) h1)
  · obtain rfl : k = j := by simpa using hk
    exact wpOp_mono (fun a' w' h => ⟨.inl h.1, h.2⟩) (wpOp_of_list (by simpa using hj) h2)
/-- The walk under a name: what is left of it may be stated once for all orders. -/
theorem nameG {fuel : Nat} {listed : Array Bool} {a : Act} {w : World} (h : ∀ W : Nat → Array Bool → Act → World → Prop, W = wpAnyG G P md ops Q → W fuel listed a w) : wpAnyG G P md ops Q fuel listed a w := h _ rfl
theorem sameG {fuel : Nat} {listed L' : Array Bool} {a : Act} {w : World} (e : listed = L') (h : wpAnyG G P md ops Q fuel L' a w) : wpAnyG G P md ops Q fuel listed a w := by rw [e]; exact h
end
end Go.Gar
namespace Go.Gar
open Go.RowKit
/-- All blocks below a bound stay as they were. -/
def belowG (B : Nat) : Growth := ⟨fun w w' => Below B w w', fun w => Below.refl _ w, fun h k => h.trans k⟩
theorem wpList_neq_arr_w {P : Program} {w : World} {ops : Array Oper} {rest : List Oper} {o : Oper} {a : Act} {Q : Exit → Act → World → Prop} (t t2 : TypeId) (p q : Operand) (ho : o.op = .binOp .neq t p q t2) {x y : Array Value} (hp : a.eval p = .agg x) (hq : a.eval q = .agg y) (r : Bool)
    (hg : P.eqGuardType P.depth t = false) (heq : ∀ w, (Op.equalIn 10000 t (.agg x) (.agg y)).run P w = .ok r w) (hw : Region.wanted o (yielded ops a.tmps) = true)
    (h : wpList P ops Q rest (a.put o.dst (.bool (!r))) w) : wpList P ops Q (o :: rest) a w := by
  refine wpList_run_w hw (v := .bool (!r)) (w' := w) ?_ h
  have h1 : (eqGuard .neq t p q (.agg x) (.agg y)).run P w = .ok () w := by
    simp [eqGuard, hg, Sem.run_bind]
  have h2 : (binOp .neq t (.agg x) (.agg y)).run P w = .ok (.bool (!r)) w := by
    have := heq w
    simp [binOp, Op.equal, Op.maxDepth, this, Result.andThen]
  unfold execOp
  simp only [ho, hp, hq, Sem.run_bind, h1, h2, Result.andThen_ok, Sem.run_pure]
section
variable {G : Growth} {P : Program} {Q : Exit → Act → World → Prop} {md : Region.Mode}
def firstOk (md : Region.Mode) (ops : Array Oper) (i : Nat) (listed : Array Bool) : Bool :=
  closedB md ops listed && (Region.ready md ops listed).contains i && Region.free md ops listed i
theorem firstG {L : List Oper} (hs : Region.noSelect L.toArray = true) (hQ : ∀ c (a : Act) (d : Tmp) v w, Q (.panic c) (a.put (some d) v) w → Q (.panic c) a w) (i n : Nat) {N : Nat} {o : Oper} {listed : Array Bool} {a : Act} {w : World} (hN : N = n + 1)
    (hi : L[i]? = some o) (hok : firstOk md L.toArray i listed = true) {v : Value} (hw : Region.wanted o (yielded L.toArray a.tmps) = true) (hrun : ∀ W : Later G w, (execOp a.eval o).run P W.to = .ok (.value v) W.to)
    (h : wpAnyG G P md L.toArray Q n (listed.setIfInBounds i true) (a.put o.dst v) w) : wpAnyG G P md L.toArray Q N listed a w := by
  subst hN
  simp only [firstOk, Bool.and_eq_true] at hok
  obtain ⟨⟨hcl, hr⟩, hf⟩ := hok
  have hi' : L.toArray[i]? = some o := by simpa using hi
  exact wpAnyG_first w hi' (Region.noSelect_spec hs) (fun c a w h => panic_put hQ c a _ _ w h) n listed a w (closed_of hcl) (Region.free_spec hi' hf) (by simpa using hr) (.inl ⟨hw, fun W hW => hrun ⟨W, hW⟩⟩) (G.refl w) h
/-- A slice turned into an array's address, first. -/
theorem firstG_arrayAt {L : List Oper} (t : TypeId) (p : Operand) {x v : Value} {n i : Nat} {N : Nat} {o : Oper} {listed : Array Bool} {a : Act} {w : World} (hs : Region.noSelect L.toArray = true) (hQ : ∀ c (a : Act) (d : Tmp) v w, Q (.panic c) (a.put (some d) v) w → Q (.panic c) a w) (hN : N = n + 1)
    (hi : L[i]? = some o) (hok : firstOk md L.toArray i listed = true) (ho : o.op = .sliceToArrayPointer t p) (hp : a.eval p = x) (hrun : ∀ W, (Instr.arrayAt t x).run P W = .ok v W) (hw : Region.wanted o (yielded L.toArray a.tmps) = true)
    (h : wpAnyG G P md L.toArray Q n (listed.setIfInBounds i true) (a.put o.dst v) w) : wpAnyG G P md L.toArray Q N listed a w := by
  refine firstG hs hQ i n hN hi hok hw (fun W => ?_) h
  unfold execOp
  simp only [ho, hp, Sem.run_bind, hrun, Result.andThen_ok, Sem.run_pure]
/-- An array loaded from the midst of a block, in a segment. -/
theorem wpQuiet_load_at {w : World} {ops : Array Oper} {Q : Act → Prop} {rest : List Oper} {o : Oper} {a : Act} (t : TypeId) (p : Operand) (ho : o.op = .load t p) {g q : Nat} (hp : a.eval p = .pointer (some ⟨g, q, none⟩)) (x : Array Value)
    (hld : ∀ W : Later G w, (loadVar t ⟨g, q, none⟩).run P W.to = .ok (.agg x) W.to) (hw : Region.wanted o (yielded ops a.tmps) = true)
    (h : wpQuiet P ops (fun W => ∃ y : Later G w, W = y.to) Q rest (a.put o.dst (.agg x))) : wpQuiet P ops (fun W => ∃ y : Later G w, W = y.to) Q (o :: rest) a := by
  refine wpQuiet_val hw (fun W hW => ?_) h
  obtain ⟨y, rfl⟩ := hW
  unfold execOp
  simp only [ho, hp, Instr.loadAt, Instr.sureAddr, Sem.run_bind, hld y, Result.andThen_ok, Sem.run_pure]
end
end Go.Gar
namespace Go.Proofs.YtdipflchmooakaaGreatDoor
open Go.RowKit Go.Gar Go.Gar.Aes

theorem wbSeal_at {G : World → Prop} (hOK : SealOK G) (w : World) (k iv b : List UInt8) (id gen : Int) (A : Option Addr) (bl c n : Nat) (O : List UInt8) (hG : G w) (hk : k.length = 64) (hiv : iv.length = 16) (hid : isI64 id) (hgen : isI64 gen) (r : Rd w w.heap.size A b) (hbl : bl = b.length) (hc : bl ≤ c) (hb : bl ≤ 900000) (hO : O = sealS k iv id gen b) (hn : n = O.length) :
    Calls Tryz.prog 7 #[.agg (u8s k).toArray, .agg (u8s iv).toArray, .int .i64 id, .int .i64 gen, .slice A bl c] w fun e w' => ∃ B d, e = .returned (.tuple #[.slice B n d, .int .i64 0]) ∧ n ≤ d ∧ Rd w' w'.heap.size B O ∧ Below w.heap.size w w' := by
  subst hbl; subst hO; subst hn
  refine (hOK.seal_ w k iv b id gen A c hG hk hiv hid hgen r hc hb).mono fun e w' he => ?_
  obtain ⟨v, h1, ⟨B, d, rfl, h3, h4⟩, h5⟩ := he
  exact ⟨B, d, h1, h3, h4, h5⟩
theorem wbOpen_at {G : World → Prop} (hOK : SealOK G) (w : World) (k s : List UInt8) (id gen : Int) (A : Option Addr) (sl c n : Nat) (E : Int) (O : List UInt8) (hG : G w) (hk : k.length = 64) (hid : isI64 id) (hgen : isI64 gen) (r : Rd w w.heap.size A s) (hsl : sl = s.length) (hc : sl ≤ c) (hb : sl ≤ 900000) (hE : E = ((openSE k id gen s : Nat) : Int)) (hO : O = openSB k id gen s) (hn : n = O.length) :
    Calls Tryz.prog 14 #[.agg (u8s k).toArray, .int .i64 id, .int .i64 gen, .slice A sl c] w fun e w' => ∃ B d, e = .returned (.tuple #[.slice B n d, .int .i64 E]) ∧ n ≤ d ∧ Rd w' w'.heap.size B O ∧ Below w.heap.size w w' := by
  subst hsl; subst hO; subst hn; subst hE
  refine (hOK.open_ w k s id gen A c hG hk hid hgen r hc hb).mono fun e w' he => ?_
  obtain ⟨v, h1, ⟨B, d, rfl, h3, h4⟩, h5⟩ := he
  exact ⟨B, d, h1, h3, h4, h5⟩
theorem wbKeys_at {G : World → Prop} (hOK : DrawOK G) (w : World) (id gen : Int) (A : Option Addr) (d : List UInt8) (n c : Nat) (L : List UInt8) (hG : G w) (hn : n = d.length) (hL : L = keysL id gen d) (hr : Rd w w.heap.size A d) (hc : n ≤ c) (hl : n ≤ 1000000) :
    Calls Tryz.prog 6 #[.int .i64 id, .int .i64 gen, .slice A n c] w fun e w' => e = .returned (.agg (u8s L).toArray) ∧ Below w.heap.size w w' := by
  subst hn; subst hL
  exact hOK.keys w id gen A d c hG hr hc hl
theorem wbIV_at {G : World → Prop} (hOK : DrawOK G) (w : World) (id gen : Int) (A : Option Addr) (d : List UInt8) (n c : Nat) (L : List UInt8) (hG : G w) (hn : n = d.length) (hL : L = ivL id gen d) (hr : Rd w w.heap.size A d) (hc : n ≤ c) (hl : n ≤ 1000000) :
    Calls Tryz.prog 8 #[.int .i64 id, .int .i64 gen, .slice A n c] w fun e w' => e = .returned (.agg (u8s L).toArray) ∧ Below w.heap.size w w' := by
  subst hn; subst hL
  exact hOK.iv w id gen A d c hG hr hc hl
theorem wbFrom_at {G : World → Prop} (hOK : DrawOK G) (w : World) (A : Option Addr) (b : List UInt8) (n c : Nat) (E : Int) (L : List UInt8) (hn : n = b.length) (hE : E = ((fromE b : Nat) : Int)) (hL : L = fromL b) (hr : Rd w w.heap.size A b) (hc : n ≤ c) :
    Calls Tryz.prog 13 #[.slice A n c] w fun e w' => e = .returned (.tuple #[.agg (u8s L).toArray, .int .i64 E]) ∧ Below w.heap.size w w' := by
  subst hn; subst hE; subst hL
  exact hOK.from_ w A b c hr hc
theorem wbWrap_at {G : World → Prop} (hOK : WrapOK G) (w : World) (K A : Option Addr) (key b : List UInt8) (kl kc bl bc : Nat) (E : Int) (O : List UInt8) (n : Nat) (hG : G w) (hkl : kl = key.length) (hbl : bl = b.length) (hE : E = ((wrapE key b : Nat) : Int)) (hO : O = wrapB key b) (hn : n = O.length)
    (rK : Rd w w.heap.size K key) (rA : Rd w w.heap.size A b) (hkc : kl ≤ kc) (hbc : bl ≤ bc) (hb : bl ≤ 1048576) :
    Calls Tryz.prog 9 #[.slice K kl kc, .slice A bl bc] w fun e w' => ∃ B c, e = .returned (.tuple #[.slice B n c, .int .i64 E]) ∧ n ≤ c ∧ Rd w' w'.heap.size B O ∧ Below w.heap.size w w' := by
  subst hkl; subst hbl; subst hE; subst hO; subst hn
  refine (hOK.wrap_ w K A key b kc bc hG rK rA hkc hbc hb).mono fun e w' he => ?_
  obtain ⟨v, h1, ⟨B, c, rfl, h2, h3⟩, h4⟩ := he
  exact ⟨B, c, h1, h2, h3, h4⟩
theorem wbUnwrap_at {G : World → Prop} (hOK : WrapOK G) (w : World) (K A : Option Addr) (key b : List UInt8) (kl kc bl bc : Nat) (E : Int) (O : List UInt8) (n : Nat) (hG : G w) (hkl : kl = key.length) (hbl : bl = b.length) (hE : E = ((unwrapE key b : Nat) : Int)) (hO : O = unwrapB key b) (hn : n = O.length)
    (rK : Rd w w.heap.size K key) (rA : Rd w w.heap.size A b) (hkc : kl ≤ kc) (hbc : bl ≤ bc) (hb : bl ≤ 1048576) :
    Calls Tryz.prog 12 #[.slice K kl kc, .slice A bl bc] w fun e w' => ∃ B c, e = .returned (.tuple #[.slice B n c, .int .i64 E]) ∧ n ≤ c ∧ Rd w' w'.heap.size B O ∧ Below w.heap.size w w' := by
  subst hkl; subst hbl; subst hE; subst hO; subst hn
  refine (hOK.unwrap_ w K A key b kc bc hG rK rA hkc hbc hb).mono fun e w' he => ?_
  obtain ⟨v, h1, ⟨B, c, rfl, h2, h3⟩, h4⟩ := he
  exact ⟨B, c, h1, h2, h3, h4⟩
theorem wbKeys_laid (w2 : World) (L : List UInt8) : ∃ w3, (w2.alloc (.cells z64.toArray 29)).setRow w2.heap.size (u8s L).toArray = w3 ∧ Blk w3 w2.heap.size 29 (u8s L) ∧ Below w2.heap.size w2 w3 ∧ Blk (w2.alloc (.cells z64.toArray 29)) w2.heap.size 29 z64 :=
  ⟨_, World.setRow_alloc_new w2 _ _ _, Blk.new w2 _ _, below_alloc w2 _, Blk.new w2 _ _⟩
theorem wbKeys_later {w : World} {g : Nat} {l : List UInt8} (h : Blk w g 29 (u8s l)) (hl : l.length = 64) :
    ∀ W : Later grows w, (Instr.loadAt 29 (.pointer (some ⟨g, 0, none⟩))).run Tryz.prog W.to = .ok (.agg (u8s l).toArray) W.to := by
  intro W
  have hx : Below w.heap.size w W.to := W.grown
  have := load_keys (h.below hx h.lt) hl
  simp only [Instr.loadAt, Instr.sureAddr, Sem.run_bind, Sem.run_pure, Result.andThen]
  exact this
theorem wbString {w : World} {A : Option Addr} {k : List UInt8} {B : Nat} (h : Rd w B A k) (n cap : Nat) (hn : n = k.length) (S : ByteArray) (hS : S = ⟨k.toArray⟩) :
    (convert 23 9 (.slice A n cap)).run Tryz.prog w = .ok (.string S) w := by
  subst hn; subst hS
  exact run_string_rd (P := Tryz.prog) 23 9 5 Tryz.und22 Tryz.und5 Tryz.und9 _ _ _ cap h
theorem pack_a : Lz.packB [97] = (0, [0, 97]) := by decide +kernel

set_option maxHeartbeats 2000000 in
theorem packs_any {G : World → Prop} (hOK : PackOK G) (w : World) (hG : G w) :
    Calls Tryz.prog 4 #[] w fun e w' => e = .returned (.bool true) ∧ Below w.heap.size w w' := by
  have hcv : ∀ (W : World) (C : Array Value) (n c g : Nat), g = W.heap.size → (convert 23 23 (.slice (some ⟨g, 0, none⟩) n c)).run Tryz.prog (W.alloc (.cells C 5)) = .ok (.slice (some ⟨g, 0, none⟩) n c) (W.alloc (.cells C 5 (C.size, C.size + 1))) :=
    fun W C n c g hg => Joins.run_convert_bytes_const_at W 23 5 C n c g hg Tryz.und22 Tryz.und5
  have HOK := Lib.hid hOK
  have HG := Lib.hid hG
  clear hOK hG
  go_enter Tryz.func4, Tryz.ntmps4
  go_wp2_with fail
  have hb1 := below_alloc w (.cells #[.int .u8 97] 5 (1, 2))
  refine (pack_at HOK.out (w.alloc (.cells #[.int .u8 97] 5 (1, 2))) _ [97] 1 1 0 [0, 97] 2 (HOK.out.keep HG.out hb1) rfl ?_ (Nat.le_refl _) (by omega) pack_a rfl).mono ?_
  · exact rd_const w [97] 5 (1, 2) _ _ _ rfl rfl (by simp)
  rintro e w2 ⟨A2, c2, rfl, hc2, hr2, hb2⟩
  have p2 := wbString hr2 2 c2 rfl _ rfl
  have Hb2 := Lib.hid (hb1.trans (hb2.mono hb1.size))
  clear hr2 hb1 hb2
  go_wp2
  go_ret
  exact ⟨by simp, Hb2.out⟩
end Go.Proofs.YtdipflchmooakaaGreatDoor
