/-
  CRC-32 as plain mathematics: the register's step, bytes, texts; that it is linear; that a text with bits turned within 32 in a row has another sum. No program's text.
-/
namespace Go.Gar.Crc

def poly : BitVec 32 := 0xEDB88320#32
/-- One step: shifted right, and the polynomial where the bit that fell out was 1. -/
def stp (x : BitVec 32) : BitVec 32 := (x >>> 1) ^^^ (if x.getLsbD 0 then poly else 0#32)
def steps : Nat → BitVec 32 → BitVec 32
  | 0, x => x
  | n + 1, x => steps n (stp x)
/-- One byte: into the register, then eight steps. -/
def byte (x : BitVec 32) (c : UInt8) : BitVec 32 := steps 8 (x ^^^ BitVec.ofNat 32 c.toNat)
def run (x : BitVec 32) (l : List UInt8) : BitVec 32 := l.foldl byte x
def more (s : BitVec 32) (l : List UInt8) : BitVec 32 := ~~~ run (~~~ s) l

theorem run_append (x : BitVec 32) (l k : List UInt8) : run x (l ++ k) = run (run x l) k := by simp [run]
theorem more_append (s : BitVec 32) (l k : List UInt8) : more s (l ++ k) = more (more s l) k := by
  simp [more, run_append]
theorem more_nil (s : BitVec 32) : more s [] = s := by simp [more, run]

theorem step_xor (x y : BitVec 32) : stp (x ^^^ y) = stp x ^^^ stp y := by
  unfold stp
  rw [BitVec.ushiftRight_xor_distrib, BitVec.getLsbD_xor]
  have e : (if (x.getLsbD 0 ^^ y.getLsbD 0) = true then poly else 0#32) = (if x.getLsbD 0 = true then poly else 0#32) ^^^ (if y.getLsbD 0 = true then poly else 0#32) := by
    cases x.getLsbD 0 <;> cases y.getLsbD 0 <;> simp
  rw [e]
  ac_rfl
theorem steps_xor (n : Nat) : ∀ x y : BitVec 32, steps n (x ^^^ y) = steps n x ^^^ steps n y := by
  induction n with
  | zero => intro x y; rfl
  | succ n ih => intro x y; simp only [steps, step_xor, ih]
theorem step_zero (x : BitVec 32) (h : stp x = 0#32) : x = 0#32 := by
  unfold stp at h
  by_cases h0 : x.getLsbD 0 = true
  · rw [if_pos h0] at h
    have h1 := congrArg (fun z : BitVec 32 => z.getLsbD 31) h
    simp [poly] at h1
  · rw [if_neg h0] at h
    have h1 : x >>> 1 = 0#32 := by simpa using h
    apply BitVec.eq_of_getLsbD_eq
    intro i hi
    cases i with
    | zero => simpa using h0
    | succ i =>
      have := congrArg (fun z : BitVec 32 => z.getLsbD i) h1
      simpa [Nat.add_comm] using this
theorem steps_zero (n : Nat) : ∀ x : BitVec 32, steps n x = 0#32 → x = 0#32 := by
  induction n with
  | zero => intro x h; exact h
  | succ n ih => intro x h; exact step_zero x (ih _ h)
theorem steps_add (m n : Nat) : ∀ x : BitVec 32, steps (m + n) x = steps n (steps m x) := by
  induction m with
  | zero => intro x; simp [steps]
  | succ m ih => intro x; rw [Nat.succ_add]; simp only [steps]; exact ih _
theorem steps_of_zero (n : Nat) : steps n 0#32 = 0#32 := by
  induction n with
  | zero => rfl
  | succ n ih => simp only [steps]; rw [show stp 0#32 = 0#32 from by decide]; exact ih

theorem ofNat_xor (a b : UInt8) : BitVec.ofNat 32 (a ^^^ b).toNat = BitVec.ofNat 32 a.toNat ^^^ BitVec.ofNat 32 b.toNat := by
  apply BitVec.eq_of_toNat_eq
  simp only [BitVec.toNat_ofNat, BitVec.toNat_xor, UInt8.toNat_xor]
  have ha := a.toNat_lt
  have hb := b.toNat_lt
  have hx : a.toNat ^^^ b.toNat < 2 ^ 8 := Nat.xor_lt_two_pow ha hb
  rw [Nat.mod_eq_of_lt (by omega), Nat.mod_eq_of_lt (by omega), Nat.mod_eq_of_lt (by omega)]
theorem byte_xor (x y : BitVec 32) (a b : UInt8) : byte (x ^^^ y) (a ^^^ b) = byte x a ^^^ byte y b := by
  unfold byte
  rw [← steps_xor, ofNat_xor]
  congr 1
  ac_rfl
/-- Two texts of one length: the registers' difference is that of the texts' difference. -/
theorem run_xor : ∀ (l k : List UInt8) (x y : BitVec 32), l.length = k.length → run x l ^^^ run y k = run (x ^^^ y) (List.zipWith (· ^^^ ·) l k)
  | [], [], x, y, _ => rfl
  | a :: l, b :: k, x, y, h => by
    have := run_xor l k (byte x a) (byte y b) (by simpa using h)
    simp only [run, List.foldl_cons, List.zipWith_cons_cons] at this ⊢
    rw [this, byte_xor]
  | [], _ :: _, _, _, h => by simp at h
  | _ :: _, [], _, _, h => by simp at h


theorem run_zeros (n : Nat) : ∀ d : BitVec 32, run d (List.replicate n 0) = steps (8 * n) d := by
  induction n with
  | zero => intro d; rfl
  | succ n ih =>
    intro d
    rw [List.replicate_succ, show run d (0 :: List.replicate n 0) = run (byte d 0) (List.replicate n 0) from rfl, ih, Nat.mul_succ, Nat.add_comm, steps_add]
    congr 1
    simp [byte]
theorem zip_zeros : ∀ l : List UInt8, List.zipWith (· ^^^ ·) l (List.replicate l.length 0) = l
  | [] => rfl
  | a :: l => by simp [List.replicate_succ, zip_zeros l]
/-- A difference in the register goes through the rest of a text by itself. -/
theorem run_diff (x d : BitVec 32) (l : List UInt8) : run (x ^^^ d) l = run x l ^^^ steps (8 * l.length) d := by
  rw [← run_zeros, run_xor l (List.replicate l.length 0) x d (by simp), zip_zeros]

def one : BitVec 32 := 1#32
theorem steps_pow : ∀ i, i < 32 → steps i (one <<< i) = one := by decide +kernel
theorem byte_pow : ∀ j : Nat, j < 8 → byte 0#32 ((1 : UInt8) <<< (UInt8.ofNat j)) = steps (8 - j) one := by decide +kernel
theorem steps_sub (N i : Nat) (hi : i < 32) (h : i ≤ N) : steps (N - i) one = steps N (one <<< i) := by
  rw [show N = i + (N - i) from by omega, steps_add, steps_pow i hi, Nat.add_sub_cancel_left]

/-- One bit of a text turned. -/
theorem run_flip (x : BitVec 32) (l : List UInt8) (q j : Nat) (hq : q < l.length) (hj : j < 8) :
    run x (l.set q (l[q] ^^^ ((1 : UInt8) <<< (UInt8.ofNat j)))) = run x l ^^^ steps (8 * l.length - (8 * q + j)) one := by
  have e1 : l = l.take q ++ l[q] :: l.drop (q + 1) := by rw [← List.drop_eq_getElem_cons hq, List.take_append_drop]
  have e2 : l.set q (l[q] ^^^ ((1 : UInt8) <<< (UInt8.ofNat j))) = l.take q ++ (l[q] ^^^ ((1 : UInt8) <<< (UInt8.ofNat j))) :: l.drop (q + 1) := by
    rw [List.set_eq_take_append_cons_drop, if_pos hq]
  have e3 : run x l = run (byte (run x (l.take q)) l[q]) (l.drop (q + 1)) := by
    conv => lhs; rw [e1, run_append]
    rfl
  have e4 : byte (run x (l.take q)) (l[q] ^^^ ((1 : UInt8) <<< (UInt8.ofNat j))) = byte (run x (l.take q)) l[q] ^^^ steps (8 - j) one := by
    have := byte_xor (run x (l.take q)) 0#32 l[q] ((1 : UInt8) <<< (UInt8.ofNat j))
    rw [BitVec.xor_zero, byte_pow j hj] at this
    exact this
  rw [e2, run_append, show run (run x (l.take q)) ((l[q] ^^^ ((1 : UInt8) <<< (UInt8.ofNat j))) :: l.drop (q + 1)) = run (byte (run x (l.take q)) (l[q] ^^^ ((1 : UInt8) <<< (UInt8.ofNat j)))) (l.drop (q + 1)) from rfl, e4, run_diff, e3, ← steps_add]
  congr 2
  rw [List.length_drop]; omega

/-- The low bits of B, i of them. -/
def low (B : BitVec 32) : Nat → BitVec 32
  | 0 => 0#32
  | i + 1 => low B i ^^^ (if B.getLsbD i then one <<< i else 0#32)
theorem low_bit (B : BitVec 32) (j : Nat) (hj : j < 32) : ∀ i, i ≤ 32 → (low B i).getLsbD j = (decide (j < i) && B.getLsbD j)
  | 0, _ => by simp [low]
  | i + 1, hi => by
    rw [low, BitVec.getLsbD_xor, low_bit B j hj i (by omega)]
    by_cases hij : j = i
    · subst hij
      cases B.getLsbD j <;> simp [one, hj]
    · have h1 : (if B.getLsbD i = true then one <<< i else 0#32).getLsbD j = false := by
        split
        · simp [one, BitVec.getLsbD_shiftLeft]
          intro _ _ 
          omega
        · simp
      rw [h1]
      have : (decide (j < i + 1)) = decide (j < i) := by
        rw [decide_eq_decide]; omega
      rw [this]; simp
theorem low_ne (B : BitVec 32) (i : Nat) (hi : i ≤ 32) : low B i ≠ 0#32 ↔ ∃ j, j < i ∧ B.getLsbD j = true := by
  constructor
  · intro h
    apply Classical.byContradiction
    intro hn
    apply h
    apply BitVec.eq_of_getLsbD_eq
    intro j hj
    rw [low_bit B j hj i hi]
    by_cases hji : j < i
    · have : B.getLsbD j = false := by
        cases hB : B.getLsbD j
        · rfl
        · exact absurd ⟨j, hji, hB⟩ hn
      simp [this]
    · simp [hji]
  · rintro ⟨j, hji, hB⟩ h
    have h1 := low_bit B j (by omega) i hi
    rw [h] at h1
    simp [hji, hB] at h1

/-- Bits turned within 32 in a row: another sum exactly if any was turned. -/
theorem more_turned (s : BitVec 32) (l k : List UInt8) (N : Nat) (B : BitVec 32) (i : Nat) (hi : i ≤ 32) (h : run (~~~ s) k = run (~~~ s) l ^^^ steps N (low B i)) : more s k ≠ more s l ↔ ∃ j, j < i ∧ B.getLsbD j = true := by
  rw [← low_ne B i hi]
  unfold more
  rw [h]
  constructor
  · intro h1 h2
    apply h1
    rw [h2, steps_of_zero, BitVec.xor_zero]
  · intro h1 h2
    apply h1
    apply steps_zero N
    have h3 : run (~~~ s) l ^^^ steps N (low B i) = run (~~~ s) l := by
      have := congrArg (fun z : BitVec 32 => ~~~ z) h2
      simpa using this
    have h4 := congrArg (fun z : BitVec 32 => run (~~~ s) l ^^^ z) h3
    simpa [← BitVec.xor_assoc] using h4

/-- One bit into the register, then one step. -/
def bstep (x : BitVec 32) (b : Bool) : BitVec 32 := (x >>> 1) ^^^ (if (x.getLsbD 0 ^^ b) then poly else 0#32)
theorem step_bit (x C : BitVec 32) : stp (x ^^^ C) = bstep x (C.getLsbD 0) ^^^ (C >>> 1) := by
  unfold stp bstep
  rw [BitVec.ushiftRight_xor_distrib, BitVec.getLsbD_xor]
  ac_rfl
def bit (l : List UInt8) (p : Nat) : Bool := (l.getD (p / 8) 0).toNat.testBit (p % 8)
/-- The register behind the first p bits. -/
def bitsTo (x : BitVec 32) (l : List UInt8) : Nat → BitVec 32
  | 0 => x
  | p + 1 => bstep (bitsTo x l p) (bit l p)
theorem byte_bits (x : BitVec 32) (c : UInt8) : byte x c = bstep (bstep (bstep (bstep (bstep (bstep (bstep (bstep x (c.toNat.testBit 0)) (c.toNat.testBit 1)) (c.toNat.testBit 2)) (c.toNat.testBit 3)) (c.toNat.testBit 4)) (c.toNat.testBit 5)) (c.toNat.testBit 6)) (c.toNat.testBit 7) := by
  have hc := c.toNat_lt
  have hb : ∀ i, i < 8 → ((BitVec.ofNat 32 c.toNat) >>> i).getLsbD 0 = c.toNat.testBit i := by
    intro i hi
    rw [BitVec.getLsbD_ushiftRight]
    simp [BitVec.getLsbD_ofNat]
    omega
  have hs : ∀ i : Nat, (BitVec.ofNat 32 c.toNat >>> i) >>> (1 : Nat) = BitVec.ofNat 32 c.toNat >>> (i + 1) := fun i => by
    rw [← BitVec.shiftRight_add]
  have h8 : BitVec.ofNat 32 c.toNat >>> 8 = 0#32 := by
    apply BitVec.eq_of_toNat_eq
    simp [BitVec.toNat_ushiftRight, Nat.shiftRight_eq_div_pow]
    omega
  unfold byte
  simp only [steps]
  have e0 : x ^^^ BitVec.ofNat 32 c.toNat = x ^^^ (BitVec.ofNat 32 c.toNat >>> 0) := by simp
  rw [e0]
  rw [step_bit, hs, hb 0 (by omega), step_bit, hs, hb 1 (by omega), step_bit, hs, hb 2 (by omega), step_bit, hs, hb 3 (by omega), step_bit, hs, hb 4 (by omega), step_bit, hs, hb 5 (by omega), step_bit, hs, hb 6 (by omega), step_bit, hs, hb 7 (by omega), h8, BitVec.xor_zero]
theorem bitsTo_byte (x : BitVec 32) (l : List UInt8) (q : Nat) : bitsTo x l (8 * q + 8) = byte (bitsTo x l (8 * q)) (l.getD q 0) := by
  have hd : ∀ i, i < 8 → bit l (8 * q + i) = (l.getD q 0).toNat.testBit i := fun i hi => by
    unfold bit
    rw [show (8 * q + i) / 8 = q from by omega, show (8 * q + i) % 8 = i from by omega]
  rw [byte_bits, ← hd 0 (by omega), ← hd 1 (by omega), ← hd 2 (by omega), ← hd 3 (by omega), ← hd 4 (by omega), ← hd 5 (by omega), ← hd 6 (by omega), ← hd 7 (by omega)]
  rfl
theorem bitsTo_run (x : BitVec 32) (l : List UInt8) : ∀ q, q ≤ l.length → bitsTo x l (8 * q) = run x (l.take q)
  | 0, _ => by simp [bitsTo, run]
  | q + 1, h => by
    rw [Nat.mul_succ, bitsTo_byte, bitsTo_run x l q (by omega), List.take_succ_eq_append_getElem (by omega), run_append]
    simp [run, List.getD, List.getElem?_eq_getElem (show q < l.length by omega)]
theorem bitsTo_all (x : BitVec 32) (l : List UInt8) : bitsTo x l (8 * l.length) = run x l := by
  rw [bitsTo_run x l l.length (Nat.le_refl _), List.take_length]
end Go.Gar.Crc
