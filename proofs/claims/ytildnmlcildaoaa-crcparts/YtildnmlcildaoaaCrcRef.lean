/-
  The reference's long division, bit by bit: its contract: it returns the sum as CrcM has it, for every sum and every bytes within the bound.
-/
import Derived.Test.YtildnmlcildaoaaBase
import Derived.Test.YtildnmlcildaoaaCrcM
namespace Go.Proofs.Ytildnmlcildaoaa
open Go.RowKit Go.Gar Go.Gar.Crc

theorem Try.undBools : Try.prog.underlying 34 = some (.slice 4) := by kernel_rfl
theorem Try.infoBool : (Try.prog.info? 4).map (fun i => (i.zero, i.size, i.bytes)) = some (some (.bool false), 1, 1) := by kernel_rfl

def row (f : Nat → Bool) : List Value := (List.range 32).map fun j => Value.bool (f j)
theorem row_len (f : Nat → Bool) : (row f).length = 32 := by simp [row]
theorem row_get (f : Nat → Bool) (i : Nat) (h : i < 32) : (row f)[i]? = some (.bool (f i)) := by
  simp [row, List.getElem?_range h]
theorem row_ext {f g : Nat → Bool} (h : ∀ j, j < 32 → f j = g j) : row f = row g := by
  unfold row
  apply List.map_congr_left
  intro j hj
  rw [h j (List.mem_range.1 hj)]
theorem row_set (f : Nat → Bool) (i : Nat) (b : Bool) : (row f).set i (.bool b) = row (fun j => if j = i then b else f j) := by
  apply List.ext_getElem?
  intro j
  by_cases hj : j < 32
  · rw [row_get _ j hj, List.getElem?_set]
    by_cases hij : i = j
    · subst hij
      simp [row_len, hj]
    · simp [hij, Ne.symm hij, row_get f j hj]
  · rw [List.getElem?_eq_none (by rw [List.length_set, row_len]; omega), List.getElem?_eq_none (by rw [row_len]; omega)]

theorem run_make_bools (w : World) : (Instr.makeSlice 34 (.int .i64 32) (.int .i64 32)).run Try.prog w = .ok (.slice (some ⟨w.heap.size, 0, none⟩) 32 32) (w.alloc (.cells (row fun _ => false).toArray 4)) := by
  obtain ⟨i, hi, hzz⟩ := Option.map_eq_some_iff.1 Try.infoBool
  simp only [Prod.mk.injEq] at hzz
  obtain ⟨hz, hs, hb⟩ := hzz
  have hr := run_make (P := Try.prog) w 34 4 i _ Try.undBools hi hz .i64 .i64 32 32 (by omega) (by omega) (by rw [hb]; omega) (by omega)
  rw [hr, hs]
  have e : madeCells (Value.bool false).cells (Int.toNat 32 * 1) = (row fun _ => false).toArray := by kernel_rfl
  rw [e]
  rfl

theorem and32 (a b : Nat) (ha : a < 4294967296) (hb : b < 4294967296) : bits .and .u32 (a : Int) (b : Int) = ((a &&& b : Nat) : Int) := by
  show IntKind.u32.wrap ((BitVec.ofInt 32 (a : Int) &&& BitVec.ofInt 32 (b : Int)).toNat : Int) = _
  have e : ∀ n : Nat, n < 4294967296 → (BitVec.ofInt 32 (n : Int)).toNat = n := fun n hn => by
    rw [BitVec.ofInt_natCast, BitVec.toNat_ofNat]; exact Nat.mod_eq_of_lt (by omega)
  have hx : a &&& b ≤ a := Nat.and_le_left
  rw [BitVec.toNat_and, e a ha, e b hb, IntKind.wrap_u32]
  omega
theorem and8 (a b : Nat) (ha : a < 256) (hb : b < 256) : bits .and .u8 (a : Int) (b : Int) = ((a &&& b : Nat) : Int) := by
  show IntKind.u8.wrap ((BitVec.ofInt 8 (a : Int) &&& BitVec.ofInt 8 (b : Int)).toNat : Int) = _
  have e : ∀ n : Nat, n < 256 → (BitVec.ofInt 8 (n : Int)).toNat = n := fun n hn => by
    rw [BitVec.ofInt_natCast, BitVec.toNat_ofNat]; exact Nat.mod_eq_of_lt (by omega)
  have hx : a &&& b ≤ a := Nat.and_le_left
  rw [BitVec.toNat_and, e a ha, e b hb]
  simp [IntKind.wrap, IntKind.bits, IntKind.signed]
  omega
theorem xor32 (x y : BitVec 32) : bits .xor .u32 (x.toNat : Int) (y.toNat : Int) = ((x ^^^ y).toNat : Int) := by
  show IntKind.u32.wrap ((BitVec.ofInt 32 (x.toNat : Int) ^^^ BitVec.ofInt 32 (y.toNat : Int)).toNat : Int) = _
  have e : ∀ z : BitVec 32, BitVec.ofInt 32 (z.toNat : Int) = z := fun z => by
    rw [BitVec.ofInt_natCast]; simp
  rw [e x, e y, IntKind.wrap_u32]
  have := (x ^^^ y).isLt
  omega
theorem div_cast (n k : Nat) : (n : Int) / 2 ^ k = ((n / 2 ^ k : Nat) : Int) := by simp
theorem mod2 (n k : Nat) : n / 2 ^ k &&& 1 = (n.testBit k).toNat := by
  rw [Nat.and_one_is_mod, Nat.testBit_eq_decide_div_mod_eq]
  have := Nat.mod_two_eq_zero_or_one (n / 2 ^ k)
  rcases this with h | h <;> simp [h]
theorem bit32 (s : BitVec 32) (k : Nat) : bits .and .u32 ((s.toNat : Int) / 2 ^ k) 1 = ((s.getLsbD k).toNat : Int) := by
  have h : s.toNat / 2 ^ k ≤ s.toNat := Nat.div_le_self _ _
  have := s.isLt
  have e := and32 (s.toNat / 2 ^ k) 1 (by omega) (by omega)
  rw [div_cast]
  rw [show (1 : Int) = ((1 : Nat) : Int) from rfl, e, mod2]
  rfl
theorem bit8 (c : UInt8) (k : Nat) : bits .and .u8 ((c.toNat : Int) / 2 ^ k) 1 = ((c.toNat.testBit k).toNat : Int) := by
  have h : c.toNat / 2 ^ k ≤ c.toNat := Nat.div_le_self _ _
  have := c.toNat_lt
  have e := and8 (c.toNat / 2 ^ k) 1 (by omega) (by omega)
  rw [div_cast]
  rw [show (1 : Int) = ((1 : Nat) : Int) from rfl, e, mod2]
theorem toNat_eq0 (b : Bool) : (((b.toNat : Nat) : Int) == 0) = !b := by cases b <;> rfl
theorem toNat_eq1 (b : Bool) : (((b.toNat : Nat) : Int) == 1) = b := by cases b <;> rfl

/-- Bit k of a register. -/
def gb (x : BitVec 32) (k : Nat) : Bool := x.getLsbD k
theorem gb_not (s : BitVec 32) (k : Nat) (h : k < 32) : gb (~~~ s) k = !(gb s k) := by simp [gb, h]
theorem gb_step (x : BitVec 32) (b : Bool) (j : Nat) (h : j < 32) : gb (bstep x b) j = ((if j < 31 then gb x (j + 1) else false) ^^ ((gb x 0 ^^ b) && gb poly j)) := by
  unfold gb bstep
  rw [BitVec.getLsbD_xor, BitVec.getLsbD_ushiftRight, Nat.add_comm 1 j]
  have e1 : (if j < 31 then x.getLsbD (j + 1) else false) = x.getLsbD (j + 1) := by
    split
    · rfl
    · rw [BitVec.getLsbD_of_ge _ _ (by omega)]
  rw [e1]
  cases x.getLsbD 0 ^^ b <;> simp

set_option maxRecDepth 100000 in
set_option maxHeartbeats 2000000 in
theorem refMore_any (s : BitVec 32) (A : Option Addr) (l : List UInt8) (cap : Nat) (w : World) (hr : Rd w w.heap.size A l) (hl : l.length ≤ 1000000) :
    Calls Try.prog 10 #[.int .u32 (s.toNat : Int), .slice A l.length cap] w fun e w' => e = .returned (.int .u32 ((more s l).toNat : Int)) ∧ Below w.heap.size w w' := by
  have hmk := fun W => run_make_bools W
  have hs := s.isLt
  have HRD := Lib.hid hr
  clear hr
  go_enter Try.func10, Try.ntmps10
  go_wp2
  go_loopw [6] (fun i W => ∃ (k : Nat) (f : Nat → Bool), k ≤ 32 ∧ i = .int .i64 k ∧ Blk W w.heap.size 4 (row f) ∧ (∀ j, j < k → f j = gb (~~~ s) j) ∧ Below w.heap.size w W) (fun i _ => 32 - (intOf i).toNat)
  case atStart => exact ⟨0, _, by omega, rfl, Blk.new w _ (row fun _ => false), by simp, below_alloc w _⟩
  case round =>
    obtain ⟨k, f, hk, rfl, hB, hf, hb⟩ := hrel
    by_cases hlt : k < 32
    · have hc := (hB.cell k).trans (row_get f k hlt)
      have hfz := hB.frozen k
      have HB := Lib.hid hB
      have HF := Lib.hid hf
      have Hb := Lib.hid hb
      obtain ⟨v, hv⟩ : ∃ v, gb (~~~ s) k = v := ⟨_, rfl⟩
      have hbit : (bits .and .u32 ((s.toNat : Int) / 2 ^ k) 1 == 0) = v := by rw [bit32, toNat_eq0, ← hv, gb_not s k hlt]; rfl
      have HV := Lib.hid hv
      clear hB hf hb hv
      go_wp2
      have hset := HB.out.set_ k (.bool v)
      rw [row_set] at hset
      refine ⟨⟨k + 1, _, by omega, by go_num, hset, fun j hj => ?_, Hb.out.setCell (Nat.le_refl _) _⟩, by simp [intOf]; omega⟩
      by_cases hjk : j = k
      · rw [if_pos hjk, hjk, HV.out]
      · rw [if_neg hjk]; exact HF.out j (by omega)
    · obtain rfl : k = 32 := by omega
      rw [row_ext (g := gb (~~~ s)) hf] at hB
      have HB0 := Lib.hid hB
      have Hb0 := Lib.hid hb
      clear hB hf hb
      go_wp2
      go_loopw [5, 7] (fun r i W => ∃ (k g : Nat) (x : BitVec 32), k ≤ 8 * l.length ∧ i = .int .i64 k ∧ r = .slice (some ⟨g, 0, none⟩) 32 32 ∧ x = bitsTo (~~~ s) l k ∧ Blk W g 4 (row (gb x)) ∧ Below w.heap.size w W) (fun _ i _ => 8 * l.length - (intOf i).toNat)
      case atStart => exact ⟨0, _, _, by omega, rfl, rfl, rfl, HB0.out, Hb0.out⟩
      case round =>
        obtain ⟨k, g, x, hk, rfl, rfl, hx, hB, hb⟩ := hrel
        have HX := Lib.hid hx
        have HB := Lib.hid hB
        have Hb := Lib.hid hb
        clear hx hb
        by_cases hlt : k < 8 * l.length
        · have hq : k / 8 < l.length := by omega
          obtain ⟨b0, o0, rfl, hcb⟩ : ∃ b o, A = some ⟨b, o, none⟩ ∧ wr.cell? ⟨b, o + k / 8, none⟩ = some (.int .u8 ((l.getD (k / 8) 0).toNat : Int)) := by
            rcases HRD.out with rfl | ⟨b, o, e, hbb, hcc⟩
            · simp at hq
            · exact ⟨b, o, e, (Hb.out.cell (p := ⟨b, _, none⟩) hbb).trans (hcc (k / 8) _ (by simp [List.getD, List.getElem?_eq_getElem hq]))⟩
          obtain ⟨bt, hbt⟩ : ∃ bt, bit l k = bt := ⟨_, rfl⟩
          have hbit : (bits .and .u8 (((l.getD (k / 8) 0).toNat : Int) / 2 ^ (k % 8)) 1 == 1) = bt := by rw [bit8, toNat_eq1, ← hbt]; rfl
          have hc8 := (l.getD (k / 8) 0).toNat_lt
          generalize (l.getD (k / 8) 0).toNat = c at *
          have hr0 := (hB.cell 0).trans (row_get (gb x) 0 (by omega))
          have HBT := Lib.hid hbt
          clear hbt hB
          generalize hg0 : gb x 0 = x0 at *
          have HG0 := Lib.hid hg0
          clear hg0
          obtain ⟨ov, hov⟩ : ∃ ov, (!(x0 == bt)) = ov := ⟨_, rfl⟩
          have HO := Lib.hid (show (gb x 0 ^^ bit l k) = ov from by rw [HG0.out, HBT.out, ← hov]; cases x0 <;> cases bt <;> rfl)
          have hgw : g < wr.heap.size := HB.out.lt
          have HBn := Lib.hid (Blk.new wr 4 (row fun _ => false))
          have HBo := Lib.hid (HB.out.alloc (.cells (row fun _ => false).toArray 4))
          have Hbn := Lib.hid (Hb.out.alloc Hb.out.size (.cells (row fun _ => false).toArray 4))
          have Hw2 := Lib.hid (show w.heap.size ≤ wr.heap.size from Hb.out.size)
          go_wp2
          generalize wr.alloc (.cells (row fun _ => false).toArray 4) = wn at *
          obtain ⟨g2, hg2⟩ : ∃ g2, wr.heap.size = g2 := ⟨_, rfl⟩
          rw [hg2] at HBn Hw2 hgw ⊢
          clear hov hbit hcb hc8 hr0 hg2
          go_loopw [11] (fun i W => ∃ (p : Nat) (f : Nat → Bool), p ≤ 31 ∧ i = .int .i64 p ∧ Blk W g2 4 (row f) ∧ Blk W g 4 (row (gb x)) ∧ (∀ j, j < p → f j = gb x (j + 1)) ∧ (∀ j, p ≤ j → f j = false) ∧ Below w.heap.size w W) (fun i _ => 31 - (intOf i).toNat)
          case atStart => exact ⟨0, _, by omega, rfl, HBn.out, HBo.out, by simp, by simp, Hbn.out⟩
          case round =>
            obtain ⟨p, f, hp, rfl, hB2, hB1, hf1, hf2, hb⟩ := hrel
            by_cases hlt : p < 31
            · have hc := (hB2.cell p).trans (row_get f p (by omega))
              have hfz := hB2.frozen p
              have hc1 := (hB1.cell (p + 1)).trans (row_get (gb x) (p + 1) (by omega))
              generalize hv : gb x (p + 1) = v at *
              have HV := Lib.hid hv
              have HB2 := Lib.hid hB2
              have HB1 := Lib.hid hB1
              have HF1 := Lib.hid hf1
              have HF2 := Lib.hid hf2
              have Hb' := Lib.hid hb
              clear hB2 hB1 hf1 hf2 hb hv
              go_wp2
              have hset := HB2.out.set_ p (.bool v)
              rw [row_set] at hset
              refine ⟨⟨p + 1, _, by omega, by go_num, hset, HB1.out.far (by show g ≠ g2; omega) _, fun j hj => ?_, fun j hj => ?_, Hb'.out.setCell (by show w.heap.size ≤ g2; exact Hw2.out) _⟩, by simp [intOf]; omega⟩
              · by_cases hjp : j = p
                · rw [if_pos hjp, hjp, HV.out]
                · rw [if_neg hjp]; exact HF1.out j (by omega)
              · rw [if_neg (by omega)]; exact HF2.out j (by omega)
            · obtain rfl : p = 31 := by omega
              have HB2 := Lib.hid hB2
              have HF1 := Lib.hid hf1
              have HF2 := Lib.hid hf2
              have Hb' := Lib.hid hb
              clear hB2 hB1 hf1 hf2 hb
              go_wp2
              go_loopw [12] (fun i W => ∃ (p : Nat) (f : Nat → Bool), p ≤ 32 ∧ i = .int .i64 p ∧ Blk W g2 4 (row f) ∧ (∀ j, j < p → f j = ((if j < 31 then gb x (j + 1) else false) ^^ gb poly j)) ∧ (∀ j, p ≤ j → j < 32 → f j = if j < 31 then gb x (j + 1) else false) ∧ (ov = false → p = 0) ∧ Below w.heap.size w W) (fun i _ => 32 - (intOf i).toNat)
              case atStart =>
                refine ⟨0, f, by omega, rfl, HB2.out, by simp, fun j _ hj => ?_, fun _ => rfl, Hb'.out⟩
                by_cases hj1 : j < 31
                · rw [if_pos hj1]; exact HF1.out j hj1
                · rw [if_neg hj1]; exact HF2.out j (by omega)
              case round =>
                obtain ⟨p, f3, hp, rfl, hB3, hf3, hf4, hov0, hb3⟩ := hrel
                have HB3 := Lib.hid hB3
                have HF3 := Lib.hid hf3
                have HF4 := Lib.hid hf4
                have HO0 := Lib.hid hov0
                have Hb3 := Lib.hid hb3
                clear hf3 hf4 hov0 hb3
                by_cases hlt : p < 32 ∧ ov = true
                · obtain ⟨hlt, rfl⟩ := hlt
                  have hd : decide ((p : Int) < 32) = true := by simp; omega
                  obtain ⟨pb, hpb⟩ : ∃ pb, gb poly p = pb := ⟨_, rfl⟩
                  have hbit : (bits .and .u32 ((3988292384 : Int) / 2 ^ p) 1 == 1) = pb := by
                    have := bit32 poly p
                    rw [show (poly.toNat : Int) = 3988292384 from by decide] at this
                    rw [this, toNat_eq1, ← hpb]; rfl
                  have HPB := Lib.hid hpb
                  have hc := (hB3.cell p).trans (row_get f3 p (by omega))
                  have hfz := hB3.frozen p
                  generalize hv : f3 p = v at *
                  have HV := Lib.hid hv
                  clear hpb hB3 hv
                  cases pb with
                  | true =>
                    go_wp2
                    have hset := HB3.out.set_ p (.bool (!v))
                    rw [row_set] at hset
                    refine ⟨⟨p + 1, _, by omega, by go_num, hset, fun j hj => ?_, fun j hj hj2 => ?_, (fun h => by cases h), Hb3.out.setCell (by show w.heap.size ≤ g2; exact Hw2.out) _⟩, by simp [intOf]; omega⟩
                    · by_cases hjp : j = p
                      · subst hjp
                        rw [if_pos rfl, ← HF4.out j (Nat.le_refl _) hlt, HPB.out, HV.out]; simp
                      · rw [if_neg hjp]; exact HF3.out j (by omega)
                    · rw [if_neg (by omega)]; exact HF4.out j (by omega) hj2
                  | false =>
                    go_wp2
                    refine ⟨⟨p + 1, _, by omega, by go_num, HB3.out, fun j hj => ?_, fun j hj hj2 => HF4.out j (by omega) hj2, (fun h => by cases h), Hb3.out⟩, by simp [intOf]; omega⟩
                    by_cases hjp : j = p
                    · subst hjp
                      rw [← HF4.out j (Nat.le_refl _) hlt, HPB.out]; simp
                    · exact HF3.out j (by omega)
                · have hrow : row f3 = row (gb (bstep x (bit l k))) := row_ext fun j hj => by
                    rw [gb_step x _ j hj, HO.out]
                    cases ov with
                    | true =>
                      have hp32 : p = 32 := by
                        have hn : ¬ p < 32 := fun h => hlt ⟨h, rfl⟩
                        omega
                      subst hp32
                      rw [HF3.out j hj]; simp
                    | false =>
                      have hp0 := HO0.out rfl
                      subst hp0
                      rw [HF4.out j (by omega) hj]; simp
                  have hB4 : Blk wr g2 4 (row (gb (bitsTo (~~~ s) l (k + 1)))) := by
                    have := HB3.out
                    rw [hrow, HX.out] at this
                    exact this
                  have HB4 := Lib.hid hB4
                  have hcond : (decide ((p : Int) < 32) && ov) = false := by
                    cases ov
                    · simp
                    · have : ¬ p < 32 := fun h => hlt ⟨h, rfl⟩
                      simp; omega
                  have HC := Lib.hid hcond
                  clear hB4 hrow hcond hB3
                  by_cases hp32 : p < 32
                  · have hd : decide ((p : Int) < 32) = true := by simp; omega
                    obtain rfl : ov = false := by cases ov <;> simp_all
                    clear hlt
                    go_wp2
                    exact ⟨⟨k + 1, g2, _, by omega, by go_num, rfl, rfl, HB4.out, Hb3.out⟩, by simp [intOf]; omega⟩
                  · have hd : decide ((p : Int) < 32) = false := by simp; omega
                    clear hlt
                    go_wp2
                    exact ⟨⟨k + 1, g2, _, by omega, by go_num, rfl, rfl, HB4.out, Hb3.out⟩, by simp [intOf]; omega⟩
        · obtain rfl : k = 8 * l.length := by omega
          have hy : more s l = ~~~ x := by rw [HX.out, bitsTo_all]; rfl
          obtain ⟨y, hyy⟩ : ∃ y, more s l = y := ⟨_, rfl⟩
          rw [hyy] at hy
          have HY := Lib.hid hy
          have HYY := Lib.hid hyy
          clear hy hyy hB
          have hlt' : ¬ (8 * l.length < 8 * l.length) := hlt
          go_wp2
          go_loopw [13, 14] (fun n i W => ∃ (q m : Nat), q ≤ 32 ∧ i = .int .i64 ((q : Int) - 1) ∧ n = .int .u32 (m : Int) ∧ m = y.toNat / 2 ^ q ∧ W = wr) (fun _ i _ => (intOf i + 1).toNat)
          case atStart => exact ⟨32, 0, by omega, rfl, rfl, by rw [Nat.div_eq_of_lt y.isLt], rfl⟩
          case round =>
            obtain ⟨q, m, hq, rfl, rfl, hm, rfl⟩ := hrel
            by_cases hq0 : 0 < q
            · obtain ⟨i, rfl⟩ : ∃ i, q = i + 1 := ⟨q - 1, by omega⟩
              rw [show ((i + 1 : Nat) : Int) - 1 = (i : Int) from by omega]
              have hmb : m < 2147483648 := by
                rw [hm, Nat.pow_succ, Nat.mul_comm, ← Nat.div_div_eq_div_mul]
                have h1 := y.isLt
                have h2 : y.toNat / 2 / 2 ^ i ≤ y.toNat / 2 := Nat.div_le_self _ _
                omega
              have hstep : y.toNat / 2 ^ i = 2 * m + (gb y i).toNat := by
                rw [hm, Nat.pow_succ, ← Nat.div_div_eq_div_mul]
                have h3 : (gb y i).toNat = y.toNat / 2 ^ i % 2 := by
                  show (y.toNat.testBit i).toNat = _
                  rw [← mod2, Nat.and_one_is_mod]
                rw [h3]; omega
              have hc := (HB.out.cell i).trans (row_get (gb x) i (by omega))
              have hyb : gb y i = !(gb x i) := by rw [HY.out, gb_not x i (by omega)]
              generalize hv : gb x i = v at *
              have HS := Lib.hid hstep
              have HYB := Lib.hid hyb
              clear hstep hyb hv hm
              cases v with
              | true =>
                go_wp2
                exact ⟨⟨i, 2 * m, by omega, rfl, by go_num, by rw [HS.out, HYB.out]; rfl, trivial⟩, by simp [intOf]⟩
              | false =>
                go_wp2
                exact ⟨⟨i, 2 * m + 1, by omega, rfl, by go_num, by rw [HS.out, HYB.out]; rfl, trivial⟩, by simp [intOf]⟩
            · obtain rfl : q = 0 := by omega
              have hmy : m = y.toNat := by rw [hm]; simp
              subst hmy
              clear hm
              go_wp2
              go_ret
              exact ⟨by rw [HYY.out]; rfl, Hb.out⟩
end Go.Proofs.Ytildnmlcildaoaa
