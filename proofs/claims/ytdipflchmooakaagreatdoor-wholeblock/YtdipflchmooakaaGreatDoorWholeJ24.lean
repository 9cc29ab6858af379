/-
  Layer 10: heads: three numbers, their bytes, and their comparison. Cuts of a []byte as run equations. Of no program. The landed seal: headBytes, headOf. sha.Of of two parts that the caller lists. copy, its run known. Of no program. Layer 10: short, the contracts with plain variables, the fixed fact awake.
-/
import Derived.Test.YtdipflchmooakaaGreatDoorWholeJ01
import Derived.Test.YtdipflchmooakaaGreatDoorWholeJ07
import Derived.Test.YtdipflchmooakaaGreatDoorWholeJ05
import Derived.Test.YtdipflchmooakaaGreatDoorWholeJ02
import Derived.Test.YtdipflchmooakaaGreatDoorWholeJ06
import Derived.Test.YtdipflchmooakaaGreatDoorWholeJ09
import Derived.Test.YtdipflchmooakaaGreatDoorWholeJ13
import Derived.Test.YtdipflchmooakaaGreatDoorWholeJ22
import Derived.Test.YtdipflchmooakaaGreatDoorWholeJ08
import Derived.Test.YtdipflchmooakaaGreatDoorWholeJ23
import Derived.BigQuiet
import Derived.BigRegion
import Derived.Deep.CutRange
import Derived.Lib.Mul64
import Derived.RegionTactic
set_option maxRecDepth 100000
namespace Go.Proofs.YtdipflchmooakaaGreatDoor
open Go.RowKit Go.Gar Go.Gar.Aes

theorem be_val (l : List UInt8) : be (val l) l.length = l := by
  suffices h : ∀ k : List UInt8, be (val k.reverse) k.length = k.reverse by simpa using h l.reverse
  intro k
  induction k with
  | nil => rfl
  | cons c k ih =>
    rw [List.reverse_cons, val_snoc, List.length_cons, be_snoc]
    have e : (val k.reverse * 256 + c.toNat) / 256 = val k.reverse := by have := c.toNat_lt; omega
    rw [e, ih]
    congr 2
    apply UInt8.toNat_inj.1
    simp
theorem s64_b64 (n : Int) (h : isI64 n) : s64 (b64 n) = n := by
  unfold isI64 at h
  unfold s64 b64 wrap64
  omega
theorem b64_s64 (v : Nat) (h : v < 18446744073709551616) : b64 (s64 v) = v := by
  unfold s64 b64 wrap64
  omega
theorem s64_is (v : Nat) : isI64 (s64 v) := by
  unfold isI64 s64 wrap64
  omega
theorem val8_lt (l : List UInt8) (h : l.length = 8) : val l < 18446744073709551616 := by
  have := val_lt l
  rw [h, show (256 : Nat) ^ 8 = 18446744073709551616 from by decide] at this
  exact this
theorem num8_iff (l : List UInt8) (n : Int) (hl : l.length = 8) (hn : isI64 n) : s64 (val l) = n ↔ l = be (b64 n) 8 := by
  have hv := val8_lt l hl
  have hb := be_val l
  rw [hl] at hb
  constructor
  · intro h
    rw [← h, b64_s64 _ hv, hb]
  · intro h
    have h1 : be (val l) 8 = be (b64 n) 8 := by rw [hb, ← h]
    have h2 := be8_inj hv (by unfold b64; omega) h1
    rw [h2, s64_b64 n hn]
/-- The numbers that bytes begin with. -/
def hN (s : List UInt8) (k : Nat) : Int := s64 (val (((s.take 24).drop (8 * k)).take 8))
theorem head_iff (s : List UInt8) (id gen : Int) (m : Nat) (hs : 24 ≤ s.length) (h1 : isI64 id) (h2 : isI64 gen) (hm : m ≤ 1099511627776) : s.take 24 = headL id gen m ↔ hN s 0 = id ∧ hN s 1 = gen ∧ hN s 2 = (m : Int) := by
  obtain ⟨T, hT⟩ : ∃ T, s.take 24 = T := ⟨_, rfl⟩
  have hTl : T.length = 24 := by rw [← hT, List.length_take]; omega
  have e : T = T.take 8 ++ ((T.drop 8).take 8 ++ (T.drop 16).take 8) := by
    have a1 := (List.take_append_drop 8 T).symm
    have a2 := (List.take_append_drop 8 (T.drop 8)).symm
    rw [List.drop_drop] at a2
    have a3 : (T.drop 16).take 8 = T.drop 16 := List.take_of_length_le (by rw [List.length_drop]; omega)
    rw [a3, ← a2, ← a1]
  have l0 : (T.take 8).length = 8 := by rw [List.length_take]; omega
  have l1 : ((T.drop 8).take 8).length = 8 := by rw [List.length_take, List.length_drop]; omega
  have l2 : ((T.drop 16).take 8).length = 8 := by rw [List.length_take, List.length_drop]; omega
  have hm64 : b64 (m : Int) = m := by unfold b64; omega
  unfold hN
  rw [hT]
  simp only [Nat.mul_zero, List.drop_zero, Nat.mul_one, show 8 * 2 = 16 from rfl]
  rw [num8_iff _ _ l0 h1, num8_iff _ _ l1 h2, num8_iff _ _ l2 (by unfold isI64; omega), hm64]
  constructor
  · intro h
    rw [e] at h
    unfold headL at h
    obtain ⟨q1, q2⟩ := List.append_inj h (by rw [l0, be_len])
    obtain ⟨q3, q4⟩ := List.append_inj q2 (by rw [l1, be_len])
    exact ⟨q1, q3, q4⟩
  · rintro ⟨q1, q2, q3⟩
    rw [e, q1, q2, q3]
    rfl

/-! Arrays of three numbers. -/
theorem Tryz.und3I : Tryz.prog.underlying 49 = some (.array 3 3) := by kernel_rfl
theorem Tryz.undInt : Tryz.prog.underlying 3 = some (.int .i64) := by kernel_rfl
theorem Tryz.keyInt : Tryz.prog.plainKey 3 = true := by kernel_rfl
theorem Tryz.cellsInt : Tryz.prog.cellsOf 3 = 1 := by kernel_rfl
theorem Tryz.guard3I : Tryz.prog.eqGuardType Tryz.prog.depth 49 = false := by kernel_rfl
theorem Tryz.info3I : (Tryz.prog.info? 49).map (fun i => (i.zero, i.size)) = some (some (.agg (Array.replicate 3 (.int .i64 0))), 3) := by kernel_rfl
theorem zero_3I (w : World) : (zeroValue 49).run Tryz.prog w = .ok (.agg #[.int .i64 0, .int .i64 0, .int .i64 0]) w := by
  have := (zero_of_info Tryz.info3I).1 w
  rw [this]
  rfl
theorem eq3 (a b c x y z : Int) (w : World) : (Op.equalIn 10000 49 (.agg #[.int .i64 a, .int .i64 b, .int .i64 c]) (.agg #[.int .i64 x, .int .i64 y, .int .i64 z])).run Tryz.prog w = .ok (decide (a = x ∧ b = y ∧ c = z)) w := by
  obtain ⟨i, hi⟩ : ∃ i, Tryz.prog.info? 3 = some i := by
    have hu := Tryz.undInt
    unfold Program.underlying at hu
    cases h : Tryz.prog.info? 3 with
    | none => simp [h] at hu
    | some i => exact ⟨i, rfl⟩
  rw [run_equalIn_array w 9999 _ _ Tryz.und3I hi, Tryz.cellsInt]
  have q0 : ∀ (p q r : Int), (#[Value.int .i64 p, .int .i64 q, .int .i64 r] : Array Value)[0]? = some (.int .i64 p) := fun _ _ _ => rfl
  have q1 : ∀ (p q r : Int), (#[Value.int .i64 p, .int .i64 q, .int .i64 r] : Array Value)[1]? = some (.int .i64 q) := fun _ _ _ => rfl
  have q2 : ∀ (p q r : Int), (#[Value.int .i64 p, .int .i64 q, .int .i64 r] : Array Value)[2]? = some (.int .i64 r) := fun _ _ _ => rfl
  have p0 : ∀ (p q r : Int) (w : World), (part 3 #[Value.int .i64 p, .int .i64 q, .int .i64 r] 0).run Tryz.prog w = .ok (.int .i64 p) w := fun p q r w => run_part_plain w Tryz.keyInt (q0 p q r)
  have p1 : ∀ (p q r : Int) (w : World), (part 3 #[Value.int .i64 p, .int .i64 q, .int .i64 r] 1).run Tryz.prog w = .ok (.int .i64 q) w := fun p q r w => run_part_plain w Tryz.keyInt (q1 p q r)
  have p2 : ∀ (p q r : Int) (w : World), (part 3 #[Value.int .i64 p, .int .i64 q, .int .i64 r] 2).run Tryz.prog w = .ok (.int .i64 r) w := fun p q r w => run_part_plain w Tryz.keyInt (q2 p q r)
  have ee : ∀ (p q : Int) (w : World), (Op.equalIn 9999 3 (.int .i64 p) (.int .i64 q)).run Tryz.prog w = .ok (p == q) w := fun p q w => run_equalIn_int w 9998 3 .i64 .i64 p q Tryz.undInt
  clear q0 q1 q2 hi
  have hr : List.range 3 = [0, 1, 2] := rfl
  rw [hr]
  simp only [Op.eqItems, Nat.zero_mul, Sem.run_bind, p0, ee, Result.andThen_ok]
  by_cases h1 : a = x
  · by_cases h2 : b = y
    · by_cases h3 : c = z
      · simp [h1, h2, h3, p1, p2, ee, Result.andThen]
      · simp [h1, h2, h3, p1, p2, ee, Result.andThen]
    · simp [h1, h2, p1, ee, Result.andThen]
  · simp [h1]
theorem index3 (a b c : Int) (j : Nat) (x : Int) (hx : ([.int .i64 a, .int .i64 b, .int .i64 c] : List Value)[j]? = some (.int .i64 x)) (w : World) : (Instr.index 49 (.agg #[.int .i64 a, .int .i64 b, .int .i64 c]) (.int .i64 (j : Int))).run Tryz.prog w = .ok (.int .i64 x) w := by
  have hagg : (isAgg 3).run Tryz.prog w = .ok false w := by
    unfold isAgg
    rw [Sem.run_bind, run_underlying Tryz.undInt w]
    rfl
  have hs : (Tryz.prog.info? 3).map (·.size) = some 1 := by kernel_rfl
  cases hq : Tryz.prog.info? 3 with
  | none => simp [hq] at hs
  | some i =>
    have h1 : i.size = 1 := by simpa [hq] using hs
    have hj : j < 3 := (List.getElem?_eq_some_iff.1 hx).1
    have hj3 : j = 0 ∨ j = 1 ∨ j = 2 := by omega
    rcases hj3 with rfl | rfl | rfl
    · obtain rfl : a = x := by simpa using hx
      simp [Instr.index, asIntOf, Sem.run_bind, run_underlying Tryz.und3I w, sizeOf, typeInfo, hq, part, hagg, Result.andThen]
    · obtain rfl : b = x := by simpa using hx
      simp [Instr.index, asIntOf, Sem.run_bind, run_underlying Tryz.und3I w, sizeOf, typeInfo, hq, h1, part, hagg, Result.andThen]
    · obtain rfl : c = x := by simpa using hx
      simp [Instr.index, asIntOf, Sem.run_bind, run_underlying Tryz.und3I w, sizeOf, typeInfo, hq, h1, part, hagg, Result.andThen]
theorem built3 (a b c : Int) : Tryz.prog.built 49 [(0, .int .i64 a), (1, .int .i64 b), (2, .int .i64 c)] = some #[.int .i64 a, .int .i64 b, .int .i64 c] := by
  kernel_rfl
end Go.Proofs.YtdipflchmooakaaGreatDoor
namespace Go.Proofs.YtdipflchmooakaaGreatDoor
open Go.RowKit Go.Gar

theorem slice_from (g o n c k : Nat) (h : k ≤ n) (h3 : k < c) (W : World) :
    (Instr.sliceAt 23 (.slice (some ⟨g, o, none⟩) n c) (some (.int .i64 (k : Int))) none none).run Tryz.prog W = .ok (.slice (some ⟨g, o + k, none⟩) (n - k) (c - k)) W := by
  obtain ⟨i, hi, hs⟩ := Option.map_eq_some_iff.1 Tryz.size5
  have h1 : (k : Int) ≤ (n : Int) := by omega
  have h5 : ¬ c = k := by omega
  simp [Instr.sliceAt, Instr.sliceBounds, Instr.sureAddr, run_underlying Tryz.und22 W, sizeOf, typeInfo, hi, hs, go_sem, h1, h5, Addr.add_lit]
theorem slice_upto (g o n c k : Nat) (h2 : k ≤ c) (W : World) :
    (Instr.sliceAt 23 (.slice (some ⟨g, o, none⟩) n c) none (some (.int .i64 (k : Int))) none).run Tryz.prog W = .ok (.slice (some ⟨g, o, none⟩) k c) W := by
  obtain ⟨i, hi, hs⟩ := Option.map_eq_some_iff.1 Tryz.size5
  have h4 : (k : Int) ≤ (c : Int) := by omega
  simp [Instr.sliceAt, Instr.sliceBounds, Instr.sureAddr, run_underlying Tryz.und22 W, sizeOf, typeInfo, hi, hs, go_sem, h4]

end Go.Proofs.YtdipflchmooakaaGreatDoor
namespace Go.Proofs.YtdipflchmooakaaGreatDoor
open Go.RowKit Go.Gar Go.Gar.Aes

/-- octet.Int with plain variables. -/
theorem intHead_at (w : World) (A : Option Addr) (l O : List UInt8) (n c m : Nat) (x : Int) (hn : n = l.length) (hm : m = n + 8) (hO : O = l ++ be (b64 x) 8) (hr : Rd w w.heap.size A l) (hsz : n ≤ 1000000000) :
    Calls Tryz.prog 39 #[.slice A n c, .int .i64 x] w fun e w' => ∃ g, e = .returned (.slice (some ⟨g, 0, none⟩) m m) ∧ Rd w' w'.heap.size (some ⟨g, 0, none⟩) O ∧ Below w.heap.size w w' := by
  subst hn; subst hm; subst hO
  refine (int_any A l c x w hr hsz).mono ?_
  rintro e w' ⟨rfl, hB, hb⟩
  exact ⟨_, rfl, Rd.of_all hB, hb⟩

set_option maxHeartbeats 1000000 in
theorem headBytes_any (w : World) (id gen : Int) (m : Nat) (hm : m ≤ 1099511627776) (O : List UInt8) (hO : O = headL id gen m) :
    Calls Tryz.prog 22 #[.agg #[.int .i64 id, .int .i64 gen, .int .i64 (m : Int)]] w fun e w' => ∃ g, e = .returned (.slice (some ⟨g, 0, none⟩) 24 24) ∧ Rd w' w'.heap.size (some ⟨g, 0, none⟩) O ∧ Below w.heap.size w w' := by
  have hm64 : b64 (m : Int) = m := by unfold b64; omega
  have hb0 := below_alloc w (.cells #[.int .i64 id, .int .i64 gen, .int .i64 (m : Int)] 49)
  obtain ⟨X1, hX1⟩ : ∃ X1, X1 = ([] : List UInt8) ++ be (b64 id) 8 := ⟨_, rfl⟩
  obtain ⟨X2, hX2⟩ : ∃ X2, X2 = X1 ++ be (b64 gen) 8 := ⟨_, rfl⟩
  have l1 : X1.length = 8 := by rw [hX1]; simp [be_len]
  have l2 : X2.length = 16 := by rw [hX2, List.length_append, l1, be_len]
  have hO2 : O = X2 ++ be (b64 (m : Int)) 8 := by rw [hO, hX2, hX1, hm64, headL, List.nil_append, List.append_assoc]
  have hB0 := Blk.new w 49 [.int .i64 id, .int .i64 gen, .int .i64 (m : Int)]
  obtain ⟨w0, hw0⟩ : ∃ w0, w.alloc (.cells #[.int .i64 id, .int .i64 gen, .int .i64 (m : Int)] 49) = w0 := ⟨_, rfl⟩
  have HW0 := Lib.hid hw0
  have HX1 := Lib.hid hX1
  have HX2 := Lib.hid hX2
  have HL1 := Lib.hid l1
  have HL2 := Lib.hid l2
  have HO := Lib.hid hO2
  rw [show (w.alloc (.cells [.int .i64 id, .int .i64 gen, .int .i64 (m : Int)].toArray 49)) = w0 from hw0] at hB0
  rw [hw0] at hb0
  have Hb0 := Lib.hid hb0
  have hld : (loadVar 49 ⟨w.heap.size, 0, none⟩).run Tryz.prog w0 = .ok (.agg #[.int .i64 id, .int .i64 gen, .int .i64 (m : Int)]) w0 := run_loadVar_row (P := Tryz.prog) w0 w.heap.size 49 49 #[.int .i64 id, .int .i64 gen, .int .i64 (m : Int)] (0, 0) _ hB0 Tryz.und3I rfl (by simpa using (zero_of_info Tryz.info3I).2)
  have HLD := Lib.hid hld
  clear hw0 hX1 hX2 l1 l2 hO2 hO hm64 hb0 hB0 hld
  generalize (m : Int) = mm at *
  go_enter Tryz.func22, Tryz.ntmps22
  go_wp2_with (first | (refine wpList_box_arr rfl 49 _ _ rfl rfl ?_; rw [HW0.out]) | refine wpList_load_arr_w 49 (.tmp 1) rfl rfl #[.int .i64 id, .int .i64 gen, .int .i64 mm] HLD.out (by kernel_rfl) ?_)
  go_loopw [3, 7] (fun v i w' => Below w.heap.size w w' ∧ ((i = .int .i64 0 ∧ v = .slice none 0 0) ∨ (i = .int .i64 1 ∧ ∃ g, v = .slice (some ⟨g, 0, none⟩) 8 8 ∧ Rd w' w'.heap.size (some ⟨g, 0, none⟩) X1) ∨ (i = .int .i64 2 ∧ ∃ g, v = .slice (some ⟨g, 0, none⟩) 16 16 ∧ Rd w' w'.heap.size (some ⟨g, 0, none⟩) X2) ∨ (i = .int .i64 3 ∧ ∃ g, v = .slice (some ⟨g, 0, none⟩) 24 24 ∧ Rd w' w'.heap.size (some ⟨g, 0, none⟩) O))) (fun _ i _ => 3 - (intOf i).toNat)
  case atStart => exact ⟨Hb0.out, .inl ⟨rfl, rfl⟩⟩
  case round =>
    obtain ⟨hb, h | ⟨rfl, g, rfl, hr⟩ | ⟨rfl, g, rfl, hr⟩ | ⟨rfl, g, rfl, hr⟩⟩ := hrel
    · obtain ⟨rfl, rfl⟩ := h
      have Hb := Lib.hid hb
      clear hb
      go_wp2_with (refine wpList_index_u8 49 (.tmp 6) (.tmp 7) rfl rfl rfl (index3 id gen mm 0 id rfl wr) (by kernel_rfl) ?_)
      refine (intHead_at wr none [] X1 0 0 8 id rfl rfl HX1.out Rd.nil (by omega)).mono ?_
      rintro e w1 ⟨g, rfl, hr1, hb1⟩
      have HR1 := Lib.hid hr1
      have Hb1 := bb Hb hb1
      clear hr1 hb1
      go_wp2
      exact ⟨⟨Hb1.out, .inr (.inl ⟨by go_num, g, rfl, HR1.out⟩)⟩, by simp [intOf]⟩
    · have Hb := Lib.hid hb
      have HR := Lib.hid hr
      clear hb hr
      go_wp2_with (refine wpList_index_u8 49 (.tmp 6) (.tmp 7) rfl rfl rfl (index3 id gen mm 1 gen rfl wr) (by kernel_rfl) ?_)
      refine (intHead_at wr _ X1 X2 8 8 16 gen HL1.out.symm rfl HX2.out HR.out (by omega)).mono ?_
      rintro e w1 ⟨g, rfl, hr1, hb1⟩
      have HR1 := Lib.hid hr1
      have Hb1 := bb Hb hb1
      clear hr1 hb1
      go_wp2
      exact ⟨⟨Hb1.out, .inr (.inr (.inl ⟨by go_num, g, rfl, HR1.out⟩))⟩, by simp [intOf]⟩
    · have Hb := Lib.hid hb
      have HR := Lib.hid hr
      clear hb hr
      go_wp2_with (refine wpList_index_u8 49 (.tmp 6) (.tmp 7) rfl rfl rfl (index3 id gen mm 2 mm rfl wr) (by kernel_rfl) ?_)
      refine (intHead_at wr _ X2 O 16 16 24 mm HL2.out.symm rfl HO.out HR.out (by omega)).mono ?_
      rintro e w1 ⟨g, rfl, hr1, hb1⟩
      have HR1 := Lib.hid hr1
      have Hb1 := bb Hb hb1
      clear hr1 hb1
      go_wp2
      exact ⟨⟨Hb1.out, .inr (.inr (.inr ⟨by go_num, g, rfl, HR1.out⟩))⟩, by simp [intOf]⟩
    · have Hb := Lib.hid hb
      have HR := Lib.hid hr
      clear hb hr
      go_wp2
      go_ret
      exact ⟨g, rfl, HR.out, Hb.out⟩

/-- A number of the head is read, the reader's place moves on. -/
theorem rint_at (w : World) (g d : Nat) (s : List UInt8) (k a b : Nat) (x : Int) (ha : a = 8 * k) (hb : b = 8 * k + 8) (hk : b ≤ 24) (hs : (s.take 24).length = 24) (hx : x = hN s k) (h : Rdr w g d (s.take 24) a false) :
    Calls Tryz.prog 59 #[.pointer (some ⟨g, 0, none⟩)] w fun e w' => e = .returned (.int .i64 x) ∧ Rdr w' g d (s.take 24) b false ∧ w.grownBy w' (some g) := by
  subst ha; subst hb; subst hx
  exact rint_fit g d (8 * k) (s.take 24) w h (by omega) (by omega)
theorem new_at (w : World) (A : Option Addr) (l : List UInt8) (n c : Nat) (hn : n = l.length) (hr : Rd w w.heap.size A l) (hsz : n ≤ 1000000000) :
    Calls Tryz.prog 58 #[.slice A n c] w fun e w' => e = .returned (.pointer (some ⟨w.heap.size + 1, 0, none⟩)) ∧ Rdr w' (w.heap.size + 1) w.heap.size l 0 false ∧ Below w.heap.size w w' := by
  subst hn
  exact new_any A l c w hr hsz
theorem Rdr.alloc {w : World} {g d at_ : Nat} {l : List UInt8} {bad : Bool} (h : Rdr w g d l at_ bad) (o : Obj) : Rdr (w.alloc o) g d l at_ bad := ⟨h.1.alloc o, h.2.alloc o⟩
theorem Tryz.size3c : (Tryz.prog.info? 49).map (·.size) = some 3 := (zero_of_info Tryz.info3I).2
def cells3 (a b c : Int) : List Value := [.int .i64 a, .int .i64 b, .int .i64 c]

set_option maxHeartbeats 2000000 in
theorem headOf_any (w : World) (ab ao : Nat) (s : List UInt8) (n c : Nat) (hn : n = s.length) (hr : Rd w w.heap.size (some ⟨ab, ao, none⟩) s) (hc : n ≤ c) (h24 : 24 ≤ n) :
    Calls Tryz.prog 30 #[.slice (some ⟨ab, ao, none⟩) n c] w fun e w' => e = .returned (.agg #[.int .i64 (hN s 0), .int .i64 (hN s 1), .int .i64 (hN s 2)]) ∧ Below w.heap.size w w' := by
  have hT : (s.take 24).length = 24 := by rw [List.length_take]; omega
  obtain ⟨x0, h0⟩ : ∃ x, x = hN s 0 := ⟨_, rfl⟩
  obtain ⟨x1, h1⟩ : ∃ x, x = hN s 1 := ⟨_, rfl⟩
  obtain ⟨x2, h2⟩ : ∃ x, x = hN s 2 := ⟨_, rfl⟩
  rw [← h0, ← h1, ← h2]
  have hB0 := Blk.new w 49 (cells3 0 0 0)
  have hb0 := below_alloc w (.cells #[.int .i64 0, .int .i64 0, .int .i64 0] 49)
  obtain ⟨w0, hw0⟩ : ∃ w0, w.alloc (.cells #[.int .i64 0, .int .i64 0, .int .i64 0] 49) = w0 := ⟨_, rfl⟩
  rw [show (w.alloc (.cells (cells3 0 0 0).toArray 49)) = w0 from hw0] at hB0
  have hs0 : w0.heap.size = w.heap.size + 1 := by rw [← hw0, World.size_alloc]
  rw [hw0] at hb0
  have hcut : ∀ W, (Instr.sliceAt 23 (.slice (some ⟨ab, ao, none⟩) n c) none (some (.int .i64 24)) none).run Tryz.prog W = .ok (.slice (some ⟨ab, ao, none⟩) 24 c) W := fun W => slice_upto ab ao n c 24 (by omega) W
  have HW0 := Lib.hid hw0
  have HB0 := Lib.hid hB0
  have Hb0 := Lib.hid hb0
  have HS0 := Lib.hid hs0
  have HT := Lib.hid hT
  have HR := Lib.hid hr
  have H0 := Lib.hid h0
  have H1 := Lib.hid h1
  have H2 := Lib.hid h2
  clear hw0 hB0 hb0 hs0 hT hr h0 h1 h2
  go_enter Tryz.func30, Tryz.ntmps30
  go_wp2_with (refine wpList_alloc_arr rfl 49 #[.int .i64 0, .int .i64 0, .int .i64 0] rfl zero_3I ?_; rw [HW0.out])
  refine (new_at w0 (some ⟨ab, ao, none⟩) (s.take 24) 24 c HT.out.symm (((HR.out.below Hb0.out).more Hb0.out.size).take 24) (by omega)).mono ?_
  rintro e w1 ⟨rfl, hr1, hb1⟩
  obtain ⟨gr, hgr⟩ : ∃ gr, gr = w0.heap.size + 1 := ⟨_, rfl⟩
  obtain ⟨gd, hgd⟩ : ∃ gd, gd = w0.heap.size := ⟨_, rfl⟩
  rw [← hgr, ← hgd] at hr1
  rw [← hgr]
  have HB1 := Lib.hid (HB0.out.below hb1 HB0.out.lt)
  have Hb1 := Lib.hid (Hb0.out.trans (hb1.mono Hb0.out.size))
  have HR1 := Lib.hid hr1
  have HGr := Lib.hid (show w.heap.size < gr by have := HS0.out; omega)
  have HGd := Lib.hid (show w.heap.size < gd by have := HS0.out; omega)
  clear hr1 hb1 hcut HB0 Hb0 hgr hgd HW0
  obtain ⟨gh, hgh⟩ : ∃ gh, gh = w1.heap.size := ⟨_, rfl⟩
  have hB2 := Blk.new w1 49 (cells3 0 0 0)
  have hb2 := below_alloc w1 (.cells #[.int .i64 0, .int .i64 0, .int .i64 0] 49)
  obtain ⟨w2, hw2⟩ : ∃ w2, w1.alloc (.cells #[.int .i64 0, .int .i64 0, .int .i64 0] 49) = w2 := ⟨_, rfl⟩
  rw [show (w1.alloc (.cells (cells3 0 0 0).toArray 49)) = w2 from hw2, ← hgh] at hB2
  rw [hw2] at hb2
  have HB2 := Lib.hid hB2
  have HRr := Lib.hid (HB1.out.below hb2 HB1.out.lt)
  have HR2 := Lib.hid (show Rdr w2 gr gd (s.take 24) 0 false by rw [← hw2]; exact HR1.out.alloc _)
  have Hb2 := Lib.hid (Hb1.out.trans (hb2.mono Hb1.out.size))
  have HW2 := Lib.hid hw2
  have Hgh := Lib.hid hgh
  have HNr := Lib.hid (show gr ≠ gh by have := HR1.out.1.lt; omega)
  have HNd := Lib.hid (show gd ≠ gh by have := HR1.out.2.lt; omega)
  have HGh := Lib.hid (show w.heap.size < gh by have := HB1.out.lt; omega)
  clear hB2 hb2 hw2 hgh HB1 HR1 Hb1
  go_wp2_with (refine wpList_alloc_arr rfl 49 #[.int .i64 0, .int .i64 0, .int .i64 0] rfl zero_3I ?_; rw [HW2.out, ← Hgh.out])
  go_loopw [9] (fun i w' => Below w.heap.size w w' ∧ Blk w' w.heap.size 49 (cells3 0 0 0) ∧ ((i = .int .i64 0 ∧ Rdr w' gr gd (s.take 24) 0 false ∧ Blk w' gh 49 (cells3 0 0 0)) ∨ (i = .int .i64 1 ∧ Rdr w' gr gd (s.take 24) 8 false ∧ Blk w' gh 49 (cells3 x0 0 0)) ∨ (i = .int .i64 2 ∧ Rdr w' gr gd (s.take 24) 16 false ∧ Blk w' gh 49 (cells3 x0 x1 0)) ∨ (i = .int .i64 3 ∧ Blk w' gh 49 (cells3 x0 x1 x2)))) (fun i _ => 3 - (intOf i).toNat)
  case atStart => exact ⟨Hb2.out, HRr.out, .inl ⟨rfl, HR2.out, HB2.out⟩⟩
  case round =>
    obtain ⟨hb, hrr, ⟨rfl, hr, hB⟩ | ⟨rfl, hr, hB⟩ | ⟨rfl, hr, hB⟩ | ⟨rfl, hB⟩⟩ := hrel
    · have Hb := Lib.hid hb
      have HRR := Lib.hid hrr
      have HR := Lib.hid hr
      have HB := Lib.hid hB
      clear hb hr hB hrr
      go_wp2_with fail
      refine (rint_at wr gr gd s 0 0 8 x0 rfl rfl (by omega) HT.out H0.out HR.out).mono ?_
      rintro e w3 ⟨rfl, hr3, hg3⟩
      have HR3 := Lib.hid hr3
      have HB3 := Lib.hid (HB.out.grown hg3 (fun h => HNr.out (Option.some.inj h).symm))
      have HRR3 := Lib.hid (HRR.out.grown hg3 (fun h => by have := HGr.out; have := Option.some.inj h; omega))
      have Hb3 := bg Hb hg3 (Lib.hid (Nat.le_of_lt HGr.out))
      clear hr3 hg3
      have hq := HB3.out.cell 0
      rw [show (cells3 0 0 0)[0]? = some (.int .i64 0) from rfl] at hq
      have hfz := HB3.out.frozen 0
      go_wp2
      refine ⟨⟨?_, ?_, .inr (.inl ⟨by go_num, ?_, ?_⟩)⟩, by simp [intOf]⟩
      · exact Hb3.out.setCell (Nat.le_of_lt HGh.out) _
      · exact HRR3.out.far (p := ⟨gh, 0, none⟩) (by show w.heap.size ≠ gh; have := HGh.out; omega) _
      · exact ⟨HR3.out.1.far (p := ⟨gh, 0, none⟩) HNr.out _, HR3.out.2.far (p := ⟨gh, 0, none⟩) HNd.out _⟩
      · exact HB3.out.set_ 0 _
    · have Hb := Lib.hid hb
      have HRR := Lib.hid hrr
      have HR := Lib.hid hr
      have HB := Lib.hid hB
      clear hb hr hB hrr
      go_wp2_with fail
      refine (rint_at wr gr gd s 1 8 16 x1 rfl rfl (by omega) HT.out H1.out HR.out).mono ?_
      rintro e w3 ⟨rfl, hr3, hg3⟩
      have HR3 := Lib.hid hr3
      have HB3 := Lib.hid (HB.out.grown hg3 (fun h => HNr.out (Option.some.inj h).symm))
      have HRR3 := Lib.hid (HRR.out.grown hg3 (fun h => by have := HGr.out; have := Option.some.inj h; omega))
      have Hb3 := bg Hb hg3 (Lib.hid (Nat.le_of_lt HGr.out))
      clear hr3 hg3
      have hq := HB3.out.cell 1
      rw [show (cells3 x0 0 0)[1]? = some (.int .i64 0) from rfl] at hq
      have hfz := HB3.out.frozen 1
      go_wp2
      refine ⟨⟨?_, ?_, .inr (.inr (.inl ⟨by go_num, ?_, ?_⟩))⟩, by simp [intOf]⟩
      · exact Hb3.out.setCell (Nat.le_of_lt HGh.out) _
      · exact HRR3.out.far (p := ⟨gh, 1, none⟩) (by show w.heap.size ≠ gh; have := HGh.out; omega) _
      · exact ⟨HR3.out.1.far (p := ⟨gh, 1, none⟩) HNr.out _, HR3.out.2.far (p := ⟨gh, 1, none⟩) HNd.out _⟩
      · exact HB3.out.set_ 1 _
    · have Hb := Lib.hid hb
      have HRR := Lib.hid hrr
      have HR := Lib.hid hr
      have HB := Lib.hid hB
      clear hb hr hB hrr
      go_wp2_with fail
      refine (rint_at wr gr gd s 2 16 24 x2 rfl rfl (by omega) HT.out H2.out HR.out).mono ?_
      rintro e w3 ⟨rfl, hr3, hg3⟩
      have HB3 := Lib.hid (HB.out.grown hg3 (fun h => HNr.out (Option.some.inj h).symm))
      have HRR3 := Lib.hid (HRR.out.grown hg3 (fun h => by have := HGr.out; have := Option.some.inj h; omega))
      have Hb3 := bg Hb hg3 (Lib.hid (Nat.le_of_lt HGr.out))
      clear hr3 hg3
      have hq := HB3.out.cell 2
      rw [show (cells3 x0 x1 0)[2]? = some (.int .i64 0) from rfl] at hq
      have hfz := HB3.out.frozen 2
      go_wp2
      refine ⟨⟨?_, ?_, .inr (.inr (.inr ⟨by go_num, ?_⟩))⟩, by simp [intOf]⟩
      · exact Hb3.out.setCell (Nat.le_of_lt HGh.out) _
      · exact HRR3.out.far (p := ⟨gh, 2, none⟩) (by show w.heap.size ≠ gh; have := HGh.out; omega) _
      · exact HB3.out.set_ 2 _
    · have hld : (loadVar 49 ⟨gh, 0, none⟩).run Tryz.prog wr = .ok (.agg (cells3 x0 x1 x2).toArray) wr := run_loadVar_row (P := Tryz.prog) wr gh 49 49 (cells3 x0 x1 x2).toArray (0, 0) _ hB Tryz.und3I rfl Tryz.size3c
      have hsz : (Tryz.prog.info? 49).map (·.size) = some (cells3 x0 x1 x2).length := (zero_of_info Tryz.info3I).2
      have hl2 := run_loadVar_row (P := Tryz.prog) (wr.setRow w.heap.size (cells3 x0 x1 x2).toArray) w.heap.size 49 49 (cells3 x0 x1 x2).toArray (0, 0) _ (hrr.row _) Tryz.und3I rfl Tryz.size3c
      have Hb9 := Lib.hid (below_setRow hb (Nat.le_refl _) (cells3 x0 x1 x2).toArray)
      have HLD := Lib.hid hld
      have HL2 := Lib.hid hl2
      have HSZ := Lib.hid hsz
      have HRR := Lib.hid hrr
      have h1c : ∀ u ∈ cells3 x0 x1 x2, u.oneCell' = true := by simp [cells3, Value.oneCell']
      have H1C := Lib.hid h1c
      clear hb hrr hB hld hl2 hsz h1c
      go_wp2_with (first | refine wpList_load_arr_w 49 (.tmp 4) rfl rfl (cells3 x0 x1 x2).toArray HLD.out (by kernel_rfl) ?_ | refine wpList_store_arr rfl 49 (.tmp 2) (.tmp 17) w.heap.size (cells3 0 0 0) (cells3 x0 x1 x2) rfl rfl rfl rfl HRR.out HSZ.out rfl H1C.out ?_)
      refine bodyPost_ret (v := .agg (cells3 x0 x1 x2).toArray) ?_ rfl ⟨rfl, Hb9.out⟩
      have hl2 := HL2.out
      generalize (cells3 x0 x1 x2).toArray = Y at hl2 ⊢
      simp [results, Act.put, Tryz.results30, asAddr, hl2]
end Go.Proofs.YtdipflchmooakaaGreatDoor
namespace Go.Proofs.YtdipflchmooakaaGreatDoor
open Go.RowKit Go.Gar

theorem sha2 {G : World → Prop} (hOK : ShaOK G) (A1 A2 : Option Addr) (l1 l2 : List UInt8) (n1 n2 c1 c2 g : Nat) (w : World) (x : Array Value) (hx : x = (u8s (Sha.of (l1 ++ l2))).toArray) (hG : G w) (hg : g = w.heap.size) (h1 : n1 = l1.length) (h2 : n2 = l2.length) (r1 : Rd w w.heap.size A1 l1) (r2 : Rd w w.heap.size A2 l2)
    (hs : (l1 ++ l2).length ≤ 1048576) (k1 : l1.length ≤ c1) (k2 : l2.length ≤ c2) :
    Calls Tryz.prog 40 #[.slice (some ⟨g, 0, none⟩) 2 2] (w.alloc (.cells #[.slice A1 n1 c1, .slice A2 n2 c2] 23)) fun e w' => e = .returned (.agg x) ∧ Below w.heap.size w w' ∧ Below (w.alloc (.cells #[.slice A1 n1 c1, .slice A2 n2 c2] 23)).heap.size (w.alloc (.cells #[.slice A1 n1 c1, .slice A2 n2 c2] 23)) w' := by
  subst h1; subst h2; subst hg; subst hx
  have hb := Blk.new w 23 [.slice A1 l1.length c1, .slice A2 l2.length c2]
  have hbl := below_alloc w (.cells #[.slice A1 l1.length c1, .slice A2 l2.length c2] 23)
  have h := hOK.of (w.alloc (.cells #[.slice A1 l1.length c1, .slice A2 l2.length c2] 23)) (some ⟨w.heap.size, 0, none⟩) [(A1, l1, c1), (A2, l2, c2)] 2 (hOK.keep hG hbl) (by simpa [partV] using Cells.of_blk hb) (by
    intro p hp
    simp at hp
    rcases hp with rfl | rfl
    · exact ⟨(r1.alloc (Nat.le_refl _) _).more (by simp), k1⟩
    · exact ⟨(r2.alloc (Nat.le_refl _) _).more (by simp), k2⟩) (by simpa [cat] using hs) (by simp)
  refine h.mono fun e w' ⟨h1, h2⟩ => ⟨by simpa [cat] using h1, hbl.trans (h2.mono hbl.size), h2⟩
end Go.Proofs.YtdipflchmooakaaGreatDoor
namespace Go.Gar
open Go.RowKit
/-- copy, its run known. -/
theorem wpList_copy_run {P : Program} {w : World} {ops : Array Oper} {rest : List Oper} {o : Oper} {a : Act} {Q : Exit → Act → World → Prop} (hgd : o.guard = none) (s x : Operand) (ts : Array TypeId)
    (ho : o.op = .call { callee := .builtin .copy, args := #[s, x], argTypes := ts }) {vs vx v : Value} {w' : World} (hs : a.eval s = vs) (hx : a.eval x = vx)
    (hrun : (Builtin.copy_ ts o.type #[vs, vx]).run P w = .ok v w') (h : wpList P ops Q rest (a.put o.dst v) w') : wpList P ops Q (o :: rest) a w := by
  refine wpList_run hgd (v := v) (w' := w') ?_ h
  unfold execOp
  simp only [ho, resolve, invoke, builtin, Sem.run_bind, Sem.run_pure, Result.andThen_ok, List.map_toArray, List.map_cons, List.map_nil, hs, hx, hrun]
end Go.Gar

namespace Go.Proofs.YtdipflchmooakaaGreatDoor
open Go.RowKit Go.Gar Go.Gar.Aes

theorem sealS_at {G : World → Prop} (hOK : SealOK G) (w : World) (k iv b : List UInt8) (kx vx : Array Value) (id gen : Int) (A : Option Addr) (bl c n : Nat) (O : List UInt8) (hkx : kx = (u8s k).toArray) (hvx : vx = (u8s iv).toArray) (hG : G w) (hk : k.length = 64) (hiv : iv.length = 16) (hid : isI64 id) (hgen : isI64 gen) (r : Rd w w.heap.size A b) (hbl : bl = b.length) (hc : bl ≤ c) (hb : bl ≤ 900000) (hO : O = sealS k iv id gen b) (hn : n = O.length) :
    Calls Tryz.prog 7 #[.agg kx, .agg vx, .int .i64 id, .int .i64 gen, .slice A bl c] w fun e w' => ∃ B d, e = .returned (.tuple #[.slice B n d, .int .i64 0]) ∧ n ≤ d ∧ Rd w' w'.heap.size B O ∧ Below w.heap.size w w' := by
  subst hkx; subst hvx; subst hbl; subst hO; subst hn
  refine (hOK.seal_ w k iv b id gen A c hG hk hiv hid hgen r hc hb).mono fun e w' he => ?_
  obtain ⟨v, h1, ⟨B, d, rfl, h3, h4⟩, h5⟩ := he
  exact ⟨B, d, h1, h3, h4, h5⟩
theorem sealO_at {G : World → Prop} (hOK : SealOK G) (w : World) (k s : List UInt8) (kx : Array Value) (id gen : Int) (A : Option Addr) (sl c n : Nat) (E : Int) (O : List UInt8) (hkx : kx = (u8s k).toArray) (hG : G w) (hk : k.length = 64) (hid : isI64 id) (hgen : isI64 gen) (r : Rd w w.heap.size A s) (hsl : sl = s.length) (hc : sl ≤ c) (hb : sl ≤ 900000) (hE : E = ((openSE k id gen s : Nat) : Int)) (hO : O = openSB k id gen s) (hn : n = O.length) :
    Calls Tryz.prog 14 #[.agg kx, .int .i64 id, .int .i64 gen, .slice A sl c] w fun e w' => ∃ B d, e = .returned (.tuple #[.slice B n d, .int .i64 E]) ∧ n ≤ d ∧ Rd w' w'.heap.size B O ∧ Below w.heap.size w w' := by
  subst hkx; subst hsl; subst hO; subst hn; subst hE
  refine (hOK.open_ w k s id gen A c hG hk hid hgen r hc hb).mono fun e w' he => ?_
  obtain ⟨v, h1, ⟨B, d, rfl, h3, h4⟩, h5⟩ := he
  exact ⟨B, d, h1, h3, h4, h5⟩
theorem sealT_at {G : World → Prop} (hOK : SealOK G) (w : World) (k s : List UInt8) (kx tx : Array Value) (A : Option Addr) (sl c : Nat) (ok : Bool) (T : List UInt8) (hkx : kx = (u8s k).toArray) (htx : tx = (u8s T).toArray) (hG : G w) (hk : k.length = 64) (r : Rd w w.heap.size A s) (hsl : sl = s.length) (hc : sl ≤ c) (hb : sl ≤ 900000) (hT : T = tagB k s) (hok : ok = decide (32 ≤ s.length)) :
    Calls Tryz.prog 56 #[.agg kx, .slice A sl c] w fun e w' => e = .returned (.tuple #[.agg tx, .bool ok]) ∧ Below w.heap.size w w' := by
  subst hkx; subst hsl; subst htx; subst hT; subst hok
  exact hOK.tag w k s A c hG hk r hc hb

theorem sK_facts (w2 : World) (L : List UInt8) : ∃ w3, (w2.alloc (.cells z64.toArray 29)).setRow w2.heap.size (u8s L).toArray = w3 ∧ Blk w3 w2.heap.size 29 (u8s L) ∧ Below w2.heap.size w2 w3 ∧ Blk (w2.alloc (.cells z64.toArray 29)) w2.heap.size 29 z64 :=
  ⟨_, World.setRow_alloc_new w2 _ _ _, Blk.new w2 _ _, below_alloc w2 _, Blk.new w2 _ _⟩
theorem s32_facts (w2 : World) (L : List UInt8) : ∃ w3, (w2.alloc (.cells z32.toArray 22)).setRow w2.heap.size (u8s L).toArray = w3 ∧ Blk w3 w2.heap.size 22 (u8s L) ∧ Below w2.heap.size w2 w3 ∧ Blk (w2.alloc (.cells z32.toArray 22)) w2.heap.size 22 z32 :=
  ⟨_, World.setRow_alloc_new w2 _ _ _, Blk.new w2 _ _, below_alloc w2 _, Blk.new w2 _ _⟩
theorem cut_from (g o n c k m : Nat) (hm : m = n - k) (h : k ≤ n) (h3 : k < c) (W : World) :
    (Instr.sliceAt 23 (.slice (some ⟨g, o, none⟩) n c) (some (.int .i64 (k : Int))) none none).run Tryz.prog W = .ok (.slice (some ⟨g, o + k, none⟩) m (c - k)) W := by
  subst hm
  obtain ⟨i, hi, hs⟩ := Option.map_eq_some_iff.1 Tryz.size5
  have h1 : (k : Int) ≤ (n : Int) := by omega
  have h5 : ¬ c = k := by omega
  simp [Instr.sliceAt, Instr.sliceBounds, Instr.sureAddr, run_underlying Tryz.und22 W, sizeOf, typeInfo, hi, hs, go_sem, h1, h5, Addr.add_lit]
theorem rd_at {w : World} {B : Nat} {A : Option Addr} {s : List UInt8} (h : Rd w B A s) (hs : 0 < s.length) : ∃ ab ao, A = some ⟨ab, ao, none⟩ := by
  rcases h with rfl | ⟨b, q, e, _⟩
  · simp at hs
  · exact ⟨b, q, e⟩
theorem rd_cut {w : World} {B ab oo : Nat} {s : List UInt8} (h : Rd w B (some ⟨ab, oo, none⟩) s) (o : Nat) : Rd w B (some ⟨ab, oo + o, none⟩) (s.drop o) := by
  rcases h with rfl | ⟨b, q, e, hb, hc⟩
  · exact .inl (by simp)
  · obtain ⟨rfl, rfl⟩ : ab = b ∧ oo = q := by simpa using e
    refine .inr ⟨ab, oo + o, rfl, hb, fun i c hi => ?_⟩
    have := hc (o + i) c (by rw [List.getElem?_drop] at hi; exact hi)
    rw [Nat.add_assoc]
    exact this
def zK : List UInt8 := List.replicate 64 0
def zV : List UInt8 := List.replicate 16 0
theorem isI64_of (n : Int) (h1 : -9223372036854775808 ≤ n) (h2 : n ≤ 9223372036854775807) : isI64 n := ⟨h1, h2⟩

end Go.Proofs.YtdipflchmooakaaGreatDoor
