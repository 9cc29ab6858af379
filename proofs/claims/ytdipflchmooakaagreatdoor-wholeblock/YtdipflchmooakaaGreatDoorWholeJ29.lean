/-
  bytes.Equal and bytes.HasSuffix: contracts. The landed cbc: unpadded. The landed cbc: Open: its contract. The landed cbc: Open, walked. The landed cbc keeps its contract.
-/
import Derived.Test.YtdipflchmooakaaGreatDoorWholeJ01
import Derived.Test.YtdipflchmooakaaGreatDoorWholeJ05
import Derived.Test.YtdipflchmooakaaGreatDoorWholeJ02
import Derived.Test.YtdipflchmooakaaGreatDoorWholeJ06
import Derived.Test.YtdipflchmooakaaGreatDoorWholeJ09
import Derived.Test.YtdipflchmooakaaGreatDoorWholeJ13
import Derived.Test.YtdipflchmooakaaGreatDoorWholeJ22
import Derived.Test.YtdipflchmooakaaGreatDoorWholeJ08
import Derived.Test.YtdipflchmooakaaGreatDoorWholeJ23
import Derived.Test.YtdipflchmooakaaGreatDoorWholeJ24
import Derived.Test.YtdipflchmooakaaGreatDoorWholeJ27
import Derived.Test.YtdipflchmooakaaGreatDoorWholeJ14
import Derived.Test.YtdipflchmooakaaGreatDoorWholeJ26
import Derived.Test.YtdipflchmooakaaGreatDoorWholeJ18
import Derived.Test.YtdipflchmooakaaGreatDoorWholeJ28
import Derived.BigRegion
import Derived.Deep.CutRange
import Derived.RegionTactic
set_option maxRecDepth 100000
namespace Go.Gar
open Go.RowKit
theorem Rd.dropped {w : World} {B b o : Nat} {l : List UInt8} (h : Rd w B (some ⟨b, o, none⟩) l) (k : Nat) : Rd w B (some ⟨b, o + k, none⟩) (l.drop k) := by
  rcases h with rfl | ⟨b', o', e, hb, hc⟩
  · exact .inl (by simp)
  · injection e with e
    injection e with e1 e2
    subst e1
    subst e2
    exact .inr ⟨b, o + k, rfl, hb, fun i c hi => by rw [List.getElem?_drop] at hi; rw [Nat.add_assoc]; exact hc _ _ hi⟩
theorem list_beq (l p : List UInt8) : (l == p) = decide (l = p) := by
  by_cases h : l = p
  · subst h; simp
  · rw [decide_eq_false h]; simpa using h
end Go.Gar
namespace Go.Proofs.YtdipflchmooakaaGreatDoor
open Go.RowKit Go.Gar Go.Gar.Aes

theorem filled_iff (l : List UInt8) (x : Nat) (hx : x ≤ l.length) (h16 : x ≤ 16) : Cbc.filled l x ↔ l.drop (l.length - x) = List.replicate x (UInt8.ofNat x) := by
  have hbyte : ∀ c : UInt8, c.toNat = x ↔ c = UInt8.ofNat x := fun c => by
    constructor
    · intro h
      apply UInt8.toNat_inj.1
      rw [h, UInt8.toNat_ofNat']; omega
    · rintro rfl
      rw [UInt8.toNat_ofNat']; omega
  constructor
  · intro h
    apply List.ext_getElem?
    intro i
    by_cases hi : i < x
    · have h1 := (hbyte _).1 (h (x - 1 - i) (by omega))
      rw [List.getElem?_drop, List.getElem?_replicate, if_pos hi, ← h1, at_get (l := l) (i := l.length - x + i) (by omega)]
      congr 2
      omega
    · rw [List.getElem?_eq_none (by rw [List.length_drop]; omega), List.getElem?_eq_none (by rw [List.length_replicate]; omega)]
  · intro h i hi
    rw [hbyte]
    have h1 : (l.drop (l.length - x))[x - 1 - i]? = (List.replicate x (UInt8.ofNat x))[x - 1 - i]? := by rw [h]
    rw [List.getElem?_drop, List.getElem?_replicate, if_pos (by omega), at_get (l := l) (i := l.length - x + (x - 1 - i)) (by omega)] at h1
    have h2 := Option.some.inj h1
    rw [← h2]
    congr 1
    omega

set_option maxHeartbeats 1000000 in
theorem bytesEqual_any (w : World) (A B : Option Addr) (l p : List UInt8) (n m ac bc : Nat) (hn : n = l.length) (hm : m = p.length) (rA : Rd w w.heap.size A l) (rB : Rd w w.heap.size B p) :
    Calls Tryz.prog 100 #[.slice A n ac, .slice B m bc] w fun e w' => e = .returned (.bool (decide (l = p))) ∧ w' = w := by
  have hs1 := run_string_rd (P := Tryz.prog) 23 9 5 Tryz.und22 Tryz.und5 Tryz.und9 A l _ ac rA
  have hs2 := run_string_rd (P := Tryz.prog) 23 9 5 Tryz.und22 Tryz.und5 Tryz.und9 B p _ bc rB
  rw [← hn] at hs1
  rw [← hm] at hs2
  have HE := Lib.hid (list_beq l p)
  clear rA rB hn hm
  go_enter Tryz.func100, Tryz.ntmps100
  go_wp2
  go_ret
  refine ⟨?_, rfl⟩
  rw [← HE.out]
  rfl

set_option maxHeartbeats 1000000 in
set_option maxRecDepth 100000 in
theorem hasSuffix_any (w : World) (b o : Nat) (B : Option Addr) (l p : List UInt8) (n m ac bc : Nat) (hn : n = l.length) (hm : m = p.length) (h1 : 1 ≤ m) (hmn : m ≤ n) (hac : n ≤ ac) (rA : Rd w w.heap.size (some ⟨b, o, none⟩) l) (rB : Rd w w.heap.size B p) (hbig : n ≤ 1048576) :
    Calls Tryz.prog 87 #[.slice (some ⟨b, o, none⟩) n ac, .slice B m bc] w fun e w' => e = .returned (.bool (decide (l.drop (n - m) = p))) ∧ w' = w := by
  obtain ⟨k, hk⟩ : ∃ k, k = n - m := ⟨_, rfl⟩
  have hki : (n : Int) - (m : Int) = (k : Int) := by omega
  have hkn : k ≤ n := by omega
  have hkc : k < ac := by omega
  have hsl := slice_from b o n ac k hkn hkc
  have hdl : n - k = (l.drop k).length := by rw [List.length_drop, ← hn]
  have hge : decide ((m : Int) ≤ (n : Int)) = true := by simp; omega
  have HE := Lib.hid (bytesEqual_any w (some ⟨b, o + k, none⟩) B (l.drop k) p (n - k) m (ac - k) bc hdl hm (rA.dropped k) rB)
  rw [← hk]
  clear rA rB hn hm hdl hk
  go_enter Tryz.func87, Tryz.ntmps87
  go_wp2_with fail
  refine HE.out.mono ?_
  rintro e w1 ⟨rfl, rfl⟩
  go_wp2
  go_ret
  exact ⟨rfl, rfl⟩

set_option maxHeartbeats 2000000 in
set_option maxRecDepth 100000 in
theorem unpadded_any (w : World) (A : Option Addr) (l : List UInt8) (n c : Nat) (hn : n = l.length) (h16 : n = 0 ∨ 16 ≤ n) (hc : n ≤ c) (hl : n ≤ 1048576) (hr : Rd w w.heap.size A l) (E : Int) (O : List UInt8) (hE : E = (((if (Cbc.unpad l).isSome then 0 else 12 : Nat)) : Int)) (hO : O = (Cbc.unpad l).getD []) :
    Calls Tryz.prog 60 #[.slice A n c] w fun e w' => ∃ v, e = .returned (.tuple #[v, .int .i64 E]) ∧ Out w' v O ∧ Below w.heap.size w w' := by
  rcases h16 with h0 | h16
  · subst h0
    have hl0 : l = [] := List.eq_nil_of_length_eq_zero hn.symm
    have hu : Cbc.unpad l = none := by rw [hl0]; rfl
    rw [hu] at hE hO
    obtain rfl : E = 12 := hE
    obtain rfl : O = [] := hO
    clear hr hu hl0 hn
    go_enter Tryz.func60, Tryz.ntmps60
    go_wp2
    go_ret2
    exact ⟨_, rfl, ⟨none, 0, rfl, Nat.le_refl _, .inl rfl⟩, Below.refl _ _⟩
  · obtain ⟨x, hx⟩ : ∃ x, x = Cbc.endN l := ⟨_, rfl⟩
    have hx8 : x < 256 := by rw [hx, Cbc.endN]; exact UInt8.toNat_lt _
    obtain ⟨b, o, hA, hcell⟩ : ∃ b o, A = some ⟨b, o, none⟩ ∧ w.cell? ⟨b, o + (n - 1), none⟩ = some (.int .u8 (x : Int)) := by
      rcases hr with rfl | ⟨b, o, e, _, hc⟩
      · simp at hn; omega
      · refine ⟨b, o, e, ?_⟩
        rw [hx, Cbc.endN, ← hn]
        exact hc _ _ (at_get (by omega))
    subst hA
    have hni : (n : Int) - 1 = ((n - 1 : Nat) : Int) := by omega
    obtain ⟨p, hp⟩ : ∃ p, p = n - 1 := ⟨_, rfl⟩
    rw [← hp] at hni hcell
    have hpn : (p : Int) < (n : Int) := by omega
    have hne : ((n : Int) == 0) = false := by simp; omega
    by_cases hgood : 1 ≤ x ∧ x ≤ 16
    · have hfi := filled_iff l x (by omega) hgood.2
      have hu : Cbc.unpad l = if l.drop (n - x) = List.replicate x (UInt8.ofNat x) then some (l.take (n - x)) else none := by
        rw [Cbc.unpad, ← hx, ← hn]
        rw [← hn] at hfi
        by_cases hq : Cbc.filled l x
        · rw [if_pos ⟨hgood.1, hgood.2, hq⟩, if_pos (hfi.1 hq)]
        · rw [if_neg (fun h => hq h.2.2), if_neg (fun h => hq (hfi.2 h))]
      rw [hu] at hE hO
      have HE := Lib.hid hE
      have HO := Lib.hid hO
      have HR := Lib.hid hr
      have HN := Lib.hid hn
      have d1 : decide ((x : Int) < 1) = false := by simp; omega
      have d2 : decide ((16 : Int) < (x : Int)) = false := by simp; omega
      clear hu hr hn hfi hx hp hE hO
      go_enter Tryz.func60, Tryz.ntmps60
      go_wp2_with fail
      refine (padding_any w x hgood.1 hgood.2).mono ?_
      rintro e w1 ⟨gp, rfl, rp, hb1⟩
      have Hb1 := Lib.hid hb1
      have HR1 := Lib.hid ((HR.out.below hb1).more hb1.size)
      have HP := Lib.hid rp
      clear hb1 rp HR hcell
      go_wp2_with fail
      refine (hasSuffix_any w1 b o (some ⟨gp, 0, none⟩) l (List.replicate x (UInt8.ofNat x)) n x c x HN.out (by simp) hgood.1 (by omega) hc HR1.out HP.out hl).mono ?_
      rintro e w2 ⟨rfl, rfl⟩
      obtain ⟨k, hk⟩ : ∃ k, k = n - x := ⟨_, rfl⟩
      rw [← hk] at HE HO ⊢
      have hki : (n : Int) - (x : Int) = (k : Int) := by omega
      have hkn : (k : Int) ≤ (c : Int) := by omega
      have hkm : decide ((1048576 : Int) < (k : Int)) = false := by simp; omega
      have hkm2 : (k : Int) ≤ 1048576 := by omega
      have hlk : (l.take k).length = k := by rw [List.length_take, ← HN.out]; omega
      have HLK := Lib.hid hlk
      have Hkc : Hid (k ≤ c) := Lib.hid (by omega)
      have hsl := slice_upto b o n c k (by omega)
      clear hk hlk
      by_cases hq : l.drop k = List.replicate x (UInt8.ofNat x)
      · rw [decide_eq_true hq]
        obtain rfl : E = 0 := by rw [HE.out, if_pos hq]; rfl
        have hO : O = l.take k := by rw [HO.out, if_pos hq]; rfl
        have HO2 := Lib.hid hO
        clear hq hO HE HO
        go_wp2
        go_ret2
        exact ⟨_, rfl, ⟨_, c, by rw [HO2.out, HLK.out]; rfl, by rw [HO2.out, HLK.out]; exact Hkc.out, by rw [HO2.out]; exact HR1.out.take k⟩, Hb1.out⟩
      · rw [decide_eq_false hq]
        obtain rfl : E = 12 := by rw [HE.out, if_neg hq]; rfl
        obtain rfl : O = [] := by rw [HO.out, if_neg hq]; rfl
        clear hq HE HO
        go_wp2
        go_ret2
        exact ⟨_, rfl, ⟨none, 0, rfl, Nat.le_refl _, .inl rfl⟩, Hb1.out⟩
    · have hu : Cbc.unpad l = none := by rw [Cbc.unpad, ← hx, if_neg (fun h => hgood ⟨h.1, h.2.1⟩)]
      rw [hu] at hE hO
      obtain rfl : E = 12 := hE
      obtain rfl : O = [] := hO
      clear hu hr hn hx hp
      go_enter Tryz.func60, Tryz.ntmps60
      by_cases hx0 : x < 1
      · have d1 : decide ((x : Int) < 1) = true := by simp; omega
        go_wp2
        go_ret2
        exact ⟨_, rfl, ⟨none, 0, rfl, Nat.le_refl _, .inl rfl⟩, Below.refl _ _⟩
      · have d1 : decide ((x : Int) < 1) = false := by simp; omega
        have d2 : decide ((16 : Int) < (x : Int)) = true := by simp; omega
        go_wp2
        go_ret2
        exact ⟨_, rfl, ⟨none, 0, rfl, Nat.le_refl _, .inl rfl⟩, Below.refl _ _⟩
end Go.Proofs.YtdipflchmooakaaGreatDoor
namespace Go.Proofs.YtdipflchmooakaaGreatDoor
open Go.RowKit Go.Shelf Go.Gar Go.Gar.Aes
attribute [local go_sem] Oper.semAt_some

/-- What lies behind some blocks: the last one, and all of them decrypted. -/
def opX (key iv : List UInt8) (pre : List B16) : List UInt8 × List UInt8 := pre.foldl (fun s x => (x.1, s.2 ++ addK (decrypt key x.1) s.1)) (iv, [])
theorem opX_snoc (key iv : List UInt8) (pre : List B16) (x : B16) : opX key iv (pre ++ [x]) = (x.1, (opX key iv pre).2 ++ addK (decrypt key x.1) (opX key iv pre).1) := by simp [opX]
theorem opX_take (key iv : List UInt8) (xs : List B16) : ∀ k, k ≤ xs.length → opX key iv (xs.take k) = (Cbc.prev iv (flatC xs) k, Cbc.opK key iv (flatC xs) k)
  | 0, _ => rfl
  | k + 1, h => by
    rw [List.take_succ_eq_append_getElem h, opX_snoc, opX_take key iv xs k (by omega), ← flat_blk xs k h]
    rfl
theorem opX_all (key iv : List UInt8) (xs : List B16) : (opX key iv xs).2 = Cbc.opK key iv (flatC xs) ((flatC xs).length / 16) := by
  have := opX_take key iv xs xs.length (Nat.le_refl _)
  rw [List.take_length] at this
  rw [this, flatC_len, Nat.mul_div_cancel_left _ (by omega)]
theorem opX_len1 (key iv : List UInt8) (hiv : iv.length = 16) (pre : List B16) : (opX key iv pre).1.length = 16 := by
  rcases List.eq_nil_or_concat pre with rfl | ⟨q, x, rfl⟩
  · exact hiv
  · rw [List.concat_eq_append, opX_snoc]; exact x.2
theorem opX_len2 (key iv : List UInt8) (pre : List B16) : (opX key iv pre).2.length = 16 * pre.length := by
  have := opX_take key iv pre pre.length (Nat.le_refl _)
  rw [List.take_length] at this
  rw [this]
  exact Cbc.opK_len _ _ _ _

set_option maxRecDepth 100000 in
set_option maxHeartbeats 2000000 in
theorem open_no (w : World) (K A : Option Addr) (kl kc bl bc : Nat) (x : Array Value) (hno : ¬ sizeOk kl) :
    Calls Tryz.prog 31 #[.slice K kl kc, .agg x, .slice A bl bc] w fun e w' => e = .returned (.tuple #[.slice none 0 0, .int .i64 1]) ∧ Below w.heap.size w w' := by
  have hb0 := below_alloc w (.cells x 32)
  obtain ⟨w0, hw0⟩ : ∃ w0, w.alloc (.cells x 32) = w0 := ⟨_, rfl⟩
  rw [hw0] at hb0
  have HW0 := Lib.hid hw0
  have Hb0 := Lib.hid hb0
  clear hw0 hb0
  go_enter Tryz.func31, Tryz.ntmps31
  go_wp2_with (refine wpList_box_arr rfl 32 (.tmp 1) x rfl rfl ?_; rw [HW0.out])
  refine (aesOK.new_no w0 K kl kc hno).mono ?_
  rintro e w1 ⟨rfl, hb1⟩
  have Hb1 := bb Hb0 hb1
  clear hb1
  go_wp2
  go_ret2
  exact ⟨rfl, Hb1.out.alloc Hb1.out.size _⟩

set_option maxRecDepth 100000 in
set_option maxHeartbeats 2000000 in
theorem open_cut (w : World) (K A : Option Addr) (key : List UInt8) (kl kc bl bc : Nat) (x : Array Value) (hkl : kl = key.length) (hs : sizeOk key.length) (hkc : kl ≤ kc) (rK : Rd w w.heap.size K key) (hcut : bl % 16 ≠ 0) (hb : bl ≤ 1048576) :
    Calls Tryz.prog 31 #[.slice K kl kc, .agg x, .slice A bl bc] w fun e w' => e = .returned (.tuple #[.slice none 0 0, .int .i64 12]) ∧ Below w.heap.size w w' := by
  have hb0 := below_alloc w (.cells x 32)
  obtain ⟨w0, hw0⟩ : ∃ w0, w.alloc (.cells x 32) = w0 := ⟨_, rfl⟩
  rw [hw0] at hb0
  have HW0 := Lib.hid hw0
  have Hb0 := Lib.hid hb0
  have HK := Lib.hid rK
  have HKL := Lib.hid hkl
  have HS := Lib.hid hs
  have hne : ((bl : Int) % 16 == 0) = false := by simp; omega
  clear hw0 hb0 rK hkl hs
  go_enter Tryz.func31, Tryz.ntmps31
  go_wp2_with (refine wpList_box_arr rfl 32 (.tmp 1) x rfl rfl ?_; rw [HW0.out])
  refine (aesOK.new_yes w0 K key kl kc HS.out HKL.out (by have := HKL.out; omega) (HK.out.below Hb0.out |>.more Hb0.out.size)).mono ?_
  rintro e w1 ⟨gc, rfl, _, hb1⟩
  have Hb1 := bb Hb0 hb1
  clear hb1
  go_wp2
  go_ret2
  exact ⟨rfl, Hb1.out.alloc Hb1.out.size _⟩
end Go.Proofs.YtdipflchmooakaaGreatDoor
namespace Go.Proofs.YtdipflchmooakaaGreatDoor
open Go.RowKit Go.Shelf Go.Gar Go.Gar.Aes
attribute [local go_sem] Oper.semAt_some

set_option maxRecDepth 100000 in
set_option maxHeartbeats 4000000 in
theorem open_in (w : World) (K A : Option Addr) (key iv b : List UInt8) (kl kc bl bc : Nat) (hkl : kl = key.length) (hbl : bl = b.length) (hs : sizeOk key.length) (hiv : iv.length = 16) (hkc : kl ≤ kc) (hbc : bl ≤ bc) (hb : bl ≤ 1048576) (hmod : bl % 16 = 0)
    (rK : Rd w w.heap.size K key) (rA : Rd w w.heap.size A b) (E : Int) (O P : List UInt8) (hP : P = Cbc.opK key iv b (b.length / 16)) (hE : E = (((if (Cbc.unpad P).isSome then 0 else 12 : Nat)) : Int)) (hO : O = (Cbc.unpad P).getD []) :
    CallsIn Fence.wide 10 Tryz.prog 31 #[.slice K kl kc, .agg (u8s iv).toArray, .slice A bl bc] w fun e w' => ∃ v, e = .returned (.tuple #[v, .int .i64 E]) ∧ Out w' v O ∧ Below w.heap.size w w' := by
  obtain ⟨gt, hgt, hAt⟩ : ∃ gt, gt ≤ w.heap.size ∧ (0 < bl → ∃ o, A = some ⟨gt, o, none⟩ ∧ At w gt o b) := by
    rcases rA with h0 | ⟨g, o, e, hg, hc⟩
    · exact ⟨w.heap.size, Nat.le_refl _, fun h => by rw [hbl, h0] at h; exact absurd h (by simp)⟩
    · exact ⟨g, by omega, fun _ => ⟨o, e, hc⟩⟩
  have hI0 := Blk.new w 32 (u8s iv)
  have hb0 := below_alloc w (.cells (u8s iv).toArray 32)
  obtain ⟨w0, hw0⟩ : ∃ w0, w.alloc (.cells (u8s iv).toArray 32) = w0 := ⟨_, rfl⟩
  rw [hw0] at hI0 hb0
  have HW0 := Lib.hid hw0
  have HI0 := Lib.hid hI0
  have Hb0 := Lib.hid hb0
  have HPe := Lib.hid hP
  have HE := Lib.hid hE
  have HO := Lib.hid hO
  have HS := Lib.hid hs
  have HIV := Lib.hid hiv
  have HK := Lib.hid rK
  have HAt := Lib.hid hAt
  have HKL := Lib.hid hkl
  have HBL := Lib.hid hbl
  have HMod := Lib.hid hmod
  have Hgt := Lib.hid hgt
  have hne : ((bl : Int) % 16 == 0) = true := by simp; omega
  clear hw0 hI0 hb0 hP hE hO hs hiv rK rA hkl hbl hAt hmod hgt
  refine callsIn_of_wp_marks Tryz.func31 rfl trivial ?_ rfl
  simp only [Tryz.ntmps31, List.size_toArray, List.length_cons, List.length_nil, Nat.reduceAdd, Nat.reduceSub, Array.replicate_succ, Array.replicate_zero, List.push_toArray, List.append_toArray, List.nil_append, List.cons_append]
  gi_wp2_with (refine wpListIn_box_arr rfl 32 (.tmp 1) (u8s iv).toArray rfl rfl ?_; rw [HW0.out])
  refine ⟨trivial, ?_⟩
  refine (callsIn_wide.2 (aesOK.new_yes w0 K key kl kc HS.out HKL.out (by have := HKL.out; omega) (HK.out.below Hb0.out |>.more Hb0.out.size))).mono ?_
  rintro e w1 ⟨gc, rfl, hRep, hb1⟩
  have HRep := Lib.hid hRep
  have Hb1 := bb Hb0 hb1
  have hI1 := HI0.out.below hb1 HI0.out.lt
  have hz01 : w.heap.size < w1.heap.size := hI1.lt
  have h82 := Blk.new w1 51 [.pointer (some ⟨gc, 0, none⟩)]
  have hb2 := below_alloc w1 (.cells #[.pointer (some ⟨gc, 0, none⟩)] 51)
  rw [show ([.pointer (some ⟨gc, 0, none⟩)] : List Value).toArray = #[.pointer (some ⟨gc, 0, none⟩)] from rfl] at h82
  have hz2 : (w1.alloc (.cells #[.pointer (some ⟨gc, 0, none⟩)] 51)).heap.size = w1.heap.size + 1 := World.size_alloc _ _
  have hI3 := hI1.below hb2 hI1.lt
  have hmk : (Instr.makeSlice 23 (.int .i64 0) (.int .i64 (bl : Int))).run Tryz.prog (w1.alloc (.cells #[.pointer (some ⟨gc, 0, none⟩)] 51)) = .ok (.slice (some ⟨(w1.alloc (.cells #[.pointer (some ⟨gc, 0, none⟩)] 51)).heap.size, 0, none⟩) 0 bl) ((w1.alloc (.cells #[.pointer (some ⟨gc, 0, none⟩)] 51)).alloc (.cells (u8s (List.replicate bl 0)).toArray 5)) := run_make_bytes 0 bl (by omega) (by omega) _
  obtain ⟨w3, hw3⟩ : ∃ w3, w1.alloc (.cells #[.pointer (some ⟨gc, 0, none⟩)] 51) = w3 := ⟨_, rfl⟩
  have HW3 := Lib.hid hw3
  rw [hw3] at h82 hb2 hz2 hI3
  have hS4 := Blk.new w3 5 (u8s (List.replicate bl 0))
  have hb4 := below_alloc w3 (.cells (u8s (List.replicate bl 0)).toArray 5)
  have hz4 : (w3.alloc (.cells (u8s (List.replicate bl 0)).toArray 5)).heap.size = w3.heap.size + 1 := World.size_alloc _ _
  obtain ⟨w4, hw4⟩ : ∃ w4, w3.alloc (.cells (u8s (List.replicate bl 0)).toArray 5) = w4 := ⟨_, rfl⟩
  obtain ⟨gS, hgS⟩ : ∃ gS, w3.heap.size = gS := ⟨_, rfl⟩
  rw [hw4] at hS4 hb4 hz4
  rw [hw3, hw4, hgS, ← hw3] at hmk
  rw [hgS] at hS4 hz4
  have h115 := Blk.new w4 23 [.slice (some ⟨gS, 0, none⟩) 0 bl]
  have hb5 := below_alloc w4 (.cells #[.slice (some ⟨gS, 0, none⟩) 0 bl] 23)
  rw [show ([.slice (some ⟨gS, 0, none⟩) 0 bl] : List Value).toArray = #[.slice (some ⟨gS, 0, none⟩) 0 bl] from rfl] at h115
  have hz5 : (w4.alloc (.cells #[.slice (some ⟨gS, 0, none⟩) 0 bl] 23)).heap.size = w4.heap.size + 1 := World.size_alloc _ _
  have hI5 := (hI3.below hb4 hI3.lt).below hb5 (by omega)
  have hld5 := run_loadVar_row (P := Tryz.prog) (w4.alloc (.cells #[.slice (some ⟨gS, 0, none⟩) 0 bl] 23)) w.heap.size 32 32 (u8s iv).toArray (0, 0) _ hI5 Tryz.und16 rfl (by simpa using sizeA16 iv HIV.out)
  obtain ⟨w5, hw5⟩ : ∃ w5, w4.alloc (.cells #[.slice (some ⟨gS, 0, none⟩) 0 bl] 23) = w5 := ⟨_, rfl⟩
  have HW5 := Lib.hid hw5
  rw [hw5] at h115 hb5 hz5 hI5
  have h126 := Blk.new w5 32 zr16
  have hb6 := below_alloc w5 (.cells zr16.toArray 32)
  have hz6 : (w5.alloc (.cells zr16.toArray 32)).heap.size = w5.heap.size + 1 := World.size_alloc _ _
  obtain ⟨w6, hw6⟩ : ∃ w6, w5.alloc (.cells zr16.toArray 32) = w6 := ⟨_, rfl⟩
  have HW6 := Lib.hid hw6
  rw [hw6] at h126 hb6 hz6
  have H82 := Lib.hid h82
  have Hb2 := Lib.hid hb2
  have HZ : Hid (gt < w1.heap.size ∧ gS = w1.heap.size + 1 ∧ w3.heap.size = gS ∧ w4.heap.size = gS + 1 ∧ w5.heap.size = gS + 1 + 1 ∧ w6.heap.size = gS + 1 + 1 + 1) := Lib.hid (by have := Hgt.out; omega)
  have HS4 := Lib.hid hS4
  have Hb4 := Lib.hid hb4
  have H115 := Lib.hid h115
  have Hb5 := Lib.hid hb5
  have H126 := Lib.hid h126
  have Hb6 := Lib.hid hb6
  have HSz := Lib.hid (sizeA16 iv HIV.out)
  have HZl : Hid (zr16.length = (u8s iv).length) := Lib.hid (by rw [u8s_len, HIV.out]; rfl)
  clear hRep hb1 HI0 hI1 hz01 h82 hb2 hz2 hI3 hw3 hS4 hb4 hz4 hw4 hgS h115 hb5 hz5 hI5 hw5 h126 hb6 hz6 hw6
  gi_wp2_with (first | refine wpListIn_load_arr rfl 32 (.tmp 4) rfl rfl (u8s iv).toArray hld5 ?_ | (rw [HW5.out]; refine wpListIn_alloc_arr rfl 32 zr16.toArray rfl zeroR16 ?_; rw [HW6.out]) | refine wpListIn_store_arr rfl 32 (.tmp 11) (.tmp 29) w5.heap.size zr16 (u8s iv) rfl rfl rfl rfl H126.out HSz.out HZl.out (u8s_one _) ?_)
  refine ⟨trivial, ?_⟩
  have hZ := HZ.out
  have h127 := H126.out.row (u8s iv)
  have h87 := (((H82.out.below Hb4.out H82.out.lt).below Hb5.out (by omega)).below Hb6.out (by omega)).rowFar (g' := w5.heap.size) (by omega) (u8s iv).toArray
  have hS7 := ((HS4.out.below Hb5.out HS4.out.lt).below Hb6.out (by omega)).rowFar (g' := w5.heap.size) (by omega) (u8s iv).toArray
  have h117 := (H115.out.below Hb6.out H115.out.lt).rowFar (g' := w5.heap.size) (by omega) (u8s iv).toArray
  have hb16 : Below w1.heap.size w1 w6 := ((Hb2.out.trans (Hb4.out.mono Hb2.out.size)).trans (Hb5.out.mono (by omega))).trans (Hb6.out.mono (by omega))
  have hb17 := below_setRow hb16 (by omega : w1.heap.size ≤ w5.heap.size) (u8s iv).toArray
  have hz7 : (w6.setRow w5.heap.size (u8s iv).toArray).heap.size = w6.heap.size := by simp
  obtain ⟨w7, hw7⟩ : ∃ w7, w6.setRow w5.heap.size (u8s iv).toArray = w7 := ⟨_, rfl⟩
  rw [hw7] at h127 h87 hS7 h117 hb17 hz7 ⊢
  refine (blocksC_in 9 _ _ _ w7).mono ?_
  rintro e w8 ⟨rfl, hw8⟩
  have hBs := Blk.new w7 23 [.slice A bl bc]
  have hb8 := below_alloc w7 (.cells #[.slice A bl bc] 23)
  have hz8 : (w7.alloc (.cells #[.slice A bl bc] 23)).heap.size = w7.heap.size + 1 := World.size_alloc _ _
  rw [show ([.slice A bl bc] : List Value).toArray = #[.slice A bl bc] from rfl, ← hw8] at hBs
  rw [← hw8] at hb8 hz8
  have hb18 := hb17.trans (hb8.mono hb17.size)
  have hbw8 : Below w.heap.size w w8 := Hb1.out.trans (hb18.mono Hb1.out.size)
  have hAt8 : 0 < bl → ∃ o, A = some ⟨gt, o, none⟩ ∧ At w8 gt o b := fun h => by
    obtain ⟨o, h1, h2⟩ := HAt.out h
    exact ⟨o, h1, fun i c hi => cellC_bel' hbw8 (h2 i c hi)⟩
  have hseq := blocksC_seq 9 (by omega) w7.heap.size gt bl bc A b w8 (hBs.cell 0) HBL.out hbc hAt8 (by rw [← HBL.out]; exact HMod.out) (by rw [← HBL.out]; omega)
  have hL8 : Lp w1 w1.heap.size w4.heap.size gS w5.heap.size gc bl iv [] w8 :=
    ⟨h87.below hb8 h87.lt, h117.below hb8 h117.lt, ⟨_, hS7.below hb8 hS7.lt, by simp⟩, h127.below hb8 h127.lt, hb18⟩
  have HSeq := Lib.hid hseq
  have HL8 := Lib.hid hL8
  have HZ8 : Hid (gt < w1.heap.size ∧ gS = w1.heap.size + 1 ∧ w4.heap.size = gS + 1 ∧ w5.heap.size = gS + 1 + 1 ∧ w8.heap.size = gS + 1 + 1 + 1 + 1) := Lib.hid (by omega)
  clear hZ h127 h87 hS7 h117 hb16 hb17 hz7 hw7 hw8 hBs hb8 hz8 hb18 hbw8 hAt8 hseq hL8 HZ H82 Hb2 HS4 Hb4 H115 Hb5 H126 Hb6 HW5 HW6 HW3 hmk hld5 HW0
  gi_wp2
  refine rangeP (α := B16) rfl (by omega) (gf := 75) (lb := #[.pointer (some ⟨w7.heap.size, 0, none⟩)]) rfl trivial (enters_of Tryz.func75 (by kernel_rfl) rfl) HSeq.out (fun h k => h.trans k) (fun W l o o' h1 h2 => KpT.put _ W l o o' h1 h2) (fun _ => rfl)
    (fun pre W => Lp w1 w1.heap.size w4.heap.size gS w5.heap.size gc bl (opX key iv pre).1 (opX key iv pre).2 W)
    ?low HL8.out
    (fun x a' W => ∃ Bx, a' = { tmps := #[Value.slice K kl kc, Value.agg (u8s iv).toArray, Value.slice A bl bc, undef, Value.pointer (some { block := w.heap.size, off := 0 }), undef, Value.slice none 0 0, Value.int IntKind.i64 0, Value.pointer (some { block := w1.heap.size, off := 0 }), Value.int IntKind.i64 0, Value.pointer (some { block := w4.heap.size, off := 0 }), Value.pointer (some { block := w5.heap.size, off := 0 }), .pointer (some ⟨Bx, 0, none⟩), undef, Value.tuple #[Value.pointer (some { block := gc, off := 0 }), Value.int IntKind.i64 0], Value.slice K kl kc, Value.tuple #[Value.pointer (some { block := gc, off := 0 }), Value.int IntKind.i64 0], Value.pointer (some { block := gc, off := 0 }), Value.int IntKind.i64 0, Value.int IntKind.i64 0, Value.bool false, undef, Value.slice A bl bc, Value.int IntKind.i64 (bl : Int), Value.int IntKind.i64 ((bl : Int) % 16), Value.bool false, Value.slice A bl bc, Value.int IntKind.i64 (bl : Int), Value.slice (some { block := gS, off := 0 }) 0 bl, Value.agg (u8s iv).toArray, Value.slice A bl bc, Value.func (.func 75) #[] #[Value.pointer (some { block := w7.heap.size, off := 0 })], .agg (u8s x.1).toArray, undef, undef, undef, undef, undef, undef, undef, undef, undef, undef, undef, undef, undef], defers := [] } ∧ Blk W Bx 32 (u8s x.1) ∧ gS + 1 + 1 < Bx)
    ?ax ?assign ?body ?done
  case low =>
    rintro pre W W' row h hgr hrow
    have hx := HZ8.out
    exact h.grown hgr (B := w8.heap.size) (by omega) (fun r e => hrow r e)
  case ax =>
    rintro x a' W l o o' ⟨Bx, rfl, hB, hne⟩ hl ho
    refine ⟨Bx, rfl, ?_, hne⟩
    have : Bx ≠ l := by rintro rfl; rw [show W.heap[Bx]? = _ from hB] at hl; cases hl; simp [Obj.isCells] at ho
    exact (World.putObj_heap_other this).trans hB
  case assign =>
    rintro l pre x W K _ h hK
    have hZ := Blk.new W 32 zr16
    have hB1 := hZ.row (u8s x.1)
    have hb1 : Below W.heap.size W ((W.alloc (.cells zr16.toArray 32)).setRow W.heap.size (u8s x.1).toArray) := below_setRow (below_alloc W _) (Nat.le_refl _) _
    have HZr := Lib.hid hZ
    have HK := Lib.hid (hK _ _ (keepsC_below hb1) (kpT_below hb1) (h.below hb1) ⟨W.heap.size, rfl, hB1, by have := h.c12.lt; have := HZ8.out; omega⟩)
    have HSx := Lib.hid (sizeA16 x.1 x.2)
    have HLn : Hid (zr16.length = (u8s x.1).length) := Lib.hid (by rw [u8s_len, x.2]; rfl)
    clear hK h hZ hB1 hb1
    simp only [List.zip_toArray, List.zip_cons_cons, List.zip_nil_right, List.foldl_toArray, List.foldl_cons, List.foldl_nil, List.setIfInBounds_toArray, List.set]
    gi_wp2_with (first | refine wpListIn_alloc_arr rfl 32 zr16.toArray rfl zeroR16 ?_ | refine wpListIn_store_arr rfl 32 (.tmp 12) (.tmp 32) W.heap.size zr16 (u8s x.1) rfl rfl rfl rfl HZr.out HSx.out HLn.out (u8s_one _) ?_)
    exact HK.out
  case body =>
    rintro l pre x a' W hpf h ⟨Bx, rfl, hB, hne⟩
    have hx := HZ8.out
    have hroom : (opX key iv pre).2.length + 16 ≤ bl := by
      rw [flatC_snoc, List.length_append, flatC_len, x.2, ← HBL.out] at hpf
      rw [opX_len2]
      omega
    have hql := opX_len1 key iv HIV.out pre
    have hsn := opX_snoc key iv pre x
    generalize (opX key iv pre).1 = q at h hql hsn
    generalize (opX key iv pre).2 = o at h hroom hsn
    rw [hsn]
    simp only
    have hLd := h.below (Below.refl _ W).drew
    have hBd : Blk W.drew Bx 32 (u8s x.1) := hB
    have HQL := Lib.hid hql
    have HRoom := Lib.hid hroom
    have HL := Lib.hid hLd
    have HBx := Lib.hid hBd
    have Hne := Lib.hid hne
    have HXX := Lib.hid hx
    have HK0 := Lib.hid (keepsC_below (Below.refl _ W).drew)
    have HP0 := Lib.hid (kpT_below (gt := gt) (Below.refl _ W).drew)
    clear hx hroom hql hsn h hpf hB hne hLd hBd
    gi_wp2_with fail
    refine wpIn_region_G grows (by kernel_rfl) (by kernel_rfl) (by rintro ⟨_, _, hh⟩; exact absurd hh.1 (by simp)) ?_
    generalize W.drew = W0 at *
    have q1 := cell_later HL.out.c8 (i := 0) rfl
    have q2 := load_arr_later (P := Tryz.prog) Tryz.und16 (sizeA16 x.1 x.2) HBx.out
    have q3 := load_arr_later (P := Tryz.prog) Tryz.und16 (sizeA16 q HQL.out) HL.out.c12
    refine segG (by kernel_rfl) (fun _ _ _ _ _ h => h) [0, 1, 3] [_, _, _] 4 rfl rfl (by kernel_rfl) ?_
    repeat (go_big_quiet_step (fail))
    refine wpQuiet_load_arr 32 (.tmp 12) rfl rfl (u8s x.1).toArray q2 (by kernel_rfl) ?_
    simp only [Act.put, List.setIfInBounds_toArray, List.set]
    refine wpQuiet_load_arr 32 (.tmp 11) rfl rfl (u8s q).toArray q3 (by kernel_rfl) ?_
    simp only [Act.put, List.setIfInBounds_toArray, List.set]
    refine wpQuiet_nil ?_
    clear q1 q2 q3
    have hdl := decrypt_len key x.1
    have hzl : (addK (decrypt key x.1) q).length = 16 := addK_len _ _
    have HDL := Lib.hid hdl
    have HZ16 := Lib.hid hzl
    clear hdl hzl
    refine twoG 2 5 3 rfl (by kernel_rfl) rfl rfl ?_ ?_
    · -- Decrypt first
      go_wp2_with fail
      refine (aesOK.dec W0 gc key x.1 HS.out (aesOK.stay HRep.out HL.out.b) x.2).mono ?_
      rintro e W1 ⟨rfl, hb1⟩
      have HL1 := Lib.hid (HL.out.below hb1)
      have HK1 := Lib.hid (HK0.out.trans (keepsC_below hb1))
      have HP1 := Lib.hid (HP0.out.trans (kpT_below hb1))
      have HB1 := Lib.hid (HBx.out.below hb1 HBx.out.lt)
      clear HL HK0 HP0 HBx
      go_wp2
      refine ⟨hb1, ?_⟩
      clear hb1
      refine twoG 4 5 2 rfl (by kernel_rfl) rfl rfl ?_ ?_
      · -- sum, then the variable
        go_wp2_with fail
        refine (sum_any W1 (decrypt key x.1) q _ _ rfl rfl HDL.out HQL.out).mono ?_
        rintro e W2 ⟨rfl, hb1⟩
        have HL2 := Lib.hid (HL1.out.below hb1)
        have HK2 := Lib.hid (HK1.out.trans (keepsC_below hb1))
        have HP2 := Lib.hid (HP1.out.trans (kpT_below hb1))
        have HB2 := Lib.hid (HB1.out.below hb1 HB1.out.lt)
        clear HL1 HK1 HP1 HB1
        go_wp2
        refine ⟨hb1, ?_⟩
        clear hb1
        refine oneG 5 1 rfl (by kernel_rfl) rfl ?_
        have hb1 := below_alloc W2 (.cells zr16.toArray 32)
        have hgA := Blk.new W2 32 zr16
        obtain ⟨gA, hgAe⟩ : ∃ gA, W2.heap.size = gA := ⟨_, rfl⟩
        have HgA : Hid (gS + 1 + 1 < gA ∧ Bx < gA) := Lib.hid (by have h1 := HL2.out.c12.lt; have h2 := HB2.out.lt; have h3 := HXX.out; omega)
        obtain ⟨W3, hWn⟩ : ∃ W3, W2.alloc (.cells zr16.toArray 32) = W3 := ⟨_, rfl⟩
        have HWn := Lib.hid hWn
        have HgAe := Lib.hid hgAe
        rw [hWn] at hb1 hgA
        rw [hgAe] at hgA
        have HGA := Lib.hid hgA
        have HL3 := Lib.hid (HL2.out.below hb1)
        have HK3 := Lib.hid (HK2.out.trans (keepsC_below hb1))
        have HP3 := Lib.hid (HP2.out.trans (kpT_below hb1))
        have HB3 := Lib.hid (HB2.out.below hb1 HB2.out.lt)
        clear HL2 HK2 HP2 HB2 hgA hgAe hWn
        go_wp2_with (refine wpList_alloc_arr rfl 32 zr16.toArray rfl zeroR16 ?_; rw [HWn.out, HgAe.out])
        refine ⟨hb1, ?_⟩
        clear hb1 HWn HgAe
        try simp only [Act.put, List.setIfInBounds_toArray, List.set]
        obtain ⟨z, hz⟩ : ∃ z, addK (decrypt key x.1) q = z := ⟨_, rfl⟩
        have hzl := HZ16.out
        rw [hz] at hzl ⊢
        have HZE := Lib.hid hz
        have HZL := Lib.hid hzl
        have hga := HgA.out
        have hxx := HXX.out
        have hg4 : W3.grownBy (W3.setRow gA (u8s z).toArray) (some gA) := grown_row
        have hL4 := HL3.out.grown hg4 (B := gS + 1 + 1 + 1) (by omega) (fun r e => by have := Option.some.inj e; omega)
        have hA4 := HGA.out.row (u8s z)
        have hB4 := HB3.out.rowFar (g' := gA) (by omega) (u8s z).toArray
        have HK4 := Lib.hid (HK3.out.trans (keeps_cells hg4 HGA.out))
        have HP4 := Lib.hid (HP3.out.trans (kpT_grown hg4 (by omega)))
        obtain ⟨W4, hW4⟩ : ∃ W4, W3.setRow gA (u8s z).toArray = W4 := ⟨_, rfl⟩
        rw [hW4] at hL4 hA4 hB4 HK4 HP4
        have HW4 := Lib.hid hW4
        have HL4 := Lib.hid hL4
        have HA4 := Lib.hid hA4
        have HB4 := Lib.hid hB4
        have HSz2 := Lib.hid (sizeA16 z hzl)
        have HLn2 : Hid (zr16.length = (u8s z).length) := Lib.hid (by rw [u8s_len, hzl]; rfl)
        clear hz hzl hga hxx hg4 hL4 hA4 hB4 hW4 HL3 HK3 HP3 HB3 HZ16
        refine lateG 6 0 rfl (by kernel_rfl) (by kernel_rfl) rfl ?_
        go_wp2_with (refine wpList_store_arr rfl 32 (.tmp 13) (.tmp 37) gA zr16 (u8s z) rfl rfl rfl rfl HGA.out HSz2.out HLn2.out (u8s_one _) ?_; rw [HW4.out])
        refine ⟨trivial, ?_⟩
        refine wpAnyG_done (by kernel_rfl) ?_
        gi_wp2_with fail
        refine wpIn_region_G grows (by kernel_rfl) (by kernel_rfl) (by rintro ⟨_, _, hh⟩; exact absurd hh.1 (by simp)) ?_
        have hga := HgA.out
        have hxx := HXX.out
        have hL5 := HL4.out.below (Below.refl _ W4).drew
        have hA5 : Blk W4.drew gA 32 (u8s z) := HA4.out
        have hB5 : Blk W4.drew Bx 32 (u8s x.1) := HB4.out
        have hk5 := HK4.out.trans (keepsC_below (Below.refl _ W4).drew)
        have hp5 := HP4.out.trans (kpT_below (gt := gt) (Below.refl _ W4).drew)
        generalize W4.drew = W5 at *
        have q1 := cell_later hL5.c11 (i := 0) rfl
        obtain ⟨W6, e6, hg6, hc6, hL6⟩ := hL5.app hA5 HZL.out HRoom.out (by omega)
        have hg7 : W6.grownBy (W6.setCell ⟨w4.heap.size, 0, none⟩ (.slice (some ⟨gS, 0, none⟩) (o.length + 16) bl)) (some w4.heap.size) := only_set _
        obtain ⟨junk, hj1, _⟩ := hL5.row
        have hB7 := (hB5.grown hg6 (fun e => by have := Option.some.inj e; have := Hne.out; omega)).grown hg7 (fun e => by have := Option.some.inj e; have := Hne.out; omega)
        have hk7 := (hk5.trans (keeps_cells hg6 hj1)).trans (keeps_cells hg7 hc6)
        have hp7 := (hp5.trans (kpT_grown hg6 (by omega))).trans (kpT_grown hg7 (by omega))
        have hcell6 := hc6.cell 0
        have hfr6 := hc6.frozen 0
        rw [show ([.slice (some ⟨gS, 0, none⟩) o.length bl] : List Value)[0]? = some (.slice (some ⟨gS, 0, none⟩) o.length bl) from rfl] at hcell6
        obtain ⟨W7, hW7⟩ : ∃ W7, W6.setCell ⟨w4.heap.size, 0, none⟩ (.slice (some ⟨gS, 0, none⟩) (o.length + 16) bl) = W7 := ⟨_, rfl⟩
        rw [hW7] at hL6 hB7 hk7 hp7
        have hL8 := hL6.prev x.1 (by omega)
        have hg8 : W7.grownBy (W7.setRow w5.heap.size (u8s x.1).toArray) (some w5.heap.size) := grown_row
        have HK8 := Lib.hid (hk7.trans (keeps_cells hg8 hL6.c12))
        have HP8 := Lib.hid (hp7.trans (kpT_grown hg8 (by omega)))
        have HL8' := Lib.hid hL8
        have hld7 := run_loadVar_row (P := Tryz.prog) W7 Bx 32 32 (u8s x.1).toArray (0, 0) _ hB7 Tryz.und16 rfl (by simpa using sizeA16 x.1 x.2)
        have HC12 := Lib.hid hL6.c12
        have HSx := Lib.hid (sizeA16 x.1 x.2)
        have HLx : Hid ((u8s q).length = (u8s x.1).length) := Lib.hid (by rw [u8s_len, u8s_len, HQL.out, x.2])
        have HW7 := Lib.hid hW7
        clear hga hxx hL5 hA5 hB5 hk5 hp5 hg6 hc6 hL6 hg7 hj1 hB7 hk7 hp7 hL8 hg8 hW7 HL4 HK4 HP4 HW4 HGA HSz2 HLn2 HA4 HB4
        refine segG (by kernel_rfl) (fun _ _ _ _ _ h => h) [0, 1] [_, _] 2 rfl rfl (by kernel_rfl) ?_
        repeat (go_big_quiet_step (fail))
        refine wpQuiet_nil ?_
        clear q1
        refine lateG 2 1 rfl (by kernel_rfl) (by kernel_rfl) rfl ?_
        go_wp2_with (at_builtin; refine wpList_append_run rfl (.tmp 38) (.tmp 39) _ rfl rfl rfl e6 ?_)
        refine ⟨trivial, ?_⟩
        simp only [Act.put, List.setIfInBounds_toArray, List.set]
        refine lateG 3 0 rfl (by kernel_rfl) (by kernel_rfl) rfl ?_
        go_wp2
        rw [HW7.out]
        refine ⟨trivial, ?_⟩
        refine wpAnyG_done (by kernel_rfl) ?_
        gi_wp2_with (first | refine wpListIn_load_arr rfl 32 (.tmp 12) rfl rfl (u8s x.1).toArray hld7 ?_ | refine wpListIn_store_arr rfl 32 (.tmp 11) (.tmp 41) w5.heap.size (u8s q) (u8s x.1) rfl rfl rfl rfl HC12.out HSx.out HLx.out (u8s_one _) ?_)
        exact ⟨HK8.out, HP8.out, by rw [HZE.out]; exact HL8'.out⟩
      · -- the variable, then sum
        have hb1 := below_alloc W1 (.cells zr16.toArray 32)
        have hgA := Blk.new W1 32 zr16
        obtain ⟨gA, hgAe⟩ : ∃ gA, W1.heap.size = gA := ⟨_, rfl⟩
        have HgA : Hid (gS + 1 + 1 < gA ∧ Bx < gA) := Lib.hid (by have h1 := HL1.out.c12.lt; have h2 := HB1.out.lt; have h3 := HXX.out; omega)
        obtain ⟨W2, hWn⟩ : ∃ W2, W1.alloc (.cells zr16.toArray 32) = W2 := ⟨_, rfl⟩
        have HWn := Lib.hid hWn
        have HgAe := Lib.hid hgAe
        rw [hWn] at hb1 hgA
        rw [hgAe] at hgA
        have HGA := Lib.hid hgA
        have HL2 := Lib.hid (HL1.out.below hb1)
        have HK2 := Lib.hid (HK1.out.trans (keepsC_below hb1))
        have HP2 := Lib.hid (HP1.out.trans (kpT_below hb1))
        have HB2 := Lib.hid (HB1.out.below hb1 HB1.out.lt)
        clear HL1 HK1 HP1 HB1 hgA hgAe hWn
        go_wp2_with (refine wpList_alloc_arr rfl 32 zr16.toArray rfl zeroR16 ?_; rw [HWn.out, HgAe.out])
        refine ⟨hb1, ?_⟩
        clear hb1 HWn HgAe
        try simp only [Act.put, List.setIfInBounds_toArray, List.set]
        refine oneG 4 1 rfl (by kernel_rfl) rfl ?_
        go_wp2_with fail
        refine (sum_any W2 (decrypt key x.1) q _ _ rfl rfl HDL.out HQL.out).mono ?_
        rintro e W3 ⟨rfl, hb1⟩
        have HL3 := Lib.hid (HL2.out.below hb1)
        have HK3 := Lib.hid (HK2.out.trans (keepsC_below hb1))
        have HP3 := Lib.hid (HP2.out.trans (kpT_below hb1))
        have HB3 := Lib.hid (HB2.out.below hb1 HB2.out.lt)
        have HGA := Lib.hid (HGA.out.below hb1 HGA.out.lt)
        clear HL2 HK2 HP2 HB2
        go_wp2
        refine ⟨hb1, ?_⟩
        clear hb1
        obtain ⟨z, hz⟩ : ∃ z, addK (decrypt key x.1) q = z := ⟨_, rfl⟩
        have hzl := HZ16.out
        rw [hz] at hzl ⊢
        have HZE := Lib.hid hz
        have HZL := Lib.hid hzl
        have hga := HgA.out
        have hxx := HXX.out
        have hg4 : W3.grownBy (W3.setRow gA (u8s z).toArray) (some gA) := grown_row
        have hL4 := HL3.out.grown hg4 (B := gS + 1 + 1 + 1) (by omega) (fun r e => by have := Option.some.inj e; omega)
        have hA4 := HGA.out.row (u8s z)
        have hB4 := HB3.out.rowFar (g' := gA) (by omega) (u8s z).toArray
        have HK4 := Lib.hid (HK3.out.trans (keeps_cells hg4 HGA.out))
        have HP4 := Lib.hid (HP3.out.trans (kpT_grown hg4 (by omega)))
        obtain ⟨W4, hW4⟩ : ∃ W4, W3.setRow gA (u8s z).toArray = W4 := ⟨_, rfl⟩
        rw [hW4] at hL4 hA4 hB4 HK4 HP4
        have HW4 := Lib.hid hW4
        have HL4 := Lib.hid hL4
        have HA4 := Lib.hid hA4
        have HB4 := Lib.hid hB4
        have HSz2 := Lib.hid (sizeA16 z hzl)
        have HLn2 : Hid (zr16.length = (u8s z).length) := Lib.hid (by rw [u8s_len, hzl]; rfl)
        clear hz hzl hga hxx hg4 hL4 hA4 hB4 hW4 HL3 HK3 HP3 HB3 HZ16
        refine lateG 6 0 rfl (by kernel_rfl) (by kernel_rfl) rfl ?_
        go_wp2_with (refine wpList_store_arr rfl 32 (.tmp 13) (.tmp 37) gA zr16 (u8s z) rfl rfl rfl rfl HGA.out HSz2.out HLn2.out (u8s_one _) ?_; rw [HW4.out])
        refine ⟨trivial, ?_⟩
        refine wpAnyG_done (by kernel_rfl) ?_
        gi_wp2_with fail
        refine wpIn_region_G grows (by kernel_rfl) (by kernel_rfl) (by rintro ⟨_, _, hh⟩; exact absurd hh.1 (by simp)) ?_
        have hga := HgA.out
        have hxx := HXX.out
        have hL5 := HL4.out.below (Below.refl _ W4).drew
        have hA5 : Blk W4.drew gA 32 (u8s z) := HA4.out
        have hB5 : Blk W4.drew Bx 32 (u8s x.1) := HB4.out
        have hk5 := HK4.out.trans (keepsC_below (Below.refl _ W4).drew)
        have hp5 := HP4.out.trans (kpT_below (gt := gt) (Below.refl _ W4).drew)
        generalize W4.drew = W5 at *
        have q1 := cell_later hL5.c11 (i := 0) rfl
        obtain ⟨W6, e6, hg6, hc6, hL6⟩ := hL5.app hA5 HZL.out HRoom.out (by omega)
        have hg7 : W6.grownBy (W6.setCell ⟨w4.heap.size, 0, none⟩ (.slice (some ⟨gS, 0, none⟩) (o.length + 16) bl)) (some w4.heap.size) := only_set _
        obtain ⟨junk, hj1, _⟩ := hL5.row
        have hB7 := (hB5.grown hg6 (fun e => by have := Option.some.inj e; have := Hne.out; omega)).grown hg7 (fun e => by have := Option.some.inj e; have := Hne.out; omega)
        have hk7 := (hk5.trans (keeps_cells hg6 hj1)).trans (keeps_cells hg7 hc6)
        have hp7 := (hp5.trans (kpT_grown hg6 (by omega))).trans (kpT_grown hg7 (by omega))
        have hcell6 := hc6.cell 0
        have hfr6 := hc6.frozen 0
        rw [show ([.slice (some ⟨gS, 0, none⟩) o.length bl] : List Value)[0]? = some (.slice (some ⟨gS, 0, none⟩) o.length bl) from rfl] at hcell6
        obtain ⟨W7, hW7⟩ : ∃ W7, W6.setCell ⟨w4.heap.size, 0, none⟩ (.slice (some ⟨gS, 0, none⟩) (o.length + 16) bl) = W7 := ⟨_, rfl⟩
        rw [hW7] at hL6 hB7 hk7 hp7
        have hL8 := hL6.prev x.1 (by omega)
        have hg8 : W7.grownBy (W7.setRow w5.heap.size (u8s x.1).toArray) (some w5.heap.size) := grown_row
        have HK8 := Lib.hid (hk7.trans (keeps_cells hg8 hL6.c12))
        have HP8 := Lib.hid (hp7.trans (kpT_grown hg8 (by omega)))
        have HL8' := Lib.hid hL8
        have hld7 := run_loadVar_row (P := Tryz.prog) W7 Bx 32 32 (u8s x.1).toArray (0, 0) _ hB7 Tryz.und16 rfl (by simpa using sizeA16 x.1 x.2)
        have HC12 := Lib.hid hL6.c12
        have HSx := Lib.hid (sizeA16 x.1 x.2)
        have HLx : Hid ((u8s q).length = (u8s x.1).length) := Lib.hid (by rw [u8s_len, u8s_len, HQL.out, x.2])
        have HW7 := Lib.hid hW7
        clear hga hxx hL5 hA5 hB5 hk5 hp5 hg6 hc6 hL6 hg7 hj1 hB7 hk7 hp7 hL8 hg8 hW7 HL4 HK4 HP4 HW4 HGA HSz2 HLn2 HA4 HB4
        refine segG (by kernel_rfl) (fun _ _ _ _ _ h => h) [0, 1] [_, _] 2 rfl rfl (by kernel_rfl) ?_
        repeat (go_big_quiet_step (fail))
        refine wpQuiet_nil ?_
        clear q1
        refine lateG 2 1 rfl (by kernel_rfl) (by kernel_rfl) rfl ?_
        go_wp2_with (at_builtin; refine wpList_append_run rfl (.tmp 38) (.tmp 39) _ rfl rfl rfl e6 ?_)
        refine ⟨trivial, ?_⟩
        simp only [Act.put, List.setIfInBounds_toArray, List.set]
        refine lateG 3 0 rfl (by kernel_rfl) (by kernel_rfl) rfl ?_
        go_wp2
        rw [HW7.out]
        refine ⟨trivial, ?_⟩
        refine wpAnyG_done (by kernel_rfl) ?_
        gi_wp2_with (first | refine wpListIn_load_arr rfl 32 (.tmp 12) rfl rfl (u8s x.1).toArray hld7 ?_ | refine wpListIn_store_arr rfl 32 (.tmp 11) (.tmp 41) w5.heap.size (u8s q) (u8s x.1) rfl rfl rfl rfl HC12.out HSx.out HLx.out (u8s_one _) ?_)
        exact ⟨HK8.out, HP8.out, by rw [HZE.out]; exact HL8'.out⟩
    · -- the variable first
      have hb1 := below_alloc W0 (.cells zr16.toArray 32)
      have hgA := Blk.new W0 32 zr16
      obtain ⟨gA, hgAe⟩ : ∃ gA, W0.heap.size = gA := ⟨_, rfl⟩
      have HgA : Hid (gS + 1 + 1 < gA ∧ Bx < gA) := Lib.hid (by have h1 := HL.out.c12.lt; have h2 := HBx.out.lt; have h3 := HXX.out; omega)
      obtain ⟨W1, hWn⟩ : ∃ W1, W0.alloc (.cells zr16.toArray 32) = W1 := ⟨_, rfl⟩
      have HWn := Lib.hid hWn
      have HgAe := Lib.hid hgAe
      rw [hWn] at hb1 hgA
      rw [hgAe] at hgA
      have HGA := Lib.hid hgA
      have HL1 := Lib.hid (HL.out.below hb1)
      have HK1 := Lib.hid (HK0.out.trans (keepsC_below hb1))
      have HP1 := Lib.hid (HP0.out.trans (kpT_below hb1))
      have HB1 := Lib.hid (HBx.out.below hb1 HBx.out.lt)
      clear HL HK0 HP0 HBx hgA hgAe hWn
      go_wp2_with (refine wpList_alloc_arr rfl 32 zr16.toArray rfl zeroR16 ?_; rw [HWn.out, HgAe.out])
      refine ⟨hb1, ?_⟩
      clear hb1 HWn HgAe
      try simp only [Act.put, List.setIfInBounds_toArray, List.set]
      refine oneG 2 2 rfl (by kernel_rfl) rfl ?_
      go_wp2_with fail
      refine (aesOK.dec W1 gc key x.1 HS.out (aesOK.stay HRep.out HL1.out.b) x.2).mono ?_
      rintro e W2 ⟨rfl, hb1⟩
      have HL2 := Lib.hid (HL1.out.below hb1)
      have HK2 := Lib.hid (HK1.out.trans (keepsC_below hb1))
      have HP2 := Lib.hid (HP1.out.trans (kpT_below hb1))
      have HB2 := Lib.hid (HB1.out.below hb1 HB1.out.lt)
      have HGA := Lib.hid (HGA.out.below hb1 HGA.out.lt)
      clear HL1 HK1 HP1 HB1
      go_wp2
      refine ⟨hb1, ?_⟩
      clear hb1
      refine oneG 4 1 rfl (by kernel_rfl) rfl ?_
      go_wp2_with fail
      refine (sum_any W2 (decrypt key x.1) q _ _ rfl rfl HDL.out HQL.out).mono ?_
      rintro e W3 ⟨rfl, hb1⟩
      have HL3 := Lib.hid (HL2.out.below hb1)
      have HK3 := Lib.hid (HK2.out.trans (keepsC_below hb1))
      have HP3 := Lib.hid (HP2.out.trans (kpT_below hb1))
      have HB3 := Lib.hid (HB2.out.below hb1 HB2.out.lt)
      have HGA := Lib.hid (HGA.out.below hb1 HGA.out.lt)
      clear HL2 HK2 HP2 HB2
      go_wp2
      refine ⟨hb1, ?_⟩
      clear hb1
      obtain ⟨z, hz⟩ : ∃ z, addK (decrypt key x.1) q = z := ⟨_, rfl⟩
      have hzl := HZ16.out
      rw [hz] at hzl ⊢
      have HZE := Lib.hid hz
      have HZL := Lib.hid hzl
      have hga := HgA.out
      have hxx := HXX.out
      have hg4 : W3.grownBy (W3.setRow gA (u8s z).toArray) (some gA) := grown_row
      have hL4 := HL3.out.grown hg4 (B := gS + 1 + 1 + 1) (by omega) (fun r e => by have := Option.some.inj e; omega)
      have hA4 := HGA.out.row (u8s z)
      have hB4 := HB3.out.rowFar (g' := gA) (by omega) (u8s z).toArray
      have HK4 := Lib.hid (HK3.out.trans (keeps_cells hg4 HGA.out))
      have HP4 := Lib.hid (HP3.out.trans (kpT_grown hg4 (by omega)))
      obtain ⟨W4, hW4⟩ : ∃ W4, W3.setRow gA (u8s z).toArray = W4 := ⟨_, rfl⟩
      rw [hW4] at hL4 hA4 hB4 HK4 HP4
      have HW4 := Lib.hid hW4
      have HL4 := Lib.hid hL4
      have HA4 := Lib.hid hA4
      have HB4 := Lib.hid hB4
      have HSz2 := Lib.hid (sizeA16 z hzl)
      have HLn2 : Hid (zr16.length = (u8s z).length) := Lib.hid (by rw [u8s_len, hzl]; rfl)
      clear hz hzl hga hxx hg4 hL4 hA4 hB4 hW4 HL3 HK3 HP3 HB3 HZ16
      refine lateG 6 0 rfl (by kernel_rfl) (by kernel_rfl) rfl ?_
      go_wp2_with (refine wpList_store_arr rfl 32 (.tmp 13) (.tmp 37) gA zr16 (u8s z) rfl rfl rfl rfl HGA.out HSz2.out HLn2.out (u8s_one _) ?_; rw [HW4.out])
      refine ⟨trivial, ?_⟩
      refine wpAnyG_done (by kernel_rfl) ?_
      gi_wp2_with fail
      refine wpIn_region_G grows (by kernel_rfl) (by kernel_rfl) (by rintro ⟨_, _, hh⟩; exact absurd hh.1 (by simp)) ?_
      have hga := HgA.out
      have hxx := HXX.out
      have hL5 := HL4.out.below (Below.refl _ W4).drew
      have hA5 : Blk W4.drew gA 32 (u8s z) := HA4.out
      have hB5 : Blk W4.drew Bx 32 (u8s x.1) := HB4.out
      have hk5 := HK4.out.trans (keepsC_below (Below.refl _ W4).drew)
      have hp5 := HP4.out.trans (kpT_below (gt := gt) (Below.refl _ W4).drew)
      generalize W4.drew = W5 at *
      have q1 := cell_later hL5.c11 (i := 0) rfl
      obtain ⟨W6, e6, hg6, hc6, hL6⟩ := hL5.app hA5 HZL.out HRoom.out (by omega)
      have hg7 : W6.grownBy (W6.setCell ⟨w4.heap.size, 0, none⟩ (.slice (some ⟨gS, 0, none⟩) (o.length + 16) bl)) (some w4.heap.size) := only_set _
      obtain ⟨junk, hj1, _⟩ := hL5.row
      have hB7 := (hB5.grown hg6 (fun e => by have := Option.some.inj e; have := Hne.out; omega)).grown hg7 (fun e => by have := Option.some.inj e; have := Hne.out; omega)
      have hk7 := (hk5.trans (keeps_cells hg6 hj1)).trans (keeps_cells hg7 hc6)
      have hp7 := (hp5.trans (kpT_grown hg6 (by omega))).trans (kpT_grown hg7 (by omega))
      have hcell6 := hc6.cell 0
      have hfr6 := hc6.frozen 0
      rw [show ([.slice (some ⟨gS, 0, none⟩) o.length bl] : List Value)[0]? = some (.slice (some ⟨gS, 0, none⟩) o.length bl) from rfl] at hcell6
      obtain ⟨W7, hW7⟩ : ∃ W7, W6.setCell ⟨w4.heap.size, 0, none⟩ (.slice (some ⟨gS, 0, none⟩) (o.length + 16) bl) = W7 := ⟨_, rfl⟩
      rw [hW7] at hL6 hB7 hk7 hp7
      have hL8 := hL6.prev x.1 (by omega)
      have hg8 : W7.grownBy (W7.setRow w5.heap.size (u8s x.1).toArray) (some w5.heap.size) := grown_row
      have HK8 := Lib.hid (hk7.trans (keeps_cells hg8 hL6.c12))
      have HP8 := Lib.hid (hp7.trans (kpT_grown hg8 (by omega)))
      have HL8' := Lib.hid hL8
      have hld7 := run_loadVar_row (P := Tryz.prog) W7 Bx 32 32 (u8s x.1).toArray (0, 0) _ hB7 Tryz.und16 rfl (by simpa using sizeA16 x.1 x.2)
      have HC12 := Lib.hid hL6.c12
      have HSx := Lib.hid (sizeA16 x.1 x.2)
      have HLx : Hid ((u8s q).length = (u8s x.1).length) := Lib.hid (by rw [u8s_len, u8s_len, HQL.out, x.2])
      have HW7 := Lib.hid hW7
      clear hga hxx hL5 hA5 hB5 hk5 hp5 hg6 hc6 hL6 hg7 hj1 hB7 hk7 hp7 hL8 hg8 hW7 HL4 HK4 HP4 HW4 HGA HSz2 HLn2 HA4 HB4
      refine segG (by kernel_rfl) (fun _ _ _ _ _ h => h) [0, 1] [_, _] 2 rfl rfl (by kernel_rfl) ?_
      repeat (go_big_quiet_step (fail))
      refine wpQuiet_nil ?_
      clear q1
      refine lateG 2 1 rfl (by kernel_rfl) (by kernel_rfl) rfl ?_
      go_wp2_with (at_builtin; refine wpList_append_run rfl (.tmp 38) (.tmp 39) _ rfl rfl rfl e6 ?_)
      refine ⟨trivial, ?_⟩
      simp only [Act.put, List.setIfInBounds_toArray, List.set]
      refine lateG 3 0 rfl (by kernel_rfl) (by kernel_rfl) rfl ?_
      go_wp2
      rw [HW7.out]
      refine ⟨trivial, ?_⟩
      refine wpAnyG_done (by kernel_rfl) ?_
      gi_wp2_with (first | refine wpListIn_load_arr rfl 32 (.tmp 12) rfl rfl (u8s x.1).toArray hld7 ?_ | refine wpListIn_store_arr rfl 32 (.tmp 11) (.tmp 41) w5.heap.size (u8s q) (u8s x.1) rfl rfl rfl rfl HC12.out HSx.out HLx.out (u8s_one _) ?_)
      exact ⟨HK8.out, HP8.out, by rw [HZE.out]; exact HL8'.out⟩
  case done =>
    rintro D xs W hD hxs h hK
    have hPx : P = (opX key iv xs).2 := by rw [opX_all, hxs]; exact HPe.out
    rw [← hPx] at h
    have hPl : P.length = bl := by
      have h1 : (opX key iv xs).2.length = (flatC xs).length := by rw [opX_len2, flatC_len]
      rw [hPx, h1, hxs, HBL.out]
    have hz := HZ8.out
    obtain ⟨junk, hj1, hj2⟩ := h.row
    have hcell := h.c11.cell 0
    rw [hPl, show ([.slice (some ⟨gS, 0, none⟩) bl bl] : List Value)[0]? = some (.slice (some ⟨gS, 0, none⟩) bl bl) from rfl] at hcell
    have hbw : Below w.heap.size w W := Hb1.out.trans (h.b.mono Hb1.out.size)
    have HU := Lib.hid (unpadded_any W (some ⟨gS, 0, none⟩) P bl bl hPl.symm (by have := HMod.out; omega) (Nat.le_refl _) hb (Rd.of_row hj1) E O HE.out HO.out)
    have Hbw := Lib.hid hbw
    have HK := Lib.hid hK
    have HD := Lib.hid hD
    clear hPx hPl hz hj1 hj2 h hbw hK hxs hD
    gi_wp2_with fail
    refine ⟨trivial, ?_⟩
    refine (callsIn_wide.2 HU.out).mono ?_
    rintro e W9 ⟨v, rfl, hOut, hb9⟩
    have hK9 : W9.heap[D]? = some (.deferred (some [])) := (hb9.block D (Array.getElem?_eq_some_iff.1 HK.out).1).trans HK.out
    obtain ⟨B9, c9, hv9, hc9, hr9⟩ := hOut
    have hbw9 : Below w.heap.size w W9 := Hbw.out.trans (hb9.mono Hbw.out.size)
    have hD9 : w.heap.size ≤ D := by have := HD.out; have := HZ8.out; have := Hb1.out.size; omega
    have Hb10 := Lib.hid (hbw9.grown (grownBy_putObj' _ D (.deferred none)) hbw9.size (fun k e => by have := Option.some.inj e; omega))
    have HOut : Hid (Out (W9.putObj D (.deferred none)) v O) := Lib.hid ⟨B9, c9, hv9, hc9, by
      rcases hr9 with h0 | ⟨g, o, e, hg, hc⟩
      · exact .inl h0
      · refine .inr ⟨g, o, e, by simpa using hg, fun i c hi => ?_⟩
        have hcc := hc i c hi
        obtain ⟨ob, ho, hco⟩ := cells_of_cell hcc
        have hne : g ≠ D := by
          rintro rfl
          rw [show W9.heap[g]? = _ from hK9] at ho
          cases ho
          cases hco
        rw [← hcc]
        exact World.cell?_of_block (World.putObj_heap_other hne)⟩
    have HK9 := Lib.hid hK9
    clear hv9 hc9 hr9 hbw9 hb9 hK9 hD9
    gi_wp2
    refine ⟨by simp, .inl ⟨_, _, rfl, run_takeDeferred HK9.out, ?_⟩⟩
    refine ⟨.tuple #[v, .int .i64 E], ?_, v, rfl, HOut.out, Hb10.out⟩
    simp [results, Tryz.results31]
end Go.Proofs.YtdipflchmooakaaGreatDoor
namespace Go.Proofs.YtdipflchmooakaaGreatDoor
open Go.RowKit Go.Shelf Go.Gar Go.Gar.Aes

theorem cbcOK : CbcOK where
  seal_ := fun w K A key iv b kc bc rK rA hiv hkc hbc hb => by
    by_cases hs : sizeOk key.length
    · have e1 : sealE key = 0 := if_pos hs
      have e2 : sealB key iv b = Cbc.seal_ key iv b := if_pos hs
      rw [e1, e2]
      exact callsIn_wide.1 (seal_in w K A key iv b key.length kc b.length bc rfl rfl hs hiv hkc hb rK rA _ rfl)
    · have e1 : sealE key = 1 := if_neg hs
      have e2 : sealB key iv b = [] := if_neg hs
      rw [e1, e2]
      refine (seal_no w K A key.length kc b.length bc _ hs).mono fun e w' he => ?_
      exact ⟨_, he.1, ⟨none, 0, rfl, Nat.le_refl _, .inl rfl⟩, he.2⟩
  open_ := fun w K A key iv b kc bc rK rA hiv hkc hbc hb => by
    by_cases hs : sizeOk key.length
    · have e1 : openE key iv b = if (Cbc.open_ key iv b).isSome then 0 else 12 := if_pos hs
      have e2 : openB key iv b = (Cbc.open_ key iv b).getD [] := if_pos hs
      rw [e1, e2]
      by_cases hm : b.length % 16 = 0
      · have ho : Cbc.open_ key iv b = Cbc.unpad (Cbc.opK key iv b (b.length / 16)) := by
          by_cases h16 : 16 ≤ b.length
          · exact if_pos ⟨h16, hm⟩
          · have h0 : b.length / 16 = 0 := by omega
            rw [Cbc.open_, if_neg (fun h => h16 h.1), h0]
            rfl
        rw [ho]
        exact callsIn_wide.1 (open_in w K A key iv b key.length kc b.length bc rfl rfl hs hiv hkc hbc hb hm rK rA _ _ _ rfl rfl rfl)
      · have ho : Cbc.open_ key iv b = none := if_neg (fun h => hm h.2)
        rw [ho]
        refine (open_cut w K A key key.length kc b.length bc _ rfl hs hkc rK hm hb).mono fun e w' he => ?_
        exact ⟨_, he.1, ⟨none, 0, rfl, Nat.le_refl _, .inl rfl⟩, he.2⟩
    · have e1 : openE key iv b = 1 := if_neg hs
      have e2 : openB key iv b = [] := if_neg hs
      rw [e1, e2]
      refine (open_no w K A key.length kc b.length bc _ hs).mono fun e w' he => ?_
      exact ⟨_, he.1, ⟨none, 0, rfl, Nat.le_refl _, .inl rfl⟩, he.2⟩
end Go.Proofs.YtdipflchmooakaaGreatDoor
