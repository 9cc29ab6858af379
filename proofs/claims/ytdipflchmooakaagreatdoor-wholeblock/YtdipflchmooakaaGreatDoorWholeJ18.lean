/-
  Package aes: New; the contracts of the package together.
-/
import Derived.Test.YtdipflchmooakaaGreatDoorWholeJ01
import Derived.Test.YtdipflchmooakaaGreatDoorWholeJ05
import Derived.Test.YtdipflchmooakaaGreatDoorWholeJ02
import Derived.Test.YtdipflchmooakaaGreatDoorWholeJ06
import Derived.Test.YtdipflchmooakaaGreatDoorWholeJ09
import Derived.Test.YtdipflchmooakaaGreatDoorWholeJ13
import Derived.Test.YtdipflchmooakaaGreatDoorWholeJ14
import Derived.Test.YtdipflchmooakaaGreatDoorWholeJ15
import Derived.Test.YtdipflchmooakaaGreatDoorWholeJ16
import Derived.Test.YtdipflchmooakaaGreatDoorWholeJ17
import Derived.BigRegion
import Derived.Deep.CutRange
import Derived.RegionTactic
set_option maxRecDepth 100000
namespace Go.Gar
open Go.RowKit
theorem seg_mid (p m s m' : List Value) (o : Nat) (ho : o = p.length) (h : m'.length = m.length) : seg (p ++ (m ++ s)) o m' = p ++ (m' ++ s) := by
  subst ho
  unfold seg
  rw [List.take_left, h, ← List.append_assoc p m s, List.drop_left' (by simp), List.append_assoc]
end Go.Gar
namespace Go.Proofs.YtdipflchmooakaaGreatDoor
open Go.RowKit Go.Gar Go.Gar.Aes

/-- What a Cipher holds. -/
def cip (a b c d : List UInt8) (k : Value) : List Value := u8s a ++ (u8s b ++ (u8s c ++ (u8s d ++ [k])))
structure CB (w0 w : World) (a b c d : List UInt8) (k : Value) : Prop where
  blk : Blk w w0.heap.size 85 (cip a b c d k)
  bel : Below w0.heap.size w0 w
  la : a.length = 256
  lb : b.length = 256
  lc : c.length = 1024
  ld : d.length = 1024
section
variable {w0 w w' : World} {a b c d x : List UInt8} {k : Value}
theorem CB.len (h : CB w0 w a b c d k) : (cip a b c d k).length = 2561 := by
  unfold cip
  simp only [List.length_append, u8s_len, h.la, h.lb, h.lc, h.ld, List.length_cons, List.length_nil]
theorem CB.call (h : CB w0 w a b c d k) (hb : Below w.heap.size w w') : CB w0 w' a b c d k :=
  ⟨h.blk.below hb h.blk.lt, h.bel.trans (hb.mono h.bel.size), h.la, h.lb, h.lc, h.ld⟩
theorem CB.s0 (h : CB w0 w a b c d k) (hx : x.length = 256) : seg (cip a b c d k) 0 (u8s x) = cip x b c d k :=
  seg_mid [] (u8s a) _ (u8s x) 0 rfl (by rw [u8s_len, u8s_len, hx, h.la])
theorem CB.s1 (h : CB w0 w a b c d k) (hx : x.length = 256) : seg (cip a b c d k) 256 (u8s x) = cip a x c d k :=
  seg_mid (u8s a) (u8s b) _ (u8s x) 256 (by rw [u8s_len, h.la]) (by rw [u8s_len, u8s_len, hx, h.lb])
theorem CB.s2 (h : CB w0 w a b c d k) (hx : x.length = 1024) : seg (cip a b c d k) 512 (u8s x) = cip a b x d k := by
  have := seg_mid (u8s a ++ u8s b) (u8s c) (u8s d ++ [k]) (u8s x) 512 (by rw [List.length_append, u8s_len, u8s_len, h.la, h.lb]) (by rw [u8s_len, u8s_len, hx, h.lc])
  unfold cip
  rw [List.append_assoc, List.append_assoc] at this
  exact this
theorem CB.s3 (h : CB w0 w a b c d k) (hx : x.length = 1024) : seg (cip a b c d k) 1536 (u8s x) = cip a b c x k := by
  have := seg_mid (u8s a ++ (u8s b ++ u8s c)) (u8s d) [k] (u8s x) 1536 (by rw [List.length_append, List.length_append, u8s_len, u8s_len, u8s_len, h.la, h.lb, h.lc]) (by rw [u8s_len, u8s_len, hx, h.ld])
  unfold cip
  simp only [List.append_assoc] at this
  exact this
theorem CB.set0 (h : CB w0 w a b c d k) (hx : x.length = 256) : CB w0 (w.setRow w0.heap.size (cip x b c d k).toArray) x b c d k :=
  ⟨h.blk.row _, below_setRow h.bel (Nat.le_refl _) _, hx, h.lb, h.lc, h.ld⟩
theorem CB.set1 (h : CB w0 w a b c d k) (hx : x.length = 256) : CB w0 (w.setRow w0.heap.size (cip a x c d k).toArray) a x c d k :=
  ⟨h.blk.row _, below_setRow h.bel (Nat.le_refl _) _, h.la, hx, h.lc, h.ld⟩
theorem CB.set2 (h : CB w0 w a b c d k) (hx : x.length = 1024) : CB w0 (w.setRow w0.heap.size (cip a b x d k).toArray) a b x d k :=
  ⟨h.blk.row _, below_setRow h.bel (Nat.le_refl _) _, h.la, h.lb, hx, h.ld⟩
theorem CB.set3 (h : CB w0 w a b c d k) (hx : x.length = 1024) : CB w0 (w.setRow w0.heap.size (cip a b c x k).toArray) a b c x k :=
  ⟨h.blk.row _, below_setRow h.bel (Nat.le_refl _) _, h.la, h.lb, h.lc, hx⟩
theorem CB.last (h : CB w0 w a b c d k) : (cip a b c d k)[2560]? = some k := by
  unfold cip
  rw [← List.append_assoc, ← List.append_assoc, ← List.append_assoc, List.getElem?_append_right (by simp only [List.length_append, u8s_len, h.la, h.lb, h.lc, h.ld]; omega)]
  simp only [List.length_append, u8s_len, h.la, h.lb, h.lc, h.ld]
  rfl
theorem CB.setK (h : CB w0 w a b c d k) (k' : Value) : CB w0 (w.setCell ⟨w0.heap.size, 2560, none⟩ k') a b c d k' := by
  refine ⟨?_, h.bel.setCell (Nat.le_refl _) _, h.la, h.lb, h.lc, h.ld⟩
  have := h.blk.set_ 2560 k'
  have e : (cip a b c d k).set 2560 k' = cip a b c d k' := by
    have h1 : cip a b c d k = (u8s a ++ (u8s b ++ (u8s c ++ u8s d))) ++ [k] := by simp only [cip, List.append_assoc]
    have h2 : cip a b c d k' = (u8s a ++ (u8s b ++ (u8s c ++ u8s d))) ++ [k'] := by simp only [cip, List.append_assoc]
    have hl : (u8s a ++ (u8s b ++ (u8s c ++ u8s d))).length = 2560 := by simp only [List.length_append, u8s_len, h.la, h.lb, h.lc, h.ld]
    rw [h1, h2, ← hl]
    exact set_mid _ [] _ _
  rw [e] at this
  exact this
theorem cip_get (p s : List Value) (x : List UInt8) (o q : Nat) (c : UInt8) (ho : o = p.length) (hc : x[q]? = some c) : (p ++ (u8s x ++ s))[o + q]? = some (.int .u8 (c.toNat : Int)) := by
  subst ho
  rw [List.getElem?_append_right (by omega), Nat.add_sub_cancel_left, List.getElem?_append_left (by rw [u8s_len]; exact (List.getElem?_eq_some_iff.1 hc).1), u8s_get, hc]
  rfl
end

theorem Tryz.infoC : (Tryz.prog.info? 85).map (fun i => (i.zero, i.size)) = some (some (.agg (Array.replicate 2560 (.int .u8 0) ++ #[.slice none 0 0])), 2561) := by kernel_rfl
def z256 : List UInt8 := List.replicate 256 0
theorem zeroC_eq : (Array.replicate 2560 (Value.int .u8 0) ++ #[.slice none 0 0]) = (cip z256 z256 z1024 z1024 (.slice none 0 0)).toArray := by
  have h : ∀ n, u8s (List.replicate n 0) = List.replicate n (Value.int .u8 0) := fun n => by rw [u8s, List.map_replicate]; rfl
  unfold cip z256 z1024
  rw [h, h, ← List.append_assoc, ← List.append_assoc, ← List.append_assoc, List.replicate_append_replicate, List.replicate_append_replicate, List.replicate_append_replicate]
  apply Array.ext'
  simp only [Array.toList_append, Array.toList_replicate, Nat.reduceAdd]
theorem zeroC (w : World) : (zeroValue 85).run Tryz.prog w = .ok (.agg (cip z256 z256 z1024 z1024 (.slice none 0 0)).toArray) w := by
  rw [(zero_of_info (P := Tryz.prog) Tryz.infoC).1 w, zeroC_eq]
theorem CB.start (w : World) : CB w (w.alloc (.cells (cip z256 z256 z1024 z1024 (.slice none 0 0)).toArray 85)) z256 z256 z1024 z1024 (.slice none 0 0) :=
  ⟨Blk.new w _ _, below_alloc w _, List.length_replicate, List.length_replicate, z1024_len, z1024_len⟩

def TabL (S : List UInt8) (f : UInt8 → UInt8) : Prop := S.length = 256 ∧ ∀ a : UInt8, S[a.toNat]? = some (f a)
def MixL (M : List UInt8) (F : List UInt8) : Prop := M.length = 1024 ∧ ∀ j, j < 4 → ∀ a : UInt8, M[j * 256 + a.toNat]? = some (facs F j a)
theorem tab_some (w : World) : Calls Tryz.prog 48 #[] w fun e w' => ∃ S B, e = .returned (.tuple #[.agg (u8s S).toArray, .agg (u8s B).toArray]) ∧ TabL S sb ∧ TabL B ib ∧ Below w.heap.size w w' :=
  (tabC w).mono fun _ _ h => ⟨Box.sboxB, Box.backB, h.1, ⟨Box.sboxB_len, sboxB_byte⟩, ⟨Box.backB_len, backB_byte⟩, h.2⟩
theorem mixed_some (w : World) : Calls Tryz.prog 49 #[.agg #[.int .u8 2, .int .u8 3, .int .u8 1, .int .u8 1]] w fun e w' => ∃ M, e = .returned (.agg (u8s M).toArray) ∧ MixL M [2, 3, 1, 1] ∧ Below w.heap.size w w' :=
  (products_any mulC w [2, 3, 1, 1] rfl).mono fun _ _ h => ⟨_, h.1, ⟨prodT_len _, fun j hj a => by rw [Nat.mul_comm]; exact prodT_facs _ j a hj⟩, h.2⟩
theorem parted_some (w : World) : Calls Tryz.prog 49 #[.agg #[.int .u8 14, .int .u8 11, .int .u8 13, .int .u8 9]] w fun e w' => ∃ M, e = .returned (.agg (u8s M).toArray) ∧ MixL M [14, 11, 13, 9] ∧ Below w.heap.size w w' :=
  (products_any mulC w [14, 11, 13, 9] rfl).mono fun _ _ h => ⟨_, h.1, ⟨prodT_len _, fun j hj a => by rw [Nat.mul_comm]; exact prodT_facs _ j a hj⟩, h.2⟩
theorem size256 (l : List UInt8) (h : l.length = 256) : (Tryz.prog.info? 81).map (·.size) = some (u8s l).length := by rw [u8s_len, h]; kernel_rfl
theorem CB.tbl0 {w0 w : World} {a b c d : List UInt8} {k : Value} {f : UInt8 → UInt8} (h : CB w0 w a b c d k) (hT : TabL a f) : Tbl w w0.heap.size 0 f := fun q => by
  rw [h.blk.cell]; exact cip_get [] _ a 0 q.toNat _ rfl (hT.2 q)

theorem zero_some : ∃ y0 y1 : List UInt8, (∀ w, (zeroValue 85).run Tryz.prog w = .ok (.agg (cip y0 y0 y1 y1 (.slice none 0 0)).toArray) w) ∧ ∀ w, CB w (w.alloc (.cells (cip y0 y0 y1 y1 (.slice none 0 0)).toArray 85)) y0 y0 y1 y1 (.slice none 0 0) :=
  ⟨z256, z1024, zeroC, CB.start⟩
theorem exp_some (n N : Nat) (key : List UInt8) (h0 : 0 < n) (hk : key.length / 4 = n) (hN : N = 4 * n + 28) : ∃ W x, Exp n N key W x ∧ ∀ r, r ≤ roundsOf key → ∀ i, i < 16 → W[r * 16 + i]? = some (at_ (keysOf key r) i) :=
  ⟨exK key, exW key, Exp.of n N key h0 hk hN, fun r hr i hi => by rw [Nat.mul_comm r 16]; exact exK_key key r i hr hi⟩
theorem rep_of {w0 w : World} {S B M M2 W key : List UInt8} {gk R : Nat} (h : CB w0 w S B M M2 (.slice (some ⟨gk, 0, none⟩) R R)) (hS : TabL S sb) (hB : TabL B ib) (hM : MixL M [2, 3, 1, 1]) (hM2 : MixL M2 [14, 11, 13, 9])
    (hR : roundsOf key + 1 = R) (hW : ∀ r, r ≤ roundsOf key → ∀ i, i < 16 → W[r * 16 + i]? = some (at_ (keysOf key r) i)) (hBk : Blk w gk 32 (u8s W)) : Rep w w0.heap.size key where
  there := h.tbl0 hS
  back := fun q => by
    rw [h.blk.cell]; exact cip_get (u8s S) _ B 256 q.toNat _ (by rw [u8s_len, h.la]) (hB.2 q)
  mixed := fun j hj q => by
    rw [h.blk.cell]
    have := cip_get (u8s S ++ u8s B) (u8s M2 ++ [.slice (some ⟨gk, 0, none⟩) R R]) M 512 (j * 256 + q.toNat) _ (by rw [List.length_append, u8s_len, u8s_len, h.la, h.lb]) (hM.2 j hj q)
    rw [List.append_assoc, ← Nat.add_assoc] at this
    exact this
  parted := fun j hj q => by
    rw [h.blk.cell]
    have := cip_get (u8s S ++ (u8s B ++ u8s M)) [.slice (some ⟨gk, 0, none⟩) R R] M2 1536 (j * 256 + q.toNat) _ (by rw [List.length_append, List.length_append, u8s_len, u8s_len, u8s_len, h.la, h.lb, h.lc]) (hM2.2 j hj q)
    simp only [List.append_assoc] at this
    rw [← Nat.add_assoc] at this
    exact this
  keys := ⟨gk, R, by rw [h.blk.cell, hR]; exact h.last, fun r hr i hi => blk_byte hBk (hW r hr i hi)⟩

set_option maxHeartbeats 2000000 in
set_option maxRecDepth 100000 in
theorem new_4 (w : World) (b o cap : Nat) (key : List UInt8) (hk : key.length = 16) (hcap : 16 ≤ cap) (hr : ∀ i c, key[i]? = some c → w.cell? ⟨b, o + i, none⟩ = some (.int .u8 (c.toNat : Int))) (hb : b < w.heap.size) :
    Calls Tryz.prog 24 #[.slice (some ⟨b, o, none⟩) 16 cap] w fun e w' => ∃ gc, e = .returned (.tuple #[.pointer (some ⟨gc, 0, none⟩), .int .i64 0]) ∧ Rep w' gc key ∧ Below w.heap.size w w' := by
  obtain ⟨W, x, hE, hW⟩ := exp_some 4 44 key (by omega) (by rw [hk]) (by omega)
  have HE := Lib.hid hE
  have HW := Lib.hid hW
  have HRd : Hid (roundsOf key + 1 = 11) := Lib.hid (by unfold roundsOf; rw [hk])
  have HR := Lib.hid hr
  obtain ⟨y0, y1, hz, hC⟩ := zero_some
  have C1 := hC w
  have HZ := Lib.hid hz
  obtain ⟨w1, hw1⟩ : ∃ w1, w.alloc (.cells (cip y0 y0 y1 y1 (.slice none 0 0)).toArray 85) = w1 := ⟨_, rfl⟩
  rw [hw1] at C1
  have HW1 := Lib.hid hw1
  have HC1 := Lib.hid C1
  clear hE hW hr hw1 C1 hk hz hC
  go_enter Tryz.func24, Tryz.ntmps24
  go_wp2_with (refine wpList_alloc_arr rfl 85 _ rfl HZ.out ?_; rw [HW1.out])
  refine (tab_some w1).mono ?_
  rintro e w2 ⟨S, B, rfl, hS, hB, hb2⟩
  have C2 := HC1.out.call hb2
  have C3 := C2.set0 hS.1
  obtain ⟨w3, hw3⟩ : ∃ w3, w2.setRow w.heap.size (cip S y0 y1 y1 (.slice none 0 0)).toArray = w3 := ⟨_, rfl⟩
  rw [hw3] at C3
  have C4 := C3.set1 hB.1
  obtain ⟨w4, hw4⟩ : ∃ w4, w3.setRow w.heap.size (cip S B y1 y1 (.slice none 0 0)).toArray = w4 := ⟨_, rfl⟩
  rw [hw4] at C4
  have HC2 := Lib.hid C2
  have HC3 := Lib.hid C3
  have HC4 := Lib.hid C4
  have HW3 := Lib.hid hw3
  have HW4 := Lib.hid hw4
  have HS := Lib.hid hS
  have HB := Lib.hid hB
  clear C2 C3 C4 hw3 hw4 hS hB hb2
  go_wp2_with (first | (refine wpList_store_seg rfl 85 81 (.tmp 22) (.tmp 20) w.heap.size 0 _ _ rfl rfl rfl rfl HC2.out.blk (size256 _ HS.out.1) (by rw [HC2.out.len, u8s_len, HS.out.1]; omega) (u8s_one _) ?_; rw [HC2.out.s0 HS.out.1, HW3.out]) | (refine wpList_store_seg rfl 85 81 (.tmp 23) (.tmp 21) w.heap.size 256 _ _ rfl rfl rfl rfl HC3.out.blk (size256 _ HB.out.1) (by rw [HC3.out.len, u8s_len, HB.out.1]; omega) (u8s_one _) ?_; rw [HC3.out.s1 HB.out.1, HW4.out]))
  clear HC1 HC2 HC3 HW1 HW3 HW4
  refine (mixed_some w4).mono ?_
  rintro e w5 ⟨M, rfl, hM, hb5⟩
  have C5 := HC4.out.call hb5
  have C6 := C5.set2 hM.1
  obtain ⟨w6, hw6⟩ : ∃ w6, w5.setRow w.heap.size (cip S B M y1 (.slice none 0 0)).toArray = w6 := ⟨_, rfl⟩
  rw [hw6] at C6
  have HC5 := Lib.hid C5
  have HC6 := Lib.hid C6
  have HW6 := Lib.hid hw6
  have HM := Lib.hid hM
  clear C5 C6 hw6 hM hb5 HC4
  go_wp2_with (refine wpList_store_seg rfl 85 82 (.tmp 26) (.tmp 25) w.heap.size 512 _ _ rfl rfl rfl rfl HC5.out.blk (size1024 _ HM.out.1) (by rw [HC5.out.len, u8s_len, HM.out.1]; omega) (u8s_one _) ?_; rw [HC5.out.s2 HM.out.1, HW6.out])
  clear HC5 HW6
  refine (parted_some w6).mono ?_
  rintro e w7 ⟨M2, rfl, hM2, hb7⟩
  have C7 := HC6.out.call hb7
  have C8 := C7.set3 hM2.1
  obtain ⟨w8, hw8⟩ : ∃ w8, w7.setRow w.heap.size (cip S B M M2 (.slice none 0 0)).toArray = w8 := ⟨_, rfl⟩
  rw [hw8] at C8
  have HC7 := Lib.hid C7
  have HC8 := Lib.hid C8
  have HW8 := Lib.hid hw8
  have HM2 := Lib.hid hM2
  clear C7 C8 hw8 hM2 hb7 HC6
  go_wp2_with (refine wpList_store_seg rfl 85 82 (.tmp 29) (.tmp 28) w.heap.size 1536 _ _ rfl rfl rfl rfl HC7.out.blk (size1024 _ HM2.out.1) (by rw [HC7.out.len, u8s_len, HM2.out.1]; omega) (u8s_one _) ?_; rw [HC7.out.s3 HM2.out.1, HW8.out])
  clear HC7 HW8
  refine (expand_4 mulC w8 b o cap w.heap.size 0 key W x HE.out hcap (fun i c hc => cell_stays HC8.out.bel (HR.out i c hc)) (Nat.lt_of_lt_of_le hb HC8.out.bel.size) (HC8.out.tbl0 HS.out) HC8.out.blk.lt).mono ?_
  rintro e w9 ⟨gw, rfl, hgw, hBw, hb9⟩
  have HC9 := Lib.hid (HC8.out.call hb9)
  have HBw := Lib.hid hBw
  clear hBw hb9 hgw HC8
  go_wp2_with fail
  refine (roundKeys_4 w9 gw 44 key W x HE.out HBw.out).mono ?_
  rintro e w10 ⟨gk, rfl, hgk, hBk, hb10⟩
  have C10 := HC9.out.call hb10
  have hcell : w10.cell? ⟨w.heap.size, 2560, none⟩ = some (.slice none 0 0) := by rw [C10.blk.cell]; exact C10.last
  have hf := C10.blk.frozen 2560
  have hne : gk ≠ w.heap.size := by have := HC9.out.blk.lt; omega
  have HC11 := Lib.hid (C10.setK (.slice (some ⟨gk, 0, none⟩) 11 11))
  have HBk := Lib.hid (hBk.far (p := ⟨w.heap.size, 2560, none⟩) hne (.slice (some ⟨gk, 0, none⟩) 11 11))
  clear hBk hb10 hgk C10 hne HC9 HBw
  go_wp2
  go_ret2
  refine ⟨w.heap.size, rfl, ?_, HC11.out.bel⟩
  exact rep_of HC11.out HS.out HB.out HM.out HM2.out HRd.out HW.out HBk.out

set_option maxHeartbeats 2000000 in
set_option maxRecDepth 100000 in
theorem new_6 (w : World) (b o cap : Nat) (key : List UInt8) (hk : key.length = 24) (hcap : 24 ≤ cap) (hr : ∀ i c, key[i]? = some c → w.cell? ⟨b, o + i, none⟩ = some (.int .u8 (c.toNat : Int))) (hb : b < w.heap.size) :
    Calls Tryz.prog 24 #[.slice (some ⟨b, o, none⟩) 24 cap] w fun e w' => ∃ gc, e = .returned (.tuple #[.pointer (some ⟨gc, 0, none⟩), .int .i64 0]) ∧ Rep w' gc key ∧ Below w.heap.size w w' := by
  obtain ⟨W, x, hE, hW⟩ := exp_some 6 52 key (by omega) (by rw [hk]) (by omega)
  have HE := Lib.hid hE
  have HW := Lib.hid hW
  have HRd : Hid (roundsOf key + 1 = 13) := Lib.hid (by unfold roundsOf; rw [hk])
  have HR := Lib.hid hr
  obtain ⟨y0, y1, hz, hC⟩ := zero_some
  have C1 := hC w
  have HZ := Lib.hid hz
  obtain ⟨w1, hw1⟩ : ∃ w1, w.alloc (.cells (cip y0 y0 y1 y1 (.slice none 0 0)).toArray 85) = w1 := ⟨_, rfl⟩
  rw [hw1] at C1
  have HW1 := Lib.hid hw1
  have HC1 := Lib.hid C1
  clear hE hW hr hw1 C1 hk hz hC
  go_enter Tryz.func24, Tryz.ntmps24
  go_wp2_with (refine wpList_alloc_arr rfl 85 _ rfl HZ.out ?_; rw [HW1.out])
  refine (tab_some w1).mono ?_
  rintro e w2 ⟨S, B, rfl, hS, hB, hb2⟩
  have C2 := HC1.out.call hb2
  have C3 := C2.set0 hS.1
  obtain ⟨w3, hw3⟩ : ∃ w3, w2.setRow w.heap.size (cip S y0 y1 y1 (.slice none 0 0)).toArray = w3 := ⟨_, rfl⟩
  rw [hw3] at C3
  have C4 := C3.set1 hB.1
  obtain ⟨w4, hw4⟩ : ∃ w4, w3.setRow w.heap.size (cip S B y1 y1 (.slice none 0 0)).toArray = w4 := ⟨_, rfl⟩
  rw [hw4] at C4
  have HC2 := Lib.hid C2
  have HC3 := Lib.hid C3
  have HC4 := Lib.hid C4
  have HW3 := Lib.hid hw3
  have HW4 := Lib.hid hw4
  have HS := Lib.hid hS
  have HB := Lib.hid hB
  clear C2 C3 C4 hw3 hw4 hS hB hb2
  go_wp2_with (first | (refine wpList_store_seg rfl 85 81 (.tmp 22) (.tmp 20) w.heap.size 0 _ _ rfl rfl rfl rfl HC2.out.blk (size256 _ HS.out.1) (by rw [HC2.out.len, u8s_len, HS.out.1]; omega) (u8s_one _) ?_; rw [HC2.out.s0 HS.out.1, HW3.out]) | (refine wpList_store_seg rfl 85 81 (.tmp 23) (.tmp 21) w.heap.size 256 _ _ rfl rfl rfl rfl HC3.out.blk (size256 _ HB.out.1) (by rw [HC3.out.len, u8s_len, HB.out.1]; omega) (u8s_one _) ?_; rw [HC3.out.s1 HB.out.1, HW4.out]))
  clear HC1 HC2 HC3 HW1 HW3 HW4
  refine (mixed_some w4).mono ?_
  rintro e w5 ⟨M, rfl, hM, hb5⟩
  have C5 := HC4.out.call hb5
  have C6 := C5.set2 hM.1
  obtain ⟨w6, hw6⟩ : ∃ w6, w5.setRow w.heap.size (cip S B M y1 (.slice none 0 0)).toArray = w6 := ⟨_, rfl⟩
  rw [hw6] at C6
  have HC5 := Lib.hid C5
  have HC6 := Lib.hid C6
  have HW6 := Lib.hid hw6
  have HM := Lib.hid hM
  clear C5 C6 hw6 hM hb5 HC4
  go_wp2_with (refine wpList_store_seg rfl 85 82 (.tmp 26) (.tmp 25) w.heap.size 512 _ _ rfl rfl rfl rfl HC5.out.blk (size1024 _ HM.out.1) (by rw [HC5.out.len, u8s_len, HM.out.1]; omega) (u8s_one _) ?_; rw [HC5.out.s2 HM.out.1, HW6.out])
  clear HC5 HW6
  refine (parted_some w6).mono ?_
  rintro e w7 ⟨M2, rfl, hM2, hb7⟩
  have C7 := HC6.out.call hb7
  have C8 := C7.set3 hM2.1
  obtain ⟨w8, hw8⟩ : ∃ w8, w7.setRow w.heap.size (cip S B M M2 (.slice none 0 0)).toArray = w8 := ⟨_, rfl⟩
  rw [hw8] at C8
  have HC7 := Lib.hid C7
  have HC8 := Lib.hid C8
  have HW8 := Lib.hid hw8
  have HM2 := Lib.hid hM2
  clear C7 C8 hw8 hM2 hb7 HC6
  go_wp2_with (refine wpList_store_seg rfl 85 82 (.tmp 29) (.tmp 28) w.heap.size 1536 _ _ rfl rfl rfl rfl HC7.out.blk (size1024 _ HM2.out.1) (by rw [HC7.out.len, u8s_len, HM2.out.1]; omega) (u8s_one _) ?_; rw [HC7.out.s3 HM2.out.1, HW8.out])
  clear HC7 HW8
  refine (expand_6 mulC w8 b o cap w.heap.size 0 key W x HE.out hcap (fun i c hc => cell_stays HC8.out.bel (HR.out i c hc)) (Nat.lt_of_lt_of_le hb HC8.out.bel.size) (HC8.out.tbl0 HS.out) HC8.out.blk.lt).mono ?_
  rintro e w9 ⟨gw, rfl, hgw, hBw, hb9⟩
  have HC9 := Lib.hid (HC8.out.call hb9)
  have HBw := Lib.hid hBw
  clear hBw hb9 hgw HC8
  go_wp2_with fail
  refine (roundKeys_6 w9 gw 52 key W x HE.out HBw.out).mono ?_
  rintro e w10 ⟨gk, rfl, hgk, hBk, hb10⟩
  have C10 := HC9.out.call hb10
  have hcell : w10.cell? ⟨w.heap.size, 2560, none⟩ = some (.slice none 0 0) := by rw [C10.blk.cell]; exact C10.last
  have hf := C10.blk.frozen 2560
  have hne : gk ≠ w.heap.size := by have := HC9.out.blk.lt; omega
  have HC11 := Lib.hid (C10.setK (.slice (some ⟨gk, 0, none⟩) 13 13))
  have HBk := Lib.hid (hBk.far (p := ⟨w.heap.size, 2560, none⟩) hne (.slice (some ⟨gk, 0, none⟩) 13 13))
  clear hBk hb10 hgk C10 hne HC9 HBw
  go_wp2
  go_ret2
  refine ⟨w.heap.size, rfl, ?_, HC11.out.bel⟩
  exact rep_of HC11.out HS.out HB.out HM.out HM2.out HRd.out HW.out HBk.out

set_option maxHeartbeats 2000000 in
set_option maxRecDepth 100000 in
theorem new_8 (w : World) (b o cap : Nat) (key : List UInt8) (hk : key.length = 32) (hcap : 32 ≤ cap) (hr : ∀ i c, key[i]? = some c → w.cell? ⟨b, o + i, none⟩ = some (.int .u8 (c.toNat : Int))) (hb : b < w.heap.size) :
    Calls Tryz.prog 24 #[.slice (some ⟨b, o, none⟩) 32 cap] w fun e w' => ∃ gc, e = .returned (.tuple #[.pointer (some ⟨gc, 0, none⟩), .int .i64 0]) ∧ Rep w' gc key ∧ Below w.heap.size w w' := by
  obtain ⟨W, x, hE, hW⟩ := exp_some 8 60 key (by omega) (by rw [hk]) (by omega)
  have HE := Lib.hid hE
  have HW := Lib.hid hW
  have HRd : Hid (roundsOf key + 1 = 15) := Lib.hid (by unfold roundsOf; rw [hk])
  have HR := Lib.hid hr
  obtain ⟨y0, y1, hz, hC⟩ := zero_some
  have C1 := hC w
  have HZ := Lib.hid hz
  obtain ⟨w1, hw1⟩ : ∃ w1, w.alloc (.cells (cip y0 y0 y1 y1 (.slice none 0 0)).toArray 85) = w1 := ⟨_, rfl⟩
  rw [hw1] at C1
  have HW1 := Lib.hid hw1
  have HC1 := Lib.hid C1
  clear hE hW hr hw1 C1 hk hz hC
  go_enter Tryz.func24, Tryz.ntmps24
  go_wp2_with (refine wpList_alloc_arr rfl 85 _ rfl HZ.out ?_; rw [HW1.out])
  refine (tab_some w1).mono ?_
  rintro e w2 ⟨S, B, rfl, hS, hB, hb2⟩
  have C2 := HC1.out.call hb2
  have C3 := C2.set0 hS.1
  obtain ⟨w3, hw3⟩ : ∃ w3, w2.setRow w.heap.size (cip S y0 y1 y1 (.slice none 0 0)).toArray = w3 := ⟨_, rfl⟩
  rw [hw3] at C3
  have C4 := C3.set1 hB.1
  obtain ⟨w4, hw4⟩ : ∃ w4, w3.setRow w.heap.size (cip S B y1 y1 (.slice none 0 0)).toArray = w4 := ⟨_, rfl⟩
  rw [hw4] at C4
  have HC2 := Lib.hid C2
  have HC3 := Lib.hid C3
  have HC4 := Lib.hid C4
  have HW3 := Lib.hid hw3
  have HW4 := Lib.hid hw4
  have HS := Lib.hid hS
  have HB := Lib.hid hB
  clear C2 C3 C4 hw3 hw4 hS hB hb2
  go_wp2_with (first | (refine wpList_store_seg rfl 85 81 (.tmp 22) (.tmp 20) w.heap.size 0 _ _ rfl rfl rfl rfl HC2.out.blk (size256 _ HS.out.1) (by rw [HC2.out.len, u8s_len, HS.out.1]; omega) (u8s_one _) ?_; rw [HC2.out.s0 HS.out.1, HW3.out]) | (refine wpList_store_seg rfl 85 81 (.tmp 23) (.tmp 21) w.heap.size 256 _ _ rfl rfl rfl rfl HC3.out.blk (size256 _ HB.out.1) (by rw [HC3.out.len, u8s_len, HB.out.1]; omega) (u8s_one _) ?_; rw [HC3.out.s1 HB.out.1, HW4.out]))
  clear HC1 HC2 HC3 HW1 HW3 HW4
  refine (mixed_some w4).mono ?_
  rintro e w5 ⟨M, rfl, hM, hb5⟩
  have C5 := HC4.out.call hb5
  have C6 := C5.set2 hM.1
  obtain ⟨w6, hw6⟩ : ∃ w6, w5.setRow w.heap.size (cip S B M y1 (.slice none 0 0)).toArray = w6 := ⟨_, rfl⟩
  rw [hw6] at C6
  have HC5 := Lib.hid C5
  have HC6 := Lib.hid C6
  have HW6 := Lib.hid hw6
  have HM := Lib.hid hM
  clear C5 C6 hw6 hM hb5 HC4
  go_wp2_with (refine wpList_store_seg rfl 85 82 (.tmp 26) (.tmp 25) w.heap.size 512 _ _ rfl rfl rfl rfl HC5.out.blk (size1024 _ HM.out.1) (by rw [HC5.out.len, u8s_len, HM.out.1]; omega) (u8s_one _) ?_; rw [HC5.out.s2 HM.out.1, HW6.out])
  clear HC5 HW6
  refine (parted_some w6).mono ?_
  rintro e w7 ⟨M2, rfl, hM2, hb7⟩
  have C7 := HC6.out.call hb7
  have C8 := C7.set3 hM2.1
  obtain ⟨w8, hw8⟩ : ∃ w8, w7.setRow w.heap.size (cip S B M M2 (.slice none 0 0)).toArray = w8 := ⟨_, rfl⟩
  rw [hw8] at C8
  have HC7 := Lib.hid C7
  have HC8 := Lib.hid C8
  have HW8 := Lib.hid hw8
  have HM2 := Lib.hid hM2
  clear C7 C8 hw8 hM2 hb7 HC6
  go_wp2_with (refine wpList_store_seg rfl 85 82 (.tmp 29) (.tmp 28) w.heap.size 1536 _ _ rfl rfl rfl rfl HC7.out.blk (size1024 _ HM2.out.1) (by rw [HC7.out.len, u8s_len, HM2.out.1]; omega) (u8s_one _) ?_; rw [HC7.out.s3 HM2.out.1, HW8.out])
  clear HC7 HW8
  refine (expand_8 mulC w8 b o cap w.heap.size 0 key W x HE.out hcap (fun i c hc => cell_stays HC8.out.bel (HR.out i c hc)) (Nat.lt_of_lt_of_le hb HC8.out.bel.size) (HC8.out.tbl0 HS.out) HC8.out.blk.lt).mono ?_
  rintro e w9 ⟨gw, rfl, hgw, hBw, hb9⟩
  have HC9 := Lib.hid (HC8.out.call hb9)
  have HBw := Lib.hid hBw
  clear hBw hb9 hgw HC8
  go_wp2_with fail
  refine (roundKeys_8 w9 gw 60 key W x HE.out HBw.out).mono ?_
  rintro e w10 ⟨gk, rfl, hgk, hBk, hb10⟩
  have C10 := HC9.out.call hb10
  have hcell : w10.cell? ⟨w.heap.size, 2560, none⟩ = some (.slice none 0 0) := by rw [C10.blk.cell]; exact C10.last
  have hf := C10.blk.frozen 2560
  have hne : gk ≠ w.heap.size := by have := HC9.out.blk.lt; omega
  have HC11 := Lib.hid (C10.setK (.slice (some ⟨gk, 0, none⟩) 15 15))
  have HBk := Lib.hid (hBk.far (p := ⟨w.heap.size, 2560, none⟩) hne (.slice (some ⟨gk, 0, none⟩) 15 15))
  clear hBk hb10 hgk C10 hne HC9 HBw
  go_wp2
  go_ret2
  refine ⟨w.heap.size, rfl, ?_, HC11.out.bel⟩
  exact rep_of HC11.out HS.out HB.out HM.out HM2.out HRd.out HW.out HBk.out

theorem new_no (w : World) (A : Option Addr) (len cap : Nat) (h : ¬ sizeOk len) :
    Calls Tryz.prog 24 #[.slice A len cap] w fun e w' => e = .returned (.tuple #[.pointer none, .int .i64 1]) ∧ Below w.heap.size w w' := by
  unfold sizeOk at h
  have d1 : ((len : Int) != 16) = true := by rw [bne_iff_ne]; omega
  have d2 : ((len : Int) != 24) = true := by rw [bne_iff_ne]; omega
  have d3 : ((len : Int) != 32) = true := by rw [bne_iff_ne]; omega
  clear h
  go_enter Tryz.func24, Tryz.ntmps24
  go_wp2
  go_ret2
  exact ⟨rfl, Below.refl _ w⟩
theorem new_yes (w : World) (A : Option Addr) (key : List UInt8) (len cap : Nat) (hs : sizeOk key.length) (hl : len = key.length) (hcap : key.length ≤ cap) (hr : Rd w w.heap.size A key) :
    Calls Tryz.prog 24 #[.slice A len cap] w fun e w' => ∃ gc, e = .returned (.tuple #[.pointer (some ⟨gc, 0, none⟩), .int .i64 0]) ∧ Rep w' gc key ∧ Below w.heap.size w w' := by
  subst hl
  rcases hr with h0 | ⟨b, o, rfl, hb, hc⟩
  · rw [h0] at hs
    unfold sizeOk at hs
    simp at hs
  · rcases hs with h | h | h
    · rw [h] at hcap ⊢; exact new_4 w b o cap key h hcap hc hb
    · rw [h] at hcap ⊢; exact new_6 w b o cap key h hcap hc hb
    · rw [h] at hcap ⊢; exact new_8 w b o cap key h hcap hc hb
theorem aesOK : AesOK Rep where
  stay := fun h hb => h.stay hb
  new_yes := new_yes
  new_no := new_no
  enc := fun w gc key l hk h hl => by
    obtain ⟨gk, cap, hR⟩ := h.ready
    unfold sizeOk at hk
    exact encrypt_at w gc gk _ cap (roundsOf key) (keysOf key) l hl hR rfl (by unfold roundsOf; omega) (by unfold roundsOf; omega)
  dec := fun w gc key l hk h hl => by
    obtain ⟨gk, cap, hR⟩ := h.ready
    unfold sizeOk at hk
    exact decrypt_at w gc gk _ cap (roundsOf key) (keysOf key) l hl hR rfl (by unfold roundsOf; omega) (by unfold roundsOf; omega)
  enc_nil := fun w l hl => enc_nil w l hl
  dec_nil := fun w l hl => dec_nil w l hl
end Go.Proofs.YtdipflchmooakaaGreatDoor
