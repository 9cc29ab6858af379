/-
  Package aes: New; the contracts of the package together. The landed cbc: what a round of Seal and Open finds and leaves; Seal with a key that is none.
-/
import Derived.Test.YtjhkodmaalefiaaDoorSealJ27
import Derived.Test.YtjhkodmaalefiaaDoorSealJ30
import Derived.Test.YtjhkodmaalefiaaDoorSealJ26
set_option maxRecDepth 100000
namespace Go.Gar
open Go.RowKit
theorem seg_mid (p m s m' : List Value) (o : Nat) (ho : o = p.length) (h : m'.length = m.length) : seg (p ++ (m ++ s)) o m' = p ++ (m' ++ s) := by
  subst ho
  unfold seg
  rw [List.take_left, h, ← List.append_assoc p m s, List.drop_left' (by simp), List.append_assoc]
end Go.Gar
namespace Go.Proofs.YtjhkodmaalefiaaDoor
open Go.RowKit Go.Gar Go.Gar.Aes

/-- What a Cipher holds. -/
def cip (a b c d : List UInt8) (k : Value) : List Value := u8s a ++ (u8s b ++ (u8s c ++ (u8s d ++ [k])))
structure CB (w0 w : World) (a b c d : List UInt8) (k : Value) : Prop where
  blk : Blk w w0.heap.size 103 (cip a b c d k)
  bel : Below w0.heap.size w0 w
  la : a.length = 256
  lb : b.length = 256
  lc : c.length = 1024
  ld : d.length = 1024
section
variable {w0 w w' : World} {a b c d x : List UInt8} {k : Value}
theorem CB.len (h : CB w0 w a b c d k) : (cip a b c d k).length = 2561 := by
  unfold cip
  simp only [List.length_append, u8s_len, h.la, h.lb, h.lc, h.ld, List.length_cons, List.length_nil]
theorem CB.call (h : CB w0 w a b c d k) (hb : Below w.heap.size w w') : CB w0 w' a b c d k :=
  ⟨h.blk.below hb h.blk.lt, h.bel.trans (hb.mono h.bel.size), h.la, h.lb, h.lc, h.ld⟩
theorem CB.s0 (h : CB w0 w a b c d k) (hx : x.length = 256) : seg (cip a b c d k) 0 (u8s x) = cip x b c d k :=
  seg_mid [] (u8s a) _ (u8s x) 0 rfl (by rw [u8s_len, u8s_len, hx, h.la])
theorem CB.s1 (h : CB w0 w a b c d k) (hx : x.length = 256) : seg (cip a b c d k) 256 (u8s x) = cip a x c d k :=
  seg_mid (u8s a) (u8s b) _ (u8s x) 256 (by rw [u8s_len, h.la]) (by rw [u8s_len, u8s_len, hx, h.lb])
theorem CB.s2 (h : CB w0 w a b c d k) (hx : x.length = 1024) : seg (cip a b c d k) 512 (u8s x) = cip a b x d k := by
  have := seg_mid (u8s a ++ u8s b) (u8s c) (u8s d ++ [k]) (u8s x) 512 (by rw [List.length_append, u8s_len, u8s_len, h.la, h.lb]) (by rw [u8s_len, u8s_len, hx, h.lc])
  unfold cip
  rw [List.append_assoc, List.append_assoc] at this
  exact this
theorem CB.s3 (h : CB w0 w a b c d k) (hx : x.length = 1024) : seg (cip a b c d k) 1536 (u8s x) = cip a b c x k := by
  have := seg_mid (u8s a ++ (u8s b ++ u8s c)) (u8s d) [k] (u8s x) 1536 (by rw [List.length_append, List.length_append, u8s_len, u8s_len, u8s_len, h.la, h.lb, h.lc]) (by rw [u8s_len, u8s_len, hx, h.ld])
  unfold cip
  simp only [List.append_assoc] at this
  exact this
theorem CB.set0 (h : CB w0 w a b c d k) (hx : x.length = 256) : CB w0 (w.setRow w0.heap.size (cip x b c d k).toArray) x b c d k :=
  ⟨h.blk.row _, below_setRow h.bel (Nat.le_refl _) _, hx, h.lb, h.lc, h.ld⟩
theorem CB.set1 (h : CB w0 w a b c d k) (hx : x.length = 256) : CB w0 (w.setRow w0.heap.size (cip a x c d k).toArray) a x c d k :=
  ⟨h.blk.row _, below_setRow h.bel (Nat.le_refl _) _, h.la, hx, h.lc, h.ld⟩
theorem CB.set2 (h : CB w0 w a b c d k) (hx : x.length = 1024) : CB w0 (w.setRow w0.heap.size (cip a b x d k).toArray) a b x d k :=
  ⟨h.blk.row _, below_setRow h.bel (Nat.le_refl _) _, h.la, h.lb, hx, h.ld⟩
theorem CB.set3 (h : CB w0 w a b c d k) (hx : x.length = 1024) : CB w0 (w.setRow w0.heap.size (cip a b c x k).toArray) a b c x k :=
  ⟨h.blk.row _, below_setRow h.bel (Nat.le_refl _) _, h.la, h.lb, h.lc, hx⟩
theorem CB.last (h : CB w0 w a b c d k) : (cip a b c d k)[2560]? = some k := by
  unfold cip
  rw [← List.append_assoc, ← List.append_assoc, ← List.append_assoc, List.getElem?_append_right (by simp only [List.length_append, u8s_len, h.la, h.lb, h.lc, h.ld]; omega)]
  simp only [List.length_append, u8s_len, h.la, h.lb, h.lc, h.ld]
  rfl
theorem CB.setK (h : CB w0 w a b c d k) (k' : Value) : CB w0 (w.setCell ⟨w0.heap.size, 2560, none⟩ k') a b c d k' := by
  refine ⟨?_, h.bel.setCell (Nat.le_refl _) _, h.la, h.lb, h.lc, h.ld⟩
  have := h.blk.set_ 2560 k'
  have e : (cip a b c d k).set 2560 k' = cip a b c d k' := by
    have h1 : cip a b c d k = (u8s a ++ (u8s b ++ (u8s c ++ u8s d))) ++ [k] := by simp only [cip, List.append_assoc]
    have h2 : cip a b c d k' = (u8s a ++ (u8s b ++ (u8s c ++ u8s d))) ++ [k'] := by simp only [cip, List.append_assoc]
    have hl : (u8s a ++ (u8s b ++ (u8s c ++ u8s d))).length = 2560 := by simp only [List.length_append, u8s_len, h.la, h.lb, h.lc, h.ld]
    rw [h1, h2, ← hl]
    exact set_mid _ [] _ _
  rw [e] at this
  exact this
theorem cip_get (p s : List Value) (x : List UInt8) (o q : Nat) (c : UInt8) (ho : o = p.length) (hc : x[q]? = some c) : (p ++ (u8s x ++ s))[o + q]? = some (.int .u8 (c.toNat : Int)) := by
  subst ho
  rw [List.getElem?_append_right (by omega), Nat.add_sub_cancel_left, List.getElem?_append_left (by rw [u8s_len]; exact (List.getElem?_eq_some_iff.1 hc).1), u8s_get, hc]
  rfl
end

theorem Tryd.infoC : (Tryd.prog.info? 103).map (fun i => (i.zero, i.size)) = some (some (.agg (Array.replicate 2560 (.int .u8 0) ++ #[.slice none 0 0])), 2561) := by kernel_rfl
def z256 : List UInt8 := List.replicate 256 0
theorem zeroC_eq : (Array.replicate 2560 (Value.int .u8 0) ++ #[.slice none 0 0]) = (cip z256 z256 z1024 z1024 (.slice none 0 0)).toArray := by
  have h : ∀ n, u8s (List.replicate n 0) = List.replicate n (Value.int .u8 0) := fun n => by rw [u8s, List.map_replicate]; rfl
  unfold cip z256 z1024
  rw [h, h, ← List.append_assoc, ← List.append_assoc, ← List.append_assoc, List.replicate_append_replicate, List.replicate_append_replicate, List.replicate_append_replicate]
  apply Array.ext'
  simp only [Array.toList_append, Array.toList_replicate, Nat.reduceAdd]
theorem zeroC (w : World) : (zeroValue 103).run Tryd.prog w = .ok (.agg (cip z256 z256 z1024 z1024 (.slice none 0 0)).toArray) w := by
  rw [(zero_of_info (P := Tryd.prog) Tryd.infoC).1 w, zeroC_eq]
theorem CB.start (w : World) : CB w (w.alloc (.cells (cip z256 z256 z1024 z1024 (.slice none 0 0)).toArray 103)) z256 z256 z1024 z1024 (.slice none 0 0) :=
  ⟨Blk.new w _ _, below_alloc w _, List.length_replicate, List.length_replicate, z1024_len, z1024_len⟩

def TabL (S : List UInt8) (f : UInt8 → UInt8) : Prop := S.length = 256 ∧ ∀ a : UInt8, S[a.toNat]? = some (f a)
def MixL (M : List UInt8) (F : List UInt8) : Prop := M.length = 1024 ∧ ∀ j, j < 4 → ∀ a : UInt8, M[j * 256 + a.toNat]? = some (facs F j a)
theorem tab_some (w : World) : Calls Tryd.prog 59 #[] w fun e w' => ∃ S B, e = .returned (.tuple #[.agg (u8s S).toArray, .agg (u8s B).toArray]) ∧ TabL S sb ∧ TabL B ib ∧ Below w.heap.size w w' :=
  (tabC w).mono fun _ _ h => ⟨Box.sboxB, Box.backB, h.1, ⟨Box.sboxB_len, sboxB_byte⟩, ⟨Box.backB_len, backB_byte⟩, h.2⟩
theorem mixed_some (w : World) : Calls Tryd.prog 60 #[.agg #[.int .u8 2, .int .u8 3, .int .u8 1, .int .u8 1]] w fun e w' => ∃ M, e = .returned (.agg (u8s M).toArray) ∧ MixL M [2, 3, 1, 1] ∧ Below w.heap.size w w' :=
  (products_any mulC w [2, 3, 1, 1] rfl).mono fun _ _ h => ⟨_, h.1, ⟨prodT_len _, fun j hj a => by rw [Nat.mul_comm]; exact prodT_facs _ j a hj⟩, h.2⟩
theorem parted_some (w : World) : Calls Tryd.prog 60 #[.agg #[.int .u8 14, .int .u8 11, .int .u8 13, .int .u8 9]] w fun e w' => ∃ M, e = .returned (.agg (u8s M).toArray) ∧ MixL M [14, 11, 13, 9] ∧ Below w.heap.size w w' :=
  (products_any mulC w [14, 11, 13, 9] rfl).mono fun _ _ h => ⟨_, h.1, ⟨prodT_len _, fun j hj a => by rw [Nat.mul_comm]; exact prodT_facs _ j a hj⟩, h.2⟩
theorem size256 (l : List UInt8) (h : l.length = 256) : (Tryd.prog.info? 99).map (·.size) = some (u8s l).length := by rw [u8s_len, h]; kernel_rfl
theorem CB.tbl0 {w0 w : World} {a b c d : List UInt8} {k : Value} {f : UInt8 → UInt8} (h : CB w0 w a b c d k) (hT : TabL a f) : Tbl w w0.heap.size 0 f := fun q => by
  rw [h.blk.cell]; exact cip_get [] _ a 0 q.toNat _ rfl (hT.2 q)

theorem zero_some : ∃ y0 y1 : List UInt8, (∀ w, (zeroValue 103).run Tryd.prog w = .ok (.agg (cip y0 y0 y1 y1 (.slice none 0 0)).toArray) w) ∧ ∀ w, CB w (w.alloc (.cells (cip y0 y0 y1 y1 (.slice none 0 0)).toArray 103)) y0 y0 y1 y1 (.slice none 0 0) :=
  ⟨z256, z1024, zeroC, CB.start⟩
theorem exp_some (n N : Nat) (key : List UInt8) (h0 : 0 < n) (hk : key.length / 4 = n) (hN : N = 4 * n + 28) : ∃ W x, Exp n N key W x ∧ ∀ r, r ≤ roundsOf key → ∀ i, i < 16 → W[r * 16 + i]? = some (at_ (keysOf key r) i) :=
  ⟨exK key, exW key, Exp.of n N key h0 hk hN, fun r hr i hi => by rw [Nat.mul_comm r 16]; exact exK_key key r i hr hi⟩
theorem rep_of {w0 w : World} {S B M M2 W key : List UInt8} {gk R : Nat} (h : CB w0 w S B M M2 (.slice (some ⟨gk, 0, none⟩) R R)) (hS : TabL S sb) (hB : TabL B ib) (hM : MixL M [2, 3, 1, 1]) (hM2 : MixL M2 [14, 11, 13, 9])
    (hR : roundsOf key + 1 = R) (hW : ∀ r, r ≤ roundsOf key → ∀ i, i < 16 → W[r * 16 + i]? = some (at_ (keysOf key r) i)) (hBk : Blk w gk 25 (u8s W)) : Rep w w0.heap.size key where
  there := h.tbl0 hS
  back := fun q => by
    rw [h.blk.cell]; exact cip_get (u8s S) _ B 256 q.toNat _ (by rw [u8s_len, h.la]) (hB.2 q)
  mixed := fun j hj q => by
    rw [h.blk.cell]
    have := cip_get (u8s S ++ u8s B) (u8s M2 ++ [.slice (some ⟨gk, 0, none⟩) R R]) M 512 (j * 256 + q.toNat) _ (by rw [List.length_append, u8s_len, u8s_len, h.la, h.lb]) (hM.2 j hj q)
    rw [List.append_assoc, ← Nat.add_assoc] at this
    exact this
  parted := fun j hj q => by
    rw [h.blk.cell]
    have := cip_get (u8s S ++ (u8s B ++ u8s M)) [.slice (some ⟨gk, 0, none⟩) R R] M2 1536 (j * 256 + q.toNat) _ (by rw [List.length_append, List.length_append, u8s_len, u8s_len, u8s_len, h.la, h.lb, h.lc]) (hM2.2 j hj q)
    simp only [List.append_assoc] at this
    rw [← Nat.add_assoc] at this
    exact this
  keys := ⟨gk, R, by rw [h.blk.cell, hR]; exact h.last, fun r hr i hi => blk_byte hBk (hW r hr i hi)⟩

set_option maxHeartbeats 2000000 in
set_option maxRecDepth 100000 in
theorem new_4 (w : World) (b o cap : Nat) (key : List UInt8) (hk : key.length = 16) (hcap : 16 ≤ cap) (hr : ∀ i c, key[i]? = some c → w.cell? ⟨b, o + i, none⟩ = some (.int .u8 (c.toNat : Int))) (hb : b < w.heap.size) :
    Calls Tryd.prog 34 #[.slice (some ⟨b, o, none⟩) 16 cap] w fun e w' => ∃ gc, e = .returned (.tuple #[.pointer (some ⟨gc, 0, none⟩), .int .i64 0]) ∧ Rep w' gc key ∧ Below w.heap.size w w' := by
  obtain ⟨W, x, hE, hW⟩ := exp_some 4 44 key (by omega) (by rw [hk]) (by omega)
  have HE := Lib.hid hE
  have HW := Lib.hid hW
  have HRd : Hid (roundsOf key + 1 = 11) := Lib.hid (by unfold roundsOf; rw [hk])
  have HR := Lib.hid hr
  obtain ⟨y0, y1, hz, hC⟩ := zero_some
  have C1 := hC w
  have HZ := Lib.hid hz
  obtain ⟨w1, hw1⟩ : ∃ w1, w.alloc (.cells (cip y0 y0 y1 y1 (.slice none 0 0)).toArray 103) = w1 := ⟨_, rfl⟩
  rw [hw1] at C1
  have HW1 := Lib.hid hw1
  have HC1 := Lib.hid C1
  clear hE hW hr hw1 C1 hk hz hC
  go_enter Tryd.func34, Tryd.ntmps34
  go_wp2_with (refine wpList_alloc_arr rfl 103 _ rfl HZ.out ?_; rw [HW1.out])
  refine (tab_some w1).mono ?_
  rintro e w2 ⟨S, B, rfl, hS, hB, hb2⟩
  have C2 := HC1.out.call hb2
  have C3 := C2.set0 hS.1
  obtain ⟨w3, hw3⟩ : ∃ w3, w2.setRow w.heap.size (cip S y0 y1 y1 (.slice none 0 0)).toArray = w3 := ⟨_, rfl⟩
  rw [hw3] at C3
  have C4 := C3.set1 hB.1
  obtain ⟨w4, hw4⟩ : ∃ w4, w3.setRow w.heap.size (cip S B y1 y1 (.slice none 0 0)).toArray = w4 := ⟨_, rfl⟩
  rw [hw4] at C4
  have HC2 := Lib.hid C2
  have HC3 := Lib.hid C3
  have HC4 := Lib.hid C4
  have HW3 := Lib.hid hw3
  have HW4 := Lib.hid hw4
  have HS := Lib.hid hS
  have HB := Lib.hid hB
  clear C2 C3 C4 hw3 hw4 hS hB hb2
  go_wp2_with (first | (refine wpList_store_seg rfl 103 99 (.tmp 22) (.tmp 20) w.heap.size 0 _ _ rfl rfl rfl rfl HC2.out.blk (size256 _ HS.out.1) (by rw [HC2.out.len, u8s_len, HS.out.1]; omega) (u8s_one _) ?_; rw [HC2.out.s0 HS.out.1, HW3.out]) | (refine wpList_store_seg rfl 103 99 (.tmp 23) (.tmp 21) w.heap.size 256 _ _ rfl rfl rfl rfl HC3.out.blk (size256 _ HB.out.1) (by rw [HC3.out.len, u8s_len, HB.out.1]; omega) (u8s_one _) ?_; rw [HC3.out.s1 HB.out.1, HW4.out]))
  clear HC1 HC2 HC3 HW1 HW3 HW4
  refine (mixed_some w4).mono ?_
  rintro e w5 ⟨M, rfl, hM, hb5⟩
  have C5 := HC4.out.call hb5
  have C6 := C5.set2 hM.1
  obtain ⟨w6, hw6⟩ : ∃ w6, w5.setRow w.heap.size (cip S B M y1 (.slice none 0 0)).toArray = w6 := ⟨_, rfl⟩
  rw [hw6] at C6
  have HC5 := Lib.hid C5
  have HC6 := Lib.hid C6
  have HW6 := Lib.hid hw6
  have HM := Lib.hid hM
  clear C5 C6 hw6 hM hb5 HC4
  go_wp2_with (refine wpList_store_seg rfl 103 100 (.tmp 26) (.tmp 25) w.heap.size 512 _ _ rfl rfl rfl rfl HC5.out.blk (size1024 _ HM.out.1) (by rw [HC5.out.len, u8s_len, HM.out.1]; omega) (u8s_one _) ?_; rw [HC5.out.s2 HM.out.1, HW6.out])
  clear HC5 HW6
  refine (parted_some w6).mono ?_
  rintro e w7 ⟨M2, rfl, hM2, hb7⟩
  have C7 := HC6.out.call hb7
  have C8 := C7.set3 hM2.1
  obtain ⟨w8, hw8⟩ : ∃ w8, w7.setRow w.heap.size (cip S B M M2 (.slice none 0 0)).toArray = w8 := ⟨_, rfl⟩
  rw [hw8] at C8
  have HC7 := Lib.hid C7
  have HC8 := Lib.hid C8
  have HW8 := Lib.hid hw8
  have HM2 := Lib.hid hM2
  clear C7 C8 hw8 hM2 hb7 HC6
  go_wp2_with (refine wpList_store_seg rfl 103 100 (.tmp 29) (.tmp 28) w.heap.size 1536 _ _ rfl rfl rfl rfl HC7.out.blk (size1024 _ HM2.out.1) (by rw [HC7.out.len, u8s_len, HM2.out.1]; omega) (u8s_one _) ?_; rw [HC7.out.s3 HM2.out.1, HW8.out])
  clear HC7 HW8
  refine (expand_4 mulC w8 b o cap w.heap.size 0 key W x HE.out hcap (fun i c hc => cell_stays HC8.out.bel (HR.out i c hc)) (Nat.lt_of_lt_of_le hb HC8.out.bel.size) (HC8.out.tbl0 HS.out) HC8.out.blk.lt).mono ?_
  rintro e w9 ⟨gw, rfl, hgw, hBw, hb9⟩
  have HC9 := Lib.hid (HC8.out.call hb9)
  have HBw := Lib.hid hBw
  clear hBw hb9 hgw HC8
  go_wp2_with fail
  refine (roundKeys_4 w9 gw 44 key W x HE.out HBw.out).mono ?_
  rintro e w10 ⟨gk, rfl, hgk, hBk, hb10⟩
  have C10 := HC9.out.call hb10
  have hcell : w10.cell? ⟨w.heap.size, 2560, none⟩ = some (.slice none 0 0) := by rw [C10.blk.cell]; exact C10.last
  have hf := C10.blk.frozen 2560
  have hne : gk ≠ w.heap.size := by have := HC9.out.blk.lt; omega
  have HC11 := Lib.hid (C10.setK (.slice (some ⟨gk, 0, none⟩) 11 11))
  have HBk := Lib.hid (hBk.far (p := ⟨w.heap.size, 2560, none⟩) hne (.slice (some ⟨gk, 0, none⟩) 11 11))
  clear hBk hb10 hgk C10 hne HC9 HBw
  go_wp2
  go_ret2
  refine ⟨w.heap.size, rfl, ?_, HC11.out.bel⟩
  exact rep_of HC11.out HS.out HB.out HM.out HM2.out HRd.out HW.out HBk.out

set_option maxHeartbeats 2000000 in
set_option maxRecDepth 100000 in
theorem new_6 (w : World) (b o cap : Nat) (key : List UInt8) (hk : key.length = 24) (hcap : 24 ≤ cap) (hr : ∀ i c, key[i]? = some c → w.cell? ⟨b, o + i, none⟩ = some (.int .u8 (c.toNat : Int))) (hb : b < w.heap.size) :
    Calls Tryd.prog 34 #[.slice (some ⟨b, o, none⟩) 24 cap] w fun e w' => ∃ gc, e = .returned (.tuple #[.pointer (some ⟨gc, 0, none⟩), .int .i64 0]) ∧ Rep w' gc key ∧ Below w.heap.size w w' := by
  obtain ⟨W, x, hE, hW⟩ := exp_some 6 52 key (by omega) (by rw [hk]) (by omega)
  have HE := Lib.hid hE
  have HW := Lib.hid hW
  have HRd : Hid (roundsOf key + 1 = 13) := Lib.hid (by unfold roundsOf; rw [hk])
  have HR := Lib.hid hr
  obtain ⟨y0, y1, hz, hC⟩ := zero_some
  have C1 := hC w
  have HZ := Lib.hid hz
  obtain ⟨w1, hw1⟩ : ∃ w1, w.alloc (.cells (cip y0 y0 y1 y1 (.slice none 0 0)).toArray 103) = w1 := ⟨_, rfl⟩
  rw [hw1] at C1
  have HW1 := Lib.hid hw1
  have HC1 := Lib.hid C1
  clear hE hW hr hw1 C1 hk hz hC
  go_enter Tryd.func34, Tryd.ntmps34
  go_wp2_with (refine wpList_alloc_arr rfl 103 _ rfl HZ.out ?_; rw [HW1.out])
  refine (tab_some w1).mono ?_
  rintro e w2 ⟨S, B, rfl, hS, hB, hb2⟩
  have C2 := HC1.out.call hb2
  have C3 := C2.set0 hS.1
  obtain ⟨w3, hw3⟩ : ∃ w3, w2.setRow w.heap.size (cip S y0 y1 y1 (.slice none 0 0)).toArray = w3 := ⟨_, rfl⟩
  rw [hw3] at C3
  have C4 := C3.set1 hB.1
  obtain ⟨w4, hw4⟩ : ∃ w4, w3.setRow w.heap.size (cip S B y1 y1 (.slice none 0 0)).toArray = w4 := ⟨_, rfl⟩
  rw [hw4] at C4
  have HC2 := Lib.hid C2
  have HC3 := Lib.hid C3
  have HC4 := Lib.hid C4
  have HW3 := Lib.hid hw3
  have HW4 := Lib.hid hw4
  have HS := Lib.hid hS
  have HB := Lib.hid hB
  clear C2 C3 C4 hw3 hw4 hS hB hb2
  go_wp2_with (first | (refine wpList_store_seg rfl 103 99 (.tmp 22) (.tmp 20) w.heap.size 0 _ _ rfl rfl rfl rfl HC2.out.blk (size256 _ HS.out.1) (by rw [HC2.out.len, u8s_len, HS.out.1]; omega) (u8s_one _) ?_; rw [HC2.out.s0 HS.out.1, HW3.out]) | (refine wpList_store_seg rfl 103 99 (.tmp 23) (.tmp 21) w.heap.size 256 _ _ rfl rfl rfl rfl HC3.out.blk (size256 _ HB.out.1) (by rw [HC3.out.len, u8s_len, HB.out.1]; omega) (u8s_one _) ?_; rw [HC3.out.s1 HB.out.1, HW4.out]))
  clear HC1 HC2 HC3 HW1 HW3 HW4
  refine (mixed_some w4).mono ?_
  rintro e w5 ⟨M, rfl, hM, hb5⟩
  have C5 := HC4.out.call hb5
  have C6 := C5.set2 hM.1
  obtain ⟨w6, hw6⟩ : ∃ w6, w5.setRow w.heap.size (cip S B M y1 (.slice none 0 0)).toArray = w6 := ⟨_, rfl⟩
  rw [hw6] at C6
  have HC5 := Lib.hid C5
  have HC6 := Lib.hid C6
  have HW6 := Lib.hid hw6
  have HM := Lib.hid hM
  clear C5 C6 hw6 hM hb5 HC4
  go_wp2_with (refine wpList_store_seg rfl 103 100 (.tmp 26) (.tmp 25) w.heap.size 512 _ _ rfl rfl rfl rfl HC5.out.blk (size1024 _ HM.out.1) (by rw [HC5.out.len, u8s_len, HM.out.1]; omega) (u8s_one _) ?_; rw [HC5.out.s2 HM.out.1, HW6.out])
  clear HC5 HW6
  refine (parted_some w6).mono ?_
  rintro e w7 ⟨M2, rfl, hM2, hb7⟩
  have C7 := HC6.out.call hb7
  have C8 := C7.set3 hM2.1
  obtain ⟨w8, hw8⟩ : ∃ w8, w7.setRow w.heap.size (cip S B M M2 (.slice none 0 0)).toArray = w8 := ⟨_, rfl⟩
  rw [hw8] at C8
  have HC7 := Lib.hid C7
  have HC8 := Lib.hid C8
  have HW8 := Lib.hid hw8
  have HM2 := Lib.hid hM2
  clear C7 C8 hw8 hM2 hb7 HC6
  go_wp2_with (refine wpList_store_seg rfl 103 100 (.tmp 29) (.tmp 28) w.heap.size 1536 _ _ rfl rfl rfl rfl HC7.out.blk (size1024 _ HM2.out.1) (by rw [HC7.out.len, u8s_len, HM2.out.1]; omega) (u8s_one _) ?_; rw [HC7.out.s3 HM2.out.1, HW8.out])
  clear HC7 HW8
  refine (expand_6 mulC w8 b o cap w.heap.size 0 key W x HE.out hcap (fun i c hc => cell_stays HC8.out.bel (HR.out i c hc)) (Nat.lt_of_lt_of_le hb HC8.out.bel.size) (HC8.out.tbl0 HS.out) HC8.out.blk.lt).mono ?_
  rintro e w9 ⟨gw, rfl, hgw, hBw, hb9⟩
  have HC9 := Lib.hid (HC8.out.call hb9)
  have HBw := Lib.hid hBw
  clear hBw hb9 hgw HC8
  go_wp2_with fail
  refine (roundKeys_6 w9 gw 52 key W x HE.out HBw.out).mono ?_
  rintro e w10 ⟨gk, rfl, hgk, hBk, hb10⟩
  have C10 := HC9.out.call hb10
  have hcell : w10.cell? ⟨w.heap.size, 2560, none⟩ = some (.slice none 0 0) := by rw [C10.blk.cell]; exact C10.last
  have hf := C10.blk.frozen 2560
  have hne : gk ≠ w.heap.size := by have := HC9.out.blk.lt; omega
  have HC11 := Lib.hid (C10.setK (.slice (some ⟨gk, 0, none⟩) 13 13))
  have HBk := Lib.hid (hBk.far (p := ⟨w.heap.size, 2560, none⟩) hne (.slice (some ⟨gk, 0, none⟩) 13 13))
  clear hBk hb10 hgk C10 hne HC9 HBw
  go_wp2
  go_ret2
  refine ⟨w.heap.size, rfl, ?_, HC11.out.bel⟩
  exact rep_of HC11.out HS.out HB.out HM.out HM2.out HRd.out HW.out HBk.out

set_option maxHeartbeats 2000000 in
set_option maxRecDepth 100000 in
theorem new_8 (w : World) (b o cap : Nat) (key : List UInt8) (hk : key.length = 32) (hcap : 32 ≤ cap) (hr : ∀ i c, key[i]? = some c → w.cell? ⟨b, o + i, none⟩ = some (.int .u8 (c.toNat : Int))) (hb : b < w.heap.size) :
    Calls Tryd.prog 34 #[.slice (some ⟨b, o, none⟩) 32 cap] w fun e w' => ∃ gc, e = .returned (.tuple #[.pointer (some ⟨gc, 0, none⟩), .int .i64 0]) ∧ Rep w' gc key ∧ Below w.heap.size w w' := by
  obtain ⟨W, x, hE, hW⟩ := exp_some 8 60 key (by omega) (by rw [hk]) (by omega)
  have HE := Lib.hid hE
  have HW := Lib.hid hW
  have HRd : Hid (roundsOf key + 1 = 15) := Lib.hid (by unfold roundsOf; rw [hk])
  have HR := Lib.hid hr
  obtain ⟨y0, y1, hz, hC⟩ := zero_some
  have C1 := hC w
  have HZ := Lib.hid hz
  obtain ⟨w1, hw1⟩ : ∃ w1, w.alloc (.cells (cip y0 y0 y1 y1 (.slice none 0 0)).toArray 103) = w1 := ⟨_, rfl⟩
  rw [hw1] at C1
  have HW1 := Lib.hid hw1
  have HC1 := Lib.hid C1
  clear hE hW hr hw1 C1 hk hz hC
  go_enter Tryd.func34, Tryd.ntmps34
  go_wp2_with (refine wpList_alloc_arr rfl 103 _ rfl HZ.out ?_; rw [HW1.out])
  refine (tab_some w1).mono ?_
  rintro e w2 ⟨S, B, rfl, hS, hB, hb2⟩
  have C2 := HC1.out.call hb2
  have C3 := C2.set0 hS.1
  obtain ⟨w3, hw3⟩ : ∃ w3, w2.setRow w.heap.size (cip S y0 y1 y1 (.slice none 0 0)).toArray = w3 := ⟨_, rfl⟩
  rw [hw3] at C3
  have C4 := C3.set1 hB.1
  obtain ⟨w4, hw4⟩ : ∃ w4, w3.setRow w.heap.size (cip S B y1 y1 (.slice none 0 0)).toArray = w4 := ⟨_, rfl⟩
  rw [hw4] at C4
  have HC2 := Lib.hid C2
  have HC3 := Lib.hid C3
  have HC4 := Lib.hid C4
  have HW3 := Lib.hid hw3
  have HW4 := Lib.hid hw4
  have HS := Lib.hid hS
  have HB := Lib.hid hB
  clear C2 C3 C4 hw3 hw4 hS hB hb2
  go_wp2_with (first | (refine wpList_store_seg rfl 103 99 (.tmp 22) (.tmp 20) w.heap.size 0 _ _ rfl rfl rfl rfl HC2.out.blk (size256 _ HS.out.1) (by rw [HC2.out.len, u8s_len, HS.out.1]; omega) (u8s_one _) ?_; rw [HC2.out.s0 HS.out.1, HW3.out]) | (refine wpList_store_seg rfl 103 99 (.tmp 23) (.tmp 21) w.heap.size 256 _ _ rfl rfl rfl rfl HC3.out.blk (size256 _ HB.out.1) (by rw [HC3.out.len, u8s_len, HB.out.1]; omega) (u8s_one _) ?_; rw [HC3.out.s1 HB.out.1, HW4.out]))
  clear HC1 HC2 HC3 HW1 HW3 HW4
  refine (mixed_some w4).mono ?_
  rintro e w5 ⟨M, rfl, hM, hb5⟩
  have C5 := HC4.out.call hb5
  have C6 := C5.set2 hM.1
  obtain ⟨w6, hw6⟩ : ∃ w6, w5.setRow w.heap.size (cip S B M y1 (.slice none 0 0)).toArray = w6 := ⟨_, rfl⟩
  rw [hw6] at C6
  have HC5 := Lib.hid C5
  have HC6 := Lib.hid C6
  have HW6 := Lib.hid hw6
  have HM := Lib.hid hM
  clear C5 C6 hw6 hM hb5 HC4
  go_wp2_with (refine wpList_store_seg rfl 103 100 (.tmp 26) (.tmp 25) w.heap.size 512 _ _ rfl rfl rfl rfl HC5.out.blk (size1024 _ HM.out.1) (by rw [HC5.out.len, u8s_len, HM.out.1]; omega) (u8s_one _) ?_; rw [HC5.out.s2 HM.out.1, HW6.out])
  clear HC5 HW6
  refine (parted_some w6).mono ?_
  rintro e w7 ⟨M2, rfl, hM2, hb7⟩
  have C7 := HC6.out.call hb7
  have C8 := C7.set3 hM2.1
  obtain ⟨w8, hw8⟩ : ∃ w8, w7.setRow w.heap.size (cip S B M M2 (.slice none 0 0)).toArray = w8 := ⟨_, rfl⟩
  rw [hw8] at C8
  have HC7 := Lib.hid C7
  have HC8 := Lib.hid C8
  have HW8 := Lib.hid hw8
  have HM2 := Lib.hid hM2
  clear C7 C8 hw8 hM2 hb7 HC6
  go_wp2_with (refine wpList_store_seg rfl 103 100 (.tmp 29) (.tmp 28) w.heap.size 1536 _ _ rfl rfl rfl rfl HC7.out.blk (size1024 _ HM2.out.1) (by rw [HC7.out.len, u8s_len, HM2.out.1]; omega) (u8s_one _) ?_; rw [HC7.out.s3 HM2.out.1, HW8.out])
  clear HC7 HW8
  refine (expand_8 mulC w8 b o cap w.heap.size 0 key W x HE.out hcap (fun i c hc => cell_stays HC8.out.bel (HR.out i c hc)) (Nat.lt_of_lt_of_le hb HC8.out.bel.size) (HC8.out.tbl0 HS.out) HC8.out.blk.lt).mono ?_
  rintro e w9 ⟨gw, rfl, hgw, hBw, hb9⟩
  have HC9 := Lib.hid (HC8.out.call hb9)
  have HBw := Lib.hid hBw
  clear hBw hb9 hgw HC8
  go_wp2_with fail
  refine (roundKeys_8 w9 gw 60 key W x HE.out HBw.out).mono ?_
  rintro e w10 ⟨gk, rfl, hgk, hBk, hb10⟩
  have C10 := HC9.out.call hb10
  have hcell : w10.cell? ⟨w.heap.size, 2560, none⟩ = some (.slice none 0 0) := by rw [C10.blk.cell]; exact C10.last
  have hf := C10.blk.frozen 2560
  have hne : gk ≠ w.heap.size := by have := HC9.out.blk.lt; omega
  have HC11 := Lib.hid (C10.setK (.slice (some ⟨gk, 0, none⟩) 15 15))
  have HBk := Lib.hid (hBk.far (p := ⟨w.heap.size, 2560, none⟩) hne (.slice (some ⟨gk, 0, none⟩) 15 15))
  clear hBk hb10 hgk C10 hne HC9 HBw
  go_wp2
  go_ret2
  refine ⟨w.heap.size, rfl, ?_, HC11.out.bel⟩
  exact rep_of HC11.out HS.out HB.out HM.out HM2.out HRd.out HW.out HBk.out

theorem new_no (w : World) (A : Option Addr) (len cap : Nat) (h : ¬ sizeOk len) :
    Calls Tryd.prog 34 #[.slice A len cap] w fun e w' => e = .returned (.tuple #[.pointer none, .int .i64 1]) ∧ Below w.heap.size w w' := by
  unfold sizeOk at h
  have d1 : ((len : Int) != 16) = true := by rw [bne_iff_ne]; omega
  have d2 : ((len : Int) != 24) = true := by rw [bne_iff_ne]; omega
  have d3 : ((len : Int) != 32) = true := by rw [bne_iff_ne]; omega
  clear h
  go_enter Tryd.func34, Tryd.ntmps34
  go_wp2
  go_ret2
  exact ⟨rfl, Below.refl _ w⟩
theorem new_yes (w : World) (A : Option Addr) (key : List UInt8) (len cap : Nat) (hs : sizeOk key.length) (hl : len = key.length) (hcap : key.length ≤ cap) (hr : Rd w w.heap.size A key) :
    Calls Tryd.prog 34 #[.slice A len cap] w fun e w' => ∃ gc, e = .returned (.tuple #[.pointer (some ⟨gc, 0, none⟩), .int .i64 0]) ∧ Rep w' gc key ∧ Below w.heap.size w w' := by
  subst hl
  rcases hr with h0 | ⟨b, o, rfl, hb, hc⟩
  · rw [h0] at hs
    unfold sizeOk at hs
    simp at hs
  · rcases hs with h | h | h
    · rw [h] at hcap ⊢; exact new_4 w b o cap key h hcap hc hb
    · rw [h] at hcap ⊢; exact new_6 w b o cap key h hcap hc hb
    · rw [h] at hcap ⊢; exact new_8 w b o cap key h hcap hc hb
theorem aesOK : AesOK Rep where
  stay := fun h hb => h.stay hb
  new_yes := new_yes
  new_no := new_no
  enc := fun w gc key l hk h hl => by
    obtain ⟨gk, cap, hR⟩ := h.ready
    unfold sizeOk at hk
    exact encrypt_at w gc gk _ cap (roundsOf key) (keysOf key) l hl hR rfl (by unfold roundsOf; omega) (by unfold roundsOf; omega)
  dec := fun w gc key l hk h hl => by
    obtain ⟨gk, cap, hR⟩ := h.ready
    unfold sizeOk at hk
    exact decrypt_at w gc gk _ cap (roundsOf key) (keysOf key) l hl hR rfl (by unfold roundsOf; omega) (by unfold roundsOf; omega)
  enc_nil := fun w l hl => enc_nil w l hl
  dec_nil := fun w l hl => dec_nil w l hl
end Go.Proofs.YtjhkodmaalefiaaDoor
namespace Go.Proofs.YtjhkodmaalefiaaDoor
open Go.RowKit Go.Shelf Go.Gar Go.Gar.Aes
attribute [local go_sem] Oper.semAt_some

/-- What lies behind some blocks: the last one, encrypted, and all of them. -/
def stX (key iv : List UInt8) (pre : List B16) : List UInt8 × List UInt8 := pre.foldl (fun s x => (encrypt key (addK x.1 s.1), s.2 ++ encrypt key (addK x.1 s.1))) (iv, [])
theorem stX_snoc (key iv : List UInt8) (pre : List B16) (x : B16) : stX key iv (pre ++ [x]) = (encrypt key (addK x.1 (stX key iv pre).1), (stX key iv pre).2 ++ encrypt key (addK x.1 (stX key iv pre).1)) := by simp [stX]
theorem flat_blk (xs : List B16) (k : Nat) (hk : k < xs.length) : Cbc.blk (flatC xs) k = xs[k].1 := by
  unfold Cbc.blk
  induction xs generalizing k with
  | nil => simp at hk
  | cons x xs ih =>
    have e : flatC (x :: xs) = x.1 ++ flatC xs := by simp [flatC]
    cases k with
    | zero =>
      rw [e, Nat.mul_zero, List.drop_zero]
      exact List.take_left' x.2
    | succ k =>
      rw [e, show 16 * (k + 1) = x.1.length + 16 * k from by rw [x.2]; omega, List.drop_append, List.drop_eq_nil_of_le (Nat.le_add_right _ _), List.nil_append, Nat.add_sub_cancel_left]
      exact ih k (by simpa using hk)
theorem stX_take (key iv : List UInt8) (xs : List B16) : ∀ k, k ≤ xs.length → stX key iv (xs.take k) = (Cbc.last key iv (flatC xs) k, Cbc.outK key iv (flatC xs) k)
  | 0, _ => rfl
  | k + 1, h => by
    rw [List.take_succ_eq_append_getElem h, stX_snoc, stX_take key iv xs k (by omega), ← flat_blk xs k h]
    rfl
theorem stX_all (key iv : List UInt8) (xs : List B16) : (stX key iv xs).2 = Cbc.outK key iv (flatC xs) ((flatC xs).length / 16) := by
  have := stX_take key iv xs xs.length (Nat.le_refl _)
  rw [List.take_length] at this
  rw [this, flatC_len, Nat.mul_div_cancel_left _ (by omega)]
theorem stX_len1 (key iv : List UInt8) (hiv : iv.length = 16) (pre : List B16) : (stX key iv pre).1.length = 16 := by
  rcases List.eq_nil_or_concat pre with rfl | ⟨q, x, rfl⟩
  · exact hiv
  · rw [List.concat_eq_append, stX_snoc]; exact encrypt_len _ _
theorem stX_len2 (key iv : List UInt8) (pre : List B16) : (stX key iv pre).2.length = 16 * pre.length := by
  have := stX_take key iv pre pre.length (Nat.le_refl _)
  rw [List.take_length] at this
  rw [this]
  exact Cbc.outK_len _ _ _ _

/-- What a round finds: the cipher's variable, the variable of the bytes so far, their row with its room, the block before. -/
structure Lp (w1 : World) (g8 g11 gS g12 gc N : Nat) (q o : List UInt8) (W : World) : Prop where
  c8 : Blk W g8 68 [.pointer (some ⟨gc, 0, none⟩)]
  c11 : Blk W g11 26 [.slice (some ⟨gS, 0, none⟩) o.length N]
  row : ∃ junk, Blk W gS 5 (u8s o ++ junk) ∧ o.length + junk.length = N
  c12 : Blk W g12 25 (u8s q)
  b : Below w1.heap.size w1 W
theorem Lp.grown {w1 W W' : World} {g8 g11 gS g12 gc N B : Nat} {q o : List UInt8} {row : Option Nat} (h : Lp w1 g8 g11 gS g12 gc N q o W) (hg : W.grownBy W' row) (hB : g8 < B ∧ g11 < B ∧ gS < B ∧ g12 < B ∧ w1.heap.size ≤ B) (hr : ∀ r, row = some r → B ≤ r) : Lp w1 g8 g11 gS g12 gc N q o W' := by
  have far : ∀ k, k < B → some k ≠ row := fun k hk e => by have := hr k e.symm; omega
  obtain ⟨junk, h1, h2⟩ := h.row
  exact ⟨h.c8.grown hg (far _ hB.1), h.c11.grown hg (far _ hB.2.1), ⟨junk, h1.grown hg (far _ hB.2.2.1), h2⟩, h.c12.grown hg (far _ hB.2.2.2.1), h.b.grown hg h.b.size (fun k e => by have := hr k e; omega)⟩
theorem Lp.below {w1 W W' : World} {g8 g11 gS g12 gc N : Nat} {q o : List UInt8} (h : Lp w1 g8 g11 gS g12 gc N q o W) (hb : Below W.heap.size W W') : Lp w1 g8 g11 gS g12 gc N q o W' := by
  obtain ⟨junk, h1, h2⟩ := h.row
  exact ⟨h.c8.below hb h.c8.lt, h.c11.below hb h.c11.lt, ⟨junk, h1.below hb h1.lt, h2⟩, h.c12.below hb h.c12.lt, h.b.trans (hb.mono h.b.size)⟩
theorem Lp.prev {w1 W : World} {g8 g11 gS g12 gc N : Nat} {q o : List UInt8} (h : Lp w1 g8 g11 gS g12 gc N q o W) (q' : List UInt8) (hd : g8 ≠ g12 ∧ g11 ≠ g12 ∧ gS ≠ g12 ∧ w1.heap.size ≤ g12) : Lp w1 g8 g11 gS g12 gc N q' o (W.setRow g12 (u8s q').toArray) := by
  obtain ⟨junk, h1, h2⟩ := h.row
  exact ⟨h.c8.rowFar hd.1 _, h.c11.rowFar hd.2.1 _, ⟨junk, h1.rowFar hd.2.2.1 _, h2⟩, h.c12.row _, below_setRow h.b hd.2.2.2 _⟩
/-- 16 bytes appended: where they lie, there is room. -/
theorem Lp.app {w1 W : World} {g8 g11 gS g12 gc N : Nat} {q o : List UInt8} (h : Lp w1 g8 g11 gS g12 gc N q o W) {gq : Nat} {t : TypeId} {z : List UInt8} (hz : Blk W gq t (u8s z)) (hz16 : z.length = 16) (hroom : o.length + 16 ≤ N) (hd : g8 ≠ gS ∧ g11 ≠ gS ∧ g12 ≠ gS ∧ w1.heap.size ≤ gS ∧ g8 ≠ g11 ∧ g12 ≠ g11 ∧ w1.heap.size ≤ g11) :
    ∃ W', (Builtin.append_ #[26, 26] 26 #[.slice (some ⟨gS, 0, none⟩) o.length N, .slice (some ⟨gq, 0, none⟩) 16 16]).run Tryd.prog W = .ok (.slice (some ⟨gS, 0, none⟩) (o.length + 16) N) W' ∧ W.grownBy W' (some gS) ∧ Blk W' g11 26 [.slice (some ⟨gS, 0, none⟩) o.length N] ∧
      Lp w1 g8 g11 gS g12 gc N q (o ++ z) (W'.setCell ⟨g11, 0, none⟩ (.slice (some ⟨gS, 0, none⟩) (o.length + 16) N)) := by
  obtain ⟨junk, h1, h2⟩ := h.row
  have hol : (u8s o).length = o.length := u8s_len o
  have hr := run_append_rd (P := Tryd.prog) (w := W) 26 26 5 Tryd.und22 Tryd.size5 gS o.length N 16 (some ⟨gq, 0, none⟩) z _ (Rd.of_all hz) rfl _ h1 (by omega) (by rw [List.length_append, hol]; omega)
  have hE : (u8s o ++ junk).take o.length ++ u8s z ++ (u8s o ++ junk).drop (o.length + z.length) = u8s (o ++ z) ++ junk.drop 16 := by
    rw [List.take_left' hol, List.drop_append, hol, List.drop_eq_nil_of_le (by omega), List.nil_append, Nat.add_sub_cancel_left, hz16, u8s_app]
  rw [hE, hz16] at hr
  have hg : W.grownBy (W.setRow gS (u8s (o ++ z) ++ junk.drop 16).toArray) (some gS) := grown_row
  refine ⟨_, hr, hg, h.c11.rowFar hd.2.1 _, ?_, ?_, ⟨junk.drop 16, ?_, ?_⟩, ?_, ?_⟩
  · exact (h.c8.rowFar hd.1 _).far hd.2.2.2.2.1 _
  · have := (h.c11.rowFar hd.2.1 (u8s (o ++ z) ++ junk.drop 16).toArray).set_ 0 (.slice (some ⟨gS, 0, none⟩) (o.length + 16) N)
    rw [List.length_append, hz16]
    exact this
  · exact (h1.row _).far (fun e => hd.2.1 e.symm) _
  · rw [List.length_append, hz16, List.length_drop]; omega
  · exact (h.c12.rowFar hd.2.2.1 _).far hd.2.2.2.2.2.1 _
  · exact (below_setRow h.b hd.2.2.2.1 _).setCell hd.2.2.2.2.2.2 _
theorem keeps_cells {W W' : World} {g : Nat} {t : TypeId} {cs : List Value} (hg : W.grownBy W' (some g)) (hB : Blk W g t cs) : KeepsOthers W W' :=
  KeepsOthers.of_grownBy hg fun j o e ho => by
    have e1 := Option.some.inj e
    subst e1
    rw [show W.heap[g]? = _ from hB] at ho
    cases ho
    rfl

set_option maxRecDepth 100000 in
set_option maxHeartbeats 2000000 in
theorem seal_no (w : World) (K A : Option Addr) (kl kc bl bc : Nat) (x : Array Value) (hno : ¬ sizeOk kl) :
    Calls Tryd.prog 18 #[.slice K kl kc, .agg x, .slice A bl bc] w fun e w' => e = .returned (.tuple #[.slice none 0 0, .int .i64 1]) ∧ Below w.heap.size w w' := by
  have hb0 := below_alloc w (.cells x 25)
  obtain ⟨w0, hw0⟩ : ∃ w0, w.alloc (.cells x 25) = w0 := ⟨_, rfl⟩
  rw [hw0] at hb0
  have HW0 := Lib.hid hw0
  have Hb0 := Lib.hid hb0
  clear hw0 hb0
  go_enter Tryd.func18, Tryd.ntmps18
  go_wp2_with (refine wpList_box_arr rfl 25 (.tmp 1) x rfl rfl ?_; rw [HW0.out])
  refine (aesOK.new_no w0 K kl kc hno).mono ?_
  rintro e w1 ⟨rfl, hb1⟩
  have Hb1 := bb Hb0 hb1
  clear hb1
  go_wp2
  go_ret2
  exact ⟨rfl, Hb1.out.alloc Hb1.out.size _⟩

end Go.Proofs.YtjhkodmaalefiaaDoor
