/-
  The landed sha: ending, slices.Clone of a list of parts, message: contracts.
-/
import Derived.Test.YtpaagjhohfjopaaDoorOctI
import Derived.Test.YtpaagjhohfjopaaDoorRow
import Derived.Test.YtpaagjhohfjopaaDoorParts
import Derived.Test.YtpaagjhohfjopaaDoorShaM
import Derived.Test.YtpaagjhohfjopaaDoorShaC
set_option maxRecDepth 100000
namespace Go.Proofs.YtpaagjhohfjopaaDoor
open Go.RowKit Go.Gar

theorem be_be8 (n : Nat) : be n 8 = Sha.be8K n 8 := by
  simp [be, Sha.be8K, List.range_succ]
/-- What follows parts of n bytes. -/
def endB (n : Nat) : List UInt8 := (128 :: List.replicate ((119 - n % 64) % 64) 0) ++ be (8 * n) 8
theorem endB_msg (l : List UInt8) : l ++ endB l.length = Sha.msg l := by
  simp [endB, be_be8, Sha.msg, Sha.msgK, Sha.zeros]
theorem endB_len (n : Nat) : (endB n).length = 1 + (119 - n % 64) % 64 + 8 := by simp [endB, be_len]; omega

theorem int_at (A : Option Addr) (l : List UInt8) (len c : Nat) (n : Int) (w : World) (hlen : len = l.length) (hr : Rd w w.heap.size A l) (hsz : l.length ≤ 1000000000) :
    Calls Tryd.prog 21 #[.slice A len c, .int .i64 n] w fun e w' =>
      e = .returned (.slice (some ⟨w.heap.size, 0, none⟩) (len + 8) (len + 8)) ∧ Blk w' w.heap.size 5 (u8s (l ++ be (b64 n) 8)) ∧ Below w.heap.size w w' := by
  subst hlen
  exact int_any A l c n w hr hsz
set_option maxHeartbeats 1000000 in
set_option maxRecDepth 100000 in
theorem ending_any (n : Nat) (w : World) (hn : n ≤ 1048576) :
    Calls Tryd.prog 39 #[.int .i64 (n : Int)] w fun e w' => ∃ ge, e = .returned (.slice (some ⟨ge, 0, none⟩) (endB n).length (endB n).length) ∧ w.heap.size ≤ ge ∧ Blk w' ge 5 (u8s (endB n)) ∧ Below w.heap.size w w' := by
  obtain ⟨z, hz⟩ : ∃ z, (119 - n % 64) % 64 = z := ⟨_, rfl⟩
  have hzl : z < 64 := by omega
  have hmk := run_make_bytes (1 + z) (1 + z) (by omega) (by omega) w
  rw [show ((1 + z : Nat) : Int) = 1 + (z : Int) from by omega] at hmk
  have hB := Blk.new w 5 (u8s (List.replicate (1 + z) 0))
  have hc0 : (w.alloc (.cells (u8s (List.replicate (1 + z) 0)).toArray 5)).cell? ⟨w.heap.size, 0, none⟩ = some (.int .u8 0) := by
    rw [hB.cell, Nat.add_comm, List.replicate_succ]; rfl
  have hf0 := hB.frozen 0
  have hS := hB.set_ 0 (.int .u8 128)
  have e1 : (u8s (List.replicate (1 + z) 0)).set 0 (.int .u8 128) = u8s (128 :: List.replicate z 0) := by
    rw [Nat.add_comm, List.replicate_succ]; rfl
  rw [e1] at hS
  have hb := (below_alloc w (.cells (u8s (List.replicate (1 + z) 0)).toArray 5)).setCell (p := ⟨w.heap.size, 0, none⟩) (Nat.le_refl _) (.int .u8 128)
  have HE : Hid (endB n = (128 :: List.replicate z 0) ++ be (b64 (8 * (n : Int))) 8) := Lib.hid (by
    rw [endB, hz, show b64 (8 * (n : Int)) = 8 * n from by unfold b64; omega])
  have HB := Lib.hid hS
  have Hb := Lib.hid hb
  have hd : ((119 : Int) - (n : Int) % 64) % 64 = (z : Int) := by omega
  have hl1 : (128 :: List.replicate z 0 : List UInt8).length = 1 + z := by simp; omega
  have HL := Lib.hid hl1
  clear hS hb e1 hB hz hl1
  generalize hw1 : w.alloc (.cells (u8s (List.replicate (1 + z) 0)).toArray 5) = w1 at *
  have Hw1 := Lib.hid hw1
  clear hw1
  go_enter Tryd.func39, Tryd.ntmps39
  go_wp2_with fail
  refine (int_at (some ⟨w.heap.size, 0, none⟩) (128 :: List.replicate z 0) (1 + z) _ (8 * (n : Int)) _ HL.out.symm (Rd.of_all HB.out) (by rw [HL.out]; omega)).mono ?_
  rintro e w2 ⟨rfl, hB2, hb2⟩
  have e1 : (w1.setCell ⟨w.heap.size, 0, none⟩ (.int .u8 128)).heap.size = w1.heap.size := by simp [World.setCell]
  rw [← HE.out, e1] at hB2
  have HB2 := Lib.hid hB2
  have Hb2 := Lib.hid (Hb.out.trans (hb2.mono Hb.out.size))
  have HG : Hid (w.heap.size ≤ w1.heap.size) := Lib.hid (by rw [← e1]; exact Hb.out.size)
  clear hB2 hb2 e1
  go_wp2
  go_ret
  exact ⟨w1.heap.size, by rw [show (endB n).length = 1 + z + 8 from by rw [HE.out, List.length_append, HL.out, be_len]]; rfl, HG.out, HB2.out, Hb2.out⟩

theorem Tryd.undPs : Tryd.prog.underlying 54 = some (.slice 22) := by kernel_rfl
theorem Tryd.infoPs : (Tryd.prog.info? 22).map (fun i => (i.zero, i.size, i.bytes)) = some (some (.slice none 0 0), 1, 24) := by kernel_rfl
theorem parts_one (ps : List Part) : ∀ u ∈ ps.map partV, u.oneCell' = true := by
  intro u hu
  obtain ⟨p, _, rfl⟩ := List.mem_map.1 hu
  rfl
set_option maxHeartbeats 1000000 in
set_option maxRecDepth 100000 in
theorem clone_any (w : World) (A : Option Addr) (ps : List Part) (len cap : Nat) (hl : len = ps.length) (hC : Cells w w.heap.size A (ps.map partV)) (hn : ps.length ≤ 1000000) :
    Calls Tryd.prog 38 #[.slice A len cap] w fun e w' => ∃ v, e = .returned v ∧ OwnV w' w.heap.size 22 v (ps.map partV) ∧ Below w.heap.size w w' := by
  have HL := Lib.hid hl
  have HC := Lib.hid hC
  clear hl hC
  cases A with
  | none =>
    have hp : ps = [] := by
      rcases HC.out with h | ⟨b, o, h, _⟩
      · simpa using h
      · cases h
    subst hp
    have he : ∀ w : World, (binOp .eql 54 (.slice none len cap) (.slice none 0 0)).run Tryd.prog w = .ok (.bool true) w := fun _ => by kernel_rfl
    go_enter Tryd.func38, Tryd.ntmps38
    go_wp2
    go_ret
    exact ⟨_, rfl, World.ownsRow_nil w w.heap.size _ 1, Below.refl _ _⟩
  | some a =>
    have hO := ownV_made w w.heap.size 22 (Nat.le_refl _)
    have hx : ∀ j u, (ps.map partV)[j]? = some u → (w.alloc (.cells #[] 22)).cell? (a.add j) = some u := by
      intro j u hu
      rcases HC.out with h | ⟨b, o, h, hb, hc⟩
      · rw [h] at hu; simp at hu
      · injection h with h
        subst h
        have : (⟨b, o, none⟩ : Addr).add j = ⟨b, o + j, none⟩ := Addr.add_lit _ _ _
        rw [this, (below_alloc w _).cell (p := ⟨b, o + j, none⟩) hb]
        exact hc j u hu
    obtain ⟨v1, w1, a1, a2, a3, _⟩ := appV (P := Tryd.prog) 54 54 Tryd.undPs Tryd.infoPs rfl hO (by rw [World.size_alloc]; omega) a cap len (ps.map partV) (parts_one ps) (by rw [HL.out, List.length_map]) hx (by simp; omega) (by omega)
    have HO := Lib.hid a2
    have Hb := Lib.hid ((below_alloc w (.cells #[] 22)).trans a3)
    clear a2 a3 hO hx
    have he : ∀ w : World, (binOp .eql 54 (.slice (some a) len cap) (.slice none 0 0)).run Tryd.prog w = .ok (.bool false) w := fun _ => by kernel_rfl
    go_enter Tryd.func38, Tryd.ntmps38
    go_wp2_with (at_builtin; refine wpList_append_run rfl (.tmp 5) (.tmp 6) _ rfl rfl rfl a1 ?_)
    go_ret
    exact ⟨_, rfl, by simpa using HO.out, Hb.out⟩

/-- The bytes of the first k parts. -/
def some_ (ps : List Part) (k : Nat) : Nat := (cat (ps.take k)).length
theorem some_succ (ps : List Part) (k : Nat) (p : Part) (h : ps[k]? = some p) : some_ ps (k + 1) = some_ ps k + p.2.1.length := by
  have hk : k < ps.length := (List.getElem?_eq_some_iff.1 h).1
  have e : ps[k] = p := by rw [List.getElem?_eq_getElem hk] at h; injection h
  unfold some_
  rw [List.take_succ_eq_append_getElem hk, e]
  simp [cat]
theorem some_le (ps : List Part) (k : Nat) : some_ ps k ≤ (cat ps).length := by
  have e : (cat ps).length = (cat (ps.take k)).length + (cat (ps.drop k)).length := by
    rw [← List.length_append]
    unfold cat
    rw [← List.flatMap_append, List.take_append_drop]
  rw [e]
  exact Nat.le_add_right _ _
theorem some_end (ps : List Part) (k : Nat) (h : ps.length ≤ k) : some_ ps k = (cat ps).length := by rw [some_, List.take_of_length_le h]

/-- A part that reads as its bytes, in a block other than n and below B. -/
def RdN (w : World) (B n : Nat) (p : Part) : Prop := p.2.1 = [] ∨ ∃ b o, p.1 = some ⟨b, o, none⟩ ∧ b ≠ n ∧ b < B ∧ ∀ i c, p.2.1[i]? = some c → w.cell? ⟨b, o + i, none⟩ = some (.int .u8 (c.toNat : Int))
theorem RdN.of_rd {w : World} {B n : Nat} {p : Part} (h : Rd w B p.1 p.2.1) (hB : B ≤ n) : RdN w B n p := by
  rcases h with h | ⟨b, o, e, hb, hc⟩
  · exact .inl h
  · exact .inr ⟨b, o, e, by omega, hb, hc⟩
theorem RdN.more {w : World} {B B' n : Nat} {p : Part} (h : RdN w B n p) (hB : B ≤ B') : RdN w B' n p := by
  rcases h with h | ⟨b, o, e, hn, hb, hc⟩
  · exact .inl h
  · exact .inr ⟨b, o, e, hn, by omega, hc⟩
theorem RdN.below {w w' : World} {B n : Nat} {p : Part} (h : RdN w B n p) (hb : Below B w w') : RdN w' B n p := by
  rcases h with h | ⟨b, o, e, hn, hlt, hc⟩
  · exact .inl h
  · exact .inr ⟨b, o, e, hn, hlt, fun i c hi => (World.cell?_of_block (hb.block b hlt)).trans (hc i c hi)⟩

set_option maxHeartbeats 1000000 in
set_option maxRecDepth 100000 in
theorem messageL_any (w : World) (A : Option Addr) (ps : List Part) (cap gs : Nat) (hC : Cells w w.heap.size A (ps.map partV)) (hR : ∀ p ∈ ps, RdN w w.heap.size gs p) (hcp : ∀ p ∈ ps, p.2.1.length ≤ p.2.2) (hgs : gs < w.heap.size) (hl : (cat ps).length ≤ 1048576) (hn : ps.length ≤ 1000) :
    Calls Tryd.prog 31 #[.slice A ps.length cap] w fun e w' => ∃ v qs, e = .returned v ∧ OwnV w' w.heap.size 22 v (qs.map partV) ∧ (∀ p ∈ qs, RdN w' w'.heap.size gs p ∧ p.2.1.length ≤ p.2.2) ∧ cat qs = Sha.msg (cat ps) ∧ qs.length ≤ 1001 ∧ 0 < qs.length ∧ Below w.heap.size w w' := by
  have HC := Lib.hid hC
  have HR := Lib.hid hR
  have HL := Lib.hid hl
  have HCP := Lib.hid hcp
  clear hC hR hl hcp
  obtain ⟨np, hnp⟩ : ∃ np, ps.length = np := ⟨_, rfl⟩
  rw [hnp] at hn ⊢
  have HN := Lib.hid hnp
  clear hnp
  go_enter Tryd.func31, Tryd.ntmps31
  go_wp2
  go_loopw [3, 8] (fun s i w' => ∃ k : Nat, k ≤ np ∧ i = .int .i64 (k : Int) ∧ s = .int .i64 ((some_ ps k : Nat) : Int) ∧ w' = w) (fun _ i _ => np - (intOf i).toNat)
  case atStart => exact ⟨0, by omega, rfl, rfl, rfl⟩
  case round =>
    obtain ⟨k, hk, rfl, rfl, rfl⟩ := hrel
    by_cases hlt : k < np
    · have hkp : k < ps.length := by rw [HN.out]; exact hlt
      obtain ⟨b, o, rfl, hb, hc⟩ := HC.out.at_ (i := k) (by simpa using hkp)
      have hss := some_succ ps k ps[k] (List.getElem?_eq_getElem hkp)
      have hsl := some_le ps (k + 1)
      have hL := HL.out
      have hpl : ps[k].2.1.length ≤ 1048576 := by omega
      rw [List.getElem_map] at hc
      generalize hp : ps[k] = p at hc hss hpl
      obtain ⟨Ap, lp, cp⟩ := p
      simp only [partV] at hc hss hpl
      generalize lp.length = q at *
      have hs1 : some_ ps k ≤ 1048576 := by omega
      have HS := Lib.hid hss
      clear hsl hL hss hp hb
      generalize some_ ps k = sk at *
      go_wp2
      exact ⟨⟨k + 1, by omega, by go_num, by rw [HS.out]; go_num, trivial⟩, by simp [intOf]; omega⟩
    · have hse := some_end ps k (by rw [HN.out]; omega)
      rw [hse]
      obtain ⟨n, hnn⟩ : ∃ n, (cat ps).length = n := ⟨_, rfl⟩
      rw [hnn]
      have HNN := Lib.hid hnn
      clear hse hnn
      have hn20 : n ≤ 1048576 := by have := HL.out; rw [HNN.out] at this; exact this
      go_wp2_with fail
      refine (clone_any wr A ps np cap HN.out.symm HC.out (by rw [HN.out]; omega)).mono ?_
      rintro e w1 ⟨v1, rfl, hO1, hb1⟩
      have HO1 := Lib.hid hO1
      have Hb1 := Lib.hid hb1
      clear hO1 hb1
      go_wp2_with fail
      refine (ending_any n w1 hn20).mono ?_
      rintro e w2 ⟨ge, rfl, hge, hBe, hb2⟩
      obtain ⟨v3, w3, a1, a2, a3, _, a5⟩ := appV_one (P := Tryd.prog) 54 54 Tryd.undPs Tryd.infoPs rfl (HO1.out.below hb2) (Nat.le_trans Hb1.out.size hb2.size) (.slice (some ⟨ge, 0, none⟩) (endB n).length (endB n).length) rfl (by rw [List.length_map, HN.out]; omega) (by omega)
      have hgeb := hBe.lt
      have hBe3 : Blk w3 ge 5 (u8s (endB n)) := by
        refine (hBe.alloc _).grown a5 (fun h => ?_)
        obtain ⟨A1, c1, hv1, _⟩ := HO1.out.slice
        have h2 := (HO1.out.lt h.symm).2
        omega
      have HB3 := Lib.hid (show Below wr.heap.size wr w3 from Hb1.out.trans ((hb2.mono Hb1.out.size).trans a3))
      have HO3 : Hid (OwnV w3 wr.heap.size 22 v3 ((ps ++ [((some ⟨ge, 0, none⟩, endB n, (endB n).length) : Part)]).map partV)) := Lib.hid (by
        rw [List.map_append]
        exact a2)
      have HE3 := Lib.hid hBe3
      have HGE : Hid (wr.heap.size ≤ ge) := Lib.hid (Nat.le_trans Hb1.out.size hge)
      clear hge hBe hb2 a2 a3 a5 hgeb hBe3 HO1
      go_wp2_with (at_builtin; refine wpList_append_run rfl (.tmp 18) (.tmp 21) _ rfl rfl rfl a1 ?_)
      go_ret
      refine ⟨_, _, rfl, HO3.out, ?_, ?_, ?_, by simp, HB3.out⟩
      · intro p hp
        rcases List.mem_append.1 hp with h | h
        · exact ⟨((HR.out p h).below HB3.out).more HB3.out.size, HCP.out p h⟩
        · simp at h
          subst h
          refine ⟨.inr ⟨ge, 0, rfl, by have := HGE.out; omega, HE3.out.lt, fun i c hi => ?_⟩, Nat.le_refl _⟩
          simp only at hi
          rw [Nat.zero_add, HE3.out.cell, u8s_get, hi]
          rfl
      · rw [← endB_msg, HNN.out]
        simp [cat]
      · rw [List.length_append, HN.out]
        simp
        omega
end Go.Proofs.YtpaagjhohfjopaaDoor
