/-
  The landed sha: ending, slices.Clone of a list of parts, message: contracts. The landed sha: right (over bits.RotateLeft32), squareRoots, joined: contracts.
-/
import Derived.Test.YtdipflchmooakaaGreatDoorWholeJ07
import Derived.Test.YtdipflchmooakaaGreatDoorWholeJ02
import Derived.Test.YtdipflchmooakaaGreatDoorWholeJ06
import Derived.Test.YtdipflchmooakaaGreatDoorWholeJ01
import Derived.Test.YtdipflchmooakaaGreatDoorWholeJ09
set_option maxRecDepth 100000
namespace Go.Proofs.YtdipflchmooakaaGreatDoor
open Go.RowKit Go.Gar

theorem be_be8 (n : Nat) : be n 8 = Sha.be8K n 8 := by
  simp [be, Sha.be8K, List.range_succ]
/-- What follows parts of n bytes. -/
def endB (n : Nat) : List UInt8 := (128 :: List.replicate ((119 - n % 64) % 64) 0) ++ be (8 * n) 8
theorem endB_msg (l : List UInt8) : l ++ endB l.length = Sha.msg l := by
  simp [endB, be_be8, Sha.msg, Sha.msgK, Sha.zeros]
theorem endB_len (n : Nat) : (endB n).length = 1 + (119 - n % 64) % 64 + 8 := by simp [endB, be_len]; omega

theorem int_at (A : Option Addr) (l : List UInt8) (len c : Nat) (n : Int) (w : World) (hlen : len = l.length) (hr : Rd w w.heap.size A l) (hsz : l.length ≤ 1000000000) :
    Calls Tryz.prog 39 #[.slice A len c, .int .i64 n] w fun e w' =>
      e = .returned (.slice (some ⟨w.heap.size, 0, none⟩) (len + 8) (len + 8)) ∧ Blk w' w.heap.size 5 (u8s (l ++ be (b64 n) 8)) ∧ Below w.heap.size w w' := by
  subst hlen
  exact int_any A l c n w hr hsz
set_option maxHeartbeats 1000000 in
set_option maxRecDepth 100000 in
theorem ending_any (n : Nat) (w : World) (hn : n ≤ 1048576) :
    Calls Tryz.prog 92 #[.int .i64 (n : Int)] w fun e w' => ∃ ge, e = .returned (.slice (some ⟨ge, 0, none⟩) (endB n).length (endB n).length) ∧ w.heap.size ≤ ge ∧ Blk w' ge 5 (u8s (endB n)) ∧ Below w.heap.size w w' := by
  obtain ⟨z, hz⟩ : ∃ z, (119 - n % 64) % 64 = z := ⟨_, rfl⟩
  have hzl : z < 64 := by omega
  have hmk := run_make_bytes (1 + z) (1 + z) (by omega) (by omega) w
  rw [show ((1 + z : Nat) : Int) = 1 + (z : Int) from by omega] at hmk
  have hB := Blk.new w 5 (u8s (List.replicate (1 + z) 0))
  have hc0 : (w.alloc (.cells (u8s (List.replicate (1 + z) 0)).toArray 5)).cell? ⟨w.heap.size, 0, none⟩ = some (.int .u8 0) := by
    rw [hB.cell, Nat.add_comm, List.replicate_succ]; rfl
  have hf0 := hB.frozen 0
  have hS := hB.set_ 0 (.int .u8 128)
  have e1 : (u8s (List.replicate (1 + z) 0)).set 0 (.int .u8 128) = u8s (128 :: List.replicate z 0) := by
    rw [Nat.add_comm, List.replicate_succ]; rfl
  rw [e1] at hS
  have hb := (below_alloc w (.cells (u8s (List.replicate (1 + z) 0)).toArray 5)).setCell (p := ⟨w.heap.size, 0, none⟩) (Nat.le_refl _) (.int .u8 128)
  have HE : Hid (endB n = (128 :: List.replicate z 0) ++ be (b64 (8 * (n : Int))) 8) := Lib.hid (by
    rw [endB, hz, show b64 (8 * (n : Int)) = 8 * n from by unfold b64; omega])
  have HB := Lib.hid hS
  have Hb := Lib.hid hb
  have hd : ((119 : Int) - (n : Int) % 64) % 64 = (z : Int) := by omega
  have hl1 : (128 :: List.replicate z 0 : List UInt8).length = 1 + z := by simp; omega
  have HL := Lib.hid hl1
  clear hS hb e1 hB hz hl1
  generalize hw1 : w.alloc (.cells (u8s (List.replicate (1 + z) 0)).toArray 5) = w1 at *
  have Hw1 := Lib.hid hw1
  clear hw1
  go_enter Tryz.func92, Tryz.ntmps92
  go_wp2_with fail
  refine (int_at (some ⟨w.heap.size, 0, none⟩) (128 :: List.replicate z 0) (1 + z) _ (8 * (n : Int)) _ HL.out.symm (Rd.of_all HB.out) (by rw [HL.out]; omega)).mono ?_
  rintro e w2 ⟨rfl, hB2, hb2⟩
  have e1 : (w1.setCell ⟨w.heap.size, 0, none⟩ (.int .u8 128)).heap.size = w1.heap.size := by simp [World.setCell]
  rw [← HE.out, e1] at hB2
  have HB2 := Lib.hid hB2
  have Hb2 := Lib.hid (Hb.out.trans (hb2.mono Hb.out.size))
  have HG : Hid (w.heap.size ≤ w1.heap.size) := Lib.hid (by rw [← e1]; exact Hb.out.size)
  clear hB2 hb2 e1
  go_wp2
  go_ret
  exact ⟨w1.heap.size, by rw [show (endB n).length = 1 + z + 8 from by rw [HE.out, List.length_append, HL.out, be_len]]; rfl, HG.out, HB2.out, Hb2.out⟩

theorem Tryz.undPs : Tryz.prog.underlying 77 = some (.slice 23) := by kernel_rfl
theorem Tryz.infoPs : (Tryz.prog.info? 23).map (fun i => (i.zero, i.size, i.bytes)) = some (some (.slice none 0 0), 1, 24) := by kernel_rfl
theorem parts_one (ps : List Part) : ∀ u ∈ ps.map partV, u.oneCell' = true := by
  intro u hu
  obtain ⟨p, _, rfl⟩ := List.mem_map.1 hu
  rfl
set_option maxHeartbeats 1000000 in
set_option maxRecDepth 100000 in
theorem clone_any (w : World) (A : Option Addr) (ps : List Part) (len cap : Nat) (hl : len = ps.length) (hC : Cells w w.heap.size A (ps.map partV)) (hn : ps.length ≤ 1000000) :
    Calls Tryz.prog 91 #[.slice A len cap] w fun e w' => ∃ v, e = .returned v ∧ OwnV w' w.heap.size 23 v (ps.map partV) ∧ Below w.heap.size w w' := by
  have HL := Lib.hid hl
  have HC := Lib.hid hC
  clear hl hC
  cases A with
  | none =>
    have hp : ps = [] := by
      rcases HC.out with h | ⟨b, o, h, _⟩
      · simpa using h
      · cases h
    subst hp
    have he : ∀ w : World, (binOp .eql 77 (.slice none len cap) (.slice none 0 0)).run Tryz.prog w = .ok (.bool true) w := fun _ => by kernel_rfl
    go_enter Tryz.func91, Tryz.ntmps91
    go_wp2
    go_ret
    exact ⟨_, rfl, World.ownsRow_nil w w.heap.size _ 1, Below.refl _ _⟩
  | some a =>
    have hO := ownV_made w w.heap.size 23 (Nat.le_refl _)
    have hx : ∀ j u, (ps.map partV)[j]? = some u → (w.alloc (.cells #[] 23)).cell? (a.add j) = some u := by
      intro j u hu
      rcases HC.out with h | ⟨b, o, h, hb, hc⟩
      · rw [h] at hu; simp at hu
      · injection h with h
        subst h
        have : (⟨b, o, none⟩ : Addr).add j = ⟨b, o + j, none⟩ := Addr.add_lit _ _ _
        rw [this, (below_alloc w _).cell (p := ⟨b, o + j, none⟩) hb]
        exact hc j u hu
    obtain ⟨v1, w1, a1, a2, a3, _⟩ := appV (P := Tryz.prog) 77 77 Tryz.undPs Tryz.infoPs rfl hO (by rw [World.size_alloc]; omega) a cap len (ps.map partV) (parts_one ps) (by rw [HL.out, List.length_map]) hx (by simp; omega) (by omega)
    have HO := Lib.hid a2
    have Hb := Lib.hid ((below_alloc w (.cells #[] 23)).trans a3)
    clear a2 a3 hO hx
    have he : ∀ w : World, (binOp .eql 77 (.slice (some a) len cap) (.slice none 0 0)).run Tryz.prog w = .ok (.bool false) w := fun _ => by kernel_rfl
    go_enter Tryz.func91, Tryz.ntmps91
    go_wp2_with (at_builtin; refine wpList_append_run rfl (.tmp 5) (.tmp 6) _ rfl rfl rfl a1 ?_)
    go_ret
    exact ⟨_, rfl, by simpa using HO.out, Hb.out⟩

/-- The bytes of the first k parts. -/
def some_ (ps : List Part) (k : Nat) : Nat := (cat (ps.take k)).length
theorem some_succ (ps : List Part) (k : Nat) (p : Part) (h : ps[k]? = some p) : some_ ps (k + 1) = some_ ps k + p.2.1.length := by
  have hk : k < ps.length := (List.getElem?_eq_some_iff.1 h).1
  have e : ps[k] = p := by rw [List.getElem?_eq_getElem hk] at h; injection h
  unfold some_
  rw [List.take_succ_eq_append_getElem hk, e]
  simp [cat]
theorem some_le (ps : List Part) (k : Nat) : some_ ps k ≤ (cat ps).length := by
  have e : (cat ps).length = (cat (ps.take k)).length + (cat (ps.drop k)).length := by
    rw [← List.length_append]
    unfold cat
    rw [← List.flatMap_append, List.take_append_drop]
  rw [e]
  exact Nat.le_add_right _ _
theorem some_end (ps : List Part) (k : Nat) (h : ps.length ≤ k) : some_ ps k = (cat ps).length := by rw [some_, List.take_of_length_le h]

/-- A part that reads as its bytes, in a block other than n and below B. -/
def RdN (w : World) (B n : Nat) (p : Part) : Prop := p.2.1 = [] ∨ ∃ b o, p.1 = some ⟨b, o, none⟩ ∧ b ≠ n ∧ b < B ∧ ∀ i c, p.2.1[i]? = some c → w.cell? ⟨b, o + i, none⟩ = some (.int .u8 (c.toNat : Int))
theorem RdN.of_rd {w : World} {B n : Nat} {p : Part} (h : Rd w B p.1 p.2.1) (hB : B ≤ n) : RdN w B n p := by
  rcases h with h | ⟨b, o, e, hb, hc⟩
  · exact .inl h
  · exact .inr ⟨b, o, e, by omega, hb, hc⟩
theorem RdN.more {w : World} {B B' n : Nat} {p : Part} (h : RdN w B n p) (hB : B ≤ B') : RdN w B' n p := by
  rcases h with h | ⟨b, o, e, hn, hb, hc⟩
  · exact .inl h
  · exact .inr ⟨b, o, e, hn, by omega, hc⟩
theorem RdN.below {w w' : World} {B n : Nat} {p : Part} (h : RdN w B n p) (hb : Below B w w') : RdN w' B n p := by
  rcases h with h | ⟨b, o, e, hn, hlt, hc⟩
  · exact .inl h
  · exact .inr ⟨b, o, e, hn, hlt, fun i c hi => (World.cell?_of_block (hb.block b hlt)).trans (hc i c hi)⟩

set_option maxHeartbeats 1000000 in
set_option maxRecDepth 100000 in
theorem messageL_any (w : World) (A : Option Addr) (ps : List Part) (cap gs : Nat) (hC : Cells w w.heap.size A (ps.map partV)) (hR : ∀ p ∈ ps, RdN w w.heap.size gs p) (hcp : ∀ p ∈ ps, p.2.1.length ≤ p.2.2) (hgs : gs < w.heap.size) (hl : (cat ps).length ≤ 1048576) (hn : ps.length ≤ 1000) :
    Calls Tryz.prog 70 #[.slice A ps.length cap] w fun e w' => ∃ v qs, e = .returned v ∧ OwnV w' w.heap.size 23 v (qs.map partV) ∧ (∀ p ∈ qs, RdN w' w'.heap.size gs p ∧ p.2.1.length ≤ p.2.2) ∧ cat qs = Sha.msg (cat ps) ∧ qs.length ≤ 1001 ∧ 0 < qs.length ∧ Below w.heap.size w w' := by
  have HC := Lib.hid hC
  have HR := Lib.hid hR
  have HL := Lib.hid hl
  have HCP := Lib.hid hcp
  clear hC hR hl hcp
  obtain ⟨np, hnp⟩ : ∃ np, ps.length = np := ⟨_, rfl⟩
  rw [hnp] at hn ⊢
  have HN := Lib.hid hnp
  clear hnp
  go_enter Tryz.func70, Tryz.ntmps70
  go_wp2
  go_loopw [3, 8] (fun s i w' => ∃ k : Nat, k ≤ np ∧ i = .int .i64 (k : Int) ∧ s = .int .i64 ((some_ ps k : Nat) : Int) ∧ w' = w) (fun _ i _ => np - (intOf i).toNat)
  case atStart => exact ⟨0, by omega, rfl, rfl, rfl⟩
  case round =>
    obtain ⟨k, hk, rfl, rfl, rfl⟩ := hrel
    by_cases hlt : k < np
    · have hkp : k < ps.length := by rw [HN.out]; exact hlt
      obtain ⟨b, o, rfl, hb, hc⟩ := HC.out.at_ (i := k) (by simpa using hkp)
      have hss := some_succ ps k ps[k] (List.getElem?_eq_getElem hkp)
      have hsl := some_le ps (k + 1)
      have hL := HL.out
      have hpl : ps[k].2.1.length ≤ 1048576 := by omega
      rw [List.getElem_map] at hc
      generalize hp : ps[k] = p at hc hss hpl
      obtain ⟨Ap, lp, cp⟩ := p
      simp only [partV] at hc hss hpl
      generalize lp.length = q at *
      have hs1 : some_ ps k ≤ 1048576 := by omega
      have HS := Lib.hid hss
      clear hsl hL hss hp hb
      generalize some_ ps k = sk at *
      go_wp2
      exact ⟨⟨k + 1, by omega, by go_num, by rw [HS.out]; go_num, trivial⟩, by simp [intOf]; omega⟩
    · have hse := some_end ps k (by rw [HN.out]; omega)
      rw [hse]
      obtain ⟨n, hnn⟩ : ∃ n, (cat ps).length = n := ⟨_, rfl⟩
      rw [hnn]
      have HNN := Lib.hid hnn
      clear hse hnn
      have hn20 : n ≤ 1048576 := by have := HL.out; rw [HNN.out] at this; exact this
      go_wp2_with fail
      refine (clone_any wr A ps np cap HN.out.symm HC.out (by rw [HN.out]; omega)).mono ?_
      rintro e w1 ⟨v1, rfl, hO1, hb1⟩
      have HO1 := Lib.hid hO1
      have Hb1 := Lib.hid hb1
      clear hO1 hb1
      go_wp2_with fail
      refine (ending_any n w1 hn20).mono ?_
      rintro e w2 ⟨ge, rfl, hge, hBe, hb2⟩
      obtain ⟨v3, w3, a1, a2, a3, _, a5⟩ := appV_one (P := Tryz.prog) 77 77 Tryz.undPs Tryz.infoPs rfl (HO1.out.below hb2) (Nat.le_trans Hb1.out.size hb2.size) (.slice (some ⟨ge, 0, none⟩) (endB n).length (endB n).length) rfl (by rw [List.length_map, HN.out]; omega) (by omega)
      have hgeb := hBe.lt
      have hBe3 : Blk w3 ge 5 (u8s (endB n)) := by
        refine (hBe.alloc _).grown a5 (fun h => ?_)
        obtain ⟨A1, c1, hv1, _⟩ := HO1.out.slice
        have h2 := (HO1.out.lt h.symm).2
        omega
      have HB3 := Lib.hid (show Below wr.heap.size wr w3 from Hb1.out.trans ((hb2.mono Hb1.out.size).trans a3))
      have HO3 : Hid (OwnV w3 wr.heap.size 23 v3 ((ps ++ [((some ⟨ge, 0, none⟩, endB n, (endB n).length) : Part)]).map partV)) := Lib.hid (by
        rw [List.map_append]
        exact a2)
      have HE3 := Lib.hid hBe3
      have HGE : Hid (wr.heap.size ≤ ge) := Lib.hid (Nat.le_trans Hb1.out.size hge)
      clear hge hBe hb2 a2 a3 a5 hgeb hBe3 HO1
      go_wp2_with (at_builtin; refine wpList_append_run rfl (.tmp 18) (.tmp 21) _ rfl rfl rfl a1 ?_)
      go_ret
      refine ⟨_, _, rfl, HO3.out, ?_, ?_, ?_, by simp, HB3.out⟩
      · intro p hp
        rcases List.mem_append.1 hp with h | h
        · exact ⟨((HR.out p h).below HB3.out).more HB3.out.size, HCP.out p h⟩
        · simp at h
          subst h
          refine ⟨.inr ⟨ge, 0, rfl, by have := HGE.out; omega, HE3.out.lt, fun i c hi => ?_⟩, Nat.le_refl _⟩
          simp only at hi
          rw [Nat.zero_add, HE3.out.cell, u8s_get, hi]
          rfl
      · rw [← endB_msg, HNN.out]
        simp [cat]
      · rw [List.length_append, HN.out]
        simp
        omega
end Go.Proofs.YtdipflchmooakaaGreatDoor
namespace Go.Proofs.YtdipflchmooakaaGreatDoor
open Go.RowKit Go.Gar

theorem low5 : ∀ n : Fin 32, 0 < n.1 → bits .and .u64 (IntKind.u64.wrap (-(n.1 : Int))) 31 = ((32 - n.1 : Nat) : Int) := by decide +kernel
theorem rotr_bits' (x n m : Nat) (hx : x < 4294967296) (hm : m = 32 - n) : bits .or .u32 ((x : Int) * 2 ^ m % 4294967296) ((x : Int) / 2 ^ n) = ((Sha.rotr x n : Nat) : Int) := by
  subst hm
  rw [show (x : Int) / 2 ^ n = ((x / 2 ^ n : Nat) : Int) from by simp, show (x : Int) * 2 ^ (32 - n) % 4294967296 = ((x * 2 ^ (32 - n) % 4294967296 : Nat) : Int) from by rw [Int.natCast_emod, Int.natCast_mul, Int.natCast_pow]; rfl,
    or_u32 _ _ (Nat.mod_lt _ (by omega)) (Nat.lt_of_le_of_lt (Nat.div_le_self _ _) hx), Nat.or_comm]
  rfl
set_option maxHeartbeats 1000000 in
set_option maxRecDepth 100000 in
theorem rotl_any (x n : Nat) (w : World) (hx : x < 4294967296) (hn : n < 32) (h0 : 0 < n) :
    Calls Tryz.prog 101 #[.int .u32 (x : Int), .int .i64 (-(n : Int))] w fun e w' => e = .returned (.int .u32 ((Sha.rotr x n : Nat) : Int)) ∧ w' = w := by
  obtain ⟨m, hm⟩ : ∃ m, m = 32 - n := ⟨_, rfl⟩
  have hb : bits .and .u64 (IntKind.u64.wrap (-(n : Int))) 31 = (m : Int) := by rw [hm]; exact low5 ⟨n, hn⟩ h0
  have HO := Lib.hid (rotr_bits' x n m hx hm)
  have hz : ((32 : Int) - (m : Int)).toNat = n := by omega
  have hm0 : 0 ≤ (32 : Int) - (m : Int) := by omega
  have Hm := Lib.hid hm
  clear hm
  go_enter Tryz.func101, Tryz.ntmps101
  go_wp2
  go_ret
  exact ⟨congrArg (fun v => Ending.returned (.int .u32 v)) HO.out, rfl⟩

set_option maxHeartbeats 1000000 in
set_option maxRecDepth 100000 in
theorem rightL_any (x n : Nat) (w : World) (hx : x < 4294967296) (hn : n < 32) (h0 : 0 < n) :
    Calls Tryz.prog 93 #[.int .u32 (x : Int), .int .i64 (n : Int)] w fun e w' => e = .returned (.int .u32 ((Sha.rotr x n : Nat) : Int)) ∧ w' = w := by
  go_enter Tryz.func93, Tryz.ntmps93
  go_wp2_with fail
  refine (rotl_any x n w hx hn h0).mono ?_
  rintro e w1 ⟨rfl, rfl⟩
  go_wp2
  go_ret
  exact ⟨rfl, rfl⟩

/-- A row half laid: the first k of t, the rest of z. -/
def pg {α : Type} (z t : List α) (k : Nat) : List α := t.take k ++ z.drop k
theorem pg_0 {α : Type} (z t : List α) : pg z t 0 = z := by simp [pg]
theorem pg_end {α : Type} (z t : List α) (k : Nat) (h : z.length ≤ k) (h2 : t.length ≤ k) : pg z t k = t := by
  rw [pg, List.take_of_length_le h2, List.drop_eq_nil_of_le h, List.append_nil]
theorem pg_len {α : Type} (z t : List α) (k : Nat) (h : t.length = z.length) : (pg z t k).length = z.length := by
  simp [pg]; omega
theorem pg_set {α : Type} (z t : List α) (k : Nat) (x : α) (h : t.length = z.length) (hx : t[k]? = some x) : (pg z t k).set k x = pg z t (k + 1) := by
  have hk : k < t.length := (List.getElem?_eq_some_iff.1 hx).1
  have hl : (t.take k).length = k := by rw [List.length_take]; omega
  have e2 : z.drop k = z[k]'(by omega) :: z.drop (k + 1) := List.drop_eq_getElem_cons (by omega)
  rw [List.getElem?_eq_getElem hk] at hx
  injection hx with hx
  unfold pg
  rw [List.set_append_right _ _ (by omega), hl, Nat.sub_self, e2, List.set_cons_zero, List.take_succ_eq_append_getElem hk, hx, List.append_assoc]
  rfl
theorem u8s_set' (l : List UInt8) (i : Nat) (c : UInt8) : (u8s l).set i (.int .u8 (c.toNat : Int)) = u8s (l.set i c) := by simp [u8s, List.map_set]

theorem Tryz.undH8 : Tryz.prog.underlying 117 = some (.array 8 116) := by kernel_rfl
theorem Tryz.sizeH8 : (Tryz.prog.info? 117).map (·.size) = some 8 := by kernel_rfl
theorem Tryz.undD32 : Tryz.prog.underlying 22 = some (.array 32 5) := by kernel_rfl
theorem Tryz.sizeD32 : (Tryz.prog.info? 22).map (·.size) = some 32 := by kernel_rfl
theorem Tryz.infoD32 : (Tryz.prog.info? 22).map (fun i => (i.zero, i.size)) = some (some (.agg (Array.replicate 32 (.int .u8 0))), 32) := by kernel_rfl
def zB (n : Nat) : List UInt8 := List.replicate n 0
theorem zB_len (n : Nat) : (zB n).length = n := List.length_replicate
theorem zero32B (w : World) : (zeroValue 22).run Tryz.prog w = .ok (.agg (u8s (zB 32)).toArray) w := by
  rw [(zero_of_info (P := Tryz.prog) Tryz.infoD32).1 w, zB, u8s, List.map_replicate]; rfl
theorem size32B (l : List UInt8) (h : l.length = 32) : (Tryz.prog.info? 22).map (·.size) = some (u8s l).length := by
  rw [u8s_len, h]; exact Tryz.sizeD32

set_option maxHeartbeats 1000000 in
set_option maxRecDepth 100000 in
theorem squares_any (w : World) :
    Calls Tryz.prog 68 #[] w fun e w' => e = .returned (.agg (u32s Sha.start.list).toArray) ∧ Below w.heap.size w w' := by
  have hl2 := run_loadVar_row (P := Tryz.prog) (w.alloc (.cells (u32s Sha.start.list).toArray 117)) w.heap.size 117 117 (u32s Sha.start.list).toArray (0, 0) _ (Blk.new w 117 (u32s Sha.start.list)) Tryz.undH8 rfl Tryz.sizeH8
  go_enter Tryz.func68, Tryz.ntmps68
  go_wp2
  refine bodyPost_ret (v := .agg (u32s Sha.start.list).toArray) ?_ rfl ⟨rfl, below_alloc w _⟩
  rw [show #[Value.int .u32 1779033703, .int .u32 3144134277, .int .u32 1013904242, .int .u32 2773480762, .int .u32 1359893119, .int .u32 2600822924, .int .u32 528734635, .int .u32 1541459225] = (u32s Sha.start.list).toArray from rfl]
  generalize (u32s Sha.start.list).toArray = X at hl2 ⊢
  simp [results, Tryz.results68, asAddr, hl2]

/-- Byte i of the digest. -/
def outB (s : List Nat) (i : Nat) : UInt8 := UInt8.ofNat (s.getD (i / 4) 0 / 2 ^ (24 - 8 * (i % 4)))
theorem out_bytes (s : Sha.St) : Sha.out s = (List.range 32).map (outB s.list) := by
  cases s
  simp [Sha.out, Sha.outK, Sha.St.list, outB, Sha.be4, List.range_succ]
theorem out_get (s : Sha.St) (i : Nat) (h : i < 32) : (Sha.out s)[i]? = some (outB s.list i) := by
  rw [out_bytes, List.getElem?_map, List.getElem?_range h]; rfl
theorem out_len (s : Sha.St) : (Sha.out s).length = 32 := by rw [out_bytes, List.length_map, List.length_range]
theorem outB_int (s : List Nat) (i : Nat) (x : Nat) (hx : s.getD (i / 4) 0 = x) : Value.int .u8 ((x : Int) / 2 ^ (24 - 8 * (i % 4)) % 256) = .int .u8 ((outB s i).toNat : Int) := by
  subst hx
  simp [outB]

set_option maxHeartbeats 1000000 in
set_option maxRecDepth 100000 in
theorem joined_any (s : Sha.St) (w : World) (hs : s.ok) :
    Calls Tryz.prog 73 #[.agg (u32s s.list).toArray] w fun e w' => e = .returned (.agg (u8s (Sha.out s)).toArray) ∧ Below w.heap.size w w' := by
  have hB0 := Blk.new w 117 (u32s s.list)
  have hb0 := below_alloc w (.cells (u32s s.list).toArray 117)
  have hs0 : (w.alloc (.cells (u32s s.list).toArray 117)).heap.size = w.heap.size + 1 := World.size_alloc _ _
  obtain ⟨w1, hw1⟩ : ∃ w1, w.alloc (.cells (u32s s.list).toArray 117) = w1 := ⟨_, rfl⟩
  rw [hw1] at hB0 hb0 hs0
  have hR1 := Blk.new w1 22 (u8s (zB 32))
  have hb1 := hb0.alloc (by omega) (.cells (u8s (zB 32)).toArray 22)
  have hB1 := hB0.alloc (.cells (u8s (zB 32)).toArray 22)
  have hs1 : (w1.alloc (.cells (u8s (zB 32)).toArray 22)).heap.size = w1.heap.size + 1 := World.size_alloc _ _
  obtain ⟨w2, hw2⟩ : ∃ w2, w1.alloc (.cells (u8s (zB 32)).toArray 22) = w2 := ⟨_, rfl⟩
  rw [hw2] at hB1 hb1 hs1 hR1
  have hT2 := Blk.new w2 22 (u8s (zB 32))
  have hb2 := hb1.alloc (by omega) (.cells (u8s (zB 32)).toArray 22)
  have hB2 := hB1.alloc (.cells (u8s (zB 32)).toArray 22)
  have hR2 := hR1.alloc (.cells (u8s (zB 32)).toArray 22)
  obtain ⟨w3, hw3⟩ : ∃ w3, w2.alloc (.cells (u8s (zB 32)).toArray 22) = w3 := ⟨_, rfl⟩
  rw [hw3] at hB2 hb2 hT2 hR2
  have HT2 := Lib.hid hT2
  have HR2 := Lib.hid hR2
  have HB2 := Lib.hid hB2
  have Hb2 := Lib.hid hb2
  have HS : Hid (w.heap.size < w1.heap.size ∧ w1.heap.size < w2.heap.size) := Lib.hid (by omega)
  have HW1 := Lib.hid hw1
  have HW2 := Lib.hid hw2
  have HW3 := Lib.hid hw3
  clear hB0 hb0 hs0 hR1 hb1 hB1 hs1 hT2 hb2 hB2 hR2 hw1 hw2 hw3
  go_enter Tryz.func73, Tryz.ntmps73
  go_wp2_with (first | (refine wpList_box_arr rfl 117 (.tmp 0) (u32s s.list).toArray rfl rfl ?_; rw [HW1.out]) | (refine wpList_alloc_arr rfl 22 (u8s (zB 32)).toArray rfl zero32B ?_; first | rw [HW2.out] | rw [HW3.out]))
  generalize w2.heap.size = gT at *
  generalize w1.heap.size = gR at *
  clear HW1 HW2 HW3
  go_loopw [5] (fun i w' => ∃ j : Nat, j ≤ 32 ∧ i = .int .i64 (j : Int) ∧ Blk w' gT 22 (u8s (pg (zB 32) (Sha.out s) j)) ∧ Blk w' gR 22 (u8s (zB 32)) ∧ Blk w' w.heap.size 117 (u32s s.list) ∧ Below w.heap.size w w') (fun i _ => 32 - (intOf i).toNat)
  case atStart => exact ⟨0, by omega, rfl, by rw [pg_0]; exact HT2.out, HR2.out, HB2.out, Hb2.out⟩
  case round =>
    obtain ⟨i, hi, rfl, hT, hR, hB, hb⟩ := hrel
    clear HT2 HR2 HB2 Hb2
    by_cases hlt : i < 32
    · have hx : s.list.getD (i / 4) 0 < 4294967296 := Sha.getD_lt hs _
      have hcx : wr.cell? ⟨w.heap.size, i / 4, none⟩ = some (.int .u32 ((s.list.getD (i / 4) 0 : Nat) : Int)) := by rw [hB.cell, u32s_get _ _ (by rw [Sha.St.list_len]; omega)]
      have HV := Lib.hid (fun x h => outB_int s.list i x h)
      obtain ⟨x, hxe⟩ : ∃ x, s.list.getD (i / 4) 0 = x := ⟨_, rfl⟩
      rw [hxe] at hx hcx
      have HV := Lib.hid (HV.out x hxe)
      have hp : (Sha.out s).length = (zB 32).length := by rw [out_len, zB_len]
      have hg := out_get s i hlt
      have hS := hT.set_ i (.int .u8 ((outB s.list i).toNat : Int))
      rw [u8s_set', pg_set _ _ _ _ hp hg] at hS
      have hc0 : ∃ v0, wr.cell? ⟨gT, i, none⟩ = some v0 := by rw [hT.cell, List.getElem?_eq_getElem (by rw [u8s_len, pg_len _ _ _ hp, zB_len]; exact hlt)]; exact ⟨_, rfl⟩
      obtain ⟨v0, hc0⟩ := hc0
      have hf := hT.frozen i
      have HTn := Lib.hid hS
      have HRn := Lib.hid (hR.far (p := ⟨gT, i, none⟩) (by have := HS.out; show gR ≠ gT; omega) (.int .u8 ((outB s.list i).toNat : Int)))
      have HBn := Lib.hid (hB.far (p := ⟨gT, i, none⟩) (by have := HS.out; show w.heap.size ≠ gT; omega) (.int .u8 ((outB s.list i).toNat : Int)))
      have Hbn := Lib.hid (hb.setCell (p := ⟨gT, i, none⟩) (by have := HS.out; show w.heap.size ≤ gT; omega) (.int .u8 ((outB s.list i).toNat : Int)))
      clear hS hT hR hB hb hp hg hxe
      go_wp2
      rw [HV.out]
      exact ⟨⟨i + 1, by omega, by go_num, HTn.out, HRn.out, HBn.out, Hbn.out⟩, by simp [intOf]; omega⟩
    · have hE : pg (zB 32) (Sha.out s) i = Sha.out s := pg_end _ _ _ (by rw [zB_len]; omega) (by rw [out_len]; omega)
      rw [hE] at hT
      have HR := Lib.hid hR
      have Hb := Lib.hid hb
      have hld := run_loadVar_row (P := Tryz.prog) wr gT 22 22 (u8s (Sha.out s)).toArray (0, 0) _ hT Tryz.undD32 rfl (by simpa using size32B _ (out_len s))
      have HS2 := Lib.hid (size32B _ (out_len s))
      have HZ2 : Hid ((u8s (zB 32)).length = (u8s (Sha.out s)).length) := Lib.hid (by rw [u8s_len, u8s_len, out_len, zB_len])
      have HO2 := Lib.hid (u8s_one (Sha.out s))
      have hl2 := run_loadVar_row (P := Tryz.prog) (wr.setRow gR (u8s (Sha.out s)).toArray) gR 22 22 (u8s (Sha.out s)).toArray (0, 0) _ (HR.out.row _) Tryz.undD32 rfl (by simpa using size32B _ (out_len s))
      have Hbn := Lib.hid (below_setRow Hb.out (by have := HS.out; omega : w.heap.size ≤ gR) (u8s (Sha.out s)).toArray)
      clear hE hT hR hB hb
      go_wp2_with (first | refine wpList_load_arr_w 22 (.tmp 3) rfl rfl (u8s (Sha.out s)).toArray hld (by kernel_rfl) ?_ | refine wpList_store_arr rfl 22 (.tmp 2) (.tmp 21) gR _ _ rfl rfl rfl rfl HR.out HS2.out HZ2.out HO2.out ?_)
      simp only [Act.put, List.setIfInBounds_toArray, List.set]
      refine bodyPost_ret (v := .agg (u8s (Sha.out s)).toArray) ?_ rfl ⟨rfl, Hbn.out⟩
      generalize (u8s (Sha.out s)).toArray = X at hl2 ⊢
      simp [results, Tryz.results73, asAddr, hl2]
end Go.Proofs.YtdipflchmooakaaGreatDoor
