/-
  The landed lz: the library's Backward over positions: its contract. The landed lz: common: its contract. The landed lz: longest: its contract.
-/
import Derived.RangeFuncNested
import Derived.RangeFuncBound
import Derived.RangeFuncCalls
import Derived.RangeFuncLeaves
import Derived.Shelf.Abstract
import Derived.Shelf.RegionOpen
import Derived.WalkKit
import Derived.OwnWalkIn
import Derived.TacticsInMore
import Derived.LoopNIn
import Derived.LoopIn
import Derived.Test.YtdipflchmooakaaGreatDoorWholeJ09
import Derived.Test.YtdipflchmooakaaGreatDoorWholeJ34
import Derived.Test.YtdipflchmooakaaGreatDoorWholeJ33
import Derived.IntWalk
import Derived.BigQuiet
import Derived.RangeFuncWrites
import Derived.Test.YtdipflchmooakaaGreatDoorWholeJ26
import Derived.Test.YtdipflchmooakaaGreatDoorWholeJ31
set_option maxRecDepth 100000
namespace Go.Proofs.YtdipflchmooakaaGreatDoor
open Go.RowKit Go.Shelf Go.Gar
attribute [local go_sem] Oper.semAt_some

/-- What comes: an index and a position before a place. -/
abbrev PosA (at_ : Nat) := { x : Nat × Nat // x.2 < at_ }
def posV {at_ : Nat} (xs : List (PosA at_)) : List Nat := xs.map (·.1.2)
theorem posV_snoc {at_ : Nat} (xs : List (PosA at_)) (x : PosA at_) : posV (xs ++ [x]) = posV xs ++ [x.1.2] := by simp [posV]
/-- A round keeps two blocks. -/
structure KpD (A B : Nat) (W W' : World) : Prop where
  size : W.heap.size ≤ W'.heap.size
  same : ∀ (k : Nat) (o : Obj), k = A ∨ k = B → W.heap[k]? = some o → o.isCells = true → W'.heap[k]? = some o
theorem KpD.trans {A B : Nat} {X Y Z : World} (h : KpD A B X Y) (k : KpD A B Y Z) : KpD A B X Z :=
  ⟨Nat.le_trans h.size k.size, fun i o hi ho hc => k.same i o hi (h.same i o hi ho hc) hc⟩
theorem KpD.put (A B : Nat) (W : World) (l : Nat) (o o' : Obj) (hl : W.heap[l]? = some o) (ho : o.isCells = false) : KpD A B W (W.putObj l o') :=
  ⟨by simp, fun k p _ hk hp => by
    have : k ≠ l := by rintro rfl; rw [hl] at hk; cases hk; rw [ho] at hp; cases hp
    exact (World.putObj_heap_other this).trans hk⟩
theorem KpD.cell {A B : Nat} {W W' : World} (h : KpD A B W W') {p : Addr} {v : Value} (hp : W.cell? p = some v) (hn : p.block = A ∨ p.block = B) : W'.cell? p = some v := by
  obtain ⟨o, ho, hc⟩ := cells_of_cell hp
  rw [← hp]
  exact World.cell?_of_block ((h.same _ _ hn ho hc).trans ho.symm)
theorem kpD_only {A B : Nat} {F : Nat → Prop} {W W' : World} (h : Only F W W') (hA : ¬ F A) (hB : ¬ F B) : KpD A B W W' :=
  ⟨h.size, fun k o hk ho _ => (h.block k (Array.getElem?_eq_some_iff.1 ho).1 (by rcases hk with rfl | rfl <;> assumption)).trans ho⟩
theorem cellI_bel {w w' : World} (hb : Below w.heap.size w w') {p : Addr} {v : Value} (h : w.cell? p = some v) : w'.cell? p = some v := by
  rw [hb.cell (p := p) (World.block_lt_of_cell? w p h), h]

set_option maxRecDepth 100000 in
set_option maxHeartbeats 1000000 in
theorem back1_in (n : Nat) (hn : 1 ≤ n) (l Bs g o len cap at_ : Nat) (A : Option Addr) (zs : List Nat) (hz : ∀ z ∈ zs, z < at_) (J Jx : List (PosA at_) → World → Prop) (W : World)
    (hY : ∀ pre (x : PosA at_) W1, J pre W1 → pre.length < zs.length → YieldAt Fence.wide (n - 1) Tryz.prog l #[.int .i64 (x.1.1 : Int), .int .i64 (x.1.2 : Int)] W1 fun e W' => (e = .returned (.bool true) ∧ J (pre ++ [x]) W' ∧ KpD Bs g W1 W') ∨ (e = .returned (.bool false) ∧ Jx (pre ++ [x]) W'))
    (hBs : W.cell? ⟨Bs, 0, none⟩ = some (.slice A len cap)) (hlen : len = zs.length) (hA : 0 < len → A = some ⟨g, o, none⟩ ∧ ∀ j p, zs[j]? = some p → W.cell? ⟨g, o + j, none⟩ = some (.int .i64 ((p : Nat) : Int))) (hl : len ≤ 1000000) (h0 : J [] W) :
    CallsIn Fence.wide n Tryz.prog 89 #[.func (.yield l) #[] #[], .pointer (some ⟨Bs, 0, none⟩)] W fun e W' => (∃ v, e = .returned v) ∧ ((∃ xs, posV xs = zs.reverse ∧ J xs W') ∨ ∃ pre, (∃ t, posV pre ++ t = zs.reverse) ∧ Jx pre W') := by
  have HY := Lib.hid hY
  have HA := Lib.hid hA
  have H0 := Lib.hid h0
  have HL := Lib.hid hlen
  have HZ := Lib.hid hz
  clear hY hA h0 hlen hz
  refine callsIn_of_wp Tryz.func89 rfl trivial ?_ rfl
  simp only [Tryz.ntmps89, List.size_toArray, List.length_cons, List.length_nil, Nat.reduceAdd, Nat.reduceSub, Array.replicate_succ, Array.replicate_zero, List.push_toArray, List.append_toArray, List.nil_append, List.cons_append]
  gi_wp2
  gi_loopw [3] (fun v wr => ∃ (j : Int) (k : Nat) (pre : List (PosA at_)), v = .int .i64 j ∧ j + 1 = (k : Int) ∧ k ≤ len ∧ posV pre = (zs.drop k).reverse ∧ wr.cell? ⟨Bs, 0, none⟩ = some (.slice A len cap) ∧ (∀ j p, 0 < len → zs[j]? = some p → wr.cell? ⟨g, o + j, none⟩ = some (.int .i64 ((p : Nat) : Int))) ∧ J pre wr)
    (fun v _ => (intOf v + 1).toNat)
  case atStart => exact ⟨(len : Int) - 1, len, [], rfl, by omega, Nat.le_refl _, by rw [List.drop_eq_nil_of_le (by rw [HL.out]; exact Nat.le_refl _)]; rfl, hBs, fun j p h hj => (HA.out h).2 j p hj, H0.out⟩
  case round =>
    obtain ⟨j, k, pre, rfl, hjk, hk, hpos, hB, hcs, hJ⟩ := hrel
    clear hBs H0
    by_cases hk0 : k = 0
    · subst hk0
      obtain rfl : j = -1 := by omega
      have HE : Hid (posV pre = zs.reverse) := Lib.hid (by rw [hpos]; rfl)
      have HJ := Lib.hid hJ
      clear hpos hcs hJ hjk hB
      gi_wp2
      go_end0
      exact ⟨⟨_, rfl⟩, .inl ⟨pre, HE.out, HJ.out⟩⟩
    · obtain ⟨m, rfl⟩ : ∃ m, k = m + 1 := ⟨k - 1, by omega⟩
      obtain rfl : j = (m : Int) := by omega
      have hmz : m < zs.length := by rw [← HL.out]; omega
      obtain ⟨p, hp⟩ : ∃ p, zs[m]? = some p := ⟨_, List.getElem?_eq_getElem hmz⟩
      have hpa : p < at_ := HZ.out p (List.mem_of_getElem? hp)
      have hcell := hcs m p (by omega) hp
      obtain rfl := (HA.out (by omega)).1
      obtain ⟨fn, tmps, assign, body, hy, hR⟩ := HY.out pre ⟨(m, p), hpa⟩ wr hJ (by
        have h := congrArg List.length hpos
        simp [posV] at h
        rw [h]
        omega)
      have hdrop : zs.drop m = p :: zs.drop (m + 1) := by
        rw [List.drop_eq_getElem_cons hmz]
        congr 1
        exact (List.getElem?_eq_some_iff.1 hp).2
      have HPos : Hid (posV (pre ++ [⟨(m, p), hpa⟩]) = (zs.drop m).reverse) := Lib.hid (by rw [posV_snoc, hpos, hdrop, List.reverse_cons])
      have HSp : Hid (∃ t, posV (pre ++ [(⟨(m, p), hpa⟩ : PosA at_)]) ++ t = zs.reverse) := Lib.hid ⟨(zs.take m).reverse, by rw [HPos.out, ← List.reverse_append, List.take_append_drop]⟩
      have d0 : decide ((0 : Int) ≤ (m : Int)) = true := by simp
      have hin : (m : Int) < (len : Int) := by omega
      have HCs := Lib.hid hcs
      have HB := Lib.hid hB
      clear hpos hcs hJ hjk hmz hp hdrop
      gi_wp2
      refine hR.mono ?_
      rintro e W3 (⟨rfl, hJ3, hk3⟩ | ⟨rfl, hx3⟩)
      · have HJ3 := Lib.hid hJ3
        have HB3 := Lib.hid (hk3.cell HB.out (.inl rfl))
        have HCs3 : Hid (∀ j p, 0 < len → zs[j]? = some p → W3.cell? ⟨g, o + j, none⟩ = some (.int .i64 ((p : Nat) : Int))) := Lib.hid (fun j p h1 h2 => hk3.cell (HCs.out j p h1 h2) (.inr rfl))
        clear hJ3 hk3 hR hy HB HCs hB hcell
        gi_wp2
        exact ⟨⟨(m : Int) - 1, m, _, rfl, by omega, by omega, HPos.out, HB3.out, HCs3.out, HJ3.out⟩, by simp [intOf]⟩
      · have HX := Lib.hid hx3
        clear hx3 hR hy HB HCs hB hcell
        gi_wp2
        refine bodyPost_ret (results_none rfl _ _ _) rfl ?_
        exact ⟨⟨_, rfl⟩, .inr ⟨_, HSp.out, HX.out⟩⟩
set_option maxRecDepth 100000 in
set_option maxHeartbeats 1000000 in
theorem back_in (n : Nat) (A : Option Addr) (len cap : Nat) (w : World) :
    CallsIn Fence.wide n Tryz.prog 63 #[.slice A len cap] w fun e w' => e = .returned (.func (.func 89) #[] #[.pointer (some ⟨w.heap.size, 0, none⟩)]) ∧ w' = w.alloc (.cells #[.slice A len cap] 109) := by
  refine callsIn_of_wp Tryz.func63 rfl trivial ?_ rfl
  simp only [Tryz.ntmps63, List.size_toArray, List.length_cons, List.length_nil, Nat.reduceAdd, Nat.reduceSub, Array.replicate_succ, Array.replicate_zero, List.push_toArray, List.append_toArray, List.nil_append, List.cons_append]
  gi_wp2
  refine bodyPost_ret (results_tmp rfl _ _ _) rfl ?_
  exact ⟨rfl, rfl⟩
theorem back_seq (n : Nat) (hn : 1 ≤ n) (Bs g o len cap at_ : Nat) (A : Option Addr) (zs : List Nat) (hz : ∀ z ∈ zs, z < at_) (w : World)
    (hBs : w.cell? ⟨Bs, 0, none⟩ = some (.slice A len cap)) (hlen : len = zs.length) (hA : 0 < len → A = some ⟨g, o, none⟩ ∧ ∀ j p, zs[j]? = some p → w.cell? ⟨g, o + j, none⟩ = some (.int .i64 ((p : Nat) : Int))) (hl : len ≤ 1000000) :
    SeqStopsK Fence.wide n Tryz.prog 89 #[.pointer (some ⟨Bs, 0, none⟩)] (fun x : PosA at_ => #[.int .i64 (x.1.1 : Int), .int .i64 (x.1.2 : Int)]) (KpD Bs g) (fun xs => posV xs = zs.reverse) (fun pre => ∃ t, posV pre ++ t = zs.reverse) zs.length w := by
  intro l J Jx W hW hJ hJx hY h0
  exact back1_in n hn l Bs g o len cap at_ A zs hz J Jx W hY (cellI_bel hW hBs) hlen (fun h => ⟨(hA h).1, fun j p hj => cellI_bel hW ((hA h).2 j p hj)⟩) hl h0
end Go.Proofs.YtdipflchmooakaaGreatDoor
namespace Go.Proofs.YtdipflchmooakaaGreatDoor
open Go.RowKit Go.Gar

theorem run_min130 (n m : Nat) (h : m = min n 130) (W : World) : (Builtin.min_ #[3, 3] 3 #[.int .i64 (n : Int), .int .i64 130]).run Tryz.prog W = .ok (.int .i64 (m : Int)) W := by
  by_cases hc : (130 : Int) < (n : Int)
  · obtain rfl : m = 130 := by omega
    simp [Builtin.min_, Builtin.min2, hc]
  · obtain rfl : m = n := by omega
    simp [Builtin.min_, Builtin.min2, hc]
theorem common_any (g o1 o2 n1 n2 c1 c2 : Nat) (b : List UInt8) (n i k : Nat) (w : World) (hn : n = b.length) (hik : i < k) (hk : k < n) (hl : n ≤ 1099511627776) (h1 : n1 + i = n) (h2 : n2 + k = n) (hgB : g < w.heap.size)
    (hc1 : ∀ j c, b[i + j]? = some c → w.cell? ⟨g, o1 + j, none⟩ = some (.int .u8 (c.toNat : Int))) (hc2 : ∀ j c, b[k + j]? = some c → w.cell? ⟨g, o2 + j, none⟩ = some (.int .u8 (c.toNat : Int))) (r : Nat) (hrr : r = Lz.same b i k) :
    Calls Tryz.prog 64 #[.slice (some ⟨g, o1, none⟩) n1 c1, .slice (some ⟨g, o2, none⟩) n2 c2] w fun e w' => e = .returned (.int .i64 (r : Int)) ∧ Below w.heap.size w w' := by
  have HN := Lib.hid hn
  have HC1 := Lib.hid hc1
  have HC2 := Lib.hid hc2
  have HR := Lib.hid hrr
  have H1 := Lib.hid h1
  have H2 := Lib.hid h2
  obtain ⟨q, hq⟩ : ∃ q, q = min n2 130 := ⟨_, rfl⟩
  have HQ := Lib.hid hq
  have hmin := run_min130 n2 q hq
  have hq1 : q ≤ 130 := by omega
  clear hn hc1 hc2 hrr h1 h2 hq
  go_enter Tryz.func64, Tryz.ntmps64
  go_wp2
  go_loopw [5] (fun v w' => ∃ m : Nat, m ≤ q ∧ v = .int .i64 (m : Int) ∧ Lz.run b i k (130 - m) m = r ∧ Below w.heap.size w w') (fun v _ => 130 - (intOf v).toNat)
  case atStart => exact ⟨0, by omega, rfl, HR.out.symm, Below.refl _ _⟩
  case round =>
    obtain ⟨m, hm, rfl, hrun, hbe⟩ := hrel
    have Hbe := Lib.hid hbe
    have Hbd : Hid (∀ q, Below w.heap.size w (wr.drewN q)) := Lib.hid (fun q => ⟨hbe.os, hbe.tape, hbe.output, hbe.size, hbe.block⟩)
    clear hbe
    by_cases hmq : m < q
    · have hd1 : decide ((m : Int) < (q : Int)) = true := by simp; omega
      have htn := Lz.run_turn (b := b) (i := i) (k := k) (n := m) (by omega)
      rw [hrun] at htn
      have hkb : k + m < b.length := by rw [← HN.out]; have := HQ.out; have := H2.out; omega
      have hib : i + m < b.length := by omega
      have d1 := (Hbe.out.cell (p := ⟨g, o1 + m, none⟩) hgB).trans (HC1.out m b[i + m] (List.getElem?_eq_getElem hib))
      have d2 := (Hbe.out.cell (p := ⟨g, o2 + m, none⟩) hgB).trans (HC2.out m b[k + m] (List.getElem?_eq_getElem hkb))
      rw [List.getElem?_eq_getElem hib, List.getElem?_eq_getElem hkb] at htn
      generalize b[i + m] = x at d1 htn
      generalize b[k + m] = y at d2 htn
      have hin : (m : Int) < (n1 : Int) := by have := H1.out; have := H2.out; have := HQ.out; omega
      have hkn : (m : Int) < (n2 : Int) := by have := HQ.out; omega
      by_cases hxy : x = y
      · have hqq : ((x.toNat : Int) == (y.toNat : Int)) = true := by rw [hxy]; simp
        rw [if_pos ⟨hkb, by rw [hxy]⟩] at htn
        have HT := Lib.hid htn.symm
        clear htn hrun hxy hkb hib
        go_wp2
        go_quiet (fail)
        go_wp2
        exact ⟨⟨m + 1, by omega, by go_num, HT.out, Hbd.out _⟩, by simp [intOf]; omega⟩
      · have hqq : ((x.toNat : Int) == (y.toNat : Int)) = false := by
          rw [beq_eq_false_iff_ne]
          intro e
          exact hxy (UInt8.toNat_inj.1 (by omega))
        rw [if_neg (fun e => hxy (Option.some.inj e.2))] at htn
        have HT := Lib.hid htn
        clear htn hrun hxy hkb hib
        go_wp2
        go_quiet (fail)
        go_wp2
        go_ret
        exact ⟨by rw [← HT.out]; rfl, Hbd.out _⟩
    · have hd1 : decide ((m : Int) < (q : Int)) = false := by simp; omega
      have HT : Hid (m = r) := Lib.hid (by
        have h3 := HQ.out
        have h4 := H2.out
        by_cases h130 : m = 130
        · subst h130; rw [← hrun]; rfl
        · rw [← hrun, Lz.run_turn (by omega), if_neg (by rw [← HN.out]; omega)])
      clear hrun
      go_wp2
      go_quiet (fail)
      go_wp2
      go_ret
      exact ⟨by rw [← HT.out]; rfl, Hbd.out _⟩
end Go.Proofs.YtdipflchmooakaaGreatDoor
namespace Go.Proofs.YtdipflchmooakaaGreatDoor
open Go.RowKit Go.Shelf Go.Gar
attribute [local go_sem] Oper.semAt_some

theorem keepsI_below {W W' : World} (h : Below W.heap.size W W') : KeepsOthers W W' := ⟨h.size, fun k _ hk _ => (h.block k (Array.getElem?_eq_some_iff.1 hk).1).trans hk⟩
theorem keepsI_cells {W W' : World} {g : Nat} {t : TypeId} {cs : List Value} (hg : W.grownBy W' (some g)) (hB : Blk W g t cs) : KeepsOthers W W' :=
  .of_grownBy hg (fun j o e ho => by cases e; rw [show W.heap[g]? = _ from hB] at ho; cases ho; rfl)
theorem kpD_below {A B : Nat} {W W' : World} (h : Below W.heap.size W W') : KpD A B W W' := ⟨h.size, fun k _ _ ho _ => (h.block k (Array.getElem?_eq_some_iff.1 ho).1).trans ho⟩
theorem kpD_grown {A B g : Nat} {W W' : World} (h : W.grownBy W' (some g)) (hA : A ≠ g) (hB : B ≠ g) : KpD A B W W' :=
  ⟨h.size, fun k _ hk ho _ => (h.block k (Array.getElem?_eq_some_iff.1 ho).1 (fun e => by rcases hk with rfl | rfl <;> exact absurd (Option.some.inj e) ‹_›)).trans ho⟩
theorem grown_rowI {W : World} {g : Nat} {cs : Array Value} : W.grownBy (W.setRow g cs) (some g) :=
  ⟨rfl, rfl, rfl, by simp, fun k _ hr => setRow_other W g k cs (fun e => hr (by rw [e]))⟩
/-- A match as a token's cells. -/
def mT (a : Nat × Nat) : List Value := [.slice none 0 0, .int .i64 (a.1 : Int), .int .i64 (a.2 : Int)]
theorem zT_m : zT = mT (0, 0) := rfl
theorem size_mT (a : Nat × Nat) : (Tryz.prog.info? 61).map (·.size) = some (mT a).length := Tryz.sizeTok
/-- What stands between two rounds. -/
structure Lg (w : World) (B : Nat) (A : Option Addr) (bl bc at_ : Nat) (acc : Nat × Nat) (W : World) : Prop where
  b4 : Blk W B 23 [.slice A bl bc]
  b5 : Blk W (B + 1) 3 [.int .i64 (at_ : Int)]
  b6 : Blk W (B + 2) 61 (mT (0, 0))
  b7 : Blk W (B + 3) 61 (mT acc)
  bel : Below B w W
theorem Lg.below {w : World} {B : Nat} {A : Option Addr} {bl bc at_ : Nat} {acc : Nat × Nat} {W W' : World} (h : Lg w B A bl bc at_ acc W) (hb : Below W.heap.size W W') : Lg w B A bl bc at_ acc W' :=
  ⟨h.b4.below hb h.b4.lt, h.b5.below hb h.b5.lt, h.b6.below hb h.b6.lt, h.b7.below hb h.b7.lt, h.bel.trans (hb.mono (by have := h.b4.lt; omega))⟩
theorem Lg.grown {w : World} {B : Nat} {A : Option Addr} {bl bc at_ : Nat} {acc : Nat × Nat} {W W' : World} {row : Option Nat} (h : Lg w B A bl bc at_ acc W) (hg : W.grownBy W' row) (hr : ∀ r, row = some r → B + 4 ≤ r) : Lg w B A bl bc at_ acc W' :=
  ⟨h.b4.grown hg (fun e => by have := hr _ e.symm; omega), h.b5.grown hg (fun e => by have := hr _ e.symm; omega), h.b6.grown hg (fun e => by have := hr _ e.symm; omega), h.b7.grown hg (fun e => by have := hr _ e.symm; omega),
   h.bel.grown hg (by have := h.b4.lt; omega) (fun k e => by have := hr _ e; omega)⟩

set_option maxRecDepth 100000 in
set_option maxHeartbeats 4000000 in
theorem longest_in (w : World) (base gm n : Nat) (f : List UInt8 → Value) (g o bl bc : Nat) (b : List UInt8) (at_ : Nat) (hW : Win w base gm n f (Lz.win b at_)) (hbl : bl = b.length) (hbc : bl ≤ bc) (hl : bl ≤ 100000) (hat : at_ < bl) (hg : g < w.heap.size)
    (hc : ∀ j c, b[j]? = some c → w.cell? ⟨g, o + j, none⟩ = some (.int .u8 (c.toNat : Int))) (R : Nat × Nat) (hR : Lz.best b at_ = R) :
    CallsIn Fence.wide 10 Tryz.prog 36 #[.map (some gm), .slice (some ⟨g, o, none⟩) bl bc, .int .i64 (at_ : Int)] w fun e w' => e = .returned (.agg (mT R).toArray) ∧ Below w.heap.size w w' := by
  have HBL := Lib.hid hbl
  have HR := Lib.hid hR
  have HC := Lib.hid hc
  have h1 := below_alloc w (.cells #[.slice (some ⟨g, o, none⟩) bl bc] 23)
  have k1 : Blk (w.alloc (.cells #[.slice (some ⟨g, o, none⟩) bl bc] 23)) w.heap.size 23 [.slice (some ⟨g, o, none⟩) bl bc] := Blk.new w _ _
  have z1 : (w.alloc (.cells #[.slice (some ⟨g, o, none⟩) bl bc] 23)).heap.size = w.heap.size + 1 := World.size_alloc _ _
  obtain ⟨w1, e1⟩ : ∃ w1, w.alloc (.cells #[.slice (some ⟨g, o, none⟩) bl bc] 23) = w1 := ⟨_, rfl⟩
  rw [e1] at h1 k1 z1
  have h2 := below_alloc w1 (.cells #[.int .i64 (at_ : Int)] 3)
  have k2 : Blk (w1.alloc (.cells #[.int .i64 (at_ : Int)] 3)) w1.heap.size 3 [.int .i64 (at_ : Int)] := Blk.new w1 _ _
  have z2 : (w1.alloc (.cells #[.int .i64 (at_ : Int)] 3)).heap.size = w1.heap.size + 1 := World.size_alloc _ _
  obtain ⟨w2, e2⟩ : ∃ w2, w1.alloc (.cells #[.int .i64 (at_ : Int)] 3) = w2 := ⟨_, rfl⟩
  rw [e2] at h2 k2 z2
  have h3 := below_alloc w2 (.cells zT.toArray 61)
  have k3 := Blk.new w2 61 zT
  have z3 : (w2.alloc (.cells zT.toArray 61)).heap.size = w2.heap.size + 1 := World.size_alloc _ _
  obtain ⟨w3, e3⟩ : ∃ w3, w2.alloc (.cells zT.toArray 61) = w3 := ⟨_, rfl⟩
  rw [e3] at h3 k3 z3
  have h4 := below_alloc w3 (.cells zT.toArray 61)
  have k4 := Blk.new w3 61 zT
  have z4 : (w3.alloc (.cells zT.toArray 61)).heap.size = w3.heap.size + 1 := World.size_alloc _ _
  obtain ⟨w4, e4⟩ : ∃ w4, w3.alloc (.cells zT.toArray 61) = w4 := ⟨_, rfl⟩
  rw [e4] at h4 k4 z4
  have hb4 : Below w.heap.size w w4 := h1.trans ((h2.mono h1.size).trans ((h3.mono (by omega)).trans (h4.mono (by omega))))
  have hLg : Lg w w.heap.size (some ⟨g, o, none⟩) bl bc at_ (0, 0) w4 :=
    ⟨((k1.below h2 (by omega)).below h3 (by omega)).below h4 (by omega), by rw [show w.heap.size + 1 = w1.heap.size by omega]; exact (k2.below h3 (by omega)).below h4 (by omega), by rw [show w.heap.size + 2 = w2.heap.size by omega]; exact k3.below h4 (by omega), by rw [show w.heap.size + 3 = w3.heap.size by omega]; exact k4, hb4⟩
  have E1 := Lib.hid e1
  have E2 := Lib.hid e2
  have E3 := Lib.hid e3
  have E4 := Lib.hid e4
  have HLg := Lib.hid hLg
  have y1 : w1.heap.size = w.heap.size + 1 := z1
  have y2 : w2.heap.size = w.heap.size + 2 := by omega
  have y3 : w3.heap.size = w.heap.size + 3 := by omega
  have Y1 := Lib.hid y1
  have Y2 := Lib.hid y2
  have Y3 := Lib.hid y3
  have HW := Lib.hid (hW.below hb4)
  have q4 := hLg.b4.cell 0
  have q5 := hLg.b5.cell 0
  clear hbl hR hc h1 k1 z1 e1 h2 k2 z2 e2 h3 k3 z3 e3 h4 k4 z4 e4 hb4 hLg y1 y2 y3 hW
  refine callsIn_of_wp_marks Tryz.func36 rfl trivial ?_ rfl
  simp only [Tryz.ntmps36, List.size_toArray, List.length_cons, List.length_nil, Nat.reduceAdd, Nat.reduceSub, Array.replicate_succ, Array.replicate_zero, List.push_toArray, List.append_toArray, List.nil_append, List.cons_append]
  by_cases h3 : at_ + 3 ≤ bl
  · have d3 : decide ((bl : Int) - (at_ : Int) < 3) = false := by simp; omega
    have hk3 : at_ + 3 ≤ b.length := by rw [← HBL.out]; exact h3
    have hks := Lz.key_len hk3
    have hsl := slice_from g o bl bc at_ (by omega) (by omega)
    have harr := run_arr3 g (o + at_) (bl - at_) (bc - at_) (by omega)
    have hc4 : ∀ j c, b[j]? = some c → w4.cell? ⟨g, o + j, none⟩ = some (.int .u8 (c.toNat : Int)) := fun j c hj => (HLg.out.bel.cell (p := ⟨g, o + j, none⟩) hg).trans (HC.out j c hj)
    have HLd := Lib.hid (load_K hc4 hk3 (o + at_) rfl)
    have hlook := HW.out.map.look hks
    have hrow := HW.out.rows _ hks
    obtain ⟨A0, len, cap, hf0, hlen, g0, o0, hg0, hg3, hcell0⟩ : ∃ A0 len cap, f (Lz.key b at_) = .slice A0 len cap ∧ len = (Lz.win b at_ (Lz.key b at_)).length ∧ ∃ g0 o0, g0 < w4.heap.size ∧ g0 ≠ w.heap.size + 3 ∧ (0 < len → A0 = some ⟨g0, o0, none⟩ ∧ ∀ j p, (Lz.win b at_ (Lz.key b at_))[j]? = some p → w4.cell? ⟨g0, o0 + j, none⟩ = some (.int .i64 ((p : Nat) : Int))) := by
      rcases hrow with ⟨hv, hz⟩ | ⟨g', c, pre, rest, hv, hz, hb, hB, hcc⟩
      · exact ⟨none, 0, 0, hv, by rw [hz]; rfl, w.heap.size, 0, HLg.out.b4.lt, by omega, fun h => absurd h (by omega)⟩
      · refine ⟨_, _, c, hv, rfl, g', pre.length, hB.lt, fun e => (hB.ne HLg.out.b7 (by decide)) e, fun _ => ⟨rfl, fun j p hj => ?_⟩⟩
        have hjl := (List.getElem?_eq_some_iff.1 hj).1
        rw [hB.cell, List.append_assoc, List.getElem?_append_right (by omega), Nat.add_sub_cancel_left, List.getElem?_append_left (by rw [i64s_len]; exact hjl), i64s, List.getElem?_map, hj]
        rfl
    rw [hf0] at hlook
    unfold keyV at hlook
    have hzin : ∀ z ∈ Lz.win b at_ (Lz.key b at_), z < at_ := fun z hz => (Lz.win_in hz).1
    have hle : len ≤ 1000000 := by have := Lz.win_len b at_ (Lz.key b at_); omega
    have HLen := Lib.hid hlen
    have HC0 := Lib.hid hcell0
    have HZin := Lib.hid hzin
    have HG0 := Lib.hid (And.intro hg0 hg3)
    have HBest := Lib.hid (Lz.best_fold hk3)
    clear hk3 hks hc4 hrow hf0 hlen hcell0 hzin hg0 hg3
    gi_wp2_with (first | (refine wpListIn_alloc_arr rfl 61 zT.toArray rfl zero_T ?_; first | rw [E1.out, E2.out, E3.out, Y2.out] | rw [E4.out, Y3.out]) | refine wpListIn_load_arr rfl 110 (.tmp 21) rfl rfl (u8s (Lz.key b at_)).toArray HLd.out ?_)
    refine ⟨trivial, ?_⟩
    refine (back_in 9 A0 len cap w4).mono ?_
    rintro e w5 ⟨rfl, hw5⟩
    have hBs : Blk (w4.alloc (.cells #[.slice A0 len cap] 109)) w4.heap.size 109 [.slice A0 len cap] := Blk.new w4 _ _
    have hb5 := below_alloc w4 (.cells #[.slice A0 len cap] 109)
    rw [← hw5] at hBs hb5
    have hz5 : w5.heap.size = w4.heap.size + 1 := by rw [hw5]; exact World.size_alloc _ _
    have hL5 := HLg.out.below hb5
    have hseq := back_seq 9 (by omega) w4.heap.size g0 o0 len cap at_ A0 _ HZin.out w5 (hBs.cell 0) HLen.out (fun h => ⟨(HC0.out h).1, fun j p hj => cellI_bel hb5 ((HC0.out h).2 j p hj)⟩) hle
    have hz4 : w4.heap.size = w.heap.size + 4 := by
      have h1 : w4.heap.size = w3.heap.size + 1 := by rw [← E4.out]; exact World.size_alloc _ _
      rw [h1, Y3.out]
    have HSeq := Lib.hid hseq
    have HL5 := Lib.hid hL5
    have HZ5 := Lib.hid (And.intro hz4 hz5)
    clear hw5 hBs hb5 hz5 hL5 hseq hlook HLd HC0 hz4 HLg q4 q5
    gi_wp2
    refine wpIn_rangeFunc_ownG (α := PosA at_) rfl (by omega) (gf := 89) (lb := #[.pointer (some ⟨w4.heap.size, 0, none⟩)]) rfl trivial (enters_of Tryz.func89 (by kernel_rfl) rfl) HSeq.out (fun h k => h.trans k) (fun W l o o' _ h1 h2 _ => KpD.put _ _ W l o o' h1 h2) (Below.refl _ _) (fun _ => rfl)
      (fun pre W => Lg w w.heap.size (some ⟨g, o, none⟩) bl bc at_ ((posV pre).foldl (Lz.tryP b at_) (0, 0)) W)
      (fun c pre W => c = .exit 0 ∧ 130 ≤ ((posV pre).foldl (Lz.tryP b at_) (0, 0)).1 ∧ Lg w w.heap.size (some ⟨g, o, none⟩) bl bc at_ ((posV pre).foldl (Lz.tryP b at_) (0, 0)) W)
      ?own ?ownx HL5.out (fun x => { tmps := #[Value.map (some gm), Value.slice (some { block := g, off := o }) bl bc, Value.int IntKind.i64 (at_ : Int), undef,
          Value.pointer (some { block := w.heap.size, off := 0 }),
          Value.pointer (some { block := w.heap.size + 1, off := 0 }),
          Value.pointer (some { block := w.heap.size + 2, off := 0 }),
          Value.pointer (some { block := w.heap.size + 3, off := 0 }), undef, .int .i64 (x.1.2 : Int), undef,
          Value.slice (some { block := g, off := o }) bl bc, Value.int IntKind.i64 (bl : Int), Value.int IntKind.i64 (at_ : Int),
          Value.int IntKind.i64 ((bl : Int) - (at_ : Int)), Value.bool false, undef, Value.map (some gm),
          Value.slice (some { block := g, off := o }) bl bc, Value.int IntKind.i64 (at_ : Int),
          Value.slice (some { block := g, off := o + at_ }) (bl - at_) (bc - at_),
          Value.pointer (some { block := g, off := o + at_ }), Value.agg (u8s (Lz.key b at_)).toArray,
          Value.slice A0 len cap,
          Value.func (Fn.func 89) #[] #[Value.pointer (some { block := w4.heap.size, off := 0 })], .int .i64 (x.1.1 : Int), .int .i64 (x.1.2 : Int), undef,
          undef, undef, undef, undef, undef, undef, undef, undef, undef, undef, undef, undef, undef, undef, undef,
          undef, undef, undef, undef], defers := [] }) ?assign ?body ?done ?stop
    case own =>
      rintro pre W W' row h hgr hrow
      have hz := HZ5.out
      exact h.grown hgr (fun r e => by have := (hrow r e).1; omega)
    case ownx =>
      rintro c pre W W' row ⟨h1, h2, h⟩ hgr hrow
      have hz := HZ5.out
      exact ⟨h1, h2, h.grown hgr (fun r e => by have := (hrow r e).1; omega)⟩
    case assign =>
      rintro l x W K hK
      have HK := Lib.hid hK
      clear hK
      simp only [List.zip_toArray, List.zip_cons_cons, List.zip_nil_right, List.foldl_toArray, List.foldl_cons, List.foldl_nil, List.setIfInBounds_toArray, List.set]
      gi_wp2
      exact HK.out
    case body =>
      rintro l pre x W h hlen
      have hz := HZ5.out
      have hg0 := HG0.out
      have hxp := x.2
      obtain ⟨acc, hacc⟩ : ∃ acc, (posV pre).foldl (Lz.tryP b at_) (0, 0) = acc := ⟨_, rfl⟩
      have hacc2 : (posV (pre ++ [x])).foldl (Lz.tryP b at_) (0, 0) = Lz.tryP b at_ acc x.1.2 := by
        rw [posV_snoc, List.foldl_append, hacc]; rfl
      rw [hacc] at h
      refine wpIn_mono (Q := fun e _ W' => (e = .normal ∧ KeepsFrom w5.heap.size W W' ∧ KpD w4.heap.size g0 W W' ∧ Lg w w.heap.size (some ⟨g, o, none⟩) bl bc at_ (Lz.tryP b at_ acc x.1.2) W') ∨ (e = .exit 0 ∧ KeepsFrom w5.heap.size W W' ∧ 130 ≤ (Lz.tryP b at_ acc x.1.2).1 ∧ Lg w w.heap.size (some ⟨g, o, none⟩) bl bc at_ (Lz.tryP b at_ acc x.1.2) W')) ?_ ?_
      rotate_left
      · rintro e a3 W3 (⟨rfl, h1, h2, h3⟩ | ⟨rfl, h1, h2, h3⟩)
        · exact ⟨h1, h2, show Lg w w.heap.size _ bl bc at_ ((posV (pre ++ [x])).foldl (Lz.tryP b at_) (0, 0)) W3 by rw [hacc2]; exact h3⟩
        · exact ⟨h1, rfl, show 130 ≤ ((posV (pre ++ [x])).foldl (Lz.tryP b at_) (0, 0)).1 by rw [hacc2]; exact h2, show Lg w w.heap.size _ bl bc at_ ((posV (pre ++ [x])).foldl (Lz.tryP b at_) (0, 0)) W3 by rw [hacc2]; exact h3⟩
      obtain ⟨p, hp⟩ : ∃ p, x.1.2 = p := ⟨_, rfl⟩
      obtain ⟨i0, hi0⟩ : ∃ i, x.1.1 = i := ⟨_, rfl⟩
      rw [hp] at hxp ⊢
      rw [hi0]
      obtain ⟨acc', hacc'⟩ : ∃ a, Lz.tryP b at_ acc p = a := ⟨_, rfl⟩
      rw [hacc']
      have HAcc := Lib.hid hacc'
      clear hacc hacc2 hp hi0 hlen x hacc'
      have hLd := h.below (Below.refl _ W).drew
      have HK0 := Lib.hid (keepsI_below (Below.refl _ W).drew)
      have HP0 := Lib.hid (kpD_below (A := w4.heap.size) (B := g0) (Below.refl _ W).drew)
      have HL0 := Lib.hid hLd
      have HGG := Lib.hid (show g < w.heap.size ∧ True from ⟨hg, trivial⟩)
      have hs1 := slice_from g o bl bc p (by omega) (by omega)
      have hs2 := slice_from g o bl bc at_ (by omega) (by omega)
      clear h hLd hz hg0
      gi_wp2_with fail
      refine wpIn_region_G grows (by kernel_rfl) (by kernel_rfl) (by rintro ⟨_, _, hh⟩; rcases hh with hh | hh <;> exact absurd hh.1 (by simp)) ?_
      generalize W.drew = W0 at *
      have q1 := cell_later HL0.out.b4 (i := 0) rfl
      have q2 := cell_later HL0.out.b5 (i := 0) rfl
      refine segG (by kernel_rfl) (fun _ _ _ _ _ h => h) [0, 1, 3, 4, 2, 5] [_, _, _, _, _, _] 2 rfl rfl (by kernel_rfl) ?_
      repeat (go_big_quiet_step (fail))
      refine wpQuiet_nil ?_
      clear q1 q2 hs1 hs2
      refine oneG 6 1 rfl (by kernel_rfl) rfl ?_
      obtain ⟨m, hm⟩ : ∃ m, Lz.same b p at_ = m := ⟨_, rfl⟩
      have hcW : ∀ j c, b[j]? = some c → W0.cell? ⟨g, o + j, none⟩ = some (.int .u8 (c.toNat : Int)) := fun j c hj => (HL0.out.bel.cell (p := ⟨g, o + j, none⟩) hg).trans (HC.out j c hj)
      have hcm := common_any g (o + p) (o + at_) (bl - p) (bl - at_) (bc - p) (bc - at_) b bl p at_ W0 HBL.out hxp hat (by omega) (by omega) (by omega) (Nat.lt_of_lt_of_le hg HL0.out.bel.size) (fun j c hj => by rw [Nat.add_assoc]; exact hcW _ c hj) (fun j c hj => by rw [Nat.add_assoc]; exact hcW _ c hj) m hm.symm
      have HM := Lib.hid hm
      clear hm hcW
      go_wp2_with fail
      refine hcm.mono ?_
      rintro e W1 ⟨rfl, hb1⟩
      clear hcm
      have HL1 := Lib.hid (HL0.out.below hb1)
      have HK1 := Lib.hid (HK0.out.trans (keepsI_below hb1))
      have HP1 := Lib.hid (HP0.out.trans (kpD_below hb1))
      clear HL0 HK0 HP0
      go_wp2
      refine ⟨hb1, ?_⟩
      clear hb1
      refine segG (by kernel_rfl) (fun _ _ _ _ _ h => h) [7] [_] 0 rfl rfl (by kernel_rfl) ?_
      repeat (go_big_quiet_step (fail))
      refine wpQuiet_nil ?_
      refine wpAnyG_done (by kernel_rfl) ?_
      have c7 := HL1.out.b7.cell 1
      rw [show (mT acc)[1]? = some (.int .i64 (acc.1 : Int)) from rfl] at c7
      have c5 := HL1.out.b5.cell 0
      have hac := HAcc.out
      unfold Lz.tryP at hac
      rw [HM.out] at hac
      obtain ⟨a1, ha1⟩ : ∃ a1, acc.1 = a1 := ⟨_, rfl⟩
      rw [ha1] at c7 hac
      by_cases hlt : a1 < m
      · have d7 : decide ((a1 : Int) < (m : Int)) = true := by simp; omega
        rw [if_pos hlt] at hac
        subst hac
        have hld2 : W1.heap.size ≤ (W1.setRow (w.heap.size + 3) (mT (m, at_ - p)).toArray).heap.size := by simp
        have hz := HZ5.out
        have hL2 : Lg w w.heap.size (some ⟨g, o, none⟩) bl bc at_ (m, at_ - p) (W1.setRow (w.heap.size + 3) (mT (m, at_ - p)).toArray) :=
          ⟨HL1.out.b4.rowFar (by omega) _, HL1.out.b5.rowFar (by omega) _, HL1.out.b6.rowFar (by omega) _, HL1.out.b7.row (mT (m, at_ - p)), below_setRow HL1.out.bel (by omega) _⟩
        have hgr : W1.grownBy (W1.setRow (w.heap.size + 3) (mT (m, at_ - p)).toArray) (some (w.heap.size + 3)) := grown_rowI
        have HK2 := Lib.hid ((HK1.out.trans (keepsI_cells hgr HL1.out.b7)).from w5.heap.size)
        have hg0 := HG0.out
        have HP2 := Lib.hid (HP1.out.trans (kpD_grown hgr (A := w4.heap.size) (B := g0) (by omega) (by omega)))
        have HL2 := Lib.hid hL2
        have c8 := hL2.b7.cell 1
        rw [show (mT (m, at_ - p))[1]? = some (.int .i64 (m : Int)) from rfl] at c8
        have HB7 := Lib.hid HL1.out.b7
        have es : IntKind.i64.wrap ((at_ : Int) - (p : Int)) = (at_ : Int) - (p : Int) := IntWalk.i64_in _ (by omega)
        have e2 : ((at_ : Int) - (p : Int)) = ((at_ - p : Nat) : Int) := by omega
        clear hL2 hgr hld2 HK1 HP1 hz hg0
        by_cases h130 : m = 130
        · subst h130
          gi_wp2_with (refine wpListIn_store_arr rfl 61 (.tmp 7) (.tmp 42) (w.heap.size + 3) (mT acc) (mT (130, at_ - p)) rfl rfl rfl rfl HB7.out (size_mT _) rfl (fun u hu => cellsT_one [⟨none, [], 0, ((130 : Nat) : Int), ((at_ - p : Nat) : Int)⟩] u (by simpa [cellsT, Tv.cells, mT] using hu)) ?_)
          exact ⟨HK2.out, HL2.out⟩
        · have d9 : ((m : Int) == 130) = false := by simp; omega
          gi_wp2_with (refine wpListIn_store_arr rfl 61 (.tmp 7) (.tmp 42) (w.heap.size + 3) (mT acc) (mT (m, at_ - p)) rfl rfl rfl rfl HB7.out (size_mT _) rfl (fun u hu => cellsT_one [⟨none, [], 0, ((m : Nat) : Int), ((at_ - p : Nat) : Int)⟩] u (by simpa [cellsT, Tv.cells, mT] using hu)) ?_)
          exact ⟨HK2.out, HP2.out, HL2.out⟩
      · have d7 : decide ((a1 : Int) < (m : Int)) = false := by simp; omega
        rw [if_neg hlt] at hac
        subst hac
        have HK2 := Lib.hid (HK1.out.from w5.heap.size)
        clear HK1
        by_cases h130 : a1 = 130
        · subst h130
          gi_wp2
          exact ⟨HK2.out, HL1.out⟩
        · have d9 : ((a1 : Int) == 130) = false := by simp; omega
          gi_wp2
          exact ⟨HK2.out, HP1.out, HL1.out⟩
    case done =>
      rintro D xs W hD hxs h hK
      rw [hxs, ← HBest.out, HR.out] at h
      have HD := Lib.hid hD
      clear hxs hD
      have hz := HZ5.out
      have hDB : w.heap.size + 4 < D := by have := HD.out; omega
      have hld := run_loadVar_row (P := Tryz.prog) W (w.heap.size + 3) 61 61 (mT R).toArray (0, 0) _ h.b7 Tryz.undTok rfl (by simpa using size_mT R)
      have HLd := Lib.hid hld
      have HB6 := Lib.hid h.b6
      have Hbl := Lib.hid (below_setRow h.bel (by omega : w.heap.size ≤ w.heap.size + 2) (mT R).toArray)
      have hK5 : (W.setRow (w.heap.size + 2) (mT R).toArray).heap[D]? = some (.deferred (some [])) := by
        rw [setRow_other W (w.heap.size + 2) D _ (by omega)]
        exact hK
      have HK5 := Lib.hid hK5
      clear hz hld hK5 h hK
      gi_wp2_with (first | refine wpListIn_load_arr rfl 61 (.tmp 7) rfl rfl (mT R).toArray HLd.out ?_ | refine wpListIn_store_arr rfl 61 (.tmp 6) (.tmp 46) (w.heap.size + 2) (mT (0, 0)) (mT R) rfl rfl rfl rfl HB6.out (size_mT R) rfl (fun u hu => cellsT_one [⟨none, [], 0, R.1, R.2⟩] u (by simpa [cellsT, Tv.cells, mT] using hu)) ?_)
      refine ⟨by simp, .inl ⟨_, _, rfl, run_takeDeferred HK5.out, ?_⟩⟩
      have hB6 : Blk ((W.setRow (w.heap.size + 2) (mT R).toArray).putObj D (.deferred none)) (w.heap.size + 2) 61 (mT R) := (World.putObj_heap_other (by omega)).trans (HB6.out.row _)
      have hl6 := run_loadVar_row (P := Tryz.prog) ((W.setRow (w.heap.size + 2) (mT R).toArray).putObj D (.deferred none)) (w.heap.size + 2) 61 61 (mT R).toArray (0, 0) _ hB6 Tryz.undTok rfl (by simpa using size_mT R)
      refine ⟨.agg (mT R).toArray, ?_, rfl, Hbl.out.grown (grownBy_putObj' _ D _) Hbl.out.size (fun k e => by have := Option.some.inj e; omega)⟩
      generalize (mT R).toArray = X at hl6 ⊢
      simp [results, Tryz.results36, asAddr, Act.put, hl6]
    case stop =>
      rintro D c pre W hD ⟨t, ht⟩ ⟨rfl, h130, h⟩ hK
      have hacc : (posV pre).foldl (Lz.tryP b at_) (0, 0) = R := by
        rw [← HR.out, HBest.out, ← ht, List.foldl_append, Lz.tryP_fulls h130]
      rw [hacc] at h
      have HD := Lib.hid hD
      clear ht hD h130 hacc
      have hz := HZ5.out
      have hDB : w.heap.size + 4 < D := by have := HD.out; omega
      have hld := run_loadVar_row (P := Tryz.prog) W (w.heap.size + 3) 61 61 (mT R).toArray (0, 0) _ h.b7 Tryz.undTok rfl (by simpa using size_mT R)
      have HLd := Lib.hid hld
      have HB6 := Lib.hid h.b6
      have Hbl := Lib.hid (below_setRow h.bel (by omega : w.heap.size ≤ w.heap.size + 2) (mT R).toArray)
      have hK5 : (W.setRow (w.heap.size + 2) (mT R).toArray).heap[D]? = some (.deferred (some [])) := by
        rw [setRow_other W (w.heap.size + 2) D _ (by omega)]
        exact hK
      have HK5 := Lib.hid hK5
      clear hz hld hK5 h hK
      gi_wp2_with (first | refine wpListIn_load_arr rfl 61 (.tmp 7) rfl rfl (mT R).toArray HLd.out ?_ | refine wpListIn_store_arr rfl 61 (.tmp 6) (.tmp 46) (w.heap.size + 2) (mT (0, 0)) (mT R) rfl rfl rfl rfl HB6.out (size_mT R) rfl (fun u hu => cellsT_one [⟨none, [], 0, R.1, R.2⟩] u (by simpa [cellsT, Tv.cells, mT] using hu)) ?_)
      refine ⟨by simp, .inl ⟨_, _, rfl, run_takeDeferred HK5.out, ?_⟩⟩
      have hB6 : Blk ((W.setRow (w.heap.size + 2) (mT R).toArray).putObj D (.deferred none)) (w.heap.size + 2) 61 (mT R) := (World.putObj_heap_other (by omega)).trans (HB6.out.row _)
      have hl6 := run_loadVar_row (P := Tryz.prog) ((W.setRow (w.heap.size + 2) (mT R).toArray).putObj D (.deferred none)) (w.heap.size + 2) 61 61 (mT R).toArray (0, 0) _ hB6 Tryz.undTok rfl (by simpa using size_mT R)
      refine ⟨.agg (mT R).toArray, ?_, rfl, Hbl.out.grown (grownBy_putObj' _ D _) Hbl.out.size (fun k e => by have := Option.some.inj e; omega)⟩
      generalize (mT R).toArray = X at hl6 ⊢
      simp [results, Tryz.results36, asAddr, Act.put, hl6]
  · have d3 : decide ((bl : Int) - (at_ : Int) < 3) = true := by simp; omega
    have hR0 : R = (0, 0) := by rw [← HR.out]; exact Lz.best_short (by rw [← HBL.out]; exact h3)
    subst hR0
    have hld := run_loadVar_row (P := Tryz.prog) w4 (w.heap.size + 3) 61 61 (mT (0, 0)).toArray (0, 0) _ HLg.out.b7 Tryz.undTok rfl (by simpa using size_mT (0, 0))
    have HLd := Lib.hid hld
    clear hld
    gi_wp2_with (first | (refine wpListIn_alloc_arr rfl 61 zT.toArray rfl zero_T ?_; first | rw [E1.out, E2.out, E3.out, Y2.out] | rw [E4.out, Y3.out]) | refine wpListIn_load_arr rfl 61 (.tmp 7) rfl rfl (mT (0, 0)).toArray HLd.out ?_ | refine wpListIn_store_arr rfl 61 (.tmp 6) (.tmp 16) (w.heap.size + 2) (mT (0, 0)) (mT (0, 0)) rfl rfl rfl rfl HLg.out.b6 (size_mT _) rfl (fun u hu => cellsT_one [⟨none, [], 0, 0, 0⟩] u (by simpa [cellsT, Tv.cells, mT] using hu)) ?_)
    have hl6 := run_loadVar_row (P := Tryz.prog) (w4.setRow (w.heap.size + 2) (mT (0, 0)).toArray) (w.heap.size + 2) 61 61 (mT (0, 0)).toArray (0, 0) _ (HLg.out.b6.row _) Tryz.undTok rfl (by simpa using size_mT (0, 0))
    have hbl := below_setRow HLg.out.bel (by omega : w.heap.size ≤ w.heap.size + 2) (mT (0, 0)).toArray
    refine ⟨.agg (mT (0, 0)).toArray, ?_, rfl, hbl⟩
    generalize (mT (0, 0)).toArray = X at hl6 ⊢
    simp [results, Tryz.results36, asAddr, Act.put, hl6]
theorem longest_any (w : World) (base gm n : Nat) (f : List UInt8 → Value) (g o bl bc : Nat) (b : List UInt8) (at_ : Nat) (hW : Win w base gm n f (Lz.win b at_)) (hbl : bl = b.length) (hbc : bl ≤ bc) (hl : bl ≤ 100000) (hat : at_ < bl) (hg : g < w.heap.size)
    (hc : ∀ j c, b[j]? = some c → w.cell? ⟨g, o + j, none⟩ = some (.int .u8 (c.toNat : Int))) (R : Nat × Nat) (hR : Lz.best b at_ = R) :
    Calls Tryz.prog 36 #[.map (some gm), .slice (some ⟨g, o, none⟩) bl bc, .int .i64 (at_ : Int)] w fun e w' => e = .returned (.agg (mT R).toArray) ∧ Below w.heap.size w w' :=
  callsIn_wide.1 (longest_in w base gm n f g o bl bc b at_ hW hbl hbc hl hat hg hc R hR)
end Go.Proofs.YtdipflchmooakaaGreatDoor
