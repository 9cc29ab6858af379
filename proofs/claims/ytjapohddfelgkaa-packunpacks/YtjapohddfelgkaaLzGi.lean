/-
  The landed lz: the library's Backward over positions: its contract.
-/
import Derived.RangeFuncNested
import Derived.RangeFuncBound
import Derived.RangeFuncCalls
import Derived.RangeFuncLeaves
import Derived.Shelf.Abstract
import Derived.Shelf.RegionOpen
import Derived.WalkKit
import Derived.OwnWalkIn
import Derived.TacticsInMore
import Derived.LoopNIn
import Derived.LoopIn
import Derived.Test.YtjapohddfelgkaaShGh
import Derived.Test.YtjapohddfelgkaaLzGd
set_option maxRecDepth 100000
namespace Go.Proofs.Ytjapohddfelgkaa
open Go.RowKit Go.Shelf Go.Gar
attribute [local go_sem] Oper.semAt_some

/-- What comes: an index and a position before a place. -/
abbrev PosA (at_ : Nat) := { x : Nat × Nat // x.2 < at_ }
def posV {at_ : Nat} (xs : List (PosA at_)) : List Nat := xs.map (·.1.2)
theorem posV_snoc {at_ : Nat} (xs : List (PosA at_)) (x : PosA at_) : posV (xs ++ [x]) = posV xs ++ [x.1.2] := by simp [posV]
/-- A round keeps two blocks. -/
structure KpD (A B : Nat) (W W' : World) : Prop where
  size : W.heap.size ≤ W'.heap.size
  same : ∀ (k : Nat) (o : Obj), k = A ∨ k = B → W.heap[k]? = some o → o.isCells = true → W'.heap[k]? = some o
theorem KpD.trans {A B : Nat} {X Y Z : World} (h : KpD A B X Y) (k : KpD A B Y Z) : KpD A B X Z :=
  ⟨Nat.le_trans h.size k.size, fun i o hi ho hc => k.same i o hi (h.same i o hi ho hc) hc⟩
theorem KpD.put (A B : Nat) (W : World) (l : Nat) (o o' : Obj) (hl : W.heap[l]? = some o) (ho : o.isCells = false) : KpD A B W (W.putObj l o') :=
  ⟨by simp, fun k p _ hk hp => by
    have : k ≠ l := by rintro rfl; rw [hl] at hk; cases hk; rw [ho] at hp; cases hp
    exact (World.putObj_heap_other this).trans hk⟩
theorem KpD.cell {A B : Nat} {W W' : World} (h : KpD A B W W') {p : Addr} {v : Value} (hp : W.cell? p = some v) (hn : p.block = A ∨ p.block = B) : W'.cell? p = some v := by
  obtain ⟨o, ho, hc⟩ := cells_of_cell hp
  rw [← hp]
  exact World.cell?_of_block ((h.same _ _ hn ho hc).trans ho.symm)
theorem kpD_only {A B : Nat} {F : Nat → Prop} {W W' : World} (h : Only F W W') (hA : ¬ F A) (hB : ¬ F B) : KpD A B W W' :=
  ⟨h.size, fun k o hk ho _ => (h.block k (Array.getElem?_eq_some_iff.1 ho).1 (by rcases hk with rfl | rfl <;> assumption)).trans ho⟩
theorem cellI_bel {w w' : World} (hb : Below w.heap.size w w') {p : Addr} {v : Value} (h : w.cell? p = some v) : w'.cell? p = some v := by
  rw [hb.cell (p := p) (World.block_lt_of_cell? w p h), h]

set_option maxRecDepth 100000 in
set_option maxHeartbeats 1000000 in
theorem back1_in (n : Nat) (hn : 1 ≤ n) (l Bs g o len cap at_ : Nat) (A : Option Addr) (zs : List Nat) (hz : ∀ z ∈ zs, z < at_) (J Jx : List (PosA at_) → World → Prop) (W : World)
    (hY : ∀ pre (x : PosA at_) W1, J pre W1 → pre.length < zs.length → YieldAt Fence.wide (n - 1) Try.prog l #[.int .i64 (x.1.1 : Int), .int .i64 (x.1.2 : Int)] W1 fun e W' => (e = .returned (.bool true) ∧ J (pre ++ [x]) W' ∧ KpD Bs g W1 W') ∨ (e = .returned (.bool false) ∧ Jx (pre ++ [x]) W'))
    (hBs : W.cell? ⟨Bs, 0, none⟩ = some (.slice A len cap)) (hlen : len = zs.length) (hA : 0 < len → A = some ⟨g, o, none⟩ ∧ ∀ j p, zs[j]? = some p → W.cell? ⟨g, o + j, none⟩ = some (.int .i64 ((p : Nat) : Int))) (hl : len ≤ 1000000) (h0 : J [] W) :
    CallsIn Fence.wide n Try.prog 35 #[.func (.yield l) #[] #[], .pointer (some ⟨Bs, 0, none⟩)] W fun e W' => (∃ v, e = .returned v) ∧ ((∃ xs, posV xs = zs.reverse ∧ J xs W') ∨ ∃ pre, (∃ t, posV pre ++ t = zs.reverse) ∧ Jx pre W') := by
  have HY := Lib.hid hY
  have HA := Lib.hid hA
  have H0 := Lib.hid h0
  have HL := Lib.hid hlen
  have HZ := Lib.hid hz
  clear hY hA h0 hlen hz
  refine callsIn_of_wp Try.func35 rfl trivial ?_ rfl
  simp only [Try.ntmps35, List.size_toArray, List.length_cons, List.length_nil, Nat.reduceAdd, Nat.reduceSub, Array.replicate_succ, Array.replicate_zero, List.push_toArray, List.append_toArray, List.nil_append, List.cons_append]
  gi_wp2
  gi_loopw [3] (fun v wr => ∃ (j : Int) (k : Nat) (pre : List (PosA at_)), v = .int .i64 j ∧ j + 1 = (k : Int) ∧ k ≤ len ∧ posV pre = (zs.drop k).reverse ∧ wr.cell? ⟨Bs, 0, none⟩ = some (.slice A len cap) ∧ (∀ j p, 0 < len → zs[j]? = some p → wr.cell? ⟨g, o + j, none⟩ = some (.int .i64 ((p : Nat) : Int))) ∧ J pre wr)
    (fun v _ => (intOf v + 1).toNat)
  case atStart => exact ⟨(len : Int) - 1, len, [], rfl, by omega, Nat.le_refl _, by rw [List.drop_eq_nil_of_le (by rw [HL.out]; exact Nat.le_refl _)]; rfl, hBs, fun j p h hj => (HA.out h).2 j p hj, H0.out⟩
  case round =>
    obtain ⟨j, k, pre, rfl, hjk, hk, hpos, hB, hcs, hJ⟩ := hrel
    clear hBs H0
    by_cases hk0 : k = 0
    · subst hk0
      obtain rfl : j = -1 := by omega
      have HE : Hid (posV pre = zs.reverse) := Lib.hid (by rw [hpos]; rfl)
      have HJ := Lib.hid hJ
      clear hpos hcs hJ hjk hB
      gi_wp2
      go_end0
      exact ⟨⟨_, rfl⟩, .inl ⟨pre, HE.out, HJ.out⟩⟩
    · obtain ⟨m, rfl⟩ : ∃ m, k = m + 1 := ⟨k - 1, by omega⟩
      obtain rfl : j = (m : Int) := by omega
      have hmz : m < zs.length := by rw [← HL.out]; omega
      obtain ⟨p, hp⟩ : ∃ p, zs[m]? = some p := ⟨_, List.getElem?_eq_getElem hmz⟩
      have hpa : p < at_ := HZ.out p (List.mem_of_getElem? hp)
      have hcell := hcs m p (by omega) hp
      obtain rfl := (HA.out (by omega)).1
      obtain ⟨fn, tmps, assign, body, hy, hR⟩ := HY.out pre ⟨(m, p), hpa⟩ wr hJ (by
        have h := congrArg List.length hpos
        simp [posV] at h
        rw [h]
        omega)
      have hdrop : zs.drop m = p :: zs.drop (m + 1) := by
        rw [List.drop_eq_getElem_cons hmz]
        congr 1
        exact (List.getElem?_eq_some_iff.1 hp).2
      have HPos : Hid (posV (pre ++ [⟨(m, p), hpa⟩]) = (zs.drop m).reverse) := Lib.hid (by rw [posV_snoc, hpos, hdrop, List.reverse_cons])
      have HSp : Hid (∃ t, posV (pre ++ [(⟨(m, p), hpa⟩ : PosA at_)]) ++ t = zs.reverse) := Lib.hid ⟨(zs.take m).reverse, by rw [HPos.out, ← List.reverse_append, List.take_append_drop]⟩
      have d0 : decide ((0 : Int) ≤ (m : Int)) = true := by simp
      have hin : (m : Int) < (len : Int) := by omega
      have HCs := Lib.hid hcs
      have HB := Lib.hid hB
      clear hpos hcs hJ hjk hmz hp hdrop
      gi_wp2
      refine hR.mono ?_
      rintro e W3 (⟨rfl, hJ3, hk3⟩ | ⟨rfl, hx3⟩)
      · have HJ3 := Lib.hid hJ3
        have HB3 := Lib.hid (hk3.cell HB.out (.inl rfl))
        have HCs3 : Hid (∀ j p, 0 < len → zs[j]? = some p → W3.cell? ⟨g, o + j, none⟩ = some (.int .i64 ((p : Nat) : Int))) := Lib.hid (fun j p h1 h2 => hk3.cell (HCs.out j p h1 h2) (.inr rfl))
        clear hJ3 hk3 hR hy HB HCs hB hcell
        gi_wp2
        exact ⟨⟨(m : Int) - 1, m, _, rfl, by omega, by omega, HPos.out, HB3.out, HCs3.out, HJ3.out⟩, by simp [intOf]⟩
      · have HX := Lib.hid hx3
        clear hx3 hR hy HB HCs hB hcell
        gi_wp2
        refine bodyPost_ret (results_none rfl _ _ _) rfl ?_
        exact ⟨⟨_, rfl⟩, .inr ⟨_, HSp.out, HX.out⟩⟩
set_option maxRecDepth 100000 in
set_option maxHeartbeats 1000000 in
theorem back_in (n : Nat) (A : Option Addr) (len cap : Nat) (w : World) :
    CallsIn Fence.wide n Try.prog 31 #[.slice A len cap] w fun e w' => e = .returned (.func (.func 35) #[] #[.pointer (some ⟨w.heap.size, 0, none⟩)]) ∧ w' = w.alloc (.cells #[.slice A len cap] 57) := by
  refine callsIn_of_wp Try.func31 rfl trivial ?_ rfl
  simp only [Try.ntmps31, List.size_toArray, List.length_cons, List.length_nil, Nat.reduceAdd, Nat.reduceSub, Array.replicate_succ, Array.replicate_zero, List.push_toArray, List.append_toArray, List.nil_append, List.cons_append]
  gi_wp2
  refine bodyPost_ret (results_tmp rfl _ _ _) rfl ?_
  exact ⟨rfl, rfl⟩
theorem back_seq (n : Nat) (hn : 1 ≤ n) (Bs g o len cap at_ : Nat) (A : Option Addr) (zs : List Nat) (hz : ∀ z ∈ zs, z < at_) (w : World)
    (hBs : w.cell? ⟨Bs, 0, none⟩ = some (.slice A len cap)) (hlen : len = zs.length) (hA : 0 < len → A = some ⟨g, o, none⟩ ∧ ∀ j p, zs[j]? = some p → w.cell? ⟨g, o + j, none⟩ = some (.int .i64 ((p : Nat) : Int))) (hl : len ≤ 1000000) :
    SeqStopsK Fence.wide n Try.prog 35 #[.pointer (some ⟨Bs, 0, none⟩)] (fun x : PosA at_ => #[.int .i64 (x.1.1 : Int), .int .i64 (x.1.2 : Int)]) (KpD Bs g) (fun xs => posV xs = zs.reverse) (fun pre => ∃ t, posV pre ++ t = zs.reverse) zs.length w := by
  intro l J Jx W hW hJ hJx hY h0
  exact back1_in n hn l Bs g o len cap at_ A zs hz J Jx W hY (cellI_bel hW hBs) hlen (fun h => ⟨(hA h).1, fun j p hj => cellI_bel hW ((hA h).2 j p hj)⟩) hl h0
end Go.Proofs.Ytjapohddfelgkaa
