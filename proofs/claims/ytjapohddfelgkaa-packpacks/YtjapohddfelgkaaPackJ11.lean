/-
  The landed lz: the library's Backward over positions: its contract. The landed lz: common: its contract. A statement that draws its order, within a round of a range over a function: what the plain calculus shows of it serves there too. Of no program; a tool for the walks.
-/
import Derived.RangeFuncNested
import Derived.RangeFuncBound
import Derived.RangeFuncCalls
import Derived.RangeFuncLeaves
import Derived.Shelf.Abstract
import Derived.Shelf.RegionOpen
import Derived.WalkKit
import Derived.OwnWalkIn
import Derived.TacticsInMore
import Derived.LoopNIn
import Derived.LoopIn
import Derived.Test.YtjapohddfelgkaaPackJ09
import Derived.Test.YtjapohddfelgkaaPackJ10
import Derived.Test.YtjapohddfelgkaaPackJ07
import Derived.IntWalk
import Derived.BigQuiet
import Derived.Test.YtjapohddfelgkaaPackJ05
import Derived.OrdersIn
set_option maxRecDepth 100000
namespace Go.Proofs.Ytjapohddfelgkaa
open Go.RowKit Go.Shelf Go.Gar
attribute [local go_sem] Oper.semAt_some

/-- What comes: an index and a position before a place. -/
abbrev PosA (at_ : Nat) := { x : Nat × Nat // x.2 < at_ }
def posV {at_ : Nat} (xs : List (PosA at_)) : List Nat := xs.map (·.1.2)
theorem posV_snoc {at_ : Nat} (xs : List (PosA at_)) (x : PosA at_) : posV (xs ++ [x]) = posV xs ++ [x.1.2] := by simp [posV]
/-- A round keeps two blocks. -/
structure KpD (A B : Nat) (W W' : World) : Prop where
  size : W.heap.size ≤ W'.heap.size
  same : ∀ (k : Nat) (o : Obj), k = A ∨ k = B → W.heap[k]? = some o → o.isCells = true → W'.heap[k]? = some o
theorem KpD.trans {A B : Nat} {X Y Z : World} (h : KpD A B X Y) (k : KpD A B Y Z) : KpD A B X Z :=
  ⟨Nat.le_trans h.size k.size, fun i o hi ho hc => k.same i o hi (h.same i o hi ho hc) hc⟩
theorem KpD.put (A B : Nat) (W : World) (l : Nat) (o o' : Obj) (hl : W.heap[l]? = some o) (ho : o.isCells = false) : KpD A B W (W.putObj l o') :=
  ⟨by simp, fun k p _ hk hp => by
    have : k ≠ l := by rintro rfl; rw [hl] at hk; cases hk; rw [ho] at hp; cases hp
    exact (World.putObj_heap_other this).trans hk⟩
theorem KpD.cell {A B : Nat} {W W' : World} (h : KpD A B W W') {p : Addr} {v : Value} (hp : W.cell? p = some v) (hn : p.block = A ∨ p.block = B) : W'.cell? p = some v := by
  obtain ⟨o, ho, hc⟩ := cells_of_cell hp
  rw [← hp]
  exact World.cell?_of_block ((h.same _ _ hn ho hc).trans ho.symm)
theorem kpD_only {A B : Nat} {F : Nat → Prop} {W W' : World} (h : Only F W W') (hA : ¬ F A) (hB : ¬ F B) : KpD A B W W' :=
  ⟨h.size, fun k o hk ho _ => (h.block k (Array.getElem?_eq_some_iff.1 ho).1 (by rcases hk with rfl | rfl <;> assumption)).trans ho⟩
theorem cellI_bel {w w' : World} (hb : Below w.heap.size w w') {p : Addr} {v : Value} (h : w.cell? p = some v) : w'.cell? p = some v := by
  rw [hb.cell (p := p) (World.block_lt_of_cell? w p h), h]

set_option maxRecDepth 100000 in
set_option maxHeartbeats 1000000 in
theorem back1_in (n : Nat) (hn : 1 ≤ n) (l Bs g o len cap at_ : Nat) (A : Option Addr) (zs : List Nat) (hz : ∀ z ∈ zs, z < at_) (J Jx : List (PosA at_) → World → Prop) (W : World)
    (hY : ∀ pre (x : PosA at_) W1, J pre W1 → pre.length < zs.length → YieldAt Fence.wide (n - 1) Try.prog l #[.int .i64 (x.1.1 : Int), .int .i64 (x.1.2 : Int)] W1 fun e W' => (e = .returned (.bool true) ∧ J (pre ++ [x]) W' ∧ KpD Bs g W1 W') ∨ (e = .returned (.bool false) ∧ Jx (pre ++ [x]) W'))
    (hBs : W.cell? ⟨Bs, 0, none⟩ = some (.slice A len cap)) (hlen : len = zs.length) (hA : 0 < len → A = some ⟨g, o, none⟩ ∧ ∀ j p, zs[j]? = some p → W.cell? ⟨g, o + j, none⟩ = some (.int .i64 ((p : Nat) : Int))) (hl : len ≤ 1000000) (h0 : J [] W) :
    CallsIn Fence.wide n Try.prog 35 #[.func (.yield l) #[] #[], .pointer (some ⟨Bs, 0, none⟩)] W fun e W' => (∃ v, e = .returned v) ∧ ((∃ xs, posV xs = zs.reverse ∧ J xs W') ∨ ∃ pre, (∃ t, posV pre ++ t = zs.reverse) ∧ Jx pre W') := by
  have HY := Lib.hid hY
  have HA := Lib.hid hA
  have H0 := Lib.hid h0
  have HL := Lib.hid hlen
  have HZ := Lib.hid hz
  clear hY hA h0 hlen hz
  refine callsIn_of_wp Try.func35 rfl trivial ?_ rfl
  simp only [Try.ntmps35, List.size_toArray, List.length_cons, List.length_nil, Nat.reduceAdd, Nat.reduceSub, Array.replicate_succ, Array.replicate_zero, List.push_toArray, List.append_toArray, List.nil_append, List.cons_append]
  gi_wp2
  gi_loopw [3] (fun v wr => ∃ (j : Int) (k : Nat) (pre : List (PosA at_)), v = .int .i64 j ∧ j + 1 = (k : Int) ∧ k ≤ len ∧ posV pre = (zs.drop k).reverse ∧ wr.cell? ⟨Bs, 0, none⟩ = some (.slice A len cap) ∧ (∀ j p, 0 < len → zs[j]? = some p → wr.cell? ⟨g, o + j, none⟩ = some (.int .i64 ((p : Nat) : Int))) ∧ J pre wr)
    (fun v _ => (intOf v + 1).toNat)
  case atStart => exact ⟨(len : Int) - 1, len, [], rfl, by omega, Nat.le_refl _, by rw [List.drop_eq_nil_of_le (by rw [HL.out]; exact Nat.le_refl _)]; rfl, hBs, fun j p h hj => (HA.out h).2 j p hj, H0.out⟩
  case round =>
    obtain ⟨j, k, pre, rfl, hjk, hk, hpos, hB, hcs, hJ⟩ := hrel
    clear hBs H0
    by_cases hk0 : k = 0
    · subst hk0
      obtain rfl : j = -1 := by omega
      have HE : Hid (posV pre = zs.reverse) := Lib.hid (by rw [hpos]; rfl)
      have HJ := Lib.hid hJ
      clear hpos hcs hJ hjk hB
      gi_wp2
      go_end0
      exact ⟨⟨_, rfl⟩, .inl ⟨pre, HE.out, HJ.out⟩⟩
    · obtain ⟨m, rfl⟩ : ∃ m, k = m + 1 := ⟨k - 1, by omega⟩
      obtain rfl : j = (m : Int) := by omega
      have hmz : m < zs.length := by rw [← HL.out]; omega
      obtain ⟨p, hp⟩ : ∃ p, zs[m]? = some p := ⟨_, List.getElem?_eq_getElem hmz⟩
      have hpa : p < at_ := HZ.out p (List.mem_of_getElem? hp)
      have hcell := hcs m p (by omega) hp
      obtain rfl := (HA.out (by omega)).1
      obtain ⟨fn, tmps, assign, body, hy, hR⟩ := HY.out pre ⟨(m, p), hpa⟩ wr hJ (by
        have h := congrArg List.length hpos
        simp [posV] at h
        rw [h]
        omega)
      have hdrop : zs.drop m = p :: zs.drop (m + 1) := by
        rw [List.drop_eq_getElem_cons hmz]
        congr 1
        exact (List.getElem?_eq_some_iff.1 hp).2
      have HPos : Hid (posV (pre ++ [⟨(m, p), hpa⟩]) = (zs.drop m).reverse) := Lib.hid (by rw [posV_snoc, hpos, hdrop, List.reverse_cons])
      have HSp : Hid (∃ t, posV (pre ++ [(⟨(m, p), hpa⟩ : PosA at_)]) ++ t = zs.reverse) := Lib.hid ⟨(zs.take m).reverse, by rw [HPos.out, ← List.reverse_append, List.take_append_drop]⟩
      have d0 : decide ((0 : Int) ≤ (m : Int)) = true := by simp
      have hin : (m : Int) < (len : Int) := by omega
      have HCs := Lib.hid hcs
      have HB := Lib.hid hB
      clear hpos hcs hJ hjk hmz hp hdrop
      gi_wp2
      refine hR.mono ?_
      rintro e W3 (⟨rfl, hJ3, hk3⟩ | ⟨rfl, hx3⟩)
      · have HJ3 := Lib.hid hJ3
        have HB3 := Lib.hid (hk3.cell HB.out (.inl rfl))
        have HCs3 : Hid (∀ j p, 0 < len → zs[j]? = some p → W3.cell? ⟨g, o + j, none⟩ = some (.int .i64 ((p : Nat) : Int))) := Lib.hid (fun j p h1 h2 => hk3.cell (HCs.out j p h1 h2) (.inr rfl))
        clear hJ3 hk3 hR hy HB HCs hB hcell
        gi_wp2
        exact ⟨⟨(m : Int) - 1, m, _, rfl, by omega, by omega, HPos.out, HB3.out, HCs3.out, HJ3.out⟩, by simp [intOf]⟩
      · have HX := Lib.hid hx3
        clear hx3 hR hy HB HCs hB hcell
        gi_wp2
        refine bodyPost_ret (results_none rfl _ _ _) rfl ?_
        exact ⟨⟨_, rfl⟩, .inr ⟨_, HSp.out, HX.out⟩⟩
set_option maxRecDepth 100000 in
set_option maxHeartbeats 1000000 in
theorem back_in (n : Nat) (A : Option Addr) (len cap : Nat) (w : World) :
    CallsIn Fence.wide n Try.prog 31 #[.slice A len cap] w fun e w' => e = .returned (.func (.func 35) #[] #[.pointer (some ⟨w.heap.size, 0, none⟩)]) ∧ w' = w.alloc (.cells #[.slice A len cap] 57) := by
  refine callsIn_of_wp Try.func31 rfl trivial ?_ rfl
  simp only [Try.ntmps31, List.size_toArray, List.length_cons, List.length_nil, Nat.reduceAdd, Nat.reduceSub, Array.replicate_succ, Array.replicate_zero, List.push_toArray, List.append_toArray, List.nil_append, List.cons_append]
  gi_wp2
  refine bodyPost_ret (results_tmp rfl _ _ _) rfl ?_
  exact ⟨rfl, rfl⟩
theorem back_seq (n : Nat) (hn : 1 ≤ n) (Bs g o len cap at_ : Nat) (A : Option Addr) (zs : List Nat) (hz : ∀ z ∈ zs, z < at_) (w : World)
    (hBs : w.cell? ⟨Bs, 0, none⟩ = some (.slice A len cap)) (hlen : len = zs.length) (hA : 0 < len → A = some ⟨g, o, none⟩ ∧ ∀ j p, zs[j]? = some p → w.cell? ⟨g, o + j, none⟩ = some (.int .i64 ((p : Nat) : Int))) (hl : len ≤ 1000000) :
    SeqStopsK Fence.wide n Try.prog 35 #[.pointer (some ⟨Bs, 0, none⟩)] (fun x : PosA at_ => #[.int .i64 (x.1.1 : Int), .int .i64 (x.1.2 : Int)]) (KpD Bs g) (fun xs => posV xs = zs.reverse) (fun pre => ∃ t, posV pre ++ t = zs.reverse) zs.length w := by
  intro l J Jx W hW hJ hJx hY h0
  exact back1_in n hn l Bs g o len cap at_ A zs hz J Jx W hY (cellI_bel hW hBs) hlen (fun h => ⟨(hA h).1, fun j p hj => cellI_bel hW ((hA h).2 j p hj)⟩) hl h0
end Go.Proofs.Ytjapohddfelgkaa
namespace Go.Proofs.Ytjapohddfelgkaa
open Go.RowKit Go.Gar

theorem run_min130 (n m : Nat) (h : m = min n 130) (W : World) : (Builtin.min_ #[3, 3] 3 #[.int .i64 (n : Int), .int .i64 130]).run Try.prog W = .ok (.int .i64 (m : Int)) W := by
  by_cases hc : (130 : Int) < (n : Int)
  · obtain rfl : m = 130 := by omega
    simp [Builtin.min_, Builtin.min2, hc]
  · obtain rfl : m = n := by omega
    simp [Builtin.min_, Builtin.min2, hc]
theorem common_any (g o1 o2 n1 n2 c1 c2 : Nat) (b : List UInt8) (n i k : Nat) (w : World) (hn : n = b.length) (hik : i < k) (hk : k < n) (hl : n ≤ 1099511627776) (h1 : n1 + i = n) (h2 : n2 + k = n) (hgB : g < w.heap.size)
    (hc1 : ∀ j c, b[i + j]? = some c → w.cell? ⟨g, o1 + j, none⟩ = some (.int .u8 (c.toNat : Int))) (hc2 : ∀ j c, b[k + j]? = some c → w.cell? ⟨g, o2 + j, none⟩ = some (.int .u8 (c.toNat : Int))) (r : Nat) (hrr : r = Lz.same b i k) :
    Calls Try.prog 32 #[.slice (some ⟨g, o1, none⟩) n1 c1, .slice (some ⟨g, o2, none⟩) n2 c2] w fun e w' => e = .returned (.int .i64 (r : Int)) ∧ Below w.heap.size w w' := by
  have HN := Lib.hid hn
  have HC1 := Lib.hid hc1
  have HC2 := Lib.hid hc2
  have HR := Lib.hid hrr
  have H1 := Lib.hid h1
  have H2 := Lib.hid h2
  obtain ⟨q, hq⟩ : ∃ q, q = min n2 130 := ⟨_, rfl⟩
  have HQ := Lib.hid hq
  have hmin := run_min130 n2 q hq
  have hq1 : q ≤ 130 := by omega
  clear hn hc1 hc2 hrr h1 h2 hq
  go_enter Try.func32, Try.ntmps32
  go_wp2
  go_loopw [5] (fun v w' => ∃ m : Nat, m ≤ q ∧ v = .int .i64 (m : Int) ∧ Lz.run b i k (130 - m) m = r ∧ Below w.heap.size w w') (fun v _ => 130 - (intOf v).toNat)
  case atStart => exact ⟨0, by omega, rfl, HR.out.symm, Below.refl _ _⟩
  case round =>
    obtain ⟨m, hm, rfl, hrun, hbe⟩ := hrel
    have Hbe := Lib.hid hbe
    have Hbd : Hid (∀ q, Below w.heap.size w (wr.drewN q)) := Lib.hid (fun q => ⟨hbe.os, hbe.tape, hbe.output, hbe.size, hbe.block⟩)
    clear hbe
    by_cases hmq : m < q
    · have hd1 : decide ((m : Int) < (q : Int)) = true := by simp; omega
      have htn := Lz.run_turn (b := b) (i := i) (k := k) (n := m) (by omega)
      rw [hrun] at htn
      have hkb : k + m < b.length := by rw [← HN.out]; have := HQ.out; have := H2.out; omega
      have hib : i + m < b.length := by omega
      have d1 := (Hbe.out.cell (p := ⟨g, o1 + m, none⟩) hgB).trans (HC1.out m b[i + m] (List.getElem?_eq_getElem hib))
      have d2 := (Hbe.out.cell (p := ⟨g, o2 + m, none⟩) hgB).trans (HC2.out m b[k + m] (List.getElem?_eq_getElem hkb))
      rw [List.getElem?_eq_getElem hib, List.getElem?_eq_getElem hkb] at htn
      generalize b[i + m] = x at d1 htn
      generalize b[k + m] = y at d2 htn
      have hin : (m : Int) < (n1 : Int) := by have := H1.out; have := H2.out; have := HQ.out; omega
      have hkn : (m : Int) < (n2 : Int) := by have := HQ.out; omega
      by_cases hxy : x = y
      · have hqq : ((x.toNat : Int) == (y.toNat : Int)) = true := by rw [hxy]; simp
        rw [if_pos ⟨hkb, by rw [hxy]⟩] at htn
        have HT := Lib.hid htn.symm
        clear htn hrun hxy hkb hib
        go_wp2
        go_quiet (fail)
        go_wp2
        exact ⟨⟨m + 1, by omega, by go_num, HT.out, Hbd.out _⟩, by simp [intOf]; omega⟩
      · have hqq : ((x.toNat : Int) == (y.toNat : Int)) = false := by
          rw [beq_eq_false_iff_ne]
          intro e
          exact hxy (UInt8.toNat_inj.1 (by omega))
        rw [if_neg (fun e => hxy (Option.some.inj e.2))] at htn
        have HT := Lib.hid htn
        clear htn hrun hxy hkb hib
        go_wp2
        go_quiet (fail)
        go_wp2
        go_ret
        exact ⟨by rw [← HT.out]; rfl, Hbd.out _⟩
    · have hd1 : decide ((m : Int) < (q : Int)) = false := by simp; omega
      have HT : Hid (m = r) := Lib.hid (by
        have h3 := HQ.out
        have h4 := H2.out
        by_cases h130 : m = 130
        · subst h130; rw [← hrun]; rfl
        · rw [← hrun, Lz.run_turn (by omega), if_neg (by rw [← HN.out]; omega)])
      clear hrun
      go_wp2
      go_quiet (fail)
      go_wp2
      go_ret
      exact ⟨by rw [← HT.out]; rfl, Hbd.out _⟩
end Go.Proofs.Ytjapohddfelgkaa
namespace Go.Gar
open Go Go.RowKit
section
variable {P : Program} {ops : Array Oper} {Q : Exit → Act → World → Prop} {md : Region.Mode}

/-- No operation defers a call, none is a call of a row of the model's table. -/
def noDefer (ops : Array Oper) : Bool := ops.all fun o => match o.op with | .defer _ => false | _ => true
theorem noDefer_spec (h : noDefer ops = true) {i : Nat} {o : Oper} (hi : ops[i]? = some o) : ∀ c, o.op ≠ .defer c := by
  intro c hc
  rw [noDefer, Array.all_eq_true_iff_forall_mem] at h
  have := h o (Array.mem_of_getElem? hi)
  rw [hc] at this
  cases this

theorem rowsIn_round {l n : Nat} {row : String} {args : Array Value} {w : World} {R : Value → World → Prop} (h : Rows P row args w R) : RowsIn (Fence.wide.inRound l) n P row args w R :=
  fun c cs _ => let ⟨v, w', r, s⟩ := h c cs; ⟨v, w', r, stepsIn_wide.2 s⟩
theorem wpOpIn_round {l n i : Nat} {K : Act → World → Prop} {a : Act} {w : World} (hd : noDefer ops = true) (hno : ¬ LetsOut Q)
    (h : wpOp P ops Q i K a w) : wpOpIn (Fence.wide.inRound l) n P ops Q i K a w := by
  unfold wpOp at h
  unfold wpOpIn
  cases ho : ops[i]? with
  | none => simp only [ho] at h; exact h
  | some o =>
    simp only [ho] at h ⊢
    split
    · rename_i hw
      simp only [hw, if_true] at h
      have h1 : o.wp P a w K Q := h.elim id fun h => (hno h.2).elim
      refine ⟨fun _ _ => trivial, ?_⟩
      rw [Oper.semAt_eq _ _ _ (noDefer_spec hd ho)]
      unfold Oper.wp at h1
      generalize (execOp a.eval o).run P w = r at *
      cases r with
      | ok x w' =>
        cases x <;> simp only [Oper.upon, Oper.uponIn] at h1 ⊢
        case value u => exact h1
        case skip => exact h1
        case defer d => exact h1
        case enter f args =>
          refine ⟨fun h => (by cases h), CallsIn.inRound l (callsIn_wide.2 (h1.mono fun e w'' he => ?_))⟩
          cases e <;> exact he
        case row row args =>
          refine ⟨fun h => (by cases h), ?_⟩
          exact rowsIn_round h1
      | halt x w' =>
        cases x <;> simp only [Oper.upon, Oper.uponIn] at h1 ⊢
        exact h1
    · rename_i hw
      simp only [hw] at h
      exact ⟨fun _ _ => trivial, h⟩
theorem wpAnyIn_round {l n : Nat} (hd : noDefer ops = true) (hno : ¬ LetsOut Q) : ∀ (fuel : Nat) (listed : Array Bool) (a : Act) (w : World), wpAny P md ops Q fuel listed a w → wpAnyIn (Fence.wide.inRound l) n P md ops Q fuel listed a w
  | 0, _, _, _, h => h
  | fuel + 1, _, _, _, h => ⟨h.1, fun i hi => wpOpIn_round hd hno (wpOp_mono (fun a' w' h' => wpAnyIn_round hd hno fuel _ a' w' h') (h.2 i hi))⟩
/-- The beginning, within a round. -/
theorem wpIn_region_G (G : Growth) {id l n : Nat} {L : List Oper} {a : Act} {w : World} (hm : P.follows .mixedOrders = true) (hd : noDefer L.toArray = true) (hno : ¬ LetsOut Q)
    (h : wpAnyG G P .any L.toArray Q L.length (Array.replicate L.length false) a w.drew) : (Code.region id L.toArray true).wpIn (Fence.wide.inRound l) n P Q a w :=
  wpIn_region_any hm (wpAnyIn_round hd hno _ _ _ _ (wpAny_of_G _ _ _ _ (by simpa using h)))
end
end Go.Gar
