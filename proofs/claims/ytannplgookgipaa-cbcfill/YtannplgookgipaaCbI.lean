/-
  The landed cbc: blocks, the iterator over the whole blocks of 16 bytes: its contract.
-/
import Derived.RangeFuncNested
import Derived.RangeFuncBound
import Derived.RangeFuncCalls
import Derived.RangeFuncLeaves
import Derived.Shelf.Abstract
import Derived.Shelf.RegionOpen
import Derived.WalkKit
import Derived.OwnWalkIn
import Derived.TacticsInMore
import Derived.LoopNIn
import Derived.LoopIn
import Derived.Test.YtannplgookgipaaRngP
import Derived.Test.YtannplgookgipaaShGh
import Derived.Test.YtannplgookgipaaCbA
namespace Go.Proofs.Ytannplgookgipaa
open Go.RowKit Go.Shelf Go.Gar Go.Gar.Aes
attribute [local go_sem] Oper.semAt_some

theorem cell_bel' {w w' : World} (hb : Below w.heap.size w w') {p : Addr} {v : Value} (h : w.cell? p = some v) : w'.cell? p = some v := by
  rw [hb.cell (p := p) (World.block_lt_of_cell? w p h), h]
/-- 16 bytes. -/
abbrev B16 := { m : List UInt8 // m.length = 16 }
def flat (xs : List B16) : List UInt8 := (xs.map (·.1)).flatten
theorem flat_snoc (xs : List B16) (x : B16) : flat (xs ++ [x]) = flat xs ++ x.1 := by simp [flat]
theorem flat_len (xs : List B16) : (flat xs).length = 16 * xs.length := by
  induction xs with
  | nil => rfl
  | cons x xs ih =>
    have : flat (x :: xs) = x.1 ++ flat xs := by simp [flat]
    rw [this, List.length_append, x.2, ih, List.length_cons]; omega

/-- A round keeps block gt. -/
structure KpT (gt : Nat) (W W' : World) : Prop where
  size : W.heap.size ≤ W'.heap.size
  same : ∀ (o : Obj), W.heap[gt]? = some o → o.isCells = true → W'.heap[gt]? = some o
theorem KpT.trans {gt : Nat} {A B C : World} (h : KpT gt A B) (k : KpT gt B C) : KpT gt A C :=
  ⟨Nat.le_trans h.size k.size, fun o hi hc => k.same o (h.same o hi hc) hc⟩
theorem KpT.put (gt : Nat) (W : World) (l : Nat) (o o' : Obj) (hl : W.heap[l]? = some o) (ho : o.isCells = false) : KpT gt W (W.putObj l o') :=
  ⟨by simp, fun p hk hp => by
    have : gt ≠ l := by rintro rfl; rw [hl] at hk; cases hk; rw [ho] at hp; cases hp
    exact (World.putObj_heap_other this).trans hk⟩
theorem KpT.cell {gt : Nat} {W W' : World} (h : KpT gt W W') {o : Nat} {v : Value} (hp : W.cell? ⟨gt, o, none⟩ = some v) : W'.cell? ⟨gt, o, none⟩ = some v := by
  obtain ⟨ob, ho, hc⟩ := cells_of_cell hp
  rw [← hp]
  exact World.cell?_of_block ((h.same _ ho hc).trans ho.symm)
theorem kpT_below {gt : Nat} {W W' : World} (h : Below W.heap.size W W') : KpT gt W W' := ⟨h.size, fun _ hk _ => (h.block gt (Array.getElem?_eq_some_iff.1 hk).1).trans hk⟩
theorem kpT_grown {gt g : Nat} {W W' : World} (h : W.grownBy W' (some g)) (hne : gt ≠ g) : KpT gt W W' := ⟨h.size, fun _ hk _ => (h.block gt (Array.getElem?_eq_some_iff.1 hk).1 (fun e => hne (Option.some.inj e))).trans hk⟩
theorem keeps_below {W W' : World} (h : Below W.heap.size W W') : KeepsOthers W W' := ⟨h.size, fun k _ hk _ => (h.block k (Array.getElem?_eq_some_iff.1 hk).1).trans hk⟩

/-- The bytes l from cell o of block gt on. -/
def At (W : World) (gt o : Nat) (l : List UInt8) : Prop := ∀ i c, l[i]? = some c → W.cell? ⟨gt, o + i, none⟩ = some (.int .u8 (c.toNat : Int))
theorem At.kept {W W' : World} {gt o : Nat} {l : List UInt8} (h : At W gt o l) (hk : KpT gt W W') : At W' gt o l := fun i c hi => hk.cell (h i c hi)
theorem At.dropped {W : World} {gt o : Nat} {l : List UInt8} (h : At W gt o l) (k : Nat) : At W gt (o + k) (l.drop k) := fun i c hi => by
  rw [List.getElem?_drop] at hi
  rw [Nat.add_assoc]
  exact h _ _ hi

theorem run_arr16 (g o n c : Nat) (h : 16 ≤ n) (W : World) : (Instr.arrayAt 23 (.slice (some ⟨g, o, none⟩) n c)).run Try.prog W = .ok (.pointer (some ⟨g, o, none⟩)) W := by
  have h1 : ¬ n < 16 := by omega
  simp [Instr.arrayAt, run_underlying Try.und16 W, h1]
theorem load_at16 {W : World} {gt o : Nat} {l : List UInt8} (h : At W gt o l) (hl : 16 ≤ l.length) : (loadVar 23 ⟨gt, o, none⟩).run Try.prog W = .ok (.agg (u8s (l.take 16)).toArray) W := by
  refine run_loadVar_mid (P := Try.prog) W gt o 23 (u8s (l.take 16)) _ (fun j v hv => ?_) Try.und16 rfl (by rw [u8s_len, List.length_take, Nat.min_eq_left hl]; kernel_rfl)
  rw [u8s_get] at hv
  cases hq : (l.take 16)[j]? with
  | none => rw [hq] at hv; cases hv
  | some c =>
    rw [hq] at hv
    obtain rfl := Option.some.inj hv
    rw [List.getElem?_take] at hq
    split at hq
    · exact h j c hq
    · cases hq

set_option maxRecDepth 100000 in
set_option maxHeartbeats 2000000 in
theorem blocks1_in (n : Nat) (hn : 1 ≤ n) (l Bs gt len cap : Nat) (A : Option Addr) (m : List UInt8) (J : List B16 → World → Prop) (W : World)
    (hY : ∀ pre (x : B16) W1, (flat (pre ++ [x])).length ≤ m.length → J pre W1 → YieldAt Fence.wide (n - 1) Try.prog l #[.agg (u8s x.1).toArray] W1 fun e W' => e = .returned (.bool true) ∧ J (pre ++ [x]) W' ∧ KpT gt W1 W')
    (hBs : W.cell? ⟨Bs, 0, none⟩ = some (.slice A len cap)) (hlen : len = m.length) (hcap : len ≤ cap) (hA : 0 < len → ∃ o, A = some ⟨gt, o, none⟩ ∧ At W gt o m) (hm : m.length % 16 = 0) (hx : m.length ≤ 2000000) (h0 : J [] W) :
    CallsIn Fence.wide n Try.prog 31 #[.func (.yield l) #[] #[], .pointer (some ⟨Bs, 0, none⟩)] W fun e W' => (∃ v, e = .returned v) ∧ ∃ xs, flat xs = m ∧ J xs W' := by
  have HY := Lib.hid hY
  have HM := Lib.hid hm
  have HX := Lib.hid hx
  have HA := Lib.hid hA
  have H0 := Lib.hid h0
  have HL := Lib.hid hlen
  have hlx : len ≤ 2000000 := by omega
  clear hY hm hx hA h0 hlen
  refine callsIn_of_wp Try.func31 rfl trivial ?_ rfl
  simp only [Try.ntmps31, List.size_toArray, List.length_cons, List.length_nil, Nat.reduceAdd, Nat.reduceSub, Array.replicate_succ, Array.replicate_zero, List.push_toArray, List.append_toArray, List.nil_append, List.cons_append]
  gi_wp2
  gi_loopw [3] (fun v wr => ∃ (k : Nat) (pre : List B16) (B : Option Addr) (c : Nat), 16 * k ≤ len ∧ v = .slice B (len - 16 * k) c ∧ len - 16 * k ≤ c ∧ flat pre = m.take (16 * k) ∧ (16 * k < len → ∃ p, B = some ⟨gt, p, none⟩ ∧ At wr gt p (m.drop (16 * k))) ∧ J pre wr)
    (fun v _ => match v with | .slice _ k _ => k | _ => 0)
  case atStart => exact ⟨0, [], A, cap, by omega, rfl, hcap, rfl, fun h => HA.out (by omega), H0.out⟩
  case round =>
    obtain ⟨k, pre, B, c, hk, rfl, hkc, hflat, hAt, hJ⟩ := hrel
    clear HA H0 hBs
    have hM := HM.out
    have hL := HL.out
    obtain ⟨r, hr⟩ : ∃ r, r = len - 16 * k := ⟨_, rfl⟩
    rw [← hr] at hkc ⊢
    by_cases hlt : 16 * k < len
    · have h16 : 16 ≤ r := by omega
      obtain ⟨p, hBp, hAp⟩ := hAt hlt
      clear hAt
      subst hBp
      have hAt := hAp
      clear hAp
      have hld := load_at16 hAt (by rw [List.length_drop]; omega)
      have hx16 : ((m.drop (16 * k)).take 16).length = 16 := by rw [List.length_take, List.length_drop]; omega
      obtain ⟨x, hxe⟩ : ∃ x : B16, x.1 = (m.drop (16 * k)).take 16 := ⟨⟨_, hx16⟩, rfl⟩
      rw [← hxe] at hld
      have hfl2 : flat (pre ++ [x]) = m.take (16 * (k + 1)) := by
        rw [flat_snoc, hflat, hxe, show 16 * (k + 1) = 16 * k + 16 from by omega, List.take_add]
      obtain ⟨fn, tmps, assign, body, hy, hR⟩ := HY.out pre x wr (by rw [hfl2, List.length_take]; omega) hJ
      have HF := Lib.hid hfl2
      have HAt := Lib.hid hAt
      have har := run_arr16 gt p r c h16
      have hd : decide ((16 : Int) ≤ (r : Int)) = true := by simp; omega
      have Hr := Lib.hid hr
      clear hflat hAt hJ hM hL hx16 hxe hfl2 hr
      gi_wp2_with (refine wpListIn_load_arr rfl 23 (.tmp 12) rfl rfl (u8s x.1).toArray hld ?_)
      refine hR.mono ?_
      rintro e W3 ⟨rfl, hJ3, hk3⟩
      have HJ3 := Lib.hid hJ3
      have HAt3 : Hid (16 < r → At W3 gt (p + 16) (m.drop (16 * (k + 1)))) := Lib.hid (fun _ => by
        have := (HAt.out.kept hk3).dropped 16
        rw [List.drop_drop, show 16 * k + 16 = 16 * (k + 1) from by omega] at this
        exact this)
      clear hJ3 hk3 hR hy hld HAt har
      by_cases hc16 : c = 16
      · subst hc16
        have hr16 : r = 16 := by omega
        subst hr16
        gi_wp2
        refine ⟨⟨k + 1, pre ++ [x], some ⟨gt, p, none⟩, 0, by have := Hr.out; omega, ?_, by have := Hr.out; omega, HF.out, fun h => by have := Hr.out; omega, HJ3.out⟩, by show 0 < 16; omega⟩
        rw [show len - 16 * (k + 1) = 0 from by have := Hr.out; omega]
      · have hsl := slice_from gt p r c 16 h16 (by omega)
        have hsl2 : ∀ W, (Instr.sliceAt 22 (.slice (some ⟨gt, p, none⟩) r c) (some (.int .i64 16)) none none).run Try.prog W = .ok (.slice (some ⟨gt, p + 16, none⟩) (r - 16) (c - 16)) W := hsl
        clear hsl
        gi_wp2
        refine ⟨⟨k + 1, pre ++ [x], some ⟨gt, p + 16, none⟩, c - 16, by have := Hr.out; omega, ?_, by have := Hr.out; omega, HF.out, fun h => ⟨_, rfl, HAt3.out (by have := Hr.out; omega)⟩, HJ3.out⟩, by show r - 16 < r; omega⟩
        rw [show len - 16 * (k + 1) = r - 16 from by have := Hr.out; omega]
    · have hd : decide ((16 : Int) ≤ (r : Int)) = false := by simp; omega
      have HE : Hid (flat pre = m) := Lib.hid (by rw [hflat]; exact List.take_of_length_le (by omega))
      have HJp := Lib.hid hJ
      clear hflat hAt hJ hr hM hL
      gi_wp2
      go_end0
      exact ⟨⟨_, rfl⟩, pre, HE.out, HJp.out⟩

theorem blocks_seq (n : Nat) (hn : 1 ≤ n) (Bs gt len cap : Nat) (A : Option Addr) (m : List UInt8) (w : World) (hBs : w.cell? ⟨Bs, 0, none⟩ = some (.slice A len cap)) (hlen : len = m.length) (hcap : len ≤ cap) (hA : 0 < len → ∃ o, A = some ⟨gt, o, none⟩ ∧ At w gt o m) (hm : m.length % 16 = 0) (hx : m.length ≤ 2000000) :
    SeqP Fence.wide n Try.prog 31 #[.pointer (some ⟨Bs, 0, none⟩)] (fun x : B16 => #[.agg (u8s x.1).toArray]) (KpT gt) (fun xs => flat xs = m) (fun xs => (flat xs).length ≤ m.length) w := by
  intro l J W hW hJ hY h0
  refine blocks1_in n hn l Bs gt len cap A m J W hY (cell_bel' hW hBs) hlen hcap (fun h => ?_) hm hx h0
  obtain ⟨o, h1, h2⟩ := hA h
  exact ⟨o, h1, fun i c hi => cell_bel' hW (h2 i c hi)⟩

set_option maxRecDepth 100000 in
set_option maxHeartbeats 1000000 in
theorem blocks_in (n : Nat) (A : Option Addr) (len cap : Nat) (w : World) :
    CallsIn Fence.wide n Try.prog 17 #[.slice A len cap] w fun e w' => e = .returned (.func (.func 31) #[] #[.pointer (some ⟨w.heap.size, 0, none⟩)]) ∧ w' = w.alloc (.cells #[.slice A len cap] 22) := by
  refine callsIn_of_wp Try.func17 rfl trivial ?_ rfl
  simp only [Try.ntmps17, List.size_toArray, List.length_cons, List.length_nil, Nat.reduceAdd, Nat.reduceSub, Array.replicate_succ, Array.replicate_zero, List.push_toArray, List.append_toArray, List.nil_append, List.cons_append]
  gi_wp2
  refine bodyPost_ret (results_tmp rfl _ _ _) rfl ?_
  exact ⟨rfl, rfl⟩
end Go.Proofs.Ytannplgookgipaa
