/-
  The landed disk: its pending sectors' numbers in order. The landed disk: the library's All over positions: its contract. The landed disk: between two rounds of a range over the pending sectors. The landed disk: Flush.
-/
import Derived.Test.YtampdfmakhdliaaDiskJ10
import Derived.Test.YtampdfmakhdliaaDiskJ01
import Derived.RangeFuncNested
import Derived.RangeFuncBound
import Derived.RangeFuncCalls
import Derived.RangeFuncLeaves
import Derived.Shelf.Abstract
import Derived.Shelf.RegionOpen
import Derived.OwnWalkIn
import Derived.TacticsInMore
import Derived.LoopNIn
import Derived.LoopIn
import Derived.Test.YtampdfmakhdliaaDiskJ08
import Derived.Test.YtampdfmakhdliaaDiskJ03
import Derived.BigRegion
import Derived.RegionTactic
set_option maxRecDepth 100000
namespace Go.Gar.Dsk

/-- The numbers of the pending sectors, those before n left out. -/
def wets : Nat → List Sec → List Nat
  | _, [] => []
  | n, s :: r => if s.wet then n :: wets (n + 1) r else wets (n + 1) r
theorem wets_mem (l : List Sec) : ∀ (n k : Nat), k ∈ wets n l ↔ n ≤ k ∧ ∃ s, l[k - n]? = some s ∧ s.wet = true := by
  induction l with
  | nil => intro n k; simp [wets]
  | cons s r ih =>
    intro n k
    unfold wets
    have hrec : (k ∈ wets (n + 1) r) ↔ (n + 1 ≤ k ∧ ∃ x, (s :: r)[k - n]? = some x ∧ x.wet = true) := by
      rw [ih]
      constructor
      · rintro ⟨h1, x, h2, h3⟩
        refine ⟨h1, x, ?_, h3⟩
        rw [show k - n = (k - (n + 1)) + 1 by omega]
        exact h2
      · rintro ⟨h1, x, h2, h3⟩
        refine ⟨h1, x, ?_, h3⟩
        rw [show k - n = (k - (n + 1)) + 1 by omega] at h2
        exact h2
    cases hw : s.wet with
    | true =>
      simp only [if_true, List.mem_cons, hrec]
      constructor
      · rintro (rfl | ⟨h1, x, h2, h3⟩)
        · exact ⟨Nat.le_refl _, s, by simp, hw⟩
        · exact ⟨by omega, x, h2, h3⟩
      · rintro ⟨h1, x, h2, h3⟩
        by_cases he : k = n
        · exact .inl he
        · exact .inr ⟨by omega, x, h2, h3⟩
    | false =>
      simp only [Bool.false_eq_true, if_false, hrec]
      constructor
      · rintro ⟨h1, x, h2, h3⟩
        exact ⟨by omega, x, h2, h3⟩
      · rintro ⟨h1, x, h2, h3⟩
        refine ⟨?_, x, h2, h3⟩
        by_cases he : k = n
        · subst he
          rw [Nat.sub_self] at h2
          obtain rfl : s = x := by simpa using h2
          rw [hw] at h3; cases h3
        · omega
theorem wets_lt (l : List Sec) : ∀ n, (wets n l).Pairwise (· < ·) := by
  induction l with
  | nil => intro n; exact .nil
  | cons s r ih =>
    intro n
    unfold wets
    split
    · refine .cons (fun k hk => ?_) (ih _)
      have := ((wets_mem r (n + 1) k).1 hk).1
      omega
    · exact ih _
theorem wets_len (l : List Sec) : ∀ n, (wets n l).length = (l.filter Sec.wet).length := by
  induction l with
  | nil => intro n; rfl
  | cons s r ih =>
    intro n
    unfold wets
    cases hw : s.wet <;> simp [hw, ih]
/-- The j-th of them has that number. -/
theorem wets_at (l : List Sec) : ∀ (n j k : Nat), (wets n l)[j]? = some k → wetN l (k - n) = j := by
  induction l with
  | nil => intro n j k h; simp [wets] at h
  | cons s r ih =>
    intro n j k h
    have hm : k ∈ wets n (s :: r) := List.mem_of_getElem? h
    unfold wets at h
    cases hw : s.wet with
    | true =>
      rw [hw] at h
      simp only [if_true] at h
      cases j with
      | zero =>
        obtain rfl : n = k := by simpa using h
        rw [Nat.sub_self]
        exact wetN_zero _
      | succ j =>
        simp only [List.getElem?_cons_succ] at h
        have h1 := ((wets_mem r (n + 1) k).1 (List.mem_of_getElem? h)).1
        have h2 := ih (n + 1) j k h
        rw [show k - n = (k - (n + 1)) + 1 by omega]
        have : wetN (s :: r) (k - (n + 1) + 1) = wetN r (k - (n + 1)) + 1 := by simp [wetN, hw]
        rw [this, h2]
    | false =>
      rw [hw] at h
      simp only [Bool.false_eq_true, if_false] at h
      have h1 := ((wets_mem r (n + 1) k).1 (List.mem_of_getElem? h)).1
      have h2 := ih (n + 1) j k h
      rw [show k - n = (k - (n + 1)) + 1 by omega]
      have : wetN (s :: r) (k - (n + 1) + 1) = wetN r (k - (n + 1)) := by simp [wetN, hw]
      rw [this, h2]
end Go.Gar.Dsk
namespace Go.Proofs.Ytampdfmakhdliaa
open Go.RowKit Go.Gar Go.Maps Go.Sort Go.Shelf
open Go.Gar.Dsk (Dsk Sec)

theorem wets_pend (d : Dsk) (x : Int) : x ∈ (Dsk.wets 0 d.secs).map (fun k : Nat => (k : Int)) ↔ (pendF d x).isSome = true := by
  rw [List.mem_map]
  rcases there_cases d x with ⟨h0, ht⟩ | ⟨h0, h1, ht⟩ | ⟨i, rfl, hi, _⟩
  · have : (pendF d x).isSome = false := by unfold pendF; rw [ht]; simp
    rw [this]
    constructor
    · rintro ⟨k, _, rfl⟩; omega
    · intro h; cases h
  · have : (pendF d x).isSome = false := by unfold pendF; rw [ht]; simp
    rw [this]
    constructor
    · rintro ⟨k, hk, rfl⟩
      obtain ⟨_, s, hs, _⟩ := (Dsk.wets_mem _ _ _).1 hk
      have := (List.getElem?_eq_some_iff.1 hs).1
      omega
    · intro h; cases h
  · have hg := List.getElem?_eq_getElem hi
    rw [pendF_at hg]
    constructor
    · rintro ⟨k, hk, e⟩
      obtain rfl : k = i := by omega
      obtain ⟨_, s, hs, hw⟩ := (Dsk.wets_mem _ _ _).1 hk
      rw [Nat.sub_zero, hg] at hs
      rw [Option.some.inj hs, hw]; rfl
    · intro h
      refine ⟨i, (Dsk.wets_mem _ _ _).2 ⟨Nat.zero_le _, _, by rw [Nat.sub_zero]; exact hg, ?_⟩, rfl⟩
      cases hw : d.secs[i].wet with
      | true => rfl
      | false => rw [hw] at h; cases h

theorem keys_calls (gm : Nat) (w : World) : Calls Try.prog 41 #[.map (some gm)] w fun e w' => e = .returned (.func (.func 45) #[] #[.pointer (some ⟨w.heap.size, 0, none⟩)]) ∧ w' = w.alloc (.cells #[.map (some gm)] 60) :=
  callsIn_wide.1 (AnyZI.keys_in Try.keysA Fence.wide 5 trivial rfl (some gm) w)
/-- The keys of a map, sorted. -/
theorem sorted_calls {w : World} {gm n : Nat} {f : Int → Option Value} (h : MapI Try.prog 3 w gm n f) (hn : n ≤ 4096) (zs : List Int) (hz : zs.Pairwise (· < ·)) (hm : ∀ x, x ∈ zs ↔ (f x).isSome = true) :
    Calls Try.prog 40 #[.func (.func 45) #[] #[.pointer (some ⟨w.heap.size, 0, none⟩)]] (w.alloc (.cells #[.map (some gm)] 60)) fun e w' =>
      ∃ v, e = .returned v ∧ w'.ownsRow w.heap.size 3 1 v zs.length (zs.map encZ) ∧ Below w.heap.size w w' := by
  obtain ⟨D, hown, hsz, hk⟩ := h.keys Try.undI
  have hbl := hown.lt
  have hseq : SeqGives Fence.wide 2 Try.prog 45 #[.pointer (some ⟨w.heap.size, 0, none⟩)] encZ (fun ss => ss.Perm (intKeys D)) (Maps.size D) (w.alloc (.cells #[.map (some gm)] 60)) :=
    AnyZI.keys_gives (ρ := Try.keysA_ren) { Try.keysA with } Fence.wide _ trivial rfl (by omega) w.heap.size gm n D _ (by simp) (by simp) (by
      obtain ⟨es, clock, hb, Ft, hs, hD⟩ := hown
      exact ⟨es, clock, (Below.heap_alloc _ _ gm hbl).trans hb, Ft, hs, hD⟩)
  have cS := AnyZI.sorted_in Try.sortedA Fence.wide 5 trivial trivial trivial trivial rfl (by omega) (Try.sortsA _) (enters_of Try.func44 (by kernel_rfl) rfl) 45 #[.pointer (some ⟨w.heap.size, 0, none⟩)] trivial (enters_of Try.func45 (by kernel_rfl) rfl) _ _ (by rw [hsz]; simp only [maxLen]; omega) (by rw [hsz]; omega) _ hseq
  change CallsIn _ _ Try.prog 40 _ _ _ at cS
  refine (callsIn_wide.1 cS).mono ?_
  rintro e w' ⟨v, ss, rfl, hS, hrow, _, hb⟩
  obtain ⟨h1, h2⟩ := hk zs ss hz hm hS
  have h3 : zs.length = ss.length := by rw [← h1, List.length_mergeSort]
  refine ⟨v, rfl, ?_, ((Below.refl _ w).alloc (Nat.le_refl _) _).trans (hb.mono (by simp))⟩
  rw [h1, ← h3] at hrow
  exact ownsRow_base_a hrow (by simp)
theorem all_calls (A : Option Addr) (len cap : Nat) (w : World) :
    Calls Try.prog 39 #[.slice A len cap] w fun e w' => e = .returned (.func (.func 42) #[] #[.pointer (some ⟨w.heap.size, 0, none⟩)]) ∧ w' = w.alloc (.cells #[.slice A len cap] 29) := by
  go_enter Try.func39, Try.ntmps39
  go_wp2
  go_ret
  exact ⟨rfl, rfl⟩
/-- What numbered hands back: an iterator over the pending sectors' numbers. -/
structure Numb (w w' : World) (Bs gz : Nat) (A : Option Addr) (len cap : Nat) (zs : List Nat) : Prop where
  box : w'.cell? ⟨Bs, 0, none⟩ = some (.slice A len cap)
  hlen : len = zs.length
  row : 0 < len → A = some ⟨gz, 0, none⟩ ∧ ∀ (j p : Nat), zs[j]? = some p → w'.cell? ⟨gz, j, none⟩ = some (.int .i64 (p : Int))
  hB : w.heap.size ≤ Bs
  hg : w.heap.size ≤ gz
  bel : Below w.heap.size w w'
set_option maxHeartbeats 2000000 in
set_option maxRecDepth 100000 in
theorem numbered_any {w : World} {F : Nat → Prop} {g : Nat} {d : Dsk} (h : RepD w F g d) :
    Calls Try.prog 32 #[ptr g] w fun e w' => ∃ Bs gz A len cap, e = .returned (.func (.func 42) #[] #[.pointer (some ⟨Bs, 0, none⟩)]) ∧ Numb w w' Bs gz A len cap (Dsk.wets 0 d.secs) := by
  obtain ⟨gd, gm, fb, left, h, _, hok⟩ := h
  have hz1 : ((Dsk.wets 0 d.secs).map (fun k : Nat => (k : Int))).Pairwise (· < ·) := List.pairwise_map.2 ((Dsk.wets_lt d.secs 0).imp fun hlt => by omega)
  have hS := sorted_calls h.map (pend_le d hok) _ hz1 (wets_pend d)
  have hK := keys_calls gm w
  obtain ⟨_, _, _, q3, _⟩ := h.cells
  have HS := Lib.hid hS
  have HK := Lib.hid hK
  obtain ⟨zs, hzs⟩ : ∃ zs, Dsk.wets 0 d.secs = zs := ⟨_, rfl⟩
  rw [hzs] at HS
  rw [hzs]
  clear h hok hz1 hS hK hzs
  unfold ptr
  go_enter Try.func32, Try.ntmps32
  go_wp2_with fail
  refine HK.out.mono ?_
  rintro e w1 ⟨rfl, rfl⟩
  go_wp2_with fail
  refine HS.out.mono ?_
  rintro e w2 ⟨v, rfl, hrow, hb⟩
  have hform : ∃ A cap gz, v = .slice A zs.length cap ∧ w.heap.size ≤ gz ∧ (0 < zs.length → A = some ⟨gz, 0, none⟩ ∧ ∀ (j p : Nat), zs[j]? = some p → w2.cell? ⟨gz, j, none⟩ = some (.int .i64 (p : Int))) := by
    rcases hrow.2 with ⟨rfl, h0⟩ | ⟨gz, cap, cur, rfl, hbase, hgz, h1, h2, h3, h4⟩
    · rw [List.length_map] at h0
      exact ⟨none, 0, w.heap.size, by rw [h0], Nat.le_refl _, fun hp => by omega⟩
    · rw [List.length_map]
      refine ⟨some ⟨gz, 0, none⟩, cap, gz, rfl, hbase, fun _ => ⟨rfl, fun j p hj => ?_⟩⟩
      have hB : Blk w2 gz 3 cur.toList := by unfold Blk; simpa using hgz
      have hlt := (List.getElem?_eq_some_iff.1 hj).1
      rw [hB.cell]
      have h5 : (cur.toList.take (((zs.map fun k : Nat => (k : Int))).length * 1))[j]? = ((zs.map fun k : Nat => (k : Int)).map encZ)[j]? := by rw [h4]
      rw [List.getElem?_take_of_lt (by rw [List.length_map]; omega)] at h5
      rw [h5, List.getElem?_map, List.getElem?_map, hj]
      rfl
  obtain ⟨A, cap, gz, rfl, hgz, hcells⟩ := hform
  have Hgz := Lib.hid hgz
  have Hcells := Lib.hid hcells
  have Hb := Lib.hid hb
  clear hrow hb hgz hcells
  go_wp2_with fail
  refine (all_calls A zs.length cap w2).mono ?_
  rintro e w3 ⟨rfl, rfl⟩
  go_wp2
  go_ret
  have hb := Hb.out
  have hba := below_alloc w2 (.cells #[.slice A zs.length cap] 29)
  exact ⟨w2.heap.size, gz, A, zs.length, cap, rfl, ⟨by rw [(Blk.new w2 29 [.slice A zs.length cap]).cell 0]; rfl, rfl, fun hp => ⟨(Hcells.out hp).1, fun j p hj => cellI_bel hba ((Hcells.out hp).2 j p hj)⟩, hb.size, Hgz.out, hb.alloc hb.size _⟩⟩
end Go.Proofs.Ytampdfmakhdliaa
namespace Go.Proofs.Ytampdfmakhdliaa
open Go.RowKit Go.Shelf Go.Gar
attribute [local go_sem] Oper.semAt_some

/-- What comes: an index and what stands there. -/
def en (zs : List Nat) : List (Nat × Nat) := zs.zipIdx.map fun p => (p.2, p.1)
theorem en_get (zs : List Nat) (k : Nat) : (en zs)[k]? = zs[k]?.map fun p => (k, p) := by
  unfold en
  rw [List.getElem?_map, List.getElem?_zipIdx]
  cases zs[k]? <;> simp
theorem en_len (zs : List Nat) : (en zs).length = zs.length := by simp [en]
def encI (x : Nat × Nat) : Array Value := #[.int .i64 (x.1 : Int), .int .i64 (x.2 : Int)]
set_option maxRecDepth 100000 in
set_option maxHeartbeats 1000000 in
theorem all1_in (n : Nat) (hn : 1 ≤ n) (l Bs g len cap : Nat) (A : Option Addr) (zs : List Nat) (J : List (Nat × Nat) → World → Prop) (W : World)
    (hY : ∀ pre (x : Nat × Nat) W1, pre ++ [x] = (en zs).take (pre ++ [x]).length → J pre W1 → YieldAt Fence.wide (n - 1) Try.prog l (encI x) W1 fun e W' => e = .returned (.bool true) ∧ J (pre ++ [x]) W' ∧ KpD Bs g W1 W')
    (hBs : W.cell? ⟨Bs, 0, none⟩ = some (.slice A len cap)) (hlen : len = zs.length) (hA : 0 < len → A = some ⟨g, 0, none⟩ ∧ ∀ (j p : Nat), zs[j]? = some p → W.cell? ⟨g, j, none⟩ = some (.int .i64 (p : Int))) (hl : len ≤ 1000000) (h0 : J [] W) :
    CallsIn Fence.wide n Try.prog 42 #[.func (.yield l) #[] #[], .pointer (some ⟨Bs, 0, none⟩)] W fun e W' => (∃ v, e = .returned v) ∧ ∃ xs, xs = en zs ∧ J xs W' := by
  have HY := Lib.hid hY
  have HA := Lib.hid hA
  have H0 := Lib.hid h0
  have HL := Lib.hid hlen
  clear hY hA h0 hlen
  refine callsIn_of_wp Try.func42 rfl trivial ?_ rfl
  simp only [Try.ntmps42, List.size_toArray, List.length_cons, List.length_nil, Nat.reduceAdd, Nat.reduceSub, Array.replicate_succ, Array.replicate_zero, List.push_toArray, List.append_toArray, List.nil_append, List.cons_append]
  gi_wp2
  gi_loopw [7] (fun v wr => ∃ (k : Nat) (pre : List (Nat × Nat)), v = .int .i64 (k : Int) ∧ k ≤ len ∧ pre = (en zs).take k ∧ (∀ (j p : Nat), 0 < len → zs[j]? = some p → wr.cell? ⟨g, j, none⟩ = some (.int .i64 (p : Int))) ∧ J pre wr)
    (fun v _ => len - (intOf v).toNat)
  case atStart => exact ⟨0, [], rfl, Nat.zero_le _, by simp, fun j p h hj => (HA.out h).2 j p hj, H0.out⟩
  case round =>
    obtain ⟨k, pre, rfl, hk, hpre, hcs, hJ⟩ := hrel
    clear H0
    by_cases hk0 : k < len
    · have hd : decide ((k : Int) < (len : Int)) = true := by simp; omega
      have hkz : k < zs.length := by rw [← HL.out]; exact hk0
      obtain ⟨p, hp⟩ : ∃ p, zs[k]? = some p := ⟨_, List.getElem?_eq_getElem hkz⟩
      have hcell := hcs k p (by omega) hp
      obtain rfl := (HA.out (by omega)).1
      have hnext : pre ++ [(k, p)] = (en zs).take (k + 1) := by
        rw [List.take_add_one, ← hpre, en_get, hp]; rfl
      have hplen : pre.length = k := by rw [hpre, List.length_take, en_len]; omega
      obtain ⟨fn, tmps, assign, body, hy, hR⟩ := HY.out pre (k, p) wr (by rw [hnext]; simp [List.length_take]) hJ
      have HNext := Lib.hid hnext
      have HCs := Lib.hid hcs
      clear hpre hcs hJ hp hnext hplen
      unfold encI at hy
      gi_wp2
      refine hR.mono ?_
      rintro e W3 ⟨rfl, hJ3, hk3⟩
      have HJ3 := Lib.hid hJ3
      have HCs3 : Hid (∀ (j p : Nat), 0 < len → zs[j]? = some p → W3.cell? ⟨g, j, none⟩ = some (.int .i64 (p : Int))) := Lib.hid (fun j p h1 h2 => hk3.cell (HCs.out j p h1 h2) (.inr rfl))
      clear hJ3 hk3 hR hy HCs hcell
      gi_wp2
      exact ⟨⟨k + 1, _, by go_num, by omega, HNext.out, HCs3.out, HJ3.out⟩, by simp [intOf]; omega⟩
    · have hd : decide ((k : Int) < (len : Int)) = false := by simp; omega
      have HE : Hid (pre = en zs) := Lib.hid (by rw [hpre, List.take_of_length_le (by rw [en_len, ← HL.out]; omega)])
      have HJ := Lib.hid hJ
      clear hpre hcs hJ
      gi_wp2
      go_end0
      exact ⟨⟨_, rfl⟩, pre, HE.out, HJ.out⟩
/-- The iterator's contract. -/
theorem all_seq (n : Nat) (hn : 1 ≤ n) {w w' : World} {Bs gz : Nat} {A : Option Addr} {len cap : Nat} {zs : List Nat} (h : Numb w w' Bs gz A len cap zs) (hl : len ≤ 1000000) :
    SeqP Fence.wide n Try.prog 42 #[.pointer (some ⟨Bs, 0, none⟩)] encI (KpD Bs gz) (fun xs => xs = en zs) (fun pre => pre = (en zs).take pre.length) w' := by
  intro l J W hW hJ hY h0
  exact all1_in n hn l Bs gz len cap A zs J W hY (cellI_bel hW h.box) h.hlen (fun hp => ⟨(h.row hp).1, fun j p hj => cellI_bel hW ((h.row hp).2 j p hj)⟩) hl h0
end Go.Proofs.Ytampdfmakhdliaa
namespace Go.Proofs.Ytampdfmakhdliaa
open Go.RowKit Go.Shelf Go.Gar
open Go.Gar.Dsk (Dsk Sec)

theorem keepsO_below {W W' : World} (h : Below W.heap.size W W') : KeepsOthers W W' := ⟨h.size, fun k _ hk _ => (h.block k (Array.getElem?_eq_some_iff.1 hk).1).trans hk⟩
theorem keepsO_cells {W W' : World} {g : Nat} {t : TypeId} {cs : List Value} (hg : W.grownBy W' (some g)) (hB : Blk W g t cs) : KeepsOthers W W' :=
  .of_grownBy hg fun j o hj ho => by
    obtain rfl := Option.some.inj hj
    unfold Blk at hB
    rw [hB] at ho
    obtain rfl := Option.some.inj ho
    rfl
theorem kpD_below {A B : Nat} {W W' : World} (h : Below W.heap.size W W') : KpD A B W W' := ⟨h.size, fun k _ _ hk _ => (h.block k (Array.getElem?_eq_some_iff.1 hk).1).trans hk⟩
theorem kpD_grown {A B g : Nat} {W W' : World} (h : W.grownBy W' (some g)) (hA : A ≠ g) (hB : B ≠ g) : KpD A B W W' :=
  ⟨h.size, fun k _ hk ho _ => (h.block k (Array.getElem?_eq_some_iff.1 ho).1 (fun e => by obtain rfl := Option.some.inj e; rcases hk with rfl | rfl; exact hA rfl; exact hB rfl)).trans ho⟩
theorem en_snd (zs : List Nat) : (en zs).map (·.2) = zs := by
  apply List.ext_getElem?
  intro k
  rw [List.getElem?_map, en_get]
  cases zs[k]? <;> rfl
/-- The disk while its pending sectors are gone through: what became of those in pre. -/
structure MidD (w : World) (F : Nat → Prop) (g gd gm : Nat) (fb : Bool) (left : Int) (d : Dsk) (fin : Nat → Sec → List UInt8 × Nat) (bx : List (Nat × TypeId × Value)) (pre : List (Nat × Nat)) (W : World) : Prop where
  disk : ∃ du, DiskB W F g gd gm fb left d.secs.length d.many du (Dsk.pending d) (pendF d) ∧ ∀ (k : Nat) (s : Sec), d.secs[k]? = some s → du[k]? = some (if k ∈ pre.map (·.2) then fin k s else (s.sure, s.old))
  box : ∀ p ∈ bx, Blk W p.1 p.2.1 [p.2.2] ∧ w.heap.size ≤ p.1
  only : Only F w W
section
variable {w W W' : World} {F : Nat → Prop} {g gd gm : Nat} {fb : Bool} {left : Int} {d : Dsk} {fin : Nat → Sec → List UInt8 × Nat} {bx : List (Nat × TypeId × Value)} {pre : List (Nat × Nat)}
theorem MidD.keep (h : MidD w F g gd gm fb left d fin bx pre W) (hF : ∀ k, F k → W'.heap[k]? = W.heap[k]?) (hbx : ∀ p ∈ bx, W'.heap[p.1]? = W.heap[p.1]?) (ho : Only F w W') : MidD w F g gd gm fb left d fin bx pre W' := by
  obtain ⟨du, h1, h2⟩ := h.disk
  exact ⟨⟨du, h1.keep hF, h2⟩, fun p hp => ⟨(hbx p hp).trans (h.box p hp).1, (h.box p hp).2⟩, ho⟩
theorem MidD.lt (h : MidD w F g gd gm fb left d fin bx pre W) : (∀ k, F k → k < W.heap.size) ∧ ∀ p ∈ bx, p.1 < W.heap.size := by
  obtain ⟨du, h1, _⟩ := h.disk
  exact ⟨h1.lt, fun p hp => (h.box p hp).1.lt⟩
theorem MidD.below (h : MidD w F g gd gm fb left d fin bx pre W) (hb : Below W.heap.size W W') : MidD w F g gd gm fb left d fin bx pre W' :=
  h.keep (fun k hk => hb.block k (h.lt.1 k hk)) (fun p hp => hb.block p.1 (h.lt.2 p hp)) (h.only.trans (.of_below F hb))
theorem MidD.grown {B : Nat} {row : Option Nat} (h : MidD w F g gd gm fb left d fin bx pre W) (hg : W.grownBy W' row) (hr : ∀ r, row = some r → B ≤ r) (hF : ∀ k, F k → k < B) (hbx : ∀ p ∈ bx, p.1 < B) (hB : w.heap.size ≤ B) : MidD w F g gd gm fb left d fin bx pre W' := by
  refine h.keep (fun k hk => hg.block k (h.lt.1 k hk) (fun e => ?_)) (fun p hp => hg.block p.1 (h.lt.2 p hp) (fun e => ?_)) ⟨hg.os.trans h.only.os, hg.tape.trans h.only.tape, hg.output.trans h.only.output, Nat.le_trans h.only.size hg.size, fun k hk hn => (hg.block k (Nat.lt_of_lt_of_le hk h.only.size) (fun e => ?_)).trans (h.only.block k hk hn)⟩
  · have := hr k e.symm; have := hF k hk; omega
  · have := hr p.1 e.symm; have := hbx p hp; omega
  · have := hr k e.symm; omega
theorem MidD.drew (h : MidD w F g gd gm fb left d fin bx pre W) : MidD w F g gd gm fb left d fin bx pre W.drew := h.below (Below.refl _ W).drew
theorem MidD.start {W0 : World} (h : DiskB W F g gd gm fb left d.secs.length d.many (sureL d) (Dsk.pending d) (pendF d)) (hbx : ∀ p ∈ bx, Blk W p.1 p.2.1 [p.2.2] ∧ W0.heap.size ≤ p.1) (ho : Only F W0 W) : MidD W0 F g gd gm fb left d fin bx [] W :=
  ⟨⟨sureL d, h, fun k s hk => by rw [sure_get hk]; simp⟩, hbx, ho⟩
/-- A sector is laid anew. -/
theorem MidD.store (h : MidD w F g gd gm fb left d fin bx pre W) (j : Nat) {k : Nat} {s : Sec} (hs : d.secs[k]? = some s) (hl : (fin k s).1.length = 32) (hbF : ∀ p ∈ bx, ¬ F p.1) :
    ∃ old, Blk W gd 70 old ∧ k * 33 + (secV (fin k s).1 (fin k s).2).length ≤ old.length ∧ MidD w F g gd gm fb left d fin bx (pre ++ [(j, k)]) (W.setRow gd (seg old (k * 33) (secV (fin k s).1 (fin k s).2)).toArray) := by
  obtain ⟨du, h1, h2⟩ := h.disk
  have hk : k < du.length := by rw [h1.len]; exact (List.getElem?_eq_some_iff.1 hs).1
  have hset : seg (durV du) (k * 33) (secV (fin k s).1 (fin k s).2) = durV (du.set k (fin k s)) := by rw [Nat.mul_comm]; exact durV_set h1.thin hk _ hl
  have hth : ∀ p ∈ du.set k (fin k s), p.1.length = 32 := fun p hp => by
    rcases List.mem_or_eq_of_mem_set hp with hp | rfl
    · exact h1.thin p hp
    · exact hl
  have far : ∀ q, q ≠ gd → (W.setRow gd (durV (du.set k (fin k s))).toArray).heap[q]? = W.heap[q]? := fun q hq => setRow_other _ _ _ _ hq
  refine ⟨durV du, h1.dur, by rw [durV_len h1.thin, secV_len hl]; omega, ?_⟩
  rw [hset]
  refine ⟨⟨du.set k (fin k s), ⟨(far g (fun e => h1.gdg e.symm)).trans h1.blk, h1.dur.row _, h1.map.block (far gm (fun e => h1.gdm e.symm)), by rw [List.length_set]; exact h1.len, hth, h1.max, h1.own⟩, fun i x hx => ?_⟩, fun p hp => ?_, h.only.trans ⟨rfl, rfl, rfl, by simp, fun q _ hq => far q (fun e => hq (e ▸ h1.fgd))⟩⟩
  · rw [List.map_append, List.map_singleton]
    by_cases hi : k = i
    · subst hi
      rw [hs] at hx
      obtain rfl := Option.some.inj hx
      rw [List.getElem?_set_self hk, if_pos (by simp)]
    · rw [List.getElem?_set_ne hi, h2 i x hx]
      have : (i ∈ pre.map (·.2) ++ [k]) ↔ i ∈ pre.map (·.2) := by
        rw [List.mem_append, List.mem_singleton]
        exact ⟨fun h => h.elim id fun e => absurd e.symm hi, .inl⟩
      simp only [this]
  · obtain ⟨hb1, hb2⟩ := h.box p hp
    exact ⟨(far p.1 (fun e => hbF p hp (by rw [e]; exact h1.fgd))).trans hb1, hb2⟩
/-- A sector stays. -/
theorem MidD.skip (h : MidD w F g gd gm fb left d fin bx pre W) (j : Nat) {k : Nat} {s : Sec} (hs : d.secs[k]? = some s) (hf : fin k s = (s.sure, s.old)) : MidD w F g gd gm fb left d fin bx (pre ++ [(j, k)]) W := by
  obtain ⟨du, h1, h2⟩ := h.disk
  refine ⟨⟨du, h1, fun i x hx => ?_⟩, h.box, h.only⟩
  rw [h2 i x hx, List.map_append, List.map_singleton]
  by_cases hi : k = i
  · subst hi
    rw [hs] at hx
    obtain rfl := Option.some.inj hx
    rw [hf, ite_self, ite_self]
  · have : (i ∈ pre.map (·.2) ++ [k]) ↔ i ∈ pre.map (·.2) := by
      rw [List.mem_append, List.mem_singleton]
      exact ⟨fun h => h.elim id fun e => absurd e.symm hi, .inl⟩
    simp only [this]
/-- All are gone through. -/
theorem MidD.finish (h : MidD w F g gd gm fb left d fin bx (en (Dsk.wets 0 d.secs)) W) (d' : Dsk) (hlen : d'.secs.length = d.secs.length)
    (hfin : ∀ (k : Nat) (s : Sec), d.secs[k]? = some s → ∃ s', d'.secs[k]? = some s' ∧ (s'.sure, s'.old) = if s.wet then fin k s else (s.sure, s.old)) :
    DiskB W F g gd gm fb left d'.secs.length d.many (sureL d') (Dsk.pending d) (pendF d) := by
  obtain ⟨du, h1, h2⟩ := h.disk
  have hdu : du = sureL d' := by
    apply List.ext_getElem?
    intro k
    unfold sureL
    rw [List.getElem?_map]
    by_cases hk : k < d.secs.length
    · have hg := List.getElem?_eq_getElem hk
      obtain ⟨s', e1, e2⟩ := hfin k _ hg
      rw [h2 k _ hg, e1, en_snd]
      show _ = some (s'.sure, s'.old)
      rw [e2]
      congr 1
      have hm : k ∈ Dsk.wets 0 d.secs ↔ d.secs[k].wet = true := by
        rw [Dsk.wets_mem]
        constructor
        · rintro ⟨_, x, hx, hw⟩
          rw [Nat.sub_zero, hg] at hx
          rw [Option.some.inj hx]; exact hw
        · intro hw
          exact ⟨Nat.zero_le _, _, by rw [Nat.sub_zero]; exact hg, hw⟩
      simp only [hm]
    · rw [List.getElem?_eq_none (by rw [h1.len]; omega), List.getElem?_eq_none (by rw [hlen]; omega)]
      rfl
  rw [← hdu, hlen]
  exact h1
end
/-- The range's pending sector in a round. -/
theorem round_sec {d : Dsk} {pre : List (Nat × Nat)} {x : Nat × Nat} (h : pre ++ [x] = (en (Dsk.wets 0 d.secs)).take (pre ++ [x]).length) : ∃ s, d.secs[x.2]? = some s ∧ s.wet = true ∧ Dsk.wetN d.secs x.2 = x.1 := by
  have h1 : (pre ++ [x])[pre.length]? = some x := by simp
  rw [h, List.getElem?_take_of_lt (by simp), en_get] at h1
  obtain ⟨p, hp, e⟩ := Option.map_eq_some_iff.1 h1
  subst e
  obtain ⟨_, s, hs, hw⟩ := (Dsk.wets_mem _ _ _).1 (List.mem_of_getElem? hp)
  have hn := Dsk.wets_at d.secs 0 pre.length p hp
  rw [Nat.sub_zero] at hs hn
  exact ⟨s, hs, hw, hn⟩
theorem dry_pend {d : Dsk} (h : Dsk.Dry d) : pendF d = fun _ => none := by
  funext x
  rcases there_cases d x with ⟨_, ht⟩ | ⟨_, _, ht⟩ | ⟨i, rfl, hi, _⟩
  · unfold pendF; rw [ht]; simp
  · unfold pendF; rw [ht]; simp
  · rw [pendF_at (List.getElem?_eq_getElem hi), h _ (List.getElem_mem hi)]; rfl
end Go.Proofs.Ytampdfmakhdliaa
namespace Go.Proofs.Ytampdfmakhdliaa
open Go.RowKit Go.Shelf Go.Gar
open Go.Gar.Dsk (Dsk Sec)
attribute [local go_sem] Oper.semAt_some

theorem wpListIn_clear_run {F : Fence} {n : Nat} {P : Program} {w : World} {ops : Array Oper} {rest : List Oper} {o : Oper} {a : Act} {Q : Exit → Act → World → Prop} (hgd : o.guard = none) (s : Operand) (ts : Array TypeId)
    (ho : o.op = .call { callee := .builtin .clear, args := #[s], argTypes := ts }) {vs v : Value} {w' : World} (hs : a.eval s = vs)
    (hrun : (Builtin.clear_ ts o.type #[vs]).run P w = .ok v w') (h : wpListIn F n P ops Q rest (a.put o.dst v) w') : wpListIn F n P ops Q (o :: rest) a w := by
  refine wpListIn_run hgd (by simp [Oper.about, ho, resolve, Target.leads]) (by simp [ho]) (v := v) (w' := w') ?_ h
  unfold execOp
  simp only [ho, resolve, invoke, builtin, Sem.run_bind, Sem.run_pure, Result.andThen_ok, List.map_toArray, List.map_cons, List.map_nil, hs, hrun]
def finF (_ : Nat) (s : Sec) : List UInt8 × Nat := (s.good, s.age)
set_option maxHeartbeats 8000000 in
set_option maxRecDepth 100000 in
theorem flush_in {w : World} {F : Nat → Prop} {g : Nat} {d : Dsk} (h : RepD w F g d) :
    CallsIn Fence.wide 20 Try.prog 12 #[ptr g] w fun e w' => e = .returned (.int .i64 ((Dsk.flushE d : Nat) : Int)) ∧ ∃ F', RepD w' F' g (Dsk.flush d) ∧ (∀ k, F' k → F k ∨ w.heap.size ≤ k) ∧ Only F w w' := by
  obtain ⟨gd, gm, fb, left, h, hf, hok⟩ := h
  have B1 : Blk (w.alloc (.cells #[.pointer (some ⟨g, 0, none⟩)] 23)) w.heap.size 23 [.pointer (some ⟨g, 0, none⟩)] := Blk.new _ _ _
  have b1 := below_alloc w (.cells #[.pointer (some ⟨g, 0, none⟩)] 23)
  have h1 := h.below b1
  have hFw := h.lt
  have s1 : (w.alloc (.cells #[.pointer (some ⟨g, 0, none⟩)] 23)).heap.size = w.heap.size + 1 := by simp
  obtain ⟨w1, hw1⟩ : ∃ w1, w.alloc (.cells #[.pointer (some ⟨g, 0, none⟩)] 23) = w1 := ⟨_, rfl⟩
  rw [hw1] at B1 b1 h1 s1
  have hp := pass_any h1 hf
  obtain ⟨E, hE⟩ : ∃ E, E = Dsk.flushE d := ⟨_, rfl⟩
  obtain ⟨D, hDD⟩ : ∃ D, D = Dsk.flush d := ⟨_, rfl⟩
  rw [← hE, ← hDD]
  have q1 := B1.cell 0
  simp only [List.getElem?_cons_zero] at q1
  have HE := Lib.hid hE
  have HDD := Lib.hid hDD
  have HB1 := Lib.hid B1
  have Hb1 := Lib.hid b1
  have HFw := Lib.hid hFw
  have Hs1 := Lib.hid s1
  have Hp := Lib.hid hp
  have Hok := Lib.hid hok
  have HW1 := Lib.hid hw1
  clear h hf hok B1 b1 h1 hFw s1 hw1 hp hE hDD
  unfold ptr at *
  refine callsIn_of_wp_marks Try.func12 rfl trivial ?_ rfl
  simp only [Try.ntmps12, List.size_toArray, List.length_cons, List.length_nil, Nat.reduceAdd, Nat.reduceSub, Array.replicate_succ, Array.replicate_zero, List.push_toArray, List.append_toArray, List.nil_append, List.cons_append]
  gi_wp2_with (rw [HW1.out])
  refine ⟨trivial, ?_⟩
  refine (callsIn_wide.2 Hp.out).mono ?_
  rintro e w2 ⟨rfl, ⟨left', hB2, hf2⟩, ho2⟩
  have hnF : ¬ F w.heap.size := fun hf => Nat.lt_irrefl _ (HFw.out _ hf)
  cases hg : Dsk.goes d.fuse with
  | none =>
    have e1 : Dsk.flushE d = 10 := by unfold Dsk.flushE; rw [hg]; rfl
    have e2 : Dsk.flush d = d := by unfold Dsk.flush; rw [hg]
    rw [hg] at hf2
    have HE0 := Lib.hid (HE.out.trans e1)
    have HD0 := Lib.hid (HDD.out.trans e2)
    have HR2 : Hid (RepD w2 F g d) := Lib.hid ⟨gd, gm, fb, left', hB2, hf2, Hok.out⟩
    have Ho2 := Lib.hid ((Only.of_below F Hb1.out).trans ho2)
    have q2 := (ho2.blk HB1.out hnF).cell 0
    simp only [List.getElem?_cons_zero] at q2
    clear hB2 hf2 ho2 e1 e2 hg Hp hnF q1
    gi_wp2
    exact ⟨_, results_tmp rfl _ _ _, by rw [HE0.out]; rfl, F, by rw [HD0.out]; exact HR2.out, fun j hj => .inl hj, Ho2.out⟩
  | some f' =>
    have e1 : Dsk.flushE d = 0 := by unfold Dsk.flushE; rw [hg]; rfl
    have e2 : Dsk.flush d = ⟨d.secs.map Dsk.settle, f', d.many⟩ := by unfold Dsk.flush; rw [hg]
    rw [hg] at hf2
    have HE0 := Lib.hid (HE.out.trans e1)
    have HD0 := Lib.hid (HDD.out.trans e2)
    have hB1 := ho2.blk HB1.out hnF
    have q2 := hB1.cell 0
    simp only [List.getElem?_cons_zero] at q2
    have Ho2 := Lib.hid ((Only.of_below F Hb1.out).trans ho2)
    obtain ⟨d1, hd1⟩ : ∃ d1 : Dsk, d1 = { d with fuse := f' } := ⟨_, rfl⟩
    have hok1 : Dsk.Ok d1 := by rw [hd1]; exact ⟨Hok.out.len, Hok.out.secs⟩
    have hB2' : DiskB w2 F g gd gm fb left' d1.secs.length d1.many (sureL d1) (Dsk.pending d1) (pendF d1) := by rw [hd1]; exact hB2
    have hf2' : FuseI fb left' d1.fuse := by rw [hd1]; exact hf2
    have hN := numbered_any (d := d1) ⟨gd, gm, fb, left', hB2', hf2', hok1⟩
    have HN := Lib.hid hN
    have HB2 := Lib.hid hB2'
    have Hf2 := Lib.hid hf2'
    have HBx := Lib.hid hB1
    have Hok1 := Lib.hid hok1
    have Hd1 := Lib.hid hd1
    clear hB2 hB2' hf2 hf2' ho2 e1 e2 hg Hp hnF q1 hB1 hN hok1 hd1
    unfold ptr at *
    gi_wp2
    refine ⟨trivial, ?_⟩
    refine (callsIn_wide.2 HN.out).mono ?_
    rintro e w3 ⟨Bs, gz, A, len, cap, rfl, hnb⟩
    have hl6 : len ≤ 1000000 := by
      have h1 := hnb.hlen
      rw [Dsk.wets_len] at h1
      have := pend_le d1 Hok1.out
      unfold Dsk.pending at this
      omega
    have hz1 := Ho2.out.size
    have hz2 := hnb.bel.size
    have hsq := all_seq 19 (by omega) hnb hl6
    have h0 : MidD w F g gd gm fb left' d1 finF [(w.heap.size, 23, .pointer (some ⟨g, 0, none⟩))] [] w2 := .start HB2.out (fun p hp => by
      obtain rfl := List.mem_singleton.1 hp
      exact ⟨HBx.out, Nat.le_refl _⟩) Ho2.out
    have h03 := h0.below hnb.bel
    have hlow := Lib.hid (show (∀ k, F k → k < w3.heap.size) ∧ w.heap.size < w3.heap.size ∧ Bs ≠ gd ∧ gz ≠ gd from by
      have hb := HBx.out.lt
      have hg := HFw.out gd HB2.out.fgd
      refine ⟨fun k hk => ?_, ?_, ?_, ?_⟩
      · have := HFw.out k hk; omega
      · omega
      · have := hnb.hB; omega
      · have := hnb.hg; omega)
    have HSq := Lib.hid hsq
    have H03 := Lib.hid h03
    have Hz := Lib.hid (show w.heap.size ≤ w3.heap.size from by omega)
    clear hnb hl6 hsq h0 h03 HN HBx q2 hz1 hz2
    gi_wp2
    refine rangeP (α := Nat × Nat) rfl (by omega) (gf := 42) (lb := #[.pointer (some ⟨Bs, 0, none⟩)]) rfl trivial (enters_of Try.func42 (by kernel_rfl) rfl) HSq.out (fun h k => h.trans k) (fun W l o o' h1 h2 => KpD.put _ _ W l o o' h1 h2) (fun _ => rfl)
      (fun pre W => MidD w F g gd gm fb left' d1 finF [(w.heap.size, 23, .pointer (some ⟨g, 0, none⟩))] pre W)
      ?low H03.out
      (fun x a' _ => a' = { tmps := #[Value.pointer (some { block := g, off := 0 }), Value.pointer (some { block := w.heap.size, off := 0 }),
          Value.int IntKind.i64 0, undef, (.int .i64 ((x.2 : Nat) : Int)), Value.pointer (some { block := g, off := 0 }), Value.bool false,
          Value.pointer (some { block := g, off := 0 }), Value.pointer (some { block := g, off := 0 }),
          Value.pointer (some { block := g, off := 0 }), Value.bool true, Value.bool false,
          Value.pointer (some { block := g, off := 0 }),
          Value.func (Fn.func 42) #[] #[Value.pointer (some { block := Bs, off := 0 })], (.int .i64 ((x.1 : Nat) : Int)), (.int .i64 ((x.2 : Nat) : Int)), undef, undef,
          undef, undef, undef, undef, undef, undef, undef, undef, undef, undef, undef, undef, undef, undef], defers := [] })
      ?ax ?assign ?body ?done
    case low =>
      rintro pre W W' row h hgr hrow
      have hl := hlow.out
      exact h.grown hgr hrow hl.1 (fun p hp => by obtain rfl := List.mem_singleton.1 hp; exact hl.2.1) Hz.out
    case ax => exact fun x a' W l o o' h _ _ => h
    case assign =>
      rintro l pre x W K _ h hK
      have HK := Lib.hid (hK _ _ (KeepsOthers.refl _) (kpD_below (Below.refl _ _)) h rfl)
      clear hK h
      simp only [encI, List.zip_toArray, List.zip_cons_cons, List.zip_nil_right, List.foldl_toArray, List.foldl_cons, List.foldl_nil, List.setIfInBounds_toArray, List.set]
      gi_wp2
      exact HK.out
    case body =>
      rintro l pre ⟨j, k⟩ a' W hpf h rfl
      obtain ⟨s, hs, hw, _⟩ := round_sec (d := d1) hpf
      have hd := h.drew
      have HK0 := Lib.hid (keepsO_below (Below.refl _ W).drew)
      have HP0 := Lib.hid (kpD_below (A := Bs) (B := gz) (Below.refl _ W).drew)
      clear hpf h
      gi_wp2_with fail
      refine wpIn_region_G grows (by kernel_rfl) (by kernel_rfl) (by rintro ⟨_, _, hh⟩; exact absurd hh.1 (by simp)) ?_
      generalize W.drew = W0 at *
      have hl := hlow.out
      obtain ⟨old, hbo, hlo, hmid⟩ := hd.store j hs (Hok1.out.secs s (List.mem_of_getElem? hs)).good (fun p hp => by
        obtain rfl := List.mem_singleton.1 hp
        exact fun hf => Nat.lt_irrefl _ (HFw.out _ hf))
      have hgr : W0.grownBy (W0.setRow gd (seg old (k * 33) (secV s.good s.age)).toArray) (some gd) := ⟨rfl, rfl, rfl, by simp, fun q _ hq => setRow_other _ _ _ _ (fun e => hq (by rw [e]))⟩
      have HKo := Lib.hid (HK0.out.trans (keepsO_cells hgr hbo))
      have HKp := Lib.hid (HP0.out.trans (kpD_grown hgr hl.2.2.1 hl.2.2.2))
      have HMid := Lib.hid hmid
      have Hbo := Lib.hid hbo
      have Hlo := Lib.hid hlo
      have hsz : (Try.prog.info? 70).map (·.size) = some (secV s.good s.age).length := by rw [secV_len (Hok1.out.secs s (List.mem_of_getElem? hs)).good]; exact Try.sizeSec
      have Hsz := Lib.hid hsz
      obtain ⟨du, hB, _⟩ := hd.disk
      have hkm : (k : Int) < (d1.secs.length : Int) := by have := (List.getElem?_eq_some_iff.1 hs).1; omega
      obtain ⟨m, hm⟩ : ∃ m, d1.secs.length = m := ⟨_, rfl⟩
      rw [hm] at hB hkm
      have hki : -9223372036854775808 ≤ (k : Int) ∧ (k : Int) ≤ 9223372036854775807 := by have := hB.max; omega
      have hlk := hB.map.look Try.undI Try.undMapS zero_sec hki
      rw [pendF_at hs, hw] at hlk
      simp only [if_true, Option.getD_some] at hlk
      have q1 := cell_later (hd.box _ (List.mem_singleton.2 rfl)).1 (i := 0) rfl
      have q2 := cell_later hB.blk (i := 2) rfl
      have q3 := cell_later hB.blk (i := 3) rfl
      have HLk := Lib.hid hlk
      clear hd hs hw hl hbo hlo hmid hgr hsz hB hm hki hlk HK0 HP0
      refine segG (by kernel_rfl) (fun _ _ _ _ _ h => h) [0, 1, 2, 3, 4, 5, 6, 7, 8, 9] [_, _, _, _, _, _, _, _, _, _] 3 rfl rfl (by kernel_rfl) ?_
      repeat (go_big_quiet_step (fail))
      refine wpQuiet_nil ?_
      clear q1 q2 q3
      refine oneG 10 2 rfl (by kernel_rfl) rfl ?_
      refine wpList_lookup_run rfl 60 (.tmp 24) (.tmp 25) false rfl rfl rfl HLk.out ?_
      simp only [Act.put, List.setIfInBounds_toArray, List.set]
      go_wp2
      refine ⟨Below.refl _ _, ?_⟩
      refine segG (by kernel_rfl) (fun _ _ _ _ _ h => h) [11] [_] 1 rfl rfl (by kernel_rfl) ?_
      repeat (go_big_quiet_step (fail))
      refine wpQuiet_nil ?_
      refine lateG 12 0 rfl (by kernel_rfl) (by kernel_rfl) rfl ?_
      refine wpList_store_seg rfl 70 70 (.tmp 27) (.tmp 26) gd (k * 33) old (secV s.good s.age) rfl rfl rfl rfl Hbo.out Hsz.out Hlo.out (secV_one _ _) ?_
      go_wp2
      refine ⟨trivial, ?_⟩
      refine wpAnyG_done (by kernel_rfl) ?_
      gi_wp2
      exact ⟨HKo.out, HKp.out, HMid.out⟩
    case done =>
      rintro D' xs W hD hxs h hK
      subst hxs
      have hl := hlow.out
      have hDs : D.secs = d1.secs.map Dsk.settle ∧ D.fuse = f' ∧ D.many = d.many := by rw [HD0.out, Hd1.out]; exact ⟨rfl, rfl, rfl⟩
      have hB := h.finish D (by rw [hDs.1, List.length_map]) (fun i x hx => ⟨Dsk.settle x, by rw [hDs.1, List.getElem?_map, hx]; rfl, by
        show (x.good, x.age) = _
        cases hw : x.wet with
        | true => rfl
        | false =>
          obtain ⟨e1, e2⟩ := (Hok1.out.secs x (List.mem_of_getElem? hx)).dry hw
          rw [if_neg (by simp), e1, e2]⟩)
      obtain ⟨W1, hcl, hmap, hgr⟩ := hB.map.clear Try.undMapS 0
      have hbx := (h.box _ (List.mem_singleton.2 rfl)).1
      have q1 := hbx.cell 0
      have q3 := hB.cells.2.2.2.1
      simp only [List.getElem?_cons_zero] at q1
      have hdry : Dsk.Dry D := fun x hx => by
        rw [hDs.1] at hx
        obtain ⟨y, _, rfl⟩ := List.mem_map.1 hx
        rfl
      have hokD : Dsk.Ok D := by rw [HDD.out]; exact Hok.out.flush
      have hne : ∀ q, F q → q ≠ D' := fun q hq e => by have := hl.1 q hq; omega
      have hB1 : DiskB W1 F g gd gm fb left' D.secs.length D.many (sureL D) (Dsk.pending D) (pendF D) := by
        rw [Dsk.pending_dry hdry, dry_pend hdry]
        refine ⟨?_, hB.dur.grown hgr (fun e => hB.gdm (Option.some.inj e)), hmap, hB.len, hB.thin, hB.max, hB.own⟩
        have := hB.blk.grown hgr (fun e => hB.ggm (Option.some.inj e))
        rw [hDs.2.2]
        have hdm : d1.many = d.many := by rw [Hd1.out]
        rw [hdm] at this
        exact this
      have hB2 := hB1.keep (w' := W1.putObj D' (.deferred none)) (fun q hq => World.putObj_heap_other (hne q hq))
      have hR : RepD (W1.putObj D' (.deferred none)) F g D := ⟨gd, gm, fb, left', hB2, by rw [hDs.2.1]; have := Hf2.out; rw [Hd1.out] at this; exact this, hokD⟩
      have hsz1 := h.only.size
      have hgg := hB.fgm
      have ho : Only F w (W1.putObj D' (.deferred none)) := (h.only.trans (.of_grown hgr (fun j e => by obtain rfl := Option.some.inj e; exact hgg))).then (F' := fun q => q = D') (.of_grown (grownBy_putObj' _ D' _) (fun j e => (Option.some.inj e).symm)) (fun q hq => .inr (by have := Hz.out; omega))
      have hK1 : W1.heap[D']? = some (.deferred (some [])) := (hgr.block D' (Array.getElem?_eq_some_iff.1 hK).1 (fun e => hne gm hgg (Option.some.inj e).symm)).trans hK
      have HR := Lib.hid hR
      have HO := Lib.hid ho
      have HK1 := Lib.hid hK1
      have HCl := Lib.hid hcl
      clear h hl hDs hB hmap hgr hbx hdry hokD hne hB1 hB2 hR hsz1 hgg ho hK hK1 hcl hD
      gi_wp2_with (refine wpListIn_clear_run rfl (.tmp 31) _ rfl rfl HCl.out ?_)
      refine ⟨by simp, .inl ⟨_, _, rfl, run_takeDeferred HK1.out, ?_⟩⟩
      exact ⟨_, results_tmp rfl _ _ _, by rw [HE0.out]; rfl, F, HR.out, fun j hj => .inl hj, HO.out⟩
theorem flush_any {w : World} {F : Nat → Prop} {g : Nat} {d : Dsk} (h : RepD w F g d) :
    Calls Try.prog 12 #[ptr g] w fun e w' => e = .returned (.int .i64 ((Dsk.flushE d : Nat) : Int)) ∧ ∃ F', RepD w' F' g (Dsk.flush d) ∧ (∀ k, F' k → F k ∨ w.heap.size ≤ k) ∧ Only F w w' :=
  callsIn_wide.1 (flush_in h)
end Go.Proofs.Ytampdfmakhdliaa
