/-
  The landed cbc: blocks, the iterator over the whole blocks of 16 bytes: its contract. A statement that draws its order, within a round of a range over a function: what the plain calculus shows of it serves there too. Of no program; a tool for the walks. Package aes: Encrypt and Decrypt, walked. Package aes: products.
-/
import Derived.RangeFuncNested
import Derived.RangeFuncBound
import Derived.RangeFuncCalls
import Derived.RangeFuncLeaves
import Derived.Shelf.Abstract
import Derived.Shelf.RegionOpen
import Derived.WalkKit
import Derived.OwnWalkIn
import Derived.TacticsInMore
import Derived.LoopNIn
import Derived.LoopIn
import Derived.Test.YtjhkodmaalefiaaDoorSealJ26
import Derived.Test.YtjhkodmaalefiaaDoorSealJ02
import Derived.Test.YtjhkodmaalefiaaDoorSealJ25
import Derived.Test.YtjhkodmaalefiaaDoorSealJ15
import Derived.OrdersIn
set_option maxRecDepth 100000
namespace Go.Proofs.YtjhkodmaalefiaaDoor
open Go.RowKit Go.Shelf Go.Gar Go.Gar.Aes
attribute [local go_sem] Oper.semAt_some

theorem cellC_bel' {w w' : World} (hb : Below w.heap.size w w') {p : Addr} {v : Value} (h : w.cell? p = some v) : w'.cell? p = some v := by
  rw [hb.cell (p := p) (World.block_lt_of_cell? w p h), h]
/-- 16 bytes. -/
abbrev B16 := { m : List UInt8 // m.length = 16 }
def flatC (xs : List B16) : List UInt8 := (xs.map (·.1)).flatten
theorem flatC_snoc (xs : List B16) (x : B16) : flatC (xs ++ [x]) = flatC xs ++ x.1 := by simp [flatC]
theorem flatC_len (xs : List B16) : (flatC xs).length = 16 * xs.length := by
  induction xs with
  | nil => rfl
  | cons x xs ih =>
    have : flatC (x :: xs) = x.1 ++ flatC xs := by simp [flatC]
    rw [this, List.length_append, x.2, ih, List.length_cons]; omega

/-- A round keeps block gt. -/
structure KpT (gt : Nat) (W W' : World) : Prop where
  size : W.heap.size ≤ W'.heap.size
  same : ∀ (o : Obj), W.heap[gt]? = some o → o.isCells = true → W'.heap[gt]? = some o
theorem KpT.trans {gt : Nat} {A B C : World} (h : KpT gt A B) (k : KpT gt B C) : KpT gt A C :=
  ⟨Nat.le_trans h.size k.size, fun o hi hc => k.same o (h.same o hi hc) hc⟩
theorem KpT.put (gt : Nat) (W : World) (l : Nat) (o o' : Obj) (hl : W.heap[l]? = some o) (ho : o.isCells = false) : KpT gt W (W.putObj l o') :=
  ⟨by simp, fun p hk hp => by
    have : gt ≠ l := by rintro rfl; rw [hl] at hk; cases hk; rw [ho] at hp; cases hp
    exact (World.putObj_heap_other this).trans hk⟩
theorem KpT.cell {gt : Nat} {W W' : World} (h : KpT gt W W') {o : Nat} {v : Value} (hp : W.cell? ⟨gt, o, none⟩ = some v) : W'.cell? ⟨gt, o, none⟩ = some v := by
  obtain ⟨ob, ho, hc⟩ := cells_of_cell hp
  rw [← hp]
  exact World.cell?_of_block ((h.same _ ho hc).trans ho.symm)
theorem kpT_below {gt : Nat} {W W' : World} (h : Below W.heap.size W W') : KpT gt W W' := ⟨h.size, fun _ hk _ => (h.block gt (Array.getElem?_eq_some_iff.1 hk).1).trans hk⟩
theorem kpT_grown {gt g : Nat} {W W' : World} (h : W.grownBy W' (some g)) (hne : gt ≠ g) : KpT gt W W' := ⟨h.size, fun _ hk _ => (h.block gt (Array.getElem?_eq_some_iff.1 hk).1 (fun e => hne (Option.some.inj e))).trans hk⟩
theorem keepsC_below {W W' : World} (h : Below W.heap.size W W') : KeepsOthers W W' := ⟨h.size, fun k _ hk _ => (h.block k (Array.getElem?_eq_some_iff.1 hk).1).trans hk⟩

/-- The bytes l from cell o of block gt on. -/
def At (W : World) (gt o : Nat) (l : List UInt8) : Prop := ∀ i c, l[i]? = some c → W.cell? ⟨gt, o + i, none⟩ = some (.int .u8 (c.toNat : Int))
theorem At.kept {W W' : World} {gt o : Nat} {l : List UInt8} (h : At W gt o l) (hk : KpT gt W W') : At W' gt o l := fun i c hi => hk.cell (h i c hi)
theorem At.dropped {W : World} {gt o : Nat} {l : List UInt8} (h : At W gt o l) (k : Nat) : At W gt (o + k) (l.drop k) := fun i c hi => by
  rw [List.getElem?_drop] at hi
  rw [Nat.add_assoc]
  exact h _ _ hi

theorem run_arr16 (g o n c : Nat) (h : 16 ≤ n) (W : World) : (Instr.arrayAt 25 (.slice (some ⟨g, o, none⟩) n c)).run Tryd.prog W = .ok (.pointer (some ⟨g, o, none⟩)) W := by
  have h1 : ¬ n < 16 := by omega
  simp [Instr.arrayAt, run_underlying Tryd.und16 W, h1]
theorem load_at16 {W : World} {gt o : Nat} {l : List UInt8} (h : At W gt o l) (hl : 16 ≤ l.length) : (loadVar 25 ⟨gt, o, none⟩).run Tryd.prog W = .ok (.agg (u8s (l.take 16)).toArray) W := by
  refine run_loadVar_mid (P := Tryd.prog) W gt o 25 (u8s (l.take 16)) _ (fun j v hv => ?_) Tryd.und16 rfl (by rw [u8s_len, List.length_take, Nat.min_eq_left hl]; kernel_rfl)
  rw [u8s_get] at hv
  cases hq : (l.take 16)[j]? with
  | none => rw [hq] at hv; cases hv
  | some c =>
    rw [hq] at hv
    obtain rfl := Option.some.inj hv
    rw [List.getElem?_take] at hq
    split at hq
    · exact h j c hq
    · cases hq

set_option maxRecDepth 100000 in
set_option maxHeartbeats 2000000 in
theorem blocks1C_in (n : Nat) (hn : 1 ≤ n) (l Bs gt len cap : Nat) (A : Option Addr) (m : List UInt8) (J : List B16 → World → Prop) (W : World)
    (hY : ∀ pre (x : B16) W1, (flatC (pre ++ [x])).length ≤ m.length → J pre W1 → YieldAt Fence.wide (n - 1) Tryd.prog l #[.agg (u8s x.1).toArray] W1 fun e W' => e = .returned (.bool true) ∧ J (pre ++ [x]) W' ∧ KpT gt W1 W')
    (hBs : W.cell? ⟨Bs, 0, none⟩ = some (.slice A len cap)) (hlen : len = m.length) (hcap : len ≤ cap) (hA : 0 < len → ∃ o, A = some ⟨gt, o, none⟩ ∧ At W gt o m) (hm : m.length % 16 = 0) (hx : m.length ≤ 2000000) (h0 : J [] W) :
    CallsIn Fence.wide n Tryd.prog 64 #[.func (.yield l) #[] #[], .pointer (some ⟨Bs, 0, none⟩)] W fun e W' => (∃ v, e = .returned v) ∧ ∃ xs, flatC xs = m ∧ J xs W' := by
  have HY := Lib.hid hY
  have HM := Lib.hid hm
  have HX := Lib.hid hx
  have HA := Lib.hid hA
  have H0 := Lib.hid h0
  have HL := Lib.hid hlen
  have hlx : len ≤ 2000000 := by omega
  clear hY hm hx hA h0 hlen
  refine callsIn_of_wp Tryd.func64 rfl trivial ?_ rfl
  simp only [Tryd.ntmps64, List.size_toArray, List.length_cons, List.length_nil, Nat.reduceAdd, Nat.reduceSub, Array.replicate_succ, Array.replicate_zero, List.push_toArray, List.append_toArray, List.nil_append, List.cons_append]
  gi_wp2
  gi_loopw [3] (fun v wr => ∃ (k : Nat) (pre : List B16) (B : Option Addr) (c : Nat), 16 * k ≤ len ∧ v = .slice B (len - 16 * k) c ∧ len - 16 * k ≤ c ∧ flatC pre = m.take (16 * k) ∧ (16 * k < len → ∃ p, B = some ⟨gt, p, none⟩ ∧ At wr gt p (m.drop (16 * k))) ∧ J pre wr)
    (fun v _ => match v with | .slice _ k _ => k | _ => 0)
  case atStart => exact ⟨0, [], A, cap, by omega, rfl, hcap, rfl, fun h => HA.out (by omega), H0.out⟩
  case round =>
    obtain ⟨k, pre, B, c, hk, rfl, hkc, hflat, hAt, hJ⟩ := hrel
    clear HA H0 hBs
    have hM := HM.out
    have hL := HL.out
    obtain ⟨r, hr⟩ : ∃ r, r = len - 16 * k := ⟨_, rfl⟩
    rw [← hr] at hkc ⊢
    by_cases hlt : 16 * k < len
    · have h16 : 16 ≤ r := by omega
      obtain ⟨p, hBp, hAp⟩ := hAt hlt
      clear hAt
      subst hBp
      have hAt := hAp
      clear hAp
      have hld := load_at16 hAt (by rw [List.length_drop]; omega)
      have hx16 : ((m.drop (16 * k)).take 16).length = 16 := by rw [List.length_take, List.length_drop]; omega
      obtain ⟨x, hxe⟩ : ∃ x : B16, x.1 = (m.drop (16 * k)).take 16 := ⟨⟨_, hx16⟩, rfl⟩
      rw [← hxe] at hld
      have hfl2 : flatC (pre ++ [x]) = m.take (16 * (k + 1)) := by
        rw [flatC_snoc, hflat, hxe, show 16 * (k + 1) = 16 * k + 16 from by omega, List.take_add]
      obtain ⟨fn, tmps, assign, body, hy, hR⟩ := HY.out pre x wr (by rw [hfl2, List.length_take]; omega) hJ
      have HF := Lib.hid hfl2
      have HAt := Lib.hid hAt
      have har := run_arr16 gt p r c h16
      have hd : decide ((16 : Int) ≤ (r : Int)) = true := by simp; omega
      have Hr := Lib.hid hr
      clear hflat hAt hJ hM hL hx16 hxe hfl2 hr
      gi_wp2_with (refine wpListIn_load_arr rfl 25 (.tmp 12) rfl rfl (u8s x.1).toArray hld ?_)
      refine hR.mono ?_
      rintro e W3 ⟨rfl, hJ3, hk3⟩
      have HJ3 := Lib.hid hJ3
      have HAt3 : Hid (16 < r → At W3 gt (p + 16) (m.drop (16 * (k + 1)))) := Lib.hid (fun _ => by
        have := (HAt.out.kept hk3).dropped 16
        rw [List.drop_drop, show 16 * k + 16 = 16 * (k + 1) from by omega] at this
        exact this)
      clear hJ3 hk3 hR hy hld HAt har
      by_cases hc16 : c = 16
      · subst hc16
        have hr16 : r = 16 := by omega
        subst hr16
        gi_wp2
        refine ⟨⟨k + 1, pre ++ [x], some ⟨gt, p, none⟩, 0, by have := Hr.out; omega, ?_, by have := Hr.out; omega, HF.out, fun h => by have := Hr.out; omega, HJ3.out⟩, by show 0 < 16; omega⟩
        rw [show len - 16 * (k + 1) = 0 from by have := Hr.out; omega]
      · have hsl := slice_from gt p r c 16 h16 (by omega)
        have hsl2 : ∀ W, (Instr.sliceAt 26 (.slice (some ⟨gt, p, none⟩) r c) (some (.int .i64 16)) none none).run Tryd.prog W = .ok (.slice (some ⟨gt, p + 16, none⟩) (r - 16) (c - 16)) W := hsl
        clear hsl
        gi_wp2
        refine ⟨⟨k + 1, pre ++ [x], some ⟨gt, p + 16, none⟩, c - 16, by have := Hr.out; omega, ?_, by have := Hr.out; omega, HF.out, fun h => ⟨_, rfl, HAt3.out (by have := Hr.out; omega)⟩, HJ3.out⟩, by show r - 16 < r; omega⟩
        rw [show len - 16 * (k + 1) = r - 16 from by have := Hr.out; omega]
    · have hd : decide ((16 : Int) ≤ (r : Int)) = false := by simp; omega
      have HE : Hid (flatC pre = m) := Lib.hid (by rw [hflat]; exact List.take_of_length_le (by omega))
      have HJp := Lib.hid hJ
      clear hflat hAt hJ hr hM hL
      gi_wp2
      go_end0
      exact ⟨⟨_, rfl⟩, pre, HE.out, HJp.out⟩

theorem blocksC_seq (n : Nat) (hn : 1 ≤ n) (Bs gt len cap : Nat) (A : Option Addr) (m : List UInt8) (w : World) (hBs : w.cell? ⟨Bs, 0, none⟩ = some (.slice A len cap)) (hlen : len = m.length) (hcap : len ≤ cap) (hA : 0 < len → ∃ o, A = some ⟨gt, o, none⟩ ∧ At w gt o m) (hm : m.length % 16 = 0) (hx : m.length ≤ 2000000) :
    SeqP Fence.wide n Tryd.prog 64 #[.pointer (some ⟨Bs, 0, none⟩)] (fun x : B16 => #[.agg (u8s x.1).toArray]) (KpT gt) (fun xs => flatC xs = m) (fun xs => (flatC xs).length ≤ m.length) w := by
  intro l J W hW hJ hY h0
  refine blocks1C_in n hn l Bs gt len cap A m J W hY (cellC_bel' hW hBs) hlen hcap (fun h => ?_) hm hx h0
  obtain ⟨o, h1, h2⟩ := hA h
  exact ⟨o, h1, fun i c hi => cellC_bel' hW (h2 i c hi)⟩

set_option maxRecDepth 100000 in
set_option maxHeartbeats 1000000 in
theorem blocksC_in (n : Nat) (A : Option Addr) (len cap : Nat) (w : World) :
    CallsIn Fence.wide n Tryd.prog 36 #[.slice A len cap] w fun e w' => e = .returned (.func (.func 64) #[] #[.pointer (some ⟨w.heap.size, 0, none⟩)]) ∧ w' = w.alloc (.cells #[.slice A len cap] 26) := by
  refine callsIn_of_wp Tryd.func36 rfl trivial ?_ rfl
  simp only [Tryd.ntmps36, List.size_toArray, List.length_cons, List.length_nil, Nat.reduceAdd, Nat.reduceSub, Array.replicate_succ, Array.replicate_zero, List.push_toArray, List.append_toArray, List.nil_append, List.cons_append]
  gi_wp2
  refine bodyPost_ret (results_tmp rfl _ _ _) rfl ?_
  exact ⟨rfl, rfl⟩
end Go.Proofs.YtjhkodmaalefiaaDoor
namespace Go.Gar
open Go Go.RowKit
section
variable {P : Program} {ops : Array Oper} {Q : Exit → Act → World → Prop} {md : Region.Mode}

/-- No operation defers a call, none is a call of a row of the model's table. -/
def noDefer (ops : Array Oper) : Bool := ops.all fun o => match o.op with | .defer _ => false | _ => true
theorem noDefer_spec (h : noDefer ops = true) {i : Nat} {o : Oper} (hi : ops[i]? = some o) : ∀ c, o.op ≠ .defer c := by
  intro c hc
  rw [noDefer, Array.all_eq_true_iff_forall_mem] at h
  have := h o (Array.mem_of_getElem? hi)
  rw [hc] at this
  cases this

theorem rowsIn_round {l n : Nat} {row : String} {args : Array Value} {w : World} {R : Value → World → Prop} (h : Rows P row args w R) : RowsIn (Fence.wide.inRound l) n P row args w R :=
  fun c cs _ => let ⟨v, w', r, s⟩ := h c cs; ⟨v, w', r, stepsIn_wide.2 s⟩
theorem wpOpIn_round {l n i : Nat} {K : Act → World → Prop} {a : Act} {w : World} (hd : noDefer ops = true) (hno : ¬ LetsOut Q)
    (h : wpOp P ops Q i K a w) : wpOpIn (Fence.wide.inRound l) n P ops Q i K a w := by
  unfold wpOp at h
  unfold wpOpIn
  cases ho : ops[i]? with
  | none => simp only [ho] at h; exact h
  | some o =>
    simp only [ho] at h ⊢
    split
    · rename_i hw
      simp only [hw, if_true] at h
      have h1 : o.wp P a w K Q := h.elim id fun h => (hno h.2).elim
      refine ⟨fun _ _ => trivial, ?_⟩
      rw [Oper.semAt_eq _ _ _ (noDefer_spec hd ho)]
      unfold Oper.wp at h1
      generalize (execOp a.eval o).run P w = r at *
      cases r with
      | ok x w' =>
        cases x <;> simp only [Oper.upon, Oper.uponIn] at h1 ⊢
        case value u => exact h1
        case skip => exact h1
        case defer d => exact h1
        case enter f args =>
          refine ⟨fun h => (by cases h), CallsIn.inRound l (callsIn_wide.2 (h1.mono fun e w'' he => ?_))⟩
          cases e <;> exact he
        case row row args =>
          refine ⟨fun h => (by cases h), ?_⟩
          exact rowsIn_round h1
      | halt x w' =>
        cases x <;> simp only [Oper.upon, Oper.uponIn] at h1 ⊢
        exact h1
    · rename_i hw
      simp only [hw] at h
      exact ⟨fun _ _ => trivial, h⟩
theorem wpAnyIn_round {l n : Nat} (hd : noDefer ops = true) (hno : ¬ LetsOut Q) : ∀ (fuel : Nat) (listed : Array Bool) (a : Act) (w : World), wpAny P md ops Q fuel listed a w → wpAnyIn (Fence.wide.inRound l) n P md ops Q fuel listed a w
  | 0, _, _, _, h => h
  | fuel + 1, _, _, _, h => ⟨h.1, fun i hi => wpOpIn_round hd hno (wpOp_mono (fun a' w' h' => wpAnyIn_round hd hno fuel _ a' w' h') (h.2 i hi))⟩
/-- The beginning, within a round. -/
theorem wpIn_region_G (G : Growth) {id l n : Nat} {L : List Oper} {a : Act} {w : World} (hm : P.follows .mixedOrders = true) (hd : noDefer L.toArray = true) (hno : ¬ LetsOut Q)
    (h : wpAnyG G P .any L.toArray Q L.length (Array.replicate L.length false) a w.drew) : (Code.region id L.toArray true).wpIn (Fence.wide.inRound l) n P Q a w :=
  wpIn_region_any hm (wpAnyIn_round hd hno _ _ _ _ (wpAny_of_G _ _ _ _ (by simpa using h)))
end
end Go.Gar
namespace Go.Proofs.YtjhkodmaalefiaaDoor
open Go.RowKit Go.Gar Go.Gar.Aes

set_option maxHeartbeats 1000000 in
set_option maxRecDepth 100000 in
theorem enc_nil (w : World) (l : List UInt8) (hl : l.length = 16) :
    Calls Tryd.prog 37 #[.pointer none, .agg (u8s l).toArray] w fun e w' => e = .returned (.agg (u8s l).toArray) ∧ Below w.heap.size w w' := by
  have H2 := Two16.start w l
  have hs1 : (w.alloc (.cells (u8s l).toArray 25)).heap.size = w.heap.size + 1 := World.size_alloc _ _
  obtain ⟨w1, hw1⟩ : ∃ w1, w.alloc (.cells (u8s l).toArray 25) = w1 := ⟨_, rfl⟩
  rw [hw1] at H2 hs1
  obtain ⟨w2, hw2⟩ : ∃ w2, w1.alloc (.cells zr16.toArray 25) = w2 := ⟨_, rfl⟩
  rw [hw2] at H2
  have HW1 := Lib.hid hw1
  have HW2 := Lib.hid hw2
  have HS1 := Lib.hid hs1
  have HE := Lib.hid H2
  have hld := H2.load hl
  have hbk := H2.back hl
  have HSe := Lib.hid (sizeA16 l hl)
  have HZe : Hid (zr16.length = (u8s l).length) := Lib.hid (by rw [u8s_len, hl]; rfl)
  have HOe := Lib.hid (u8s_one l)
  have HbE := Lib.hid (below_setRow H2.b (by omega : w.heap.size ≤ w.heap.size + 1) (u8s l).toArray)
  clear hl hw1 hw2 hs1 H2
  go_enter Tryd.func37, Tryd.ntmps37
  go_wp2_with (first | (refine wpList_box_arr rfl 25 (.tmp 1) (u8s l).toArray rfl rfl ?_; rw [HW1.out]) | (refine wpList_alloc_arr rfl 25 zr16.toArray rfl zeroR16 ?_; rw [HW2.out, HS1.out]))
  refine (ready_nil w2).mono ?_
  rintro e w3 ⟨rfl, rfl⟩
  go_wp2_with (first | refine wpList_load_arr_w 25 (.tmp 3) rfl rfl (u8s l).toArray hld (by kernel_rfl) ?_ | refine wpList_store_arr rfl 25 (.tmp 4) (.tmp 9) (w.heap.size + 1) _ _ rfl rfl rfl rfl HE.out.r HSe.out HZe.out HOe.out ?_)
  try simp only [Act.put, List.setIfInBounds_toArray, List.set]
  refine bodyPost_ret (v := .agg (u8s l).toArray) ?_ rfl ⟨rfl, HbE.out⟩
  generalize (u8s l).toArray = X at hbk ⊢
  simp [results, Tryd.results37, asAddr, hbk]
set_option maxHeartbeats 1000000 in
set_option maxRecDepth 100000 in
theorem dec_nil (w : World) (l : List UInt8) (hl : l.length = 16) :
    Calls Tryd.prog 48 #[.pointer none, .agg (u8s l).toArray] w fun e w' => e = .returned (.agg (u8s l).toArray) ∧ Below w.heap.size w w' := by
  have H2 := Two16.start w l
  have hs1 : (w.alloc (.cells (u8s l).toArray 25)).heap.size = w.heap.size + 1 := World.size_alloc _ _
  obtain ⟨w1, hw1⟩ : ∃ w1, w.alloc (.cells (u8s l).toArray 25) = w1 := ⟨_, rfl⟩
  rw [hw1] at H2 hs1
  obtain ⟨w2, hw2⟩ : ∃ w2, w1.alloc (.cells zr16.toArray 25) = w2 := ⟨_, rfl⟩
  rw [hw2] at H2
  have HW1 := Lib.hid hw1
  have HW2 := Lib.hid hw2
  have HS1 := Lib.hid hs1
  have HE := Lib.hid H2
  have hld := H2.load hl
  have hbk := H2.back hl
  have HSe := Lib.hid (sizeA16 l hl)
  have HZe : Hid (zr16.length = (u8s l).length) := Lib.hid (by rw [u8s_len, hl]; rfl)
  have HOe := Lib.hid (u8s_one l)
  have HbE := Lib.hid (below_setRow H2.b (by omega : w.heap.size ≤ w.heap.size + 1) (u8s l).toArray)
  clear hl hw1 hw2 hs1 H2
  go_enter Tryd.func48, Tryd.ntmps48
  go_wp2_with (first | (refine wpList_box_arr rfl 25 (.tmp 1) (u8s l).toArray rfl rfl ?_; rw [HW1.out]) | (refine wpList_alloc_arr rfl 25 zr16.toArray rfl zeroR16 ?_; rw [HW2.out, HS1.out]))
  refine (ready_nil w2).mono ?_
  rintro e w3 ⟨rfl, rfl⟩
  go_wp2_with (first | refine wpList_load_arr_w 25 (.tmp 3) rfl rfl (u8s l).toArray hld (by kernel_rfl) ?_ | refine wpList_store_arr rfl 25 (.tmp 4) (.tmp 9) (w.heap.size + 1) _ _ rfl rfl rfl rfl HE.out.r HSe.out HZe.out HOe.out ?_)
  try simp only [Act.put, List.setIfInBounds_toArray, List.set]
  refine bodyPost_ret (v := .agg (u8s l).toArray) ?_ rfl ⟨rfl, HbE.out⟩
  generalize (u8s l).toArray = X at hbk ⊢
  simp [results, Tryd.results48, asAddr, hbk]

set_option maxHeartbeats 2000000 in
set_option maxRecDepth 100000 in
theorem encrypt_at (w : World) (gc gk nk cap last : Nat) (K : Nat → List UInt8) (l : List UInt8) (hl : l.length = 16) (hR : Ready w gc gk nk cap K) (hn : nk = last + 1) (h1 : 1 ≤ last) (h2 : last ≤ 100) :
    Calls Tryd.prog 37 #[.pointer (some ⟨gc, 0, none⟩), .agg (u8s l).toArray] w fun e w' => e = .returned (.agg (u8s (enc K last l)).toArray) ∧ Below w.heap.size w w' := by
  have HR := Lib.hid hR
  have HL := Lib.hid hl
  have HN := Lib.hid hn
  have hnk : 2 ≤ nk ∧ nk ≤ 101 := by omega
  have H2 := Two16.start w l
  have hs1 : (w.alloc (.cells (u8s l).toArray 25)).heap.size = w.heap.size + 1 := World.size_alloc _ _
  obtain ⟨w1, hw1⟩ : ∃ w1, w.alloc (.cells (u8s l).toArray 25) = w1 := ⟨_, rfl⟩
  rw [hw1] at H2 hs1
  obtain ⟨w2, hw2⟩ : ∃ w2, w1.alloc (.cells zr16.toArray 25) = w2 := ⟨_, rfl⟩
  rw [hw2] at H2
  have HW1 := Lib.hid hw1
  have HW2 := Lib.hid hw2
  have HS1 := Lib.hid hs1
  have HH := Lib.hid H2
  have hcell := hR.at_ H2.b
  clear hl hR hw1 hw2 hs1 H2 hn h1 h2
  obtain ⟨hnk1, hnk2⟩ := hnk
  go_enter Tryd.func37, Tryd.ntmps37
  go_wp2_with (first | (refine wpList_box_arr rfl 25 (.tmp 1) (u8s l).toArray rfl rfl ?_; rw [HW1.out]) | (refine wpList_alloc_arr rfl 25 zr16.toArray rfl zeroR16 ?_; rw [HW2.out, HS1.out]))
  refine (ready_yes w2 gc nk cap _ (by omega) hcell).mono ?_
  rintro e w3 ⟨rfl, rfl⟩
  go_wp2_with fail
  refine (HR.out.add HL.out HH.out 0 0 rfl (by omega)).mono ?_
  rintro e w4 ⟨⟨rv, rfl⟩, h4⟩
  have H4 : Hid (Two16 w w4 (encN K last l 0)) := Lib.hid h4
  clear h4 HH hcell HW1 HW2 HS1
  go_wp2_with fail
  go_loopw [5] (fun v w' => ∃ r : Nat, r < nk ∧ v = .int .i64 ((r : Int) + 1) ∧ Two16 w w' (encN K last l r)) (fun v _ => nk - (intOf v).toNat)
  case atStart => exact ⟨0, by omega, rfl, H4.out⟩
  case round =>
    obtain ⟨r, hr, rfl, h5⟩ := hrel
    clear H4
    have hcell := HR.out.at_ h5.b
    have H5 := Lib.hid h5
    clear h5
    by_cases hlt : r + 1 < nk
    · have d1 : decide ((r : Int) + 1 < (nk : Int)) = true := by simp; omega
      go_wp2_with fail
      refine (HR.out.sub (encN_len K last l r) H5.out).mono ?_
      rintro e w6 ⟨⟨rv6, rfl⟩, h6⟩
      have H6 := Lib.hid h6
      clear h6 hcell
      go_wp2_with fail
      refine (Two16.rot1 (by rw [List.length_map]; exact encN_len K last l r) H6.out).mono ?_
      rintro e w7 ⟨⟨rv7, rfl⟩, h7⟩
      rw [shift_rot _ (encN_len K last l r)] at h7
      have hcell := HR.out.at_ h7.b
      have H7 := Lib.hid h7
      clear h7 H6 H5
      by_cases hlm : r + 1 < last
      · have d2 : decide ((r : Int) + 1 < (nk : Int) - 1) = true := by have := HN.out; simp; omega
        go_wp2_with fail
        refine (HR.out.mix (shift_len _) H7.out).mono ?_
        rintro e w8 ⟨⟨rv8, rfl⟩, h8⟩
        have hcell := HR.out.at_ h8.b
        have H8 := Lib.hid h8
        clear h8
        go_wp2_with fail
        refine (HR.out.add (mix_len _) H8.out (r + 1) _ rfl (by omega)).mono ?_
        rintro e w9 ⟨⟨rv9, rfl⟩, h9⟩
        have H9 : Hid (Two16 w w9 (encN K last l (r + 1))) := Lib.hid (by rw [encN, if_pos hlm]; exact h9)
        clear h9
        go_wp2
        exact ⟨⟨r + 1, by omega, by go_num, H9.out⟩, by simp [intOf]; omega⟩
      · have d2 : decide ((r : Int) + 1 < (nk : Int) - 1) = false := by have := HN.out; simp; omega
        have H8 := H7
        go_wp2_with fail
        refine (HR.out.add (shift_len _) H8.out (r + 1) _ rfl (by omega)).mono ?_
        rintro e w9 ⟨⟨rv9, rfl⟩, h9⟩
        have H9 : Hid (Two16 w w9 (encN K last l (r + 1))) := Lib.hid (by rw [encN, if_neg hlm]; exact h9)
        clear h9
        go_wp2
        exact ⟨⟨r + 1, by omega, by go_num, H9.out⟩, by simp [intOf]; omega⟩
    · have d1 : decide ((r : Int) + 1 < (nk : Int)) = false := by simp; omega
      have hrl : r = last := by have := HN.out; omega
      have HE : Hid (Two16 w wr (enc K last l)) := Lib.hid (by unfold enc; have := H5.out; rw [hrl] at this; exact this)
      have hel := enc_len K last l
      clear hrl H5
      obtain ⟨out, hout⟩ : ∃ out, enc K last l = out := ⟨_, rfl⟩
      rw [hout] at HE hel
      have HOut := Lib.hid hout
      clear hout
      have hld := HE.out.load hel
      have hbk := HE.out.back hel
      have HSe := Lib.hid (sizeA16 out hel)
      have HZe : Hid (zr16.length = (u8s out).length) := Lib.hid (by rw [u8s_len, hel]; rfl)
      have HOe := Lib.hid (u8s_one out)
      have HbE := Lib.hid (below_setRow HE.out.b (by omega : w.heap.size ≤ w.heap.size + 1) (u8s out).toArray)
      go_wp2_with (first | refine wpList_load_arr_w 25 (.tmp 3) rfl rfl (u8s out).toArray hld (by kernel_rfl) ?_ | refine wpList_store_arr rfl 25 (.tmp 4) (.tmp 49) (w.heap.size + 1) _ _ rfl rfl rfl rfl HE.out.r HSe.out HZe.out HOe.out ?_)
      try simp only [Act.put, List.setIfInBounds_toArray, List.set]
      refine bodyPost_ret (v := .agg (u8s out).toArray) ?_ rfl ⟨by rw [HOut.out], HbE.out⟩
      generalize (u8s out).toArray = X at hbk ⊢
      simp [results, Tryd.results37, asAddr, hbk]
set_option maxHeartbeats 2000000 in
set_option maxRecDepth 100000 in
theorem decrypt_at (w : World) (gc gk nk cap last : Nat) (K : Nat → List UInt8) (l : List UInt8) (hl : l.length = 16) (hR : Ready w gc gk nk cap K) (hn : nk = last + 1) (h1 : 1 ≤ last) (h2 : last ≤ 100) :
    Calls Tryd.prog 48 #[.pointer (some ⟨gc, 0, none⟩), .agg (u8s l).toArray] w fun e w' => e = .returned (.agg (u8s (dec K last l)).toArray) ∧ Below w.heap.size w w' := by
  have HR := Lib.hid hR
  have HL := Lib.hid hl
  have HN := Lib.hid hn
  have hnk : 2 ≤ nk ∧ nk ≤ 101 := by omega
  have H2 := Two16.start w l
  have hs1 : (w.alloc (.cells (u8s l).toArray 25)).heap.size = w.heap.size + 1 := World.size_alloc _ _
  obtain ⟨w1, hw1⟩ : ∃ w1, w.alloc (.cells (u8s l).toArray 25) = w1 := ⟨_, rfl⟩
  rw [hw1] at H2 hs1
  obtain ⟨w2, hw2⟩ : ∃ w2, w1.alloc (.cells zr16.toArray 25) = w2 := ⟨_, rfl⟩
  rw [hw2] at H2
  have HW1 := Lib.hid hw1
  have HW2 := Lib.hid hw2
  have HS1 := Lib.hid hs1
  have HH := Lib.hid H2
  have hcell := hR.at_ H2.b
  clear hl hR hw1 hw2 hs1 H2 hn h1 h2
  obtain ⟨hnk1, hnk2⟩ := hnk
  go_enter Tryd.func48, Tryd.ntmps48
  go_wp2_with (first | (refine wpList_box_arr rfl 25 (.tmp 1) (u8s l).toArray rfl rfl ?_; rw [HW1.out]) | (refine wpList_alloc_arr rfl 25 zr16.toArray rfl zeroR16 ?_; rw [HW2.out, HS1.out]))
  refine (ready_yes w2 gc nk cap _ (by omega) hcell).mono ?_
  rintro e w3 ⟨rfl, rfl⟩
  have H4 : Hid (Two16 w w3 (decN K last l 0)) := HH
  clear HH HW1 HW2 HS1
  go_wp2_with fail
  clear hcell
  go_loopw [5] (fun v w' => ∃ r : Nat, r < nk ∧ v = .int .i64 ((r : Int)) ∧ Two16 w w' (decN K last l (last - r))) (fun v _ => (intOf v).toNat)
  case atStart => exact ⟨nk - 1, by omega, by go_num, by have := HN.out; rw [show last - (nk - 1) = 0 from by omega]; exact H4.out⟩
  case round =>
    obtain ⟨r, hr, rfl, h5⟩ := hrel
    clear H4
    have hcell := HR.out.at_ h5.b
    have hl5 := decN_len K last l HL.out (last - r)
    by_cases hlt : 0 < r
    · have hD : decN K last l (last - (r - 1)) = unshift (if r < last then mix3 (addK (decN K last l (last - r)) (K r)) else addK (decN K last l (last - r)) (K r)) := by
        have := HN.out
        rw [show last - (r - 1) = (last - r) + 1 from by omega, decN, show last - (last - r) = r from by omega]
      have HD := Lib.hid hD
      have H5 := Lib.hid h5
      have HL5 := Lib.hid hl5
      clear h5 hl5 hD
      go_wp2_with fail
      refine (HR.out.add HL5.out H5.out r _ rfl hr).mono ?_
      rintro e w6 ⟨⟨rv6, rfl⟩, h6⟩
      have hcell := HR.out.at_ h6.b
      have H6 := Lib.hid h6
      clear h6
      by_cases hlm : r < last
      · have d2 : decide ((r : Int) < (nk : Int) - 1) = true := by have := HN.out; simp; omega
        rw [if_pos hlm] at HD
        go_wp2_with fail
        refine (HR.out.unmix (addK_len _ _) H6.out).mono ?_
        rintro e w7 ⟨⟨rv7, rfl⟩, h7⟩
        have H7 := Lib.hid h7
        have HL7 : Hid ((mix3 (addK (decN K last l (last - r)) (K r))).length = 16) := Lib.hid (mix_len _)
        clear h7 hcell
        generalize mix3 (addK (decN K last l (last - r)) (K r)) = m7 at *
        go_wp2_with fail
        refine (Two16.rot3 HL7.out H7.out).mono ?_
        rintro e w8 ⟨⟨rv8, rfl⟩, h8⟩
        have H8 := Lib.hid h8
        clear h8
        go_wp2_with fail
        refine (HR.out.unsub (rot_len _ _) H8.out).mono ?_
        rintro e w9 ⟨⟨rv9, rfl⟩, h9⟩
        rw [unshift_rot, ← HD.out] at h9
        have H9 := Lib.hid h9
        clear h9
        go_wp2
        exact ⟨⟨r - 1, by omega, by go_num, H9.out⟩, by simp [intOf]; omega⟩
      · have d2 : decide ((r : Int) < (nk : Int) - 1) = false := by have := HN.out; simp; omega
        rw [if_neg hlm] at HD
        have H7 := H6
        have HL7 : Hid ((addK (decN K last l (last - r)) (K r)).length = 16) := Lib.hid (addK_len _ _)
        generalize addK (decN K last l (last - r)) (K r) = m7 at *
        go_wp2_with fail
        refine (Two16.rot3 HL7.out H7.out).mono ?_
        rintro e w8 ⟨⟨rv8, rfl⟩, h8⟩
        have H8 := Lib.hid h8
        clear h8
        go_wp2_with fail
        refine (HR.out.unsub (rot_len _ _) H8.out).mono ?_
        rintro e w9 ⟨⟨rv9, rfl⟩, h9⟩
        rw [unshift_rot, ← HD.out] at h9
        have H9 := Lib.hid h9
        clear h9
        go_wp2
        exact ⟨⟨r - 1, by omega, by go_num, H9.out⟩, by simp [intOf]; omega⟩
    · obtain rfl : r = 0 := by omega
      rw [Nat.sub_zero] at h5 hl5
      have H5 := Lib.hid h5
      have HL5 := Lib.hid hl5
      clear h5 hl5
      go_wp2_with fail
      refine (HR.out.add HL5.out H5.out 0 0 rfl (by omega)).mono ?_
      rintro e w9 ⟨⟨rv9, rfl⟩, h9⟩
      have HE : Hid (Two16 w w9 (dec K last l)) := Lib.hid h9
      have hel := dec_len K last l
      clear h9 H5 HL5 hcell
      obtain ⟨out, hout⟩ : ∃ out, dec K last l = out := ⟨_, rfl⟩
      rw [hout] at HE hel
      have HOut := Lib.hid hout
      clear hout
      have hld := HE.out.load hel
      have hbk := HE.out.back hel
      have HSe := Lib.hid (sizeA16 out hel)
      have HZe : Hid (zr16.length = (u8s out).length) := Lib.hid (by rw [u8s_len, hel]; rfl)
      have HOe := Lib.hid (u8s_one out)
      have HbE := Lib.hid (below_setRow HE.out.b (by omega : w.heap.size ≤ w.heap.size + 1) (u8s out).toArray)
      go_wp2_with (first | refine wpList_load_arr_w 25 (.tmp 3) rfl rfl (u8s out).toArray hld (by kernel_rfl) ?_ | refine wpList_store_arr rfl 25 (.tmp 4) (.tmp 50) (w.heap.size + 1) _ _ rfl rfl rfl rfl HE.out.r HSe.out HZe.out HOe.out ?_)
      try simp only [Act.put, List.setIfInBounds_toArray, List.set]
      refine bodyPost_ret (v := .agg (u8s out).toArray) ?_ rfl ⟨by rw [HOut.out], HbE.out⟩
      generalize (u8s out).toArray = X at hbk ⊢
      simp [results, Tryd.results48, asAddr, hbk]
end Go.Proofs.YtjhkodmaalefiaaDoor
namespace Go.Proofs.YtjhkodmaalefiaaDoor
open Go.RowKit Go.Gar Go.Gar.Aes

theorem Tryd.undA4 : Tryd.prog.underlying 107 = some (.array 4 5) := by kernel_rfl
theorem Tryd.undA4k : Tryd.prog.underlying 100 = some (.array 4 99) := by kernel_rfl
theorem Tryd.sizeA4 : (Tryd.prog.info? 107).map (·.size) = some 4 := by kernel_rfl
theorem Tryd.sizeA4k : (Tryd.prog.info? 100).map (·.size) = some 1024 := by kernel_rfl
theorem Tryd.infoA4k : (Tryd.prog.info? 100).map (fun i => (i.zero, i.size)) = some (some (.agg (Array.replicate 1024 (.int .u8 0))), 1024) := by kernel_rfl
def z1024 : List UInt8 := List.replicate 1024 0
theorem z1024_len : z1024.length = 1024 := List.length_replicate
theorem zero1024 (w : World) : (zeroValue 100).run Tryd.prog w = .ok (.agg (u8s z1024).toArray) w := by
  rw [(zero_of_info (P := Tryd.prog) Tryd.infoA4k).1 w, z1024, u8s, List.map_replicate]; rfl
theorem size1024 (l : List UInt8) (h : l.length = 1024) : (Tryd.prog.info? 100).map (·.size) = some (u8s l).length := by
  rw [u8s_len, h]; exact Tryd.sizeA4k

theorem mulB (hM : MulC) (a : Nat) (b : UInt8) (w : World) (ha : a < 256) : Calls Tryd.prog 85 #[.int .u8 (a : Int), .int .u8 (b.toNat : Int)] w fun e w' => e = .returned (.int .u8 ((gm (UInt8.ofNat a) b).toNat : Int)) ∧ w' = w :=
  (hM a b.toNat w ha b.toNat_lt).mono fun e w' h => ⟨by rw [h.1, gm_toNat, Box.ofNat_toNat a ha], h.2⟩

set_option maxHeartbeats 4000000 in
set_option maxRecDepth 100000 in
theorem products_any (hM : MulC) (w : World) (F : List UInt8) (hF : F.length = 4) :
    Calls Tryd.prog 60 #[.agg (u8s F).toArray] w fun e w' => e = .returned (.agg (u8s (prodT F)).toArray) ∧ Below w.heap.size w w' := by
  have HM := Lib.hid hM
  have HL := Lib.hid hF
  have hB0 := Blk.new w 107 (u8s F)
  have hb0 := below_alloc w (.cells (u8s F).toArray 107)
  have hs0 : (w.alloc (.cells (u8s F).toArray 107)).heap.size = w.heap.size + 1 := World.size_alloc _ _
  obtain ⟨w1, hw1⟩ : ∃ w1, w.alloc (.cells (u8s F).toArray 107) = w1 := ⟨_, rfl⟩
  rw [hw1] at hB0 hb0 hs0
  have hR1 := Blk.new w1 100 (u8s z1024)
  have hb1 := hb0.alloc (by omega) (.cells (u8s z1024).toArray 100)
  have hB1 := hB0.alloc (.cells (u8s z1024).toArray 100)
  have hs1 : (w1.alloc (.cells (u8s z1024).toArray 100)).heap.size = w1.heap.size + 1 := World.size_alloc _ _
  obtain ⟨w2, hw2⟩ : ∃ w2, w1.alloc (.cells (u8s z1024).toArray 100) = w2 := ⟨_, rfl⟩
  rw [hw2] at hB1 hb1 hs1 hR1
  have hT2 := Blk.new w2 100 (u8s z1024)
  have hb2 := hb1.alloc (by omega) (.cells (u8s z1024).toArray 100)
  have hB2 := hB1.alloc (.cells (u8s z1024).toArray 100)
  have hR2 := hR1.alloc (.cells (u8s z1024).toArray 100)
  obtain ⟨w3, hw3⟩ : ∃ w3, w2.alloc (.cells (u8s z1024).toArray 100) = w3 := ⟨_, rfl⟩
  rw [hw3] at hB2 hb2 hT2 hR2
  have hld := run_loadVar_row (P := Tryd.prog) w3 w.heap.size 107 107 (u8s F).toArray (0, 0) _ hB2 Tryd.undA4 rfl (by simpa [u8s_len, hF] using Tryd.sizeA4)
  have HT2 := Lib.hid hT2
  have HR2 := Lib.hid hR2
  have Hb2 := Lib.hid hb2
  have HS : Hid (w.heap.size ≤ w1.heap.size ∧ w1.heap.size < w2.heap.size) := Lib.hid (by omega)
  have HW1 := Lib.hid hw1
  have HW2 := Lib.hid hw2
  have HW3 := Lib.hid hw3
  clear hF hB0 hb0 hs0 hR1 hb1 hB1 hs1 hT2 hb2 hB2 hR2 hw1 hw2 hw3 hM
  go_enter Tryd.func60, Tryd.ntmps60
  go_wp2_with (first | (refine wpList_box_arr rfl 107 (.tmp 0) (u8s F).toArray rfl rfl ?_; rw [HW1.out]) | (refine wpList_alloc_arr rfl 100 (u8s z1024).toArray rfl zero1024 ?_; first | rw [HW2.out] | rw [HW3.out]) | refine wpList_load_arr_w 107 (.tmp 1) rfl rfl (u8s F).toArray hld (by kernel_rfl) ?_)
  generalize w2.heap.size = gT at *
  generalize w1.heap.size = gR at *
  clear hld HW1 HW2 HW3
  go_loopw [8] (fun i w' => ∃ j : Nat, j ≤ 4 ∧ i = .int .i64 (j : Int) ∧ Blk w' gT 100 (u8s (prog z1024 (prodT F) (j * 256))) ∧ Blk w' gR 100 (u8s z1024) ∧ Below w.heap.size w w') (fun i _ => 4 - (intOf i).toNat)
  case atStart => exact ⟨0, by omega, rfl, by rw [Nat.zero_mul, prog_0]; exact HT2.out, HR2.out, Hb2.out⟩
  case round =>
    obtain ⟨i, hi, rfl, hT, hR, hb⟩ := hrel
    clear HT2 HR2 Hb2
    have HT := Lib.hid hT
    have HR := Lib.hid hR
    have Hb := Lib.hid hb
    clear hT hR hb
    by_cases hlt : i < 4
    · have hgF := four_get F HL.out i hlt
      have hix := run_index_u8 (P := Tryd.prog) (w := wr) Tryd.undA4 Tryd.und5 Tryd.size5 F i hlt (at_ F i) hgF
      clear hgF
      go_wp2_with (refine wpList_index_u8 107 (.tmp 7) (.tmp 8) rfl rfl rfl hix (by kernel_rfl) ?_)
      clear hix
      have hf8 := (at_ F i).toNat_lt
      obtain ⟨f, hfe⟩ : ∃ f, at_ F i = f := ⟨_, rfl⟩
      rw [hfe] at hf8 ⊢
      have HFE := Lib.hid hfe
      clear hfe
      go_loopw [12] (fun q w' => ∃ a : Nat, a ≤ 256 ∧ q = .int .i64 (a : Int) ∧ Blk w' gT 100 (u8s (prog z1024 (prodT F) (i * 256 + a))) ∧ Blk w' gR 100 (u8s z1024) ∧ Below w.heap.size w w') (fun q _ => 256 - (intOf q).toNat)
      case atStart => exact ⟨0, by omega, rfl, HT.out, HR.out, Hb.out⟩
      case round =>
        obtain ⟨a, ha, rfl, hT, hR, hb⟩ := hrel
        clear HT HR Hb
        have hPL : (prodT F).length = z1024.length := by rw [prodT_len, z1024_len]
        by_cases hal : a < 256
        · have hg := prodT_get F i a hlt hal
          rw [HFE.out, show 256 * i + a = i * 256 + a from by omega] at hg
          obtain ⟨v0, hc0⟩ : ∃ v0, wr.cell? ⟨gT, i * 256 + a, none⟩ = some v0 := ⟨_, blk_byte hT (i := i * 256 + a) (c := at_ z1024 (i * 256 + a)) (by rw [prog_get _ _ _ hPL (by rw [z1024_len]; omega), at_get (by rw [z1024_len]; omega)])⟩
          have hf := hT.frozen (i * 256 + a)
          have hS := hT.set_ (i * 256 + a) (.int .u8 ((gm (UInt8.ofNat a) f).toNat : Int))
          rw [u8s_set, prog_set _ _ _ _ hPL hg] at hS
          have HTn := Lib.hid hS
          have HRn := Lib.hid (hR.far (p := ⟨gT, i * 256 + a, none⟩) (by have := HS.out; show gR ≠ gT; omega) (.int .u8 ((gm (UInt8.ofNat a) f).toNat : Int)))
          have Hbn := Lib.hid (hb.setCell (p := ⟨gT, i * 256 + a, none⟩) (by have := HS.out; show w.heap.size ≤ gT; omega) (.int .u8 ((gm (UInt8.ofNat a) f).toNat : Int)))
          clear hS hT hR hb hg hPL
          go_wp2_with fail
          refine wp_region_G grows (by kernel_rfl) ?_
          refine segG (by kernel_rfl) (fun _ _ _ _ _ h => h) [0, 1, 2, 3, 4, 6] [_, _, _, _, _, _] 3 rfl rfl (by kernel_rfl) ?_
          repeat (go_big_quiet_step (fail))
          refine wpQuiet_nil ?_
          refine oneG 5 2 rfl (by kernel_rfl) rfl ?_
          go_wp2_with fail
          refine (mulB HM.out a f _ hal).mono ?_
          rintro e w' ⟨rfl, rfl⟩
          have hp8 := (gm (UInt8.ofNat a) f).toNat_lt
          generalize (gm (UInt8.ofNat a) f).toNat = pn at *
          go_wp2
          refine ⟨grows.refl _, ?_⟩
          refine segG (by kernel_rfl) (fun _ _ _ _ _ h => h) [7] [_] 1 rfl rfl (by kernel_rfl) ?_
          repeat (go_big_quiet_step (fail))
          refine wpQuiet_nil ?_
          refine lateG 8 0 rfl (by kernel_rfl) (by kernel_rfl) rfl ?_
          go_wp2
          refine ⟨trivial, ?_⟩
          refine wpAnyG_done (by kernel_rfl) ?_
          go_wp2
          exact ⟨⟨a + 1, by omega, by go_num, HTn.out, HRn.out, ⟨Hbn.out.os, Hbn.out.tape, Hbn.out.output, Hbn.out.size, Hbn.out.block⟩⟩, by simp [intOf]; omega⟩
        · have HTn : Hid (Blk wr gT 100 (u8s (prog z1024 (prodT F) ((i + 1) * 256)))) := Lib.hid (by rw [show (i + 1) * 256 = i * 256 + a from by omega]; exact hT)
          have HRn := Lib.hid hR
          have Hbn := Lib.hid hb
          clear hT hR hb hPL
          go_wp2
          exact ⟨⟨i + 1, by omega, by go_num, HTn.out, HRn.out, Hbn.out⟩, by simp [intOf]; omega⟩
    · have hE : prog z1024 (prodT F) (i * 256) = prodT F := prog_end _ _ _ (by rw [z1024_len]; omega) (by rw [prodT_len]; omega)
      rw [hE] at HT
      have hld := run_loadVar_row (P := Tryd.prog) wr gT 100 100 (u8s (prodT F)).toArray (0, 0) _ HT.out Tryd.undA4k rfl (by simpa using size1024 _ (prodT_len F))
      have HS2 := Lib.hid (size1024 _ (prodT_len F))
      have HZ2 : Hid ((u8s z1024).length = (u8s (prodT F)).length) := Lib.hid (by rw [u8s_len, u8s_len, prodT_len, z1024_len])
      have HO2 := Lib.hid (u8s_one (prodT F))
      have hl2 := run_loadVar_row (P := Tryd.prog) (wr.setRow gR (u8s (prodT F)).toArray) gR 100 100 (u8s (prodT F)).toArray (0, 0) _ (HR.out.row _) Tryd.undA4k rfl (by simpa using size1024 _ (prodT_len F))
      have Hbn := Lib.hid (below_setRow Hb.out (by have := HS.out; omega : w.heap.size ≤ gR) (u8s (prodT F)).toArray)
      clear hE
      go_wp2_with (first | refine wpList_load_arr_w 100 (.tmp 3) rfl rfl (u8s (prodT F)).toArray hld (by kernel_rfl) ?_ | refine wpList_store_arr rfl 100 (.tmp 2) (.tmp 25) gR _ _ rfl rfl rfl rfl HR.out HS2.out HZ2.out HO2.out ?_)
      simp only [Act.put, List.setIfInBounds_toArray, List.set]
      refine bodyPost_ret (v := .agg (u8s (prodT F)).toArray) ?_ rfl ⟨rfl, Hbn.out⟩
      generalize (u8s (prodT F)).toArray = X at hl2 ⊢
      simp [results, Tryd.results60, asAddr, hl2]
end Go.Proofs.YtjhkodmaalefiaaDoor
