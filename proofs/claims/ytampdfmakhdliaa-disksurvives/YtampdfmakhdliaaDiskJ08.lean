/-
  Whole arrays (made, loaded, stored) and copy, within a fence: laws at the level of a list of operations. Of no program. A round of a range over a function keeps two blocks. Of no program. A range over an iterator that keeps cells of its own between two rounds: its contract (what the caller says is said of blocks laid before the loop), and the law for a caller whose body always goes on. Of no program. A range over an iterator, as in ShGe, where the caller may rest on what the iterator has yielded so far (Pf). Of no program. A statement that draws its order, within a round of a range over a function: what the plain calculus shows of it serves there too. Of no program; a tool for the walks. copy, its run known. Of no program. Layer 14: DiskFlushed, walked from the contract of disk's functions.
-/
import Derived.OwnWalkIn
import Derived.Test.YtampdfmakhdliaaDiskJ03
import Derived.RangeFuncNested
import Derived.Test.YtampdfmakhdliaaDiskJ02
import Derived.RangeFuncBound
import Derived.RangeFuncCalls
import Derived.RangeFuncLeaves
import Derived.Shelf.Abstract
import Derived.WalkKit
import Derived.OrdersIn
import Derived.Test.YtampdfmakhdliaaDiskJ07
set_option maxRecDepth 100000
namespace Go.Gar
open Go.RowKit
section
variable {F : Fence} {n : Nat} {P : Program} {w : World} {ops : Array Oper} {rest : List Oper} {o : Oper} {a : Act} {Q : Exit → Act → World → Prop}

/-- One operation that calls nothing and whose run is known. -/
theorem wpListIn_run (hgd : o.guard = none) (hab : o.about P w a.eval = none) (hnd : ∀ c, o.op ≠ .defer c) {v : Value} {w' : World}
    (hrun : (execOp a.eval o).run P w = .ok (.value v) w') (h : wpListIn F n P ops Q rest (a.put o.dst v) w') : wpListIn F n P ops Q (o :: rest) a w :=
  wpListIn_plain hgd fun K hK => by
    refine ⟨fun f hf => (by rw [hab] at hf; cases hf), ?_⟩
    rw [Oper.semAt_plain F _ _ hnd, hrun]
    exact hK _ _ h
theorem wpListIn_run_skip (hgd : o.guard = none) (hab : o.about P w a.eval = none) (hnd : ∀ c, o.op ≠ .defer c) {w' : World}
    (hrun : (execOp a.eval o).run P w = .ok .skip w') (hd : o.dst = none) (h : wpListIn F n P ops Q rest a w') : wpListIn F n P ops Q (o :: rest) a w :=
  wpListIn_plain hgd fun K hK => by
    refine ⟨fun f hf => (by rw [hab] at hf; cases hf), ?_⟩
    rw [Oper.semAt_plain F _ _ hnd, hrun]
    exact hK _ _ (by rw [hd]; exact h)

theorem wpListIn_alloc_arr (hgd : o.guard = none) (t : TypeId) (z : Array Value) (ho : o.op = .alloc t) (hz : ∀ w, (zeroValue t).run P w = .ok (.agg z) w)
    (h : wpListIn F n P ops Q rest (a.put o.dst (.pointer (some ⟨w.heap.size, 0, none⟩))) (w.alloc (.cells z t))) : wpListIn F n P ops Q (o :: rest) a w := by
  refine wpListIn_run hgd (by simp [Oper.about, ho]) (by simp [ho]) (v := .pointer (some ⟨w.heap.size, 0, none⟩)) (w' := w.alloc (.cells z t)) ?_ h
  unfold execOp
  simp [ho, Instr.alloc, hz, newVar, newRow, Sem.run_bind, Result.andThen, Value.cells]
theorem wpListIn_box_arr (hgd : o.guard = none) (t : TypeId) (x : Operand) (cs : Array Value) (ho : o.op = .box t x) (hx : a.eval x = .agg cs)
    (h : wpListIn F n P ops Q rest (a.put o.dst (.pointer (some ⟨w.heap.size, 0, none⟩))) (w.alloc (.cells cs t))) : wpListIn F n P ops Q (o :: rest) a w := by
  refine wpListIn_run hgd (by simp [Oper.about, ho]) (by simp [ho]) (v := .pointer (some ⟨w.heap.size, 0, none⟩)) (w' := w.alloc (.cells cs t)) ?_ h
  unfold execOp
  simp [ho, hx, Instr.box, newVar, newRow, Result.andThen, Value.cells]
theorem wpListIn_load_arr (hgd : o.guard = none) (t : TypeId) (p : Operand) (ho : o.op = .load t p) {g q : Nat} (hp : a.eval p = .pointer (some ⟨g, q, none⟩)) (x : Array Value)
    (hld : (loadVar t ⟨g, q, none⟩).run P w = .ok (.agg x) w) (h : wpListIn F n P ops Q rest (a.put o.dst (.agg x)) w) : wpListIn F n P ops Q (o :: rest) a w := by
  refine wpListIn_run hgd (by simp [Oper.about, ho]) (by simp [ho]) (v := .agg x) (w' := w) ?_ h
  unfold execOp
  simp only [ho, hp, Instr.loadAt, Instr.sureAddr, Sem.run_bind, hld, Result.andThen_ok, Sem.run_pure]
theorem wpListIn_store_arr (hgd : o.guard = none) (t : TypeId) (p x : Operand) (g : Nat) (old new : List Value)
    (hd : o.dst = none) (ho : o.op = .store t p x) (hp : a.eval p = .pointer (some ⟨g, 0, none⟩)) (hx : a.eval x = .agg new.toArray) (hb : Blk w g t old) (hi : (P.info? t).map (·.size) = some new.length) (hl : old.length = new.length) (h1 : ∀ u ∈ new, u.oneCell' = true)
    (h : wpListIn F n P ops Q rest a (w.setRow g new.toArray)) : wpListIn F n P ops Q (o :: rest) a w := by
  have hr := run_storeVar_row (P := P) w g t t old.toArray new.toArray hb (by simpa using hi) (by simpa using hl) (by simpa using h1)
  refine wpListIn_run_skip hgd (by simp [Oper.about, ho]) (by simp [ho]) (w' := w.setRow g new.toArray) ?_ hd h
  unfold execOp
  simp [ho, Instr.storeAt, Instr.sureAddr, hp, hx, hr, Result.andThen]
theorem wpListIn_copy_run (hgd : o.guard = none) (d s : Operand) (ts : Array TypeId) (ho : o.op = .call { callee := .builtin .copy, args := #[d, s], argTypes := ts }) {vd vs v : Value} {w' : World} (hs : a.eval d = vd) (hx : a.eval s = vs)
    (hrun : (Builtin.copy_ ts o.type #[vd, vs]).run P w = .ok v w') (h : wpListIn F n P ops Q rest (a.put o.dst v) w') : wpListIn F n P ops Q (o :: rest) a w := by
  refine wpListIn_run hgd (by simp [Oper.about, ho, resolve, Target.leads, Sem.run_pure]) (by simp [ho]) (v := v) (w' := w') ?_ h
  unfold execOp
  simp only [ho, resolve, invoke, builtin, Sem.run_bind, Sem.run_pure, Result.andThen_ok, List.map_toArray, List.map_cons, List.map_nil, hs, hx, hrun]
end

/-- copy of what a slice reads as over a part of a row that is known whole. -/
theorem run_copy_seg {P : Program} {w : World} (dT sT ty e : TypeId) (hu : P.underlying dT = some (.slice e)) (hs : (P.info? e).map (·.size) = some 1) (g o dLen dCap sLen sCap b q : Nat) (l : List UInt8) (k : Nat)
    (hc : ∀ i c, l[i]? = some c → w.cell? ⟨b, q + i, none⟩ = some (.int .u8 (c.toNat : Int))) (hsl : sLen = l.length) (hk : k = min l.length dLen) (cs : List Value) (t : TypeId) (hg : Blk w g t cs) (hfit : o + k ≤ cs.length) :
    (Builtin.copy_ #[dT, sT] ty #[.slice (some ⟨g, o, none⟩) dLen dCap, .slice (some ⟨b, q, none⟩) sLen sCap]).run P w = .ok (goInt k) (w.setRow g (cs.take o ++ u8s (l.take k) ++ cs.drop (o + k)).toArray) := by
  subst hsl
  have hlen : (u8s (l.take k)).length = k := by rw [u8s_len, List.length_take]; omega
  have h := run_copy_row (P := P) w dT sT ty e g o dLen dCap ⟨b, q, none⟩ l.length sCap cs.toArray t (u8s (l.take k)) hu hs hg (by rw [hlen, hk]) ?_ (by rw [hlen]; simpa using hfit) (u8s_one _)
  · rw [hlen] at h
    simpa using h
  · intro j v hj
    rw [u8s_get] at hj
    cases hq : (l.take k)[j]? with
    | none => simp [hq] at hj
    | some c =>
      rw [hq] at hj
      simp at hj
      subst hj
      have : (⟨b, q, none⟩ : Addr).add j = ⟨b, q + j, none⟩ := Addr.add_lit _ _ _
      rw [this]
      refine hc j c ?_
      rw [List.getElem?_take] at hq
      split at hq
      · exact hq
      · cases hq
end Go.Gar
namespace Go.Proofs.Ytampdfmakhdliaa
open Go.RowKit Go.Gar
/-- A round keeps two blocks. -/
structure KpD (A B : Nat) (W W' : World) : Prop where
  size : W.heap.size ≤ W'.heap.size
  same : ∀ (k : Nat) (o : Obj), k = A ∨ k = B → W.heap[k]? = some o → o.isCells = true → W'.heap[k]? = some o
theorem KpD.trans {A B : Nat} {X Y Z : World} (h : KpD A B X Y) (k : KpD A B Y Z) : KpD A B X Z :=
  ⟨Nat.le_trans h.size k.size, fun i o hi ho hc => k.same i o hi (h.same i o hi ho hc) hc⟩
theorem KpD.put (A B : Nat) (W : World) (l : Nat) (o o' : Obj) (hl : W.heap[l]? = some o) (ho : o.isCells = false) : KpD A B W (W.putObj l o') :=
  ⟨by simp, fun k p _ hk hp => by
    have : k ≠ l := by rintro rfl; rw [hl] at hk; cases hk; rw [ho] at hp; cases hp
    exact (World.putObj_heap_other this).trans hk⟩
theorem KpD.cell {A B : Nat} {W W' : World} (h : KpD A B W W') {p : Addr} {v : Value} (hp : W.cell? p = some v) (hn : p.block = A ∨ p.block = B) : W'.cell? p = some v := by
  obtain ⟨o, ho, hc⟩ := cells_of_cell hp
  rw [← hp]
  exact World.cell?_of_block ((h.same _ _ hn ho hc).trans ho.symm)
theorem kpD_only {A B : Nat} {F : Nat → Prop} {W W' : World} (h : Only F W W') (hA : ¬ F A) (hB : ¬ F B) : KpD A B W W' :=
  ⟨h.size, fun k o hk ho _ => (h.block k (Array.getElem?_eq_some_iff.1 ho).1 (by rcases hk with rfl | rfl <;> assumption)).trans ho⟩
theorem cellI_bel {w w' : World} (hb : Below w.heap.size w w') {p : Addr} {v : Value} (h : w.cell? p = some v) : w'.cell? p = some v := by
  rw [hb.cell (p := p) (World.block_lt_of_cell? w p h), h]

end Go.Proofs.Ytampdfmakhdliaa
namespace Go.Gar
open Go Go.RowKit
variable {F : Fence} {n : Nat} {P : Program}

/-- What is said is said of blocks below B alone. -/
def Low {β : Type} (B : Nat) (I : β → World → Prop) : Prop := ∀ s W W' row, I s W → W.grownBy W' row → (∀ r, row = some r → B ≤ r) → I s W'
theorem Low.alloc {β : Type} {B : Nat} {I : β → World → Prop} (h : Low B I) {s : β} {W : World} (o : Obj) (hs : I s W) : I s (W.alloc o) :=
  h s W _ none hs (World.grownBy_alloc W o none) (fun _ e => by cases e)
theorem Low.put {β : Type} {B : Nat} {I : β → World → Prop} (h : Low B I) {s : β} {W : World} {l : Nat} (o : Obj) (hs : I s W) (hl : B ≤ l) : I s (W.putObj l o) :=
  h s W _ (some l) hs (grownBy_putObj' W l o) (fun _ e => by cases e; exact hl)

/-- The iterator's contract: its rounds go on, each keeps Kp; it may lay blocks and turn what it laid. -/
def SeqC {α : Type} (F : Fence) (n : Nat) (P : Program) (g : Nat) (lb : Array Value) (encs : α → Array Value) (Kp : World → World → Prop) (S : List α → Prop) (w : World) : Prop :=
  ∀ (l : Nat) (J : List α → World → Prop) (W : World), Below w.heap.size w W → Low W.heap.size J →
    (∀ pre x W1, J pre W1 → YieldAt F (n - 1) P l (encs x) W1 fun e W' => e = .returned (.bool true) ∧ J (pre ++ [x]) W' ∧ Kp W1 W') →
    J [] W → CallsIn F n P g (#[.func (.yield l) #[] #[]] ++ lb) W fun e W' => (∃ v, e = .returned v) ∧ ∃ xs, S xs ∧ J xs W'

/-- The caller's law: the loop's variable may be laid anew in each round (Ax). -/
theorem rangeC {α : Type} {g : Operand} {ps : Array Tmp} {assign body : Code} {Q : Exit → Act → World → Prop} {a : Act} {w : World}
    (hro : F.round = none) (h1 : 1 ≤ n) {gf : Nat} {lb : Array Value} (hg : a.eval g = .func (.func gf) #[] lb) (hFg : F.fn gf) (eg : ∀ args w, (callFunc gf args).run P w = .ok (.enter gf args) w)
    {encs : α → Array Value} {Kp : World → World → Prop} {S : List α → Prop} (hseq : SeqC F (n - 1) P gf lb encs Kp S w)
    (hKt : ∀ {A B C : World}, Kp A B → Kp B C → Kp A C) (hKb : ∀ (W : World) (l : Nat) (o o' : Obj), W.heap[l]? = some o → o.isCells = false → Kp W (W.putObj l o')) (hps : ∀ x, (encs x).size = ps.size)
    (I : List α → World → Prop) (hI : Low w.heap.size I) (h0 : I [] w) (Ax : α → Act → World → Prop) (hAx : ∀ x a' W l o o', Ax x a' W → W.heap[l]? = some o → o.isCells = false → Ax x a' (W.putObj l o'))
    (hassign : ∀ (l : Nat) (pre : List α) (x : α) (W : World) (K : Act → World → Prop), I pre W → (∀ a' W', KeepsOthers W W' → Kp W W' → I pre W' → Ax x a' W' → K a' W') →
      assign.wpIn (F.inRound l) (n - 1 - 1) P (Exit.then K (fun _ _ _ => False)) { tmps := (ps.zip (encs x)).foldl (fun t (p, v) => t.setIfInBounds p v) a.tmps, defers := [] } W)
    (hbody : ∀ (l : Nat) (pre : List α) (x : α) (a' : Act) (W : World), I pre W → Ax x a' W → body.wpIn (F.inRound l) (n - 1 - 1) P (fun e _ W' => e = .normal ∧ KeepsOthers W W' ∧ Kp W W' ∧ I (pre ++ [x]) W') a' W)
    (hdone : ∀ (D : Nat) (xs : List α) (W : World), w.heap.size ≤ D → S xs → I xs W → W.heap[D]? = some (.deferred (some [])) → Q .normal { a with defers := { target := .collected D, args := #[] } :: a.defers } W) :
    (Code.rangeFunc g ps assign body).wpIn F n P Q a w := by
  refine wpIn_rangeFunc fun fn hfn => ?_
  rw [hro]
  -- the record, as it stands between two rounds
  let r0 : Loop := { state := .ready, pending := none, fn, tmps := a.tmps, params := ps, assign, body, defers := w.heap.size }
  let D := w.heap.size
  let l := w.heap.size + 1
  let W1 := (w.alloc (.deferred (some []))).alloc (.loop r0)
  have hs1 : W1.heap.size = w.heap.size + 2 := by simp [W1]
  have hDl : W1.heap[D]? = some (.deferred (some [])) := (Below.heap_alloc _ _ _ (by simp [D])).trans (World.alloc_heap_new w _)
  have hll : W1.heap[l]? = some (.loop r0) := by
    have := World.alloc_heap_new (w.alloc (.deferred (some []))) (.loop r0)
    rwa [World.size_alloc] at this
  have hbel : Below w.heap.size w W1 := ((Below.refl _ w).alloc (Nat.le_refl _) _).alloc (by simp) _
  let J : List α → World → Prop := fun pre W => I pre W ∧ W.heap[l]? = some (.loop r0) ∧ W.heap[D]? = some (.deferred (some []))
  have hJ : Low W1.heap.size J := fun s A B row hs hgr hr => by
    have far : ∀ k o, k < W1.heap.size → A.heap[k]? = some o → B.heap[k]? = some o := fun k o hk ho =>
      (hgr.block k (Array.getElem?_eq_some_iff.1 ho).1 (fun e => by have := hr k e.symm; omega)).trans ho
    exact ⟨hI s A B row hs.1 hgr (fun r e => by have := hr r e; omega), far l _ (by simp [l, hs1]) hs.2.1, far D _ (by simp [D, hs1]) hs.2.2⟩
  refine ⟨l, [{ target := .collected D, args := #[] }], W1, { target := .fn (.func gf) lb, args := #[.func (.yield l) #[] #[]] }, W1, gf, #[.func (.yield l) #[] #[]] ++ lb, W1, run_enterLoop_outer _ _ _ _ _, ?_, ?_, ?_, fun _ => h1, ?_⟩
  · simp only [resolve, hg]
    simp [go_sem]
  · intro f' hf'
    simp [Target.leads] at hf'
    subst hf'
    exact hFg
  · simp [invoke, go_sem, eg]
  refine (hseq l J W1 hbel hJ ?_ ⟨hI.alloc _ (hI.alloc _ h0), hll, hDl⟩).mono ?_
  · -- a round
    rintro pre x W ⟨hi, hl, hd⟩
    have hy := run_yield (P := P) (args := encs x) hl (hps x)
    refine ⟨fn, _, assign, body, hy, roundIn_of_wpIn hfn (hassign l pre x W _ hi fun a' W2 hk2 hp2 hi2 hx2 => ?_)⟩
    have hl2 := hk2.same l _ hl rfl
    have hd2 := hk2.same D _ hd rfl
    let rb : Loop := { r0 with state := .busy }
    refine ⟨_, run_beginRound hl2 rfl, ?_⟩
    have hl3 : (W2.putObj l (.loop rb)).heap[l]? = some (.loop rb) := World.putObj_heap_same (Array.getElem?_eq_some_iff.1 hl2).1
    have hd3 : (W2.putObj l (.loop rb)).heap[D]? = some (.deferred (some [])) := (World.putObj_heap_other (by simp [D, l])).trans hd2
    refine wpIn_mono (hbody l pre x a' _ (hI.put _ hi2 (by simp [l])) (hAx _ _ _ _ _ _ hx2 hl2 rfl)) ?_
    rintro e a3 W4 ⟨rfl, hk4, hp4, hi4⟩
    have hl4 := hk4.same l _ hl3 rfl
    have hd4 := hk4.same D _ hd3 rfl
    refine ⟨_, _, run_endRound none hl4, rfl, ⟨hI.put _ hi4 (by simp [l]), World.putObj_heap_same (Array.getElem?_eq_some_iff.1 hl4).1, (World.putObj_heap_other (by simp [D, l])).trans hd4⟩, ?_⟩
    exact hKt (hKt hp2 (hKb _ _ _ _ hl2 rfl)) (hKt hp4 (hKb _ _ _ _ hl4 rfl))
  · rintro e W2 ⟨⟨v, rfl⟩, xs, hS, hi, hl, hd⟩
    exact ⟨none, _, run_endLoop hl (by simp [r0]), hdone D xs _ (Nat.le_refl _) hS (hI.put _ hi (by simp [l])) ((World.putObj_heap_other (by simp [D, l])).trans hd)⟩
end Go.Gar
namespace Go.Gar
open Go Go.RowKit
variable {F : Fence} {n : Nat} {P : Program}

/-- The iterator's contract: its rounds go on, each keeps Kp; it may lay blocks and turn what it laid. -/
def SeqP {α : Type} (F : Fence) (n : Nat) (P : Program) (g : Nat) (lb : Array Value) (encs : α → Array Value) (Kp : World → World → Prop) (S Pf : List α → Prop) (w : World) : Prop :=
  ∀ (l : Nat) (J : List α → World → Prop) (W : World), Below w.heap.size w W → Low W.heap.size J →
    (∀ pre x W1, Pf (pre ++ [x]) → J pre W1 → YieldAt F (n - 1) P l (encs x) W1 fun e W' => e = .returned (.bool true) ∧ J (pre ++ [x]) W' ∧ Kp W1 W') →
    J [] W → CallsIn F n P g (#[.func (.yield l) #[] #[]] ++ lb) W fun e W' => (∃ v, e = .returned v) ∧ ∃ xs, S xs ∧ J xs W'

/-- The caller's law: the loop's variable may be laid anew in each round (Ax). -/
theorem rangeP {α : Type} {g : Operand} {ps : Array Tmp} {assign body : Code} {Q : Exit → Act → World → Prop} {a : Act} {w : World}
    (hro : F.round = none) (h1 : 1 ≤ n) {gf : Nat} {lb : Array Value} (hg : a.eval g = .func (.func gf) #[] lb) (hFg : F.fn gf) (eg : ∀ args w, (callFunc gf args).run P w = .ok (.enter gf args) w)
    {encs : α → Array Value} {Kp : World → World → Prop} {S Pf : List α → Prop} (hseq : SeqP F (n - 1) P gf lb encs Kp S Pf w)
    (hKt : ∀ {A B C : World}, Kp A B → Kp B C → Kp A C) (hKb : ∀ (W : World) (l : Nat) (o o' : Obj), W.heap[l]? = some o → o.isCells = false → Kp W (W.putObj l o')) (hps : ∀ x, (encs x).size = ps.size)
    (I : List α → World → Prop) (hI : Low w.heap.size I) (h0 : I [] w) (Ax : α → Act → World → Prop) (hAx : ∀ x a' W l o o', Ax x a' W → W.heap[l]? = some o → o.isCells = false → Ax x a' (W.putObj l o'))
    (hassign : ∀ (l : Nat) (pre : List α) (x : α) (W : World) (K : Act → World → Prop), Pf (pre ++ [x]) → I pre W → (∀ a' W', KeepsOthers W W' → Kp W W' → I pre W' → Ax x a' W' → K a' W') →
      assign.wpIn (F.inRound l) (n - 1 - 1) P (Exit.then K (fun _ _ _ => False)) { tmps := (ps.zip (encs x)).foldl (fun t (p, v) => t.setIfInBounds p v) a.tmps, defers := [] } W)
    (hbody : ∀ (l : Nat) (pre : List α) (x : α) (a' : Act) (W : World), Pf (pre ++ [x]) → I pre W → Ax x a' W → body.wpIn (F.inRound l) (n - 1 - 1) P (fun e _ W' => e = .normal ∧ KeepsOthers W W' ∧ Kp W W' ∧ I (pre ++ [x]) W') a' W)
    (hdone : ∀ (D : Nat) (xs : List α) (W : World), w.heap.size ≤ D → S xs → I xs W → W.heap[D]? = some (.deferred (some [])) → Q .normal { a with defers := { target := .collected D, args := #[] } :: a.defers } W) :
    (Code.rangeFunc g ps assign body).wpIn F n P Q a w := by
  refine wpIn_rangeFunc fun fn hfn => ?_
  rw [hro]
  -- the record, as it stands between two rounds
  let r0 : Loop := { state := .ready, pending := none, fn, tmps := a.tmps, params := ps, assign, body, defers := w.heap.size }
  let D := w.heap.size
  let l := w.heap.size + 1
  let W1 := (w.alloc (.deferred (some []))).alloc (.loop r0)
  have hs1 : W1.heap.size = w.heap.size + 2 := by simp [W1]
  have hDl : W1.heap[D]? = some (.deferred (some [])) := (Below.heap_alloc _ _ _ (by simp [D])).trans (World.alloc_heap_new w _)
  have hll : W1.heap[l]? = some (.loop r0) := by
    have := World.alloc_heap_new (w.alloc (.deferred (some []))) (.loop r0)
    rwa [World.size_alloc] at this
  have hbel : Below w.heap.size w W1 := ((Below.refl _ w).alloc (Nat.le_refl _) _).alloc (by simp) _
  let J : List α → World → Prop := fun pre W => I pre W ∧ W.heap[l]? = some (.loop r0) ∧ W.heap[D]? = some (.deferred (some []))
  have hJ : Low W1.heap.size J := fun s A B row hs hgr hr => by
    have far : ∀ k o, k < W1.heap.size → A.heap[k]? = some o → B.heap[k]? = some o := fun k o hk ho =>
      (hgr.block k (Array.getElem?_eq_some_iff.1 ho).1 (fun e => by have := hr k e.symm; omega)).trans ho
    exact ⟨hI s A B row hs.1 hgr (fun r e => by have := hr r e; omega), far l _ (by simp [l, hs1]) hs.2.1, far D _ (by simp [D, hs1]) hs.2.2⟩
  refine ⟨l, [{ target := .collected D, args := #[] }], W1, { target := .fn (.func gf) lb, args := #[.func (.yield l) #[] #[]] }, W1, gf, #[.func (.yield l) #[] #[]] ++ lb, W1, run_enterLoop_outer _ _ _ _ _, ?_, ?_, ?_, fun _ => h1, ?_⟩
  · simp only [resolve, hg]
    simp [go_sem]
  · intro f' hf'
    simp [Target.leads] at hf'
    subst hf'
    exact hFg
  · simp [invoke, go_sem, eg]
  refine (hseq l J W1 hbel hJ ?_ ⟨hI.alloc _ (hI.alloc _ h0), hll, hDl⟩).mono ?_
  · -- a round
    rintro pre x W hpf ⟨hi, hl, hd⟩
    have hy := run_yield (P := P) (args := encs x) hl (hps x)
    refine ⟨fn, _, assign, body, hy, roundIn_of_wpIn hfn (hassign l pre x W _ hpf hi fun a' W2 hk2 hp2 hi2 hx2 => ?_)⟩
    have hl2 := hk2.same l _ hl rfl
    have hd2 := hk2.same D _ hd rfl
    let rb : Loop := { r0 with state := .busy }
    refine ⟨_, run_beginRound hl2 rfl, ?_⟩
    have hl3 : (W2.putObj l (.loop rb)).heap[l]? = some (.loop rb) := World.putObj_heap_same (Array.getElem?_eq_some_iff.1 hl2).1
    have hd3 : (W2.putObj l (.loop rb)).heap[D]? = some (.deferred (some [])) := (World.putObj_heap_other (by simp [D, l])).trans hd2
    refine wpIn_mono (hbody l pre x a' _ hpf (hI.put _ hi2 (by simp [l])) (hAx _ _ _ _ _ _ hx2 hl2 rfl)) ?_
    rintro e a3 W4 ⟨rfl, hk4, hp4, hi4⟩
    have hl4 := hk4.same l _ hl3 rfl
    have hd4 := hk4.same D _ hd3 rfl
    refine ⟨_, _, run_endRound none hl4, rfl, ⟨hI.put _ hi4 (by simp [l]), World.putObj_heap_same (Array.getElem?_eq_some_iff.1 hl4).1, (World.putObj_heap_other (by simp [D, l])).trans hd4⟩, ?_⟩
    exact hKt (hKt hp2 (hKb _ _ _ _ hl2 rfl)) (hKt hp4 (hKb _ _ _ _ hl4 rfl))
  · rintro e W2 ⟨⟨v, rfl⟩, xs, hS, hi, hl, hd⟩
    exact ⟨none, _, run_endLoop hl (by simp [r0]), hdone D xs _ (Nat.le_refl _) hS (hI.put _ hi (by simp [l])) ((World.putObj_heap_other (by simp [D, l])).trans hd)⟩
end Go.Gar
namespace Go.Gar
open Go Go.RowKit
section
variable {P : Program} {ops : Array Oper} {Q : Exit → Act → World → Prop} {md : Region.Mode}

/-- No operation defers a call, none is a call of a row of the model's table. -/
def noDefer (ops : Array Oper) : Bool := ops.all fun o => match o.op with | .defer _ => false | _ => true
theorem noDefer_spec (h : noDefer ops = true) {i : Nat} {o : Oper} (hi : ops[i]? = some o) : ∀ c, o.op ≠ .defer c := by
  intro c hc
  rw [noDefer, Array.all_eq_true_iff_forall_mem] at h
  have := h o (Array.mem_of_getElem? hi)
  rw [hc] at this
  cases this

theorem rowsIn_round {l n : Nat} {row : String} {args : Array Value} {w : World} {R : Value → World → Prop} (h : Rows P row args w R) : RowsIn (Fence.wide.inRound l) n P row args w R :=
  fun c cs _ => let ⟨v, w', r, s⟩ := h c cs; ⟨v, w', r, stepsIn_wide.2 s⟩
theorem wpOpIn_round {l n i : Nat} {K : Act → World → Prop} {a : Act} {w : World} (hd : noDefer ops = true) (hno : ¬ LetsOut Q)
    (h : wpOp P ops Q i K a w) : wpOpIn (Fence.wide.inRound l) n P ops Q i K a w := by
  unfold wpOp at h
  unfold wpOpIn
  cases ho : ops[i]? with
  | none => simp only [ho] at h; exact h
  | some o =>
    simp only [ho] at h ⊢
    split
    · rename_i hw
      simp only [hw, if_true] at h
      have h1 : o.wp P a w K Q := h.elim id fun h => (hno h.2).elim
      refine ⟨fun _ _ => trivial, ?_⟩
      rw [Oper.semAt_eq _ _ _ (noDefer_spec hd ho)]
      unfold Oper.wp at h1
      generalize (execOp a.eval o).run P w = r at *
      cases r with
      | ok x w' =>
        cases x <;> simp only [Oper.upon, Oper.uponIn] at h1 ⊢
        case value u => exact h1
        case skip => exact h1
        case defer d => exact h1
        case enter f args =>
          refine ⟨fun h => (by cases h), CallsIn.inRound l (callsIn_wide.2 (h1.mono fun e w'' he => ?_))⟩
          cases e <;> exact he
        case row row args =>
          refine ⟨fun h => (by cases h), ?_⟩
          exact rowsIn_round h1
      | halt x w' =>
        cases x <;> simp only [Oper.upon, Oper.uponIn] at h1 ⊢
        exact h1
    · rename_i hw
      simp only [hw] at h
      exact ⟨fun _ _ => trivial, h⟩
theorem wpAnyIn_round {l n : Nat} (hd : noDefer ops = true) (hno : ¬ LetsOut Q) : ∀ (fuel : Nat) (listed : Array Bool) (a : Act) (w : World), wpAny P md ops Q fuel listed a w → wpAnyIn (Fence.wide.inRound l) n P md ops Q fuel listed a w
  | 0, _, _, _, h => h
  | fuel + 1, _, _, _, h => ⟨h.1, fun i hi => wpOpIn_round hd hno (wpOp_mono (fun a' w' h' => wpAnyIn_round hd hno fuel _ a' w' h') (h.2 i hi))⟩
/-- The beginning, within a round. -/
theorem wpIn_region_G (G : Growth) {id l n : Nat} {L : List Oper} {a : Act} {w : World} (hm : P.follows .mixedOrders = true) (hd : noDefer L.toArray = true) (hno : ¬ LetsOut Q)
    (h : wpAnyG G P .any L.toArray Q L.length (Array.replicate L.length false) a w.drew) : (Code.region id L.toArray true).wpIn (Fence.wide.inRound l) n P Q a w :=
  wpIn_region_any hm (wpAnyIn_round hd hno _ _ _ _ (wpAny_of_G _ _ _ _ (by simpa using h)))
end
end Go.Gar
namespace Go.Gar
open Go.RowKit
/-- copy, its run known. -/
theorem wpList_copy_run {P : Program} {w : World} {ops : Array Oper} {rest : List Oper} {o : Oper} {a : Act} {Q : Exit → Act → World → Prop} (hgd : o.guard = none) (s x : Operand) (ts : Array TypeId)
    (ho : o.op = .call { callee := .builtin .copy, args := #[s, x], argTypes := ts }) {vs vx v : Value} {w' : World} (hs : a.eval s = vs) (hx : a.eval x = vx)
    (hrun : (Builtin.copy_ ts o.type #[vs, vx]).run P w = .ok v w') (h : wpList P ops Q rest (a.put o.dst v) w') : wpList P ops Q (o :: rest) a w := by
  refine wpList_run hgd (v := v) (w' := w') ?_ h
  unfold execOp
  simp only [ho, resolve, invoke, builtin, Sem.run_bind, Sem.run_pure, Result.andThen_ok, List.map_toArray, List.map_cons, List.map_nil, hs, hx, hrun]
end Go.Gar
namespace Go.Gar.Dsk
/-- What was sure is there behind a Write and a Crash, unless it was written. -/
theorem flushed {d : Dsk} (hd : Dry d) (i : Int) (b : List UInt8) (keep torn cut : Int) (k : Nat) (hk : k < d.secs.length) : read (crash (write d i b) keep torn cut) (k : Int) = read d (k : Int) ∨ (writeE d i b = 0 ∧ i = (k : Int)) := by
  by_cases hc : writeE d i b = 0 ∧ i = (k : Int)
  · exact .inr hc
  · left
    have ht : there d (k : Int) = true := by unfold there; simp; omega
    have ht2 : there (crash (write d i b) keep torn cut) (k : Int) = true := by unfold there; rw [crash_len, write_len]; simp; omega
    have hg := at_get ht
    have hg2 := at_get ht2
    rw [show ((k : Nat) : Int).toNat = k from rfl] at hg hg2
    have hw := write_get d i b k
    rw [if_neg hc, hg] at hw
    have hdry := crash_dry (keep := keep) (torn := torn) (cut := cut) hw (hd _ (at_mem ht))
    rw [show (crash (write d i b) keep torn cut).secs = crashL keep torn cut 0 (write d i b).secs from rfl, hdry] at hg2
    unfold read
    rw [if_pos ht, if_pos ht2, ← Option.some.inj hg2]
end Go.Gar.Dsk
namespace Go.Proofs.Ytampdfmakhdliaa
open Go.RowKit Go.Gar
open Go.Gar.Dsk (Dsk)

/-- A string that is loaded in every later world. -/
theorem str_later {W : World} {B b q : Nat} {u : Value} (hb : b < B) (hB : B ≤ W.heap.size) (h : W.cell? ⟨b, q, none⟩ = some u) : ∀ x : Later grows W, x.to.cell? ⟨b, q, none⟩ = some u := fun x =>
  ((show Below W.heap.size W x.to from x.grown).cell (p := ⟨b, q, none⟩) (Nat.lt_of_lt_of_le hb hB)).trans h
theorem strs_at {d : Dsk} {k : Nat} (h : k < d.secs.length) {u : Value} (hu : (strs d)[k]? = some u) : u = strV (Dsk.read d (k : Int)) := by
  rw [strs_get h] at hu
  exact (Option.some.inj hu).symm

set_option maxHeartbeats 8000000 in
set_option maxRecDepth 100000 in
theorem diskflushed_walk {Rep : World → (Nat → Prop) → Nat → Dsk → Prop} (hOK : DiskOK Rep) (A : Option Addr) (ds : List Deed) (t : Deed) (keep torn cut : Int) (n cap : Nat) (hn : n = ds.length) (w : World) (hr : RdD w w.heap.size A ds) (hI : ∀ t ∈ ds, t.Is) (hti : t.Is) (hk : isI64 keep) (ht : isI64 torn) (hc : isI64 cut) :
    Calls Try.prog 5 #[.slice A n cap, .agg t.cells.toArray, .int .i64 keep, .int .i64 torn, .int .i64 cut] w fun e w' => e = .returned (.bool true) ∧ Below w.heap.size w w' := by
  have hB0 := Blk.new w 34 t.cells
  have hb0 := below_alloc w (.cells t.cells.toArray 34)
  obtain ⟨w0, hw0⟩ : ∃ w0, w.alloc (.cells t.cells.toArray 34) = w0 := ⟨_, rfl⟩
  have hs0 : w0.heap.size = w.heap.size + 1 := by rw [← hw0, World.size_alloc]
  rw [hw0] at hB0 hb0
  have HOK := Lib.hid hOK
  have HN := Lib.hid hn
  have HR := Lib.hid ((hr.below hb0) : RdD w0 w.heap.size A ds)
  have HI := Lib.hid hI
  have Hti := Lib.hid hti
  have Hk := Lib.hid hk
  have Ht := Lib.hid ht
  have Hc := Lib.hid hc
  have HW0 := Lib.hid hw0
  have HB0 := Lib.hid hB0
  have Hb0 := Lib.hid hb0
  have HS0 := Lib.hid hs0
  clear hOK hn hr hI hti hk ht hc hw0 hB0 hb0 hs0
  go_enter Try.func5, Try.ntmps5
  go_wp2_with (refine wpList_box_arr rfl 34 _ _ rfl rfl ?_; rw [HW0.out])
  have hRD : RdD w0 w0.heap.size A ds := by
    rcases HR.out with h | ⟨b, o, h1, h2, h3⟩
    · exact .inl h
    · exact .inr ⟨b, o, h1, by have := HS0.out; omega, h3⟩
  refine (some_any HOK.out w0 A ds n cap HN.out hRD HI.out).mono ?_
  rintro e w1 ⟨F, g, d, rfl, hR1, hF1, hb1, h91, hfu1, hm1⟩
  have HR1 := Lib.hid hR1
  have HF1 := Lib.hid hF1
  have HB1 := Lib.hid (HB0.out.below hb1 HB0.out.lt)
  have Hb1 := Lib.hid hb1
  have H91 := Lib.hid h91
  have Hfu1 := Lib.hid hfu1
  have Hm1 := Lib.hid hm1
  clear hR1 hF1 hb1 h91 hfu1 hm1 hRD HB0 HW0
  unfold ptr
  go_wp2_with fail
  refine (HOK.out.flush HR1.out).mono ?_
  rintro e w2 ⟨rfl, F2, hR2, hF2, ho⟩
  rw [Dsk.flushE_none Hfu1.out]
  obtain ⟨d2, hd2⟩ : ∃ d2, d2 = Dsk.flush d := ⟨_, rfl⟩
  have Hdry := Lib.hid (show Dsk.Dry d2 by rw [hd2]; exact Dsk.dry_flush Hfu1.out)
  have H92 := Lib.hid (show d2.secs.length = 9 by rw [hd2, Dsk.flush_len]; exact H91.out)
  have Hm2 := Lib.hid (show d2.many ≤ 30 by rw [hd2, Dsk.flush_many]; exact Hm1.out)
  rw [← hd2] at hR2
  have HR2 := Lib.hid hR2
  have HF2 := Lib.hid (show ∀ j, F2 j → w0.heap.size ≤ j from fun j hj => by rcases hF2 j hj with h | h; exact HF1.out j h; exact Nat.le_trans Hb1.out.size h)
  have HB2 := Lib.hid (ho.blk HB1.out (fun hf => by have := HF1.out _ hf; have := HS0.out; omega))
  have Hb2 := Lib.hid (Hb1.out.trans (ho.below HF1.out Hb1.out.size))
  clear hR2 hF2 ho hd2 HR1 HF1 Hb1 H91 Hfu1 Hm1 HB1
  go_wp2_with fail
  refine (all_any HOK.out HR2.out).mono ?_
  rintro e w3 ⟨v3, rfl, hO3, hb3⟩
  have HO3 := Lib.hid hO3
  have Hlt2 := Lib.hid (HOK.out.lt HR2.out)
  have HR3 := Lib.hid (HOK.out.keep HR2.out (fun j hj => hb3.block j (HOK.out.lt HR2.out j hj)))
  have HB3 := Lib.hid (HB2.out.below hb3 HB2.out.lt)
  have Hb3 := bb Hb2 hb3
  clear hO3 hb3 HR2 Hb2 HB2
  go_wp2_with fail
  refine wp_region_G (onlyG F2) (by kernel_rfl) ?_
  have HRd := Lib.hid (HOK.out.keep (w' := w3.drew) HR3.out (fun _ _ => rfl))
  have Hltd := Lib.hid (show ∀ j, F2 j → j < w3.drew.heap.size from HOK.out.lt HRd.out)
  have Hbd := Lib.hid Hb3.out.drew
  have HBd := Lib.hid HB3.out.drew
  have HOd := Lib.hid (show OwnV w3.drew w2.heap.size 9 v3 (strs d2) from HO3.out)
  clear HR3 Hb3 HB3 HO3
  generalize w3.drew = W at *
  have hnx : ¬ F2 w.heap.size := fun hf => by have := HF2.out _ hf; have := HS0.out; omega
  have Hnx := Lib.hid hnx
  have hll : ∀ x : Later (onlyG F2) W, ∀ j u, t.cells[j]? = some u → x.to.cell? ⟨w.heap.size, 0 + j, none⟩ = some u := fun x j u hj => by
    rw [Nat.zero_add, ((show Only F2 W x.to from x.grown).blk HBd.out Hnx.out).cell]
    exact hj
  have hq1 : ∀ x : Later (onlyG F2) W, x.to.cell? ⟨w.heap.size, 1, none⟩ = some (.int .i64 t.at_) := fun x => hll x 1 _ rfl
  have Hldx := Lib.hid (deed_load hll)
  clear hll hnx
  refine segG (by kernel_rfl) (fun _ _ _ _ _ h => h) [0, 1, 2, 3] [_, _, _, _] 3 rfl rfl (by kernel_rfl) ?_
  repeat (first | (refine wpQuiet_load_at 34 (.tmp 6) rfl rfl t.cells.toArray Hldx.out (by kernel_rfl) ?_; simp only [Act.put, List.setIfInBounds_toArray, List.set]) | go_big_quiet_step (fail))
  refine wpQuiet_nil ?_
  clear hq1 Hldx
  refine oneG 4 2 rfl (by kernel_rfl) rfl ?_
  go_wp2_with fail
  refine (wrote_any W t Hti.out).mono ?_
  rintro e w5 ⟨g2, n2, rfl, hn2, hg2, hB5, hb5⟩
  have hbr := Only.of_below F2 hb5
  have HR5 := Lib.hid (HOK.out.keep HRd.out (fun j hj => hb5.block j (Hltd.out j hj)))
  have Hn2 := Lib.hid hn2
  have HB5 := Lib.hid hB5
  have HX5 := Lib.hid (HBd.out.below hb5 HBd.out.lt)
  have HO5 := Lib.hid (HOd.out.below hb5)
  have Hb5 := bb Hbd hb5
  have Hnf := Lib.hid (show ∀ p, some (⟨g2, 0, none⟩ : Addr) = some p → ¬ F2 p.block from fun p hp hf => by
    obtain rfl := Option.some.inj hp
    have h9 : g2 < W.heap.size := Hltd.out g2 hf
    omega)
  clear hn2 hB5 hb5 hg2 HRd Hbd HBd HOd
  go_wp2
  refine ⟨hbr, ?_⟩
  clear hbr
  refine oneG 5 1 rfl (by kernel_rfl) rfl ?_
  go_wp2_with fail
  have hwl := wroteL_len t
  refine (write_at HOK.out t.at_ (some ⟨g2, 0, none⟩) (wroteL t) n2 n2 HR5.out Hti.out.at_ Hn2.out (Rd.of_all HB5.out) Hnf.out (Nat.le_refl _) (by have := Hn2.out; omega) (by have := Hm2.out; omega)).mono ?_
  rintro e w6 ⟨E, rfl, hE, F6, hR6, hF6, ho⟩
  obtain ⟨d6, hd6⟩ : ∃ d6, d6 = Dsk.write d2 t.at_ (wroteL t) := ⟨_, rfl⟩
  have Hd6 := Lib.hid hd6
  have HE := Lib.hid hE
  rw [← hd6] at hR6
  have HR6 := Lib.hid hR6
  have HF6 := Lib.hid (show ∀ j, F6 j → w0.heap.size ≤ j from fun j hj => by rcases hF6 j hj with h | h; exact HF2.out j h; exact Nat.le_trans Hb5.out.size h)
  have HX6 := Lib.hid (ho.blk HX5.out Hnx.out)
  have HO6 := Lib.hid (HO5.out.keep (fun j hj => ho.block j (HO5.out.lt hj).2 (fun hf => by have := Hlt2.out j hf; have := (HO5.out.lt hj).1; omega)))
  have Hb6 := Lib.hid (Hb5.out.trans (ho.below HF2.out Hb5.out.size))
  have Hn6 := Lib.hid (show ∀ j, F6 j → F2 j ∨ w5.heap.size ≤ j from hF6)
  have Ho5 := Lib.hid (show ∀ j, v3.ownBlock = some j → w2.heap.size ≤ j ∧ j < w5.heap.size from fun j hj => HO5.out.lt hj)
  have Ho := Lib.hid ho
  clear hR6 hF6 ho hd6 hE hwl HR5 Hb5 HB5 Hnf Hn2 HX5 HO5
  go_wp2
  refine ⟨Ho.out, ?_⟩
  clear Ho
  refine segG (by kernel_rfl) (fun _ _ _ _ _ h => h) [6] [_] 0 rfl rfl (by kernel_rfl) ?_
  repeat (go_big_quiet_step (fail))
  refine wpQuiet_nil ?_
  refine wpAnyG_done (by kernel_rfl) ?_
  go_wp2_with fail
  refine (HOK.out.crash keep torn cut HR6.out Hk.out Ht.out Hc.out).mono ?_
  rintro e w7 ⟨rfl, F7, hR7, hF7, ho⟩
  obtain ⟨d7, hd7⟩ : ∃ d7, d7 = Dsk.crash d6 keep torn cut := ⟨_, rfl⟩
  have Hd7 := Lib.hid hd7
  rw [← hd7] at hR7
  have HR7 := Lib.hid hR7
  have HX7 := Lib.hid (ho.blk HX6.out (fun hf => by have := HF6.out _ hf; have := HS0.out; omega))
  have HO7 := Lib.hid (HO6.out.keep (fun j hj => ho.block j (HO6.out.lt hj).2 (fun hf => by
    have h5 := Ho5.out j hj
    rcases Hn6.out j hf with h | h
    · have := Hlt2.out j h; omega
    · omega)))
  have Hb7 := Lib.hid (Hb6.out.trans (ho.below HF6.out Hb6.out.size))
  clear hR7 ho hd7 HR6 HX6 HO6 Hb6 hF7 HF6
  go_wp2_with fail
  refine (all_any HOK.out HR7.out).mono ?_
  rintro e w8 ⟨v8, rfl, hO8, hb8⟩
  have hOb := HO7.out.below hb8
  obtain ⟨A4, c4, e4, r4⟩ := hOb.rd
  obtain ⟨A8, c8, e8, r8'⟩ := hO8.rd
  have h97 : d7.secs.length = 9 := by rw [Hd7.out, Dsk.crash_len, Hd6.out, Dsk.write_len]; exact H92.out
  have h4l : (strs d2).length = 9 := by rw [strs_len]; exact H92.out
  have h8l : (strs d7).length = 9 := by rw [strs_len]; exact h97
  rw [h4l] at e4
  rw [h8l] at e8
  subst e4
  subst e8
  have Hb8 := bb Hb7 hb8
  have HX8 := Lib.hid (HX7.out.below hb8 HX7.out.lt)
  have R4 := Lib.hid r4
  have R8 := Lib.hid r8'
  have H4l := Lib.hid h4l
  have H8l := Lib.hid h8l
  have H97 := Lib.hid h97
  have Hcore := Lib.hid (show ∀ k : Nat, k < 9 → Dsk.read d7 (k : Int) = Dsk.read d2 (k : Int) ∨ (E = 0 ∧ t.at_ = (k : Int)) from fun k hk => by
    have := Dsk.flushed Hdry.out t.at_ (wroteL t) keep torn cut k (by rw [H92.out]; exact hk)
    rw [← Hd6.out, ← Hd7.out] at this
    rcases this with h | ⟨h1, h2⟩
    · exact .inl h
    · exact .inr ⟨by rw [HE.out, h1]; rfl, h2⟩)
  clear hO8 hb8 hOb r4 r8' h4l h8l h97 HR7 HX7 HO7 Hb7 HE Hdry
  go_wp2
  go_loopw [15] (fun i w' => ∃ k : Nat, k ≤ 9 ∧ i = .int .i64 k ∧ Below w8.heap.size w8 w') (fun i _ => 9 - (intOf i).toNat)
  case atStart => exact ⟨0, by omega, rfl, Below.refl _ _⟩
  case round =>
    obtain ⟨k, hk, rfl, hbx⟩ := hrel
    by_cases h9 : k < 9
    · have hd9 : decide ((k : Int) < 9) = true := by simp; omega
      obtain ⟨u4, b4, q4, hu4, hb4, hix4, hc4⟩ := str_at (cap := c4) (R4.out.below hbx) H4l.out.symm k h9
      obtain ⟨u8', b8, q8, hu8, hb8, hix8, hc8⟩ := str_at (cap := c8) (R8.out.below hbx) H8l.out.symm k h9
      have hs4 := strs_at (by rw [H92.out]; exact h9) hu4
      have hs8 := strs_at (by rw [H97.out]; exact h9) hu8
      subst hs4
      subst hs8
      have hX := HX8.out.below hbx HX8.out.lt
      have hq := hX.cell 1
      rw [show t.cells[1]? = some (.int .i64 t.at_) from rfl] at hq
      have hcore := Hcore.out k h9
      obtain ⟨S4, hS4⟩ : ∃ S4 : ByteArray, S4 = ⟨(Dsk.read d2 (k : Int)).toArray⟩ := ⟨_, rfl⟩
      obtain ⟨S8, hS8⟩ : ∃ S8 : ByteArray, S8 = ⟨(Dsk.read d7 (k : Int)).toArray⟩ := ⟨_, rfl⟩
      unfold strV at hc4 hc8
      rw [← hS4] at hc4
      rw [← hS8] at hc8
      have Hbx := Lib.hid hbx
      have Hc4 := Lib.hid hc4
      have Hc8 := Lib.hid hc8
      have Hq := Lib.hid hq
      have Hlt4 := Lib.hid (show b4 < wr.drew.heap.size from Nat.lt_of_lt_of_le hb4 hbx.size)
      have Hlt8 := Lib.hid (show b8 < wr.drew.heap.size from Nat.lt_of_lt_of_le hb8 hbx.size)
      have HltX := Lib.hid (show w.heap.size < wr.drew.heap.size from hX.lt)
      have hdis : S8 = S4 ∨ (E = 0 ∧ t.at_ = (k : Int)) := by
        rcases hcore with h | h
        · left; rw [hS8, hS4, h]
        · exact .inr h
      have Hdis := Lib.hid hdis
      clear hbx hu4 hu8 hb4 hb8 hc4 hc8 hX hq hcore hS4 hS8 hdis
      go_wp2_with fail
      refine wp_region_G grows (by kernel_rfl) ?_
      have Hbx := Lib.hid Hbx.out.drew
      have Hc4 := Lib.hid (show wr.drew.cell? ⟨b4, q4, none⟩ = some (.string S4) from Hc4.out)
      have Hc8 := Lib.hid (show wr.drew.cell? ⟨b8, q8, none⟩ = some (.string S8) from Hc8.out)
      have Hq := Lib.hid (show wr.drew.cell? ⟨w.heap.size, 1, none⟩ = some (.int .i64 t.at_) from Hq.out)
      generalize wr.drew = W9 at *
      have hl4 := str_later Hlt4.out (Nat.le_refl _) Hc4.out
      have hl8 := str_later Hlt8.out (Nat.le_refl _) Hc8.out
      have hlq := str_later HltX.out (Nat.le_refl _) Hq.out
      cases hSS : (S8.toList == S4.toList) with
      | true =>
        refine segG (by kernel_rfl) (fun _ _ _ _ _ h => h) [0, 1, 2, 3, 4, 5, 6, 7, 8, 9] [_, _, _, _, _, _, _, _, _, _] 9 rfl rfl (by kernel_rfl) ?_
        repeat (go_big_quiet_step (fail))
        refine wpQuiet_nil ?_
        refine segG (by kernel_rfl) (fun _ _ _ _ _ h => h) [10, 11, 12, 13, 14, 15, 16, 17, 18] [_, _, _, _, _, _, _, _, _] 0 rfl rfl (by kernel_rfl) ?_
        repeat (go_big_quiet_step (fail))
        refine wpQuiet_nil ?_
        refine wpAnyG_done (by kernel_rfl) ?_
        clear hl4 hl8 hlq hix4 hix8 hSS
        go_wp2
        exact ⟨⟨k + 1, by omega, by go_num, Hbx.out⟩, by simp [intOf]; omega⟩
      | false =>
        have hEk : E = 0 ∧ t.at_ = (k : Int) := by
          rcases Hdis.out with h | h
          · rw [h] at hSS; simp at hSS
          · exact h
        have hE0 : (E != 0) = false := by simp [hEk.1]
        have hk0 : ((k : Int) != t.at_) = false := by simp [hEk.2]
        clear hEk
        refine segG (by kernel_rfl) (fun _ _ _ _ _ h => h) [0, 1, 2, 3, 4, 5, 6, 7, 8, 9] [_, _, _, _, _, _, _, _, _, _] 9 rfl rfl (by kernel_rfl) ?_
        repeat (go_big_quiet_step (fail))
        refine wpQuiet_nil ?_
        refine segG (by kernel_rfl) (fun _ _ _ _ _ h => h) [10, 11, 12, 13, 14, 15, 16, 17, 18] [_, _, _, _, _, _, _, _, _] 0 rfl rfl (by kernel_rfl) ?_
        repeat (go_big_quiet_step (fail))
        refine wpQuiet_nil ?_
        refine wpAnyG_done (by kernel_rfl) ?_
        clear hl4 hl8 hlq hix4 hix8 hSS hE0 hk0
        go_wp2
        exact ⟨⟨k + 1, by omega, by go_num, Hbx.out⟩, by simp [intOf]; omega⟩
    · have hd9 : decide ((k : Int) < 9) = false := by simp; omega
      have Hb9 := Lib.hid (Hb8.out.trans (hbx.mono Hb8.out.size))
      clear hbx
      go_wp2_with fail
      refine (awake14_any HOK.out wr).mono ?_
      rintro e w10 ⟨rfl, hb10⟩
      have Hb10 := bb Hb9 hb10
      clear hb10
      go_wp2
      go_ret
      exact ⟨rfl, Hb0.out.trans (Hb10.out.mono Hb0.out.size)⟩
end Go.Proofs.Ytampdfmakhdliaa
