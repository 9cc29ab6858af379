/-
  Whole arrays (made, loaded, stored) and copy, within a fence: laws at the level of a list of operations. Of no program. The landed lz: a map from three bytes to slices: what it holds, as a function. LZ77: the positions in reach that start alike; the best match as a fold over them. Of no program. A thing in memory that owns blocks: what a call on it may turn. Of no program. The landed lz: its window in memory: a map whose elements are slices of positions, each in a row of its own.
-/
import Derived.OwnWalkIn
import Derived.Test.YtjapohddfelgkaaPackJ02
import Derived.Maps.OwnSet
import Derived.Maps.OwnRows
import Derived.Maps.Range
import Derived.WideKeyEntry
import Derived.DeepKeys4
import Derived.Test.YtjapohddfelgkaaPackJ07
import Derived.Test.YtjapohddfelgkaaPackJ03
import Derived.Test.YtjapohddfelgkaaPackJ01
import Derived.ArgAppend
import Derived.Maps.AppendAt
set_option maxRecDepth 100000
namespace Go.Gar
open Go.RowKit
section
variable {F : Fence} {n : Nat} {P : Program} {w : World} {ops : Array Oper} {rest : List Oper} {o : Oper} {a : Act} {Q : Exit → Act → World → Prop}

/-- One operation that calls nothing and whose run is known. -/
theorem wpListIn_run (hgd : o.guard = none) (hab : o.about P w a.eval = none) (hnd : ∀ c, o.op ≠ .defer c) {v : Value} {w' : World}
    (hrun : (execOp a.eval o).run P w = .ok (.value v) w') (h : wpListIn F n P ops Q rest (a.put o.dst v) w') : wpListIn F n P ops Q (o :: rest) a w :=
  wpListIn_plain hgd fun K hK => by
    refine ⟨fun f hf => (by rw [hab] at hf; cases hf), ?_⟩
    rw [Oper.semAt_plain F _ _ hnd, hrun]
    exact hK _ _ h
theorem wpListIn_run_skip (hgd : o.guard = none) (hab : o.about P w a.eval = none) (hnd : ∀ c, o.op ≠ .defer c) {w' : World}
    (hrun : (execOp a.eval o).run P w = .ok .skip w') (hd : o.dst = none) (h : wpListIn F n P ops Q rest a w') : wpListIn F n P ops Q (o :: rest) a w :=
  wpListIn_plain hgd fun K hK => by
    refine ⟨fun f hf => (by rw [hab] at hf; cases hf), ?_⟩
    rw [Oper.semAt_plain F _ _ hnd, hrun]
    exact hK _ _ (by rw [hd]; exact h)

theorem wpListIn_alloc_arr (hgd : o.guard = none) (t : TypeId) (z : Array Value) (ho : o.op = .alloc t) (hz : ∀ w, (zeroValue t).run P w = .ok (.agg z) w)
    (h : wpListIn F n P ops Q rest (a.put o.dst (.pointer (some ⟨w.heap.size, 0, none⟩))) (w.alloc (.cells z t))) : wpListIn F n P ops Q (o :: rest) a w := by
  refine wpListIn_run hgd (by simp [Oper.about, ho]) (by simp [ho]) (v := .pointer (some ⟨w.heap.size, 0, none⟩)) (w' := w.alloc (.cells z t)) ?_ h
  unfold execOp
  simp [ho, Instr.alloc, hz, newVar, newRow, Sem.run_bind, Result.andThen, Value.cells]
theorem wpListIn_box_arr (hgd : o.guard = none) (t : TypeId) (x : Operand) (cs : Array Value) (ho : o.op = .box t x) (hx : a.eval x = .agg cs)
    (h : wpListIn F n P ops Q rest (a.put o.dst (.pointer (some ⟨w.heap.size, 0, none⟩))) (w.alloc (.cells cs t))) : wpListIn F n P ops Q (o :: rest) a w := by
  refine wpListIn_run hgd (by simp [Oper.about, ho]) (by simp [ho]) (v := .pointer (some ⟨w.heap.size, 0, none⟩)) (w' := w.alloc (.cells cs t)) ?_ h
  unfold execOp
  simp [ho, hx, Instr.box, newVar, newRow, Result.andThen, Value.cells]
theorem wpListIn_load_arr (hgd : o.guard = none) (t : TypeId) (p : Operand) (ho : o.op = .load t p) {g q : Nat} (hp : a.eval p = .pointer (some ⟨g, q, none⟩)) (x : Array Value)
    (hld : (loadVar t ⟨g, q, none⟩).run P w = .ok (.agg x) w) (h : wpListIn F n P ops Q rest (a.put o.dst (.agg x)) w) : wpListIn F n P ops Q (o :: rest) a w := by
  refine wpListIn_run hgd (by simp [Oper.about, ho]) (by simp [ho]) (v := .agg x) (w' := w) ?_ h
  unfold execOp
  simp only [ho, hp, Instr.loadAt, Instr.sureAddr, Sem.run_bind, hld, Result.andThen_ok, Sem.run_pure]
theorem wpListIn_store_arr (hgd : o.guard = none) (t : TypeId) (p x : Operand) (g : Nat) (old new : List Value)
    (hd : o.dst = none) (ho : o.op = .store t p x) (hp : a.eval p = .pointer (some ⟨g, 0, none⟩)) (hx : a.eval x = .agg new.toArray) (hb : Blk w g t old) (hi : (P.info? t).map (·.size) = some new.length) (hl : old.length = new.length) (h1 : ∀ u ∈ new, u.oneCell' = true)
    (h : wpListIn F n P ops Q rest a (w.setRow g new.toArray)) : wpListIn F n P ops Q (o :: rest) a w := by
  have hr := run_storeVar_row (P := P) w g t t old.toArray new.toArray hb (by simpa using hi) (by simpa using hl) (by simpa using h1)
  refine wpListIn_run_skip hgd (by simp [Oper.about, ho]) (by simp [ho]) (w' := w.setRow g new.toArray) ?_ hd h
  unfold execOp
  simp [ho, Instr.storeAt, Instr.sureAddr, hp, hx, hr, Result.andThen]
theorem wpListIn_copy_run (hgd : o.guard = none) (d s : Operand) (ts : Array TypeId) (ho : o.op = .call { callee := .builtin .copy, args := #[d, s], argTypes := ts }) {vd vs v : Value} {w' : World} (hs : a.eval d = vd) (hx : a.eval s = vs)
    (hrun : (Builtin.copy_ ts o.type #[vd, vs]).run P w = .ok v w') (h : wpListIn F n P ops Q rest (a.put o.dst v) w') : wpListIn F n P ops Q (o :: rest) a w := by
  refine wpListIn_run hgd (by simp [Oper.about, ho, resolve, Target.leads, Sem.run_pure]) (by simp [ho]) (v := v) (w' := w') ?_ h
  unfold execOp
  simp only [ho, resolve, invoke, builtin, Sem.run_bind, Sem.run_pure, Result.andThen_ok, List.map_toArray, List.map_cons, List.map_nil, hs, hx, hrun]
end

/-- copy of what a slice reads as over a part of a row that is known whole. -/
theorem run_copy_seg {P : Program} {w : World} (dT sT ty e : TypeId) (hu : P.underlying dT = some (.slice e)) (hs : (P.info? e).map (·.size) = some 1) (g o dLen dCap sLen sCap b q : Nat) (l : List UInt8) (k : Nat)
    (hc : ∀ i c, l[i]? = some c → w.cell? ⟨b, q + i, none⟩ = some (.int .u8 (c.toNat : Int))) (hsl : sLen = l.length) (hk : k = min l.length dLen) (cs : List Value) (t : TypeId) (hg : Blk w g t cs) (hfit : o + k ≤ cs.length) :
    (Builtin.copy_ #[dT, sT] ty #[.slice (some ⟨g, o, none⟩) dLen dCap, .slice (some ⟨b, q, none⟩) sLen sCap]).run P w = .ok (goInt k) (w.setRow g (cs.take o ++ u8s (l.take k) ++ cs.drop (o + k)).toArray) := by
  subst hsl
  have hlen : (u8s (l.take k)).length = k := by rw [u8s_len, List.length_take]; omega
  have h := run_copy_row (P := P) w dT sT ty e g o dLen dCap ⟨b, q, none⟩ l.length sCap cs.toArray t (u8s (l.take k)) hu hs hg (by rw [hlen, hk]) ?_ (by rw [hlen]; simpa using hfit) (u8s_one _)
  · rw [hlen] at h
    simpa using h
  · intro j v hj
    rw [u8s_get] at hj
    cases hq : (l.take k)[j]? with
    | none => simp [hq] at hj
    | some c =>
      rw [hq] at hj
      simp at hj
      subst hj
      have : (⟨b, q, none⟩ : Addr).add j = ⟨b, q + j, none⟩ := Addr.add_lit _ _ _
      rw [this]
      refine hc j c ?_
      rw [List.getElem?_take] at hq
      split at hq
      · exact hq
      · cases hq
end Go.Gar
namespace Go.Proofs.Ytjapohddfelgkaa
open Go.RowKit Go.Gar

theorem Try.undK : Try.prog.underlying 58 = some (.array 3 5) := by kernel_rfl
theorem Try.undMp : Try.prog.underlying 45 = some (.map 58 57) := by kernel_rfl
theorem Try.laidOutK : laidOutB Try.prog = true := by kernel_rfl
theorem Try.rowK : (58 : TypeId) < Try.prog.types.size := of_decide_eq_true (by kernel_rfl)
theorem Try.wideK : (match Try.prog.underlying 58 with | some (.array _ _) | some (.struct _) => true | _ => false) = true := by rw [Try.undK]
theorem Try.lawK : WideMaps.KeyLaw Try.prog 58 := deep_law_laid Try.laidOutK (m := 2) (by omega) Try.rowK (by kernel_rfl) Try.wideK
theorem Try.keyedK : Maps.Keyed Try.prog 58 := .of_law Try.lawK
theorem Try.cellsK : Try.prog.cellsOf 58 = 3 := by kernel_rfl
theorem Try.cells8 : Try.prog.cellsOf 5 = 1 := by kernel_rfl
theorem Try.keyTypeK : Try.prog.keyType 58 = true := by kernel_rfl
theorem Try.infoInts : (Try.prog.info? 57).map (fun i => (i.zero, i.size)) = some (some (.slice none 0 0), 1) := by kernel_rfl
theorem zero_ints (w : World) : (zeroValue 57).run Try.prog w = .ok (.slice none 0 0) w := (zero_of_info Try.infoInts).1 w
theorem Try.lits8 (d : Nat) (c : UInt8) : Try.prog.keyLits (d + 1) 5 [.int .u8 (c.toNat : Int)] = some [.int .u8 (c.toNat : Int)] := by
  have h : (Lit.int .u8 (c.toNat : Int)).wf = true := by
    have := c.toNat_lt
    simp [Lit.wf, IntKind.min, IntKind.max, IntKind.signed, IntKind.bits]
    omega
  unfold Program.keyLits
  rw [Try.und5]
  simp [h]
/-- Three bytes as a key. -/
def keyV (s : List UInt8) : Value := .agg (u8s s).toArray
theorem keyV_some {s : List UInt8} (h : s.length = 3) : ∃ l, keyOf Try.prog 58 (keyV s) = some l := by
  match s, h with
  | [a, b, c], _ =>
    obtain ⟨k, hk⟩ : ∃ k, Try.prog.types.size = k + 1 := Nat.exists_eq_succ_of_ne_zero (fun e => by have h := Try.rowK; rw [e] at h; exact absurd h (Nat.not_lt_zero _))
    unfold keyOf
    rw [Try.undK]
    have hf : (keyV [a, b, c]).formed Try.prog 58 = true := by simp [keyV, u8s, Value.formed, Try.cellsK]
    simp only [Try.keyTypeK, hf, Bool.and_self, if_true]
    rw [hk]
    unfold Program.keyLits
    simp only [Try.undK]
    simp [keyV, u8s, Value.cells, Try.cellsK, Try.cells8, List.range_succ, Try.lits8]
noncomputable def litK (s : List UInt8) : Lit := (keyOf Try.prog 58 (keyV s)).getD (.bool false)
theorem keyV_lit {s : List UInt8} (h : s.length = 3) : keyOf Try.prog 58 (keyV s) = some (litK s) := by
  obtain ⟨l, hl⟩ := keyV_some h
  rw [litK, hl]; rfl
theorem litK_inj {s s' : List UInt8} (h : s.length = 3) (h' : s'.length = 3) (he : litK s = litK s') : s = s' := by
  have := Try.keyedK.inj (keyV_lit h) (he ▸ keyV_lit h')
  simp only [keyV, Value.agg.injEq] at this
  have h2 : u8s s = u8s s' := by simpa using this
  have inj : ∀ (l k : List UInt8), u8s l = u8s k → l = k := by
    intro l
    induction l with
    | nil => intro k e; cases k with
      | nil => rfl
      | cons x k => simp [u8s] at e
    | cons x l ih => intro k e; cases k with
      | nil => simp [u8s] at e
      | cons y k =>
        simp only [u8s, List.map_cons, List.cons.injEq, Value.int.injEq, true_and] at e
        have hx : x = y := UInt8.toNat_inj.1 (by omega)
        rw [hx, ih k e.2]
  exact inj s s' h2

/-- How an element reads: as itself. -/
def asIs (v : Value) : Option (DataW Value × List MemPlace) := some (.held v, [])
def noInts : Value := .slice none 0 0
def upd {β : Type} (f : List UInt8 → β) (s : List UInt8) (v : β) : List UInt8 → β := fun s' => if s' = s then v else f s'
theorem upd_same {β : Type} (f : List UInt8 → β) (s : List UInt8) (v : β) : upd f s v s = v := if_pos rfl
theorem upd_other {β : Type} (f : List UInt8 → β) {s s' : List UInt8} (v : β) (h : s' ≠ s) : upd f s v s' = f s' := if_neg h
/-- Block gm is a map that holds f. -/
def MapK (w : World) (gm n : Nat) (f : List UInt8 → Value) : Prop :=
  ∃ D : DataW Value, w.ownsMap Try.prog 58 asIs gm n D ∧ ∀ s, s.length = 3 → D.atKey (litK s) (.held noInts) = .held (f s)
section
variable {w w' : World} {gm n : Nat} {f : List UInt8 → Value}
theorem mapK_made (w : World) : MapK (w.alloc (.map #[] 0)) w.heap.size 0 (fun _ => noInts) :=
  ⟨_, World.ownsMap_made w Try.prog _ asIs, fun _ _ => rfl⟩
theorem ownsMap_block {D : DataW Value} (h : w.ownsMap Try.prog 58 asIs gm n D) (hb : w'.heap[gm]? = w.heap[gm]?) : w'.ownsMap Try.prog 58 asIs gm n D := by
  obtain ⟨es, clock, h1, h2⟩ := h
  exact ⟨es, clock, hb.trans h1, h2⟩
theorem MapK.block (h : MapK w gm n f) (hb : w'.heap[gm]? = w.heap[gm]?) : MapK w' gm n f := by
  obtain ⟨D, h1, h2⟩ := h
  exact ⟨D, ownsMap_block h1 hb, h2⟩
theorem MapK.obj (h : MapK w gm n f) : ∃ es clock, w.heap[gm]? = some (.map es clock) := by
  obtain ⟨D, ⟨es, clock, h1, _⟩, _⟩ := h
  exact ⟨es, clock, h1⟩
theorem MapK.lt (h : MapK w gm n f) : gm < w.heap.size := by
  obtain ⟨es, clock, h1⟩ := h.obj
  exact (Array.getElem?_eq_some_iff.1 h1).1
theorem MapK.look (h : MapK w gm n f) {s : List UInt8} (hs : s.length = 3) : (Instr.lookup 45 (.map (some gm)) (keyV s) false).run Try.prog w = .ok (f s) w := by
  obtain ⟨D, h1, h2⟩ := h
  obtain ⟨v, ps, hr, hv⟩ := h1.lookup Try.keyedK Try.undMp (zero_ints w) (zd := .held noInts) (zp := []) rfl (keyV_lit hs)
  rw [h2 s hs] at hv
  simp only [asIs, Option.some.injEq, Prod.mk.injEq, DataW.held.injEq] at hv
  rw [hr, hv.1]
theorem atPut {D : DataW Value} (hD : Maps.IsMap D) (hat : ∀ s, s.length = 3 → D.atKey (litK s) (.held noInts) = .held (f s)) {s : List UInt8} (hs : s.length = 3) (v : Value) :
    ∀ s', s'.length = 3 → (D.put (litK s) (.held v)).atKey (litK s') (.held noInts) = .held (upd f s v s') := by
  intro s' hs'
  by_cases h : s' = s
  · subst h
    rw [upd_same]
    exact Maps.atKey_put_same hD (Try.keyedK.key (keyV_lit hs)) _ _
  · rw [upd_other _ _ h, ← hat s' hs']
    exact Maps.atKey_put_other (fun e => h (litK_inj hs' hs e)) _ _
theorem turned_grown {b : Nat} (h : w.mapTurned w' b) : w.grownBy w' (some b) := h.grown
theorem MapK.store (h : MapK w gm n f) (hn : n < maxLen) {s : List UInt8} (hs : s.length = 3) (v : Value) :
    ∃ w', (Instr.mapUpdate 45 (.map (some gm)) (keyV s) v).run Try.prog w = .ok () w' ∧ MapK w' gm (n + 1) (upd f s v) ∧ w.grownBy w' (some gm) := by
  obtain ⟨D, h1, h2⟩ := h
  obtain ⟨w', hr, ho, hg⟩ := h1.update Try.keyedK Try.undMp hn (d := .held v) (ps := []) (keyV_lit hs) rfl
  exact ⟨w', hr, ⟨_, ho, atPut h1.isMap h2 hs v⟩, hg⟩
theorem MapK.drop (h : MapK w gm n f) {s : List UInt8} (hs : s.length = 3) (ty : TypeId) :
    ∃ w', (Builtin.delete_ #[45, 58] ty #[.map (some gm), keyV s]).run Try.prog w = .ok (.tuple #[]) w' ∧ MapK w' gm n (upd f s noInts) ∧ w.grownBy w' (some gm) := by
  obtain ⟨D, h1, h2⟩ := h
  obtain ⟨w', hr, ho, hg⟩ := h1.drop Try.keyedK Try.undMp (keyV_lit hs) ty
  refine ⟨w', hr, ⟨_, ho, fun s' hs' => ?_⟩, turned_grown hg⟩
  by_cases h : s' = s
  · subst h
    rw [upd_same]
    exact Maps.atKey_del_same _
  · rw [upd_other _ _ h, ← h2 s' hs']
    exact Maps.atKey_del_other (fun e => h (litK_inj hs' hs e)) _
open Go.ChangeMaps (setBlock heap_setBlock_same) in
open Go.WideElems in
/-- An entry taken, and stored into later. -/
theorem MapK.entry (h : MapK w gm n f) (hn : n < maxLen) {s : List UInt8} (hs : s.length = 3) :
    ∃ (st : Nat) (w1 : World), (Instr.mapEntry 45 (.map (some gm)) (keyV s)).run Try.prog w = .ok (.tuple #[f s, goInt st]) w1 ∧ w.grownBy w1 (some gm) ∧
      ∀ (w2 : World) (v : Value), w2.heap[gm]? = w1.heap[gm]? → ∃ w3, (Instr.entryStore 45 (.map (some gm)) (goInt st) v).run Try.prog w2 = .ok () w3 ∧ MapK w3 gm (n + 1) (upd f s v) ∧ w2.grownBy w3 (some gm) := by
  have hlook := h.look hs
  have hstore := fun v => h.store hn hs v
  obtain ⟨D, ⟨es, clock, hb, F, hsz, hD⟩, h2⟩ := h
  obtain ⟨v0, st, es1, clock1, hr, hv0, hst⟩ := entry_then_store Try.lawK Try.undMp (z := noInts) zero_ints hb F (keyV_lit hs)
  have hf : v0 = f s := by
    rcases Maps.fit_look false Try.keyedK Try.undMp (zero_ints w) hb F (keyV_lit hs) with ⟨g1, g2, _⟩ | ⟨e0, y, g1, g2, g3, _⟩
    · rw [hlook] at g1
      simp only [Bool.false_eq_true, if_false, Result.ok.injEq, and_true] at g1
      rcases hv0 with ⟨e1, m1, k1, _⟩ | ⟨_, e⟩
      · exact absurd k1 (g2 e1 m1)
      · rw [e, g1]; rfl
    · rw [hlook] at g3
      simp only [Bool.false_eq_true, if_false, Result.ok.injEq, and_true] at g3
      rcases hv0 with ⟨e1, m1, k1, r1⟩ | ⟨g, _⟩
      · rw [r1, g3, entry_eq_of_key ((MapKept.stamped_iff es clock).1 F.stamped).2.2 m1 g1 (k1.trans g2.symm)]
      · exact absurd g2 (g e0 g1)
  rw [hf] at hr
  refine ⟨st, _, hr, ⟨rfl, rfl, rfl, by simp [setBlock], fun i _ hi => ChangeMaps.heap_setBlock_other hb _ (fun e => hi (by rw [e]))⟩, fun w2 v hw2 => ?_⟩
  rw [heap_setBlock_same hb] at hw2
  obtain ⟨es', clock', hr2, hu⟩ := hst w2 v hw2
  obtain ⟨w', hru, hm, _⟩ := hstore v
  rw [hru] at hu
  obtain rfl : w' = _ := by simpa using hu
  refine ⟨_, hr2, hm.block ?_, ⟨rfl, rfl, rfl, by simp [setBlock], fun i _ hi => ChangeMaps.heap_setBlock_other hw2 _ (fun e => hi (by rw [e]))⟩⟩
  rw [heap_setBlock_same hb, heap_setBlock_same hw2]
end
end Go.Proofs.Ytjapohddfelgkaa
namespace Go.Gar.Lz

/-- The three bytes at a place (fewer at the end). -/
def key (b : List UInt8) (p : Nat) : List UInt8 := (b.drop p).take 3
theorem key_len {b : List UInt8} {p : Nat} (h : p + 3 ≤ b.length) : (key b p).length = 3 := by
  unfold key
  rw [List.length_take, List.length_drop]; omega
theorem key_ne {b : List UInt8} {p : Nat} {s : List UInt8} (hs : s.length = 3) (h : ¬ p + 3 ≤ b.length) : key b p ≠ s := by
  intro e
  have : (key b p).length = 3 := by rw [e, hs]
  unfold key at this
  rw [List.length_take, List.length_drop] at this
  omega
theorem key_same {b : List UInt8} {p k : Nat} (hp : p < k) (hk : k + 3 ≤ b.length) : key b p = key b k ↔ 3 ≤ same b p k := by
  constructor
  · intro h
    refine same_max (by omega) hk fun j hj => ?_
    have := congrArg (fun l => l[j]?) h
    simp only [key, List.getElem?_take_of_lt hj, List.getElem?_drop] at this
    exact this
  · intro h
    apply List.ext_getElem?
    intro j
    by_cases hj : j < 3
    · simp only [key, List.getElem?_take_of_lt hj, List.getElem?_drop]
      exact (same_in (j := j) (by omega)).2.2
    · rw [List.getElem?_eq_none (by rw [key_len (by omega)]; omega), List.getElem?_eq_none (by rw [key_len hk]; omega)]
/-- The positions of n from lo on that start with s. -/
def winL (b : List UInt8) (lo n : Nat) (s : List UInt8) : List Nat := (List.range' lo n).filter fun p => key b p == s
/-- Those that a match at a place may reach. -/
def win (b : List UInt8) (at_ : Nat) (s : List UInt8) : List Nat := winL b (at_ - 4096) (min at_ 4096) s
/-- Those behind which the earliest has gone. -/
def mid (b : List UInt8) (at_ : Nat) (s : List UInt8) : List Nat := if 4096 ≤ at_ then winL b (at_ - 4096 + 1) 4095 s else win b at_ s
theorem winL_cons (b : List UInt8) (lo n : Nat) (s : List UInt8) : winL b lo (n + 1) s = if key b lo = s then lo :: winL b (lo + 1) n s else winL b (lo + 1) n s := by
  unfold winL
  rw [List.range'_succ, List.filter_cons]
  by_cases h : key b lo = s <;> simp [h]
theorem winL_snoc (b : List UInt8) (lo n : Nat) (s : List UInt8) : winL b lo (n + 1) s = winL b lo n s ++ if key b (lo + n) = s then [lo + n] else [] := by
  unfold winL
  rw [List.range'_1_concat, List.filter_append]
  congr 1
  by_cases h : key b (lo + n) = s <;> simp [h]
theorem win_zero (b : List UInt8) (s : List UInt8) : win b 0 s = [] := rfl
theorem win_first {b : List UInt8} {at_ : Nat} (h : 4096 ≤ at_) : win b at_ (key b (at_ - 4096)) = (at_ - 4096) :: mid b at_ (key b (at_ - 4096)) := by
  unfold win mid
  rw [show min at_ 4096 = 4095 + 1 by omega, winL_cons, if_pos rfl, if_pos h]
theorem win_else {b : List UInt8} {at_ : Nat} {s : List UInt8} (h : 4096 ≤ at_) (hs : s ≠ key b (at_ - 4096)) : win b at_ s = mid b at_ s := by
  unfold win mid
  rw [show min at_ 4096 = 4095 + 1 by omega, winL_cons, if_neg (fun e => hs e.symm), if_pos h]
theorem mid_low {b : List UInt8} {at_ : Nat} (h : ¬ 4096 ≤ at_) : mid b at_ = win b at_ := by
  funext s
  unfold mid
  rw [if_neg h]
theorem win_next (b : List UInt8) (at_ : Nat) (s : List UInt8) : win b (at_ + 1) s = mid b at_ s ++ if key b at_ = s then [at_] else [] := by
  unfold mid
  by_cases h : 4096 ≤ at_
  · rw [if_pos h]
    unfold win
    rw [show at_ + 1 - 4096 = at_ - 4096 + 1 by omega, show min (at_ + 1) 4096 = 4095 + 1 by omega, winL_snoc, show at_ - 4096 + 1 + 4095 = at_ by omega]
  · rw [if_neg h]
    unfold win
    rw [show at_ + 1 - 4096 = 0 by omega, show at_ - 4096 = 0 by omega, show min (at_ + 1) 4096 = at_ + 1 by omega, show min at_ 4096 = at_ by omega, winL_snoc, Nat.zero_add]
theorem winL_in {b : List UInt8} {lo n : Nat} {s : List UInt8} {p : Nat} (h : p ∈ winL b lo n s) : lo ≤ p ∧ p < lo + n ∧ key b p = s := by
  unfold winL at h
  rw [List.mem_filter, List.mem_range'_1] at h
  exact ⟨h.1.1, h.1.2, by simpa using h.2⟩
theorem win_in {b : List UInt8} {at_ : Nat} {s : List UInt8} {p : Nat} (h : p ∈ win b at_ s) : p < at_ ∧ key b p = s := by
  have := winL_in h
  exact ⟨by omega, this.2.2⟩
theorem win_len (b : List UInt8) (at_ : Nat) (s : List UInt8) : (win b at_ s).length ≤ 4096 := by
  unfold win winL
  refine Nat.le_trans (List.length_filter_le _ _) ?_
  rw [List.length_range']; omega

/-- One position tried. -/
def tryP (b : List UInt8) (at_ : Nat) (acc : Nat × Nat) (p : Nat) : Nat × Nat := if acc.1 < same b p at_ then (same b p at_, at_ - p) else acc
theorem tryP_full {b : List UInt8} {at_ : Nat} {acc : Nat × Nat} (h : 130 ≤ acc.1) (p : Nat) : tryP b at_ acc p = acc := by
  unfold tryP
  have := same_le b p at_
  rw [if_neg (by omega)]
theorem tryP_fulls {b : List UInt8} {at_ : Nat} {acc : Nat × Nat} (h : 130 ≤ acc.1) (ps : List Nat) : ps.foldl (tryP b at_) acc = acc := by
  induction ps with
  | nil => rfl
  | cons p ps ih => rw [List.foldl_cons, tryP_full h, ih]
theorem bestTo_fold {b : List UInt8} {at_ : Nat} (hk : at_ + 3 ≤ b.length) : ∀ D, D ≤ at_ → bestTo b at_ D = (winL b (at_ - D) D (key b at_)).foldr (fun p acc => tryP b at_ acc p) (0, 0)
  | 0, _ => rfl
  | D + 1, hD => by
    rw [bestTo, winL_cons, show at_ - (D + 1) + 1 = at_ - D by omega, bestTo_fold hk D (by omega)]
    have hs := key_same (b := b) (p := at_ - (D + 1)) (k := at_) (by omega) hk
    by_cases h : key b (at_ - (D + 1)) = key b at_
    · rw [if_pos h, List.foldr_cons]
      generalize (winL b (at_ - D) D (key b at_)).foldr (fun p acc => tryP b at_ acc p) (0, 0) = acc
      have h3 := hs.1 h
      unfold tryP
      rw [show at_ - (at_ - (D + 1)) = D + 1 by omega]
      by_cases hl : acc.1 < same b (at_ - (D + 1)) at_
      · rw [if_pos hl, if_pos ⟨h3, hl⟩]
      · rw [if_neg hl, if_neg (fun x => hl x.2)]
    · rw [if_neg h, if_neg (fun x => h (hs.2 x.1))]
theorem best_fold {b : List UInt8} {at_ : Nat} (hk : at_ + 3 ≤ b.length) : best b at_ = (win b at_ (key b at_)).reverse.foldl (tryP b at_) (0, 0) := by
  unfold best win
  rw [List.foldl_reverse, bestTo_fold hk _ (by omega)]
  rw [show at_ - min at_ 4096 = at_ - 4096 by omega]
theorem best_short {b : List UInt8} {at_ : Nat} (hk : ¬ at_ + 3 ≤ b.length) : best b at_ = (0, 0) := by
  refine best_none fun e h1 h2 => ?_
  rcases Nat.lt_or_ge (same b (at_ - e) at_) 3 with h | h
  · exact h
  · have := same_fit (b := b) (i := at_ - e) (k := at_) (by omega)
    omega
end Go.Gar.Lz
namespace Go.Gar
open Go.RowKit

/-- Of the blocks that stood those of F alone may have turned. -/
structure Only (F : Nat → Prop) (w w' : World) : Prop where
  os : w'.os = w.os
  tape : w'.tape = w.tape
  output : w'.output = w.output
  size : w.heap.size ≤ w'.heap.size
  block : ∀ k, k < w.heap.size → ¬ F k → w'.heap[k]? = w.heap[k]?
section
variable {F F' : Nat → Prop} {a b c w w' : World}
theorem Only.refl (F : Nat → Prop) (w : World) : Only F w w := ⟨rfl, rfl, rfl, Nat.le_refl _, fun _ _ _ => rfl⟩
theorem Only.trans (h : Only F a b) (k : Only F b c) : Only F a c :=
  ⟨k.os.trans h.os, k.tape.trans h.tape, k.output.trans h.output, Nat.le_trans h.size k.size, fun i hi hn => (k.block i (Nat.lt_of_lt_of_le hi h.size) hn).trans (h.block i hi hn)⟩
/-- The second may also turn what is new since the first's beginning. -/
theorem Only.then (h : Only F a b) (k : Only F' b c) (hF : ∀ i, F' i → F i ∨ a.heap.size ≤ i) : Only F a c :=
  ⟨k.os.trans h.os, k.tape.trans h.tape, k.output.trans h.output, Nat.le_trans h.size k.size, fun i hi hn => (k.block i (Nat.lt_of_lt_of_le hi h.size) (fun hf => by rcases hF i hf with h1 | h1; exact hn h1; omega)).trans (h.block i hi hn)⟩
theorem Only.mono (h : Only F a b) (hF : ∀ i, F i → F' i) : Only F' a b := ⟨h.os, h.tape, h.output, h.size, fun i hi hn => h.block i hi (fun hf => hn (hF i hf))⟩
theorem Only.of_below (F : Nat → Prop) (h : Below w.heap.size w w') : Only F w w' := ⟨h.os, h.tape, h.output, h.size, fun i hi _ => h.block i hi⟩
theorem Only.of_grown {row : Option Nat} (h : w.grownBy w' row) (hr : ∀ i, row = some i → F i) : Only F w w' := ⟨h.os, h.tape, h.output, h.size, fun i hi hn => h.block i hi (fun e => hn (hr i e.symm))⟩
theorem Only.drew (h : Only F a w) : Only F a w.drew := ⟨h.os, h.tape, h.output, h.size, h.block⟩
theorem Only.alloc (h : Only F a w) (o : Obj) : Only F a (w.alloc o) := h.trans (.of_below F ((Below.refl _ _).alloc (Nat.le_refl _) o))
theorem Only.below {B : Nat} (h : Only F w w') (hF : ∀ i, F i → B ≤ i) (hB : B ≤ w.heap.size) : Below B w w' := ⟨h.os, h.tape, h.output, h.size, fun i hi => h.block i (by omega) (fun hf => by have := hF i hf; omega)⟩
theorem Only.rd {B : Nat} {A : Option Addr} {l : List UInt8} (h : Only F w w') (hr : Rd w B A l) (hB : B ≤ w.heap.size) (hA : ∀ p, A = some p → ¬ F p.block) : Rd w' B A l := by
  rcases hr with rfl | ⟨b, o, rfl, hb, hc⟩
  · exact .inl rfl
  · exact .inr ⟨b, o, rfl, hb, fun i x hx => (World.cell?_of_block (w := w) (w' := w') (a := ⟨b, o + i, none⟩) (h.block b (by omega) (hA _ rfl))).trans (hc i x hx)⟩
theorem Only.blk {g : Nat} {t : TypeId} {cs : List Value} (h : Only F w w') (hb : Blk w g t cs) (hg : ¬ F g) : Blk w' g t cs := (h.block g hb.lt hg).trans hb
end
/-- A growth: of the blocks that stood those of F alone turn. -/
def onlyG (F : Nat → Prop) : Growth := ⟨fun w w' => Only F w w', fun w => Only.refl F w, fun h k => h.trans k⟩
end Go.Gar
namespace Go.Proofs.Ytjapohddfelgkaa
open Go.RowKit Go.Gar

theorem Try.undIntsL : Try.prog.underlying 57 = some (.slice 3) := by kernel_rfl
theorem Try.infoIntL : (Try.prog.info? 3).map (fun i => (i.zero, i.size, i.bytes)) = some (some (.int .i64 0), 1, 8) := by kernel_rfl
def blkV : Value → Option Nat
  | .slice (some p) _ _ => some p.block
  | _ => none
/-- A slice of positions in a row that the call made. -/
def OwnI (w : World) (base : Nat) (v : Value) (zs : List Nat) : Prop :=
  (v = noInts ∧ zs = []) ∨ ∃ (g c : Nat) (pre rest : List Value), v = .slice (some ⟨g, pre.length, none⟩) zs.length c ∧ zs ≠ [] ∧ base ≤ g ∧ Blk w g 3 (pre ++ i64s zs ++ rest) ∧ zs.length + rest.length = c
section
variable {w w' : World} {base : Nat} {v : Value} {zs : List Nat}
theorem OwnI.nil (w : World) (base : Nat) : OwnI w base noInts [] := .inl ⟨rfl, rfl⟩
theorem OwnI.typed (h : OwnI w base v zs) {g : Nat} (hg : blkV v = some g) : base ≤ g ∧ ∃ cs, Blk w g 3 cs := by
  rcases h with ⟨rfl, _⟩ | ⟨g', c, pre, rest, rfl, _, hb, hB, _⟩
  · cases hg
  · obtain rfl : g' = g := by simpa [blkV] using hg
    exact ⟨hb, _, hB⟩
theorem OwnI.lt (h : OwnI w base v zs) {g : Nat} (hg : blkV v = some g) : g < w.heap.size := by
  obtain ⟨_, cs, hB⟩ := h.typed hg
  exact hB.lt
theorem OwnI.keep (h : OwnI w base v zs) (hk : ∀ g, blkV v = some g → w'.heap[g]? = w.heap[g]?) : OwnI w' base v zs := by
  rcases h with h | ⟨g, c, pre, rest, rfl, hz, hb, hB, hc⟩
  · exact .inl h
  · exact .inr ⟨g, c, pre, rest, rfl, hz, hb, (hk g rfl).trans hB, hc⟩
theorem OwnI.of_row {base' : Nat} (h : w.ownsRow base' 3 1 v zs.length (i64s zs)) (hz : zs ≠ []) (hb : base ≤ base') : OwnI w base v zs ∧ ∃ g, blkV v = some g ∧ base' ≤ g := by
  rcases h.2 with ⟨_, hn⟩ | ⟨g, cap, cur, rfl, hg, hB, hnc, _, hsz, htake⟩
  · exact absurd (List.eq_nil_of_length_eq_zero hn) hz
  · refine ⟨.inr ⟨g, cap, [], cur.toList.drop zs.length, rfl, hz, Nat.le_trans hb hg, ?_, ?_⟩, g, rfl, hg⟩
    · unfold Blk
      rw [Nat.mul_one] at htake
      rw [List.nil_append, ← htake, List.take_append_drop]
      simpa using hB
    · have : cur.toList.length = cap := by rw [Array.length_toList, hsz, Nat.mul_one]
      rw [List.length_drop, this]; omega
/-- append of one position. -/
theorem OwnI.app (h : OwnI w base v zs) (ty : TypeId) (hbase : base ≤ w.heap.size) {gn : Nat} {x : Nat} (hx : Blk w gn 3 [.int .i64 (x : Int)]) (hl : zs.length ≤ 1000000) (c : Nat) :
    ∃ v' w', (Builtin.append_ #[57, 57] ty #[v, .slice (some ⟨gn, 0, none⟩) 1 c]).run Try.prog w = .ok v' w' ∧ OwnI w' base v' (zs ++ [x]) ∧ w.grownBy w' (blkV v) ∧ (blkV v' = blkV v ∨ ∃ g, blkV v' = some g ∧ w.heap.size ≤ g) := by
  obtain ⟨i, hi, hzz⟩ := Option.map_eq_some_iff.1 Try.infoIntL
  simp only [Prod.mk.injEq] at hzz
  obtain ⟨hz0, hs, hby⟩ := hzz
  have hcell : ∀ j u, [Value.int .i64 (x : Int)][j]? = some u → w.cell? ((⟨gn, 0, none⟩ : Addr).add j) = some u := by
    intro j u hj
    rw [Addr.add_lit, Nat.zero_add, hx.cell]
    exact hj
  have h1 : ∀ u ∈ [Value.int .i64 (x : Int)], u.oneCell' = true := by intro u hu; obtain rfl := List.mem_singleton.1 hu; rfl
  have hle : (zs ++ [x]).length = zs.length + 1 := by simp
  have hne : zs ++ [x] ≠ [] := by simp
  have happ : i64s (zs ++ [x]) = i64s zs ++ [.int .i64 (x : Int)] := by simp [i64s]
  rcases h with ⟨rfl, rfl⟩ | ⟨g, cp, pre, rest, rfl, hz, hb, hB, hc⟩
  · obtain ⟨v', w', hr, ho, hg, _, hat⟩ := run_append_own_at (P := Try.prog) w w.heap.size 57 ty 3 i (.int .i64 0) 1 8 Try.undIntsL hi hz0 hs hby rfl (by omega) (.slice none 0 0) 0 [] (World.ownsRow_nil _ _ _ _) ⟨gn, 0, none⟩ 1 c [.int .i64 (x : Int)] rfl hcell h1 (by simp [maxLen]) (by omega) (Nat.le_refl _)
    obtain ⟨ho2, g, hg1, hg2⟩ := OwnI.of_row (zs := [x]) (base := base) ho (by simp) hbase
    exact ⟨v', w', hr, ho2, hg, .inr ⟨g, hg1, hg2⟩⟩
  · by_cases hroom : zs.length + 1 ≤ cp
    · obtain ⟨r0, rest', rfl⟩ : ∃ r0 rest', rest = r0 :: rest' := by
        cases rest with
        | nil => simp at hc; omega
        | cons a b => exact ⟨a, b, rfl⟩
      have hat : (pre ++ i64s zs ++ r0 :: rest')[pre.length + zs.length]? = some r0 := by
        rw [List.getElem?_append_right (by rw [List.length_append, i64s_len]; exact Nat.le_refl _), List.length_append, i64s_len, Nat.sub_self]; rfl
      have hr := run_append_room_cells (P := Try.prog) (w := w) 57 ty 3 i Try.undIntsL hi g pre.length zs.length cp ⟨gn, 0, none⟩ 1 c [.int .i64 (x : Int)] (by rw [hs]; rfl) hcell h1 hroom
        (by intro j hj; obtain rfl : j = 0 := by simpa using hj
            rw [hs, Nat.mul_one, Nat.add_zero, hB.cell, hat]; rfl)
        (by intro j hj; exact hB.frozen _)
      rw [hs, Nat.mul_one] at hr
      have hset := hB.set_ (pre.length + zs.length) (.int .i64 (x : Int))
      rw [List.set_append_right _ _ (by rw [List.length_append, i64s_len]; exact Nat.le_refl _), List.length_append, i64s_len, Nat.sub_self, List.set_cons_zero] at hset
      refine ⟨_, _, hr, .inr ⟨g, cp, pre, rest', by rw [hle], hne, hb, ?_, ?_⟩, ?_, .inl rfl⟩
      · rw [happ]
        have e : pre ++ (i64s zs ++ [.int .i64 (x : Int)]) ++ rest' = pre ++ i64s zs ++ .int .i64 (x : Int) :: rest' := by simp
        rw [e]
        exact hset
      · rw [hle]; simp at hc ⊢; omega
      · refine ⟨rfl, rfl, rfl, ?_, fun k hk hne' => ?_⟩
        · show w.heap.size ≤ (w.setCell ⟨g, pre.length + zs.length, none⟩ (.int .i64 (x : Int))).heap.size
          simp
        · exact Below.heap_setCell w ⟨g, pre.length + zs.length, none⟩ _ k (fun e => hne' (by rw [e]; rfl))
    · obtain ⟨v', w', hr, ho, hg⟩ := run_append_arg_grows (P := Try.prog) (w := w) 57 ty 3 i (.int .i64 0) 1 8 Try.undIntsL hi hz0 hs hby rfl (by omega) ⟨g, pre.length, none⟩ zs.length cp (i64s zs) (by rw [i64s_len]; omega)
        (by intro j u hj
            rw [Addr.add_lit, hB.cell, List.append_assoc, List.getElem?_append_right (by omega), Nat.add_sub_cancel_left, List.getElem?_append_left (List.getElem?_eq_some_iff.1 hj).1]
            exact hj)
        ⟨gn, 0, none⟩ 1 c [.int .i64 (x : Int)] rfl hcell (by omega) (by simp only [maxLen]; omega) (by omega)
      rw [← happ, ← hle] at ho
      obtain ⟨ho2, g', hg1, hg2⟩ := OwnI.of_row (base := base) ho hne hbase
      exact ⟨v', w', hr, ho2, ⟨hg.os, hg.tape, hg.output, hg.size, fun k hk _ => hg.block k hk (by simp)⟩, .inr ⟨g', hg1, hg2⟩⟩
end
end Go.Proofs.Ytjapohddfelgkaa
