/-
  Arrays of bytes as values: compared, and loaded whole. Of no program. A statement that draws its order: one operation that yields the same value in every later world may be taken first. Of no program; a tool for the walks. append of bytes and of strings onto a slice that the call itself made, whether there is room or not: what it yields reads as the two joined, and nothing below the given block has turned. Of no program. Rows of values of one cell each (integers of any kind) in slices that the call itself made: append, and what they read as. Of no program. Cuts of a []byte as run equations. Of no program. Strings of bytes in worlds to come; append in a guarded statement. Of no program. Layer 14: small facts on a disk: a store into its blocks; whether a sector is there, in the three ways of a walk. build, its cells known; two parts of one size side by side. Of no program. Arrays by value at an offset of a block, boxed, indexed: laws at the level of a list of operations. Of no program.
-/
import Derived.Test.YtampdfmakhdliaaDiskJ02
import Derived.Test.YtampdfmakhdliaaDiskJ01
import Derived.ChangeKeysEq
import Derived.Great.FillDense
import Derived.Laws.Tables
import Derived.Deep.MidRow
set_option maxRecDepth 100000
namespace Go.Gar
open Go.RowKit
section
variable {P : Program} {w : World}

theorem run_eqItems_u8 {e : TypeId} (he : P.plainKey e = true) (hu : P.underlying e = some (.int .u8)) (d : Nat) (a b : List UInt8) : ∀ is : List Nat, (∀ i ∈ is, i < a.length ∧ i < b.length) →
    (Op.eqItems (d + 1) e 1 (u8s a).toArray (u8s b).toArray is).run P w = .ok (is.all fun i => a[i]? == b[i]?) w
  | [], _ => by simp [Op.eqItems]
  | i :: is, h => by
    obtain ⟨ha, hb⟩ := h i (by simp)
    have ga : (u8s a).toArray[i]? = some (.int .u8 ((a[i]).toNat : Int)) := by simp [u8s_get, ha]
    have gb : (u8s b).toArray[i]? = some (.int .u8 ((b[i]).toNat : Int)) := by simp [u8s_get, hb]
    have ih := run_eqItems_u8 he hu d a b is (fun j hj => h j (by simp [hj]))
    simp only [Op.eqItems, Nat.mul_one, Sem.run_bind, run_part_plain w he ga, run_part_plain w he gb, Result.andThen_ok, run_equalIn_int w d e .u8 .u8 _ _ hu]
    by_cases hab : a[i] = b[i]
    · have e1 : (((a[i]).toNat : Int) == ((b[i]).toNat : Int)) = true := by rw [hab]; simp
      rw [e1]
      simp only [Bool.not_true, Bool.false_eq_true, if_false, ih, List.all_cons, List.getElem?_eq_getElem ha, List.getElem?_eq_getElem hb, hab]
      simp
    · have e1 : (((a[i]).toNat : Int) == ((b[i]).toNat : Int)) = false := by
        rw [beq_eq_false_iff_ne]
        intro h
        exact hab (UInt8.toNat_inj.1 (by omega))
      rw [e1]
      have e2 : ((some a[i] : Option UInt8) == some b[i]) = false := by
        rw [beq_eq_false_iff_ne]
        intro h
        injection h with h
        exact hab h
      simp [List.getElem?_eq_getElem ha, List.getElem?_eq_getElem hb, e2]
theorem run_equalIn_u8s {t e : TypeId} {n : Nat} (ht : P.underlying t = some (.array n e)) (he : P.plainKey e = true) (hu : P.underlying e = some (.int .u8)) (hc : P.cellsOf e = 1) (d : Nat) (a b : List UInt8) (ha : a.length = n) (hb : b.length = n) :
    (Op.equalIn (d + 2) t (.agg (u8s a).toArray) (.agg (u8s b).toArray)).run P w = .ok (decide (a = b)) w := by
  obtain ⟨i, hi⟩ : ∃ i, P.info? e = some i := by
    unfold Program.underlying at hu
    cases h : P.info? e with
    | none => simp [h] at hu
    | some i => exact ⟨i, rfl⟩
  rw [run_equalIn_array w (d + 1) _ _ ht hi, hc, run_eqItems_u8 he hu d a b _ (fun j hj => by simp at hj; omega)]
  congr 1
  rw [Bool.eq_iff_iff, List.all_eq_true, decide_eq_true_iff]
  constructor
  · intro h
    apply List.ext_getElem?
    intro j
    by_cases hj : j < n
    · have := h j (by simpa using hj)
      simpa using this
    · rw [List.getElem?_eq_none (by omega), List.getElem?_eq_none (by omega)]
  · intro h j _
    rw [h]; simp

/-- A whole array, loaded in every world to which memory may have grown. -/
theorem load_arr_later {t e : TypeId} {n g : Nat} {x : List Value} (ht : P.underlying t = some (.array n e)) (hs : (P.info? t).map (·.size) = some x.length) (h : Blk w g t x) :
    ∀ W : Later grows w, (Instr.loadAt t (.pointer (some ⟨g, 0, none⟩))).run P W.to = .ok (.agg x.toArray) W.to := by
  intro W
  have hx : Below w.heap.size w W.to := W.grown
  have hb := h.below hx h.lt
  have := run_loadVar_row (P := P) W.to g t t x.toArray (0, 0) _ hb ht rfl (by simpa using hs)
  simp only [Instr.loadAt, Instr.sureAddr, Sem.run_bind, Sem.run_pure, Result.andThen]
  exact this

/-- A whole array loaded. -/
theorem wpList_load_arr {ops : Array Oper} {rest : List Oper} {o : Oper} {a : Act} {Q : Exit → Act → World → Prop} (hgd : o.guard = none) (t : TypeId) (p : Operand) (ho : o.op = .load t p) {g : Nat} (hp : a.eval p = .pointer (some ⟨g, 0, none⟩)) (x : Array Value)
    (hld : (Instr.loadAt t (.pointer (some ⟨g, 0, none⟩))).run P w = .ok (.agg x) w) (h : wpList P ops Q rest (a.put o.dst (.agg x)) w) : wpList P ops Q (o :: rest) a w := by
  refine wpList_run hgd (v := .agg x) (w' := w) ?_ h
  unfold execOp
  simp only [ho, hp, Sem.run_bind, hld, Result.andThen_ok, Sem.run_pure]
theorem wpQuiet_val {ops : Array Oper} {C : World → Prop} {Q : Act → Prop} {rest : List Oper} {o : Oper} {a : Act} {v : Value} (hw : Region.wanted o (yielded ops a.tmps) = true) (hrun : ∀ W, C W → (execOp a.eval o).run P W = .ok (.value v) W)
    (h : wpQuiet P ops C Q rest (a.put o.dst v)) : wpQuiet P ops C Q (o :: rest) a := by
  unfold wpQuiet
  rw [if_pos hw]
  refine ⟨v, fun W hW => ?_, h⟩
  unfold Oper.quietAt
  rw [hrun W hW]
  exact ⟨rfl, rfl⟩
/-- A whole array loaded, in a segment. -/
theorem wpQuiet_load_arr {G : Growth} {ops : Array Oper} {Q : Act → Prop} {rest : List Oper} {o : Oper} {a : Act} (t : TypeId) (p : Operand) (ho : o.op = .load t p) {g : Nat} (hp : a.eval p = .pointer (some ⟨g, 0, none⟩)) (x : Array Value)
    (hld : ∀ W : Later G w, (Instr.loadAt t (.pointer (some ⟨g, 0, none⟩))).run P W.to = .ok (.agg x) W.to) (hw : Region.wanted o (yielded ops a.tmps) = true)
    (h : wpQuiet P ops (fun W => ∃ y : Later G w, W = y.to) Q rest (a.put o.dst (.agg x))) : wpQuiet P ops (fun W => ∃ y : Later G w, W = y.to) Q (o :: rest) a := by
  refine wpQuiet_val hw (fun W hW => ?_) h
  obtain ⟨y, rfl⟩ := hW
  unfold execOp
  simp only [ho, hp, Sem.run_bind, hld y, Result.andThen_ok, Sem.run_pure]
/-- Two arrays compared, in a segment. -/
theorem wpQuiet_eql_arr {C : World → Prop} {ops : Array Oper} {Q : Act → Prop} {rest : List Oper} {o : Oper} {a : Act} (t t2 : TypeId) (p q : Operand) (ho : o.op = .binOp .eql t p q t2) {x y : Array Value} (hp : a.eval p = .agg x) (hq : a.eval q = .agg y) (r : Bool)
    (hg : P.eqGuardType P.depth t = false) (heq : ∀ w, (Op.equalIn 10000 t (.agg x) (.agg y)).run P w = .ok r w) (hw : Region.wanted o (yielded ops a.tmps) = true)
    (h : wpQuiet P ops C Q rest (a.put o.dst (.bool r))) : wpQuiet P ops C Q (o :: rest) a := by
  refine wpQuiet_val hw (fun W _ => ?_) h
  have h1 : (eqGuard .eql t p q (.agg x) (.agg y)).run P W = .ok () W := by
    simp [eqGuard, hg, Sem.run_bind]
  have h2 : (binOp .eql t (.agg x) (.agg y)).run P W = .ok (.bool r) W := by
    have := heq W
    simp [binOp, Op.equal, Op.maxDepth, this, Result.andThen]
  unfold execOp
  simp only [ho, hp, hq, Sem.run_bind, h1, h2, Result.andThen_ok, Sem.run_pure]
/-- One operation, guarded or not, that is wanted and whose run is known. -/
theorem wpList_run_w {ops : Array Oper} {rest : List Oper} {o : Oper} {a : Act} {Q : Exit → Act → World → Prop} (hw : Region.wanted o (yielded ops a.tmps) = true) {v : Value} {w' : World}
    (hrun : (execOp a.eval o).run P w = .ok (.value v) w') (h : wpList P ops Q rest (a.put o.dst v) w') : wpList P ops Q (o :: rest) a w := by
  unfold wpList
  rw [if_pos hw]
  left
  unfold Oper.wp
  rw [hrun]
  exact h
theorem wpList_load_arr_w {ops : Array Oper} {rest : List Oper} {o : Oper} {a : Act} {Q : Exit → Act → World → Prop} (t : TypeId) (p : Operand) (ho : o.op = .load t p) {g : Nat} (hp : a.eval p = .pointer (some ⟨g, 0, none⟩)) (x : Array Value)
    (hld : (loadVar t ⟨g, 0, none⟩).run P w = .ok (.agg x) w) (hw : Region.wanted o (yielded ops a.tmps) = true) (h : wpList P ops Q rest (a.put o.dst (.agg x)) w) : wpList P ops Q (o :: rest) a w := by
  refine wpList_run_w hw (v := .agg x) (w' := w) ?_ h
  unfold execOp
  simp only [ho, hp, Instr.loadAt, Instr.sureAddr, Sem.run_bind, hld, Result.andThen_ok, Sem.run_pure]
theorem wpList_eql_arr_w {ops : Array Oper} {rest : List Oper} {o : Oper} {a : Act} {Q : Exit → Act → World → Prop} (t t2 : TypeId) (p q : Operand) (ho : o.op = .binOp .eql t p q t2) {x y : Array Value} (hp : a.eval p = .agg x) (hq : a.eval q = .agg y) (r : Bool)
    (hg : P.eqGuardType P.depth t = false) (heq : ∀ w, (Op.equalIn 10000 t (.agg x) (.agg y)).run P w = .ok r w) (hw : Region.wanted o (yielded ops a.tmps) = true)
    (h : wpList P ops Q rest (a.put o.dst (.bool r)) w) : wpList P ops Q (o :: rest) a w := by
  refine wpList_run_w hw (v := .bool r) (w' := w) ?_ h
  have h1 : (eqGuard .eql t p q (.agg x) (.agg y)).run P w = .ok () w := by
    simp [eqGuard, hg, Sem.run_bind]
  have h2 : (binOp .eql t (.agg x) (.agg y)).run P w = .ok (.bool r) w := by
    have := heq w
    simp [binOp, Op.equal, Op.maxDepth, this, Result.andThen]
  unfold execOp
  simp only [ho, hp, hq, Sem.run_bind, h1, h2, Result.andThen_ok, Sem.run_pure]
end
end Go.Gar
namespace Go.Gar
open Go.RowKit
/-- All blocks below a bound stay as they were. -/
def belowG (B : Nat) : Growth := ⟨fun w w' => Below B w w', fun w => Below.refl _ w, fun h k => h.trans k⟩
theorem wpList_neq_arr_w {P : Program} {w : World} {ops : Array Oper} {rest : List Oper} {o : Oper} {a : Act} {Q : Exit → Act → World → Prop} (t t2 : TypeId) (p q : Operand) (ho : o.op = .binOp .neq t p q t2) {x y : Array Value} (hp : a.eval p = .agg x) (hq : a.eval q = .agg y) (r : Bool)
    (hg : P.eqGuardType P.depth t = false) (heq : ∀ w, (Op.equalIn 10000 t (.agg x) (.agg y)).run P w = .ok r w) (hw : Region.wanted o (yielded ops a.tmps) = true)
    (h : wpList P ops Q rest (a.put o.dst (.bool (!r))) w) : wpList P ops Q (o :: rest) a w := by
  refine wpList_run_w hw (v := .bool (!r)) (w' := w) ?_ h
  have h1 : (eqGuard .neq t p q (.agg x) (.agg y)).run P w = .ok () w := by
    simp [eqGuard, hg, Sem.run_bind]
  have h2 : (binOp .neq t (.agg x) (.agg y)).run P w = .ok (.bool (!r)) w := by
    have := heq w
    simp [binOp, Op.equal, Op.maxDepth, this, Result.andThen]
  unfold execOp
  simp only [ho, hp, hq, Sem.run_bind, h1, h2, Result.andThen_ok, Sem.run_pure]
section
variable {G : Growth} {P : Program} {Q : Exit → Act → World → Prop} {md : Region.Mode}
def firstOk (md : Region.Mode) (ops : Array Oper) (i : Nat) (listed : Array Bool) : Bool :=
  closedB md ops listed && (Region.ready md ops listed).contains i && Region.free md ops listed i
theorem firstG {L : List Oper} (hs : Region.noSelect L.toArray = true) (hQ : ∀ c (a : Act) (d : Tmp) v w, Q (.panic c) (a.put (some d) v) w → Q (.panic c) a w) (i n : Nat) {N : Nat} {o : Oper} {listed : Array Bool} {a : Act} {w : World} (hN : N = n + 1)
    (hi : L[i]? = some o) (hok : firstOk md L.toArray i listed = true) {v : Value} (hw : Region.wanted o (yielded L.toArray a.tmps) = true) (hrun : ∀ W : Later G w, (execOp a.eval o).run P W.to = .ok (.value v) W.to)
    (h : wpAnyG G P md L.toArray Q n (listed.setIfInBounds i true) (a.put o.dst v) w) : wpAnyG G P md L.toArray Q N listed a w := by
  subst hN
  simp only [firstOk, Bool.and_eq_true] at hok
  obtain ⟨⟨hcl, hr⟩, hf⟩ := hok
  have hi' : L.toArray[i]? = some o := by simpa using hi
  exact wpAnyG_first w hi' (Region.noSelect_spec hs) (fun c a w h => panic_put hQ c a _ _ w h) n listed a w (closed_of hcl) (Region.free_spec hi' hf) (by simpa using hr) (.inl ⟨hw, fun W hW => hrun ⟨W, hW⟩⟩) (G.refl w) h
/-- A slice turned into an array's address, first. -/
theorem firstG_arrayAt {L : List Oper} (t : TypeId) (p : Operand) {x v : Value} {n i : Nat} {N : Nat} {o : Oper} {listed : Array Bool} {a : Act} {w : World} (hs : Region.noSelect L.toArray = true) (hQ : ∀ c (a : Act) (d : Tmp) v w, Q (.panic c) (a.put (some d) v) w → Q (.panic c) a w) (hN : N = n + 1)
    (hi : L[i]? = some o) (hok : firstOk md L.toArray i listed = true) (ho : o.op = .sliceToArrayPointer t p) (hp : a.eval p = x) (hrun : ∀ W, (Instr.arrayAt t x).run P W = .ok v W) (hw : Region.wanted o (yielded L.toArray a.tmps) = true)
    (h : wpAnyG G P md L.toArray Q n (listed.setIfInBounds i true) (a.put o.dst v) w) : wpAnyG G P md L.toArray Q N listed a w := by
  refine firstG hs hQ i n hN hi hok hw (fun W => ?_) h
  unfold execOp
  simp only [ho, hp, Sem.run_bind, hrun, Result.andThen_ok, Sem.run_pure]
/-- An array loaded from the midst of a block, in a segment. -/
theorem wpQuiet_load_at {w : World} {ops : Array Oper} {Q : Act → Prop} {rest : List Oper} {o : Oper} {a : Act} (t : TypeId) (p : Operand) (ho : o.op = .load t p) {g q : Nat} (hp : a.eval p = .pointer (some ⟨g, q, none⟩)) (x : Array Value)
    (hld : ∀ W : Later G w, (loadVar t ⟨g, q, none⟩).run P W.to = .ok (.agg x) W.to) (hw : Region.wanted o (yielded ops a.tmps) = true)
    (h : wpQuiet P ops (fun W => ∃ y : Later G w, W = y.to) Q rest (a.put o.dst (.agg x))) : wpQuiet P ops (fun W => ∃ y : Later G w, W = y.to) Q (o :: rest) a := by
  refine wpQuiet_val hw (fun W hW => ?_) h
  obtain ⟨y, rfl⟩ := hW
  unfold execOp
  simp only [ho, hp, Instr.loadAt, Instr.sureAddr, Sem.run_bind, hld y, Result.andThen_ok, Sem.run_pure]
end
end Go.Gar
namespace Go.Gar
open Go.RowKit

/-- A slice value that the call made (in a block from base on), which reads as the bytes l. -/
def OwnB (w : World) (base : Nat) (e : TypeId) (v : Value) (l : List UInt8) : Prop := w.ownsRow base e 1 v l.length (u8s l)

section
variable {P : Program} {w : World} {base : Nat} {e : TypeId} {v : Value} {k : List UInt8}

theorem OwnB.rd (h : OwnB w base e v k) : ∃ A c, v = .slice A k.length c ∧ Rd w w.heap.size A k := by
  rcases h.2 with ⟨rfl, hn⟩ | ⟨g, cap, cur, rfl, _, hg, _, _, _, htake⟩
  · have : k = [] := List.eq_nil_of_length_eq_zero hn
    subst this
    exact ⟨none, 0, rfl, .inl rfl⟩
  · refine ⟨_, _, rfl, .inr ⟨g, 0, rfl, (Array.getElem?_eq_some_iff.1 hg).1, fun i c hi => ?_⟩⟩
    have hu : (u8s k)[i]? = some (.int .u8 (c.toNat : Int)) := by rw [u8s_get, hi]; rfl
    rw [← htake] at hu
    simp only [List.getElem?_take, Nat.mul_one] at hu
    split at hu
    · simpa [World.cell?, hg] using hu
    · cases hu

theorem OwnB.blk (h : OwnB w base e v k) (hk : 0 < k.length) : ∃ g cap rest, v = .slice (some ⟨g, 0, none⟩) k.length cap ∧ base ≤ g ∧ k.length ≤ cap ∧ Blk w g e (u8s k ++ rest) := by
  rcases h.2 with ⟨_, hn⟩ | ⟨g, cap, cur, rfl, hb, hg, hnc, _, _, htake⟩
  · omega
  · refine ⟨g, cap, cur.toList.drop k.length, rfl, hb, hnc, ?_⟩
    have : u8s k ++ cur.toList.drop k.length = cur.toList := by
      rw [← htake, Nat.mul_one, List.take_append_drop]
    unfold Blk
    rw [this]
    simpa using hg

theorem own_made (w : World) (base : Nat) (e : TypeId) (hb : base ≤ w.heap.size) : OwnB (w.alloc (.cells #[] e)) base e (.slice (some ⟨w.heap.size, 0, none⟩) 0 0) [] :=
  World.ownsRow_made w #[] 0 hb (by simp [maxLen]) (by simp)

theorem OwnB.below {w' : World} (h : OwnB w base e v k) (hg : w.grownBy w' v.ownBlock) (hb : base ≤ w.heap.size) : Below base w w' :=
  (Below.refl base w).grown hg hb (fun j hj => (World.ownsRow.lt h j hj).1)

theorem app_rd (t ty : TypeId) (ht : P.underlying t = some (.slice e)) (hinfo : (P.info? e).map (fun i => (i.zero, i.size, i.bytes)) = some (some (.int .u8 0), 1, 1))
    (hown : OwnB w base e v k) (hbase : base ≤ w.heap.size) {B : Nat} {A : Option Addr} {l : List UInt8} (c : Nat) (hr : Rd w B A l) (hlen : k.length + l.length ≤ 1099511627776) :
    ∃ v' w', (Builtin.append_ #[t, t] ty #[v, .slice A l.length c]).run P w = .ok v' w' ∧ OwnB w' base e v' (k ++ l) ∧ Below base w w' ∧ w.grownBy w' v.ownBlock := by
  obtain ⟨i, hi, hzz⟩ := Option.map_eq_some_iff.1 hinfo
  simp only [Prod.mk.injEq] at hzz
  obtain ⟨hz, hs, hby⟩ := hzz
  cases A with
  | none =>
    have hl : l = [] := by
      rcases hr with hl | ⟨b, o, h, _⟩
      · exact hl
      · cases h
    subst hl
    refine ⟨v, w, ?_, by simpa using hown, Below.refl _ _, World.grownBy.refl _ _⟩
    rcases hown.2 with ⟨rfl, hn⟩ | ⟨g, cap, cur, rfl, _, _, hnc, _⟩
    · simp [Builtin.append_, run_underlying ht, sizeOf, typeInfo, hi, Builtin.lenOf, Builtin.firstCells]
    · simp [Builtin.append_, run_underlying ht, sizeOf, typeInfo, hi, Builtin.lenOf, Builtin.firstCells, hnc, storeCells]
  | some a =>
    obtain ⟨v', w', h1, h2, h3, _⟩ := run_append_own (P := P) w base t ty e i _ 1 1 ht hi hz hs hby rfl (by omega) v k.length (u8s k) hown a l.length c (u8s l) (by simp [u8s_len]) (by
      intro j u hj
      rw [u8s_get] at hj
      rcases hr with rfl | ⟨b, o, hA, _, hc⟩
      · simp at hj
      · injection hA with hA
        subst hA
        cases hq : l[j]? with
        | none => simp [hq] at hj
        | some c =>
          rw [hq] at hj
          simp at hj
          subst hj
          have : (⟨b, o, none⟩ : Addr).add j = ⟨b, o + j, none⟩ := Addr.add_lit _ _ _
          rw [this]
          exact hc j c hq) (u8s_one l) (by simp only [maxLen]; omega) (by omega) hbase
    refine ⟨v', w', h1, ?_, hown.below h3 hbase, h3⟩
    unfold OwnB
    rw [List.length_append, u8s_app]
    exact h2

theorem OwnB.alloc (h : OwnB w base e v k) (o : Obj) : OwnB (w.alloc o) base e v k := by
  refine ⟨h.1, ?_⟩
  rcases h.2 with hn | ⟨g, cap, cur, hv, hb, hg, rest⟩
  · exact .inl hn
  · exact .inr ⟨g, cap, cur, hv, hb, (Below.heap_alloc w o g (Array.getElem?_eq_some_iff.1 hg).1).trans hg, rest⟩
theorem OwnB.keep {w' : World} (h : OwnB w base e v k) (hk : ∀ g, v.ownBlock = some g → w'.heap[g]? = w.heap[g]?) : OwnB w' base e v k := by
  refine ⟨h.1, ?_⟩
  rcases h.2 with hn | ⟨g, cap, cur, hv, hb, hg, rest⟩
  · exact .inl hn
  · exact .inr ⟨g, cap, cur, hv, hb, (hk g (by rw [hv]; rfl)).trans hg, rest⟩

/-- append of one byte, as the walk meets it: the byte lies in a row of its own, just made. -/
theorem app_one (t ty : TypeId) (ht : P.underlying t = some (.slice e)) (hinfo : (P.info? e).map (fun i => (i.zero, i.size, i.bytes)) = some (some (.int .u8 0), 1, 1))
    (hown : OwnB w base e v k) (hbase : base ≤ w.heap.size) (c : UInt8) (n : Int) (hn : n = (c.toNat : Int)) (hlen : k.length + 1 ≤ 1099511627776) :
    ∃ v' w', (Builtin.append_ #[t, t] ty #[v, .slice (some ⟨w.heap.size, 0, none⟩) 1 1]).run P (w.alloc (.cells #[.int .u8 n] e)) = .ok v' w' ∧ OwnB w' base e v' (k ++ [c]) ∧ Below base w w' := by
  subst hn
  have hb1 : Blk (w.alloc (.cells #[.int .u8 (c.toNat : Int)] e)) w.heap.size e (u8s [c]) := heap_alloc_new w _
  obtain ⟨v', w', h1, h2, h3, _⟩ := app_rd (P := P) t ty ht hinfo (hown.alloc _) (by rw [World.size_alloc]; omega) 1 (Rd.of_all hb1) (l := [c]) (by simpa using hlen)
  exact ⟨v', w', h1, h2, ((Below.refl base w).alloc hbase _).trans h3⟩

theorem app_str (t u ty : TypeId) (ht : P.underlying t = some (.slice e)) (hu : P.underlying u = some .string) (hinfo : (P.info? e).map (fun i => (i.zero, i.size, i.bytes)) = some (some (.int .u8 0), 1, 1))
    (hown : OwnB w base e v k) (hbase : base ≤ w.heap.size) (s : ByteArray) (hlen : k.length + s.size ≤ 1099511627776) :
    ∃ v' w', (Builtin.append_ #[t, u] ty #[v, .string s]).run P w = .ok v' w' ∧ OwnB w' base e v' (k ++ s.data.toList) ∧ Below base w w' ∧ w.grownBy w' v.ownBlock := by
  obtain ⟨i, hi, hzz⟩ := Option.map_eq_some_iff.1 hinfo
  simp only [Prod.mk.injEq] at hzz
  obtain ⟨hz, hs, hby⟩ := hzz
  obtain ⟨v', w', h1, h2, h3, _⟩ := Lib.run_append_own_string (P := P) w base t u ty e i ht hu hi hz hs hby v k.length (u8s k) hown s (by simp only [maxLen]; omega) (by omega) hbase
  refine ⟨v', w', h1, ?_, hown.below h3 hbase, h3⟩
  unfold OwnB
  have : s.data.toList.length = s.size := Array.length_toList
  rw [List.length_append, this, u8s_app]
  exact h2
end
end Go.Gar
namespace Go.Gar
open Go.RowKit

/-- A slice value that the call made (in a block from base on), which holds the values vs. -/
def OwnV (w : World) (base : Nat) (e : TypeId) (v : Value) (vs : List Value) : Prop := w.ownsRow base e 1 v vs.length vs
/-- The cells from A on hold vs; all lie below B. -/
def RdV (w : World) (B : Nat) (A : Option Addr) (vs : List Value) : Prop := vs = [] ∨ ∃ b o, A = some ⟨b, o, none⟩ ∧ b < B ∧ ∀ i u, vs[i]? = some u → w.cell? ⟨b, o + i, none⟩ = some u

section
variable {P : Program} {w w' : World} {base B : Nat} {e : TypeId} {v : Value} {vs : List Value} {A : Option Addr}

theorem RdV.keep (h : RdV w B A vs) (hk : ∀ k, k < B → w'.heap[k]? = w.heap[k]?) : RdV w' B A vs := by
  rcases h with h | ⟨b, o, hA, hb, hc⟩
  · exact .inl h
  · refine .inr ⟨b, o, hA, hb, fun i u hu => ?_⟩
    rw [← hc i u hu]
    simp only [World.cell?, hk b hb]
theorem RdV.below (h : RdV w B A vs) (hb : Below B w w') : RdV w' B A vs := h.keep hb.block
theorem RdV.more {B' : Nat} (h : RdV w B A vs) (hB : B ≤ B') : RdV w B' A vs := by
  rcases h with h | ⟨b, o, hA, hb, hc⟩
  · exact .inl h
  · exact .inr ⟨b, o, hA, by omega, hc⟩
theorem RdV.of_blk {g : Nat} {t : TypeId} {rest : List Value} (h : Blk w g t (vs ++ rest)) (hB : g < B) : RdV w B (some ⟨g, 0, none⟩) vs :=
  .inr ⟨g, 0, rfl, hB, fun i u hu => by
    rw [Nat.zero_add, h.cell, List.getElem?_append_left (List.getElem?_eq_some_iff.1 hu).1, hu]⟩

theorem OwnV.blk (h : OwnV w base e v vs) (hk : 0 < vs.length) : ∃ g cap rest, v = .slice (some ⟨g, 0, none⟩) vs.length cap ∧ base ≤ g ∧ vs.length ≤ cap ∧ Blk w g e (vs ++ rest) := by
  rcases h.2 with ⟨_, hn⟩ | ⟨g, cap, cur, rfl, hb, hg, hnc, _, _, htake⟩
  · omega
  · refine ⟨g, cap, cur.toList.drop vs.length, rfl, hb, hnc, ?_⟩
    have : vs ++ cur.toList.drop vs.length = cur.toList := by
      conv => lhs; arg 1; rw [← htake, Nat.mul_one]
      rw [List.take_append_drop]
    unfold Blk
    rw [this]
    simpa using hg
theorem OwnV.slice (h : OwnV w base e v vs) : ∃ A c, v = .slice A vs.length c ∧ vs.length ≤ c := by
  rcases h.2 with ⟨rfl, hn⟩ | ⟨g, cap, cur, rfl, _, _, hnc, _⟩
  · exact ⟨none, 0, by rw [hn], by omega⟩
  · exact ⟨_, _, rfl, hnc⟩
theorem OwnV.rd (h : OwnV w base e v vs) : ∃ A c, v = .slice A vs.length c ∧ RdV w w.heap.size A vs := by
  by_cases hk : 0 < vs.length
  · obtain ⟨g, cap, rest, hv, _, _, hb⟩ := h.blk hk
    exact ⟨_, _, hv, .of_blk hb hb.lt⟩
  · obtain ⟨A, c, hv, _⟩ := h.slice
    exact ⟨A, c, hv, .inl (List.eq_nil_of_length_eq_zero (by omega))⟩
theorem ownV_made (w : World) (base : Nat) (e : TypeId) (hb : base ≤ w.heap.size) : OwnV (w.alloc (.cells #[] e)) base e (.slice (some ⟨w.heap.size, 0, none⟩) 0 0) [] :=
  World.ownsRow_made w #[] 0 hb (by simp [maxLen]) (by simp)
theorem OwnV.alloc (h : OwnV w base e v vs) (o : Obj) : OwnV (w.alloc o) base e v vs := by
  refine ⟨h.1, ?_⟩
  rcases h.2 with hn | ⟨g, cap, cur, hv, hb, hg, rest⟩
  · exact .inl hn
  · exact .inr ⟨g, cap, cur, hv, hb, (Below.heap_alloc w o g (Array.getElem?_eq_some_iff.1 hg).1).trans hg, rest⟩
theorem OwnV.keep (h : OwnV w base e v vs) (hk : ∀ g, v.ownBlock = some g → w'.heap[g]? = w.heap[g]?) : OwnV w' base e v vs := by
  refine ⟨h.1, ?_⟩
  rcases h.2 with hn | ⟨g, cap, cur, hv, hb, hg, rest⟩
  · exact .inl hn
  · exact .inr ⟨g, cap, cur, hv, hb, (hk g (by rw [hv]; rfl)).trans hg, rest⟩
theorem OwnV.lt (h : OwnV w base e v vs) {g : Nat} (hg : v.ownBlock = some g) : base ≤ g ∧ g < w.heap.size := World.ownsRow.lt h g hg
theorem OwnV.below (h : OwnV w base e v vs) (hb : Below w.heap.size w w') : OwnV w' base e v vs := h.keep fun g hg => hb.block g (h.lt hg).2

theorem grown_two {a b c : World} {row : Option Nat} (h : a.grownBy b row) (k : b.grownBy c row) : a.grownBy c row :=
  ⟨k.os.trans h.os, k.tape.trans h.tape, k.output.trans h.output, Nat.le_trans h.size k.size, fun j hj hr => (k.block j (Nat.lt_of_lt_of_le hj h.size) hr).trans (h.block j hj hr)⟩
theorem appV {z : Value} {by_ : Nat} (t ty : TypeId) (ht : P.underlying t = some (.slice e)) (hinfo : (P.info? e).map (fun i => (i.zero, i.size, i.bytes)) = some (some z, 1, by_)) (hz : z.cells.size = 1)
    (hown : OwnV w base e v vs) (hbase : base ≤ w.heap.size) (a : Addr) (c m : Nat) (xs : List Value) (hone : ∀ u ∈ xs, u.oneCell' = true) (hm : m = xs.length)
    (hx : ∀ j u, xs[j]? = some u → w.cell? (a.add j) = some u) (hlen : vs.length + xs.length ≤ 1099511627776) (hby : by_ ≤ 32) :
    ∃ v' w', (Builtin.append_ #[t, t] ty #[v, .slice (some a) m c]).run P w = .ok v' w' ∧ OwnV w' base e v' (vs ++ xs) ∧ Below base w w' ∧ w.grownBy w' v.ownBlock := by
  obtain ⟨i, hi, hzz⟩ := Option.map_eq_some_iff.1 hinfo
  simp only [Prod.mk.injEq] at hzz
  obtain ⟨hz0, hs, hb⟩ := hzz
  have hmul : (vs.length + m) * by_ ≤ (vs.length + m) * 32 := Nat.mul_le_mul_left _ hby
  obtain ⟨v', w', h1, h2, h3, _⟩ := run_append_own (P := P) w base t ty e i _ 1 by_ ht hi hz0 hs hb hz (by omega) v vs.length vs hown a m c xs (by omega) hx hone (by simp only [maxLen]; omega) (by omega) hbase
  refine ⟨v', w', h1, ?_, (Below.refl base w).grown h3 hbase (fun j hj => (World.ownsRow.lt hown j hj).1), h3⟩
  unfold OwnV
  rw [List.length_append, ← hm]
  exact h2
/-- append of one value, as the walk meets it: it lies in a row of its own, just made. -/
theorem appV_one {z : Value} {by_ : Nat} (t ty : TypeId) (ht : P.underlying t = some (.slice e)) (hinfo : (P.info? e).map (fun i => (i.zero, i.size, i.bytes)) = some (some z, 1, by_)) (hz : z.cells.size = 1)
    (hown : OwnV w base e v vs) (hbase : base ≤ w.heap.size) (u : Value) (hu : u.oneCell' = true) (hlen : vs.length + 1 ≤ 1099511627776) (hby : by_ ≤ 32) :
    ∃ v' w', (Builtin.append_ #[t, t] ty #[v, .slice (some ⟨w.heap.size, 0, none⟩) 1 1]).run P (w.alloc (.cells #[u] e)) = .ok v' w' ∧ OwnV w' base e v' (vs ++ [u]) ∧ Below base w w' ∧ w.grownBy w' v.ownBlock ∧ (w.alloc (.cells #[u] e)).grownBy w' v.ownBlock := by
  have hb1 : Blk (w.alloc (.cells #[u] e)) w.heap.size e [u] := heap_alloc_new w _
  obtain ⟨v', w', h1, h2, h3, h4⟩ := appV (P := P) t ty ht hinfo hz (hown.alloc (.cells #[u] e)) (by rw [World.size_alloc]; omega) ⟨w.heap.size, 0, none⟩ 1 1 [u] (by simpa using hu) rfl (by
    intro j x hx
    have hj : j = 0 := by
      have := (List.getElem?_eq_some_iff.1 hx).1
      simp at this
      exact this
    subst hj
    simp at hx
    subst hx
    exact hb1.cell 0) (by simpa using hlen) hby
  exact ⟨v', w', h1, h2, ((Below.refl base w).alloc hbase _).trans h3, grown_two (World.grownBy_alloc w _ _) h4, h4⟩
end

/-- Numbers as 32-bit values; as ints. -/
def u32s (l : List Nat) : List Value := l.map fun n : Nat => Value.int .u32 (n : Int)
def i64s (l : List Nat) : List Value := l.map fun n : Nat => Value.int .i64 (n : Int)
theorem u32s_len (l : List Nat) : (u32s l).length = l.length := by simp [u32s]
theorem i64s_len (l : List Nat) : (i64s l).length = l.length := by simp [i64s]
theorem u32s_get (l : List Nat) (i : Nat) (h : i < l.length) : (u32s l)[i]? = some (.int .u32 ((l.getD i 0 : Nat) : Int)) := by
  simp [u32s, h]
theorem i64s_get (l : List Nat) (i : Nat) (h : i < l.length) : (i64s l)[i]? = some (.int .i64 ((l.getD i 0 : Nat) : Int)) := by
  simp [i64s, h]
theorem u32s_app (l k : List Nat) : u32s (l ++ k) = u32s l ++ u32s k := by simp [u32s]
theorem i64s_app (l k : List Nat) : i64s (l ++ k) = i64s l ++ i64s k := by simp [i64s]
theorem u32s_set (l : List Nat) (i n : Nat) : (u32s l).set i (.int .u32 (n : Int)) = u32s (l.set i n) := by simp [u32s, List.map_set]
theorem u32s_one (l : List Nat) : ∀ u ∈ u32s l, u.oneCell' = true := by
  intro u hu
  obtain ⟨n, _, rfl⟩ := List.mem_map.1 hu
  rfl
end Go.Gar
namespace Go.Proofs.Ytampdfmakhdliaa
open Go.RowKit Go.Gar

theorem slice_from (g o n c k : Nat) (h : k ≤ n) (h3 : k < c) (W : World) :
    (Instr.sliceAt 40 (.slice (some ⟨g, o, none⟩) n c) (some (.int .i64 (k : Int))) none none).run Try.prog W = .ok (.slice (some ⟨g, o + k, none⟩) (n - k) (c - k)) W := by
  obtain ⟨i, hi, hs⟩ := Option.map_eq_some_iff.1 Try.size5
  have h1 : (k : Int) ≤ (n : Int) := by omega
  have h5 : ¬ c = k := by omega
  simp [Instr.sliceAt, Instr.sliceBounds, Instr.sureAddr, run_underlying Try.und22 W, sizeOf, typeInfo, hi, hs, go_sem, h1, h5, Addr.add_lit]
theorem slice_upto (g o n c k : Nat) (h2 : k ≤ c) (W : World) :
    (Instr.sliceAt 40 (.slice (some ⟨g, o, none⟩) n c) none (some (.int .i64 (k : Int))) none).run Try.prog W = .ok (.slice (some ⟨g, o, none⟩) k c) W := by
  obtain ⟨i, hi, hs⟩ := Option.map_eq_some_iff.1 Try.size5
  have h4 : (k : Int) ≤ (c : Int) := by omega
  simp [Instr.sliceAt, Instr.sliceBounds, Instr.sureAddr, run_underlying Try.und22 W, sizeOf, typeInfo, hi, hs, go_sem, h4]

end Go.Proofs.Ytampdfmakhdliaa
namespace Go.Proofs.Ytampdfmakhdliaa
open Go.RowKit Go.Gar

theorem string_belowG {B : Nat} {w : World} {A : Option Addr} {k : List UInt8} (h : Rd w B A k) (n cap : Nat) (hn : n = k.length) (S : ByteArray) (hS : S = ⟨k.toArray⟩) :
    ∀ x : Later (belowG B) w, (convert 40 9 (.slice A n cap)).run Try.prog x.to = .ok (.string S) x.to := fun x => by
  subst hn; subst hS
  exact run_string_rd (P := Try.prog) 40 9 5 Try.und22 Try.und5 Try.und9 _ _ _ cap (h.below (show Below B w x.to from x.grown))
theorem string_now {w : World} {A : Option Addr} {k : List UInt8} {B : Nat} (h : Rd w B A k) (n cap : Nat) (hn : n = k.length) (S : ByteArray) (hS : S = ⟨k.toArray⟩) :
    (convert 40 9 (.slice A n cap)).run Try.prog w = .ok (.string S) w := by
  subst hn; subst hS
  exact run_string_rd (P := Try.prog) 40 9 5 Try.und22 Try.und5 Try.und9 _ _ _ cap h

/-- append in a guarded statement: its run known. -/
theorem wpList_append_w {w : World} {ops : Array Oper} {rest : List Oper} {o : Oper} {a : Act} {Q : Exit → Act → World → Prop} (s x : Operand) (ts : Array TypeId)
    (ho : o.op = .call { callee := .builtin .append, args := #[s, x], argTypes := ts }) {vs vx v : Value} {w' : World} (hs : a.eval s = vs) (hx : a.eval x = vx)
    (hrun : (Builtin.append_ ts o.type #[vs, vx]).run Try.prog w = .ok v w') (hw : Region.wanted o (yielded ops a.tmps) = true) (h : wpList Try.prog ops Q rest (a.put o.dst v) w') : wpList Try.prog ops Q (o :: rest) a w := by
  refine wpList_run_w hw (v := v) (w' := w') ?_ h
  unfold execOp
  simp only [ho, resolve, invoke, builtin, Sem.run_bind, Sem.run_pure, Result.andThen_ok, List.map_toArray, List.map_cons, List.map_nil, hs, hx, hrun]
end Go.Proofs.Ytampdfmakhdliaa
namespace Go.Proofs.Ytampdfmakhdliaa
open Go.RowKit Go.Gar
open Go.Gar.Dsk (Dsk Sec)

theorem Only.set {F : Nat → Prop} {w : World} {p : Addr} (hp : F p.block) (u : Value) : Only F w (w.setCell p u) :=
  ⟨rfl, rfl, rfl, by simp [World.setCell], fun k _ hn => Below.heap_setCell w p u k (fun e => hn (e ▸ hp))⟩
/-- Is the sector there? In the three ways of a walk. -/
theorem there_cases (d : Dsk) (i : Int) : (i < 0 ∧ Dsk.there d i = false) ∨ (0 ≤ i ∧ (d.secs.length : Int) ≤ i ∧ Dsk.there d i = false) ∨ ∃ k : Nat, i = (k : Int) ∧ k < d.secs.length ∧ Dsk.there d i = true := by
  unfold Dsk.there
  by_cases h0 : i < 0
  · left; simp; omega
  · by_cases h1 : (d.secs.length : Int) ≤ i
    · right; left; simp; omega
    · right; right
      exact ⟨i.toNat, by omega, by omega, by simp; omega⟩
end Go.Proofs.Ytampdfmakhdliaa
namespace Go.Gar
open Go.RowKit

/-- Two parts of n cells each fill a value of 2 n cells. -/
theorem fill_two (place : Nat → Option (Nat × Nat)) (z X Y : Array Value) (n : Nat) (h0 : place 0 = some (0, n)) (h1 : place 1 = some (n, n)) (hX : X.size = n) (hY : Y.size = n) (hz : z.size = 2 * n) :
    Instr.fill place z [(0, .agg X), (1, .agg Y)] = some (X ++ Y) := by
  obtain ⟨a1, a2⟩ := Great.foldl_set 0 X.toList 0 z
  obtain ⟨b1, b2⟩ := Great.foldl_set n Y.toList 0 ((X.toList.zipIdx 0).foldl (fun cs (x : Value × Nat) => cs.setIfInBounds (0 + x.2) x.1) z)
  unfold Instr.fill
  simp only [h0]
  have c1 : (Value.agg X).cells = X := rfl
  have c2 : (Value.agg Y).cells = Y := rfl
  rw [c1, if_neg (by simp; omega)]
  unfold Instr.fill
  simp only [h1]
  have e1 : (X.zipIdx.foldl (fun cs (x : Value × Nat) => cs.setIfInBounds (0 + x.2) x.1) z) = (X.toList.zipIdx 0).foldl (fun cs (x : Value × Nat) => cs.setIfInBounds (0 + x.2) x.1) z := by
    rw [← Array.foldl_toList, Array.toList_zipIdx]
  rw [c2, e1, if_neg (by rw [a1]; simp; omega)]
  unfold Instr.fill
  rw [← Array.foldl_toList, Array.toList_zipIdx]
  congr 1
  apply Array.ext_getElem?
  intro k
  rw [b2, a1, a2, Array.length_toList, Array.length_toList, hX, hY, hz]
  by_cases hk : k < n
  · rw [if_neg (by omega), if_pos (by omega), Array.getElem?_append_left (by omega)]
    simp
  · by_cases hk2 : k < 2 * n
    · rw [if_pos (by omega), Array.getElem?_append_right (by omega), hX]
      simp
    · rw [if_neg (by omega), if_neg (by omega), Array.getElem?_eq_none (by omega), Array.getElem?_eq_none (by rw [Array.size_append]; omega)]
/-- build, its cells known. -/
theorem wpList_build_w {P : Program} {w : World} {ops : Array Oper} {rest : List Oper} {o : Oper} {a : Act} {Q : Exit → Act → World → Prop} (t : TypeId) (parts : Array (Nat × Operand)) (ho : o.op = .build t parts) {vs : List (Nat × Value)} (hp : (parts.map fun (i, x) => (i, a.eval x)).toList = vs)
    {x : Array Value} (hb : P.built t vs = some x) (hw : Region.wanted o (yielded ops a.tmps) = true) (h : wpList P ops Q rest (a.put o.dst (.agg x)) w) : wpList P ops Q (o :: rest) a w := by
  refine wpList_run_w hw (v := .agg x) (w' := w) ?_ h
  unfold execOp
  subst hp
  simp only [ho, Sem.run_bind, run_build w t _ _ hb, Result.andThen_ok, Sem.run_pure]
/-- build in a segment. -/
theorem wpQuiet_build {P : Program} {C : World → Prop} {ops : Array Oper} {Q : Act → Prop} {rest : List Oper} {o : Oper} {a : Act} (t : TypeId) (parts : Array (Nat × Operand)) (ho : o.op = .build t parts) {vs : List (Nat × Value)} (hp : (parts.map fun (i, x) => (i, a.eval x)).toList = vs)
    {x : Array Value} (hb : P.built t vs = some x) (hw : Region.wanted o (yielded ops a.tmps) = true) (h : wpQuiet P ops C Q rest (a.put o.dst (.agg x))) : wpQuiet P ops C Q (o :: rest) a := by
  refine wpQuiet_val hw (fun W _ => ?_) h
  unfold execOp
  subst hp
  simp only [ho, Sem.run_bind, run_build W t _ _ hb, Result.andThen_ok, Sem.run_pure]
end Go.Gar
namespace Go.Gar
open Go.RowKit
section
variable {P : Program} {w : World}

/-- A row with a part of it laid anew. -/
def seg (old : List Value) (o : Nat) (new : List Value) : List Value := old.take o ++ new ++ old.drop (o + new.length)
theorem seg_len (old new : List Value) (o : Nat) (h : o + new.length ≤ old.length) : (seg old o new).length = old.length := by
  simp [seg]; omega

/-- An argument of an array's type that is addressed: a new block of its cells. -/
theorem wpList_box_arr {ops : Array Oper} {rest : List Oper} {o : Oper} {a : Act} {Q : Exit → Act → World → Prop} (hgd : o.guard = none) (t : TypeId) (x : Operand) (cs : Array Value)
    (ho : o.op = .box t x) (hx : a.eval x = .agg cs)
    (h : wpList P ops Q rest (a.put o.dst (.pointer (some ⟨w.heap.size, 0, none⟩))) (w.alloc (.cells cs t))) : wpList P ops Q (o :: rest) a w := by
  refine wpList_run hgd (v := .pointer (some ⟨w.heap.size, 0, none⟩)) (w' := w.alloc (.cells cs t)) ?_ h
  unfold execOp
  simp [ho, hx, Instr.box, newVar, newRow, Result.andThen, Value.cells]

theorem run_storeVar_seg {t ty : TypeId} (g o : Nat) (old new : List Value) (hb : Blk w g t old) (hi : (P.info? ty).map (·.size) = some new.length) (hl : o + new.length ≤ old.length) (h1 : ∀ u ∈ new, u.oneCell' = true) :
    (storeVar ty ⟨g, o, none⟩ (.agg new.toArray)).run P w = .ok () (w.setRow g (seg old o new).toArray) := by
  have := run_storeCells_at (P := P) g o t new 0 old.toArray w hb (by simpa using hl) h1
  cases hq : P.info? ty with
  | none => simp [hq] at hi
  | some i =>
    have hs : new.length = i.size := by simp [hq] at hi; omega
    simp only [Nat.add_zero] at this
    simp [storeVar, sizeOf, typeInfo, hq, Value.cells, hs, this, seg]

/-- A whole array into a part of a block that is known whole. -/
theorem wpList_store_seg {ops : Array Oper} {rest : List Oper} {op : Oper} {a : Act} {Q : Exit → Act → World → Prop} (hgd : op.guard = none) (t ty : TypeId) (p x : Operand) (g o : Nat) (old new : List Value)
    (hd : op.dst = none) (ho : op.op = .store ty p x) (hp : a.eval p = .pointer (some ⟨g, o, none⟩)) (hx : a.eval x = .agg new.toArray) (hb : Blk w g t old) (hi : (P.info? ty).map (·.size) = some new.length) (hl : o + new.length ≤ old.length) (h1 : ∀ u ∈ new, u.oneCell' = true)
    (h : wpList P ops Q rest a (w.setRow g (seg old o new).toArray)) : wpList P ops Q (op :: rest) a w := by
  refine wpList_plain hgd fun K hK => ?_
  unfold Oper.wp
  have hr := run_storeVar_seg (P := P) (w := w) (t := t) (ty := ty) g o old new hb hi hl h1
  have : (execOp a.eval op).run P w = .ok .skip (w.setRow g (seg old o new).toArray) := by
    unfold execOp
    simp [ho, Instr.storeAt, Instr.sureAddr, hp, hx, hr, Result.andThen]
  rw [this]
  exact hK _ _ (by rw [hd]; exact h)

/-- A part of a block, loaded as an array. -/
theorem run_loadVar_seg {t ty : TypeId} {d : TypeDesc} (g o : Nat) (old cs : List Value) (hb : Blk w g t old) (hc : ∀ j v, cs[j]? = some v → old[o + j]? = some v) (hu : P.underlying ty = some d) (hd : d.isRow = true) (hi : (P.info? ty).map (·.size) = some cs.length) :
    (loadVar ty ⟨g, o, none⟩).run P w = .ok (.agg cs.toArray) w :=
  run_loadVar_mid w g o ty cs d (fun j v hv => by rw [hb.cell]; exact hc j v hv) hu hd hi

theorem wpList_load_at {ops : Array Oper} {rest : List Oper} {o : Oper} {a : Act} {Q : Exit → Act → World → Prop} (t : TypeId) (p : Operand) (ho : o.op = .load t p) {g q : Nat} (hp : a.eval p = .pointer (some ⟨g, q, none⟩)) (x : Array Value)
    (hld : (loadVar t ⟨g, q, none⟩).run P w = .ok (.agg x) w) (hw : Region.wanted o (yielded ops a.tmps) = true) (h : wpList P ops Q rest (a.put o.dst (.agg x)) w) : wpList P ops Q (o :: rest) a w := by
  refine wpList_run_w hw (v := .agg x) (w' := w) ?_ h
  unfold execOp
  simp only [ho, hp, Instr.loadAt, Instr.sureAddr, Sem.run_bind, hld, Result.andThen_ok, Sem.run_pure]

theorem run_index_u8 {t e : TypeId} {n : Nat} (ht : P.underlying t = some (.array n e)) (he : P.underlying e = some (.int .u8)) (hs : (P.info? e).map (·.size) = some 1) (F : List UInt8) (j : Nat) (hj : j < n) (c : UInt8) (hc : F[j]? = some c) :
    (Instr.index t (.agg (u8s F).toArray) (.int .i64 (j : Int))).run P w = .ok (.int .u8 (c.toNat : Int)) w := by
  have hagg : (isAgg e).run P w = .ok false w := by
    unfold isAgg
    rw [Sem.run_bind, run_underlying he w]
    rfl
  cases hq : P.info? e with
  | none => simp [hq] at hs
  | some i =>
    have h1 : i.size = 1 := by simpa [hq] using hs
    have hg : (u8s F)[j]? = some (.int .u8 (c.toNat : Int)) := by rw [u8s_get, hc]; rfl
    have hlt : (0 : Int) ≤ (j : Int) ∧ (j : Int) < (n : Int) := by omega
    simp [Instr.index, asIntOf, Sem.run_bind, run_underlying ht w, hlt, sizeOf, typeInfo, hq, h1, part, hagg, hg, Result.andThen]
    omega
theorem wpList_index_u8 {ops : Array Oper} {rest : List Oper} {o : Oper} {a : Act} {Q : Exit → Act → World → Prop} (t : TypeId) (p q : Operand) (ho : o.op = .index t p q) {x : Array Value} {i v : Value} (hp : a.eval p = .agg x) (hq : a.eval q = i)
    (hrun : (Instr.index t (.agg x) i).run P w = .ok v w) (hw : Region.wanted o (yielded ops a.tmps) = true) (h : wpList P ops Q rest (a.put o.dst v) w) : wpList P ops Q (o :: rest) a w := by
  refine wpList_run_w hw (v := v) (w' := w) ?_ h
  unfold execOp
  simp only [ho, hp, hq, Sem.run_bind, hrun, Result.andThen_ok, Sem.run_pure]
end
end Go.Gar
