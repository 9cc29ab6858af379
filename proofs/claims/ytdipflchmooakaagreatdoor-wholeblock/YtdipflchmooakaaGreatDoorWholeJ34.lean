/-
  The landed lz: what is done to its window: a position comes in, the earliest goes. An array of three bytes out of a slice. Of no program but lz. Operations on maps whose runs are known, at the list level. Of no program. The landed lz: leave: its contract. The landed lz: slide: its contract.
-/
import Derived.Test.YtdipflchmooakaaGreatDoorWholeJ33
import Derived.Test.YtdipflchmooakaaGreatDoorWholeJ23
import Derived.Test.YtdipflchmooakaaGreatDoorWholeJ01
import Derived.Test.YtdipflchmooakaaGreatDoorWholeJ02
import Derived.Test.YtdipflchmooakaaGreatDoorWholeJ31
import Derived.Test.YtdipflchmooakaaGreatDoorWholeJ24
set_option maxRecDepth 100000
namespace Go.Proofs.YtdipflchmooakaaGreatDoor
open Go.RowKit Go.Gar

/-- The blocks that the window's calls may turn. -/
def FI (base gm : Nat) (w : World) (g : Nat) : Prop := base ≤ g ∧ (g = gm ∨ ∃ cs, Blk w g 3 cs)
structure Win (w : World) (base gm n : Nat) (f : List UInt8 → Value) (ps : List UInt8 → List Nat) : Prop where
  map : MapK w gm n f
  gmb : base ≤ gm
  rows : ∀ s, s.length = 3 → OwnI w base (f s) (ps s)
  apart : ∀ s s' g, s.length = 3 → s'.length = 3 → blkV (f s) = some g → blkV (f s') = some g → s = s'
section
variable {w w' : World} {base gm n : Nat} {f : List UInt8 → Value} {ps : List UInt8 → List Nat}
theorem MapK.not_blk (h : MapK w gm n f) {g : Nat} {t : TypeId} {cs : List Value} (hB : Blk w g t cs) : g ≠ gm := by
  rintro rfl
  obtain ⟨es, clock, h1⟩ := h.obj
  unfold Blk at hB
  rw [hB] at h1
  cases h1
theorem Win.made (w : World) (base : Nat) (hb : base ≤ w.heap.size) : Win (w.alloc (.map #[] 0)) base w.heap.size 0 (fun _ => noInts) (fun _ => []) :=
  ⟨mapK_made w, hb, fun _ _ => OwnI.nil _ _, fun _ _ _ _ _ h => by cases h⟩
theorem Win.keep (h : Win w base gm n f ps) (hgm : w'.heap[gm]? = w.heap[gm]?) (hr : ∀ g cs, Blk w g 3 cs → w'.heap[g]? = w.heap[g]?) : Win w' base gm n f ps :=
  ⟨h.map.block hgm, h.gmb, fun s hs => (h.rows s hs).keep fun g hg => by
    obtain ⟨_, cs, hB⟩ := (h.rows s hs).typed hg
    exact hr g cs hB, h.apart⟩
theorem Win.below (h : Win w base gm n f ps) (hb : Below w.heap.size w w') : Win w' base gm n f ps :=
  h.keep (hb.block _ h.map.lt) fun g _ hB => hb.block g hB.lt
theorem Win.only {F : Nat → Prop} (h : Win w base gm n f ps) (ho : Only F w w') (hF : ∀ g, F g → ∃ t cs, Blk w g t cs ∧ t ≠ 3) : Win w' base gm n f ps :=
  h.keep (ho.block _ h.map.lt fun hf => by obtain ⟨t, cs, hB, _⟩ := hF _ hf; exact h.map.not_blk hB rfl)
    fun g _ hB => ho.block g hB.lt fun hf => by obtain ⟨t, _, hB', hne⟩ := hF _ hf; exact hB'.ne hB hne rfl
theorem Win.put (h : Win w base gm n f ps) {s : List UInt8} {v : Value} {zs : List Nat} {n' : Nat} (hm : MapK w' gm n' (upd f s v)) (hg : w.grownBy w' (some gm)) (hv : OwnI w base v zs) (hfr : ∀ g, blkV v = some g → blkV (f s) = some g) (hs : s.length = 3) :
    Win w' base gm n' (upd f s v) (upd ps s zs) ∧ Only (FI base gm w) w w' := by
  have hk : ∀ g cs, Blk w g 3 cs → w'.heap[g]? = w.heap[g]? := fun g cs hB => hg.block g hB.lt (fun e => h.map.not_blk hB (Option.some.inj e))
  refine ⟨⟨hm, h.gmb, fun s' hs' => ?_, fun s1 s2 g h1 h2 e1 e2 => ?_⟩, .of_grown hg (fun i e => by obtain rfl := Option.some.inj e; exact ⟨h.gmb, .inl rfl⟩)⟩
  · by_cases e : s' = s
    · subst e
      rw [upd_same, upd_same]
      exact hv.keep fun g hg' => by obtain ⟨_, cs, hB⟩ := hv.typed hg'; exact hk g cs hB
    · rw [upd_other _ _ e, upd_other _ _ e]
      exact (h.rows s' hs').keep fun g hg' => by obtain ⟨_, cs, hB⟩ := (h.rows s' hs').typed hg'; exact hk g cs hB
  · have key : ∀ s', blkV (upd f s v s') = some g → blkV (f s') = some g := fun s' e => by
      by_cases e' : s' = s
      · subst e'; rw [upd_same] at e; exact hfr g e
      · rw [upd_other _ _ e'] at e; exact e
    exact h.apart s1 s2 g h1 h2 (key s1 e1) (key s2 e2)
/-- The earliest of several goes. -/
theorem Win.cut (h : Win w base gm n f ps) (hn : n < maxLen) {s : List UInt8} (hs : s.length = 3) {p q : Nat} {zs : List Nat} (hps : ps s = p :: q :: zs) :
    ∃ g o c, f s = .slice (some ⟨g, o, none⟩) (zs.length + 2) c ∧ zs.length + 2 ≤ c ∧ ∃ w', (Instr.mapUpdate 65 (.map (some gm)) (keyV s) (.slice (some ⟨g, o + 1, none⟩) (zs.length + 1) (c - 1))).run Tryz.prog w = .ok () w' ∧
      Win w' base gm (n + 1) (upd f s (.slice (some ⟨g, o + 1, none⟩) (zs.length + 1) (c - 1))) (upd ps s (q :: zs)) ∧ Only (FI base gm w) w w' := by
  rcases h.rows s hs with ⟨_, hz⟩ | ⟨g, c, pre, rest, hv, hz, hb, hB, hc⟩
  · rw [hps] at hz; cases hz
  · rw [hps] at hv hB hc
    simp only [List.length_cons] at hv hc
    refine ⟨g, pre.length, c, hv, by omega, ?_⟩
    obtain ⟨w', hr, hm, hg⟩ := h.map.store hn hs (.slice (some ⟨g, pre.length + 1, none⟩) (zs.length + 1) (c - 1))
    obtain ⟨hw, ho⟩ := h.put (zs := q :: zs) hm hg (.inr ⟨g, c - 1, pre ++ [.int .i64 (p : Int)], rest, by simp, by simp, hb, by simpa [i64s] using hB, by simp; omega⟩) (fun g' e => by rw [hv]; simpa [blkV] using e) hs
    exact ⟨w', hr, hw, ho⟩
/-- The only one goes. -/
theorem Win.gone (h : Win w base gm n f ps) {s : List UInt8} (hs : s.length = 3) {p : Nat} (hps : ps s = [p]) (ty : TypeId) :
    ∃ g o c, f s = .slice (some ⟨g, o, none⟩) 1 c ∧ 1 ≤ c ∧ ∃ w', (Builtin.delete_ #[65, 110] ty #[.map (some gm), keyV s]).run Tryz.prog w = .ok (.tuple #[]) w' ∧
      Win w' base gm n (upd f s noInts) (upd ps s []) ∧ Only (FI base gm w) w w' := by
  rcases h.rows s hs with ⟨_, hz⟩ | ⟨g, c, pre, rest, hv, hz, hb, hB, hc⟩
  · rw [hps] at hz; cases hz
  · rw [hps] at hv hB hc
    simp only [List.length_cons, List.length_nil] at hv hc
    refine ⟨g, pre.length, c, hv, by omega, ?_⟩
    obtain ⟨w', hr, hm, hg⟩ := h.map.drop hs ty
    obtain ⟨hw, ho⟩ := h.put (zs := []) hm hg (OwnI.nil _ _) (fun g' e => by cases e) hs
    exact ⟨w', hr, hw, ho⟩
/-- A position comes in. -/
theorem Win.push (h : Win w base gm n f ps) (hn : n < maxLen) (hbase : base ≤ w.heap.size) {s : List UInt8} (hs : s.length = 3) {gn x : Nat} (hx : Blk w gn 3 [.int .i64 (x : Int)]) (hl : (ps s).length ≤ 1000000) (ty : TypeId) (c : Nat) :
    ∃ (st : Nat) (w2 : World), (Instr.mapEntry 65 (.map (some gm)) (keyV s)).run Tryz.prog w = .ok (.tuple #[f s, goInt st]) w2 ∧
      ∃ v' w3, (Builtin.append_ #[109, 109] ty #[f s, .slice (some ⟨gn, 0, none⟩) 1 c]).run Tryz.prog w2 = .ok v' w3 ∧
        ∃ w4, (Instr.entryStore 65 (.map (some gm)) (goInt st) v').run Tryz.prog w3 = .ok () w4 ∧
          Win w4 base gm (n + 1) (upd f s v') (upd ps s (ps s ++ [x])) ∧ Only (FI base gm w) w w4 := by
  obtain ⟨st, w2, hr, hg2, hst⟩ := h.map.entry hn hs
  have hk2 : ∀ g cs, Blk w g 3 cs → w2.heap[g]? = w.heap[g]? := fun g cs hB => hg2.block g hB.lt (fun e => h.map.not_blk hB (Option.some.inj e))
  have hrow : ∀ s', s'.length = 3 → OwnI w2 base (f s') (ps s') := fun s' hs' => (h.rows s' hs').keep fun g hg' => by
    obtain ⟨_, cs, hB⟩ := (h.rows s' hs').typed hg'
    exact hk2 g cs hB
  obtain ⟨v', w3, ha, ho3, hg3, hat⟩ := (hrow s hs).app ty (Nat.le_trans hbase hg2.size) (gn := gn) (x := x) ((hk2 gn _ hx).trans hx) hl c
  have hgm2 : gm < w2.heap.size := Nat.lt_of_lt_of_le h.map.lt hg2.size
  have hgmB : ∀ g, blkV (f s) = some g → g ≠ gm := fun g hg' => by
    obtain ⟨_, cs, hB⟩ := (h.rows s hs).typed hg'
    exact h.map.not_blk hB
  obtain ⟨w4, hr4, hm4, hg4⟩ := hst w3 v' (hg3.block gm hgm2 (fun e => hgmB gm e.symm rfl))
  refine ⟨st, w2, hr, v', w3, ha, w4, hr4, ⟨hm4, h.gmb, fun s' hs' => ?_, fun s1 s2 g h1 h2 e1 e2 => ?_⟩, ?_⟩
  · by_cases e : s' = s
    · subst e
      rw [upd_same, upd_same]
      refine ho3.keep fun g hg' => hg4.block g (ho3.lt hg') fun e' => ?_
      obtain rfl := Option.some.inj e'
      rcases hat with h1 | ⟨g', h1, h2⟩
      · rw [h1] at hg'; exact hgmB _ hg' rfl
      · rw [h1] at hg'; obtain rfl := Option.some.inj hg'; omega
    · rw [upd_other _ _ e, upd_other _ _ e]
      refine (hrow s' hs').keep fun g hg' => ?_
      have hlt := (hrow s' hs').lt hg'
      have hne : g ≠ gm := by
        obtain ⟨_, cs, hB⟩ := (h.rows s' hs').typed hg'
        exact h.map.not_blk hB
      rw [hg4.block g (Nat.lt_of_lt_of_le hlt hg3.size) (fun e' => hne (Option.some.inj e'))]
      exact hg3.block g hlt (fun e' => e (h.apart s' s g hs' hs hg' e'.symm))
  · have old : ∀ s', s'.length = 3 → ∀ g, blkV (f s') = some g → g < w2.heap.size := fun s' hs' g hg' => (hrow s' hs').lt hg'
    by_cases c1 : s1 = s
    · by_cases c2 : s2 = s
      · rw [c1, c2]
      · subst c1
        rw [upd_same] at e1
        rw [upd_other _ _ c2] at e2
        rcases hat with h3 | ⟨g', h3, h4⟩
        · rw [h3] at e1; exact h.apart _ s2 g h1 h2 e1 e2
        · rw [h3] at e1; obtain rfl := Option.some.inj e1
          have := old s2 h2 _ e2; omega
    · by_cases c2 : s2 = s
      · subst c2
        rw [upd_same] at e2
        rw [upd_other _ _ c1] at e1
        rcases hat with h3 | ⟨g', h3, h4⟩
        · rw [h3] at e2; exact h.apart s1 _ g h1 h2 e1 e2
        · rw [h3] at e2; obtain rfl := Option.some.inj e2
          have := old s1 h1 _ e1; omega
      · rw [upd_other _ _ c1] at e1
        rw [upd_other _ _ c2] at e2
        exact h.apart s1 s2 g h1 h2 e1 e2
  · have o1 : Only (FI base gm w) w w2 := .of_grown hg2 (fun i e => by obtain rfl := Option.some.inj e; exact ⟨h.gmb, .inl rfl⟩)
    have o2 : Only (FI base gm w) w2 w3 := .of_grown hg3 (fun i e => by
      obtain ⟨h1, cs, hB⟩ := (h.rows s hs).typed e
      exact ⟨h1, .inr ⟨cs, hB⟩⟩)
    have o3 : Only (FI base gm w) w3 w4 := .of_grown hg4 (fun i e => by obtain rfl := Option.some.inj e; exact ⟨h.gmb, .inl rfl⟩)
    exact (o1.trans o2).trans o3
theorem FI.back {a b : World} {g : Nat} (ho : Only (FI base gm a) a b) (h : FI base gm b g) : FI base gm a g ∨ a.heap.size ≤ g := by
  rcases Nat.lt_or_ge g a.heap.size with hlt | hge
  · refine .inl ?_
    by_cases hf : FI base gm a g
    · exact hf
    · rcases h with ⟨h1, rfl | ⟨cs, hB⟩⟩
      · exact ⟨h1, .inl rfl⟩
      · exact ⟨h1, .inr ⟨cs, (ho.block g hlt hf).symm.trans hB⟩⟩
  · exact .inr hge
theorem only_FI {a b c : World} (h : Only (FI base gm a) a b) (k : Only (FI base gm b) b c) : Only (FI base gm a) a c := h.then k fun _ hi => FI.back h hi
theorem FI.ge {a : World} {g : Nat} (h : FI base gm a g) : base ≤ g := h.1
end
end Go.Proofs.YtdipflchmooakaaGreatDoor
namespace Go.Proofs.YtdipflchmooakaaGreatDoor
open Go.RowKit Go.Gar

theorem size_K {s : List UInt8} (h : s.length = 3) : (Tryz.prog.info? 110).map (·.size) = some (u8s s).length := by
  rw [u8s_len, h]; kernel_rfl
theorem Tryz.infoK : (Tryz.prog.info? 110).map (fun i => (i.zero, i.size)) = some (some (.agg (Array.replicate 3 (.int .u8 0))), 3) := by kernel_rfl
theorem zero_K (w : World) : (zeroValue 110).run Tryz.prog w = .ok (.agg (u8s [0, 0, 0]).toArray) w := by
  have := (zero_of_info Tryz.infoK).1 w
  rw [this]
  rfl
theorem run_arr3 (g o n c : Nat) (h : 3 ≤ n) (W : World) : (Instr.arrayAt 110 (.slice (some ⟨g, o, none⟩) n c)).run Tryz.prog W = .ok (.pointer (some ⟨g, o, none⟩)) W := by
  have h1 : ¬ n < 3 := by omega
  simp [Instr.arrayAt, run_underlying Tryz.undK W, h1]
theorem load_K {W : World} {g o : Nat} {b : List UInt8} {p : Nat} (h : ∀ j c, b[j]? = some c → W.cell? ⟨g, o + j, none⟩ = some (.int .u8 (c.toNat : Int))) (hp : p + 3 ≤ b.length) (q : Nat) (hq : q = o + p) :
    (loadVar 110 ⟨g, q, none⟩).run Tryz.prog W = .ok (keyV (Lz.key b p)) W := by
  subst hq
  refine run_loadVar_mid (P := Tryz.prog) W g (o + p) 110 (u8s (Lz.key b p)) _ (fun j v hv => ?_) Tryz.undK rfl (size_K (Lz.key_len hp))
  rw [u8s_get] at hv
  cases hq : (Lz.key b p)[j]? with
  | none => rw [hq] at hv; cases hv
  | some c =>
    rw [hq] at hv
    obtain rfl := Option.some.inj hv
    unfold Lz.key at hq
    rw [List.getElem?_take] at hq
    split at hq
    · rw [List.getElem?_drop] at hq
      rw [Nat.add_assoc]
      exact h (p + j) c hq
    · cases hq
theorem loadK_arr {w : World} {g : Nat} {s : List UInt8} (hs : s.length = 3) (hB : Blk w g 110 (u8s s)) : (loadVar 110 ⟨g, 0, none⟩).run Tryz.prog w = .ok (.agg (u8s s).toArray) w :=
  run_loadVar_row (P := Tryz.prog) w g 110 110 (u8s s).toArray (0, 0) _ hB Tryz.undK rfl (by simpa using size_K hs)
end Go.Proofs.YtdipflchmooakaaGreatDoor
namespace Go.Gar
open Go.RowKit
variable {P : Program} {w : World}

theorem wpList_delete_run {ops : Array Oper} {rest : List Oper} {o : Oper} {a : Act} {Q : Exit → Act → World → Prop} (hgd : o.guard = none) (s x : Operand) (ts : Array TypeId)
    (ho : o.op = .call { callee := .builtin .delete, args := #[s, x], argTypes := ts }) {vs vx v : Value} {w' : World} (hs : a.eval s = vs) (hx : a.eval x = vx)
    (hrun : (Builtin.delete_ ts o.type #[vs, vx]).run P w = .ok v w') (h : wpList P ops Q rest (a.put o.dst v) w') : wpList P ops Q (o :: rest) a w := by
  refine wpList_run hgd (v := v) (w' := w') ?_ h
  unfold execOp
  simp only [ho, resolve, invoke, builtin, Sem.run_bind, Sem.run_pure, Result.andThen_ok, List.map_toArray, List.map_cons, List.map_nil, hs, hx, hrun]
theorem wpList_mapUpdate_run {ops : Array Oper} {rest : List Oper} {o : Oper} {a : Act} {Q : Exit → Act → World → Prop} (hgd : o.guard = none) (t : TypeId) (m x v : Operand)
    (ho : o.op = .mapUpdate t m x v) {vm vx vv : Value} {w' : World} (hm : a.eval m = vm) (hx : a.eval x = vx) (hv : a.eval v = vv)
    (hrun : (Instr.mapUpdate t vm vx vv).run P w = .ok () w') (h : wpList P ops Q rest (a.put o.dst undef) w') : wpList P ops Q (o :: rest) a w := by
  refine wpList_plain hgd fun K' hK' => ?_
  unfold Oper.wp
  simp [execOp, ho, hm, hx, hv, hrun, Result.andThen]
  exact hK' _ _ h
theorem wpList_lookup_run {ops : Array Oper} {rest : List Oper} {o : Oper} {a : Act} {Q : Exit → Act → World → Prop} (hgd : o.guard = none) (t : TypeId) (m x : Operand) (c : Bool)
    (ho : o.op = .lookup t m x c) {vm vx v : Value} {w' : World} (hm : a.eval m = vm) (hx : a.eval x = vx)
    (hrun : (Instr.lookup t vm vx c).run P w = .ok v w') (h : wpList P ops Q rest (a.put o.dst v) w') : wpList P ops Q (o :: rest) a w := by
  refine wpList_run hgd (v := v) (w' := w') ?_ h
  unfold execOp
  simp [ho, hm, hx, hrun, Result.andThen]
theorem wpList_mapEntry_run {ops : Array Oper} {rest : List Oper} {o : Oper} {a : Act} {Q : Exit → Act → World → Prop} (hgd : o.guard = none) (t : TypeId) (m x : Operand)
    (ho : o.op = .mapEntry t m x) {vm vx v : Value} {w' : World} (hm : a.eval m = vm) (hx : a.eval x = vx)
    (hrun : (Instr.mapEntry t vm vx).run P w = .ok v w') (h : wpList P ops Q rest (a.put o.dst v) w') : wpList P ops Q (o :: rest) a w := by
  refine wpList_run hgd (v := v) (w' := w') ?_ h
  unfold execOp
  simp [ho, hm, hx, hrun, Result.andThen]
theorem wpList_entryStore_run {ops : Array Oper} {rest : List Oper} {o : Oper} {a : Act} {Q : Exit → Act → World → Prop} (hgd : o.guard = none) (t : TypeId) (m x v : Operand)
    (ho : o.op = .entryStore t m x v) {vm vx vv : Value} {w' : World} (hm : a.eval m = vm) (hx : a.eval x = vx) (hv : a.eval v = vv)
    (hrun : (Instr.entryStore t vm vx vv).run P w = .ok () w') (h : wpList P ops Q rest (a.put o.dst undef) w') : wpList P ops Q (o :: rest) a w := by
  refine wpList_plain hgd fun K' hK' => ?_
  unfold Oper.wp
  simp [execOp, ho, hm, hx, hv, hrun, Result.andThen]
  exact hK' _ _ h
end Go.Gar
namespace Go.Proofs.YtdipflchmooakaaGreatDoor
open Go.RowKit Go.Gar

theorem slice_ints (g o n c : Nat) (h : 1 ≤ n) (h3 : 1 < c) (W : World) :
    (Instr.sliceAt 109 (.slice (some ⟨g, o, none⟩) n c) (some (.int .i64 1)) none none).run Tryz.prog W = .ok (.slice (some ⟨g, o + 1, none⟩) (n - 1) (c - 1)) W := by
  obtain ⟨i, hi, hs⟩ := Option.map_eq_some_iff.1 Tryz.infoIntL
  simp only [Prod.mk.injEq] at hs
  have h1 : (1 : Int) ≤ (n : Int) := by omega
  have h5 : ¬ c = 1 := by omega
  simp [Instr.sliceAt, Instr.sliceBounds, Instr.sureAddr, run_underlying Tryz.undIntsL W, sizeOf, typeInfo, hi, hs.2.1, go_sem, h1, h5, Addr.add_lit]
theorem slice_ints1 (g o : Nat) (W : World) (c : Nat) (h : 1 ≤ c) :
    ∃ p, (Instr.sliceAt 109 (.slice (some ⟨g, o, none⟩) 1 c) (some (.int .i64 1)) none none).run Tryz.prog W = .ok (.slice p 0 (c - 1)) W := by
  obtain ⟨i, hi, hs⟩ := Option.map_eq_some_iff.1 Tryz.infoIntL
  simp only [Prod.mk.injEq] at hs
  by_cases h5 : c = 1
  · subst h5
    refine ⟨some ⟨g, o, none⟩, ?_⟩
    simp [Instr.sliceAt, Instr.sliceBounds, Instr.sureAddr, run_underlying Tryz.undIntsL W, sizeOf, typeInfo, hi, hs.2.1, go_sem]
  · refine ⟨some ⟨g, o + 1, none⟩, ?_⟩
    simp [Instr.sliceAt, Instr.sliceBounds, Instr.sureAddr, run_underlying Tryz.undIntsL W, sizeOf, typeInfo, hi, hs.2.1, go_sem, h5, Addr.add_lit]
theorem leave_any (w : World) (base gm n : Nat) (f : List UInt8 → Value) (ps : List UInt8 → List Nat) (s : List UInt8) (p : Nat) (zs : List Nat) (hW : Win w base gm n f ps) (hn : n < maxLen) (hs : s.length = 3) (hps : ps s = p :: zs) :
    Calls Tryz.prog 65 #[.map (some gm), keyV s] w fun e w' => (∃ v, e = .returned v) ∧ ∃ f' n', n' ≤ n + 1 ∧ Win w' base gm n' f' (upd ps s zs) ∧ Only (FI base gm w) w w' := by
  have hb := below_alloc w (.cells (u8s s).toArray 110)
  have hW1 := hW.below hb
  have hB := Blk.new w 110 (u8s s)
  have ho1 : Only (FI base gm w) w (w.alloc (.cells (u8s s).toArray 110)) := .of_below _ hb
  unfold keyV
  obtain ⟨w1, hw1⟩ : ∃ w1, w.alloc (.cells (u8s s).toArray 110) = w1 := ⟨_, rfl⟩
  rw [hw1] at hW1 hB ho1
  have hld := loadK_arr hs hB
  have HW1 := Lib.hid hw1
  have HLd := Lib.hid hld
  have Ho1 := Lib.hid ho1
  cases zs with
  | nil =>
    obtain ⟨g, o, c, hf, hc, w', hr, hW2, ho⟩ := hW1.gone hs hps 0
    have hlook := hW1.map.look hs
    rw [hf] at hlook
    obtain ⟨p0, hsl⟩ := slice_ints1 g o w1 c hc
    unfold keyV at hlook hr
    have HR := Lib.hid (show Win w' base gm n (upd f s noInts) (upd ps s []) ∧ Only (FI base gm w) w w' from ⟨hW2, only_FI Ho1.out ho⟩)
    have HD := Lib.hid hr
    clear hb hW1 hB hW hw1 hld hf hps hW2 ho ho1 hr
    go_enter Tryz.func65, Tryz.ntmps65
    go_wp2_with (first | (refine wpList_box_arr rfl 110 (.tmp 1) (u8s s).toArray rfl rfl ?_; rw [HW1.out]) | refine wpList_load_arr_w 110 (.tmp 3) rfl rfl (u8s s).toArray HLd.out (by kernel_rfl) ?_ | refine wpList_delete_run rfl (.tmp 15) (.tmp 16) _ rfl rfl rfl HD.out ?_ | refine wpList_mapUpdate_run rfl 65 (.tmp 12) (.tmp 13) (.tmp 14) rfl rfl rfl rfl HD.out ?_)
    refine bodyPost_end (results_none rfl _ _ _) rfl ?_
    exact ⟨⟨_, rfl⟩, _, n, by omega, HR.out.1, HR.out.2⟩
  | cons q zs =>
    obtain ⟨g, o, c, hf, hc, w', hr, hW2, ho⟩ := hW1.cut hn hs hps
    have hlook := hW1.map.look hs
    rw [hf] at hlook
    have hsl := slice_ints g o (zs.length + 2) c (by omega) (by omega) w1
    unfold keyV at hlook hr
    have HR := Lib.hid (show Win w' base gm (n + 1) _ (upd ps s (q :: zs)) ∧ Only (FI base gm w) w w' from ⟨hW2, only_FI Ho1.out ho⟩)
    have HD := Lib.hid hr
    clear hb hW1 hB hW hw1 hld hf hps hW2 ho ho1 hr
    go_enter Tryz.func65, Tryz.ntmps65
    go_wp2_with (first | (refine wpList_box_arr rfl 110 (.tmp 1) (u8s s).toArray rfl rfl ?_; rw [HW1.out]) | refine wpList_load_arr_w 110 (.tmp 3) rfl rfl (u8s s).toArray HLd.out (by kernel_rfl) ?_ | refine wpList_delete_run rfl (.tmp 15) (.tmp 16) _ rfl rfl rfl HD.out ?_ | refine wpList_mapUpdate_run rfl 65 (.tmp 12) (.tmp 13) (.tmp 14) rfl rfl rfl rfl HD.out ?_)
    refine bodyPost_end (results_none rfl _ _ _) rfl ?_
    exact ⟨⟨_, rfl⟩, _, n + 1, Nat.le_refl _, HR.out.1, HR.out.2⟩
end Go.Proofs.YtdipflchmooakaaGreatDoor
namespace Go.Proofs.YtdipflchmooakaaGreatDoor
open Go.RowKit Go.Gar

theorem Win.congr {w : World} {base gm n : Nat} {f : List UInt8 → Value} {ps ps' : List UInt8 → List Nat} (h : Win w base gm n f ps) (hp : ∀ s, s.length = 3 → ps s = ps' s) : Win w base gm n f ps' :=
  ⟨h.map, h.gmb, fun s hs => hp s hs ▸ h.rows s hs, h.apart⟩
theorem mid_upd {b : List UInt8} {p0 : Nat} : upd (Lz.win b (p0 + 4096)) (Lz.key b p0) (Lz.mid b (p0 + 4096) (Lz.key b p0)) = Lz.mid b (p0 + 4096) := by
  funext s
  by_cases h : s = Lz.key b p0
  · subst h; rw [upd_same]
  · rw [upd_other _ _ h]
    exact Lz.win_else (by omega) (by rw [show p0 + 4096 - 4096 = p0 by omega]; exact h)
theorem win_upd {b : List UInt8} {at_ : Nat} : upd (Lz.mid b at_) (Lz.key b at_) (Lz.mid b at_ (Lz.key b at_) ++ [at_]) = Lz.win b (at_ + 1) := by
  funext s
  rw [Lz.win_next]
  by_cases h : s = Lz.key b at_
  · subst h; rw [upd_same, if_pos rfl]
  · rw [upd_other _ _ h, if_neg (fun e => h e.symm), List.append_nil]
theorem mid_len (b : List UInt8) (at_ : Nat) (s : List UInt8) : (Lz.mid b at_ s).length ≤ 1000000 := by
  have h1 := Lz.win_len b at_ s
  have h2 := Lz.win_len b (at_ + 1) s
  rw [Lz.win_next, List.length_append] at h2
  omega

set_option maxHeartbeats 1000000 in
theorem slide_any (w : World) (base gm n : Nat) (f : List UInt8 → Value) (g o bl bc : Nat) (b : List UInt8) (at_ : Nat) (hW : Win w base gm n f (Lz.win b at_)) (hn : n + 1 < maxLen) (hbase : base ≤ w.heap.size) (hbl : bl = b.length) (hbc : bl ≤ bc) (hl : bl ≤ 100000) (hat : at_ < bl) (hg : g < base)
    (hc : ∀ j c, b[j]? = some c → w.cell? ⟨g, o + j, none⟩ = some (.int .u8 (c.toNat : Int))) (N : List UInt8 → List Nat) (hN : Lz.win b (at_ + 1) = N) :
    Calls Tryz.prog 38 #[.map (some gm), .slice (some ⟨g, o, none⟩) bl bc, .int .i64 (at_ : Int)] w fun e w' => (∃ v, e = .returned v) ∧ ∃ f' n', n' ≤ n + 2 ∧ Win w' base gm n' f' N ∧ Only (FI base gm w) w w' := by
  have HBL := Lib.hid hbl
  have HN0 := Lib.hid hN
  clear hN
  by_cases h4 : 4096 ≤ at_
  · obtain ⟨p0, rfl⟩ : ∃ p0, at_ = p0 + 4096 := ⟨at_ - 4096, by omega⟩
    have hk3 : p0 + 3 ≤ b.length := by omega
    have hsl := slice_from g o bl bc p0 (by omega) (by omega)
    have harr := run_arr3 g (o + p0) (bl - p0) (bc - p0) (by omega)
    have HLd := Lib.hid (load_K hc hk3 (o + p0) rfl)
    have HC := Lib.hid hc
    have HK3 := Lib.hid (Lz.key_len hk3)
    have hw1 := Lz.win_first (b := b) (at_ := p0 + 4096) (by omega)
    rw [show p0 + 4096 - 4096 = p0 by omega] at hw1
    have HW := Lib.hid hW
    have HP := Lib.hid hw1
    have d0 : decide ((4096 : Int) ≤ (p0 : Int) + 4096) = true := by simp; omega
    have e0 : (p0 : Int) + 4096 - 4096 = (p0 : Int) := by omega
    have e1 : (((p0 + 4096 : Nat) : Int)) = (p0 : Int) + 4096 := by omega
    rw [e1]
    clear hW hbl hc hw1 hk3 h4 e1
    go_enter Tryz.func38, Tryz.ntmps38
    go_wp2_with (first | refine wpList_load_at 110 (.tmp 14) rfl rfl (u8s (Lz.key b p0)).toArray HLd.out (by kernel_rfl) ?_)
    refine (leave_any w base gm n f (Lz.win b (p0 + 4096)) (Lz.key b p0) p0 _ HW.out (by omega) HK3.out HP.out).mono ?_
    rintro e w1 ⟨⟨v1, rfl⟩, f1, n1, hn1, hW1, ho1⟩
    rw [mid_upd] at hW1
    have HL1 := Lib.hid (show ((p0 : Int) + 4096) = ((p0 + 4096 : Nat) : Int) by omega)
    obtain ⟨at_, hate⟩ : ∃ a, p0 + 4096 = a := ⟨_, rfl⟩
    have HAt := Lib.hid hate
    rw [HL1.out, hate]
    rw [hate] at hW1 hat HN0
    clear d0 e0 hate HLd HP HK3 hsl harr HL1
    have hbel : Below base w w1 := ho1.below (fun i hi => hi.1) hbase
    have hc1 : ∀ j c, b[j]? = some c → w1.cell? ⟨g, o + j, none⟩ = some (.int .u8 (c.toNat : Int)) := fun j c hj => (hbel.cell (p := ⟨g, o + j, none⟩) hg).trans (HC.out j c hj)
    have HN1 := Lib.hid hn1
    by_cases h3 : at_ + 3 ≤ bl
    · have d3 : decide ((3 : Int) ≤ (bl : Int) - (at_ : Int)) = true := by simp; omega
      have hk3 : at_ + 3 ≤ b.length := by rw [← HBL.out]; exact h3
      have hsl := slice_from g o bl bc at_ (by omega) (by omega)
      have harr := run_arr3 g (o + at_) (bl - at_) (bc - at_) (by omega)
      have HLd := Lib.hid (load_K hc1 hk3 (o + at_) rfl)
      have hks := Lz.key_len hk3
      have HZ3 := Lib.hid (Blk.new w1 110 (u8s [0, 0, 0]))
      have hEa : (w1.alloc (.cells (u8s [0, 0, 0]).toArray 110)).setRow w1.heap.size (u8s (Lz.key b at_)).toArray = w1.alloc (.cells (u8s (Lz.key b at_)).toArray 110) := World.setRow_alloc_new w1 _ _ _
      have hb2 := below_alloc w1 (.cells (u8s (Lz.key b at_)).toArray 110)
      have hB2 := Blk.new w1 110 (u8s (Lz.key b at_))
      have hW2 := hW1.below hb2
      have ho2 : Only (FI base gm w) w _ := ho1.alloc (.cells (u8s (Lz.key b at_)).toArray 110)
      obtain ⟨w2, hw2⟩ : ∃ w2, w1.alloc (.cells (u8s (Lz.key b at_)).toArray 110) = w2 := ⟨_, rfl⟩
      rw [hw2] at hEa hb2 hB2 hW2 ho2
      have hb3 := below_alloc w2 (.cells #[.int .i64 (at_ : Int)] 3)
      have hB3 : Blk (w2.alloc (.cells #[.int .i64 (at_ : Int)] 3)) w2.heap.size 3 [.int .i64 (at_ : Int)] := Blk.new w2 3 [.int .i64 (at_ : Int)]
      have hW3 := hW2.below hb3
      have ho3 : Only (FI base gm w) w _ := ho2.alloc (.cells #[.int .i64 (at_ : Int)] 3)
      have hbase3 : base ≤ (w2.alloc (.cells #[.int .i64 (at_ : Int)] 3)).heap.size := Nat.le_trans hbase ho3.size
      obtain ⟨st, w4, hr4, v5, w5, hr5, w6, hr6, hW6, ho6⟩ := hW3.push (by omega) hbase3 hks hB3 (mid_len _ _ _) 109 1
      rw [win_upd, HN0.out] at hW6
      have HE := Lib.hid (show Win w6 base gm (n1 + 1) _ N ∧ Only (FI base gm w) w w6 from ⟨hW6, only_FI ho3 ho6⟩)
      have HLd2 := Lib.hid (loadK_arr hks hB2)
      have HSz := Lib.hid (size_K hks)
      have HLn : Hid ((u8s [0, 0, 0] : List Value).length = (u8s (Lz.key b at_)).length) := Lib.hid (by rw [u8s_len, u8s_len, hks]; rfl)
      have HEa := Lib.hid hEa
      have H4 := Lib.hid hr4
      have H5 := Lib.hid hr5
      have H6 := Lib.hid hr6
      clear hW1 ho1 hbel hc1 hk3 hks hEa hb2 hB2 hW2 ho2 hw2 hb3 hB3 hW3 ho3 hbase3 hr4 hr5 hr6 hW6 ho6 hn1
      generalize hfs : f1 (Lz.key b at_) = fs at H4 H5
      clear hfs
      go_wp2_with (first | refine wpList_load_at 110 (.tmp 25) rfl rfl (u8s (Lz.key b at_)).toArray HLd.out (by kernel_rfl) ?_ | refine wpList_alloc_arr rfl 110 (u8s [0, 0, 0]).toArray rfl zero_K ?_ | (refine wpList_store_arr rfl 110 (.tmp 6) (.tmp 26) w1.heap.size (u8s [0, 0, 0]) (u8s (Lz.key b at_)) rfl rfl rfl rfl HZ3.out HSz.out HLn.out (u8s_one _) ?_; rw [HEa.out]) | refine wpList_load_arr_w 110 (.tmp 6) rfl rfl (u8s (Lz.key b at_)).toArray HLd2.out (by kernel_rfl) ?_ | refine wpList_mapEntry_run rfl 65 (.tmp 27) (.tmp 28) rfl rfl rfl H4.out ?_ | (at_builtin; refine wpList_append_run rfl (.tmp 29) (.tmp 31) _ rfl rfl rfl H5.out ?_) | refine wpList_entryStore_run rfl 65 (.tmp 27) (.tmp 34) (.tmp 33) rfl rfl rfl rfl H6.out ?_)
      refine bodyPost_end (results_none rfl _ _ _) rfl ?_
      exact ⟨⟨_, rfl⟩, _, n1 + 1, by have := HN1.out; omega, HE.out.1, HE.out.2⟩
    · have d3 : decide ((3 : Int) ≤ (bl : Int) - (at_ : Int)) = false := by simp; omega
      have hW6 : Win w1 base gm n1 f1 N := hW1.congr fun s hs => by
        rw [← HN0.out, Lz.win_next, if_neg (Lz.key_ne hs (by rw [← HBL.out]; exact h3)), List.append_nil]
      have HE := Lib.hid (show _ ∧ _ from ⟨hW6, ho1⟩)
      clear hW1 ho1 hbel hc1 hW6 hn1
      go_wp2
      refine bodyPost_end (results_none rfl _ _ _) rfl ?_
      exact ⟨⟨_, rfl⟩, _, n1, by have := HN1.out; omega, HE.out.1, HE.out.2⟩
  · have d0 : decide ((4096 : Int) ≤ (at_ : Int)) = false := by simp; omega
    have hW1 := hW
    rw [← Lz.mid_low h4] at hW1
    have HC := Lib.hid hc
    have ho1 := Only.refl (FI base gm w) w
    obtain ⟨n1, hn1, hW1⟩ : ∃ n1, n1 ≤ n + 1 ∧ Win w base gm n1 f (Lz.mid b at_) := ⟨n, by omega, hW1⟩
    clear hW hc hbl
    go_enter Tryz.func38, Tryz.ntmps38
    have hbel : Below base w w := ho1.below (fun i hi => hi.1) hbase
    have hc1 : ∀ j c, b[j]? = some c → w.cell? ⟨g, o + j, none⟩ = some (.int .u8 (c.toNat : Int)) := fun j c hj => (hbel.cell (p := ⟨g, o + j, none⟩) hg).trans (HC.out j c hj)
    have HN1 := Lib.hid hn1
    by_cases h3 : at_ + 3 ≤ bl
    · have d3 : decide ((3 : Int) ≤ (bl : Int) - (at_ : Int)) = true := by simp; omega
      have hk3 : at_ + 3 ≤ b.length := by rw [← HBL.out]; exact h3
      have hsl := slice_from g o bl bc at_ (by omega) (by omega)
      have harr := run_arr3 g (o + at_) (bl - at_) (bc - at_) (by omega)
      have HLd := Lib.hid (load_K hc1 hk3 (o + at_) rfl)
      have hks := Lz.key_len hk3
      have HZ3 := Lib.hid (Blk.new w 110 (u8s [0, 0, 0]))
      have hEa : (w.alloc (.cells (u8s [0, 0, 0]).toArray 110)).setRow w.heap.size (u8s (Lz.key b at_)).toArray = w.alloc (.cells (u8s (Lz.key b at_)).toArray 110) := World.setRow_alloc_new w _ _ _
      have hb2 := below_alloc w (.cells (u8s (Lz.key b at_)).toArray 110)
      have hB2 := Blk.new w 110 (u8s (Lz.key b at_))
      have hW2 := hW1.below hb2
      have ho2 : Only (FI base gm w) w _ := ho1.alloc (.cells (u8s (Lz.key b at_)).toArray 110)
      obtain ⟨w2, hw2⟩ : ∃ w2, w.alloc (.cells (u8s (Lz.key b at_)).toArray 110) = w2 := ⟨_, rfl⟩
      rw [hw2] at hEa hb2 hB2 hW2 ho2
      have hb3 := below_alloc w2 (.cells #[.int .i64 (at_ : Int)] 3)
      have hB3 : Blk (w2.alloc (.cells #[.int .i64 (at_ : Int)] 3)) w2.heap.size 3 [.int .i64 (at_ : Int)] := Blk.new w2 3 [.int .i64 (at_ : Int)]
      have hW3 := hW2.below hb3
      have ho3 : Only (FI base gm w) w _ := ho2.alloc (.cells #[.int .i64 (at_ : Int)] 3)
      have hbase3 : base ≤ (w2.alloc (.cells #[.int .i64 (at_ : Int)] 3)).heap.size := Nat.le_trans hbase ho3.size
      obtain ⟨st, w4, hr4, v5, w5, hr5, w6, hr6, hW6, ho6⟩ := hW3.push (by omega) hbase3 hks hB3 (mid_len _ _ _) 109 1
      rw [win_upd, HN0.out] at hW6
      have HE := Lib.hid (show Win w6 base gm (n1 + 1) _ N ∧ Only (FI base gm w) w w6 from ⟨hW6, only_FI ho3 ho6⟩)
      have HLd2 := Lib.hid (loadK_arr hks hB2)
      have HSz := Lib.hid (size_K hks)
      have HLn : Hid ((u8s [0, 0, 0] : List Value).length = (u8s (Lz.key b at_)).length) := Lib.hid (by rw [u8s_len, u8s_len, hks]; rfl)
      have HEa := Lib.hid hEa
      have H4 := Lib.hid hr4
      have H5 := Lib.hid hr5
      have H6 := Lib.hid hr6
      clear hW1 ho1 hbel hc1 hk3 hks hEa hb2 hB2 hW2 ho2 hw2 hb3 hB3 hW3 ho3 hbase3 hr4 hr5 hr6 hW6 ho6 hn1
      generalize hfs : f (Lz.key b at_) = fs at H4 H5
      clear hfs
      go_wp2_with (first | refine wpList_load_at 110 (.tmp 25) rfl rfl (u8s (Lz.key b at_)).toArray HLd.out (by kernel_rfl) ?_ | refine wpList_alloc_arr rfl 110 (u8s [0, 0, 0]).toArray rfl zero_K ?_ | (refine wpList_store_arr rfl 110 (.tmp 6) (.tmp 26) w.heap.size (u8s [0, 0, 0]) (u8s (Lz.key b at_)) rfl rfl rfl rfl HZ3.out HSz.out HLn.out (u8s_one _) ?_; rw [HEa.out]) | refine wpList_load_arr_w 110 (.tmp 6) rfl rfl (u8s (Lz.key b at_)).toArray HLd2.out (by kernel_rfl) ?_ | refine wpList_mapEntry_run rfl 65 (.tmp 27) (.tmp 28) rfl rfl rfl H4.out ?_ | (at_builtin; refine wpList_append_run rfl (.tmp 29) (.tmp 31) _ rfl rfl rfl H5.out ?_) | refine wpList_entryStore_run rfl 65 (.tmp 27) (.tmp 34) (.tmp 33) rfl rfl rfl rfl H6.out ?_)
      refine bodyPost_end (results_none rfl _ _ _) rfl ?_
      exact ⟨⟨_, rfl⟩, _, n1 + 1, by have := HN1.out; omega, HE.out.1, HE.out.2⟩
    · have d3 : decide ((3 : Int) ≤ (bl : Int) - (at_ : Int)) = false := by simp; omega
      have hW6 : Win w base gm n1 f N := hW1.congr fun s hs => by
        rw [← HN0.out, Lz.win_next, if_neg (Lz.key_ne hs (by rw [← HBL.out]; exact h3)), List.append_nil]
      have HE := Lib.hid (show _ ∧ _ from ⟨hW6, ho1⟩)
      clear hW1 ho1 hbel hc1 hW6 hn1
      go_wp2
      refine bodyPost_end (results_none rfl _ _ _) rfl ?_
      exact ⟨⟨_, rfl⟩, _, n1, by have := HN1.out; omega, HE.out.1, HE.out.2⟩
end Go.Proofs.YtdipflchmooakaaGreatDoor
