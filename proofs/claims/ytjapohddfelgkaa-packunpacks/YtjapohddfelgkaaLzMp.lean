/-
  The landed lz: a map from three bytes to slices: what it holds, as a function.
-/
import Derived.Maps.OwnSet
import Derived.Maps.OwnRows
import Derived.Maps.Range
import Derived.WideKeyEntry
import Derived.DeepKeys4
import Derived.Test.YtjapohddfelgkaaLzC
set_option maxRecDepth 100000
namespace Go.Proofs.Ytjapohddfelgkaa
open Go.RowKit Go.Gar

theorem Try.undK : Try.prog.underlying 58 = some (.array 3 5) := by kernel_rfl
theorem Try.undMp : Try.prog.underlying 45 = some (.map 58 57) := by kernel_rfl
theorem Try.laidOutK : laidOutB Try.prog = true := by kernel_rfl
theorem Try.rowK : (58 : TypeId) < Try.prog.types.size := of_decide_eq_true (by kernel_rfl)
theorem Try.wideK : (match Try.prog.underlying 58 with | some (.array _ _) | some (.struct _) => true | _ => false) = true := by rw [Try.undK]
theorem Try.lawK : WideMaps.KeyLaw Try.prog 58 := deep_law_laid Try.laidOutK (m := 2) (by omega) Try.rowK (by kernel_rfl) Try.wideK
theorem Try.keyedK : Maps.Keyed Try.prog 58 := .of_law Try.lawK
theorem Try.cellsK : Try.prog.cellsOf 58 = 3 := by kernel_rfl
theorem Try.cells8 : Try.prog.cellsOf 5 = 1 := by kernel_rfl
theorem Try.keyTypeK : Try.prog.keyType 58 = true := by kernel_rfl
theorem Try.infoInts : (Try.prog.info? 57).map (fun i => (i.zero, i.size)) = some (some (.slice none 0 0), 1) := by kernel_rfl
theorem zero_ints (w : World) : (zeroValue 57).run Try.prog w = .ok (.slice none 0 0) w := (zero_of_info Try.infoInts).1 w
theorem Try.lits8 (d : Nat) (c : UInt8) : Try.prog.keyLits (d + 1) 5 [.int .u8 (c.toNat : Int)] = some [.int .u8 (c.toNat : Int)] := by
  have h : (Lit.int .u8 (c.toNat : Int)).wf = true := by
    have := c.toNat_lt
    simp [Lit.wf, IntKind.min, IntKind.max, IntKind.signed, IntKind.bits]
    omega
  unfold Program.keyLits
  rw [Try.und5]
  simp [h]
/-- Three bytes as a key. -/
def keyV (s : List UInt8) : Value := .agg (u8s s).toArray
theorem keyV_some {s : List UInt8} (h : s.length = 3) : ∃ l, keyOf Try.prog 58 (keyV s) = some l := by
  match s, h with
  | [a, b, c], _ =>
    obtain ⟨k, hk⟩ : ∃ k, Try.prog.types.size = k + 1 := Nat.exists_eq_succ_of_ne_zero (fun e => by have h := Try.rowK; rw [e] at h; exact absurd h (Nat.not_lt_zero _))
    unfold keyOf
    rw [Try.undK]
    have hf : (keyV [a, b, c]).formed Try.prog 58 = true := by simp [keyV, u8s, Value.formed, Try.cellsK]
    simp only [Try.keyTypeK, hf, Bool.and_self, if_true]
    rw [hk]
    unfold Program.keyLits
    simp only [Try.undK]
    simp [keyV, u8s, Value.cells, Try.cellsK, Try.cells8, List.range_succ, Try.lits8]
noncomputable def litK (s : List UInt8) : Lit := (keyOf Try.prog 58 (keyV s)).getD (.bool false)
theorem keyV_lit {s : List UInt8} (h : s.length = 3) : keyOf Try.prog 58 (keyV s) = some (litK s) := by
  obtain ⟨l, hl⟩ := keyV_some h
  rw [litK, hl]; rfl
theorem litK_inj {s s' : List UInt8} (h : s.length = 3) (h' : s'.length = 3) (he : litK s = litK s') : s = s' := by
  have := Try.keyedK.inj (keyV_lit h) (he ▸ keyV_lit h')
  simp only [keyV, Value.agg.injEq] at this
  have h2 : u8s s = u8s s' := by simpa using this
  have inj : ∀ (l k : List UInt8), u8s l = u8s k → l = k := by
    intro l
    induction l with
    | nil => intro k e; cases k with
      | nil => rfl
      | cons x k => simp [u8s] at e
    | cons x l ih => intro k e; cases k with
      | nil => simp [u8s] at e
      | cons y k =>
        simp only [u8s, List.map_cons, List.cons.injEq, Value.int.injEq, true_and] at e
        have hx : x = y := UInt8.toNat_inj.1 (by omega)
        rw [hx, ih k e.2]
  exact inj s s' h2

/-- How an element reads: as itself. -/
def asIs (v : Value) : Option (DataW Value × List MemPlace) := some (.held v, [])
def noInts : Value := .slice none 0 0
def upd {β : Type} (f : List UInt8 → β) (s : List UInt8) (v : β) : List UInt8 → β := fun s' => if s' = s then v else f s'
theorem upd_same {β : Type} (f : List UInt8 → β) (s : List UInt8) (v : β) : upd f s v s = v := if_pos rfl
theorem upd_other {β : Type} (f : List UInt8 → β) {s s' : List UInt8} (v : β) (h : s' ≠ s) : upd f s v s' = f s' := if_neg h
/-- Block gm is a map that holds f. -/
def MapK (w : World) (gm n : Nat) (f : List UInt8 → Value) : Prop :=
  ∃ D : DataW Value, w.ownsMap Try.prog 58 asIs gm n D ∧ ∀ s, s.length = 3 → D.atKey (litK s) (.held noInts) = .held (f s)
section
variable {w w' : World} {gm n : Nat} {f : List UInt8 → Value}
theorem mapK_made (w : World) : MapK (w.alloc (.map #[] 0)) w.heap.size 0 (fun _ => noInts) :=
  ⟨_, World.ownsMap_made w Try.prog _ asIs, fun _ _ => rfl⟩
theorem ownsMap_block {D : DataW Value} (h : w.ownsMap Try.prog 58 asIs gm n D) (hb : w'.heap[gm]? = w.heap[gm]?) : w'.ownsMap Try.prog 58 asIs gm n D := by
  obtain ⟨es, clock, h1, h2⟩ := h
  exact ⟨es, clock, hb.trans h1, h2⟩
theorem MapK.block (h : MapK w gm n f) (hb : w'.heap[gm]? = w.heap[gm]?) : MapK w' gm n f := by
  obtain ⟨D, h1, h2⟩ := h
  exact ⟨D, ownsMap_block h1 hb, h2⟩
theorem MapK.obj (h : MapK w gm n f) : ∃ es clock, w.heap[gm]? = some (.map es clock) := by
  obtain ⟨D, ⟨es, clock, h1, _⟩, _⟩ := h
  exact ⟨es, clock, h1⟩
theorem MapK.lt (h : MapK w gm n f) : gm < w.heap.size := by
  obtain ⟨es, clock, h1⟩ := h.obj
  exact (Array.getElem?_eq_some_iff.1 h1).1
theorem MapK.look (h : MapK w gm n f) {s : List UInt8} (hs : s.length = 3) : (Instr.lookup 45 (.map (some gm)) (keyV s) false).run Try.prog w = .ok (f s) w := by
  obtain ⟨D, h1, h2⟩ := h
  obtain ⟨v, ps, hr, hv⟩ := h1.lookup Try.keyedK Try.undMp (zero_ints w) (zd := .held noInts) (zp := []) rfl (keyV_lit hs)
  rw [h2 s hs] at hv
  simp only [asIs, Option.some.injEq, Prod.mk.injEq, DataW.held.injEq] at hv
  rw [hr, hv.1]
theorem atPut {D : DataW Value} (hD : Maps.IsMap D) (hat : ∀ s, s.length = 3 → D.atKey (litK s) (.held noInts) = .held (f s)) {s : List UInt8} (hs : s.length = 3) (v : Value) :
    ∀ s', s'.length = 3 → (D.put (litK s) (.held v)).atKey (litK s') (.held noInts) = .held (upd f s v s') := by
  intro s' hs'
  by_cases h : s' = s
  · subst h
    rw [upd_same]
    exact Maps.atKey_put_same hD (Try.keyedK.key (keyV_lit hs)) _ _
  · rw [upd_other _ _ h, ← hat s' hs']
    exact Maps.atKey_put_other (fun e => h (litK_inj hs' hs e)) _ _
theorem turned_grown {b : Nat} (h : w.mapTurned w' b) : w.grownBy w' (some b) := h.grown
theorem MapK.store (h : MapK w gm n f) (hn : n < maxLen) {s : List UInt8} (hs : s.length = 3) (v : Value) :
    ∃ w', (Instr.mapUpdate 45 (.map (some gm)) (keyV s) v).run Try.prog w = .ok () w' ∧ MapK w' gm (n + 1) (upd f s v) ∧ w.grownBy w' (some gm) := by
  obtain ⟨D, h1, h2⟩ := h
  obtain ⟨w', hr, ho, hg⟩ := h1.update Try.keyedK Try.undMp hn (d := .held v) (ps := []) (keyV_lit hs) rfl
  exact ⟨w', hr, ⟨_, ho, atPut h1.isMap h2 hs v⟩, hg⟩
theorem MapK.drop (h : MapK w gm n f) {s : List UInt8} (hs : s.length = 3) (ty : TypeId) :
    ∃ w', (Builtin.delete_ #[45, 58] ty #[.map (some gm), keyV s]).run Try.prog w = .ok (.tuple #[]) w' ∧ MapK w' gm n (upd f s noInts) ∧ w.grownBy w' (some gm) := by
  obtain ⟨D, h1, h2⟩ := h
  obtain ⟨w', hr, ho, hg⟩ := h1.drop Try.keyedK Try.undMp (keyV_lit hs) ty
  refine ⟨w', hr, ⟨_, ho, fun s' hs' => ?_⟩, turned_grown hg⟩
  by_cases h : s' = s
  · subst h
    rw [upd_same]
    exact Maps.atKey_del_same _
  · rw [upd_other _ _ h, ← h2 s' hs']
    exact Maps.atKey_del_other (fun e => h (litK_inj hs' hs e)) _
open Go.ChangeMaps (setBlock heap_setBlock_same) in
open Go.WideElems in
/-- An entry taken, and stored into later. -/
theorem MapK.entry (h : MapK w gm n f) (hn : n < maxLen) {s : List UInt8} (hs : s.length = 3) :
    ∃ (st : Nat) (w1 : World), (Instr.mapEntry 45 (.map (some gm)) (keyV s)).run Try.prog w = .ok (.tuple #[f s, goInt st]) w1 ∧ w.grownBy w1 (some gm) ∧
      ∀ (w2 : World) (v : Value), w2.heap[gm]? = w1.heap[gm]? → ∃ w3, (Instr.entryStore 45 (.map (some gm)) (goInt st) v).run Try.prog w2 = .ok () w3 ∧ MapK w3 gm (n + 1) (upd f s v) ∧ w2.grownBy w3 (some gm) := by
  have hlook := h.look hs
  have hstore := fun v => h.store hn hs v
  obtain ⟨D, ⟨es, clock, hb, F, hsz, hD⟩, h2⟩ := h
  obtain ⟨v0, st, es1, clock1, hr, hv0, hst⟩ := entry_then_store Try.lawK Try.undMp (z := noInts) zero_ints hb F (keyV_lit hs)
  have hf : v0 = f s := by
    rcases Maps.fit_look false Try.keyedK Try.undMp (zero_ints w) hb F (keyV_lit hs) with ⟨g1, g2, _⟩ | ⟨e0, y, g1, g2, g3, _⟩
    · rw [hlook] at g1
      simp only [Bool.false_eq_true, if_false, Result.ok.injEq, and_true] at g1
      rcases hv0 with ⟨e1, m1, k1, _⟩ | ⟨_, e⟩
      · exact absurd k1 (g2 e1 m1)
      · rw [e, g1]; rfl
    · rw [hlook] at g3
      simp only [Bool.false_eq_true, if_false, Result.ok.injEq, and_true] at g3
      rcases hv0 with ⟨e1, m1, k1, r1⟩ | ⟨g, _⟩
      · rw [r1, g3, entry_eq_of_key ((MapKept.stamped_iff es clock).1 F.stamped).2.2 m1 g1 (k1.trans g2.symm)]
      · exact absurd g2 (g e0 g1)
  rw [hf] at hr
  refine ⟨st, _, hr, ⟨rfl, rfl, rfl, by simp [setBlock], fun i _ hi => ChangeMaps.heap_setBlock_other hb _ (fun e => hi (by rw [e]))⟩, fun w2 v hw2 => ?_⟩
  rw [heap_setBlock_same hb] at hw2
  obtain ⟨es', clock', hr2, hu⟩ := hst w2 v hw2
  obtain ⟨w', hru, hm, _⟩ := hstore v
  rw [hru] at hu
  obtain rfl : w' = _ := by simpa using hu
  refine ⟨_, hr2, hm.block ?_, ⟨rfl, rfl, rfl, by simp [setBlock], fun i _ hi => ChangeMaps.heap_setBlock_other hw2 _ (fun e => hi (by rw [e]))⟩⟩
  rw [heap_setBlock_same hb, heap_setBlock_same hw2]
end
end Go.Proofs.Ytjapohddfelgkaa
