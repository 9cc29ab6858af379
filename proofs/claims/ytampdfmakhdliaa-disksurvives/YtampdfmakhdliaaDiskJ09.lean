/-
  A map from ints to values of any type: what it holds, as a function; how many entries it has; its keys in order. Of no program. The landed disk: what it is in memory: the struct, its durable sectors in a row, its pending sectors in a map. The landed disk: New, Size, Writes, Pending; whether a sector is there, and a sector as it was last written. The landed disk: a sector as it was last written; Read, Since. The landed disk: Read, Since.
-/
import Derived.Maps.OwnSet
import Derived.Maps.OwnRows
import Derived.Maps.Range
import Derived.Lib.SlKeysI
import Derived.Test.YtampdfmakhdliaaDiskJ02
import Derived.Test.YtampdfmakhdliaaDiskJ03
import Derived.Test.YtampdfmakhdliaaDiskJ07
set_option maxRecDepth 100000
namespace Go.Gar
open Go.RowKit Go.Maps Go.ChangeMaps

/-- How an element reads: as itself. -/
def selfI (v : Value) : Option (DataW Value × List MemPlace) := some (.held v, [])
def litI (x : Int) : Lit := .int .i64 x
theorem litI_inj {x y : Int} (h : litI x = litI y) : x = y := by unfold litI at h; injection h
def updI {β : Type} (f : Int → Option β) (x : Int) (v : β) : Int → Option β := fun y => if y = x then some v else f y
/-- What the datum holds. -/
structure HoldI (D : DataW Value) (f : Int → Option Value) : Prop where
  no : ∀ x, f x = none → Maps.has D (litI x) = false
  yes : ∀ x v, f x = some v → ∀ zd, D.atKey (litI x) zd = .held v
theorem HoldI.has {D : DataW Value} {f : Int → Option Value} (h : HoldI D f) (x : Int) : Maps.has D (litI x) = (f x).isSome := by
  cases hf : f x with
  | none => exact h.no x hf
  | some v => exact has_true_of_atKey (h.yes x v hf)
theorem HoldI.at_ {D : DataW Value} {f : Int → Option Value} (h : HoldI D f) (x : Int) (z : Value) : D.atKey (litI x) (.held z) = .held ((f x).getD z) := by
  cases hf : f x with
  | none => exact atKey_of_not_has (h.no x hf) _
  | some v => exact h.yes x v hf _
/-- Block gm is a map that holds f, n entries. -/
def MapI (P : Program) (k : TypeId) (w : World) (gm n : Nat) (f : Int → Option Value) : Prop := ∃ D, w.ownsMap P k selfI gm n D ∧ Maps.size D = n ∧ HoldI D f
section
variable {P : Program} {k t e : TypeId} {w w' : World} {gm n : Nat} {f : Int → Option Value}
theorem mapI_made (P : Program) (k : TypeId) (w : World) : MapI P k (w.alloc (.map #[] 0)) w.heap.size 0 (fun _ => none) :=
  ⟨_, World.ownsMap_made w P k selfI, rfl, ⟨fun _ _ => rfl, fun _ _ h => by cases h⟩⟩
theorem MapI.block (h : MapI P k w gm n f) (hb : w'.heap[gm]? = w.heap[gm]?) : MapI P k w' gm n f := by
  obtain ⟨D, ⟨es, clock, h1, h2⟩, h3⟩ := h
  exact ⟨D, ⟨es, clock, hb.trans h1, h2⟩, h3⟩
theorem MapI.obj (h : MapI P k w gm n f) : ∃ es clock, w.heap[gm]? = some (.map es clock) := by
  obtain ⟨D, ⟨es, clock, h1, _⟩, _⟩ := h
  exact ⟨es, clock, h1⟩
theorem MapI.lt (h : MapI P k w gm n f) : gm < w.heap.size := by
  obtain ⟨es, clock, h1⟩ := h.obj
  exact (Array.getElem?_eq_some_iff.1 h1).1
theorem MapI.ne (h : MapI P k w gm n f) {g : Nat} {t' : TypeId} {cs : List Value} (hB : Blk w g t' cs) : g ≠ gm := by
  rintro rfl
  obtain ⟨es, clock, h1⟩ := h.obj
  unfold Blk at hB
  rw [h1] at hB
  cases hB
theorem keyI (hk : P.underlying k = some (.int .i64)) {x : Int} (hx : -9223372036854775808 ≤ x ∧ x ≤ 9223372036854775807) : keyOf P k (.int .i64 x) = some (litI x) := by
  have h : (Lit.int .i64 x).wf = true := by
    simp [Lit.wf, IntKind.min, IntKind.max, IntKind.signed, IntKind.bits]
    omega
  simp [keyOf, hk, mapKey, litI, h]
theorem MapI.lookOk (h : MapI P k w gm n f) (hk : P.underlying k = some (.int .i64)) (ht : P.underlying t = some (.map k e)) {z : Value} (hz : ∀ w, (zeroValue e).run P w = .ok z w) {x : Int} (hx : -9223372036854775808 ≤ x ∧ x ≤ 9223372036854775807) :
    (Instr.lookup t (.map (some gm)) (.int .i64 x) true).run P w = .ok (.tuple #[(f x).getD z, .bool (f x).isSome]) w := by
  obtain ⟨D, h1, _, h2⟩ := h
  obtain ⟨v, ps, hr, hv⟩ := h1.look_ok (int_keyed hk) ht (hz w) (zd := .held z) (zp := []) rfl (keyI hk hx)
  rw [h2.at_] at hv
  simp only [selfI, Option.some.injEq, Prod.mk.injEq, DataW.held.injEq] at hv
  rw [hr, hv.1, h2.has]
theorem MapI.look (h : MapI P k w gm n f) (hk : P.underlying k = some (.int .i64)) (ht : P.underlying t = some (.map k e)) {z : Value} (hz : ∀ w, (zeroValue e).run P w = .ok z w) {x : Int} (hx : -9223372036854775808 ≤ x ∧ x ≤ 9223372036854775807) :
    (Instr.lookup t (.map (some gm)) (.int .i64 x) false).run P w = .ok ((f x).getD z) w := by
  obtain ⟨D, h1, _, h2⟩ := h
  obtain ⟨v, ps, hr, hv⟩ := h1.lookup (int_keyed hk) ht (hz w) (zd := .held z) (zp := []) rfl (keyI hk hx)
  rw [h2.at_] at hv
  simp only [selfI, Option.some.injEq, Prod.mk.injEq, DataW.held.injEq] at hv
  rw [hr, hv.1]
theorem HoldI.put {D : DataW Value} (hD : Maps.IsMap D) (h : HoldI D f) {x : Int} (hkey : WideAt.IsKeyLit (litI x)) (v : Value) : HoldI (D.put (litI x) (.held v)) (updI f x v) := by
  refine ⟨fun y hy => ?_, fun y u hy zd => ?_⟩
  · unfold updI at hy
    split at hy
    · cases hy
    · rename_i hne
      rw [has_put_other (fun e => hne (litI_inj e))]
      exact h.no y hy
  · unfold updI at hy
    split at hy
    · rename_i he
      subst he
      obtain rfl := Option.some.inj hy
      exact atKey_put_same hD hkey _ _
    · rename_i hne
      rw [atKey_put_other (fun e => hne (litI_inj e))]
      exact h.yes y u hy zd
theorem MapI.store (h : MapI P k w gm n f) (hk : P.underlying k = some (.int .i64)) (ht : P.underlying t = some (.map k e)) (hn : n < maxLen) {x : Int} (hx : -9223372036854775808 ≤ x ∧ x ≤ 9223372036854775807) (v : Value) :
    ∃ w', (Instr.mapUpdate t (.map (some gm)) (.int .i64 x) v).run P w = .ok () w' ∧ MapI P k w' gm (if (f x).isSome then n else n + 1) (updI f x v) ∧ w.grownBy w' (some gm) := by
  obtain ⟨D, h1, hs, h2⟩ := h
  obtain ⟨w', hr, ho, hg⟩ := h1.update (int_keyed hk) ht hn (d := .held v) (ps := []) (keyI hk hx) rfl
  have hsz := size_put (k := litI x) (h1.tidy (int_keyed hk)) (.held v)
  rw [h2.has, hs] at hsz
  refine ⟨w', hr, ⟨_, ?_, hsz, h2.put h1.isMap ((int_keyed hk).key (keyI hk hx)) v⟩, hg⟩
  rw [← hsz]
  obtain ⟨es, clock, hb, F, _, hD⟩ := ho
  refine ⟨es, clock, hb, F, ?_, hD⟩
  have e1 : Maps.size (D.put (litI x) (.held v)) = es.size := by rw [hD]; simp [Maps.size, length_sorted]
  exact Nat.le_of_eq e1.symm
theorem MapI.len (h : MapI P k w gm n f) (ht : P.underlying t = some (.map k e)) (ty : TypeId) : (Builtin.len_ #[t] ty #[.map (some gm)]).run P w = .ok (.int .i64 (n : Int)) w := by
  obtain ⟨D, h1, hs, _⟩ := h
  rw [h1.len ht ty, hs]
theorem MapI.clear (h : MapI P k w gm n f) (ht : P.underlying t = some (.map k e)) (ty : TypeId) :
    ∃ w', (Builtin.clear_ #[t] ty #[.map (some gm)]).run P w = .ok (.tuple #[]) w' ∧ MapI P k w' gm 0 (fun _ => none) ∧ w.grownBy w' (some gm) := by
  obtain ⟨es, clock, hb⟩ := h.obj
  have hl := h.lt
  refine ⟨setBlock w gm (.map #[] clock), ?_, ⟨.map [], ⟨#[], clock, heap_setBlock_same hb _, ⟨by simp, MapKept.stamped_empty clock, by simp⟩, Nat.le_refl _, rfl⟩, rfl, ⟨fun _ _ => rfl, fun _ _ h => by cases h⟩⟩, ⟨rfl, rfl, rfl, by simp [setBlock], fun i _ hi => heap_setBlock_other hb _ (fun e => hi (by rw [e]))⟩⟩
  simp [Builtin.clear_, run_underlying ht, MapKept.run_getObj_map hb, MapKept.run_setObj_map _ hb, Result.andThen, setBlock]
/-- The keys in order. -/
theorem MapI.keys (h : MapI P k w gm n f) (hk : P.underlying k = some (.int .i64)) : ∃ D, w.ownsMap P k selfI gm n D ∧ Maps.size D = n ∧
    ∀ zs ss : List Int, zs.Pairwise (· < ·) → (∀ x, x ∈ zs ↔ (f x).isSome = true) → ss.Perm (intKeys D) → ss.mergeSort (fun x y => decide (x ≤ y)) = zs ∧ ss.length = n := by
  obtain ⟨D, h1, hs, h2⟩ := h
  refine ⟨D, h1, hs, fun zs ss hz hm hp => ?_⟩
  obtain ⟨es, hD, hpw, _⟩ := h1.entries (int_keyed hk)
  obtain ⟨es', hD', hko⟩ := h1.keysOf
  obtain rfl : es = es' := by rw [hD] at hD'; simpa using hD'
  subst hD
  have hzp : zs.Perm (intKeys (.map es)) := perm_intKeys hpw (fun p hp => by obtain ⟨v, hv⟩ := hko p hp; obtain ⟨x, _, hx, _⟩ := Maps.keyOf_i64 hk hv; exact ⟨x, hx⟩)
    (hz.imp fun hlt => Int.ne_of_lt hlt) (fun x => by rw [hm x, ← h2.has]; rfl)
  refine ⟨?_, ?_⟩
  · have e1 : ss.mergeSort leI = zs.mergeSort leI := mergeSort_of_perm_i (hp.trans hzp.symm)
    have e2 : zs.mergeSort leI = zs := List.mergeSort_of_pairwise (hz.imp fun hlt => by simp only [leI, decide_eq_true_eq]; exact Int.le_of_lt hlt)
    exact e1.trans e2
  · rw [hp.length_eq, ← hs]
    simp [intKeys, Maps.size]
end
end Go.Gar
namespace Go.Proofs.Ytampdfmakhdliaa
open Go.RowKit Go.Gar
open Go.Gar.Dsk (Dsk Sec)

theorem Try.undSec : Try.prog.underlying 70 = some (.struct (Try.prog.fieldsOf 70)) := by kernel_rfl
theorem Try.undSecs : Try.prog.underlying 59 = some (.slice 70) := by kernel_rfl
theorem Try.undMapS : Try.prog.underlying 60 = some (.map 3 70) := by kernel_rfl
theorem Try.undI : Try.prog.underlying 3 = some (.int .i64) := by kernel_rfl
theorem Try.infoSec : (Try.prog.info? 70).map (fun i => (i.zero, i.size, i.bytes)) = some (some (Value.agg (List.replicate 32 (Value.int .u8 0) ++ [Value.int .i64 0]).toArray), 33, 40) := by kernel_rfl
theorem Try.sizeSec : (Try.prog.info? 70).map (·.size) = some 33 := by kernel_rfl
/-- A sector's cells. -/
def secV (b : List UInt8) (a : Nat) : List Value := u8s b ++ [.int .i64 (a : Int)]
theorem secV_len {b : List UInt8} (h : b.length = 32) (a : Nat) : (secV b a).length = 33 := by simp [secV, u8s_len, h]
theorem secV_one (b : List UInt8) (a : Nat) : ∀ u ∈ secV b a, u.oneCell' = true := by
  intro u hu
  rcases List.mem_append.1 hu with h | h
  · exact u8s_one b u h
  · obtain rfl := List.mem_singleton.1 h
    rfl
def zsec : Value := .agg (secV Dsk.zero32 0).toArray
theorem zero_sec (w : World) : (zeroValue 70).run Try.prog w = .ok zsec w := by
  obtain ⟨i, hi, hz⟩ := Option.map_eq_some_iff.1 Try.infoSec
  have h2 : (Try.prog.info? 70).map (fun i => (i.zero, i.size)) = some (some zsec, 33) := by
    rw [hi]
    simp only [Prod.mk.injEq] at hz
    rw [Option.map_some, hz.1, hz.2.1]
    rfl
  exact (zero_of_info h2).1 w
/-- The cells of sectors. -/
def durV (l : List (List UInt8 × Nat)) : List Value := l.flatMap fun p => secV p.1 p.2
theorem durV_len {l : List (List UInt8 × Nat)} (h : ∀ p ∈ l, p.1.length = 32) : (durV l).length = 33 * l.length := by
  induction l with
  | nil => rfl
  | cons p r ih =>
    have e : durV (p :: r) = secV p.1 p.2 ++ durV r := rfl
    rw [e, List.length_append, secV_len (h p (by simp)), ih (fun q hq => h q (by simp [hq]))]
    simp only [List.length_cons]; omega
theorem durV_get {l : List (List UInt8 × Nat)} (h : ∀ p ∈ l, p.1.length = 32) : ∀ {k : Nat} {p : List UInt8 × Nat}, l[k]? = some p → ∀ j v, (secV p.1 p.2)[j]? = some v → (durV l)[33 * k + j]? = some v := by
  induction l with
  | nil => intro k p hk; cases hk
  | cons q r ih =>
    intro k p hk j v hj
    have e : durV (q :: r) = secV q.1 q.2 ++ durV r := rfl
    have hq := secV_len (h q (by simp)) q.2
    cases k with
    | zero =>
      obtain rfl : q = p := by simpa using hk
      rw [e, Nat.mul_zero, Nat.zero_add, List.getElem?_append_left (List.getElem?_eq_some_iff.1 hj).1]
      exact hj
    | succ k =>
      rw [e, List.getElem?_append_right (by omega), hq, show 33 * (k + 1) + j - 33 = 33 * k + j by omega]
      exact ih (fun x hx => h x (by simp [hx])) (by simpa using hk) j v hj
/-- A sector laid anew. -/
theorem durV_set {l : List (List UInt8 × Nat)} (h : ∀ p ∈ l, p.1.length = 32) : ∀ {k : Nat}, k < l.length → ∀ p : List UInt8 × Nat, p.1.length = 32 → seg (durV l) (33 * k) (secV p.1 p.2) = durV (l.set k p) := by
  induction l with
  | nil => intro k hk; simp at hk
  | cons q r ih =>
    intro k hk p hp
    have e : durV (q :: r) = secV q.1 q.2 ++ durV r := rfl
    have hq := secV_len (h q (by simp)) q.2
    have hpl := secV_len hp p.2
    cases k with
    | zero =>
      rw [List.set_cons_zero]
      show seg (durV (q :: r)) 0 (secV p.1 p.2) = secV p.1 p.2 ++ durV r
      unfold seg
      rw [e, List.take_zero, List.nil_append, Nat.zero_add, hpl, List.drop_append_of_le_length (by omega), List.drop_of_length_le (by omega), List.nil_append]
    | succ k =>
      rw [List.set_cons_succ]
      show _ = secV q.1 q.2 ++ durV (r.set k p)
      rw [← ih (fun x hx => h x (by simp [hx])) (by simpa using hk) p hp]
      unfold seg
      rw [e, hpl, List.take_append, List.drop_append, hq, List.take_of_length_le (by omega), List.drop_of_length_le (by omega)]
      rw [show 33 * (k + 1) - 33 = 33 * k by omega, show 33 * (k + 1) + 33 - 33 = 33 * k + 33 by omega]
      simp [List.append_assoc]

/-- The disk's blocks: the struct, the durable sectors, the pending ones. -/
structure DiskB (w : World) (F : Nat → Prop) (g gd gm : Nat) (fb : Bool) (left : Int) (m many : Nat) (du : List (List UInt8 × Nat)) (n : Nat) (f : Int → Option Value) : Prop where
  blk : Blk w g 64 [.bool fb, .int .i64 left, .slice (some ⟨gd, 0, none⟩) m m, .map (some gm), .int .i64 (many : Int)]
  dur : Blk w gd 70 (durV du)
  map : MapI Try.prog 3 w gm n f
  len : du.length = m
  thin : ∀ p ∈ du, p.1.length = 32
  max : m ≤ 4096
  own : ∀ k, F k ↔ k = g ∨ k = gd ∨ k = gm
section
variable {w w' : World} {F : Nat → Prop} {g gd gm m many n : Nat} {fb : Bool} {left : Int} {du : List (List UInt8 × Nat)} {f : Int → Option Value}
theorem DiskB.keep (h : DiskB w F g gd gm fb left m many du n f) (hk : ∀ k, F k → w'.heap[k]? = w.heap[k]?) : DiskB w' F g gd gm fb left m many du n f :=
  ⟨(hk g ((h.own g).2 (.inl rfl))).trans h.blk, (hk gd ((h.own gd).2 (.inr (.inl rfl)))).trans h.dur, h.map.block (hk gm ((h.own gm).2 (.inr (.inr rfl)))), h.len, h.thin, h.max, h.own⟩
theorem DiskB.lt (h : DiskB w F g gd gm fb left m many du n f) : ∀ k, F k → k < w.heap.size := fun k hk => by
  rcases (h.own k).1 hk with rfl | rfl | rfl
  · exact h.blk.lt
  · exact h.dur.lt
  · exact h.map.lt
theorem DiskB.below (h : DiskB w F g gd gm fb left m many du n f) (hb : Below w.heap.size w w') : DiskB w' F g gd gm fb left m many du n f := h.keep fun k hk => hb.block k (h.lt k hk)
theorem DiskB.gdg (h : DiskB w F g gd gm fb left m many du n f) : gd ≠ g := h.dur.ne h.blk (by decide)
theorem DiskB.ggm (h : DiskB w F g gd gm fb left m many du n f) : g ≠ gm := h.map.ne h.blk
theorem DiskB.gdm (h : DiskB w F g gd gm fb left m many du n f) : gd ≠ gm := h.map.ne h.dur
theorem DiskB.fg (h : DiskB w F g gd gm fb left m many du n f) : F g := (h.own g).2 (.inl rfl)
theorem DiskB.fgd (h : DiskB w F g gd gm fb left m many du n f) : F gd := (h.own gd).2 (.inr (.inl rfl))
theorem DiskB.fgm (h : DiskB w F g gd gm fb left m many du n f) : F gm := (h.own gm).2 (.inr (.inr rfl))
theorem DiskB.cells (h : DiskB w F g gd gm fb left m many du n f) : w.cell? ⟨g, 0, none⟩ = some (.bool fb) ∧ w.cell? ⟨g, 1, none⟩ = some (.int .i64 left) ∧ w.cell? ⟨g, 2, none⟩ = some (.slice (some ⟨gd, 0, none⟩) m m) ∧ w.cell? ⟨g, 3, none⟩ = some (.map (some gm)) ∧ w.cell? ⟨g, 4, none⟩ = some (.int .i64 (many : Int)) :=
  ⟨h.blk.cell 0, h.blk.cell 1, h.blk.cell 2, h.blk.cell 3, h.blk.cell 4⟩
/-- A durable sector, loaded. -/
theorem DiskB.load (h : DiskB w F g gd gm fb left m many du n f) {k : Nat} {p : List UInt8 × Nat} (hk : du[k]? = some p) : (loadVar 70 ⟨gd, k * 33, none⟩).run Try.prog w = .ok (.agg (secV p.1 p.2).toArray) w :=
  run_loadVar_seg (P := Try.prog) gd (k * 33) _ _ h.dur (fun j v hj => by rw [Nat.mul_comm]; exact durV_get h.thin hk j v hj) Try.undSec rfl (by rw [Try.sizeSec, secV_len (h.thin p (List.mem_of_getElem? hk))])
theorem DiskB.setCell (h : DiskB w F g gd gm fb left m many du n f) {i : Nat} {v : Value} {fb' : Bool} {left' : Int} {many' : Nat}
    (hi : [.bool fb, .int .i64 left, .slice (some ⟨gd, 0, none⟩) m m, .map (some gm), .int .i64 (many : Int)].set i v = [.bool fb', .int .i64 left', .slice (some ⟨gd, 0, none⟩) m m, .map (some gm), .int .i64 (many' : Int)]) : DiskB (w.setCell ⟨g, i, none⟩ v) F g gd gm fb' left' m many' du n f :=
  ⟨by have := h.blk.set_ i v; rw [hi] at this; exact this, h.dur.far (p := ⟨g, i, none⟩) h.gdg _, h.map.block (Below.heap_setCell w ⟨g, i, none⟩ v gm (fun e => h.ggm e.symm)), h.len, h.thin, h.max, h.own⟩
end

def sureL (d : Dsk) : List (List UInt8 × Nat) := d.secs.map fun s => (s.sure, s.old)
def pendF (d : Dsk) (x : Int) : Option Value := if Dsk.there d x && (Dsk.at_ d x).wet then some (.agg (secV (Dsk.at_ d x).good (Dsk.at_ d x).age).toArray) else none
def FuseI (fb : Bool) (left : Int) (o : Option Nat) : Prop := isI64 left ∧ ((fb = false ∧ o = none) ∨ ∃ n : Nat, fb = true ∧ left = (n : Int) ∧ o = some n)
/-- A disk in memory. -/
def RepD (w : World) (F : Nat → Prop) (g : Nat) (d : Dsk) : Prop := ∃ gd gm fb left, DiskB w F g gd gm fb left d.secs.length d.many (sureL d) (Dsk.pending d) (pendF d) ∧ FuseI fb left d.fuse ∧ Dsk.Ok d
theorem repD_rep : DiskRep RepD where
  ok := fun h => by obtain ⟨_, _, _, _, _, _, h⟩ := h; exact h
  lt := fun h => by obtain ⟨_, _, _, _, h, _, _⟩ := h; exact h.lt
  keep := fun h hk => by
    obtain ⟨gd, gm, fb, left, h1, h2⟩ := h
    exact ⟨gd, gm, fb, left, h1.keep hk, h2⟩
theorem pend_le (d : Dsk) (h : Dsk.Ok d) : Dsk.pending d ≤ 4096 := Nat.le_trans (List.length_filter_le _ _) h.len
theorem sure_thin {d : Dsk} (h : Dsk.Ok d) : ∀ p ∈ sureL d, p.1.length = 32 := fun p hp => by
  obtain ⟨s, hs, rfl⟩ := List.mem_map.1 hp
  exact (h.secs s hs).sure
end Go.Proofs.Ytampdfmakhdliaa
namespace Go.Proofs.Ytampdfmakhdliaa
open Go.RowKit Go.Gar
open Go.Gar.Dsk (Dsk Sec)

theorem size_any {w : World} {F : Nat → Prop} {g : Nat} {d : Dsk} (h : RepD w F g d) :
    Calls Try.prog 11 #[ptr g] w fun e w' => e = .returned (.int .i64 (d.secs.length : Int)) ∧ w' = w := by
  obtain ⟨gd, gm, fb, left, h, _, _⟩ := h
  obtain ⟨m, hm⟩ : ∃ m, d.secs.length = m := ⟨_, rfl⟩
  rw [hm] at h ⊢
  obtain ⟨_, _, q2, _, _⟩ := h.cells
  clear h hm
  unfold ptr
  go_enter Try.func11, Try.ntmps11
  go_wp2
  go_ret
  exact ⟨rfl, rfl⟩
theorem writes_any {w : World} {F : Nat → Prop} {g : Nat} {d : Dsk} (h : RepD w F g d) :
    Calls Try.prog 26 #[ptr g] w fun e w' => e = .returned (.int .i64 ((d.many : Nat) : Int)) ∧ Below w.heap.size w w' := by
  obtain ⟨gd, gm, fb, left, h, _, _⟩ := h
  obtain ⟨m, hm⟩ : ∃ m, d.many = m := ⟨_, rfl⟩
  rw [hm] at h ⊢
  obtain ⟨_, _, _, _, q4⟩ := h.cells
  clear h hm
  unfold ptr
  go_enter Try.func26, Try.ntmps26
  go_wp2
  go_ret
  exact ⟨rfl, Below.refl _ _⟩
theorem pending_any {w : World} {F : Nat → Prop} {g : Nat} {d : Dsk} (h : RepD w F g d) :
    Calls Try.prog 24 #[ptr g] w fun e w' => e = .returned (.int .i64 ((Dsk.pending d : Nat) : Int)) ∧ Below w.heap.size w w' := by
  obtain ⟨gd, gm, fb, left, h, _, _⟩ := h
  obtain ⟨m, hm⟩ : ∃ m, Dsk.pending d = m := ⟨_, rfl⟩
  rw [hm] at h ⊢
  obtain ⟨_, _, _, q3, _⟩ := h.cells
  have hl := h.map.len Try.undMapS 3
  clear h hm
  unfold ptr
  go_enter Try.func24, Try.ntmps24
  go_wp2
  go_ret
  exact ⟨rfl, Below.refl _ _⟩
theorem has_any {w : World} {F : Nat → Prop} {g : Nat} {d : Dsk} (h : RepD w F g d) (i : Int) :
    Calls Try.prog 37 #[ptr g, .int .i64 i] w fun e w' => e = .returned (.bool (Dsk.there d i)) ∧ w' = w := by
  have hs := size_any h
  obtain ⟨m, hm⟩ : ∃ m, d.secs.length = m := ⟨_, rfl⟩
  have ht : Dsk.there d i = (decide (0 ≤ i) && decide (i < (m : Int))) := by rw [← hm]; rfl
  rw [ht]
  rw [hm] at hs
  have Hs := Lib.hid hs
  clear h hs hm ht
  by_cases h0 : 0 ≤ i
  · have d0 : decide (0 ≤ i) = true := by simpa using h0
    have d1 : decide (i ≥ 0) = true := d0
    rw [d0, Bool.true_and]
    unfold ptr at *
    go_enter Try.func37, Try.ntmps37
    go_wp2_with fail
    refine Hs.out.mono ?_
    rintro e w1 ⟨rfl, rfl⟩
    go_wp2
    go_ret
    exact ⟨rfl, rfl⟩
  · have d0 : decide (0 ≤ i) = false := by simpa using h0
    have d1 : decide (i ≥ 0) = false := d0
    rw [d0, Bool.false_and]
    unfold ptr at *
    go_enter Try.func37, Try.ntmps37
    go_wp2
    go_ret
    exact ⟨rfl, rfl⟩
end Go.Proofs.Ytampdfmakhdliaa
namespace Go.Proofs.Ytampdfmakhdliaa
open Go.RowKit Go.Gar
open Go.Gar.Dsk (Dsk Sec)

theorem sure_get {d : Dsk} {k : Nat} {s : Sec} (h : d.secs[k]? = some s) : (sureL d)[k]? = some (s.sure, s.old) := by
  unfold sureL
  rw [List.getElem?_map, h]; rfl
theorem pendF_at {d : Dsk} {k : Nat} {s : Sec} (h : d.secs[k]? = some s) : pendF d (k : Int) = if s.wet then some (.agg (secV s.good s.age).toArray) else none := by
  have hk := (List.getElem?_eq_some_iff.1 h).1
  have ht : Dsk.there d (k : Int) = true := by unfold Dsk.there; simp; omega
  have hs : Dsk.at_ d (k : Int) = s := by
    have := Dsk.at_get ht
    rw [show ((k : Nat) : Int).toNat = k from rfl, h] at this
    exact (Option.some.inj this).symm
  unfold pendF
  rw [ht, hs, Bool.true_and]
set_option maxHeartbeats 1000000 in
set_option maxRecDepth 100000 in
theorem last_any {w : World} {F : Nat → Prop} {g : Nat} {d : Dsk} (h : RepD w F g d) (k : Nat) (s : Sec) (hs : d.secs[k]? = some s) :
    Calls Try.prog 38 #[ptr g, .int .i64 (k : Int)] w fun e w' => e = .returned (.agg (secV s.good s.age).toArray) ∧ Below w.heap.size w w' := by
  obtain ⟨gd, gm, fb, left, h, _, hok⟩ := h
  obtain ⟨m, hm⟩ : ∃ m, d.secs.length = m := ⟨_, rfl⟩
  rw [hm] at h
  have hk : k < m := by rw [← hm]; exact (List.getElem?_eq_some_iff.1 hs).1
  have hm4 := h.max
  have hf := hok.secs s (List.mem_of_getElem? hs)
  have hi : -9223372036854775808 ≤ (k : Int) ∧ (k : Int) ≤ 9223372036854775807 := by omega
  obtain ⟨_, _, q2, q3, _⟩ := h.cells
  have hgl := h.blk.lt
  have hb0 := below_alloc w (.cells (secV Dsk.zero32 0).toArray 70)
  have h1 := h.below hb0
  have p2 := h1.cells.2.2.1
  have p3 := h1.cells.2.2.2.1
  have hlk := h1.map.lookOk Try.undI Try.undMapS zero_sec hi
  rw [pendF_at hs] at hlk
  have B0 : Blk (w.alloc (.cells (secV Dsk.zero32 0).toArray 70)) w.heap.size 70 (secV Dsk.zero32 0) := Blk.new _ _ _
  cases hw : s.wet with
  | true =>
    rw [hw] at hlk
    simp only [if_true, Option.getD_some, Option.isSome_some] at hlk
    obtain ⟨X, hX⟩ : ∃ X, secV s.good s.age = X := ⟨_, rfl⟩
    have hXl : X.length = 33 := by rw [← hX]; exact secV_len hf.good _
    have hX1 : ∀ u ∈ X, u.oneCell' = true := by rw [← hX]; exact secV_one _ _
    rw [hX] at hlk ⊢
    obtain ⟨W1, hW1⟩ : ∃ W1, w.alloc (.cells (secV Dsk.zero32 0).toArray 70) = W1 := ⟨_, rfl⟩
    rw [hW1] at hlk h1 p2 p3 hb0 B0
    have hs1 : W1.heap.size = w.heap.size + 1 := by rw [← hW1]; simp
    have B1 : Blk (W1.alloc (.cells (secV Dsk.zero32 0).toArray 70)) W1.heap.size 70 (secV Dsk.zero32 0) := Blk.new _ _ _
    have hsz : (Try.prog.info? 70).map (·.size) = some X.length := by rw [hXl]; exact Try.sizeSec
    have B2 : Blk ((W1.alloc (.cells (secV Dsk.zero32 0).toArray 70)).setRow W1.heap.size X.toArray) W1.heap.size 70 X := B1.row X
    have hne : w.heap.size ≠ W1.heap.size := by omega
    have B3 : Blk ((W1.alloc (.cells (secV Dsk.zero32 0).toArray 70)).setRow W1.heap.size X.toArray) w.heap.size 70 (secV Dsk.zero32 0) := (B0.alloc _).rowFar hne _
    have hb3 : Below w.heap.size w ((W1.alloc (.cells (secV Dsk.zero32 0).toArray 70)).setRow W1.heap.size X.toArray) := (hb0.alloc (by omega) _).grown (row := some W1.heap.size) ⟨rfl, rfl, rfl, by simp [World.setRow], fun j _ hj => setRow_other _ _ _ _ (fun e => hj (by rw [e]))⟩ (by simp; omega) (fun j e => by obtain rfl := Option.some.inj e; omega)
    obtain ⟨W3, hW3⟩ : ∃ W3, (W1.alloc (.cells (secV Dsk.zero32 0).toArray 70)).setRow W1.heap.size X.toArray = W3 := ⟨_, rfl⟩
    rw [hW3] at B2 B3 hb3
    have hl3 := run_loadVar_seg (P := Try.prog) W1.heap.size 0 X X B2 (fun j v hj => by rw [Nat.zero_add]; exact hj) Try.undSec rfl hsz
    have B4 : Blk (W3.setRow w.heap.size X.toArray) w.heap.size 70 X := B3.row X
    have hb4 : Below w.heap.size w (W3.setRow w.heap.size X.toArray) := hb3.grown (row := some w.heap.size) ⟨rfl, rfl, rfl, by simp [World.setRow], fun j _ hj => setRow_other _ _ _ _ (fun e => hj (by rw [e]))⟩ hb3.size (fun j e => by obtain rfl := Option.some.inj e; omega)
    have hzl : (secV Dsk.zero32 0).length = X.length := by rw [hXl]; rfl
    have HB1 := Lib.hid B1
    have HB3 := Lib.hid B3
    have HX1 := Lib.hid hX1
    have Hsz := Lib.hid hsz
    have Hzl := Lib.hid hzl
    have Hb4 := Lib.hid hb4
    have HB4 := Lib.hid B4
    have HW1 := Lib.hid hW1
    have HW3 := Lib.hid hW3
    have Hl3 := Lib.hid hl3
    clear hs hok hf hi h h1 hX hw hm hb0 B0 B1 B2 B3 B4 hX1 hXl hs1 q2 q3 hgl hm4 hb3 hb4 hl3 hzl hsz hne hW1 hW3
    unfold ptr
    go_enter Try.func38, Try.ntmps38
    go_wp2_with (first
      | (refine wpList_alloc_arr rfl 70 (secV Dsk.zero32 0).toArray rfl zero_sec ?_; rw [HW1.out])
      | refine wpList_alloc_arr rfl 70 (secV Dsk.zero32 0).toArray rfl zero_sec ?_
      | refine wpList_lookup_run rfl 60 (.tmp 11) (.tmp 12) true rfl rfl rfl hlk ?_
      | (refine wpList_store_arr rfl 70 (.tmp 5) (.tmp 14) W1.heap.size _ X rfl rfl rfl rfl HB1.out Hsz.out Hzl.out HX1.out ?_; rw [HW3.out])
      | refine wpList_load_at 70 (.tmp 5) rfl rfl X.toArray Hl3.out (by kernel_rfl) ?_
      | refine wpList_store_arr rfl 70 (.tmp 4) (.tmp 17) w.heap.size _ X rfl rfl rfl rfl HB3.out Hsz.out Hzl.out HX1.out ?_)
    refine bodyPost_ret (v := .agg X.toArray) ?_ rfl ⟨rfl, Hb4.out⟩
    exact results_cell_row rfl _ _ w.heap.size 70 X.toArray (0, 0) _ rfl HB4.out Try.undSec rfl (by simpa using Hsz.out)
  | false =>
    obtain ⟨hd1, hd2⟩ := hf.dry hw
    have hg0 := sure_get hs
    rw [hd1, hd2] at hg0
    rw [hw] at hlk
    simp only [Bool.false_eq_true, if_false, Option.getD_none, Option.isSome_none] at hlk
    obtain ⟨X, hX⟩ : ∃ X, secV s.good s.age = X := ⟨_, rfl⟩
    have hXl : X.length = 33 := by rw [← hX]; exact secV_len hf.good _
    have hX1 : ∀ u ∈ X, u.oneCell' = true := by rw [← hX]; exact secV_one _ _
    obtain ⟨Z, hZ⟩ : ∃ Z, secV Dsk.zero32 0 = Z := ⟨_, rfl⟩
    have hZl : Z.length = 33 := by rw [← hZ]; rfl
    have hZ1 : ∀ u ∈ Z, u.oneCell' = true := by rw [← hZ]; exact secV_one _ _
    have hzz : zsec = .agg Z.toArray := by rw [← hZ]; rfl
    have hz0 : ∀ W, (zeroValue 70).run Try.prog W = .ok (.agg Z.toArray) W := fun W => by rw [← hzz]; exact zero_sec W
    rw [hzz] at hlk
    rw [hZ] at hlk h1 p2 p3 hb0 B0
    rw [hX]
    have hsz : (Try.prog.info? 70).map (·.size) = some X.length := by rw [hXl]; exact Try.sizeSec
    have hszZ : (Try.prog.info? 70).map (·.size) = some Z.length := by rw [hZl]; exact Try.sizeSec
    obtain ⟨W1, hW1⟩ : ∃ W1, w.alloc (.cells Z.toArray 70) = W1 := ⟨_, rfl⟩
    rw [hW1] at hlk h1 p2 p3 hb0 B0
    have hs1 : W1.heap.size = w.heap.size + 1 := by rw [← hW1]; simp
    have B1 : Blk (W1.alloc (.cells Z.toArray 70)) W1.heap.size 70 Z := Blk.new _ _ _
    have hne : w.heap.size ≠ W1.heap.size := by omega
    have hF : ∀ j, F j → j < w.heap.size := h.lt
    have B3 : Blk ((W1.alloc (.cells Z.toArray 70)).setRow W1.heap.size Z.toArray) w.heap.size 70 Z := (B0.alloc _).rowFar hne _
    have hb3 : Below w.heap.size w ((W1.alloc (.cells Z.toArray 70)).setRow W1.heap.size Z.toArray) := (hb0.alloc (by omega) _).grown (row := some W1.heap.size) ⟨rfl, rfl, rfl, by simp [World.setRow], fun j _ hj => setRow_other _ _ _ _ (fun e => hj (by rw [e]))⟩ (by simp; omega) (fun j e => by obtain rfl := Option.some.inj e; omega)
    obtain ⟨W3, hW3⟩ : ∃ W3, (W1.alloc (.cells Z.toArray 70)).setRow W1.heap.size Z.toArray = W3 := ⟨_, rfl⟩
    rw [hW3] at B3 hb3
    have h3 := h.below hb3
    have q3w := h3.cells.2.2.1
    have hl := h3.load hg0
    simp only [hX] at hl
    have B4 : Blk (W3.setRow w.heap.size X.toArray) w.heap.size 70 X := B3.row X
    have hb4 : Below w.heap.size w (W3.setRow w.heap.size X.toArray) := hb3.grown (row := some w.heap.size) ⟨rfl, rfl, rfl, by simp [World.setRow], fun j _ hj => setRow_other _ _ _ _ (fun e => hj (by rw [e]))⟩ hb3.size (fun j e => by obtain rfl := Option.some.inj e; omega)
    have hzl : Z.length = X.length := by rw [hXl, hZl]
    have HB1 := Lib.hid B1
    have HB3 := Lib.hid B3
    have HB4 := Lib.hid B4
    have HX1 := Lib.hid hX1
    have HZ1 := Lib.hid hZ1
    have Hsz := Lib.hid hsz
    have HszZ := Lib.hid hszZ
    have Hzl := Lib.hid hzl
    have Hb4 := Lib.hid hb4
    have HW1 := Lib.hid hW1
    have HW3 := Lib.hid hW3
    have Hl := Lib.hid hl
    have Hz0 := Lib.hid hz0
    clear hs hok hf hi h h1 h3 hX hw hm hb0 B0 B1 B3 B4 hX1 hXl hs1 q2 q3 hgl hm4 hb3 hb4 hl hzl hsz hne hW1 hW3 hZ hZl hZ1 hzz hszZ hd1 hd2 hg0 hF hz0
    unfold ptr
    go_enter Try.func38, Try.ntmps38
    go_wp2_with (first
      | (refine wpList_alloc_arr rfl 70 Z.toArray rfl Hz0.out ?_; rw [HW1.out])
      | refine wpList_alloc_arr rfl 70 Z.toArray rfl Hz0.out ?_
      | refine wpList_lookup_run rfl 60 (.tmp 11) (.tmp 12) true rfl rfl rfl hlk ?_
      | (refine wpList_store_arr rfl 70 (.tmp 5) (.tmp 14) W1.heap.size _ Z rfl rfl rfl rfl HB1.out HszZ.out rfl HZ1.out ?_; rw [HW3.out])
      | refine wpList_load_at 70 (.tmp 23) rfl rfl X.toArray Hl.out (by kernel_rfl) ?_
      | refine wpList_store_arr rfl 70 (.tmp 4) (.tmp 24) w.heap.size _ X rfl rfl rfl rfl HB3.out Hsz.out Hzl.out HX1.out ?_)
    refine bodyPost_ret (v := .agg X.toArray) ?_ rfl ⟨rfl, Hb4.out⟩
    exact results_cell_row rfl _ _ w.heap.size 70 X.toArray (0, 0) _ rfl HB4.out Try.undSec rfl (by simpa using Hsz.out)
end Go.Proofs.Ytampdfmakhdliaa
namespace Go.Proofs.Ytampdfmakhdliaa
open Go.RowKit Go.Gar
open Go.Gar.Dsk (Dsk Sec)

theorem at_of {d : Dsk} {k : Nat} {s : Sec} (h : d.secs[k]? = some s) : Dsk.there d (k : Int) = true ∧ Dsk.at_ d (k : Int) = s := by
  have hk := (List.getElem?_eq_some_iff.1 h).1
  have ht : Dsk.there d (k : Int) = true := by unfold Dsk.there; simp; omega
  refine ⟨ht, ?_⟩
  have := Dsk.at_get ht
  rw [show ((k : Nat) : Int).toNat = k from rfl, h] at this
  exact (Option.some.inj this).symm
theorem there_sec {d : Dsk} {i : Int} (h : Dsk.there d i = true) : ∃ (k : Nat) (s : Sec), i = (k : Int) ∧ d.secs[k]? = some s := by
  rcases there_cases d i with ⟨_, ht⟩ | ⟨_, _, ht⟩ | ⟨k, rfl, hk, _⟩
  · rw [ht] at h; cases h
  · rw [ht] at h; cases h
  · exact ⟨k, _, rfl, List.getElem?_eq_getElem hk⟩
theorem Try.undSecF : (Try.prog.fieldsOf 70).toList.map (fun f => (f.type, f.offset)) = [(68, 0), (3, 32)] := by kernel_rfl
theorem Try.sizeA32 : (Try.prog.info? 68).map (·.size) = some 32 := by kernel_rfl
theorem Try.undA32 : Try.prog.underlying 68 = some (.array 32 5) := by kernel_rfl
theorem sec_fields : ∃ f0 f1 : Field, (Try.prog.fieldsOf 70)[0]? = some f0 ∧ (Try.prog.fieldsOf 70)[1]? = some f1 ∧ f0.type = 68 ∧ f0.offset = 0 ∧ f1.type = 3 ∧ f1.offset = 32 := by
  have h := Try.undSecF
  have h0 := congrArg (fun l => l[0]?) h
  have h1 := congrArg (fun l => l[1]?) h
  simp only [List.getElem?_map, List.getElem?_cons_zero, List.getElem?_cons_succ, Option.map_eq_some_iff] at h0 h1
  obtain ⟨f0, e0, p0⟩ := h0
  obtain ⟨f1, e1, p1⟩ := h1
  simp only [Prod.mk.injEq] at p0 p1
  exact ⟨f0, f1, by simpa using e0, by simpa using e1, p0.1, p0.2, p1.1, p1.2⟩
theorem field_content {b : List UInt8} (hb : b.length = 32) (a : Nat) (w : World) : (Instr.field 70 (.agg (secV b a).toArray) 0).run Try.prog w = .ok (.agg (u8s b).toArray) w := by
  obtain ⟨f0, f1, e0, e1, t0, o0, t1, o1⟩ := sec_fields
  obtain ⟨i, hi, hs⟩ := Option.map_eq_some_iff.1 Try.sizeA32
  have hx : (secV b a).take 32 = u8s b := by
    unfold secV
    rw [List.take_append_of_le_length (by rw [u8s_len]; omega), List.take_of_length_le (by rw [u8s_len]; omega)]
  simp [Instr.field, run_underlying Try.undSec w, e0, t0, o0, part, isAgg, run_underlying Try.undA32 w, asAgg, sizeOf, typeInfo, hi, hs, Result.andThen]
  exact hx
theorem field_since {b : List UInt8} (hb : b.length = 32) (a : Nat) (w : World) : (Instr.field 70 (.agg (secV b a).toArray) 1).run Try.prog w = .ok (.int .i64 (a : Int)) w := by
  obtain ⟨f0, f1, e0, e1, t0, o0, t1, o1⟩ := sec_fields
  have hx : (secV b a)[32]? = some (.int .i64 (a : Int)) := by
    unfold secV
    rw [List.getElem?_append_right (by rw [u8s_len]; omega), u8s_len, hb]; rfl
  simp [Instr.field, run_underlying Try.undSec w, e1, t1, o1, part, isAgg, run_underlying Try.undI w, asAgg, hx, Result.andThen]
set_option maxHeartbeats 1000000 in
set_option maxRecDepth 100000 in
theorem since_any {w : World} {F : Nat → Prop} {g : Nat} {d : Dsk} (h : RepD w F g d) (i : Int) :
    Calls Try.prog 22 #[ptr g, .int .i64 i] w fun e w' => e = .returned (.int .i64 ((Dsk.since d i : Nat) : Int)) ∧ Below w.heap.size w w' := by
  have hh := has_any h i
  cases ht : Dsk.there d i with
  | false =>
    have hs : Dsk.since d i = 0 := by unfold Dsk.since; rw [ht]; rfl
    rw [hs]
    rw [ht] at hh
    have Hh := Lib.hid hh
    clear h hh hs ht
    unfold ptr at *
    go_enter Try.func22, Try.ntmps22
    go_wp2_with fail
    refine Hh.out.mono ?_
    rintro e w1 ⟨rfl, rfl⟩
    go_wp2
    go_ret
    exact ⟨rfl, Below.refl _ _⟩
  | true =>
    obtain ⟨k, s, rfl, hk⟩ := there_sec ht
    have hs : Dsk.since d (k : Int) = s.age := by unfold Dsk.since; rw [if_pos ht, (at_of hk).2]
    have hl := last_any h k s hk
    rw [hs]
    rw [ht] at hh
    have hgl : s.good.length = 32 := by
      obtain ⟨_, _, _, _, _, _, hok⟩ := h
      exact (hok.secs s (List.mem_of_getElem? hk)).good
    have Hh := Lib.hid hh
    have Hl := Lib.hid hl
    clear h hh hs ht hl hk
    unfold ptr at *
    go_enter Try.func22, Try.ntmps22
    go_wp2_with fail
    refine Hh.out.mono ?_
    rintro e w1 ⟨rfl, rfl⟩
    go_wp2_with fail
    refine Hl.out.mono ?_
    rintro e w2 ⟨rfl, hb2⟩
    have Hb2 := Lib.hid hb2
    clear hb2
    have hfd := field_since hgl s.age w2
    go_wp2
    go_ret
    exact ⟨rfl, Hb2.out⟩
theorem zero_A32 (w : World) : (zeroValue 68).run Try.prog w = .ok (.agg (u8s Dsk.zero32).toArray) w := by
  have h : (Try.prog.info? 68).map (fun i => (i.zero, i.size)) = some (some (.agg (List.replicate 32 (Value.int .u8 0)).toArray), 32) := by kernel_rfl
  have := (zero_of_info h).1 w
  rw [this]
  rfl
set_option maxHeartbeats 1000000 in
set_option maxRecDepth 100000 in
theorem read_any {w : World} {F : Nat → Prop} {g : Nat} {d : Dsk} (h : RepD w F g d) (i : Int) :
    Calls Try.prog 20 #[ptr g, .int .i64 i] w fun e w' => ∃ v, e = .returned (.tuple #[v, .int .i64 ((Dsk.readE d i : Nat) : Int)]) ∧ OutF w' F v (Dsk.read d i) ∧ Below w.heap.size w w' := by
  have hh := has_any h i
  cases ht : Dsk.there d i with
  | false =>
    have hs : Dsk.readE d i = 1 := by unfold Dsk.readE; rw [ht]; rfl
    have hs2 : Dsk.read d i = [] := by unfold Dsk.read; rw [ht]; rfl
    rw [hs, hs2]
    rw [ht] at hh
    have Hh := Lib.hid hh
    clear h hh hs hs2 ht
    unfold ptr at *
    go_enter Try.func20, Try.ntmps20
    go_wp2_with fail
    refine Hh.out.mono ?_
    rintro e w1 ⟨rfl, rfl⟩
    go_wp2
    go_ret2
    exact ⟨_, rfl, ⟨none, 0, rfl, Nat.le_refl _, .inl rfl, fun p hp => by cases hp⟩, Below.refl _ _⟩
  | true =>
    obtain ⟨k, s, rfl, hk⟩ := there_sec ht
    have hs : Dsk.readE d (k : Int) = 0 := by unfold Dsk.readE; rw [if_pos ht]
    have hs2 : Dsk.read d (k : Int) = s.good := by unfold Dsk.read; rw [if_pos ht, (at_of hk).2]
    have hl := last_any h k s hk
    rw [hs, hs2]
    rw [ht] at hh
    have hF := repD_rep.lt h
    have hgl : s.good.length = 32 := by
      obtain ⟨_, _, _, _, _, _, hok⟩ := h
      exact (hok.secs s (List.mem_of_getElem? hk)).good
    have Hh := Lib.hid hh
    have Hl := Lib.hid hl
    have HF := Lib.hid hF
    clear h hh hs hs2 ht hl hk hF
    unfold ptr at *
    go_enter Try.func20, Try.ntmps20
    go_wp2_with fail
    refine Hh.out.mono ?_
    rintro e w1 ⟨rfl, rfl⟩
    go_wp2_with fail
    refine Hl.out.mono ?_
    rintro e w2 ⟨rfl, hb2⟩
    have hfd := field_content hgl s.age w2
    obtain ⟨b, hb⟩ : ∃ b, s.good = b := ⟨_, rfl⟩
    rw [hb] at hfd hgl ⊢
    have B1 : Blk (w2.alloc (.cells (u8s Dsk.zero32).toArray 68)) w2.heap.size 68 (u8s Dsk.zero32) := Blk.new _ _ _
    have hsz : (Try.prog.info? 68).map (·.size) = some (u8s b).length := by rw [u8s_len, hgl]; exact Try.sizeA32
    have B2 : Blk ((w2.alloc (.cells (u8s Dsk.zero32).toArray 68)).setRow w2.heap.size (u8s b).toArray) w2.heap.size 68 (u8s b) := B1.row _
    have hb3 : Below w1.heap.size w1 ((w2.alloc (.cells (u8s Dsk.zero32).toArray 68)).setRow w2.heap.size (u8s b).toArray) := (hb2.alloc hb2.size _).grown (row := some w2.heap.size) ⟨rfl, rfl, rfl, by simp [World.setRow], fun j _ hj => setRow_other _ _ _ _ (fun e => hj (by rw [e]))⟩ (by have := hb2.size; simp; omega) (fun j e => by obtain rfl := Option.some.inj e; exact hb2.size)
    have hnF : ∀ p, some (⟨w2.heap.size, 0, none⟩ : Addr) = some p → ¬ F p.block := fun p hp hf => by
      obtain rfl := Option.some.inj hp
      have h1 := HF.out _ hf
      have h2 := hb2.size
      exact absurd (Nat.lt_of_lt_of_le h1 h2) (Nat.lt_irrefl _)
    have HB1 := Lib.hid B1
    have HB2 := Lib.hid (Rd.of_all B2)
    have Hb3 := Lib.hid hb3
    have Heq := Lib.hid hb
    have Hsz := Lib.hid hsz
    have HnF := Lib.hid hnF
    have Hgl := Lib.hid hgl
    have hzl : (u8s Dsk.zero32).length = (u8s b).length := by rw [u8s_len, u8s_len, hgl]; rfl
    have Hzl := Lib.hid hzl
    have Hone := Lib.hid (u8s_one b)
    clear hb2 hb B1 hsz B2 hb3 hnF hgl hzl
    go_wp2_with (first
      | refine wpList_alloc_arr rfl 68 (u8s Dsk.zero32).toArray rfl zero_A32 ?_
      | refine wpList_store_arr rfl 68 (.tmp 6) (.tmp 14) w2.heap.size _ (u8s b) rfl rfl rfl rfl HB1.out Hsz.out Hzl.out Hone.out ?_)
    go_ret2
    refine ⟨_, rfl, ?_, Hb3.out⟩
    rw [Heq.out]
    exact ⟨_, 32, by rw [Hgl.out]; rfl, by rw [Hgl.out]; exact Nat.le_refl _, HB2.out, HnF.out⟩
end Go.Proofs.Ytampdfmakhdliaa
