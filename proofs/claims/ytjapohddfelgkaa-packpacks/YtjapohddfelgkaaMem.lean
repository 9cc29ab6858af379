/-
  Plain facts on memory, of no program: rows of bytes in a block, slices that read as bytes, and what copy, append and the conversion to a string do to them. Nothing is assumed beyond the premises of each fact.
-/
import Derived.WalkKit
import Derived.WalkSpells
import Derived.Lib.Hide
import Derived.Laws.CopyOwn
import Derived.Lib.AppendStr
import Derived.Deep.AppendSrc
import Derived.Laws.BytesArg
import Derived.Deep.Draws
set_option maxRecDepth 100000
namespace Go.Gar
open Go.RowKit

def u8s (l : List UInt8) : List Value := l.map fun c => Value.int .u8 (c.toNat : Int)

theorem u8s_len (l : List UInt8) : (u8s l).length = l.length := by simp [u8s]
theorem u8s_one (l : List UInt8) : ∀ u ∈ u8s l, u.oneCell' = true := by
  intro u hu
  simp only [u8s, List.mem_map] at hu
  obtain ⟨c, _, rfl⟩ := hu
  rfl
theorem u8s_app (l k : List UInt8) : u8s (l ++ k) = u8s l ++ u8s k := by simp [u8s]
theorem u8s_take (l : List UInt8) (n : Nat) : (u8s l).take n = u8s (l.take n) := by simp [u8s, List.map_take]
theorem u8s_drop (l : List UInt8) (n : Nat) : (u8s l).drop n = u8s (l.drop n) := by simp [u8s, List.map_drop]
theorem u8s_get (l : List UInt8) (i : Nat) : (u8s l)[i]? = l[i]?.map fun c => Value.int .u8 (c.toNat : Int) := by simp [u8s]
theorem u8s_str (s : ByteArray) : Lib.strCells s = u8s s.data.toList := rfl

/-- Block g is the row cs, its elements of type t, no cell frozen. -/
def Blk (w : World) (g : Nat) (t : TypeId) (cs : List Value) : Prop := w.heap[g]? = some (.cells cs.toArray t (0, 0))

section
variable {w w' : World} {g : Nat} {t : TypeId} {cs : List Value}
theorem Blk.lt (h : Blk w g t cs) : g < w.heap.size := (Array.getElem?_eq_some_iff.1 h).1
theorem Blk.cell (h : Blk w g t cs) (i : Nat) : w.cell? ⟨g, i, none⟩ = cs[i]? := by
  unfold Blk at h; simp [World.cell?, h]
theorem Blk.frozen (h : Blk w g t cs) (i : Nat) : w.frozen? ⟨g, i, none⟩ = false := by
  unfold Blk at h; simp [World.frozen?, h]
theorem Blk.alloc (h : Blk w g t cs) (o : Obj) : Blk (w.alloc o) g t cs := (Below.heap_alloc w o g h.lt).trans h
theorem Blk.drewN (h : Blk w g t cs) (n : Nat) : Blk (w.drewN n) g t cs := h
theorem Blk.drew (h : Blk w g t cs) : Blk w.drew g t cs := h
theorem Blk.new (w : World) (t : TypeId) (cs : List Value) : Blk (w.alloc (.cells cs.toArray t)) w.heap.size t cs := heap_alloc_new w _
theorem Blk.below {B : Nat} (h : Blk w g t cs) (hb : Below B w w') (hg : g < B) : Blk w' g t cs := (hb.block g hg).trans h
theorem Blk.grown {row : Option Nat} (h : Blk w g t cs) (hb : w.grownBy w' row) (hg : some g ≠ row) : Blk w' g t cs := (hb.block g h.lt hg).trans h
theorem Blk.set_ (h : Blk w g t cs) (i : Nat) (u : Value) : Blk (w.setCell ⟨g, i, none⟩ u) g t (cs.set i u) := by
  unfold Blk at h ⊢
  simp [World.setCell, Array.getElem?_modify, h]
theorem Blk.far (h : Blk w g t cs) {p : Addr} (hp : g ≠ p.block) (u : Value) : Blk (w.setCell p u) g t cs := (Below.heap_setCell w p u g hp).trans h
theorem Blk.row (h : Blk w g t cs) (ds : List Value) : Blk (w.setRow g ds.toArray) g t ds := setRow_heap w g _ _ t _ h
theorem Blk.rowFar {g' : Nat} (h : Blk w g t cs) (hne : g ≠ g') (ds : Array Value) : Blk (w.setRow g' ds) g t cs := (setRow_other w g' g ds hne).trans h
theorem Blk.ne {g' : Nat} {t' : TypeId} {cs' : List Value} (h : Blk w g t cs) (h' : Blk w g' t' cs') (hne : t ≠ t') : g ≠ g' := by
  rintro rfl
  unfold Blk at h h'
  rw [h] at h'
  injection h' with h'
  injection h' with _ ht
  exact hne ht
end

/-- A slice value's address and list: it reads as the bytes l, in a block below B. -/
def Rd (w : World) (B : Nat) (A : Option Addr) (l : List UInt8) : Prop :=
  l = [] ∨ ∃ b o, A = some ⟨b, o, none⟩ ∧ b < B ∧ ∀ i c, l[i]? = some c → w.cell? ⟨b, o + i, none⟩ = some (.int .u8 (c.toNat : Int))

section
variable {w w' : World} {B B' : Nat} {A : Option Addr} {l : List UInt8}
theorem Rd.nil : Rd w B A [] := .inl rfl
theorem Rd.keep (h : Rd w B A l) (hk : ∀ k, k < B → w'.heap[k]? = w.heap[k]?) : Rd w' B A l := by
  rcases h with h | ⟨b, o, e, hb, hc⟩
  · exact .inl h
  · exact .inr ⟨b, o, e, hb, fun i c hi => (World.cell?_of_block (hk b hb)).trans (hc i c hi)⟩
theorem Rd.below (h : Rd w B A l) (hb : Below B w w') : Rd w' B A l := h.keep hb.block
theorem Rd.more (h : Rd w B A l) (hB : B ≤ B') : Rd w B' A l := by
  rcases h with h | ⟨b, o, e, hb, hc⟩
  · exact .inl h
  · exact .inr ⟨b, o, e, by omega, hc⟩
theorem Rd.alloc (h : Rd w B A l) (hB : B ≤ w.heap.size) (o : Obj) : Rd (w.alloc o) B A l := h.keep fun k hk => Below.heap_alloc w o k (by omega)
theorem Rd.take (h : Rd w B A l) (n : Nat) : Rd w B A (l.take n) := by
  rcases h with rfl | ⟨b, o, e, hb, hc⟩
  · exact .inl (by simp)
  · refine .inr ⟨b, o, e, hb, fun i c hi => hc i c ?_⟩
    rw [List.getElem?_take] at hi
    split at hi
    · exact hi
    · cases hi
theorem Rd.of_blk {g : Nat} {t : TypeId} (k : List UInt8) (h : Blk w g t (u8s k)) (hB : g < B) (o n : Nat) : Rd w B (some ⟨g, o, none⟩) ((k.drop o).take n) := by
  refine .inr ⟨g, o, rfl, hB, fun i c hi => ?_⟩
  rw [h.cell, u8s_get]
  have : k[o + i]? = some c := by
    rw [List.getElem?_take] at hi
    split at hi
    · rw [List.getElem?_drop] at hi; exact hi
    · cases hi
  rw [this]; rfl
theorem Rd.of_blk0 {g : Nat} {t : TypeId} (k : List UInt8) (h : Blk w g t (u8s k)) (hB : g < B) (n : Nat) : Rd w B (some ⟨g, 0, none⟩) (k.take n) := by
  simpa using Rd.of_blk k h hB 0 n
theorem Rd.of_row {g : Nat} {t : TypeId} {k : List UInt8} {rest : List Value} (h : Blk w g t (u8s k ++ rest)) : Rd w w.heap.size (some ⟨g, 0, none⟩) k := by
  refine .inr ⟨g, 0, rfl, h.lt, fun i c hi => ?_⟩
  have hlt : i < k.length := (List.getElem?_eq_some_iff.1 hi).1
  rw [h.cell, Nat.zero_add, List.getElem?_append_left (by rw [u8s_len]; exact hlt), u8s_get, hi]; rfl
theorem Rd.of_all {g : Nat} {t : TypeId} {k : List UInt8} (h : Blk w g t (u8s k)) : Rd w w.heap.size (some ⟨g, 0, none⟩) k := by
  simpa using Rd.of_blk0 k h h.lt k.length
end

/-- A slice whose elements take one cell each reads as the values vs. -/
def Cells (w : World) (B : Nat) (A : Option Addr) (vs : List Value) : Prop :=
  vs = [] ∨ ∃ b o, A = some ⟨b, o, none⟩ ∧ b < B ∧ ∀ i v, vs[i]? = some v → w.cell? ⟨b, o + i, none⟩ = some v
theorem Cells.of_blk {w : World} {g : Nat} {t : TypeId} {vs : List Value} (h : Blk w g t vs) : Cells w w.heap.size (some ⟨g, 0, none⟩) vs :=
  .inr ⟨g, 0, rfl, h.lt, fun i v hi => by rw [h.cell, Nat.zero_add, hi]⟩
theorem Cells.at_ {w : World} {B : Nat} {A : Option Addr} {vs : List Value} (h : Cells w B A vs) {i : Nat} (hi : i < vs.length) : ∃ b o, A = some ⟨b, o, none⟩ ∧ b < B ∧ w.cell? ⟨b, o + i, none⟩ = some vs[i] := by
  rcases h with rfl | ⟨b, o, e, hb, hc⟩
  · simp at hi
  · exact ⟨b, o, e, hb, hc i _ (List.getElem?_eq_getElem hi)⟩

section
variable {P : Program} {w : World}

/-- One operation whose run is known. -/
theorem wpList_run {ops : Array Oper} {rest : List Oper} {o : Oper} {a : Act} {Q : Exit → Act → World → Prop} (hgd : o.guard = none) {v : Value} {w' : World}
    (hrun : (execOp a.eval o).run P w = .ok (.value v) w') (h : wpList P ops Q rest (a.put o.dst v) w') : wpList P ops Q (o :: rest) a w :=
  wpList_plain hgd fun K hK => by
    unfold Oper.wp
    rw [hrun]
    exact hK _ _ h

/-- append, its run known. -/
theorem wpList_append_run {ops : Array Oper} {rest : List Oper} {o : Oper} {a : Act} {Q : Exit → Act → World → Prop} (hgd : o.guard = none) (s x : Operand) (ts : Array TypeId)
    (ho : o.op = .call { callee := .builtin .append, args := #[s, x], argTypes := ts }) {vs vx v : Value} {w' : World} (hs : a.eval s = vs) (hx : a.eval x = vx)
    (hrun : (Builtin.append_ ts o.type #[vs, vx]).run P w = .ok v w') (h : wpList P ops Q rest (a.put o.dst v) w') : wpList P ops Q (o :: rest) a w := by
  refine wpList_run hgd (v := v) (w' := w') ?_ h
  unfold execOp
  simp only [ho, resolve, invoke, builtin, Sem.run_bind, Sem.run_pure, Result.andThen_ok, List.map_toArray, List.map_cons, List.map_nil, hs, hx, hrun]

/-- copy of bytes that a slice reads as, over the head of a row that is known whole. -/
theorem run_copy_rd (dT sT ty e : TypeId) (hu : P.underlying dT = some (.slice e)) (hs : (P.info? e).map (·.size) = some 1) (g dCap sCap : Nat) (A : Option Addr) (l : List UInt8) (B : Nat)
    (hr : Rd w B A l) (cs : List Value) (t : TypeId) (hg : Blk w g t cs) (hfit : l.length ≤ cs.length) :
    (Builtin.copy_ #[dT, sT] ty #[.slice (some ⟨g, 0, none⟩) l.length dCap, .slice A l.length sCap]).run P w = .ok (goInt l.length) (w.setRow g (u8s l ++ cs.drop l.length).toArray) := by
  rcases hr with rfl | ⟨b, o, rfl, _, hc⟩
  · rw [run_copy_none w dT sT ty e _ _ _ _ _ _ hu hs (by simp)]
    have := setRow_self w g cs.toArray t (0, 0) hg
    simp only [List.length_nil, u8s, List.map_nil, List.drop_zero, List.nil_append]
    rw [this]
    rfl
  · have h := run_copy_row (P := P) w dT sT ty e g 0 l.length dCap ⟨b, o, none⟩ l.length sCap cs.toArray t (u8s l) hu hs hg (by simp [u8s_len]) ?_ (by simpa [u8s_len] using hfit) (u8s_one l)
    · simpa [u8s_len] using h
    · intro j v hj
      rw [u8s_get] at hj
      cases hq : l[j]? with
      | none => simp [hq] at hj
      | some c =>
        rw [hq] at hj
        simp at hj
        subst hj
        have : (⟨b, o, none⟩ : Addr).add j = ⟨b, o + j, none⟩ := Addr.add_lit _ _ _
        rw [this]
        exact hc j c hq

/-- append of bytes that a slice reads as, behind the first L of a row that is known whole, where there is room. -/
theorem run_append_rd (t ty e : TypeId) (ht : P.underlying t = some (.slice e)) (hs : (P.info? e).map (·.size) = some 1) (g L cap sCap : Nat) (A : Option Addr) (l : List UInt8) (B : Nat)
    (hr : Rd w B A l) (hA : A.isSome = true) (cs : List Value) (hg : Blk w g e cs) (hroom : L + l.length ≤ cap) (hfit : L + l.length ≤ cs.length) :
    (Builtin.append_ #[t, t] ty #[.slice (some ⟨g, 0, none⟩) L cap, .slice A l.length sCap]).run P w =
      .ok (.slice (some ⟨g, 0, none⟩) (L + l.length) cap) (w.setRow g (cs.take L ++ u8s l ++ cs.drop (L + l.length)).toArray) := by
  cases hq : P.info? e with
  | none => simp [hq] at hs
  | some i =>
    have hi : i.size = 1 := by simpa [hq] using hs
    cases A with
    | none => simp at hA
    | some a =>
      have h := run_append_room (P := P) w t ty e i ht hq g L cap cs.toArray hg a l.length sCap (u8s l) (by simp [u8s_len, hi]) ?_ (u8s_one l) hroom (by simpa [u8s_len, hi] using hfit)
      · simpa [u8s_len, hi] using h
      · intro j v hj
        rw [u8s_get] at hj
        rcases hr with rfl | ⟨b, o, hA, _, hc⟩
        · simp at hj
        · injection hA with hA
          subst hA
          cases hq : l[j]? with
          | none => simp [hq] at hj
          | some c =>
            rw [hq] at hj
            simp at hj
            subst hj
            have : (⟨b, o, none⟩ : Addr).add j = ⟨b, o + j, none⟩ := Addr.add_lit _ _ _
            rw [this]
            exact hc j c hq

/-- append of a string's bytes, where there is room. -/
theorem run_append_str (t u ty e : TypeId) (ht : P.underlying t = some (.slice e)) (hu : P.underlying u = some .string) (hs : (P.info? e).map (·.size) = some 1) (g L cap : Nat) (s : ByteArray)
    (cs : List Value) (hg : Blk w g e cs) (hroom : L + s.size ≤ cap) (hfit : L + s.size ≤ cs.length) :
    (Builtin.append_ #[t, u] ty #[.slice (some ⟨g, 0, none⟩) L cap, .string s]).run P w =
      .ok (.slice (some ⟨g, 0, none⟩) (L + s.size) cap) (w.setRow g (cs.take L ++ u8s s.data.toList ++ cs.drop (L + s.size)).toArray) := by
  cases hq : P.info? e with
  | none => simp [hq] at hs
  | some i =>
    have hi : i.size = 1 := by simpa [hq] using hs
    have h := Lib.run_append_room_string (P := P) w t u ty e i ht hu hq hi g L cap cs.toArray hg s hroom (by simpa using hfit)
    simpa [u8s_str] using h

theorem strOf_u8s (l : List UInt8) : strOfNums (l.map fun c => (c.toNat : Int)) = ⟨l.toArray⟩ := by
  unfold strOfNums
  congr 2
  rw [List.map_map]
  conv => rhs; rw [← List.map_id l]
  apply List.map_congr_left
  intro c _
  simp

/-- string(b), of what the slice reads as. -/
theorem run_string_rd (src dst e : TypeId) (hs : P.underlying src = some (.slice e)) (he : P.underlying e = some (.int .u8)) (hd : P.underlying dst = some .string) (A : Option Addr) (l : List UInt8) (B cap : Nat) (hr : Rd w B A l) :
    (convert src dst (.slice A l.length cap)).run P w = .ok (.string ⟨l.toArray⟩) w := by
  rcases hr with rfl | ⟨b, o, rfl, _, hc⟩
  · cases A with
    | none => rw [run_convert_bytes_nil w src e hs he _ _ dst hd]; rfl
    | some a =>
      rw [run_convert_bytes_string w src dst e _ _ _ hs he hd, run_bytesToString w a _ cap [] (by simpa using run_loadCells_list (P := P) w a [] (by simp))]
      rfl
  · rw [run_convert_bytes_arg w src e hs he b o l.length cap (l.map fun c => (c.toNat : Int)) (by simp) ?_ dst hd, strOf_u8s]
    intro i hi
    rw [hc i l[i] (List.getElem?_eq_getElem hi)]
    simp [List.getD, List.getElem?_eq_getElem hi]
end
end Go.Gar
