/-
  Plain facts on memory, of no program: rows of bytes in a block, slices that read as bytes, and what copy, append and the conversion to a string do to them. Nothing is assumed beyond the premises of each fact. A statement whose operations Go may carry out in more than one order, where each of them only makes memory grow: one walk, in an order of the prover's choice, serves every order. Of no program; a tool for the walks. Facts on the translated program's basic types, and small facts on memory through calls, that every layer's walks use.
-/
import Derived.WalkKit
import Derived.WalkSpells
import Derived.Lib.Hide
import Derived.Laws.CopyOwn
import Derived.Lib.AppendStr
import Derived.Deep.AppendSrc
import Derived.Laws.BytesArg
import Derived.Deep.Draws
import Derived.OrdersHeld
import Derived.BigQuiet
import Derived.Test.YtdipflchmooakaaGreatDoorRows
import Derived.Deep.QuietTactic
set_option maxRecDepth 100000
namespace Go.Gar
open Go.RowKit

def u8s (l : List UInt8) : List Value := l.map fun c => Value.int .u8 (c.toNat : Int)

theorem u8s_len (l : List UInt8) : (u8s l).length = l.length := by simp [u8s]
theorem u8s_one (l : List UInt8) : ∀ u ∈ u8s l, u.oneCell' = true := by
  intro u hu
  simp only [u8s, List.mem_map] at hu
  obtain ⟨c, _, rfl⟩ := hu
  rfl
theorem u8s_app (l k : List UInt8) : u8s (l ++ k) = u8s l ++ u8s k := by simp [u8s]
theorem u8s_take (l : List UInt8) (n : Nat) : (u8s l).take n = u8s (l.take n) := by simp [u8s, List.map_take]
theorem u8s_drop (l : List UInt8) (n : Nat) : (u8s l).drop n = u8s (l.drop n) := by simp [u8s, List.map_drop]
theorem u8s_get (l : List UInt8) (i : Nat) : (u8s l)[i]? = l[i]?.map fun c => Value.int .u8 (c.toNat : Int) := by simp [u8s]
theorem u8s_str (s : ByteArray) : Lib.strCells s = u8s s.data.toList := rfl

/-- Block g is the row cs, its elements of type t, no cell frozen. -/
def Blk (w : World) (g : Nat) (t : TypeId) (cs : List Value) : Prop := w.heap[g]? = some (.cells cs.toArray t (0, 0))

section
variable {w w' : World} {g : Nat} {t : TypeId} {cs : List Value}
theorem Blk.lt (h : Blk w g t cs) : g < w.heap.size := (Array.getElem?_eq_some_iff.1 h).1
theorem Blk.cell (h : Blk w g t cs) (i : Nat) : w.cell? ⟨g, i, none⟩ = cs[i]? := by
  unfold Blk at h; simp [World.cell?, h]
theorem Blk.frozen (h : Blk w g t cs) (i : Nat) : w.frozen? ⟨g, i, none⟩ = false := by
  unfold Blk at h; simp [World.frozen?, h]
theorem Blk.alloc (h : Blk w g t cs) (o : Obj) : Blk (w.alloc o) g t cs := (Below.heap_alloc w o g h.lt).trans h
theorem Blk.drewN (h : Blk w g t cs) (n : Nat) : Blk (w.drewN n) g t cs := h
theorem Blk.drew (h : Blk w g t cs) : Blk w.drew g t cs := h
theorem Blk.new (w : World) (t : TypeId) (cs : List Value) : Blk (w.alloc (.cells cs.toArray t)) w.heap.size t cs := heap_alloc_new w _
theorem Blk.below {B : Nat} (h : Blk w g t cs) (hb : Below B w w') (hg : g < B) : Blk w' g t cs := (hb.block g hg).trans h
theorem Blk.grown {row : Option Nat} (h : Blk w g t cs) (hb : w.grownBy w' row) (hg : some g ≠ row) : Blk w' g t cs := (hb.block g h.lt hg).trans h
theorem Blk.set_ (h : Blk w g t cs) (i : Nat) (u : Value) : Blk (w.setCell ⟨g, i, none⟩ u) g t (cs.set i u) := by
  unfold Blk at h ⊢
  simp [World.setCell, Array.getElem?_modify, h]
theorem Blk.far (h : Blk w g t cs) {p : Addr} (hp : g ≠ p.block) (u : Value) : Blk (w.setCell p u) g t cs := (Below.heap_setCell w p u g hp).trans h
theorem Blk.row (h : Blk w g t cs) (ds : List Value) : Blk (w.setRow g ds.toArray) g t ds := setRow_heap w g _ _ t _ h
theorem Blk.rowFar {g' : Nat} (h : Blk w g t cs) (hne : g ≠ g') (ds : Array Value) : Blk (w.setRow g' ds) g t cs := (setRow_other w g' g ds hne).trans h
theorem Blk.ne {g' : Nat} {t' : TypeId} {cs' : List Value} (h : Blk w g t cs) (h' : Blk w g' t' cs') (hne : t ≠ t') : g ≠ g' := by
  rintro rfl
  unfold Blk at h h'
  rw [h] at h'
  injection h' with h'
  injection h' with _ ht
  exact hne ht
end

/-- A slice value's address and list: it reads as the bytes l, in a block below B. -/
def Rd (w : World) (B : Nat) (A : Option Addr) (l : List UInt8) : Prop :=
  l = [] ∨ ∃ b o, A = some ⟨b, o, none⟩ ∧ b < B ∧ ∀ i c, l[i]? = some c → w.cell? ⟨b, o + i, none⟩ = some (.int .u8 (c.toNat : Int))

section
variable {w w' : World} {B B' : Nat} {A : Option Addr} {l : List UInt8}
theorem Rd.nil : Rd w B A [] := .inl rfl
theorem Rd.keep (h : Rd w B A l) (hk : ∀ k, k < B → w'.heap[k]? = w.heap[k]?) : Rd w' B A l := by
  rcases h with h | ⟨b, o, e, hb, hc⟩
  · exact .inl h
  · exact .inr ⟨b, o, e, hb, fun i c hi => (World.cell?_of_block (hk b hb)).trans (hc i c hi)⟩
theorem Rd.below (h : Rd w B A l) (hb : Below B w w') : Rd w' B A l := h.keep hb.block
theorem Rd.more (h : Rd w B A l) (hB : B ≤ B') : Rd w B' A l := by
  rcases h with h | ⟨b, o, e, hb, hc⟩
  · exact .inl h
  · exact .inr ⟨b, o, e, by omega, hc⟩
theorem Rd.alloc (h : Rd w B A l) (hB : B ≤ w.heap.size) (o : Obj) : Rd (w.alloc o) B A l := h.keep fun k hk => Below.heap_alloc w o k (by omega)
theorem Rd.take (h : Rd w B A l) (n : Nat) : Rd w B A (l.take n) := by
  rcases h with rfl | ⟨b, o, e, hb, hc⟩
  · exact .inl (by simp)
  · refine .inr ⟨b, o, e, hb, fun i c hi => hc i c ?_⟩
    rw [List.getElem?_take] at hi
    split at hi
    · exact hi
    · cases hi
theorem Rd.of_blk {g : Nat} {t : TypeId} (k : List UInt8) (h : Blk w g t (u8s k)) (hB : g < B) (o n : Nat) : Rd w B (some ⟨g, o, none⟩) ((k.drop o).take n) := by
  refine .inr ⟨g, o, rfl, hB, fun i c hi => ?_⟩
  rw [h.cell, u8s_get]
  have : k[o + i]? = some c := by
    rw [List.getElem?_take] at hi
    split at hi
    · rw [List.getElem?_drop] at hi; exact hi
    · cases hi
  rw [this]; rfl
theorem Rd.of_blk0 {g : Nat} {t : TypeId} (k : List UInt8) (h : Blk w g t (u8s k)) (hB : g < B) (n : Nat) : Rd w B (some ⟨g, 0, none⟩) (k.take n) := by
  simpa using Rd.of_blk k h hB 0 n
theorem Rd.of_row {g : Nat} {t : TypeId} {k : List UInt8} {rest : List Value} (h : Blk w g t (u8s k ++ rest)) : Rd w w.heap.size (some ⟨g, 0, none⟩) k := by
  refine .inr ⟨g, 0, rfl, h.lt, fun i c hi => ?_⟩
  have hlt : i < k.length := (List.getElem?_eq_some_iff.1 hi).1
  rw [h.cell, Nat.zero_add, List.getElem?_append_left (by rw [u8s_len]; exact hlt), u8s_get, hi]; rfl
theorem Rd.of_all {g : Nat} {t : TypeId} {k : List UInt8} (h : Blk w g t (u8s k)) : Rd w w.heap.size (some ⟨g, 0, none⟩) k := by
  simpa using Rd.of_blk0 k h h.lt k.length
end

/-- A slice whose elements take one cell each reads as the values vs. -/
def Cells (w : World) (B : Nat) (A : Option Addr) (vs : List Value) : Prop :=
  vs = [] ∨ ∃ b o, A = some ⟨b, o, none⟩ ∧ b < B ∧ ∀ i v, vs[i]? = some v → w.cell? ⟨b, o + i, none⟩ = some v
theorem Cells.of_blk {w : World} {g : Nat} {t : TypeId} {vs : List Value} (h : Blk w g t vs) : Cells w w.heap.size (some ⟨g, 0, none⟩) vs :=
  .inr ⟨g, 0, rfl, h.lt, fun i v hi => by rw [h.cell, Nat.zero_add, hi]⟩
theorem Cells.at_ {w : World} {B : Nat} {A : Option Addr} {vs : List Value} (h : Cells w B A vs) {i : Nat} (hi : i < vs.length) : ∃ b o, A = some ⟨b, o, none⟩ ∧ b < B ∧ w.cell? ⟨b, o + i, none⟩ = some vs[i] := by
  rcases h with rfl | ⟨b, o, e, hb, hc⟩
  · simp at hi
  · exact ⟨b, o, e, hb, hc i _ (List.getElem?_eq_getElem hi)⟩

section
variable {P : Program} {w : World}

/-- One operation whose run is known. -/
theorem wpList_run {ops : Array Oper} {rest : List Oper} {o : Oper} {a : Act} {Q : Exit → Act → World → Prop} (hgd : o.guard = none) {v : Value} {w' : World}
    (hrun : (execOp a.eval o).run P w = .ok (.value v) w') (h : wpList P ops Q rest (a.put o.dst v) w') : wpList P ops Q (o :: rest) a w :=
  wpList_plain hgd fun K hK => by
    unfold Oper.wp
    rw [hrun]
    exact hK _ _ h

/-- append, its run known. -/
theorem wpList_append_run {ops : Array Oper} {rest : List Oper} {o : Oper} {a : Act} {Q : Exit → Act → World → Prop} (hgd : o.guard = none) (s x : Operand) (ts : Array TypeId)
    (ho : o.op = .call { callee := .builtin .append, args := #[s, x], argTypes := ts }) {vs vx v : Value} {w' : World} (hs : a.eval s = vs) (hx : a.eval x = vx)
    (hrun : (Builtin.append_ ts o.type #[vs, vx]).run P w = .ok v w') (h : wpList P ops Q rest (a.put o.dst v) w') : wpList P ops Q (o :: rest) a w := by
  refine wpList_run hgd (v := v) (w' := w') ?_ h
  unfold execOp
  simp only [ho, resolve, invoke, builtin, Sem.run_bind, Sem.run_pure, Result.andThen_ok, List.map_toArray, List.map_cons, List.map_nil, hs, hx, hrun]

/-- copy of bytes that a slice reads as, over the head of a row that is known whole. -/
theorem run_copy_rd (dT sT ty e : TypeId) (hu : P.underlying dT = some (.slice e)) (hs : (P.info? e).map (·.size) = some 1) (g dCap sCap : Nat) (A : Option Addr) (l : List UInt8) (B : Nat)
    (hr : Rd w B A l) (cs : List Value) (t : TypeId) (hg : Blk w g t cs) (hfit : l.length ≤ cs.length) :
    (Builtin.copy_ #[dT, sT] ty #[.slice (some ⟨g, 0, none⟩) l.length dCap, .slice A l.length sCap]).run P w = .ok (goInt l.length) (w.setRow g (u8s l ++ cs.drop l.length).toArray) := by
  rcases hr with rfl | ⟨b, o, rfl, _, hc⟩
  · rw [run_copy_none w dT sT ty e _ _ _ _ _ _ hu hs (by simp)]
    have := setRow_self w g cs.toArray t (0, 0) hg
    simp only [List.length_nil, u8s, List.map_nil, List.drop_zero, List.nil_append]
    rw [this]
    rfl
  · have h := run_copy_row (P := P) w dT sT ty e g 0 l.length dCap ⟨b, o, none⟩ l.length sCap cs.toArray t (u8s l) hu hs hg (by simp [u8s_len]) ?_ (by simpa [u8s_len] using hfit) (u8s_one l)
    · simpa [u8s_len] using h
    · intro j v hj
      rw [u8s_get] at hj
      cases hq : l[j]? with
      | none => simp [hq] at hj
      | some c =>
        rw [hq] at hj
        simp at hj
        subst hj
        have : (⟨b, o, none⟩ : Addr).add j = ⟨b, o + j, none⟩ := Addr.add_lit _ _ _
        rw [this]
        exact hc j c hq

/-- append of bytes that a slice reads as, behind the first L of a row that is known whole, where there is room. -/
theorem run_append_rd (t ty e : TypeId) (ht : P.underlying t = some (.slice e)) (hs : (P.info? e).map (·.size) = some 1) (g L cap sCap : Nat) (A : Option Addr) (l : List UInt8) (B : Nat)
    (hr : Rd w B A l) (hA : A.isSome = true) (cs : List Value) (hg : Blk w g e cs) (hroom : L + l.length ≤ cap) (hfit : L + l.length ≤ cs.length) :
    (Builtin.append_ #[t, t] ty #[.slice (some ⟨g, 0, none⟩) L cap, .slice A l.length sCap]).run P w =
      .ok (.slice (some ⟨g, 0, none⟩) (L + l.length) cap) (w.setRow g (cs.take L ++ u8s l ++ cs.drop (L + l.length)).toArray) := by
  cases hq : P.info? e with
  | none => simp [hq] at hs
  | some i =>
    have hi : i.size = 1 := by simpa [hq] using hs
    cases A with
    | none => simp at hA
    | some a =>
      have h := run_append_room (P := P) w t ty e i ht hq g L cap cs.toArray hg a l.length sCap (u8s l) (by simp [u8s_len, hi]) ?_ (u8s_one l) hroom (by simpa [u8s_len, hi] using hfit)
      · simpa [u8s_len, hi] using h
      · intro j v hj
        rw [u8s_get] at hj
        rcases hr with rfl | ⟨b, o, hA, _, hc⟩
        · simp at hj
        · injection hA with hA
          subst hA
          cases hq : l[j]? with
          | none => simp [hq] at hj
          | some c =>
            rw [hq] at hj
            simp at hj
            subst hj
            have : (⟨b, o, none⟩ : Addr).add j = ⟨b, o + j, none⟩ := Addr.add_lit _ _ _
            rw [this]
            exact hc j c hq

/-- append of a string's bytes, where there is room. -/
theorem run_append_str (t u ty e : TypeId) (ht : P.underlying t = some (.slice e)) (hu : P.underlying u = some .string) (hs : (P.info? e).map (·.size) = some 1) (g L cap : Nat) (s : ByteArray)
    (cs : List Value) (hg : Blk w g e cs) (hroom : L + s.size ≤ cap) (hfit : L + s.size ≤ cs.length) :
    (Builtin.append_ #[t, u] ty #[.slice (some ⟨g, 0, none⟩) L cap, .string s]).run P w =
      .ok (.slice (some ⟨g, 0, none⟩) (L + s.size) cap) (w.setRow g (cs.take L ++ u8s s.data.toList ++ cs.drop (L + s.size)).toArray) := by
  cases hq : P.info? e with
  | none => simp [hq] at hs
  | some i =>
    have hi : i.size = 1 := by simpa [hq] using hs
    have h := Lib.run_append_room_string (P := P) w t u ty e i ht hu hq hi g L cap cs.toArray hg s hroom (by simpa using hfit)
    simpa [u8s_str] using h

theorem strOf_u8s (l : List UInt8) : strOfNums (l.map fun c => (c.toNat : Int)) = ⟨l.toArray⟩ := by
  unfold strOfNums
  congr 2
  rw [List.map_map]
  conv => rhs; rw [← List.map_id l]
  apply List.map_congr_left
  intro c _
  simp

/-- string(b), of what the slice reads as. -/
theorem run_string_rd (src dst e : TypeId) (hs : P.underlying src = some (.slice e)) (he : P.underlying e = some (.int .u8)) (hd : P.underlying dst = some .string) (A : Option Addr) (l : List UInt8) (B cap : Nat) (hr : Rd w B A l) :
    (convert src dst (.slice A l.length cap)).run P w = .ok (.string ⟨l.toArray⟩) w := by
  rcases hr with rfl | ⟨b, o, rfl, _, hc⟩
  · cases A with
    | none => rw [run_convert_bytes_nil w src e hs he _ _ dst hd]; rfl
    | some a =>
      rw [run_convert_bytes_string w src dst e _ _ _ hs he hd, run_bytesToString w a _ cap [] (by simpa using run_loadCells_list (P := P) w a [] (by simp))]
      rfl
  · rw [run_convert_bytes_arg w src e hs he b o l.length cap (l.map fun c => (c.toNat : Int)) (by simp) ?_ dst hd, strOf_u8s]
    intro i hi
    rw [hc i l[i] (List.getElem?_eq_getElem hi)]
    simp [List.getD, List.getElem?_eq_getElem hi]
end
end Go.Gar
namespace Go.Gar
open Go.RowKit

/-- How memory may turn from one operation to the next. -/
structure Growth where
  rel : World → World → Prop
  refl : ∀ w, rel w w
  trans : ∀ {a b c}, rel a b → rel b c → rel a c

/-- A world to which w may have grown. -/
structure Later (G : Growth) (w : World) where
  to : World
  grown : G.rel w to
instance (G : Growth) (w : World) : Nonempty (Later G w) := ⟨⟨w, G.refl w⟩⟩

/-- Every old block stays as it was. -/
def grows : Growth := ⟨fun w w' => Below w.heap.size w w', fun w => Below.refl _ w, fun h k => h.trans (k.mono h.size)⟩

section
variable {G : Growth} {P : Program} {ops : Array Oper} {Q : Exit → Act → World → Prop} {md : Region.Mode}

/-- Must operation i come before operation j? (as far as a few edges in a row tell) -/
def reach (md : Region.Mode) (ops : Array Oper) : Nat → Nat → Nat → Bool
  | 0, _, _ => false
  | f + 1, i, j => ((ops[j]?).map fun oj => oj.after.any (fun e => Region.binds md e && e.on == i) || oj.after.any (fun e => Region.binds md e && reach md ops f i e.on)).getD false
/-- With an operation all that must come before it is listed. -/
def closedB (md : Region.Mode) (ops : Array Oper) (listed : Array Bool) : Bool :=
  (List.range ops.size).all fun k => !listed.getD k false || ((ops[k]?).map (·.after.all fun e => !Region.binds md e || listed.getD e.on false)).getD true
def Closed (md : Region.Mode) (ops : Array Oper) (listed : Array Bool) : Prop :=
  ∀ k ok, ops[k]? = some ok → listed.getD k false = true → ∀ e ∈ ok.after, Region.binds md e = true → listed.getD e.on false = true
theorem closed_of {md : Region.Mode} {ops : Array Oper} {listed : Array Bool} (h : closedB md ops listed = true) : Closed md ops listed := by
  intro k ok hk hl e he hb
  simp only [closedB, List.all_eq_true, List.mem_range] at h
  have h1 := h k (Array.getElem?_eq_some_iff.1 hk).1
  rw [hk, hl, Option.map_some, Option.getD_some] at h1
  have h2 : ok.after.all (fun e => !Region.binds md e || listed.getD e.on false) = true := by simpa using h1
  rw [Array.all_eq_true_iff_forall_mem] at h2
  have h3 := h2 e he
  rw [hb] at h3
  simpa using h3
theorem closed_set {md : Region.Mode} {ops : Array Oper} {listed : Array Bool} {j : Nat} (h : Closed md ops listed) (hj : j ∈ Region.ready md ops listed) : Closed md ops (listed.setIfInBounds j true) := by
  have up : ∀ x, listed.getD x false = true → (listed.setIfInBounds j true).getD x false = true := by
    intro x hx
    by_cases hxj : j = x
    · subst hxj
      have : j < listed.size := by
        rcases Nat.lt_or_ge j listed.size with h' | h'
        · exact h'
        · simp [Array.getElem?_eq_none h'] at hx
      simp [this]
    · rw [getD_set_ne false hxj]; exact hx
  intro k ok hk hl e he hb
  by_cases hkj : j = k
  · subst hkj
    obtain ⟨_, oj, hoj, hall⟩ := mem_ready.1 hj
    rw [hoj] at hk
    injection hk with hk
    subst hk
    exact up _ (by simpa using hall e he hb)
  · rw [getD_set_ne false hkj] at hl
    exact up _ (h k ok hk hl e he hb)
theorem reach_listed {md : Region.Mode} {ops : Array Oper} {listed : Array Bool} (hc : Closed md ops listed) : ∀ (f i j : Nat) (oj : Oper), ops[j]? = some oj → (∀ e ∈ oj.after, Region.binds md e = true → listed.getD e.on false = true) → reach md ops f i j = true → listed.getD i false = true
  | 0, _, _, _, _, _, h => by cases h
  | f + 1, i, j, oj, hoj, ha, h => by
    rw [reach, hoj, Option.map_some, Option.getD_some, Bool.or_eq_true] at h
    rcases h with h | h
    · obtain ⟨x, hx, h1⟩ := Array.any_eq_true.1 h
      rw [Bool.and_eq_true, beq_iff_eq] at h1
      rw [← h1.2]
      exact ha _ (Array.getElem_mem hx) h1.1
    · obtain ⟨x, hx, h1⟩ := Array.any_eq_true.1 h
      rw [Bool.and_eq_true] at h1
      have hl := ha _ (Array.getElem_mem hx) h1.1
      cases ho : ops[oj.after[x].on]? with
      | none =>
        cases f with
        | zero => exact absurd h1.2 (by simp [reach])
        | succ f => exact absurd h1.2 (by simp [reach, ho])
      | some o2 => exact reach_listed hc f i _ o2 ho (fun e he hb => hc _ _ ho hl e he hb) h1.2
/-- Every other operation must come before this one, or must come after it. -/
def late (md : Region.Mode) (ops : Array Oper) (j : Nat) : Bool :=
  (List.range ops.size).all fun k => k == j || reach md ops 12 k j || reach md ops 12 j k
theorem late_alone {md : Region.Mode} {ops : Array Oper} {listed : Array Bool} {i j : Nat} (hc : Closed md ops listed) (h : late md ops j = true) (hi : i ∈ Region.ready md ops listed) (hj : j ∈ Region.ready md ops listed) (hne : j ≠ i) : False := by
  obtain ⟨hju, oj, hoj, hja⟩ := mem_ready.1 hj
  obtain ⟨hiu, oi, hoi, hia⟩ := mem_ready.1 hi
  simp only [late, List.all_eq_true, List.mem_range] at h
  have h1 := h i (Array.getElem?_eq_some_iff.1 hoi).1
  simp only [Bool.or_eq_true, beq_iff_eq] at h1
  have un : ∀ k, listed.getD k true = false → listed.getD k false = true → False := by
    intro k hu h2
    rcases Nat.lt_or_ge k listed.size with h' | h'
    · simp [h'] at h2 hu
      rw [hu] at h2; cases h2
    · simp [Array.getElem?_eq_none h'] at h2
  rcases h1 with (h1 | h1) | h1
  · exact hne h1.symm
  · exact un i (by simpa using hiu) (reach_listed hc 12 i j oj hoj (fun e he hb => by simpa using hja e he hb) h1)
  · exact un j (by simpa using hju) (reach_listed hc 12 j i oi hoi (fun e he hb => by simpa using hia e he hb) h1)

/-- Whatever order is picked from here on, each operation letting memory grow. -/
def wpAnyG (G : Growth) (P : Program) (md : Region.Mode) (ops : Array Oper) (Q : Exit → Act → World → Prop) : Nat → Array Bool → Act → World → Prop
  | 0, listed, a, w => Region.ready md ops listed = [] ∧ Q .normal a w
  | fuel + 1, listed, a, w =>
    (Region.ready md ops listed = [] → Q .normal a w) ∧
    ∀ i ∈ Region.ready md ops listed, wpOp P ops Q i (fun a' w' => (G.rel w w' ∨ late md ops i = true) ∧ wpAnyG G P md ops Q fuel (listed.setIfInBounds i true) a' w') a w

theorem wpAny_of_G : ∀ (fuel : Nat) (listed : Array Bool) (a : Act) (w : World), wpAnyG G P md ops Q fuel listed a w → wpAny P md ops Q fuel listed a w
  | 0, _, _, _, h => h
  | fuel + 1, _, _, _, h => ⟨h.1, fun i hi => wpOp_mono (fun a' w' h' => wpAny_of_G fuel _ a' w' h'.2) (h.2 i hi)⟩

theorem wpAnyG_first {i : Nat} {oi : Oper} {v : Value} (w0 : World) (hi : ops[i]? = some oi) (hsel : ∀ (j : Nat) (o : Oper) cs b, ops[j]? = some o → o.op ≠ .select cs b)
    (hQ : ∀ c a w, Q (.panic c) (a.put oi.dst v) w → Q (.panic c) a w) :
    ∀ (fuel : Nat) (listed : Array Bool) (a : Act) (w : World), Closed md ops listed →
      (∀ j oj, ops[j]? = some oj → j ≠ i → listed.getD j true = false → (∀ e ∈ oj.after, Region.binds md e = true → e.on ≠ i) → oi.apart ops oj = true) →
      i ∈ Region.ready md ops listed → YieldsIf P ops (G.rel w0) oi v a → G.rel w0 w →
      wpAnyG G P md ops Q fuel (listed.setIfInBounds i true) (a.put oi.dst v) w → wpAnyG G P md ops Q (fuel + 1) listed a w := by
  intro fuel
  induction fuel with
  | zero =>
    intro listed a w _ _ hr hy hS H
    refine ⟨fun h => (by rw [h] at hr; cases hr), fun j hj => ?_⟩
    by_cases hji : j = i
    · subst hji; exact hy.wpOp hi hS ⟨.inl (G.refl w), H⟩
    · have h := ready_mono hj hji
      rw [H.1] at h
      cases h
  | succ fuel ih =>
    intro listed a w hcl hfree hr hy hS H
    refine ⟨fun h => (by rw [h] at hr; cases hr), fun j hj => ?_⟩
    by_cases hji : j = i
    · subst hji; exact hy.wpOp hi hS ⟨.inl (G.refl w), H⟩
    · have h1 := H.2 j (ready_mono hj hji)
      obtain ⟨hjun, oj, hoj, hall⟩ := mem_ready.1 hj
      have hnot : ∀ e ∈ oj.after, Region.binds md e = true → e.on ≠ i := fun e he hb heq => by
        have h1 := hall e he hb
        have h0 := (mem_ready.1 hr).1
        rw [heq] at h1
        rcases Nat.lt_or_ge i listed.size with h' | h'
        · simp [h'] at h0 h1; rw [h0] at h1; cases h1
        · simp [Array.getElem?_eq_none h'] at h1
      have h2 := wpOp_putIf hoj (hfree j oj hoj hji hjun hnot) (fun cs b => hsel i oi cs b hi) (fun cs b => hsel j oj cs b hoj) hQ hy h1
      have hfree' : ∀ k ok, ops[k]? = some ok → k ≠ i → (listed.setIfInBounds j true).getD k true = false →
          (∀ e ∈ ok.after, Region.binds md e = true → e.on ≠ i) → oi.apart ops ok = true := fun k ok hk hki hun hno => by
        refine hfree k ok hk hki ?_ hno
        by_cases hjk : j = k
        · subst hjk; exact hjun
        · rw [getD_set_ne true hjk] at hun; exact hun
      refine wpOp_mono (fun a' w' h3 => ?_) h2
      have hG : G.rel w w' := h3.2.1.elim id fun h => (late_alone hcl h hr hj hji).elim
      refine ⟨.inl hG, ih (listed.setIfInBounds j true) a' w' (closed_set hcl hj) hfree' (ready_mono hr (Ne.symm hji)) h3.1 (G.trans hS hG) ?_⟩
      rw [Array.setIfInBounds_comm _ _ hji]
      exact h3.2.2

/-- Operations that yield a value and nothing else, if they do not panic. -/
def valued : Op → Bool
  | .move _ | .assign _ | .pick .. | .binOp .. | .unOp .. | .convert .. | .load .. | .slice .. | .indexAddr .. | .fieldAddr .. | .field .. | .index .. | .extract .. | .nilCheck .. => true
  | .call { callee := .builtin .len, .. } => true
  | _ => false

theorem valued_run {o : Oper} (h : valued o.op = true) (ρ : Operand → Value) (w : World) : (∃ v w', (execOp ρ o).run P w = .ok (.value v) w') ∨ ∃ x w', (execOp ρ o).run P w = .halt x w' := by
  have hv : ∀ s : Sem Value, (∃ v w', (do pure (Next.value (← s)) : Sem Next).run P w = .ok (.value v) w') ∨ ∃ x w', (do pure (Next.value (← s)) : Sem Next).run P w = .halt x w' := by
    intro s
    rw [Sem.run_bind]
    cases hs : s.run P w with
    | ok v w' => exact .inl ⟨v, w', by simp [Result.andThen]⟩
    | halt x w' => exact .inr ⟨x, w', by simp [Result.andThen]⟩
  unfold execOp
  cases ho : o.op <;> simp only [ho, valued] at h ⊢
  all_goals first | exact hv _ | exact .inl ⟨_, _, rfl⟩ | (cases h; done) | skip
  · rename_i c x y
    rw [Sem.run_bind]
    cases hs : (asBool (ρ c)).run P w with
    | ok v w' => exact .inl ⟨if v = true then ρ x else ρ y, w', by simp [Result.andThen]⟩
    | halt x w' => exact .inr ⟨x, w', by simp [Result.andThen]⟩
  · rename_i x
    have hp : ∃ y w', (runtimePanic .nilDeref : Sem Next).run P w = .halt y w' := by
      simp [runtimePanic]
    split
    · exact .inr hp
    · exact .inr hp
    · exact .inr hp
    · split
      · exact .inr hp
      · rename_i t wv
        have hb : ∀ {α : Type} (s : Sem α) (f : α → Sem Next), (∀ a w, (∃ v w', (f a).run P w = .ok (.value v) w') ∨ ∃ y w', (f a).run P w = .halt y w') → ∀ w, (∃ v w', (s >>= f).run P w = .ok (.value v) w') ∨ ∃ y w', (s >>= f).run P w = .halt y w' := by
          intro α s f hf w
          rw [Sem.run_bind]
          cases hs : s.run P w with
          | ok v w' => exact hf v w'
          | halt y w' => exact .inr ⟨y, w', rfl⟩
        refine hb _ _ (fun _ w => ?_) w
        refine hb _ _ (fun _ w => ?_) w
        split
        · exact hb _ _ (fun _ w => .inl ⟨_, _, rfl⟩) w
        · exact .inl ⟨_, _, rfl⟩
      · exact .inl ⟨_, _, rfl⟩
    · exact .inl ⟨_, _, rfl⟩
  · rename_i c
    obtain ⟨callee, args, argTypes⟩ := c
    cases callee with
    | builtin b =>
      cases b <;> simp at h
      simp only [resolve, invoke, builtin, Sem.run_bind, Sem.run_pure, Result.andThen_ok]
      cases hs : (Builtin.len_ argTypes o.type (Array.map ρ args)).run P w with
      | ok v w' => exact .inl ⟨v, w', by simp [Result.andThen]⟩
      | halt x w' => exact .inr ⟨x, w', by simp [Result.andThen]⟩
    | _ => simp at h

theorem quiet_yields {o : Oper} {a : Act} {w : World} {v : Value} (hv : valued o.op = true) (h : ∀ W, (∃ x : Later G w, W = x.to) → o.quietAt P a (fun W => ∃ x : Later G w, W = x.to) W v) :
    ∀ W, G.rel w W → (execOp a.eval o).run P W = .ok (.value v) W := by
  intro W hW
  have h1 := h W ⟨⟨W, hW⟩, rfl⟩
  unfold Oper.quietAt at h1
  rcases valued_run (P := P) hv a.eval W with ⟨u, w', e⟩ | ⟨x, w', e⟩
  · rw [e] at h1 ⊢
    obtain ⟨h2, h3⟩ := h1
    rw [h2, h3]
  · rw [e] at h1
    exact h1.elim

/-- May these be taken first, one after the other? -/
def segOk (md : Region.Mode) (ops : Array Oper) : List Nat → Array Bool → Bool
  | [], _ => true
  | i :: rest, listed => closedB md ops listed && (Region.ready md ops listed).contains i && Region.free md ops listed i && ((ops[i]?).map fun o => valued o.op).getD false && segOk md ops rest (listed.setIfInBounds i true)

theorem panic_put (hQ : ∀ c (a : Act) (d : Tmp) v w, Q (.panic c) (a.put (some d) v) w → Q (.panic c) a w) (c : List PanicEntry) (a : Act) (d : Option Tmp) (v : Value) (w : World) (h : Q (.panic c) (a.put d v) w) : Q (.panic c) a w := by
  cases d with
  | none => exact h
  | some d => exact hQ c a d v w h

/-- Operations that only yield values are taken first. -/
theorem wpAnyG_quiet (hs : Region.noSelect ops = true) (hQ : ∀ c (a : Act) (d : Tmp) v w, Q (.panic c) (a.put (some d) v) w → Q (.panic c) a w) :
    ∀ (seg : List Nat) (l : List Oper) (n : Nat) (listed : Array Bool) (a : Act) (w : World), seg.map (ops[·]?) = l.map some → segOk md ops seg listed = true →
      wpQuiet P ops (fun W => ∃ x : Later G w, W = x.to) (fun a' => wpAnyG G P md ops Q n (seg.foldl (fun L i => L.setIfInBounds i true) listed) a' w) l a →
      wpAnyG G P md ops Q (n + seg.length) listed a w
  | [], [], n, listed, a, w, _, _, h => h
  | [], _ :: _, _, _, _, _, hl, _, _ => by simp at hl
  | _ :: _, [], _, _, _, _, hl, _, _ => by simp at hl
  | i :: seg, o :: l, n, listed, a, w, hl, hok, h => by
    simp only [List.map_cons, List.cons.injEq] at hl
    obtain ⟨hi, hl⟩ := hl
    simp only [segOk, Bool.and_eq_true, hi, Option.map_some, Option.getD_some] at hok
    obtain ⟨⟨⟨⟨hcl, hr⟩, hf⟩, hv⟩, hok⟩ := hok
    have hr' : i ∈ Region.ready md ops listed := by simpa using hr
    by_cases hw : Region.wanted o (yielded ops a.tmps) = true
    · have h' : o.quiet P a (fun W => ∃ x : Later G w, W = x.to) (wpQuiet P ops (fun W => ∃ x : Later G w, W = x.to) (fun a' => wpAnyG G P md ops Q n ((i :: seg).foldl (fun L i => L.setIfInBounds i true) listed) a' w) l) := by
        simpa [wpQuiet, hw] using h
      obtain ⟨v, h1, h2⟩ := h'
      exact wpAnyG_first w hi (Region.noSelect_spec hs) (fun c a w h => panic_put hQ c a _ _ w h) (n + seg.length) listed a w (closed_of hcl) (Region.free_spec hi hf) hr' (.inl ⟨hw, quiet_yields hv h1⟩) (G.refl w)
        (wpAnyG_quiet hs hQ seg l n _ _ w hl hok h2)
    · have h2 : wpQuiet P ops (fun W => ∃ x : Later G w, W = x.to) (fun a' => wpAnyG G P md ops Q n ((i :: seg).foldl (fun L i => L.setIfInBounds i true) listed) a' w) l (a.put o.dst undef) := by
        simpa [wpQuiet, hw] using h
      exact wpAnyG_first w hi (Region.noSelect_spec hs) (fun c a w h => panic_put hQ c a _ _ w h) (n + seg.length) listed a w (closed_of hcl) (Region.free_spec hi hf) hr' (.inr ⟨by simpa using hw, rfl⟩) (G.refl w)
        (wpAnyG_quiet hs hQ seg l n _ _ w hl hok h2)

/-- The one operation that may come up now. -/
theorem wpAnyG_one' {i : Nat} {o : Oper} {n : Nat} {listed : Array Bool} {a : Act} {w : World} (C : World → Prop) (hC : ∀ w', C w' → G.rel w w' ∨ late md ops i = true) (hr : Region.ready md ops listed = [i]) (hi : ops[i]? = some o)
    (h : wpList P ops (Exit.then (fun a' w' => C w' ∧ wpAnyG G P md ops Q n (listed.setIfInBounds i true) a' w') Q) [o] a w) : wpAnyG G P md ops Q (n + 1) listed a w := by
  refine ⟨fun h0 => (by rw [h0] at hr; cases hr), fun j hj => ?_⟩
  rw [hr] at hj
  obtain rfl : j = i := by simpa using hj
  refine wpOp_mono (K := fun a' w' => C w' ∧ wpAnyG G P md ops Q n (listed.setIfInBounds j true) a' w') (fun a' w' h => ⟨hC w' h.1, h.2⟩) ?_
  unfold wpOp
  simp only [hi]
  unfold wpList at h
  split
  · rename_i hw
    simp only [hw, if_true] at h
    rcases h with h | ⟨h1, h2⟩
    · left
      unfold Oper.wp at h ⊢
      generalize (execOp a.eval o).run P w = r at *
      cases r with
      | ok n w' => cases n <;> exact h
      | halt x w' => cases x <;> exact h
    · exact .inr ⟨h1, h2⟩
  · rename_i hw
    simp only [hw] at h
    exact h
theorem wpAnyG_one {i : Nat} {o : Oper} {n : Nat} {listed : Array Bool} {a : Act} {w : World} (hr : Region.ready md ops listed = [i]) (hi : ops[i]? = some o)
    (h : wpList P ops (Exit.then (fun a' w' => G.rel w w' ∧ wpAnyG G P md ops Q n (listed.setIfInBounds i true) a' w') Q) [o] a w) : wpAnyG G P md ops Q (n + 1) listed a w :=
  wpAnyG_one' (G.rel w) (fun _ h => .inl h) hr hi h

theorem wpAnyG_done {n : Nat} {listed : Array Bool} {a : Act} {w : World} (hr : Region.ready md ops listed = []) (h : Q .normal a w) : wpAnyG G P md ops Q n listed a w := by
  cases n with
  | zero => exact ⟨hr, h⟩
  | succ n => exact ⟨fun _ => h, by rw [hr]; simp⟩

/-- The beginning. -/
theorem wp_region_G (G : Growth) {id : Nat} {l : List Oper} {a : Act} {w : World} (hm : P.follows .mixedOrders = true)
    (h : wpAnyG G P .any l.toArray Q l.length (Array.replicate l.length false) a w.drew) : (Code.region id l.toArray true).wp P Q a w :=
  wp_region_any hm (wpAny_of_G _ _ _ _ (by simpa using h))

/-- The same two moves, the region's operations written out in a list. -/
theorem segG {L : List Oper} (hs : Region.noSelect L.toArray = true) (hQ : ∀ c (a : Act) (d : Tmp) v w, Q (.panic c) (a.put (some d) v) w → Q (.panic c) a w) (seg : List Nat) (l : List Oper) (n : Nat) {N : Nat} {listed : Array Bool} {a : Act} {w : World} (hN : N = n + seg.length)
    (hl : seg.map (fun i => L[i]?) = l.map some) (hok : segOk md L.toArray seg listed = true)
    (h : wpQuiet P L.toArray (fun W => ∃ x : Later G w, W = x.to) (fun a' => wpAnyG G P md L.toArray Q n (seg.foldl (fun L i => L.setIfInBounds i true) listed) a' w) l a) : wpAnyG G P md L.toArray Q N listed a w := by
  subst hN
  exact wpAnyG_quiet hs hQ seg l n listed a w (by simpa using hl) hok h
theorem oneG {L : List Oper} (i n : Nat) {N : Nat} {o : Oper} {listed : Array Bool} {a : Act} {w : World} (hN : N = n + 1) (hr : Region.ready md L.toArray listed = [i]) (hi : L[i]? = some o)
    (h : wpList P L.toArray (Exit.then (fun a' w' => G.rel w w' ∧ wpAnyG G P md L.toArray Q n (listed.setIfInBounds i true) a' w') Q) [o] a w) : wpAnyG G P md L.toArray Q N listed a w := by
  subst hN
  exact wpAnyG_one hr (by simpa using hi) h
/-- An operation that all others precede or follow may do what it will. -/
theorem lateG {L : List Oper} (i n : Nat) {N : Nat} {o : Oper} {listed : Array Bool} {a : Act} {w : World} (hN : N = n + 1) (hr : Region.ready md L.toArray listed = [i]) (hlate : late md L.toArray i = true) (hi : L[i]? = some o)
    (h : wpList P L.toArray (Exit.then (fun a' w' => True ∧ wpAnyG G P md L.toArray Q n (listed.setIfInBounds i true) a' w') Q) [o] a w) : wpAnyG G P md L.toArray Q N listed a w := by
  subst hN
  exact wpAnyG_one' (fun _ => True) (fun _ _ => .inr hlate) hr (by simpa using hi) h
end
end Go.Gar
namespace Go.Proofs.YtdipflchmooakaaGreatDoor
open Go.RowKit Go.Gar

theorem Tryz.und22 : Tryz.prog.underlying 23 = some (.slice 5) := by kernel_rfl
theorem Tryz.und5 : Tryz.prog.underlying 5 = some (.int .u8) := by kernel_rfl
theorem Tryz.und9 : Tryz.prog.underlying 9 = some .string := by kernel_rfl
theorem Tryz.info5 : (Tryz.prog.info? 5).map (fun i => (i.zero, i.size, i.bytes)) = some (some (.int .u8 0), 1, 1) := by kernel_rfl
theorem Tryz.size5 : (Tryz.prog.info? 5).map (·.size) = some 1 := by kernel_rfl

set_option maxRecDepth 100000 in
/-- make([]byte, n, c): a new row of zeros. -/
theorem run_make_bytes (n c : Nat) (hnc : n ≤ c) (hc : c ≤ 281474976710656) (w : World) :
    (Instr.makeSlice 23 (.int .i64 (n : Int)) (.int .i64 (c : Int))).run Tryz.prog w = .ok (.slice (some ⟨w.heap.size, 0, none⟩) n c) (w.alloc (.cells (u8s (List.replicate c 0)).toArray 5)) := by
  obtain ⟨i, hi, hzz⟩ := Option.map_eq_some_iff.1 Tryz.info5
  simp only [Prod.mk.injEq] at hzz
  obtain ⟨hz, hs, hb⟩ := hzz
  have hr := run_make (P := Tryz.prog) w 23 5 i _ Tryz.und22 hi hz .i64 .i64 n c (by omega) (by omega) (by rw [hb]; omega) (by omega)
  rw [hr]
  simp only [Int.toNat_natCast, hs, Nat.mul_one]
  congr 3
  apply Array.ext'
  apply List.ext_getElem?
  intro k
  simp [madeCells, u8s, Value.cells, List.getElem?_replicate]
  by_cases hk : k < c
  · simp [hk, Nat.mod_one]
  · simp [hk]

theorem set_mid {α : Type} (a b : List α) (x y : α) : (a ++ x :: b).set a.length y = a ++ y :: b := by
  rw [List.set_append_right _ _ (Nat.le_refl _)]; simp
theorem grown_alloc {a w : World} {row : Option Nat} (h : a.grownBy w row) (o : Obj) : a.grownBy (w.alloc o) row :=
  ⟨h.os, h.tape, h.output, Nat.le_trans h.size (by simp), fun i hi hne => (Below.heap_alloc w o i (Nat.lt_of_lt_of_le hi h.size)).trans (h.block i hi hne)⟩
theorem grown_set {a w : World} {g i : Nat} (h : a.grownBy w (some g)) (u : Value) : a.grownBy (w.setCell ⟨g, i, none⟩ u) (some g) :=
  ⟨h.os, h.tape, h.output, by simpa [World.setCell] using h.size, fun k hk hne => (Below.heap_setCell w _ u k (fun e => hne (by simp [e]))).trans (h.block k hk hne)⟩

theorem only_set {w : World} {g i : Nat} (u : Value) : w.grownBy (w.setCell ⟨g, i, none⟩ u) (some g) := grown_set (World.grownBy.refl w _) u
theorem only_drewN {a w : World} {row : Option Nat} (h : a.grownBy w row) (n : Nat) : a.grownBy (w.drewN n) row := ⟨h.os, h.tape, h.output, h.size, h.block⟩

theorem ret_bool {a b : Bool} (h : a = b) : Ending.returned (.bool a) = .returned (.bool b) := by rw [h]
theorem beq_cast (a b : Nat) : ((a : Int) == (b : Int)) = decide (a = b) := by
  rw [Bool.eq_iff_iff]; simp; omega

theorem grown_trans {a b c : World} {row : Option Nat} (h : a.grownBy b row) (k : b.grownBy c row) : a.grownBy c row :=
  ⟨k.os.trans h.os, k.tape.trans h.tape, k.output.trans h.output, Nat.le_trans h.size k.size, fun i hi hne => (k.block i (Nat.lt_of_lt_of_le hi h.size) hne).trans (h.block i hi hne)⟩

theorem below_alloc (w : World) (o : Obj) : Below w.heap.size w (w.alloc o) := (Below.refl _ _).alloc (Nat.le_refl _) o

theorem bg {w0 w w' : World} {g : Nat} (Hb : Hid (Below w0.heap.size w0 w)) (hg : w.grownBy w' (some g)) (Hw : Hid (w0.heap.size ≤ g)) : Hid (Below w0.heap.size w0 w') :=
  Below.grown Hb hg (Below.size Hb) (fun k hk => by injection hk with hk; have := Hw.out; omega)
theorem bd {w0 w : World} (Hb : Hid (Below w0.heap.size w0 w)) (n : Nat) : Hid (Below w0.heap.size w0 (w.drewN n)) :=
  ⟨Hb.out.os, Hb.out.tape, Hb.out.output, Hb.out.size, Hb.out.block⟩
theorem bb {w0 w w' : World} (Hb : Hid (Below w0.heap.size w0 w)) (hb : Below w.heap.size w w') : Hid (Below w0.heap.size w0 w') :=
  Below.trans Hb (hb.mono (Below.size Hb))
/-- string(b) of a row that is known whole, in every world to which memory may have grown. -/
theorem string_later {w : World} {g : Nat} {k : List UInt8} (h : Blk w g 5 (u8s k)) (len cap : Nat) (hl : len = k.length) :
    ∀ x : Later grows w, (convert 23 9 (.slice (some ⟨g, 0, none⟩) len cap)).run Tryz.prog x.to = .ok (.string ⟨k.toArray⟩) x.to := by
  intro x
  subst hl
  have hx : Below w.heap.size w x.to := x.grown
  exact run_string_rd (P := Tryz.prog) 23 9 5 Tryz.und22 Tryz.und5 Tryz.und9 _ _ _ cap (Rd.of_all (h.below hx h.lt))
theorem string_later_rd {w : World} {A : Option Addr} {k : List UInt8} (h : Rd w w.heap.size A k) (cap : Nat) :
    ∀ x : Later grows w, (convert 23 9 (.slice A k.length cap)).run Tryz.prog x.to = .ok (.string ⟨k.toArray⟩) x.to := by
  intro x
  have hx : Below w.heap.size w x.to := x.grown
  exact run_string_rd (P := Tryz.prog) 23 9 5 Tryz.und22 Tryz.und5 Tryz.und9 _ _ _ cap (h.below hx)

/-- Only block g may turn. -/
def turns (g : Nat) : Growth := ⟨fun w w' => w.grownBy w' (some g), fun w => World.grownBy.refl w _, fun h k => grown_trans h k⟩

/-- A load of an old cell, in every world in which only block g and what is newer has turned. -/
theorem load_later {w wa : World} {g b o : Nat} {v : Value} (hb : Below w.heap.size w wa) (hc : w.cell? ⟨b, o, none⟩ = some v) (hlt : b < w.heap.size) (hg : w.heap.size ≤ g) :
    ∀ x : Later (turns g) wa, x.to.cell? ⟨b, o, none⟩ = some v := by
  intro x
  have hx : wa.grownBy x.to (some g) := x.grown
  exact hx.cell ((hb.cell (p := ⟨b, o, none⟩) hlt).trans hc) (fun e => by simp at e; omega)

/-- A cell of a row that is known whole, in every world to which memory may have grown. -/
theorem cell_later {w : World} {g : Nat} {t : TypeId} {cs : List Value} (h : Blk w g t cs) {i : Nat} {v : Value} (hv : cs[i]? = some v) : ∀ x : Later grows w, x.to.cell? ⟨g, i, none⟩ = some v := by
  intro x
  have hx : Below w.heap.size w x.to := x.grown
  rw [(h.below hx h.lt).cell, hv]

end Go.Proofs.YtdipflchmooakaaGreatDoor
