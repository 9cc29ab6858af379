/-
  Plain facts on memory, of no program: rows of bytes in a block, slices that read as bytes, and what copy, append and the conversion to a string do to them. Nothing is assumed beyond the premises of each fact. A thing in memory that owns blocks: what a call on it may turn. Of no program. The numbers of an int. Of no program. Facts on the translated program's basic types, and small facts on memory through calls, that every layer's walks use. Layer 14: what is asked of disk's functions (a contract, over whatever a disk is in memory). A statement that draws its order, where two operations may come up: both are walked. Of no program; a tool for the walks. A whole array that is made as a variable, and stored by value: laws at the level of a list of operations. Of no program.
-/
import Derived.WalkKit
import Derived.WalkSpells
import Derived.Lib.Hide
import Derived.Laws.CopyOwn
import Derived.Lib.AppendStr
import Derived.Deep.AppendSrc
import Derived.Laws.BytesArg
import Derived.Deep.Draws
import Derived.Test.YtampdfmakhdliaaDiskJ01
import Derived.IntWalk
import Derived.Test.YtampdfmakhdliaaRows
import Derived.BigQuiet
import Derived.Deep.QuietTactic
import Derived.Deep.WholeRow
set_option maxRecDepth 100000
namespace Go.Gar
open Go.RowKit

def u8s (l : List UInt8) : List Value := l.map fun c => Value.int .u8 (c.toNat : Int)

theorem u8s_len (l : List UInt8) : (u8s l).length = l.length := by simp [u8s]
theorem u8s_one (l : List UInt8) : ∀ u ∈ u8s l, u.oneCell' = true := by
  intro u hu
  simp only [u8s, List.mem_map] at hu
  obtain ⟨c, _, rfl⟩ := hu
  rfl
theorem u8s_app (l k : List UInt8) : u8s (l ++ k) = u8s l ++ u8s k := by simp [u8s]
theorem u8s_take (l : List UInt8) (n : Nat) : (u8s l).take n = u8s (l.take n) := by simp [u8s, List.map_take]
theorem u8s_drop (l : List UInt8) (n : Nat) : (u8s l).drop n = u8s (l.drop n) := by simp [u8s, List.map_drop]
theorem u8s_get (l : List UInt8) (i : Nat) : (u8s l)[i]? = l[i]?.map fun c => Value.int .u8 (c.toNat : Int) := by simp [u8s]
theorem u8s_str (s : ByteArray) : Lib.strCells s = u8s s.data.toList := rfl

/-- Block g is the row cs, its elements of type t, no cell frozen. -/
def Blk (w : World) (g : Nat) (t : TypeId) (cs : List Value) : Prop := w.heap[g]? = some (.cells cs.toArray t (0, 0))

section
variable {w w' : World} {g : Nat} {t : TypeId} {cs : List Value}
theorem Blk.lt (h : Blk w g t cs) : g < w.heap.size := (Array.getElem?_eq_some_iff.1 h).1
theorem Blk.cell (h : Blk w g t cs) (i : Nat) : w.cell? ⟨g, i, none⟩ = cs[i]? := by
  unfold Blk at h; simp [World.cell?, h]
theorem Blk.frozen (h : Blk w g t cs) (i : Nat) : w.frozen? ⟨g, i, none⟩ = false := by
  unfold Blk at h; simp [World.frozen?, h]
theorem Blk.alloc (h : Blk w g t cs) (o : Obj) : Blk (w.alloc o) g t cs := (Below.heap_alloc w o g h.lt).trans h
theorem Blk.drewN (h : Blk w g t cs) (n : Nat) : Blk (w.drewN n) g t cs := h
theorem Blk.drew (h : Blk w g t cs) : Blk w.drew g t cs := h
theorem Blk.new (w : World) (t : TypeId) (cs : List Value) : Blk (w.alloc (.cells cs.toArray t)) w.heap.size t cs := heap_alloc_new w _
theorem Blk.below {B : Nat} (h : Blk w g t cs) (hb : Below B w w') (hg : g < B) : Blk w' g t cs := (hb.block g hg).trans h
theorem Blk.grown {row : Option Nat} (h : Blk w g t cs) (hb : w.grownBy w' row) (hg : some g ≠ row) : Blk w' g t cs := (hb.block g h.lt hg).trans h
theorem Blk.set_ (h : Blk w g t cs) (i : Nat) (u : Value) : Blk (w.setCell ⟨g, i, none⟩ u) g t (cs.set i u) := by
  unfold Blk at h ⊢
  simp [World.setCell, Array.getElem?_modify, h]
theorem Blk.far (h : Blk w g t cs) {p : Addr} (hp : g ≠ p.block) (u : Value) : Blk (w.setCell p u) g t cs := (Below.heap_setCell w p u g hp).trans h
theorem Blk.row (h : Blk w g t cs) (ds : List Value) : Blk (w.setRow g ds.toArray) g t ds := setRow_heap w g _ _ t _ h
theorem Blk.rowFar {g' : Nat} (h : Blk w g t cs) (hne : g ≠ g') (ds : Array Value) : Blk (w.setRow g' ds) g t cs := (setRow_other w g' g ds hne).trans h
theorem Blk.ne {g' : Nat} {t' : TypeId} {cs' : List Value} (h : Blk w g t cs) (h' : Blk w g' t' cs') (hne : t ≠ t') : g ≠ g' := by
  rintro rfl
  unfold Blk at h h'
  rw [h] at h'
  injection h' with h'
  injection h' with _ ht
  exact hne ht
end

/-- A slice value's address and list: it reads as the bytes l, in a block below B. -/
def Rd (w : World) (B : Nat) (A : Option Addr) (l : List UInt8) : Prop :=
  l = [] ∨ ∃ b o, A = some ⟨b, o, none⟩ ∧ b < B ∧ ∀ i c, l[i]? = some c → w.cell? ⟨b, o + i, none⟩ = some (.int .u8 (c.toNat : Int))

section
variable {w w' : World} {B B' : Nat} {A : Option Addr} {l : List UInt8}
theorem Rd.nil : Rd w B A [] := .inl rfl
theorem Rd.keep (h : Rd w B A l) (hk : ∀ k, k < B → w'.heap[k]? = w.heap[k]?) : Rd w' B A l := by
  rcases h with h | ⟨b, o, e, hb, hc⟩
  · exact .inl h
  · exact .inr ⟨b, o, e, hb, fun i c hi => (World.cell?_of_block (hk b hb)).trans (hc i c hi)⟩
theorem Rd.below (h : Rd w B A l) (hb : Below B w w') : Rd w' B A l := h.keep hb.block
theorem Rd.more (h : Rd w B A l) (hB : B ≤ B') : Rd w B' A l := by
  rcases h with h | ⟨b, o, e, hb, hc⟩
  · exact .inl h
  · exact .inr ⟨b, o, e, by omega, hc⟩
theorem Rd.alloc (h : Rd w B A l) (hB : B ≤ w.heap.size) (o : Obj) : Rd (w.alloc o) B A l := h.keep fun k hk => Below.heap_alloc w o k (by omega)
theorem Rd.take (h : Rd w B A l) (n : Nat) : Rd w B A (l.take n) := by
  rcases h with rfl | ⟨b, o, e, hb, hc⟩
  · exact .inl (by simp)
  · refine .inr ⟨b, o, e, hb, fun i c hi => hc i c ?_⟩
    rw [List.getElem?_take] at hi
    split at hi
    · exact hi
    · cases hi
theorem Rd.of_blk {g : Nat} {t : TypeId} (k : List UInt8) (h : Blk w g t (u8s k)) (hB : g < B) (o n : Nat) : Rd w B (some ⟨g, o, none⟩) ((k.drop o).take n) := by
  refine .inr ⟨g, o, rfl, hB, fun i c hi => ?_⟩
  rw [h.cell, u8s_get]
  have : k[o + i]? = some c := by
    rw [List.getElem?_take] at hi
    split at hi
    · rw [List.getElem?_drop] at hi; exact hi
    · cases hi
  rw [this]; rfl
theorem Rd.of_blk0 {g : Nat} {t : TypeId} (k : List UInt8) (h : Blk w g t (u8s k)) (hB : g < B) (n : Nat) : Rd w B (some ⟨g, 0, none⟩) (k.take n) := by
  simpa using Rd.of_blk k h hB 0 n
theorem Rd.of_row {g : Nat} {t : TypeId} {k : List UInt8} {rest : List Value} (h : Blk w g t (u8s k ++ rest)) : Rd w w.heap.size (some ⟨g, 0, none⟩) k := by
  refine .inr ⟨g, 0, rfl, h.lt, fun i c hi => ?_⟩
  have hlt : i < k.length := (List.getElem?_eq_some_iff.1 hi).1
  rw [h.cell, Nat.zero_add, List.getElem?_append_left (by rw [u8s_len]; exact hlt), u8s_get, hi]; rfl
theorem Rd.of_all {g : Nat} {t : TypeId} {k : List UInt8} (h : Blk w g t (u8s k)) : Rd w w.heap.size (some ⟨g, 0, none⟩) k := by
  simpa using Rd.of_blk0 k h h.lt k.length
end

/-- A slice whose elements take one cell each reads as the values vs. -/
def Cells (w : World) (B : Nat) (A : Option Addr) (vs : List Value) : Prop :=
  vs = [] ∨ ∃ b o, A = some ⟨b, o, none⟩ ∧ b < B ∧ ∀ i v, vs[i]? = some v → w.cell? ⟨b, o + i, none⟩ = some v
theorem Cells.of_blk {w : World} {g : Nat} {t : TypeId} {vs : List Value} (h : Blk w g t vs) : Cells w w.heap.size (some ⟨g, 0, none⟩) vs :=
  .inr ⟨g, 0, rfl, h.lt, fun i v hi => by rw [h.cell, Nat.zero_add, hi]⟩
theorem Cells.at_ {w : World} {B : Nat} {A : Option Addr} {vs : List Value} (h : Cells w B A vs) {i : Nat} (hi : i < vs.length) : ∃ b o, A = some ⟨b, o, none⟩ ∧ b < B ∧ w.cell? ⟨b, o + i, none⟩ = some vs[i] := by
  rcases h with rfl | ⟨b, o, e, hb, hc⟩
  · simp at hi
  · exact ⟨b, o, e, hb, hc i _ (List.getElem?_eq_getElem hi)⟩

section
variable {P : Program} {w : World}

/-- One operation whose run is known. -/
theorem wpList_run {ops : Array Oper} {rest : List Oper} {o : Oper} {a : Act} {Q : Exit → Act → World → Prop} (hgd : o.guard = none) {v : Value} {w' : World}
    (hrun : (execOp a.eval o).run P w = .ok (.value v) w') (h : wpList P ops Q rest (a.put o.dst v) w') : wpList P ops Q (o :: rest) a w :=
  wpList_plain hgd fun K hK => by
    unfold Oper.wp
    rw [hrun]
    exact hK _ _ h

/-- append, its run known. -/
theorem wpList_append_run {ops : Array Oper} {rest : List Oper} {o : Oper} {a : Act} {Q : Exit → Act → World → Prop} (hgd : o.guard = none) (s x : Operand) (ts : Array TypeId)
    (ho : o.op = .call { callee := .builtin .append, args := #[s, x], argTypes := ts }) {vs vx v : Value} {w' : World} (hs : a.eval s = vs) (hx : a.eval x = vx)
    (hrun : (Builtin.append_ ts o.type #[vs, vx]).run P w = .ok v w') (h : wpList P ops Q rest (a.put o.dst v) w') : wpList P ops Q (o :: rest) a w := by
  refine wpList_run hgd (v := v) (w' := w') ?_ h
  unfold execOp
  simp only [ho, resolve, invoke, builtin, Sem.run_bind, Sem.run_pure, Result.andThen_ok, List.map_toArray, List.map_cons, List.map_nil, hs, hx, hrun]

/-- copy of bytes that a slice reads as, over the head of a row that is known whole. -/
theorem run_copy_rd (dT sT ty e : TypeId) (hu : P.underlying dT = some (.slice e)) (hs : (P.info? e).map (·.size) = some 1) (g dCap sCap : Nat) (A : Option Addr) (l : List UInt8) (B : Nat)
    (hr : Rd w B A l) (cs : List Value) (t : TypeId) (hg : Blk w g t cs) (hfit : l.length ≤ cs.length) :
    (Builtin.copy_ #[dT, sT] ty #[.slice (some ⟨g, 0, none⟩) l.length dCap, .slice A l.length sCap]).run P w = .ok (goInt l.length) (w.setRow g (u8s l ++ cs.drop l.length).toArray) := by
  rcases hr with rfl | ⟨b, o, rfl, _, hc⟩
  · rw [run_copy_none w dT sT ty e _ _ _ _ _ _ hu hs (by simp)]
    have := setRow_self w g cs.toArray t (0, 0) hg
    simp only [List.length_nil, u8s, List.map_nil, List.drop_zero, List.nil_append]
    rw [this]
    rfl
  · have h := run_copy_row (P := P) w dT sT ty e g 0 l.length dCap ⟨b, o, none⟩ l.length sCap cs.toArray t (u8s l) hu hs hg (by simp [u8s_len]) ?_ (by simpa [u8s_len] using hfit) (u8s_one l)
    · simpa [u8s_len] using h
    · intro j v hj
      rw [u8s_get] at hj
      cases hq : l[j]? with
      | none => simp [hq] at hj
      | some c =>
        rw [hq] at hj
        simp at hj
        subst hj
        have : (⟨b, o, none⟩ : Addr).add j = ⟨b, o + j, none⟩ := Addr.add_lit _ _ _
        rw [this]
        exact hc j c hq

/-- append of bytes that a slice reads as, behind the first L of a row that is known whole, where there is room. -/
theorem run_append_rd (t ty e : TypeId) (ht : P.underlying t = some (.slice e)) (hs : (P.info? e).map (·.size) = some 1) (g L cap sCap : Nat) (A : Option Addr) (l : List UInt8) (B : Nat)
    (hr : Rd w B A l) (hA : A.isSome = true) (cs : List Value) (hg : Blk w g e cs) (hroom : L + l.length ≤ cap) (hfit : L + l.length ≤ cs.length) :
    (Builtin.append_ #[t, t] ty #[.slice (some ⟨g, 0, none⟩) L cap, .slice A l.length sCap]).run P w =
      .ok (.slice (some ⟨g, 0, none⟩) (L + l.length) cap) (w.setRow g (cs.take L ++ u8s l ++ cs.drop (L + l.length)).toArray) := by
  cases hq : P.info? e with
  | none => simp [hq] at hs
  | some i =>
    have hi : i.size = 1 := by simpa [hq] using hs
    cases A with
    | none => simp at hA
    | some a =>
      have h := run_append_room (P := P) w t ty e i ht hq g L cap cs.toArray hg a l.length sCap (u8s l) (by simp [u8s_len, hi]) ?_ (u8s_one l) hroom (by simpa [u8s_len, hi] using hfit)
      · simpa [u8s_len, hi] using h
      · intro j v hj
        rw [u8s_get] at hj
        rcases hr with rfl | ⟨b, o, hA, _, hc⟩
        · simp at hj
        · injection hA with hA
          subst hA
          cases hq : l[j]? with
          | none => simp [hq] at hj
          | some c =>
            rw [hq] at hj
            simp at hj
            subst hj
            have : (⟨b, o, none⟩ : Addr).add j = ⟨b, o + j, none⟩ := Addr.add_lit _ _ _
            rw [this]
            exact hc j c hq

/-- append of a string's bytes, where there is room. -/
theorem run_append_str (t u ty e : TypeId) (ht : P.underlying t = some (.slice e)) (hu : P.underlying u = some .string) (hs : (P.info? e).map (·.size) = some 1) (g L cap : Nat) (s : ByteArray)
    (cs : List Value) (hg : Blk w g e cs) (hroom : L + s.size ≤ cap) (hfit : L + s.size ≤ cs.length) :
    (Builtin.append_ #[t, u] ty #[.slice (some ⟨g, 0, none⟩) L cap, .string s]).run P w =
      .ok (.slice (some ⟨g, 0, none⟩) (L + s.size) cap) (w.setRow g (cs.take L ++ u8s s.data.toList ++ cs.drop (L + s.size)).toArray) := by
  cases hq : P.info? e with
  | none => simp [hq] at hs
  | some i =>
    have hi : i.size = 1 := by simpa [hq] using hs
    have h := Lib.run_append_room_string (P := P) w t u ty e i ht hu hq hi g L cap cs.toArray hg s hroom (by simpa using hfit)
    simpa [u8s_str] using h

theorem strOf_u8s (l : List UInt8) : strOfNums (l.map fun c => (c.toNat : Int)) = ⟨l.toArray⟩ := by
  unfold strOfNums
  congr 2
  rw [List.map_map]
  conv => rhs; rw [← List.map_id l]
  apply List.map_congr_left
  intro c _
  simp

/-- string(b), of what the slice reads as. -/
theorem run_string_rd (src dst e : TypeId) (hs : P.underlying src = some (.slice e)) (he : P.underlying e = some (.int .u8)) (hd : P.underlying dst = some .string) (A : Option Addr) (l : List UInt8) (B cap : Nat) (hr : Rd w B A l) :
    (convert src dst (.slice A l.length cap)).run P w = .ok (.string ⟨l.toArray⟩) w := by
  rcases hr with rfl | ⟨b, o, rfl, _, hc⟩
  · cases A with
    | none => rw [run_convert_bytes_nil w src e hs he _ _ dst hd]; rfl
    | some a =>
      rw [run_convert_bytes_string w src dst e _ _ _ hs he hd, run_bytesToString w a _ cap [] (by simpa using run_loadCells_list (P := P) w a [] (by simp))]
      rfl
  · rw [run_convert_bytes_arg w src e hs he b o l.length cap (l.map fun c => (c.toNat : Int)) (by simp) ?_ dst hd, strOf_u8s]
    intro i hi
    rw [hc i l[i] (List.getElem?_eq_getElem hi)]
    simp [List.getD, List.getElem?_eq_getElem hi]
end
end Go.Gar
namespace Go.Gar
open Go.RowKit

/-- Of the blocks that stood those of F alone may have turned. -/
structure Only (F : Nat → Prop) (w w' : World) : Prop where
  os : w'.os = w.os
  tape : w'.tape = w.tape
  output : w'.output = w.output
  size : w.heap.size ≤ w'.heap.size
  block : ∀ k, k < w.heap.size → ¬ F k → w'.heap[k]? = w.heap[k]?
section
variable {F F' : Nat → Prop} {a b c w w' : World}
theorem Only.refl (F : Nat → Prop) (w : World) : Only F w w := ⟨rfl, rfl, rfl, Nat.le_refl _, fun _ _ _ => rfl⟩
theorem Only.trans (h : Only F a b) (k : Only F b c) : Only F a c :=
  ⟨k.os.trans h.os, k.tape.trans h.tape, k.output.trans h.output, Nat.le_trans h.size k.size, fun i hi hn => (k.block i (Nat.lt_of_lt_of_le hi h.size) hn).trans (h.block i hi hn)⟩
/-- The second may also turn what is new since the first's beginning. -/
theorem Only.then (h : Only F a b) (k : Only F' b c) (hF : ∀ i, F' i → F i ∨ a.heap.size ≤ i) : Only F a c :=
  ⟨k.os.trans h.os, k.tape.trans h.tape, k.output.trans h.output, Nat.le_trans h.size k.size, fun i hi hn => (k.block i (Nat.lt_of_lt_of_le hi h.size) (fun hf => by rcases hF i hf with h1 | h1; exact hn h1; omega)).trans (h.block i hi hn)⟩
theorem Only.mono (h : Only F a b) (hF : ∀ i, F i → F' i) : Only F' a b := ⟨h.os, h.tape, h.output, h.size, fun i hi hn => h.block i hi (fun hf => hn (hF i hf))⟩
theorem Only.of_below (F : Nat → Prop) (h : Below w.heap.size w w') : Only F w w' := ⟨h.os, h.tape, h.output, h.size, fun i hi _ => h.block i hi⟩
theorem Only.of_grown {row : Option Nat} (h : w.grownBy w' row) (hr : ∀ i, row = some i → F i) : Only F w w' := ⟨h.os, h.tape, h.output, h.size, fun i hi hn => h.block i hi (fun e => hn (hr i e.symm))⟩
theorem Only.drew (h : Only F a w) : Only F a w.drew := ⟨h.os, h.tape, h.output, h.size, h.block⟩
theorem Only.alloc (h : Only F a w) (o : Obj) : Only F a (w.alloc o) := h.trans (.of_below F ((Below.refl _ _).alloc (Nat.le_refl _) o))
theorem Only.below {B : Nat} (h : Only F w w') (hF : ∀ i, F i → B ≤ i) (hB : B ≤ w.heap.size) : Below B w w' := ⟨h.os, h.tape, h.output, h.size, fun i hi => h.block i (by omega) (fun hf => by have := hF i hf; omega)⟩
theorem Only.rd {B : Nat} {A : Option Addr} {l : List UInt8} (h : Only F w w') (hr : Rd w B A l) (hB : B ≤ w.heap.size) (hA : ∀ p, A = some p → ¬ F p.block) : Rd w' B A l := by
  rcases hr with rfl | ⟨b, o, rfl, hb, hc⟩
  · exact .inl rfl
  · exact .inr ⟨b, o, rfl, hb, fun i x hx => (World.cell?_of_block (w := w) (w' := w') (a := ⟨b, o + i, none⟩) (h.block b (by omega) (hA _ rfl))).trans (hc i x hx)⟩
theorem Only.blk {g : Nat} {t : TypeId} {cs : List Value} (h : Only F w w') (hb : Blk w g t cs) (hg : ¬ F g) : Blk w' g t cs := (h.block g hb.lt hg).trans hb
end
/-- A growth: of the blocks that stood those of F alone turn. -/
def onlyG (F : Nat → Prop) : Growth := ⟨fun w w' => Only F w w', fun w => Only.refl F w, fun h k => h.trans k⟩
end Go.Gar
namespace Go.Proofs.Ytampdfmakhdliaa
def isI64 (n : Int) : Prop := -9223372036854775808 ≤ n ∧ n ≤ 9223372036854775807
end Go.Proofs.Ytampdfmakhdliaa
namespace Go.Proofs.Ytampdfmakhdliaa
open Go.RowKit Go.Gar

theorem Try.und22 : Try.prog.underlying 40 = some (.slice 5) := by kernel_rfl
theorem Try.und5 : Try.prog.underlying 5 = some (.int .u8) := by kernel_rfl
theorem Try.und9 : Try.prog.underlying 9 = some .string := by kernel_rfl
theorem Try.info5 : (Try.prog.info? 5).map (fun i => (i.zero, i.size, i.bytes)) = some (some (.int .u8 0), 1, 1) := by kernel_rfl
theorem Try.size5 : (Try.prog.info? 5).map (·.size) = some 1 := by kernel_rfl

set_option maxRecDepth 100000 in
/-- make([]byte, n, c): a new row of zeros. -/
theorem run_make_bytes (n c : Nat) (hnc : n ≤ c) (hc : c ≤ 281474976710656) (w : World) :
    (Instr.makeSlice 40 (.int .i64 (n : Int)) (.int .i64 (c : Int))).run Try.prog w = .ok (.slice (some ⟨w.heap.size, 0, none⟩) n c) (w.alloc (.cells (u8s (List.replicate c 0)).toArray 5)) := by
  obtain ⟨i, hi, hzz⟩ := Option.map_eq_some_iff.1 Try.info5
  simp only [Prod.mk.injEq] at hzz
  obtain ⟨hz, hs, hb⟩ := hzz
  have hr := run_make (P := Try.prog) w 40 5 i _ Try.und22 hi hz .i64 .i64 n c (by omega) (by omega) (by rw [hb]; omega) (by omega)
  rw [hr]
  simp only [Int.toNat_natCast, hs, Nat.mul_one]
  congr 3
  apply Array.ext'
  apply List.ext_getElem?
  intro k
  simp [madeCells, u8s, Value.cells, List.getElem?_replicate]
  by_cases hk : k < c
  · simp [hk, Nat.mod_one]
  · simp [hk]

theorem set_mid {α : Type} (a b : List α) (x y : α) : (a ++ x :: b).set a.length y = a ++ y :: b := by
  rw [List.set_append_right _ _ (Nat.le_refl _)]; simp
theorem grown_alloc {a w : World} {row : Option Nat} (h : a.grownBy w row) (o : Obj) : a.grownBy (w.alloc o) row :=
  ⟨h.os, h.tape, h.output, Nat.le_trans h.size (by simp), fun i hi hne => (Below.heap_alloc w o i (Nat.lt_of_lt_of_le hi h.size)).trans (h.block i hi hne)⟩
theorem grown_set {a w : World} {g i : Nat} (h : a.grownBy w (some g)) (u : Value) : a.grownBy (w.setCell ⟨g, i, none⟩ u) (some g) :=
  ⟨h.os, h.tape, h.output, by simpa [World.setCell] using h.size, fun k hk hne => (Below.heap_setCell w _ u k (fun e => hne (by simp [e]))).trans (h.block k hk hne)⟩

theorem only_set {w : World} {g i : Nat} (u : Value) : w.grownBy (w.setCell ⟨g, i, none⟩ u) (some g) := grown_set (World.grownBy.refl w _) u
theorem only_drewN {a w : World} {row : Option Nat} (h : a.grownBy w row) (n : Nat) : a.grownBy (w.drewN n) row := ⟨h.os, h.tape, h.output, h.size, h.block⟩

theorem ret_bool {a b : Bool} (h : a = b) : Ending.returned (.bool a) = .returned (.bool b) := by rw [h]
theorem beq_cast (a b : Nat) : ((a : Int) == (b : Int)) = decide (a = b) := by
  rw [Bool.eq_iff_iff]; simp; omega

theorem grown_trans {a b c : World} {row : Option Nat} (h : a.grownBy b row) (k : b.grownBy c row) : a.grownBy c row :=
  ⟨k.os.trans h.os, k.tape.trans h.tape, k.output.trans h.output, Nat.le_trans h.size k.size, fun i hi hne => (k.block i (Nat.lt_of_lt_of_le hi h.size) hne).trans (h.block i hi hne)⟩

theorem below_alloc (w : World) (o : Obj) : Below w.heap.size w (w.alloc o) := (Below.refl _ _).alloc (Nat.le_refl _) o

theorem bg {w0 w w' : World} {g : Nat} (Hb : Hid (Below w0.heap.size w0 w)) (hg : w.grownBy w' (some g)) (Hw : Hid (w0.heap.size ≤ g)) : Hid (Below w0.heap.size w0 w') :=
  Below.grown Hb hg (Below.size Hb) (fun k hk => by injection hk with hk; have := Hw.out; omega)
theorem bd {w0 w : World} (Hb : Hid (Below w0.heap.size w0 w)) (n : Nat) : Hid (Below w0.heap.size w0 (w.drewN n)) :=
  ⟨Hb.out.os, Hb.out.tape, Hb.out.output, Hb.out.size, Hb.out.block⟩
theorem bb {w0 w w' : World} (Hb : Hid (Below w0.heap.size w0 w)) (hb : Below w.heap.size w w') : Hid (Below w0.heap.size w0 w') :=
  Below.trans Hb (hb.mono (Below.size Hb))
/-- string(b) of a row that is known whole, in every world to which memory may have grown. -/
theorem string_later {w : World} {g : Nat} {k : List UInt8} (h : Blk w g 5 (u8s k)) (len cap : Nat) (hl : len = k.length) :
    ∀ x : Later grows w, (convert 40 9 (.slice (some ⟨g, 0, none⟩) len cap)).run Try.prog x.to = .ok (.string ⟨k.toArray⟩) x.to := by
  intro x
  subst hl
  have hx : Below w.heap.size w x.to := x.grown
  exact run_string_rd (P := Try.prog) 40 9 5 Try.und22 Try.und5 Try.und9 _ _ _ cap (Rd.of_all (h.below hx h.lt))
theorem string_later_rd {w : World} {A : Option Addr} {k : List UInt8} (h : Rd w w.heap.size A k) (cap : Nat) :
    ∀ x : Later grows w, (convert 40 9 (.slice A k.length cap)).run Try.prog x.to = .ok (.string ⟨k.toArray⟩) x.to := by
  intro x
  have hx : Below w.heap.size w x.to := x.grown
  exact run_string_rd (P := Try.prog) 40 9 5 Try.und22 Try.und5 Try.und9 _ _ _ cap (h.below hx)

/-- Only block g may turn. -/
def turns (g : Nat) : Growth := ⟨fun w w' => w.grownBy w' (some g), fun w => World.grownBy.refl w _, fun h k => grown_trans h k⟩

/-- A load of an old cell, in every world in which only block g and what is newer has turned. -/
theorem load_later {w wa : World} {g b o : Nat} {v : Value} (hb : Below w.heap.size w wa) (hc : w.cell? ⟨b, o, none⟩ = some v) (hlt : b < w.heap.size) (hg : w.heap.size ≤ g) :
    ∀ x : Later (turns g) wa, x.to.cell? ⟨b, o, none⟩ = some v := by
  intro x
  have hx : wa.grownBy x.to (some g) := x.grown
  exact hx.cell ((hb.cell (p := ⟨b, o, none⟩) hlt).trans hc) (fun e => by simp at e; omega)

/-- A cell of a row that is known whole, in every world to which memory may have grown. -/
theorem cell_later {w : World} {g : Nat} {t : TypeId} {cs : List Value} (h : Blk w g t cs) {i : Nat} {v : Value} (hv : cs[i]? = some v) : ∀ x : Later grows w, x.to.cell? ⟨g, i, none⟩ = some v := by
  intro x
  have hx : Below w.heap.size w x.to := x.grown
  rw [(h.below hx h.lt).cell, hv]

end Go.Proofs.Ytampdfmakhdliaa
namespace Go.Proofs.Ytampdfmakhdliaa
open Go.RowKit Go.Gar
open Go.Gar.Dsk (Dsk)

/-- A slice that reads as the bytes l, in a block that is none of the disk's. -/
def OutF (w : World) (F : Nat → Prop) (v : Value) (l : List UInt8) : Prop := ∃ A c, v = .slice A l.length c ∧ l.length ≤ c ∧ Rd w w.heap.size A l ∧ ∀ p, A = some p → ¬ F p.block
def ptr (g : Nat) : Value := .pointer (some ⟨g, 0, none⟩)
/-- A disk in memory: Rep w F g d: at block g, its blocks are F, what it is is d. -/
structure DiskRep (Rep : World → (Nat → Prop) → Nat → Dsk → Prop) : Prop where
  ok : ∀ {w : World} {F : Nat → Prop} {g : Nat} {d : Dsk}, Rep w F g d → Dsk.Ok d
  lt : ∀ {w : World} {F : Nat → Prop} {g : Nat} {d : Dsk}, Rep w F g d → ∀ k, F k → k < w.heap.size
  keep : ∀ {w w' : World} {F : Nat → Prop} {g : Nat} {d : Dsk}, Rep w F g d → (∀ k, F k → w'.heap[k]? = w.heap[k]?) → Rep w' F g d
structure DiskOK (Rep : World → (Nat → Prop) → Nat → Dsk → Prop) : Prop extends DiskRep Rep where
  new : ∀ (w : World) (n : Int), isI64 n → Calls Try.prog 9 #[.int .i64 n] w fun e w' => ∃ F g, e = .returned (ptr g) ∧ Rep w' F g (Dsk.new n) ∧ (∀ k, F k → w.heap.size ≤ k) ∧ Below w.heap.size w w'
  size : ∀ {w : World} {F : Nat → Prop} {g : Nat} {d : Dsk}, Rep w F g d → Calls Try.prog 11 #[ptr g] w fun e w' => e = .returned (.int .i64 (d.secs.length : Int)) ∧ Below w.heap.size w w'
  read : ∀ {w : World} {F : Nat → Prop} {g : Nat} {d : Dsk} (i : Int), Rep w F g d → isI64 i → Calls Try.prog 20 #[ptr g, .int .i64 i] w fun e w' => ∃ v, e = .returned (.tuple #[v, .int .i64 ((Dsk.readE d i : Nat) : Int)]) ∧ OutF w' F v (Dsk.read d i) ∧ Below w.heap.size w w'
  write : ∀ {w : World} {F : Nat → Prop} {g : Nat} {d : Dsk} (i : Int) (A : Option Addr) (b : List UInt8) (c : Nat), Rep w F g d → isI64 i → Rd w w.heap.size A b → (∀ p, A = some p → ¬ F p.block) → b.length ≤ c → b.length ≤ 1000000 → d.many < 4611686018427387904 → Calls Try.prog 17 #[ptr g, .int .i64 i, .slice A b.length c] w fun e w' => e = .returned (.int .i64 ((Dsk.writeE d i b : Nat) : Int)) ∧ ∃ F', Rep w' F' g (Dsk.write d i b) ∧ (∀ k, F' k → F k ∨ w.heap.size ≤ k) ∧ Only F w w'
  flush : ∀ {w : World} {F : Nat → Prop} {g : Nat} {d : Dsk}, Rep w F g d → Calls Try.prog 12 #[ptr g] w fun e w' => e = .returned (.int .i64 ((Dsk.flushE d : Nat) : Int)) ∧ ∃ F', Rep w' F' g (Dsk.flush d) ∧ (∀ k, F' k → F k ∨ w.heap.size ≤ k) ∧ Only F w w'
  pending : ∀ {w : World} {F : Nat → Prop} {g : Nat} {d : Dsk}, Rep w F g d → Calls Try.prog 24 #[ptr g] w fun e w' => e = .returned (.int .i64 ((Dsk.pending d : Nat) : Int)) ∧ Below w.heap.size w w'
  writes : ∀ {w : World} {F : Nat → Prop} {g : Nat} {d : Dsk}, Rep w F g d → Calls Try.prog 26 #[ptr g] w fun e w' => e = .returned (.int .i64 ((d.many : Nat) : Int)) ∧ Below w.heap.size w w'
  since : ∀ {w : World} {F : Nat → Prop} {g : Nat} {d : Dsk} (i : Int), Rep w F g d → isI64 i → Calls Try.prog 22 #[ptr g, .int .i64 i] w fun e w' => e = .returned (.int .i64 ((Dsk.since d i : Nat) : Int)) ∧ Below w.heap.size w w'
  fuse : ∀ {w : World} {F : Nat → Prop} {g : Nat} {d : Dsk} (n : Int), Rep w F g d → isI64 n → Calls Try.prog 16 #[ptr g, .int .i64 n] w fun e w' => e = .returned (.tuple #[]) ∧ ∃ F', Rep w' F' g (Dsk.fuse d n) ∧ (∀ k, F' k → F k ∨ w.heap.size ≤ k) ∧ Only F w w'
  crash : ∀ {w : World} {F : Nat → Prop} {g : Nat} {d : Dsk} (keep torn cut : Int), Rep w F g d → isI64 keep → isI64 torn → isI64 cut → Calls Try.prog 14 #[ptr g, .int .i64 keep, .int .i64 torn, .int .i64 cut] w fun e w' => e = .returned (.tuple #[]) ∧ ∃ F', Rep w' F' g (Dsk.crash d keep torn cut) ∧ (∀ k, F' k → F k ∨ w.heap.size ≤ k) ∧ Only F w w'
/-- No disk. -/
structure DiskNil : Prop where
  size : ∀ w : World, Calls Try.prog 11 #[.pointer none] w fun e w' => e = .returned (.int .i64 0) ∧ Below w.heap.size w w'
  read : ∀ (w : World) (i : Int), Calls Try.prog 20 #[.pointer none, .int .i64 i] w fun e w' => ∃ A c, e = .returned (.tuple #[.slice A 0 c, .int .i64 1]) ∧ Below w.heap.size w w'
  write : ∀ (w : World) (i : Int) (A : Option Addr) (n c : Nat), Calls Try.prog 17 #[.pointer none, .int .i64 i, .slice A n c] w fun e w' => e = .returned (.int .i64 1) ∧ Below w.heap.size w w'
  flush : ∀ w : World, Calls Try.prog 12 #[.pointer none] w fun e w' => e = .returned (.int .i64 1) ∧ Below w.heap.size w w'
  pending : ∀ w : World, Calls Try.prog 24 #[.pointer none] w fun e w' => e = .returned (.int .i64 0) ∧ Below w.heap.size w w'
  writes : ∀ w : World, Calls Try.prog 26 #[.pointer none] w fun e w' => e = .returned (.int .i64 0) ∧ Below w.heap.size w w'
  since : ∀ (w : World) (i : Int), Calls Try.prog 22 #[.pointer none, .int .i64 i] w fun e w' => e = .returned (.int .i64 0) ∧ Below w.heap.size w w'
  fuse : ∀ (w : World) (n : Int), Calls Try.prog 16 #[.pointer none, .int .i64 n] w fun e w' => e = .returned (.tuple #[]) ∧ Below w.heap.size w w'
  crash : ∀ (w : World) (keep torn cut : Int), Calls Try.prog 14 #[.pointer none, .int .i64 keep, .int .i64 torn, .int .i64 cut] w fun e w' => e = .returned (.tuple #[]) ∧ Below w.heap.size w w'
end Go.Proofs.Ytampdfmakhdliaa
namespace Go.Gar
open Go.RowKit
section
variable {G : Growth} {P : Program} {ops : Array Oper} {Q : Exit → Act → World → Prop} {md : Region.Mode}

theorem wpOp_of_list {i : Nat} {o : Oper} {a : Act} {w : World} {K : Act → World → Prop} (hi : ops[i]? = some o) (h : wpList P ops (Exit.then K Q) [o] a w) : wpOp P ops Q i K a w := by
  unfold wpOp
  simp only [hi]
  unfold wpList at h
  split
  · rename_i hw
    simp only [hw, if_true] at h
    rcases h with h | ⟨h1, h2⟩
    · left
      unfold Oper.wp at h ⊢
      generalize (execOp a.eval o).run P w = r at *
      cases r with
      | ok n w' => cases n <;> exact h
      | halt x w' => cases x <;> exact h
    · exact .inr ⟨h1, h2⟩
  · rename_i hw
    simp only [hw] at h
    exact h
/-- Two operations may come up now. -/
theorem twoG {L : List Oper} (i j n : Nat) {N : Nat} {o p : Oper} {listed : Array Bool} {a : Act} {w : World} (hN : N = n + 1) (hr : Region.ready md L.toArray listed = [i, j]) (hi : L[i]? = some o) (hj : L[j]? = some p)
    (h1 : wpList P L.toArray (Exit.then (fun a' w' => G.rel w w' ∧ wpAnyG G P md L.toArray Q n (listed.setIfInBounds i true) a' w') Q) [o] a w)
    (h2 : wpList P L.toArray (Exit.then (fun a' w' => G.rel w w' ∧ wpAnyG G P md L.toArray Q n (listed.setIfInBounds j true) a' w') Q) [p] a w) : wpAnyG G P md L.toArray Q N listed a w := by
  subst hN
  refine ⟨fun h0 => (by rw [h0] at hr; cases hr), fun k hk => ?_⟩
  rw [hr] at hk
  rcases List.mem_cons.1 hk with rfl | hk
  · exact wpOp_mono (fun a' w' h => ⟨.inl h.1, h.2⟩) (wpOp_of_list (by simpa using hi) h1)
  · obtain rfl : k = j := by simpa using hk
    exact wpOp_mono (fun a' w' h => ⟨.inl h.1, h.2⟩) (wpOp_of_list (by simpa using hj) h2)
/-- The walk under a name: what is left of it may be stated once for all orders. -/
theorem nameG {fuel : Nat} {listed : Array Bool} {a : Act} {w : World} (h : ∀ W : Nat → Array Bool → Act → World → Prop, W = wpAnyG G P md ops Q → W fuel listed a w) : wpAnyG G P md ops Q fuel listed a w := h _ rfl
theorem sameG {fuel : Nat} {listed L' : Array Bool} {a : Act} {w : World} (e : listed = L') (h : wpAnyG G P md ops Q fuel L' a w) : wpAnyG G P md ops Q fuel listed a w := by rw [e]; exact h
end
end Go.Gar
namespace Go.Gar
open Go.RowKit
section
variable {P : Program} {w : World}

/-- A variable of an array's type: a new block of its zeros. -/
theorem wpList_alloc_arr {ops : Array Oper} {rest : List Oper} {o : Oper} {a : Act} {Q : Exit → Act → World → Prop} (hgd : o.guard = none) (t : TypeId) (z : Array Value)
    (ho : o.op = .alloc t) (hz : ∀ w, (zeroValue t).run P w = .ok (.agg z) w)
    (h : wpList P ops Q rest (a.put o.dst (.pointer (some ⟨w.heap.size, 0, none⟩))) (w.alloc (.cells z t))) : wpList P ops Q (o :: rest) a w := by
  refine wpList_run hgd (v := .pointer (some ⟨w.heap.size, 0, none⟩)) (w' := w.alloc (.cells z t)) ?_ h
  unfold execOp
  simp [ho, Instr.alloc, hz, newVar, newRow, Sem.run_bind, Result.andThen, Value.cells]

/-- A whole array into a block that is known whole. -/
theorem wpList_store_arr {ops : Array Oper} {rest : List Oper} {o : Oper} {a : Act} {Q : Exit → Act → World → Prop} (hgd : o.guard = none) (t : TypeId) (p x : Operand) (g : Nat) (old new : List Value)
    (hd : o.dst = none) (ho : o.op = .store t p x) (hp : a.eval p = .pointer (some ⟨g, 0, none⟩)) (hx : a.eval x = .agg new.toArray) (hb : Blk w g t old) (hi : (P.info? t).map (·.size) = some new.length) (hl : old.length = new.length) (h1 : ∀ u ∈ new, u.oneCell' = true)
    (h : wpList P ops Q rest a (w.setRow g new.toArray)) : wpList P ops Q (o :: rest) a w := by
  refine wpList_plain hgd fun K hK => ?_
  unfold Oper.wp
  have hr := run_storeVar_row (P := P) w g t t old.toArray new.toArray hb (by simpa using hi) (by simpa using hl) (by simpa using h1)
  have : (execOp a.eval o).run P w = .ok .skip (w.setRow g new.toArray) := by
    unfold execOp
    simp [ho, Instr.storeAt, Instr.sureAddr, hp, hx, hr, Result.andThen]
  rw [this]
  exact hK _ _ (by rw [hd]; exact h)
end
end Go.Gar
