/-
  Rows of values of one cell each (integers of any kind) in slices that the call itself made: append, and what they read as. Of no program.
-/
import Derived.Test.YtjapohddfelgkaaApp
set_option maxRecDepth 100000
namespace Go.Gar
open Go.RowKit

/-- A slice value that the call made (in a block from base on), which holds the values vs. -/
def OwnV (w : World) (base : Nat) (e : TypeId) (v : Value) (vs : List Value) : Prop := w.ownsRow base e 1 v vs.length vs
/-- The cells from A on hold vs; all lie below B. -/
def RdV (w : World) (B : Nat) (A : Option Addr) (vs : List Value) : Prop := vs = [] ∨ ∃ b o, A = some ⟨b, o, none⟩ ∧ b < B ∧ ∀ i u, vs[i]? = some u → w.cell? ⟨b, o + i, none⟩ = some u

section
variable {P : Program} {w w' : World} {base B : Nat} {e : TypeId} {v : Value} {vs : List Value} {A : Option Addr}

theorem RdV.keep (h : RdV w B A vs) (hk : ∀ k, k < B → w'.heap[k]? = w.heap[k]?) : RdV w' B A vs := by
  rcases h with h | ⟨b, o, hA, hb, hc⟩
  · exact .inl h
  · refine .inr ⟨b, o, hA, hb, fun i u hu => ?_⟩
    rw [← hc i u hu]
    simp only [World.cell?, hk b hb]
theorem RdV.below (h : RdV w B A vs) (hb : Below B w w') : RdV w' B A vs := h.keep hb.block
theorem RdV.more {B' : Nat} (h : RdV w B A vs) (hB : B ≤ B') : RdV w B' A vs := by
  rcases h with h | ⟨b, o, hA, hb, hc⟩
  · exact .inl h
  · exact .inr ⟨b, o, hA, by omega, hc⟩
theorem RdV.of_blk {g : Nat} {t : TypeId} {rest : List Value} (h : Blk w g t (vs ++ rest)) (hB : g < B) : RdV w B (some ⟨g, 0, none⟩) vs :=
  .inr ⟨g, 0, rfl, hB, fun i u hu => by
    rw [Nat.zero_add, h.cell, List.getElem?_append_left (List.getElem?_eq_some_iff.1 hu).1, hu]⟩

theorem OwnV.blk (h : OwnV w base e v vs) (hk : 0 < vs.length) : ∃ g cap rest, v = .slice (some ⟨g, 0, none⟩) vs.length cap ∧ base ≤ g ∧ vs.length ≤ cap ∧ Blk w g e (vs ++ rest) := by
  rcases h.2 with ⟨_, hn⟩ | ⟨g, cap, cur, rfl, hb, hg, hnc, _, _, htake⟩
  · omega
  · refine ⟨g, cap, cur.toList.drop vs.length, rfl, hb, hnc, ?_⟩
    have : vs ++ cur.toList.drop vs.length = cur.toList := by
      conv => lhs; arg 1; rw [← htake, Nat.mul_one]
      rw [List.take_append_drop]
    unfold Blk
    rw [this]
    simpa using hg
theorem OwnV.slice (h : OwnV w base e v vs) : ∃ A c, v = .slice A vs.length c ∧ vs.length ≤ c := by
  rcases h.2 with ⟨rfl, hn⟩ | ⟨g, cap, cur, rfl, _, _, hnc, _⟩
  · exact ⟨none, 0, by rw [hn], by omega⟩
  · exact ⟨_, _, rfl, hnc⟩
theorem OwnV.rd (h : OwnV w base e v vs) : ∃ A c, v = .slice A vs.length c ∧ RdV w w.heap.size A vs := by
  by_cases hk : 0 < vs.length
  · obtain ⟨g, cap, rest, hv, _, _, hb⟩ := h.blk hk
    exact ⟨_, _, hv, .of_blk hb hb.lt⟩
  · obtain ⟨A, c, hv, _⟩ := h.slice
    exact ⟨A, c, hv, .inl (List.eq_nil_of_length_eq_zero (by omega))⟩
theorem ownV_made (w : World) (base : Nat) (e : TypeId) (hb : base ≤ w.heap.size) : OwnV (w.alloc (.cells #[] e)) base e (.slice (some ⟨w.heap.size, 0, none⟩) 0 0) [] :=
  World.ownsRow_made w #[] 0 hb (by simp [maxLen]) (by simp)
theorem OwnV.alloc (h : OwnV w base e v vs) (o : Obj) : OwnV (w.alloc o) base e v vs := by
  refine ⟨h.1, ?_⟩
  rcases h.2 with hn | ⟨g, cap, cur, hv, hb, hg, rest⟩
  · exact .inl hn
  · exact .inr ⟨g, cap, cur, hv, hb, (Below.heap_alloc w o g (Array.getElem?_eq_some_iff.1 hg).1).trans hg, rest⟩
theorem OwnV.keep (h : OwnV w base e v vs) (hk : ∀ g, v.ownBlock = some g → w'.heap[g]? = w.heap[g]?) : OwnV w' base e v vs := by
  refine ⟨h.1, ?_⟩
  rcases h.2 with hn | ⟨g, cap, cur, hv, hb, hg, rest⟩
  · exact .inl hn
  · exact .inr ⟨g, cap, cur, hv, hb, (hk g (by rw [hv]; rfl)).trans hg, rest⟩
theorem OwnV.lt (h : OwnV w base e v vs) {g : Nat} (hg : v.ownBlock = some g) : base ≤ g ∧ g < w.heap.size := World.ownsRow.lt h g hg
theorem OwnV.below (h : OwnV w base e v vs) (hb : Below w.heap.size w w') : OwnV w' base e v vs := h.keep fun g hg => hb.block g (h.lt hg).2

theorem grown_two {a b c : World} {row : Option Nat} (h : a.grownBy b row) (k : b.grownBy c row) : a.grownBy c row :=
  ⟨k.os.trans h.os, k.tape.trans h.tape, k.output.trans h.output, Nat.le_trans h.size k.size, fun j hj hr => (k.block j (Nat.lt_of_lt_of_le hj h.size) hr).trans (h.block j hj hr)⟩
theorem appV {z : Value} {by_ : Nat} (t ty : TypeId) (ht : P.underlying t = some (.slice e)) (hinfo : (P.info? e).map (fun i => (i.zero, i.size, i.bytes)) = some (some z, 1, by_)) (hz : z.cells.size = 1)
    (hown : OwnV w base e v vs) (hbase : base ≤ w.heap.size) (a : Addr) (c m : Nat) (xs : List Value) (hone : ∀ u ∈ xs, u.oneCell' = true) (hm : m = xs.length)
    (hx : ∀ j u, xs[j]? = some u → w.cell? (a.add j) = some u) (hlen : vs.length + xs.length ≤ 1099511627776) (hby : by_ ≤ 32) :
    ∃ v' w', (Builtin.append_ #[t, t] ty #[v, .slice (some a) m c]).run P w = .ok v' w' ∧ OwnV w' base e v' (vs ++ xs) ∧ Below base w w' ∧ w.grownBy w' v.ownBlock := by
  obtain ⟨i, hi, hzz⟩ := Option.map_eq_some_iff.1 hinfo
  simp only [Prod.mk.injEq] at hzz
  obtain ⟨hz0, hs, hb⟩ := hzz
  have hmul : (vs.length + m) * by_ ≤ (vs.length + m) * 32 := Nat.mul_le_mul_left _ hby
  obtain ⟨v', w', h1, h2, h3, _⟩ := run_append_own (P := P) w base t ty e i _ 1 by_ ht hi hz0 hs hb hz (by omega) v vs.length vs hown a m c xs (by omega) hx hone (by simp only [maxLen]; omega) (by omega) hbase
  refine ⟨v', w', h1, ?_, (Below.refl base w).grown h3 hbase (fun j hj => (World.ownsRow.lt hown j hj).1), h3⟩
  unfold OwnV
  rw [List.length_append, ← hm]
  exact h2
/-- append of one value, as the walk meets it: it lies in a row of its own, just made. -/
theorem appV_one {z : Value} {by_ : Nat} (t ty : TypeId) (ht : P.underlying t = some (.slice e)) (hinfo : (P.info? e).map (fun i => (i.zero, i.size, i.bytes)) = some (some z, 1, by_)) (hz : z.cells.size = 1)
    (hown : OwnV w base e v vs) (hbase : base ≤ w.heap.size) (u : Value) (hu : u.oneCell' = true) (hlen : vs.length + 1 ≤ 1099511627776) (hby : by_ ≤ 32) :
    ∃ v' w', (Builtin.append_ #[t, t] ty #[v, .slice (some ⟨w.heap.size, 0, none⟩) 1 1]).run P (w.alloc (.cells #[u] e)) = .ok v' w' ∧ OwnV w' base e v' (vs ++ [u]) ∧ Below base w w' ∧ w.grownBy w' v.ownBlock ∧ (w.alloc (.cells #[u] e)).grownBy w' v.ownBlock := by
  have hb1 : Blk (w.alloc (.cells #[u] e)) w.heap.size e [u] := heap_alloc_new w _
  obtain ⟨v', w', h1, h2, h3, h4⟩ := appV (P := P) t ty ht hinfo hz (hown.alloc (.cells #[u] e)) (by rw [World.size_alloc]; omega) ⟨w.heap.size, 0, none⟩ 1 1 [u] (by simpa using hu) rfl (by
    intro j x hx
    have hj : j = 0 := by
      have := (List.getElem?_eq_some_iff.1 hx).1
      simp at this
      exact this
    subst hj
    simp at hx
    subst hx
    exact hb1.cell 0) (by simpa using hlen) hby
  exact ⟨v', w', h1, h2, ((Below.refl base w).alloc hbase _).trans h3, grown_two (World.grownBy_alloc w _ _) h4, h4⟩
end

/-- Numbers as 32-bit values; as ints. -/
def u32s (l : List Nat) : List Value := l.map fun n : Nat => Value.int .u32 (n : Int)
def i64s (l : List Nat) : List Value := l.map fun n : Nat => Value.int .i64 (n : Int)
theorem u32s_len (l : List Nat) : (u32s l).length = l.length := by simp [u32s]
theorem i64s_len (l : List Nat) : (i64s l).length = l.length := by simp [i64s]
theorem u32s_get (l : List Nat) (i : Nat) (h : i < l.length) : (u32s l)[i]? = some (.int .u32 ((l.getD i 0 : Nat) : Int)) := by
  simp [u32s, h]
theorem i64s_get (l : List Nat) (i : Nat) (h : i < l.length) : (i64s l)[i]? = some (.int .i64 ((l.getD i 0 : Nat) : Int)) := by
  simp [i64s, h]
theorem u32s_app (l k : List Nat) : u32s (l ++ k) = u32s l ++ u32s k := by simp [u32s]
theorem i64s_app (l k : List Nat) : i64s (l ++ k) = i64s l ++ i64s k := by simp [i64s]
theorem u32s_set (l : List Nat) (i n : Nat) : (u32s l).set i (.int .u32 (n : Int)) = u32s (l.set i n) := by simp [u32s, List.map_set]
theorem u32s_one (l : List Nat) : ∀ u ∈ u32s l, u.oneCell' = true := by
  intro u hu
  obtain ⟨n, _, rfl⟩ := List.mem_map.1 hu
  rfl
end Go.Gar
