/-
  Tokens in memory: rows of structs that hold a slice of bytes and two numbers. Of no program but api.Token.
-/
import Derived.Test.YtjapohddfelgkaaBase
import Derived.Test.YtjapohddfelgkaaApp
import Derived.Test.YtjapohddfelgkaaApp2
import Derived.Test.YtjapohddfelgkaaRow
import Derived.Test.YtjapohddfelgkaaArrEq
import Derived.Test.YtjapohddfelgkaaMidB
import Derived.Test.YtjapohddfelgkaaTokM
set_option maxRecDepth 100000
namespace Go.Gar
open Go.RowKit

/-- A token in memory. -/
structure Tv where
  A : Option Addr
  l : List UInt8
  c : Nat
  n : Int
  d : Int
def Tv.cells (t : Tv) : List Value := [.slice t.A t.l.length t.c, .int .i64 t.n, .int .i64 t.d]
def Tv.tok (t : Tv) : Lz.Tok := ⟨t.l, t.n, t.d⟩
def cellsT (ts : List Tv) : List Value := ts.flatMap Tv.cells
theorem Tv.cells_len (t : Tv) : t.cells.length = 3 := rfl
theorem cellsT_len (ts : List Tv) : (cellsT ts).length = ts.length * 3 := by
  induction ts with
  | nil => rfl
  | cons t ts ih =>
    unfold cellsT at ih ⊢
    rw [List.flatMap_cons, List.length_append, ih, Tv.cells_len, List.length_cons]; omega
theorem cellsT_snoc (ts : List Tv) (t : Tv) : cellsT (ts ++ [t]) = cellsT ts ++ t.cells := by
  unfold cellsT
  rw [List.flatMap_append]
  simp
theorem cellsT_get (ts : List Tv) (i : Nat) (t : Tv) (h : ts[i]? = some t) (j : Nat) (hj : j < 3) : (cellsT ts)[3 * i + j]? = t.cells[j]? := by
  induction ts generalizing i with
  | nil => simp at h
  | cons s ts ih =>
    unfold cellsT at ih ⊢
    rw [List.flatMap_cons]
    cases i with
    | zero =>
      obtain rfl : s = t := by simpa using h
      rw [List.getElem?_append_left (by rw [Tv.cells_len]; omega)]
      congr 1
      omega
    | succ i =>
      rw [List.getElem?_append_right (by rw [Tv.cells_len]; omega), Tv.cells_len, show 3 * (i + 1) + j - 3 = 3 * i + j by omega]
      exact ih i (by simpa using h)
theorem cellsT_set (ts : List Tv) (i : Nat) (t : Tv) (h : ts[i]? = some t) (j : Nat) (hj : j < 3) (v : Value) (t' : Tv) (ht : t'.cells = t.cells.set j v) : (cellsT ts).set (3 * i + j) v = cellsT (ts.set i t') := by
  induction ts generalizing i with
  | nil => simp at h
  | cons s ts ih =>
    unfold cellsT at ih ⊢
    cases i with
    | zero =>
      obtain rfl : s = t := by simpa using h
      rw [List.set_cons_zero, List.flatMap_cons, List.flatMap_cons, List.set_append_left _ _ (by rw [Tv.cells_len]; omega), ht]
      congr 2
      omega
    | succ i =>
      rw [List.set_cons_succ, List.flatMap_cons, List.flatMap_cons, List.set_append_right _ _ (by rw [Tv.cells_len]; omega), Tv.cells_len, show 3 * (i + 1) + j - 3 = 3 * i + j by omega, ih i (by simpa using h)]
theorem cellsT_one (ts : List Tv) : ∀ u ∈ cellsT ts, u.oneCell' = true := by
  intro u hu
  obtain ⟨t, _, ht⟩ := List.mem_flatMap.1 hu
  simp only [Tv.cells, List.mem_cons, List.not_mem_nil, or_false] at ht
  rcases ht with rfl | rfl | rfl <;> rfl
theorem toks_len (ts : List Tv) : (ts.map Tv.tok).length = ts.length := List.length_map _

/-- The bytes of the tokens' literals lie below B. -/
def Lits (w : World) (B : Nat) (ts : List Tv) : Prop := ∀ t ∈ ts, Rd w B t.A t.l ∧ t.l.length ≤ t.c
theorem Lits.below {w w' : World} {B : Nat} {ts : List Tv} (h : Lits w B ts) (hb : Below B w w') : Lits w' B ts := fun t ht => ⟨(h t ht).1.below hb, (h t ht).2⟩
theorem Lits.more {w : World} {B B' : Nat} {ts : List Tv} (h : Lits w B ts) (hB : B ≤ B') : Lits w B' ts := fun t ht => ⟨(h t ht).1.more hB, (h t ht).2⟩
theorem Lits.nil {w : World} {B : Nat} : Lits w B [] := fun _ h => by simp at h
theorem Lits.snoc {w : World} {B : Nat} {ts : List Tv} {t : Tv} (h : Lits w B ts) (h1 : Rd w B t.A t.l) (h2 : t.l.length ≤ t.c) : Lits w B (ts ++ [t]) := by
  intro s hs
  rcases List.mem_append.1 hs with hs | hs
  · exact h s hs
  · obtain rfl : s = t := by simpa using hs
    exact ⟨h1, h2⟩
/-- What a slice of tokens reads as. -/
structure RdT (w : World) (B : Nat) (A : Option Addr) (ts : List Tv) : Prop where
  row : RdV w B A (cellsT ts)
  lits : Lits w B ts
theorem RdT.below {w w' : World} {B : Nat} {A : Option Addr} {ts : List Tv} (h : RdT w B A ts) (hb : Below B w w') : RdT w' B A ts := ⟨h.row.below hb, h.lits.below hb⟩
theorem RdT.more {w : World} {B B' : Nat} {A : Option Addr} {ts : List Tv} (h : RdT w B A ts) (hB : B ≤ B') : RdT w B' A ts := ⟨h.row.more hB, h.lits.more hB⟩
theorem RdT.nil {w : World} {B : Nat} {A : Option Addr} : RdT w B A [] := ⟨.inl rfl, Lits.nil⟩
/-- Where a token's cells lie. -/
theorem RdT.at_ {w : World} {B : Nat} {A : Option Addr} {ts : List Tv} (h : RdT w B A ts) {i : Nat} {t : Tv} (ht : ts[i]? = some t) : ∃ b o, A = some ⟨b, o, none⟩ ∧ b < B ∧ ∀ j v, j < 3 → t.cells[j]? = some v → w.cell? ⟨b, o + (3 * i + j), none⟩ = some v := by
  rcases h.row with h0 | ⟨b, o, hA, hb, hc⟩
  · have := cellsT_get ts i t ht 0 (by omega)
    rw [h0] at this
    simp [Tv.cells] at this
  · exact ⟨b, o, hA, hb, fun j v hj hv => hc _ _ (by rw [cellsT_get ts i t ht j hj, hv])⟩
theorem RdT.take {w : World} {B : Nat} {A : Option Addr} {ts : List Tv} (h : RdT w B A ts) (k : Nat) : RdT w B A (ts.take k) := by
  refine ⟨?_, fun t ht => h.lits t (List.mem_of_mem_take ht)⟩
  have hpre : cellsT (ts.take k) = (cellsT ts).take (3 * k) := by
    have e : cellsT ts = cellsT (ts.take k) ++ cellsT (ts.drop k) := by
      unfold cellsT
      rw [← List.flatMap_append, List.take_append_drop]
    rcases Nat.lt_or_ge k ts.length with hlt | hge
    · rw [e, List.take_left' (by rw [cellsT_len, List.length_take]; omega)]
    · rw [List.take_of_length_le hge, List.take_of_length_le (by rw [cellsT_len]; omega)]
  rw [hpre]
  rcases h.row with h0 | ⟨b, o, hA, hb, hc⟩
  · rw [h0]; exact .inl (by simp)
  · refine .inr ⟨b, o, hA, hb, fun i u hu => hc i u ?_⟩
    rw [List.getElem?_take] at hu
    split at hu
    · exact hu
    · cases hu

/-- Bytes that lie in a block of bytes. -/
def RdB (w : World) (ub : TypeId) (A : Option Addr) (l : List UInt8) : Prop :=
  l = [] ∨ ∃ g o cs, A = some ⟨g, o, none⟩ ∧ Blk w g ub cs ∧ ∀ i (c : UInt8), l[i]? = some c → cs[o + i]? = some (.int .u8 (c.toNat : Int))
theorem RdB.rd {w : World} {ub : TypeId} {A : Option Addr} {l : List UInt8} (h : RdB w ub A l) : Rd w w.heap.size A l := by
  rcases h with h | ⟨g, o, cs, hA, hB, hc⟩
  · exact .inl h
  · exact .inr ⟨g, o, hA, hB.lt, fun i c hi => by rw [hB.cell]; exact hc i c hi⟩
theorem RdB.grown {w w' : World} {ub : TypeId} {A : Option Addr} {l : List UInt8} {row : Option Nat} (h : RdB w ub A l) (hg : w.grownBy w' row) (hne : ∀ g, row = some g → ∀ cs, ¬ Blk w g ub cs) : RdB w' ub A l := by
  rcases h with h | ⟨g, o, cs, hA, hB, hc⟩
  · exact .inl h
  · exact .inr ⟨g, o, cs, hA, hB.grown hg (fun e => hne g e.symm cs hB), hc⟩
theorem RdB.below {w w' : World} {ub : TypeId} {A : Option Addr} {l : List UInt8} (h : RdB w ub A l) (hb : Below w.heap.size w w') : RdB w' ub A l := by
  rcases h with h | ⟨g, o, cs, hA, hB, hc⟩
  · exact .inl h
  · exact .inr ⟨g, o, cs, hA, hB.below hb hB.lt, hc⟩
theorem RdB.of_row {w : World} {ub : TypeId} {g : Nat} {l : List UInt8} {rest : List Value} (h : Blk w g ub (u8s l ++ rest)) : RdB w ub (some ⟨g, 0, none⟩) l :=
  .inr ⟨g, 0, _, rfl, h, fun i c hi => by
    rw [Nat.zero_add, List.getElem?_append_left (by rw [u8s_len]; exact (List.getElem?_eq_some_iff.1 hi).1), u8s_get, hi]; rfl⟩
def LitB (w : World) (ub : TypeId) (ts : List Tv) : Prop := ∀ t ∈ ts, RdB w ub t.A t.l ∧ t.l.length ≤ t.c
theorem LitB.lits {w : World} {ub : TypeId} {ts : List Tv} (h : LitB w ub ts) : Lits w w.heap.size ts := fun t ht => ⟨(h t ht).1.rd, (h t ht).2⟩
theorem LitB.below {w w' : World} {ub : TypeId} {ts : List Tv} (h : LitB w ub ts) (hb : Below w.heap.size w w') : LitB w' ub ts := fun t ht => ⟨(h t ht).1.below hb, (h t ht).2⟩
theorem LitB.nil {w : World} {ub : TypeId} : LitB w ub [] := fun _ h => by simp at h
/-- A slice of tokens that the call itself made. -/
structure OwnT (w : World) (base : Nat) (e ub : TypeId) (v : Value) (ts : List Tv) : Prop where
  row : w.ownsRow base e 3 v ts.length (cellsT ts)
  lits : LitB w ub ts
section
variable {P : Program} {w w' : World} {base : Nat} {e ub : TypeId} {v : Value} {ts : List Tv}
theorem OwnT.blk (h : OwnT w base e ub v ts) (hk : 0 < ts.length) : ∃ g cap rest, v = .slice (some ⟨g, 0, none⟩) ts.length cap ∧ base ≤ g ∧ ts.length ≤ cap ∧ Blk w g e (cellsT ts ++ rest) := by
  rcases h.row.2 with ⟨_, hn⟩ | ⟨g, cap, cur, rfl, hb, hg, hnc, _, _, htake⟩
  · omega
  · refine ⟨g, cap, cur.toList.drop (ts.length * 3), rfl, hb, hnc, ?_⟩
    have : cellsT ts ++ cur.toList.drop (ts.length * 3) = cur.toList := by
      conv => lhs; arg 1; rw [← htake]
      rw [List.take_append_drop]
    unfold Blk
    rw [this]
    simpa using hg
theorem OwnT.slice (h : OwnT w base e ub v ts) : ∃ A c, v = .slice A ts.length c ∧ ts.length ≤ c ∧ RdT w w.heap.size A ts := by
  by_cases hk : 0 < ts.length
  · obtain ⟨g, cap, rest, hv, _, hc, hb⟩ := h.blk hk
    exact ⟨_, _, hv, hc, .of_blk hb hb.lt, h.lits.lits⟩
  · obtain rfl : ts = [] := List.eq_nil_of_length_eq_zero (by omega)
    rcases h.row.2 with ⟨rfl, hn⟩ | ⟨g, cap, cur, rfl, _, _, hnc, _⟩
    · exact ⟨none, 0, rfl, Nat.le_refl _, RdT.nil⟩
    · exact ⟨_, cap, rfl, hnc, RdT.nil⟩
theorem ownT_made (w : World) (base : Nat) (e ub : TypeId) (hb : base ≤ w.heap.size) : OwnT (w.alloc (.cells #[] e)) base e ub (.slice (some ⟨w.heap.size, 0, none⟩) 0 0) [] :=
  ⟨World.ownsRow_made w #[] 0 hb (by simp [maxLen]) (by simp), LitB.nil⟩
theorem ownT_nil (w : World) (base : Nat) (e ub : TypeId) : OwnT w base e ub (.slice none 0 0) [] := ⟨⟨rfl, .inl ⟨rfl, rfl⟩⟩, LitB.nil⟩
theorem OwnT.block_lt {g : Nat} (h : OwnT w base e ub v ts) (hg : v.ownBlock = some g) : base ≤ g ∧ g < w.heap.size := World.ownsRow.lt h.row g hg
theorem OwnT.typed {g : Nat} (h : OwnT w base e ub v ts) (hg : v.ownBlock = some g) (hne : e ≠ ub) : ∀ cs, ¬ Blk w g ub cs := by
  intro cs hB
  rcases h.row.2 with ⟨rfl, _⟩ | ⟨g', cap, cur, rfl, _, hg', _⟩
  · cases hg
  · obtain rfl : g' = g := by simpa [Value.ownBlock] using hg
    unfold Blk at hB
    rw [hB] at hg'
    simp only [Option.some.injEq, Obj.cells.injEq] at hg'
    exact hne hg'.2.1.symm
theorem OwnT.keep (h : OwnT w base e ub v ts) (hk : ∀ g, v.ownBlock = some g → w'.heap[g]? = w.heap[g]?) (hl : LitB w' ub ts) : OwnT w' base e ub v ts := by
  refine ⟨⟨h.row.1, ?_⟩, hl⟩
  rcases h.row.2 with hn | ⟨g, cap, cur, hv, hb, hg, rest⟩
  · exact .inl hn
  · exact .inr ⟨g, cap, cur, hv, hb, (hk g (by rw [hv]; rfl)).trans hg, rest⟩
theorem OwnT.below (h : OwnT w base e ub v ts) (hb : Below w.heap.size w w') : OwnT w' base e ub v ts :=
  h.keep (fun g hg => hb.block g (h.block_lt hg).2) (h.lits.below hb)
theorem OwnT.alloc (h : OwnT w base e ub v ts) (o : Obj) : OwnT (w.alloc o) base e ub v ts := h.below ((Below.refl _ w).alloc (Nat.le_refl _) o)
theorem OwnT.drew (h : OwnT w base e ub v ts) : OwnT w.drew base e ub v ts := h.below (Below.refl _ w).drew
/-- append of a token that lies in a block of its own. -/
theorem appT (t ty : TypeId) {z : Value} (ht : P.underlying t = some (.slice e)) (hinfo : (P.info? e).map (fun i => (i.zero, i.size, i.bytes)) = some (some z, 3, 40)) (hz : z.cells.size = 3) (hne : e ≠ ub)
    (hown : OwnT w base e ub v ts) (hbase : base ≤ w.heap.size) (g : Nat) (x : Tv) (hB : Blk w g e x.cells) (hx : RdB w ub x.A x.l) (hxc : x.l.length ≤ x.c) (hlen : ts.length + 1 ≤ 1099511627776) (c : Nat) :
    ∃ v' w', (Builtin.append_ #[t, t] ty #[v, .slice (some ⟨g, 0, none⟩) 1 c]).run P w = .ok v' w' ∧ OwnT w' base e ub v' (ts ++ [x]) ∧ Below base w w' ∧ w.grownBy w' v.ownBlock := by
  obtain ⟨i, hi, hzz⟩ := Option.map_eq_some_iff.1 hinfo
  simp only [Prod.mk.injEq] at hzz
  obtain ⟨hz0, hs, hby⟩ := hzz
  obtain ⟨v', w', h1, h2, h3, _⟩ := run_append_own (P := P) w base t ty e i z 3 40 ht hi hz0 hs hby hz (by omega) v ts.length (cellsT ts) hown.row ⟨g, 0, none⟩ 1 c x.cells rfl (by
    intro j u hj
    rw [Addr.add_lit, Nat.zero_add, hB.cell]
    exact hj) (fun u hu => cellsT_one [x] u (by simpa [cellsT] using hu)) (by simp only [maxLen]; omega) (by omega) hbase
  have hl : LitB w' ub (ts ++ [x]) := by
    intro s hs
    have h0 : RdB w ub s.A s.l ∧ s.l.length ≤ s.c := by
      rcases List.mem_append.1 hs with h | h
      · exact hown.lits s h
      · obtain rfl : s = x := by simpa using h
        exact ⟨hx, hxc⟩
    exact ⟨h0.1.grown h3 (fun g' e' => hown.typed e' hne), h0.2⟩
  refine ⟨v', w', h1, ⟨?_, hl⟩, ?_, h3⟩
  · rw [List.length_append, cellsT_snoc]
    exact h2
  · refine ⟨h3.os, h3.tape, h3.output, h3.size, fun k hk => h3.block k (by omega) fun e => ?_⟩
    have := (hown.block_lt e.symm).1
    omega
/-- A token's literal put in its place, in an own row. -/
theorem OwnT.setLit (h : OwnT w base e ub v ts) (hne : e ≠ ub) {g cap : Nat} (hv : v = .slice (some ⟨g, 0, none⟩) ts.length cap) {i : Nat} {t : Tv} (ht : ts[i]? = some t) (A : Option Addr) (l : List UInt8) (c : Nat) (hl : RdB w ub A l) (hc : l.length ≤ c) :
    OwnT (w.setCell ⟨g, 3 * i, none⟩ (.slice A l.length c)) base e ub v (ts.set i ⟨A, l, c, t.n, t.d⟩) := by
  subst hv
  have hty := h.typed (g := g) rfl hne
  have hlit : ∀ (B : Option Addr) (m : List UInt8), RdB w ub B m → RdB (w.setCell ⟨g, 3 * i, none⟩ (.slice A l.length c)) ub B m := by
    intro B m hm
    rcases hm with hm | ⟨g', o, cs, hA, hB, hcs⟩
    · exact .inl hm
    · exact .inr ⟨g', o, cs, hA, hB.far (p := ⟨g, 3 * i, none⟩) (fun e' => hty cs (by rw [← show g' = g from e']; exact hB)) _, hcs⟩
  refine ⟨⟨by rw [cellsT_len], ?_⟩, fun s hs => ?_⟩
  · rcases h.row.2 with ⟨hn, _⟩ | ⟨g', cap', cur, hv', hb, hg, hnc, hmx, hsz, htake⟩
    · cases hn
    · obtain ⟨rfl, rfl⟩ : g = g' ∧ cap = cap' := by simpa using hv'
      have hB : Blk w g e cur.toList := by unfold Blk; simpa using hg
      have hset := hB.set_ (3 * i) (.slice A l.length c)
      have hi : i < ts.length := (List.getElem?_eq_some_iff.1 ht).1
      refine .inr ⟨g, cap, (cur.toList.set (3 * i) (.slice A l.length c)).toArray, by rw [List.length_set], hb, by unfold Blk at hset; exact hset, by rw [List.length_set]; exact hnc, hmx, by simp [hsz], ?_⟩
      rw [List.length_set]
      have := cellsT_set ts i t ht 0 (by omega) (.slice A l.length c) ⟨A, l, c, t.n, t.d⟩ rfl
      rw [Nat.add_zero] at this
      rw [← this, ← htake, List.take_set]
  · rcases List.mem_or_eq_of_mem_set hs with hs | rfl
    · exact ⟨hlit _ _ (h.lits s hs).1, (h.lits s hs).2⟩
    · exact ⟨hlit _ _ hl, hc⟩
end
end Go.Gar
namespace Go.Proofs.Ytjapohddfelgkaa
open Go.RowKit Go.Gar

theorem Try.undTok : Try.prog.underlying 41 = some (.struct (Try.prog.fieldsOf 41)) := by kernel_rfl
theorem Try.undToks : Try.prog.underlying 33 = some (.slice 41) := by kernel_rfl
theorem Try.infoTok : (Try.prog.info? 41).map (fun i => (i.zero, i.size, i.bytes)) = some (some (.agg #[.slice none 0 0, .int .i64 0, .int .i64 0]), 3, 40) := by kernel_rfl
theorem Try.sizeTok : (Try.prog.info? 41).map (·.size) = some 3 := by kernel_rfl
end Go.Proofs.Ytjapohddfelgkaa
