/-
  append of bytes and of strings onto a slice that the call itself made, whether there is room or not: what it yields reads as the two joined, and nothing below the given block has turned. Of no program.
-/
import Derived.Test.YtjapohddfelgkaaMem
set_option maxRecDepth 100000
namespace Go.Gar
open Go.RowKit

/-- A slice value that the call made (in a block from base on), which reads as the bytes l. -/
def OwnB (w : World) (base : Nat) (e : TypeId) (v : Value) (l : List UInt8) : Prop := w.ownsRow base e 1 v l.length (u8s l)

section
variable {P : Program} {w : World} {base : Nat} {e : TypeId} {v : Value} {k : List UInt8}

theorem OwnB.rd (h : OwnB w base e v k) : ∃ A c, v = .slice A k.length c ∧ Rd w w.heap.size A k := by
  rcases h.2 with ⟨rfl, hn⟩ | ⟨g, cap, cur, rfl, _, hg, _, _, _, htake⟩
  · have : k = [] := List.eq_nil_of_length_eq_zero hn
    subst this
    exact ⟨none, 0, rfl, .inl rfl⟩
  · refine ⟨_, _, rfl, .inr ⟨g, 0, rfl, (Array.getElem?_eq_some_iff.1 hg).1, fun i c hi => ?_⟩⟩
    have hu : (u8s k)[i]? = some (.int .u8 (c.toNat : Int)) := by rw [u8s_get, hi]; rfl
    rw [← htake] at hu
    simp only [List.getElem?_take, Nat.mul_one] at hu
    split at hu
    · simpa [World.cell?, hg] using hu
    · cases hu

theorem OwnB.blk (h : OwnB w base e v k) (hk : 0 < k.length) : ∃ g cap rest, v = .slice (some ⟨g, 0, none⟩) k.length cap ∧ base ≤ g ∧ k.length ≤ cap ∧ Blk w g e (u8s k ++ rest) := by
  rcases h.2 with ⟨_, hn⟩ | ⟨g, cap, cur, rfl, hb, hg, hnc, _, _, htake⟩
  · omega
  · refine ⟨g, cap, cur.toList.drop k.length, rfl, hb, hnc, ?_⟩
    have : u8s k ++ cur.toList.drop k.length = cur.toList := by
      rw [← htake, Nat.mul_one, List.take_append_drop]
    unfold Blk
    rw [this]
    simpa using hg

theorem own_made (w : World) (base : Nat) (e : TypeId) (hb : base ≤ w.heap.size) : OwnB (w.alloc (.cells #[] e)) base e (.slice (some ⟨w.heap.size, 0, none⟩) 0 0) [] :=
  World.ownsRow_made w #[] 0 hb (by simp [maxLen]) (by simp)

theorem OwnB.below {w' : World} (h : OwnB w base e v k) (hg : w.grownBy w' v.ownBlock) (hb : base ≤ w.heap.size) : Below base w w' :=
  (Below.refl base w).grown hg hb (fun j hj => (World.ownsRow.lt h j hj).1)

theorem app_rd (t ty : TypeId) (ht : P.underlying t = some (.slice e)) (hinfo : (P.info? e).map (fun i => (i.zero, i.size, i.bytes)) = some (some (.int .u8 0), 1, 1))
    (hown : OwnB w base e v k) (hbase : base ≤ w.heap.size) {B : Nat} {A : Option Addr} {l : List UInt8} (c : Nat) (hr : Rd w B A l) (hlen : k.length + l.length ≤ 1099511627776) :
    ∃ v' w', (Builtin.append_ #[t, t] ty #[v, .slice A l.length c]).run P w = .ok v' w' ∧ OwnB w' base e v' (k ++ l) ∧ Below base w w' ∧ w.grownBy w' v.ownBlock := by
  obtain ⟨i, hi, hzz⟩ := Option.map_eq_some_iff.1 hinfo
  simp only [Prod.mk.injEq] at hzz
  obtain ⟨hz, hs, hby⟩ := hzz
  cases A with
  | none =>
    have hl : l = [] := by
      rcases hr with hl | ⟨b, o, h, _⟩
      · exact hl
      · cases h
    subst hl
    refine ⟨v, w, ?_, by simpa using hown, Below.refl _ _, World.grownBy.refl _ _⟩
    rcases hown.2 with ⟨rfl, hn⟩ | ⟨g, cap, cur, rfl, _, _, hnc, _⟩
    · simp [Builtin.append_, run_underlying ht, sizeOf, typeInfo, hi, Builtin.lenOf, Builtin.firstCells]
    · simp [Builtin.append_, run_underlying ht, sizeOf, typeInfo, hi, Builtin.lenOf, Builtin.firstCells, hnc, storeCells]
  | some a =>
    obtain ⟨v', w', h1, h2, h3, _⟩ := run_append_own (P := P) w base t ty e i _ 1 1 ht hi hz hs hby rfl (by omega) v k.length (u8s k) hown a l.length c (u8s l) (by simp [u8s_len]) (by
      intro j u hj
      rw [u8s_get] at hj
      rcases hr with rfl | ⟨b, o, hA, _, hc⟩
      · simp at hj
      · injection hA with hA
        subst hA
        cases hq : l[j]? with
        | none => simp [hq] at hj
        | some c =>
          rw [hq] at hj
          simp at hj
          subst hj
          have : (⟨b, o, none⟩ : Addr).add j = ⟨b, o + j, none⟩ := Addr.add_lit _ _ _
          rw [this]
          exact hc j c hq) (u8s_one l) (by simp only [maxLen]; omega) (by omega) hbase
    refine ⟨v', w', h1, ?_, hown.below h3 hbase, h3⟩
    unfold OwnB
    rw [List.length_append, u8s_app]
    exact h2

theorem OwnB.alloc (h : OwnB w base e v k) (o : Obj) : OwnB (w.alloc o) base e v k := by
  refine ⟨h.1, ?_⟩
  rcases h.2 with hn | ⟨g, cap, cur, hv, hb, hg, rest⟩
  · exact .inl hn
  · exact .inr ⟨g, cap, cur, hv, hb, (Below.heap_alloc w o g (Array.getElem?_eq_some_iff.1 hg).1).trans hg, rest⟩
theorem OwnB.keep {w' : World} (h : OwnB w base e v k) (hk : ∀ g, v.ownBlock = some g → w'.heap[g]? = w.heap[g]?) : OwnB w' base e v k := by
  refine ⟨h.1, ?_⟩
  rcases h.2 with hn | ⟨g, cap, cur, hv, hb, hg, rest⟩
  · exact .inl hn
  · exact .inr ⟨g, cap, cur, hv, hb, (hk g (by rw [hv]; rfl)).trans hg, rest⟩

/-- append of one byte, as the walk meets it: the byte lies in a row of its own, just made. -/
theorem app_one (t ty : TypeId) (ht : P.underlying t = some (.slice e)) (hinfo : (P.info? e).map (fun i => (i.zero, i.size, i.bytes)) = some (some (.int .u8 0), 1, 1))
    (hown : OwnB w base e v k) (hbase : base ≤ w.heap.size) (c : UInt8) (n : Int) (hn : n = (c.toNat : Int)) (hlen : k.length + 1 ≤ 1099511627776) :
    ∃ v' w', (Builtin.append_ #[t, t] ty #[v, .slice (some ⟨w.heap.size, 0, none⟩) 1 1]).run P (w.alloc (.cells #[.int .u8 n] e)) = .ok v' w' ∧ OwnB w' base e v' (k ++ [c]) ∧ Below base w w' := by
  subst hn
  have hb1 : Blk (w.alloc (.cells #[.int .u8 (c.toNat : Int)] e)) w.heap.size e (u8s [c]) := heap_alloc_new w _
  obtain ⟨v', w', h1, h2, h3, _⟩ := app_rd (P := P) t ty ht hinfo (hown.alloc _) (by rw [World.size_alloc]; omega) 1 (Rd.of_all hb1) (l := [c]) (by simpa using hlen)
  exact ⟨v', w', h1, h2, ((Below.refl base w).alloc hbase _).trans h3⟩

theorem app_str (t u ty : TypeId) (ht : P.underlying t = some (.slice e)) (hu : P.underlying u = some .string) (hinfo : (P.info? e).map (fun i => (i.zero, i.size, i.bytes)) = some (some (.int .u8 0), 1, 1))
    (hown : OwnB w base e v k) (hbase : base ≤ w.heap.size) (s : ByteArray) (hlen : k.length + s.size ≤ 1099511627776) :
    ∃ v' w', (Builtin.append_ #[t, u] ty #[v, .string s]).run P w = .ok v' w' ∧ OwnB w' base e v' (k ++ s.data.toList) ∧ Below base w w' ∧ w.grownBy w' v.ownBlock := by
  obtain ⟨i, hi, hzz⟩ := Option.map_eq_some_iff.1 hinfo
  simp only [Prod.mk.injEq] at hzz
  obtain ⟨hz, hs, hby⟩ := hzz
  obtain ⟨v', w', h1, h2, h3, _⟩ := Lib.run_append_own_string (P := P) w base t u ty e i ht hu hi hz hs hby v k.length (u8s k) hown s (by simp only [maxLen]; omega) (by omega) hbase
  refine ⟨v', w', h1, ?_, hown.below h3 hbase, h3⟩
  unfold OwnB
  have : s.data.toList.length = s.size := Array.length_toList
  rw [List.length_append, this, u8s_app]
  exact h2
end
end Go.Gar
