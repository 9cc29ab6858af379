/-
  The landed lz: its window in memory: a map whose elements are slices of positions, each in a row of its own.
-/
import Derived.ArgAppend
import Derived.Maps.AppendAt
import Derived.Test.YtjapohddfelgkaaLzMp
import Derived.Test.YtjapohddfelgkaaLzP
import Derived.Test.YtjapohddfelgkaaFoot
set_option maxRecDepth 100000
namespace Go.Proofs.Ytjapohddfelgkaa
open Go.RowKit Go.Gar

theorem Try.undIntsL : Try.prog.underlying 57 = some (.slice 3) := by kernel_rfl
theorem Try.infoIntL : (Try.prog.info? 3).map (fun i => (i.zero, i.size, i.bytes)) = some (some (.int .i64 0), 1, 8) := by kernel_rfl
def blkV : Value → Option Nat
  | .slice (some p) _ _ => some p.block
  | _ => none
/-- A slice of positions in a row that the call made. -/
def OwnI (w : World) (base : Nat) (v : Value) (zs : List Nat) : Prop :=
  (v = noInts ∧ zs = []) ∨ ∃ (g c : Nat) (pre rest : List Value), v = .slice (some ⟨g, pre.length, none⟩) zs.length c ∧ zs ≠ [] ∧ base ≤ g ∧ Blk w g 3 (pre ++ i64s zs ++ rest) ∧ zs.length + rest.length = c
section
variable {w w' : World} {base : Nat} {v : Value} {zs : List Nat}
theorem OwnI.nil (w : World) (base : Nat) : OwnI w base noInts [] := .inl ⟨rfl, rfl⟩
theorem OwnI.typed (h : OwnI w base v zs) {g : Nat} (hg : blkV v = some g) : base ≤ g ∧ ∃ cs, Blk w g 3 cs := by
  rcases h with ⟨rfl, _⟩ | ⟨g', c, pre, rest, rfl, _, hb, hB, _⟩
  · cases hg
  · obtain rfl : g' = g := by simpa [blkV] using hg
    exact ⟨hb, _, hB⟩
theorem OwnI.lt (h : OwnI w base v zs) {g : Nat} (hg : blkV v = some g) : g < w.heap.size := by
  obtain ⟨_, cs, hB⟩ := h.typed hg
  exact hB.lt
theorem OwnI.keep (h : OwnI w base v zs) (hk : ∀ g, blkV v = some g → w'.heap[g]? = w.heap[g]?) : OwnI w' base v zs := by
  rcases h with h | ⟨g, c, pre, rest, rfl, hz, hb, hB, hc⟩
  · exact .inl h
  · exact .inr ⟨g, c, pre, rest, rfl, hz, hb, (hk g rfl).trans hB, hc⟩
theorem OwnI.of_row {base' : Nat} (h : w.ownsRow base' 3 1 v zs.length (i64s zs)) (hz : zs ≠ []) (hb : base ≤ base') : OwnI w base v zs ∧ ∃ g, blkV v = some g ∧ base' ≤ g := by
  rcases h.2 with ⟨_, hn⟩ | ⟨g, cap, cur, rfl, hg, hB, hnc, _, hsz, htake⟩
  · exact absurd (List.eq_nil_of_length_eq_zero hn) hz
  · refine ⟨.inr ⟨g, cap, [], cur.toList.drop zs.length, rfl, hz, Nat.le_trans hb hg, ?_, ?_⟩, g, rfl, hg⟩
    · unfold Blk
      rw [Nat.mul_one] at htake
      rw [List.nil_append, ← htake, List.take_append_drop]
      simpa using hB
    · have : cur.toList.length = cap := by rw [Array.length_toList, hsz, Nat.mul_one]
      rw [List.length_drop, this]; omega
/-- append of one position. -/
theorem OwnI.app (h : OwnI w base v zs) (ty : TypeId) (hbase : base ≤ w.heap.size) {gn : Nat} {x : Nat} (hx : Blk w gn 3 [.int .i64 (x : Int)]) (hl : zs.length ≤ 1000000) (c : Nat) :
    ∃ v' w', (Builtin.append_ #[57, 57] ty #[v, .slice (some ⟨gn, 0, none⟩) 1 c]).run Try.prog w = .ok v' w' ∧ OwnI w' base v' (zs ++ [x]) ∧ w.grownBy w' (blkV v) ∧ (blkV v' = blkV v ∨ ∃ g, blkV v' = some g ∧ w.heap.size ≤ g) := by
  obtain ⟨i, hi, hzz⟩ := Option.map_eq_some_iff.1 Try.infoIntL
  simp only [Prod.mk.injEq] at hzz
  obtain ⟨hz0, hs, hby⟩ := hzz
  have hcell : ∀ j u, [Value.int .i64 (x : Int)][j]? = some u → w.cell? ((⟨gn, 0, none⟩ : Addr).add j) = some u := by
    intro j u hj
    rw [Addr.add_lit, Nat.zero_add, hx.cell]
    exact hj
  have h1 : ∀ u ∈ [Value.int .i64 (x : Int)], u.oneCell' = true := by intro u hu; obtain rfl := List.mem_singleton.1 hu; rfl
  have hle : (zs ++ [x]).length = zs.length + 1 := by simp
  have hne : zs ++ [x] ≠ [] := by simp
  have happ : i64s (zs ++ [x]) = i64s zs ++ [.int .i64 (x : Int)] := by simp [i64s]
  rcases h with ⟨rfl, rfl⟩ | ⟨g, cp, pre, rest, rfl, hz, hb, hB, hc⟩
  · obtain ⟨v', w', hr, ho, hg, _, hat⟩ := run_append_own_at (P := Try.prog) w w.heap.size 57 ty 3 i (.int .i64 0) 1 8 Try.undIntsL hi hz0 hs hby rfl (by omega) (.slice none 0 0) 0 [] (World.ownsRow_nil _ _ _ _) ⟨gn, 0, none⟩ 1 c [.int .i64 (x : Int)] rfl hcell h1 (by simp [maxLen]) (by omega) (Nat.le_refl _)
    obtain ⟨ho2, g, hg1, hg2⟩ := OwnI.of_row (zs := [x]) (base := base) ho (by simp) hbase
    exact ⟨v', w', hr, ho2, hg, .inr ⟨g, hg1, hg2⟩⟩
  · by_cases hroom : zs.length + 1 ≤ cp
    · obtain ⟨r0, rest', rfl⟩ : ∃ r0 rest', rest = r0 :: rest' := by
        cases rest with
        | nil => simp at hc; omega
        | cons a b => exact ⟨a, b, rfl⟩
      have hat : (pre ++ i64s zs ++ r0 :: rest')[pre.length + zs.length]? = some r0 := by
        rw [List.getElem?_append_right (by rw [List.length_append, i64s_len]; exact Nat.le_refl _), List.length_append, i64s_len, Nat.sub_self]; rfl
      have hr := run_append_room_cells (P := Try.prog) (w := w) 57 ty 3 i Try.undIntsL hi g pre.length zs.length cp ⟨gn, 0, none⟩ 1 c [.int .i64 (x : Int)] (by rw [hs]; rfl) hcell h1 hroom
        (by intro j hj; obtain rfl : j = 0 := by simpa using hj
            rw [hs, Nat.mul_one, Nat.add_zero, hB.cell, hat]; rfl)
        (by intro j hj; exact hB.frozen _)
      rw [hs, Nat.mul_one] at hr
      have hset := hB.set_ (pre.length + zs.length) (.int .i64 (x : Int))
      rw [List.set_append_right _ _ (by rw [List.length_append, i64s_len]; exact Nat.le_refl _), List.length_append, i64s_len, Nat.sub_self, List.set_cons_zero] at hset
      refine ⟨_, _, hr, .inr ⟨g, cp, pre, rest', by rw [hle], hne, hb, ?_, ?_⟩, ?_, .inl rfl⟩
      · rw [happ]
        have e : pre ++ (i64s zs ++ [.int .i64 (x : Int)]) ++ rest' = pre ++ i64s zs ++ .int .i64 (x : Int) :: rest' := by simp
        rw [e]
        exact hset
      · rw [hle]; simp at hc ⊢; omega
      · refine ⟨rfl, rfl, rfl, ?_, fun k hk hne' => ?_⟩
        · show w.heap.size ≤ (w.setCell ⟨g, pre.length + zs.length, none⟩ (.int .i64 (x : Int))).heap.size
          simp
        · exact Below.heap_setCell w ⟨g, pre.length + zs.length, none⟩ _ k (fun e => hne' (by rw [e]; rfl))
    · obtain ⟨v', w', hr, ho, hg⟩ := run_append_arg_grows (P := Try.prog) (w := w) 57 ty 3 i (.int .i64 0) 1 8 Try.undIntsL hi hz0 hs hby rfl (by omega) ⟨g, pre.length, none⟩ zs.length cp (i64s zs) (by rw [i64s_len]; omega)
        (by intro j u hj
            rw [Addr.add_lit, hB.cell, List.append_assoc, List.getElem?_append_right (by omega), Nat.add_sub_cancel_left, List.getElem?_append_left (List.getElem?_eq_some_iff.1 hj).1]
            exact hj)
        ⟨gn, 0, none⟩ 1 c [.int .i64 (x : Int)] rfl hcell (by omega) (by simp only [maxLen]; omega) (by omega)
      rw [← happ, ← hle] at ho
      obtain ⟨ho2, g', hg1, hg2⟩ := OwnI.of_row (base := base) ho hne hbase
      exact ⟨v', w', hr, ho2, ⟨hg.os, hg.tape, hg.output, hg.size, fun k hk _ => hg.block k hk (by simp)⟩, .inr ⟨g', hg1, hg2⟩⟩
end
end Go.Proofs.Ytjapohddfelgkaa
