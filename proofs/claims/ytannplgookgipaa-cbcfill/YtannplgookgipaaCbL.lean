/-
  The landed cbc: what a round of Seal and Open finds and leaves; Seal with a key that is none.
-/
import Derived.Test.YtannplgookgipaaCbI
import Derived.Test.YtannplgookgipaaCbB
import Derived.Test.YtannplgookgipaaRegIn
import Derived.Test.YtannplgookgipaaAesN
namespace Go.Proofs.Ytannplgookgipaa
open Go.RowKit Go.Shelf Go.Gar Go.Gar.Aes
attribute [local go_sem] Oper.semAt_some

/-- What lies behind some blocks: the last one, encrypted, and all of them. -/
def stX (key iv : List UInt8) (pre : List B16) : List UInt8 × List UInt8 := pre.foldl (fun s x => (encrypt key (addK x.1 s.1), s.2 ++ encrypt key (addK x.1 s.1))) (iv, [])
theorem stX_snoc (key iv : List UInt8) (pre : List B16) (x : B16) : stX key iv (pre ++ [x]) = (encrypt key (addK x.1 (stX key iv pre).1), (stX key iv pre).2 ++ encrypt key (addK x.1 (stX key iv pre).1)) := by simp [stX]
theorem flat_blk (xs : List B16) (k : Nat) (hk : k < xs.length) : Cbc.blk (flat xs) k = xs[k].1 := by
  unfold Cbc.blk
  induction xs generalizing k with
  | nil => simp at hk
  | cons x xs ih =>
    have e : flat (x :: xs) = x.1 ++ flat xs := by simp [flat]
    cases k with
    | zero =>
      rw [e, Nat.mul_zero, List.drop_zero]
      exact List.take_left' x.2
    | succ k =>
      rw [e, show 16 * (k + 1) = x.1.length + 16 * k from by rw [x.2]; omega, List.drop_append, List.drop_eq_nil_of_le (Nat.le_add_right _ _), List.nil_append, Nat.add_sub_cancel_left]
      exact ih k (by simpa using hk)
theorem stX_take (key iv : List UInt8) (xs : List B16) : ∀ k, k ≤ xs.length → stX key iv (xs.take k) = (Cbc.last key iv (flat xs) k, Cbc.outK key iv (flat xs) k)
  | 0, _ => rfl
  | k + 1, h => by
    rw [List.take_succ_eq_append_getElem h, stX_snoc, stX_take key iv xs k (by omega), ← flat_blk xs k h]
    rfl
theorem stX_all (key iv : List UInt8) (xs : List B16) : (stX key iv xs).2 = Cbc.outK key iv (flat xs) ((flat xs).length / 16) := by
  have := stX_take key iv xs xs.length (Nat.le_refl _)
  rw [List.take_length] at this
  rw [this, flat_len, Nat.mul_div_cancel_left _ (by omega)]
theorem stX_len1 (key iv : List UInt8) (hiv : iv.length = 16) (pre : List B16) : (stX key iv pre).1.length = 16 := by
  rcases List.eq_nil_or_concat pre with rfl | ⟨q, x, rfl⟩
  · exact hiv
  · rw [List.concat_eq_append, stX_snoc]; exact encrypt_len _ _
theorem stX_len2 (key iv : List UInt8) (pre : List B16) : (stX key iv pre).2.length = 16 * pre.length := by
  have := stX_take key iv pre pre.length (Nat.le_refl _)
  rw [List.take_length] at this
  rw [this]
  exact Cbc.outK_len _ _ _ _

/-- What a round finds: the cipher's variable, the variable of the bytes so far, their row with its room, the block before. -/
structure Lp (w1 : World) (g8 g11 gS g12 gc N : Nat) (q o : List UInt8) (W : World) : Prop where
  c8 : Blk W g8 37 [.pointer (some ⟨gc, 0, none⟩)]
  c11 : Blk W g11 22 [.slice (some ⟨gS, 0, none⟩) o.length N]
  row : ∃ junk, Blk W gS 5 (u8s o ++ junk) ∧ o.length + junk.length = N
  c12 : Blk W g12 23 (u8s q)
  b : Below w1.heap.size w1 W
theorem Lp.grown {w1 W W' : World} {g8 g11 gS g12 gc N B : Nat} {q o : List UInt8} {row : Option Nat} (h : Lp w1 g8 g11 gS g12 gc N q o W) (hg : W.grownBy W' row) (hB : g8 < B ∧ g11 < B ∧ gS < B ∧ g12 < B ∧ w1.heap.size ≤ B) (hr : ∀ r, row = some r → B ≤ r) : Lp w1 g8 g11 gS g12 gc N q o W' := by
  have far : ∀ k, k < B → some k ≠ row := fun k hk e => by have := hr k e.symm; omega
  obtain ⟨junk, h1, h2⟩ := h.row
  exact ⟨h.c8.grown hg (far _ hB.1), h.c11.grown hg (far _ hB.2.1), ⟨junk, h1.grown hg (far _ hB.2.2.1), h2⟩, h.c12.grown hg (far _ hB.2.2.2.1), h.b.grown hg h.b.size (fun k e => by have := hr k e; omega)⟩
theorem Lp.below {w1 W W' : World} {g8 g11 gS g12 gc N : Nat} {q o : List UInt8} (h : Lp w1 g8 g11 gS g12 gc N q o W) (hb : Below W.heap.size W W') : Lp w1 g8 g11 gS g12 gc N q o W' := by
  obtain ⟨junk, h1, h2⟩ := h.row
  exact ⟨h.c8.below hb h.c8.lt, h.c11.below hb h.c11.lt, ⟨junk, h1.below hb h1.lt, h2⟩, h.c12.below hb h.c12.lt, h.b.trans (hb.mono h.b.size)⟩
theorem Lp.prev {w1 W : World} {g8 g11 gS g12 gc N : Nat} {q o : List UInt8} (h : Lp w1 g8 g11 gS g12 gc N q o W) (q' : List UInt8) (hd : g8 ≠ g12 ∧ g11 ≠ g12 ∧ gS ≠ g12 ∧ w1.heap.size ≤ g12) : Lp w1 g8 g11 gS g12 gc N q' o (W.setRow g12 (u8s q').toArray) := by
  obtain ⟨junk, h1, h2⟩ := h.row
  exact ⟨h.c8.rowFar hd.1 _, h.c11.rowFar hd.2.1 _, ⟨junk, h1.rowFar hd.2.2.1 _, h2⟩, h.c12.row _, below_setRow h.b hd.2.2.2 _⟩
/-- 16 bytes appended: where they lie, there is room. -/
theorem Lp.app {w1 W : World} {g8 g11 gS g12 gc N : Nat} {q o : List UInt8} (h : Lp w1 g8 g11 gS g12 gc N q o W) {gq : Nat} {t : TypeId} {z : List UInt8} (hz : Blk W gq t (u8s z)) (hz16 : z.length = 16) (hroom : o.length + 16 ≤ N) (hd : g8 ≠ gS ∧ g11 ≠ gS ∧ g12 ≠ gS ∧ w1.heap.size ≤ gS ∧ g8 ≠ g11 ∧ g12 ≠ g11 ∧ w1.heap.size ≤ g11) :
    ∃ W', (Builtin.append_ #[22, 22] 22 #[.slice (some ⟨gS, 0, none⟩) o.length N, .slice (some ⟨gq, 0, none⟩) 16 16]).run Try.prog W = .ok (.slice (some ⟨gS, 0, none⟩) (o.length + 16) N) W' ∧ W.grownBy W' (some gS) ∧ Blk W' g11 22 [.slice (some ⟨gS, 0, none⟩) o.length N] ∧
      Lp w1 g8 g11 gS g12 gc N q (o ++ z) (W'.setCell ⟨g11, 0, none⟩ (.slice (some ⟨gS, 0, none⟩) (o.length + 16) N)) := by
  obtain ⟨junk, h1, h2⟩ := h.row
  have hol : (u8s o).length = o.length := u8s_len o
  have hr := run_append_rd (P := Try.prog) (w := W) 22 22 5 Try.und22 Try.size5 gS o.length N 16 (some ⟨gq, 0, none⟩) z _ (Rd.of_all hz) rfl _ h1 (by omega) (by rw [List.length_append, hol]; omega)
  have hE : (u8s o ++ junk).take o.length ++ u8s z ++ (u8s o ++ junk).drop (o.length + z.length) = u8s (o ++ z) ++ junk.drop 16 := by
    rw [List.take_left' hol, List.drop_append, hol, List.drop_eq_nil_of_le (by omega), List.nil_append, Nat.add_sub_cancel_left, hz16, u8s_app]
  rw [hE, hz16] at hr
  have hg : W.grownBy (W.setRow gS (u8s (o ++ z) ++ junk.drop 16).toArray) (some gS) := grown_row
  refine ⟨_, hr, hg, h.c11.rowFar hd.2.1 _, ?_, ?_, ⟨junk.drop 16, ?_, ?_⟩, ?_, ?_⟩
  · exact (h.c8.rowFar hd.1 _).far hd.2.2.2.2.1 _
  · have := (h.c11.rowFar hd.2.1 (u8s (o ++ z) ++ junk.drop 16).toArray).set_ 0 (.slice (some ⟨gS, 0, none⟩) (o.length + 16) N)
    rw [List.length_append, hz16]
    exact this
  · exact (h1.row _).far (fun e => hd.2.1 e.symm) _
  · rw [List.length_append, hz16, List.length_drop]; omega
  · exact (h.c12.rowFar hd.2.2.1 _).far hd.2.2.2.2.2.1 _
  · exact (below_setRow h.b hd.2.2.2.1 _).setCell hd.2.2.2.2.2.2 _
theorem keeps_cells {W W' : World} {g : Nat} {t : TypeId} {cs : List Value} (hg : W.grownBy W' (some g)) (hB : Blk W g t cs) : KeepsOthers W W' :=
  KeepsOthers.of_grownBy hg fun j o e ho => by
    have e1 := Option.some.inj e
    subst e1
    rw [show W.heap[g]? = _ from hB] at ho
    cases ho
    rfl

set_option maxRecDepth 100000 in
set_option maxHeartbeats 2000000 in
theorem seal_no (w : World) (K A : Option Addr) (kl kc bl bc : Nat) (x : Array Value) (hno : ¬ sizeOk kl) :
    Calls Try.prog 7 #[.slice K kl kc, .agg x, .slice A bl bc] w fun e w' => e = .returned (.tuple #[.slice none 0 0, .int .i64 1]) ∧ Below w.heap.size w w' := by
  have hb0 := below_alloc w (.cells x 23)
  obtain ⟨w0, hw0⟩ : ∃ w0, w.alloc (.cells x 23) = w0 := ⟨_, rfl⟩
  rw [hw0] at hb0
  have HW0 := Lib.hid hw0
  have Hb0 := Lib.hid hb0
  clear hw0 hb0
  go_enter Try.func7, Try.ntmps7
  go_wp2_with (refine wpList_box_arr rfl 23 (.tmp 1) x rfl rfl ?_; rw [HW0.out])
  refine (aesOK.new_no w0 K kl kc hno).mono ?_
  rintro e w1 ⟨rfl, hb1⟩
  have Hb1 := bb Hb0 hb1
  clear hb1
  go_wp2
  go_ret2
  exact ⟨rfl, Hb1.out.alloc Hb1.out.size _⟩

end Go.Proofs.Ytannplgookgipaa
