/-
  Facts on the translated program's basic types, and small facts on memory through calls, that every layer's walks use.
-/
import Derived.Test.YtjapohddfelgkaaRows
import Derived.Test.YtjapohddfelgkaaMem
import Derived.Test.YtjapohddfelgkaaReg
import Derived.BigQuiet
import Derived.Deep.QuietTactic
set_option maxRecDepth 100000
namespace Go.Proofs.Ytjapohddfelgkaa
open Go.RowKit Go.Gar

theorem Try.und22 : Try.prog.underlying 22 = some (.slice 5) := by kernel_rfl
theorem Try.und5 : Try.prog.underlying 5 = some (.int .u8) := by kernel_rfl
theorem Try.und9 : Try.prog.underlying 9 = some .string := by kernel_rfl
theorem Try.info5 : (Try.prog.info? 5).map (fun i => (i.zero, i.size, i.bytes)) = some (some (.int .u8 0), 1, 1) := by kernel_rfl
theorem Try.size5 : (Try.prog.info? 5).map (·.size) = some 1 := by kernel_rfl

set_option maxRecDepth 100000 in
/-- make([]byte, n, c): a new row of zeros. -/
theorem run_make_bytes (n c : Nat) (hnc : n ≤ c) (hc : c ≤ 281474976710656) (w : World) :
    (Instr.makeSlice 22 (.int .i64 (n : Int)) (.int .i64 (c : Int))).run Try.prog w = .ok (.slice (some ⟨w.heap.size, 0, none⟩) n c) (w.alloc (.cells (u8s (List.replicate c 0)).toArray 5)) := by
  obtain ⟨i, hi, hzz⟩ := Option.map_eq_some_iff.1 Try.info5
  simp only [Prod.mk.injEq] at hzz
  obtain ⟨hz, hs, hb⟩ := hzz
  have hr := run_make (P := Try.prog) w 22 5 i _ Try.und22 hi hz .i64 .i64 n c (by omega) (by omega) (by rw [hb]; omega) (by omega)
  rw [hr]
  simp only [Int.toNat_natCast, hs, Nat.mul_one]
  congr 3
  apply Array.ext'
  apply List.ext_getElem?
  intro k
  simp [madeCells, u8s, Value.cells, List.getElem?_replicate]
  by_cases hk : k < c
  · simp [hk, Nat.mod_one]
  · simp [hk]

theorem set_mid {α : Type} (a b : List α) (x y : α) : (a ++ x :: b).set a.length y = a ++ y :: b := by
  rw [List.set_append_right _ _ (Nat.le_refl _)]; simp
theorem grown_alloc {a w : World} {row : Option Nat} (h : a.grownBy w row) (o : Obj) : a.grownBy (w.alloc o) row :=
  ⟨h.os, h.tape, h.output, Nat.le_trans h.size (by simp), fun i hi hne => (Below.heap_alloc w o i (Nat.lt_of_lt_of_le hi h.size)).trans (h.block i hi hne)⟩
theorem grown_set {a w : World} {g i : Nat} (h : a.grownBy w (some g)) (u : Value) : a.grownBy (w.setCell ⟨g, i, none⟩ u) (some g) :=
  ⟨h.os, h.tape, h.output, by simpa [World.setCell] using h.size, fun k hk hne => (Below.heap_setCell w _ u k (fun e => hne (by simp [e]))).trans (h.block k hk hne)⟩

theorem only_set {w : World} {g i : Nat} (u : Value) : w.grownBy (w.setCell ⟨g, i, none⟩ u) (some g) := grown_set (World.grownBy.refl w _) u
theorem only_drewN {a w : World} {row : Option Nat} (h : a.grownBy w row) (n : Nat) : a.grownBy (w.drewN n) row := ⟨h.os, h.tape, h.output, h.size, h.block⟩

theorem ret_bool {a b : Bool} (h : a = b) : Ending.returned (.bool a) = .returned (.bool b) := by rw [h]
theorem beq_cast (a b : Nat) : ((a : Int) == (b : Int)) = decide (a = b) := by
  rw [Bool.eq_iff_iff]; simp; omega

theorem grown_trans {a b c : World} {row : Option Nat} (h : a.grownBy b row) (k : b.grownBy c row) : a.grownBy c row :=
  ⟨k.os.trans h.os, k.tape.trans h.tape, k.output.trans h.output, Nat.le_trans h.size k.size, fun i hi hne => (k.block i (Nat.lt_of_lt_of_le hi h.size) hne).trans (h.block i hi hne)⟩

theorem below_alloc (w : World) (o : Obj) : Below w.heap.size w (w.alloc o) := (Below.refl _ _).alloc (Nat.le_refl _) o

theorem bg {w0 w w' : World} {g : Nat} (Hb : Hid (Below w0.heap.size w0 w)) (hg : w.grownBy w' (some g)) (Hw : Hid (w0.heap.size ≤ g)) : Hid (Below w0.heap.size w0 w') :=
  Below.grown Hb hg (Below.size Hb) (fun k hk => by injection hk with hk; have := Hw.out; omega)
theorem bd {w0 w : World} (Hb : Hid (Below w0.heap.size w0 w)) (n : Nat) : Hid (Below w0.heap.size w0 (w.drewN n)) :=
  ⟨Hb.out.os, Hb.out.tape, Hb.out.output, Hb.out.size, Hb.out.block⟩
theorem bb {w0 w w' : World} (Hb : Hid (Below w0.heap.size w0 w)) (hb : Below w.heap.size w w') : Hid (Below w0.heap.size w0 w') :=
  Below.trans Hb (hb.mono (Below.size Hb))
/-- string(b) of a row that is known whole, in every world to which memory may have grown. -/
theorem string_later {w : World} {g : Nat} {k : List UInt8} (h : Blk w g 5 (u8s k)) (len cap : Nat) (hl : len = k.length) :
    ∀ x : Later grows w, (convert 22 9 (.slice (some ⟨g, 0, none⟩) len cap)).run Try.prog x.to = .ok (.string ⟨k.toArray⟩) x.to := by
  intro x
  subst hl
  have hx : Below w.heap.size w x.to := x.grown
  exact run_string_rd (P := Try.prog) 22 9 5 Try.und22 Try.und5 Try.und9 _ _ _ cap (Rd.of_all (h.below hx h.lt))
theorem string_later_rd {w : World} {A : Option Addr} {k : List UInt8} (h : Rd w w.heap.size A k) (cap : Nat) :
    ∀ x : Later grows w, (convert 22 9 (.slice A k.length cap)).run Try.prog x.to = .ok (.string ⟨k.toArray⟩) x.to := by
  intro x
  have hx : Below w.heap.size w x.to := x.grown
  exact run_string_rd (P := Try.prog) 22 9 5 Try.und22 Try.und5 Try.und9 _ _ _ cap (h.below hx)

/-- Only block g may turn. -/
def turns (g : Nat) : Growth := ⟨fun w w' => w.grownBy w' (some g), fun w => World.grownBy.refl w _, fun h k => grown_trans h k⟩

/-- A load of an old cell, in every world in which only block g and what is newer has turned. -/
theorem load_later {w wa : World} {g b o : Nat} {v : Value} (hb : Below w.heap.size w wa) (hc : w.cell? ⟨b, o, none⟩ = some v) (hlt : b < w.heap.size) (hg : w.heap.size ≤ g) :
    ∀ x : Later (turns g) wa, x.to.cell? ⟨b, o, none⟩ = some v := by
  intro x
  have hx : wa.grownBy x.to (some g) := x.grown
  exact hx.cell ((hb.cell (p := ⟨b, o, none⟩) hlt).trans hc) (fun e => by simp at e; omega)

/-- A cell of a row that is known whole, in every world to which memory may have grown. -/
theorem cell_later {w : World} {g : Nat} {t : TypeId} {cs : List Value} (h : Blk w g t cs) {i : Nat} {v : Value} (hv : cs[i]? = some v) : ∀ x : Later grows w, x.to.cell? ⟨g, i, none⟩ = some v := by
  intro x
  have hx : Below w.heap.size w x.to := x.grown
  rw [(h.below hx h.lt).cell, hv]

end Go.Proofs.Ytjapohddfelgkaa
