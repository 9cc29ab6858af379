/-
  Facts on the translated program's basic types, and small facts on memory through calls, that every layer's walks use. What the functions of package octet do to memory: extended, number, Int: contracts, of every slice and number within the stated bounds. append of bytes and of strings onto a slice that the call itself made, whether there is room or not: what it yields reads as the two joined, and nothing below the given block has turned. Of no program. Rows of values of one cell each (integers of any kind) in slices that the call itself made: append, and what they read as. Of no program. Parts of a variadic call: slices of bytes in a row; rows of constants. Of no program.
-/
import Derived.Test.YtjhkodmaalefiaaDoorRows
import Derived.Test.YtjhkodmaalefiaaDoorSealJ01
import Derived.Test.YtjhkodmaalefiaaDoorSealJ02
import Derived.BigQuiet
import Derived.Deep.QuietTactic
import Derived.Lib.SmallJoins
set_option maxRecDepth 100000
namespace Go.Proofs.YtjhkodmaalefiaaDoor
open Go.RowKit Go.Gar

theorem Tryd.und22 : Tryd.prog.underlying 26 = some (.slice 5) := by kernel_rfl
theorem Tryd.und5 : Tryd.prog.underlying 5 = some (.int .u8) := by kernel_rfl
theorem Tryd.und9 : Tryd.prog.underlying 9 = some .string := by kernel_rfl
theorem Tryd.info5 : (Tryd.prog.info? 5).map (fun i => (i.zero, i.size, i.bytes)) = some (some (.int .u8 0), 1, 1) := by kernel_rfl
theorem Tryd.size5 : (Tryd.prog.info? 5).map (·.size) = some 1 := by kernel_rfl

set_option maxRecDepth 100000 in
/-- make([]byte, n, c): a new row of zeros. -/
theorem run_make_bytes (n c : Nat) (hnc : n ≤ c) (hc : c ≤ 281474976710656) (w : World) :
    (Instr.makeSlice 26 (.int .i64 (n : Int)) (.int .i64 (c : Int))).run Tryd.prog w = .ok (.slice (some ⟨w.heap.size, 0, none⟩) n c) (w.alloc (.cells (u8s (List.replicate c 0)).toArray 5)) := by
  obtain ⟨i, hi, hzz⟩ := Option.map_eq_some_iff.1 Tryd.info5
  simp only [Prod.mk.injEq] at hzz
  obtain ⟨hz, hs, hb⟩ := hzz
  have hr := run_make (P := Tryd.prog) w 26 5 i _ Tryd.und22 hi hz .i64 .i64 n c (by omega) (by omega) (by rw [hb]; omega) (by omega)
  rw [hr]
  simp only [Int.toNat_natCast, hs, Nat.mul_one]
  congr 3
  apply Array.ext'
  apply List.ext_getElem?
  intro k
  simp [madeCells, u8s, Value.cells, List.getElem?_replicate]
  by_cases hk : k < c
  · simp [hk, Nat.mod_one]
  · simp [hk]

theorem set_mid {α : Type} (a b : List α) (x y : α) : (a ++ x :: b).set a.length y = a ++ y :: b := by
  rw [List.set_append_right _ _ (Nat.le_refl _)]; simp
theorem grown_alloc {a w : World} {row : Option Nat} (h : a.grownBy w row) (o : Obj) : a.grownBy (w.alloc o) row :=
  ⟨h.os, h.tape, h.output, Nat.le_trans h.size (by simp), fun i hi hne => (Below.heap_alloc w o i (Nat.lt_of_lt_of_le hi h.size)).trans (h.block i hi hne)⟩
theorem grown_set {a w : World} {g i : Nat} (h : a.grownBy w (some g)) (u : Value) : a.grownBy (w.setCell ⟨g, i, none⟩ u) (some g) :=
  ⟨h.os, h.tape, h.output, by simpa [World.setCell] using h.size, fun k hk hne => (Below.heap_setCell w _ u k (fun e => hne (by simp [e]))).trans (h.block k hk hne)⟩

theorem only_set {w : World} {g i : Nat} (u : Value) : w.grownBy (w.setCell ⟨g, i, none⟩ u) (some g) := grown_set (World.grownBy.refl w _) u
theorem only_drewN {a w : World} {row : Option Nat} (h : a.grownBy w row) (n : Nat) : a.grownBy (w.drewN n) row := ⟨h.os, h.tape, h.output, h.size, h.block⟩

theorem ret_bool {a b : Bool} (h : a = b) : Ending.returned (.bool a) = .returned (.bool b) := by rw [h]
theorem beq_cast (a b : Nat) : ((a : Int) == (b : Int)) = decide (a = b) := by
  rw [Bool.eq_iff_iff]; simp; omega

theorem grown_trans {a b c : World} {row : Option Nat} (h : a.grownBy b row) (k : b.grownBy c row) : a.grownBy c row :=
  ⟨k.os.trans h.os, k.tape.trans h.tape, k.output.trans h.output, Nat.le_trans h.size k.size, fun i hi hne => (k.block i (Nat.lt_of_lt_of_le hi h.size) hne).trans (h.block i hi hne)⟩

theorem below_alloc (w : World) (o : Obj) : Below w.heap.size w (w.alloc o) := (Below.refl _ _).alloc (Nat.le_refl _) o

theorem bg {w0 w w' : World} {g : Nat} (Hb : Hid (Below w0.heap.size w0 w)) (hg : w.grownBy w' (some g)) (Hw : Hid (w0.heap.size ≤ g)) : Hid (Below w0.heap.size w0 w') :=
  Below.grown Hb hg (Below.size Hb) (fun k hk => by injection hk with hk; have := Hw.out; omega)
theorem bd {w0 w : World} (Hb : Hid (Below w0.heap.size w0 w)) (n : Nat) : Hid (Below w0.heap.size w0 (w.drewN n)) :=
  ⟨Hb.out.os, Hb.out.tape, Hb.out.output, Hb.out.size, Hb.out.block⟩
theorem bb {w0 w w' : World} (Hb : Hid (Below w0.heap.size w0 w)) (hb : Below w.heap.size w w') : Hid (Below w0.heap.size w0 w') :=
  Below.trans Hb (hb.mono (Below.size Hb))
/-- string(b) of a row that is known whole, in every world to which memory may have grown. -/
theorem string_later {w : World} {g : Nat} {k : List UInt8} (h : Blk w g 5 (u8s k)) (len cap : Nat) (hl : len = k.length) :
    ∀ x : Later grows w, (convert 26 9 (.slice (some ⟨g, 0, none⟩) len cap)).run Tryd.prog x.to = .ok (.string ⟨k.toArray⟩) x.to := by
  intro x
  subst hl
  have hx : Below w.heap.size w x.to := x.grown
  exact run_string_rd (P := Tryd.prog) 26 9 5 Tryd.und22 Tryd.und5 Tryd.und9 _ _ _ cap (Rd.of_all (h.below hx h.lt))
theorem string_later_rd {w : World} {A : Option Addr} {k : List UInt8} (h : Rd w w.heap.size A k) (cap : Nat) :
    ∀ x : Later grows w, (convert 26 9 (.slice A k.length cap)).run Tryd.prog x.to = .ok (.string ⟨k.toArray⟩) x.to := by
  intro x
  have hx : Below w.heap.size w x.to := x.grown
  exact run_string_rd (P := Tryd.prog) 26 9 5 Tryd.und22 Tryd.und5 Tryd.und9 _ _ _ cap (h.below hx)

/-- Only block g may turn. -/
def turns (g : Nat) : Growth := ⟨fun w w' => w.grownBy w' (some g), fun w => World.grownBy.refl w _, fun h k => grown_trans h k⟩

/-- A load of an old cell, in every world in which only block g and what is newer has turned. -/
theorem load_later {w wa : World} {g b o : Nat} {v : Value} (hb : Below w.heap.size w wa) (hc : w.cell? ⟨b, o, none⟩ = some v) (hlt : b < w.heap.size) (hg : w.heap.size ≤ g) :
    ∀ x : Later (turns g) wa, x.to.cell? ⟨b, o, none⟩ = some v := by
  intro x
  have hx : wa.grownBy x.to (some g) := x.grown
  exact hx.cell ((hb.cell (p := ⟨b, o, none⟩) hlt).trans hc) (fun e => by simp at e; omega)

/-- A cell of a row that is known whole, in every world to which memory may have grown. -/
theorem cell_later {w : World} {g : Nat} {t : TypeId} {cs : List Value} (h : Blk w g t cs) {i : Nat} {v : Value} (hv : cs[i]? = some v) : ∀ x : Later grows w, x.to.cell? ⟨g, i, none⟩ = some v := by
  intro x
  have hx : Below w.heap.size w x.to := x.grown
  rw [(h.below hx h.lt).cell, hv]

end Go.Proofs.YtjhkodmaalefiaaDoor
namespace Go.Proofs.YtjhkodmaalefiaaDoor
open Go.RowKit Go.Gar

set_option maxHeartbeats 400000 in
theorem extended_any (A : Option Addr) (l : List UInt8) (c more : Nat) (w : World) (hr : Rd w w.heap.size A l) (hsz : l.length + more ≤ 1099511627776) :
    Calls Tryd.prog 71 #[.slice A l.length c, .int .i64 (more : Int)] w fun e w' =>
      e = .returned (.slice (some ⟨w.heap.size, 0, none⟩) l.length (l.length + more)) ∧ Blk w' w.heap.size 5 (u8s (l ++ List.replicate more 0)) ∧ Below w.heap.size w w' ∧ w'.heap.size = w.heap.size + 1 := by
  have hmk := run_make_bytes l.length (l.length + more) (by omega) (by omega) w
  simp only [Int.natCast_add] at hmk
  have hB := Blk.new w 5 (u8s (List.replicate (l.length + more) 0))
  have hcp := run_copy_rd (P := Tryd.prog) 26 26 3 5 Tryd.und22 Tryd.size5 w.heap.size (l.length + more) c A l w.heap.size (hr.alloc (Nat.le_refl _) _) _ _ hB (by simp [u8s_len])
  have hrow := hB.row (u8s l ++ (u8s (List.replicate (l.length + more) 0)).drop l.length)
  have hbel : Below w.heap.size w ((w.alloc (.cells (u8s (List.replicate (l.length + more) 0)).toArray 5)).setRow w.heap.size (u8s l ++ (u8s (List.replicate (l.length + more) 0)).drop l.length).toArray) :=
    below_setRow ((Below.refl _ _).alloc (Nat.le_refl _) _) (Nat.le_refl _) _
  have hsize : ((w.alloc (.cells (u8s (List.replicate (l.length + more) 0)).toArray 5)).setRow w.heap.size (u8s l ++ (u8s (List.replicate (l.length + more) 0)).drop l.length).toArray).heap.size = w.heap.size + 1 := by simp
  have HR := Lib.hid hrow
  have HS := Lib.hid hsize
  have HL := Lib.hid hbel
  clear hrow hsize hB hbel
  generalize ((w.alloc (.cells (u8s (List.replicate (l.length + more) 0)).toArray 5)).setRow w.heap.size (u8s l ++ (u8s (List.replicate (l.length + more) 0)).drop l.length).toArray) = w2 at *
  go_enter Tryd.func71, Tryd.ntmps71
  go_wp2
  go_ret
  refine ⟨rfl, ?_, HL.out, HS.out⟩
  have := HR.out
  rw [u8s_drop, ← u8s_app] at this
  simpa using this

/-- The low bytes of n, size of them, the highest first. -/
def be (n size : Nat) : List UInt8 := (List.range size).map fun i => UInt8.ofNat (n / 2 ^ (8 * (size - 1 - i)))

theorem be_len (n size : Nat) : (be n size).length = size := by simp [be]
theorem be_set (l rest : List UInt8) (n size k : Nat) (hk : k < size) (hs : size ≤ rest.length) :
    (u8s (l ++ (be n size).take k ++ rest.drop k)).set (l.length + k) (.int .u8 ((n : Int) / 2 ^ (8 * (size - 1 - k)) % 256)) = u8s (l ++ (be n size).take (k + 1) ++ rest.drop (k + 1)) := by
  have e1 : (be n size).take (k + 1) = (be n size).take k ++ [UInt8.ofNat (n / 2 ^ (8 * (size - 1 - k)))] := by
    rw [List.take_succ_eq_append_getElem (by rw [be_len]; exact hk)]
    simp [be]
  have e2 : rest.drop k = rest[k] :: rest.drop (k + 1) := List.drop_eq_getElem_cons (by omega)
  have e3 : ((be n size).take k).length = k := by rw [List.length_take, be_len]; omega
  have e4 : (Value.int .u8 ((n : Int) / 2 ^ (8 * (size - 1 - k)) % 256)) = Value.int .u8 ((UInt8.ofNat (n / 2 ^ (8 * (size - 1 - k)))).toNat : Int) := by
    simp
  have e5 : u8s (l ++ (be n size).take k ++ rest.drop k) = u8s (l ++ (be n size).take k) ++ (Value.int .u8 (rest[k].toNat : Int) :: u8s (rest.drop (k + 1))) := by
    rw [u8s_app (l ++ (be n size).take k), e2]; rfl
  have e6 : (u8s (l ++ (be n size).take k)).length = l.length + k := by rw [u8s_len, List.length_append, e3]
  rw [e5, e4, ← e6, set_mid, e1, ← List.append_assoc, u8s_app (l ++ (be n size).take k ++ [_]), u8s_app (l ++ (be n size).take k)]
  simp [u8s]
set_option maxHeartbeats 400000 in
theorem number_any (g : Nat) (l rest : List UInt8) (n size : Nat) (w : World) (hs8 : size ≤ 8) (hs : size ≤ rest.length) (hsz : l.length + rest.length ≤ 1099511627776)
    (hB : Blk w g 5 (u8s (l ++ rest))) :
    Calls Tryd.prog 70 #[.slice (some ⟨g, 0, none⟩) l.length (l.length + rest.length), .int .u64 (n : Int), .int .i64 (size : Int)] w fun e w' =>
      e = .returned (.slice (some ⟨g, 0, none⟩) (l.length + size) (l.length + rest.length)) ∧ Blk w' g 5 (u8s (l ++ be n size ++ rest.drop size)) ∧ w.grownBy w' (some g) := by
  go_enter Tryd.func70, Tryd.ntmps70
  go_wp2
  go_loopw [0, 9] (fun b i w' => ∃ k : Nat, k ≤ size ∧ i = .int .i64 k ∧ b = .slice (some ⟨g, 0, none⟩) (l.length + k) (l.length + rest.length) ∧ Blk w' g 5 (u8s (l ++ (be n size).take k ++ rest.drop k)) ∧ w.grownBy w' (some g)) (fun _ i _ => size - (intOf i).toNat)
  case atStart => exact ⟨0, by omega, rfl, rfl, by simpa using hB, World.grownBy.refl _ _⟩
  case round =>
    obtain ⟨k, hk, rfl, rfl, hBk, hg⟩ := hrel
    by_cases hlt : k < size
    · have hne : g < wr.heap.size := hBk.lt
      have hlen : l.length + k < (u8s (l ++ (be n size).take k ++ rest.drop k)).length := by
        simp [u8s_len, be]; omega
      obtain ⟨v0, hc⟩ : ∃ v0, ∀ o : Obj, (wr.alloc o).cell? ⟨g, l.length + k, none⟩ = some v0 := ⟨_, fun o => by
        rw [(hBk.alloc o).cell, List.getElem?_eq_getElem hlen]⟩
      have hf : ∀ o : Obj, (wr.alloc o).frozen? ⟨g, l.length + k, none⟩ = false := fun o => (hBk.alloc o).frozen _
      have hstep : ∀ o : Obj, Blk ((wr.setCell ⟨g, l.length + k, none⟩ (.int .u8 ((n : Int) / 2 ^ (8 * (size - 1 - k)) % 256))).alloc o) g 5 (u8s (l ++ (be n size).take (k + 1) ++ rest.drop (k + 1))) := fun o => by
        have h := hBk.set_ (l.length + k) (.int .u8 ((n : Int) / 2 ^ (8 * (size - 1 - k)) % 256))
        rw [be_set l rest n size k hlt hs] at h
        exact h.alloc o
      have hgr : ∀ o : Obj, ∀ v : Value, w.grownBy ((wr.setCell ⟨g, l.length + k, none⟩ v).alloc o) (some g) := fun o v => grown_alloc (grown_set hg v) o
      have HS := Lib.hid hstep
      have HG := Lib.hid hgr
      clear hstep hgr hBk hg hlen
      go_wp2
      exact ⟨⟨k + 1, by omega, by go_num, by simp [Nat.add_assoc], HS.out _, HG.out _ _⟩, by simp [intOf]; omega⟩
    · obtain rfl : k = size := by omega
      go_wp2
      go_ret
      have hl : (be n k).length = k := by simp [be]
      rw [List.take_of_length_le (by omega)] at hBk
      exact ⟨rfl, hBk, hg⟩

/-- The number that 64 bits hold: an int's bits as an unsigned number. -/
def b64 (n : Int) : Nat := (n % 18446744073709551616).toNat

theorem number_at (g : Nat) (l rest : List UInt8) (cap len : Nat) (m sz : Int) (n size : Nat) (w : World) (hm : m = n) (hz : sz = size) (hc : cap = l.length + rest.length) (hl : len = l.length) (hs8 : size ≤ 8) (hs : size ≤ rest.length)
    (hsz : l.length + rest.length ≤ 1099511627776) (hB : Blk w g 5 (u8s (l ++ rest))) :
    Calls Tryd.prog 70 #[.slice (some ⟨g, 0, none⟩) len cap, .int .u64 m, .int .i64 sz] w fun e w' =>
      e = .returned (.slice (some ⟨g, 0, none⟩) (len + size) cap) ∧ Blk w' g 5 (u8s (l ++ be n size ++ rest.drop size)) ∧ w.grownBy w' (some g) := by
  subst hm; subst hz; subst hc; subst hl
  exact number_any g l rest n size w hs8 hs hsz hB
theorem wrap_u64_eq (n : Int) : IntKind.u64.wrap n = (b64 n : Int) := by
  unfold b64
  rw [IntKind.wrap_u64]; omega

set_option maxHeartbeats 400000 in
theorem int_any (A : Option Addr) (l : List UInt8) (c : Nat) (n : Int) (w : World) (hr : Rd w w.heap.size A l) (hsz : l.length ≤ 1000000000) :
    Calls Tryd.prog 40 #[.slice A l.length c, .int .i64 n] w fun e w' =>
      e = .returned (.slice (some ⟨w.heap.size, 0, none⟩) (l.length + 8) (l.length + 8)) ∧ Blk w' w.heap.size 5 (u8s (l ++ be (b64 n) 8)) ∧ Below w.heap.size w w' := by
  go_enter Tryd.func40, Tryd.ntmps40
  go_wp2_with fail
  refine (extended_any A l c 8 w hr (by omega)).mono ?_
  rintro e w1 ⟨rfl, hB, hb, hsz1⟩
  have HB := Lib.hid hB
  have Hb := Lib.hid hb
  clear hB hb hsz1
  go_wp2_with fail
  refine (number_at w.heap.size l (List.replicate 8 0) _ _ _ _ (b64 n) 8 w1 (wrap_u64_eq n) rfl (by simp) rfl (by omega) (by simp) (by simp; omega) HB.out).mono ?_
  rintro e w2 ⟨rfl, hB, hg⟩
  have HB2 := Lib.hid hB
  have Hg := Lib.hid hg
  clear hB hg
  go_wp2
  go_ret
  exact ⟨rfl, by simpa using HB2.out, Hb.out.grown Hg.out Hb.out.size (fun k hk => by injection hk; omega)⟩
end Go.Proofs.YtjhkodmaalefiaaDoor
namespace Go.Gar
open Go.RowKit

/-- A slice value that the call made (in a block from base on), which reads as the bytes l. -/
def OwnB (w : World) (base : Nat) (e : TypeId) (v : Value) (l : List UInt8) : Prop := w.ownsRow base e 1 v l.length (u8s l)

section
variable {P : Program} {w : World} {base : Nat} {e : TypeId} {v : Value} {k : List UInt8}

theorem OwnB.rd (h : OwnB w base e v k) : ∃ A c, v = .slice A k.length c ∧ Rd w w.heap.size A k := by
  rcases h.2 with ⟨rfl, hn⟩ | ⟨g, cap, cur, rfl, _, hg, _, _, _, htake⟩
  · have : k = [] := List.eq_nil_of_length_eq_zero hn
    subst this
    exact ⟨none, 0, rfl, .inl rfl⟩
  · refine ⟨_, _, rfl, .inr ⟨g, 0, rfl, (Array.getElem?_eq_some_iff.1 hg).1, fun i c hi => ?_⟩⟩
    have hu : (u8s k)[i]? = some (.int .u8 (c.toNat : Int)) := by rw [u8s_get, hi]; rfl
    rw [← htake] at hu
    simp only [List.getElem?_take, Nat.mul_one] at hu
    split at hu
    · simpa [World.cell?, hg] using hu
    · cases hu

theorem OwnB.blk (h : OwnB w base e v k) (hk : 0 < k.length) : ∃ g cap rest, v = .slice (some ⟨g, 0, none⟩) k.length cap ∧ base ≤ g ∧ k.length ≤ cap ∧ Blk w g e (u8s k ++ rest) := by
  rcases h.2 with ⟨_, hn⟩ | ⟨g, cap, cur, rfl, hb, hg, hnc, _, _, htake⟩
  · omega
  · refine ⟨g, cap, cur.toList.drop k.length, rfl, hb, hnc, ?_⟩
    have : u8s k ++ cur.toList.drop k.length = cur.toList := by
      rw [← htake, Nat.mul_one, List.take_append_drop]
    unfold Blk
    rw [this]
    simpa using hg

theorem own_made (w : World) (base : Nat) (e : TypeId) (hb : base ≤ w.heap.size) : OwnB (w.alloc (.cells #[] e)) base e (.slice (some ⟨w.heap.size, 0, none⟩) 0 0) [] :=
  World.ownsRow_made w #[] 0 hb (by simp [maxLen]) (by simp)

theorem OwnB.below {w' : World} (h : OwnB w base e v k) (hg : w.grownBy w' v.ownBlock) (hb : base ≤ w.heap.size) : Below base w w' :=
  (Below.refl base w).grown hg hb (fun j hj => (World.ownsRow.lt h j hj).1)

theorem app_rd (t ty : TypeId) (ht : P.underlying t = some (.slice e)) (hinfo : (P.info? e).map (fun i => (i.zero, i.size, i.bytes)) = some (some (.int .u8 0), 1, 1))
    (hown : OwnB w base e v k) (hbase : base ≤ w.heap.size) {B : Nat} {A : Option Addr} {l : List UInt8} (c : Nat) (hr : Rd w B A l) (hlen : k.length + l.length ≤ 1099511627776) :
    ∃ v' w', (Builtin.append_ #[t, t] ty #[v, .slice A l.length c]).run P w = .ok v' w' ∧ OwnB w' base e v' (k ++ l) ∧ Below base w w' ∧ w.grownBy w' v.ownBlock := by
  obtain ⟨i, hi, hzz⟩ := Option.map_eq_some_iff.1 hinfo
  simp only [Prod.mk.injEq] at hzz
  obtain ⟨hz, hs, hby⟩ := hzz
  cases A with
  | none =>
    have hl : l = [] := by
      rcases hr with hl | ⟨b, o, h, _⟩
      · exact hl
      · cases h
    subst hl
    refine ⟨v, w, ?_, by simpa using hown, Below.refl _ _, World.grownBy.refl _ _⟩
    rcases hown.2 with ⟨rfl, hn⟩ | ⟨g, cap, cur, rfl, _, _, hnc, _⟩
    · simp [Builtin.append_, run_underlying ht, sizeOf, typeInfo, hi, Builtin.lenOf, Builtin.firstCells]
    · simp [Builtin.append_, run_underlying ht, sizeOf, typeInfo, hi, Builtin.lenOf, Builtin.firstCells, hnc, storeCells]
  | some a =>
    obtain ⟨v', w', h1, h2, h3, _⟩ := run_append_own (P := P) w base t ty e i _ 1 1 ht hi hz hs hby rfl (by omega) v k.length (u8s k) hown a l.length c (u8s l) (by simp [u8s_len]) (by
      intro j u hj
      rw [u8s_get] at hj
      rcases hr with rfl | ⟨b, o, hA, _, hc⟩
      · simp at hj
      · injection hA with hA
        subst hA
        cases hq : l[j]? with
        | none => simp [hq] at hj
        | some c =>
          rw [hq] at hj
          simp at hj
          subst hj
          have : (⟨b, o, none⟩ : Addr).add j = ⟨b, o + j, none⟩ := Addr.add_lit _ _ _
          rw [this]
          exact hc j c hq) (u8s_one l) (by simp only [maxLen]; omega) (by omega) hbase
    refine ⟨v', w', h1, ?_, hown.below h3 hbase, h3⟩
    unfold OwnB
    rw [List.length_append, u8s_app]
    exact h2

theorem OwnB.alloc (h : OwnB w base e v k) (o : Obj) : OwnB (w.alloc o) base e v k := by
  refine ⟨h.1, ?_⟩
  rcases h.2 with hn | ⟨g, cap, cur, hv, hb, hg, rest⟩
  · exact .inl hn
  · exact .inr ⟨g, cap, cur, hv, hb, (Below.heap_alloc w o g (Array.getElem?_eq_some_iff.1 hg).1).trans hg, rest⟩
theorem OwnB.keep {w' : World} (h : OwnB w base e v k) (hk : ∀ g, v.ownBlock = some g → w'.heap[g]? = w.heap[g]?) : OwnB w' base e v k := by
  refine ⟨h.1, ?_⟩
  rcases h.2 with hn | ⟨g, cap, cur, hv, hb, hg, rest⟩
  · exact .inl hn
  · exact .inr ⟨g, cap, cur, hv, hb, (hk g (by rw [hv]; rfl)).trans hg, rest⟩

/-- append of one byte, as the walk meets it: the byte lies in a row of its own, just made. -/
theorem app_one (t ty : TypeId) (ht : P.underlying t = some (.slice e)) (hinfo : (P.info? e).map (fun i => (i.zero, i.size, i.bytes)) = some (some (.int .u8 0), 1, 1))
    (hown : OwnB w base e v k) (hbase : base ≤ w.heap.size) (c : UInt8) (n : Int) (hn : n = (c.toNat : Int)) (hlen : k.length + 1 ≤ 1099511627776) :
    ∃ v' w', (Builtin.append_ #[t, t] ty #[v, .slice (some ⟨w.heap.size, 0, none⟩) 1 1]).run P (w.alloc (.cells #[.int .u8 n] e)) = .ok v' w' ∧ OwnB w' base e v' (k ++ [c]) ∧ Below base w w' := by
  subst hn
  have hb1 : Blk (w.alloc (.cells #[.int .u8 (c.toNat : Int)] e)) w.heap.size e (u8s [c]) := heap_alloc_new w _
  obtain ⟨v', w', h1, h2, h3, _⟩ := app_rd (P := P) t ty ht hinfo (hown.alloc _) (by rw [World.size_alloc]; omega) 1 (Rd.of_all hb1) (l := [c]) (by simpa using hlen)
  exact ⟨v', w', h1, h2, ((Below.refl base w).alloc hbase _).trans h3⟩

theorem app_str (t u ty : TypeId) (ht : P.underlying t = some (.slice e)) (hu : P.underlying u = some .string) (hinfo : (P.info? e).map (fun i => (i.zero, i.size, i.bytes)) = some (some (.int .u8 0), 1, 1))
    (hown : OwnB w base e v k) (hbase : base ≤ w.heap.size) (s : ByteArray) (hlen : k.length + s.size ≤ 1099511627776) :
    ∃ v' w', (Builtin.append_ #[t, u] ty #[v, .string s]).run P w = .ok v' w' ∧ OwnB w' base e v' (k ++ s.data.toList) ∧ Below base w w' ∧ w.grownBy w' v.ownBlock := by
  obtain ⟨i, hi, hzz⟩ := Option.map_eq_some_iff.1 hinfo
  simp only [Prod.mk.injEq] at hzz
  obtain ⟨hz, hs, hby⟩ := hzz
  obtain ⟨v', w', h1, h2, h3, _⟩ := Lib.run_append_own_string (P := P) w base t u ty e i ht hu hi hz hs hby v k.length (u8s k) hown s (by simp only [maxLen]; omega) (by omega) hbase
  refine ⟨v', w', h1, ?_, hown.below h3 hbase, h3⟩
  unfold OwnB
  have : s.data.toList.length = s.size := Array.length_toList
  rw [List.length_append, this, u8s_app]
  exact h2
end
end Go.Gar
namespace Go.Gar
open Go.RowKit

/-- A slice value that the call made (in a block from base on), which holds the values vs. -/
def OwnV (w : World) (base : Nat) (e : TypeId) (v : Value) (vs : List Value) : Prop := w.ownsRow base e 1 v vs.length vs
/-- The cells from A on hold vs; all lie below B. -/
def RdV (w : World) (B : Nat) (A : Option Addr) (vs : List Value) : Prop := vs = [] ∨ ∃ b o, A = some ⟨b, o, none⟩ ∧ b < B ∧ ∀ i u, vs[i]? = some u → w.cell? ⟨b, o + i, none⟩ = some u

section
variable {P : Program} {w w' : World} {base B : Nat} {e : TypeId} {v : Value} {vs : List Value} {A : Option Addr}

theorem RdV.keep (h : RdV w B A vs) (hk : ∀ k, k < B → w'.heap[k]? = w.heap[k]?) : RdV w' B A vs := by
  rcases h with h | ⟨b, o, hA, hb, hc⟩
  · exact .inl h
  · refine .inr ⟨b, o, hA, hb, fun i u hu => ?_⟩
    rw [← hc i u hu]
    simp only [World.cell?, hk b hb]
theorem RdV.below (h : RdV w B A vs) (hb : Below B w w') : RdV w' B A vs := h.keep hb.block
theorem RdV.more {B' : Nat} (h : RdV w B A vs) (hB : B ≤ B') : RdV w B' A vs := by
  rcases h with h | ⟨b, o, hA, hb, hc⟩
  · exact .inl h
  · exact .inr ⟨b, o, hA, by omega, hc⟩
theorem RdV.of_blk {g : Nat} {t : TypeId} {rest : List Value} (h : Blk w g t (vs ++ rest)) (hB : g < B) : RdV w B (some ⟨g, 0, none⟩) vs :=
  .inr ⟨g, 0, rfl, hB, fun i u hu => by
    rw [Nat.zero_add, h.cell, List.getElem?_append_left (List.getElem?_eq_some_iff.1 hu).1, hu]⟩

theorem OwnV.blk (h : OwnV w base e v vs) (hk : 0 < vs.length) : ∃ g cap rest, v = .slice (some ⟨g, 0, none⟩) vs.length cap ∧ base ≤ g ∧ vs.length ≤ cap ∧ Blk w g e (vs ++ rest) := by
  rcases h.2 with ⟨_, hn⟩ | ⟨g, cap, cur, rfl, hb, hg, hnc, _, _, htake⟩
  · omega
  · refine ⟨g, cap, cur.toList.drop vs.length, rfl, hb, hnc, ?_⟩
    have : vs ++ cur.toList.drop vs.length = cur.toList := by
      conv => lhs; arg 1; rw [← htake, Nat.mul_one]
      rw [List.take_append_drop]
    unfold Blk
    rw [this]
    simpa using hg
theorem OwnV.slice (h : OwnV w base e v vs) : ∃ A c, v = .slice A vs.length c ∧ vs.length ≤ c := by
  rcases h.2 with ⟨rfl, hn⟩ | ⟨g, cap, cur, rfl, _, _, hnc, _⟩
  · exact ⟨none, 0, by rw [hn], by omega⟩
  · exact ⟨_, _, rfl, hnc⟩
theorem OwnV.rd (h : OwnV w base e v vs) : ∃ A c, v = .slice A vs.length c ∧ RdV w w.heap.size A vs := by
  by_cases hk : 0 < vs.length
  · obtain ⟨g, cap, rest, hv, _, _, hb⟩ := h.blk hk
    exact ⟨_, _, hv, .of_blk hb hb.lt⟩
  · obtain ⟨A, c, hv, _⟩ := h.slice
    exact ⟨A, c, hv, .inl (List.eq_nil_of_length_eq_zero (by omega))⟩
theorem ownV_made (w : World) (base : Nat) (e : TypeId) (hb : base ≤ w.heap.size) : OwnV (w.alloc (.cells #[] e)) base e (.slice (some ⟨w.heap.size, 0, none⟩) 0 0) [] :=
  World.ownsRow_made w #[] 0 hb (by simp [maxLen]) (by simp)
theorem OwnV.alloc (h : OwnV w base e v vs) (o : Obj) : OwnV (w.alloc o) base e v vs := by
  refine ⟨h.1, ?_⟩
  rcases h.2 with hn | ⟨g, cap, cur, hv, hb, hg, rest⟩
  · exact .inl hn
  · exact .inr ⟨g, cap, cur, hv, hb, (Below.heap_alloc w o g (Array.getElem?_eq_some_iff.1 hg).1).trans hg, rest⟩
theorem OwnV.keep (h : OwnV w base e v vs) (hk : ∀ g, v.ownBlock = some g → w'.heap[g]? = w.heap[g]?) : OwnV w' base e v vs := by
  refine ⟨h.1, ?_⟩
  rcases h.2 with hn | ⟨g, cap, cur, hv, hb, hg, rest⟩
  · exact .inl hn
  · exact .inr ⟨g, cap, cur, hv, hb, (hk g (by rw [hv]; rfl)).trans hg, rest⟩
theorem OwnV.lt (h : OwnV w base e v vs) {g : Nat} (hg : v.ownBlock = some g) : base ≤ g ∧ g < w.heap.size := World.ownsRow.lt h g hg
theorem OwnV.below (h : OwnV w base e v vs) (hb : Below w.heap.size w w') : OwnV w' base e v vs := h.keep fun g hg => hb.block g (h.lt hg).2

theorem grown_two {a b c : World} {row : Option Nat} (h : a.grownBy b row) (k : b.grownBy c row) : a.grownBy c row :=
  ⟨k.os.trans h.os, k.tape.trans h.tape, k.output.trans h.output, Nat.le_trans h.size k.size, fun j hj hr => (k.block j (Nat.lt_of_lt_of_le hj h.size) hr).trans (h.block j hj hr)⟩
theorem appV {z : Value} {by_ : Nat} (t ty : TypeId) (ht : P.underlying t = some (.slice e)) (hinfo : (P.info? e).map (fun i => (i.zero, i.size, i.bytes)) = some (some z, 1, by_)) (hz : z.cells.size = 1)
    (hown : OwnV w base e v vs) (hbase : base ≤ w.heap.size) (a : Addr) (c m : Nat) (xs : List Value) (hone : ∀ u ∈ xs, u.oneCell' = true) (hm : m = xs.length)
    (hx : ∀ j u, xs[j]? = some u → w.cell? (a.add j) = some u) (hlen : vs.length + xs.length ≤ 1099511627776) (hby : by_ ≤ 32) :
    ∃ v' w', (Builtin.append_ #[t, t] ty #[v, .slice (some a) m c]).run P w = .ok v' w' ∧ OwnV w' base e v' (vs ++ xs) ∧ Below base w w' ∧ w.grownBy w' v.ownBlock := by
  obtain ⟨i, hi, hzz⟩ := Option.map_eq_some_iff.1 hinfo
  simp only [Prod.mk.injEq] at hzz
  obtain ⟨hz0, hs, hb⟩ := hzz
  have hmul : (vs.length + m) * by_ ≤ (vs.length + m) * 32 := Nat.mul_le_mul_left _ hby
  obtain ⟨v', w', h1, h2, h3, _⟩ := run_append_own (P := P) w base t ty e i _ 1 by_ ht hi hz0 hs hb hz (by omega) v vs.length vs hown a m c xs (by omega) hx hone (by simp only [maxLen]; omega) (by omega) hbase
  refine ⟨v', w', h1, ?_, (Below.refl base w).grown h3 hbase (fun j hj => (World.ownsRow.lt hown j hj).1), h3⟩
  unfold OwnV
  rw [List.length_append, ← hm]
  exact h2
/-- append of one value, as the walk meets it: it lies in a row of its own, just made. -/
theorem appV_one {z : Value} {by_ : Nat} (t ty : TypeId) (ht : P.underlying t = some (.slice e)) (hinfo : (P.info? e).map (fun i => (i.zero, i.size, i.bytes)) = some (some z, 1, by_)) (hz : z.cells.size = 1)
    (hown : OwnV w base e v vs) (hbase : base ≤ w.heap.size) (u : Value) (hu : u.oneCell' = true) (hlen : vs.length + 1 ≤ 1099511627776) (hby : by_ ≤ 32) :
    ∃ v' w', (Builtin.append_ #[t, t] ty #[v, .slice (some ⟨w.heap.size, 0, none⟩) 1 1]).run P (w.alloc (.cells #[u] e)) = .ok v' w' ∧ OwnV w' base e v' (vs ++ [u]) ∧ Below base w w' ∧ w.grownBy w' v.ownBlock ∧ (w.alloc (.cells #[u] e)).grownBy w' v.ownBlock := by
  have hb1 : Blk (w.alloc (.cells #[u] e)) w.heap.size e [u] := heap_alloc_new w _
  obtain ⟨v', w', h1, h2, h3, h4⟩ := appV (P := P) t ty ht hinfo hz (hown.alloc (.cells #[u] e)) (by rw [World.size_alloc]; omega) ⟨w.heap.size, 0, none⟩ 1 1 [u] (by simpa using hu) rfl (by
    intro j x hx
    have hj : j = 0 := by
      have := (List.getElem?_eq_some_iff.1 hx).1
      simp at this
      exact this
    subst hj
    simp at hx
    subst hx
    exact hb1.cell 0) (by simpa using hlen) hby
  exact ⟨v', w', h1, h2, ((Below.refl base w).alloc hbase _).trans h3, grown_two (World.grownBy_alloc w _ _) h4, h4⟩
end

/-- Numbers as 32-bit values; as ints. -/
def u32s (l : List Nat) : List Value := l.map fun n : Nat => Value.int .u32 (n : Int)
def i64s (l : List Nat) : List Value := l.map fun n : Nat => Value.int .i64 (n : Int)
theorem u32s_len (l : List Nat) : (u32s l).length = l.length := by simp [u32s]
theorem i64s_len (l : List Nat) : (i64s l).length = l.length := by simp [i64s]
theorem u32s_get (l : List Nat) (i : Nat) (h : i < l.length) : (u32s l)[i]? = some (.int .u32 ((l.getD i 0 : Nat) : Int)) := by
  simp [u32s, h]
theorem i64s_get (l : List Nat) (i : Nat) (h : i < l.length) : (i64s l)[i]? = some (.int .i64 ((l.getD i 0 : Nat) : Int)) := by
  simp [i64s, h]
theorem u32s_app (l k : List Nat) : u32s (l ++ k) = u32s l ++ u32s k := by simp [u32s]
theorem i64s_app (l k : List Nat) : i64s (l ++ k) = i64s l ++ i64s k := by simp [i64s]
theorem u32s_set (l : List Nat) (i n : Nat) : (u32s l).set i (.int .u32 (n : Int)) = u32s (l.set i n) := by simp [u32s, List.map_set]
theorem u32s_one (l : List Nat) : ∀ u ∈ u32s l, u.oneCell' = true := by
  intro u hu
  obtain ⟨n, _, rfl⟩ := List.mem_map.1 hu
  rfl
end Go.Gar
namespace Go.Proofs.YtjhkodmaalefiaaDoor
open Go.RowKit Go.Gar

/-- A part: where its slice lies, what it reads as, its capacity. -/
def partV (p : Option Addr × List UInt8 × Nat) : Value := .slice p.1 p.2.1.length p.2.2
def cat (ps : List (Option Addr × List UInt8 × Nat)) : List UInt8 := ps.flatMap (·.2.1)

theorem rd_const (w : World) (l : List UInt8) (t : TypeId) (fr : Nat × Nat) (C : Array Value) (g B : Nat) (hC : C = (u8s l).toArray) (hg : g = w.heap.size) (hB : w.heap.size < B) : Rd (w.alloc (.cells C t fr)) B (some ⟨g, 0, none⟩) l := by
  subst hC; subst hg
  refine .inr ⟨w.heap.size, 0, rfl, hB, fun i c hi => ?_⟩
  rw [Joins.cell_alloc_mark_at w _ t fr _ _ rfl, Nat.zero_add]
  rw [List.getElem?_toArray, u8s_get, hi]; rfl

end Go.Proofs.YtjhkodmaalefiaaDoor
