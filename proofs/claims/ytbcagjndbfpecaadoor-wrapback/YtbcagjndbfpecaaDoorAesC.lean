/-
  Package aes: Encrypt and Decrypt, of a cipher in memory (Rep).
-/
import Derived.Test.YtbcagjndbfpecaaDoorAesB
import Derived.Test.YtbcagjndbfpecaaDoorMidB
import Derived.Test.YtbcagjndbfpecaaDoorAesOKc
namespace Go.Proofs.YtbcagjndbfpecaaDoor
open Go.RowKit Go.Gar Go.Gar.Aes

/-- The cipher in block gc is made of key. -/
structure Rep (w : World) (gc : Nat) (key : List UInt8) : Prop where
  there : Tbl w gc 0 sb
  back : Tbl w gc 256 ib
  mixed : ∀ j, j < 4 → Tbl w gc (512 + j * 256) (facs [2, 3, 1, 1] j)
  parted : ∀ j, j < 4 → Tbl w gc (1536 + j * 256) (facs [14, 11, 13, 9] j)
  keys : ∃ gk cap, w.cell? ⟨gc, 2560, none⟩ = some (.slice (some ⟨gk, 0, none⟩) (roundsOf key + 1) cap) ∧ ∀ r, r ≤ roundsOf key → ∀ i, i < 16 → w.cell? ⟨gk, r * 16 + i, none⟩ = some (.int .u8 ((at_ (keysOf key r) i).toNat : Int))
theorem cell_lt {w : World} {b o : Nat} {v : Value} (h : w.cell? ⟨b, o, none⟩ = some v) : b < w.heap.size := by
  unfold World.cell? at h
  rcases Nat.lt_or_ge b w.heap.size with h' | h'
  · exact h'
  · simp [Array.getElem?_eq_none h'] at h
theorem cell_stays {w w' : World} (hb : Below w.heap.size w w') {b o : Nat} {v : Value} (h : w.cell? ⟨b, o, none⟩ = some v) : w'.cell? ⟨b, o, none⟩ = some v := by
  have hlt := cell_lt h
  unfold World.cell? at h ⊢
  rw [← h]
  simp only [hb.block b hlt]
theorem tbl_stays {w w' : World} (hb : Below w.heap.size w w') {g o : Nat} {f : UInt8 → UInt8} (h : Tbl w g o f) : Tbl w' g o f := fun a => cell_stays hb (h a)
theorem Rep.stay {w w' : World} {gc : Nat} {key : List UInt8} (h : Rep w gc key) (hb : Below w.heap.size w w') : Rep w' gc key where
  there := tbl_stays hb h.there
  back := tbl_stays hb h.back
  mixed := fun j hj => tbl_stays hb (h.mixed j hj)
  parted := fun j hj => tbl_stays hb (h.parted j hj)
  keys := by
    obtain ⟨gk, cap, h1, h2⟩ := h.keys
    exact ⟨gk, cap, cell_stays hb h1, fun r hr i hi => cell_stays hb (h2 r hr i hi)⟩

/-- The block and the result in memory. -/
structure Two16 (w0 w : World) (l : List UInt8) : Prop where
  x : Blk w w0.heap.size 56 (u8s l)
  r : Blk w (w0.heap.size + 1) 56 zr16
  b : Below w0.heap.size w0 w
theorem Two16.start (w : World) (l : List UInt8) : Two16 w ((w.alloc (.cells (u8s l).toArray 56)).alloc (.cells zr16.toArray 56)) l where
  x := (Blk.new w _ _).alloc _
  r := by
    have := Blk.new (w.alloc (.cells (u8s l).toArray 56)) 56 zr16
    rwa [World.size_alloc] at this
  b := (below_alloc w _).alloc (by rw [World.size_alloc]; omega) _
theorem Two16.turn {w0 w w' : World} {l k : List UInt8} (h : Two16 w0 w l) (hB : Blk w' w0.heap.size 56 (u8s k)) (hg : w.grownBy w' (some w0.heap.size)) : Two16 w0 w' k :=
  ⟨hB, h.r.grown hg (by simp), ⟨hg.os.trans h.b.os, hg.tape.trans h.b.tape, hg.output.trans h.b.output, Nat.le_trans h.b.size hg.size, fun k hk => (hg.block k (Nat.lt_of_lt_of_le hk h.b.size) (by simp; omega)).trans (h.b.block k hk)⟩⟩
theorem Two16.load {w0 w : World} {l : List UInt8} (h : Two16 w0 w l) (hl : l.length = 16) : (loadVar 56 ⟨w0.heap.size, 0, none⟩).run Tryd.prog w = .ok (.agg (u8s l).toArray) w :=
  run_loadVar_row (P := Tryd.prog) w w0.heap.size 56 56 (u8s l).toArray (0, 0) _ h.x Tryd.undA16 rfl (by simpa using sizeA16 l hl)
theorem Two16.back {w0 w : World} {l : List UInt8} (h : Two16 w0 w l) (hl : l.length = 16) : (loadVar 56 ⟨w0.heap.size + 1, 0, none⟩).run Tryd.prog (w.setRow (w0.heap.size + 1) (u8s l).toArray) = .ok (.agg (u8s l).toArray) (w.setRow (w0.heap.size + 1) (u8s l).toArray) :=
  run_loadVar_row (P := Tryd.prog) _ (w0.heap.size + 1) 56 56 (u8s l).toArray (0, 0) _ (h.r.row _) Tryd.undA16 rfl (by simpa using sizeA16 l hl)

/-- What the walks need of a cipher, in every later world. -/
structure Ready (w0 : World) (gc gk nk cap : Nat) (K : Nat → List UInt8) : Prop where
  lt : gc < w0.heap.size
  ltk : gk < w0.heap.size
  there : Tbl w0 gc 0 sb
  back : Tbl w0 gc 256 ib
  mixed : ∀ j, j < 4 → Tbl w0 gc (512 + j * 256) (facs [2, 3, 1, 1] j)
  parted : ∀ j, j < 4 → Tbl w0 gc (1536 + j * 256) (facs [14, 11, 13, 9] j)
  cell : w0.cell? ⟨gc, 2560, none⟩ = some (.slice (some ⟨gk, 0, none⟩) nk cap)
  keys : ∀ r, r < nk → ∀ i, i < 16 → w0.cell? ⟨gk, r * 16 + i, none⟩ = some (.int .u8 ((at_ (K r) i).toNat : Int))
theorem Ready.at_ {w0 w : World} {gc gk nk cap : Nat} {K : Nat → List UInt8} (h : Ready w0 gc gk nk cap K) (hb : Below w0.heap.size w0 w) : w.cell? ⟨gc, 2560, none⟩ = some (.slice (some ⟨gk, 0, none⟩) nk cap) := cell_stays hb h.cell
theorem Rep.ready {w : World} {gc : Nat} {key : List UInt8} (h : Rep w gc key) : ∃ gk cap, Ready w gc gk (roundsOf key + 1) cap (keysOf key) := by
  obtain ⟨gk, cap, h1, h2⟩ := h.keys
  exact ⟨gk, cap, cell_lt h1, cell_lt (h2 0 (by omega) 0 (by omega)), h.there, h.back, h.mixed, h.parted, h1, fun r hr i hi => h2 r (by omega) i hi⟩
theorem Ready.add {w0 w : World} {gc gk nk cap : Nat} {K : Nat → List UInt8} (h : Ready w0 gc gk nk cap K) {l : List UInt8} (hl : l.length = 16) (h2 : Two16 w0 w l) (r o : Nat) (ho : o = r * 16) (hr : r < nk) :
    Calls Tryd.prog 38 #[.pointer (some ⟨w0.heap.size, 0, none⟩), .pointer (some ⟨gk, o, none⟩)] w fun e w' => (∃ v, e = .returned v) ∧ Two16 w0 w' (addK l (K r)) := by
  subst ho
  refine (add_any w w0.heap.size gk (r * 16) l (K r) hl h2.x (fun i hi => cell_stays h2.b (h.keys r hr i hi)) (by have := h.ltk; omega)).mono ?_
  rintro e w' ⟨he, hB, hg⟩
  exact ⟨he, h2.turn hB hg⟩
theorem Ready.sub {w0 w : World} {gc gk nk cap : Nat} {K : Nat → List UInt8} (h : Ready w0 gc gk nk cap K) {l : List UInt8} (hl : l.length = 16) (h2 : Two16 w0 w l) :
    Calls Tryd.prog 39 #[.pointer (some ⟨w0.heap.size, 0, none⟩), .pointer (some ⟨gc, 0, none⟩)] w fun e w' => (∃ v, e = .returned v) ∧ Two16 w0 w' (l.map sb) := by
  refine (replace_any w w0.heap.size gc 0 l sb hl h2.x (tbl_stays h2.b h.there) (by have := h.lt; omega)).mono ?_
  rintro e w' ⟨he, hB, hg⟩
  exact ⟨he, h2.turn hB hg⟩
theorem Ready.unsub {w0 w : World} {gc gk nk cap : Nat} {K : Nat → List UInt8} (h : Ready w0 gc gk nk cap K) {l : List UInt8} (hl : l.length = 16) (h2 : Two16 w0 w l) :
    Calls Tryd.prog 39 #[.pointer (some ⟨w0.heap.size, 0, none⟩), .pointer (some ⟨gc, 256, none⟩)] w fun e w' => (∃ v, e = .returned v) ∧ Two16 w0 w' (l.map ib) := by
  refine (replace_any w w0.heap.size gc 256 l ib hl h2.x (tbl_stays h2.b h.back) (by have := h.lt; omega)).mono ?_
  rintro e w' ⟨he, hB, hg⟩
  exact ⟨he, h2.turn hB hg⟩
theorem Two16.rot1 {w0 w : World} {l : List UInt8} (hl : l.length = 16) (h2 : Two16 w0 w l) :
    Calls Tryd.prog 40 #[.pointer (some ⟨w0.heap.size, 0, none⟩), .int .i64 1] w fun e w' => (∃ v, e = .returned v) ∧ Two16 w0 w' (rot 1 l) := by
  refine (rotate_1 w w0.heap.size l hl h2.x).mono ?_
  rintro e w' ⟨he, hB, hg⟩
  exact ⟨he, h2.turn hB hg⟩
theorem Two16.rot3 {w0 w : World} {l : List UInt8} (hl : l.length = 16) (h2 : Two16 w0 w l) :
    Calls Tryd.prog 40 #[.pointer (some ⟨w0.heap.size, 0, none⟩), .int .i64 3] w fun e w' => (∃ v, e = .returned v) ∧ Two16 w0 w' (rot 3 l) := by
  refine (rotate_3 w w0.heap.size l hl h2.x).mono ?_
  rintro e w' ⟨he, hB, hg⟩
  exact ⟨he, h2.turn hB hg⟩
theorem Ready.mix {w0 w : World} {gc gk nk cap : Nat} {K : Nat → List UInt8} (h : Ready w0 gc gk nk cap K) {l : List UInt8} (hl : l.length = 16) (h2 : Two16 w0 w l) :
    Calls Tryd.prog 41 #[.pointer (some ⟨w0.heap.size, 0, none⟩), .pointer (some ⟨gc, 512, none⟩)] w fun e w' => (∃ v, e = .returned v) ∧ Two16 w0 w' (mix l) := by
  refine (mix_any w w0.heap.size gc 512 l (facs [2, 3, 1, 1]) hl h2.x (fun j hj => tbl_stays h2.b (h.mixed j hj)) (by have := h.lt; omega)).mono ?_
  rintro e w' ⟨he, hB, hg⟩
  rw [mixT_there] at hB
  exact ⟨he, h2.turn hB hg⟩
theorem Ready.unmix {w0 w : World} {gc gk nk cap : Nat} {K : Nat → List UInt8} (h : Ready w0 gc gk nk cap K) {l : List UInt8} (hl : l.length = 16) (h2 : Two16 w0 w l) :
    Calls Tryd.prog 41 #[.pointer (some ⟨w0.heap.size, 0, none⟩), .pointer (some ⟨gc, 1536, none⟩)] w fun e w' => (∃ v, e = .returned v) ∧ Two16 w0 w' (mix3 l) := by
  refine (mix_any w w0.heap.size gc 1536 l (facs [14, 11, 13, 9]) hl h2.x (fun j hj => tbl_stays h2.b (h.parted j hj)) (by have := h.lt; omega)).mono ?_
  rintro e w' ⟨he, hB, hg⟩
  rw [mixT_back l hl] at hB
  exact ⟨he, h2.turn hB hg⟩
end Go.Proofs.YtbcagjndbfpecaaDoor
