/-
  The reference's Of of layer 5: its loops as pieces of its text; what lies in memory between two blocks of the message.
-/
import Derived.Test.YtpaagjhohfjopaaDoorShaRefN
set_option maxRecDepth 100000
namespace Go.Proofs.YtpaagjhohfjopaaDoor
open Go.RowKit Go.Gar

/-- The bodies of a text's loops, the outer ahead of the inner. -/
def loopsOf : Code → List Code
  | .loop c => c :: loopsOf c
  | .seq a b => loopsOf a ++ loopsOf b
  | .block _ c => loopsOf c
  | .scope c => loopsOf c
  | .cond _ a b => loopsOf a ++ loopsOf b
  | _ => []
noncomputable def shaLoop (k : Nat) : Code := (((Tryd.f24.body.map loopsOf).getD [])[k]?).getD .skip

/-- What lies in memory between two blocks of the message: the sums (block g0), the hash (block gh), the message (block gm). -/
structure Rnd (w wr : World) (g0 gh gm : Nat) (K H : Value) (m : List UInt8) (restm : List Value) (hs : List Nat) (resth : List Value) : Prop where
  box : Blk wr g0 25 [K, H]
  h : Blk wr gh 44 (u32s hs ++ resth)
  m : Blk wr gm 5 (u8s m ++ restm)
  below : Below w.heap.size w wr
  o1 : w.heap.size ≤ g0
  o2 : g0 < gh
  o3 : gh < gm
theorem Rnd.on {w wr wr' : World} {g0 gh gm : Nat} {K H : Value} {m : List UInt8} {restm : List Value} {hs : List Nat} {resth : List Value} {B : Nat} (h : Rnd w wr g0 gh gm K H m restm hs resth) (hb : Below B wr wr') (hB : gm < B) : Rnd w wr' g0 gh gm K H m restm hs resth :=
  ⟨h.box.below hb (by have := h.o2; have := h.o3; omega), h.h.below hb (by have := h.o3; omega), h.m.below hb hB, h.below.trans (hb.mono (by have := h.o1; have := h.o2; have := h.o3; omega)), h.o1, h.o2, h.o3⟩
theorem Rnd.drew {w wr : World} {g0 gh gm : Nat} {K H : Value} {m : List UInt8} {restm : List Value} {hs : List Nat} {resth : List Value} (h : Rnd w wr g0 gh gm K H m restm hs resth) : Rnd w wr.drew g0 gh gm K H m restm hs resth :=
  ⟨h.box, h.h, h.m, h.below.drew, h.o1, h.o2, h.o3⟩
theorem Rnd.set {w wr : World} {g0 gh gm : Nat} {K H : Value} {m : List UInt8} {restm : List Value} {hs : List Nat} {resth : List Value} (h : Rnd w wr g0 gh gm K H m restm hs resth) (i n : Nat) (hi : i < hs.length) :
    Rnd w (wr.setCell ⟨gh, i, none⟩ (.int .u32 (n : Int))) g0 gh gm K H m restm (hs.set i n) resth := by
  have h1 := h.o1
  have h2 := h.o2
  have h3 := h.o3
  refine ⟨h.box.far (by simp; omega) _, ?_, h.m.far (by simp; omega) _, h.below.setCell (p := ⟨gh, i, none⟩) (by simp; omega) _, h1, h2, h3⟩
  have := h.h.set_ i (.int .u32 (n : Int))
  rw [List.set_append_left _ _ (by rw [u32s_len]; exact hi), u32s_set] at this
  exact this
theorem byte_at {w : World} {g : Nat} {t : TypeId} {m : List UInt8} {rest : List Value} (h : Blk w g t (u8s m ++ rest)) {k : Nat} (hk : k < m.length) : w.cell? ⟨g, k, none⟩ = some (.int .u8 ((Sha.at8 m k : Nat) : Int)) := by
  rw [h.cell, List.getElem?_append_left (by rw [u8s_len]; exact hk), u8s_get, List.getElem?_eq_getElem hk, Sha.at8, List.getD_eq_getElem?_getD, List.getElem?_eq_getElem hk]
  rfl
theorem word_at {w : World} {g : Nat} {t : TypeId} {l : List Nat} {rest : List Value} (h : Blk w g t (u32s l ++ rest)) {k : Nat} (hk : k < l.length) : w.cell? ⟨g, k, none⟩ = some (.int .u32 ((l.getD k 0 : Nat) : Int)) := by
  rw [h.cell, List.getElem?_append_left (by rw [u32s_len]; exact hk), u32s_get l k hk]

theorem cell_bel {w w' : World} (hb : Below w.heap.size w w') {p : Addr} {v : Value} (h : w.cell? p = some v) : w'.cell? p = some v := by
  rw [hb.cell (p := p) (World.block_lt_of_cell? w p h), h]
theorem ownB_lower {w : World} {base base' : Nat} {e : TypeId} {v : Value} {l : List UInt8} (h : OwnB w base e v l) (hb : base' ≤ base) : OwnB w base' e v l := by
  refine ⟨h.1, ?_⟩
  rcases h.2 with hn | ⟨g, cap, cur, hv, hg, rest⟩
  · exact .inl hn
  · exact .inr ⟨g, cap, cur, hv, by omega, rest⟩
end Go.Proofs.YtpaagjhohfjopaaDoor
