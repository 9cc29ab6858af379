/-
  The reference's cipher while its words are being made: what lies in memory, and what one more word does to it. A growth in which, of the blocks below B, only one row may turn. Of no program.
-/
import Derived.Test.YtjhkodmaalefiaaDoorSealJ11
import Derived.Test.YtjhkodmaalefiaaDoorSealJ03
set_option maxRecDepth 100000
namespace Go.Proofs.YtjhkodmaalefiaaDoor
open Go.RowKit Go.Gar Go.Gar.Aes

theorem Tryd.undWords : Tryd.prog.underlying 63 = some (.slice 26) := by kernel_rfl
theorem Tryd.infoBytes : (Tryd.prog.info? 26).map (fun i => (i.zero, i.size, i.bytes)) = some (some (.slice none 0 0), 1, 24) := by kernel_rfl

/-- A slice value that the call made, whose elements (of one cell each) are xs. -/
def OwnW (w : World) (base : Nat) (e : TypeId) (v : Value) (xs : List Value) : Prop := w.ownsRow base e 1 v xs.length xs
theorem OwnW.nil (w : World) (base : Nat) (e : TypeId) : OwnW w base e (.slice none 0 0) [] := ⟨by simp, .inl ⟨rfl, rfl⟩⟩
theorem OwnW.view {w : World} {base : Nat} {e : TypeId} {v : Value} {xs : List Value} (h : OwnW w base e v xs) (hx : 0 < xs.length) : ∃ g c, v = .slice (some ⟨g, 0, none⟩) xs.length c ∧ base ≤ g ∧ ∀ i u, xs[i]? = some u → w.cell? ⟨g, i, none⟩ = some u := by
  rcases h.2 with ⟨_, hn⟩ | ⟨g, cap, cur, rfl, hb, hg, hnc, _, _, htake⟩
  · omega
  · refine ⟨g, cap, rfl, hb, fun i u hi => ?_⟩
    rw [← htake] at hi
    simp only [List.getElem?_take, Nat.mul_one] at hi
    split at hi
    · simpa [World.cell?, hg] using hi
    · cases hi
theorem OwnW.keep {w w' : World} {base : Nat} {e : TypeId} {v : Value} {xs : List Value} (h : OwnW w base e v xs) (hk : ∀ g, v.ownBlock = some g → w'.heap[g]? = w.heap[g]?) : OwnW w' base e v xs := by
  refine ⟨h.1, ?_⟩
  rcases h.2 with hn | ⟨g, cap, cur, hv, hb, hg, rest⟩
  · exact .inl hn
  · exact .inr ⟨g, cap, cur, hv, hb, (hk g (by rw [hv]; rfl)).trans hg, rest⟩
theorem OwnW.lt {w : World} {base : Nat} {e : TypeId} {v : Value} {xs : List Value} (h : OwnW w base e v xs) : ∀ g, v.ownBlock = some g → base ≤ g ∧ g < w.heap.size := fun g hg => World.ownsRow.lt h g hg
theorem OwnW.ne {w : World} {base g : Nat} {e t : TypeId} {v : Value} {xs cs : List Value} (h : OwnW w base e v xs) (hb : Blk w g t cs) (hne : t ≠ e) : some g ≠ v.ownBlock := by
  intro hg
  rcases h.2 with ⟨rfl, _⟩ | ⟨g', cap, cur, rfl, _, hg', _⟩
  · cases hg
  · injection hg with hg
    subst hg
    unfold Blk at hb
    rw [hb] at hg'
    injection hg' with hg'
    injection hg' with _ h2 _
    exact hne h2

/-- append of one element, in a row of its own that was just made. -/
theorem app_oneV {P : Program} {w : World} {base : Nat} {e t ty : TypeId} {z : Value} {by_ : Nat} {v : Value} {xs : List Value} (ht : P.underlying t = some (.slice e)) (hinfo : (P.info? e).map (fun i => (i.zero, i.size, i.bytes)) = some (some z, 1, by_)) (hz1 : z.cells.size = 1)
    (hown : OwnW w base e v xs) (hbase : base ≤ w.heap.size) (u : Value) (h1 : u.oneCell' = true) (hlen : xs.length + 1 ≤ 1000000) (hby : by_ ≤ 1000) :
    ∃ v' w', (Builtin.append_ #[t, t] ty #[v, .slice (some ⟨w.heap.size, 0, none⟩) 1 1]).run P (w.alloc (.cells #[u] e)) = .ok v' w' ∧ OwnW w' base e v' (xs ++ [u]) ∧ (w.alloc (.cells #[u] e)).grownBy w' v.ownBlock := by
  obtain ⟨i, hi, hzz⟩ := Option.map_eq_some_iff.1 hinfo
  simp only [Prod.mk.injEq] at hzz
  obtain ⟨hz, hs, hby'⟩ := hzz
  have hO : OwnW (w.alloc (.cells #[u] e)) base e v xs := hown.keep fun g hg => Below.heap_alloc w _ g (hown.lt g hg).2
  have hmul : (xs.length + 1) * by_ ≤ 1000000 * 1000 := Nat.mul_le_mul hlen hby
  obtain ⟨v', w', r1, r2, r3, _⟩ := run_append_own (P := P) (w.alloc (.cells #[u] e)) base t ty e i z 1 by_ ht hi hz hs hby' hz1 (by omega) v xs.length xs hO ⟨w.heap.size, 0, none⟩ 1 1 [u] rfl (fun j x hj => by
    have hadd : (⟨w.heap.size, 0, none⟩ : Addr).add j = ⟨w.heap.size, 0 + j, none⟩ := Addr.add_lit _ _ _
    rw [hadd, Nat.zero_add, (Blk.new w e [u]).cell j]
    exact hj) (by intro x hx; simp at hx; rw [hx]; exact h1) (by simp only [maxLen]; omega) (by omega) (by rw [World.size_alloc]; omega)
  refine ⟨v', w', r1, ?_, ?_⟩
  · unfold OwnW
    rw [List.length_append]
    exact r2
  · exact r3

/-- The words' rows. -/
def WordsAt (w : World) (base : Nat) (xs : List Value) (ws : List (List UInt8)) : Prop :=
  xs.length = ws.length ∧ ∀ (j : Nat) (l : List UInt8), ws[j]? = some l → ∃ (g c : Nat) (rest : List Value), xs[j]? = some (.slice (some ⟨g, 0, none⟩) 4 c) ∧ l.length = 4 ∧ base ≤ g ∧ Blk w g 5 (u8s l ++ rest)
structure AesS (w : World) (gc gt gb base : Nat) (v : Value) (xs : List Value) (ws : List (List UInt8)) : Prop where
  blk : Blk w gc 124 [.slice (some ⟨gt, 0, none⟩) 256 256, .slice (some ⟨gb, 0, none⟩) 256 256, v]
  there : Blk w gt 5 (u8s Box.sboxB)
  back : Blk w gb 5 (u8s Box.backB)
  own : OwnW w base 26 v xs
  words : WordsAt w base xs ws
theorem WordsAt.keep {w w' : World} {base : Nat} {xs : List Value} {ws : List (List UInt8)} (h : WordsAt w base xs ws) (hk : ∀ g cs, Blk w g 5 cs → Blk w' g 5 cs) : WordsAt w' base xs ws :=
  ⟨h.1, fun j l hj => by
    obtain ⟨g, c, rest, h1, h2, h3, h4⟩ := h.2 j l hj
    exact ⟨g, c, rest, h1, h2, h3, hk _ _ h4⟩⟩
theorem AesS.below {w w' : World} {gc gt gb base : Nat} {v : Value} {xs : List Value} {ws : List (List UInt8)} (h : AesS w gc gt gb base v xs ws) (hb : Below w.heap.size w w') : AesS w' gc gt gb base v xs ws where
  blk := h.blk.below hb h.blk.lt
  there := h.there.below hb h.there.lt
  back := h.back.below hb h.back.lt
  own := h.own.keep fun g hg => hb.block g (h.own.lt g hg).2
  words := h.words.keep fun _ _ hB => hB.below hb hB.lt
theorem AesS.drew {w : World} {gc gt gb base : Nat} {v : Value} {xs : List Value} {ws : List (List UInt8)} (h : AesS w gc gt gb base v xs ws) : AesS w.drew gc gt gb base v xs ws := h.below (Below.refl _ w).drew

/-- One more word. -/
theorem AesS.push {w : World} {gc gt gb base : Nat} {v : Value} {xs : List Value} {ws : List (List UInt8)} (h : AesS w gc gt gb base v xs ws) (hbase : base ≤ w.heap.size) (hlen : ws.length ≤ 1000) {g c : Nat} {l : List UInt8} {rest : List Value} (hg : base ≤ g) (hl : l.length = 4) (hB : Blk w g 5 (u8s l ++ rest)) :
    ∃ v' w', (Builtin.append_ #[63, 63] 63 #[v, .slice (some ⟨w.heap.size, 0, none⟩) 1 1]).run Tryd.prog (w.alloc (.cells #[.slice (some ⟨g, 0, none⟩) 4 c] 26)) = .ok v' w' ∧ AesS (w'.setCell ⟨gc, 2, none⟩ v') gc gt gb base v' (xs ++ [.slice (some ⟨g, 0, none⟩) 4 c]) (ws ++ [l]) ∧ Below base w w' ∧ (w.alloc (.cells #[.slice (some ⟨g, 0, none⟩) 4 c] 26)).grownBy w' v.ownBlock ∧
      w'.cell? ⟨gc, 2, none⟩ = some v ∧ w'.frozen? ⟨gc, 2, none⟩ = false := by
  have hxl := h.words.1
  obtain ⟨v', w', r1, r2, r3'⟩ := app_oneV (P := Tryd.prog) (ty := 63) Tryd.undWords Tryd.infoBytes rfl h.own hbase (.slice (some ⟨g, 0, none⟩) 4 c) rfl (by omega) (by omega)
  have r3 := grown_trans (grown_alloc (World.grownBy.refl w v.ownBlock) _) r3'
  have hk : ∀ g cs, Blk w g 5 cs → Blk (w'.setCell ⟨gc, 2, none⟩ v') g 5 cs := fun g cs hb =>
    (hb.grown r3 (h.own.ne hb (by decide))).far (p := ⟨gc, 2, none⟩) (hb.ne h.blk (by decide)) v'
  have hgc' := h.blk.grown r3 (h.own.ne h.blk (by decide))
  refine ⟨v', w', r1, ⟨hgc'.set_ 2 v', hk _ _ h.there, hk _ _ h.back, r2.keep fun k hk' => ?_, ?_, ?_⟩, ?_, r3', by rw [hgc'.cell]; rfl, hgc'.frozen 2⟩
  · have hne : some gc ≠ v'.ownBlock := OwnW.ne r2 hgc' (by decide)
    exact Below.heap_setCell w' _ v' k (fun e => hne (by rw [hk']; simp at e; rw [e]))
  · simp [hxl]
  · intro j l' hj
    by_cases hjl : j < ws.length
    · rw [List.getElem?_append_left hjl] at hj
      obtain ⟨g', c', rest', a1, a2, a3, a4⟩ := h.words.2 j l' hj
      exact ⟨g', c', rest', by rw [List.getElem?_append_left (by omega)]; exact a1, a2, a3, hk _ _ a4⟩
    · rw [List.getElem?_append_right (by omega)] at hj
      have hj0 : j - ws.length = 0 := by
        rcases Nat.eq_zero_or_pos (j - ws.length) with h0 | h0
        · exact h0
        · rw [List.getElem?_eq_none (by simp; omega)] at hj; cases hj
      rw [hj0] at hj
      simp at hj
      subst hj
      exact ⟨g, c, rest, by rw [List.getElem?_append_right (by omega), hxl, hj0]; rfl, hl, hg, hk _ _ hB⟩
  · exact (Below.refl base w).grown r3 hbase (fun k hk => (h.own.lt k hk).1)
end Go.Proofs.YtjhkodmaalefiaaDoor
namespace Go.Proofs.YtjhkodmaalefiaaDoor
open Go.RowKit Go.Gar

/-- Of the blocks below B only one row, if any, may turn. -/
def turnsB (B : Nat) (row : Option Nat) : Growth where
  rel w w' := w'.os = w.os ∧ w'.tape = w.tape ∧ w'.output = w.output ∧ w.heap.size ≤ w'.heap.size ∧ ∀ k, k < B → some k ≠ row → w'.heap[k]? = w.heap[k]?
  refl _ := ⟨rfl, rfl, rfl, Nat.le_refl _, fun _ _ _ => rfl⟩
  trans h k := ⟨k.1.trans h.1, k.2.1.trans h.2.1, k.2.2.1.trans h.2.2.1, Nat.le_trans h.2.2.2.1 k.2.2.2.1, fun i hi hr => (k.2.2.2.2 i hi hr).trans (h.2.2.2.2 i hi hr)⟩
theorem turnsB_below {B : Nat} {row : Option Nat} {w w' : World} (h : Below B w w') : (turnsB B row).rel w w' := ⟨h.os, h.tape, h.output, h.size, fun k hk _ => h.block k hk⟩
theorem turnsB_grown {B : Nat} {row : Option Nat} {w w' : World} (h : w.grownBy w' row) (hB : B ≤ w.heap.size) : (turnsB B row).rel w w' := ⟨h.os, h.tape, h.output, h.size, fun k hk hr => h.block k (by omega) hr⟩
theorem cell_turnsB {w : World} {g B : Nat} {row : Option Nat} {t : TypeId} {cs : List Value} (h : Blk w g t cs) (hB : g < B) (hne : some g ≠ row) {i : Nat} {v : Value} (hv : cs[i]? = some v) : ∀ x : Later (turnsB B row) w, x.to.cell? ⟨g, i, none⟩ = some v := by
  intro x
  have hx : (turnsB B row).rel w x.to := x.grown
  have hb : Blk x.to g t cs := (hx.2.2.2.2 g hB hne).trans h
  rw [hb.cell, hv]
theorem addr_turnsB {w : World} {b o B : Nat} {row : Option Nat} {v : Value} (h : w.cell? ⟨b, o, none⟩ = some v) (hB : b < B) (hne : some b ≠ row) : ∀ x : Later (turnsB B row) w, x.to.cell? ⟨b, o, none⟩ = some v := by
  intro x
  have hx : (turnsB B row).rel w x.to := x.grown
  rw [← h]
  simp only [World.cell?, hx.2.2.2.2 b hB hne]
end Go.Proofs.YtjhkodmaalefiaaDoor
