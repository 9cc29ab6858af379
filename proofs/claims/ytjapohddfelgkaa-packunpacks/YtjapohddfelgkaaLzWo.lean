/-
  The landed lz: what is done to its window: a position comes in, the earliest goes.
-/
import Derived.Test.YtjapohddfelgkaaLzWn
set_option maxRecDepth 100000
namespace Go.Proofs.Ytjapohddfelgkaa
open Go.RowKit Go.Gar

/-- The blocks that the window's calls may turn. -/
def FI (base gm : Nat) (w : World) (g : Nat) : Prop := base ≤ g ∧ (g = gm ∨ ∃ cs, Blk w g 3 cs)
structure Win (w : World) (base gm n : Nat) (f : List UInt8 → Value) (ps : List UInt8 → List Nat) : Prop where
  map : MapK w gm n f
  gmb : base ≤ gm
  rows : ∀ s, s.length = 3 → OwnI w base (f s) (ps s)
  apart : ∀ s s' g, s.length = 3 → s'.length = 3 → blkV (f s) = some g → blkV (f s') = some g → s = s'
section
variable {w w' : World} {base gm n : Nat} {f : List UInt8 → Value} {ps : List UInt8 → List Nat}
theorem MapK.not_blk (h : MapK w gm n f) {g : Nat} {t : TypeId} {cs : List Value} (hB : Blk w g t cs) : g ≠ gm := by
  rintro rfl
  obtain ⟨es, clock, h1⟩ := h.obj
  unfold Blk at hB
  rw [hB] at h1
  cases h1
theorem Win.made (w : World) (base : Nat) (hb : base ≤ w.heap.size) : Win (w.alloc (.map #[] 0)) base w.heap.size 0 (fun _ => noInts) (fun _ => []) :=
  ⟨mapK_made w, hb, fun _ _ => OwnI.nil _ _, fun _ _ _ _ _ h => by cases h⟩
theorem Win.keep (h : Win w base gm n f ps) (hgm : w'.heap[gm]? = w.heap[gm]?) (hr : ∀ g cs, Blk w g 3 cs → w'.heap[g]? = w.heap[g]?) : Win w' base gm n f ps :=
  ⟨h.map.block hgm, h.gmb, fun s hs => (h.rows s hs).keep fun g hg => by
    obtain ⟨_, cs, hB⟩ := (h.rows s hs).typed hg
    exact hr g cs hB, h.apart⟩
theorem Win.below (h : Win w base gm n f ps) (hb : Below w.heap.size w w') : Win w' base gm n f ps :=
  h.keep (hb.block _ h.map.lt) fun g _ hB => hb.block g hB.lt
theorem Win.only {F : Nat → Prop} (h : Win w base gm n f ps) (ho : Only F w w') (hF : ∀ g, F g → ∃ t cs, Blk w g t cs ∧ t ≠ 3) : Win w' base gm n f ps :=
  h.keep (ho.block _ h.map.lt fun hf => by obtain ⟨t, cs, hB, _⟩ := hF _ hf; exact h.map.not_blk hB rfl)
    fun g _ hB => ho.block g hB.lt fun hf => by obtain ⟨t, _, hB', hne⟩ := hF _ hf; exact hB'.ne hB hne rfl
theorem Win.put (h : Win w base gm n f ps) {s : List UInt8} {v : Value} {zs : List Nat} {n' : Nat} (hm : MapK w' gm n' (upd f s v)) (hg : w.grownBy w' (some gm)) (hv : OwnI w base v zs) (hfr : ∀ g, blkV v = some g → blkV (f s) = some g) (hs : s.length = 3) :
    Win w' base gm n' (upd f s v) (upd ps s zs) ∧ Only (FI base gm w) w w' := by
  have hk : ∀ g cs, Blk w g 3 cs → w'.heap[g]? = w.heap[g]? := fun g cs hB => hg.block g hB.lt (fun e => h.map.not_blk hB (Option.some.inj e))
  refine ⟨⟨hm, h.gmb, fun s' hs' => ?_, fun s1 s2 g h1 h2 e1 e2 => ?_⟩, .of_grown hg (fun i e => by obtain rfl := Option.some.inj e; exact ⟨h.gmb, .inl rfl⟩)⟩
  · by_cases e : s' = s
    · subst e
      rw [upd_same, upd_same]
      exact hv.keep fun g hg' => by obtain ⟨_, cs, hB⟩ := hv.typed hg'; exact hk g cs hB
    · rw [upd_other _ _ e, upd_other _ _ e]
      exact (h.rows s' hs').keep fun g hg' => by obtain ⟨_, cs, hB⟩ := (h.rows s' hs').typed hg'; exact hk g cs hB
  · have key : ∀ s', blkV (upd f s v s') = some g → blkV (f s') = some g := fun s' e => by
      by_cases e' : s' = s
      · subst e'; rw [upd_same] at e; exact hfr g e
      · rw [upd_other _ _ e'] at e; exact e
    exact h.apart s1 s2 g h1 h2 (key s1 e1) (key s2 e2)
/-- The earliest of several goes. -/
theorem Win.cut (h : Win w base gm n f ps) (hn : n < maxLen) {s : List UInt8} (hs : s.length = 3) {p q : Nat} {zs : List Nat} (hps : ps s = p :: q :: zs) :
    ∃ g o c, f s = .slice (some ⟨g, o, none⟩) (zs.length + 2) c ∧ zs.length + 2 ≤ c ∧ ∃ w', (Instr.mapUpdate 45 (.map (some gm)) (keyV s) (.slice (some ⟨g, o + 1, none⟩) (zs.length + 1) (c - 1))).run Try.prog w = .ok () w' ∧
      Win w' base gm (n + 1) (upd f s (.slice (some ⟨g, o + 1, none⟩) (zs.length + 1) (c - 1))) (upd ps s (q :: zs)) ∧ Only (FI base gm w) w w' := by
  rcases h.rows s hs with ⟨_, hz⟩ | ⟨g, c, pre, rest, hv, hz, hb, hB, hc⟩
  · rw [hps] at hz; cases hz
  · rw [hps] at hv hB hc
    simp only [List.length_cons] at hv hc
    refine ⟨g, pre.length, c, hv, by omega, ?_⟩
    obtain ⟨w', hr, hm, hg⟩ := h.map.store hn hs (.slice (some ⟨g, pre.length + 1, none⟩) (zs.length + 1) (c - 1))
    obtain ⟨hw, ho⟩ := h.put (zs := q :: zs) hm hg (.inr ⟨g, c - 1, pre ++ [.int .i64 (p : Int)], rest, by simp, by simp, hb, by simpa [i64s] using hB, by simp; omega⟩) (fun g' e => by rw [hv]; simpa [blkV] using e) hs
    exact ⟨w', hr, hw, ho⟩
/-- The only one goes. -/
theorem Win.gone (h : Win w base gm n f ps) {s : List UInt8} (hs : s.length = 3) {p : Nat} (hps : ps s = [p]) (ty : TypeId) :
    ∃ g o c, f s = .slice (some ⟨g, o, none⟩) 1 c ∧ 1 ≤ c ∧ ∃ w', (Builtin.delete_ #[45, 58] ty #[.map (some gm), keyV s]).run Try.prog w = .ok (.tuple #[]) w' ∧
      Win w' base gm n (upd f s noInts) (upd ps s []) ∧ Only (FI base gm w) w w' := by
  rcases h.rows s hs with ⟨_, hz⟩ | ⟨g, c, pre, rest, hv, hz, hb, hB, hc⟩
  · rw [hps] at hz; cases hz
  · rw [hps] at hv hB hc
    simp only [List.length_cons, List.length_nil] at hv hc
    refine ⟨g, pre.length, c, hv, by omega, ?_⟩
    obtain ⟨w', hr, hm, hg⟩ := h.map.drop hs ty
    obtain ⟨hw, ho⟩ := h.put (zs := []) hm hg (OwnI.nil _ _) (fun g' e => by cases e) hs
    exact ⟨w', hr, hw, ho⟩
/-- A position comes in. -/
theorem Win.push (h : Win w base gm n f ps) (hn : n < maxLen) (hbase : base ≤ w.heap.size) {s : List UInt8} (hs : s.length = 3) {gn x : Nat} (hx : Blk w gn 3 [.int .i64 (x : Int)]) (hl : (ps s).length ≤ 1000000) (ty : TypeId) (c : Nat) :
    ∃ (st : Nat) (w2 : World), (Instr.mapEntry 45 (.map (some gm)) (keyV s)).run Try.prog w = .ok (.tuple #[f s, goInt st]) w2 ∧
      ∃ v' w3, (Builtin.append_ #[57, 57] ty #[f s, .slice (some ⟨gn, 0, none⟩) 1 c]).run Try.prog w2 = .ok v' w3 ∧
        ∃ w4, (Instr.entryStore 45 (.map (some gm)) (goInt st) v').run Try.prog w3 = .ok () w4 ∧
          Win w4 base gm (n + 1) (upd f s v') (upd ps s (ps s ++ [x])) ∧ Only (FI base gm w) w w4 := by
  obtain ⟨st, w2, hr, hg2, hst⟩ := h.map.entry hn hs
  have hk2 : ∀ g cs, Blk w g 3 cs → w2.heap[g]? = w.heap[g]? := fun g cs hB => hg2.block g hB.lt (fun e => h.map.not_blk hB (Option.some.inj e))
  have hrow : ∀ s', s'.length = 3 → OwnI w2 base (f s') (ps s') := fun s' hs' => (h.rows s' hs').keep fun g hg' => by
    obtain ⟨_, cs, hB⟩ := (h.rows s' hs').typed hg'
    exact hk2 g cs hB
  obtain ⟨v', w3, ha, ho3, hg3, hat⟩ := (hrow s hs).app ty (Nat.le_trans hbase hg2.size) (gn := gn) (x := x) ((hk2 gn _ hx).trans hx) hl c
  have hgm2 : gm < w2.heap.size := Nat.lt_of_lt_of_le h.map.lt hg2.size
  have hgmB : ∀ g, blkV (f s) = some g → g ≠ gm := fun g hg' => by
    obtain ⟨_, cs, hB⟩ := (h.rows s hs).typed hg'
    exact h.map.not_blk hB
  obtain ⟨w4, hr4, hm4, hg4⟩ := hst w3 v' (hg3.block gm hgm2 (fun e => hgmB gm e.symm rfl))
  refine ⟨st, w2, hr, v', w3, ha, w4, hr4, ⟨hm4, h.gmb, fun s' hs' => ?_, fun s1 s2 g h1 h2 e1 e2 => ?_⟩, ?_⟩
  · by_cases e : s' = s
    · subst e
      rw [upd_same, upd_same]
      refine ho3.keep fun g hg' => hg4.block g (ho3.lt hg') fun e' => ?_
      obtain rfl := Option.some.inj e'
      rcases hat with h1 | ⟨g', h1, h2⟩
      · rw [h1] at hg'; exact hgmB _ hg' rfl
      · rw [h1] at hg'; obtain rfl := Option.some.inj hg'; omega
    · rw [upd_other _ _ e, upd_other _ _ e]
      refine (hrow s' hs').keep fun g hg' => ?_
      have hlt := (hrow s' hs').lt hg'
      have hne : g ≠ gm := by
        obtain ⟨_, cs, hB⟩ := (h.rows s' hs').typed hg'
        exact h.map.not_blk hB
      rw [hg4.block g (Nat.lt_of_lt_of_le hlt hg3.size) (fun e' => hne (Option.some.inj e'))]
      exact hg3.block g hlt (fun e' => e (h.apart s' s g hs' hs hg' e'.symm))
  · have old : ∀ s', s'.length = 3 → ∀ g, blkV (f s') = some g → g < w2.heap.size := fun s' hs' g hg' => (hrow s' hs').lt hg'
    by_cases c1 : s1 = s
    · by_cases c2 : s2 = s
      · rw [c1, c2]
      · subst c1
        rw [upd_same] at e1
        rw [upd_other _ _ c2] at e2
        rcases hat with h3 | ⟨g', h3, h4⟩
        · rw [h3] at e1; exact h.apart _ s2 g h1 h2 e1 e2
        · rw [h3] at e1; obtain rfl := Option.some.inj e1
          have := old s2 h2 _ e2; omega
    · by_cases c2 : s2 = s
      · subst c2
        rw [upd_same] at e2
        rw [upd_other _ _ c1] at e1
        rcases hat with h3 | ⟨g', h3, h4⟩
        · rw [h3] at e2; exact h.apart s1 _ g h1 h2 e1 e2
        · rw [h3] at e2; obtain rfl := Option.some.inj e2
          have := old s1 h1 _ e1; omega
      · rw [upd_other _ _ c1] at e1
        rw [upd_other _ _ c2] at e2
        exact h.apart s1 s2 g h1 h2 e1 e2
  · have o1 : Only (FI base gm w) w w2 := .of_grown hg2 (fun i e => by obtain rfl := Option.some.inj e; exact ⟨h.gmb, .inl rfl⟩)
    have o2 : Only (FI base gm w) w2 w3 := .of_grown hg3 (fun i e => by
      obtain ⟨h1, cs, hB⟩ := (h.rows s hs).typed e
      exact ⟨h1, .inr ⟨cs, hB⟩⟩)
    have o3 : Only (FI base gm w) w3 w4 := .of_grown hg4 (fun i e => by obtain rfl := Option.some.inj e; exact ⟨h.gmb, .inl rfl⟩)
    exact (o1.trans o2).trans o3
theorem FI.back {a b : World} {g : Nat} (ho : Only (FI base gm a) a b) (h : FI base gm b g) : FI base gm a g ∨ a.heap.size ≤ g := by
  rcases Nat.lt_or_ge g a.heap.size with hlt | hge
  · refine .inl ?_
    by_cases hf : FI base gm a g
    · exact hf
    · rcases h with ⟨h1, rfl | ⟨cs, hB⟩⟩
      · exact ⟨h1, .inl rfl⟩
      · exact ⟨h1, .inr ⟨cs, (ho.block g hlt hf).symm.trans hB⟩⟩
  · exact .inr hge
theorem only_FI {a b c : World} (h : Only (FI base gm a) a b) (k : Only (FI base gm b) b c) : Only (FI base gm a) a c := h.then k fun _ hi => FI.back h hi
theorem FI.ge {a : World} {g : Nat} (h : FI base gm a g) : base ≤ g := h.1
end
end Go.Proofs.Ytjapohddfelgkaa
