/-
  A statement that draws its order, where some operations (E: the stores at its end) need not keep the growth: they are ordered towards each operation that is taken first. Of no program; a tool for the walks.
-/
import Derived.Test.YtampdfmakhdliaaDiskJ02
set_option maxRecDepth 100000
namespace Go.Gar
open Go.RowKit
section
variable {E : List Nat} {G : Growth} {P : Program} {ops : Array Oper} {Q : Exit → Act → World → Prop} {md : Region.Mode}
def ordered (md : Region.Mode) (ops : Array Oper) (E : List Nat) (i : Nat) : Bool := E.all fun j => j == i || reach md ops 12 i j || reach md ops 12 j i
theorem ordered_alone {md : Region.Mode} {ops : Array Oper} {listed : Array Bool} {i j : Nat} (hc : Closed md ops listed) (h : ordered md ops E i = true) (hE : E.contains j = true) (hi : i ∈ Region.ready md ops listed) (hj : j ∈ Region.ready md ops listed) (hne : j ≠ i) : False := by
  obtain ⟨hju, oj, hoj, hja⟩ := mem_ready.1 hj
  obtain ⟨hiu, oi, hoi, hia⟩ := mem_ready.1 hi
  simp only [ordered, List.all_eq_true] at h
  have h1 := h j (by simpa using hE)
  simp only [Bool.or_eq_true, beq_iff_eq] at h1
  have un : ∀ k, listed.getD k true = false → listed.getD k false = true → False := by
    intro k hu h2
    rcases Nat.lt_or_ge k listed.size with h' | h'
    · simp [h'] at h2 hu
      rw [hu] at h2; cases h2
    · simp [Array.getElem?_eq_none h'] at h2
  rcases h1 with (h1 | h1) | h1
  · exact hne h1
  · exact un i (by simpa using hiu) (reach_listed hc 12 i j oj hoj (fun e he hb => by simpa using hja e he hb) h1)
  · exact un j (by simpa using hju) (reach_listed hc 12 j i oi hoi (fun e he hb => by simpa using hia e he hb) h1)

/-- Whatever order is picked from here on, each operation letting memory grow. -/
def wpAnyE (E : List Nat) (G : Growth) (P : Program) (md : Region.Mode) (ops : Array Oper) (Q : Exit → Act → World → Prop) : Nat → Array Bool → Act → World → Prop
  | 0, listed, a, w => Region.ready md ops listed = [] ∧ Q .normal a w
  | fuel + 1, listed, a, w =>
    (Region.ready md ops listed = [] → Q .normal a w) ∧
    ∀ i ∈ Region.ready md ops listed, wpOp P ops Q i (fun a' w' => (G.rel w w' ∨ E.contains i = true) ∧ wpAnyE E G P md ops Q fuel (listed.setIfInBounds i true) a' w') a w

theorem wpAny_of_E : ∀ (fuel : Nat) (listed : Array Bool) (a : Act) (w : World), wpAnyE E G P md ops Q fuel listed a w → wpAny P md ops Q fuel listed a w
  | 0, _, _, _, h => h
  | fuel + 1, _, _, _, h => ⟨h.1, fun i hi => wpOp_mono (fun a' w' h' => wpAny_of_E fuel _ a' w' h'.2) (h.2 i hi)⟩

theorem wpAnyE_first {i : Nat} {oi : Oper} {v : Value} (w0 : World) (hi : ops[i]? = some oi) (hsel : ∀ (j : Nat) (o : Oper) cs b, ops[j]? = some o → o.op ≠ .select cs b)
    (hQ : ∀ c a w, Q (.panic c) (a.put oi.dst v) w → Q (.panic c) a w) :
    ∀ (fuel : Nat) (listed : Array Bool) (a : Act) (w : World), ordered md ops E i = true → Closed md ops listed →
      (∀ j oj, ops[j]? = some oj → j ≠ i → listed.getD j true = false → (∀ e ∈ oj.after, Region.binds md e = true → e.on ≠ i) → oi.apart ops oj = true) →
      i ∈ Region.ready md ops listed → YieldsIf P ops (G.rel w0) oi v a → G.rel w0 w →
      wpAnyE E G P md ops Q fuel (listed.setIfInBounds i true) (a.put oi.dst v) w → wpAnyE E G P md ops Q (fuel + 1) listed a w := by
  intro fuel
  induction fuel with
  | zero =>
    intro listed a w _ _ _ hr hy hS H
    refine ⟨fun h => (by rw [h] at hr; cases hr), fun j hj => ?_⟩
    by_cases hji : j = i
    · subst hji; exact hy.wpOp hi hS ⟨.inl (G.refl w), H⟩
    · have h := ready_mono hj hji
      rw [H.1] at h
      cases h
  | succ fuel ih =>
    intro listed a w hor hcl hfree hr hy hS H
    refine ⟨fun h => (by rw [h] at hr; cases hr), fun j hj => ?_⟩
    by_cases hji : j = i
    · subst hji; exact hy.wpOp hi hS ⟨.inl (G.refl w), H⟩
    · have h1 := H.2 j (ready_mono hj hji)
      obtain ⟨hjun, oj, hoj, hall⟩ := mem_ready.1 hj
      have hnot : ∀ e ∈ oj.after, Region.binds md e = true → e.on ≠ i := fun e he hb heq => by
        have h1 := hall e he hb
        have h0 := (mem_ready.1 hr).1
        rw [heq] at h1
        rcases Nat.lt_or_ge i listed.size with h' | h'
        · simp [h'] at h0 h1; rw [h0] at h1; cases h1
        · simp [Array.getElem?_eq_none h'] at h1
      have h2 := wpOp_putIf hoj (hfree j oj hoj hji hjun hnot) (fun cs b => hsel i oi cs b hi) (fun cs b => hsel j oj cs b hoj) hQ hy h1
      have hfree' : ∀ k ok, ops[k]? = some ok → k ≠ i → (listed.setIfInBounds j true).getD k true = false →
          (∀ e ∈ ok.after, Region.binds md e = true → e.on ≠ i) → oi.apart ops ok = true := fun k ok hk hki hun hno => by
        refine hfree k ok hk hki ?_ hno
        by_cases hjk : j = k
        · subst hjk; exact hjun
        · rw [getD_set_ne true hjk] at hun; exact hun
      refine wpOp_mono (fun a' w' h3 => ?_) h2
      have hG : G.rel w w' := h3.2.1.elim id fun h => (ordered_alone hcl hor h hr hj hji).elim
      refine ⟨.inl hG, ih (listed.setIfInBounds j true) a' w' hor (closed_set hcl hj) hfree' (ready_mono hr (Ne.symm hji)) h3.1 (G.trans hS hG) ?_⟩
      rw [Array.setIfInBounds_comm _ _ hji]
      exact h3.2.2

/-- May these be taken first, one after the other? -/
def segOkE (md : Region.Mode) (ops : Array Oper) (E : List Nat) : List Nat → Array Bool → Bool
  | [], _ => true
  | i :: rest, listed => ordered md ops E i && closedB md ops listed && (Region.ready md ops listed).contains i && Region.free md ops listed i && ((ops[i]?).map fun o => valued o.op).getD false && segOkE md ops E rest (listed.setIfInBounds i true)

/-- Operations that only yield values are taken first. -/
theorem wpAnyE_quiet (hs : Region.noSelect ops = true) (hQ : ∀ c (a : Act) (d : Tmp) v w, Q (.panic c) (a.put (some d) v) w → Q (.panic c) a w) :
    ∀ (seg : List Nat) (l : List Oper) (n : Nat) (listed : Array Bool) (a : Act) (w : World), seg.map (ops[·]?) = l.map some → segOkE md ops E seg listed = true →
      wpQuiet P ops (fun W => ∃ x : Later G w, W = x.to) (fun a' => wpAnyE E G P md ops Q n (seg.foldl (fun L i => L.setIfInBounds i true) listed) a' w) l a →
      wpAnyE E G P md ops Q (n + seg.length) listed a w
  | [], [], n, listed, a, w, _, _, h => h
  | [], _ :: _, _, _, _, _, hl, _, _ => by simp at hl
  | _ :: _, [], _, _, _, _, hl, _, _ => by simp at hl
  | i :: seg, o :: l, n, listed, a, w, hl, hok, h => by
    simp only [List.map_cons, List.cons.injEq] at hl
    obtain ⟨hi, hl⟩ := hl
    simp only [segOkE, Bool.and_eq_true, hi, Option.map_some, Option.getD_some] at hok
    obtain ⟨⟨⟨⟨⟨hor, hcl⟩, hr⟩, hf⟩, hv⟩, hok⟩ := hok
    have hr' : i ∈ Region.ready md ops listed := by simpa using hr
    by_cases hw : Region.wanted o (yielded ops a.tmps) = true
    · have h' : o.quiet P a (fun W => ∃ x : Later G w, W = x.to) (wpQuiet P ops (fun W => ∃ x : Later G w, W = x.to) (fun a' => wpAnyE E G P md ops Q n ((i :: seg).foldl (fun L i => L.setIfInBounds i true) listed) a' w) l) := by
        simpa [wpQuiet, hw] using h
      obtain ⟨v, h1, h2⟩ := h'
      exact wpAnyE_first w hi (Region.noSelect_spec hs) (fun c a w h => panic_put hQ c a _ _ w h) (n + seg.length) listed a w hor (closed_of hcl) (Region.free_spec hi hf) hr' (.inl ⟨hw, quiet_yields hv h1⟩) (G.refl w)
        (wpAnyE_quiet hs hQ seg l n _ _ w hl hok h2)
    · have h2 : wpQuiet P ops (fun W => ∃ x : Later G w, W = x.to) (fun a' => wpAnyE E G P md ops Q n ((i :: seg).foldl (fun L i => L.setIfInBounds i true) listed) a' w) l (a.put o.dst undef) := by
        simpa [wpQuiet, hw] using h
      exact wpAnyE_first w hi (Region.noSelect_spec hs) (fun c a w h => panic_put hQ c a _ _ w h) (n + seg.length) listed a w hor (closed_of hcl) (Region.free_spec hi hf) hr' (.inr ⟨by simpa using hw, rfl⟩) (G.refl w)
        (wpAnyE_quiet hs hQ seg l n _ _ w hl hok h2)

/-- The one operation that may come up now. -/
theorem wpAnyE_one' {i : Nat} {o : Oper} {n : Nat} {listed : Array Bool} {a : Act} {w : World} (C : World → Prop) (hC : ∀ w', C w' → G.rel w w' ∨ E.contains i = true) (hr : Region.ready md ops listed = [i]) (hi : ops[i]? = some o)
    (h : wpList P ops (Exit.then (fun a' w' => C w' ∧ wpAnyE E G P md ops Q n (listed.setIfInBounds i true) a' w') Q) [o] a w) : wpAnyE E G P md ops Q (n + 1) listed a w := by
  refine ⟨fun h0 => (by rw [h0] at hr; cases hr), fun j hj => ?_⟩
  rw [hr] at hj
  obtain rfl : j = i := by simpa using hj
  refine wpOp_mono (K := fun a' w' => C w' ∧ wpAnyE E G P md ops Q n (listed.setIfInBounds j true) a' w') (fun a' w' h => ⟨hC w' h.1, h.2⟩) ?_
  unfold wpOp
  simp only [hi]
  unfold wpList at h
  split
  · rename_i hw
    simp only [hw, if_true] at h
    rcases h with h | ⟨h1, h2⟩
    · left
      unfold Oper.wp at h ⊢
      generalize (execOp a.eval o).run P w = r at *
      cases r with
      | ok n w' => cases n <;> exact h
      | halt x w' => cases x <;> exact h
    · exact .inr ⟨h1, h2⟩
  · rename_i hw
    simp only [hw] at h
    exact h
theorem wpAnyE_one {i : Nat} {o : Oper} {n : Nat} {listed : Array Bool} {a : Act} {w : World} (hr : Region.ready md ops listed = [i]) (hi : ops[i]? = some o)
    (h : wpList P ops (Exit.then (fun a' w' => G.rel w w' ∧ wpAnyE E G P md ops Q n (listed.setIfInBounds i true) a' w') Q) [o] a w) : wpAnyE E G P md ops Q (n + 1) listed a w :=
  wpAnyE_one' (G.rel w) (fun _ h => .inl h) hr hi h

theorem wpAnyE_done {n : Nat} {listed : Array Bool} {a : Act} {w : World} (hr : Region.ready md ops listed = []) (h : Q .normal a w) : wpAnyE E G P md ops Q n listed a w := by
  cases n with
  | zero => exact ⟨hr, h⟩
  | succ n => exact ⟨fun _ => h, by rw [hr]; simp⟩

/-- The beginning. -/
theorem wp_region_E (E : List Nat) (G : Growth) {id : Nat} {l : List Oper} {a : Act} {w : World} (hm : P.follows .mixedOrders = true)
    (h : wpAnyE E G P .any l.toArray Q l.length (Array.replicate l.length false) a w.drew) : (Code.region id l.toArray true).wp P Q a w :=
  wp_region_any hm (wpAny_of_E _ _ _ _ (by simpa using h))

/-- The same two moves, the region's operations written out in a list. -/
theorem segE {L : List Oper} (hs : Region.noSelect L.toArray = true) (hQ : ∀ c (a : Act) (d : Tmp) v w, Q (.panic c) (a.put (some d) v) w → Q (.panic c) a w) (seg : List Nat) (l : List Oper) (n : Nat) {N : Nat} {listed : Array Bool} {a : Act} {w : World} (hN : N = n + seg.length)
    (hl : seg.map (fun i => L[i]?) = l.map some) (hok : segOkE md L.toArray E seg listed = true)
    (h : wpQuiet P L.toArray (fun W => ∃ x : Later G w, W = x.to) (fun a' => wpAnyE E G P md L.toArray Q n (seg.foldl (fun L i => L.setIfInBounds i true) listed) a' w) l a) : wpAnyE E G P md L.toArray Q N listed a w := by
  subst hN
  exact wpAnyE_quiet hs hQ seg l n listed a w (by simpa using hl) hok h
theorem oneE {L : List Oper} (i n : Nat) {N : Nat} {o : Oper} {listed : Array Bool} {a : Act} {w : World} (hN : N = n + 1) (hr : Region.ready md L.toArray listed = [i]) (hi : L[i]? = some o)
    (h : wpList P L.toArray (Exit.then (fun a' w' => G.rel w w' ∧ wpAnyE E G P md L.toArray Q n (listed.setIfInBounds i true) a' w') Q) [o] a w) : wpAnyE E G P md L.toArray Q N listed a w := by
  subst hN
  exact wpAnyE_one hr (by simpa using hi) h
/-- An operation that all others precede or follow may do what it will. -/
theorem lateE {L : List Oper} (i n : Nat) {N : Nat} {o : Oper} {listed : Array Bool} {a : Act} {w : World} (hN : N = n + 1) (hr : Region.ready md L.toArray listed = [i]) (hlate : E.contains i = true) (hi : L[i]? = some o)
    (h : wpList P L.toArray (Exit.then (fun a' w' => True ∧ wpAnyE E G P md L.toArray Q n (listed.setIfInBounds i true) a' w') Q) [o] a w) : wpAnyE E G P md L.toArray Q N listed a w := by
  subst hN
  exact wpAnyE_one' (fun _ => True) (fun _ _ => .inr hlate) hr (by simpa using hi) h
theorem twoE {L : List Oper} (i j n : Nat) {N : Nat} {o p : Oper} {listed : Array Bool} {a : Act} {w : World} (hN : N = n + 1) (hr : Region.ready md L.toArray listed = [i, j]) (hi : L[i]? = some o) (hj : L[j]? = some p)
    (h1 : wpList P L.toArray (Exit.then (fun a' w' => G.rel w w' ∧ wpAnyE E G P md L.toArray Q n (listed.setIfInBounds i true) a' w') Q) [o] a w)
    (h2 : wpList P L.toArray (Exit.then (fun a' w' => G.rel w w' ∧ wpAnyE E G P md L.toArray Q n (listed.setIfInBounds j true) a' w') Q) [p] a w) : wpAnyE E G P md L.toArray Q N listed a w := by
  subst hN
  refine ⟨fun h0 => (by rw [h0] at hr; cases hr), fun k hk => ?_⟩
  rw [hr] at hk
  rcases List.mem_cons.1 hk with rfl | hk
  · exact wpOp_mono (fun a' w' h => ⟨.inl h.1, h.2⟩) (wpOp_of_list (by simpa using hi) h1)
  · obtain rfl : k = j := by simpa using hk
    exact wpOp_mono (fun a' w' h => ⟨.inl h.1, h.2⟩) (wpOp_of_list (by simpa using hj) h2)
theorem threeE {L : List Oper} (i j l n : Nat) {N : Nat} {o p q : Oper} {listed : Array Bool} {a : Act} {w : World} (hN : N = n + 1) (hr : Region.ready md L.toArray listed = [i, j, l]) (hi : L[i]? = some o) (hj : L[j]? = some p) (hl : L[l]? = some q)
    (h1 : wpList P L.toArray (Exit.then (fun a' w' => G.rel w w' ∧ wpAnyE E G P md L.toArray Q n (listed.setIfInBounds i true) a' w') Q) [o] a w)
    (h2 : wpList P L.toArray (Exit.then (fun a' w' => G.rel w w' ∧ wpAnyE E G P md L.toArray Q n (listed.setIfInBounds j true) a' w') Q) [p] a w)
    (h3 : wpList P L.toArray (Exit.then (fun a' w' => G.rel w w' ∧ wpAnyE E G P md L.toArray Q n (listed.setIfInBounds l true) a' w') Q) [q] a w) : wpAnyE E G P md L.toArray Q N listed a w := by
  subst hN
  refine ⟨fun h0 => (by rw [h0] at hr; cases hr), fun k hk => ?_⟩
  rw [hr] at hk
  rcases List.mem_cons.1 hk with rfl | hk
  · exact wpOp_mono (fun a' w' h => ⟨.inl h.1, h.2⟩) (wpOp_of_list (by simpa using hi) h1)
  · rcases List.mem_cons.1 hk with rfl | hk
    · exact wpOp_mono (fun a' w' h => ⟨.inl h.1, h.2⟩) (wpOp_of_list (by simpa using hj) h2)
    · obtain rfl : k = l := by simpa using hk
      exact wpOp_mono (fun a' w' h => ⟨.inl h.1, h.2⟩) (wpOp_of_list (by simpa using hl) h3)
/-- Nothing is asked of memory: for operations that read none. -/
def freeG : Growth := ⟨fun _ _ => True, fun _ => trivial, fun _ _ => trivial⟩
theorem toFree {E' : List Nat} : ∀ {n : Nat} {listed : Array Bool} {a : Act} {w : World}, wpAnyE E G P md ops Q n listed a w → wpAnyE E' freeG P md ops Q n listed a w
  | 0, _, _, _, h => h
  | _ + 1, _, _, _, h => ⟨h.1, fun i hi => wpOp_mono (fun _ _ h' => ⟨.inl trivial, toFree h'.2⟩) (h.2 i hi)⟩
end
end Go.Gar
