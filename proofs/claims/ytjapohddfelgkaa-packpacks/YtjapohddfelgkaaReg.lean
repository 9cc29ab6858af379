/-
  A statement whose operations Go may carry out in more than one order, where each of them only makes memory grow: one walk, in an order of the prover's choice, serves every order. Of no program; a tool for the walks.
-/
import Derived.OrdersHeld
import Derived.BigQuiet
import Derived.WalkKit
set_option maxRecDepth 100000
namespace Go.Gar
open Go.RowKit

/-- How memory may turn from one operation to the next. -/
structure Growth where
  rel : World → World → Prop
  refl : ∀ w, rel w w
  trans : ∀ {a b c}, rel a b → rel b c → rel a c

/-- A world to which w may have grown. -/
structure Later (G : Growth) (w : World) where
  to : World
  grown : G.rel w to
instance (G : Growth) (w : World) : Nonempty (Later G w) := ⟨⟨w, G.refl w⟩⟩

/-- Every old block stays as it was. -/
def grows : Growth := ⟨fun w w' => Below w.heap.size w w', fun w => Below.refl _ w, fun h k => h.trans (k.mono h.size)⟩

section
variable {G : Growth} {P : Program} {ops : Array Oper} {Q : Exit → Act → World → Prop} {md : Region.Mode}

/-- Must operation i come before operation j? (as far as a few edges in a row tell) -/
def reach (md : Region.Mode) (ops : Array Oper) : Nat → Nat → Nat → Bool
  | 0, _, _ => false
  | f + 1, i, j => ((ops[j]?).map fun oj => oj.after.any (fun e => Region.binds md e && e.on == i) || oj.after.any (fun e => Region.binds md e && reach md ops f i e.on)).getD false
/-- With an operation all that must come before it is listed. -/
def closedB (md : Region.Mode) (ops : Array Oper) (listed : Array Bool) : Bool :=
  (List.range ops.size).all fun k => !listed.getD k false || ((ops[k]?).map (·.after.all fun e => !Region.binds md e || listed.getD e.on false)).getD true
def Closed (md : Region.Mode) (ops : Array Oper) (listed : Array Bool) : Prop :=
  ∀ k ok, ops[k]? = some ok → listed.getD k false = true → ∀ e ∈ ok.after, Region.binds md e = true → listed.getD e.on false = true
theorem closed_of {md : Region.Mode} {ops : Array Oper} {listed : Array Bool} (h : closedB md ops listed = true) : Closed md ops listed := by
  intro k ok hk hl e he hb
  simp only [closedB, List.all_eq_true, List.mem_range] at h
  have h1 := h k (Array.getElem?_eq_some_iff.1 hk).1
  rw [hk, hl, Option.map_some, Option.getD_some] at h1
  have h2 : ok.after.all (fun e => !Region.binds md e || listed.getD e.on false) = true := by simpa using h1
  rw [Array.all_eq_true_iff_forall_mem] at h2
  have h3 := h2 e he
  rw [hb] at h3
  simpa using h3
theorem closed_set {md : Region.Mode} {ops : Array Oper} {listed : Array Bool} {j : Nat} (h : Closed md ops listed) (hj : j ∈ Region.ready md ops listed) : Closed md ops (listed.setIfInBounds j true) := by
  have up : ∀ x, listed.getD x false = true → (listed.setIfInBounds j true).getD x false = true := by
    intro x hx
    by_cases hxj : j = x
    · subst hxj
      have : j < listed.size := by
        rcases Nat.lt_or_ge j listed.size with h' | h'
        · exact h'
        · simp [Array.getElem?_eq_none h'] at hx
      simp [this]
    · rw [getD_set_ne false hxj]; exact hx
  intro k ok hk hl e he hb
  by_cases hkj : j = k
  · subst hkj
    obtain ⟨_, oj, hoj, hall⟩ := mem_ready.1 hj
    rw [hoj] at hk
    injection hk with hk
    subst hk
    exact up _ (by simpa using hall e he hb)
  · rw [getD_set_ne false hkj] at hl
    exact up _ (h k ok hk hl e he hb)
theorem reach_listed {md : Region.Mode} {ops : Array Oper} {listed : Array Bool} (hc : Closed md ops listed) : ∀ (f i j : Nat) (oj : Oper), ops[j]? = some oj → (∀ e ∈ oj.after, Region.binds md e = true → listed.getD e.on false = true) → reach md ops f i j = true → listed.getD i false = true
  | 0, _, _, _, _, _, h => by cases h
  | f + 1, i, j, oj, hoj, ha, h => by
    rw [reach, hoj, Option.map_some, Option.getD_some, Bool.or_eq_true] at h
    rcases h with h | h
    · obtain ⟨x, hx, h1⟩ := Array.any_eq_true.1 h
      rw [Bool.and_eq_true, beq_iff_eq] at h1
      rw [← h1.2]
      exact ha _ (Array.getElem_mem hx) h1.1
    · obtain ⟨x, hx, h1⟩ := Array.any_eq_true.1 h
      rw [Bool.and_eq_true] at h1
      have hl := ha _ (Array.getElem_mem hx) h1.1
      cases ho : ops[oj.after[x].on]? with
      | none =>
        cases f with
        | zero => exact absurd h1.2 (by simp [reach])
        | succ f => exact absurd h1.2 (by simp [reach, ho])
      | some o2 => exact reach_listed hc f i _ o2 ho (fun e he hb => hc _ _ ho hl e he hb) h1.2
/-- Every other operation must come before this one, or must come after it. -/
def late (md : Region.Mode) (ops : Array Oper) (j : Nat) : Bool :=
  (List.range ops.size).all fun k => k == j || reach md ops 12 k j || reach md ops 12 j k
theorem late_alone {md : Region.Mode} {ops : Array Oper} {listed : Array Bool} {i j : Nat} (hc : Closed md ops listed) (h : late md ops j = true) (hi : i ∈ Region.ready md ops listed) (hj : j ∈ Region.ready md ops listed) (hne : j ≠ i) : False := by
  obtain ⟨hju, oj, hoj, hja⟩ := mem_ready.1 hj
  obtain ⟨hiu, oi, hoi, hia⟩ := mem_ready.1 hi
  simp only [late, List.all_eq_true, List.mem_range] at h
  have h1 := h i (Array.getElem?_eq_some_iff.1 hoi).1
  simp only [Bool.or_eq_true, beq_iff_eq] at h1
  have un : ∀ k, listed.getD k true = false → listed.getD k false = true → False := by
    intro k hu h2
    rcases Nat.lt_or_ge k listed.size with h' | h'
    · simp [h'] at h2 hu
      rw [hu] at h2; cases h2
    · simp [Array.getElem?_eq_none h'] at h2
  rcases h1 with (h1 | h1) | h1
  · exact hne h1.symm
  · exact un i (by simpa using hiu) (reach_listed hc 12 i j oj hoj (fun e he hb => by simpa using hja e he hb) h1)
  · exact un j (by simpa using hju) (reach_listed hc 12 j i oi hoi (fun e he hb => by simpa using hia e he hb) h1)

/-- Whatever order is picked from here on, each operation letting memory grow. -/
def wpAnyG (G : Growth) (P : Program) (md : Region.Mode) (ops : Array Oper) (Q : Exit → Act → World → Prop) : Nat → Array Bool → Act → World → Prop
  | 0, listed, a, w => Region.ready md ops listed = [] ∧ Q .normal a w
  | fuel + 1, listed, a, w =>
    (Region.ready md ops listed = [] → Q .normal a w) ∧
    ∀ i ∈ Region.ready md ops listed, wpOp P ops Q i (fun a' w' => (G.rel w w' ∨ late md ops i = true) ∧ wpAnyG G P md ops Q fuel (listed.setIfInBounds i true) a' w') a w

theorem wpAny_of_G : ∀ (fuel : Nat) (listed : Array Bool) (a : Act) (w : World), wpAnyG G P md ops Q fuel listed a w → wpAny P md ops Q fuel listed a w
  | 0, _, _, _, h => h
  | fuel + 1, _, _, _, h => ⟨h.1, fun i hi => wpOp_mono (fun a' w' h' => wpAny_of_G fuel _ a' w' h'.2) (h.2 i hi)⟩

theorem wpAnyG_first {i : Nat} {oi : Oper} {v : Value} (w0 : World) (hi : ops[i]? = some oi) (hsel : ∀ (j : Nat) (o : Oper) cs b, ops[j]? = some o → o.op ≠ .select cs b)
    (hQ : ∀ c a w, Q (.panic c) (a.put oi.dst v) w → Q (.panic c) a w) :
    ∀ (fuel : Nat) (listed : Array Bool) (a : Act) (w : World), Closed md ops listed →
      (∀ j oj, ops[j]? = some oj → j ≠ i → listed.getD j true = false → (∀ e ∈ oj.after, Region.binds md e = true → e.on ≠ i) → oi.apart ops oj = true) →
      i ∈ Region.ready md ops listed → YieldsIf P ops (G.rel w0) oi v a → G.rel w0 w →
      wpAnyG G P md ops Q fuel (listed.setIfInBounds i true) (a.put oi.dst v) w → wpAnyG G P md ops Q (fuel + 1) listed a w := by
  intro fuel
  induction fuel with
  | zero =>
    intro listed a w _ _ hr hy hS H
    refine ⟨fun h => (by rw [h] at hr; cases hr), fun j hj => ?_⟩
    by_cases hji : j = i
    · subst hji; exact hy.wpOp hi hS ⟨.inl (G.refl w), H⟩
    · have h := ready_mono hj hji
      rw [H.1] at h
      cases h
  | succ fuel ih =>
    intro listed a w hcl hfree hr hy hS H
    refine ⟨fun h => (by rw [h] at hr; cases hr), fun j hj => ?_⟩
    by_cases hji : j = i
    · subst hji; exact hy.wpOp hi hS ⟨.inl (G.refl w), H⟩
    · have h1 := H.2 j (ready_mono hj hji)
      obtain ⟨hjun, oj, hoj, hall⟩ := mem_ready.1 hj
      have hnot : ∀ e ∈ oj.after, Region.binds md e = true → e.on ≠ i := fun e he hb heq => by
        have h1 := hall e he hb
        have h0 := (mem_ready.1 hr).1
        rw [heq] at h1
        rcases Nat.lt_or_ge i listed.size with h' | h'
        · simp [h'] at h0 h1; rw [h0] at h1; cases h1
        · simp [Array.getElem?_eq_none h'] at h1
      have h2 := wpOp_putIf hoj (hfree j oj hoj hji hjun hnot) (fun cs b => hsel i oi cs b hi) (fun cs b => hsel j oj cs b hoj) hQ hy h1
      have hfree' : ∀ k ok, ops[k]? = some ok → k ≠ i → (listed.setIfInBounds j true).getD k true = false →
          (∀ e ∈ ok.after, Region.binds md e = true → e.on ≠ i) → oi.apart ops ok = true := fun k ok hk hki hun hno => by
        refine hfree k ok hk hki ?_ hno
        by_cases hjk : j = k
        · subst hjk; exact hjun
        · rw [getD_set_ne true hjk] at hun; exact hun
      refine wpOp_mono (fun a' w' h3 => ?_) h2
      have hG : G.rel w w' := h3.2.1.elim id fun h => (late_alone hcl h hr hj hji).elim
      refine ⟨.inl hG, ih (listed.setIfInBounds j true) a' w' (closed_set hcl hj) hfree' (ready_mono hr (Ne.symm hji)) h3.1 (G.trans hS hG) ?_⟩
      rw [Array.setIfInBounds_comm _ _ hji]
      exact h3.2.2

/-- Operations that yield a value and nothing else, if they do not panic. -/
def valued : Op → Bool
  | .move _ | .assign _ | .pick .. | .binOp .. | .unOp .. | .convert .. | .load .. | .slice .. | .indexAddr .. | .fieldAddr .. | .field .. | .index .. | .extract .. | .nilCheck .. => true
  | .call { callee := .builtin .len, .. } => true
  | _ => false

theorem valued_run {o : Oper} (h : valued o.op = true) (ρ : Operand → Value) (w : World) : (∃ v w', (execOp ρ o).run P w = .ok (.value v) w') ∨ ∃ x w', (execOp ρ o).run P w = .halt x w' := by
  have hv : ∀ s : Sem Value, (∃ v w', (do pure (Next.value (← s)) : Sem Next).run P w = .ok (.value v) w') ∨ ∃ x w', (do pure (Next.value (← s)) : Sem Next).run P w = .halt x w' := by
    intro s
    rw [Sem.run_bind]
    cases hs : s.run P w with
    | ok v w' => exact .inl ⟨v, w', by simp [Result.andThen]⟩
    | halt x w' => exact .inr ⟨x, w', by simp [Result.andThen]⟩
  unfold execOp
  cases ho : o.op <;> simp only [ho, valued] at h ⊢
  all_goals first | exact hv _ | exact .inl ⟨_, _, rfl⟩ | (cases h; done) | skip
  · rename_i c x y
    rw [Sem.run_bind]
    cases hs : (asBool (ρ c)).run P w with
    | ok v w' => exact .inl ⟨if v = true then ρ x else ρ y, w', by simp [Result.andThen]⟩
    | halt x w' => exact .inr ⟨x, w', by simp [Result.andThen]⟩
  · rename_i x
    have hp : ∃ y w', (runtimePanic .nilDeref : Sem Next).run P w = .halt y w' := by
      simp [runtimePanic]
    split
    · exact .inr hp
    · exact .inr hp
    · exact .inr hp
    · split
      · exact .inr hp
      · rename_i t wv
        have hb : ∀ {α : Type} (s : Sem α) (f : α → Sem Next), (∀ a w, (∃ v w', (f a).run P w = .ok (.value v) w') ∨ ∃ y w', (f a).run P w = .halt y w') → ∀ w, (∃ v w', (s >>= f).run P w = .ok (.value v) w') ∨ ∃ y w', (s >>= f).run P w = .halt y w' := by
          intro α s f hf w
          rw [Sem.run_bind]
          cases hs : s.run P w with
          | ok v w' => exact hf v w'
          | halt y w' => exact .inr ⟨y, w', rfl⟩
        refine hb _ _ (fun _ w => ?_) w
        refine hb _ _ (fun _ w => ?_) w
        split
        · exact hb _ _ (fun _ w => .inl ⟨_, _, rfl⟩) w
        · exact .inl ⟨_, _, rfl⟩
      · exact .inl ⟨_, _, rfl⟩
    · exact .inl ⟨_, _, rfl⟩
  · rename_i c
    obtain ⟨callee, args, argTypes⟩ := c
    cases callee with
    | builtin b =>
      cases b <;> simp at h
      simp only [resolve, invoke, builtin, Sem.run_bind, Sem.run_pure, Result.andThen_ok]
      cases hs : (Builtin.len_ argTypes o.type (Array.map ρ args)).run P w with
      | ok v w' => exact .inl ⟨v, w', by simp [Result.andThen]⟩
      | halt x w' => exact .inr ⟨x, w', by simp [Result.andThen]⟩
    | _ => simp at h

theorem quiet_yields {o : Oper} {a : Act} {w : World} {v : Value} (hv : valued o.op = true) (h : ∀ W, (∃ x : Later G w, W = x.to) → o.quietAt P a (fun W => ∃ x : Later G w, W = x.to) W v) :
    ∀ W, G.rel w W → (execOp a.eval o).run P W = .ok (.value v) W := by
  intro W hW
  have h1 := h W ⟨⟨W, hW⟩, rfl⟩
  unfold Oper.quietAt at h1
  rcases valued_run (P := P) hv a.eval W with ⟨u, w', e⟩ | ⟨x, w', e⟩
  · rw [e] at h1 ⊢
    obtain ⟨h2, h3⟩ := h1
    rw [h2, h3]
  · rw [e] at h1
    exact h1.elim

/-- May these be taken first, one after the other? -/
def segOk (md : Region.Mode) (ops : Array Oper) : List Nat → Array Bool → Bool
  | [], _ => true
  | i :: rest, listed => closedB md ops listed && (Region.ready md ops listed).contains i && Region.free md ops listed i && ((ops[i]?).map fun o => valued o.op).getD false && segOk md ops rest (listed.setIfInBounds i true)

theorem panic_put (hQ : ∀ c (a : Act) (d : Tmp) v w, Q (.panic c) (a.put (some d) v) w → Q (.panic c) a w) (c : List PanicEntry) (a : Act) (d : Option Tmp) (v : Value) (w : World) (h : Q (.panic c) (a.put d v) w) : Q (.panic c) a w := by
  cases d with
  | none => exact h
  | some d => exact hQ c a d v w h

/-- Operations that only yield values are taken first. -/
theorem wpAnyG_quiet (hs : Region.noSelect ops = true) (hQ : ∀ c (a : Act) (d : Tmp) v w, Q (.panic c) (a.put (some d) v) w → Q (.panic c) a w) :
    ∀ (seg : List Nat) (l : List Oper) (n : Nat) (listed : Array Bool) (a : Act) (w : World), seg.map (ops[·]?) = l.map some → segOk md ops seg listed = true →
      wpQuiet P ops (fun W => ∃ x : Later G w, W = x.to) (fun a' => wpAnyG G P md ops Q n (seg.foldl (fun L i => L.setIfInBounds i true) listed) a' w) l a →
      wpAnyG G P md ops Q (n + seg.length) listed a w
  | [], [], n, listed, a, w, _, _, h => h
  | [], _ :: _, _, _, _, _, hl, _, _ => by simp at hl
  | _ :: _, [], _, _, _, _, hl, _, _ => by simp at hl
  | i :: seg, o :: l, n, listed, a, w, hl, hok, h => by
    simp only [List.map_cons, List.cons.injEq] at hl
    obtain ⟨hi, hl⟩ := hl
    simp only [segOk, Bool.and_eq_true, hi, Option.map_some, Option.getD_some] at hok
    obtain ⟨⟨⟨⟨hcl, hr⟩, hf⟩, hv⟩, hok⟩ := hok
    have hr' : i ∈ Region.ready md ops listed := by simpa using hr
    by_cases hw : Region.wanted o (yielded ops a.tmps) = true
    · have h' : o.quiet P a (fun W => ∃ x : Later G w, W = x.to) (wpQuiet P ops (fun W => ∃ x : Later G w, W = x.to) (fun a' => wpAnyG G P md ops Q n ((i :: seg).foldl (fun L i => L.setIfInBounds i true) listed) a' w) l) := by
        simpa [wpQuiet, hw] using h
      obtain ⟨v, h1, h2⟩ := h'
      exact wpAnyG_first w hi (Region.noSelect_spec hs) (fun c a w h => panic_put hQ c a _ _ w h) (n + seg.length) listed a w (closed_of hcl) (Region.free_spec hi hf) hr' (.inl ⟨hw, quiet_yields hv h1⟩) (G.refl w)
        (wpAnyG_quiet hs hQ seg l n _ _ w hl hok h2)
    · have h2 : wpQuiet P ops (fun W => ∃ x : Later G w, W = x.to) (fun a' => wpAnyG G P md ops Q n ((i :: seg).foldl (fun L i => L.setIfInBounds i true) listed) a' w) l (a.put o.dst undef) := by
        simpa [wpQuiet, hw] using h
      exact wpAnyG_first w hi (Region.noSelect_spec hs) (fun c a w h => panic_put hQ c a _ _ w h) (n + seg.length) listed a w (closed_of hcl) (Region.free_spec hi hf) hr' (.inr ⟨by simpa using hw, rfl⟩) (G.refl w)
        (wpAnyG_quiet hs hQ seg l n _ _ w hl hok h2)

/-- The one operation that may come up now. -/
theorem wpAnyG_one' {i : Nat} {o : Oper} {n : Nat} {listed : Array Bool} {a : Act} {w : World} (C : World → Prop) (hC : ∀ w', C w' → G.rel w w' ∨ late md ops i = true) (hr : Region.ready md ops listed = [i]) (hi : ops[i]? = some o)
    (h : wpList P ops (Exit.then (fun a' w' => C w' ∧ wpAnyG G P md ops Q n (listed.setIfInBounds i true) a' w') Q) [o] a w) : wpAnyG G P md ops Q (n + 1) listed a w := by
  refine ⟨fun h0 => (by rw [h0] at hr; cases hr), fun j hj => ?_⟩
  rw [hr] at hj
  obtain rfl : j = i := by simpa using hj
  refine wpOp_mono (K := fun a' w' => C w' ∧ wpAnyG G P md ops Q n (listed.setIfInBounds j true) a' w') (fun a' w' h => ⟨hC w' h.1, h.2⟩) ?_
  unfold wpOp
  simp only [hi]
  unfold wpList at h
  split
  · rename_i hw
    simp only [hw, if_true] at h
    rcases h with h | ⟨h1, h2⟩
    · left
      unfold Oper.wp at h ⊢
      generalize (execOp a.eval o).run P w = r at *
      cases r with
      | ok n w' => cases n <;> exact h
      | halt x w' => cases x <;> exact h
    · exact .inr ⟨h1, h2⟩
  · rename_i hw
    simp only [hw] at h
    exact h
theorem wpAnyG_one {i : Nat} {o : Oper} {n : Nat} {listed : Array Bool} {a : Act} {w : World} (hr : Region.ready md ops listed = [i]) (hi : ops[i]? = some o)
    (h : wpList P ops (Exit.then (fun a' w' => G.rel w w' ∧ wpAnyG G P md ops Q n (listed.setIfInBounds i true) a' w') Q) [o] a w) : wpAnyG G P md ops Q (n + 1) listed a w :=
  wpAnyG_one' (G.rel w) (fun _ h => .inl h) hr hi h

theorem wpAnyG_done {n : Nat} {listed : Array Bool} {a : Act} {w : World} (hr : Region.ready md ops listed = []) (h : Q .normal a w) : wpAnyG G P md ops Q n listed a w := by
  cases n with
  | zero => exact ⟨hr, h⟩
  | succ n => exact ⟨fun _ => h, by rw [hr]; simp⟩

/-- The beginning. -/
theorem wp_region_G (G : Growth) {id : Nat} {l : List Oper} {a : Act} {w : World} (hm : P.follows .mixedOrders = true)
    (h : wpAnyG G P .any l.toArray Q l.length (Array.replicate l.length false) a w.drew) : (Code.region id l.toArray true).wp P Q a w :=
  wp_region_any hm (wpAny_of_G _ _ _ _ (by simpa using h))

/-- The same two moves, the region's operations written out in a list. -/
theorem segG {L : List Oper} (hs : Region.noSelect L.toArray = true) (hQ : ∀ c (a : Act) (d : Tmp) v w, Q (.panic c) (a.put (some d) v) w → Q (.panic c) a w) (seg : List Nat) (l : List Oper) (n : Nat) {N : Nat} {listed : Array Bool} {a : Act} {w : World} (hN : N = n + seg.length)
    (hl : seg.map (fun i => L[i]?) = l.map some) (hok : segOk md L.toArray seg listed = true)
    (h : wpQuiet P L.toArray (fun W => ∃ x : Later G w, W = x.to) (fun a' => wpAnyG G P md L.toArray Q n (seg.foldl (fun L i => L.setIfInBounds i true) listed) a' w) l a) : wpAnyG G P md L.toArray Q N listed a w := by
  subst hN
  exact wpAnyG_quiet hs hQ seg l n listed a w (by simpa using hl) hok h
theorem oneG {L : List Oper} (i n : Nat) {N : Nat} {o : Oper} {listed : Array Bool} {a : Act} {w : World} (hN : N = n + 1) (hr : Region.ready md L.toArray listed = [i]) (hi : L[i]? = some o)
    (h : wpList P L.toArray (Exit.then (fun a' w' => G.rel w w' ∧ wpAnyG G P md L.toArray Q n (listed.setIfInBounds i true) a' w') Q) [o] a w) : wpAnyG G P md L.toArray Q N listed a w := by
  subst hN
  exact wpAnyG_one hr (by simpa using hi) h
/-- An operation that all others precede or follow may do what it will. -/
theorem lateG {L : List Oper} (i n : Nat) {N : Nat} {o : Oper} {listed : Array Bool} {a : Act} {w : World} (hN : N = n + 1) (hr : Region.ready md L.toArray listed = [i]) (hlate : late md L.toArray i = true) (hi : L[i]? = some o)
    (h : wpList P L.toArray (Exit.then (fun a' w' => True ∧ wpAnyG G P md L.toArray Q n (listed.setIfInBounds i true) a' w') Q) [o] a w) : wpAnyG G P md L.toArray Q N listed a w := by
  subst hN
  exact wpAnyG_one' (fun _ => True) (fun _ _ => .inr hlate) hr (by simpa using hi) h
end
end Go.Gar
