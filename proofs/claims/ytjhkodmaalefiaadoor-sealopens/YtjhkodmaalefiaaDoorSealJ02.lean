/-
  A statement whose operations Go may carry out in more than one order, where each of them only makes memory grow: one walk, in an order of the prover's choice, serves every order. Of no program; a tool for the walks. Arrays of bytes as values: compared, and loaded whole. Of no program. Arrays by value at an offset of a block, boxed, indexed: laws at the level of a list of operations. Of no program. Whole arrays (made, loaded, stored) and copy, within a fence: laws at the level of a list of operations. Of no program.
-/
import Derived.OrdersHeld
import Derived.BigQuiet
import Derived.WalkKit
import Derived.Test.YtjhkodmaalefiaaDoorSealJ01
import Derived.ChangeKeysEq
import Derived.Deep.MidRow
import Derived.OwnWalkIn
set_option maxRecDepth 100000
namespace Go.Gar
open Go.RowKit

/-- How memory may turn from one operation to the next. -/
structure Growth where
  rel : World → World → Prop
  refl : ∀ w, rel w w
  trans : ∀ {a b c}, rel a b → rel b c → rel a c

/-- A world to which w may have grown. -/
structure Later (G : Growth) (w : World) where
  to : World
  grown : G.rel w to
instance (G : Growth) (w : World) : Nonempty (Later G w) := ⟨⟨w, G.refl w⟩⟩

/-- Every old block stays as it was. -/
def grows : Growth := ⟨fun w w' => Below w.heap.size w w', fun w => Below.refl _ w, fun h k => h.trans (k.mono h.size)⟩

section
variable {G : Growth} {P : Program} {ops : Array Oper} {Q : Exit → Act → World → Prop} {md : Region.Mode}

/-- Must operation i come before operation j? (as far as a few edges in a row tell) -/
def reach (md : Region.Mode) (ops : Array Oper) : Nat → Nat → Nat → Bool
  | 0, _, _ => false
  | f + 1, i, j => ((ops[j]?).map fun oj => oj.after.any (fun e => Region.binds md e && e.on == i) || oj.after.any (fun e => Region.binds md e && reach md ops f i e.on)).getD false
/-- With an operation all that must come before it is listed. -/
def closedB (md : Region.Mode) (ops : Array Oper) (listed : Array Bool) : Bool :=
  (List.range ops.size).all fun k => !listed.getD k false || ((ops[k]?).map (·.after.all fun e => !Region.binds md e || listed.getD e.on false)).getD true
def Closed (md : Region.Mode) (ops : Array Oper) (listed : Array Bool) : Prop :=
  ∀ k ok, ops[k]? = some ok → listed.getD k false = true → ∀ e ∈ ok.after, Region.binds md e = true → listed.getD e.on false = true
theorem closed_of {md : Region.Mode} {ops : Array Oper} {listed : Array Bool} (h : closedB md ops listed = true) : Closed md ops listed := by
  intro k ok hk hl e he hb
  simp only [closedB, List.all_eq_true, List.mem_range] at h
  have h1 := h k (Array.getElem?_eq_some_iff.1 hk).1
  rw [hk, hl, Option.map_some, Option.getD_some] at h1
  have h2 : ok.after.all (fun e => !Region.binds md e || listed.getD e.on false) = true := by simpa using h1
  rw [Array.all_eq_true_iff_forall_mem] at h2
  have h3 := h2 e he
  rw [hb] at h3
  simpa using h3
theorem closed_set {md : Region.Mode} {ops : Array Oper} {listed : Array Bool} {j : Nat} (h : Closed md ops listed) (hj : j ∈ Region.ready md ops listed) : Closed md ops (listed.setIfInBounds j true) := by
  have up : ∀ x, listed.getD x false = true → (listed.setIfInBounds j true).getD x false = true := by
    intro x hx
    by_cases hxj : j = x
    · subst hxj
      have : j < listed.size := by
        rcases Nat.lt_or_ge j listed.size with h' | h'
        · exact h'
        · simp [Array.getElem?_eq_none h'] at hx
      simp [this]
    · rw [getD_set_ne false hxj]; exact hx
  intro k ok hk hl e he hb
  by_cases hkj : j = k
  · subst hkj
    obtain ⟨_, oj, hoj, hall⟩ := mem_ready.1 hj
    rw [hoj] at hk
    injection hk with hk
    subst hk
    exact up _ (by simpa using hall e he hb)
  · rw [getD_set_ne false hkj] at hl
    exact up _ (h k ok hk hl e he hb)
theorem reach_listed {md : Region.Mode} {ops : Array Oper} {listed : Array Bool} (hc : Closed md ops listed) : ∀ (f i j : Nat) (oj : Oper), ops[j]? = some oj → (∀ e ∈ oj.after, Region.binds md e = true → listed.getD e.on false = true) → reach md ops f i j = true → listed.getD i false = true
  | 0, _, _, _, _, _, h => by cases h
  | f + 1, i, j, oj, hoj, ha, h => by
    rw [reach, hoj, Option.map_some, Option.getD_some, Bool.or_eq_true] at h
    rcases h with h | h
    · obtain ⟨x, hx, h1⟩ := Array.any_eq_true.1 h
      rw [Bool.and_eq_true, beq_iff_eq] at h1
      rw [← h1.2]
      exact ha _ (Array.getElem_mem hx) h1.1
    · obtain ⟨x, hx, h1⟩ := Array.any_eq_true.1 h
      rw [Bool.and_eq_true] at h1
      have hl := ha _ (Array.getElem_mem hx) h1.1
      cases ho : ops[oj.after[x].on]? with
      | none =>
        cases f with
        | zero => exact absurd h1.2 (by simp [reach])
        | succ f => exact absurd h1.2 (by simp [reach, ho])
      | some o2 => exact reach_listed hc f i _ o2 ho (fun e he hb => hc _ _ ho hl e he hb) h1.2
/-- Every other operation must come before this one, or must come after it. -/
def late (md : Region.Mode) (ops : Array Oper) (j : Nat) : Bool :=
  (List.range ops.size).all fun k => k == j || reach md ops 12 k j || reach md ops 12 j k
theorem late_alone {md : Region.Mode} {ops : Array Oper} {listed : Array Bool} {i j : Nat} (hc : Closed md ops listed) (h : late md ops j = true) (hi : i ∈ Region.ready md ops listed) (hj : j ∈ Region.ready md ops listed) (hne : j ≠ i) : False := by
  obtain ⟨hju, oj, hoj, hja⟩ := mem_ready.1 hj
  obtain ⟨hiu, oi, hoi, hia⟩ := mem_ready.1 hi
  simp only [late, List.all_eq_true, List.mem_range] at h
  have h1 := h i (Array.getElem?_eq_some_iff.1 hoi).1
  simp only [Bool.or_eq_true, beq_iff_eq] at h1
  have un : ∀ k, listed.getD k true = false → listed.getD k false = true → False := by
    intro k hu h2
    rcases Nat.lt_or_ge k listed.size with h' | h'
    · simp [h'] at h2 hu
      rw [hu] at h2; cases h2
    · simp [Array.getElem?_eq_none h'] at h2
  rcases h1 with (h1 | h1) | h1
  · exact hne h1.symm
  · exact un i (by simpa using hiu) (reach_listed hc 12 i j oj hoj (fun e he hb => by simpa using hja e he hb) h1)
  · exact un j (by simpa using hju) (reach_listed hc 12 j i oi hoi (fun e he hb => by simpa using hia e he hb) h1)

/-- Whatever order is picked from here on, each operation letting memory grow. -/
def wpAnyG (G : Growth) (P : Program) (md : Region.Mode) (ops : Array Oper) (Q : Exit → Act → World → Prop) : Nat → Array Bool → Act → World → Prop
  | 0, listed, a, w => Region.ready md ops listed = [] ∧ Q .normal a w
  | fuel + 1, listed, a, w =>
    (Region.ready md ops listed = [] → Q .normal a w) ∧
    ∀ i ∈ Region.ready md ops listed, wpOp P ops Q i (fun a' w' => (G.rel w w' ∨ late md ops i = true) ∧ wpAnyG G P md ops Q fuel (listed.setIfInBounds i true) a' w') a w

theorem wpAny_of_G : ∀ (fuel : Nat) (listed : Array Bool) (a : Act) (w : World), wpAnyG G P md ops Q fuel listed a w → wpAny P md ops Q fuel listed a w
  | 0, _, _, _, h => h
  | fuel + 1, _, _, _, h => ⟨h.1, fun i hi => wpOp_mono (fun a' w' h' => wpAny_of_G fuel _ a' w' h'.2) (h.2 i hi)⟩

theorem wpAnyG_first {i : Nat} {oi : Oper} {v : Value} (w0 : World) (hi : ops[i]? = some oi) (hsel : ∀ (j : Nat) (o : Oper) cs b, ops[j]? = some o → o.op ≠ .select cs b)
    (hQ : ∀ c a w, Q (.panic c) (a.put oi.dst v) w → Q (.panic c) a w) :
    ∀ (fuel : Nat) (listed : Array Bool) (a : Act) (w : World), Closed md ops listed →
      (∀ j oj, ops[j]? = some oj → j ≠ i → listed.getD j true = false → (∀ e ∈ oj.after, Region.binds md e = true → e.on ≠ i) → oi.apart ops oj = true) →
      i ∈ Region.ready md ops listed → YieldsIf P ops (G.rel w0) oi v a → G.rel w0 w →
      wpAnyG G P md ops Q fuel (listed.setIfInBounds i true) (a.put oi.dst v) w → wpAnyG G P md ops Q (fuel + 1) listed a w := by
  intro fuel
  induction fuel with
  | zero =>
    intro listed a w _ _ hr hy hS H
    refine ⟨fun h => (by rw [h] at hr; cases hr), fun j hj => ?_⟩
    by_cases hji : j = i
    · subst hji; exact hy.wpOp hi hS ⟨.inl (G.refl w), H⟩
    · have h := ready_mono hj hji
      rw [H.1] at h
      cases h
  | succ fuel ih =>
    intro listed a w hcl hfree hr hy hS H
    refine ⟨fun h => (by rw [h] at hr; cases hr), fun j hj => ?_⟩
    by_cases hji : j = i
    · subst hji; exact hy.wpOp hi hS ⟨.inl (G.refl w), H⟩
    · have h1 := H.2 j (ready_mono hj hji)
      obtain ⟨hjun, oj, hoj, hall⟩ := mem_ready.1 hj
      have hnot : ∀ e ∈ oj.after, Region.binds md e = true → e.on ≠ i := fun e he hb heq => by
        have h1 := hall e he hb
        have h0 := (mem_ready.1 hr).1
        rw [heq] at h1
        rcases Nat.lt_or_ge i listed.size with h' | h'
        · simp [h'] at h0 h1; rw [h0] at h1; cases h1
        · simp [Array.getElem?_eq_none h'] at h1
      have h2 := wpOp_putIf hoj (hfree j oj hoj hji hjun hnot) (fun cs b => hsel i oi cs b hi) (fun cs b => hsel j oj cs b hoj) hQ hy h1
      have hfree' : ∀ k ok, ops[k]? = some ok → k ≠ i → (listed.setIfInBounds j true).getD k true = false →
          (∀ e ∈ ok.after, Region.binds md e = true → e.on ≠ i) → oi.apart ops ok = true := fun k ok hk hki hun hno => by
        refine hfree k ok hk hki ?_ hno
        by_cases hjk : j = k
        · subst hjk; exact hjun
        · rw [getD_set_ne true hjk] at hun; exact hun
      refine wpOp_mono (fun a' w' h3 => ?_) h2
      have hG : G.rel w w' := h3.2.1.elim id fun h => (late_alone hcl h hr hj hji).elim
      refine ⟨.inl hG, ih (listed.setIfInBounds j true) a' w' (closed_set hcl hj) hfree' (ready_mono hr (Ne.symm hji)) h3.1 (G.trans hS hG) ?_⟩
      rw [Array.setIfInBounds_comm _ _ hji]
      exact h3.2.2

/-- Operations that yield a value and nothing else, if they do not panic. -/
def valued : Op → Bool
  | .move _ | .assign _ | .pick .. | .binOp .. | .unOp .. | .convert .. | .load .. | .slice .. | .indexAddr .. | .fieldAddr .. | .field .. | .index .. | .extract .. | .nilCheck .. => true
  | .call { callee := .builtin .len, .. } => true
  | _ => false

theorem valued_run {o : Oper} (h : valued o.op = true) (ρ : Operand → Value) (w : World) : (∃ v w', (execOp ρ o).run P w = .ok (.value v) w') ∨ ∃ x w', (execOp ρ o).run P w = .halt x w' := by
  have hv : ∀ s : Sem Value, (∃ v w', (do pure (Next.value (← s)) : Sem Next).run P w = .ok (.value v) w') ∨ ∃ x w', (do pure (Next.value (← s)) : Sem Next).run P w = .halt x w' := by
    intro s
    rw [Sem.run_bind]
    cases hs : s.run P w with
    | ok v w' => exact .inl ⟨v, w', by simp [Result.andThen]⟩
    | halt x w' => exact .inr ⟨x, w', by simp [Result.andThen]⟩
  unfold execOp
  cases ho : o.op <;> simp only [ho, valued] at h ⊢
  all_goals first | exact hv _ | exact .inl ⟨_, _, rfl⟩ | (cases h; done) | skip
  · rename_i c x y
    rw [Sem.run_bind]
    cases hs : (asBool (ρ c)).run P w with
    | ok v w' => exact .inl ⟨if v = true then ρ x else ρ y, w', by simp [Result.andThen]⟩
    | halt x w' => exact .inr ⟨x, w', by simp [Result.andThen]⟩
  · rename_i x
    have hp : ∃ y w', (runtimePanic .nilDeref : Sem Next).run P w = .halt y w' := by
      simp [runtimePanic]
    split
    · exact .inr hp
    · exact .inr hp
    · exact .inr hp
    · split
      · exact .inr hp
      · rename_i t wv
        have hb : ∀ {α : Type} (s : Sem α) (f : α → Sem Next), (∀ a w, (∃ v w', (f a).run P w = .ok (.value v) w') ∨ ∃ y w', (f a).run P w = .halt y w') → ∀ w, (∃ v w', (s >>= f).run P w = .ok (.value v) w') ∨ ∃ y w', (s >>= f).run P w = .halt y w' := by
          intro α s f hf w
          rw [Sem.run_bind]
          cases hs : s.run P w with
          | ok v w' => exact hf v w'
          | halt y w' => exact .inr ⟨y, w', rfl⟩
        refine hb _ _ (fun _ w => ?_) w
        refine hb _ _ (fun _ w => ?_) w
        split
        · exact hb _ _ (fun _ w => .inl ⟨_, _, rfl⟩) w
        · exact .inl ⟨_, _, rfl⟩
      · exact .inl ⟨_, _, rfl⟩
    · exact .inl ⟨_, _, rfl⟩
  · rename_i c
    obtain ⟨callee, args, argTypes⟩ := c
    cases callee with
    | builtin b =>
      cases b <;> simp at h
      simp only [resolve, invoke, builtin, Sem.run_bind, Sem.run_pure, Result.andThen_ok]
      cases hs : (Builtin.len_ argTypes o.type (Array.map ρ args)).run P w with
      | ok v w' => exact .inl ⟨v, w', by simp [Result.andThen]⟩
      | halt x w' => exact .inr ⟨x, w', by simp [Result.andThen]⟩
    | _ => simp at h

theorem quiet_yields {o : Oper} {a : Act} {w : World} {v : Value} (hv : valued o.op = true) (h : ∀ W, (∃ x : Later G w, W = x.to) → o.quietAt P a (fun W => ∃ x : Later G w, W = x.to) W v) :
    ∀ W, G.rel w W → (execOp a.eval o).run P W = .ok (.value v) W := by
  intro W hW
  have h1 := h W ⟨⟨W, hW⟩, rfl⟩
  unfold Oper.quietAt at h1
  rcases valued_run (P := P) hv a.eval W with ⟨u, w', e⟩ | ⟨x, w', e⟩
  · rw [e] at h1 ⊢
    obtain ⟨h2, h3⟩ := h1
    rw [h2, h3]
  · rw [e] at h1
    exact h1.elim

/-- May these be taken first, one after the other? -/
def segOk (md : Region.Mode) (ops : Array Oper) : List Nat → Array Bool → Bool
  | [], _ => true
  | i :: rest, listed => closedB md ops listed && (Region.ready md ops listed).contains i && Region.free md ops listed i && ((ops[i]?).map fun o => valued o.op).getD false && segOk md ops rest (listed.setIfInBounds i true)

theorem panic_put (hQ : ∀ c (a : Act) (d : Tmp) v w, Q (.panic c) (a.put (some d) v) w → Q (.panic c) a w) (c : List PanicEntry) (a : Act) (d : Option Tmp) (v : Value) (w : World) (h : Q (.panic c) (a.put d v) w) : Q (.panic c) a w := by
  cases d with
  | none => exact h
  | some d => exact hQ c a d v w h

/-- Operations that only yield values are taken first. -/
theorem wpAnyG_quiet (hs : Region.noSelect ops = true) (hQ : ∀ c (a : Act) (d : Tmp) v w, Q (.panic c) (a.put (some d) v) w → Q (.panic c) a w) :
    ∀ (seg : List Nat) (l : List Oper) (n : Nat) (listed : Array Bool) (a : Act) (w : World), seg.map (ops[·]?) = l.map some → segOk md ops seg listed = true →
      wpQuiet P ops (fun W => ∃ x : Later G w, W = x.to) (fun a' => wpAnyG G P md ops Q n (seg.foldl (fun L i => L.setIfInBounds i true) listed) a' w) l a →
      wpAnyG G P md ops Q (n + seg.length) listed a w
  | [], [], n, listed, a, w, _, _, h => h
  | [], _ :: _, _, _, _, _, hl, _, _ => by simp at hl
  | _ :: _, [], _, _, _, _, hl, _, _ => by simp at hl
  | i :: seg, o :: l, n, listed, a, w, hl, hok, h => by
    simp only [List.map_cons, List.cons.injEq] at hl
    obtain ⟨hi, hl⟩ := hl
    simp only [segOk, Bool.and_eq_true, hi, Option.map_some, Option.getD_some] at hok
    obtain ⟨⟨⟨⟨hcl, hr⟩, hf⟩, hv⟩, hok⟩ := hok
    have hr' : i ∈ Region.ready md ops listed := by simpa using hr
    by_cases hw : Region.wanted o (yielded ops a.tmps) = true
    · have h' : o.quiet P a (fun W => ∃ x : Later G w, W = x.to) (wpQuiet P ops (fun W => ∃ x : Later G w, W = x.to) (fun a' => wpAnyG G P md ops Q n ((i :: seg).foldl (fun L i => L.setIfInBounds i true) listed) a' w) l) := by
        simpa [wpQuiet, hw] using h
      obtain ⟨v, h1, h2⟩ := h'
      exact wpAnyG_first w hi (Region.noSelect_spec hs) (fun c a w h => panic_put hQ c a _ _ w h) (n + seg.length) listed a w (closed_of hcl) (Region.free_spec hi hf) hr' (.inl ⟨hw, quiet_yields hv h1⟩) (G.refl w)
        (wpAnyG_quiet hs hQ seg l n _ _ w hl hok h2)
    · have h2 : wpQuiet P ops (fun W => ∃ x : Later G w, W = x.to) (fun a' => wpAnyG G P md ops Q n ((i :: seg).foldl (fun L i => L.setIfInBounds i true) listed) a' w) l (a.put o.dst undef) := by
        simpa [wpQuiet, hw] using h
      exact wpAnyG_first w hi (Region.noSelect_spec hs) (fun c a w h => panic_put hQ c a _ _ w h) (n + seg.length) listed a w (closed_of hcl) (Region.free_spec hi hf) hr' (.inr ⟨by simpa using hw, rfl⟩) (G.refl w)
        (wpAnyG_quiet hs hQ seg l n _ _ w hl hok h2)

/-- The one operation that may come up now. -/
theorem wpAnyG_one' {i : Nat} {o : Oper} {n : Nat} {listed : Array Bool} {a : Act} {w : World} (C : World → Prop) (hC : ∀ w', C w' → G.rel w w' ∨ late md ops i = true) (hr : Region.ready md ops listed = [i]) (hi : ops[i]? = some o)
    (h : wpList P ops (Exit.then (fun a' w' => C w' ∧ wpAnyG G P md ops Q n (listed.setIfInBounds i true) a' w') Q) [o] a w) : wpAnyG G P md ops Q (n + 1) listed a w := by
  refine ⟨fun h0 => (by rw [h0] at hr; cases hr), fun j hj => ?_⟩
  rw [hr] at hj
  obtain rfl : j = i := by simpa using hj
  refine wpOp_mono (K := fun a' w' => C w' ∧ wpAnyG G P md ops Q n (listed.setIfInBounds j true) a' w') (fun a' w' h => ⟨hC w' h.1, h.2⟩) ?_
  unfold wpOp
  simp only [hi]
  unfold wpList at h
  split
  · rename_i hw
    simp only [hw, if_true] at h
    rcases h with h | ⟨h1, h2⟩
    · left
      unfold Oper.wp at h ⊢
      generalize (execOp a.eval o).run P w = r at *
      cases r with
      | ok n w' => cases n <;> exact h
      | halt x w' => cases x <;> exact h
    · exact .inr ⟨h1, h2⟩
  · rename_i hw
    simp only [hw] at h
    exact h
theorem wpAnyG_one {i : Nat} {o : Oper} {n : Nat} {listed : Array Bool} {a : Act} {w : World} (hr : Region.ready md ops listed = [i]) (hi : ops[i]? = some o)
    (h : wpList P ops (Exit.then (fun a' w' => G.rel w w' ∧ wpAnyG G P md ops Q n (listed.setIfInBounds i true) a' w') Q) [o] a w) : wpAnyG G P md ops Q (n + 1) listed a w :=
  wpAnyG_one' (G.rel w) (fun _ h => .inl h) hr hi h

theorem wpAnyG_done {n : Nat} {listed : Array Bool} {a : Act} {w : World} (hr : Region.ready md ops listed = []) (h : Q .normal a w) : wpAnyG G P md ops Q n listed a w := by
  cases n with
  | zero => exact ⟨hr, h⟩
  | succ n => exact ⟨fun _ => h, by rw [hr]; simp⟩

/-- The beginning. -/
theorem wp_region_G (G : Growth) {id : Nat} {l : List Oper} {a : Act} {w : World} (hm : P.follows .mixedOrders = true)
    (h : wpAnyG G P .any l.toArray Q l.length (Array.replicate l.length false) a w.drew) : (Code.region id l.toArray true).wp P Q a w :=
  wp_region_any hm (wpAny_of_G _ _ _ _ (by simpa using h))

/-- The same two moves, the region's operations written out in a list. -/
theorem segG {L : List Oper} (hs : Region.noSelect L.toArray = true) (hQ : ∀ c (a : Act) (d : Tmp) v w, Q (.panic c) (a.put (some d) v) w → Q (.panic c) a w) (seg : List Nat) (l : List Oper) (n : Nat) {N : Nat} {listed : Array Bool} {a : Act} {w : World} (hN : N = n + seg.length)
    (hl : seg.map (fun i => L[i]?) = l.map some) (hok : segOk md L.toArray seg listed = true)
    (h : wpQuiet P L.toArray (fun W => ∃ x : Later G w, W = x.to) (fun a' => wpAnyG G P md L.toArray Q n (seg.foldl (fun L i => L.setIfInBounds i true) listed) a' w) l a) : wpAnyG G P md L.toArray Q N listed a w := by
  subst hN
  exact wpAnyG_quiet hs hQ seg l n listed a w (by simpa using hl) hok h
theorem oneG {L : List Oper} (i n : Nat) {N : Nat} {o : Oper} {listed : Array Bool} {a : Act} {w : World} (hN : N = n + 1) (hr : Region.ready md L.toArray listed = [i]) (hi : L[i]? = some o)
    (h : wpList P L.toArray (Exit.then (fun a' w' => G.rel w w' ∧ wpAnyG G P md L.toArray Q n (listed.setIfInBounds i true) a' w') Q) [o] a w) : wpAnyG G P md L.toArray Q N listed a w := by
  subst hN
  exact wpAnyG_one hr (by simpa using hi) h
/-- An operation that all others precede or follow may do what it will. -/
theorem lateG {L : List Oper} (i n : Nat) {N : Nat} {o : Oper} {listed : Array Bool} {a : Act} {w : World} (hN : N = n + 1) (hr : Region.ready md L.toArray listed = [i]) (hlate : late md L.toArray i = true) (hi : L[i]? = some o)
    (h : wpList P L.toArray (Exit.then (fun a' w' => True ∧ wpAnyG G P md L.toArray Q n (listed.setIfInBounds i true) a' w') Q) [o] a w) : wpAnyG G P md L.toArray Q N listed a w := by
  subst hN
  exact wpAnyG_one' (fun _ => True) (fun _ _ => .inr hlate) hr (by simpa using hi) h
end
end Go.Gar
namespace Go.Gar
open Go.RowKit
section
variable {P : Program} {w : World}

theorem run_eqItems_u8 {e : TypeId} (he : P.plainKey e = true) (hu : P.underlying e = some (.int .u8)) (d : Nat) (a b : List UInt8) : ∀ is : List Nat, (∀ i ∈ is, i < a.length ∧ i < b.length) →
    (Op.eqItems (d + 1) e 1 (u8s a).toArray (u8s b).toArray is).run P w = .ok (is.all fun i => a[i]? == b[i]?) w
  | [], _ => by simp [Op.eqItems]
  | i :: is, h => by
    obtain ⟨ha, hb⟩ := h i (by simp)
    have ga : (u8s a).toArray[i]? = some (.int .u8 ((a[i]).toNat : Int)) := by simp [u8s_get, ha]
    have gb : (u8s b).toArray[i]? = some (.int .u8 ((b[i]).toNat : Int)) := by simp [u8s_get, hb]
    have ih := run_eqItems_u8 he hu d a b is (fun j hj => h j (by simp [hj]))
    simp only [Op.eqItems, Nat.mul_one, Sem.run_bind, run_part_plain w he ga, run_part_plain w he gb, Result.andThen_ok, run_equalIn_int w d e .u8 .u8 _ _ hu]
    by_cases hab : a[i] = b[i]
    · have e1 : (((a[i]).toNat : Int) == ((b[i]).toNat : Int)) = true := by rw [hab]; simp
      rw [e1]
      simp only [Bool.not_true, Bool.false_eq_true, if_false, ih, List.all_cons, List.getElem?_eq_getElem ha, List.getElem?_eq_getElem hb, hab]
      simp
    · have e1 : (((a[i]).toNat : Int) == ((b[i]).toNat : Int)) = false := by
        rw [beq_eq_false_iff_ne]
        intro h
        exact hab (UInt8.toNat_inj.1 (by omega))
      rw [e1]
      have e2 : ((some a[i] : Option UInt8) == some b[i]) = false := by
        rw [beq_eq_false_iff_ne]
        intro h
        injection h with h
        exact hab h
      simp [List.getElem?_eq_getElem ha, List.getElem?_eq_getElem hb, e2]
theorem run_equalIn_u8s {t e : TypeId} {n : Nat} (ht : P.underlying t = some (.array n e)) (he : P.plainKey e = true) (hu : P.underlying e = some (.int .u8)) (hc : P.cellsOf e = 1) (d : Nat) (a b : List UInt8) (ha : a.length = n) (hb : b.length = n) :
    (Op.equalIn (d + 2) t (.agg (u8s a).toArray) (.agg (u8s b).toArray)).run P w = .ok (decide (a = b)) w := by
  obtain ⟨i, hi⟩ : ∃ i, P.info? e = some i := by
    unfold Program.underlying at hu
    cases h : P.info? e with
    | none => simp [h] at hu
    | some i => exact ⟨i, rfl⟩
  rw [run_equalIn_array w (d + 1) _ _ ht hi, hc, run_eqItems_u8 he hu d a b _ (fun j hj => by simp at hj; omega)]
  congr 1
  rw [Bool.eq_iff_iff, List.all_eq_true, decide_eq_true_iff]
  constructor
  · intro h
    apply List.ext_getElem?
    intro j
    by_cases hj : j < n
    · have := h j (by simpa using hj)
      simpa using this
    · rw [List.getElem?_eq_none (by omega), List.getElem?_eq_none (by omega)]
  · intro h j _
    rw [h]; simp

/-- A whole array, loaded in every world to which memory may have grown. -/
theorem load_arr_later {t e : TypeId} {n g : Nat} {x : List Value} (ht : P.underlying t = some (.array n e)) (hs : (P.info? t).map (·.size) = some x.length) (h : Blk w g t x) :
    ∀ W : Later grows w, (Instr.loadAt t (.pointer (some ⟨g, 0, none⟩))).run P W.to = .ok (.agg x.toArray) W.to := by
  intro W
  have hx : Below w.heap.size w W.to := W.grown
  have hb := h.below hx h.lt
  have := run_loadVar_row (P := P) W.to g t t x.toArray (0, 0) _ hb ht rfl (by simpa using hs)
  simp only [Instr.loadAt, Instr.sureAddr, Sem.run_bind, Sem.run_pure, Result.andThen]
  exact this

/-- A whole array loaded. -/
theorem wpList_load_arr {ops : Array Oper} {rest : List Oper} {o : Oper} {a : Act} {Q : Exit → Act → World → Prop} (hgd : o.guard = none) (t : TypeId) (p : Operand) (ho : o.op = .load t p) {g : Nat} (hp : a.eval p = .pointer (some ⟨g, 0, none⟩)) (x : Array Value)
    (hld : (Instr.loadAt t (.pointer (some ⟨g, 0, none⟩))).run P w = .ok (.agg x) w) (h : wpList P ops Q rest (a.put o.dst (.agg x)) w) : wpList P ops Q (o :: rest) a w := by
  refine wpList_run hgd (v := .agg x) (w' := w) ?_ h
  unfold execOp
  simp only [ho, hp, Sem.run_bind, hld, Result.andThen_ok, Sem.run_pure]
theorem wpQuiet_val {ops : Array Oper} {C : World → Prop} {Q : Act → Prop} {rest : List Oper} {o : Oper} {a : Act} {v : Value} (hw : Region.wanted o (yielded ops a.tmps) = true) (hrun : ∀ W, C W → (execOp a.eval o).run P W = .ok (.value v) W)
    (h : wpQuiet P ops C Q rest (a.put o.dst v)) : wpQuiet P ops C Q (o :: rest) a := by
  unfold wpQuiet
  rw [if_pos hw]
  refine ⟨v, fun W hW => ?_, h⟩
  unfold Oper.quietAt
  rw [hrun W hW]
  exact ⟨rfl, rfl⟩
/-- A whole array loaded, in a segment. -/
theorem wpQuiet_load_arr {G : Growth} {ops : Array Oper} {Q : Act → Prop} {rest : List Oper} {o : Oper} {a : Act} (t : TypeId) (p : Operand) (ho : o.op = .load t p) {g : Nat} (hp : a.eval p = .pointer (some ⟨g, 0, none⟩)) (x : Array Value)
    (hld : ∀ W : Later G w, (Instr.loadAt t (.pointer (some ⟨g, 0, none⟩))).run P W.to = .ok (.agg x) W.to) (hw : Region.wanted o (yielded ops a.tmps) = true)
    (h : wpQuiet P ops (fun W => ∃ y : Later G w, W = y.to) Q rest (a.put o.dst (.agg x))) : wpQuiet P ops (fun W => ∃ y : Later G w, W = y.to) Q (o :: rest) a := by
  refine wpQuiet_val hw (fun W hW => ?_) h
  obtain ⟨y, rfl⟩ := hW
  unfold execOp
  simp only [ho, hp, Sem.run_bind, hld y, Result.andThen_ok, Sem.run_pure]
/-- Two arrays compared, in a segment. -/
theorem wpQuiet_eql_arr {C : World → Prop} {ops : Array Oper} {Q : Act → Prop} {rest : List Oper} {o : Oper} {a : Act} (t t2 : TypeId) (p q : Operand) (ho : o.op = .binOp .eql t p q t2) {x y : Array Value} (hp : a.eval p = .agg x) (hq : a.eval q = .agg y) (r : Bool)
    (hg : P.eqGuardType P.depth t = false) (heq : ∀ w, (Op.equalIn 10000 t (.agg x) (.agg y)).run P w = .ok r w) (hw : Region.wanted o (yielded ops a.tmps) = true)
    (h : wpQuiet P ops C Q rest (a.put o.dst (.bool r))) : wpQuiet P ops C Q (o :: rest) a := by
  refine wpQuiet_val hw (fun W _ => ?_) h
  have h1 : (eqGuard .eql t p q (.agg x) (.agg y)).run P W = .ok () W := by
    simp [eqGuard, hg, Sem.run_bind]
  have h2 : (binOp .eql t (.agg x) (.agg y)).run P W = .ok (.bool r) W := by
    have := heq W
    simp [binOp, Op.equal, Op.maxDepth, this, Result.andThen]
  unfold execOp
  simp only [ho, hp, hq, Sem.run_bind, h1, h2, Result.andThen_ok, Sem.run_pure]
/-- One operation, guarded or not, that is wanted and whose run is known. -/
theorem wpList_run_w {ops : Array Oper} {rest : List Oper} {o : Oper} {a : Act} {Q : Exit → Act → World → Prop} (hw : Region.wanted o (yielded ops a.tmps) = true) {v : Value} {w' : World}
    (hrun : (execOp a.eval o).run P w = .ok (.value v) w') (h : wpList P ops Q rest (a.put o.dst v) w') : wpList P ops Q (o :: rest) a w := by
  unfold wpList
  rw [if_pos hw]
  left
  unfold Oper.wp
  rw [hrun]
  exact h
theorem wpList_load_arr_w {ops : Array Oper} {rest : List Oper} {o : Oper} {a : Act} {Q : Exit → Act → World → Prop} (t : TypeId) (p : Operand) (ho : o.op = .load t p) {g : Nat} (hp : a.eval p = .pointer (some ⟨g, 0, none⟩)) (x : Array Value)
    (hld : (loadVar t ⟨g, 0, none⟩).run P w = .ok (.agg x) w) (hw : Region.wanted o (yielded ops a.tmps) = true) (h : wpList P ops Q rest (a.put o.dst (.agg x)) w) : wpList P ops Q (o :: rest) a w := by
  refine wpList_run_w hw (v := .agg x) (w' := w) ?_ h
  unfold execOp
  simp only [ho, hp, Instr.loadAt, Instr.sureAddr, Sem.run_bind, hld, Result.andThen_ok, Sem.run_pure]
theorem wpList_eql_arr_w {ops : Array Oper} {rest : List Oper} {o : Oper} {a : Act} {Q : Exit → Act → World → Prop} (t t2 : TypeId) (p q : Operand) (ho : o.op = .binOp .eql t p q t2) {x y : Array Value} (hp : a.eval p = .agg x) (hq : a.eval q = .agg y) (r : Bool)
    (hg : P.eqGuardType P.depth t = false) (heq : ∀ w, (Op.equalIn 10000 t (.agg x) (.agg y)).run P w = .ok r w) (hw : Region.wanted o (yielded ops a.tmps) = true)
    (h : wpList P ops Q rest (a.put o.dst (.bool r)) w) : wpList P ops Q (o :: rest) a w := by
  refine wpList_run_w hw (v := .bool r) (w' := w) ?_ h
  have h1 : (eqGuard .eql t p q (.agg x) (.agg y)).run P w = .ok () w := by
    simp [eqGuard, hg, Sem.run_bind]
  have h2 : (binOp .eql t (.agg x) (.agg y)).run P w = .ok (.bool r) w := by
    have := heq w
    simp [binOp, Op.equal, Op.maxDepth, this, Result.andThen]
  unfold execOp
  simp only [ho, hp, hq, Sem.run_bind, h1, h2, Result.andThen_ok, Sem.run_pure]
end
end Go.Gar
namespace Go.Gar
open Go.RowKit
section
variable {P : Program} {w : World}

/-- A row with a part of it laid anew. -/
def seg (old : List Value) (o : Nat) (new : List Value) : List Value := old.take o ++ new ++ old.drop (o + new.length)
theorem seg_len (old new : List Value) (o : Nat) (h : o + new.length ≤ old.length) : (seg old o new).length = old.length := by
  simp [seg]; omega

/-- An argument of an array's type that is addressed: a new block of its cells. -/
theorem wpList_box_arr {ops : Array Oper} {rest : List Oper} {o : Oper} {a : Act} {Q : Exit → Act → World → Prop} (hgd : o.guard = none) (t : TypeId) (x : Operand) (cs : Array Value)
    (ho : o.op = .box t x) (hx : a.eval x = .agg cs)
    (h : wpList P ops Q rest (a.put o.dst (.pointer (some ⟨w.heap.size, 0, none⟩))) (w.alloc (.cells cs t))) : wpList P ops Q (o :: rest) a w := by
  refine wpList_run hgd (v := .pointer (some ⟨w.heap.size, 0, none⟩)) (w' := w.alloc (.cells cs t)) ?_ h
  unfold execOp
  simp [ho, hx, Instr.box, newVar, newRow, Result.andThen, Value.cells]

theorem run_storeVar_seg {t ty : TypeId} (g o : Nat) (old new : List Value) (hb : Blk w g t old) (hi : (P.info? ty).map (·.size) = some new.length) (hl : o + new.length ≤ old.length) (h1 : ∀ u ∈ new, u.oneCell' = true) :
    (storeVar ty ⟨g, o, none⟩ (.agg new.toArray)).run P w = .ok () (w.setRow g (seg old o new).toArray) := by
  have := run_storeCells_at (P := P) g o t new 0 old.toArray w hb (by simpa using hl) h1
  cases hq : P.info? ty with
  | none => simp [hq] at hi
  | some i =>
    have hs : new.length = i.size := by simp [hq] at hi; omega
    simp only [Nat.add_zero] at this
    simp [storeVar, sizeOf, typeInfo, hq, Value.cells, hs, this, seg]

/-- A whole array into a part of a block that is known whole. -/
theorem wpList_store_seg {ops : Array Oper} {rest : List Oper} {op : Oper} {a : Act} {Q : Exit → Act → World → Prop} (hgd : op.guard = none) (t ty : TypeId) (p x : Operand) (g o : Nat) (old new : List Value)
    (hd : op.dst = none) (ho : op.op = .store ty p x) (hp : a.eval p = .pointer (some ⟨g, o, none⟩)) (hx : a.eval x = .agg new.toArray) (hb : Blk w g t old) (hi : (P.info? ty).map (·.size) = some new.length) (hl : o + new.length ≤ old.length) (h1 : ∀ u ∈ new, u.oneCell' = true)
    (h : wpList P ops Q rest a (w.setRow g (seg old o new).toArray)) : wpList P ops Q (op :: rest) a w := by
  refine wpList_plain hgd fun K hK => ?_
  unfold Oper.wp
  have hr := run_storeVar_seg (P := P) (w := w) (t := t) (ty := ty) g o old new hb hi hl h1
  have : (execOp a.eval op).run P w = .ok .skip (w.setRow g (seg old o new).toArray) := by
    unfold execOp
    simp [ho, Instr.storeAt, Instr.sureAddr, hp, hx, hr, Result.andThen]
  rw [this]
  exact hK _ _ (by rw [hd]; exact h)

/-- A part of a block, loaded as an array. -/
theorem run_loadVar_seg {t ty : TypeId} {d : TypeDesc} (g o : Nat) (old cs : List Value) (hb : Blk w g t old) (hc : ∀ j v, cs[j]? = some v → old[o + j]? = some v) (hu : P.underlying ty = some d) (hd : d.isRow = true) (hi : (P.info? ty).map (·.size) = some cs.length) :
    (loadVar ty ⟨g, o, none⟩).run P w = .ok (.agg cs.toArray) w :=
  run_loadVar_mid w g o ty cs d (fun j v hv => by rw [hb.cell]; exact hc j v hv) hu hd hi

theorem wpList_load_at {ops : Array Oper} {rest : List Oper} {o : Oper} {a : Act} {Q : Exit → Act → World → Prop} (t : TypeId) (p : Operand) (ho : o.op = .load t p) {g q : Nat} (hp : a.eval p = .pointer (some ⟨g, q, none⟩)) (x : Array Value)
    (hld : (loadVar t ⟨g, q, none⟩).run P w = .ok (.agg x) w) (hw : Region.wanted o (yielded ops a.tmps) = true) (h : wpList P ops Q rest (a.put o.dst (.agg x)) w) : wpList P ops Q (o :: rest) a w := by
  refine wpList_run_w hw (v := .agg x) (w' := w) ?_ h
  unfold execOp
  simp only [ho, hp, Instr.loadAt, Instr.sureAddr, Sem.run_bind, hld, Result.andThen_ok, Sem.run_pure]

theorem run_index_u8 {t e : TypeId} {n : Nat} (ht : P.underlying t = some (.array n e)) (he : P.underlying e = some (.int .u8)) (hs : (P.info? e).map (·.size) = some 1) (F : List UInt8) (j : Nat) (hj : j < n) (c : UInt8) (hc : F[j]? = some c) :
    (Instr.index t (.agg (u8s F).toArray) (.int .i64 (j : Int))).run P w = .ok (.int .u8 (c.toNat : Int)) w := by
  have hagg : (isAgg e).run P w = .ok false w := by
    unfold isAgg
    rw [Sem.run_bind, run_underlying he w]
    rfl
  cases hq : P.info? e with
  | none => simp [hq] at hs
  | some i =>
    have h1 : i.size = 1 := by simpa [hq] using hs
    have hg : (u8s F)[j]? = some (.int .u8 (c.toNat : Int)) := by rw [u8s_get, hc]; rfl
    have hlt : (0 : Int) ≤ (j : Int) ∧ (j : Int) < (n : Int) := by omega
    simp [Instr.index, asIntOf, Sem.run_bind, run_underlying ht w, hlt, sizeOf, typeInfo, hq, h1, part, hagg, hg, Result.andThen]
    omega
theorem wpList_index_u8 {ops : Array Oper} {rest : List Oper} {o : Oper} {a : Act} {Q : Exit → Act → World → Prop} (t : TypeId) (p q : Operand) (ho : o.op = .index t p q) {x : Array Value} {i v : Value} (hp : a.eval p = .agg x) (hq : a.eval q = i)
    (hrun : (Instr.index t (.agg x) i).run P w = .ok v w) (hw : Region.wanted o (yielded ops a.tmps) = true) (h : wpList P ops Q rest (a.put o.dst v) w) : wpList P ops Q (o :: rest) a w := by
  refine wpList_run_w hw (v := v) (w' := w) ?_ h
  unfold execOp
  simp only [ho, hp, hq, Sem.run_bind, hrun, Result.andThen_ok, Sem.run_pure]
end
end Go.Gar
namespace Go.Gar
open Go.RowKit
section
variable {F : Fence} {n : Nat} {P : Program} {w : World} {ops : Array Oper} {rest : List Oper} {o : Oper} {a : Act} {Q : Exit → Act → World → Prop}

/-- One operation that calls nothing and whose run is known. -/
theorem wpListIn_run (hgd : o.guard = none) (hab : o.about P w a.eval = none) (hnd : ∀ c, o.op ≠ .defer c) {v : Value} {w' : World}
    (hrun : (execOp a.eval o).run P w = .ok (.value v) w') (h : wpListIn F n P ops Q rest (a.put o.dst v) w') : wpListIn F n P ops Q (o :: rest) a w :=
  wpListIn_plain hgd fun K hK => by
    refine ⟨fun f hf => (by rw [hab] at hf; cases hf), ?_⟩
    rw [Oper.semAt_plain F _ _ hnd, hrun]
    exact hK _ _ h
theorem wpListIn_run_skip (hgd : o.guard = none) (hab : o.about P w a.eval = none) (hnd : ∀ c, o.op ≠ .defer c) {w' : World}
    (hrun : (execOp a.eval o).run P w = .ok .skip w') (hd : o.dst = none) (h : wpListIn F n P ops Q rest a w') : wpListIn F n P ops Q (o :: rest) a w :=
  wpListIn_plain hgd fun K hK => by
    refine ⟨fun f hf => (by rw [hab] at hf; cases hf), ?_⟩
    rw [Oper.semAt_plain F _ _ hnd, hrun]
    exact hK _ _ (by rw [hd]; exact h)

theorem wpListIn_alloc_arr (hgd : o.guard = none) (t : TypeId) (z : Array Value) (ho : o.op = .alloc t) (hz : ∀ w, (zeroValue t).run P w = .ok (.agg z) w)
    (h : wpListIn F n P ops Q rest (a.put o.dst (.pointer (some ⟨w.heap.size, 0, none⟩))) (w.alloc (.cells z t))) : wpListIn F n P ops Q (o :: rest) a w := by
  refine wpListIn_run hgd (by simp [Oper.about, ho]) (by simp [ho]) (v := .pointer (some ⟨w.heap.size, 0, none⟩)) (w' := w.alloc (.cells z t)) ?_ h
  unfold execOp
  simp [ho, Instr.alloc, hz, newVar, newRow, Sem.run_bind, Result.andThen, Value.cells]
theorem wpListIn_box_arr (hgd : o.guard = none) (t : TypeId) (x : Operand) (cs : Array Value) (ho : o.op = .box t x) (hx : a.eval x = .agg cs)
    (h : wpListIn F n P ops Q rest (a.put o.dst (.pointer (some ⟨w.heap.size, 0, none⟩))) (w.alloc (.cells cs t))) : wpListIn F n P ops Q (o :: rest) a w := by
  refine wpListIn_run hgd (by simp [Oper.about, ho]) (by simp [ho]) (v := .pointer (some ⟨w.heap.size, 0, none⟩)) (w' := w.alloc (.cells cs t)) ?_ h
  unfold execOp
  simp [ho, hx, Instr.box, newVar, newRow, Result.andThen, Value.cells]
theorem wpListIn_load_arr (hgd : o.guard = none) (t : TypeId) (p : Operand) (ho : o.op = .load t p) {g q : Nat} (hp : a.eval p = .pointer (some ⟨g, q, none⟩)) (x : Array Value)
    (hld : (loadVar t ⟨g, q, none⟩).run P w = .ok (.agg x) w) (h : wpListIn F n P ops Q rest (a.put o.dst (.agg x)) w) : wpListIn F n P ops Q (o :: rest) a w := by
  refine wpListIn_run hgd (by simp [Oper.about, ho]) (by simp [ho]) (v := .agg x) (w' := w) ?_ h
  unfold execOp
  simp only [ho, hp, Instr.loadAt, Instr.sureAddr, Sem.run_bind, hld, Result.andThen_ok, Sem.run_pure]
theorem wpListIn_store_arr (hgd : o.guard = none) (t : TypeId) (p x : Operand) (g : Nat) (old new : List Value)
    (hd : o.dst = none) (ho : o.op = .store t p x) (hp : a.eval p = .pointer (some ⟨g, 0, none⟩)) (hx : a.eval x = .agg new.toArray) (hb : Blk w g t old) (hi : (P.info? t).map (·.size) = some new.length) (hl : old.length = new.length) (h1 : ∀ u ∈ new, u.oneCell' = true)
    (h : wpListIn F n P ops Q rest a (w.setRow g new.toArray)) : wpListIn F n P ops Q (o :: rest) a w := by
  have hr := run_storeVar_row (P := P) w g t t old.toArray new.toArray hb (by simpa using hi) (by simpa using hl) (by simpa using h1)
  refine wpListIn_run_skip hgd (by simp [Oper.about, ho]) (by simp [ho]) (w' := w.setRow g new.toArray) ?_ hd h
  unfold execOp
  simp [ho, Instr.storeAt, Instr.sureAddr, hp, hx, hr, Result.andThen]
theorem wpListIn_copy_run (hgd : o.guard = none) (d s : Operand) (ts : Array TypeId) (ho : o.op = .call { callee := .builtin .copy, args := #[d, s], argTypes := ts }) {vd vs v : Value} {w' : World} (hs : a.eval d = vd) (hx : a.eval s = vs)
    (hrun : (Builtin.copy_ ts o.type #[vd, vs]).run P w = .ok v w') (h : wpListIn F n P ops Q rest (a.put o.dst v) w') : wpListIn F n P ops Q (o :: rest) a w := by
  refine wpListIn_run hgd (by simp [Oper.about, ho, resolve, Target.leads, Sem.run_pure]) (by simp [ho]) (v := v) (w' := w') ?_ h
  unfold execOp
  simp only [ho, resolve, invoke, builtin, Sem.run_bind, Sem.run_pure, Result.andThen_ok, List.map_toArray, List.map_cons, List.map_nil, hs, hx, hrun]
end

/-- copy of what a slice reads as over a part of a row that is known whole. -/
theorem run_copy_seg {P : Program} {w : World} (dT sT ty e : TypeId) (hu : P.underlying dT = some (.slice e)) (hs : (P.info? e).map (·.size) = some 1) (g o dLen dCap sLen sCap b q : Nat) (l : List UInt8) (k : Nat)
    (hc : ∀ i c, l[i]? = some c → w.cell? ⟨b, q + i, none⟩ = some (.int .u8 (c.toNat : Int))) (hsl : sLen = l.length) (hk : k = min l.length dLen) (cs : List Value) (t : TypeId) (hg : Blk w g t cs) (hfit : o + k ≤ cs.length) :
    (Builtin.copy_ #[dT, sT] ty #[.slice (some ⟨g, o, none⟩) dLen dCap, .slice (some ⟨b, q, none⟩) sLen sCap]).run P w = .ok (goInt k) (w.setRow g (cs.take o ++ u8s (l.take k) ++ cs.drop (o + k)).toArray) := by
  subst hsl
  have hlen : (u8s (l.take k)).length = k := by rw [u8s_len, List.length_take]; omega
  have h := run_copy_row (P := P) w dT sT ty e g o dLen dCap ⟨b, q, none⟩ l.length sCap cs.toArray t (u8s (l.take k)) hu hs hg (by rw [hlen, hk]) ?_ (by rw [hlen]; simpa using hfit) (u8s_one _)
  · rw [hlen] at h
    simpa using h
  · intro j v hj
    rw [u8s_get] at hj
    cases hq : (l.take k)[j]? with
    | none => simp [hq] at hj
    | some c =>
      rw [hq] at hj
      simp at hj
      subst hj
      have : (⟨b, q, none⟩ : Addr).add j = ⟨b, q + j, none⟩ := Addr.add_lit _ _ _
      rw [this]
      refine hc j c ?_
      rw [List.getElem?_take] at hq
      split at hq
      · exact hq
      · cases hq
end Go.Gar
