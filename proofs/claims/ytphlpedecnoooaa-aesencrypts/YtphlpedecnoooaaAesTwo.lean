/-
  'x, y := f(), g()', x and y arrays that are variables in memory: the statement's operations may come in many orders, and the variables' blocks are numbered by the order. What every order keeps, and what stands at its end.
-/
import Derived.Test.YtphlpedecnoooaaRegF
import Derived.Test.YtphlpedecnoooaaArr
namespace Go.Gar
open Go.RowKit

theorem flag_same {L : Array Bool} {i : Nat} (h : i < L.size) : (L.setIfInBounds i true).getD i false = true := by simp [h]
theorem flag_other {L : Array Bool} {i j : Nat} (h : i ≠ j) : (L.setIfInBounds i true).getD j false = L.getD j false := getD_set_ne false h

/-- Six operations that yield values into slots s .. s + 5, two variables in slots p and q, and the two stores into them. -/
structure Two (a1 : Act) (ws : World) (val : Nat → Value) (s p q : Nat) (T : TypeId) (r0 r1 z0 : List Value) (L : Array Bool) (f : Nat → Option Value) (w : World) : Prop where
  size : L.size = 10
  none_ : ∀ k, k ≠ p → k ≠ q → (k < s ∨ s + 6 ≤ k) → f k = none
  below : Below ws.heap.size ws w
  vals : ∀ i, i < 6 → L.getD i false = true → f (s + i) = some (val i)
  one : L.getD 6 false = true → ∃ g, f p = some (.pointer (some ⟨g, 0, none⟩)) ∧ ws.heap.size ≤ g ∧ Blk w g T (if L.getD 8 false then r0 else z0)
  two : L.getD 7 false = true → ∃ g, f q = some (.pointer (some ⟨g, 0, none⟩)) ∧ ws.heap.size ≤ g ∧ Blk w g T (if L.getD 9 false then r1 else z0)
  apart : L.getD 6 false = true → L.getD 7 false = true → f p ≠ f q
  late : L.getD 8 false = true ∨ L.getD 9 false = true → L.getD 6 false = true ∧ L.getD 7 false = true
section
variable {a1 : Act} {ws w w' : World} {val : Nat → Value} {s p q : Nat} {T : TypeId} {r0 r1 z0 : List Value} {L : Array Bool} {f : Nat → Option Value}

theorem Two.start : Two a1 ws val s p q T r0 r1 z0 (Array.replicate 10 false) (fun _ => none) ws := by
  have hf : ∀ i, (Array.replicate 10 false).getD i false = false := by
    intro i
    by_cases h : i < 10
    · simp [h]
    · simp [Array.getElem?_eq_none (show (Array.replicate 10 false).size ≤ i by simp; omega)]
  refine ⟨by simp, fun _ _ _ _ => rfl, Below.refl _ _, ?_, ?_, ?_, ?_, ?_⟩
  · intro i _ h; rw [hf] at h; cases h
  · intro h; rw [hf] at h; cases h
  · intro h; rw [hf] at h; cases h
  · intro h; rw [hf] at h; cases h
  · intro h; rw [hf, hf] at h; rcases h with h | h <;> cases h

theorem Two.value (hp : p < s) (hq : q < s) (h : Two a1 ws val s p q T r0 r1 z0 L f w) {i : Nat} (hi : i < 6) (hb : Below w.heap.size w w') :
    Two a1 ws val s p q T r0 r1 z0 (L.setIfInBounds i true) (fun k => if k = s + i then some (val i) else f k) w' := by
  have hsz := h.size
  refine ⟨by simpa using hsz, ?_, h.below.trans (hb.mono h.below.size), ?_, ?_, ?_, ?_, ?_⟩
  · intro k h1 h2 h3
    have : ¬ k = s + i := by omega
    simp only [this, if_false]
    exact h.none_ k h1 h2 h3
  · intro j hj hl
    by_cases hij : j = i
    · subst hij; simp
    · have : ¬ s + j = s + i := by omega
      simp only [this, if_false]
      exact h.vals j hj (by rw [flag_other (fun e => hij e.symm)] at hl; exact hl)
  · intro hl
    rw [flag_other (by omega)] at hl
    obtain ⟨g, h1, h2, h3⟩ := h.one hl
    have : ¬ p = s + i := by omega
    rw [flag_other (by omega)]
    exact ⟨g, by simp only [this, if_false]; exact h1, h2, h3.below hb h3.lt⟩
  · intro hl
    rw [flag_other (by omega)] at hl
    obtain ⟨g, h1, h2, h3⟩ := h.two hl
    have : ¬ q = s + i := by omega
    rw [flag_other (by omega)]
    exact ⟨g, by simp only [this, if_false]; exact h1, h2, h3.below hb h3.lt⟩
  · intro h6 h7
    rw [flag_other (by omega)] at h6 h7
    have e1 : ¬ p = s + i := by omega
    have e2 : ¬ q = s + i := by omega
    simp only [e1, e2, if_false]
    exact h.apart h6 h7
  · rw [flag_other (by omega), flag_other (by omega), flag_other (by omega), flag_other (by omega)]
    exact h.late

theorem Two.alloc1 (hp : p < s) (hpq : p ≠ q) (h : Two a1 ws val s p q T r0 r1 z0 L f w) (h6 : L.getD 6 false = false) :
    Two a1 ws val s p q T r0 r1 z0 (L.setIfInBounds 6 true) (fun k => if k = p then some (.pointer (some ⟨w.heap.size, 0, none⟩)) else f k) (w.alloc (.cells z0.toArray T)) := by
  have hsz := h.size
  have h89 : ¬ (L.getD 8 false = true ∨ L.getD 9 false = true) := fun h' => by rw [(h.late h').1] at h6; cases h6
  have h8 : L.getD 8 false = false := by
    cases h' : L.getD 8 false
    · rfl
    · exact absurd (.inl h') h89
  refine ⟨by simpa using hsz, ?_, h.below.alloc h.below.size _, ?_, ?_, ?_, ?_, ?_⟩
  · intro k h1 h2 h3
    simp only [h1, if_false]
    exact h.none_ k h1 h2 h3
  · intro j hj hl
    have : ¬ s + j = p := by omega
    simp only [this, if_false]
    exact h.vals j hj (by rw [flag_other (by omega)] at hl; exact hl)
  · intro _
    rw [flag_other (by omega), h8]
    exact ⟨w.heap.size, by simp, h.below.size, Blk.new w T z0⟩
  · intro hl
    rw [flag_other (by omega)] at hl
    obtain ⟨g, h1, h2, h3⟩ := h.two hl
    rw [flag_other (by omega)]
    exact ⟨g, by simp only [Ne.symm hpq, if_false]; exact h1, h2, h3.alloc _⟩
  · intro _ h7
    rw [flag_other (by omega)] at h7
    obtain ⟨g, h1, _, h3⟩ := h.two h7
    simp only [Ne.symm hpq, if_false, if_true]
    rw [h1]
    intro e
    simp at e
    have := h3.lt
    omega
  · intro h'
    rw [flag_other (by omega), flag_other (by omega)] at h'
    exact absurd h' h89
theorem Two.alloc2 (hq : q < s) (hpq : p ≠ q) (h : Two a1 ws val s p q T r0 r1 z0 L f w) (h7 : L.getD 7 false = false) :
    Two a1 ws val s p q T r0 r1 z0 (L.setIfInBounds 7 true) (fun k => if k = q then some (.pointer (some ⟨w.heap.size, 0, none⟩)) else f k) (w.alloc (.cells z0.toArray T)) := by
  have hsz := h.size
  have h89 : ¬ (L.getD 8 false = true ∨ L.getD 9 false = true) := fun h' => by rw [(h.late h').2] at h7; cases h7
  have h9 : L.getD 9 false = false := by
    cases h' : L.getD 9 false
    · rfl
    · exact absurd (.inr h') h89
  refine ⟨by simpa using hsz, ?_, h.below.alloc h.below.size _, ?_, ?_, ?_, ?_, ?_⟩
  · intro k h1 h2 h3
    simp only [h2, if_false]
    exact h.none_ k h1 h2 h3
  · intro j hj hl
    have : ¬ s + j = q := by omega
    simp only [this, if_false]
    exact h.vals j hj (by rw [flag_other (by omega)] at hl; exact hl)
  · intro hl
    rw [flag_other (by omega)] at hl
    obtain ⟨g, h1, h2, h3⟩ := h.one hl
    rw [flag_other (by omega)]
    exact ⟨g, by simp only [hpq, if_false]; exact h1, h2, h3.alloc _⟩
  · intro _
    rw [flag_other (by omega), h9]
    exact ⟨w.heap.size, by simp, h.below.size, Blk.new w T z0⟩
  · intro h6 _
    rw [flag_other (by omega)] at h6
    obtain ⟨g, h1, _, h3⟩ := h.one h6
    simp only [hpq, if_false, if_true]
    rw [h1]
    intro e
    simp at e
    have := h3.lt
    omega
  · intro h'
    rw [flag_other (by omega), flag_other (by omega)] at h'
    exact absurd h' h89
theorem Two.store1 (h : Two a1 ws val s p q T r0 r1 z0 L f w) (h6 : L.getD 6 false = true) (h7 : L.getD 7 false = true) {g : Nat} (hg : f p = some (.pointer (some ⟨g, 0, none⟩))) :
    Two a1 ws val s p q T r0 r1 z0 (L.setIfInBounds 8 true) f (w.setRow g r0.toArray) := by
  have hsz := h.size
  obtain ⟨g1, e1, l1, b1⟩ := h.one h6
  obtain rfl : g = g1 := by rw [hg] at e1; simpa using e1
  obtain ⟨g2, e2, l2, b2⟩ := h.two h7
  have hne : g2 ≠ g := by
    intro e
    subst e
    exact h.apart h6 h7 (by rw [hg, e2])
  refine ⟨by simpa using hsz, h.none_, below_setRow h.below l1 _, ?_, ?_, ?_, ?_, ?_⟩
  · intro j hj hl
    exact h.vals j hj (by rw [flag_other (by omega)] at hl; exact hl)
  · intro _
    rw [flag_same (by omega)]
    exact ⟨g, hg, l1, b1.row r0⟩
  · intro _
    rw [flag_other (by omega)]
    exact ⟨g2, e2, l2, b2.rowFar hne _⟩
  · intro _ _
    exact h.apart h6 h7
  · intro _
    rw [flag_other (by omega), flag_other (by omega)]
    exact ⟨h6, h7⟩
theorem Two.store2 (h : Two a1 ws val s p q T r0 r1 z0 L f w) (h6 : L.getD 6 false = true) (h7 : L.getD 7 false = true) {g : Nat} (hg : f q = some (.pointer (some ⟨g, 0, none⟩))) :
    Two a1 ws val s p q T r0 r1 z0 (L.setIfInBounds 9 true) f (w.setRow g r1.toArray) := by
  have hsz := h.size
  obtain ⟨g1, e1, l1, b1⟩ := h.two h7
  obtain rfl : g = g1 := by rw [hg] at e1; simpa using e1
  obtain ⟨g2, e2, l2, b2⟩ := h.one h6
  have hne : g2 ≠ g := by
    intro e
    subst e
    exact h.apart h6 h7 (by rw [hg, e2])
  refine ⟨by simpa using hsz, h.none_, below_setRow h.below l1 _, ?_, ?_, ?_, ?_, ?_⟩
  · intro j hj hl
    exact h.vals j hj (by rw [flag_other (by omega)] at hl; exact hl)
  · intro _
    rw [flag_other (by omega)]
    exact ⟨g2, e2, l2, b2.rowFar hne _⟩
  · intro _
    rw [flag_same (by omega)]
    exact ⟨g, hg, l1, b1.row r1⟩
  · intro _ _
    exact h.apart h6 h7
  · intro _
    rw [flag_other (by omega), flag_other (by omega)]
    exact ⟨h6, h7⟩
end
theorem exec_alloc_arr {P : Program} {w : World} {o : Oper} (ρ : Operand → Value) (t : TypeId) (z : Array Value) (ho : o.op = .alloc t) (hz : ∀ w, (zeroValue t).run P w = .ok (.agg z) w) : (execOp ρ o).run P w = .ok (.value (.pointer (some ⟨w.heap.size, 0, none⟩))) (w.alloc (.cells z t)) := by
  unfold execOp
  simp [ho, Instr.alloc, hz, newVar, newRow, Sem.run_bind, Result.andThen, Value.cells]
theorem exec_store_arr {P : Program} {w : World} {o : Oper} {a : Act} (t : TypeId) (p x : Operand) (g : Nat) (old new : List Value)
    (ho : o.op = .store t p x) (hp : a.eval p = .pointer (some ⟨g, 0, none⟩)) (hx : a.eval x = .agg new.toArray) (hb : Blk w g t old) (hi : (P.info? t).map (·.size) = some new.length) (hl : old.length = new.length) (h1 : ∀ u ∈ new, u.oneCell' = true) :
    (execOp a.eval o).run P w = .ok .skip (w.setRow g new.toArray) := by
  have hr := run_storeVar_row (P := P) w g t t old.toArray new.toArray hb (by simpa using hi) (by simpa using hl) (by simpa using h1)
  unfold execOp
  simp [ho, Instr.storeAt, Instr.sureAddr, hp, hx, hr, Result.andThen]
theorem pc8 {a : Act} {f : Nat → Option Value} {s p q : Nat} {v1 v2 u0 u1 u2 u3 u4 u5 : Value} (hp : p < s) (hq : q < s) (hpq : p ≠ q) (hn : ∀ k, k ≠ p → k ≠ q → (k < s ∨ s + 6 ≤ k) → f k = none) (h1 : f p = some v1) (h2 : f q = some v2)
    (e0 : f (s + 0) = some u0) (e1 : f (s + 1) = some u1) (e2 : f (s + 2) = some u2) (e3 : f (s + 3) = some u3) (e4 : f (s + 4) = some u4) (e5 : f (s + 5) = some u5) :
    pc a f = (((((((a.put (some p) v1).put (some q) v2).put (some (s + 0)) u0).put (some (s + 1)) u1).put (some (s + 2)) u2).put (some (s + 3)) u3).put (some (s + 4)) u4).put (some (s + 5)) u5 := by
  have hnil : a = pc a (fun _ => none) := (pc_nil fun _ => rfl).symm
  conv => rhs; rw [hnil]
  simp only [pc_put]
  congr 1
  funext k
  by_cases k5 : k = s + 5
  · subst k5; simp [e5]
  by_cases k4 : k = s + 4
  · subst k4; simp [e4]
  by_cases k3 : k = s + 3
  · subst k3; simp [e3]
  by_cases k2 : k = s + 2
  · subst k2; simp [e2]
  by_cases k1 : k = s + 1
  · subst k1; simp [e1]
  by_cases k0 : k = s + 0
  · subst k0; simp only [Nat.add_zero] at e0 ⊢; simp [e0]
  by_cases kq : k = q
  · subst kq; simp only [k5, k4, k3, k2, k1, k0, if_false, if_true]; exact h2
  by_cases kp : k = p
  · subst kp; simp only [k5, k4, k3, k2, k1, k0, kq, if_false, if_true]; exact h1
  simp only [k5, k4, k3, k2, k1, k0, kq, kp, if_false]
  exact hn k kp kq (by omega)
theorem unlisted {L : Array Bool} {i : Nat} (h : L.getD i true = false) : L.getD i false = false := by
  rcases Nat.lt_or_ge i L.size with h' | h'
  · simp [h'] at h ⊢; exact h
  · simp [Array.getElem?_eq_none h'] at h
/-- Where nothing may come up any more, everything is listed. -/
theorem all_listed {md : Region.Mode} {ops : Array Oper} {L : Array Bool} (hs : L.size = ops.size) (htopo : ((List.range ops.size).all fun j => ((ops[j]?).map fun o => o.after.all fun e => !Region.binds md e || decide (e.on < j)).getD false) = true)
    (hr : Region.ready md ops L = []) : ∀ n j, j < n → j < ops.size → L.getD j false = true := by
  intro n
  induction n with
  | zero => intro j h; omega
  | succ n ih =>
    intro j hj hjs
    cases hl : L.getD j false with
    | true => rfl
    | false =>
      exfalso
      have hjr : j ∈ Region.ready md ops L := by
        refine mem_ready.2 ⟨?_, ops[j], Array.getElem?_eq_getElem hjs, fun e he hb => ?_⟩
        · have : j < L.size := by omega
          simp [this] at hl ⊢
          exact hl
        · rw [List.all_eq_true] at htopo
          have h1 := htopo j (by simpa using hjs)
          rw [Array.getElem?_eq_getElem hjs, Option.map_some, Option.getD_some, Array.all_eq_true_iff_forall_mem] at h1
          have h2 := h1 e he
          rw [hb] at h2
          simp at h2
          exact ih e.on (by omega) (by omega)
      rw [hr] at hjr
      cases hjr
end Go.Gar
