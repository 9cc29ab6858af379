/-
  Tokens of LZ77 as lists: what is found, what is put, what tokens stand for; that bytes come back of their tokens. Of no program. Tokens of LZ77: bytes come back of their tokens; each may be; literals stand apart; bytes that stand there twice. Of no program.
-/
namespace Go.Gar.Lz

structure Tok where
  lit : List UInt8
  len : Int
  dist : Int
deriving DecidableEq

/-- How many bytes are the same at two places, from n on. -/
def run (b : List UInt8) (i k : Nat) : Nat → Nat → Nat
  | 0, n => n
  | f + 1, n => if n < 130 ∧ k + n < b.length ∧ b[i + n]? = b[k + n]? then run b i k f (n + 1) else n
def same (b : List UInt8) (i k : Nat) : Nat := run b i k 130 0

theorem run_ge (b : List UInt8) (i k : Nat) : ∀ f n, n ≤ run b i k f n
  | 0, n => Nat.le_refl _
  | f + 1, n => by
    unfold run
    split
    · exact Nat.le_trans (Nat.le_succ n) (run_ge b i k f (n + 1))
    · exact Nat.le_refl _
theorem run_in (b : List UInt8) (i k : Nat) : ∀ f n j, n ≤ j → j < run b i k f n → j < 130 ∧ k + j < b.length ∧ b[i + j]? = b[k + j]?
  | 0, n, j, h1, h2 => by unfold run at h2; omega
  | f + 1, n, j, h1, h2 => by
    unfold run at h2
    split at h2
    · rename_i hc
      by_cases hj : j = n
      · subst hj; exact hc
      · exact run_in b i k f (n + 1) j (by omega) h2
    · omega
theorem run_out (b : List UInt8) (i k : Nat) : ∀ f n, run b i k f n = n + f ∨ ¬(run b i k f n < 130 ∧ k + run b i k f n < b.length ∧ b[i + run b i k f n]? = b[k + run b i k f n]?)
  | 0, n => .inl rfl
  | f + 1, n => by
    unfold run
    split
    · rcases run_out b i k f (n + 1) with h | h
      · left; omega
      · exact .inr h
    · rename_i hc
      exact .inr hc
theorem same_in {b : List UInt8} {i k j : Nat} (h : j < same b i k) : j < 130 ∧ k + j < b.length ∧ b[i + j]? = b[k + j]? := run_in b i k 130 0 j (Nat.zero_le _) h
theorem same_le (b : List UInt8) (i k : Nat) : same b i k ≤ 130 := by
  by_cases h : same b i k = 0
  · omega
  · have := (same_in (b := b) (i := i) (k := k) (j := same b i k - 1) (by omega)).1
    omega
theorem same_fit {b : List UInt8} {i k : Nat} (h : 0 < same b i k) : k + same b i k ≤ b.length := by
  have := (same_in (b := b) (i := i) (k := k) (j := same b i k - 1) (by omega)).2.1
  omega
theorem same_max {b : List UInt8} {i k n : Nat} (h1 : n ≤ 130) (h2 : k + n ≤ b.length) (h3 : ∀ j, j < n → b[i + j]? = b[k + j]?) : n ≤ same b i k := by
  rcases run_out b i k 130 0 with h | h
  · have : same b i k = 130 := by unfold same; omega
    omega
  · rcases Nat.lt_or_ge (same b i k) n with hlt | hge
    · exact absurd ⟨show run b i k 130 0 < 130 by unfold same at hlt; omega, by unfold same at hlt; omega, h3 _ hlt⟩ h
    · exact hge
/-- One more turn of the loop that counts. -/
theorem run_turn {b : List UInt8} {i k n : Nat} (h : n < 130) : run b i k (130 - n) n = if k + n < b.length ∧ b[i + n]? = b[k + n]? then run b i k (130 - (n + 1)) (n + 1) else n := by
  obtain ⟨f, hf⟩ : ∃ f, 130 - n = f + 1 := ⟨130 - n - 1, by omega⟩
  have hf' : 130 - (n + 1) = f := by omega
  rw [hf, hf']
  rw [run]
  by_cases hc : k + n < b.length ∧ b[i + n]? = b[k + n]?
  · rw [if_pos ⟨h, hc⟩, if_pos hc]
  · rw [if_neg (fun x => hc x.2), if_neg hc]

/-- The longest match at a place among the nearest D places, the nearest of several. -/
def bestTo (b : List UInt8) (at_ : Nat) : Nat → Nat × Nat
  | 0 => (0, 0)
  | d + 1 => if 3 ≤ same b (at_ - (d + 1)) at_ ∧ (bestTo b at_ d).1 < same b (at_ - (d + 1)) at_ then (same b (at_ - (d + 1)) at_, d + 1) else bestTo b at_ d
def best (b : List UInt8) (at_ : Nat) : Nat × Nat := bestTo b at_ (min at_ 4096)
theorem bestTo_ok (b : List UInt8) (at_ : Nat) : ∀ D, bestTo b at_ D = (0, 0) ∨ (3 ≤ (bestTo b at_ D).1 ∧ 1 ≤ (bestTo b at_ D).2 ∧ (bestTo b at_ D).2 ≤ D ∧ (bestTo b at_ D).1 = same b (at_ - (bestTo b at_ D).2) at_)
  | 0 => .inl rfl
  | D + 1 => by
    unfold bestTo
    split
    · rename_i h
      exact .inr ⟨h.1, Nat.le_add_left 1 D, Nat.le_refl _, rfl⟩
    · rcases bestTo_ok b at_ D with h | ⟨h1, h2, h3, h4⟩
      · exact .inl h
      · exact .inr ⟨h1, h2, Nat.le_succ_of_le h3, h4⟩
theorem bestTo_max (b : List UInt8) (at_ : Nat) : ∀ D d, 1 ≤ d → d ≤ D → 3 ≤ same b (at_ - d) at_ → same b (at_ - d) at_ ≤ (bestTo b at_ D).1
  | 0, d, h1, h2, _ => by omega
  | D + 1, d, h1, h2, h3 => by
    unfold bestTo
    by_cases hd : d = D + 1
    · subst hd
      split
      · exact Nat.le_refl _
      · rename_i h
        rcases Nat.lt_or_ge (bestTo b at_ D).1 (same b (at_ - (D + 1)) at_) with hlt | hge
        · exact absurd ⟨h3, hlt⟩ h
        · exact hge
    · have := bestTo_max b at_ D d h1 (by omega) h3
      split
      · rename_i h
        exact Nat.le_of_lt (Nat.lt_of_le_of_lt this h.2)
      · exact this
theorem bestTo_first (b : List UInt8) (at_ : Nat) : ∀ D d, 1 ≤ d → d < (bestTo b at_ D).2 → 3 ≤ same b (at_ - d) at_ → same b (at_ - d) at_ < (bestTo b at_ D).1
  | 0, d, _, h, _ => by simp [bestTo] at h
  | D + 1, d, h1, h2, h3 => by
    unfold bestTo at h2 ⊢
    split
    · rename_i h
      rw [if_pos h] at h2
      exact Nat.lt_of_le_of_lt (bestTo_max b at_ D d h1 (Nat.le_of_lt_succ h2) h3) h.2
    · rename_i h
      rw [if_neg h] at h2
      exact bestTo_first b at_ D d h1 h2 h3
/-- What is best is told by three facts. -/
theorem best_eq {b : List UInt8} {at_ n d : Nat} (h3 : 3 ≤ n) (hd : 1 ≤ d) (hD : d ≤ min at_ 4096) (hn : n = same b (at_ - d) at_) (hmax : ∀ e, 1 ≤ e → e ≤ min at_ 4096 → same b (at_ - e) at_ ≤ n) (hfirst : ∀ e, 1 ≤ e → e < d → same b (at_ - e) at_ < n) : best b at_ = (n, d) := by
  have hm := bestTo_max b at_ (min at_ 4096) d hd hD (by omega)
  rcases bestTo_ok b at_ (min at_ 4096) with h | ⟨a1, a2, a3, a4⟩
  · rw [h] at hm; simp at hm; omega
  · have e1 : (bestTo b at_ (min at_ 4096)).1 = n := by
      have := hmax _ a2 a3
      rw [← a4] at this
      omega
    have e2 : (bestTo b at_ (min at_ 4096)).2 = d := by
      rcases Nat.lt_trichotomy (bestTo b at_ (min at_ 4096)).2 d with h | h | h
      · have := hfirst _ a2 h
        omega
      · exact h
      · have := bestTo_first b at_ _ d hd h (by omega)
        omega
    unfold best
    rw [← e1, ← e2]
theorem best_none {b : List UInt8} {at_ : Nat} (h : ∀ e, 1 ≤ e → e ≤ min at_ 4096 → same b (at_ - e) at_ < 3) : best b at_ = (0, 0) := by
  rcases bestTo_ok b at_ (min at_ 4096) with h0 | ⟨a1, a2, a3, a4⟩
  · exact h0
  · have := h _ a2 a3
    omega
theorem best_ok (b : List UInt8) (at_ : Nat) : best b at_ = (0, 0) ∨ (3 ≤ (best b at_).1 ∧ (best b at_).1 ≤ 130 ∧ 1 ≤ (best b at_).2 ∧ (best b at_).2 ≤ at_ ∧ (best b at_).2 ≤ 4096 ∧ (best b at_).1 = same b (at_ - (best b at_).2) at_ ∧ at_ + (best b at_).1 ≤ b.length) := by
  rcases bestTo_ok b at_ (min at_ 4096) with h | ⟨a1, a2, a3, a4⟩
  · exact .inl h
  · refine .inr ⟨a1, ?_, a2, by unfold best; omega, by unfold best; omega, a4, ?_⟩
    · unfold best; rw [a4]; exact same_le _ _ _
    · unfold best
      have h3 := a1
      rw [a4] at h3 ⊢
      exact same_fit (by omega)

/-- A byte behind what stands there: in the last token, or as a new one. -/
def put (out : List Tok) (c : UInt8) : List Tok :=
  match out.getLast? with
  | some t => if t.len = 0 ∧ t.lit.length < 128 then out.dropLast ++ [⟨t.lit ++ [c], t.len, t.dist⟩] else out ++ [⟨[c], 0, 0⟩]
  | none => out ++ [⟨[c], 0, 0⟩]
theorem put_nil (c : UInt8) : put [] c = [⟨[c], 0, 0⟩] := rfl
theorem put_snoc (out : List Tok) (t : Tok) (c : UInt8) : put (out ++ [t]) c = if t.len = 0 ∧ t.lit.length < 128 then out ++ [⟨t.lit ++ [c], t.len, t.dist⟩] else out ++ [t] ++ [⟨[c], 0, 0⟩] := by
  unfold put
  simp

def toks (b : List UInt8) : Nat → Nat → List Tok → List Tok
  | 0, _, out => out
  | f + 1, at_, out => if at_ < b.length then (if 0 < (best b at_).1 then toks b f (at_ + (best b at_).1) (out ++ [⟨[], (best b at_).1, (best b at_).2⟩]) else toks b f (at_ + 1) (put out (b.getD at_ 0))) else out
def tokens (b : List UInt8) : List Tok := toks b b.length 0 []
theorem toks_fuel (b : List UInt8) : ∀ f g at_ out, b.length - at_ ≤ f → b.length - at_ ≤ g → toks b f at_ out = toks b g at_ out
  | 0, 0, at_, out, _, _ => rfl
  | 0, g + 1, at_, out, h, _ => by
    unfold toks
    rw [if_neg (by omega)]
  | f + 1, 0, at_, out, _, h => by
    unfold toks
    rw [if_neg (by omega)]
  | f + 1, g + 1, at_, out, h1, h2 => by
    unfold toks
    by_cases hlt : at_ < b.length
    · rw [if_pos hlt, if_pos hlt]
      by_cases hb : 0 < (best b at_).1
      · rw [if_pos hb, if_pos hb]
        exact toks_fuel b f g _ _ (by omega) (by omega)
      · rw [if_neg hb, if_neg hb]
        exact toks_fuel b f g _ _ (by omega) (by omega)
    · rw [if_neg hlt, if_neg hlt]
/-- What is left of the tokens, at a place. -/
def rest (b : List UInt8) (at_ : Nat) (out : List Tok) : List Tok := toks b (b.length - at_) at_ out
theorem rest_end {b : List UInt8} {at_ : Nat} (h : b.length ≤ at_) (out : List Tok) : rest b at_ out = out := by
  unfold rest
  rw [Nat.sub_eq_zero_of_le h, toks]
theorem rest_match {b : List UInt8} {at_ : Nat} (h : at_ < b.length) (hb : 0 < (best b at_).1) (out : List Tok) : rest b at_ out = rest b (at_ + (best b at_).1) (out ++ [⟨[], (best b at_).1, (best b at_).2⟩]) := by
  unfold rest
  obtain ⟨f, hf⟩ : ∃ f, b.length - at_ = f + 1 := ⟨b.length - at_ - 1, by omega⟩
  rw [hf, toks, if_pos h, if_pos hb]
  exact toks_fuel b _ _ _ _ (by omega) (by omega)
theorem rest_put {b : List UInt8} {at_ : Nat} (h : at_ < b.length) (hb : ¬ 0 < (best b at_).1) (out : List Tok) : rest b at_ out = rest b (at_ + 1) (put out (b.getD at_ 0)) := by
  unfold rest
  obtain ⟨f, hf⟩ : ∃ f, b.length - at_ = f + 1 := ⟨b.length - at_ - 1, by omega⟩
  rw [hf, toks, if_pos h, if_neg hb]
  exact toks_fuel b _ _ _ _ (by omega) (by omega)
theorem rest_start (b : List UInt8) : rest b 0 [] = tokens b := rfl

/-- Tokens that may be. -/
def good (t : Tok) : Bool := if t.lit = [] then decide (2 < t.len ∧ t.len < 131 ∧ 0 < t.dist ∧ t.dist < 4097) else decide (t.lit.length < 129 ∧ t.len = 0 ∧ t.dist = 0)
theorem good_match {n d : Nat} (h1 : 3 ≤ n) (h2 : n ≤ 130) (h3 : 1 ≤ d) (h4 : d ≤ 4096) : good ⟨[], n, d⟩ = true := by
  unfold good
  rw [if_pos rfl, decide_eq_true_eq]
  simp only
  omega
theorem good_lit {l : List UInt8} (h1 : l ≠ []) (h2 : l.length ≤ 128) : good ⟨l, 0, 0⟩ = true := by
  unfold good
  rw [if_neg h1, decide_eq_true_eq]
  exact ⟨by simp only; omega, rfl, rfl⟩
theorem good_len {t : Tok} (h : good t = true) : 0 ≤ t.len ∧ t.len ≤ 130 ∧ 0 ≤ t.dist ∧ t.dist ≤ 4096 ∧ t.lit.length ≤ 128 ∧ (t.lit = [] ∨ (t.len = 0 ∧ t.dist = 0)) ∧ (t.lit = [] → 3 ≤ t.len ∧ 1 ≤ t.dist) := by
  unfold good at h
  split at h
  · rename_i hl
    have := of_decide_eq_true h
    rw [hl]
    exact ⟨by omega, by omega, by omega, by omega, by simp, .inl rfl, fun _ => by omega⟩
  · rename_i hl
    have := of_decide_eq_true h
    exact ⟨by omega, by omega, by omega, by omega, by omega, .inr ⟨this.2.1, this.2.2⟩, fun e => absurd e hl⟩

/-- What tokens stand for. -/
def copyOn (d : Nat) : Nat → List UInt8 → List UInt8
  | 0, out => out
  | k + 1, out => copyOn d k (out ++ [out.getD (out.length - d) 0])
theorem copyOn_len (d : Nat) : ∀ k out, (copyOn d k out).length = out.length + k
  | 0, out => rfl
  | k + 1, out => by
    rw [copyOn, copyOn_len d k, List.length_append, List.length_singleton]; omega
def act (t : Tok) (out : List UInt8) : List UInt8 := copyOn t.dist.toNat t.len.toNat (out ++ t.lit)
theorem act_len (t : Tok) (out : List UInt8) : (act t out).length = out.length + t.lit.length + t.len.toNat := by
  rw [act, copyOn_len, List.length_append]
def expd (most : Int) : List Tok → List UInt8 → Nat × List UInt8
  | [], out => (0, out)
  | t :: ts, out => if good t = false then (3, []) else if (out.length : Int) < t.dist then (12, []) else if most < out.length + t.lit.length + t.len then (2, []) else expd most ts (act t out)
def expand (list : List Tok) (most : Int) : Nat × List UInt8 := expd most list []
theorem expd_append (most : Int) : ∀ xs ys out x, expd most xs out = (0, x) → expd most (xs ++ ys) out = expd most ys x
  | [], ys, out, x, h => by
    obtain rfl : out = x := by simpa [expd] using h
    rfl
  | t :: xs, ys, out, x, h => by
    rw [List.cons_append, expd]
    rw [expd] at h
    split at h
    · simp at h
    · rename_i h1
      rw [if_neg h1]
      split at h
      · simp at h
      · rename_i h2
        rw [if_neg h2]
        split at h
        · simp at h
        · rename_i h3
          rw [if_neg h3]
          exact expd_append most xs ys _ x h
/-- Tokens stand for bytes: whatever room there is beyond them. -/
def Rep (ts : List Tok) (x : List UInt8) : Prop := ∀ M : Int, (x.length : Int) ≤ M → expd M ts [] = (0, x)
theorem Rep.nil : Rep [] [] := fun _ _ => rfl
theorem Rep.snoc {ts : List Tok} {x : List UInt8} {t : Tok} (h : Rep ts x) (hg : good t = true) (hd : t.dist ≤ x.length) : Rep (ts ++ [t]) (act t x) := by
  intro M hM
  have hl := act_len t x
  have h0 := (good_len hg).1
  rw [expd_append M ts [t] [] x (h M (by omega)), expd, if_neg (by simp [hg]), if_neg (by omega), if_neg (by omega)]
  rfl
theorem expd_grow (M : Int) : ∀ ts out x, expd M ts out = (0, x) → out.length ≤ x.length ∧ (ts ≠ [] → (x.length : Int) ≤ M)
  | [], out, x, h => by
    obtain rfl : out = x := by simpa [expd] using h
    exact ⟨Nat.le_refl _, fun h => absurd rfl h⟩
  | t :: ts, out, x, h => by
    rw [expd] at h
    split at h
    · simp at h
    · rename_i h1
      split at h
      · simp at h
      · split at h
        · simp at h
        · rename_i h3
          have hl := act_len t out
          have h0 := (good_len (t := t) (by simpa using h1)).1
          obtain ⟨g1, g2⟩ := expd_grow M ts _ x h
          refine ⟨by omega, fun _ => ?_⟩
          cases ts with
          | nil =>
            obtain rfl : act t out = x := by simpa [expd] using h
            omega
          | cons => exact g2 (by simp)
/-- With too little room the same tokens are refused for that. -/
theorem expd_over (M : Int) : ∀ ts out x (M' : Int), expd M' ts out = (0, x) → (out.length : Int) ≤ M → M < x.length → M ≤ M' → expd M ts out = (2, [])
  | [], out, x, M', h, h1, h2, _ => by
    obtain rfl : out = x := by simpa [expd] using h
    omega
  | t :: ts, out, x, M', h, h1, h2, h3 => by
    rw [expd] at h ⊢
    split at h
    · simp at h
    · rename_i a1
      rw [if_neg a1]
      split at h
      · simp at h
      · rename_i a2
        rw [if_neg a2]
        split at h
        · simp at h
        · by_cases hM : M < out.length + t.lit.length + t.len
          · rw [if_pos hM]
          · rw [if_neg hM]
            have hl := act_len t out
            have h0 := (good_len (t := t) (by simpa using a1)).1
            exact expd_over M ts _ x M' h (by omega) h2 h3
/-- The last token of tokens that stand for bytes. -/
theorem Rep.last {ts : List Tok} {x : List UInt8} {t : Tok} (h : Rep (ts ++ [t]) x) : ∃ y, Rep ts y ∧ x = act t y ∧ good t = true ∧ t.dist ≤ y.length := by
  have key : ∀ (M : Int) (xs : List Tok) (out : List UInt8) (z : List UInt8), expd M (xs ++ [t]) out = (0, z) → ∃ y, expd M xs out = (0, y) ∧ z = act t y ∧ good t = true ∧ t.dist ≤ y.length := by
    intro M xs
    induction xs with
    | nil =>
      intro out z h
      rw [List.nil_append, expd] at h
      split at h
      · simp at h
      · rename_i a1
        split at h
        · simp at h
        · rename_i a2
          split at h
          · simp at h
          · exact ⟨out, rfl, by simpa [expd] using h.symm, by simpa using a1, by omega⟩
    | cons s xs ih =>
      intro out z h
      rw [List.cons_append, expd] at h
      split at h
      · simp at h
      · rename_i a1
        split at h
        · simp at h
        · rename_i a2
          split at h
          · simp at h
          · rename_i a3
            obtain ⟨y, h1, h2⟩ := ih _ z h
            exact ⟨y, by rw [expd, if_neg a1, if_neg a2, if_neg a3]; exact h1, h2⟩
  obtain ⟨y, h1, h2, h3, h4⟩ := key x.length ts [] x (h _ (Int.le_refl _))
  refine ⟨y, fun M hM => ?_, h2, h3, h4⟩
  have hl : x.length = y.length + t.lit.length + t.len.toNat := by rw [h2, act_len]
  by_cases hMx : (x.length : Int) ≤ M
  · obtain ⟨y', g1, g2, _⟩ := key M ts [] x (h M hMx)
    have : y' = y := by
      by_cases hle : (x.length : Int) ≤ M
      · exact expd_same ts [] h1 g1
      · omega
    rw [g1, this]
  · exact expd_room ts [] h1 hM
where
  expd_same {M M' : Int} : ∀ (xs : List Tok) (out : List UInt8) {y y' : List UInt8}, expd M xs out = (0, y) → expd M' xs out = (0, y') → y' = y
    | [], out, y, y', h, h' => by
      simp only [expd, Prod.mk.injEq, true_and] at h h'
      rw [← h, ← h']
    | s :: xs, out, y, y', h, h' => by
      rw [expd] at h h'
      split at h
      · simp at h
      · rename_i a1
        rw [if_neg a1] at h'
        split at h
        · simp at h
        · rename_i a2
          rw [if_neg a2] at h'
          split at h
          · simp at h
          · split at h'
            · simp at h'
            · exact expd_same xs _ h h'
  expd_room {M M' : Int} : ∀ (xs : List Tok) (out : List UInt8) {y : List UInt8}, expd M xs out = (0, y) → (y.length : Int) ≤ M' → expd M' xs out = (0, y)
    | [], out, y, h, _ => h
    | s :: xs, out, y, h, hM => by
      have hh := h
      rw [expd] at h ⊢
      split at h
      · simp at h
      · rename_i a1
        rw [if_neg a1]
        split at h
        · simp at h
        · rename_i a2
          rw [if_neg a2]
          split at h
          · simp at h
          · have hl := act_len s out
            have h0 := (good_len (t := s) (by simpa using a1)).1
            have hg := (expd_grow M xs _ y h).1
            rw [if_neg (by omega)]
            exact expd_room xs _ h hM
end Go.Gar.Lz
namespace Go.Gar.Lz

theorem take_more {b : List UInt8} {a : Nat} (h : a < b.length) : b.take a ++ [b.getD a 0] = b.take (a + 1) := by
  rw [List.take_add_one, List.getD_eq_getElem?_getD, List.getElem?_eq_getElem h]
  rfl
theorem copyOn_same {b : List UInt8} {d : Nat} : ∀ n a, 1 ≤ d → d ≤ a → a ≤ b.length → (∀ j, j < n → a + j < b.length ∧ b[a - d + j]? = b[a + j]?) → copyOn d n (b.take a) = b.take (a + n)
  | 0, a, _, _, _, _ => rfl
  | n + 1, a, h1, h2, h3, h => by
    obtain ⟨h4, h5⟩ := h 0 (Nat.succ_pos n)
    rw [Nat.add_zero] at h4
    rw [Nat.add_zero, Nat.add_zero] at h5
    have hl : (b.take a).length = a := by rw [List.length_take]; omega
    have hg : (b.take a).getD ((b.take a).length - d) 0 = b.getD a 0 := by
      rw [hl, List.getD_eq_getElem?_getD, List.getD_eq_getElem?_getD, List.getElem?_take_of_lt (by omega), h5]
    rw [copyOn, hg, take_more h4, copyOn_same n (a + 1) h1 (by omega) (by omega) (fun j hj => ?_), show a + 1 + n = a + (n + 1) by omega]
    obtain ⟨g1, g2⟩ := h (j + 1) (by omega)
    exact ⟨by omega, by rw [show a + 1 - d + j = a - d + (j + 1) by omega, show a + 1 + j = a + (j + 1) by omega]; exact g2⟩
theorem act_lit (l y : List UInt8) : act ⟨l, 0, 0⟩ y = y ++ l := rfl
theorem act_match (n d : Nat) (y : List UInt8) : act ⟨[], n, d⟩ y = copyOn d n y := by
  unfold act
  simp

/-- Literals stand side by side only where the first is full. -/
def Apart (out : List Tok) : Prop := ∀ i s t, out[i]? = some s → out[i + 1]? = some t → s.lit ≠ [] → t.lit ≠ [] → s.lit.length = 128
theorem Apart.nil : Apart [] := fun i s t h => by simp at h
theorem Apart.snoc {out : List Tok} {t : Tok} (h : Apart out) (hl : ∀ init s, out = init ++ [s] → s.lit ≠ [] → t.lit ≠ [] → s.lit.length = 128) : Apart (out ++ [t]) := by
  intro i s u h1 h2 h3 h4
  rcases Nat.lt_or_ge (i + 1) out.length with hlt | hge
  · rw [List.getElem?_append_left (by omega)] at h1
    rw [List.getElem?_append_left hlt] at h2
    exact h i s u h1 h2 h3 h4
  · have hi : i + 1 = out.length := by
      have := (List.getElem?_eq_some_iff.1 h2).1
      simp at this
      omega
    rw [List.getElem?_append_right (by omega), hi, Nat.sub_self] at h2
    obtain rfl : t = u := by simpa using h2
    rw [List.getElem?_append_left (by omega)] at h1
    have hs : out = out.dropLast ++ [s] := by
      have hne : out ≠ [] := fun e => by rw [e] at hi; simp at hi
      have hg : out.getLast hne = s := by
        rw [List.getLast_eq_getElem]
        have := (List.getElem?_eq_some_iff.1 h1).2
        rw [← this]
        congr 1
        omega
      rw [← hg]
      exact (List.dropLast_concat_getLast hne).symm
    exact hl _ s hs h3 h4
theorem Apart.swap {out : List Tok} {t u : Tok} (h : Apart (out ++ [t])) (ht : t.lit ≠ []) : Apart (out ++ [u]) := by
  have h0 : Apart out := fun i s v h1 h2 => h i s v (by rw [List.getElem?_append_left (List.getElem?_eq_some_iff.1 h1).1]; exact h1) (by rw [List.getElem?_append_left (List.getElem?_eq_some_iff.1 h2).1]; exact h2)
  refine h0.snoc fun init s hs h1 _ => ?_
  subst hs
  exact h init.length s t (by simp) (by simp) h1 ht

/-- What holds of the tokens put down so far. -/
structure Inv (b : List UInt8) (a : Nat) (out : List Tok) : Prop where
  le : a ≤ b.length
  rep : Rep out (b.take a)
  gd : ∀ t ∈ out, good t = true
  ap : Apart out
theorem Inv.start (b : List UInt8) : Inv b 0 [] := ⟨Nat.zero_le _, Rep.nil, fun _ h => by simp at h, Apart.nil⟩
theorem Inv.match_ {b : List UInt8} {a : Nat} {out : List Tok} (h : Inv b a out) (hb : 0 < (best b a).1) : Inv b (a + (best b a).1) (out ++ [⟨[], (best b a).1, (best b a).2⟩]) := by
  rcases best_ok b a with h0 | ⟨h1, h2, h3, h4, h5, h6, h7⟩
  · rw [h0] at hb; simp at hb
  · have hg := good_match h1 h2 h3 h5
    have hle := h.le
    have hr := h.rep.snoc hg (by simp only [List.length_take]; omega)
    rw [act_match, copyOn_same _ _ h3 h4 h.le (fun j hj => by rw [h6] at hj; exact (same_in hj).2)] at hr
    refine ⟨h7, hr, fun t ht => ?_, h.ap.snoc fun _ _ _ _ hx => absurd rfl hx⟩
    rcases List.mem_append.1 ht with ht | ht
    · exact h.gd t ht
    · obtain rfl : t = _ := by simpa using ht
      exact hg
theorem Inv.put_ {b : List UInt8} {a : Nat} {out : List Tok} (h : Inv b a out) (hlt : a < b.length) : Inv b (a + 1) (put out (b.getD a 0)) := by
  have new : (∀ init s, out = init ++ [s] → s.lit ≠ [] → s.lit.length = 128) → Inv b (a + 1) (out ++ [⟨[b.getD a 0], 0, 0⟩]) := by
    intro hs
    have hg := good_lit (l := [b.getD a 0]) (by simp) (by simp)
    have hr := h.rep.snoc hg (by simp)
    rw [act_lit, take_more hlt] at hr
    refine ⟨hlt, hr, fun t ht => ?_, h.ap.snoc fun init s e h1 _ => hs init s e h1⟩
    rcases List.mem_append.1 ht with ht | ht
    · exact h.gd t ht
    · obtain rfl : t = _ := by simpa using ht
      exact hg
  rcases List.eq_nil_or_concat out with rfl | ⟨init, t, rfl⟩
  · rw [put_nil]
    exact new fun init s e => by simp at e
  · rw [List.concat_eq_append] at h new ⊢
    rw [put_snoc]
    have hgt := h.gd t (by simp)
    have hgl := good_len hgt
    by_cases hc : t.len = 0 ∧ t.lit.length < 128
    · rw [if_pos hc]
      have hlit : t.lit ≠ [] := fun e => by have := hgl.2.2.2.2.2.2 e; omega
      have hd : t.dist = 0 := by
        rcases hgl.2.2.2.2.2.1 with e | e
        · exact absurd e hlit
        · exact e.2
      obtain ⟨y, hy, hx, _, _⟩ := h.rep.last
      have ht : t = ⟨t.lit, 0, 0⟩ := by
        rcases t with ⟨l, n, d⟩
        simp only at hc hd
        rw [hc.1, hd]
      have hg := good_lit (l := t.lit ++ [b.getD a 0]) (by simp) (by simp; omega)
      have hr := hy.snoc hg (by simp)
      have e1 : act ⟨t.lit ++ [b.getD a 0], 0, 0⟩ y = b.take (a + 1) := by
        rw [act_lit, ← List.append_assoc, ← act_lit t.lit y, ← ht, ← hx, take_more hlt]
      rw [e1] at hr
      rw [hc.1, hd]
      refine ⟨hlt, hr, fun s hs => ?_, h.ap.swap hlit⟩
      rcases List.mem_append.1 hs with hs | hs
      · exact h.gd s (by simp [hs])
      · obtain rfl : s = _ := by simpa using hs
        exact hg
    · rw [if_neg hc]
      refine new fun init' s e h1 => ?_
      obtain ⟨_, rfl⟩ := List.append_inj' e rfl |>.imp id (fun x => by simpa using x)
      rcases hgl.2.2.2.2.2.1 with e1 | e1
      · exact absurd e1 h1
      · have : ¬ t.lit.length < 128 := fun x => hc ⟨e1.1, x⟩
        omega
theorem Inv.rest_ {b : List UInt8} : ∀ (n a : Nat) (out : List Tok), b.length - a ≤ n → Inv b a out → Inv b b.length (rest b a out)
  | 0, a, out, hn, h => by
    have hle := h.le
    obtain rfl : a = b.length := by omega
    rw [rest_end (Nat.le_refl _)]
    exact h
  | n + 1, a, out, hn, h => by
    by_cases hlt : a < b.length
    · by_cases hb : 0 < (best b a).1
      · rw [rest_match hlt hb]
        exact Inv.rest_ n _ _ (by omega) (h.match_ hb)
      · rw [rest_put hlt hb]
        exact Inv.rest_ n _ _ (by omega) (h.put_ hlt)
    · have hle := h.le
      obtain rfl : a = b.length := by omega
      rw [rest_end (Nat.le_refl _)]
      exact h
theorem tokens_inv (b : List UInt8) : Inv b b.length (tokens b) := Inv.rest_ b.length 0 [] (by omega) (Inv.start b)
theorem tokens_rep (b : List UInt8) : Rep (tokens b) b := by
  have := (tokens_inv b).rep
  rw [List.take_length] at this
  exact this
/-- Bytes come back of their tokens. -/
theorem expand_tokens (b : List UInt8) (M : Int) (h : (b.length : Int) ≤ M) : expand (tokens b) M = (0, b) := tokens_rep b M h
theorem expand_less (b : List UInt8) (h : 0 < b.length) : expand (tokens b) ((b.length : Int) - 1) = (2, []) :=
  expd_over _ (tokens b) [] b b.length (tokens_rep b _ (Int.le_refl _)) (by simp only [List.length_nil]; omega) (by omega) (by omega)

/-! How many literal bytes stand at n0 or behind it. -/
def cnt (n0 : Nat) : List Tok → Nat → Nat → Nat × Nat
  | [], a, p => (a, p)
  | t :: ts, a, p => cnt n0 ts (a + (t.lit.length + t.len.toNat)) (p + (t.lit.length - (n0 - a)))
theorem cnt_append (n0 : Nat) : ∀ xs ys a p, cnt n0 (xs ++ ys) a p = cnt n0 ys (cnt n0 xs a p).1 (cnt n0 xs a p).2
  | [], ys, a, p => rfl
  | t :: xs, ys, a, p => by rw [List.cons_append, cnt, cnt_append n0 xs ys, cnt]
theorem cnt_put (n0 : Nat) (out : List Tok) (c : UInt8) : (cnt n0 (put out c) 0 0).1 = (cnt n0 out 0 0).1 + 1 ∧ (cnt n0 (put out c) 0 0).2 = (cnt n0 out 0 0).2 + (if n0 ≤ (cnt n0 out 0 0).1 then 1 else 0) := by
  have new : (cnt n0 (out ++ [⟨[c], 0, 0⟩]) 0 0).1 = (cnt n0 out 0 0).1 + 1 ∧ (cnt n0 (out ++ [⟨[c], 0, 0⟩]) 0 0).2 = (cnt n0 out 0 0).2 + (if n0 ≤ (cnt n0 out 0 0).1 then 1 else 0) := by
    rw [cnt_append, cnt, cnt]
    refine ⟨by simp, ?_⟩
    simp only [List.length_singleton]
    split <;> omega
  rcases List.eq_nil_or_concat out with rfl | ⟨init, t, rfl⟩
  · exact new
  · rw [List.concat_eq_append] at new ⊢
    rw [put_snoc]
    split
    · rename_i hc
      rw [cnt_append, cnt_append, cnt, cnt, cnt, cnt, hc.1]
      generalize (cnt n0 init 0 0).1 = a
      generalize (cnt n0 init 0 0).2 = p
      refine ⟨by simp; omega, ?_⟩
      simp only [List.length_append, List.length_singleton, Int.toNat_zero, Nat.add_zero]
      split <;> omega
    · exact new
/-- Where behind n0 there is a match as long as three bytes are left. -/
theorem cnt_rest {b : List UInt8} {n0 : Nat} (H : ∀ a, n0 ≤ a → a + 3 ≤ b.length → 0 < (best b a).1) : ∀ (n a : Nat) (out : List Tok), b.length - a ≤ n → a ≤ b.length → (cnt n0 out 0 0).1 = a → (cnt n0 out 0 0).2 ≤ a - (b.length - 2) →
    (cnt n0 (rest b a out) 0 0).1 = b.length ∧ (cnt n0 (rest b a out) 0 0).2 ≤ 2
  | 0, a, out, hn, hle, h1, h2 => by
    obtain rfl : a = b.length := by omega
    rw [rest_end (Nat.le_refl _)]
    exact ⟨h1, by omega⟩
  | n + 1, a, out, hn, hle, h1, h2 => by
    by_cases hlt : a < b.length
    · by_cases hb : 0 < (best b a).1
      · rw [rest_match hlt hb]
        have hfit : a + (best b a).1 ≤ b.length := by
          rcases best_ok b a with h0 | h0
          · rw [h0] at hb; simp at hb
          · exact h0.2.2.2.2.2.2
        refine cnt_rest H n _ _ (by omega) hfit ?_ ?_
        · rw [cnt_append, cnt, cnt, h1]
          simp
        · rw [cnt_append, cnt, cnt, h1]
          simp only [List.length_nil, Nat.zero_sub, Nat.add_zero]
          omega
      · rw [rest_put hlt hb]
        have hc := cnt_put n0 out (b.getD a 0)
        rw [h1] at hc
        refine cnt_rest H n _ _ (by omega) (by omega) hc.1 ?_
        rw [hc.2]
        split
        · rename_i hx
          have : ¬ (a + 3 ≤ b.length) := fun y => hb (H a hx y)
          omega
        · omega
    · obtain rfl : a = b.length := by omega
      rw [rest_end (Nat.le_refl _)]
      exact ⟨h1, by omega⟩
theorem twice_match (x : List UInt8) (hx : x.length ≤ 4096) (h3 : 3 ≤ x.length) (a : Nat) (h1 : x.length ≤ a) (h2 : a + 3 ≤ (x ++ x).length) : 0 < (best (x ++ x) a).1 := by
  have hl : (x ++ x).length = x.length + x.length := List.length_append
  have hs : 3 ≤ same (x ++ x) (a - x.length) a := same_max (by omega) h2 (fun j hj => by
    rw [List.getElem?_append_left (by omega), List.getElem?_append_right (by omega)]
    congr 1
    omega)
  have := bestTo_max (x ++ x) a (min a 4096) x.length (by omega) (by omega) hs
  unfold best
  omega
theorem twice_cnt (x : List UInt8) (hx : x.length ≤ 4096) (h3 : 3 ≤ x.length) : (cnt x.length (tokens (x ++ x)) 0 0).1 = 2 * x.length ∧ (cnt x.length (tokens (x ++ x)) 0 0).2 ≤ 2 := by
  have := cnt_rest (b := x ++ x) (n0 := x.length) (fun a h1 h2 => twice_match x hx h3 a h1 h2) (x ++ x).length 0 [] (by omega) (Nat.zero_le _) rfl (Nat.zero_le _)
  rw [List.length_append] at this
  refine ⟨?_, this.2⟩
  have h := this.1
  rw [rest_start] at h
  omega
theorem tokens_len (b : List UInt8) : (tokens b).length ≤ b.length := by
  have key : ∀ (n a : Nat) (out : List Tok), b.length - a ≤ n → a ≤ b.length → out.length ≤ a → (rest b a out).length ≤ b.length := by
    intro n
    induction n with
    | zero =>
      intro a out hn hle ho
      rw [rest_end (by omega)]; omega
    | succ n ih =>
      intro a out hn hle ho
      by_cases hlt : a < b.length
      · by_cases hb : 0 < (best b a).1
        · rw [rest_match hlt hb]
          have hfit : a + (best b a).1 ≤ b.length := by
            rcases best_ok b a with h0 | h0
            · rw [h0] at hb; simp at hb
            · exact h0.2.2.2.2.2.2
          exact ih _ _ (by omega) hfit (by rw [List.length_append, List.length_singleton]; omega)
        · rw [rest_put hlt hb]
          refine ih _ _ (by omega) (by omega) ?_
          unfold put
          split
          · split
            · rename_i t ht _
              rw [List.length_append, List.length_dropLast, List.length_singleton]; omega
            · rw [List.length_append, List.length_singleton]; omega
          · rw [List.length_append, List.length_singleton]; omega
      · rw [rest_end (by omega)]; omega
  exact key b.length 0 [] (by omega) (Nat.zero_le _) (Nat.le_refl _)
end Go.Gar.Lz
