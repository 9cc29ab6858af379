/-
  Tokens of LZ77: bytes come back of their tokens; each may be; literals stand apart; bytes that stand there twice. Of no program.
-/
import Derived.Test.YtjapohddfelgkaaLzM
set_option maxRecDepth 100000
namespace Go.Gar.Lz

theorem take_more {b : List UInt8} {a : Nat} (h : a < b.length) : b.take a ++ [b.getD a 0] = b.take (a + 1) := by
  rw [List.take_add_one, List.getD_eq_getElem?_getD, List.getElem?_eq_getElem h]
  rfl
theorem copyOn_same {b : List UInt8} {d : Nat} : ∀ n a, 1 ≤ d → d ≤ a → a ≤ b.length → (∀ j, j < n → a + j < b.length ∧ b[a - d + j]? = b[a + j]?) → copyOn d n (b.take a) = b.take (a + n)
  | 0, a, _, _, _, _ => rfl
  | n + 1, a, h1, h2, h3, h => by
    obtain ⟨h4, h5⟩ := h 0 (Nat.succ_pos n)
    rw [Nat.add_zero] at h4
    rw [Nat.add_zero, Nat.add_zero] at h5
    have hl : (b.take a).length = a := by rw [List.length_take]; omega
    have hg : (b.take a).getD ((b.take a).length - d) 0 = b.getD a 0 := by
      rw [hl, List.getD_eq_getElem?_getD, List.getD_eq_getElem?_getD, List.getElem?_take_of_lt (by omega), h5]
    rw [copyOn, hg, take_more h4, copyOn_same n (a + 1) h1 (by omega) (by omega) (fun j hj => ?_), show a + 1 + n = a + (n + 1) by omega]
    obtain ⟨g1, g2⟩ := h (j + 1) (by omega)
    exact ⟨by omega, by rw [show a + 1 - d + j = a - d + (j + 1) by omega, show a + 1 + j = a + (j + 1) by omega]; exact g2⟩
theorem act_lit (l y : List UInt8) : act ⟨l, 0, 0⟩ y = y ++ l := rfl
theorem act_match (n d : Nat) (y : List UInt8) : act ⟨[], n, d⟩ y = copyOn d n y := by
  unfold act
  simp

/-- Literals stand side by side only where the first is full. -/
def Apart (out : List Tok) : Prop := ∀ i s t, out[i]? = some s → out[i + 1]? = some t → s.lit ≠ [] → t.lit ≠ [] → s.lit.length = 128
theorem Apart.nil : Apart [] := fun i s t h => by simp at h
theorem Apart.snoc {out : List Tok} {t : Tok} (h : Apart out) (hl : ∀ init s, out = init ++ [s] → s.lit ≠ [] → t.lit ≠ [] → s.lit.length = 128) : Apart (out ++ [t]) := by
  intro i s u h1 h2 h3 h4
  rcases Nat.lt_or_ge (i + 1) out.length with hlt | hge
  · rw [List.getElem?_append_left (by omega)] at h1
    rw [List.getElem?_append_left hlt] at h2
    exact h i s u h1 h2 h3 h4
  · have hi : i + 1 = out.length := by
      have := (List.getElem?_eq_some_iff.1 h2).1
      simp at this
      omega
    rw [List.getElem?_append_right (by omega), hi, Nat.sub_self] at h2
    obtain rfl : t = u := by simpa using h2
    rw [List.getElem?_append_left (by omega)] at h1
    have hs : out = out.dropLast ++ [s] := by
      have hne : out ≠ [] := fun e => by rw [e] at hi; simp at hi
      have hg : out.getLast hne = s := by
        rw [List.getLast_eq_getElem]
        have := (List.getElem?_eq_some_iff.1 h1).2
        rw [← this]
        congr 1
        omega
      rw [← hg]
      exact (List.dropLast_concat_getLast hne).symm
    exact hl _ s hs h3 h4
theorem Apart.swap {out : List Tok} {t u : Tok} (h : Apart (out ++ [t])) (ht : t.lit ≠ []) : Apart (out ++ [u]) := by
  have h0 : Apart out := fun i s v h1 h2 => h i s v (by rw [List.getElem?_append_left (List.getElem?_eq_some_iff.1 h1).1]; exact h1) (by rw [List.getElem?_append_left (List.getElem?_eq_some_iff.1 h2).1]; exact h2)
  refine h0.snoc fun init s hs h1 _ => ?_
  subst hs
  exact h init.length s t (by simp) (by simp) h1 ht

/-- What holds of the tokens put down so far. -/
structure Inv (b : List UInt8) (a : Nat) (out : List Tok) : Prop where
  le : a ≤ b.length
  rep : Rep out (b.take a)
  gd : ∀ t ∈ out, good t = true
  ap : Apart out
theorem Inv.start (b : List UInt8) : Inv b 0 [] := ⟨Nat.zero_le _, Rep.nil, fun _ h => by simp at h, Apart.nil⟩
theorem Inv.match_ {b : List UInt8} {a : Nat} {out : List Tok} (h : Inv b a out) (hb : 0 < (best b a).1) : Inv b (a + (best b a).1) (out ++ [⟨[], (best b a).1, (best b a).2⟩]) := by
  rcases best_ok b a with h0 | ⟨h1, h2, h3, h4, h5, h6, h7⟩
  · rw [h0] at hb; simp at hb
  · have hg := good_match h1 h2 h3 h5
    have hle := h.le
    have hr := h.rep.snoc hg (by simp only [List.length_take]; omega)
    rw [act_match, copyOn_same _ _ h3 h4 h.le (fun j hj => by rw [h6] at hj; exact (same_in hj).2)] at hr
    refine ⟨h7, hr, fun t ht => ?_, h.ap.snoc fun _ _ _ _ hx => absurd rfl hx⟩
    rcases List.mem_append.1 ht with ht | ht
    · exact h.gd t ht
    · obtain rfl : t = _ := by simpa using ht
      exact hg
theorem Inv.put_ {b : List UInt8} {a : Nat} {out : List Tok} (h : Inv b a out) (hlt : a < b.length) : Inv b (a + 1) (put out (b.getD a 0)) := by
  have new : (∀ init s, out = init ++ [s] → s.lit ≠ [] → s.lit.length = 128) → Inv b (a + 1) (out ++ [⟨[b.getD a 0], 0, 0⟩]) := by
    intro hs
    have hg := good_lit (l := [b.getD a 0]) (by simp) (by simp)
    have hr := h.rep.snoc hg (by simp)
    rw [act_lit, take_more hlt] at hr
    refine ⟨hlt, hr, fun t ht => ?_, h.ap.snoc fun init s e h1 _ => hs init s e h1⟩
    rcases List.mem_append.1 ht with ht | ht
    · exact h.gd t ht
    · obtain rfl : t = _ := by simpa using ht
      exact hg
  rcases List.eq_nil_or_concat out with rfl | ⟨init, t, rfl⟩
  · rw [put_nil]
    exact new fun init s e => by simp at e
  · rw [List.concat_eq_append] at h new ⊢
    rw [put_snoc]
    have hgt := h.gd t (by simp)
    have hgl := good_len hgt
    by_cases hc : t.len = 0 ∧ t.lit.length < 128
    · rw [if_pos hc]
      have hlit : t.lit ≠ [] := fun e => by have := hgl.2.2.2.2.2.2 e; omega
      have hd : t.dist = 0 := by
        rcases hgl.2.2.2.2.2.1 with e | e
        · exact absurd e hlit
        · exact e.2
      obtain ⟨y, hy, hx, _, _⟩ := h.rep.last
      have ht : t = ⟨t.lit, 0, 0⟩ := by
        rcases t with ⟨l, n, d⟩
        simp only at hc hd
        rw [hc.1, hd]
      have hg := good_lit (l := t.lit ++ [b.getD a 0]) (by simp) (by simp; omega)
      have hr := hy.snoc hg (by simp)
      have e1 : act ⟨t.lit ++ [b.getD a 0], 0, 0⟩ y = b.take (a + 1) := by
        rw [act_lit, ← List.append_assoc, ← act_lit t.lit y, ← ht, ← hx, take_more hlt]
      rw [e1] at hr
      rw [hc.1, hd]
      refine ⟨hlt, hr, fun s hs => ?_, h.ap.swap hlit⟩
      rcases List.mem_append.1 hs with hs | hs
      · exact h.gd s (by simp [hs])
      · obtain rfl : s = _ := by simpa using hs
        exact hg
    · rw [if_neg hc]
      refine new fun init' s e h1 => ?_
      obtain ⟨_, rfl⟩ := List.append_inj' e rfl |>.imp id (fun x => by simpa using x)
      rcases hgl.2.2.2.2.2.1 with e1 | e1
      · exact absurd e1 h1
      · have : ¬ t.lit.length < 128 := fun x => hc ⟨e1.1, x⟩
        omega
theorem Inv.rest_ {b : List UInt8} : ∀ (n a : Nat) (out : List Tok), b.length - a ≤ n → Inv b a out → Inv b b.length (rest b a out)
  | 0, a, out, hn, h => by
    have hle := h.le
    obtain rfl : a = b.length := by omega
    rw [rest_end (Nat.le_refl _)]
    exact h
  | n + 1, a, out, hn, h => by
    by_cases hlt : a < b.length
    · by_cases hb : 0 < (best b a).1
      · rw [rest_match hlt hb]
        exact Inv.rest_ n _ _ (by omega) (h.match_ hb)
      · rw [rest_put hlt hb]
        exact Inv.rest_ n _ _ (by omega) (h.put_ hlt)
    · have hle := h.le
      obtain rfl : a = b.length := by omega
      rw [rest_end (Nat.le_refl _)]
      exact h
theorem tokens_inv (b : List UInt8) : Inv b b.length (tokens b) := Inv.rest_ b.length 0 [] (by omega) (Inv.start b)
theorem tokens_rep (b : List UInt8) : Rep (tokens b) b := by
  have := (tokens_inv b).rep
  rw [List.take_length] at this
  exact this
/-- Bytes come back of their tokens. -/
theorem expand_tokens (b : List UInt8) (M : Int) (h : (b.length : Int) ≤ M) : expand (tokens b) M = (0, b) := tokens_rep b M h
theorem expand_less (b : List UInt8) (h : 0 < b.length) : expand (tokens b) ((b.length : Int) - 1) = (2, []) :=
  expd_over _ (tokens b) [] b b.length (tokens_rep b _ (Int.le_refl _)) (by simp only [List.length_nil]; omega) (by omega) (by omega)

/-! How many literal bytes stand at n0 or behind it. -/
def cnt (n0 : Nat) : List Tok → Nat → Nat → Nat × Nat
  | [], a, p => (a, p)
  | t :: ts, a, p => cnt n0 ts (a + (t.lit.length + t.len.toNat)) (p + (t.lit.length - (n0 - a)))
theorem cnt_append (n0 : Nat) : ∀ xs ys a p, cnt n0 (xs ++ ys) a p = cnt n0 ys (cnt n0 xs a p).1 (cnt n0 xs a p).2
  | [], ys, a, p => rfl
  | t :: xs, ys, a, p => by rw [List.cons_append, cnt, cnt_append n0 xs ys, cnt]
theorem cnt_put (n0 : Nat) (out : List Tok) (c : UInt8) : (cnt n0 (put out c) 0 0).1 = (cnt n0 out 0 0).1 + 1 ∧ (cnt n0 (put out c) 0 0).2 = (cnt n0 out 0 0).2 + (if n0 ≤ (cnt n0 out 0 0).1 then 1 else 0) := by
  have new : (cnt n0 (out ++ [⟨[c], 0, 0⟩]) 0 0).1 = (cnt n0 out 0 0).1 + 1 ∧ (cnt n0 (out ++ [⟨[c], 0, 0⟩]) 0 0).2 = (cnt n0 out 0 0).2 + (if n0 ≤ (cnt n0 out 0 0).1 then 1 else 0) := by
    rw [cnt_append, cnt, cnt]
    refine ⟨by simp, ?_⟩
    simp only [List.length_singleton]
    split <;> omega
  rcases List.eq_nil_or_concat out with rfl | ⟨init, t, rfl⟩
  · exact new
  · rw [List.concat_eq_append] at new ⊢
    rw [put_snoc]
    split
    · rename_i hc
      rw [cnt_append, cnt_append, cnt, cnt, cnt, cnt, hc.1]
      generalize (cnt n0 init 0 0).1 = a
      generalize (cnt n0 init 0 0).2 = p
      refine ⟨by simp; omega, ?_⟩
      simp only [List.length_append, List.length_singleton, Int.toNat_zero, Nat.add_zero]
      split <;> omega
    · exact new
/-- Where behind n0 there is a match as long as three bytes are left. -/
theorem cnt_rest {b : List UInt8} {n0 : Nat} (H : ∀ a, n0 ≤ a → a + 3 ≤ b.length → 0 < (best b a).1) : ∀ (n a : Nat) (out : List Tok), b.length - a ≤ n → a ≤ b.length → (cnt n0 out 0 0).1 = a → (cnt n0 out 0 0).2 ≤ a - (b.length - 2) →
    (cnt n0 (rest b a out) 0 0).1 = b.length ∧ (cnt n0 (rest b a out) 0 0).2 ≤ 2
  | 0, a, out, hn, hle, h1, h2 => by
    obtain rfl : a = b.length := by omega
    rw [rest_end (Nat.le_refl _)]
    exact ⟨h1, by omega⟩
  | n + 1, a, out, hn, hle, h1, h2 => by
    by_cases hlt : a < b.length
    · by_cases hb : 0 < (best b a).1
      · rw [rest_match hlt hb]
        have hfit : a + (best b a).1 ≤ b.length := by
          rcases best_ok b a with h0 | h0
          · rw [h0] at hb; simp at hb
          · exact h0.2.2.2.2.2.2
        refine cnt_rest H n _ _ (by omega) hfit ?_ ?_
        · rw [cnt_append, cnt, cnt, h1]
          simp
        · rw [cnt_append, cnt, cnt, h1]
          simp only [List.length_nil, Nat.zero_sub, Nat.add_zero]
          omega
      · rw [rest_put hlt hb]
        have hc := cnt_put n0 out (b.getD a 0)
        rw [h1] at hc
        refine cnt_rest H n _ _ (by omega) (by omega) hc.1 ?_
        rw [hc.2]
        split
        · rename_i hx
          have : ¬ (a + 3 ≤ b.length) := fun y => hb (H a hx y)
          omega
        · omega
    · obtain rfl : a = b.length := by omega
      rw [rest_end (Nat.le_refl _)]
      exact ⟨h1, by omega⟩
theorem twice_match (x : List UInt8) (hx : x.length ≤ 4096) (h3 : 3 ≤ x.length) (a : Nat) (h1 : x.length ≤ a) (h2 : a + 3 ≤ (x ++ x).length) : 0 < (best (x ++ x) a).1 := by
  have hl : (x ++ x).length = x.length + x.length := List.length_append
  have hs : 3 ≤ same (x ++ x) (a - x.length) a := same_max (by omega) h2 (fun j hj => by
    rw [List.getElem?_append_left (by omega), List.getElem?_append_right (by omega)]
    congr 1
    omega)
  have := bestTo_max (x ++ x) a (min a 4096) x.length (by omega) (by omega) hs
  unfold best
  omega
theorem twice_cnt (x : List UInt8) (hx : x.length ≤ 4096) (h3 : 3 ≤ x.length) : (cnt x.length (tokens (x ++ x)) 0 0).1 = 2 * x.length ∧ (cnt x.length (tokens (x ++ x)) 0 0).2 ≤ 2 := by
  have := cnt_rest (b := x ++ x) (n0 := x.length) (fun a h1 h2 => twice_match x hx h3 a h1 h2) (x ++ x).length 0 [] (by omega) (Nat.zero_le _) rfl (Nat.zero_le _)
  rw [List.length_append] at this
  refine ⟨?_, this.2⟩
  have h := this.1
  rw [rest_start] at h
  omega
theorem tokens_len (b : List UInt8) : (tokens b).length ≤ b.length := by
  have key : ∀ (n a : Nat) (out : List Tok), b.length - a ≤ n → a ≤ b.length → out.length ≤ a → (rest b a out).length ≤ b.length := by
    intro n
    induction n with
    | zero =>
      intro a out hn hle ho
      rw [rest_end (by omega)]; omega
    | succ n ih =>
      intro a out hn hle ho
      by_cases hlt : a < b.length
      · by_cases hb : 0 < (best b a).1
        · rw [rest_match hlt hb]
          have hfit : a + (best b a).1 ≤ b.length := by
            rcases best_ok b a with h0 | h0
            · rw [h0] at hb; simp at hb
            · exact h0.2.2.2.2.2.2
          exact ih _ _ (by omega) hfit (by rw [List.length_append, List.length_singleton]; omega)
        · rw [rest_put hlt hb]
          refine ih _ _ (by omega) (by omega) ?_
          unfold put
          split
          · split
            · rename_i t ht _
              rw [List.length_append, List.length_dropLast, List.length_singleton]; omega
            · rw [List.length_append, List.length_singleton]; omega
          · rw [List.length_append, List.length_singleton]; omega
      · rw [rest_end (by omega)]; omega
  exact key b.length 0 [] (by omega) (Nat.zero_le _) (Nat.le_refl _)
end Go.Gar.Lz
