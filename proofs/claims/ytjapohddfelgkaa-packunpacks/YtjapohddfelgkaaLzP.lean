/-
  LZ77: the positions in reach that start alike; the best match as a fold over them. Of no program.
-/
import Derived.Test.YtjapohddfelgkaaLzM
set_option maxRecDepth 100000
namespace Go.Gar.Lz

/-- The three bytes at a place (fewer at the end). -/
def key (b : List UInt8) (p : Nat) : List UInt8 := (b.drop p).take 3
theorem key_len {b : List UInt8} {p : Nat} (h : p + 3 ≤ b.length) : (key b p).length = 3 := by
  unfold key
  rw [List.length_take, List.length_drop]; omega
theorem key_ne {b : List UInt8} {p : Nat} {s : List UInt8} (hs : s.length = 3) (h : ¬ p + 3 ≤ b.length) : key b p ≠ s := by
  intro e
  have : (key b p).length = 3 := by rw [e, hs]
  unfold key at this
  rw [List.length_take, List.length_drop] at this
  omega
theorem key_same {b : List UInt8} {p k : Nat} (hp : p < k) (hk : k + 3 ≤ b.length) : key b p = key b k ↔ 3 ≤ same b p k := by
  constructor
  · intro h
    refine same_max (by omega) hk fun j hj => ?_
    have := congrArg (fun l => l[j]?) h
    simp only [key, List.getElem?_take_of_lt hj, List.getElem?_drop] at this
    exact this
  · intro h
    apply List.ext_getElem?
    intro j
    by_cases hj : j < 3
    · simp only [key, List.getElem?_take_of_lt hj, List.getElem?_drop]
      exact (same_in (j := j) (by omega)).2.2
    · rw [List.getElem?_eq_none (by rw [key_len (by omega)]; omega), List.getElem?_eq_none (by rw [key_len hk]; omega)]
/-- The positions of n from lo on that start with s. -/
def winL (b : List UInt8) (lo n : Nat) (s : List UInt8) : List Nat := (List.range' lo n).filter fun p => key b p == s
/-- Those that a match at a place may reach. -/
def win (b : List UInt8) (at_ : Nat) (s : List UInt8) : List Nat := winL b (at_ - 4096) (min at_ 4096) s
/-- Those behind which the earliest has gone. -/
def mid (b : List UInt8) (at_ : Nat) (s : List UInt8) : List Nat := if 4096 ≤ at_ then winL b (at_ - 4096 + 1) 4095 s else win b at_ s
theorem winL_cons (b : List UInt8) (lo n : Nat) (s : List UInt8) : winL b lo (n + 1) s = if key b lo = s then lo :: winL b (lo + 1) n s else winL b (lo + 1) n s := by
  unfold winL
  rw [List.range'_succ, List.filter_cons]
  by_cases h : key b lo = s <;> simp [h]
theorem winL_snoc (b : List UInt8) (lo n : Nat) (s : List UInt8) : winL b lo (n + 1) s = winL b lo n s ++ if key b (lo + n) = s then [lo + n] else [] := by
  unfold winL
  rw [List.range'_1_concat, List.filter_append]
  congr 1
  by_cases h : key b (lo + n) = s <;> simp [h]
theorem win_zero (b : List UInt8) (s : List UInt8) : win b 0 s = [] := rfl
theorem win_first {b : List UInt8} {at_ : Nat} (h : 4096 ≤ at_) : win b at_ (key b (at_ - 4096)) = (at_ - 4096) :: mid b at_ (key b (at_ - 4096)) := by
  unfold win mid
  rw [show min at_ 4096 = 4095 + 1 by omega, winL_cons, if_pos rfl, if_pos h]
theorem win_else {b : List UInt8} {at_ : Nat} {s : List UInt8} (h : 4096 ≤ at_) (hs : s ≠ key b (at_ - 4096)) : win b at_ s = mid b at_ s := by
  unfold win mid
  rw [show min at_ 4096 = 4095 + 1 by omega, winL_cons, if_neg (fun e => hs e.symm), if_pos h]
theorem mid_low {b : List UInt8} {at_ : Nat} (h : ¬ 4096 ≤ at_) : mid b at_ = win b at_ := by
  funext s
  unfold mid
  rw [if_neg h]
theorem win_next (b : List UInt8) (at_ : Nat) (s : List UInt8) : win b (at_ + 1) s = mid b at_ s ++ if key b at_ = s then [at_] else [] := by
  unfold mid
  by_cases h : 4096 ≤ at_
  · rw [if_pos h]
    unfold win
    rw [show at_ + 1 - 4096 = at_ - 4096 + 1 by omega, show min (at_ + 1) 4096 = 4095 + 1 by omega, winL_snoc, show at_ - 4096 + 1 + 4095 = at_ by omega]
  · rw [if_neg h]
    unfold win
    rw [show at_ + 1 - 4096 = 0 by omega, show at_ - 4096 = 0 by omega, show min (at_ + 1) 4096 = at_ + 1 by omega, show min at_ 4096 = at_ by omega, winL_snoc, Nat.zero_add]
theorem winL_in {b : List UInt8} {lo n : Nat} {s : List UInt8} {p : Nat} (h : p ∈ winL b lo n s) : lo ≤ p ∧ p < lo + n ∧ key b p = s := by
  unfold winL at h
  rw [List.mem_filter, List.mem_range'_1] at h
  exact ⟨h.1.1, h.1.2, by simpa using h.2⟩
theorem win_in {b : List UInt8} {at_ : Nat} {s : List UInt8} {p : Nat} (h : p ∈ win b at_ s) : p < at_ ∧ key b p = s := by
  have := winL_in h
  exact ⟨by omega, this.2.2⟩
theorem win_len (b : List UInt8) (at_ : Nat) (s : List UInt8) : (win b at_ s).length ≤ 4096 := by
  unfold win winL
  refine Nat.le_trans (List.length_filter_le _ _) ?_
  rw [List.length_range']; omega

/-- One position tried. -/
def tryP (b : List UInt8) (at_ : Nat) (acc : Nat × Nat) (p : Nat) : Nat × Nat := if acc.1 < same b p at_ then (same b p at_, at_ - p) else acc
theorem tryP_full {b : List UInt8} {at_ : Nat} {acc : Nat × Nat} (h : 130 ≤ acc.1) (p : Nat) : tryP b at_ acc p = acc := by
  unfold tryP
  have := same_le b p at_
  rw [if_neg (by omega)]
theorem tryP_fulls {b : List UInt8} {at_ : Nat} {acc : Nat × Nat} (h : 130 ≤ acc.1) (ps : List Nat) : ps.foldl (tryP b at_) acc = acc := by
  induction ps with
  | nil => rfl
  | cons p ps ih => rw [List.foldl_cons, tryP_full h, ih]
theorem bestTo_fold {b : List UInt8} {at_ : Nat} (hk : at_ + 3 ≤ b.length) : ∀ D, D ≤ at_ → bestTo b at_ D = (winL b (at_ - D) D (key b at_)).foldr (fun p acc => tryP b at_ acc p) (0, 0)
  | 0, _ => rfl
  | D + 1, hD => by
    rw [bestTo, winL_cons, show at_ - (D + 1) + 1 = at_ - D by omega, bestTo_fold hk D (by omega)]
    have hs := key_same (b := b) (p := at_ - (D + 1)) (k := at_) (by omega) hk
    by_cases h : key b (at_ - (D + 1)) = key b at_
    · rw [if_pos h, List.foldr_cons]
      generalize (winL b (at_ - D) D (key b at_)).foldr (fun p acc => tryP b at_ acc p) (0, 0) = acc
      have h3 := hs.1 h
      unfold tryP
      rw [show at_ - (at_ - (D + 1)) = D + 1 by omega]
      by_cases hl : acc.1 < same b (at_ - (D + 1)) at_
      · rw [if_pos hl, if_pos ⟨h3, hl⟩]
      · rw [if_neg hl, if_neg (fun x => hl x.2)]
    · rw [if_neg h, if_neg (fun x => h (hs.2 x.1))]
theorem best_fold {b : List UInt8} {at_ : Nat} (hk : at_ + 3 ≤ b.length) : best b at_ = (win b at_ (key b at_)).reverse.foldl (tryP b at_) (0, 0) := by
  unfold best win
  rw [List.foldl_reverse, bestTo_fold hk _ (by omega)]
  rw [show at_ - min at_ 4096 = at_ - 4096 by omega]
theorem best_short {b : List UInt8} {at_ : Nat} (hk : ¬ at_ + 3 ≤ b.length) : best b at_ = (0, 0) := by
  refine best_none fun e h1 h2 => ?_
  rcases Nat.lt_or_ge (same b (at_ - e) at_) 3 with h | h
  · exact h
  · have := same_fit (b := b) (i := at_ - e) (k := at_) (by omega)
    omega
end Go.Gar.Lz
