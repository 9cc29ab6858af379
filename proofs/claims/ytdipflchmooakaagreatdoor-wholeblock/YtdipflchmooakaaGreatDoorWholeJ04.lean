/-
  Tokens as bytes, and bytes packed: lists. Of no program. Tokens in memory: rows of structs that hold a slice of bytes and two numbers. Of no program but api.Token. The numbers of an int. Of no program. Tokens that may be have numbers that an int holds. Of no program but api.Token. Layer 12: what is asked of token's functions (a contract, over whatever the packages' own variables may be). Layer 13: what is asked of pack's functions (a contract, over whatever the packages' own variables may be).
-/
import Derived.Test.YtdipflchmooakaaGreatDoorWholeJ03
import Derived.Test.YtdipflchmooakaaGreatDoorWholeJ01
import Derived.Test.YtdipflchmooakaaGreatDoorWholeJ02
import Derived.IntWalk
set_option maxRecDepth 100000
namespace Go.Gar.Lz

/-- A token as bytes. -/
def encT (t : Tok) : List UInt8 := if t.lit = [] then [UInt8.ofNat (t.len + 125).toNat, UInt8.ofNat ((t.dist - 1).toNat / 256), UInt8.ofNat ((t.dist - 1).toNat % 256)] else UInt8.ofNat (t.lit.length - 1) :: t.lit
def encd : List Tok → List UInt8 → Nat × List UInt8
  | [], out => (0, out)
  | t :: ts, out => if good t = false then (3, []) else encd ts (out ++ encT t)
def encode (l : List Tok) : Nat × List UInt8 := encd l []
/-- Bytes as tokens. -/
def decd : Nat → List UInt8 → List Tok → Nat × List Tok
  | _, [], out => (0, out)
  | 0, _ :: _, _ => (12, [])
  | f + 1, c :: r, out =>
    if 127 < c.toNat then (if r.length < 2 then (12, []) else if 4096 < 256 * (r.getD 0 0).toNat + (r.getD 1 0).toNat + 1 then (12, []) else decd f (r.drop 2) (out ++ [⟨[], (c.toNat : Int) - 125, (256 * (r.getD 0 0).toNat + (r.getD 1 0).toNat + 1 : Nat)⟩]))
    else if r.length < c.toNat + 1 then (12, []) else decd f (r.drop (c.toNat + 1)) (out ++ [⟨r.take (c.toNat + 1), 0, 0⟩])
def decode (b : List UInt8) : Nat × List Tok := decd b.length b []
theorem decd_fuel : ∀ (f g : Nat) (r : List UInt8) (out : List Tok), r.length ≤ f → r.length ≤ g → decd f r out = decd g r out
  | _, _, [], out, _, _ => by unfold decd; rfl
  | 0, _, _ :: _, _, h, _ => by simp at h
  | _, 0, _ :: _, _, _, h => by simp at h
  | f + 1, g + 1, c :: r, out, h1, h2 => by
    rw [List.length_cons] at h1 h2
    rw [decd, decd]
    split
    · split
      · rfl
      · split
        · rfl
        · exact decd_fuel f g _ _ (by rw [List.length_drop]; omega) (by rw [List.length_drop]; omega)
    · split
      · rfl
      · exact decd_fuel f g _ _ (by rw [List.length_drop]; omega) (by rw [List.length_drop]; omega)
/-- What is left to decode. -/
def more (r : List UInt8) (out : List Tok) : Nat × List Tok := decd r.length r out
theorem more_nil (out : List Tok) : more [] out = (0, out) := by unfold more decd; rfl
theorem more_long (c : UInt8) (r : List UInt8) (out : List Tok) (hc : 127 < c.toNat) : more (c :: r) out = if r.length < 2 then (12, []) else if 4096 < 256 * (r.getD 0 0).toNat + (r.getD 1 0).toNat + 1 then (12, []) else more (r.drop 2) (out ++ [⟨[], (c.toNat : Int) - 125, (256 * (r.getD 0 0).toNat + (r.getD 1 0).toNat + 1 : Nat)⟩]) := by
  unfold more
  rw [List.length_cons, decd, if_pos hc]
  split
  · rfl
  · split
    · rfl
    · exact decd_fuel _ _ _ _ (by rw [List.length_drop]; omega) (Nat.le_refl _)
theorem more_match (c x y : UInt8) (r : List UInt8) (out : List Tok) (hc : 127 < c.toNat) : more (c :: x :: y :: r) out = if 4096 < 256 * x.toNat + y.toNat + 1 then (12, []) else more r (out ++ [⟨[], (c.toNat : Int) - 125, (256 * x.toNat + y.toNat + 1 : Nat)⟩]) := by
  rw [more_long _ _ _ hc, if_neg (by simp only [List.length_cons]; omega)]
  rfl
theorem more_short (c : UInt8) (r : List UInt8) (out : List Tok) (hc : 127 < c.toNat) (hr : r.length < 2) : more (c :: r) out = (12, []) := by
  rw [more_long _ _ _ hc, if_pos hr]
theorem more_lit (c : UInt8) (r : List UInt8) (out : List Tok) (hc : ¬ 127 < c.toNat) : more (c :: r) out = if r.length < c.toNat + 1 then (12, []) else more (r.drop (c.toNat + 1)) (out ++ [⟨r.take (c.toNat + 1), 0, 0⟩]) := by
  unfold more
  rw [List.length_cons, decd, if_neg hc]
  split
  · rfl
  · exact decd_fuel _ _ _ _ (by rw [List.length_drop]; omega) (Nat.le_refl _)

theorem good_cases {t : Tok} (h : good t = true) : (∃ n d : Nat, t = ⟨[], n, d⟩ ∧ 3 ≤ n ∧ n ≤ 130 ∧ 1 ≤ d ∧ d ≤ 4096) ∨ (∃ l : List UInt8, t = ⟨l, 0, 0⟩ ∧ 0 < l.length ∧ l.length ≤ 128) := by
  obtain ⟨h1, h2, h3, h4, h5, h6, h7⟩ := good_len h
  rcases t with ⟨l, n, d⟩
  simp only at h1 h2 h3 h4 h5 h6 h7
  by_cases hl : l = []
  · subst hl
    have := h7 rfl
    exact .inl ⟨n.toNat, d.toNat, by rw [Int.toNat_of_nonneg h1, Int.toNat_of_nonneg h3], by omega, by omega, by omega, by omega⟩
  · rcases h6 with e | ⟨e1, e2⟩
    · exact absurd e hl
    · exact .inr ⟨l, by rw [e1, e2], List.length_pos_iff.2 hl, h5⟩
theorem encT_match {n d : Nat} (h1 : n ≤ 130) (h3 : 1 ≤ d) : encT ⟨[], n, d⟩ = [UInt8.ofNat (n + 125), UInt8.ofNat ((d - 1) / 256), UInt8.ofNat ((d - 1) % 256)] := by
  unfold encT
  rw [if_pos rfl]
  simp only
  rw [show ((n : Int) + 125).toNat = n + 125 by omega, show ((d : Int) - 1).toNat = d - 1 by omega]
theorem encT_lit {l : List UInt8} (h : 0 < l.length) : encT ⟨l, 0, 0⟩ = UInt8.ofNat (l.length - 1) :: l := by
  unfold encT
  rw [if_neg (fun e => by simp only at e; rw [e] at h; simp at h)]
theorem nat8 {n : Nat} (h : n < 256) : (UInt8.ofNat n).toNat = n := by
  rw [UInt8.toNat_ofNat']; omega
set_option maxRecDepth 100000 in
/-- A token's bytes are decoded as that token. -/
theorem more_enc {t : Tok} (h : good t = true) (r : List UInt8) (out : List Tok) : more (encT t ++ r) out = more r (out ++ [t]) := by
  rcases good_cases h with ⟨n, d, rfl, h1, h2, h3, h4⟩ | ⟨l, rfl, h1, h2⟩
  · rw [encT_match h2 h3]
    have e1 := nat8 (n := n + 125) (by omega)
    have e2 := nat8 (n := (d - 1) / 256) (by omega)
    have e3 := nat8 (n := (d - 1) % 256) (by omega)
    simp only [List.cons_append, List.nil_append]
    rw [more_match _ _ _ _ _ (by omega), e1, e2, e3, if_neg (by omega)]
    congr 4
    · omega
    · omega
  · rw [encT_lit h1, List.cons_append]
    have e1 := nat8 (n := l.length - 1) (by omega)
    rw [more_lit _ _ _ (by omega), e1, if_neg (by rw [List.length_append]; omega), show l.length - 1 + 1 = l.length by omega, List.take_left' rfl, List.drop_left' rfl]
theorem encd_good : ∀ (l : List Tok) (out x : List UInt8), encd l out = (0, x) → (∀ t ∈ l, good t = true) ∧ x = out ++ l.flatMap encT
  | [], out, x, h => by
    obtain rfl : out = x := by simpa [encd] using h
    exact ⟨fun _ h => by simp at h, by simp⟩
  | t :: l, out, x, h => by
    rw [encd] at h
    split at h
    · simp at h
    · rename_i hg
      obtain ⟨h1, h2⟩ := encd_good l _ x h
      refine ⟨fun s hs => ?_, by rw [h2, List.flatMap_cons, List.append_assoc]⟩
      rcases List.mem_cons.1 hs with rfl | hs
      · simpa using hg
      · exact h1 s hs
theorem encd_of_good : ∀ (l : List Tok) (out : List UInt8), (∀ t ∈ l, good t = true) → encd l out = (0, out ++ l.flatMap encT)
  | [], out, _ => by simp [encd]
  | t :: l, out, h => by
    rw [encd, if_neg (by simp [h t (by simp)]), encd_of_good l _ (fun s hs => h s (by simp [hs])), List.flatMap_cons, List.append_assoc]
theorem encode_cases (l : List Tok) : ((∀ t ∈ l, good t = true) ∧ encode l = (0, l.flatMap encT)) ∨ encode l = (3, []) := by
  by_cases h : ∀ t ∈ l, good t = true
  · left
    have := encd_of_good l [] h
    rw [List.nil_append] at this
    exact ⟨h, this⟩
  · right
    have key : ∀ (l : List Tok) (out : List UInt8), ¬ (∀ t ∈ l, good t = true) → encd l out = (3, []) := by
      intro l
      induction l with
      | nil => intro out h; exact absurd (fun _ h => by simp at h) h
      | cons t l ih =>
        intro out h
        rw [encd]
        by_cases hg : good t = true
        · rw [if_neg (by simp [hg])]
          exact ih _ (fun hh => h fun s hs => by
            rcases List.mem_cons.1 hs with rfl | hs
            · exact hg
            · exact hh s hs)
        · rw [if_pos (by simpa using hg)]
    exact key l [] h
theorem more_flat : ∀ (l : List Tok) (r : List UInt8) (out : List Tok), (∀ t ∈ l, good t = true) → more (l.flatMap encT ++ r) out = more r (out ++ l)
  | [], r, out, _ => by simp
  | t :: l, r, out, h => by
    rw [List.flatMap_cons, List.append_assoc, more_enc (h t (by simp)), more_flat l r _ (fun s hs => h s (by simp [hs])), List.append_assoc]
    rfl
/-- Tokens that may be come back of their bytes. -/
theorem decode_encode {l : List Tok} (h : ∀ t ∈ l, good t = true) : decode (l.flatMap encT) = (0, l) := by
  have := more_flat l [] [] h
  rw [List.append_nil, more_nil, List.nil_append] at this
  exact this
theorem u8_ofNat_toNat (c : UInt8) : UInt8.ofNat c.toNat = c := by simp
/-- Decoded tokens may be, and their bytes are the ones decoded. -/
theorem more_ok : ∀ (n : Nat) (r : List UInt8) (out l : List Tok), r.length ≤ n → more r out = (0, l) → ∃ ts, l = out ++ ts ∧ (∀ t ∈ ts, good t = true) ∧ ts.flatMap encT = r
  | _, [], out, l, _, h => by
    rw [more_nil] at h
    obtain rfl : out = l := by simpa using h
    exact ⟨[], by simp, fun _ h => by simp at h, rfl⟩
  | 0, _ :: _, _, _, hn, _ => by simp at hn
  | n + 1, c :: r, out, l, hn, h => by
    rw [List.length_cons] at hn
    by_cases hc : 127 < c.toNat
    · match r, hn, h with
      | [], _, h => rw [more_short c [] out hc (by simp)] at h; simp at h
      | [x], _, h => rw [more_short c [x] out hc (by simp)] at h; simp at h
      | x :: y :: r', hn, h =>
        rw [more_match _ _ _ _ _ hc] at h
        split at h
        · simp at h
        · rename_i hd
          simp only [List.length_cons] at hn
          obtain ⟨ts, h1, h2, h3⟩ := more_ok n r' _ l (by omega) h
          have hc8 := c.toNat_lt
          have hx8 := x.toNat_lt
          have hy8 := y.toNat_lt
          have hcn : (c.toNat : Int) - 125 = ((c.toNat - 125 : Nat) : Int) := by omega
          have hg := good_match (n := c.toNat - 125) (d := 256 * x.toNat + y.toNat + 1) (by omega) (by omega) (by omega) (by omega)
          rw [hcn] at h1
          refine ⟨⟨[], (c.toNat - 125 : Nat), (256 * x.toNat + y.toNat + 1 : Nat)⟩ :: ts, by rw [h1, List.append_assoc]; rfl, fun t ht => ?_, ?_⟩
          · rcases List.mem_cons.1 ht with rfl | ht
            · exact hg
            · exact h2 t ht
          · rw [List.flatMap_cons, h3, encT_match (by omega) (by omega), show c.toNat - 125 + 125 = c.toNat by omega, show (256 * x.toNat + y.toNat + 1 - 1) / 256 = x.toNat by omega, show (256 * x.toNat + y.toNat + 1 - 1) % 256 = y.toNat by omega, u8_ofNat_toNat, u8_ofNat_toNat, u8_ofNat_toNat]
            rfl
    · rw [more_lit _ _ _ hc] at h
      split at h
      · simp at h
      · rename_i hlen
        obtain ⟨ts, h1, h2, h3⟩ := more_ok n (r.drop (c.toNat + 1)) _ l (by rw [List.length_drop]; omega) h
        have hl : (r.take (c.toNat + 1)).length = c.toNat + 1 := by rw [List.length_take]; omega
        have hg := good_lit (l := r.take (c.toNat + 1)) (fun e => by rw [e] at hl; simp at hl) (by omega)
        refine ⟨⟨r.take (c.toNat + 1), 0, 0⟩ :: ts, by rw [h1, List.append_assoc]; rfl, fun t ht => ?_, ?_⟩
        · rcases List.mem_cons.1 ht with rfl | ht
          · exact hg
          · exact h2 t ht
        · rw [List.flatMap_cons, h3, encT_lit (by omega), hl, Nat.add_sub_cancel, u8_ofNat_toNat, List.cons_append, List.take_append_drop]
theorem decode_ok {b : List UInt8} {l : List Tok} (h : decode b = (0, l)) : (∀ t ∈ l, good t = true) ∧ l.flatMap encT = b := by
  obtain ⟨ts, h1, h2, h3⟩ := more_ok b.length b [] l (Nat.le_refl _) h
  obtain rfl : l = ts := by simpa using h1
  exact ⟨h2, h3⟩
theorem more_code : ∀ (n : Nat) (r : List UInt8) (out : List Tok), r.length ≤ n → (∃ l, more r out = (0, l)) ∨ more r out = (12, [])
  | _, [], out, _ => .inl ⟨out, more_nil out⟩
  | 0, _ :: _, _, hn => by simp at hn
  | n + 1, c :: r, out, hn => by
    rw [List.length_cons] at hn
    by_cases hc : 127 < c.toNat
    · match r, hn with
      | [], _ => exact .inr (more_short c [] out hc (by simp))
      | [x], _ => exact .inr (more_short c [x] out hc (by simp))
      | x :: y :: r', hn =>
        rw [more_match _ _ _ _ _ hc]
        simp only [List.length_cons] at hn
        split
        · exact .inr rfl
        · exact more_code n r' _ (by omega)
    · rw [more_lit _ _ _ hc]
      split
      · exact .inr rfl
      · exact more_code n _ _ (by rw [List.length_drop]; omega)
theorem decode_cases (b : List UInt8) : (∃ l, decode b = (0, l)) ∨ decode b = (12, []) := more_code b.length b [] (Nat.le_refl _)

/-! Packed bytes. -/
def packB (b : List UInt8) : Nat × List UInt8 := if 1024 < b.length then (2, []) else if b.length ≤ (encode (tokens b)).2.length then (0, 0 :: b) else (0, 1 :: (encode (tokens b)).2)
def unpackB (p : List UInt8) : Nat × List UInt8 :=
  match p with
  | [] => (12, [])
  | c :: r => if 1 < c.toNat then (12, []) else if c = 0 then (if 1024 < r.length then (12, []) else (0, r)) else
    if (decode r).1 = 0 ∧ (expand (decode r).2 1024).1 = 0 then (0, (expand (decode r).2 1024).2) else (12, [])
theorem encode_tokens (b : List UInt8) : encode (tokens b) = (0, (tokens b).flatMap encT) := by
  rcases encode_cases (tokens b) with h | h
  · exact h.2
  · exfalso
    have := encd_of_good (tokens b) [] (tokens_inv b).gd
    unfold encode at h
    rw [h] at this
    simp at this
theorem unpack_pack {b : List UInt8} (h : b.length ≤ 1024) : (packB b).1 = 0 ∧ unpackB (packB b).2 = (0, b) ∧ (packB b).2.length ≤ b.length + 1 := by
  unfold packB
  rw [if_neg (by omega)]
  split
  · refine ⟨rfl, ?_, by simp⟩
    simp [unpackB]
    omega
  · rename_i hlt
    refine ⟨rfl, ?_, by simp only [List.length_cons]; omega⟩
    have hd : decode (encode (tokens b)).2 = (0, tokens b) := by
      rw [encode_tokens]
      exact decode_encode (tokens_inv b).gd
    have he := expand_tokens b 1024 (by omega)
    unfold unpackB
    simp only
    rw [if_neg (by decide), if_neg (by decide), hd]
    simp only [he]
    simp
theorem expd_max (M : Int) : ∀ ts out x, expd M ts out = (0, x) → (out.length : Int) ≤ M → (x.length : Int) ≤ M
  | [], out, x, h, ho => by
    obtain rfl : out = x := by simpa [expd] using h
    exact ho
  | t :: ts, out, x, h, _ => (expd_grow M (t :: ts) out x h).2 (by simp)
theorem unpack_len {p y : List UInt8} (h : unpackB p = (0, y)) : y.length ≤ 1024 := by
  unfold unpackB at h
  split at h
  · simp at h
  · split at h
    · simp at h
    · split at h
      · split at h
        · simp at h
        · obtain rfl := (Prod.mk.inj h).2; omega
      · split at h
        · rename_i r _ _ hh
          obtain rfl := (Prod.mk.inj h).2
          have := expd_max 1024 (decode r).2 [] (expand (decode r).2 1024).2 (Prod.ext hh.2 rfl) (by simp)
          omega
        · simp at h
end Go.Gar.Lz
namespace Go.Gar
open Go.RowKit

/-- A token in memory. -/
structure Tv where
  A : Option Addr
  l : List UInt8
  c : Nat
  n : Int
  d : Int
def Tv.cells (t : Tv) : List Value := [.slice t.A t.l.length t.c, .int .i64 t.n, .int .i64 t.d]
def Tv.tok (t : Tv) : Lz.Tok := ⟨t.l, t.n, t.d⟩
def cellsT (ts : List Tv) : List Value := ts.flatMap Tv.cells
theorem Tv.cells_len (t : Tv) : t.cells.length = 3 := rfl
theorem cellsT_len (ts : List Tv) : (cellsT ts).length = ts.length * 3 := by
  induction ts with
  | nil => rfl
  | cons t ts ih =>
    unfold cellsT at ih ⊢
    rw [List.flatMap_cons, List.length_append, ih, Tv.cells_len, List.length_cons]; omega
theorem cellsT_snoc (ts : List Tv) (t : Tv) : cellsT (ts ++ [t]) = cellsT ts ++ t.cells := by
  unfold cellsT
  rw [List.flatMap_append]
  simp
theorem cellsT_get (ts : List Tv) (i : Nat) (t : Tv) (h : ts[i]? = some t) (j : Nat) (hj : j < 3) : (cellsT ts)[3 * i + j]? = t.cells[j]? := by
  induction ts generalizing i with
  | nil => simp at h
  | cons s ts ih =>
    unfold cellsT at ih ⊢
    rw [List.flatMap_cons]
    cases i with
    | zero =>
      obtain rfl : s = t := by simpa using h
      rw [List.getElem?_append_left (by rw [Tv.cells_len]; omega)]
      congr 1
      omega
    | succ i =>
      rw [List.getElem?_append_right (by rw [Tv.cells_len]; omega), Tv.cells_len, show 3 * (i + 1) + j - 3 = 3 * i + j by omega]
      exact ih i (by simpa using h)
theorem cellsT_set (ts : List Tv) (i : Nat) (t : Tv) (h : ts[i]? = some t) (j : Nat) (hj : j < 3) (v : Value) (t' : Tv) (ht : t'.cells = t.cells.set j v) : (cellsT ts).set (3 * i + j) v = cellsT (ts.set i t') := by
  induction ts generalizing i with
  | nil => simp at h
  | cons s ts ih =>
    unfold cellsT at ih ⊢
    cases i with
    | zero =>
      obtain rfl : s = t := by simpa using h
      rw [List.set_cons_zero, List.flatMap_cons, List.flatMap_cons, List.set_append_left _ _ (by rw [Tv.cells_len]; omega), ht]
      congr 2
      omega
    | succ i =>
      rw [List.set_cons_succ, List.flatMap_cons, List.flatMap_cons, List.set_append_right _ _ (by rw [Tv.cells_len]; omega), Tv.cells_len, show 3 * (i + 1) + j - 3 = 3 * i + j by omega, ih i (by simpa using h)]
theorem cellsT_one (ts : List Tv) : ∀ u ∈ cellsT ts, u.oneCell' = true := by
  intro u hu
  obtain ⟨t, _, ht⟩ := List.mem_flatMap.1 hu
  simp only [Tv.cells, List.mem_cons, List.not_mem_nil, or_false] at ht
  rcases ht with rfl | rfl | rfl <;> rfl
theorem toks_len (ts : List Tv) : (ts.map Tv.tok).length = ts.length := List.length_map _

/-- The bytes of the tokens' literals lie below B. -/
def Lits (w : World) (B : Nat) (ts : List Tv) : Prop := ∀ t ∈ ts, Rd w B t.A t.l ∧ t.l.length ≤ t.c
theorem Lits.below {w w' : World} {B : Nat} {ts : List Tv} (h : Lits w B ts) (hb : Below B w w') : Lits w' B ts := fun t ht => ⟨(h t ht).1.below hb, (h t ht).2⟩
theorem Lits.more {w : World} {B B' : Nat} {ts : List Tv} (h : Lits w B ts) (hB : B ≤ B') : Lits w B' ts := fun t ht => ⟨(h t ht).1.more hB, (h t ht).2⟩
theorem Lits.nil {w : World} {B : Nat} : Lits w B [] := fun _ h => by simp at h
theorem Lits.snoc {w : World} {B : Nat} {ts : List Tv} {t : Tv} (h : Lits w B ts) (h1 : Rd w B t.A t.l) (h2 : t.l.length ≤ t.c) : Lits w B (ts ++ [t]) := by
  intro s hs
  rcases List.mem_append.1 hs with hs | hs
  · exact h s hs
  · obtain rfl : s = t := by simpa using hs
    exact ⟨h1, h2⟩
/-- What a slice of tokens reads as. -/
structure RdT (w : World) (B : Nat) (A : Option Addr) (ts : List Tv) : Prop where
  row : RdV w B A (cellsT ts)
  lits : Lits w B ts
theorem RdT.below {w w' : World} {B : Nat} {A : Option Addr} {ts : List Tv} (h : RdT w B A ts) (hb : Below B w w') : RdT w' B A ts := ⟨h.row.below hb, h.lits.below hb⟩
theorem RdT.more {w : World} {B B' : Nat} {A : Option Addr} {ts : List Tv} (h : RdT w B A ts) (hB : B ≤ B') : RdT w B' A ts := ⟨h.row.more hB, h.lits.more hB⟩
theorem RdT.nil {w : World} {B : Nat} {A : Option Addr} : RdT w B A [] := ⟨.inl rfl, Lits.nil⟩
/-- Where a token's cells lie. -/
theorem RdT.at_ {w : World} {B : Nat} {A : Option Addr} {ts : List Tv} (h : RdT w B A ts) {i : Nat} {t : Tv} (ht : ts[i]? = some t) : ∃ b o, A = some ⟨b, o, none⟩ ∧ b < B ∧ ∀ j v, j < 3 → t.cells[j]? = some v → w.cell? ⟨b, o + (3 * i + j), none⟩ = some v := by
  rcases h.row with h0 | ⟨b, o, hA, hb, hc⟩
  · have := cellsT_get ts i t ht 0 (by omega)
    rw [h0] at this
    simp [Tv.cells] at this
  · exact ⟨b, o, hA, hb, fun j v hj hv => hc _ _ (by rw [cellsT_get ts i t ht j hj, hv])⟩
theorem RdT.take {w : World} {B : Nat} {A : Option Addr} {ts : List Tv} (h : RdT w B A ts) (k : Nat) : RdT w B A (ts.take k) := by
  refine ⟨?_, fun t ht => h.lits t (List.mem_of_mem_take ht)⟩
  have hpre : cellsT (ts.take k) = (cellsT ts).take (3 * k) := by
    have e : cellsT ts = cellsT (ts.take k) ++ cellsT (ts.drop k) := by
      unfold cellsT
      rw [← List.flatMap_append, List.take_append_drop]
    rcases Nat.lt_or_ge k ts.length with hlt | hge
    · rw [e, List.take_left' (by rw [cellsT_len, List.length_take]; omega)]
    · rw [List.take_of_length_le hge, List.take_of_length_le (by rw [cellsT_len]; omega)]
  rw [hpre]
  rcases h.row with h0 | ⟨b, o, hA, hb, hc⟩
  · rw [h0]; exact .inl (by simp)
  · refine .inr ⟨b, o, hA, hb, fun i u hu => hc i u ?_⟩
    rw [List.getElem?_take] at hu
    split at hu
    · exact hu
    · cases hu

/-- Bytes that lie in a block of bytes. -/
def RdB (w : World) (ub : TypeId) (A : Option Addr) (l : List UInt8) : Prop :=
  l = [] ∨ ∃ g o cs, A = some ⟨g, o, none⟩ ∧ Blk w g ub cs ∧ ∀ i (c : UInt8), l[i]? = some c → cs[o + i]? = some (.int .u8 (c.toNat : Int))
theorem RdB.rd {w : World} {ub : TypeId} {A : Option Addr} {l : List UInt8} (h : RdB w ub A l) : Rd w w.heap.size A l := by
  rcases h with h | ⟨g, o, cs, hA, hB, hc⟩
  · exact .inl h
  · exact .inr ⟨g, o, hA, hB.lt, fun i c hi => by rw [hB.cell]; exact hc i c hi⟩
theorem RdB.grown {w w' : World} {ub : TypeId} {A : Option Addr} {l : List UInt8} {row : Option Nat} (h : RdB w ub A l) (hg : w.grownBy w' row) (hne : ∀ g, row = some g → ∀ cs, ¬ Blk w g ub cs) : RdB w' ub A l := by
  rcases h with h | ⟨g, o, cs, hA, hB, hc⟩
  · exact .inl h
  · exact .inr ⟨g, o, cs, hA, hB.grown hg (fun e => hne g e.symm cs hB), hc⟩
theorem RdB.below {w w' : World} {ub : TypeId} {A : Option Addr} {l : List UInt8} (h : RdB w ub A l) (hb : Below w.heap.size w w') : RdB w' ub A l := by
  rcases h with h | ⟨g, o, cs, hA, hB, hc⟩
  · exact .inl h
  · exact .inr ⟨g, o, cs, hA, hB.below hb hB.lt, hc⟩
theorem RdB.of_row {w : World} {ub : TypeId} {g : Nat} {l : List UInt8} {rest : List Value} (h : Blk w g ub (u8s l ++ rest)) : RdB w ub (some ⟨g, 0, none⟩) l :=
  .inr ⟨g, 0, _, rfl, h, fun i c hi => by
    rw [Nat.zero_add, List.getElem?_append_left (by rw [u8s_len]; exact (List.getElem?_eq_some_iff.1 hi).1), u8s_get, hi]; rfl⟩
def LitB (w : World) (ub : TypeId) (ts : List Tv) : Prop := ∀ t ∈ ts, RdB w ub t.A t.l ∧ t.l.length ≤ t.c
theorem LitB.lits {w : World} {ub : TypeId} {ts : List Tv} (h : LitB w ub ts) : Lits w w.heap.size ts := fun t ht => ⟨(h t ht).1.rd, (h t ht).2⟩
theorem LitB.below {w w' : World} {ub : TypeId} {ts : List Tv} (h : LitB w ub ts) (hb : Below w.heap.size w w') : LitB w' ub ts := fun t ht => ⟨(h t ht).1.below hb, (h t ht).2⟩
theorem LitB.nil {w : World} {ub : TypeId} : LitB w ub [] := fun _ h => by simp at h
/-- A slice of tokens that the call itself made. -/
structure OwnT (w : World) (base : Nat) (e ub : TypeId) (v : Value) (ts : List Tv) : Prop where
  row : w.ownsRow base e 3 v ts.length (cellsT ts)
  lits : LitB w ub ts
section
variable {P : Program} {w w' : World} {base : Nat} {e ub : TypeId} {v : Value} {ts : List Tv}
theorem OwnT.blk (h : OwnT w base e ub v ts) (hk : 0 < ts.length) : ∃ g cap rest, v = .slice (some ⟨g, 0, none⟩) ts.length cap ∧ base ≤ g ∧ ts.length ≤ cap ∧ Blk w g e (cellsT ts ++ rest) := by
  rcases h.row.2 with ⟨_, hn⟩ | ⟨g, cap, cur, rfl, hb, hg, hnc, _, _, htake⟩
  · omega
  · refine ⟨g, cap, cur.toList.drop (ts.length * 3), rfl, hb, hnc, ?_⟩
    have : cellsT ts ++ cur.toList.drop (ts.length * 3) = cur.toList := by
      conv => lhs; arg 1; rw [← htake]
      rw [List.take_append_drop]
    unfold Blk
    rw [this]
    simpa using hg
theorem OwnT.slice (h : OwnT w base e ub v ts) : ∃ A c, v = .slice A ts.length c ∧ ts.length ≤ c ∧ RdT w w.heap.size A ts := by
  by_cases hk : 0 < ts.length
  · obtain ⟨g, cap, rest, hv, _, hc, hb⟩ := h.blk hk
    exact ⟨_, _, hv, hc, .of_blk hb hb.lt, h.lits.lits⟩
  · obtain rfl : ts = [] := List.eq_nil_of_length_eq_zero (by omega)
    rcases h.row.2 with ⟨rfl, hn⟩ | ⟨g, cap, cur, rfl, _, _, hnc, _⟩
    · exact ⟨none, 0, rfl, Nat.le_refl _, RdT.nil⟩
    · exact ⟨_, cap, rfl, hnc, RdT.nil⟩
theorem ownT_made (w : World) (base : Nat) (e ub : TypeId) (hb : base ≤ w.heap.size) : OwnT (w.alloc (.cells #[] e)) base e ub (.slice (some ⟨w.heap.size, 0, none⟩) 0 0) [] :=
  ⟨World.ownsRow_made w #[] 0 hb (by simp [maxLen]) (by simp), LitB.nil⟩
theorem ownT_nil (w : World) (base : Nat) (e ub : TypeId) : OwnT w base e ub (.slice none 0 0) [] := ⟨⟨rfl, .inl ⟨rfl, rfl⟩⟩, LitB.nil⟩
theorem OwnT.block_lt {g : Nat} (h : OwnT w base e ub v ts) (hg : v.ownBlock = some g) : base ≤ g ∧ g < w.heap.size := World.ownsRow.lt h.row g hg
theorem OwnT.typed {g : Nat} (h : OwnT w base e ub v ts) (hg : v.ownBlock = some g) (hne : e ≠ ub) : ∀ cs, ¬ Blk w g ub cs := by
  intro cs hB
  rcases h.row.2 with ⟨rfl, _⟩ | ⟨g', cap, cur, rfl, _, hg', _⟩
  · cases hg
  · obtain rfl : g' = g := by simpa [Value.ownBlock] using hg
    unfold Blk at hB
    rw [hB] at hg'
    simp only [Option.some.injEq, Obj.cells.injEq] at hg'
    exact hne hg'.2.1.symm
theorem OwnT.keep (h : OwnT w base e ub v ts) (hk : ∀ g, v.ownBlock = some g → w'.heap[g]? = w.heap[g]?) (hl : LitB w' ub ts) : OwnT w' base e ub v ts := by
  refine ⟨⟨h.row.1, ?_⟩, hl⟩
  rcases h.row.2 with hn | ⟨g, cap, cur, hv, hb, hg, rest⟩
  · exact .inl hn
  · exact .inr ⟨g, cap, cur, hv, hb, (hk g (by rw [hv]; rfl)).trans hg, rest⟩
theorem OwnT.below (h : OwnT w base e ub v ts) (hb : Below w.heap.size w w') : OwnT w' base e ub v ts :=
  h.keep (fun g hg => hb.block g (h.block_lt hg).2) (h.lits.below hb)
theorem OwnT.alloc (h : OwnT w base e ub v ts) (o : Obj) : OwnT (w.alloc o) base e ub v ts := h.below ((Below.refl _ w).alloc (Nat.le_refl _) o)
theorem OwnT.drew (h : OwnT w base e ub v ts) : OwnT w.drew base e ub v ts := h.below (Below.refl _ w).drew
/-- append of a token that lies in a block of its own. -/
theorem appT (t ty : TypeId) {z : Value} (ht : P.underlying t = some (.slice e)) (hinfo : (P.info? e).map (fun i => (i.zero, i.size, i.bytes)) = some (some z, 3, 40)) (hz : z.cells.size = 3) (hne : e ≠ ub)
    (hown : OwnT w base e ub v ts) (hbase : base ≤ w.heap.size) (g : Nat) (x : Tv) (hB : Blk w g e x.cells) (hx : RdB w ub x.A x.l) (hxc : x.l.length ≤ x.c) (hlen : ts.length + 1 ≤ 1099511627776) (c : Nat) :
    ∃ v' w', (Builtin.append_ #[t, t] ty #[v, .slice (some ⟨g, 0, none⟩) 1 c]).run P w = .ok v' w' ∧ OwnT w' base e ub v' (ts ++ [x]) ∧ Below base w w' ∧ w.grownBy w' v.ownBlock := by
  obtain ⟨i, hi, hzz⟩ := Option.map_eq_some_iff.1 hinfo
  simp only [Prod.mk.injEq] at hzz
  obtain ⟨hz0, hs, hby⟩ := hzz
  obtain ⟨v', w', h1, h2, h3, _⟩ := run_append_own (P := P) w base t ty e i z 3 40 ht hi hz0 hs hby hz (by omega) v ts.length (cellsT ts) hown.row ⟨g, 0, none⟩ 1 c x.cells rfl (by
    intro j u hj
    rw [Addr.add_lit, Nat.zero_add, hB.cell]
    exact hj) (fun u hu => cellsT_one [x] u (by simpa [cellsT] using hu)) (by simp only [maxLen]; omega) (by omega) hbase
  have hl : LitB w' ub (ts ++ [x]) := by
    intro s hs
    have h0 : RdB w ub s.A s.l ∧ s.l.length ≤ s.c := by
      rcases List.mem_append.1 hs with h | h
      · exact hown.lits s h
      · obtain rfl : s = x := by simpa using h
        exact ⟨hx, hxc⟩
    exact ⟨h0.1.grown h3 (fun g' e' => hown.typed e' hne), h0.2⟩
  refine ⟨v', w', h1, ⟨?_, hl⟩, ?_, h3⟩
  · rw [List.length_append, cellsT_snoc]
    exact h2
  · refine ⟨h3.os, h3.tape, h3.output, h3.size, fun k hk => h3.block k (by omega) fun e => ?_⟩
    have := (hown.block_lt e.symm).1
    omega
/-- A token's literal put in its place, in an own row. -/
theorem OwnT.setLit (h : OwnT w base e ub v ts) (hne : e ≠ ub) {g cap : Nat} (hv : v = .slice (some ⟨g, 0, none⟩) ts.length cap) {i : Nat} {t : Tv} (ht : ts[i]? = some t) (A : Option Addr) (l : List UInt8) (c : Nat) (hl : RdB w ub A l) (hc : l.length ≤ c) :
    OwnT (w.setCell ⟨g, 3 * i, none⟩ (.slice A l.length c)) base e ub v (ts.set i ⟨A, l, c, t.n, t.d⟩) := by
  subst hv
  have hty := h.typed (g := g) rfl hne
  have hlit : ∀ (B : Option Addr) (m : List UInt8), RdB w ub B m → RdB (w.setCell ⟨g, 3 * i, none⟩ (.slice A l.length c)) ub B m := by
    intro B m hm
    rcases hm with hm | ⟨g', o, cs, hA, hB, hcs⟩
    · exact .inl hm
    · exact .inr ⟨g', o, cs, hA, hB.far (p := ⟨g, 3 * i, none⟩) (fun e' => hty cs (by rw [← show g' = g from e']; exact hB)) _, hcs⟩
  refine ⟨⟨by rw [cellsT_len], ?_⟩, fun s hs => ?_⟩
  · rcases h.row.2 with ⟨hn, _⟩ | ⟨g', cap', cur, hv', hb, hg, hnc, hmx, hsz, htake⟩
    · cases hn
    · obtain ⟨rfl, rfl⟩ : g = g' ∧ cap = cap' := by simpa using hv'
      have hB : Blk w g e cur.toList := by unfold Blk; simpa using hg
      have hset := hB.set_ (3 * i) (.slice A l.length c)
      have hi : i < ts.length := (List.getElem?_eq_some_iff.1 ht).1
      refine .inr ⟨g, cap, (cur.toList.set (3 * i) (.slice A l.length c)).toArray, by rw [List.length_set], hb, by unfold Blk at hset; exact hset, by rw [List.length_set]; exact hnc, hmx, by simp [hsz], ?_⟩
      rw [List.length_set]
      have := cellsT_set ts i t ht 0 (by omega) (.slice A l.length c) ⟨A, l, c, t.n, t.d⟩ rfl
      rw [Nat.add_zero] at this
      rw [← this, ← htake, List.take_set]
  · rcases List.mem_or_eq_of_mem_set hs with hs | rfl
    · exact ⟨hlit _ _ (h.lits s hs).1, (h.lits s hs).2⟩
    · exact ⟨hlit _ _ hl, hc⟩
end
end Go.Gar
namespace Go.Proofs.YtdipflchmooakaaGreatDoor
open Go.RowKit Go.Gar

theorem Tryz.undTok : Tryz.prog.underlying 61 = some (.struct (Tryz.prog.fieldsOf 61)) := by kernel_rfl
theorem Tryz.undToks : Tryz.prog.underlying 42 = some (.slice 61) := by kernel_rfl
theorem Tryz.infoTok : (Tryz.prog.info? 61).map (fun i => (i.zero, i.size, i.bytes)) = some (some (.agg #[.slice none 0 0, .int .i64 0, .int .i64 0]), 3, 40) := by kernel_rfl
theorem Tryz.sizeTok : (Tryz.prog.info? 61).map (·.size) = some 3 := by kernel_rfl
end Go.Proofs.YtdipflchmooakaaGreatDoor
namespace Go.Proofs.YtdipflchmooakaaGreatDoor
def isI64 (n : Int) : Prop := -9223372036854775808 ≤ n ∧ n ≤ 9223372036854775807
end Go.Proofs.YtdipflchmooakaaGreatDoor
namespace Go.Proofs.YtdipflchmooakaaGreatDoor
open Go.RowKit Go.Gar

/-- Tokens that may be have numbers that an int holds. -/
theorem good_i64 {t : Tv} (h : Lz.good t.tok = true) : isI64 t.n ∧ isI64 t.d := by
  have := Lz.good_len h
  unfold isI64
  have h1 : t.tok.len = t.n := rfl
  have h2 : t.tok.dist = t.d := rfl
  rw [h1, h2] at this
  omega
end Go.Proofs.YtdipflchmooakaaGreatDoor
namespace Go.Proofs.YtdipflchmooakaaGreatDoor
open Go.RowKit Go.Gar

structure TokenOK (G : World → Prop) : Prop where
  keep : ∀ {w w' : World}, G w → Below w.heap.size w w' → G w'
  encode : ∀ (w : World) (A : Option Addr) (ts : List Tv) (c : Nat), G w → RdT w w.heap.size A ts → ts.length ≤ c → ts.length ≤ 100000 → (∀ t ∈ ts, isI64 t.n ∧ isI64 t.d) →
    Calls Tryz.prog 16 #[.slice A ts.length c] w fun e w' => ∃ A' c', e = .returned (.tuple #[.slice A' (Lz.encode (ts.map Tv.tok)).2.length c', .int .i64 (((Lz.encode (ts.map Tv.tok)).1 : Nat) : Int)]) ∧ (Lz.encode (ts.map Tv.tok)).2.length ≤ c' ∧ Rd w' w'.heap.size A' (Lz.encode (ts.map Tv.tok)).2 ∧ Below w.heap.size w w'
  decode : ∀ (w : World) (A : Option Addr) (b : List UInt8) (c : Nat), G w → Rd w w.heap.size A b → b.length ≤ c → b.length ≤ 100000 →
    Calls Tryz.prog 61 #[.slice A b.length c] w fun e w' => ∃ A' c' ts, e = .returned (.tuple #[.slice A' ts.length c', .int .i64 (((Lz.decode b).1 : Nat) : Int)]) ∧ ts.length ≤ c' ∧ RdT w' w'.heap.size A' ts ∧ ts.map Tv.tok = (Lz.decode b).2 ∧ Below w.heap.size w w'
section
variable {G : World → Prop}
theorem tokE_at (hOK : TokenOK G) (w : World) (A : Option Addr) (ts : List Tv) (n c : Nat) (E : Int) (O : List UInt8) (m : Nat) (hG : G w) (hn : n = ts.length) (r : RdT w w.heap.size A ts) (hc : n ≤ c) (hl : n ≤ 100000) (hi : ∀ t ∈ ts, isI64 t.n ∧ isI64 t.d) (hE : E = (((Lz.encode (ts.map Tv.tok)).1 : Nat) : Int)) (hO : O = (Lz.encode (ts.map Tv.tok)).2) (hmm : m = O.length) :
    Calls Tryz.prog 16 #[.slice A n c] w fun e w' => ∃ A' c', e = .returned (.tuple #[.slice A' m c', .int .i64 E]) ∧ m ≤ c' ∧ Rd w' w'.heap.size A' O ∧ Below w.heap.size w w' := by
  subst hn; subst hE; subst hmm; subst hO
  exact hOK.encode w A ts c hG r hc hl hi
theorem tokD_at (hOK : TokenOK G) (w : World) (A : Option Addr) (b : List UInt8) (n c : Nat) (E : Int) (T : List Lz.Tok) (hG : G w) (hn : n = b.length) (r : Rd w w.heap.size A b) (hc : n ≤ c) (hl : n ≤ 100000) (hE : E = (((Lz.decode b).1 : Nat) : Int)) (hT : T = (Lz.decode b).2) :
    Calls Tryz.prog 61 #[.slice A n c] w fun e w' => ∃ A' m c' ts, e = .returned (.tuple #[.slice A' m c', .int .i64 E]) ∧ m = ts.length ∧ m ≤ c' ∧ RdT w' w'.heap.size A' ts ∧ ts.map Tv.tok = T ∧ Below w.heap.size w w' := by
  subst hn; subst hE; subst hT
  refine (hOK.decode w A b c hG r hc hl).mono ?_
  rintro e w' ⟨A', c', ts, rfl, h1, h2, h3, h4⟩
  exact ⟨A', ts.length, c', ts, rfl, rfl, h1, h2, h3, h4⟩
end
theorem goods_i64 {ts : List Tv} (h : ∀ t ∈ ts.map Tv.tok, Lz.good t = true) : ∀ t ∈ ts, isI64 t.n ∧ isI64 t.d := fun _ ht => good_i64 (h _ (List.mem_map_of_mem ht))
end Go.Proofs.YtdipflchmooakaaGreatDoor
namespace Go.Proofs.YtdipflchmooakaaGreatDoor
open Go.RowKit Go.Gar

structure PackOK (G : World → Prop) : Prop where
  keep : ∀ {w w' : World}, G w → Below w.heap.size w w' → G w'
  pack : ∀ (w : World) (A : Option Addr) (b : List UInt8) (c : Nat), G w → Rd w w.heap.size A b → b.length ≤ c → b.length ≤ 100000 →
    Calls Tryz.prog 5 #[.slice A b.length c] w fun e w' => ∃ A' c', e = .returned (.tuple #[.slice A' (Lz.packB b).2.length c', .int .i64 (((Lz.packB b).1 : Nat) : Int)]) ∧ (Lz.packB b).2.length ≤ c' ∧ Rd w' w'.heap.size A' (Lz.packB b).2 ∧ Below w.heap.size w w'
  unpack : ∀ (w : World) (A : Option Addr) (p : List UInt8) (c : Nat), G w → Rd w w.heap.size A p → p.length ≤ c → p.length ≤ 100000 →
    Calls Tryz.prog 15 #[.slice A p.length c] w fun e w' => ∃ A' c', e = .returned (.tuple #[.slice A' (Lz.unpackB p).2.length c', .int .i64 (((Lz.unpackB p).1 : Nat) : Int)]) ∧ (Lz.unpackB p).2.length ≤ c' ∧ Rd w' w'.heap.size A' (Lz.unpackB p).2 ∧ Below w.heap.size w w'
section
variable {G : World → Prop}
theorem pack_at (hOK : PackOK G) (w : World) (A : Option Addr) (b : List UInt8) (n c : Nat) (E : Nat) (O : List UInt8) (m : Nat) (hG : G w) (hn : n = b.length) (r : Rd w w.heap.size A b) (hc : n ≤ c) (hl : n ≤ 100000) (hE : Lz.packB b = (E, O)) (hmm : m = O.length) :
    Calls Tryz.prog 5 #[.slice A n c] w fun e w' => ∃ A' c', e = .returned (.tuple #[.slice A' m c', .int .i64 (E : Int)]) ∧ m ≤ c' ∧ Rd w' w'.heap.size A' O ∧ Below w.heap.size w w' := by
  have h := hOK.pack w A b c hG r (by omega) (by omega)
  rw [hE] at h
  subst hn; subst hmm
  exact h
theorem unpack_at (hOK : PackOK G) (w : World) (A : Option Addr) (p : List UInt8) (n c : Nat) (E : Nat) (O : List UInt8) (m : Nat) (hG : G w) (hn : n = p.length) (r : Rd w w.heap.size A p) (hc : n ≤ c) (hl : n ≤ 100000) (hE : Lz.unpackB p = (E, O)) (hmm : m = O.length) :
    Calls Tryz.prog 15 #[.slice A n c] w fun e w' => ∃ A' c', e = .returned (.tuple #[.slice A' m c', .int .i64 (E : Int)]) ∧ m ≤ c' ∧ Rd w' w'.heap.size A' O ∧ Below w.heap.size w w' := by
  have h := hOK.unpack w A p c hG r (by omega) (by omega)
  rw [hE] at h
  subst hn; subst hmm
  exact h
end
end Go.Proofs.YtdipflchmooakaaGreatDoor
