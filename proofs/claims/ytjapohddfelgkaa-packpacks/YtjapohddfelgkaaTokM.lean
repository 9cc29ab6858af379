/-
  Tokens as bytes, and bytes packed: lists. Of no program.
-/
import Derived.Test.YtjapohddfelgkaaLzN
set_option maxRecDepth 100000
namespace Go.Gar.Lz

/-- A token as bytes. -/
def encT (t : Tok) : List UInt8 := if t.lit = [] then [UInt8.ofNat (t.len + 125).toNat, UInt8.ofNat ((t.dist - 1).toNat / 256), UInt8.ofNat ((t.dist - 1).toNat % 256)] else UInt8.ofNat (t.lit.length - 1) :: t.lit
def encd : List Tok → List UInt8 → Nat × List UInt8
  | [], out => (0, out)
  | t :: ts, out => if good t = false then (3, []) else encd ts (out ++ encT t)
def encode (l : List Tok) : Nat × List UInt8 := encd l []
/-- Bytes as tokens. -/
def decd : Nat → List UInt8 → List Tok → Nat × List Tok
  | _, [], out => (0, out)
  | 0, _ :: _, _ => (12, [])
  | f + 1, c :: r, out =>
    if 127 < c.toNat then (if r.length < 2 then (12, []) else if 4096 < 256 * (r.getD 0 0).toNat + (r.getD 1 0).toNat + 1 then (12, []) else decd f (r.drop 2) (out ++ [⟨[], (c.toNat : Int) - 125, (256 * (r.getD 0 0).toNat + (r.getD 1 0).toNat + 1 : Nat)⟩]))
    else if r.length < c.toNat + 1 then (12, []) else decd f (r.drop (c.toNat + 1)) (out ++ [⟨r.take (c.toNat + 1), 0, 0⟩])
def decode (b : List UInt8) : Nat × List Tok := decd b.length b []
theorem decd_fuel : ∀ (f g : Nat) (r : List UInt8) (out : List Tok), r.length ≤ f → r.length ≤ g → decd f r out = decd g r out
  | _, _, [], out, _, _ => by unfold decd; rfl
  | 0, _, _ :: _, _, h, _ => by simp at h
  | _, 0, _ :: _, _, _, h => by simp at h
  | f + 1, g + 1, c :: r, out, h1, h2 => by
    rw [List.length_cons] at h1 h2
    rw [decd, decd]
    split
    · split
      · rfl
      · split
        · rfl
        · exact decd_fuel f g _ _ (by rw [List.length_drop]; omega) (by rw [List.length_drop]; omega)
    · split
      · rfl
      · exact decd_fuel f g _ _ (by rw [List.length_drop]; omega) (by rw [List.length_drop]; omega)
/-- What is left to decode. -/
def more (r : List UInt8) (out : List Tok) : Nat × List Tok := decd r.length r out
theorem more_nil (out : List Tok) : more [] out = (0, out) := by unfold more decd; rfl
theorem more_long (c : UInt8) (r : List UInt8) (out : List Tok) (hc : 127 < c.toNat) : more (c :: r) out = if r.length < 2 then (12, []) else if 4096 < 256 * (r.getD 0 0).toNat + (r.getD 1 0).toNat + 1 then (12, []) else more (r.drop 2) (out ++ [⟨[], (c.toNat : Int) - 125, (256 * (r.getD 0 0).toNat + (r.getD 1 0).toNat + 1 : Nat)⟩]) := by
  unfold more
  rw [List.length_cons, decd, if_pos hc]
  split
  · rfl
  · split
    · rfl
    · exact decd_fuel _ _ _ _ (by rw [List.length_drop]; omega) (Nat.le_refl _)
theorem more_match (c x y : UInt8) (r : List UInt8) (out : List Tok) (hc : 127 < c.toNat) : more (c :: x :: y :: r) out = if 4096 < 256 * x.toNat + y.toNat + 1 then (12, []) else more r (out ++ [⟨[], (c.toNat : Int) - 125, (256 * x.toNat + y.toNat + 1 : Nat)⟩]) := by
  rw [more_long _ _ _ hc, if_neg (by simp only [List.length_cons]; omega)]
  rfl
theorem more_short (c : UInt8) (r : List UInt8) (out : List Tok) (hc : 127 < c.toNat) (hr : r.length < 2) : more (c :: r) out = (12, []) := by
  rw [more_long _ _ _ hc, if_pos hr]
theorem more_lit (c : UInt8) (r : List UInt8) (out : List Tok) (hc : ¬ 127 < c.toNat) : more (c :: r) out = if r.length < c.toNat + 1 then (12, []) else more (r.drop (c.toNat + 1)) (out ++ [⟨r.take (c.toNat + 1), 0, 0⟩]) := by
  unfold more
  rw [List.length_cons, decd, if_neg hc]
  split
  · rfl
  · exact decd_fuel _ _ _ _ (by rw [List.length_drop]; omega) (Nat.le_refl _)

theorem good_cases {t : Tok} (h : good t = true) : (∃ n d : Nat, t = ⟨[], n, d⟩ ∧ 3 ≤ n ∧ n ≤ 130 ∧ 1 ≤ d ∧ d ≤ 4096) ∨ (∃ l : List UInt8, t = ⟨l, 0, 0⟩ ∧ 0 < l.length ∧ l.length ≤ 128) := by
  obtain ⟨h1, h2, h3, h4, h5, h6, h7⟩ := good_len h
  rcases t with ⟨l, n, d⟩
  simp only at h1 h2 h3 h4 h5 h6 h7
  by_cases hl : l = []
  · subst hl
    have := h7 rfl
    exact .inl ⟨n.toNat, d.toNat, by rw [Int.toNat_of_nonneg h1, Int.toNat_of_nonneg h3], by omega, by omega, by omega, by omega⟩
  · rcases h6 with e | ⟨e1, e2⟩
    · exact absurd e hl
    · exact .inr ⟨l, by rw [e1, e2], List.length_pos_iff.2 hl, h5⟩
theorem encT_match {n d : Nat} (h1 : n ≤ 130) (h3 : 1 ≤ d) : encT ⟨[], n, d⟩ = [UInt8.ofNat (n + 125), UInt8.ofNat ((d - 1) / 256), UInt8.ofNat ((d - 1) % 256)] := by
  unfold encT
  rw [if_pos rfl]
  simp only
  rw [show ((n : Int) + 125).toNat = n + 125 by omega, show ((d : Int) - 1).toNat = d - 1 by omega]
theorem encT_lit {l : List UInt8} (h : 0 < l.length) : encT ⟨l, 0, 0⟩ = UInt8.ofNat (l.length - 1) :: l := by
  unfold encT
  rw [if_neg (fun e => by simp only at e; rw [e] at h; simp at h)]
theorem nat8 {n : Nat} (h : n < 256) : (UInt8.ofNat n).toNat = n := by
  rw [UInt8.toNat_ofNat']; omega
set_option maxRecDepth 100000 in
/-- A token's bytes are decoded as that token. -/
theorem more_enc {t : Tok} (h : good t = true) (r : List UInt8) (out : List Tok) : more (encT t ++ r) out = more r (out ++ [t]) := by
  rcases good_cases h with ⟨n, d, rfl, h1, h2, h3, h4⟩ | ⟨l, rfl, h1, h2⟩
  · rw [encT_match h2 h3]
    have e1 := nat8 (n := n + 125) (by omega)
    have e2 := nat8 (n := (d - 1) / 256) (by omega)
    have e3 := nat8 (n := (d - 1) % 256) (by omega)
    simp only [List.cons_append, List.nil_append]
    rw [more_match _ _ _ _ _ (by omega), e1, e2, e3, if_neg (by omega)]
    congr 4
    · omega
    · omega
  · rw [encT_lit h1, List.cons_append]
    have e1 := nat8 (n := l.length - 1) (by omega)
    rw [more_lit _ _ _ (by omega), e1, if_neg (by rw [List.length_append]; omega), show l.length - 1 + 1 = l.length by omega, List.take_left' rfl, List.drop_left' rfl]
theorem encd_good : ∀ (l : List Tok) (out x : List UInt8), encd l out = (0, x) → (∀ t ∈ l, good t = true) ∧ x = out ++ l.flatMap encT
  | [], out, x, h => by
    obtain rfl : out = x := by simpa [encd] using h
    exact ⟨fun _ h => by simp at h, by simp⟩
  | t :: l, out, x, h => by
    rw [encd] at h
    split at h
    · simp at h
    · rename_i hg
      obtain ⟨h1, h2⟩ := encd_good l _ x h
      refine ⟨fun s hs => ?_, by rw [h2, List.flatMap_cons, List.append_assoc]⟩
      rcases List.mem_cons.1 hs with rfl | hs
      · simpa using hg
      · exact h1 s hs
theorem encd_of_good : ∀ (l : List Tok) (out : List UInt8), (∀ t ∈ l, good t = true) → encd l out = (0, out ++ l.flatMap encT)
  | [], out, _ => by simp [encd]
  | t :: l, out, h => by
    rw [encd, if_neg (by simp [h t (by simp)]), encd_of_good l _ (fun s hs => h s (by simp [hs])), List.flatMap_cons, List.append_assoc]
theorem encode_cases (l : List Tok) : ((∀ t ∈ l, good t = true) ∧ encode l = (0, l.flatMap encT)) ∨ encode l = (3, []) := by
  by_cases h : ∀ t ∈ l, good t = true
  · left
    have := encd_of_good l [] h
    rw [List.nil_append] at this
    exact ⟨h, this⟩
  · right
    have key : ∀ (l : List Tok) (out : List UInt8), ¬ (∀ t ∈ l, good t = true) → encd l out = (3, []) := by
      intro l
      induction l with
      | nil => intro out h; exact absurd (fun _ h => by simp at h) h
      | cons t l ih =>
        intro out h
        rw [encd]
        by_cases hg : good t = true
        · rw [if_neg (by simp [hg])]
          exact ih _ (fun hh => h fun s hs => by
            rcases List.mem_cons.1 hs with rfl | hs
            · exact hg
            · exact hh s hs)
        · rw [if_pos (by simpa using hg)]
    exact key l [] h
theorem more_flat : ∀ (l : List Tok) (r : List UInt8) (out : List Tok), (∀ t ∈ l, good t = true) → more (l.flatMap encT ++ r) out = more r (out ++ l)
  | [], r, out, _ => by simp
  | t :: l, r, out, h => by
    rw [List.flatMap_cons, List.append_assoc, more_enc (h t (by simp)), more_flat l r _ (fun s hs => h s (by simp [hs])), List.append_assoc]
    rfl
/-- Tokens that may be come back of their bytes. -/
theorem decode_encode {l : List Tok} (h : ∀ t ∈ l, good t = true) : decode (l.flatMap encT) = (0, l) := by
  have := more_flat l [] [] h
  rw [List.append_nil, more_nil, List.nil_append] at this
  exact this
theorem u8_ofNat_toNat (c : UInt8) : UInt8.ofNat c.toNat = c := by simp
/-- Decoded tokens may be, and their bytes are the ones decoded. -/
theorem more_ok : ∀ (n : Nat) (r : List UInt8) (out l : List Tok), r.length ≤ n → more r out = (0, l) → ∃ ts, l = out ++ ts ∧ (∀ t ∈ ts, good t = true) ∧ ts.flatMap encT = r
  | _, [], out, l, _, h => by
    rw [more_nil] at h
    obtain rfl : out = l := by simpa using h
    exact ⟨[], by simp, fun _ h => by simp at h, rfl⟩
  | 0, _ :: _, _, _, hn, _ => by simp at hn
  | n + 1, c :: r, out, l, hn, h => by
    rw [List.length_cons] at hn
    by_cases hc : 127 < c.toNat
    · match r, hn, h with
      | [], _, h => rw [more_short c [] out hc (by simp)] at h; simp at h
      | [x], _, h => rw [more_short c [x] out hc (by simp)] at h; simp at h
      | x :: y :: r', hn, h =>
        rw [more_match _ _ _ _ _ hc] at h
        split at h
        · simp at h
        · rename_i hd
          simp only [List.length_cons] at hn
          obtain ⟨ts, h1, h2, h3⟩ := more_ok n r' _ l (by omega) h
          have hc8 := c.toNat_lt
          have hx8 := x.toNat_lt
          have hy8 := y.toNat_lt
          have hcn : (c.toNat : Int) - 125 = ((c.toNat - 125 : Nat) : Int) := by omega
          have hg := good_match (n := c.toNat - 125) (d := 256 * x.toNat + y.toNat + 1) (by omega) (by omega) (by omega) (by omega)
          rw [hcn] at h1
          refine ⟨⟨[], (c.toNat - 125 : Nat), (256 * x.toNat + y.toNat + 1 : Nat)⟩ :: ts, by rw [h1, List.append_assoc]; rfl, fun t ht => ?_, ?_⟩
          · rcases List.mem_cons.1 ht with rfl | ht
            · exact hg
            · exact h2 t ht
          · rw [List.flatMap_cons, h3, encT_match (by omega) (by omega), show c.toNat - 125 + 125 = c.toNat by omega, show (256 * x.toNat + y.toNat + 1 - 1) / 256 = x.toNat by omega, show (256 * x.toNat + y.toNat + 1 - 1) % 256 = y.toNat by omega, u8_ofNat_toNat, u8_ofNat_toNat, u8_ofNat_toNat]
            rfl
    · rw [more_lit _ _ _ hc] at h
      split at h
      · simp at h
      · rename_i hlen
        obtain ⟨ts, h1, h2, h3⟩ := more_ok n (r.drop (c.toNat + 1)) _ l (by rw [List.length_drop]; omega) h
        have hl : (r.take (c.toNat + 1)).length = c.toNat + 1 := by rw [List.length_take]; omega
        have hg := good_lit (l := r.take (c.toNat + 1)) (fun e => by rw [e] at hl; simp at hl) (by omega)
        refine ⟨⟨r.take (c.toNat + 1), 0, 0⟩ :: ts, by rw [h1, List.append_assoc]; rfl, fun t ht => ?_, ?_⟩
        · rcases List.mem_cons.1 ht with rfl | ht
          · exact hg
          · exact h2 t ht
        · rw [List.flatMap_cons, h3, encT_lit (by omega), hl, Nat.add_sub_cancel, u8_ofNat_toNat, List.cons_append, List.take_append_drop]
theorem decode_ok {b : List UInt8} {l : List Tok} (h : decode b = (0, l)) : (∀ t ∈ l, good t = true) ∧ l.flatMap encT = b := by
  obtain ⟨ts, h1, h2, h3⟩ := more_ok b.length b [] l (Nat.le_refl _) h
  obtain rfl : l = ts := by simpa using h1
  exact ⟨h2, h3⟩
theorem more_code : ∀ (n : Nat) (r : List UInt8) (out : List Tok), r.length ≤ n → (∃ l, more r out = (0, l)) ∨ more r out = (12, [])
  | _, [], out, _ => .inl ⟨out, more_nil out⟩
  | 0, _ :: _, _, hn => by simp at hn
  | n + 1, c :: r, out, hn => by
    rw [List.length_cons] at hn
    by_cases hc : 127 < c.toNat
    · match r, hn with
      | [], _ => exact .inr (more_short c [] out hc (by simp))
      | [x], _ => exact .inr (more_short c [x] out hc (by simp))
      | x :: y :: r', hn =>
        rw [more_match _ _ _ _ _ hc]
        simp only [List.length_cons] at hn
        split
        · exact .inr rfl
        · exact more_code n r' _ (by omega)
    · rw [more_lit _ _ _ hc]
      split
      · exact .inr rfl
      · exact more_code n _ _ (by rw [List.length_drop]; omega)
theorem decode_cases (b : List UInt8) : (∃ l, decode b = (0, l)) ∨ decode b = (12, []) := more_code b.length b [] (Nat.le_refl _)

/-! Packed bytes. -/
def packB (b : List UInt8) : Nat × List UInt8 := if 1024 < b.length then (2, []) else if b.length ≤ (encode (tokens b)).2.length then (0, 0 :: b) else (0, 1 :: (encode (tokens b)).2)
def unpackB (p : List UInt8) : Nat × List UInt8 :=
  match p with
  | [] => (12, [])
  | c :: r => if 1 < c.toNat then (12, []) else if c = 0 then (if 1024 < r.length then (12, []) else (0, r)) else
    if (decode r).1 = 0 ∧ (expand (decode r).2 1024).1 = 0 then (0, (expand (decode r).2 1024).2) else (12, [])
theorem encode_tokens (b : List UInt8) : encode (tokens b) = (0, (tokens b).flatMap encT) := by
  rcases encode_cases (tokens b) with h | h
  · exact h.2
  · exfalso
    have := encd_of_good (tokens b) [] (tokens_inv b).gd
    unfold encode at h
    rw [h] at this
    simp at this
theorem unpack_pack {b : List UInt8} (h : b.length ≤ 1024) : (packB b).1 = 0 ∧ unpackB (packB b).2 = (0, b) ∧ (packB b).2.length ≤ b.length + 1 := by
  unfold packB
  rw [if_neg (by omega)]
  split
  · refine ⟨rfl, ?_, by simp⟩
    simp [unpackB]
    omega
  · rename_i hlt
    refine ⟨rfl, ?_, by simp only [List.length_cons]; omega⟩
    have hd : decode (encode (tokens b)).2 = (0, tokens b) := by
      rw [encode_tokens]
      exact decode_encode (tokens_inv b).gd
    have he := expand_tokens b 1024 (by omega)
    unfold unpackB
    simp only
    rw [if_neg (by decide), if_neg (by decide), hd]
    simp only [he]
    simp
theorem expd_max (M : Int) : ∀ ts out x, expd M ts out = (0, x) → (out.length : Int) ≤ M → (x.length : Int) ≤ M
  | [], out, x, h, ho => by
    obtain rfl : out = x := by simpa [expd] using h
    exact ho
  | t :: ts, out, x, h, _ => (expd_grow M (t :: ts) out x h).2 (by simp)
theorem unpack_len {p y : List UInt8} (h : unpackB p = (0, y)) : y.length ≤ 1024 := by
  unfold unpackB at h
  split at h
  · simp at h
  · split at h
    · simp at h
    · split at h
      · split at h
        · simp at h
        · obtain rfl := (Prod.mk.inj h).2; omega
      · split at h
        · rename_i r _ _ hh
          obtain rfl := (Prod.mk.inj h).2
          have := expd_max 1024 (decode r).2 [] (expand (decode r).2 1024).2 (Prod.ext hh.2 rfl) (by simp)
          omega
        · simp at h
end Go.Gar.Lz
