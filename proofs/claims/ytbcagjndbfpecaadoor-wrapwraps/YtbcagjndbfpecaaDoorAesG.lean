/-
  The mathematics of the landed aes: columns mixed by tables, rows rotated, the expanded key as one row of bytes.
-/
import Derived.Test.YtbcagjndbfpecaaDoorAesLem
namespace Go.Gar.Aes
open Go.RowKit Go.Gar

def mixA (T : Nat → UInt8 → UInt8) (l : List UInt8) (i : Nat) : Nat → UInt8
  | 0 => 0
  | j + 1 => mixA T l i j ^^^ T j (at_ l (i - i % 4 + (i % 4 + j) % 4))
def mixT (T : Nat → UInt8 → UInt8) (l : List UInt8) : List UInt8 := st fun i => mixA T l i 4
theorem mixT_len (T : Nat → UInt8 → UInt8) (l : List UInt8) : (mixT T l).length = 16 := st_len _
def facs (F : List UInt8) (j : Nat) (a : UInt8) : UInt8 := gm a (at_ F j)
theorem mixT_there (l : List UInt8) : mixT (facs [2, 3, 1, 1]) l = mix l := by
  apply st_congr
  intro i hi
  show 0 ^^^ gm _ 2 ^^^ gm _ 3 ^^^ gm _ 1 ^^^ gm _ 1 = m _ _ _ _
  rw [show i - i % 4 = i / 4 * 4 from by omega, show i / 4 * 4 + (i % 4 + 0) % 4 = i from by omega]
  unfold m
  rw [UInt8.zero_xor, gm_one, gm_one, gm_comm _ 2, gm_comm _ 3]
theorem all256 (p : UInt8 → Bool) (h : Box.all 256 (fun n => p (UInt8.ofNat n)) = true) (a : UInt8) : p a = true := by
  have := Box.all_spec h a.toNat a.toNat_lt
  rwa [UInt8.ofNat_toNat] at this
theorem gm14 (a : UInt8) : gm a 14 = gm 2 (gm 2 (gm 2 a)) ^^^ gm 2 (gm 2 a) ^^^ gm 2 a := by
  have := all256 (fun a => gm a 14 == gm 2 (gm 2 (gm 2 a)) ^^^ gm 2 (gm 2 a) ^^^ gm 2 a) (by decide +kernel) a
  exact eq_of_beq this
theorem gm11 (a : UInt8) : gm a 11 = gm 2 (gm 2 (gm 2 a)) ^^^ gm 2 a ^^^ a := by
  have := all256 (fun a => gm a 11 == gm 2 (gm 2 (gm 2 a)) ^^^ gm 2 a ^^^ a) (by decide +kernel) a
  exact eq_of_beq this
theorem gm13 (a : UInt8) : gm a 13 = gm 2 (gm 2 (gm 2 a)) ^^^ gm 2 (gm 2 a) ^^^ a := by
  have := all256 (fun a => gm a 13 == gm 2 (gm 2 (gm 2 a)) ^^^ gm 2 (gm 2 a) ^^^ a) (by decide +kernel) a
  exact eq_of_beq this
theorem gm9 (a : UInt8) : gm a 9 = gm 2 (gm 2 (gm 2 a)) ^^^ a := by
  have := all256 (fun a => gm a 9 == gm 2 (gm 2 (gm 2 a)) ^^^ a) (by decide +kernel) a
  exact eq_of_beq this
/-- A column mixed three times. -/
theorem m_thrice (a b c d : UInt8) : m (gm 2 (gm 2 a) ^^^ a ^^^ gm 2 (gm 2 c)) (gm 2 (gm 2 b) ^^^ b ^^^ gm 2 (gm 2 d)) (gm 2 (gm 2 c) ^^^ c ^^^ gm 2 (gm 2 a)) (gm 2 (gm 2 d) ^^^ d ^^^ gm 2 (gm 2 b)) = 0 ^^^ gm a 14 ^^^ gm b 11 ^^^ gm c 13 ^^^ gm d 9 := by
  rw [gm14, gm11, gm13, gm9]
  simp only [m, gm_three, gm_right, UInt8.xor_assoc]
  simp only [UInt8.xor_assoc, UInt8.xor_comm, xlc, xc, UInt8.xor_self, UInt8.zero_xor]
theorem mixT_back (l : List UInt8) (h : l.length = 16) : mixT (facs [14, 11, 13, 9]) l = mix3 l := by
  obtain ⟨a0, a1, a2, a3, a4, a5, a6, a7, a8, a9, a10, a11, a12, a13, a14, a15, rfl⟩ := list16 l h
  have e : ∀ a0 a1 a2 a3 a4 a5 a6 a7 a8 a9 a10 a11 a12 a13 a14 a15 : UInt8, mix [a0, a1, a2, a3, a4, a5, a6, a7, a8, a9, a10, a11, a12, a13, a14, a15] =
    [m a0 a1 a2 a3, m a1 a2 a3 a0, m a2 a3 a0 a1, m a3 a0 a1 a2, m a4 a5 a6 a7, m a5 a6 a7 a4, m a6 a7 a4 a5, m a7 a4 a5 a6, m a8 a9 a10 a11, m a9 a10 a11 a8, m a10 a11 a8 a9, m a11 a8 a9 a10, m a12 a13 a14 a15, m a13 a14 a15 a12, m a14 a15 a12 a13, m a15 a12 a13 a14] := fun _ _ _ _ _ _ _ _ _ _ _ _ _ _ _ _ => rfl
  unfold mix3
  rw [e, e]
  simp only [m_twice]
  rw [e]
  simp only [m_thrice]
  rfl

/-- Rows rotated. -/
def rot (n : Nat) (l : List UInt8) : List UInt8 := st fun i => at_ l ((i + 4 * (i % 4) * n) % 16)
theorem rot_len (n : Nat) (l : List UInt8) : (rot n l).length = 16 := st_len _
theorem at_map (l : List UInt8) (f : UInt8 → UInt8) {j : Nat} (h : j < l.length) : at_ (l.map f) j = f (at_ l j) := by
  simp [at_, h]
theorem shift_rot (l : List UInt8) (h : l.length = 16) : rot 1 (l.map sb) = shift l := by
  apply st_congr
  intro i hi
  rw [at_map l sb (by omega), show (i + 4 * (i % 4) * 1) % 16 = (i + i % 4 * 4) % 16 from by omega]
theorem st_map (f : Nat → UInt8) (g : UInt8 → UInt8) : (st f).map g = st fun i => g (f i) := by
  unfold st; rw [List.map_map]; rfl
theorem unshift_rot (l : List UInt8) : (rot 3 l).map ib = unshift l := by
  unfold rot unshift
  rw [st_map]
  apply st_congr
  intro i hi
  rw [show (i + 4 * (i % 4) * 3) % 16 = (i + (4 - i % 4) * 4) % 16 from by omega]

/-- The products of every byte with each factor. -/
def prodT (F : List UInt8) : List UInt8 := (List.range 1024).map fun q => gm (UInt8.ofNat (q % 256)) (at_ F (q / 256))
theorem prodT_len (F : List UInt8) : (prodT F).length = 1024 := by simp [prodT]
theorem prodT_get (F : List UInt8) (i a : Nat) (hi : i < 4) (ha : a < 256) : (prodT F)[256 * i + a]? = some (gm (UInt8.ofNat a) (at_ F i)) := by
  unfold prodT
  rw [List.getElem?_map, List.getElem?_range (by omega), Option.map_some, show (256 * i + a) % 256 = a from by omega, show (256 * i + a) / 256 = i from by omega]
theorem prodT_facs (F : List UInt8) (i : Nat) (a : UInt8) (hi : i < 4) : (prodT F)[256 * i + a.toNat]? = some (facs F i a) := by
  rw [prodT_get F i _ hi a.toNat_lt, UInt8.ofNat_toNat]; rfl

/-- The expanded key, byte by byte. -/
def exK (key : List UInt8) : List UInt8 := (words key (key.length / 4) (4 * (key.length / 4) + 28)).flatten
theorem flat_len (ws : List (List UInt8)) (h : ∀ w ∈ ws, w.length = 4) : ws.flatten.length = 4 * ws.length := by
  induction ws with
  | nil => rfl
  | cons a ws ih => rw [List.flatten_cons, List.length_append, ih (fun w hw => h w (by simp [hw])), h a (by simp), List.length_cons]; omega
theorem flat_get (ws : List (List UInt8)) (h : ∀ w ∈ ws, w.length = 4) (i r : Nat) (hr : r < 4) : ws.flatten[4 * i + r]? = (ws[i]?).bind (·[r]?) := by
  induction ws generalizing i with
  | nil => simp
  | cons a ws ih =>
    have ha := h a (by simp)
    rw [List.flatten_cons]
    cases i with
    | zero => rw [List.getElem?_append_left (by omega)]; simp
    | succ i =>
      rw [List.getElem?_append_right (by omega), ha, show 4 * (i + 1) + r - 4 = 4 * i + r from by omega, ih (fun w hw => h w (by simp [hw]))]
      simp
theorem words_four (key : List UInt8) (n N : Nat) : ∀ w ∈ words key n N, w.length = 4 := by
  intro w hw
  obtain ⟨i, hi⟩ := List.getElem?_of_mem hw
  have hlt : i < N := by
    have := (List.getElem?_eq_some_iff.1 hi).1
    rwa [words_len] at this
  rw [words_get key n hlt] at hi
  injection hi with hi
  rw [← hi]
  exact nextW_len _ _ _ _
theorem exK_len (key : List UInt8) : (exK key).length = 4 * (4 * (key.length / 4) + 28) := by
  unfold exK
  rw [flat_len _ (words_four _ _ _), words_len]
theorem four_get (l : List UInt8) (h : l.length = 4) (r : Nat) (hr : r < 4) : l[r]? = some (at_ l r) := by rw [List.getElem?_eq_getElem (by omega)]; simp [at_, List.getD_eq_getElem?_getD, h, hr]
theorem exK_word (key : List UInt8) (i r : Nat) (hi : i < 4 * (key.length / 4) + 28) (hr : r < 4) : (exK key)[4 * i + r]? = some (at_ (wordAt (words key (key.length / 4) (4 * (key.length / 4) + 28)) i) r) := by
  unfold exK
  rw [flat_get _ (words_four _ _ _) i r hr]
  obtain ⟨x, hx⟩ : ∃ x, (words key (key.length / 4) (4 * (key.length / 4) + 28))[i]? = some x := ⟨_, List.getElem?_eq_getElem (by rw [words_len]; exact hi)⟩
  have h4 := words_four key _ _ x (List.mem_of_getElem? hx)
  rw [hx, Option.bind_some, four_get x h4 r hr, wordAt, List.getD_eq_getElem?_getD, hx]
  rfl
/-- A round's key lies in it. -/
theorem exK_key (key : List UInt8) (q i : Nat) (hq : q ≤ roundsOf key) (hi : i < 16) : (exK key)[16 * q + i]? = some (at_ (keysOf key q) i) := by
  unfold roundsOf at hq
  rw [show 16 * q + i = 4 * (4 * q + i / 4) + i % 4 from by omega, exK_word key _ _ (by omega) (by omega)]
  unfold keysOf rk
  rw [at_st _ _ hi]
/-- Word i of the expanded key. -/
def exW (key : List UInt8) (i : Nat) : List UInt8 := ((exK key).drop (4 * i)).take 4
theorem exW_eq (key : List UInt8) (i : Nat) (hi : i < 4 * (key.length / 4) + 28) : exW key i = nextW key (key.length / 4) (words key (key.length / 4) i) i := by
  have hl := exK_len key
  have hn := nextW_len key (key.length / 4) (words key (key.length / 4) i) i
  apply List.ext_getElem?
  intro r
  by_cases hr : r < 4
  · unfold exW
    rw [List.getElem?_take_of_lt hr, List.getElem?_drop]
    unfold exK
    rw [flat_get _ (words_four _ _ _) i r hr, words_get _ _ hi, Option.bind_some]
  · rw [List.getElem?_eq_none (by unfold exW; simp; omega), List.getElem?_eq_none (by omega)]
theorem exW_key (key : List UInt8) (i : Nat) (hi : i < key.length / 4) : exW key i = [at_ key (4 * i), at_ key (4 * i + 1), at_ key (4 * i + 2), at_ key (4 * i + 3)] := by
  rw [exW_eq key i (by omega), nextW, if_pos hi]
theorem wordAt_words (key : List UInt8) (n i j : Nat) (h : i < j) : wordAt (words key n j) i = nextW key n (words key n i) i := by
  rw [wordAt, List.getD_eq_getElem?_getD, words_get key n h]; rfl
theorem exW_next (key : List UInt8) (i : Nat) (h0 : 0 < key.length / 4) (hi : key.length / 4 ≤ i) (hN : i < 4 * (key.length / 4) + 28) : exW key i = xor4 (turnW (key.length / 4) i (exW key (i - 1))) (exW key (i - key.length / 4)) := by
  rw [exW_eq key i hN, nextW, if_neg (by omega), wordAt_words key _ _ _ (by omega), wordAt_words key _ _ _ (by omega), exW_eq key (i - 1) (by omega), exW_eq key (i - key.length / 4) (by omega)]
theorem exW_len (key : List UInt8) (i : Nat) (hi : i < 4 * (key.length / 4) + 28) : (exW key i).length = 4 := by
  rw [exW_eq key i hi]; exact nextW_len _ _ _ _
theorem exK_at (key : List UInt8) (i r : Nat) (hi : i < 4 * (key.length / 4) + 28) (hr : r < 4) : (exK key)[4 * i + r]? = some (at_ (exW key i) r) := by
  have h := four_get (exW key i) (exW_len key i hi) r hr
  rw [← h, exW, List.getElem?_take_of_lt hr, List.getElem?_drop]
end Go.Gar.Aes
