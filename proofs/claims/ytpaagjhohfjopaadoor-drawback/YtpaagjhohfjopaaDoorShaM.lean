/-
  SHA-256 as plain mathematics on numbers below 2^32 and lists of bytes; its constants by primes and roots. No program's text.
-/
namespace Go.Gar.Sha

def kL : List Nat := [1116352408, 1899447441, 3049323471, 3921009573, 961987163, 1508970993, 2453635748, 2870763221, 3624381080, 310598401, 607225278, 1426881987, 1925078388, 2162078206, 2614888103, 3248222580, 3835390401, 4022224774, 264347078, 604807628, 770255983, 1249150122, 1555081692, 1996064986, 2554220882, 2821834349, 2952996808, 3210313671, 3336571891, 3584528711, 113926993, 338241895, 666307205, 773529912, 1294757372, 1396182291, 1695183700, 1986661051, 2177026350, 2456956037, 2730485921, 2820302411, 3259730800, 3345764771, 3516065817, 3600352804, 4094571909, 275423344, 430227734, 506948616, 659060556, 883997877, 958139571, 1322822218, 1537002063, 1747873779, 1955562222, 2024104815, 2227730452, 2361852424, 2428436474, 2756734187, 3204031479, 3329325298]
def hL : List Nat := [1779033703, 3144134277, 1013904242, 2773480762, 1359893119, 2600822924, 528734635, 1541459225]
def prL : List Nat := [2, 3, 5, 7, 11, 13, 17, 19, 23, 29, 31, 37, 41, 43, 47, 53, 59, 61, 67, 71, 73, 79, 83, 89, 97, 101, 103, 107, 109, 113, 127, 131, 137, 139, 149, 151, 157, 163, 167, 173, 179, 181, 191, 193, 197, 199, 211, 223, 227, 229, 233, 239, 241, 251, 257, 263, 269, 271, 277, 281, 283, 293, 307, 311]

/-- The primes below n, by trial division. -/
def isP (ps : List Nat) (n : Nat) : Bool := ps.all fun p => n % p != 0
def pr : Nat → List Nat
  | 0 => []
  | k + 1 => if isP (pr k) (k + 2) then pr k ++ [k + 2] else pr k
theorem pr_end : pr 310 = prL := by decide +kernel
theorem pr_less : (pr 309).length = 63 := by decide +kernel
theorem pr_mono (k : Nat) : (pr k).length ≤ (pr (k + 1)).length := by
  simp only [pr]
  split
  · simp
  · exact Nat.le_refl _
theorem pr_le {j k : Nat} (h : j ≤ k) : (pr j).length ≤ (pr k).length := by
  induction k with
  | zero => rw [show j = 0 from by omega]; exact Nat.le_refl _
  | succ k ih =>
    by_cases hj : j = k + 1
    · rw [hj]; exact Nat.le_refl _
    · exact Nat.le_trans (ih (by omega)) (pr_mono k)
theorem pr_short {k : Nat} (h : k ≤ 310) : (pr k).length < 64 ↔ k < 310 := by
  constructor
  · intro hl
    by_cases hk : k = 310
    · rw [hk, pr_end] at hl; exact absurd hl (by decide)
    · omega
  · intro hk
    have := pr_le (j := k) (k := 309) (by omega)
    rw [pr_less] at this
    omega
theorem pr_ge (k : Nat) : ∀ p ∈ pr k, 2 ≤ p := by
  induction k with
  | zero => intro p hp; simp [pr] at hp
  | succ k ih =>
    intro p hp
    simp only [pr] at hp
    split at hp
    · rcases List.mem_append.1 hp with h | h
      · exact ih p h
      · simp at h; omega
    · exact ih p hp
theorem pr_lt (k : Nat) : ∀ p ∈ pr k, p < k + 2 := by
  induction k with
  | zero => intro p hp; simp [pr] at hp
  | succ k ih =>
    intro p hp
    simp only [pr] at hp
    split at hp
    · rcases List.mem_append.1 hp with h | h
      · have := ih p h; omega
      · simp at h; omega
    · have := ih p hp; omega

/-- Roots, bit by bit. -/
def good3 (m p : Nat) : Bool := decide (m * m * m / 18446744073709551616 < p * 4294967296) || (m * m * m / 18446744073709551616 == p * 4294967296 && m * m * m % 18446744073709551616 == 0)
def good2 (m p : Nat) : Bool := decide (m * m / 18446744073709551616 < p) || (m * m / 18446744073709551616 == p && m * m % 18446744073709551616 == 0)
def good (third : Bool) (m p : Nat) : Bool := if third then good3 m p else good2 m p
def rootK (p : Nat) (third : Bool) : Nat → Nat
  | 0 => 0
  | k + 1 => if good third (rootK p third k + 2 ^ (35 - k)) p then rootK p third k + 2 ^ (35 - k) else rootK p third k
def root (p : Nat) (third : Bool) : Nat := rootK p third 36 % 4294967296
theorem rootK_le (p : Nat) (third : Bool) (k : Nat) (hk : k ≤ 36) : rootK p third k + 2 ^ (36 - k) ≤ 2 ^ 36 := by
  induction k with
  | zero => simp [rootK]
  | succ k ih =>
    have h := ih (by omega)
    have e : 2 ^ (36 - k) = 2 ^ (35 - k) + 2 ^ (35 - k) := by rw [show 36 - k = (35 - k) + 1 from by omega, Nat.pow_succ]; omega
    rw [show 36 - (k + 1) = 35 - k from by omega]
    simp only [rootK]
    generalize 2 ^ (35 - k) = c at *
    generalize 2 ^ (36 - k) = d at *
    split <;> omega
theorem kL_root : prL.map (fun p => root p true) = kL := by decide +kernel
theorem hL_root : (prL.take 8).map (fun p => root p false) = hL := by decide +kernel
theorem kL_len : kL.length = 64 := by decide +kernel
theorem hL_len : hL.length = 8 := by decide +kernel
theorem prL_len : prL.length = 64 := by decide +kernel
theorem kL_lt : ∀ k ∈ kL, k < 4294967296 := by decide +kernel
theorem hL_lt : ∀ k ∈ hL, k < 4294967296 := by decide +kernel
theorem prL_lt : ∀ k ∈ prL, k < 312 := by decide +kernel
theorem root_lt (p : Nat) (t : Bool) : root p t < 4294967296 := Nat.mod_lt _ (by omega)

def rotr (x n : Nat) : Nat := x / 2 ^ n ||| x * 2 ^ (32 - n) % 4294967296
theorem rotr_lt (x n : Nat) (hx : x < 4294967296) : rotr x n < 4294967296 :=
  Nat.or_lt_two_pow (n := 32) (Nat.lt_of_le_of_lt (Nat.div_le_self _ _) hx) (Nat.mod_lt _ (by omega))
theorem xor_lt {a b : Nat} (ha : a < 4294967296) (hb : b < 4294967296) : a ^^^ b < 4294967296 := Nat.xor_lt_two_pow (n := 32) ha hb
theorem and_lt {a b : Nat} (ha : a < 4294967296) : a &&& b < 4294967296 := Nat.lt_of_le_of_lt Nat.and_le_left ha

def at8 (m : List UInt8) (k : Nat) : Nat := (m.getD k 0).toNat
theorem at8_lt (m : List UInt8) (k : Nat) : at8 m k < 256 := UInt8.toNat_lt _
/-- Four bytes, the most significant first. -/
def word (m : List UInt8) (k : Nat) : Nat := at8 m k * 16777216 + at8 m (k + 1) * 65536 + at8 m (k + 2) * 256 + at8 m (k + 3)
theorem word_lt (m : List UInt8) (k : Nat) : word m k < 4294967296 := by
  have h0 := at8_lt m k
  have h1 := at8_lt m (k + 1)
  have h2 := at8_lt m (k + 2)
  have h3 := at8_lt m (k + 3)
  unfold word
  omega
def s1 (x : Nat) : Nat := rotr x 17 ^^^ rotr x 19 ^^^ x / 1024
def s0 (x : Nat) : Nat := rotr x 7 ^^^ rotr x 18 ^^^ x / 8
theorem s1_lt (x : Nat) (h : x < 4294967296) : s1 x < 4294967296 := xor_lt (xor_lt (rotr_lt _ _ h) (rotr_lt _ _ h)) (by omega)
theorem s0_lt (x : Nat) (h : x < 4294967296) : s0 x < 4294967296 := xor_lt (xor_lt (rotr_lt _ _ h) (rotr_lt _ _ h)) (by omega)
def wNext (w : List Nat) (t : Nat) : Nat := (s1 (w.getD (t - 2) 0) + w.getD (t - 7) 0 + s0 (w.getD (t - 15) 0) + w.getD (t - 16) 0) % 4294967296
def wStep (m : List UInt8) (p : Nat) (w : List Nat) (t : Nat) : Nat := if t < 16 then word m (p + 4 * t) else wNext w t
/-- The words of the 64 bytes from p on, the first t of them. -/
def wK (m : List UInt8) (p : Nat) : Nat → List Nat
  | 0 => []
  | t + 1 => wK m p t ++ [wStep m p (wK m p t) t]
theorem wK_len (m : List UInt8) (p t : Nat) : (wK m p t).length = t := by
  induction t with
  | zero => rfl
  | succ t ih => simp [wK, ih]
theorem wK_lt (m : List UInt8) (p t : Nat) : ∀ x ∈ wK m p t, x < 4294967296 := by
  induction t with
  | zero => intro x hx; simp [wK] at hx
  | succ t ih =>
    intro x hx
    rw [wK, List.mem_append] at hx
    rcases hx with h | h
    · exact ih x h
    · simp at h
      rw [h, wStep]
      split
      · exact word_lt _ _
      · exact Nat.mod_lt _ (by omega)
theorem getD_lt {l : List Nat} (h : ∀ x ∈ l, x < 4294967296) (i : Nat) : l.getD i 0 < 4294967296 := by
  rw [List.getD_eq_getElem?_getD]
  by_cases hi : i < l.length
  · rw [List.getElem?_eq_getElem hi]; exact h _ (List.getElem_mem hi)
  · rw [List.getElem?_eq_none (by omega)]; show 0 < 4294967296; omega

structure St where
  (a b c d e f g h : Nat)
def St.list (s : St) : List Nat := [s.a, s.b, s.c, s.d, s.e, s.f, s.g, s.h]
def St.ok (s : St) : Prop := ∀ x ∈ s.list, x < 4294967296
theorem St.ok_all {s : St} (h : s.ok) : s.a < 4294967296 ∧ s.b < 4294967296 ∧ s.c < 4294967296 ∧ s.d < 4294967296 ∧ s.e < 4294967296 ∧ s.f < 4294967296 ∧ s.g < 4294967296 ∧ s.h < 4294967296 :=
  ⟨h _ (by simp [St.list]), h _ (by simp [St.list]), h _ (by simp [St.list]), h _ (by simp [St.list]), h _ (by simp [St.list]), h _ (by simp [St.list]), h _ (by simp [St.list]), h _ (by simp [St.list])⟩
theorem St.list_len (s : St) : s.list.length = 8 := rfl
def ch (e f g : Nat) : Nat := (e &&& f) ^^^ ((4294967295 - e) &&& g)
def maj (a b c : Nat) : Nat := (a &&& b) ^^^ (a &&& c) ^^^ (b &&& c)
def e1 (e : Nat) : Nat := rotr e 6 ^^^ rotr e 11 ^^^ rotr e 25
def e0 (a : Nat) : Nat := rotr a 2 ^^^ rotr a 13 ^^^ rotr a 22
theorem e1_lt (x : Nat) (h : x < 4294967296) : e1 x < 4294967296 := xor_lt (xor_lt (rotr_lt _ _ h) (rotr_lt _ _ h)) (rotr_lt _ _ h)
theorem e0_lt (x : Nat) (h : x < 4294967296) : e0 x < 4294967296 := xor_lt (xor_lt (rotr_lt _ _ h) (rotr_lt _ _ h)) (rotr_lt _ _ h)
theorem ch_lt (e f g : Nat) (h : e < 4294967296) : ch e f g < 4294967296 := xor_lt (and_lt h) (and_lt (by omega))
theorem maj_lt (a b c : Nat) (h : a < 4294967296) (hb : b < 4294967296) : maj a b c < 4294967296 := xor_lt (xor_lt (and_lt h) (and_lt h)) (and_lt hb)
def t1 (s : St) (k w : Nat) : Nat := (s.h + e1 s.e + ch s.e s.f s.g + k + w) % 4294967296
def t2 (s : St) : Nat := (e0 s.a + maj s.a s.b s.c) % 4294967296
def step (k w : Nat) (s : St) : St := ⟨(t1 s k w + t2 s) % 4294967296, s.a, s.b, s.c, (s.d + t1 s k w) % 4294967296, s.e, s.f, s.g⟩
theorem step_ok (k w : Nat) {s : St} (h : s.ok) : (step k w s).ok := by
  obtain ⟨h1, h2, h3, h4, h5, h6, h7, h8⟩ := St.ok_all h
  intro x hx
  simp only [St.list, step, List.mem_cons, List.not_mem_nil, or_false] at hx
  rcases hx with rfl | rfl | rfl | rfl | rfl | rfl | rfl | rfl <;> first | assumption | exact Nat.mod_lt _ (by omega)
def vK (w : List Nat) (s : St) : Nat → St
  | 0 => s
  | t + 1 => step (kL.getD t 0) (w.getD t 0) (vK w s t)
theorem vK_ok (w : List Nat) {s : St} (h : s.ok) (t : Nat) : (vK w s t).ok := by
  induction t with
  | zero => exact h
  | succ t ih => exact step_ok _ _ ih
def plus (x y : Nat) : Nat := (x + y) % 4294967296
def St.add (s v : St) : St := ⟨plus s.a v.a, plus s.b v.b, plus s.c v.c, plus s.d v.d, plus s.e v.e, plus s.f v.f, plus s.g v.g, plus s.h v.h⟩
theorem add_ok (s v : St) : (s.add v).ok := by
  intro x hx
  simp only [St.list, St.add, List.mem_cons, List.not_mem_nil, or_false] at hx
  rcases hx with rfl | rfl | rfl | rfl | rfl | rfl | rfl | rfl <;> exact Nat.mod_lt _ (by omega)
/-- The sums, the first i of them made. -/
def addK (s v : List Nat) : Nat → List Nat
  | 0 => s
  | i + 1 => (addK s v i).set i (plus (s.getD i 0) (v.getD i 0))
theorem addK_len (s v : List Nat) (i : Nat) : (addK s v i).length = s.length := by
  induction i with
  | zero => rfl
  | succ i ih => simp [addK, ih]
theorem addK_end (s v : St) : addK s.list v.list 8 = (s.add v).list := rfl
theorem addK_get (s v : List Nat) (i : Nat) : (addK s v i).getD i 0 = s.getD i 0 := by
  suffices H : ∀ k i, i ≤ k → (addK s v i)[k]? = s[k]? by
    simp only [List.getD_eq_getElem?_getD]; rw [H i i (Nat.le_refl _)]
  intro k i
  induction i with
  | zero => intro _; rfl
  | succ i ih => intro hk; rw [addK, List.getElem?_set_ne (by omega), ih (by omega)]
/-- One block: the 64 bytes from p on. -/
def comp (s : St) (m : List UInt8) (p : Nat) : St := s.add (vK (wK m p 64) s 64)
def start : St := ⟨hL.getD 0 0, hL.getD 1 0, hL.getD 2 0, hL.getD 3 0, hL.getD 4 0, hL.getD 5 0, hL.getD 6 0, hL.getD 7 0⟩
theorem start_list : start.list = hL := rfl
theorem start_ok : start.ok := by unfold St.ok; rw [start_list]; exact hL_lt
def hashN (m : List UInt8) : Nat → St
  | 0 => start
  | n + 1 => comp (hashN m n) m (64 * n)
theorem hashN_ok (m : List UInt8) (n : Nat) : (hashN m n).ok := by
  cases n with
  | zero => exact start_ok
  | succ n => exact add_ok _ _
def zeros (l : List UInt8) : Nat := (119 - l.length % 64) % 64
def be8 (n : Nat) : List UInt8 := [UInt8.ofNat (n / 2 ^ 56), UInt8.ofNat (n / 2 ^ 48), UInt8.ofNat (n / 2 ^ 40), UInt8.ofNat (n / 2 ^ 32), UInt8.ofNat (n / 2 ^ 24), UInt8.ofNat (n / 2 ^ 16), UInt8.ofNat (n / 2 ^ 8), UInt8.ofNat n]
def be8K (n : Nat) (k : Nat) : List UInt8 := (List.range k).map fun i => UInt8.ofNat (n / 2 ^ (56 - 8 * i))
theorem be8K_succ (n k : Nat) : be8K n (k + 1) = be8K n k ++ [UInt8.ofNat (n / 2 ^ (56 - 8 * k))] := by simp [be8K, List.range_succ]
theorem be8K_len (n k : Nat) : (be8K n k).length = k := by simp [be8K]
def be4 (n : Nat) : List UInt8 := [UInt8.ofNat (n / 2 ^ 24), UInt8.ofNat (n / 2 ^ 16), UInt8.ofNat (n / 2 ^ 8), UInt8.ofNat n]
def msgK (l : List UInt8) (z : Nat) : List UInt8 := l ++ [128] ++ List.replicate z 0
def msg (l : List UInt8) : List UInt8 := msgK l (zeros l) ++ be8K (8 * l.length) 8
theorem msgK_len (l : List UInt8) (z : Nat) : (msgK l z).length = l.length + 1 + z := by simp [msgK]; omega
theorem msgK_succ (l : List UInt8) (z : Nat) : msgK l z ++ [0] = msgK l (z + 1) := by
  simp [msgK, List.replicate_succ']
theorem msgK_test (l : List UInt8) (z : Nat) (hz : z ≤ zeros l) : (msgK l z).length % 64 = 56 ↔ z = zeros l := by
  rw [msgK_len]
  unfold zeros at *
  omega
theorem msg_len (l : List UInt8) : (msg l).length % 64 = 0 := by
  have := (msgK_test l (zeros l) (Nat.le_refl _)).2 rfl
  rw [msg, List.length_append, be8K_len]
  omega
def outK (s : List Nat) (i : Nat) : List UInt8 := (s.take i).flatMap be4
theorem outK_succ (s : List Nat) (i : Nat) (h : i < s.length) : outK s (i + 1) = outK s i ++ be4 (s.getD i 0) := by
  have e : s.getD i 0 = s[i] := by rw [List.getD_eq_getElem?_getD, List.getElem?_eq_getElem h]; rfl
  rw [outK, outK, List.take_succ_eq_append_getElem h, List.flatMap_append, e]
  rfl
def out (s : St) : List UInt8 := outK s.list 8
/-- The digest. -/
def of (l : List UInt8) : List UInt8 := out (hashN (msg l) ((msg l).length / 64))
theorem outK_len (s : List Nat) : ∀ i, i ≤ s.length → (outK s i).length = 4 * i := by
  intro i
  induction i with
  | zero => intro _; simp [outK]
  | succ i ih => intro h; rw [outK_succ s i (by omega), List.length_append, ih (by omega)]; show 4 * i + 4 = _; omega
theorem of_len (l : List UInt8) : (of l).length = 32 := outK_len _ 8 (by simp [St.list_len])
theorem of_abc : of [97, 98, 99] = [186, 120, 22, 191, 143, 1, 207, 234, 65, 65, 64, 222, 93, 174, 34, 35, 176, 3, 97, 163, 150, 23, 122, 156, 180, 16, 255, 97, 242, 0, 21, 173] := by decide +kernel
/-- A block taken out of the message by itself. -/
theorem at8_block (m : List UInt8) (p k : Nat) (hk : k < 64) : at8 ((m.drop p).take 64) k = at8 m (p + k) := by
  unfold at8
  simp only [List.getD_eq_getElem?_getD, List.getElem?_take, hk, if_true, List.getElem?_drop]
theorem word_block (m : List UInt8) (p k : Nat) (hk : k + 3 < 64) : word ((m.drop p).take 64) k = word m (p + k) := by
  unfold word
  rw [at8_block m p k (by omega), at8_block m p (k + 1) (by omega), at8_block m p (k + 2) (by omega), at8_block m p (k + 3) (by omega)]
  rfl
theorem wK_block (m : List UInt8) (p : Nat) : ∀ t, wK ((m.drop p).take 64) 0 t = wK m p t
  | 0 => rfl
  | t + 1 => by
    rw [wK, wK, wK_block m p t, wStep, wStep]
    by_cases ht : t < 16
    · rw [if_pos ht, if_pos ht, word_block m p (0 + 4 * t) (by omega), Nat.zero_add]
    · rw [if_neg ht, if_neg ht]
theorem comp_block (s : St) (m : List UInt8) (p : Nat) : comp s ((m.drop p).take 64) 0 = comp s m p := by
  unfold comp
  rw [wK_block]
end Go.Gar.Sha
