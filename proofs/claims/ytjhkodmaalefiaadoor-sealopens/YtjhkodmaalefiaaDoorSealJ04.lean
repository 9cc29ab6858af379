/-
  SHA-256 as plain mathematics on numbers below 2^32 and lists of bytes; its constants by primes and roots. No program's text. Layer 5: what is asked of sha.Of (a contract, over whatever the package's own tables may be); digests in memory. The landed sha: ending, slices.Clone of a list of parts, message: contracts. The model's bit operations on numbers that are not negative, as operations on natural numbers. Of no program.
-/
import Derived.Test.YtjhkodmaalefiaaDoorSealJ03
import Derived.Test.YtjhkodmaalefiaaDoorSealJ01
import Derived.Test.YtjhkodmaalefiaaDoorSealJ02
import Derived.RegionTactic
import Derived.BigRegion
set_option maxRecDepth 100000
namespace Go.Gar.Sha

def kL : List Nat := [1116352408, 1899447441, 3049323471, 3921009573, 961987163, 1508970993, 2453635748, 2870763221, 3624381080, 310598401, 607225278, 1426881987, 1925078388, 2162078206, 2614888103, 3248222580, 3835390401, 4022224774, 264347078, 604807628, 770255983, 1249150122, 1555081692, 1996064986, 2554220882, 2821834349, 2952996808, 3210313671, 3336571891, 3584528711, 113926993, 338241895, 666307205, 773529912, 1294757372, 1396182291, 1695183700, 1986661051, 2177026350, 2456956037, 2730485921, 2820302411, 3259730800, 3345764771, 3516065817, 3600352804, 4094571909, 275423344, 430227734, 506948616, 659060556, 883997877, 958139571, 1322822218, 1537002063, 1747873779, 1955562222, 2024104815, 2227730452, 2361852424, 2428436474, 2756734187, 3204031479, 3329325298]
def hL : List Nat := [1779033703, 3144134277, 1013904242, 2773480762, 1359893119, 2600822924, 528734635, 1541459225]
def prL : List Nat := [2, 3, 5, 7, 11, 13, 17, 19, 23, 29, 31, 37, 41, 43, 47, 53, 59, 61, 67, 71, 73, 79, 83, 89, 97, 101, 103, 107, 109, 113, 127, 131, 137, 139, 149, 151, 157, 163, 167, 173, 179, 181, 191, 193, 197, 199, 211, 223, 227, 229, 233, 239, 241, 251, 257, 263, 269, 271, 277, 281, 283, 293, 307, 311]

/-- The primes below n, by trial division. -/
def isP (ps : List Nat) (n : Nat) : Bool := ps.all fun p => n % p != 0
def pr : Nat → List Nat
  | 0 => []
  | k + 1 => if isP (pr k) (k + 2) then pr k ++ [k + 2] else pr k
theorem pr_end : pr 310 = prL := by decide +kernel
theorem pr_less : (pr 309).length = 63 := by decide +kernel
theorem pr_mono (k : Nat) : (pr k).length ≤ (pr (k + 1)).length := by
  simp only [pr]
  split
  · simp
  · exact Nat.le_refl _
theorem pr_le {j k : Nat} (h : j ≤ k) : (pr j).length ≤ (pr k).length := by
  induction k with
  | zero => rw [show j = 0 from by omega]; exact Nat.le_refl _
  | succ k ih =>
    by_cases hj : j = k + 1
    · rw [hj]; exact Nat.le_refl _
    · exact Nat.le_trans (ih (by omega)) (pr_mono k)
theorem pr_short {k : Nat} (h : k ≤ 310) : (pr k).length < 64 ↔ k < 310 := by
  constructor
  · intro hl
    by_cases hk : k = 310
    · rw [hk, pr_end] at hl; exact absurd hl (by decide)
    · omega
  · intro hk
    have := pr_le (j := k) (k := 309) (by omega)
    rw [pr_less] at this
    omega
theorem pr_ge (k : Nat) : ∀ p ∈ pr k, 2 ≤ p := by
  induction k with
  | zero => intro p hp; simp [pr] at hp
  | succ k ih =>
    intro p hp
    simp only [pr] at hp
    split at hp
    · rcases List.mem_append.1 hp with h | h
      · exact ih p h
      · simp at h; omega
    · exact ih p hp
theorem pr_lt (k : Nat) : ∀ p ∈ pr k, p < k + 2 := by
  induction k with
  | zero => intro p hp; simp [pr] at hp
  | succ k ih =>
    intro p hp
    simp only [pr] at hp
    split at hp
    · rcases List.mem_append.1 hp with h | h
      · have := ih p h; omega
      · simp at h; omega
    · have := ih p hp; omega

/-- Roots, bit by bit. -/
def good3 (m p : Nat) : Bool := decide (m * m * m / 18446744073709551616 < p * 4294967296) || (m * m * m / 18446744073709551616 == p * 4294967296 && m * m * m % 18446744073709551616 == 0)
def good2 (m p : Nat) : Bool := decide (m * m / 18446744073709551616 < p) || (m * m / 18446744073709551616 == p && m * m % 18446744073709551616 == 0)
def good (third : Bool) (m p : Nat) : Bool := if third then good3 m p else good2 m p
def rootK (p : Nat) (third : Bool) : Nat → Nat
  | 0 => 0
  | k + 1 => if good third (rootK p third k + 2 ^ (35 - k)) p then rootK p third k + 2 ^ (35 - k) else rootK p third k
def root (p : Nat) (third : Bool) : Nat := rootK p third 36 % 4294967296
theorem rootK_le (p : Nat) (third : Bool) (k : Nat) (hk : k ≤ 36) : rootK p third k + 2 ^ (36 - k) ≤ 2 ^ 36 := by
  induction k with
  | zero => simp [rootK]
  | succ k ih =>
    have h := ih (by omega)
    have e : 2 ^ (36 - k) = 2 ^ (35 - k) + 2 ^ (35 - k) := by rw [show 36 - k = (35 - k) + 1 from by omega, Nat.pow_succ]; omega
    rw [show 36 - (k + 1) = 35 - k from by omega]
    simp only [rootK]
    generalize 2 ^ (35 - k) = c at *
    generalize 2 ^ (36 - k) = d at *
    split <;> omega
theorem kL_root : prL.map (fun p => root p true) = kL := by decide +kernel
theorem hL_root : (prL.take 8).map (fun p => root p false) = hL := by decide +kernel
theorem kL_len : kL.length = 64 := by decide +kernel
theorem hL_len : hL.length = 8 := by decide +kernel
theorem prL_len : prL.length = 64 := by decide +kernel
theorem kL_lt : ∀ k ∈ kL, k < 4294967296 := by decide +kernel
theorem hL_lt : ∀ k ∈ hL, k < 4294967296 := by decide +kernel
theorem prL_lt : ∀ k ∈ prL, k < 312 := by decide +kernel
theorem root_lt (p : Nat) (t : Bool) : root p t < 4294967296 := Nat.mod_lt _ (by omega)

def rotr (x n : Nat) : Nat := x / 2 ^ n ||| x * 2 ^ (32 - n) % 4294967296
theorem rotr_lt (x n : Nat) (hx : x < 4294967296) : rotr x n < 4294967296 :=
  Nat.or_lt_two_pow (n := 32) (Nat.lt_of_le_of_lt (Nat.div_le_self _ _) hx) (Nat.mod_lt _ (by omega))
theorem xor_lt {a b : Nat} (ha : a < 4294967296) (hb : b < 4294967296) : a ^^^ b < 4294967296 := Nat.xor_lt_two_pow (n := 32) ha hb
theorem and_lt {a b : Nat} (ha : a < 4294967296) : a &&& b < 4294967296 := Nat.lt_of_le_of_lt Nat.and_le_left ha

def at8 (m : List UInt8) (k : Nat) : Nat := (m.getD k 0).toNat
theorem at8_lt (m : List UInt8) (k : Nat) : at8 m k < 256 := UInt8.toNat_lt _
/-- Four bytes, the most significant first. -/
def word (m : List UInt8) (k : Nat) : Nat := at8 m k * 16777216 + at8 m (k + 1) * 65536 + at8 m (k + 2) * 256 + at8 m (k + 3)
theorem word_lt (m : List UInt8) (k : Nat) : word m k < 4294967296 := by
  have h0 := at8_lt m k
  have h1 := at8_lt m (k + 1)
  have h2 := at8_lt m (k + 2)
  have h3 := at8_lt m (k + 3)
  unfold word
  omega
def s1 (x : Nat) : Nat := rotr x 17 ^^^ rotr x 19 ^^^ x / 1024
def s0 (x : Nat) : Nat := rotr x 7 ^^^ rotr x 18 ^^^ x / 8
theorem s1_lt (x : Nat) (h : x < 4294967296) : s1 x < 4294967296 := xor_lt (xor_lt (rotr_lt _ _ h) (rotr_lt _ _ h)) (by omega)
theorem s0_lt (x : Nat) (h : x < 4294967296) : s0 x < 4294967296 := xor_lt (xor_lt (rotr_lt _ _ h) (rotr_lt _ _ h)) (by omega)
def wNext (w : List Nat) (t : Nat) : Nat := (s1 (w.getD (t - 2) 0) + w.getD (t - 7) 0 + s0 (w.getD (t - 15) 0) + w.getD (t - 16) 0) % 4294967296
def wStep (m : List UInt8) (p : Nat) (w : List Nat) (t : Nat) : Nat := if t < 16 then word m (p + 4 * t) else wNext w t
/-- The words of the 64 bytes from p on, the first t of them. -/
def wK (m : List UInt8) (p : Nat) : Nat → List Nat
  | 0 => []
  | t + 1 => wK m p t ++ [wStep m p (wK m p t) t]
theorem wK_len (m : List UInt8) (p t : Nat) : (wK m p t).length = t := by
  induction t with
  | zero => rfl
  | succ t ih => simp [wK, ih]
theorem wK_lt (m : List UInt8) (p t : Nat) : ∀ x ∈ wK m p t, x < 4294967296 := by
  induction t with
  | zero => intro x hx; simp [wK] at hx
  | succ t ih =>
    intro x hx
    rw [wK, List.mem_append] at hx
    rcases hx with h | h
    · exact ih x h
    · simp at h
      rw [h, wStep]
      split
      · exact word_lt _ _
      · exact Nat.mod_lt _ (by omega)
theorem getD_lt {l : List Nat} (h : ∀ x ∈ l, x < 4294967296) (i : Nat) : l.getD i 0 < 4294967296 := by
  rw [List.getD_eq_getElem?_getD]
  by_cases hi : i < l.length
  · rw [List.getElem?_eq_getElem hi]; exact h _ (List.getElem_mem hi)
  · rw [List.getElem?_eq_none (by omega)]; show 0 < 4294967296; omega

structure St where
  (a b c d e f g h : Nat)
def St.list (s : St) : List Nat := [s.a, s.b, s.c, s.d, s.e, s.f, s.g, s.h]
def St.ok (s : St) : Prop := ∀ x ∈ s.list, x < 4294967296
theorem St.ok_all {s : St} (h : s.ok) : s.a < 4294967296 ∧ s.b < 4294967296 ∧ s.c < 4294967296 ∧ s.d < 4294967296 ∧ s.e < 4294967296 ∧ s.f < 4294967296 ∧ s.g < 4294967296 ∧ s.h < 4294967296 :=
  ⟨h _ (by simp [St.list]), h _ (by simp [St.list]), h _ (by simp [St.list]), h _ (by simp [St.list]), h _ (by simp [St.list]), h _ (by simp [St.list]), h _ (by simp [St.list]), h _ (by simp [St.list])⟩
theorem St.list_len (s : St) : s.list.length = 8 := rfl
def ch (e f g : Nat) : Nat := (e &&& f) ^^^ ((4294967295 - e) &&& g)
def maj (a b c : Nat) : Nat := (a &&& b) ^^^ (a &&& c) ^^^ (b &&& c)
def e1 (e : Nat) : Nat := rotr e 6 ^^^ rotr e 11 ^^^ rotr e 25
def e0 (a : Nat) : Nat := rotr a 2 ^^^ rotr a 13 ^^^ rotr a 22
theorem e1_lt (x : Nat) (h : x < 4294967296) : e1 x < 4294967296 := xor_lt (xor_lt (rotr_lt _ _ h) (rotr_lt _ _ h)) (rotr_lt _ _ h)
theorem e0_lt (x : Nat) (h : x < 4294967296) : e0 x < 4294967296 := xor_lt (xor_lt (rotr_lt _ _ h) (rotr_lt _ _ h)) (rotr_lt _ _ h)
theorem ch_lt (e f g : Nat) (h : e < 4294967296) : ch e f g < 4294967296 := xor_lt (and_lt h) (and_lt (by omega))
theorem maj_lt (a b c : Nat) (h : a < 4294967296) (hb : b < 4294967296) : maj a b c < 4294967296 := xor_lt (xor_lt (and_lt h) (and_lt h)) (and_lt hb)
def t1 (s : St) (k w : Nat) : Nat := (s.h + e1 s.e + ch s.e s.f s.g + k + w) % 4294967296
def t2 (s : St) : Nat := (e0 s.a + maj s.a s.b s.c) % 4294967296
def step (k w : Nat) (s : St) : St := ⟨(t1 s k w + t2 s) % 4294967296, s.a, s.b, s.c, (s.d + t1 s k w) % 4294967296, s.e, s.f, s.g⟩
theorem step_ok (k w : Nat) {s : St} (h : s.ok) : (step k w s).ok := by
  obtain ⟨h1, h2, h3, h4, h5, h6, h7, h8⟩ := St.ok_all h
  intro x hx
  simp only [St.list, step, List.mem_cons, List.not_mem_nil, or_false] at hx
  rcases hx with rfl | rfl | rfl | rfl | rfl | rfl | rfl | rfl <;> first | assumption | exact Nat.mod_lt _ (by omega)
def vK (w : List Nat) (s : St) : Nat → St
  | 0 => s
  | t + 1 => step (kL.getD t 0) (w.getD t 0) (vK w s t)
theorem vK_ok (w : List Nat) {s : St} (h : s.ok) (t : Nat) : (vK w s t).ok := by
  induction t with
  | zero => exact h
  | succ t ih => exact step_ok _ _ ih
def plus (x y : Nat) : Nat := (x + y) % 4294967296
def St.add (s v : St) : St := ⟨plus s.a v.a, plus s.b v.b, plus s.c v.c, plus s.d v.d, plus s.e v.e, plus s.f v.f, plus s.g v.g, plus s.h v.h⟩
theorem add_ok (s v : St) : (s.add v).ok := by
  intro x hx
  simp only [St.list, St.add, List.mem_cons, List.not_mem_nil, or_false] at hx
  rcases hx with rfl | rfl | rfl | rfl | rfl | rfl | rfl | rfl <;> exact Nat.mod_lt _ (by omega)
/-- The sums, the first i of them made. -/
def addK (s v : List Nat) : Nat → List Nat
  | 0 => s
  | i + 1 => (addK s v i).set i (plus (s.getD i 0) (v.getD i 0))
theorem addK_len (s v : List Nat) (i : Nat) : (addK s v i).length = s.length := by
  induction i with
  | zero => rfl
  | succ i ih => simp [addK, ih]
theorem addK_end (s v : St) : addK s.list v.list 8 = (s.add v).list := rfl
theorem addK_get (s v : List Nat) (i : Nat) : (addK s v i).getD i 0 = s.getD i 0 := by
  suffices H : ∀ k i, i ≤ k → (addK s v i)[k]? = s[k]? by
    simp only [List.getD_eq_getElem?_getD]; rw [H i i (Nat.le_refl _)]
  intro k i
  induction i with
  | zero => intro _; rfl
  | succ i ih => intro hk; rw [addK, List.getElem?_set_ne (by omega), ih (by omega)]
/-- One block: the 64 bytes from p on. -/
def comp (s : St) (m : List UInt8) (p : Nat) : St := s.add (vK (wK m p 64) s 64)
def start : St := ⟨hL.getD 0 0, hL.getD 1 0, hL.getD 2 0, hL.getD 3 0, hL.getD 4 0, hL.getD 5 0, hL.getD 6 0, hL.getD 7 0⟩
theorem start_list : start.list = hL := rfl
theorem start_ok : start.ok := by unfold St.ok; rw [start_list]; exact hL_lt
def hashN (m : List UInt8) : Nat → St
  | 0 => start
  | n + 1 => comp (hashN m n) m (64 * n)
theorem hashN_ok (m : List UInt8) (n : Nat) : (hashN m n).ok := by
  cases n with
  | zero => exact start_ok
  | succ n => exact add_ok _ _
def zeros (l : List UInt8) : Nat := (119 - l.length % 64) % 64
def be8 (n : Nat) : List UInt8 := [UInt8.ofNat (n / 2 ^ 56), UInt8.ofNat (n / 2 ^ 48), UInt8.ofNat (n / 2 ^ 40), UInt8.ofNat (n / 2 ^ 32), UInt8.ofNat (n / 2 ^ 24), UInt8.ofNat (n / 2 ^ 16), UInt8.ofNat (n / 2 ^ 8), UInt8.ofNat n]
def be8K (n : Nat) (k : Nat) : List UInt8 := (List.range k).map fun i => UInt8.ofNat (n / 2 ^ (56 - 8 * i))
theorem be8K_succ (n k : Nat) : be8K n (k + 1) = be8K n k ++ [UInt8.ofNat (n / 2 ^ (56 - 8 * k))] := by simp [be8K, List.range_succ]
theorem be8K_len (n k : Nat) : (be8K n k).length = k := by simp [be8K]
def be4 (n : Nat) : List UInt8 := [UInt8.ofNat (n / 2 ^ 24), UInt8.ofNat (n / 2 ^ 16), UInt8.ofNat (n / 2 ^ 8), UInt8.ofNat n]
def msgK (l : List UInt8) (z : Nat) : List UInt8 := l ++ [128] ++ List.replicate z 0
def msg (l : List UInt8) : List UInt8 := msgK l (zeros l) ++ be8K (8 * l.length) 8
theorem msgK_len (l : List UInt8) (z : Nat) : (msgK l z).length = l.length + 1 + z := by simp [msgK]; omega
theorem msgK_succ (l : List UInt8) (z : Nat) : msgK l z ++ [0] = msgK l (z + 1) := by
  simp [msgK, List.replicate_succ']
theorem msgK_test (l : List UInt8) (z : Nat) (hz : z ≤ zeros l) : (msgK l z).length % 64 = 56 ↔ z = zeros l := by
  rw [msgK_len]
  unfold zeros at *
  omega
theorem msg_len (l : List UInt8) : (msg l).length % 64 = 0 := by
  have := (msgK_test l (zeros l) (Nat.le_refl _)).2 rfl
  rw [msg, List.length_append, be8K_len]
  omega
def outK (s : List Nat) (i : Nat) : List UInt8 := (s.take i).flatMap be4
theorem outK_succ (s : List Nat) (i : Nat) (h : i < s.length) : outK s (i + 1) = outK s i ++ be4 (s.getD i 0) := by
  have e : s.getD i 0 = s[i] := by rw [List.getD_eq_getElem?_getD, List.getElem?_eq_getElem h]; rfl
  rw [outK, outK, List.take_succ_eq_append_getElem h, List.flatMap_append, e]
  rfl
def out (s : St) : List UInt8 := outK s.list 8
/-- The digest. -/
def of (l : List UInt8) : List UInt8 := out (hashN (msg l) ((msg l).length / 64))
theorem outK_len (s : List Nat) : ∀ i, i ≤ s.length → (outK s i).length = 4 * i := by
  intro i
  induction i with
  | zero => intro _; simp [outK]
  | succ i ih => intro h; rw [outK_succ s i (by omega), List.length_append, ih (by omega)]; show 4 * i + 4 = _; omega
theorem of_len (l : List UInt8) : (of l).length = 32 := outK_len _ 8 (by simp [St.list_len])
theorem of_abc : of [97, 98, 99] = [186, 120, 22, 191, 143, 1, 207, 234, 65, 65, 64, 222, 93, 174, 34, 35, 176, 3, 97, 163, 150, 23, 122, 156, 180, 16, 255, 97, 242, 0, 21, 173] := by decide +kernel
/-- A block taken out of the message by itself. -/
theorem at8_block (m : List UInt8) (p k : Nat) (hk : k < 64) : at8 ((m.drop p).take 64) k = at8 m (p + k) := by
  unfold at8
  simp only [List.getD_eq_getElem?_getD, List.getElem?_take, hk, if_true, List.getElem?_drop]
theorem word_block (m : List UInt8) (p k : Nat) (hk : k + 3 < 64) : word ((m.drop p).take 64) k = word m (p + k) := by
  unfold word
  rw [at8_block m p k (by omega), at8_block m p (k + 1) (by omega), at8_block m p (k + 2) (by omega), at8_block m p (k + 3) (by omega)]
  rfl
theorem wK_block (m : List UInt8) (p : Nat) : ∀ t, wK ((m.drop p).take 64) 0 t = wK m p t
  | 0 => rfl
  | t + 1 => by
    rw [wK, wK, wK_block m p t, wStep, wStep]
    by_cases ht : t < 16
    · rw [if_pos ht, if_pos ht, word_block m p (0 + 4 * t) (by omega), Nat.zero_add]
    · rw [if_neg ht, if_neg ht]
theorem comp_block (s : St) (m : List UInt8) (p : Nat) : comp s ((m.drop p).take 64) 0 = comp s m p := by
  unfold comp
  rw [wK_block]
end Go.Gar.Sha
namespace Go.Proofs.YtjhkodmaalefiaaDoor
open Go.RowKit Go.Gar

abbrev Part := Option Addr × List UInt8 × Nat
/-- sha.Of keeps its promise in every world in which G holds (the package's own tables, if any). -/
structure ShaOK (G : World → Prop) : Prop where
  keep : ∀ {w w' : World}, G w → Below w.heap.size w w' → G w'
  of : ∀ (w : World) (A : Option Addr) (ps : List Part) (cap : Nat), G w → Cells w w.heap.size A (ps.map partV) → (∀ p ∈ ps, Rd w w.heap.size p.1 p.2.1 ∧ p.2.1.length ≤ p.2.2) → (cat ps).length ≤ 1048576 → ps.length ≤ 1000 →
    Calls Tryd.prog 33 #[.slice A ps.length cap] w fun e w' => e = .returned (.agg (u8s (Sha.of (cat ps))).toArray) ∧ Below w.heap.size w w'

theorem sha1 {G : World → Prop} (hOK : ShaOK G) (A : Option Addr) (l : List UInt8) (len c g : Nat) (w : World) (x : Array Value) (hx : x = (u8s (Sha.of l)).toArray) (hG : G w) (hg : g = w.heap.size) (hl : len = l.length) (hr : Rd w w.heap.size A l) (hs : l.length ≤ 1048576) (hc : l.length ≤ c) :
    Calls Tryd.prog 33 #[.slice (some ⟨g, 0, none⟩) 1 1] (w.alloc (.cells #[.slice A len c] 26)) fun e w' => e = .returned (.agg x) ∧ Below w.heap.size w w' := by
  subst hl; subst hg; subst hx
  have hb := Blk.new w 26 [.slice A l.length c]
  have hbl := below_alloc w (.cells #[.slice A l.length c] 26)
  have h := hOK.of (w.alloc (.cells #[.slice A l.length c] 26)) (some ⟨w.heap.size, 0, none⟩) [(A, l, c)] 1 (hOK.keep hG hbl) (by simpa [partV] using Cells.of_blk hb) (by
    intro p hp
    simp at hp
    subst hp
    exact ⟨(hr.alloc (Nat.le_refl _) _).more (by simp), hc⟩) (by simpa [cat] using hs) (by simp)
  refine h.mono fun e w' ⟨h1, h2⟩ => ⟨by simpa [cat] using h1, hbl.trans (h2.mono hbl.size)⟩
theorem sha3 {G : World → Prop} (hOK : ShaOK G) (A1 A2 A3 : Option Addr) (l1 l2 l3 : List UInt8) (n1 n2 n3 c1 c2 c3 g : Nat) (w : World) (x : Array Value) (hx : x = (u8s (Sha.of (l1 ++ (l2 ++ l3)))).toArray) (hG : G w) (hg : g = w.heap.size) (h1 : n1 = l1.length) (h2 : n2 = l2.length) (h3 : n3 = l3.length) (r1 : Rd w w.heap.size A1 l1) (r2 : Rd w w.heap.size A2 l2) (r3 : Rd w w.heap.size A3 l3)
    (hs : (l1 ++ (l2 ++ l3)).length ≤ 1048576) (k1 : l1.length ≤ c1) (k2 : l2.length ≤ c2) (k3 : l3.length ≤ c3) :
    Calls Tryd.prog 33 #[.slice (some ⟨g, 0, none⟩) 3 3] (w.alloc (.cells #[.slice A1 n1 c1, .slice A2 n2 c2, .slice A3 n3 c3] 26)) fun e w' => e = .returned (.agg x) ∧ Below w.heap.size w w' := by
  subst h1; subst h2; subst h3; subst hg; subst hx
  have hb := Blk.new w 26 [.slice A1 l1.length c1, .slice A2 l2.length c2, .slice A3 l3.length c3]
  have hbl := below_alloc w (.cells #[.slice A1 l1.length c1, .slice A2 l2.length c2, .slice A3 l3.length c3] 26)
  have h := hOK.of (w.alloc (.cells #[.slice A1 l1.length c1, .slice A2 l2.length c2, .slice A3 l3.length c3] 26)) (some ⟨w.heap.size, 0, none⟩) [(A1, l1, c1), (A2, l2, c2), (A3, l3, c3)] 3 (hOK.keep hG hbl) (by simpa [partV] using Cells.of_blk hb) (by
    intro p hp
    simp at hp
    rcases hp with rfl | rfl | rfl
    · exact ⟨(r1.alloc (Nat.le_refl _) _).more (by simp), k1⟩
    · exact ⟨(r2.alloc (Nat.le_refl _) _).more (by simp), k2⟩
    · exact ⟨(r3.alloc (Nat.le_refl _) _).more (by simp), k3⟩) (by simpa [cat] using hs) (by simp)
  refine h.mono fun e w' ⟨h1, h2⟩ => ⟨by simpa [cat] using h1, hbl.trans (h2.mono hbl.size)⟩
theorem sha0 {G : World → Prop} (hOK : ShaOK G) (A : Option Addr) (c : Nat) (w : World) (x : Array Value) (hx : x = (u8s (Sha.of [])).toArray) (hG : G w) : Calls Tryd.prog 33 #[.slice A 0 c] w fun e w' => e = .returned (.agg x) ∧ Below w.heap.size w w' := by
  subst hx
  have h := hOK.of w A [] c hG (.inl rfl) (by simp) (by simp [cat]) (by simp)
  simpa [cat] using h

theorem Tryd.und32 : Tryd.prog.underlying 22 = some (.array 32 5) := by kernel_rfl
theorem Tryd.info32 : (Tryd.prog.info? 22).map (fun i => (i.zero, i.size)) = some (some (.agg (Array.replicate 32 (.int .u8 0))), 32) := by kernel_rfl
theorem Tryd.guard32 : Tryd.prog.eqGuardType Tryd.prog.depth 22 = false := by kernel_rfl
theorem Tryd.key5 : Tryd.prog.plainKey 5 = true := by kernel_rfl
theorem Tryd.cells5s : Tryd.prog.cellsOf 5 = 1 := by kernel_rfl
def z32 : List Value := List.replicate 32 (.int .u8 0)
theorem z32_len : z32.length = 32 := List.length_replicate
theorem zero_32 (w : World) : (zeroValue 22).run Tryd.prog w = .ok (.agg z32.toArray) w := by
  have := (zero_of_info Tryd.info32).1 w
  rw [this]
  rfl
theorem size_32 (l : List UInt8) (h : l.length = 32) : (Tryd.prog.info? 22).map (·.size) = some (u8s l).length := by
  rw [u8s_len, h]; exact (zero_of_info Tryd.info32).2
theorem eq32 (l : List UInt8) (h : l.length = 32) : ∀ w, (Op.equalIn 10000 22 (.agg (u8s l).toArray) (.agg (u8s l).toArray)).run Tryd.prog w = .ok true w := by
  intro w
  have := run_equalIn_u8s (P := Tryd.prog) Tryd.und32 Tryd.key5 Tryd.und5 Tryd.cells5s 9998 l l (by omega) (by omega) (w := w)
  simpa using this

/-- The world behind 'x, y := f(), g()', two digests. -/
def laid32 (w : World) (x y : List Value) : World := (((w.alloc (.cells z32.toArray 22)).alloc (.cells z32.toArray 22)).setRow w.heap.size x.toArray).setRow (w.heap.size + 1) y.toArray
theorem l32_0 (w : World) : Blk ((w.alloc (.cells z32.toArray 22)).alloc (.cells z32.toArray 22)) w.heap.size 22 z32 := (Blk.new w _ z32).alloc _
theorem l32_1 (w : World) : Blk ((w.alloc (.cells z32.toArray 22)).alloc (.cells z32.toArray 22)) (w.heap.size + 1) 22 z32 := by
  have h2 := Blk.new (w.alloc (.cells z32.toArray 22)) 22 z32
  rw [World.size_alloc] at h2
  exact h2
theorem l32_2 (w : World) (x : List Value) : Blk (((w.alloc (.cells z32.toArray 22)).alloc (.cells z32.toArray 22)).setRow w.heap.size x.toArray) (w.heap.size + 1) 22 z32 :=
  (l32_1 w).rowFar (by omega) _
theorem l32_t (w : World) (x y : List Value) : Blk (laid32 w x y) w.heap.size 22 x := ((l32_0 w).row x).rowFar (by omega) _
theorem l32_b (w : World) (x y : List Value) : Blk (laid32 w x y) (w.heap.size + 1) 22 y := (l32_2 w x).row y
theorem l32_below (w : World) (x y : List Value) : Below w.heap.size w (laid32 w x y) :=
  below_setRow (below_setRow (((below_alloc w _).alloc (by rw [World.size_alloc]; omega) _)) (Nat.le_refl _) _) (by omega) _
end Go.Proofs.YtjhkodmaalefiaaDoor
namespace Go.Proofs.YtjhkodmaalefiaaDoor
open Go.RowKit Go.Gar

theorem be_be8 (n : Nat) : be n 8 = Sha.be8K n 8 := by
  simp [be, Sha.be8K, List.range_succ]
/-- What follows parts of n bytes. -/
def endB (n : Nat) : List UInt8 := (128 :: List.replicate ((119 - n % 64) % 64) 0) ++ be (8 * n) 8
theorem endB_msg (l : List UInt8) : l ++ endB l.length = Sha.msg l := by
  simp [endB, be_be8, Sha.msg, Sha.msgK, Sha.zeros]
theorem endB_len (n : Nat) : (endB n).length = 1 + (119 - n % 64) % 64 + 8 := by simp [endB, be_len]; omega

theorem int_at (A : Option Addr) (l : List UInt8) (len c : Nat) (n : Int) (w : World) (hlen : len = l.length) (hr : Rd w w.heap.size A l) (hsz : l.length ≤ 1000000000) :
    Calls Tryd.prog 40 #[.slice A len c, .int .i64 n] w fun e w' =>
      e = .returned (.slice (some ⟨w.heap.size, 0, none⟩) (len + 8) (len + 8)) ∧ Blk w' w.heap.size 5 (u8s (l ++ be (b64 n) 8)) ∧ Below w.heap.size w w' := by
  subst hlen
  exact int_any A l c n w hr hsz
set_option maxHeartbeats 1000000 in
set_option maxRecDepth 100000 in
theorem ending_any (n : Nat) (w : World) (hn : n ≤ 1048576) :
    Calls Tryd.prog 81 #[.int .i64 (n : Int)] w fun e w' => ∃ ge, e = .returned (.slice (some ⟨ge, 0, none⟩) (endB n).length (endB n).length) ∧ w.heap.size ≤ ge ∧ Blk w' ge 5 (u8s (endB n)) ∧ Below w.heap.size w w' := by
  obtain ⟨z, hz⟩ : ∃ z, (119 - n % 64) % 64 = z := ⟨_, rfl⟩
  have hzl : z < 64 := by omega
  have hmk := run_make_bytes (1 + z) (1 + z) (by omega) (by omega) w
  rw [show ((1 + z : Nat) : Int) = 1 + (z : Int) from by omega] at hmk
  have hB := Blk.new w 5 (u8s (List.replicate (1 + z) 0))
  have hc0 : (w.alloc (.cells (u8s (List.replicate (1 + z) 0)).toArray 5)).cell? ⟨w.heap.size, 0, none⟩ = some (.int .u8 0) := by
    rw [hB.cell, Nat.add_comm, List.replicate_succ]; rfl
  have hf0 := hB.frozen 0
  have hS := hB.set_ 0 (.int .u8 128)
  have e1 : (u8s (List.replicate (1 + z) 0)).set 0 (.int .u8 128) = u8s (128 :: List.replicate z 0) := by
    rw [Nat.add_comm, List.replicate_succ]; rfl
  rw [e1] at hS
  have hb := (below_alloc w (.cells (u8s (List.replicate (1 + z) 0)).toArray 5)).setCell (p := ⟨w.heap.size, 0, none⟩) (Nat.le_refl _) (.int .u8 128)
  have HE : Hid (endB n = (128 :: List.replicate z 0) ++ be (b64 (8 * (n : Int))) 8) := Lib.hid (by
    rw [endB, hz, show b64 (8 * (n : Int)) = 8 * n from by unfold b64; omega])
  have HB := Lib.hid hS
  have Hb := Lib.hid hb
  have hd : ((119 : Int) - (n : Int) % 64) % 64 = (z : Int) := by omega
  have hl1 : (128 :: List.replicate z 0 : List UInt8).length = 1 + z := by simp; omega
  have HL := Lib.hid hl1
  clear hS hb e1 hB hz hl1
  generalize hw1 : w.alloc (.cells (u8s (List.replicate (1 + z) 0)).toArray 5) = w1 at *
  have Hw1 := Lib.hid hw1
  clear hw1
  go_enter Tryd.func81, Tryd.ntmps81
  go_wp2_with fail
  refine (int_at (some ⟨w.heap.size, 0, none⟩) (128 :: List.replicate z 0) (1 + z) _ (8 * (n : Int)) _ HL.out.symm (Rd.of_all HB.out) (by rw [HL.out]; omega)).mono ?_
  rintro e w2 ⟨rfl, hB2, hb2⟩
  have e1 : (w1.setCell ⟨w.heap.size, 0, none⟩ (.int .u8 128)).heap.size = w1.heap.size := by simp [World.setCell]
  rw [← HE.out, e1] at hB2
  have HB2 := Lib.hid hB2
  have Hb2 := Lib.hid (Hb.out.trans (hb2.mono Hb.out.size))
  have HG : Hid (w.heap.size ≤ w1.heap.size) := Lib.hid (by rw [← e1]; exact Hb.out.size)
  clear hB2 hb2 e1
  go_wp2
  go_ret
  exact ⟨w1.heap.size, by rw [show (endB n).length = 1 + z + 8 from by rw [HE.out, List.length_append, HL.out, be_len]]; rfl, HG.out, HB2.out, Hb2.out⟩

theorem Tryd.undPs : Tryd.prog.underlying 63 = some (.slice 26) := by kernel_rfl
theorem Tryd.infoPs : (Tryd.prog.info? 26).map (fun i => (i.zero, i.size, i.bytes)) = some (some (.slice none 0 0), 1, 24) := by kernel_rfl
theorem parts_one (ps : List Part) : ∀ u ∈ ps.map partV, u.oneCell' = true := by
  intro u hu
  obtain ⟨p, _, rfl⟩ := List.mem_map.1 hu
  rfl
set_option maxHeartbeats 1000000 in
set_option maxRecDepth 100000 in
theorem clone_any (w : World) (A : Option Addr) (ps : List Part) (len cap : Nat) (hl : len = ps.length) (hC : Cells w w.heap.size A (ps.map partV)) (hn : ps.length ≤ 1000000) :
    Calls Tryd.prog 80 #[.slice A len cap] w fun e w' => ∃ v, e = .returned v ∧ OwnV w' w.heap.size 26 v (ps.map partV) ∧ Below w.heap.size w w' := by
  have HL := Lib.hid hl
  have HC := Lib.hid hC
  clear hl hC
  cases A with
  | none =>
    have hp : ps = [] := by
      rcases HC.out with h | ⟨b, o, h, _⟩
      · simpa using h
      · cases h
    subst hp
    have he : ∀ w : World, (binOp .eql 63 (.slice none len cap) (.slice none 0 0)).run Tryd.prog w = .ok (.bool true) w := fun _ => by kernel_rfl
    go_enter Tryd.func80, Tryd.ntmps80
    go_wp2
    go_ret
    exact ⟨_, rfl, World.ownsRow_nil w w.heap.size _ 1, Below.refl _ _⟩
  | some a =>
    have hO := ownV_made w w.heap.size 26 (Nat.le_refl _)
    have hx : ∀ j u, (ps.map partV)[j]? = some u → (w.alloc (.cells #[] 26)).cell? (a.add j) = some u := by
      intro j u hu
      rcases HC.out with h | ⟨b, o, h, hb, hc⟩
      · rw [h] at hu; simp at hu
      · injection h with h
        subst h
        have : (⟨b, o, none⟩ : Addr).add j = ⟨b, o + j, none⟩ := Addr.add_lit _ _ _
        rw [this, (below_alloc w _).cell (p := ⟨b, o + j, none⟩) hb]
        exact hc j u hu
    obtain ⟨v1, w1, a1, a2, a3, _⟩ := appV (P := Tryd.prog) 63 63 Tryd.undPs Tryd.infoPs rfl hO (by rw [World.size_alloc]; omega) a cap len (ps.map partV) (parts_one ps) (by rw [HL.out, List.length_map]) hx (by simp; omega) (by omega)
    have HO := Lib.hid a2
    have Hb := Lib.hid ((below_alloc w (.cells #[] 26)).trans a3)
    clear a2 a3 hO hx
    have he : ∀ w : World, (binOp .eql 63 (.slice (some a) len cap) (.slice none 0 0)).run Tryd.prog w = .ok (.bool false) w := fun _ => by kernel_rfl
    go_enter Tryd.func80, Tryd.ntmps80
    go_wp2_with (at_builtin; refine wpList_append_run rfl (.tmp 5) (.tmp 6) _ rfl rfl rfl a1 ?_)
    go_ret
    exact ⟨_, rfl, by simpa using HO.out, Hb.out⟩

/-- The bytes of the first k parts. -/
def some_ (ps : List Part) (k : Nat) : Nat := (cat (ps.take k)).length
theorem some_succ (ps : List Part) (k : Nat) (p : Part) (h : ps[k]? = some p) : some_ ps (k + 1) = some_ ps k + p.2.1.length := by
  have hk : k < ps.length := (List.getElem?_eq_some_iff.1 h).1
  have e : ps[k] = p := by rw [List.getElem?_eq_getElem hk] at h; injection h
  unfold some_
  rw [List.take_succ_eq_append_getElem hk, e]
  simp [cat]
theorem some_le (ps : List Part) (k : Nat) : some_ ps k ≤ (cat ps).length := by
  have e : (cat ps).length = (cat (ps.take k)).length + (cat (ps.drop k)).length := by
    rw [← List.length_append]
    unfold cat
    rw [← List.flatMap_append, List.take_append_drop]
  rw [e]
  exact Nat.le_add_right _ _
theorem some_end (ps : List Part) (k : Nat) (h : ps.length ≤ k) : some_ ps k = (cat ps).length := by rw [some_, List.take_of_length_le h]

/-- A part that reads as its bytes, in a block other than n and below B. -/
def RdN (w : World) (B n : Nat) (p : Part) : Prop := p.2.1 = [] ∨ ∃ b o, p.1 = some ⟨b, o, none⟩ ∧ b ≠ n ∧ b < B ∧ ∀ i c, p.2.1[i]? = some c → w.cell? ⟨b, o + i, none⟩ = some (.int .u8 (c.toNat : Int))
theorem RdN.of_rd {w : World} {B n : Nat} {p : Part} (h : Rd w B p.1 p.2.1) (hB : B ≤ n) : RdN w B n p := by
  rcases h with h | ⟨b, o, e, hb, hc⟩
  · exact .inl h
  · exact .inr ⟨b, o, e, by omega, hb, hc⟩
theorem RdN.more {w : World} {B B' n : Nat} {p : Part} (h : RdN w B n p) (hB : B ≤ B') : RdN w B' n p := by
  rcases h with h | ⟨b, o, e, hn, hb, hc⟩
  · exact .inl h
  · exact .inr ⟨b, o, e, hn, by omega, hc⟩
theorem RdN.below {w w' : World} {B n : Nat} {p : Part} (h : RdN w B n p) (hb : Below B w w') : RdN w' B n p := by
  rcases h with h | ⟨b, o, e, hn, hlt, hc⟩
  · exact .inl h
  · exact .inr ⟨b, o, e, hn, hlt, fun i c hi => (World.cell?_of_block (hb.block b hlt)).trans (hc i c hi)⟩

set_option maxHeartbeats 1000000 in
set_option maxRecDepth 100000 in
theorem messageL_any (w : World) (A : Option Addr) (ps : List Part) (cap gs : Nat) (hC : Cells w w.heap.size A (ps.map partV)) (hR : ∀ p ∈ ps, RdN w w.heap.size gs p) (hcp : ∀ p ∈ ps, p.2.1.length ≤ p.2.2) (hgs : gs < w.heap.size) (hl : (cat ps).length ≤ 1048576) (hn : ps.length ≤ 1000) :
    Calls Tryd.prog 55 #[.slice A ps.length cap] w fun e w' => ∃ v qs, e = .returned v ∧ OwnV w' w.heap.size 26 v (qs.map partV) ∧ (∀ p ∈ qs, RdN w' w'.heap.size gs p ∧ p.2.1.length ≤ p.2.2) ∧ cat qs = Sha.msg (cat ps) ∧ qs.length ≤ 1001 ∧ 0 < qs.length ∧ Below w.heap.size w w' := by
  have HC := Lib.hid hC
  have HR := Lib.hid hR
  have HL := Lib.hid hl
  have HCP := Lib.hid hcp
  clear hC hR hl hcp
  obtain ⟨np, hnp⟩ : ∃ np, ps.length = np := ⟨_, rfl⟩
  rw [hnp] at hn ⊢
  have HN := Lib.hid hnp
  clear hnp
  go_enter Tryd.func55, Tryd.ntmps55
  go_wp2
  go_loopw [3, 8] (fun s i w' => ∃ k : Nat, k ≤ np ∧ i = .int .i64 (k : Int) ∧ s = .int .i64 ((some_ ps k : Nat) : Int) ∧ w' = w) (fun _ i _ => np - (intOf i).toNat)
  case atStart => exact ⟨0, by omega, rfl, rfl, rfl⟩
  case round =>
    obtain ⟨k, hk, rfl, rfl, rfl⟩ := hrel
    by_cases hlt : k < np
    · have hkp : k < ps.length := by rw [HN.out]; exact hlt
      obtain ⟨b, o, rfl, hb, hc⟩ := HC.out.at_ (i := k) (by simpa using hkp)
      have hss := some_succ ps k ps[k] (List.getElem?_eq_getElem hkp)
      have hsl := some_le ps (k + 1)
      have hL := HL.out
      have hpl : ps[k].2.1.length ≤ 1048576 := by omega
      rw [List.getElem_map] at hc
      generalize hp : ps[k] = p at hc hss hpl
      obtain ⟨Ap, lp, cp⟩ := p
      simp only [partV] at hc hss hpl
      generalize lp.length = q at *
      have hs1 : some_ ps k ≤ 1048576 := by omega
      have HS := Lib.hid hss
      clear hsl hL hss hp hb
      generalize some_ ps k = sk at *
      go_wp2
      exact ⟨⟨k + 1, by omega, by go_num, by rw [HS.out]; go_num, trivial⟩, by simp [intOf]; omega⟩
    · have hse := some_end ps k (by rw [HN.out]; omega)
      rw [hse]
      obtain ⟨n, hnn⟩ : ∃ n, (cat ps).length = n := ⟨_, rfl⟩
      rw [hnn]
      have HNN := Lib.hid hnn
      clear hse hnn
      have hn20 : n ≤ 1048576 := by have := HL.out; rw [HNN.out] at this; exact this
      go_wp2_with fail
      refine (clone_any wr A ps np cap HN.out.symm HC.out (by rw [HN.out]; omega)).mono ?_
      rintro e w1 ⟨v1, rfl, hO1, hb1⟩
      have HO1 := Lib.hid hO1
      have Hb1 := Lib.hid hb1
      clear hO1 hb1
      go_wp2_with fail
      refine (ending_any n w1 hn20).mono ?_
      rintro e w2 ⟨ge, rfl, hge, hBe, hb2⟩
      obtain ⟨v3, w3, a1, a2, a3, _, a5⟩ := appV_one (P := Tryd.prog) 63 63 Tryd.undPs Tryd.infoPs rfl (HO1.out.below hb2) (Nat.le_trans Hb1.out.size hb2.size) (.slice (some ⟨ge, 0, none⟩) (endB n).length (endB n).length) rfl (by rw [List.length_map, HN.out]; omega) (by omega)
      have hgeb := hBe.lt
      have hBe3 : Blk w3 ge 5 (u8s (endB n)) := by
        refine (hBe.alloc _).grown a5 (fun h => ?_)
        obtain ⟨A1, c1, hv1, _⟩ := HO1.out.slice
        have h2 := (HO1.out.lt h.symm).2
        omega
      have HB3 := Lib.hid (show Below wr.heap.size wr w3 from Hb1.out.trans ((hb2.mono Hb1.out.size).trans a3))
      have HO3 : Hid (OwnV w3 wr.heap.size 26 v3 ((ps ++ [((some ⟨ge, 0, none⟩, endB n, (endB n).length) : Part)]).map partV)) := Lib.hid (by
        rw [List.map_append]
        exact a2)
      have HE3 := Lib.hid hBe3
      have HGE : Hid (wr.heap.size ≤ ge) := Lib.hid (Nat.le_trans Hb1.out.size hge)
      clear hge hBe hb2 a2 a3 a5 hgeb hBe3 HO1
      go_wp2_with (at_builtin; refine wpList_append_run rfl (.tmp 18) (.tmp 21) _ rfl rfl rfl a1 ?_)
      go_ret
      refine ⟨_, _, rfl, HO3.out, ?_, ?_, ?_, by simp, HB3.out⟩
      · intro p hp
        rcases List.mem_append.1 hp with h | h
        · exact ⟨((HR.out p h).below HB3.out).more HB3.out.size, HCP.out p h⟩
        · simp at h
          subst h
          refine ⟨.inr ⟨ge, 0, rfl, by have := HGE.out; omega, HE3.out.lt, fun i c hi => ?_⟩, Nat.le_refl _⟩
          simp only at hi
          rw [Nat.zero_add, HE3.out.cell, u8s_get, hi]
          rfl
      · rw [← endB_msg, HNN.out]
        simp [cat]
      · rw [List.length_append, HN.out]
        simp
        omega
end Go.Proofs.YtjhkodmaalefiaaDoor
namespace Go.Gar
open Go.RowKit

theorem ofInt_u8 (a : Nat) (ha : a < 2 ^ 8) : (BitVec.ofInt 8 (a : Int)).toNat = a := by
  rw [BitVec.ofInt_natCast, BitVec.toNat_ofNat]; exact Nat.mod_eq_of_lt ha
theorem xor_u8 (a b : Nat) (ha : a < 2 ^ 8) (hb : b < 2 ^ 8) : bits .xor .u8 (a : Int) (b : Int) = ((a ^^^ b : Nat) : Int) := by
  show IntKind.u8.wrap ((BitVec.ofInt 8 (a : Int) ^^^ BitVec.ofInt 8 (b : Int)).toNat : Int) = _
  have hx : a ^^^ b < 2 ^ 8 := Nat.xor_lt_two_pow ha hb
  rw [BitVec.toNat_xor, ofInt_u8 a ha, ofInt_u8 b hb, IntKind.wrap_u8]
  omega
theorem and_u8 (a b : Nat) (ha : a < 2 ^ 8) (hb : b < 2 ^ 8) : bits .and .u8 (a : Int) (b : Int) = ((a &&& b : Nat) : Int) := by
  show IntKind.u8.wrap ((BitVec.ofInt 8 (a : Int) &&& BitVec.ofInt 8 (b : Int)).toNat : Int) = _
  have hx : a &&& b < 2 ^ 8 := Nat.lt_of_le_of_lt Nat.and_le_left ha
  rw [BitVec.toNat_and, ofInt_u8 a ha, ofInt_u8 b hb, IntKind.wrap_u8]
  omega
theorem or_u8 (a b : Nat) (ha : a < 2 ^ 8) (hb : b < 2 ^ 8) : bits .or .u8 (a : Int) (b : Int) = ((a ||| b : Nat) : Int) := by
  show IntKind.u8.wrap ((BitVec.ofInt 8 (a : Int) ||| BitVec.ofInt 8 (b : Int)).toNat : Int) = _
  have hx : a ||| b < 2 ^ 8 := Nat.or_lt_two_pow ha hb
  rw [BitVec.toNat_or, ofInt_u8 a ha, ofInt_u8 b hb, IntKind.wrap_u8]
  omega
theorem ofInt_u32 (a : Nat) (ha : a < 2 ^ 32) : (BitVec.ofInt 32 (a : Int)).toNat = a := by
  rw [BitVec.ofInt_natCast, BitVec.toNat_ofNat]; exact Nat.mod_eq_of_lt ha
theorem xor_u32 (a b : Nat) (ha : a < 2 ^ 32) (hb : b < 2 ^ 32) : bits .xor .u32 (a : Int) (b : Int) = ((a ^^^ b : Nat) : Int) := by
  show IntKind.u32.wrap ((BitVec.ofInt 32 (a : Int) ^^^ BitVec.ofInt 32 (b : Int)).toNat : Int) = _
  have hx : a ^^^ b < 2 ^ 32 := Nat.xor_lt_two_pow ha hb
  rw [BitVec.toNat_xor, ofInt_u32 a ha, ofInt_u32 b hb, IntKind.wrap_u32]
  omega
theorem and_u32 (a b : Nat) (ha : a < 2 ^ 32) (hb : b < 2 ^ 32) : bits .and .u32 (a : Int) (b : Int) = ((a &&& b : Nat) : Int) := by
  show IntKind.u32.wrap ((BitVec.ofInt 32 (a : Int) &&& BitVec.ofInt 32 (b : Int)).toNat : Int) = _
  have hx : a &&& b < 2 ^ 32 := Nat.lt_of_le_of_lt Nat.and_le_left ha
  rw [BitVec.toNat_and, ofInt_u32 a ha, ofInt_u32 b hb, IntKind.wrap_u32]
  omega
theorem or_u32 (a b : Nat) (ha : a < 2 ^ 32) (hb : b < 2 ^ 32) : bits .or .u32 (a : Int) (b : Int) = ((a ||| b : Nat) : Int) := by
  show IntKind.u32.wrap ((BitVec.ofInt 32 (a : Int) ||| BitVec.ofInt 32 (b : Int)).toNat : Int) = _
  have hx : a ||| b < 2 ^ 32 := Nat.or_lt_two_pow ha hb
  rw [BitVec.toNat_or, ofInt_u32 a ha, ofInt_u32 b hb, IntKind.wrap_u32]
  omega
theorem ofInt_u64 (a : Nat) (ha : a < 2 ^ 64) : (BitVec.ofInt 64 (a : Int)).toNat = a := by
  rw [BitVec.ofInt_natCast, BitVec.toNat_ofNat]; exact Nat.mod_eq_of_lt ha
theorem xor_u64 (a b : Nat) (ha : a < 2 ^ 64) (hb : b < 2 ^ 64) : bits .xor .u64 (a : Int) (b : Int) = ((a ^^^ b : Nat) : Int) := by
  show IntKind.u64.wrap ((BitVec.ofInt 64 (a : Int) ^^^ BitVec.ofInt 64 (b : Int)).toNat : Int) = _
  have hx : a ^^^ b < 2 ^ 64 := Nat.xor_lt_two_pow ha hb
  rw [BitVec.toNat_xor, ofInt_u64 a ha, ofInt_u64 b hb, IntKind.wrap_u64]
  omega
theorem and_u64 (a b : Nat) (ha : a < 2 ^ 64) (hb : b < 2 ^ 64) : bits .and .u64 (a : Int) (b : Int) = ((a &&& b : Nat) : Int) := by
  show IntKind.u64.wrap ((BitVec.ofInt 64 (a : Int) &&& BitVec.ofInt 64 (b : Int)).toNat : Int) = _
  have hx : a &&& b < 2 ^ 64 := Nat.lt_of_le_of_lt Nat.and_le_left ha
  rw [BitVec.toNat_and, ofInt_u64 a ha, ofInt_u64 b hb, IntKind.wrap_u64]
  omega
theorem or_u64 (a b : Nat) (ha : a < 2 ^ 64) (hb : b < 2 ^ 64) : bits .or .u64 (a : Int) (b : Int) = ((a ||| b : Nat) : Int) := by
  show IntKind.u64.wrap ((BitVec.ofInt 64 (a : Int) ||| BitVec.ofInt 64 (b : Int)).toNat : Int) = _
  have hx : a ||| b < 2 ^ 64 := Nat.or_lt_two_pow ha hb
  rw [BitVec.toNat_or, ofInt_u64 a ha, ofInt_u64 b hb, IntKind.wrap_u64]
  omega
end Go.Gar
