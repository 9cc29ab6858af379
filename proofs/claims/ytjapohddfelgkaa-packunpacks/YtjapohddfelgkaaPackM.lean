/-
  A thousand zero bytes packed: lists. Of no program.
-/
import Derived.Test.YtjapohddfelgkaaTokM
set_option maxRecDepth 100000
namespace Go.Gar.Lz

theorem same_zeros {N i k : Nat} (hik : i < k) (hk : k < N) : same (List.replicate N (0 : UInt8)) i k = min 130 (N - k) := by
  have h1 := same_le (List.replicate N (0 : UInt8)) i k
  have h3 : min 130 (N - k) ≤ same (List.replicate N (0 : UInt8)) i k := same_max (by omega) (by rw [List.length_replicate]; omega) (fun j hj => by
    rw [List.getElem?_replicate, List.getElem?_replicate, if_pos (by omega), if_pos (by omega)])
  have h2 := same_fit (b := List.replicate N (0 : UInt8)) (i := i) (k := k) (by omega)
  rw [List.length_replicate] at h2
  omega
theorem best_zeros {N a : Nat} (h1 : 1 ≤ a) (h2 : a + 3 ≤ N) : best (List.replicate N (0 : UInt8)) a = (min 130 (N - a), 1) := by
  refine best_eq (by omega) (Nat.le_refl _) (by omega) (by rw [same_zeros (by omega) (by omega)]) (fun e he he2 => ?_) (fun e he he2 => by omega)
  rw [same_zeros (by omega) (by omega)]
  exact Nat.le_refl _
theorem rest_zeros {N a : Nat} (h1 : 1 ≤ a) (h2 : a + 3 ≤ N) (out : List Tok) : rest (List.replicate N (0 : UInt8)) a out = rest (List.replicate N (0 : UInt8)) (a + min 130 (N - a)) (out ++ [⟨[], (min 130 (N - a) : Nat), (1 : Nat)⟩]) := by
  rw [rest_match (by rw [List.length_replicate]; omega) (by rw [best_zeros h1 h2]; simp only; omega), best_zeros h1 h2]
theorem rest_zeros_at {N a : Nat} (n a' : Nat) (h1 : 1 ≤ a) (h2 : a + 3 ≤ N) (hn : n = min 130 (N - a)) (ha : a' = a + n) (out : List Tok) : rest (List.replicate N (0 : UInt8)) a out = rest (List.replicate N (0 : UInt8)) a' (out ++ [⟨[], (n : Int), ((1 : Nat) : Int)⟩]) := by
  subst hn; subst ha
  exact rest_zeros h1 h2 out
theorem tokens_zerosN (N : Nat) (hN : N = 1000) : tokens (List.replicate N (0 : UInt8)) = [⟨[0], 0, 0⟩, ⟨[], (130 : Nat), (1 : Nat)⟩, ⟨[], (130 : Nat), (1 : Nat)⟩, ⟨[], (130 : Nat), (1 : Nat)⟩, ⟨[], (130 : Nat), (1 : Nat)⟩, ⟨[], (130 : Nat), (1 : Nat)⟩, ⟨[], (130 : Nat), (1 : Nat)⟩, ⟨[], (130 : Nat), (1 : Nat)⟩, ⟨[], (89 : Nat), (1 : Nat)⟩] := by
  have hb : best (List.replicate N (0 : UInt8)) 0 = (0, 0) := best_none (fun e h1 h2 => by omega)
  have hg : (List.replicate N (0 : UInt8)).getD 0 0 = 0 := by rw [List.getD_eq_getElem?_getD, List.getElem?_replicate, if_pos (by omega)]; rfl
  rw [← rest_start, rest_put (by rw [List.length_replicate]; omega) (by rw [hb]; omega), put_nil, hg, Nat.zero_add,
    rest_zeros_at 130 131 (by omega) (by omega) (by omega) (by omega),
    rest_zeros_at 130 261 (by omega) (by omega) (by omega) (by omega),
    rest_zeros_at 130 391 (by omega) (by omega) (by omega) (by omega),
    rest_zeros_at 130 521 (by omega) (by omega) (by omega) (by omega),
    rest_zeros_at 130 651 (by omega) (by omega) (by omega) (by omega),
    rest_zeros_at 130 781 (by omega) (by omega) (by omega) (by omega),
    rest_zeros_at 130 911 (by omega) (by omega) (by omega) (by omega),
    rest_zeros_at 89 1000 (by omega) (by omega) (by omega) (by omega),
    rest_end (by rw [List.length_replicate]; omega)]
  rfl
theorem pack_zeros (N : Nat) (hN : N = 1000) : (packB (List.replicate N (0 : UInt8))).1 = 0 ∧ (packB (List.replicate N (0 : UInt8))).2.length = 27 ∧ unpackB (packB (List.replicate N (0 : UInt8))).2 = (0, List.replicate N (0 : UInt8)) := by
  have hl : (List.replicate N (0 : UInt8)).length = N := List.length_replicate
  have h := unpack_pack (b := List.replicate N (0 : UInt8)) (by omega)
  refine ⟨h.1, ?_, h.2.1⟩
  have ht : ((tokens (List.replicate N (0 : UInt8))).flatMap encT).length = 26 := by
    rw [tokens_zerosN N hN]
    simp [encT]
  have he : (encode (tokens (List.replicate N (0 : UInt8)))).2.length = 26 := by
    rw [encode_tokens]
    exact ht
  unfold packB
  rw [if_neg (by omega), if_neg (by omega)]
  simp only [List.length_cons, he]
end Go.Gar.Lz
