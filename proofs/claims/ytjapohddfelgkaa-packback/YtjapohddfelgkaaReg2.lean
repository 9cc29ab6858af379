/-
  A statement that draws its order, where two operations may come up: both are walked. Of no program; a tool for the walks.
-/
import Derived.Test.YtjapohddfelgkaaReg
set_option maxRecDepth 100000
namespace Go.Gar
open Go.RowKit
section
variable {G : Growth} {P : Program} {ops : Array Oper} {Q : Exit → Act → World → Prop} {md : Region.Mode}

theorem wpOp_of_list {i : Nat} {o : Oper} {a : Act} {w : World} {K : Act → World → Prop} (hi : ops[i]? = some o) (h : wpList P ops (Exit.then K Q) [o] a w) : wpOp P ops Q i K a w := by
  unfold wpOp
  simp only [hi]
  unfold wpList at h
  split
  · rename_i hw
    simp only [hw, if_true] at h
    rcases h with h | ⟨h1, h2⟩
    · left
      unfold Oper.wp at h ⊢
      generalize (execOp a.eval o).run P w = r at *
      cases r with
      | ok n w' => cases n <;> exact h
      | halt x w' => cases x <;> exact h
    · exact .inr ⟨h1, h2⟩
  · rename_i hw
    simp only [hw] at h
    exact h
/-- Two operations may come up now. -/
theorem twoG {L : List Oper} (i j n : Nat) {N : Nat} {o p : Oper} {listed : Array Bool} {a : Act} {w : World} (hN : N = n + 1) (hr : Region.ready md L.toArray listed = [i, j]) (hi : L[i]? = some o) (hj : L[j]? = some p)
    (h1 : wpList P L.toArray (Exit.then (fun a' w' => G.rel w w' ∧ wpAnyG G P md L.toArray Q n (listed.setIfInBounds i true) a' w') Q) [o] a w)
    (h2 : wpList P L.toArray (Exit.then (fun a' w' => G.rel w w' ∧ wpAnyG G P md L.toArray Q n (listed.setIfInBounds j true) a' w') Q) [p] a w) : wpAnyG G P md L.toArray Q N listed a w := by
  subst hN
  refine ⟨fun h0 => (by rw [h0] at hr; cases hr), fun k hk => ?_⟩
  rw [hr] at hk
  rcases List.mem_cons.1 hk with rfl | hk
  · exact wpOp_mono (fun a' w' h => ⟨.inl h.1, h.2⟩) (wpOp_of_list (by simpa using hi) h1)
  · obtain rfl : k = j := by simpa using hk
    exact wpOp_mono (fun a' w' h => ⟨.inl h.1, h.2⟩) (wpOp_of_list (by simpa using hj) h2)
/-- The walk under a name: what is left of it may be stated once for all orders. -/
theorem nameG {fuel : Nat} {listed : Array Bool} {a : Act} {w : World} (h : ∀ W : Nat → Array Bool → Act → World → Prop, W = wpAnyG G P md ops Q → W fuel listed a w) : wpAnyG G P md ops Q fuel listed a w := h _ rfl
theorem sameG {fuel : Nat} {listed L' : Array Bool} {a : Act} {w : World} (e : listed = L') (h : wpAnyG G P md ops Q fuel L' a w) : wpAnyG G P md ops Q fuel listed a w := by rw [e]; exact h
end
end Go.Gar
