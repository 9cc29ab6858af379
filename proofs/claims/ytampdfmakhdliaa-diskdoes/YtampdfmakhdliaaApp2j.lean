/-
  append of bytes onto a slice that the call itself made, and where what it yields lies: in its old block or in a new one. Of no program.
-/
import Derived.Test.YtampdfmakhdliaaDiskJ03
import Derived.Maps.AppendAt
set_option maxRecDepth 100000
namespace Go.Gar
open Go.RowKit
section
variable {P : Program} {w : World} {base : Nat} {e : TypeId} {v : Value} {k : List UInt8}
theorem app_at (t ty : TypeId) (ht : P.underlying t = some (.slice e)) (hinfo : (P.info? e).map (fun i => (i.zero, i.size, i.bytes)) = some (some (.int .u8 0), 1, 1))
    (hown : OwnB w base e v k) (hbase : base ≤ w.heap.size) {B : Nat} {A : Option Addr} {l : List UInt8} (n c : Nat) (hn : n = l.length) (hr : Rd w B A l) (hlen : k.length + l.length ≤ 1099511627776) :
    ∃ v' w', (Builtin.append_ #[t, t] ty #[v, .slice A n c]).run P w = .ok v' w' ∧ OwnB w' base e v' (k ++ l) ∧ w.grownBy w' v.ownBlock ∧ (v'.ownBlock = v.ownBlock ∨ v'.ownBlock = some w.heap.size) := by
  subst hn
  obtain ⟨i, hi, hzz⟩ := Option.map_eq_some_iff.1 hinfo
  simp only [Prod.mk.injEq] at hzz
  obtain ⟨hz, hs, hby⟩ := hzz
  cases A with
  | none =>
    have hl : l = [] := by
      rcases hr with hl | ⟨b, o, h, _⟩
      · exact hl
      · cases h
    subst hl
    refine ⟨v, w, ?_, by simpa using hown, World.grownBy.refl _ _, .inl rfl⟩
    rcases hown.2 with ⟨rfl, hn⟩ | ⟨g, cap, cur, rfl, _, _, hnc, _⟩
    · simp [Builtin.append_, run_underlying ht, sizeOf, typeInfo, hi, Builtin.lenOf, Builtin.firstCells]
    · simp [Builtin.append_, run_underlying ht, sizeOf, typeInfo, hi, Builtin.lenOf, Builtin.firstCells, hnc, storeCells]
  | some a =>
    obtain ⟨v', w', h1, h2, h3, _, h5⟩ := run_append_own_at (P := P) w base t ty e i _ 1 1 ht hi hz hs hby rfl (by omega) v k.length (u8s k) hown a l.length c (u8s l) (by simp [u8s_len]) (by
      intro j u hj
      rw [u8s_get] at hj
      rcases hr with rfl | ⟨b, o, hA, _, hc⟩
      · simp at hj
      · injection hA with hA
        subst hA
        cases hq : l[j]? with
        | none => simp [hq] at hj
        | some c =>
          rw [hq] at hj
          simp at hj
          subst hj
          have : (⟨b, o, none⟩ : Addr).add j = ⟨b, o + j, none⟩ := Addr.add_lit _ _ _
          rw [this]
          exact hc j c hq) (u8s_one l) (by simp only [maxLen]; omega) (by omega) hbase
    refine ⟨v', w', h1, ?_, h3, h5⟩
    unfold OwnB
    rw [List.length_append, u8s_app]
    exact h2
theorem OwnB.block_lt {g : Nat} (h : OwnB w base e v k) (hg : v.ownBlock = some g) : base ≤ g ∧ g < w.heap.size := World.ownsRow.lt h g hg
theorem OwnB.far {w' : World} {row : Option Nat} (h : OwnB w base e v k) (hg : w.grownBy w' row) (hne : ∀ g, v.ownBlock = some g → row ≠ some g) : OwnB w' base e v k :=
  h.keep fun g hv => hg.block g (h.block_lt hv).2 (fun e => hne g hv e.symm)
end
end Go.Gar
