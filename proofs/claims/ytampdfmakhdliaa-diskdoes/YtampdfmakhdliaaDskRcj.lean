/-
  Layer 14: the reference's disk: Pending; rows by their places.
-/
import Derived.Test.YtampdfmakhdliaaDskRbj
set_option maxRecDepth 100000
namespace Go.Proofs.Ytampdfmakhdliaa
open Go.RowKit Go.Gar
open Go.Gar.Dsk (Dsk Sec)

/-- A place of a row whose values have one cell each. -/
theorem row_at {w : World} {t tS : TypeId} {v : Value} {vs : List Value} (hu : Try.prog.underlying tS = some (.slice t)) (hs : (Try.prog.info? t).map (·.size) = some 1) (h : RowA w t v vs) {k : Nat} {u : Value} (hi : vs[k]? = some u) :
    ∃ g, (∀ W, (Instr.indexAt tS v (.int .i64 (k : Int))).run Try.prog W = .ok (.pointer (some ⟨g, k, none⟩)) W) ∧ v.ownBlock = some g ∧ g < w.heap.size ∧ w.cell? ⟨g, k, none⟩ = some u ∧ w.frozen? ⟨g, k, none⟩ = false := by
  obtain ⟨g, c, rfl, hc, hlt, h1, h2⟩ := h.at_ hi
  have hk := (List.getElem?_eq_some_iff.1 hi).1
  refine ⟨g, fun W => ?_, rfl, hlt, h1, h2⟩
  obtain ⟨i, hi2, hs2⟩ := Option.map_eq_some_iff.1 hs
  have h0 : (0 : Int) ≤ (k : Int) ∧ (k : Int) < (vs.length : Int) := by omega
  simp [Instr.indexAt, asIntOf, Sem.run_bind, run_underlying hu W, sizeOf, typeInfo, hi2, hs2, h0, Addr.add_lit, Result.andThen]
  exact fun h => absurd h (by omega)
theorem Try.undSls : Try.prog.underlying 28 = some (.slice 40) := by kernel_rfl
theorem Try.undIs : Try.prog.underlying 29 = some (.slice 3) := by kernel_rfl
theorem Try.undBs : Try.prog.underlying 30 = some (.slice 4) := by kernel_rfl
theorem Try.sizeSl : (Try.prog.info? 40).map (·.size) = some 1 := by kernel_rfl
theorem Try.sizeI1 : (Try.prog.info? 3).map (·.size) = some 1 := by kernel_rfl
theorem Try.sizeB1 : (Try.prog.info? 4).map (·.size) = some 1 := by kernel_rfl
set_option maxHeartbeats 1000000 in
set_option maxRecDepth 100000 in
theorem refPending_any {w : World} {F : Nat → Prop} {g : Nat} {d : Dsk} (h : RefD w F g d) :
    Calls Try.prog 25 #[.pointer (some ⟨g, 0, none⟩)] w fun e w' => e = .returned (.int .i64 ((Dsk.pending d : Nat) : Int)) ∧ w' = w := by
  obtain ⟨vG, vS, vA, vO, vW, gs, ss, f, h⟩ := h
  obtain ⟨m, hm⟩ : ∃ m, m = d.secs.length := ⟨_, rfl⟩
  have hm4 : m ≤ 4096 := by rw [hm]; exact h.ok.len
  obtain ⟨A, c, e, _⟩ := h.rW.slice
  rw [List.length_map, ← hm] at e
  subst e
  have hq := h.blk.cell 4
  simp only [List.getElem?_cons_zero, List.getElem?_cons_succ] at hq
  have H := Lib.hid h
  have Hm := Lib.hid hm
  obtain ⟨p, hp⟩ : ∃ p, p = Dsk.pending d := ⟨_, rfl⟩
  rw [← hp]
  have Hp := Lib.hid (show p = Dsk.wetN d.secs m by rw [hp, hm, Dsk.wetN_all]; rfl)
  have Hmono := Lib.hid (show ∀ k, k ≤ m → Dsk.wetN d.secs k ≤ 4096 from fun k hk => by
    unfold Dsk.wetN
    refine Nat.le_trans (List.length_filter_le _ _) ?_
    rw [List.length_take]; omega)
  clear h hm hp
  go_enter Try.func25, Try.ntmps25
  go_wp2
  go_loopw [3, 4] (fun v i w' => w' = w ∧ ∃ k : Nat, k ≤ m ∧ i = .int .i64 k ∧ v = .int .i64 ((Dsk.wetN d.secs k : Nat) : Int)) (fun _ i _ => m - (intOf i).toNat)
  case atStart => exact ⟨rfl, 0, by omega, rfl, rfl⟩
  case round =>
    obtain ⟨rfl, k, hk, rfl, rfl⟩ := hrel
    obtain ⟨q, hqq⟩ : ∃ q, q = Dsk.wetN d.secs k := ⟨_, rfl⟩
    have hq4 : q ≤ 4096 := by rw [hqq]; exact Hmono.out k hk
    rw [← hqq]
    have Hq := Lib.hid hqq
    clear hqq
    by_cases h1 : k < m
    · have hd : decide ((k : Int) < (m : Int)) = true := by simp; omega
      have hkd : k < d.secs.length := by rw [← Hm.out]; exact h1
      obtain ⟨s, hs⟩ : ∃ s, d.secs[k]? = some s := ⟨_, List.getElem?_eq_getElem hkd⟩
      obtain ⟨b, hb⟩ : ∃ b, b = s.wet := ⟨_, rfl⟩
      have hu : (d.secs.map fun s => Value.bool s.wet)[k]? = some (.bool b) := by rw [List.getElem?_map, hs, hb]; rfl
      obtain ⟨g', hix, _, _, hcell, _⟩ := row_at Try.undBs Try.sizeB1 H.out.rW hu
      have hnx := Dsk.wetN_succ hs
      rw [← Hq.out, ← hb] at hnx
      have Hnx := Lib.hid hnx
      clear hkd hs hb hu hnx
      cases b with
      | true =>
        go_wp2
        exact ⟨⟨trivial, k + 1, by omega, by go_num, by rw [Hnx.out]; go_num⟩, by simp [intOf]; omega⟩
      | false =>
        go_wp2
        exact ⟨⟨trivial, k + 1, by omega, by go_num, by rw [Hnx.out]; go_num⟩, by simp [intOf]; omega⟩
    · have hd : decide ((k : Int) < (m : Int)) = false := by simp; omega
      have hkm : q = p := by rw [Hq.out, Hp.out]; congr 1; omega
      have Hkm := Lib.hid hkm
      clear hkm
      go_wp2
      go_ret
      exact ⟨by rw [Hkm.out]; rfl, rfl⟩
end Go.Proofs.Ytampdfmakhdliaa
