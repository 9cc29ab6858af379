/-
  Layer 14: the reference's disk: Flush.
-/
import Derived.Test.YtampdfmakhdliaaDskRsj
set_option maxRecDepth 100000
namespace Go.Gar.Dsk
/-- The first k sectors settled. -/
def setK (l : List Sec) (k : Nat) : List Sec := (l.take k).map settle ++ l.drop k
theorem setK_zero (l : List Sec) : setK l 0 = l := by simp [setK]
theorem setK_all (l : List Sec) : setK l l.length = l.map settle := by simp [setK]
theorem setK_len (l : List Sec) (k : Nat) : (setK l k).length = l.length := by
  unfold setK
  rw [List.length_append, List.length_map, List.length_take, List.length_drop]; omega
theorem setK_get {l : List Sec} {k : Nat} {x : Sec} (h : l[k]? = some x) : (setK l k)[k]? = some x := by
  have hk := (List.getElem?_eq_some_iff.1 h).1
  unfold setK
  rw [List.getElem?_append_right (by rw [List.length_map, List.length_take]; omega), List.length_map, List.length_take, List.getElem?_drop]
  rw [show k + (k - min k l.length) = k by omega]
  exact h
theorem setK_succ {l : List Sec} {k : Nat} {x : Sec} (h : l[k]? = some x) : (setK l k).set k (settle x) = setK l (k + 1) := by
  have hk := (List.getElem?_eq_some_iff.1 h).1
  unfold setK
  have e : l.drop k = x :: l.drop (k + 1) := by
    rw [List.drop_eq_getElem_cons hk]
    congr 1
    rw [List.getElem?_eq_getElem hk] at h
    exact Option.some.inj h
  rw [e, List.take_add_one, h, List.map_append, List.set_append_right _ _ (by rw [List.length_map, List.length_take]; omega), List.length_map, List.length_take, show k - min k l.length = 0 by omega]
  simp
end Go.Gar.Dsk
namespace Go.Proofs.Ytampdfmakhdliaa
open Go.RowKit Go.Gar
open Go.Gar.Dsk (Dsk Sec)

set_option maxHeartbeats 2000000 in
set_option maxRecDepth 100000 in
theorem refFlush14_any {w : World} {F : Nat → Prop} {g : Nat} {d : Dsk} (h : RefD w F g d) :
    Calls Try.prog 13 #[.pointer (some ⟨g, 0, none⟩)] w fun e w' => e = .returned (.int .i64 ((Dsk.flushE d : Nat) : Int)) ∧ RefD w' F g (Dsk.flush d) ∧ Only F w w' := by
  have hgo := refGoes_any h
  obtain ⟨E, hE⟩ : ∃ E, E = Dsk.flushE d := ⟨_, rfl⟩
  obtain ⟨D, hD⟩ : ∃ D, D = Dsk.flush d := ⟨_, rfl⟩
  rw [← hE, ← hD]
  have HE := Lib.hid hE
  have HD := Lib.hid hD
  obtain ⟨m, hm⟩ : ∃ m, m = d.secs.length := ⟨_, rfl⟩
  have hm4 : m ≤ 4096 := by
    obtain ⟨_, _, _, _, _, _, _, _, hh⟩ := h
    rw [hm]; exact hh.ok.len
  have Hm := Lib.hid hm
  clear hE hD hm h
  go_enter Try.func13, Try.ntmps13
  go_wp2_with fail
  refine hgo.mono ?_
  rintro e w1 ⟨rfl, hR1, ho1⟩
  clear hgo
  cases hg : Dsk.goes d.fuse with
  | none =>
    have e1 : Dsk.flushE d = 10 := by unfold Dsk.flushE; rw [hg]; rfl
    have e2 : Dsk.flush d = d := by unfold Dsk.flush; rw [hg]
    rw [hg] at hR1
    have HE0 := Lib.hid (HE.out.trans e1)
    have HD0 := Lib.hid (HD.out.trans e2)
    have HR1 := Lib.hid (show RefD w1 F g d from hR1)
    have Ho1 := Lib.hid ho1
    clear hR1 ho1 e1 e2 hg
    go_wp2
    go_ret
    exact ⟨by rw [HE0.out]; rfl, by rw [HD0.out]; exact HR1.out, Ho1.out⟩
  | some f' =>
    have e1 : Dsk.flushE d = 0 := by unfold Dsk.flushE; rw [hg]; rfl
    have e2 : Dsk.flush d = ⟨Dsk.setK d.secs m, f', d.many⟩ := by unfold Dsk.flush; rw [hg, Hm.out, Dsk.setK_all]
    rw [hg] at hR1
    have HE0 := Lib.hid (HE.out.trans e1)
    have HD0 := Lib.hid (HD.out.trans e2)
    have HR1 := Lib.hid (show RefD w1 F g ⟨Dsk.setK d.secs 0, f', d.many⟩ by rw [Dsk.setK_zero]; exact hR1)
    have Ho1 := Lib.hid ho1
    clear hR1 ho1 e1 e2 hg
    go_wp2
    go_loopw [3] (fun i w' => ∃ k : Nat, k ≤ m ∧ i = .int .i64 k ∧ RefD w' F g ⟨Dsk.setK d.secs k, f', d.many⟩ ∧ Only F w w') (fun i _ => m - (intOf i).toNat)
    case atStart => exact ⟨0, by omega, rfl, HR1.out, Ho1.out⟩
    case round =>
      obtain ⟨k, hk, rfl, hR, ho⟩ := hrel
      clear HR1 Ho1
      have hR2 := hR
      obtain ⟨vG, vS, vA, vO, vW, gs, ss, f, hh⟩ := hR2
      have hq := hh.blk.cell 0
      simp only [List.getElem?_cons_zero] at hq
      obtain ⟨A, c, e, _⟩ := hh.rG.slice
      rw [List.length_map, hh.lG, Dsk.setK_len, ← Hm.out] at e
      rw [e] at hq
      have HR := Lib.hid hR
      have Ho := Lib.hid ho
      clear hR ho hh e
      by_cases h1 : k < m
      · have hd : decide ((k : Int) < (m : Int)) = true := by simp; omega
        obtain ⟨x, hx⟩ : ∃ x, d.secs[k]? = some x := ⟨_, List.getElem?_eq_getElem (by rw [← Hm.out]; exact h1)⟩
        have Hx := Lib.hid hx
        clear hx
        go_wp2_with fail
        refine (refSettle_any HR.out k x (Dsk.setK_get Hx.out)).mono ?_
        rintro e w3 ⟨rfl, hR3, ho3⟩
        have HR3 := Lib.hid (show RefD w3 F g ⟨Dsk.setK d.secs (k + 1), f', d.many⟩ by rw [← Dsk.setK_succ Hx.out]; exact hR3)
        have Ho3 := Lib.hid (Ho.out.trans ho3)
        clear hR3 ho3 hq
        go_wp2
        exact ⟨⟨k + 1, by omega, by go_num, HR3.out, Ho3.out⟩, by simp [intOf]; omega⟩
      · have hd : decide ((k : Int) < (m : Int)) = false := by simp; omega
        have Hkm := Lib.hid (show k = m by omega)
        go_wp2
        go_ret
        exact ⟨by rw [HE0.out]; rfl, by rw [HD0.out, ← Hkm.out]; exact HR.out, Ho.out⟩
end Go.Proofs.Ytampdfmakhdliaa
