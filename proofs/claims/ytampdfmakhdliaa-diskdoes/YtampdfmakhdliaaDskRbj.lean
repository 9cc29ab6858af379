/-
  Layer 14: the reference's disk: goes, Since, Read, Pending.
-/
import Derived.Test.YtampdfmakhdliaaDskRaj
import Derived.Test.YtampdfmakhdliaaDiskJ03
set_option maxRecDepth 100000
namespace Go.Proofs.Ytampdfmakhdliaa
open Go.RowKit Go.Gar
open Go.Gar.Dsk (Dsk Sec)

set_option maxHeartbeats 1000000 in
theorem refGoes_any {w : World} {F : Nat → Prop} {g : Nat} {d : Dsk} (h : RefD w F g d) :
    Calls Try.prog 33 #[.pointer (some ⟨g, 0, none⟩)] w fun e w' => e = .returned (.bool (Dsk.goes d.fuse).isSome) ∧ RefD w' F g { d with fuse := (Dsk.goes d.fuse).getD d.fuse } ∧ Only F w w' := by
  obtain ⟨vG, vS, vA, vO, vW, gs, ss, f, h⟩ := h
  have hq := h.blk.cell 5
  simp only [List.getElem?_cons_zero, List.getElem?_cons_succ] at hq
  have hfz := h.blk.frozen 5
  obtain ⟨hi, hf⟩ := h.fuse
  unfold isI64 at hi
  rcases hf with ⟨hneg, hnone⟩ | ⟨n, rfl, hn⟩
  · rw [hnone]
    have h1 : ¬ 0 < f := by omega
    have hd : decide (f < 0) = true := by simpa using hneg
    have hsame : ({ d with fuse := none } : Dsk) = d := by rw [← hnone]
    have H := Lib.hid h
    clear h hneg hnone
    go_enter Try.func33, Try.ntmps33
    go_wp2
    go_ret
    refine ⟨rfl, ?_, Only.refl _ _⟩
    show RefD w F g { d with fuse := none }
    rw [hsame]
    exact ⟨vG, vS, vA, vO, vW, gs, ss, f, H.out⟩
  · cases n with
    | zero =>
      rw [hn]
      have hsame : ({ d with fuse := some 0 } : Dsk) = d := by rw [← hn]
      have H := Lib.hid h
      clear h hn
      go_enter Try.func33, Try.ntmps33
      go_wp2
      go_ret
      refine ⟨rfl, ?_, Only.refl _ _⟩
      show RefD w F g { d with fuse := some 0 }
      rw [hsame]
      exact ⟨vG, vS, vA, vO, vW, gs, ss, _, H.out⟩
    | succ m =>
      rw [hn]
      have h1 : (0 : Int) < ((m + 1 : Nat) : Int) := by omega
      have H := Lib.hid (h.cells (i := 5) (u := .int .i64 (m : Int)) (f' := (m : Int)) (d' := { d with fuse := some m }) rfl ⟨by unfold isI64; omega, .inr ⟨m, rfl, rfl⟩⟩ rfl ⟨h.ok.len, h.ok.secs⟩)
      have Hg := Lib.hid h.fg
      clear h hn
      have hsub : ((m + 1 : Nat) : Int) - 1 = (m : Int) := by omega
      go_enter Try.func33, Try.ntmps33
      go_wp2
      go_ret
      exact ⟨rfl, ⟨vG, vS, vA, vO, vW, gs, ss, _, H.out⟩, Only.set Hg.out _⟩

set_option maxHeartbeats 1000000 in
theorem refSince_any {w : World} {F : Nat → Prop} {g : Nat} {d : Dsk} (h : RefD w F g d) (i : Int) :
    Calls Try.prog 23 #[.pointer (some ⟨g, 0, none⟩), .int .i64 i] w fun e w' => e = .returned (.int .i64 ((Dsk.since d i : Nat) : Int)) ∧ w' = w := by
  obtain ⟨vG, vS, vA, vO, vW, gs, ss, f, h⟩ := h
  have hq := h.blk.cell 2
  simp only [List.getElem?_cons_zero, List.getElem?_cons_succ] at hq
  obtain ⟨m, hm⟩ : ∃ m, m = d.secs.length := ⟨_, rfl⟩
  obtain ⟨A, c, e, _⟩ := h.rA.slice
  rw [List.length_map, ← hm] at e
  rw [e] at hq
  rcases there_cases d i with ⟨h0, ht⟩ | ⟨h0, h1, ht⟩ | ⟨k, rfl, hk, ht⟩
  · have hs : Dsk.since d i = 0 := by unfold Dsk.since; rw [ht]; rfl
    rw [hs]
    have hd : decide (i < 0) = true := by simpa using h0
    clear h hs ht e h0 hm
    go_enter Try.func23, Try.ntmps23
    go_wp2
    go_ret
    exact ⟨rfl, rfl⟩
  · have hs : Dsk.since d i = 0 := by unfold Dsk.since; rw [ht]; rfl
    rw [hs]
    rw [← hm] at h1
    have hd : decide (i < 0) = false := by simp; omega
    have hd1 : decide ((m : Int) ≤ i) = true := by simpa using h1
    clear h hs ht e hm h0 h1
    go_enter Try.func23, Try.ntmps23
    go_wp2
    go_ret
    exact ⟨rfl, rfl⟩
  · have hg := Dsk.at_get ht
    rw [show ((k : Nat) : Int).toNat = k from rfl] at hg
    have hu : (d.secs.map fun s => Value.int .i64 (s.age : Int))[k]? = some (.int .i64 ((Dsk.at_ d (k : Int)).age : Int)) := by rw [List.getElem?_map, hg]; rfl
    obtain ⟨g', c', e', hc', hlt, hcell, hfz⟩ := h.rA.at_ hu
    rw [List.length_map, ← hm] at e'
    rw [e] at e'
    simp only [Value.slice.injEq] at e'
    obtain ⟨rfl, _, rfl⟩ := e'
    have hs : Dsk.since d (k : Int) = (Dsk.at_ d (k : Int)).age := by unfold Dsk.since; rw [if_pos ht]
    rw [hs]
    rw [← hm] at hk
    obtain ⟨a, ha⟩ : ∃ a, a = (Dsk.at_ d (k : Int)).age := ⟨_, rfl⟩
    rw [← ha] at hcell ⊢
    clear h hs ht e hg hu hc' hlt ha hm
    go_enter Try.func23, Try.ntmps23
    go_wp2
    go_ret
    exact ⟨rfl, rfl⟩
theorem Hold.rd {w : World} {s : Slc} {l : List UInt8} (h : Hold w s l) {B : Nat} (hB : s.b < B) : Rd w B (some ⟨s.b, 0, none⟩) l := by
  obtain ⟨_, _, rest, hC⟩ := h
  rcases Rd.of_row hC with h | ⟨b, o, e, _, hc⟩
  · exact .inl h
  · exact .inr ⟨b, o, e, by obtain ⟨rfl, _⟩ : s.b = b ∧ (0 : Nat) = o := by simpa using e
                            exact hB, hc⟩
set_option maxHeartbeats 1000000 in
set_option maxRecDepth 100000 in
theorem refRead14_any {w : World} {F : Nat → Prop} {g : Nat} {d : Dsk} (h : RefD w F g d) (i : Int) :
    Calls Try.prog 21 #[.pointer (some ⟨g, 0, none⟩), .int .i64 i] w fun e w' => ∃ A n c, e = .returned (.tuple #[.slice A n c, .int .i64 ((Dsk.readE d i : Nat) : Int)]) ∧ n = (Dsk.read d i).length ∧ n ≤ c ∧ Rd w' w'.heap.size A (Dsk.read d i) ∧ Below w.heap.size w w' := by
  obtain ⟨vG, vS, vA, vO, vW, gs, ss, f, h⟩ := h
  have hq := h.blk.cell 0
  simp only [List.getElem?_cons_zero] at hq
  obtain ⟨m, hm⟩ : ∃ m, m = d.secs.length := ⟨_, rfl⟩
  obtain ⟨A, c, e, _⟩ := h.rG.slice
  rw [List.length_map, h.lG, ← hm] at e
  rw [e] at hq
  rcases there_cases d i with ⟨h0, ht⟩ | ⟨h0, h1, ht⟩ | ⟨k, rfl, hk, ht⟩
  · have hs : Dsk.readE d i = 1 := by unfold Dsk.readE; rw [ht]; rfl
    have hs2 : Dsk.read d i = [] := by unfold Dsk.read; rw [ht]; rfl
    rw [hs, hs2]
    have hd : decide (i < 0) = true := by simpa using h0
    clear h hs hs2 ht e h0 hm
    go_enter Try.func21, Try.ntmps21
    go_wp2
    go_ret2
    exact ⟨none, 0, 0, rfl, rfl, Nat.le_refl _, Rd.nil, Below.refl _ _⟩
  · have hs : Dsk.readE d i = 1 := by unfold Dsk.readE; rw [ht]; rfl
    have hs2 : Dsk.read d i = [] := by unfold Dsk.read; rw [ht]; rfl
    rw [hs, hs2]
    rw [← hm] at h1
    have hd : decide (i < 0) = false := by simp; omega
    have hd1 : decide ((m : Int) ≤ i) = true := by simpa using h1
    clear h hs hs2 ht e hm h0 h1
    go_enter Try.func21, Try.ntmps21
    go_wp2
    go_ret2
    exact ⟨none, 0, 0, rfl, rfl, Nat.le_refl _, Rd.nil, Below.refl _ _⟩
  · have hg := Dsk.at_get ht
    rw [show ((k : Nat) : Int).toNat = k from rfl] at hg
    have hgl : k < gs.length := by rw [h.lG]; exact hk
    have hgs : gs[k]? = some gs[k] := List.getElem?_eq_getElem hgl
    obtain ⟨s, hsv⟩ : ∃ s, s = gs[k] := ⟨_, rfl⟩
    rw [← hsv] at hgs
    have hu : (gs.map Slc.v)[k]? = some s.v := by rw [List.getElem?_map, hgs]; rfl
    obtain ⟨g', c', e', hc', hlt, hcell, hfz⟩ := h.rG.at_ hu
    rw [List.length_map, h.lG, ← hm] at e'
    rw [e] at e'
    simp only [Value.slice.injEq] at e'
    obtain ⟨rfl, _, rfl⟩ := e'
    have hs : Dsk.readE d (k : Int) = 0 := by unfold Dsk.readE; rw [if_pos ht]
    have hs2 : Dsk.read d (k : Int) = (Dsk.at_ d (k : Int)).good := by unfold Dsk.read; rw [if_pos ht]
    have hH := h.hG k s _ hgs hg
    have hsb : s.b < w.heap.size := h.lt _ (h.fgs s (List.mem_of_getElem? hgs))
    have hgb : g < w.heap.size := h.blk.lt
    rw [← hm] at hk
    have hrd := hH.rd hsb
    have hb0 := below_alloc w (.cells #[] 5)
    obtain ⟨v', w', e1, ho', hb', _⟩ := app_rd (P := Try.prog) (w := w.alloc (.cells #[] 5)) 40 40 Try.und22 Try.info5 (own_made w w.heap.size 5 (Nat.le_refl _)) hb0.size s.c (hrd.below hb0) (by rw [hH.2.1]; simp)
    rw [hH.2.1] at e1
    rw [List.nil_append] at ho'
    have q0 : (w.alloc (.cells #[] 5)).cell? ⟨g, 0, none⟩ = some (.slice (some ⟨g', 0, none⟩) m c) := (hb0.cell (p := ⟨g, 0, none⟩) hgb).trans hq
    have q1 : (w.alloc (.cells #[] 5)).cell? ⟨g', k, none⟩ = some (.slice (some ⟨s.b, 0, none⟩) 32 s.c) := (hb0.cell (p := ⟨g', k, none⟩) hlt).trans hcell
    obtain ⟨g9, cap, rest, e9, _, hcap, hB9⟩ := ho'.blk (by rw [hH.2.1]; omega)
    rw [hH.2.1] at e9 hcap
    subst e9
    rw [hs, hs2]
    have Hb := Lib.hid (hb0.trans hb')
    have HB9 := Lib.hid (Rd.of_row hB9)
    have Hln := Lib.hid (show 32 = (Dsk.at_ d (k : Int)).good.length from hH.2.1.symm)
    have Hcap := Lib.hid hcap
    have HE1 := Lib.hid e1
    clear h hs hs2 ht e hg hu hc' hH hsv hgs hm hb' hb0 ho' hB9 hcap e1 hrd hgb hlt hsb hgl
    go_enter Try.func21, Try.ntmps21
    go_wp2_with (at_builtin; refine wpList_append_run rfl (.tmp 17) (.tmp 24) _ rfl rfl rfl HE1.out ?_)
    go_ret2
    exact ⟨_, 32, cap, rfl, Hln.out, Hcap.out, HB9.out, Hb.out⟩
end Go.Proofs.Ytampdfmakhdliaa
