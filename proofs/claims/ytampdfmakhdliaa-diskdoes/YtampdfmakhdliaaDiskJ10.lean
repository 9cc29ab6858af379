/-
  The landed disk: its fuse: set, pass, Fuse. The landed disk: Write. The landed disk: New. The library's maps.Keys, slices.Sorted and slices.Sort at ints, as the program bears them (made by mkLaySort.py).
-/
import Derived.Test.YtampdfmakhdliaaDiskJ09
import Derived.Test.YtampdfmakhdliaaDiskJ07
import Derived.Test.YtampdfmakhdliaaDiskJ03
import Derived.Shelf.SlIterI.Nil
import Derived.Shelf.SortM.Plain
import Derived.Shelf.SortM.SortNone
import Derived.Test.YtampdfmakhdliaaDiskJ02
set_option maxRecDepth 100000
namespace Go.Proofs.Ytampdfmakhdliaa
open Go.RowKit Go.Gar
open Go.Gar.Dsk (Dsk Sec)

theorem Try.undFuse : Try.prog.underlying 62 = some (.struct (Try.prog.fieldsOf 62)) := by kernel_rfl
theorem Try.infoFuse : (Try.prog.info? 62).map (fun i => (i.zero, i.size)) = some (some (.agg #[.bool false, .int .i64 0]), 2) := by kernel_rfl
theorem Try.sizeFuse : (Try.prog.info? 62).map (·.size) = some 2 := by kernel_rfl
theorem Try.placesFuse : (Try.prog.fieldsOf 62).toList.map (fun f => (f.offset, (Try.prog.info? f.type).map (·.size))) = [((0 : Nat), (1 : Nat)), (1, 1)].map (fun p => (p.1, some p.2)) := by kernel_rfl
theorem built_fuse (b : Bool) (n : Int) : Try.prog.built 62 [(0, .bool b), (1, .int .i64 n)] = some #[.bool b, .int .i64 n] :=
  built_struct Try.undFuse Try.infoFuse _ Try.placesFuse _ _ rfl
set_option maxHeartbeats 1000000 in
theorem set_any {w : World} {F : Nat → Prop} {g gd gm m many n : Nat} {fb : Bool} {left : Int} {du : List (List UInt8 × Nat)} {f : Int → Option Value} (h : DiskB w F g gd gm fb left m many du n f) (x : Int) :
    Calls Try.prog 36 #[ptr g, .int .i64 x] w fun e w' => e = .returned (.tuple #[]) ∧ DiskB w' F g gd gm (decide (0 ≤ x)) x m many du n f ∧ Only F w w' := by
  have h1 := (h.setCell (i := 0) (v := .bool (decide (0 ≤ x))) (fb' := decide (0 ≤ x)) (left' := left) (many' := many) rfl).setCell (i := 1) (v := .int .i64 x) (fb' := decide (0 ≤ x)) (left' := x) (many' := many) rfl
  have ho := (Only.set (p := ⟨g, 0, none⟩) h.fg (.bool (decide (0 ≤ x)))).trans (Only.set (w := w.setCell ⟨g, 0, none⟩ (.bool (decide (0 ≤ x)))) (p := ⟨g, 1, none⟩) h.fg (.int .i64 x))
  obtain ⟨q0, q1, _, _, _⟩ := h.cells
  have z0 := h.blk.frozen 0
  have z1 := h.blk.frozen 1
  have hB := built_fuse (decide (0 ≤ x)) x
  have hB2 : Blk w g 64 _ := h.blk
  have H1 := Lib.hid h1
  have Ho := Lib.hid ho
  have HB := Lib.hid hB
  have dd : decide (x ≥ 0) = decide (0 ≤ x) := rfl
  have HB2 := Lib.hid hB2
  clear h h1 ho hB hB2
  unfold ptr
  go_enter Try.func36, Try.ntmps36
  go_wp2_with (first
    | refine wpList_build_w 62 #[(0, .tmp 6), (1, .tmp 7)] rfl (by simp [Act.eval]) HB.out (by kernel_rfl) ?_)
  go_end0
  exact ⟨rfl, H1.out, Ho.out⟩
set_option maxHeartbeats 1000000 in
theorem pass_any {w : World} {F : Nat → Prop} {g gd gm m many n : Nat} {fb : Bool} {left : Int} {du : List (List UInt8 × Nat)} {f : Int → Option Value} {o : Option Nat} (h : DiskB w F g gd gm fb left m many du n f) (hf : FuseI fb left o) :
    Calls Try.prog 31 #[ptr g] w fun e w' => e = .returned (.bool (Dsk.goes o).isSome) ∧ (∃ left', DiskB w' F g gd gm fb left' m many du n f ∧ FuseI fb left' ((Dsk.goes o).getD o)) ∧ Only F w w' := by
  obtain ⟨q0, q1, _, _, _⟩ := h.cells
  have z1 := h.blk.frozen 1
  obtain ⟨hi, hf⟩ := hf
  have Hi := Lib.hid hi
  clear hi
  have H := Lib.hid h
  rcases hf with ⟨rfl, rfl⟩ | ⟨k, rfl, rfl, rfl⟩
  · clear h
    unfold ptr
    go_enter Try.func31, Try.ntmps31
    go_wp2
    go_ret
    exact ⟨rfl, ⟨left, H.out, Hi.out, .inl ⟨rfl, rfl⟩⟩, Only.refl _ _⟩
  · cases k with
    | zero =>
      clear h
      unfold ptr
      go_enter Try.func31, Try.ntmps31
      go_wp2
      go_ret
      exact ⟨rfl, ⟨_, H.out, Hi.out, .inr ⟨0, rfl, rfl, rfl⟩⟩, Only.refl _ _⟩
    | succ k =>
      have h1 := h.setCell (i := 1) (v := .int .i64 (k : Int)) (fb' := true) (left' := (k : Int)) (many' := many) rfl
      have ho := Only.set (w := w) (p := ⟨g, 1, none⟩) h.fg (.int .i64 (k : Int))
      have H1 := Lib.hid h1
      have Ho := Lib.hid ho
      have hi2 := Hi.out
      unfold isI64 at hi2
      have hd : (((k + 1 : Nat) : Int) == 0) = false := by simp; omega
      have hsub : ((k + 1 : Nat) : Int) - 1 = (k : Int) := by omega
      have hi3 : isI64 (k : Int) := by unfold isI64; omega
      have Hi3 := Lib.hid hi3
      clear h h1 ho hi3
      unfold ptr
      go_enter Try.func31, Try.ntmps31
      go_wp2
      go_ret
      exact ⟨rfl, ⟨_, H1.out, Hi3.out, .inr ⟨k, rfl, rfl, rfl⟩⟩, Ho.out⟩
theorem fuseI_set {x : Int} (h : isI64 x) : FuseI (decide (0 ≤ x)) x (if x < 0 then none else some x.toNat) := by
  refine ⟨h, ?_⟩
  by_cases h0 : x < 0
  · rw [if_pos h0]
    exact .inl ⟨by simp; omega, rfl⟩
  · rw [if_neg h0]
    exact .inr ⟨x.toNat, by simp; omega, by omega, rfl⟩
theorem fuse_any {w : World} {F : Nat → Prop} {g : Nat} {d : Dsk} (h : RepD w F g d) (x : Int) (hx : isI64 x) :
    Calls Try.prog 16 #[ptr g, .int .i64 x] w fun e w' => e = .returned (.tuple #[]) ∧ ∃ F', RepD w' F' g (Dsk.fuse d x) ∧ (∀ k, F' k → F k ∨ w.heap.size ≤ k) ∧ Only F w w' := by
  obtain ⟨gd, gm, fb, left, h, _, hok⟩ := h
  have hc := set_any h x
  have HC := Lib.hid hc
  have Hok := Lib.hid hok
  have Hx := Lib.hid hx
  clear h hc hok hx
  unfold ptr at *
  go_enter Try.func16, Try.ntmps16
  go_wp2_with fail
  refine HC.out.mono ?_
  rintro e w1 ⟨rfl, hB, ho⟩
  have HB := Lib.hid hB
  have Ho := Lib.hid ho
  clear hB ho
  go_wp2
  go_end0
  exact ⟨rfl, F, ⟨gd, gm, _, _, HB.out, fuseI_set Hx.out, Hok.out.fuse x⟩, fun k hk => .inl hk, Ho.out⟩
end Go.Proofs.Ytampdfmakhdliaa
namespace Go.Proofs.Ytampdfmakhdliaa
open Go.RowKit Go.Gar
open Go.Gar.Dsk (Dsk Sec)

theorem Try.infoSec2 : (Try.prog.info? 70).map (fun i => (i.zero, i.size)) = some (some (Value.agg (List.replicate 32 (Value.int .u8 0) ++ [Value.int .i64 0]).toArray), 33) := by kernel_rfl
theorem Try.placesSec : (Try.prog.fieldsOf 70).toList.map (fun f => (f.offset, (Try.prog.info? f.type).map (·.size))) = [((0 : Nat), (32 : Nat)), (32, 1)].map (fun p => (p.1, some p.2)) := by kernel_rfl
theorem built_sec {b : List UInt8} (hb : b.length = 32) (n : Nat) : Try.prog.built 70 [(0, .agg (u8s b).toArray), (1, .int .i64 (n : Int))] = some (secV b n).toArray := by
  refine built_struct Try.undSec Try.infoSec2 _ Try.placesSec _ _ ?_
  rw [fill_head _ _ (u8s b).toArray (.int .i64 (n : Int)) 32 rfl rfl (by simp [u8s_len, hb]) (by simp [Value.cells]) rfl]
  simp [secV]
/-- 32 bytes, loaded as an array. -/
theorem load_rd32 {w : World} {B : Nat} {A : Option Addr} {b : List UInt8} (h : Rd w B A b) (hb : b.length = 32) :
    ∃ b0 o, A = some ⟨b0, o, none⟩ ∧ b0 < B ∧ ∀ W : World, W.heap[b0]? = w.heap[b0]? → (loadVar 68 ⟨b0, o, none⟩).run Try.prog W = .ok (.agg (u8s b).toArray) W := by
  rcases h with rfl | ⟨b0, o, rfl, hlt, hc⟩
  · cases hb
  · refine ⟨b0, o, rfl, hlt, fun W hW => ?_⟩
    refine run_loadVar_mid (P := Try.prog) W b0 o 68 (u8s b) _ (fun j v hv => ?_) Try.undA32 rfl (by rw [u8s_len, hb]; exact Try.sizeA32)
    rw [u8s_get] at hv
    cases hq : b[j]? with
    | none => rw [hq] at hv; cases hv
    | some c =>
      rw [hq] at hv
      obtain rfl := Option.some.inj hv
      exact (World.cell?_of_block hW).trans (hc j c hq)
theorem run_arr32 (g o n c : Nat) (h : 32 ≤ n) (W : World) : (Instr.arrayAt 68 (.slice (some ⟨g, o, none⟩) n c)).run Try.prog W = .ok (.pointer (some ⟨g, o, none⟩)) W := by
  have h1 : ¬ n < 32 := by omega
  simp [Instr.arrayAt, run_underlying Try.undA32 W, h1]
/-- A disk whose sector k was written. -/
theorem sure_set {d : Dsk} {k : Nat} {s : Sec} (h : d.secs[k]? = some s) (b : List UInt8) (m : Nat) (f : Option Nat) (mm : Nat) : sureL ⟨d.secs.set k (Dsk.put s b m), f, mm⟩ = sureL d := by
  unfold sureL
  apply List.ext_getElem?
  intro i
  rw [List.getElem?_map, List.getElem?_map, List.getElem?_set]
  by_cases hi : k = i
  · subst hi
    have hl := (List.getElem?_eq_some_iff.1 h).1
    rw [if_pos rfl, if_pos hl, h]
    rfl
  · rw [if_neg hi]
theorem pend_set {d : Dsk} {k : Nat} {s : Sec} (h : d.secs[k]? = some s) (b : List UInt8) (m : Nat) (f : Option Nat) (mm : Nat) :
    pendF ⟨d.secs.set k (Dsk.put s b m), f, mm⟩ = updI (pendF d) (k : Int) (.agg (secV b m).toArray) := by
  have hl := (List.getElem?_eq_some_iff.1 h).1
  have hlen : (d.secs.set k (Dsk.put s b m)).length = d.secs.length := List.length_set
  funext x
  unfold updI
  by_cases hx : x = (k : Int)
  · subst hx
    rw [if_pos rfl, pendF_at (d := ⟨d.secs.set k (Dsk.put s b m), f, mm⟩) (s := Dsk.put s b m) (by rw [List.getElem?_set_self hl])]
    rfl
  · rw [if_neg hx]
    rcases there_cases d x with ⟨h0, ht⟩ | ⟨h0, h1, ht⟩ | ⟨i, rfl, hi, ht⟩
    · have h2 : Dsk.there ⟨d.secs.set k (Dsk.put s b m), f, mm⟩ x = false := by unfold Dsk.there; rw [hlen]; exact ht
      unfold pendF
      rw [ht, h2]
      simp
    · have h2 : Dsk.there ⟨d.secs.set k (Dsk.put s b m), f, mm⟩ x = false := by unfold Dsk.there; rw [hlen]; exact ht
      unfold pendF
      rw [ht, h2]
      simp
    · have hg := List.getElem?_eq_getElem hi
      rw [pendF_at hg, pendF_at (d := ⟨d.secs.set k (Dsk.put s b m), f, mm⟩) (by rw [List.getElem?_set_ne (by omega)]; exact hg)]
theorem pend_put {d : Dsk} {k : Nat} {s : Sec} (h : d.secs[k]? = some s) (b : List UInt8) (m : Nat) (f : Option Nat) (mm : Nat) :
    Dsk.pending ⟨d.secs.set k (Dsk.put s b m), f, mm⟩ = if (pendF d (k : Int)).isSome then Dsk.pending d else Dsk.pending d + 1 := by
  rw [pendF_at h]
  obtain ⟨hl, he⟩ := List.getElem?_eq_some_iff.1 h
  have e1 : d.secs = d.secs.take k ++ s :: d.secs.drop (k + 1) := by
    rw [← he, List.getElem_cons_drop, List.take_append_drop]
  have e2 : d.secs.set k (Dsk.put s b m) = d.secs.take k ++ Dsk.put s b m :: d.secs.drop (k + 1) := List.set_eq_take_append_cons_drop.trans (by rw [if_pos hl])
  unfold Dsk.pending
  simp only [e2]
  conv => rhs; rw [e1]
  rw [List.filter_append, List.filter_append, List.length_append, List.length_append, List.filter_cons, List.filter_cons]
  have hp : (Dsk.put s b m).wet = true := rfl
  rw [hp]
  cases hw : s.wet <;> simp <;> omega
set_option maxHeartbeats 4000000 in
set_option maxRecDepth 100000 in
theorem write_any {w : World} {F : Nat → Prop} {g : Nat} {d : Dsk} (i : Int) (A : Option Addr) (b : List UInt8) (c : Nat) (h : RepD w F g d) (hi : isI64 i) (hr : Rd w w.heap.size A b) (hA : ∀ p, A = some p → ¬ F p.block) (hl : b.length ≤ c) (_ : b.length ≤ 1000000) (hm : d.many < 4611686018427387904) :
    Calls Try.prog 17 #[ptr g, .int .i64 i, .slice A b.length c] w fun e w' => e = .returned (.int .i64 ((Dsk.writeE d i b : Nat) : Int)) ∧ ∃ F', RepD w' F' g (Dsk.write d i b) ∧ (∀ k, F' k → F k ∨ w.heap.size ≤ k) ∧ Only F w w' := by
  have hh := has_any h i
  obtain ⟨n, hn⟩ : ∃ n, b.length = n := ⟨_, rfl⟩
  have hno : ∀ E : Nat, Dsk.writeE d i b = E → Dsk.write d i b = d → Dsk.writeE d i b = E ∧ ∃ F', RepD w F' g (Dsk.write d i b) ∧ (∀ k, F' k → F k ∨ w.heap.size ≤ k) ∧ Only F w w := fun E h1 h2 => ⟨h1, F, by rw [h2]; exact h, fun k hk => .inl hk, Only.refl _ _⟩
  have out : (Dsk.there d i = false ∨ n ≠ 32) → Dsk.writeE d i b = 1 ∧ Dsk.write d i b = d := fun hc => by
    have hc2 : (Dsk.there d i && decide (b.length = 32)) = false := by
      rw [hn]
      rcases hc with h | h <;> simp [h]
    unfold Dsk.writeE Dsk.write
    rw [hc2]
    exact ⟨rfl, rfl⟩
  rw [hn]
  cases ht : Dsk.there d i with
  | false =>
    obtain ⟨o1, o2⟩ := out (.inl ht)
    obtain ⟨p1, p2⟩ := hno 1 o1 o2
    rw [p1]
    rw [ht] at hh
    have P2 := Lib.hid p2
    have Hh := Lib.hid hh
    clear h hno out ht o1 o2 p1 p2 hn hr hA hl hm hh
    unfold ptr at *
    go_enter Try.func17, Try.ntmps17
    go_wp2_with fail
    refine Hh.out.mono ?_
    rintro e w1 ⟨rfl, rfl⟩
    go_wp2
    go_ret
    exact ⟨rfl, P2.out⟩
  | true =>
    by_cases h32 : n = 32
    · subst h32
      obtain ⟨k, s, rfl, hk⟩ := there_sec ht
      have hat := (at_of hk).2
      obtain ⟨gd, gm, fb, left, hB, hf, hok⟩ := h
      have hp := pass_any hB hf
      obtain ⟨m, hmm⟩ : ∃ m, d.secs.length = m := ⟨_, rfl⟩
      have hkm : k < m := by rw [← hmm]; exact (List.getElem?_eq_some_iff.1 hk).1
      obtain ⟨M, hM⟩ : ∃ M, d.many = M := ⟨_, rfl⟩
      rw [hmm, hM] at hp
      rw [hM] at hm
      rw [ht] at hh
      have hc2 : (Dsk.there d (k : Int) && decide (b.length = 32)) = true := by rw [ht, hn]; rfl
      obtain ⟨E, hE⟩ : ∃ E, E = Dsk.writeE d (k : Int) b := ⟨_, rfl⟩
      obtain ⟨D, hDD⟩ : ∃ D, D = Dsk.write d (k : Int) b := ⟨_, rfl⟩
      rw [← hE, ← hDD]
      have hm4 : m ≤ 4096 := by rw [← hmm]; exact hok.len
      have HE := Lib.hid hE
      have HDD := Lib.hid hDD
      have Hh := Lib.hid hh
      have Hp := Lib.hid hp
      have Hr := Lib.hid hr
      have HA := Lib.hid hA
      have Hk := Lib.hid hk
      have Hat := Lib.hid hat
      have Hok := Lib.hid hok
      have Hn := Lib.hid hn
      have Hc2 := Lib.hid hc2
      have Hmm := Lib.hid hmm
      have HM := Lib.hid hM
      have Hm := Lib.hid hm
      have Hkm := Lib.hid hkm
      have Hm4 := Lib.hid hm4
      have Hl := Lib.hid hl
      clear hno out ht hat hB hf hp hmm hM hh hE hDD hr hA hk hok hc2 hn hm hkm hm4 hl
      unfold ptr at *
      go_enter Try.func17, Try.ntmps17
      go_wp2_with fail
      refine Hh.out.mono ?_
      rintro e w1 ⟨rfl, rfl⟩
      go_wp2_with fail
      refine Hp.out.mono ?_
      rintro e w2 ⟨rfl, ⟨left', hB2, hf2⟩, ho2⟩
      cases hg : Dsk.goes d.fuse with
      | none =>
        have e1 : Dsk.writeE d (k : Int) b = 10 := by unfold Dsk.writeE; rw [Hc2.out, hg]; rfl
        have e2 : Dsk.write d (k : Int) b = d := by unfold Dsk.write; rw [Hc2.out, hg]; rfl
        rw [hg] at hf2
        have HE0 := Lib.hid (HE.out.trans e1)
        have HD0 := Lib.hid (HDD.out.trans e2)
        have HR2 : Hid (RepD w2 F g d) := Lib.hid ⟨gd, gm, fb, left', by rw [Hmm.out, HM.out]; exact hB2, hf2, Hok.out⟩
        have Ho2 := Lib.hid ho2
        clear hB2 hf2 ho2 e1 e2 hg Hp
        go_wp2
        go_ret
        exact ⟨by rw [HE0.out]; rfl, F, by rw [HD0.out]; exact HR2.out, fun j hj => .inl hj, Ho2.out⟩
      | some f' =>
        have e1 : Dsk.writeE d (k : Int) b = 0 := by unfold Dsk.writeE; rw [Hc2.out, hg]; rfl
        have e2 : Dsk.write d (k : Int) b = ⟨d.secs.set k (Dsk.put s b (M + 1)), f', M + 1⟩ := by unfold Dsk.write; rw [Hc2.out, hg, Hat.out, HM.out]; rfl
        rw [hg] at hf2
        have HE0 := Lib.hid (HE.out.trans e1)
        have HD0 := Lib.hid (HDD.out.trans e2)
        have Hf2 := Lib.hid hf2
        have q4 := hB2.cells.2.2.2.2
        have z4 := hB2.blk.frozen 4
        have hM2 : M < 4611686018427387904 := Hm.out
        have hB3 := hB2.setCell (i := 4) (v := .int .i64 ((M : Int) + 1)) (fb' := fb) (left' := left') (many' := M + 1) rfl
        have ho3 := ho2.trans (Only.set (w := w2) (p := ⟨g, 4, none⟩) hB2.fg (.int .i64 ((M : Int) + 1)))
        have HB3 := Lib.hid hB3
        have Ho3 := Lib.hid ho3
        clear hB2 hf2 ho2 e1 e2 hg Hp hB3 ho3
        go_wp2_with fail
        refine wp_region_G grows (by kernel_rfl) ?_
        generalize w2.setCell ⟨g, 4, none⟩ (.int .i64 ((M : Int) + 1)) = w3 at *
        have HB4 := Lib.hid (HB3.out.below (Below.refl _ w3).drew)
        have Ho4 := Lib.hid Ho3.out.drew
        clear HB3 Ho3 q4 z4
        generalize w3.drew = W at *
        have c3 := cell_later HB4.out.blk (i := 3) rfl
        have c4 := cell_later HB4.out.blk (i := 4) rfl
        have hr1 := Ho4.out.rd Hr.out (Nat.le_refl _) HA.out
        obtain ⟨b0, o0, rfl, hb0, hld⟩ := load_rd32 hr1 Hn.out
        have hbW : b0 < W.heap.size := Nat.lt_of_lt_of_le hb0 Ho4.out.size
        have Hld := Lib.hid (show ∀ x : Later grows W, (loadVar 68 ⟨b0, o0, none⟩).run Try.prog x.to = .ok (.agg (u8s b).toArray) x.to from fun x => hld x.to (Eq.trans ((show Below W.heap.size W x.to from x.grown).block b0 hbW) rfl))
        have HBs := Lib.hid (built_sec Hn.out (M + 1))
        have hki : -9223372036854775808 ≤ (k : Int) ∧ (k : Int) ≤ 9223372036854775807 := by have := Hkm.out; have := Hm4.out; omega
        obtain ⟨W2, hup, hmap, hgr⟩ := HB4.out.map.store Try.undI Try.undMapS (by have := pend_le d Hok.out; simp only [maxLen]; omega) hki (.agg (secV b (M + 1)).toArray)
        have Hup := Lib.hid hup
        have Hmap := Lib.hid hmap
        have Hgr := Lib.hid hgr
        clear hr1 hb0 hld hbW hup hmap hgr hki
        refine segG (by kernel_rfl) (fun _ _ _ _ _ h => h) [0, 1, 2, 3, 4, 5] [_, _, _, _, _, _] 8 rfl rfl (by kernel_rfl) ?_
        repeat (go_big_quiet_step (fail))
        refine wpQuiet_nil ?_
        refine firstG_arrayAt 68 (.tmp 33) (i := 6) (n := 7) (by kernel_rfl) (fun _ _ _ _ _ h => h) rfl rfl (by kernel_rfl) rfl rfl (run_arr32 b0 o0 32 c (Nat.le_refl _)) (by kernel_rfl) ?_
        simp only [Act.put, List.setIfInBounds_toArray, List.set]
        refine segG (by kernel_rfl) (fun _ _ _ _ _ h => h) [7, 8, 9, 10, 11] [_, _, _, _, _] 2 rfl rfl (by kernel_rfl) ?_
        repeat (first | (refine wpQuiet_load_at 68 (.tmp 34) rfl rfl (u8s b).toArray Hld.out (by kernel_rfl) ?_; simp only [Act.put, List.setIfInBounds_toArray, List.set]) | go_big_quiet_step (fail))
        refine wpQuiet_nil ?_
        refine oneG 12 1 rfl (by kernel_rfl) rfl ?_
        refine wpList_build_w 70 #[(0, .tmp 35), (1, .tmp 39)] rfl (by simp [Act.eval]) HBs.out (by kernel_rfl) ?_
        simp only [Act.put, List.setIfInBounds_toArray, List.set]
        go_wp2
        refine ⟨Below.refl _ _, ?_⟩
        refine lateG 13 0 rfl (by kernel_rfl) (by kernel_rfl) rfl ?_
        refine wpList_mapUpdate_run rfl 60 (.tmp 31) (.tmp 32) (.tmp 40) rfl rfl rfl rfl Hup.out ?_
        clear c3 c4
        go_wp2
        refine ⟨trivial, ?_⟩
        refine wpAnyG_done (by kernel_rfl) ?_
        go_wp2
        go_ret
        have hB4 := HB4.out
        have hgr := Hgr.out
        have hkl : k < d.secs.length := by rw [Hmm.out]; exact Hkm.out
        have e1 : (d.secs.set k (Dsk.put s b (M + 1))).length = m := by rw [List.length_set]; exact Hmm.out
        refine ⟨by rw [HE0.out]; rfl, F, ?_, fun j hj => .inl hj, ?_⟩
        · rw [HD0.out]
          refine ⟨gd, gm, fb, left', ?_, Hf2.out, ?_⟩
          · show DiskB W2 F g gd gm fb left' (d.secs.set k (Dsk.put s b (M + 1))).length (M + 1) (sureL ⟨d.secs.set k (Dsk.put s b (M + 1)), f', M + 1⟩) (Dsk.pending ⟨d.secs.set k (Dsk.put s b (M + 1)), f', M + 1⟩) (pendF ⟨d.secs.set k (Dsk.put s b (M + 1)), f', M + 1⟩)
            rw [e1, sure_set Hk.out, pend_set Hk.out, pend_put Hk.out]
            exact ⟨hB4.blk.grown hgr (fun e => hB4.ggm (Option.some.inj e)), hB4.dur.grown hgr (fun e => hB4.gdm (Option.some.inj e)), Hmap.out, hB4.len, hB4.thin, hB4.max, hB4.own⟩
          · have := Hok.out.write (k : Int) b
            rwa [← HDD.out, HD0.out] at this
        · exact Ho4.out.trans (.of_grown hgr (fun j e => by obtain rfl := Option.some.inj e; exact hB4.fgm))
    · obtain ⟨o1, o2⟩ := out (.inr h32)
      obtain ⟨p1, p2⟩ := hno 1 o1 o2
      rw [p1]
      rw [ht] at hh
      have hne : ((n : Int) != 32) = true := by simp; omega
      have P2 := Lib.hid p2
      have Hh := Lib.hid hh
      clear h hno out ht o1 o2 p1 p2 hn hr hA hl hm hh
      unfold ptr at *
      go_enter Try.func17, Try.ntmps17
      go_wp2_with fail
      refine Hh.out.mono ?_
      rintro e w1 ⟨rfl, rfl⟩
      go_wp2
      go_ret
      exact ⟨rfl, P2.out⟩
end Go.Proofs.Ytampdfmakhdliaa
namespace Go.Proofs.Ytampdfmakhdliaa
open Go.RowKit Go.Gar
open Go.Gar.Dsk (Dsk Sec)

theorem Try.undDisk : Try.prog.underlying 64 = some (.struct (Try.prog.fieldsOf 64)) := by kernel_rfl
theorem Try.infoDisk : (Try.prog.info? 64).map (fun i => (i.zero, i.size)) = some (some (.agg #[.bool false, .int .i64 0, .slice none 0 0, .map none, .int .i64 0]), 5) := by kernel_rfl
theorem Try.placesDisk : (Try.prog.fieldsOf 64).toList.map (fun f => (f.offset, (Try.prog.info? f.type).map (·.size))) = [((0 : Nat), (2 : Nat)), (2, 1), (3, 1), (4, 1)].map (fun p => (p.1, some p.2)) := by kernel_rfl
theorem built_disk (gd m gm : Nat) : Try.prog.built 64 [(1, .slice (some ⟨gd, 0, none⟩) m m), (2, .map (some gm))] = some #[.bool false, .int .i64 0, .slice (some ⟨gd, 0, none⟩) m m, .map (some gm), .int .i64 0] :=
  built_struct Try.undDisk Try.infoDisk _ Try.placesDisk _ _ rfl
theorem made_durs (z : Array Value) (hz : z = (secV Dsk.zero32 0).toArray) (m : Nat) : madeCells z (m * 33) = (durV (List.replicate m (Dsk.zero32, 0))).toArray := by
  have hs : z.size = 33 := by rw [hz]; rfl
  have hth : ∀ p ∈ List.replicate m (Dsk.zero32, 0), p.1.length = 32 := fun p hp => by
    obtain ⟨_, rfl⟩ := List.mem_replicate.1 hp
    rfl
  have hl := durV_len hth
  rw [List.length_replicate] at hl
  apply Array.ext'
  apply List.ext_getElem?
  intro j
  by_cases hj : j < m * 33
  · have hq : j / 33 < m := by omega
    have hr : j % 33 < 33 := Nat.mod_lt _ (by omega)
    have hz1 : (secV Dsk.zero32 0)[j % 33]? = some (z[j % 33]'(by rw [hs]; exact hr)) := by
      subst hz
      rw [List.getElem?_eq_getElem (by rw [secV_len rfl]; exact hr)]
      simp
    have h1 := durV_get hth (k := j / 33) (p := (Dsk.zero32, 0)) (by rw [List.getElem?_replicate, if_pos hq]) (j % 33) _ hz1
    rw [Nat.div_add_mod] at h1
    show (madeCells z (m * 33)).toList[j]? = (durV (List.replicate m (Dsk.zero32, 0)))[j]?
    rw [h1]
    simp [madeCells, hs, hj, hr]
  · rw [List.getElem?_eq_none (by simp [madeCells]; omega), List.getElem?_eq_none (by simp [hl]; omega)]
theorem run_make_secs (m : Nat) (hm : m ≤ 4096) (w : World) : (Instr.makeSlice 59 (.int .i64 (m : Int)) (.int .i64 (m : Int))).run Try.prog w = .ok (.slice (some ⟨w.heap.size, 0, none⟩) m m) (w.alloc (.cells (durV (List.replicate m (Dsk.zero32, 0))).toArray 70)) := by
  obtain ⟨i, hi, hzz⟩ := Option.map_eq_some_iff.1 Try.infoSec
  simp only [Prod.mk.injEq] at hzz
  obtain ⟨hz, hs, hb⟩ := hzz
  have hr := run_make (P := Try.prog) w 59 70 i _ Try.undSecs hi hz .i64 .i64 m m (by omega) (by omega) (by rw [hb]; omega) (by omega)
  rw [hr]
  simp only [Int.toNat_natCast, hs]
  have hz2 : (Value.agg (List.replicate 32 (Value.int .u8 0) ++ [Value.int .i64 0]).toArray).cells = (secV Dsk.zero32 0).toArray := rfl
  rw [hz2, made_durs _ rfl]
set_option maxHeartbeats 2000000 in
set_option maxRecDepth 100000 in
theorem new_any (w : World) (n : Int) (_ : isI64 n) : Calls Try.prog 9 #[.int .i64 n] w fun e w' => ∃ F g, e = .returned (ptr g) ∧ RepD w' F g (Dsk.new n) ∧ (∀ k, F k → w.heap.size ≤ k) ∧ Below w.heap.size w w' := by
  obtain ⟨m, hm⟩ : ∃ m : Nat, m = min n.toNat 4096 := ⟨_, rfl⟩
  have hm4 : m ≤ 4096 := by omega
  have hmx : min (max n 0) 4096 = (m : Int) := by omega
  have e1 := run_maxI (P := Try.prog) (w := w) (t := 3) (ty := 3) n 0
  have e2 := run_minI (P := Try.prog) (w := w) (t := 3) (ty := 3) (max n 0) 4096
  rw [hmx] at e2
  obtain ⟨X, hX⟩ : ∃ X, max n 0 = X := ⟨_, rfl⟩
  rw [hX] at e1 e2
  have e3 := run_make_secs m hm4 w
  obtain ⟨du, hdu⟩ : ∃ du, List.replicate m (Dsk.zero32, 0) = du := ⟨_, rfl⟩
  rw [hdu] at e3
  have B1 : Blk (w.alloc (.cells (durV du).toArray 70)) w.heap.size 70 (durV du) := Blk.new _ _ _
  have b1 := below_alloc w (.cells (durV du).toArray 70)
  obtain ⟨w1, hw1⟩ : ∃ w1, w.alloc (.cells (durV du).toArray 70) = w1 := ⟨_, rfl⟩
  have s1 : w1.heap.size = w.heap.size + 1 := by rw [← hw1]; simp
  rw [hw1] at e3 B1 b1
  have e4 := run_makeMap (P := Try.prog) 60 w1
  have M1 := mapI_made Try.prog 3 w1
  have b2 := b1.alloc b1.size (.map #[] 0)
  obtain ⟨w2, hw2⟩ : ∃ w2, w1.alloc (.map #[] 0) = w2 := ⟨_, rfl⟩
  have s2 : w2.heap.size = w.heap.size + 2 := by rw [← hw2]; simp; omega
  have B2 := B1.alloc (.map #[] 0)
  rw [hw2] at e4 M1 b2 B2
  have e5 := built_disk w.heap.size m w1.heap.size
  have HX := Lib.hid (show RepD (w2.alloc (.cells #[.bool false, .int .i64 0, .slice (some ⟨w.heap.size, 0, none⟩) m m, .map (some w1.heap.size), .int .i64 0] 64)) (fun k => k = w2.heap.size ∨ k = w.heap.size ∨ k = w1.heap.size) w2.heap.size (Dsk.new n) by
    have hsecs : (Dsk.new n).secs = List.replicate m Sec.new := by rw [hm]; rfl
    refine ⟨w.heap.size, w1.heap.size, false, 0, ⟨?_, ?_, ?_, ?_, ?_, ?_, fun k => Iff.rfl⟩, ⟨by unfold isI64; omega, .inl ⟨rfl, rfl⟩⟩, Dsk.Ok.new n⟩
    · rw [hsecs, List.length_replicate]
      exact Blk.new _ _ _
    · have : sureL (Dsk.new n) = du := by unfold sureL; rw [hsecs, List.map_replicate]; exact hdu
      rw [this]
      exact B2.alloc _
    · have h0 : Dsk.pending (Dsk.new n) = 0 := by
        unfold Dsk.pending
        rw [hsecs, List.filter_replicate, if_neg (by decide)]; rfl
      have hp : pendF (Dsk.new n) = fun _ => none := by
        funext x
        rcases there_cases (Dsk.new n) x with ⟨_, ht⟩ | ⟨_, _, ht⟩ | ⟨i, rfl, hi, _⟩
        · unfold pendF; rw [ht]; simp
        · unfold pendF; rw [ht]; simp
        · have hg := List.getElem?_eq_getElem hi
          rw [pendF_at hg]
          have : (Dsk.new n).secs[i] ∈ List.replicate m Sec.new := by rw [← hsecs]; exact List.getElem_mem hi
          obtain ⟨_, e⟩ := List.mem_replicate.1 this
          rw [e]; rfl
      rw [h0, hp]
      exact M1.block (Below.heap_alloc _ _ _ M1.lt)
    · unfold sureL; rw [List.length_map]
    · exact sure_thin (Dsk.Ok.new n)
    · exact (Dsk.Ok.new n).len)
  have HB := Lib.hid (b2.alloc b2.size (.cells #[.bool false, .int .i64 0, .slice (some ⟨w.heap.size, 0, none⟩) m m, .map (some w1.heap.size), .int .i64 0] 64))
  have HS := Lib.hid (show w.heap.size ≤ w1.heap.size ∧ w.heap.size ≤ w2.heap.size by omega)
  have HE1 := Lib.hid e1
  have HE2 := Lib.hid e2
  have HE5 := Lib.hid e5
  clear hm hmx e1 e2 e5 hX hdu B1 b1 hw1 s1 M1 b2 hw2 s2 B2
  go_enter Try.func9, Try.ntmps9
  go_wp2_with (first
    | refine wpList_maxR rfl (.tmp 3) (.const (.int .i64 0)) _ rfl rfl rfl HE1.out ?_
    | refine wpList_minR rfl (.tmp 4) (.const (.int .i64 4096)) _ rfl rfl rfl HE2.out ?_
    | refine wpList_build_w 64 #[(1, .tmp 6), (2, .tmp 7)] rfl (by simp [Act.eval]) HE5.out (by kernel_rfl) ?_)
  go_ret
  refine ⟨_, _, rfl, HX.out, fun k hk => ?_, HB.out⟩
  have hs := HS.out
  rcases hk with rfl | rfl | rfl
  · exact hs.2
  · exact Nat.le_refl _
  · exact hs.1
end Go.Proofs.Ytampdfmakhdliaa
namespace Go.Proofs.Ytampdfmakhdliaa
open Go.RowKit Go.Maps Go.Sort Go.Shelf

def Try.keysA_ren : Go.Shelf.Ren := ⟨fun | 7 => 41 | 10 => 45 | n => n, fun | 23 => 60 | 26 => 3 | 3 => 70 | 28 => 80 | 0 => 0 | 27 => 79 | 33 => 74 | 4 => 4 | n => n, fun | n => n⟩
theorem Try.keysA : Go.Proofs.SlLaysZI.n7 Try.prog Try.keysA_ren where
  mixed := by kernel_rfl
  f7 := ⟨"maps.Keys[map[int]garderobe/disk.sector,int,garderobe/disk.sector]", by decide, Try.func41.trans (congrArg some (by kernel_rfl))⟩
  f10 := ⟨"maps.Keys[map[int]garderobe/disk.sector,int,garderobe/disk.sector]$1", by decide, Try.func45.trans (congrArg some (by kernel_rfl))⟩
  t0 := Try.underlying0
  a0 := Try.isAgg0
  z0 := Try.sizeOf0
  v0 := Try.zeroValue0
  t4 := Try.underlying4
  a4 := Try.isAgg4
  z4 := Try.sizeOf4
  v4 := Try.zeroValue4
  t23 := Try.underlying60
  a23 := Try.isAgg60
  z23 := Try.sizeOf60
  v23 := Try.zeroValue60
  t26 := Try.underlying3
  a26 := Try.isAgg3
  z26 := Try.sizeOf3
  v26 := Try.zeroValue3
  t27 := Try.underlying79
  a27 := Try.isAgg79
  z27 := Try.sizeOf79
  v27 := Try.zeroValue79
  t28 := Try.underlying80
  a28 := Try.isAgg80
  z28 := Try.sizeOf80
  v28 := Try.zeroValue80
  t33 := Try.underlying74
  a33 := Try.isAgg74
  z33 := Try.sizeOf74
  v33 := Try.zeroValue74
def Try.sortedA_ren : Go.Shelf.Ren := ⟨fun | 6 => 40 | 8 => 43 | 9 => 44 | 11 => 46 | 13 => 48 | 12 => 47 | 23 => 58 | 24 => 59 | 14 => 49 | 15 => 50 | 16 => 51 | 17 => 52 | 18 => 53 | 19 => 54 | 20 => 55 | 21 => 56 | 22 => 57 | 25 => 60 | 26 => 61 | 27 => 62 | 28 => 63 | 29 => 64 | 30 => 65 | 31 => 66 | n => n, fun | 26 => 3 | 28 => 80 | 24 => 29 | 0 => 0 | 3 => 3 | 37 => 73 | 48 => 97 | 50 => 72 | 4 => 4 | 40 => 90 | 39 => 89 | 45 => 94 | 5 => 5 | 9 => 9 | 51 => 99 | 55 => 103 | 57 => 105 | 58 => 106 | 33 => 74 | n => n, fun | n => n⟩
theorem Try.sortedA : Go.Proofs.SlLaysZI.n6 Try.prog Try.sortedA_ren where
  mixed := by kernel_rfl
  f6 := ⟨"slices.Sorted[int]", by decide, Try.func40.trans (congrArg some (by kernel_rfl))⟩
  f8 := ⟨"slices.Collect[int]", by decide, Try.func43.trans (congrArg some (by kernel_rfl))⟩
  f11 := ⟨"slices.AppendSeq[[]int,int]", by decide, Try.func46.trans (congrArg some (by kernel_rfl))⟩
  t0 := Try.underlying0
  a0 := Try.isAgg0
  z0 := Try.sizeOf0
  v0 := Try.zeroValue0
  t24 := Try.underlying29
  a24 := Try.isAgg29
  z24 := Try.sizeOf29
  v24 := Try.zeroValue29
  t26 := Try.underlying3
  a26 := Try.isAgg3
  z26 := Try.sizeOf3
  v26 := Try.zeroValue3
  t28 := Try.underlying80
  a28 := Try.isAgg80
  z28 := Try.sizeOf80
  v28 := Try.zeroValue80
  i26 := by kernel_rfl
def Try.sortA_ren : Go.Shelf.Ren := ⟨fun | 5 => 44 | 8 => 48 | 7 => 47 | 19 => 58 | 20 => 59 | 10 => 49 | 11 => 50 | 12 => 51 | 13 => 52 | 14 => 53 | 15 => 54 | 16 => 55 | 17 => 56 | 18 => 57 | 30 => 60 | 31 => 61 | 32 => 62 | 33 => 63 | 34 => 64 | 35 => 65 | 40 => 66 | n => n, fun | 23 => 29 | 25 => 3 | 3 => 3 | 32 => 73 | 22 => 29 | 0 => 0 | 44 => 97 | 46 => 72 | 4 => 4 | 36 => 90 | 35 => 89 | 41 => 94 | 5 => 5 | 9 => 9 | 53 => 99 | 57 => 103 | 63 => 105 | 64 => 106 | n => n, fun | n => n⟩
theorem Try.sortA : Go.Proofs.SlLaysM.n5 Try.prog Try.sortA_ren where
  mixed := by kernel_rfl
  f5 := ⟨"slices.Sort[[]int,int]", by decide, Try.func44.trans (congrArg some (by kernel_rfl))⟩
  f7 := ⟨"slices.pdqsortOrdered[int]", by decide, Try.func47.trans (congrArg some (by kernel_rfl))⟩
  f8 := Try.func48.trans (congrArg some (by kernel_rfl))
  f10 := ⟨"slices.insertionSortOrdered[int]", by decide, Try.func49.trans (congrArg some (by kernel_rfl))⟩
  f11 := ⟨"slices.heapSortOrdered[int]", by decide, Try.func50.trans (congrArg some (by kernel_rfl))⟩
  f12 := ⟨"slices.breakPatternsOrdered[int]", by decide, Try.func51.trans (congrArg some (by kernel_rfl))⟩
  f13 := ⟨"slices.choosePivotOrdered[int]", by decide, Try.func52.trans (congrArg some (by kernel_rfl))⟩
  f14 := ⟨"slices.reverseRangeOrdered[int]", by decide, Try.func53.trans (congrArg some (by kernel_rfl))⟩
  f15 := ⟨"slices.partialInsertionSortOrdered[int]", by decide, Try.func54.trans (congrArg some (by kernel_rfl))⟩
  f16 := ⟨"cmp.Less[int]", by decide, Try.func55.trans (congrArg some (by kernel_rfl))⟩
  f17 := ⟨"slices.partitionEqualOrdered[int]", by decide, Try.func56.trans (congrArg some (by kernel_rfl))⟩
  f18 := ⟨"slices.partitionOrdered[int]", by decide, Try.func57.trans (congrArg some (by kernel_rfl))⟩
  f19 := Try.func58.trans (congrArg some (by kernel_rfl))
  f20 := Try.func59.trans (congrArg some (by kernel_rfl))
  f30 := ⟨"slices.siftDownOrdered[int]", by decide, Try.func60.trans (congrArg some (by kernel_rfl))⟩
  f31 := Try.func61.trans (congrArg some (by kernel_rfl))
  f32 := Try.func62.trans (congrArg some (by kernel_rfl))
  f33 := ⟨"slices.medianAdjacentOrdered[int]", by decide, Try.func63.trans (congrArg some (by kernel_rfl))⟩
  f34 := ⟨"slices.medianOrdered[int]", by decide, Try.func64.trans (congrArg some (by kernel_rfl))⟩
  f35 := ⟨"cmp.isNaN[int]", by decide, Try.func65.trans (congrArg some (by kernel_rfl))⟩
  f40 := ⟨"slices.order2Ordered[int]", by decide, Try.func66.trans (congrArg some (by kernel_rfl))⟩
  t0 := Try.underlying0
  a0 := Try.isAgg0
  z0 := Try.sizeOf0
  v0 := Try.zeroValue0
  t3 := Try.underlying3
  a3 := Try.isAgg3
  z3 := Try.sizeOf3
  v3 := Try.zeroValue3
  t4 := Try.underlying4
  a4 := Try.isAgg4
  z4 := Try.sizeOf4
  v4 := Try.zeroValue4
  t5 := Try.underlying5
  a5 := Try.isAgg5
  z5 := Try.sizeOf5
  v5 := Try.zeroValue5
  t9 := Try.underlying9
  a9 := Try.isAgg9
  z9 := Try.sizeOf9
  v9 := Try.zeroValue9
  t22 := Try.underlying29
  a22 := Try.isAgg29
  z22 := Try.sizeOf29
  v22 := Try.zeroValue29
  t23 := Try.underlying29
  a23 := Try.isAgg29
  z23 := Try.sizeOf29
  v23 := Try.zeroValue29
  t25 := Try.underlying3
  a25 := Try.isAgg3
  z25 := Try.sizeOf3
  v25 := Try.zeroValue3
  t32 := Try.underlying73
  a32 := Try.isAgg73
  z32 := Try.sizeOf73
  v32 := Try.zeroValue73
  t35 := Try.underlying89
  a35 := Try.isAgg89
  z35 := Try.sizeOf89
  v35 := Try.zeroValue89
  t36 := Try.underlying90
  a36 := Try.isAgg90
  z36 := Try.sizeOf90
  v36 := Try.zeroValue90
  t41 := Try.underlying94
  a41 := Try.isAgg94
  z41 := Try.sizeOf94
  v41 := Try.zeroValue94
  t44 := Try.underlying97
  a44 := Try.isAgg97
  z44 := Try.sizeOf97
  v44 := Try.zeroValue97
  t46 := Try.underlying72
  a46 := Try.isAgg72
  z46 := Try.sizeOf72
  v46 := Try.zeroValue72
  t53 := Try.underlying99
  a53 := Try.isAgg99
  z53 := Try.sizeOf99
  v53 := Try.zeroValue99
  t57 := Try.underlying103
  a57 := Try.isAgg103
  z57 := Try.sizeOf103
  v57 := Try.zeroValue103
  t63 := Try.underlying105
  a63 := Try.isAgg105
  z63 := Try.sizeOf105
  v63 := Try.zeroValue105
  t64 := Try.underlying106
  a64 := Try.isAgg106
  z64 := Try.sizeOf106
  v64 := Try.zeroValue106
/-- slices.Sort's two contracts, at the fence that asks nothing. -/
theorem Try.sortsA (m : Nat) : AnyZI.SortsIn Try.prog Try.sortedA_ren Fence.wide m :=
  ⟨fun blk off cap ss W hH hblk hsz => callsIn_wide.2 (AnyM.slices_Sort_int Try.sortA blk off cap ss W hH hblk hsz),
   fun p cap W => callsIn_wide.2 (AnyM.slices_Sort_int_none Try.sortA p cap W)⟩
end Go.Proofs.Ytampdfmakhdliaa
