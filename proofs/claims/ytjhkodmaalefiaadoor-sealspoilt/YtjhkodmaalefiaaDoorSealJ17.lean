/-
  The reference's primes: contract. The reference's New of layer 5: contract. The reference's Of of layer 5: its loops as pieces of its text; what lies in memory between two blocks of the message.
-/
import Derived.Test.YtjhkodmaalefiaaDoorSealJ16
import Derived.Test.YtjhkodmaalefiaaDoorSealJ13
import Derived.Test.YtjhkodmaalefiaaDoorSealJ01
import Derived.Test.YtjhkodmaalefiaaDoorSealJ02
import Derived.RegionTactic
import Derived.BigRegion
import Derived.BigQuiet
set_option maxRecDepth 100000
namespace Go.Proofs.YtjhkodmaalefiaaDoor
open Go.RowKit Go.Gar

theorem Tryd.undInts : Tryd.prog.underlying 56 = some (.slice 3) := by kernel_rfl
theorem Tryd.infoInt : (Tryd.prog.info? 3).map (fun i => (i.zero, i.size, i.bytes)) = some (some (.int .i64 0), 1, 8) := by kernel_rfl

set_option maxHeartbeats 1000000 in
set_option maxRecDepth 100000 in
theorem primes_any (w : World) :
    Calls Tryd.prog 23 #[.int .i64 64] w fun e w' => ∃ v, e = .returned v ∧ OwnV w' w.heap.size 3 v (i64s Sha.prL) ∧ Below w.heap.size w w' := by
  have HO := Lib.hid (ownV_made w w.heap.size 3 (Nat.le_refl _))
  have HB := Lib.hid (below_alloc w (.cells #[] 3))
  go_enter Tryd.func23, Tryd.ntmps23
  go_wp2
  generalize w.alloc (.cells #[] 3) = w1 at HO HB ⊢
  go_loopw [3, 4] (fun v n w' => ∃ k : Nat, k ≤ 310 ∧ n = .int .i64 ((k : Int) + 2) ∧ OwnV w' w.heap.size 3 v (i64s (Sha.pr k)) ∧ Below w.heap.size w w') (fun _ n _ => 312 - (intOf n).toNat)
  case atStart => exact ⟨0, by omega, rfl, HO.out, HB.out⟩
  case round =>
    obtain ⟨k, hk, rfl, hO, hB⟩ := hrel
    clear HO HB
    have hs := Sha.pr_short hk
    have hge := Sha.pr_ge k
    have hltp := Sha.pr_lt k
    obtain ⟨A, c, rfl, hr⟩ := hO.rd
    rw [i64s_len] at hO ⊢
    obtain ⟨L, hL⟩ : ∃ L, (Sha.pr k).length = L := ⟨_, rfl⟩
    rw [hL] at hO hs ⊢
    have HO := Lib.hid hO
    have HB := Lib.hid hB
    have HR := Lib.hid hr
    have HL := Lib.hid hL
    clear hO hB hr hL
    by_cases hlt : k < 310
    · have hL64 : L < 64 := hs.2 hlt
      clear hs
      go_wp2
      go_loop [5, 6] (fun b i => ∃ j : Nat, j ≤ L ∧ i = .int .i64 (j : Int) ∧ b = .bool (Sha.isP ((Sha.pr k).take j) (k + 2))) (fun _ i => L - (intOf i).toNat)
      case atStart => exact ⟨0, by omega, rfl, rfl⟩
      case round =>
        obtain ⟨j, hj, rfl, rfl⟩ := hrel
        by_cases hjl : j < L
        · have hjp : j < (Sha.pr k).length := by rw [HL.out]; exact hjl
          obtain ⟨q, hq⟩ : ∃ q, (Sha.pr k).getD j 0 = q := ⟨_, rfl⟩
          have hmem : q ∈ Sha.pr k := by
            rw [← hq, List.getD_eq_getElem?_getD, List.getElem?_eq_getElem hjp]; exact List.getElem_mem hjp
          have hq2 := hge q hmem
          have hq3 := hltp q hmem
          have hcell : ∃ b o, A = some ⟨b, o, none⟩ ∧ wr.cell? ⟨b, o + j, none⟩ = some (.int .i64 (q : Int)) := by
            rcases HR.out with h0 | ⟨b, o, hA, _, hc⟩
            · have := congrArg List.length h0
              rw [i64s_len] at this
              simp at this
              rw [this] at hjp; simp at hjp
            · exact ⟨b, o, hA, hc j _ (by rw [i64s_get _ j hjp, hq])⟩
          obtain ⟨b, o, rfl, hcell⟩ := hcell
          have HT : Hid (Sha.isP ((Sha.pr k).take (j + 1)) (k + 2) = (Sha.isP ((Sha.pr k).take j) (k + 2) && ((k + 2) % q != 0))) := Lib.hid (by
            rw [List.take_succ_eq_append_getElem hjp, show (Sha.pr k)[j] = q from by rw [← hq, List.getD_eq_getElem?_getD, List.getElem?_eq_getElem hjp]; rfl, Sha.isP, List.all_append, List.all_cons, List.all_nil, Bool.and_true]
            rfl)
          clear hge hltp hmem hq hjp
          generalize Sha.isP ((Sha.pr k).take j) (k + 2) = tb at HT ⊢
          cases tb with
          | true =>
            go_wp2
            refine ⟨⟨j + 1, by omega, by go_num, ?_⟩, by simp [intOf]; omega⟩
            rw [HT.out, show ((k : Int) + 2) % (q : Int) = (((k + 2) % q : Nat) : Int) from by simp, Bool.true_and, bne, show (0 : Int) = ((0 : Nat) : Int) from rfl, beq_cast]
            rfl
          | false =>
            go_wp2
            exact ⟨⟨j + 1, by omega, by go_num, by rw [HT.out]; rfl⟩, by simp [intOf]; omega⟩
        · obtain rfl : j = L := by omega
          have HT : Hid (Sha.isP ((Sha.pr k).take j) (k + 2) = Sha.isP (Sha.pr k) (k + 2)) := Lib.hid (by rw [← HL.out, List.take_length])
          rw [HT.out]
          clear HT HR
          have HN : Hid (Sha.pr (k + 1) = if Sha.isP (Sha.pr k) (k + 2) then Sha.pr k ++ [k + 2] else Sha.pr k) := Lib.hid rfl
          cases hp : Sha.isP (Sha.pr k) (k + 2) with
          | true =>
            obtain ⟨v', w2, h1, h2, h3, _, _⟩ := appV_one (P := Tryd.prog) 56 56 Tryd.undInts Tryd.infoInt rfl HO.out HB.out.size (.int .i64 ((k : Int) + 2)) rfl (by rw [i64s_len, HL.out]; omega) (by omega)
            have HP : Hid (Sha.pr (k + 1) = Sha.pr k ++ [k + 2]) := Lib.hid (by rw [HN.out, hp]; rfl)
            have H2 := Lib.hid h2
            have H3 := Lib.hid h3
            clear h2 h3 hp HN
            go_wp2_with (at_builtin; refine wpList_append_run rfl (.tmp 31) (.tmp 33) _ rfl rfl rfl h1 ?_)
            refine ⟨⟨k + 1, by omega, by go_num, ?_, HB.out.trans H3.out⟩, by simp [intOf]; omega⟩
            rw [HP.out, i64s_app]
            exact H2.out
          | false =>
            have HP : Hid (Sha.pr (k + 1) = Sha.pr k) := Lib.hid (by rw [HN.out, hp]; rfl)
            clear hp HN
            go_wp2
            refine ⟨⟨k + 1, by omega, by go_num, ?_, HB.out⟩, by simp [intOf]; omega⟩
            rw [HP.out]
            exact HO.out
    · obtain rfl : k = 310 := by omega
      obtain rfl : L = 64 := by rw [← HL.out, Sha.pr_end]; exact Sha.prL_len
      go_wp2
      go_ret
      refine ⟨_, rfl, ?_, HB.out⟩
      rw [← Sha.pr_end]
      exact HO.out
end Go.Proofs.YtjhkodmaalefiaaDoor
namespace Go.Proofs.YtjhkodmaalefiaaDoor
open Go.RowKit Go.Gar

theorem Tryd.undU32s : Tryd.prog.underlying 33 = some (.slice 58) := by kernel_rfl
theorem Tryd.infoU32 : (Tryd.prog.info? 58).map (fun i => (i.zero, i.size, i.bytes)) = some (some (.int .u32 0), 1, 4) := by kernel_rfl
def rootsK (third : Bool) (k : Nat) : List Nat := (Sha.prL.take k).map fun p => Sha.root p third
theorem rootsK_succ (third : Bool) (k : Nat) (h : k < 64) : rootsK third (k + 1) = rootsK third k ++ [Sha.root (Sha.prL.getD k 0) third] := by
  have hl : k < Sha.prL.length := by rw [Sha.prL_len]; exact h
  unfold rootsK
  rw [List.take_succ_eq_append_getElem hl, List.map_append, List.getD_eq_getElem?_getD, List.getElem?_eq_getElem hl]
  rfl
theorem rootsK_len (third : Bool) (k : Nat) (h : k ≤ 64) : (rootsK third k).length = k := by
  simp [rootsK, Sha.prL_len]; omega
theorem rootsK_64 : rootsK true 64 = Sha.kL := by
  rw [rootsK, List.take_of_length_le (by rw [Sha.prL_len]; omega)]; exact Sha.kL_root
theorem rootsK_8 : rootsK false 8 = Sha.hL := Sha.hL_root
theorem prime_at (k : Nat) (h : k < 64) : Sha.prL.getD k 0 < 312 := by
  have hl : k < Sha.prL.length := by rw [Sha.prL_len]; exact h
  rw [List.getD_eq_getElem?_getD, List.getElem?_eq_getElem hl]
  exact Sha.prL_lt _ (List.getElem_mem hl)
theorem Tryd.undSums : (Tryd.prog.underlying 35).map (fun d => match d with | .struct _ | .array _ _ => true | _ => false) = some true := by kernel_rfl
theorem Tryd.undSums' : ∃ d, Tryd.prog.underlying 35 = some d ∧ (match d with | .struct _ | .array _ _ => true | _ => false) = true := Option.map_eq_some_iff.1 Tryd.undSums
theorem ownV_lower {w : World} {base base' : Nat} {e : TypeId} {v : Value} {vs : List Value} (h : OwnV w base e v vs) (hb : base' ≤ base) : OwnV w base' e v vs := by
  refine ⟨h.1, ?_⟩
  rcases h.2 with hn | ⟨g, cap, cur, hv, hg, rest⟩
  · exact .inl hn
  · exact .inr ⟨g, cap, cur, hv, by omega, rest⟩
theorem ownV_nil (w : World) (base : Nat) (e : TypeId) : OwnV w base e (.slice none 0 0) [] := ⟨rfl, .inl ⟨rfl, rfl⟩⟩
/-- The reference's sums while they are made: struct in block g, its first row v (of k roots), its second u. -/
structure Mk (w0 w : World) (g base : Nat) (v u : Value) : Prop where
  blk : Blk w g 35 [v, u]
  low : g < base
  old : w0.heap.size ≤ g
  grown : base ≤ w.heap.size
  below : Below w0.heap.size w0 w
theorem Mk.drew {w0 w : World} {g base : Nat} {v u : Value} (h : Mk w0 w g base v u) : Mk w0 w.drew g base v u := ⟨h.blk.drew, h.low, h.old, h.grown, h.below.drew⟩

set_option maxHeartbeats 4000000 in
set_option maxRecDepth 100000 in
theorem refNew5_any (w : World) :
    Calls Tryd.prog 10 #[] w fun e w' => ∃ v u, e = .returned (.agg #[v, u]) ∧ OwnV w' w.heap.size 58 v (u32s Sha.kL) ∧ OwnV w' w.heap.size 58 u (u32s Sha.hL) ∧ Below w.heap.size w w' := by
  go_enter Tryd.func10, Tryd.ntmps10
  go_wp2_with fail
  have hb2 : Below w.heap.size w ((w.alloc (.cells #[.slice none 0 0, .slice none 0 0] 35)).alloc (.cells #[.slice none 0 0, .slice none 0 0] 35)) := (below_alloc w _).alloc (by rw [World.size_alloc]; omega) _
  have hk0 : Blk ((w.alloc (.cells #[.slice none 0 0, .slice none 0 0] 35)).alloc (.cells #[.slice none 0 0, .slice none 0 0] 35)) w.heap.size 35 [.slice none 0 0, .slice none 0 0] := (Blk.new w 35 [.slice none 0 0, .slice none 0 0]).alloc _
  have hk1 := Blk.new (w.alloc (.cells #[.slice none 0 0, .slice none 0 0] 35)) 35 [.slice none 0 0, .slice none 0 0]
  rw [World.size_alloc] at hk1
  refine (primes_any _).mono ?_
  rintro e wp ⟨vp, rfl, hop, hbp⟩
  obtain ⟨b, c, rest, rfl, hb1, _, hCp⟩ := hop.blk (by rw [i64s_len, Sha.prL_len]; omega)
  have hb2' := hCp.lt
  have hszp := hbp.size
  simp at hb1
  have HK0 : Hid (Blk wp w.heap.size 35 [.slice none 0 0, .slice none 0 0]) := Lib.hid (hk0.below hbp (by simp; omega))
  have HM0 : Hid (Mk w wp (w.heap.size + 1) wp.heap.size (.slice none 0 0) (.slice none 0 0)) := Lib.hid ⟨hk1.below hbp (by simp), by simp at hszp; omega, by omega, Nat.le_refl _, hb2.trans (hbp.mono hb2.size)⟩
  have HC0 := Lib.hid hCp
  rw [i64s_len, Sha.prL_len]
  clear hop hCp hbp hk0 hk1 hb2 hszp
  go_wp2
  go_loopw [3] (fun i w' => ∃ (k : Nat) (v : Value), k ≤ 64 ∧ i = .int .i64 (k : Int) ∧ Mk w w' (w.heap.size + 1) wp.heap.size v (.slice none 0 0) ∧ OwnV w' wp.heap.size 58 v (u32s (rootsK true k)) ∧ Blk w' w.heap.size 35 [.slice none 0 0, .slice none 0 0] ∧ Blk w' b 3 (i64s Sha.prL ++ rest)) (fun i _ => 64 - (intOf i).toNat)
  case atStart => exact ⟨0, _, by omega, rfl, HM0.out, ownV_nil _ _ _, HK0.out, HC0.out⟩
  case round =>
    obtain ⟨k, v, hk, rfl, hM, hO, hK, hC⟩ := hrel
    clear HM0 HK0 HC0
    by_cases hlt : k < 64
    · have HM := Lib.hid hM.drew
      have HO : Hid (OwnV wr.drew wp.heap.size 58 v (u32s (rootsK true k))) := Lib.hid hO
      have HK := Lib.hid hK.drew
      have HC := Lib.hid hC.drew
      clear hM hO hK hC
      obtain ⟨q, hq⟩ : ∃ q, Sha.prL.getD k 0 = q := ⟨_, rfl⟩
      have hpr := prime_at k (by omega)
      rw [hq] at hpr
      have HN : Hid (rootsK true (k + 1) = rootsK true k ++ [Sha.root q true]) := Lib.hid (by rw [← hq]; exact rootsK_succ true k (by omega))
      have hCk : wr.drew.cell? ⟨b, k, none⟩ = some (.int .i64 (q : Int)) := by
        have hkl : k < Sha.prL.length := by rw [Sha.prL_len]; omega
        rw [HC.out.cell, List.getElem?_append_left (by rw [i64s_len]; exact hkl), i64s_get _ k hkl, hq]
      have HCk := Lib.hid hCk
      clear hq hCk
      go_wp2
      refine wp_region_G (turnsB wr.drew.heap.size v.ownBlock) (by kernel_rfl) ?_
      generalize wr.drew = wa at *
      have hne : ∀ g, g < wp.heap.size → some g ≠ v.ownBlock := fun g hg h => by have := (HO.out.lt h.symm).1; omega
      have q0 := cell_turnsB (B := wa.heap.size) HM.out.blk HM.out.blk.lt (hne _ HM.out.low) (i := 0) rfl
      have q1 := addr_turnsB (B := wa.heap.size) HCk.out (by have := HM.out.grown; omega) (hne _ (by omega))
      refine segG (by kernel_rfl) (fun _ _ _ _ _ h => h) [0, 1, 2, 3, 4, 5] [_, _, _, _, _, _] 5 rfl rfl (by kernel_rfl) ?_
      repeat (go_big_quiet_step (fail))
      refine wpQuiet_nil ?_
      clear q0 q1
      refine oneG 6 4 rfl (by kernel_rfl) rfl ?_
      go_wp2_with fail
      refine (root_any q true (by omega) wa).mono ?_
      rintro e w' ⟨rfl, rfl⟩
      go_wp2
      refine ⟨(turnsB _ _).refl _, ?_⟩
      obtain ⟨v', w3, h1, h2, h3, h4, h5⟩ := appV_one (P := Tryd.prog) 33 33 Tryd.undU32s Tryd.infoU32 rfl HO.out HM.out.grown (.int .u32 ((Sha.root q true : Nat) : Int)) rfl (by rw [u32s_len, rootsK_len true k (by omega)]; omega) (by omega)
      have hO3 : OwnV w3 wp.heap.size 58 v' (u32s (rootsK true (k + 1))) := by rw [HN.out, u32s_app]; exact h2
      obtain ⟨g3, c3, _, rfl, hg3, _, _⟩ := hO3.blk (by rw [u32s_len, rootsK_len true _ (by omega)]; omega)
      have hM3 : Blk w3 (w.heap.size + 1) 35 [v, .slice none 0 0] := HM.out.blk.grown h4 (hne _ HM.out.low)
      have hK3 : Blk w3 w.heap.size 35 [.slice none 0 0, .slice none 0 0] := HK.out.grown h4 (hne _ (by have := HM.out.low; omega))
      have hC3 := HC.out.grown h4 (hne _ (by omega))
      have hlow := HM.out.low
      have HB3 : Hid (Below w.heap.size w w3) := Lib.hid (HM.out.below.trans (h3.mono (by have := HM.out.below.size; omega)))
      have HS3 : Hid (wp.heap.size ≤ w3.heap.size) := Lib.hid (Nat.le_trans HM.out.grown h3.size)
      have HR3 : Hid ((turnsB w'.heap.size v.ownBlock).rel (w'.alloc (.cells #[.int .u32 ((Sha.root q true : Nat) : Int)] 58)) w3) := Lib.hid (turnsB_grown h5 (by rw [World.size_alloc]; omega))
      generalize (u32s (rootsK true (k + 1))).length = n3 at hO3 h1 ⊢
      have HO3 := Lib.hid hO3
      have HK3 := Lib.hid hK3
      have HC3 := Lib.hid hC3
      have HM3 := Lib.hid hM3
      have hc3 := hM3.cell 0
      have hf3 := hM3.frozen 0
      clear hO3 hK3 hC3 hM3 h2 h3 h4 h5
      refine oneG 7 3 rfl (by kernel_rfl) rfl ?_
      go_wp2
      refine ⟨turnsB_below (below_alloc _ _), ?_⟩
      refine oneG 8 2 rfl (by kernel_rfl) rfl ?_
      go_wp2_with (at_builtin; refine wpList_append_run rfl (.tmp 12) (.tmp 18) _ rfl rfl rfl h1 ?_)
      refine ⟨HR3.out, ?_⟩
      clear h1
      simp only [Act.put, List.setIfInBounds_toArray, List.set]
      refine segG (by kernel_rfl) (fun _ _ _ _ _ h => h) [9] [_] 1 rfl rfl (by kernel_rfl) ?_
      repeat (go_big_quiet_step (fail))
      refine wpQuiet_nil ?_
      refine lateG 10 0 rfl (by kernel_rfl) (by kernel_rfl) rfl ?_
      go_wp2
      refine ⟨trivial, ?_⟩
      refine wpAnyG_done (by kernel_rfl) ?_
      go_wp2
      refine ⟨⟨k + 1, _, by omega, by go_num, ⟨?_, HM.out.low, by omega, by simpa [World.setCell] using HS3.out, HB3.out.setCell (p := ⟨w.heap.size + 1, 0, none⟩) (by simp) _⟩, HO3.out.keep fun g hg => ?_, HK3.out.far (by simp) _, HC3.out.far (by simp; omega) _⟩, by simp [intOf]; omega⟩
      · have := HM3.out.set_ 0 (.slice (some ⟨g3, 0, none⟩) n3 c3)
        exact this
      · have : g3 = g := by simpa [Value.ownBlock] using hg
        exact Below.heap_setCell _ _ _ g (by simp; omega)
    · have hk64 : k = 64 := by omega
      rw [hk64, rootsK_64] at hO
      have hdk : decide ((k : Int) < 64) = false := by simp; omega
      clear hk64 hlt hk
      obtain ⟨k1, hk1⟩ : ∃ k1, k = k1 := ⟨_, rfl⟩
      rw [hk1] at hdk ⊢
      clear hk1
      obtain ⟨g1, c1, _, rfl, hg1, _, _⟩ := hO.blk (by rw [u32s_len, Sha.kL_len]; omega)
      generalize (u32s Sha.kL).length = n1 at hO hM ⊢
      obtain ⟨wb, hwb⟩ : ∃ wb : World, wr = wb := ⟨_, rfl⟩
      have hM0 : Mk w wb (w.heap.size + 1) wb.heap.size (.slice (some ⟨g1, 0, none⟩) n1 c1) (.slice none 0 0) := by rw [← hwb]; exact ⟨hM.blk, hM.blk.lt, hM.old, Nat.le_refl _, hM.below⟩
      have hg1b : g1 < wb.heap.size := by rw [← hwb]; exact (hO.lt rfl).2
      have hwpb : wp.heap.size ≤ wb.heap.size := by rw [← hwb]; exact hM.grown
      have HM0 := Lib.hid hM0
      have HO0 := Lib.hid hO
      have HK0 := Lib.hid hK
      have HC0 := Lib.hid hC
      rw [hwb] at HO0 HK0 HC0
      clear hM hO hK hC hM0
      go_wp2
      go_loopw [4] (fun i w' => ∃ (k : Nat) (v : Value), k ≤ 8 ∧ i = .int .i64 (k : Int) ∧ Mk w w' (w.heap.size + 1) wb.heap.size (.slice (some ⟨g1, 0, none⟩) n1 c1) v ∧ OwnV w' wb.heap.size 58 v (u32s (rootsK false k)) ∧ Blk w' w.heap.size 35 [.slice none 0 0, .slice none 0 0] ∧ Blk w' b 3 (i64s Sha.prL ++ rest) ∧ OwnV w' wp.heap.size 58 (.slice (some ⟨g1, 0, none⟩) n1 c1) (u32s Sha.kL)) (fun i _ => 8 - (intOf i).toNat)
      case atStart => subst hwb; exact ⟨0, _, by omega, rfl, HM0.out, ownV_nil _ _ _, HK0.out, HC0.out, HO0.out⟩
      case round =>
        obtain ⟨k, v, hk, rfl, hM, hO, hK, hC, hV⟩ := hrel
        clear HM0 HK0 HC0 HO0
        by_cases hlt : k < 8
        · have HM := Lib.hid hM.drew
          have HO : Hid (OwnV wr.drew wb.heap.size 58 v (u32s (rootsK false k))) := Lib.hid hO
          have HK := Lib.hid hK.drew
          have HC := Lib.hid hC.drew
          have HV : Hid (OwnV wr.drew wp.heap.size 58 (.slice (some ⟨g1, 0, none⟩) n1 c1) (u32s Sha.kL)) := Lib.hid hV
          clear hM hO hK hC hV
          obtain ⟨q, hq⟩ : ∃ q, Sha.prL.getD k 0 = q := ⟨_, rfl⟩
          have hpr := prime_at k (by omega)
          rw [hq] at hpr
          have HN : Hid (rootsK false (k + 1) = rootsK false k ++ [Sha.root q false]) := Lib.hid (by rw [← hq]; exact rootsK_succ false k (by omega))
          have hCk : wr.drew.cell? ⟨b, k, none⟩ = some (.int .i64 (q : Int)) := by
            have hkl : k < Sha.prL.length := by rw [Sha.prL_len]; omega
            rw [HC.out.cell, List.getElem?_append_left (by rw [i64s_len]; exact hkl), i64s_get _ k hkl, hq]
          have HCk := Lib.hid hCk
          clear hq hCk
          go_wp2
          refine wp_region_G (turnsB wr.drew.heap.size v.ownBlock) (by kernel_rfl) ?_
          generalize wr.drew = wa at *
          have hne : ∀ g, g < wb.heap.size → some g ≠ v.ownBlock := fun g hg h => by have := (HO.out.lt h.symm).1; omega
          have q0 := cell_turnsB (B := wa.heap.size) HM.out.blk HM.out.blk.lt (hne _ HM.out.low) (i := 1) rfl
          have q1 := addr_turnsB (B := wa.heap.size) HCk.out (by have := HM.out.grown; omega) (hne _ (by omega))
          refine segG (by kernel_rfl) (fun _ _ _ _ _ h => h) [0, 1, 2, 3, 4, 5] [_, _, _, _, _, _] 5 rfl rfl (by kernel_rfl) ?_
          repeat (go_big_quiet_step (fail))
          refine wpQuiet_nil ?_
          clear q0 q1
          refine oneG 6 4 rfl (by kernel_rfl) rfl ?_
          go_wp2_with fail
          refine (root_any q false (by omega) wa).mono ?_
          rintro e w' ⟨rfl, rfl⟩
          go_wp2
          refine ⟨(turnsB _ _).refl _, ?_⟩
          obtain ⟨v', w3, h1, h2, h3, h4, h5⟩ := appV_one (P := Tryd.prog) 33 33 Tryd.undU32s Tryd.infoU32 rfl HO.out HM.out.grown (.int .u32 ((Sha.root q false : Nat) : Int)) rfl (by rw [u32s_len, rootsK_len false k (by omega)]; omega) (by omega)
          have hO3 : OwnV w3 wb.heap.size 58 v' (u32s (rootsK false (k + 1))) := by rw [HN.out, u32s_app]; exact h2
          obtain ⟨g3, c3, _, rfl, hg3, _, _⟩ := hO3.blk (by rw [u32s_len, rootsK_len false _ (by omega)]; omega)
          have hM3 : Blk w3 (w.heap.size + 1) 35 [.slice (some ⟨g1, 0, none⟩) n1 c1, v] := HM.out.blk.grown h4 (hne _ HM.out.low)
          have hK3 : Blk w3 w.heap.size 35 [.slice none 0 0, .slice none 0 0] := HK.out.grown h4 (hne _ (by have := HM.out.low; omega))
          have hC3 := HC.out.grown h4 (hne _ (by omega))
          have hV3 : OwnV w3 wp.heap.size 58 (.slice (some ⟨g1, 0, none⟩) n1 c1) (u32s Sha.kL) := by
            refine HV.out.keep fun g hg => ?_
            have hg1 : g1 = g := by simpa [Value.ownBlock] using hg
            exact h4.block g (HV.out.lt hg).2 (hne g (by omega))
          have HV3 := Lib.hid hV3
          have hlow := HM.out.low
          have HB3 : Hid (Below w.heap.size w w3) := Lib.hid (HM.out.below.trans (h3.mono (by have := HM.out.below.size; omega)))
          have HS3 : Hid (wb.heap.size ≤ w3.heap.size) := Lib.hid (Nat.le_trans HM.out.grown h3.size)
          have HR3 : Hid ((turnsB w'.heap.size v.ownBlock).rel (w'.alloc (.cells #[.int .u32 ((Sha.root q false : Nat) : Int)] 58)) w3) := Lib.hid (turnsB_grown h5 (by rw [World.size_alloc]; omega))
          generalize (u32s (rootsK false (k + 1))).length = n3 at hO3 h1 ⊢
          have HO3 := Lib.hid hO3
          have HK3 := Lib.hid hK3
          have HC3 := Lib.hid hC3
          have HM3 := Lib.hid hM3
          have hc3 := hM3.cell 1
          have hf3 := hM3.frozen 1
          clear hO3 hK3 hC3 hM3 h2 h3 h4 h5
          refine oneG 7 3 rfl (by kernel_rfl) rfl ?_
          go_wp2
          refine ⟨turnsB_below (below_alloc _ _), ?_⟩
          refine oneG 8 2 rfl (by kernel_rfl) rfl ?_
          go_wp2_with (at_builtin; refine wpList_append_run rfl (.tmp 26) (.tmp 32) _ rfl rfl rfl h1 ?_)
          refine ⟨HR3.out, ?_⟩
          clear h1
          simp only [Act.put, List.setIfInBounds_toArray, List.set]
          refine segG (by kernel_rfl) (fun _ _ _ _ _ h => h) [9] [_] 1 rfl rfl (by kernel_rfl) ?_
          repeat (go_big_quiet_step (fail))
          refine wpQuiet_nil ?_
          refine lateG 10 0 rfl (by kernel_rfl) (by kernel_rfl) rfl ?_
          go_wp2
          refine ⟨trivial, ?_⟩
          refine wpAnyG_done (by kernel_rfl) ?_
          go_wp2
          refine ⟨⟨k + 1, _, by omega, by go_num, ⟨?_, HM.out.low, by omega, by simpa [World.setCell] using HS3.out, HB3.out.setCell (p := ⟨w.heap.size + 1, 1, none⟩) (by simp) _⟩, HO3.out.keep fun g hg => ?_, HK3.out.far (by simp) _, HC3.out.far (by simp; omega) _, HV3.out.keep fun g hg => ?_⟩, by simp [intOf]; omega⟩
          · have := HM3.out.set_ 1 (.slice (some ⟨g3, 0, none⟩) n3 c3)
            exact this
          · have : g3 = g := by simpa [Value.ownBlock] using hg
            exact Below.heap_setCell _ _ _ g (by simp; omega)

          · have : g1 = g := by simpa [Value.ownBlock] using hg
            have := (HV3.out.lt hg).1
            exact Below.heap_setCell _ _ _ g (by simp; omega)
        · obtain rfl : k = 8 := by omega
          rw [rootsK_8] at hO
          obtain ⟨g2, c2, _, rfl, hg2, _, _⟩ := hO.blk (by rw [u32s_len, Sha.hL_len]; omega)
          generalize (u32s Sha.hL).length = n2 at hO hM ⊢
          have hc0 := hM.blk.cell 0
          have hc1 := hM.blk.cell 1
          have hd0 := hK.cell 0
          have hd1 := hK.cell 1
          have hf0 := hK.frozen 0
          have hf1 := hK.frozen 1
          have HM := Lib.hid hM
          have HO := Lib.hid hO
          have HV := Lib.hid hV
          have HK := Lib.hid hK
          clear hM hO hK hC hV
          go_wp2
          have hB := (HK.out.set_ 0 (.slice (some ⟨g1, 0, none⟩) n1 c1)).set_ 1 (.slice (some ⟨g2, 0, none⟩) n2 c2)
          obtain ⟨dS, hS1, hS2⟩ := Tryd.undSums'
          have hl := run_loadVar_row (P := Tryd.prog) _ w.heap.size 35 35 #[.slice (some ⟨g1, 0, none⟩) n1 c1, .slice (some ⟨g2, 0, none⟩) n2 c2] (0, 0) _ hB hS1 (by cases dS <;> first | rfl | (simp at hS2)) (by kernel_rfl)
          have hg1w := HM.out.low
          have hl1 := (HV.out.lt rfl).1
          have hl2 := (HO.out.lt rfl).1
          have hwp : w.heap.size < wp.heap.size := by omega
          have hkeep : ∀ g, wp.heap.size ≤ g → ((wr.setCell ⟨w.heap.size, 0, none⟩ (.slice (some ⟨g1, 0, none⟩) n1 c1)).setCell ⟨w.heap.size, 1, none⟩ (.slice (some ⟨g2, 0, none⟩) n2 c2)).heap[g]? = wr.heap[g]? := fun g hg =>
            (Below.heap_setCell _ _ _ g (by simp; omega)).trans (Below.heap_setCell _ _ _ g (by simp; omega))
          refine bodyPost_ret (v := .agg #[.slice (some ⟨g1, 0, none⟩) n1 c1, .slice (some ⟨g2, 0, none⟩) n2 c2]) ?_ rfl ⟨_, _, rfl, ?_, ?_, ?_⟩
          · simp [results, Tryd.results10, asAddr, hl]
          · exact ownV_lower (HV.out.keep fun g hg => hkeep g (HV.out.lt hg).1) (by omega)
          · exact ownV_lower (HO.out.keep fun g hg => hkeep g (by have := (HO.out.lt hg).1; omega)) (by omega)
          · exact (HM.out.below.setCell (p := ⟨w.heap.size, 0, none⟩) (Nat.le_refl _) _).setCell (p := ⟨w.heap.size, 1, none⟩) (Nat.le_refl _) _
end Go.Proofs.YtjhkodmaalefiaaDoor
namespace Go.Proofs.YtjhkodmaalefiaaDoor
open Go.RowKit Go.Gar

/-- The bodies of a text's loops, the outer ahead of the inner. -/
def loopsOf : Code → List Code
  | .loop c => c :: loopsOf c
  | .seq a b => loopsOf a ++ loopsOf b
  | .block _ c => loopsOf c
  | .scope c => loopsOf c
  | .cond _ a b => loopsOf a ++ loopsOf b
  | _ => []
noncomputable def shaLoop (k : Nat) : Code := (((Tryd.f30.body.map loopsOf).getD [])[k]?).getD .skip

/-- What lies in memory between two blocks of the message: the sums (block g0), the hash (block gh), the message (block gm). -/
structure Rnd (w wr : World) (g0 gh gm : Nat) (K H : Value) (m : List UInt8) (restm : List Value) (hs : List Nat) (resth : List Value) : Prop where
  box : Blk wr g0 35 [K, H]
  h : Blk wr gh 58 (u32s hs ++ resth)
  m : Blk wr gm 5 (u8s m ++ restm)
  below : Below w.heap.size w wr
  o1 : w.heap.size ≤ g0
  o2 : g0 < gh
  o3 : gh < gm
theorem Rnd.on {w wr wr' : World} {g0 gh gm : Nat} {K H : Value} {m : List UInt8} {restm : List Value} {hs : List Nat} {resth : List Value} {B : Nat} (h : Rnd w wr g0 gh gm K H m restm hs resth) (hb : Below B wr wr') (hB : gm < B) : Rnd w wr' g0 gh gm K H m restm hs resth :=
  ⟨h.box.below hb (by have := h.o2; have := h.o3; omega), h.h.below hb (by have := h.o3; omega), h.m.below hb hB, h.below.trans (hb.mono (by have := h.o1; have := h.o2; have := h.o3; omega)), h.o1, h.o2, h.o3⟩
theorem Rnd.drew {w wr : World} {g0 gh gm : Nat} {K H : Value} {m : List UInt8} {restm : List Value} {hs : List Nat} {resth : List Value} (h : Rnd w wr g0 gh gm K H m restm hs resth) : Rnd w wr.drew g0 gh gm K H m restm hs resth :=
  ⟨h.box, h.h, h.m, h.below.drew, h.o1, h.o2, h.o3⟩
theorem Rnd.set {w wr : World} {g0 gh gm : Nat} {K H : Value} {m : List UInt8} {restm : List Value} {hs : List Nat} {resth : List Value} (h : Rnd w wr g0 gh gm K H m restm hs resth) (i n : Nat) (hi : i < hs.length) :
    Rnd w (wr.setCell ⟨gh, i, none⟩ (.int .u32 (n : Int))) g0 gh gm K H m restm (hs.set i n) resth := by
  have h1 := h.o1
  have h2 := h.o2
  have h3 := h.o3
  refine ⟨h.box.far (by simp; omega) _, ?_, h.m.far (by simp; omega) _, h.below.setCell (p := ⟨gh, i, none⟩) (by simp; omega) _, h1, h2, h3⟩
  have := h.h.set_ i (.int .u32 (n : Int))
  rw [List.set_append_left _ _ (by rw [u32s_len]; exact hi), u32s_set] at this
  exact this
theorem byte_at {w : World} {g : Nat} {t : TypeId} {m : List UInt8} {rest : List Value} (h : Blk w g t (u8s m ++ rest)) {k : Nat} (hk : k < m.length) : w.cell? ⟨g, k, none⟩ = some (.int .u8 ((Sha.at8 m k : Nat) : Int)) := by
  rw [h.cell, List.getElem?_append_left (by rw [u8s_len]; exact hk), u8s_get, List.getElem?_eq_getElem hk, Sha.at8, List.getD_eq_getElem?_getD, List.getElem?_eq_getElem hk]
  rfl
theorem word_at {w : World} {g : Nat} {t : TypeId} {l : List Nat} {rest : List Value} (h : Blk w g t (u32s l ++ rest)) {k : Nat} (hk : k < l.length) : w.cell? ⟨g, k, none⟩ = some (.int .u32 ((l.getD k 0 : Nat) : Int)) := by
  rw [h.cell, List.getElem?_append_left (by rw [u32s_len]; exact hk), u32s_get l k hk]

theorem cell_bel {w w' : World} (hb : Below w.heap.size w w') {p : Addr} {v : Value} (h : w.cell? p = some v) : w'.cell? p = some v := by
  rw [hb.cell (p := p) (World.block_lt_of_cell? w p h), h]
theorem ownB_lower {w : World} {base base' : Nat} {e : TypeId} {v : Value} {l : List UInt8} (h : OwnB w base e v l) (hb : base' ≤ base) : OwnB w base' e v l := by
  refine ⟨h.1, ?_⟩
  rcases h.2 with hn | ⟨g, cap, cur, hv, hg, rest⟩
  · exact .inl hn
  · exact .inr ⟨g, cap, cur, hv, by omega, rest⟩
end Go.Proofs.YtjhkodmaalefiaaDoor
