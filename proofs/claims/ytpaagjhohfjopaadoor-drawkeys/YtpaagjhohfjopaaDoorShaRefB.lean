/-
  The reference's primes: contract.
-/
import Derived.Test.YtpaagjhohfjopaaDoorShaRefA
set_option maxRecDepth 100000
namespace Go.Proofs.YtpaagjhohfjopaaDoor
open Go.RowKit Go.Gar

theorem Tryd.undInts : Tryd.prog.underlying 42 = some (.slice 3) := by kernel_rfl
theorem Tryd.infoInt : (Tryd.prog.info? 3).map (fun i => (i.zero, i.size, i.bytes)) = some (some (.int .i64 0), 1, 8) := by kernel_rfl

set_option maxHeartbeats 1000000 in
set_option maxRecDepth 100000 in
theorem primes_any (w : World) :
    Calls Tryd.prog 14 #[.int .i64 64] w fun e w' => ∃ v, e = .returned v ∧ OwnV w' w.heap.size 3 v (i64s Sha.prL) ∧ Below w.heap.size w w' := by
  have HO := Lib.hid (ownV_made w w.heap.size 3 (Nat.le_refl _))
  have HB := Lib.hid (below_alloc w (.cells #[] 3))
  go_enter Tryd.func14, Tryd.ntmps14
  go_wp2
  generalize w.alloc (.cells #[] 3) = w1 at HO HB ⊢
  go_loopw [3, 4] (fun v n w' => ∃ k : Nat, k ≤ 310 ∧ n = .int .i64 ((k : Int) + 2) ∧ OwnV w' w.heap.size 3 v (i64s (Sha.pr k)) ∧ Below w.heap.size w w') (fun _ n _ => 312 - (intOf n).toNat)
  case atStart => exact ⟨0, by omega, rfl, HO.out, HB.out⟩
  case round =>
    obtain ⟨k, hk, rfl, hO, hB⟩ := hrel
    clear HO HB
    have hs := Sha.pr_short hk
    have hge := Sha.pr_ge k
    have hltp := Sha.pr_lt k
    obtain ⟨A, c, rfl, hr⟩ := hO.rd
    rw [i64s_len] at hO ⊢
    obtain ⟨L, hL⟩ : ∃ L, (Sha.pr k).length = L := ⟨_, rfl⟩
    rw [hL] at hO hs ⊢
    have HO := Lib.hid hO
    have HB := Lib.hid hB
    have HR := Lib.hid hr
    have HL := Lib.hid hL
    clear hO hB hr hL
    by_cases hlt : k < 310
    · have hL64 : L < 64 := hs.2 hlt
      clear hs
      go_wp2
      go_loop [5, 6] (fun b i => ∃ j : Nat, j ≤ L ∧ i = .int .i64 (j : Int) ∧ b = .bool (Sha.isP ((Sha.pr k).take j) (k + 2))) (fun _ i => L - (intOf i).toNat)
      case atStart => exact ⟨0, by omega, rfl, rfl⟩
      case round =>
        obtain ⟨j, hj, rfl, rfl⟩ := hrel
        by_cases hjl : j < L
        · have hjp : j < (Sha.pr k).length := by rw [HL.out]; exact hjl
          obtain ⟨q, hq⟩ : ∃ q, (Sha.pr k).getD j 0 = q := ⟨_, rfl⟩
          have hmem : q ∈ Sha.pr k := by
            rw [← hq, List.getD_eq_getElem?_getD, List.getElem?_eq_getElem hjp]; exact List.getElem_mem hjp
          have hq2 := hge q hmem
          have hq3 := hltp q hmem
          have hcell : ∃ b o, A = some ⟨b, o, none⟩ ∧ wr.cell? ⟨b, o + j, none⟩ = some (.int .i64 (q : Int)) := by
            rcases HR.out with h0 | ⟨b, o, hA, _, hc⟩
            · have := congrArg List.length h0
              rw [i64s_len] at this
              simp at this
              rw [this] at hjp; simp at hjp
            · exact ⟨b, o, hA, hc j _ (by rw [i64s_get _ j hjp, hq])⟩
          obtain ⟨b, o, rfl, hcell⟩ := hcell
          have HT : Hid (Sha.isP ((Sha.pr k).take (j + 1)) (k + 2) = (Sha.isP ((Sha.pr k).take j) (k + 2) && ((k + 2) % q != 0))) := Lib.hid (by
            rw [List.take_succ_eq_append_getElem hjp, show (Sha.pr k)[j] = q from by rw [← hq, List.getD_eq_getElem?_getD, List.getElem?_eq_getElem hjp]; rfl, Sha.isP, List.all_append, List.all_cons, List.all_nil, Bool.and_true]
            rfl)
          clear hge hltp hmem hq hjp
          generalize Sha.isP ((Sha.pr k).take j) (k + 2) = tb at HT ⊢
          cases tb with
          | true =>
            go_wp2
            refine ⟨⟨j + 1, by omega, by go_num, ?_⟩, by simp [intOf]; omega⟩
            rw [HT.out, show ((k : Int) + 2) % (q : Int) = (((k + 2) % q : Nat) : Int) from by simp, Bool.true_and, bne, show (0 : Int) = ((0 : Nat) : Int) from rfl, beq_cast]
            rfl
          | false =>
            go_wp2
            exact ⟨⟨j + 1, by omega, by go_num, by rw [HT.out]; rfl⟩, by simp [intOf]; omega⟩
        · obtain rfl : j = L := by omega
          have HT : Hid (Sha.isP ((Sha.pr k).take j) (k + 2) = Sha.isP (Sha.pr k) (k + 2)) := Lib.hid (by rw [← HL.out, List.take_length])
          rw [HT.out]
          clear HT HR
          have HN : Hid (Sha.pr (k + 1) = if Sha.isP (Sha.pr k) (k + 2) then Sha.pr k ++ [k + 2] else Sha.pr k) := Lib.hid rfl
          cases hp : Sha.isP (Sha.pr k) (k + 2) with
          | true =>
            obtain ⟨v', w2, h1, h2, h3, _, _⟩ := appV_one (P := Tryd.prog) 42 42 Tryd.undInts Tryd.infoInt rfl HO.out HB.out.size (.int .i64 ((k : Int) + 2)) rfl (by rw [i64s_len, HL.out]; omega) (by omega)
            have HP : Hid (Sha.pr (k + 1) = Sha.pr k ++ [k + 2]) := Lib.hid (by rw [HN.out, hp]; rfl)
            have H2 := Lib.hid h2
            have H3 := Lib.hid h3
            clear h2 h3 hp HN
            go_wp2_with (at_builtin; refine wpList_append_run rfl (.tmp 31) (.tmp 33) _ rfl rfl rfl h1 ?_)
            refine ⟨⟨k + 1, by omega, by go_num, ?_, HB.out.trans H3.out⟩, by simp [intOf]; omega⟩
            rw [HP.out, i64s_app]
            exact H2.out
          | false =>
            have HP : Hid (Sha.pr (k + 1) = Sha.pr k) := Lib.hid (by rw [HN.out, hp]; rfl)
            clear hp HN
            go_wp2
            refine ⟨⟨k + 1, by omega, by go_num, ?_, HB.out⟩, by simp [intOf]; omega⟩
            rw [HP.out]
            exact HO.out
    · obtain rfl : k = 310 := by omega
      obtain rfl : L = 64 := by rw [← HL.out, Sha.pr_end]; exact Sha.prL_len
      go_wp2
      go_ret
      refine ⟨_, rfl, ?_, HB.out⟩
      rw [← Sha.pr_end]
      exact HO.out
end Go.Proofs.YtpaagjhohfjopaaDoor
