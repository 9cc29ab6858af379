/-
  The landed token: Decode: its contract; the landed token keeps its contract.
-/
import Derived.Test.YtjapohddfelgkaaTokGd
set_option maxRecDepth 100000
namespace Go.Proofs.Ytjapohddfelgkaa
open Go.RowKit Go.Gar

set_option maxHeartbeats 2000000 in
theorem decodeG_any (A : Option Addr) (b : List UInt8) (n c : Nat) (w : World) (hn : n = b.length) (hr : Rd w w.heap.size A b) (hc : n ≤ c) (hl : n ≤ 100000) (E : Nat) (T : List Lz.Tok) (hE : Lz.decode b = (E, T)) :
    Calls Try.prog 29 #[.slice A n c] w fun e w' => ∃ v ts, e = .returned (.tuple #[v, .int .i64 ((E : Nat) : Int)]) ∧ OwnT w' w.heap.size 41 5 v ts ∧ ts.map Tv.tok = T ∧ Below w.heap.size w w' := by
  have HO0 := Lib.hid (ownT_nil w w.heap.size 41 5)
  have Hb0 := Lib.hid (Below.refl w.heap.size w)
  have HN := Lib.hid hn
  have HR := Lib.hid hr
  have HE := Lib.hid hE
  clear hn hr hE
  go_enter Try.func29, Try.ntmps29
  go_wp2
  go_loopw [0, 4] (fun bv v W => ∃ (A : Option Addr) (r : List UInt8) (m c : Nat) (ts : List Tv), bv = .slice A m c ∧ m = r.length ∧ m ≤ c ∧ m ≤ n ∧ Rd w w.heap.size A r ∧ OwnT W w.heap.size 41 5 v ts ∧ Lz.more r (ts.map Tv.tok) = (E, T) ∧ ts.length + m ≤ n ∧ Below w.heap.size w W) (fun bv _ _ => lenV bv)
  case atStart => exact ⟨A, b, n, c, [], rfl, HN.out, hc, Nat.le_refl _, HR.out, HO0.out, HE.out, by simp, Hb0.out⟩
  case round =>
    obtain ⟨A, r, m, c, ts, rfl, hm, hmc, hmn, hr, hO, hx, hlm, hb⟩ := hrel
    clear HO0 Hb0 HE HR HN
    have HM := Lib.hid hm
    have HR := Lib.hid hr
    have Hx := Lib.hid hx
    have HO := Lib.hid hO
    have Hb := Lib.hid hb
    clear hm hr hx hO hb
    by_cases h0 : 0 < m
    · obtain ⟨⟨T1, R1⟩, hf⟩ : ∃ y, Lz.fst1 r = y := ⟨_, rfl⟩
      have hmore := Lz.more_fst1 (b := r) (by rw [← HM.out]; exact h0) (ts.map Tv.tok)
      rw [hf, Hx.out] at hmore
      have hlen := Lz.fst1_len (b := r) (by rw [← HM.out]; exact h0)
      rw [hf, ← HM.out] at hlen
      simp only at hmore hlen
      have HF := Lib.hid hf
      have HMo := Lib.hid hmore
      have HLe := Lib.hid hlen
      clear hf hmore hlen Hx
      go_wp2_with fail
      refine (first_any wr A r m c HM.out h0 hmc (by omega) ((HR.out.below Hb.out).more Hb.out.size) T1 R1 HF.out).mono ?_
      rintro e w1 ⟨t, A', m', c', rfl, ht, hm', hmc', hlb, htc, hr', hb1⟩
      have hEa : (w1.alloc (.cells zT.toArray 41)).setRow w1.heap.size t.cells.toArray = w1.alloc (.cells t.cells.toArray 41) := World.setRow_alloc_new w1 _ _ _
      have hB2 := Blk.new w1 41 t.cells
      have hb2 := below_alloc w1 (.cells t.cells.toArray 41)
      have hlb2 : RdB _ 5 t.A t.l := hlb.below hb2
      obtain ⟨w2, hw2⟩ : ∃ w2, w1.alloc (.cells t.cells.toArray 41) = w2 := ⟨_, rfl⟩
      rw [hw2] at hEa hB2 hb2 hlb2
      have HZ1 := Lib.hid (Blk.new w1 41 zT)
      have HEa := Lib.hid hEa
      have HB2 := Lib.hid hB2
      have Hld2 := Lib.hid (load_T0 hB2)
      have HLb2 := Lib.hid hlb2
      have Hb2 := Lib.hid hb2
      have Hb02 := Lib.hid (hb1.trans (hb2.mono hb1.size))
      have HTc := Lib.hid htc
      have HT := Lib.hid ht
      have HM' := Lib.hid hm'
      have HR' := Lib.hid (hr' _ _ HR.out)
      obtain ⟨z, hz⟩ : ∃ z, z = Lz.good t.tok := ⟨_, rfl⟩
      have HZ := Lib.hid hz
      clear hEa hB2 hb2 hlb2 hw2 hb1 htc ht hm' hr' hlb hz
      go_wp2_with (first | refine wpList_alloc_arr rfl 41 zT.toArray rfl zero_T ?_ | (refine wpList_store_arr rfl 41 (.tmp 5) (.tmp 13) w1.heap.size zT t.cells rfl rfl rfl rfl HZ1.out (size_T t) rfl (fun u hu => cellsT_one [t] u (by simpa [cellsT] using hu)) ?_; rw [HEa.out]) | refine wpList_load_arr_w 41 (.tmp 5) rfl rfl t.cells.toArray Hld2.out (by kernel_rfl) ?_)
      refine (lzGood_any t w2 z HZ.out).mono ?_
      rintro e w3 ⟨rfl, hb3⟩
      have hB3 := HB2.out.below hb3 HB2.out.lt
      have HLb3 := Lib.hid (HLb2.out.below hb3)
      have Hb03 := Lib.hid (Hb02.out.trans (hb3.mono Hb02.out.size))
      have HO3 := Lib.hid (HO.out.below Hb03.out)
      have Hbw3 := Lib.hid (Hb.out.trans (Hb03.out.mono Hb.out.size))
      have Hld3 := Lib.hid (load_T0 hB3)
      clear hB3 hb3 HB2 HLb2 Hb02 HZ1 HEa Hld2 HO Hb
      cases z with
      | false =>
        obtain ⟨rfl, rfl⟩ : 12 = E ∧ [] = T := by
          have := HMo.out
          rw [← HT.out, if_pos HZ.out.symm] at this
          have := Prod.mk.inj this
          exact ⟨this.1.symm, this.2.symm⟩
        go_wp2
        go_ret2
        exact ⟨_, [], rfl, ownT_nil _ _ _ _, rfl, Hbw3.out⟩
      | true =>
        have hmo := HMo.out
        rw [← HT.out, if_neg (by rw [← HZ.out]; simp)] at hmo
        have HMo2 := Lib.hid hmo
        have hal := below_alloc w3 (.cells t.cells.toArray 41)
        have hBn := Blk.new w3 41 t.cells
        obtain ⟨v5, w5, e5, hO5, hb5, _⟩ := appT (P := Try.prog) 33 33 Try.undToks Try.infoTok rfl (by decide) (HO3.out.alloc (.cells t.cells.toArray 41)) (Nat.le_trans Hbw3.out.size hal.size) w3.heap.size t hBn (HLb3.out.below hal) HTc.out (by omega) 1
        have HO5 := Lib.hid hO5
        have Hb5 := Lib.hid (Hbw3.out.trans ((hal.mono Hbw3.out.size).trans hb5))
        have He5 := Lib.hid e5
        have HRest : Hid (Lz.more R1 ((ts ++ [t]).map Tv.tok) = (E, T)) := Lib.hid (by
          rw [HMo2.out, List.map_append]
          rfl)
        have HLa : Hid ((ts ++ [t]).length + m' ≤ n) := Lib.hid (by rw [List.length_append, List.length_singleton, HM'.out]; have := HLe.out; omega)
        have hlt : m' < m := by rw [HM'.out]; exact HLe.out
        have hcl : t.cells.length = 3 := rfl
        clear hmo hal hBn hO5 hb5 e5
        go_wp2_with (first | refine wpList_load_arr_w 41 (.tmp 5) rfl rfl t.cells.toArray Hld3.out (by kernel_rfl) ?_ | (at_builtin; refine wpList_append_run rfl (.tmp 18) (.tmp 20) _ rfl rfl rfl He5.out ?_))
        exact ⟨⟨A', R1, m', c', _, rfl, HM'.out, hmc', by omega, HR'.out, HO5.out, HRest.out, HLa.out, Hb5.out⟩, by simp [lenV]; omega⟩
    · obtain rfl : m = 0 := by omega
      have hr0 : r = [] := List.eq_nil_of_length_eq_zero HM.out.symm
      have hx := Hx.out
      rw [hr0, Lz.more_nil] at hx
      obtain ⟨rfl, hT⟩ := Prod.mk.inj hx
      have HT := Lib.hid hT
      clear hx hT hr0
      go_wp2
      go_ret2
      exact ⟨_, ts, rfl, HO.out, HT.out, Hb.out⟩

/-- The landed token keeps its contract. -/
theorem tokenOK : TokenOK (fun _ => True) := by
  refine ⟨fun _ _ => trivial, fun w A ts c _ hr hc hl hi => ?_, fun w A b c _ hr hc hl => ?_⟩
  · refine (encodeG_any A ts _ c w rfl hr hl _ _ rfl).mono ?_
    rintro e w' ⟨v, rfl, hO, hb⟩
    obtain ⟨A', c', rfl, hrd⟩ := hO.rd
    refine ⟨A', c', rfl, ?_, hrd, hb⟩
    rcases hO.2 with ⟨hv, hn⟩ | ⟨g, cap, cur, hv, _, _, hnc, _⟩
    · exact hn ▸ Nat.zero_le _
    · obtain ⟨-, rfl⟩ : _ ∧ c' = cap := by simpa using hv
      exact hnc
  · refine (decodeG_any A b _ c w rfl hr hc hl _ _ rfl).mono ?_
    rintro e w' ⟨v, ts, rfl, hO, ht, hb⟩
    obtain ⟨A', c', rfl, hc', hrd⟩ := hO.slice
    exact ⟨A', c', ts, rfl, hc', hrd, ht, hb⟩
end Go.Proofs.Ytjapohddfelgkaa
