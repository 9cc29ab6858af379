/-
  The landed lz: slide: its contract.
-/
import Derived.Test.YtjapohddfelgkaaLzGc
import Derived.Test.YtjapohddfelgkaaSliceO
set_option maxRecDepth 100000
namespace Go.Proofs.Ytjapohddfelgkaa
open Go.RowKit Go.Gar

theorem Win.congr {w : World} {base gm n : Nat} {f : List UInt8 → Value} {ps ps' : List UInt8 → List Nat} (h : Win w base gm n f ps) (hp : ∀ s, s.length = 3 → ps s = ps' s) : Win w base gm n f ps' :=
  ⟨h.map, h.gmb, fun s hs => hp s hs ▸ h.rows s hs, h.apart⟩
theorem mid_upd {b : List UInt8} {p0 : Nat} : upd (Lz.win b (p0 + 4096)) (Lz.key b p0) (Lz.mid b (p0 + 4096) (Lz.key b p0)) = Lz.mid b (p0 + 4096) := by
  funext s
  by_cases h : s = Lz.key b p0
  · subst h; rw [upd_same]
  · rw [upd_other _ _ h]
    exact Lz.win_else (by omega) (by rw [show p0 + 4096 - 4096 = p0 by omega]; exact h)
theorem win_upd {b : List UInt8} {at_ : Nat} : upd (Lz.mid b at_) (Lz.key b at_) (Lz.mid b at_ (Lz.key b at_) ++ [at_]) = Lz.win b (at_ + 1) := by
  funext s
  rw [Lz.win_next]
  by_cases h : s = Lz.key b at_
  · subst h; rw [upd_same, if_pos rfl]
  · rw [upd_other _ _ h, if_neg (fun e => h e.symm), List.append_nil]
theorem mid_len (b : List UInt8) (at_ : Nat) (s : List UInt8) : (Lz.mid b at_ s).length ≤ 1000000 := by
  have h1 := Lz.win_len b at_ s
  have h2 := Lz.win_len b (at_ + 1) s
  rw [Lz.win_next, List.length_append] at h2
  omega

set_option maxHeartbeats 1000000 in
theorem slide_any (w : World) (base gm n : Nat) (f : List UInt8 → Value) (g o bl bc : Nat) (b : List UInt8) (at_ : Nat) (hW : Win w base gm n f (Lz.win b at_)) (hn : n + 1 < maxLen) (hbase : base ≤ w.heap.size) (hbl : bl = b.length) (hbc : bl ≤ bc) (hl : bl ≤ 100000) (hat : at_ < bl) (hg : g < base)
    (hc : ∀ j c, b[j]? = some c → w.cell? ⟨g, o + j, none⟩ = some (.int .u8 (c.toNat : Int))) (N : List UInt8 → List Nat) (hN : Lz.win b (at_ + 1) = N) :
    Calls Try.prog 25 #[.map (some gm), .slice (some ⟨g, o, none⟩) bl bc, .int .i64 (at_ : Int)] w fun e w' => (∃ v, e = .returned v) ∧ ∃ f' n', n' ≤ n + 2 ∧ Win w' base gm n' f' N ∧ Only (FI base gm w) w w' := by
  have HBL := Lib.hid hbl
  have HN0 := Lib.hid hN
  clear hN
  by_cases h4 : 4096 ≤ at_
  · obtain ⟨p0, rfl⟩ : ∃ p0, at_ = p0 + 4096 := ⟨at_ - 4096, by omega⟩
    have hk3 : p0 + 3 ≤ b.length := by omega
    have hsl := slice_from g o bl bc p0 (by omega) (by omega)
    have harr := run_arr3 g (o + p0) (bl - p0) (bc - p0) (by omega)
    have HLd := Lib.hid (load_K hc hk3 (o + p0) rfl)
    have HC := Lib.hid hc
    have HK3 := Lib.hid (Lz.key_len hk3)
    have hw1 := Lz.win_first (b := b) (at_ := p0 + 4096) (by omega)
    rw [show p0 + 4096 - 4096 = p0 by omega] at hw1
    have HW := Lib.hid hW
    have HP := Lib.hid hw1
    have d0 : decide ((4096 : Int) ≤ (p0 : Int) + 4096) = true := by simp; omega
    have e0 : (p0 : Int) + 4096 - 4096 = (p0 : Int) := by omega
    have e1 : (((p0 + 4096 : Nat) : Int)) = (p0 : Int) + 4096 := by omega
    rw [e1]
    clear hW hbl hc hw1 hk3 h4 e1
    go_enter Try.func25, Try.ntmps25
    go_wp2_with (first | refine wpList_load_at 58 (.tmp 14) rfl rfl (u8s (Lz.key b p0)).toArray HLd.out (by kernel_rfl) ?_)
    refine (leave_any w base gm n f (Lz.win b (p0 + 4096)) (Lz.key b p0) p0 _ HW.out (by omega) HK3.out HP.out).mono ?_
    rintro e w1 ⟨⟨v1, rfl⟩, f1, n1, hn1, hW1, ho1⟩
    rw [mid_upd] at hW1
    have HL1 := Lib.hid (show ((p0 : Int) + 4096) = ((p0 + 4096 : Nat) : Int) by omega)
    obtain ⟨at_, hate⟩ : ∃ a, p0 + 4096 = a := ⟨_, rfl⟩
    have HAt := Lib.hid hate
    rw [HL1.out, hate]
    rw [hate] at hW1 hat HN0
    clear d0 e0 hate HLd HP HK3 hsl harr HL1
    have hbel : Below base w w1 := ho1.below (fun i hi => hi.1) hbase
    have hc1 : ∀ j c, b[j]? = some c → w1.cell? ⟨g, o + j, none⟩ = some (.int .u8 (c.toNat : Int)) := fun j c hj => (hbel.cell (p := ⟨g, o + j, none⟩) hg).trans (HC.out j c hj)
    have HN1 := Lib.hid hn1
    by_cases h3 : at_ + 3 ≤ bl
    · have d3 : decide ((3 : Int) ≤ (bl : Int) - (at_ : Int)) = true := by simp; omega
      have hk3 : at_ + 3 ≤ b.length := by rw [← HBL.out]; exact h3
      have hsl := slice_from g o bl bc at_ (by omega) (by omega)
      have harr := run_arr3 g (o + at_) (bl - at_) (bc - at_) (by omega)
      have HLd := Lib.hid (load_K hc1 hk3 (o + at_) rfl)
      have hks := Lz.key_len hk3
      have HZ3 := Lib.hid (Blk.new w1 58 (u8s [0, 0, 0]))
      have hEa : (w1.alloc (.cells (u8s [0, 0, 0]).toArray 58)).setRow w1.heap.size (u8s (Lz.key b at_)).toArray = w1.alloc (.cells (u8s (Lz.key b at_)).toArray 58) := World.setRow_alloc_new w1 _ _ _
      have hb2 := below_alloc w1 (.cells (u8s (Lz.key b at_)).toArray 58)
      have hB2 := Blk.new w1 58 (u8s (Lz.key b at_))
      have hW2 := hW1.below hb2
      have ho2 : Only (FI base gm w) w _ := ho1.alloc (.cells (u8s (Lz.key b at_)).toArray 58)
      obtain ⟨w2, hw2⟩ : ∃ w2, w1.alloc (.cells (u8s (Lz.key b at_)).toArray 58) = w2 := ⟨_, rfl⟩
      rw [hw2] at hEa hb2 hB2 hW2 ho2
      have hb3 := below_alloc w2 (.cells #[.int .i64 (at_ : Int)] 3)
      have hB3 : Blk (w2.alloc (.cells #[.int .i64 (at_ : Int)] 3)) w2.heap.size 3 [.int .i64 (at_ : Int)] := Blk.new w2 3 [.int .i64 (at_ : Int)]
      have hW3 := hW2.below hb3
      have ho3 : Only (FI base gm w) w _ := ho2.alloc (.cells #[.int .i64 (at_ : Int)] 3)
      have hbase3 : base ≤ (w2.alloc (.cells #[.int .i64 (at_ : Int)] 3)).heap.size := Nat.le_trans hbase ho3.size
      obtain ⟨st, w4, hr4, v5, w5, hr5, w6, hr6, hW6, ho6⟩ := hW3.push (by omega) hbase3 hks hB3 (mid_len _ _ _) 57 1
      rw [win_upd, HN0.out] at hW6
      have HE := Lib.hid (show Win w6 base gm (n1 + 1) _ N ∧ Only (FI base gm w) w w6 from ⟨hW6, only_FI ho3 ho6⟩)
      have HLd2 := Lib.hid (loadK_arr hks hB2)
      have HSz := Lib.hid (size_K hks)
      have HLn : Hid ((u8s [0, 0, 0] : List Value).length = (u8s (Lz.key b at_)).length) := Lib.hid (by rw [u8s_len, u8s_len, hks]; rfl)
      have HEa := Lib.hid hEa
      have H4 := Lib.hid hr4
      have H5 := Lib.hid hr5
      have H6 := Lib.hid hr6
      clear hW1 ho1 hbel hc1 hk3 hks hEa hb2 hB2 hW2 ho2 hw2 hb3 hB3 hW3 ho3 hbase3 hr4 hr5 hr6 hW6 ho6 hn1
      generalize hfs : f1 (Lz.key b at_) = fs at H4 H5
      clear hfs
      go_wp2_with (first | refine wpList_load_at 58 (.tmp 25) rfl rfl (u8s (Lz.key b at_)).toArray HLd.out (by kernel_rfl) ?_ | refine wpList_alloc_arr rfl 58 (u8s [0, 0, 0]).toArray rfl zero_K ?_ | (refine wpList_store_arr rfl 58 (.tmp 6) (.tmp 26) w1.heap.size (u8s [0, 0, 0]) (u8s (Lz.key b at_)) rfl rfl rfl rfl HZ3.out HSz.out HLn.out (u8s_one _) ?_; rw [HEa.out]) | refine wpList_load_arr_w 58 (.tmp 6) rfl rfl (u8s (Lz.key b at_)).toArray HLd2.out (by kernel_rfl) ?_ | refine wpList_mapEntry_run rfl 45 (.tmp 27) (.tmp 28) rfl rfl rfl H4.out ?_ | (at_builtin; refine wpList_append_run rfl (.tmp 29) (.tmp 31) _ rfl rfl rfl H5.out ?_) | refine wpList_entryStore_run rfl 45 (.tmp 27) (.tmp 34) (.tmp 33) rfl rfl rfl rfl H6.out ?_)
      refine bodyPost_end (results_none rfl _ _ _) rfl ?_
      exact ⟨⟨_, rfl⟩, _, n1 + 1, by have := HN1.out; omega, HE.out.1, HE.out.2⟩
    · have d3 : decide ((3 : Int) ≤ (bl : Int) - (at_ : Int)) = false := by simp; omega
      have hW6 : Win w1 base gm n1 f1 N := hW1.congr fun s hs => by
        rw [← HN0.out, Lz.win_next, if_neg (Lz.key_ne hs (by rw [← HBL.out]; exact h3)), List.append_nil]
      have HE := Lib.hid (show _ ∧ _ from ⟨hW6, ho1⟩)
      clear hW1 ho1 hbel hc1 hW6 hn1
      go_wp2
      refine bodyPost_end (results_none rfl _ _ _) rfl ?_
      exact ⟨⟨_, rfl⟩, _, n1, by have := HN1.out; omega, HE.out.1, HE.out.2⟩
  · have d0 : decide ((4096 : Int) ≤ (at_ : Int)) = false := by simp; omega
    have hW1 := hW
    rw [← Lz.mid_low h4] at hW1
    have HC := Lib.hid hc
    have ho1 := Only.refl (FI base gm w) w
    obtain ⟨n1, hn1, hW1⟩ : ∃ n1, n1 ≤ n + 1 ∧ Win w base gm n1 f (Lz.mid b at_) := ⟨n, by omega, hW1⟩
    clear hW hc hbl
    go_enter Try.func25, Try.ntmps25
    have hbel : Below base w w := ho1.below (fun i hi => hi.1) hbase
    have hc1 : ∀ j c, b[j]? = some c → w.cell? ⟨g, o + j, none⟩ = some (.int .u8 (c.toNat : Int)) := fun j c hj => (hbel.cell (p := ⟨g, o + j, none⟩) hg).trans (HC.out j c hj)
    have HN1 := Lib.hid hn1
    by_cases h3 : at_ + 3 ≤ bl
    · have d3 : decide ((3 : Int) ≤ (bl : Int) - (at_ : Int)) = true := by simp; omega
      have hk3 : at_ + 3 ≤ b.length := by rw [← HBL.out]; exact h3
      have hsl := slice_from g o bl bc at_ (by omega) (by omega)
      have harr := run_arr3 g (o + at_) (bl - at_) (bc - at_) (by omega)
      have HLd := Lib.hid (load_K hc1 hk3 (o + at_) rfl)
      have hks := Lz.key_len hk3
      have HZ3 := Lib.hid (Blk.new w 58 (u8s [0, 0, 0]))
      have hEa : (w.alloc (.cells (u8s [0, 0, 0]).toArray 58)).setRow w.heap.size (u8s (Lz.key b at_)).toArray = w.alloc (.cells (u8s (Lz.key b at_)).toArray 58) := World.setRow_alloc_new w _ _ _
      have hb2 := below_alloc w (.cells (u8s (Lz.key b at_)).toArray 58)
      have hB2 := Blk.new w 58 (u8s (Lz.key b at_))
      have hW2 := hW1.below hb2
      have ho2 : Only (FI base gm w) w _ := ho1.alloc (.cells (u8s (Lz.key b at_)).toArray 58)
      obtain ⟨w2, hw2⟩ : ∃ w2, w.alloc (.cells (u8s (Lz.key b at_)).toArray 58) = w2 := ⟨_, rfl⟩
      rw [hw2] at hEa hb2 hB2 hW2 ho2
      have hb3 := below_alloc w2 (.cells #[.int .i64 (at_ : Int)] 3)
      have hB3 : Blk (w2.alloc (.cells #[.int .i64 (at_ : Int)] 3)) w2.heap.size 3 [.int .i64 (at_ : Int)] := Blk.new w2 3 [.int .i64 (at_ : Int)]
      have hW3 := hW2.below hb3
      have ho3 : Only (FI base gm w) w _ := ho2.alloc (.cells #[.int .i64 (at_ : Int)] 3)
      have hbase3 : base ≤ (w2.alloc (.cells #[.int .i64 (at_ : Int)] 3)).heap.size := Nat.le_trans hbase ho3.size
      obtain ⟨st, w4, hr4, v5, w5, hr5, w6, hr6, hW6, ho6⟩ := hW3.push (by omega) hbase3 hks hB3 (mid_len _ _ _) 57 1
      rw [win_upd, HN0.out] at hW6
      have HE := Lib.hid (show Win w6 base gm (n1 + 1) _ N ∧ Only (FI base gm w) w w6 from ⟨hW6, only_FI ho3 ho6⟩)
      have HLd2 := Lib.hid (loadK_arr hks hB2)
      have HSz := Lib.hid (size_K hks)
      have HLn : Hid ((u8s [0, 0, 0] : List Value).length = (u8s (Lz.key b at_)).length) := Lib.hid (by rw [u8s_len, u8s_len, hks]; rfl)
      have HEa := Lib.hid hEa
      have H4 := Lib.hid hr4
      have H5 := Lib.hid hr5
      have H6 := Lib.hid hr6
      clear hW1 ho1 hbel hc1 hk3 hks hEa hb2 hB2 hW2 ho2 hw2 hb3 hB3 hW3 ho3 hbase3 hr4 hr5 hr6 hW6 ho6 hn1
      generalize hfs : f (Lz.key b at_) = fs at H4 H5
      clear hfs
      go_wp2_with (first | refine wpList_load_at 58 (.tmp 25) rfl rfl (u8s (Lz.key b at_)).toArray HLd.out (by kernel_rfl) ?_ | refine wpList_alloc_arr rfl 58 (u8s [0, 0, 0]).toArray rfl zero_K ?_ | (refine wpList_store_arr rfl 58 (.tmp 6) (.tmp 26) w.heap.size (u8s [0, 0, 0]) (u8s (Lz.key b at_)) rfl rfl rfl rfl HZ3.out HSz.out HLn.out (u8s_one _) ?_; rw [HEa.out]) | refine wpList_load_arr_w 58 (.tmp 6) rfl rfl (u8s (Lz.key b at_)).toArray HLd2.out (by kernel_rfl) ?_ | refine wpList_mapEntry_run rfl 45 (.tmp 27) (.tmp 28) rfl rfl rfl H4.out ?_ | (at_builtin; refine wpList_append_run rfl (.tmp 29) (.tmp 31) _ rfl rfl rfl H5.out ?_) | refine wpList_entryStore_run rfl 45 (.tmp 27) (.tmp 34) (.tmp 33) rfl rfl rfl rfl H6.out ?_)
      refine bodyPost_end (results_none rfl _ _ _) rfl ?_
      exact ⟨⟨_, rfl⟩, _, n1 + 1, by have := HN1.out; omega, HE.out.1, HE.out.2⟩
    · have d3 : decide ((3 : Int) ≤ (bl : Int) - (at_ : Int)) = false := by simp; omega
      have hW6 : Win w base gm n1 f N := hW1.congr fun s hs => by
        rw [← HN0.out, Lz.win_next, if_neg (Lz.key_ne hs (by rw [← HBL.out]; exact h3)), List.append_nil]
      have HE := Lib.hid (show _ ∧ _ from ⟨hW6, ho1⟩)
      clear hW1 ho1 hbel hc1 hW6 hn1
      go_wp2
      refine bodyPost_end (results_none rfl _ _ _) rfl ?_
      exact ⟨⟨_, rfl⟩, _, n1, by have := HN1.out; omega, HE.out.1, HE.out.2⟩
end Go.Proofs.Ytjapohddfelgkaa
