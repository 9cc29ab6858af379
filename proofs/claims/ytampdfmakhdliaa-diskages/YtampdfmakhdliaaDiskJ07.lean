/-
  Layer 14: DiskAges, walked from the contract of disk's functions. Operations on maps whose runs are known, at the list level. Of no program. build of a struct, its cells known; an array and one cell behind it. Of no program. min and max of two ints: their runs. Of no program.
-/
import Derived.Test.YtampdfmakhdliaaDiskJ06
import Derived.Test.YtampdfmakhdliaaDiskJ02
import Derived.Test.YtampdfmakhdliaaDiskJ03
set_option maxRecDepth 100000
namespace Go.Gar.Dsk
/-- The first k sectors are of a later write. -/
def AgedTo (n k : Nat) (d : Dsk) : Prop := n ≤ d.many ∧ ∀ (j : Nat) (s : Sec), j < k → d.secs[j]? = some s → n < s.age
theorem AgedTo.zero {n : Nat} {d : Dsk} (h : n ≤ d.many) : AgedTo n 0 d := ⟨h, fun _ _ hj => absurd hj (Nat.not_lt_zero _)⟩
theorem write_many_ok {d : Dsk} {i : Int} {b : List UInt8} (h : writeE d i b = 0) : (write d i b).many = d.many + 1 := by
  unfold writeE at h
  unfold write
  split at h
  · rename_i hc
    rw [if_pos hc]
    cases hg : goes d.fuse with
    | none => rw [hg] at h; simp at h
    | some f => rfl
  · cases h
theorem AgedTo.write {n k : Nat} {d : Dsk} (h : AgedTo n k d) (b : List UInt8) (he : writeE d (k : Int) b = 0) : AgedTo n (k + 1) (write d (k : Int) b) := by
  refine ⟨by rw [write_many_ok he]; exact Nat.le_succ_of_le h.1, fun j s hj hs => ?_⟩
  rw [write_get] at hs
  split at hs
  · rename_i hc
    cases hq : d.secs[j]? with
    | none => rw [hq] at hs; cases hs
    | some x =>
      rw [hq] at hs
      obtain rfl := Option.some.inj hs
      exact Nat.lt_succ_of_le h.1
  · rename_i hc
    have hne : (k : Int) ≠ (j : Int) := fun e => hc ⟨he, e⟩
    exact h.2 j s (by omega) hs
theorem AgedTo.flush {n : Nat} {d : Dsk} (h : AgedTo n d.secs.length d) (hf : d.fuse = none) : Aged n (flush d) := by
  unfold Dsk.flush
  rw [hf]
  refine ⟨h.1, fun s hs => ?_⟩
  obtain ⟨x, hx, rfl⟩ := List.mem_map.1 hs
  obtain ⟨j, hj⟩ := List.getElem?_of_mem hx
  have := h.2 j x (List.getElem?_eq_some_iff.1 hj).1 hj
  exact ⟨this, this⟩
theorem since_aged {n : Nat} {d : Dsk} (h : Aged n d) (hk : Ok d) {i : Int} (hi : there d i = true) : n < since d i ∧ since d i ≤ d.many := by
  unfold since
  rw [if_pos hi]
  exact ⟨(h.2 _ (at_mem hi)).1, (hk.secs _ (at_mem hi)).age⟩
end Go.Gar.Dsk
namespace Go.Proofs.Ytampdfmakhdliaa
open Go.RowKit Go.Gar
open Go.Gar.Dsk (Dsk)

theorem full_at (w : World) (x : Int) (c : UInt8) (hx : x = (c.toNat : Int)) : Calls Try.prog 30 #[.int .u8 x] w fun e w' =>
    e = .returned (.slice (some ⟨w.heap.size, 0, none⟩) 32 32) ∧ Blk w' w.heap.size 5 (u8s (List.replicate 32 c)) ∧ Below w.heap.size w w' := by
  subst hx
  exact full_any w c
theorem byte_small8 (k : Nat) (h : k < 256) : (k : Int) = ((UInt8.ofNat k).toNat : Int) := by
  simp
  omega
def zDeed : List Value := [.int .u8 0, .int .i64 0, .int .u8 0, .int .i64 0, .int .i64 0]
theorem Try.infoDeed : (Try.prog.info? 34).map (fun i => (i.zero, i.size)) = some (some (.agg #[.int .u8 0, .int .i64 0, .int .u8 0, .int .i64 0, .int .i64 0]), 5) := by kernel_rfl
theorem zero_deed (w : World) : (zeroValue 34).run Try.prog w = .ok (.agg zDeed.toArray) w := (zero_of_info Try.infoDeed).1 w
theorem deed_one (t : Deed) : ∀ u ∈ t.cells, u.oneCell' = true := by
  intro u hu
  simp only [Deed.cells, List.mem_cons, List.not_mem_nil, or_false] at hu
  rcases hu with rfl | rfl | rfl | rfl | rfl <;> rfl
/-- A deed laid in a variable of its own. -/
theorem deed_laid (w : World) (t : Deed) : ∃ w', (w.alloc (.cells zDeed.toArray 34)).setRow w.heap.size t.cells.toArray = w' ∧ Blk w' w.heap.size 34 t.cells ∧ Below w.heap.size w w' ∧ Blk (w.alloc (.cells zDeed.toArray 34)) w.heap.size 34 zDeed :=
  ⟨_, World.setRow_alloc_new w _ _ _, Blk.new w _ _, below_alloc w _, Blk.new w _ _⟩
set_option maxHeartbeats 8000000 in
set_option maxRecDepth 100000 in
theorem diskages_walk {Rep : World → (Nat → Prop) → Nat → Dsk → Prop} (hOK : DiskOK Rep) (A B : Option Addr) (ds es : List Deed) (n cap m mcap : Nat) (hn : n = ds.length) (hm : m = es.length) (w : World) (hr : RdD w w.heap.size A ds) (hr2 : RdD w w.heap.size B es) (hI : ∀ t ∈ ds, t.Is) (hI2 : ∀ t ∈ es, t.Is) :
    Calls Try.prog 7 #[.slice A n cap, .slice B m mcap] w fun e w' => e = .returned (.bool true) ∧ Below w.heap.size w w' := by
  have HOK := Lib.hid hOK
  have HN := Lib.hid hn
  have HM := Lib.hid hm
  have HR := Lib.hid hr
  have HRm := Lib.hid hr2
  have HI := Lib.hid hI
  have HI2 := Lib.hid hI2
  clear hOK hn hm hr hr2 hI hI2
  go_enter Try.func7, Try.ntmps7
  go_wp2_with fail
  refine (some_any HOK.out w A ds n cap HN.out HR.out HI.out).mono ?_
  rintro e w1 ⟨F, g, d, rfl, hR1, hF1, hb1, h91, hfu1, hm1⟩
  have HR1 := Lib.hid hR1
  have HF1 := Lib.hid hF1
  have Hb1 := Lib.hid hb1
  have H91 := Lib.hid h91
  have Hfu1 := Lib.hid hfu1
  have Hm1 := Lib.hid hm1
  clear hR1 hF1 hb1 h91 hfu1 hm1
  unfold ptr
  go_wp2_with fail
  refine (HOK.out.writes HR1.out).mono ?_
  rintro e w2 ⟨rfl, hb2⟩
  obtain ⟨N, hN⟩ : ∃ N, N = d.many := ⟨_, rfl⟩
  rw [← hN]
  have HNm := Lib.hid hN
  have HR2 := Lib.hid (HOK.out.keep HR1.out (fun j hj => hb2.block j (HOK.out.lt HR1.out j hj)))
  have Hb2 := bb Hb1 hb2
  have HN30 := Lib.hid (show N ≤ 30 by rw [hN]; exact Hm1.out)
  clear hb2 HR1 Hb1 hN Hm1
  go_wp2
  go_loopw [7] (fun i w' => ∃ k : Nat, k ≤ 9 ∧ i = .int .i64 k ∧ ∃ F d, Rep w' F g d ∧ (∀ j, F j → w.heap.size ≤ j) ∧ Below w.heap.size w w' ∧ d.secs.length = 9 ∧ d.fuse = none ∧ d.many ≤ N + k ∧ Dsk.AgedTo N k d) (fun i _ => 9 - (intOf i).toNat)
  case atStart => exact ⟨0, by omega, rfl, F, d, HR2.out, HF1.out, Hb2.out, H91.out, Hfu1.out, by rw [HNm.out]; exact Nat.le_refl _, Dsk.AgedTo.zero (by rw [HNm.out]; exact Nat.le_refl _)⟩
  case round =>
    obtain ⟨k, hk9, rfl, F3, d3, hR3, hF3, hb3, h9, hfu, hm3, hag⟩ := hrel
    clear HR2 HF1 Hb2 H91 Hfu1 HNm
    have HR3 := Lib.hid hR3
    have HF3 := Lib.hid hF3
    have Hb3 := Lib.hid hb3
    have H9 := Lib.hid h9
    have Hfu := Lib.hid hfu
    have Hm3 := Lib.hid hm3
    have Hag := Lib.hid hag
    clear hR3 hF3 hb3 h9 hfu hm3 hag
    by_cases h1 : k < 9
    · have hd1 : decide ((k : Int) < 9) = true := by simp; omega
      go_wp2_with fail
      refine (full_at wr _ (UInt8.ofNat k) (by first | exact byte_small8 k (by omega) | (rw [← byte_small8 k (by omega)]; omega))).mono ?_
      rintro e w4 ⟨rfl, hB4, hb4⟩
      have HR4 := Lib.hid (HOK.out.keep HR3.out (fun j hj => hb4.block j (HOK.out.lt HR3.out j hj)))
      have Hb4 := bb Hb3 hb4
      have HB4 := Lib.hid hB4
      have Hnf := Lib.hid (show ∀ p, some (⟨wr.heap.size, 0, none⟩ : Addr) = some p → ¬ F3 p.block from fun p hp hf => by
        obtain rfl := Option.some.inj hp
        exact absurd (HOK.out.lt HR3.out _ hf) (Nat.lt_irrefl _))
      clear hb4 hB4 HR3 Hb3
      go_wp2_with fail
      have hwe := Dsk.writeE_none Hfu.out (k : Int) (r8 (UInt8.ofNat k)) (there9 H9.out k h1) rfl
      refine (write_at HOK.out (k : Int) (some ⟨wr.heap.size, 0, none⟩) (r8 (UInt8.ofNat k)) 32 32 HR4.out (by unfold isI64; omega) rfl (Rd.of_all HB4.out) Hnf.out (Nat.le_refl _) (by omega) (by have := Hm3.out; have := HN30.out; omega)).mono ?_
      rintro e w5 ⟨E, rfl, hE, F5, hR5, hF5, ho⟩
      rw [hwe] at hE
      obtain rfl : E = 0 := hE
      have HR5 := Lib.hid hR5
      have HF5 := Lib.hid (show ∀ j, F5 j → w.heap.size ≤ j from fun j hj => by rcases hF5 j hj with h | h; exact HF3.out j h; exact Nat.le_trans Hb4.out.size h)
      have Hb5 := Lib.hid (Hb4.out.trans (ho.below HF3.out Hb4.out.size))
      have Hag5 := Lib.hid (Hag.out.write (r8 (UInt8.ofNat k)) hwe)
      have Hm5 := Lib.hid (show (Dsk.write d3 (k : Int) (r8 (UInt8.ofNat k))).many ≤ N + (k + 1) by rw [Dsk.write_many_ok hwe]; have := Hm3.out; omega)
      clear hR5 hF5 ho HR4 HB4 Hnf HF3 Hb4 hwe Hag Hm3
      go_wp2
      exact ⟨⟨k + 1, by omega, by go_num, F5, _, HR5.out, HF5.out, Hb5.out, by rw [Dsk.write_len]; exact H9.out, Dsk.write_fuse Hfu.out _ _, Hm5.out, Hag5.out⟩, by simp [intOf]; omega⟩
    · obtain h9k : k = 9 := by omega
      have hd1 : decide ((k : Int) < 9) = false := by simp; omega
      have Hk9 := Lib.hid h9k
      clear h9k
      go_wp2_with fail
      refine (HOK.out.flush HR3.out).mono ?_
      rintro e w4 ⟨rfl, F4, hR4, hF4, ho⟩
      rw [Dsk.flushE_none Hfu.out]
      obtain ⟨d4, hd4⟩ : ∃ d4, d4 = Dsk.flush d3 := ⟨_, rfl⟩
      have Hag4 := Lib.hid (show Dsk.Aged N d4 by rw [hd4]; exact Dsk.AgedTo.flush (by rw [H9.out, ← Hk9.out]; exact Hag.out) Hfu.out)
      have H94 := Lib.hid (show d4.secs.length = 9 by rw [hd4, Dsk.flush_len]; exact H9.out)
      have Hm4 := Lib.hid (show d4.many ≤ N + 9 by rw [hd4, Dsk.flush_many]; have := Hm3.out; have := Hk9.out; omega)
      rw [← hd4] at hR4
      have HR4 := Lib.hid hR4
      have HF4 := Lib.hid (show ∀ j, F4 j → w.heap.size ≤ j from fun j hj => by rcases hF4 j hj with h | h; exact HF3.out j h; exact Nat.le_trans Hb3.out.size h)
      have Hb4 := Lib.hid (Hb3.out.trans (ho.below HF3.out Hb3.out.size))
      clear hR4 hF4 ho hd4 HR3 HF3 Hb3 H9 Hfu Hm3 Hag Hk9
      go_wp2
      go_loopw [8] (fun i w' => ∃ k : Nat, k ≤ m ∧ k ≤ 40 ∧ i = .int .i64 k ∧ ∃ F d, Rep w' F g d ∧ (∀ j, F j → w.heap.size ≤ j) ∧ Below w.heap.size w w' ∧ d.secs.length = 9 ∧ d.many ≤ N + 9 + k ∧ Dsk.Aged N d) (fun i _ => 40 - (intOf i).toNat)
      case atStart => exact ⟨0, by omega, by omega, rfl, F4, d4, HR4.out, HF4.out, Hb4.out, H94.out, Hm4.out, Hag4.out⟩
      case round =>
        obtain ⟨k2, hkm, hk40, rfl, F5, d5, hR5, hF5, hb5, h95, hm5, hag5⟩ := hrel
        clear HR4 HF4 Hb4 H94 Hm4 Hag4
        have HR5 := Lib.hid hR5
        have HF5 := Lib.hid hF5
        have Hb5 := Lib.hid hb5
        have H95 := Lib.hid h95
        have Hm5 := Lib.hid hm5
        have Hag5 := Lib.hid hag5
        clear hR5 hF5 hb5 h95 hm5 hag5
        by_cases h2 : k2 < m
        · have hd2 : decide ((k2 : Int) < (m : Int)) = true := by simp; omega
          by_cases h3 : k2 < 40
          · have hd3 : decide ((k2 : Int) < 40) = true := by simp; omega
            obtain ⟨t, b, q, ht, hbB, hix, hcl⟩ := deed_at (cap := mcap) (HRm.out.below Hb5.out) HM.out k2 h2
            have hti : t.Is := HI2.out t (List.mem_of_getElem? ht)
            have hld := deed_load (G := grows) (w := wr) (b := b) (q := q) (d := t) (fun x j u hj => ((show Below wr.heap.size wr x.to from x.grown).cell (p := ⟨b, q + j, none⟩) (Nat.lt_of_lt_of_le hbB Hb5.out.size)).trans (hcl j u hj)) ⟨wr, grows.refl _⟩
            obtain ⟨w6, hw6, hB6, hb6, hZ6⟩ := deed_laid wr t
            obtain ⟨gx, hgx⟩ : ∃ gx, gx = wr.heap.size := ⟨_, rfl⟩
            rw [← hgx] at hw6 hB6 hZ6
            have Hgx := Lib.hid hgx
            have Hgw := Lib.hid (show w.heap.size ≤ gx by rw [hgx]; exact Hb5.out.size)
            have Hgf := Lib.hid (show ∀ j, F5 j → j < gx from fun j hj => by rw [hgx]; exact HOK.out.lt HR5.out j hj)
            have HR6 := Lib.hid (HOK.out.keep HR5.out (fun j hj => hb6.block j (HOK.out.lt HR5.out j hj)))
            have Hb6 := bb Hb5 hb6
            have HB6 := Lib.hid hB6
            have HZ6 := Lib.hid hZ6
            have HW6 := Lib.hid hw6
            have Hld := Lib.hid hld
            have Hti := Lib.hid hti
            obtain ⟨K, hK⟩ : ∃ K : Nat, K = t.kind.toNat := ⟨_, rfl⟩
            have hK8 : K < 256 := by rw [hK]; exact t.kind.toNat_lt
            have HK := Lib.hid hK
            clear ht hbB hcl hti hld hw6 hB6 hb6 hZ6 hgx hK HR5 Hb5
            have hkr : Int.tmod (K : Int) 6 = ((K % 6 : Nat) : Int) := by rw [Int.tmod_eq_emod_of_nonneg (by omega)]; omega
            have q0 := HB6.out.cell 0
            rw [show t.cells[0]? = some (.int .u8 (K : Int)) by rw [HK.out]; rfl] at q0
            have hsz : (Try.prog.info? 34).map (·.size) = some t.cells.length := Try.sizeDeed
            have HSz := Lib.hid hsz
            have H1 := Lib.hid (deed_one t)
            clear hsz
            by_cases hk0 : K % 6 = 0
            · go_wp2_with (first | refine wpList_load_at 34 (.tmp 41) rfl rfl t.cells.toArray Hld.out (by kernel_rfl) ?_ | (refine wpList_alloc_arr rfl 34 zDeed.toArray rfl zero_deed ?_; rw [← Hgx.out]) | (refine wpList_store_arr rfl 34 (.tmp 9) (.tmp 42) gx zDeed t.cells rfl rfl rfl rfl HZ6.out HSz.out rfl H1.out ?_; rw [HW6.out]))
              clear hix q0 hkr

              refine (HOK.out.flush HR6.out).mono ?_
              rintro e w7 ⟨rfl, F7, hR7, hF7, ho⟩
              obtain ⟨d7, hd7⟩ : ∃ d7, d7 = Dsk.flush d5 := ⟨_, rfl⟩
              have Hag7 := Lib.hid (show Dsk.Aged N d7 by rw [hd7]; exact Hag5.out.flush)
              have H97 := Lib.hid (show d7.secs.length = 9 by rw [hd7, Dsk.flush_len]; exact H95.out)
              have Hm7 := Lib.hid (show d7.many ≤ N + 9 + (k2 + 1) by rw [hd7, Dsk.flush_many]; have := Hm5.out; omega)
              rw [← hd7] at hR7

              have HR7 := Lib.hid hR7
              have HF7 := Lib.hid (show ∀ j, F7 j → w.heap.size ≤ j from fun j hj => by rcases hF7 j hj with h | h; exact HF5.out j h; exact Nat.le_trans Hb6.out.size h)
              have Hb7 := Lib.hid (Hb6.out.trans (ho.below HF5.out Hb6.out.size))
              clear hR7 hF7 ho hd7 HR6 HF5 Hb6 H95 Hm5 Hag5 HB6 HZ6 HW6 Hld HSz H1 Hgx Hgw Hgf Hti HK

              go_wp2
              go_loopw [10] (fun i w' => ∃ k3 : Nat, k3 ≤ 9 ∧ i = .int .i64 k3 ∧ Below w7.heap.size w7 w') (fun i _ => 9 - (intOf i).toNat)
              case atStart => exact ⟨0, by omega, rfl, Below.refl _ _⟩
              case round =>
                obtain ⟨k3, hk3, rfl, hbx⟩ := hrel
                have HR8 := Lib.hid (HOK.out.keep HR7.out (fun j hj => hbx.block j (HOK.out.lt HR7.out j hj)))
                have Hbx := Lib.hid hbx
                clear hbx
                by_cases h9 : k3 < 9
                · have hd9 : decide ((k3 : Int) < 9) = true := by simp; omega
                  have hag := Dsk.since_aged Hag7.out (HOK.out.ok HR7.out) (there9 H97.out k3 h9)
                  obtain ⟨a, ha⟩ : ∃ a, a = Dsk.since d7 (k3 : Int) := ⟨_, rfl⟩
                  obtain ⟨mm, hmm⟩ : ∃ mm, mm = d7.many := ⟨_, rfl⟩
                  rw [← ha, ← hmm] at hag
                  obtain ⟨hg1, hg2⟩ := hag
                  have hn1 : ¬ a ≤ N := by omega
                  have hn2 : ¬ mm < a := by omega
                  have Ha := Lib.hid ha
                  have Hmm := Lib.hid hmm
                  clear ha hmm hg1 hg2
                  go_wp2_with fail
                  refine (HOK.out.since (k3 : Int) HR8.out (by unfold isI64; omega)).mono ?_
                  rintro e w9 ⟨rfl, hb9⟩
                  rw [← Ha.out]
                  have HR9 := Lib.hid (HOK.out.keep HR8.out (fun j hj => hb9.block j (HOK.out.lt HR8.out j hj)))
                  have Hb9 := bb Hbx hb9
                  clear hb9 HR8 Hbx
                  go_wp2_with fail
                  refine (HOK.out.since (k3 : Int) HR9.out (by unfold isI64; omega)).mono ?_
                  rintro e w10 ⟨rfl, hb10⟩
                  rw [← Ha.out]
                  have HR10 := Lib.hid (HOK.out.keep HR9.out (fun j hj => hb10.block j (HOK.out.lt HR9.out j hj)))
                  have Hb10 := bb Hb9 hb10
                  clear hb10 HR9 Hb9
                  go_wp2_with fail
                  refine (HOK.out.writes HR10.out).mono ?_
                  rintro e w11 ⟨rfl, hb11⟩
                  rw [← Hmm.out]
                  have Hb11 := bb Hb10 hb11
                  clear hb11 HR10 Hb10
                  go_wp2
                  exact ⟨⟨k3 + 1, by omega, by go_num, Hb11.out⟩, by simp [intOf]; omega⟩
                · have hd9 : decide ((k3 : Int) < 9) = false := by simp; omega
                  have Hb9 := Lib.hid (Hb7.out.trans (Hbx.out.mono Hb7.out.size))
                  clear Hbx
                  go_wp2
                  exact ⟨⟨k2 + 1, by omega, by omega, by go_num, F7, d7, HR8.out, HF7.out, Hb9.out, H97.out, Hm7.out, Hag7.out⟩, by simp [intOf]; omega⟩
            · by_cases hk1 : K % 6 = 1
              · have q1 := HB6.out.cell 1
                have q3 := HB6.out.cell 3
                have q4 := HB6.out.cell 4
                rw [show t.cells[1]? = some (.int .i64 t.at_) from rfl] at q1
                rw [show t.cells[3]? = some (.int .i64 t.n) from rfl] at q3
                rw [show t.cells[4]? = some (.int .i64 t.keep) from rfl] at q4

                go_wp2_with (first | refine wpList_load_at 34 (.tmp 41) rfl rfl t.cells.toArray Hld.out (by kernel_rfl) ?_ | (refine wpList_alloc_arr rfl 34 zDeed.toArray rfl zero_deed ?_; rw [← Hgx.out]) | (refine wpList_store_arr rfl 34 (.tmp 9) (.tmp 42) gx zDeed t.cells rfl rfl rfl rfl HZ6.out HSz.out rfl H1.out ?_; rw [HW6.out]))
                clear hix q0 hkr q1 q3 q4

                refine (HOK.out.crash t.keep t.at_ t.n HR6.out Hti.out.keep Hti.out.at_ Hti.out.n).mono ?_
                rintro e w7 ⟨rfl, F7, hR7, hF7, ho⟩
                obtain ⟨d7, hd7⟩ : ∃ d7, d7 = Dsk.crash d5 t.keep t.at_ t.n := ⟨_, rfl⟩
                have Hag7 := Lib.hid (show Dsk.Aged N d7 by rw [hd7]; exact Hag5.out.crash _ _ _)
                have H97 := Lib.hid (show d7.secs.length = 9 by rw [hd7, Dsk.crash_len]; exact H95.out)
                have Hm7 := Lib.hid (show d7.many ≤ N + 9 + (k2 + 1) by rw [hd7]; show d5.many ≤ _; have := Hm5.out; omega)
                rw [← hd7] at hR7

                have HR7 := Lib.hid hR7
                have HF7 := Lib.hid (show ∀ j, F7 j → w.heap.size ≤ j from fun j hj => by rcases hF7 j hj with h | h; exact HF5.out j h; exact Nat.le_trans Hb6.out.size h)
                have Hb7 := Lib.hid (Hb6.out.trans (ho.below HF5.out Hb6.out.size))
                clear hR7 hF7 ho hd7 HR6 HF5 Hb6 H95 Hm5 Hag5 HB6 HZ6 HW6 Hld HSz H1 Hgx Hgw Hgf Hti HK

                go_wp2
                go_loopw [10] (fun i w' => ∃ k3 : Nat, k3 ≤ 9 ∧ i = .int .i64 k3 ∧ Below w7.heap.size w7 w') (fun i _ => 9 - (intOf i).toNat)
                case atStart => exact ⟨0, by omega, rfl, Below.refl _ _⟩
                case round =>
                  obtain ⟨k3, hk3, rfl, hbx⟩ := hrel
                  have HR8 := Lib.hid (HOK.out.keep HR7.out (fun j hj => hbx.block j (HOK.out.lt HR7.out j hj)))
                  have Hbx := Lib.hid hbx
                  clear hbx
                  by_cases h9 : k3 < 9
                  · have hd9 : decide ((k3 : Int) < 9) = true := by simp; omega
                    have hag := Dsk.since_aged Hag7.out (HOK.out.ok HR7.out) (there9 H97.out k3 h9)
                    obtain ⟨a, ha⟩ : ∃ a, a = Dsk.since d7 (k3 : Int) := ⟨_, rfl⟩
                    obtain ⟨mm, hmm⟩ : ∃ mm, mm = d7.many := ⟨_, rfl⟩
                    rw [← ha, ← hmm] at hag
                    obtain ⟨hg1, hg2⟩ := hag
                    have hn1 : ¬ a ≤ N := by omega
                    have hn2 : ¬ mm < a := by omega
                    have Ha := Lib.hid ha
                    have Hmm := Lib.hid hmm
                    clear ha hmm hg1 hg2
                    go_wp2_with fail
                    refine (HOK.out.since (k3 : Int) HR8.out (by unfold isI64; omega)).mono ?_
                    rintro e w9 ⟨rfl, hb9⟩
                    rw [← Ha.out]
                    have HR9 := Lib.hid (HOK.out.keep HR8.out (fun j hj => hb9.block j (HOK.out.lt HR8.out j hj)))
                    have Hb9 := bb Hbx hb9
                    clear hb9 HR8 Hbx
                    go_wp2_with fail
                    refine (HOK.out.since (k3 : Int) HR9.out (by unfold isI64; omega)).mono ?_
                    rintro e w10 ⟨rfl, hb10⟩
                    rw [← Ha.out]
                    have HR10 := Lib.hid (HOK.out.keep HR9.out (fun j hj => hb10.block j (HOK.out.lt HR9.out j hj)))
                    have Hb10 := bb Hb9 hb10
                    clear hb10 HR9 Hb9
                    go_wp2_with fail
                    refine (HOK.out.writes HR10.out).mono ?_
                    rintro e w11 ⟨rfl, hb11⟩
                    rw [← Hmm.out]
                    have Hb11 := bb Hb10 hb11
                    clear hb11 HR10 Hb10
                    go_wp2
                    exact ⟨⟨k3 + 1, by omega, by go_num, Hb11.out⟩, by simp [intOf]; omega⟩
                  · have hd9 : decide ((k3 : Int) < 9) = false := by simp; omega
                    have Hb9 := Lib.hid (Hb7.out.trans (Hbx.out.mono Hb7.out.size))
                    clear Hbx
                    go_wp2
                    exact ⟨⟨k2 + 1, by omega, by omega, by go_num, F7, d7, HR8.out, HF7.out, Hb9.out, H97.out, Hm7.out, Hag7.out⟩, by simp [intOf]; omega⟩
              · go_wp2_with (first | refine wpList_load_at 34 (.tmp 41) rfl rfl t.cells.toArray Hld.out (by kernel_rfl) ?_ | (refine wpList_alloc_arr rfl 34 zDeed.toArray rfl zero_deed ?_; rw [← Hgx.out]) | (refine wpList_store_arr rfl 34 (.tmp 9) (.tmp 42) gx zDeed t.cells rfl rfl rfl rfl HZ6.out HSz.out rfl H1.out ?_; rw [HW6.out]))
                clear hix q0 hkr

                refine wp_region_G (onlyG F5) (by kernel_rfl) ?_
                have HRd := Lib.hid (HOK.out.keep (w' := w6.drew) HR6.out (fun _ _ => rfl))
                have Hltd := Lib.hid (show ∀ j, F5 j → j < w6.drew.heap.size from HOK.out.lt HRd.out)
                have Hbd := Lib.hid Hb6.out.drew
                have HBd := Lib.hid HB6.out.drew
                clear HR6 Hb6 HB6
                generalize w6.drew = W at *
                have hll : ∀ x : Later (onlyG F5) W, ∀ j u, t.cells[j]? = some u → x.to.cell? ⟨gx, 0 + j, none⟩ = some u := fun x j u hj => by
                  rw [Nat.zero_add, ((show Only F5 W x.to from x.grown).blk HBd.out (fun hf => Nat.lt_irrefl _ (Hgf.out gx hf))).cell]
                  exact hj
                have hq1 : ∀ x : Later (onlyG F5) W, x.to.cell? ⟨gx, 1, none⟩ = some (.int .i64 t.at_) := fun x => hll x 1 _ rfl
                have Hldx := Lib.hid (deed_load hll)
                clear hll
                refine segG (by kernel_rfl) (fun _ _ _ _ _ h => h) [0, 1, 2, 3] [_, _, _, _] 2 rfl rfl (by kernel_rfl) ?_
                repeat (first | (refine wpQuiet_load_at 34 (.tmp 9) rfl rfl t.cells.toArray Hldx.out (by kernel_rfl) ?_; simp only [Act.put, List.setIfInBounds_toArray, List.set]) | go_big_quiet_step (fail))
                refine wpQuiet_nil ?_
                clear hq1 Hldx
                refine oneG 4 1 rfl (by kernel_rfl) rfl ?_
                go_wp2_with fail
                refine (wrote_any W t Hti.out).mono ?_
                rintro e w8 ⟨g2, n2, rfl, hn2, hg2, hB2, hb2⟩
                have hbr := Only.of_below F5 hb2
                have HR8 := Lib.hid (HOK.out.keep HRd.out (fun j hj => hb2.block j (Hltd.out j hj)))
                have Hn2 := Lib.hid hn2
                have HB2 := Lib.hid hB2
                have Hb8 := bb Hbd hb2
                have Hnf := Lib.hid (show ∀ p, some (⟨g2, 0, none⟩ : Addr) = some p → ¬ F5 p.block from fun p hp hf => by
                  obtain rfl := Option.some.inj hp
                  have h9 : g2 < W.heap.size := Hltd.out g2 hf
                  omega)
                clear hn2 hB2 hb2 hg2 HRd Hbd
                go_wp2
                refine ⟨hbr, ?_⟩
                clear hbr
                refine oneG 5 0 rfl (by kernel_rfl) rfl ?_
                go_wp2_with fail
                have hwl := wroteL_len t
                refine (write_at HOK.out t.at_ (some ⟨g2, 0, none⟩) (wroteL t) n2 n2 HR8.out Hti.out.at_ Hn2.out (Rd.of_all HB2.out) Hnf.out (Nat.le_refl _) (by have := Hn2.out; omega) (by have := Hm5.out; have := HN30.out; omega)).mono ?_
                rintro e w7 ⟨E, rfl, _, F7, hR7, hF7, ho⟩
                obtain ⟨d7, hd7⟩ : ∃ d7, d7 = Dsk.write d5 t.at_ (wroteL t) := ⟨_, rfl⟩
                have Hag7 := Lib.hid (show Dsk.Aged N d7 by rw [hd7]; exact Hag5.out.write _ _)
                have H97 := Lib.hid (show d7.secs.length = 9 by rw [hd7, Dsk.write_len]; exact H95.out)
                have Hm7 := Lib.hid (show d7.many ≤ N + 9 + (k2 + 1) by rw [hd7]; have := Hm5.out; have := Dsk.write_many d5 t.at_ (wroteL t); omega)
                rw [← hd7] at hR7
                have HR7 := Lib.hid hR7
                have HF7 := Lib.hid (show ∀ j, F7 j → w.heap.size ≤ j from fun j hj => by rcases hF7 j hj with h | h; exact HF5.out j h; exact Nat.le_trans Hb8.out.size h)
                have Hb7 := Lib.hid (Hb8.out.trans (ho.below HF5.out Hb8.out.size))
                have Ho := Lib.hid ho
                clear hR7 hF7 hd7 ho hwl HR8 HF5 Hb8 H95 Hm5 Hag5 HB2 HBd HZ6 HW6 Hld HSz H1 Hgx Hgw Hgf Hti HK Hltd Hnf Hn2
                go_wp2
                refine ⟨Ho.out, ?_⟩
                clear Ho
                refine wpAnyG_done (by kernel_rfl) ?_

                go_wp2
                go_loopw [10] (fun i w' => ∃ k3 : Nat, k3 ≤ 9 ∧ i = .int .i64 k3 ∧ Below w7.heap.size w7 w') (fun i _ => 9 - (intOf i).toNat)
                case atStart => exact ⟨0, by omega, rfl, Below.refl _ _⟩
                case round =>
                  obtain ⟨k3, hk3, rfl, hbx⟩ := hrel
                  have HR8 := Lib.hid (HOK.out.keep HR7.out (fun j hj => hbx.block j (HOK.out.lt HR7.out j hj)))
                  have Hbx := Lib.hid hbx
                  clear hbx
                  by_cases h9 : k3 < 9
                  · have hd9 : decide ((k3 : Int) < 9) = true := by simp; omega
                    have hag := Dsk.since_aged Hag7.out (HOK.out.ok HR7.out) (there9 H97.out k3 h9)
                    obtain ⟨a, ha⟩ : ∃ a, a = Dsk.since d7 (k3 : Int) := ⟨_, rfl⟩
                    obtain ⟨mm, hmm⟩ : ∃ mm, mm = d7.many := ⟨_, rfl⟩
                    rw [← ha, ← hmm] at hag
                    obtain ⟨hg1, hg2⟩ := hag
                    have hn1 : ¬ a ≤ N := by omega
                    have hn2 : ¬ mm < a := by omega
                    have Ha := Lib.hid ha
                    have Hmm := Lib.hid hmm
                    clear ha hmm hg1 hg2
                    go_wp2_with fail
                    refine (HOK.out.since (k3 : Int) HR8.out (by unfold isI64; omega)).mono ?_
                    rintro e w9 ⟨rfl, hb9⟩
                    rw [← Ha.out]
                    have HR9 := Lib.hid (HOK.out.keep HR8.out (fun j hj => hb9.block j (HOK.out.lt HR8.out j hj)))
                    have Hb9 := bb Hbx hb9
                    clear hb9 HR8 Hbx
                    go_wp2_with fail
                    refine (HOK.out.since (k3 : Int) HR9.out (by unfold isI64; omega)).mono ?_
                    rintro e w10 ⟨rfl, hb10⟩
                    rw [← Ha.out]
                    have HR10 := Lib.hid (HOK.out.keep HR9.out (fun j hj => hb10.block j (HOK.out.lt HR9.out j hj)))
                    have Hb10 := bb Hb9 hb10
                    clear hb10 HR9 Hb9
                    go_wp2_with fail
                    refine (HOK.out.writes HR10.out).mono ?_
                    rintro e w11 ⟨rfl, hb11⟩
                    rw [← Hmm.out]
                    have Hb11 := bb Hb10 hb11
                    clear hb11 HR10 Hb10
                    go_wp2
                    exact ⟨⟨k3 + 1, by omega, by go_num, Hb11.out⟩, by simp [intOf]; omega⟩
                  · have hd9 : decide ((k3 : Int) < 9) = false := by simp; omega
                    have Hb9 := Lib.hid (Hb7.out.trans (Hbx.out.mono Hb7.out.size))
                    clear Hbx
                    go_wp2
                    exact ⟨⟨k2 + 1, by omega, by omega, by go_num, F7, d7, HR8.out, HF7.out, Hb9.out, H97.out, Hm7.out, Hag7.out⟩, by simp [intOf]; omega⟩
          · have hd3 : decide ((k2 : Int) < 40) = false := by simp; omega
            go_wp2_with fail
            refine (awake14_any HOK.out wr).mono ?_
            rintro e w6 ⟨rfl, hb6⟩
            have Hb6 := bb Hb5 hb6
            clear hb6
            go_wp2
            go_ret
            exact ⟨rfl, Hb6.out⟩
        · have hd2 : decide ((k2 : Int) < (m : Int)) = false := by simp; omega
          go_wp2_with fail
          refine (awake14_any HOK.out wr).mono ?_
          rintro e w6 ⟨rfl, hb6⟩
          have Hb6 := bb Hb5 hb6
          clear hb6
          go_wp2
          go_ret
          exact ⟨rfl, Hb6.out⟩
end Go.Proofs.Ytampdfmakhdliaa
namespace Go.Gar
open Go.RowKit
variable {P : Program} {w : World}

theorem wpList_delete_run {ops : Array Oper} {rest : List Oper} {o : Oper} {a : Act} {Q : Exit → Act → World → Prop} (hgd : o.guard = none) (s x : Operand) (ts : Array TypeId)
    (ho : o.op = .call { callee := .builtin .delete, args := #[s, x], argTypes := ts }) {vs vx v : Value} {w' : World} (hs : a.eval s = vs) (hx : a.eval x = vx)
    (hrun : (Builtin.delete_ ts o.type #[vs, vx]).run P w = .ok v w') (h : wpList P ops Q rest (a.put o.dst v) w') : wpList P ops Q (o :: rest) a w := by
  refine wpList_run hgd (v := v) (w' := w') ?_ h
  unfold execOp
  simp only [ho, resolve, invoke, builtin, Sem.run_bind, Sem.run_pure, Result.andThen_ok, List.map_toArray, List.map_cons, List.map_nil, hs, hx, hrun]
theorem wpList_mapUpdate_run {ops : Array Oper} {rest : List Oper} {o : Oper} {a : Act} {Q : Exit → Act → World → Prop} (hgd : o.guard = none) (t : TypeId) (m x v : Operand)
    (ho : o.op = .mapUpdate t m x v) {vm vx vv : Value} {w' : World} (hm : a.eval m = vm) (hx : a.eval x = vx) (hv : a.eval v = vv)
    (hrun : (Instr.mapUpdate t vm vx vv).run P w = .ok () w') (h : wpList P ops Q rest (a.put o.dst undef) w') : wpList P ops Q (o :: rest) a w := by
  refine wpList_plain hgd fun K' hK' => ?_
  unfold Oper.wp
  simp [execOp, ho, hm, hx, hv, hrun, Result.andThen]
  exact hK' _ _ h
theorem wpList_lookup_run {ops : Array Oper} {rest : List Oper} {o : Oper} {a : Act} {Q : Exit → Act → World → Prop} (hgd : o.guard = none) (t : TypeId) (m x : Operand) (c : Bool)
    (ho : o.op = .lookup t m x c) {vm vx v : Value} {w' : World} (hm : a.eval m = vm) (hx : a.eval x = vx)
    (hrun : (Instr.lookup t vm vx c).run P w = .ok v w') (h : wpList P ops Q rest (a.put o.dst v) w') : wpList P ops Q (o :: rest) a w := by
  refine wpList_run hgd (v := v) (w' := w') ?_ h
  unfold execOp
  simp [ho, hm, hx, hrun, Result.andThen]
theorem wpList_mapEntry_run {ops : Array Oper} {rest : List Oper} {o : Oper} {a : Act} {Q : Exit → Act → World → Prop} (hgd : o.guard = none) (t : TypeId) (m x : Operand)
    (ho : o.op = .mapEntry t m x) {vm vx v : Value} {w' : World} (hm : a.eval m = vm) (hx : a.eval x = vx)
    (hrun : (Instr.mapEntry t vm vx).run P w = .ok v w') (h : wpList P ops Q rest (a.put o.dst v) w') : wpList P ops Q (o :: rest) a w := by
  refine wpList_run hgd (v := v) (w' := w') ?_ h
  unfold execOp
  simp [ho, hm, hx, hrun, Result.andThen]
theorem wpList_entryStore_run {ops : Array Oper} {rest : List Oper} {o : Oper} {a : Act} {Q : Exit → Act → World → Prop} (hgd : o.guard = none) (t : TypeId) (m x v : Operand)
    (ho : o.op = .entryStore t m x v) {vm vx vv : Value} {w' : World} (hm : a.eval m = vm) (hx : a.eval x = vx) (hv : a.eval v = vv)
    (hrun : (Instr.entryStore t vm vx vv).run P w = .ok () w') (h : wpList P ops Q rest (a.put o.dst undef) w') : wpList P ops Q (o :: rest) a w := by
  refine wpList_plain hgd fun K' hK' => ?_
  unfold Oper.wp
  simp [execOp, ho, hm, hx, hv, hrun, Result.andThen]
  exact hK' _ _ h
end Go.Gar
namespace Go.Gar
open Go.RowKit

/-- build of a struct: the places of its fields, each with its size. -/
theorem built_struct {P : Program} {t : TypeId} {fs : Array Field} (hu : P.underlying t = some (.struct fs)) {z : Value} {n : Nat} (hi : (P.info? t).map (fun i => (i.zero, i.size)) = some (some z, n))
    (places : List (Nat × Nat)) (hf : fs.toList.map (fun f => (f.offset, (P.info? f.type).map (·.size))) = places.map (fun p => (p.1, some p.2))) (parts : List (Nat × Value)) (x : Array Value)
    (h : Instr.fill (places.toArray[·]?) z.cells parts = some x) : P.built t parts = some x := by
  obtain ⟨i, hi, he⟩ := Option.map_eq_some_iff.1 hi
  simp only [Prod.mk.injEq] at he
  have key : ∀ (l : List Field) (ps : List (Nat × Nat)), l.map (fun f => (f.offset, (P.info? f.type).map (·.size))) = ps.map (fun p => (p.1, some p.2)) →
      l.mapM (fun f => (P.info? f.type).map fun i => (f.offset, i.size)) = some ps := by
    intro l
    induction l with
    | nil => intro ps hp; cases ps with
      | nil => rfl
      | cons p r => simp at hp
    | cons f l ih => intro ps hp; cases ps with
      | nil => simp at hp
      | cons p r =>
        simp only [List.map_cons, List.cons.injEq, Prod.mk.injEq] at hp
        obtain ⟨⟨h1, h2⟩, h3⟩ := hp
        obtain ⟨j, hj, hs⟩ := Option.map_eq_some_iff.1 h2
        rw [List.mapM_cons, ih r h3, hj]
        simp only [Option.map_some, h1, hs]
        rfl
  unfold Program.built
  rw [hi, hu]
  simp only [he.1, key _ _ hf]
  exact h
/-- An array of n cells and one cell behind it. -/
theorem fill_head (place : Nat → Option (Nat × Nat)) (z X : Array Value) (v : Value) (n : Nat) (h0 : place 0 = some (0, n)) (h1 : place 1 = some (n, 1)) (hX : X.size = n) (hz : z.size = n + 1) (hv : v.cells = #[v]) :
    Instr.fill place z [(0, .agg X), (1, v)] = some (X.push v) := by
  obtain ⟨a1, a2⟩ := Great.foldl_set 0 X.toList 0 z
  unfold Instr.fill
  simp only [h0]
  have c1 : (Value.agg X).cells = X := rfl
  rw [c1, if_neg (by simp; omega)]
  unfold Instr.fill
  simp only [h1]
  have e1 : (X.zipIdx.foldl (fun cs (x : Value × Nat) => cs.setIfInBounds (0 + x.2) x.1) z) = (X.toList.zipIdx 0).foldl (fun cs (x : Value × Nat) => cs.setIfInBounds (0 + x.2) x.1) z := by
    rw [← Array.foldl_toList, Array.toList_zipIdx]
  rw [hv, e1, if_neg (by rw [a1]; simp; omega)]
  unfold Instr.fill
  congr 1
  apply Array.ext_getElem?
  intro k
  have e2 : (#[v] : Array Value).zipIdx = #[(v, 0)] := by rfl
  rw [e2]
  simp only [List.foldl_toArray, List.foldl_cons, List.foldl_nil, Nat.add_zero]
  rw [Array.getElem?_setIfInBounds, a2, a1]
  by_cases hk : k < n
  · rw [if_neg (by omega), if_pos (by rw [Array.length_toList, hX]; omega), Array.getElem?_push_lt (by omega)]
    simp [hX, hk]
  · by_cases hk2 : k = n
    · subst hk2
      rw [if_pos rfl, if_pos (by omega), ← hX]
      simp
    · rw [if_neg (by omega), if_neg (by rw [Array.length_toList, hX]; omega), Array.getElem?_eq_none (by omega), Array.getElem?_eq_none (by rw [Array.size_push]; omega)]
end Go.Gar
namespace Go.Gar
open Go.RowKit
section
variable {P : Program} {w : World}
theorem wpList_minR {ops : Array Oper} {rest : List Oper} {o : Oper} {a : Act} {Q : Exit → Act → World → Prop} (hgd : o.guard = none) (s x : Operand) (ts : Array TypeId)
    (ho : o.op = .call { callee := .builtin .min, args := #[s, x], argTypes := ts }) {vs vx v : Value} {w' : World} (hs : a.eval s = vs) (hx : a.eval x = vx)
    (hrun : (Builtin.min_ ts o.type #[vs, vx]).run P w = .ok v w') (h : wpList P ops Q rest (a.put o.dst v) w') : wpList P ops Q (o :: rest) a w := by
  refine wpList_run hgd (v := v) (w' := w') ?_ h
  unfold execOp
  simp only [ho, resolve, invoke, builtin, Sem.run_bind, Sem.run_pure, Result.andThen_ok, List.map_toArray, List.map_cons, List.map_nil, hs, hx, hrun]
theorem wpList_maxR {ops : Array Oper} {rest : List Oper} {o : Oper} {a : Act} {Q : Exit → Act → World → Prop} (hgd : o.guard = none) (s x : Operand) (ts : Array TypeId)
    (ho : o.op = .call { callee := .builtin .max, args := #[s, x], argTypes := ts }) {vs vx v : Value} {w' : World} (hs : a.eval s = vs) (hx : a.eval x = vx)
    (hrun : (Builtin.max_ ts o.type #[vs, vx]).run P w = .ok v w') (h : wpList P ops Q rest (a.put o.dst v) w') : wpList P ops Q (o :: rest) a w := by
  refine wpList_run hgd (v := v) (w' := w') ?_ h
  unfold execOp
  simp only [ho, resolve, invoke, builtin, Sem.run_bind, Sem.run_pure, Result.andThen_ok, List.map_toArray, List.map_cons, List.map_nil, hs, hx, hrun]
theorem run_minI {t ty : TypeId} (x y : Int) : (Builtin.min_ #[t, t] ty #[.int .i64 x, .int .i64 y]).run P w = .ok (.int .i64 (min x y)) w := by
  by_cases h : y < x
  · rw [Int.min_eq_right (by omega)]
    simp [Builtin.min_, Builtin.min2, h]
  · rw [Int.min_eq_left (by omega)]
    simp [Builtin.min_, Builtin.min2]
    omega
theorem run_maxI {t ty : TypeId} (x y : Int) : (Builtin.max_ #[t, t] ty #[.int .i64 x, .int .i64 y]).run P w = .ok (.int .i64 (max x y)) w := by
  by_cases h : x < y
  · rw [Int.max_eq_right (by omega)]
    simp [Builtin.max_, Builtin.max2]
    omega
  · rw [Int.max_eq_left (by omega)]
    simp [Builtin.max_, Builtin.max2]
    omega
end
end Go.Gar
