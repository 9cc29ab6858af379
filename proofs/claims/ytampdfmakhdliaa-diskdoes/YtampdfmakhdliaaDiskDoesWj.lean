/-
  Layer 14: DiskDoes, walked from the contract of disk's functions.
-/
import Derived.Deep.CutBlock
import Derived.Test.YtampdfmakhdliaaDskDj
import Derived.Test.YtampdfmakhdliaaDiskJ07
set_option maxRecDepth 100000
namespace Go.Proofs.Ytampdfmakhdliaa
open Go.RowKit Go.Gar
open Go.Gar.Dsk (Dsk)

def zD : List Value := [.int .u8 0, .int .i64 0, .int .u8 0, .int .i64 0, .int .i64 0]
theorem Try.infoDeed14 : (Try.prog.info? 34).map (fun i => (i.zero, i.size)) = some (some (.agg #[.int .u8 0, .int .i64 0, .int .u8 0, .int .i64 0, .int .i64 0]), 5) := by kernel_rfl
theorem zero_D (w : World) : (zeroValue 34).run Try.prog w = .ok (.agg zD.toArray) w := by
  have := (zero_of_info Try.infoDeed14).1 w
  rw [this]
  rfl
theorem size_D (t : Deed) : (Try.prog.info? 34).map (·.size) = some t.cells.length := Try.sizeDeed
set_option maxHeartbeats 8000000 in
set_option maxRecDepth 100000 in
theorem diskdoes_walk {Rep : World → (Nat → Prop) → Nat → Dsk → Prop} (hOK : DiskOK Rep) (sec : Int) (A : Option Addr) (ds : List Deed) (n cap : Nat) (hn : n = ds.length) (w : World) (hr : RdD w w.heap.size A ds) (hI : ∀ t ∈ ds, t.Is) (hsec : isI64 sec) :
    Calls Try.prog 3 #[.int .i64 sec, .slice A n cap] w fun e w' => e = .returned (.bool true) ∧ Below w.heap.size w w' := by
  have HOK := Lib.hid hOK
  have HN := Lib.hid hn
  have HR := Lib.hid hr
  have HI := Lib.hid hI
  have HS := Lib.hid hsec
  clear hOK hn hr hI hsec
  go_enter Try.func3, Try.ntmps3
  go_upto_region 2 with fail
  go_cut [23] from 18 to 23 (fun t wx => t = .bool (decide (30 < sec ∧ sec < 4090)) ∧ w = wx)
  case first =>
    by_cases h1 : 30 < sec
    · have d1 : decide (30 < sec) = true := by simp [h1]
      go_wp2
      go_meet
      case rel => exact ⟨by simp [h1], rfl⟩
    · have d1 : decide (30 < sec) = false := by simp [h1]
      go_wp2
      go_meet
      case rel => exact ⟨by simp; omega, rfl⟩
  case rest =>
  obtain ⟨rfl, rfl⟩ := hcut
  go_upto_if 23 with fail
  go_cut [5] from 18 to 23 (fun v wx => ∃ s, v = .int .i64 s ∧ isI64 s ∧ w = wx)
  case first =>
    by_cases h1 : 30 < sec ∧ sec < 4090
    · have d1 : decide (30 < sec ∧ sec < 4090) = true := by simp [h1]
      go_wp2
      go_meet
      case rel => exact ⟨30, rfl, by unfold isI64; omega, rfl⟩
    · have d1 : decide (30 < sec ∧ sec < 4090) = false := by simp [h1]
      go_wp2
      go_meet
      case rel => exact ⟨sec, rfl, HS.out, rfl⟩
  case rest =>
    obtain ⟨s, rfl, hs, rfl⟩ := hcut
    have HS2 := Lib.hid hs
    clear hs HS
    go_wp2_with fail
    refine (HOK.out.new w s HS2.out).mono ?_
    rintro e w1 ⟨F, g, rfl, hR1, hF1, hb1⟩
    have HR1 := Lib.hid hR1
    have HF1 := Lib.hid hF1
    have Hb1 := Lib.hid hb1
    clear hR1 hF1 hb1
    unfold ptr
    go_wp2_with fail
    refine (refNew14_any w1 s HS2.out).mono ?_
    rintro e w2 ⟨F2, g2, rfl, hR2, hF2, hb2⟩
    have hB2 : Both Rep w w2 F F2 g g2 (Dsk.new s) (Dsk.new s) :=
      ⟨HOK.out.keep HR1.out (fun j hj => hb2.block j (HOK.out.lt HR1.out j hj)), hR2, fun j hj => Nat.lt_of_lt_of_le (HOK.out.lt HR1.out j hj) hb2.size, hR2.lt, fun j hj hj2 => by have := HOK.out.lt HR1.out j hj; have := hF2 j hj2; omega,
        HF1.out, fun j hj => Nat.le_trans Hb1.out.size (hF2 j hj), Hb1.out.trans (hb2.mono Hb1.out.size)⟩
    have HB2 := Lib.hid hB2
    clear hR2 hF2 hb2 hB2 HR1 HF1 Hb1
    have hlen : (Dsk.new s).secs.length ≤ 4096 := (Dsk.Ok.new s).len
    obtain ⟨m, hm⟩ : ∃ m, (Dsk.new s).secs.length = m := ⟨_, rfl⟩
    have Hm := Lib.hid hm
    rw [hm] at hlen
    clear hm
    go_wp2_with fail
    refine wp_region_G grows (by kernel_rfl) ?_
    have HB3 := Lib.hid (HB2.out.drew HOK.out)
    clear HB2
    generalize w2.drew = W at *
    obtain ⟨A3, c3, f3, q0, hc3, _, _, _, hF3⟩ := HB3.out.ref.cells
    rw [Hm.out] at q0 hc3
    have q1 : ∀ x : Later grows W, x.to.cell? ⟨g2, 0, none⟩ = some (.slice A3 m c3) := fun x => ((show Below W.heap.size W x.to from x.grown).cell (p := ⟨g2, 0, none⟩) (HB3.out.lt2 _ hF3)).trans q0
    clear q0 hF3
    refine segG (by kernel_rfl) (fun _ _ _ _ _ h => h) [0, 2, 3, 4, 5, 6] [_, _, _, _, _, _] 2 rfl rfl (by kernel_rfl) ?_
    repeat (go_big_quiet_step (fail))
    refine wpQuiet_nil ?_
    clear q1
    refine oneG 1 1 rfl (by kernel_rfl) rfl ?_
    go_wp2_with fail
    refine (HOK.out.size HB3.out.rep).mono ?_
    rintro e w4 ⟨rfl, hb4⟩
    rw [Hm.out]
    have HB4 := Lib.hid (HB3.out.below HOK.out hb4)
    clear HB3
    go_wp2
    refine ⟨hb4, ?_⟩
    clear hb4
    refine segG (by kernel_rfl) (fun _ _ _ _ _ h => h) [7] [_] 0 rfl rfl (by kernel_rfl) ?_
    repeat (go_big_quiet_step (fail))
    refine wpQuiet_nil ?_
    refine wpAnyG_done (by kernel_rfl) ?_
    go_wp2
    go_loopw [8] (fun i W => ∃ k : Nat, k ≤ n ∧ k ≤ 50 ∧ i = .int .i64 k ∧ ∃ F F2 d, Both Rep w W F F2 g g2 d d ∧ d.secs.length = m ∧ d.many ≤ k) (fun i _ => 50 - (intOf i).toNat)
    case atStart => exact ⟨0, by omega, by omega, rfl, F, F2, _, HB4.out, Hm.out, Nat.le_refl _⟩
    case round =>
      obtain ⟨k, hkn, hk50, rfl, F, F2, d, hB, hdm, hmk⟩ := hrel
      clear HB4 Hm
      have HB := Lib.hid hB
      have Hdm := Lib.hid hdm
      have Hmk := Lib.hid hmk
      clear hB hdm hmk
      go_upto_region 8 with fail
      go_cut [43] from 36 to 152 (fun z wx => ∃ zb : Bool, z = .bool zb ∧ (zb = true ↔ k < n ∧ k < 50) ∧ wr = wx)
      case first =>
        by_cases h1 : k < n
        · have hd1 : decide ((k : Int) < (n : Int)) = true := by simp; omega
          by_cases h2 : k < 50
          · have hd2 : decide ((k : Int) < 50) = true := by simp; omega
            go_wp2
            go_meet
            case rel => exact ⟨true, rfl, by simp [h1, h2], rfl⟩
          · have hd2 : decide ((k : Int) < 50) = false := by simp; omega
            go_wp2
            go_meet
            case rel => exact ⟨false, rfl, by simp; omega, rfl⟩
        · have hd1 : decide ((k : Int) < (n : Int)) = false := by simp; omega
          go_wp2
          go_meet
          case rel => exact ⟨false, rfl, by simp; omega, rfl⟩
      case rest =>
        obtain ⟨zb, rfl, hzb, rfl⟩ := hcut
        by_cases h12 : k < n ∧ k < 50
        · obtain rfl := hzb.2 h12
          obtain ⟨h1, h2⟩ := h12
          clear hzb
          obtain ⟨t, b, q, ht, hbB, hix, hcl⟩ := deed_at (cap := cap) (HR.out.below HB.out.bel) HN.out k h1
          have hti : t.Is := HI.out t (List.mem_of_getElem? ht)
          have hld := run_loadVar_mid (P := Try.prog) wr b q 34 t.cells _ hcl Try.undDeed rfl Try.sizeDeed
          have hEa : (wr.alloc (.cells zD.toArray 34)).setRow wr.heap.size t.cells.toArray = wr.alloc (.cells t.cells.toArray 34) := World.setRow_alloc_new wr _ _ _
          have hZ := Blk.new wr 34 zD
          have hB9 := Blk.new wr 34 t.cells
          have hb9 := below_alloc wr (.cells t.cells.toArray 34)
          obtain ⟨w5, hw5⟩ : ∃ w5, wr.alloc (.cells t.cells.toArray 34) = w5 := ⟨_, rfl⟩
          rw [hw5] at hEa hB9 hb9
          obtain ⟨x9, hx9⟩ : ∃ x9, wr.heap.size = x9 := ⟨_, rfl⟩
          have HB5 := Lib.hid (HB.out.below HOK.out hb9)
          have Hn9 := Lib.hid (show (¬ F x9) ∧ ¬ F2 x9 from ⟨fun h => by have := HB.out.lt _ h; omega, fun h => by have := HB.out.lt2 _ h; omega⟩)
          have HEa := Lib.hid hEa
          have HZ := Lib.hid hZ
          have Hld := Lib.hid hld
          have Hx9 := Lib.hid hx9
          rw [hx9] at hB9
          have HB9 := Lib.hid hB9
          have HTi := Lib.hid hti
          obtain ⟨K, hK⟩ : ∃ K : Nat, K = t.kind.toNat := ⟨_, rfl⟩
          obtain ⟨at_, hat⟩ : ∃ a, a = t.at_ := ⟨_, rfl⟩
          obtain ⟨tn, htn⟩ : ∃ a, a = t.n := ⟨_, rfl⟩
          obtain ⟨tk, htk⟩ : ∃ a, a = t.keep := ⟨_, rfl⟩
          have Hat := Lib.hid hat
          have Htn := Lib.hid htn
          have Htk := Lib.hid htk
          have hK8 : K < 256 := by rw [hK]; exact t.kind.toNat_lt
          have c0 := hB9.cell 0
          rw [show t.cells[0]? = some (.int .u8 (t.kind.toNat : Int)) from rfl, ← hK] at c0
          obtain ⟨r, hr8⟩ : ∃ r, r = K % 8 := ⟨_, rfl⟩
          have hr : r < 8 := by omega
          have hkr : Int.tmod (K : Int) 8 = (r : Int) := by rw [Int.tmod_eq_emod_of_nonneg (by omega)]; omega
          clear ht hbB hcl hti hld hEa hZ hB9 hb9 hw5 hx9 HB hK hat htn htk hr8
          go_upto_block 2 with (first | refine wpList_load_at 34 (.tmp 48) rfl rfl t.cells.toArray Hld.out (by kernel_rfl) ?_ | refine wpList_alloc_arr rfl 34 zD.toArray rfl zero_D ?_ | (refine wpList_store_arr rfl 34 (.tmp 9) (.tmp 49) wr.heap.size zD t.cells rfl rfl rfl rfl HZ.out (size_D t) rfl (deed_one t) ?_; rw [HEa.out, Hx9.out]))
          go_cut [66] from 36 to 152 (fun _ wx => ∃ F F2 d, Both Rep w wx F F2 g g2 d d ∧ d.secs.length = m ∧ d.many ≤ k + 1 ∧ (¬ F x9) ∧ (¬ F2 x9) ∧ Blk wx x9 34 t.cells)
          case first =>
            have c1 := HB9.out.cell 1
            rw [show t.cells[1]? = some (.int .i64 t.at_) from rfl, ← Hat.out] at c1
            have c3 := HB9.out.cell 3
            rw [show t.cells[3]? = some (.int .i64 t.n) from rfl, ← Htn.out] at c3
            have c4 := HB9.out.cell 4
            rw [show t.cells[4]? = some (.int .i64 t.keep) from rfl, ← Htk.out] at c4
            have hx9 : x9 < w5.heap.size := HB9.out.lt
            by_cases hr0 : r = 0
            · subst hr0
              go_wp2_with fail
              refine (HOK.out.flush HB5.out.rep).mono ?_
              rintro e w6 ⟨rfl, F6, hR6, hF6, ho6⟩
              have HB6 := Lib.hid (HB5.out.one HOK.out hR6 hF6 ho6)
              have HB96 := Lib.hid (ho6.blk HB9.out Hn9.out.1)
              have Hn6 := Lib.hid (show ¬ F6 x9 from fun h => by rcases hF6 x9 h with h | h; exact Hn9.out.1 h; omega)
              clear hR6 hF6 ho6 HB5 HB9 c0 c1 c3 c4
              go_wp2_with fail
              refine (refFlush14_any HB6.out.ref).mono ?_
              rintro e w7 ⟨rfl, hR7, ho7⟩
              have HB7 := Lib.hid (HB6.out.two HOK.out hR7 (fun _ h => .inl h) ho7)
              have HB97 := Lib.hid (ho7.blk HB96.out Hn9.out.2)
              clear hR7 ho7 HB6 HB96
              go_wp2
              go_meet
              case rel => exact ⟨F6, F2, _, HB7.out, by rw [Dsk.flush_len]; exact Hdm.out, by rw [Dsk.flush_many]; have := Hmk.out; omega, Hn6.out, Hn9.out.2, HB97.out⟩
            · by_cases hr1 : r = 1
              · subst hr1
                go_wp2_with fail
                refine (HOK.out.crash tk at_ tn HB5.out.rep (by rw [Htk.out]; exact HTi.out.keep) (by rw [Hat.out]; exact HTi.out.at_) (by rw [Htn.out]; exact HTi.out.n)).mono ?_
                rintro e w6 ⟨rfl, F6, hR6, hF6, ho6⟩
                have HB6 := Lib.hid (HB5.out.one HOK.out hR6 hF6 ho6)
                have hB96 := ho6.blk HB9.out Hn9.out.1
                have HB96 := Lib.hid hB96
                have Hn6 := Lib.hid (show ¬ F6 x9 from fun h => by rcases hF6 x9 h with h | h; exact Hn9.out.1 h; omega)
                have c1 := hB96.cell 1
                rw [show t.cells[1]? = some (.int .i64 t.at_) from rfl, ← Hat.out] at c1
                have c3 := hB96.cell 3
                rw [show t.cells[3]? = some (.int .i64 t.n) from rfl, ← Htn.out] at c3
                have c4 := hB96.cell 4
                rw [show t.cells[4]? = some (.int .i64 t.keep) from rfl, ← Htk.out] at c4
                have hx6 : x9 < w6.heap.size := hB96.lt
                clear hR6 hF6 ho6 HB5 HB9 hB96
                go_wp2_with fail
                refine (refCrash14_any HB6.out.ref tk at_ tn (by rw [Htk.out]; exact HTi.out.keep) (by rw [Hat.out]; exact HTi.out.at_) (by rw [Htn.out]; exact HTi.out.n)).mono ?_
                rintro e w7 ⟨rfl, F7, hR7, hF7, ho7⟩
                have HB7 := Lib.hid (HB6.out.two HOK.out hR7 hF7 ho7)
                have HB97 := Lib.hid (ho7.blk HB96.out Hn9.out.2)
                have Hn7 := Lib.hid (show ¬ F7 x9 from fun h => by rcases hF7 x9 h with h | h; exact Hn9.out.2 h; omega)
                clear hR7 hF7 ho7 HB6 HB96 c0 c1 c3 c4
                go_wp2
                go_meet
                case rel => exact ⟨F6, F7, _, HB7.out, by rw [Dsk.crash_len]; exact Hdm.out, by show d.many ≤ k + 1; have := Hmk.out; omega, Hn6.out, Hn7.out, HB97.out⟩
              · by_cases hr2 : r = 2
                · subst hr2
                  go_wp2_with fail
                  refine (HOK.out.fuse tn HB5.out.rep (by rw [Htn.out]; exact HTi.out.n)).mono ?_
                  rintro e w6 ⟨rfl, F6, hR6, hF6, ho6⟩
                  have HB6 := Lib.hid (HB5.out.one HOK.out hR6 hF6 ho6)
                  have hB96 := ho6.blk HB9.out Hn9.out.1
                  have HB96 := Lib.hid hB96
                  have Hn6 := Lib.hid (show ¬ F6 x9 from fun h => by rcases hF6 x9 h with h | h; exact Hn9.out.1 h; omega)
                  have c3 := hB96.cell 3
                  rw [show t.cells[3]? = some (.int .i64 t.n) from rfl, ← Htn.out] at c3
                  obtain ⟨_, _, fz, _, _, q5, qf, _, hFg⟩ := HB6.out.ref.cells
                  have HB7 := Lib.hid (HB6.out.two HOK.out (HB6.out.ref.setFuse tn (by rw [Htn.out]; exact HTi.out.n)) (fun _ h => .inl h) (.of_grown (row := some g2) ⟨rfl, rfl, rfl, by simp, fun k' _ hr' => Below.heap_setCell w6 ⟨g2, 5, none⟩ _ k' (fun e => hr' (by rw [e]))⟩ (fun i e => by obtain rfl := Option.some.inj e; exact hFg)))
                  have HB97 := Lib.hid (HB96.out.far (p := ⟨g2, 5, none⟩) (fun e => Hn9.out.2 (by rw [show x9 = g2 from e]; exact hFg)) (.int .i64 tn))
                  clear hR6 hF6 ho6 HB5 HB9 hB96 c0 c1 c4 hFg HB6 HB96
                  go_wp2
                  go_meet
                  case rel => exact ⟨F6, F2, _, HB7.out, Hdm.out, by show d.many ≤ k + 1; have := Hmk.out; omega, Hn6.out, Hn9.out.2, HB97.out⟩
                · have e0 : ((r : Int) == 0) = false := by simp; omega
                  have e1 : ((r : Int) == 1) = false := by simp; omega
                  have e2 : ((r : Int) == 2) = false := by simp; omega
                  go_wp2_with fail
                  obtain ⟨R, hR⟩ : ∃ R : Nat → Prop, R = fun j => F j ∨ F2 j ∨ w5.heap.size ≤ j := ⟨_, rfl⟩
                  refine wp_region_G (onlyG R) (by kernel_rfl) ?_
                  have HW0 := Lib.hid (show Wst Rep R w5.heap.size w w5.drew x9 t F F2 g g2 d d from
                    ⟨HB5.out.drew HOK.out, HB9.out, Hn9.out.1, Hn9.out.2, fun j hj => by rw [hR]; exact .inl hj, fun j hj => by rw [hR]; exact .inr (.inl hj), fun j hj => by rw [hR]; exact .inr (.inr hj), Nat.le_refl _⟩)
                  have hRx : ¬ R x9 := by rw [hR]; rintro (h | h | h); exact Hn9.out.1 h; exact Hn9.out.2 h; omega
                  clear HB5 HB9 c0 c1 c3 c4 hR
                  generalize w5.drew = y0 at *
                  have q1 := cell_laterR HW0.out.blk hRx (i := 1) (show t.cells[1]? = some (.int .i64 at_) by rw [Hat.out]; rfl)
                  have Hld9 := Lib.hid (deed_load (w := y0) (G := onlyG R) (b := x9) (q := 0) (d := t) (fun x j u hj => by rw [Nat.zero_add]; exact cell_laterR HW0.out.blk hRx hj x))
                  clear hRx
                  refine segG (by kernel_rfl) (fun _ _ _ _ _ h => h) [0, 1, 2, 3, 6, 7, 8, 9] [_, _, _, _, _, _, _, _] 5 rfl rfl (by kernel_rfl) ?_
                  repeat (first | (refine wpQuiet_load_at 34 (.tmp 9) rfl rfl t.cells.toArray Hld9.out (by kernel_rfl) ?_; simp only [Act.put, List.setIfInBounds_toArray, List.set]) | go_big_quiet_step (fail))
                  refine wpQuiet_nil ?_
                  clear q1 Hld9
                  refine oneG 4 4 rfl (by kernel_rfl) rfl ?_
                  go_wp2_with fail
                  refine (wrote_any y0 t HTi.out).mono ?_
                  rintro e y1 ⟨gv1, nv1, rfl, hnv1, hgv1, hBv1, hbv⟩
                  have HW1 := Lib.hid (HW0.out.later HOK.out hbv)
                  have HV11 := Lib.hid (HW0.out.val hBv1 hgv1)
                  have Hnv1 := Lib.hid hnv1
                  have hG := Only.of_below R hbv
                  clear hnv1 hgv1 hBv1 hbv HW0
                  go_wp2
                  refine ⟨hG, ?_⟩
                  clear hG
                  refine oneG 5 3 rfl (by kernel_rfl) rfl ?_
                  go_wp2_with fail
                  refine (write_at HOK.out at_ (some ⟨gv1, 0, none⟩) (wroteL t) nv1 nv1 HW1.out.both.rep (by rw [Hat.out]; exact HTi.out.at_) Hnv1.out (Rd.of_all HV11.out.blk) HV11.out.off.1 (Nat.le_refl _) (by have := Hnv1.out; have := wroteL_len t; omega) (by have := Hmk.out; omega)).mono ?_
                  rintro e y2 ⟨E1, rfl, hE1, F2, hR, hF, ho⟩
                  have HE1 := Lib.hid hE1
                  have HW2 := Lib.hid (HW1.out.one HOK.out hR hF ho)
                  have HV12 := Lib.hid (HV11.out.one hF ho)
                  have hG : Only R y1 y2 := ho.mono HW1.out.r1
                  clear hE1 hR hF ho HW1 HV11
                  go_wp2
                  refine ⟨hG, ?_⟩
                  clear hG
                  refine oneG 10 2 rfl (by kernel_rfl) rfl ?_
                  go_wp2_with fail
                  refine (wrote_any y2 t HTi.out).mono ?_
                  rintro e y3 ⟨gv2, nv2, rfl, hnv2, hgv2, hBv2, hbv⟩
                  have HW3 := Lib.hid (HW2.out.later HOK.out hbv)
                  have HV23 := Lib.hid (HW2.out.val hBv2 hgv2)
                  have Hnv2 := Lib.hid hnv2
                  have HV13 := Lib.hid (HV12.out.later hbv)
                  have hG := Only.of_below R hbv
                  clear hnv2 hgv2 hBv2 hbv HW2 HV12
                  go_wp2
                  refine ⟨hG, ?_⟩
                  clear hG
                  refine oneG 11 1 rfl (by kernel_rfl) rfl ?_
                  go_wp2_with fail
                  refine (refWrite_at HW3.out.both.ref at_ (some ⟨gv2, 0, none⟩) (wroteL t) nv2 nv2 Hnv2.out (Rd.of_all HV23.out.blk) HV23.out.off.2 (by have := Hnv2.out; have := wroteL_len t; omega) (by have := Hmk.out; omega)).mono ?_
                  rintro e y4 ⟨E2, rfl, hE2, F4, hR, hF, ho⟩
                  have HE2 := Lib.hid hE2
                  have HW4 := Lib.hid (HW3.out.two HOK.out hR hF ho)
                  have HV14 := Lib.hid (HV13.out.two hF ho)
                  have HV24 := Lib.hid (HV23.out.two hF ho)
                  have hG : Only R y3 y4 := ho.mono HW3.out.r2
                  clear hE2 hR hF ho HW3 HV13 HV23
                  go_wp2
                  refine ⟨hG, ?_⟩
                  clear hG
                  refine segG (by kernel_rfl) (fun _ _ _ _ _ h => h) [12] [_] 0 rfl rfl (by kernel_rfl) ?_
                  rw [show E1 = E2 from HE1.out.trans HE2.out.symm]
                  repeat (go_big_quiet_step (fail))
                  refine wpQuiet_nil ?_
                  refine wpAnyG_done (by kernel_rfl) ?_
                  go_wp2
                  go_meet
                  case rel => exact ⟨_, _, _, HW4.out.both, by rw [Dsk.write_len]; exact Hdm.out, by have := Hmk.out; have := Dsk.write_many d at_ (wroteL t); omega, HW4.out.n1, HW4.out.n2, HW4.out.blk⟩
          case rest =>
            obtain ⟨F, F2, d, hB6, hdm6, hmk6, hx1, hx2, hB96⟩ := hcut
            clear HB5 HB9 c0 Hn9 hkr Hdm Hmk
            have HB6 := Lib.hid hB6
            have Hdm := Lib.hid hdm6
            have Hmk := Lib.hid hmk6
            have c1 := hB96.cell 1
            rw [show t.cells[1]? = some (.int .i64 t.at_) from rfl, ← Hat.out] at c1
            have HB96 := Lib.hid hB96
            clear hB6 hdm6 hmk6 hx1 hx2 hB96
            go_wp2_with fail
            refine (HOK.out.read at_ HB6.out.rep (by rw [Hat.out]; exact HTi.out.at_)).mono ?_
            rintro e w7 ⟨v7, rfl, ⟨A7, c7, rfl, _, hr7, _⟩, hb7⟩
            have HB7 := Lib.hid (HB6.out.below HOK.out hb7)
            have hB97 := HB96.out.below hb7 HB96.out.lt
            have HB97 := Lib.hid hB97
            have c1 := hB97.cell 1
            rw [show t.cells[1]? = some (.int .i64 t.at_) from rfl, ← Hat.out] at c1
            have Hr7 := Lib.hid hr7
            obtain ⟨L, hL⟩ : ∃ L, Dsk.read d at_ = L := ⟨_, rfl⟩
            obtain ⟨n7, hn7⟩ : ∃ n7, L.length = n7 := ⟨_, rfl⟩
            rw [hL] at Hr7 ⊢
            rw [hn7]
            have HL := Lib.hid hL
            have Hn7 := Lib.hid hn7
            clear hr7 hb7 HB6 HB96 hB97 hL hn7
            go_wp2_with fail
            refine (refRead14_any HB7.out.ref at_).mono ?_
            rintro e w8 ⟨A8, n8, c8, rfl, hn8, _, hr8, hb8⟩
            rw [HL.out] at hn8 hr8
            obtain rfl : n8 = n7 := hn8.trans Hn7.out
            have HB8 := Lib.hid (HB7.out.below HOK.out hb8)
            have HB98 := Lib.hid (HB97.out.below hb8 HB97.out.lt)
            have Hr78 := Lib.hid ((Hr7.out.below hb8).more hb8.size)
            have Hr88 := Lib.hid hr8
            clear hn8 hr8 hb8 HB7 HB97 Hr7 c1
            go_wp2_with fail
            refine wp_region_G grows (by kernel_rfl) ?_
            have HBt := Lib.hid (HB8.out.drew HOK.out)
            have HB9t := Lib.hid (show Blk w8.drew x9 34 t.cells from HB98.out)
            have Hr7t := Lib.hid (show Rd w8.drew w8.drew.heap.size A7 L from Hr78.out)
            have Hr8t := Lib.hid (show Rd w8.drew w8.drew.heap.size A8 L from Hr88.out)
            clear HB8 HB98 Hr78 Hr88
            generalize w8.drew = y0 at *
            obtain ⟨S, hS⟩ : ∃ S : ByteArray, S = ⟨L.toArray⟩ := ⟨_, rfl⟩
            have p7 := string_later_rd Hr7t.out c7
            have p8 := string_later_rd Hr8t.out c8
            rw [Hn7.out, ← hS] at p7 p8
            have q1 := cell_later HB9t.out (i := 1) (show t.cells[1]? = some (.int .i64 at_) by rw [Hat.out]; rfl)
            refine segG (by kernel_rfl) (fun _ _ _ _ _ h => h) [0, 1, 2, 3, 4, 5, 6, 7, 8, 9, 10, 11, 12, 13, 15, 16, 17] [_, _, _, _, _, _, _, _, _, _, _, _, _, _, _, _, _] 20 rfl rfl (by kernel_rfl) ?_
            repeat (go_big_quiet_step (fail))
            refine wpQuiet_nil ?_
            clear p7 p8 q1 hS
            refine oneG 14 19 rfl (by kernel_rfl) rfl ?_
            go_wp2_with fail
            refine (HOK.out.since at_ HBt.out.rep (by rw [Hat.out]; exact HTi.out.at_)).mono ?_
            rintro e y1 ⟨rfl, hb1⟩
            have HB1 := Lib.hid (HBt.out.below HOK.out hb1)
            clear HBt
            go_wp2
            refine ⟨hb1, ?_⟩
            clear hb1
            refine oneG 18 18 rfl (by kernel_rfl) rfl ?_
            go_wp2_with fail
            refine (refSince_any HB1.out.ref at_).mono ?_
            rintro e y2 ⟨rfl, hy2⟩
            subst hy2
            go_wp2
            refine ⟨Below.refl _ _, ?_⟩
            refine segG (by kernel_rfl) (fun _ _ _ _ _ h => h) [19, 20, 21, 22, 24] [_, _, _, _, _] 13 rfl rfl (by kernel_rfl) ?_
            repeat (go_big_quiet_step (fail))
            refine wpQuiet_nil ?_
            refine oneG 23 12 rfl (by kernel_rfl) rfl ?_
            go_wp2_with fail
            refine (HOK.out.pending HB1.out.rep).mono ?_
            rintro e y3 ⟨rfl, hb3⟩
            have HB3 := Lib.hid (HB1.out.below HOK.out hb3)
            clear HB1
            go_wp2
            refine ⟨hb3, ?_⟩
            clear hb3
            refine oneG 25 11 rfl (by kernel_rfl) rfl ?_
            go_wp2_with fail
            refine (refPending_any HB3.out.ref).mono ?_
            rintro e y4 ⟨rfl, hy4⟩
            subst hy4
            go_wp2
            refine ⟨Below.refl _ _, ?_⟩
            obtain ⟨_, _, _, _, _, _, _, q6, hFg⟩ := HB3.out.ref.cells
            have q6' : ∀ x : Later grows _, x.to.cell? ⟨g2, 6, none⟩ = some (.int .i64 (d.many : Int)) := fun x => ((show Below _ _ x.to from x.grown).cell (p := ⟨g2, 6, none⟩) (HB3.out.lt2 _ hFg)).trans q6
            clear q6 hFg
            refine segG (by kernel_rfl) (fun _ _ _ _ _ h => h) [26, 27, 28, 29, 31, 32, 33, 34] [_, _, _, _, _, _, _, _] 3 rfl rfl (by kernel_rfl) ?_
            repeat (go_big_quiet_step (fail))
            refine wpQuiet_nil ?_
            clear q6'
            refine oneG 30 2 rfl (by kernel_rfl) rfl ?_
            go_wp2_with fail
            refine (HOK.out.writes HB3.out.rep).mono ?_
            rintro e y5 ⟨rfl, hb5⟩
            have HB5 := Lib.hid (HB3.out.below HOK.out hb5)
            clear HB3
            go_wp2
            refine ⟨hb5, ?_⟩
            clear hb5
            refine segG (by kernel_rfl) (fun _ _ _ _ _ h => h) [35, 36] [_, _] 0 rfl rfl (by kernel_rfl) ?_
            repeat (go_big_quiet_step (fail))
            refine wpQuiet_nil ?_
            refine wpAnyG_done (by kernel_rfl) ?_
            go_wp2
            exact ⟨⟨k + 1, by omega, by omega, by go_num, F, F2, d, HB5.out, Hdm.out, Hmk.out⟩, by simp [intOf]; omega⟩
        · obtain rfl : zb = false := by
            cases zb with
            | false => rfl
            | true => exact absurd (hzb.1 rfl) h12
          clear h12 hzb
          go_wp2
          go_loopw [14] (fun i W => ∃ j : Nat, j ≤ m ∧ i = .int .i64 j ∧ Both Rep w W F F2 g g2 d d) (fun i _ => m - (intOf i).toNat)
          case atStart => exact ⟨0, by omega, rfl, HB.out⟩
          case round =>
            rename_i wl _
            obtain ⟨j, hjm, rfl, hBl⟩ := hrel
            clear HB
            have HBl := Lib.hid hBl
            obtain ⟨A0, cc0, _, q0, _, _, _, _, _⟩ := hBl.ref.cells
            rw [Hdm.out] at q0
            clear hBl
            by_cases hj : j < m
            · have hdj : decide ((j : Int) < (m : Int)) = true := by simp; omega
              have hth : Dsk.there d (j : Int) = true := by unfold Dsk.there; rw [Hdm.out]; simp; omega
              obtain ⟨x, hx⟩ : ∃ x, Dsk.at_ d (j : Int) = x := ⟨_, rfl⟩
              have hsx : d.secs[j]? = some x := by have := Dsk.at_get hth; rw [hx] at this; exact this
              have hE0 : Dsk.readE d (j : Int) = 0 := by unfold Dsk.readE; rw [if_pos hth]
              have hRd : Dsk.read d (j : Int) = x.good := by unfold Dsk.read; rw [if_pos hth, hx]
              have hSi : Dsk.since d (j : Int) = x.age := by unfold Dsk.since; rw [if_pos hth, hx]
              have HSi := Lib.hid hSi
              have Hsx := Lib.hid hsx
              have HRe := Lib.hid (HOK.out.read (j : Int) HBl.out.rep (by unfold isI64; omega))
              rw [hE0, hRd] at HRe
              clear hth hx hsx hE0 hRd hSi
              go_wp2_with fail
              refine HRe.out.mono ?_
              rintro e y1 ⟨v1, rfl, ⟨A1, c1, rfl, _, hr1, _⟩, hb1⟩
              have HB1 := Lib.hid (HBl.out.below HOK.out hb1)
              have Hr1 := Lib.hid hr1
              clear hr1 hb1 HBl HRe q0
              obtain ⟨L, hL⟩ : ∃ L, x.good = L := ⟨_, rfl⟩
              have HL := Lib.hid hL
              rw [hL] at Hr1 ⊢
              clear hL
              go_wp2_with fail
              refine wp_region_G grows (by kernel_rfl) ?_
              have HBt := Lib.hid (HB1.out.drew HOK.out)
              have Hrt := Lib.hid (show Rd y1.drew y1.drew.heap.size A1 L from Hr1.out)
              clear HB1 Hr1
              generalize y1.drew = y2 at *
              obtain ⟨cG, gG, sb, sc, x', k0, kx, kc, kl, kr, kF, kF2⟩ := HBt.out.ref.sector j (by rw [Hdm.out]; exact hj)
              rw [Hsx.out] at kx
              obtain rfl := Option.some.inj kx
              rw [HL.out] at kl kr
              obtain ⟨cA, gA, a2, ac, aF⟩ := HBt.out.ref.age j x Hsx.out
              rw [Hdm.out] at k0 a2
              obtain ⟨_, _, _, _, _, _, _, _, hFg⟩ := HBt.out.ref.cells
              obtain ⟨S, hS⟩ : ∃ S : ByteArray, S = ⟨L.toArray⟩ := ⟨_, rfl⟩
              have p1 := string_later_rd Hrt.out c1
              have p2 := string_later_rd kr sc
              rw [← hS] at p1 p2
              rw [kl] at p1 p2 ⊢
              have t0 : ∀ z : Later grows y2, z.to.cell? ⟨g2, 0, none⟩ = some (.slice (some ⟨gG, 0, none⟩) m cG) := fun z => ((show Below y2.heap.size y2 z.to from z.grown).cell (p := ⟨g2, 0, none⟩) (HBt.out.lt2 _ hFg)).trans k0
              have t1 : ∀ z : Later grows y2, z.to.cell? ⟨gG, j, none⟩ = some (.slice (some ⟨sb, 0, none⟩) 32 sc) := fun z => ((show Below y2.heap.size y2 z.to from z.grown).cell (p := ⟨gG, j, none⟩) (HBt.out.lt2 _ kF)).trans kc
              have t2 : ∀ z : Later grows y2, z.to.cell? ⟨g2, 2, none⟩ = some (.slice (some ⟨gA, 0, none⟩) m cA) := fun z => ((show Below y2.heap.size y2 z.to from z.grown).cell (p := ⟨g2, 2, none⟩) (HBt.out.lt2 _ hFg)).trans a2
              have t3 : ∀ z : Later grows y2, z.to.cell? ⟨gA, j, none⟩ = some (.int .i64 (x.age : Int)) := fun z => ((show Below y2.heap.size y2 z.to from z.grown).cell (p := ⟨gA, j, none⟩) (HBt.out.lt2 _ aF)).trans ac
              have hjin : (j : Int) < (m : Int) := by omega
              clear k0 kc kl kr kF kF2 a2 ac aF hFg hS
              refine segG (by kernel_rfl) (fun _ _ _ _ _ h => h) [0, 1, 2, 3, 4, 5, 6, 7, 8, 9, 10, 11, 12, 13] [_, _, _, _, _, _, _, _, _, _, _, _, _, _] 14 rfl rfl (by kernel_rfl) ?_
              repeat (go_big_quiet_step (fail))
              refine wpQuiet_nil ?_
              clear p1 p2 t0 t1
              refine segG (by kernel_rfl) (fun _ _ _ _ _ h => h) [14, 15, 16, 17, 19, 20, 21, 22, 23, 24, 25] [_, _, _, _, _, _, _, _, _, _, _] 3 rfl rfl (by kernel_rfl) ?_
              repeat (go_big_quiet_step (fail))
              refine wpQuiet_nil ?_
              clear t2 t3
              refine oneG 18 2 rfl (by kernel_rfl) rfl ?_
              go_wp2_with fail
              refine (HOK.out.since (j : Int) HBt.out.rep (by unfold isI64; omega)).mono ?_
              rintro e y3 ⟨rfl, hb3⟩
              rw [HSi.out]
              have HB3 := Lib.hid (HBt.out.below HOK.out hb3)
              clear HBt
              go_wp2
              refine ⟨hb3, ?_⟩
              clear hb3
              refine segG (by kernel_rfl) (fun _ _ _ _ _ h => h) [26, 27] [_, _] 0 rfl rfl (by kernel_rfl) ?_
              repeat (go_big_quiet_step (fail))
              refine wpQuiet_nil ?_
              refine wpAnyG_done (by kernel_rfl) ?_
              go_wp2
              exact ⟨⟨j + 1, by omega, by go_num, HB3.out⟩, by simp [intOf]; omega⟩
            · have hdj : decide ((j : Int) < (m : Int)) = false := by simp; omega
              go_wp2_with fail
              refine (awake14_any HOK.out _).mono ?_
              rintro e y9 ⟨rfl, hb9⟩
              have Hbe := Lib.hid (HBl.out.bel.trans (hb9.mono HBl.out.bel.size))
              clear hb9
              go_wp2
              go_ret
              exact ⟨rfl, Hbe.out⟩
end Go.Proofs.Ytampdfmakhdliaa
