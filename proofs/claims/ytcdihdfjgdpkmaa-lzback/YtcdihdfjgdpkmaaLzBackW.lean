/-
  Layer 11: LzBack, walked from the contract of lz's functions.
-/
import Derived.Test.YtcdihdfjgdpkmaaLzExpandsW
import Derived.Deep.Cut
import Derived.Deep.CutRange
set_option maxRecDepth 100000
namespace Go.Proofs.Ytcdihdfjgdpkmaa
open Go.RowKit Go.Gar

set_option maxHeartbeats 4000000 in
theorem lzback_walk {G : World → Prop} (hOK : LzOK G) (A : Option Addr) (l d : List UInt8) (c m : Nat) (w : World) (hG : G w) (hc : l.length ≤ c) (hdl : d.length = m) (hm : m = min l.length 600) (hr : Rd w w.heap.size A d) :
    Calls Try.prog 5 #[.slice A l.length c] w fun e w' => e = .returned (.bool true) ∧ Below w.heap.size w w' := by
  have hm600 : m ≤ 600 := by omega
  have hmc : m ≤ c := by omega
  have HOK := Lib.hid hOK
  have HG := Lib.hid hG
  have HDl := Lib.hid hdl
  have HM := Lib.hid hm
  have HR := Lib.hid hr
  clear hOK hG hdl hm hr
  go_enter Try.func5, Try.ntmps5
  go_wp2_with fail
  refine (short11_any A l.length c m w HM.out hc).mono ?_
  rintro e w2 ⟨rfl, rfl⟩
  go_wp2_with fail
  refine (lzT_at HOK.out w2 A d m c _ HG.out HDl.out.symm rfl HR.out hmc (by omega)).mono ?_
  rintro e w3 ⟨A3, n3, c3, ts, rfl, hn3, hc3, hr3, ht3, hb3⟩
  have hle : n3 ≤ 600 := by
    rw [hn3, ← toks_len ts, ht3]
    have := Lz.tokens_len d
    have := HDl.out
    omega
  have HI := Lib.hid (tokens_i64 ht3)
  have HN3 := Lib.hid hn3
  have HR3 := Lib.hid hr3
  have HT3 := Lib.hid ht3
  have Hb3 := Lib.hid hb3
  clear hn3 hr3 ht3 hb3
  go_wp2_with fail
  refine (lzE_at HOK.out w3 A3 ts n3 c3 (m : Int) 0 d m (HOK.out.keep HG.out Hb3.out) HN3.out HR3.out hc3 (by omega) (by unfold isI64; omega) HI.out (by rw [HT3.out, Lz.expand_tokens d _ (by rw [HDl.out]; exact Int.le_refl _)]; rfl) (by rw [HT3.out, Lz.expand_tokens d _ (by rw [HDl.out]; exact Int.le_refl _)]) HDl.out.symm).mono ?_
  rintro e w5 ⟨A5, c5, rfl, hc5, hr5, hb5⟩
  have Hb5 := bb Hb3 hb5
  have HR35 := Lib.hid ((HR3.out.below hb5).more hb5.size)
  have hs1 := string_later_rd hr5 c5 ⟨w5, grows.refl _⟩
  have hs2 := string_later_rd ((HR.out.below Hb5.out).more Hb5.out.size) c ⟨w5, grows.refl _⟩
  rw [HDl.out] at hs1 hs2
  obtain ⟨S, hS⟩ : ∃ S : ByteArray, (⟨d.toArray⟩ : ByteArray) = S := ⟨_, rfl⟩
  rw [hS] at hs1 hs2
  clear hS hr5 hb5 HR3 Hb3
  go_upto_if 32 with fail
  clear hs1 hs2
  go_cut [7, 8] from 32 to 42 (fun _ _ wx => Below w5.heap.size w5 wx)
  case first =>
    by_cases h0 : m = 0
    · have hd0 : ¬ (0 : Int) < (m : Int) := by omega
      clear h0
      go_wp2_with fail
      go_meet
      case rel => exact Below.refl _ _
    · have hd0 : (0 : Int) < (m : Int) := by omega
      go_wp2_with fail
      have hless : Lz.expand (ts.map Tv.tok) ((m : Int) - 1) = (2, []) := by
        rw [HT3.out, ← HDl.out]
        exact Lz.expand_less d (by rw [HDl.out]; omega)
      refine (lzE_at HOK.out w5 A3 ts n3 c3 ((m : Int) - 1) 2 [] 0 (HOK.out.keep HG.out Hb5.out) HN3.out HR35.out hc3 (by omega) (by unfold isI64; omega) HI.out (by rw [hless]; rfl) (by rw [hless]) rfl).mono ?_
      rintro e w6 ⟨A6, c6, rfl, _, _, hb6⟩
      have Hb6 := Lib.hid hb6
      clear hb6 hless
      go_wp2
      go_meet
      case rel => exact Hb6.out
  case rest =>
    have Hbc := bb Hb5 hcut
    have HRc := Lib.hid ((HR35.out.below hcut).more hcut.size)
    clear hcut HR35 Hb5
    go_wp2
    go_loopw [9] (fun v W => ∃ i : Nat, i ≤ n3 ∧ v = .int .i64 (i : Int) ∧ Below wc.heap.size wc W) (fun v _ => n3 - (intOf v).toNat)
    case atStart => exact ⟨0, by omega, rfl, Below.refl _ _⟩
    case round =>
      obtain ⟨i, hi, rfl, hb⟩ := hrel
      have Hb := bb Hbc hb
      have HRr := Lib.hid ((HRc.out.below hb).more hb.size)
      have Hbi := Lib.hid hb
      clear hb
      by_cases hlt : i < n3
      · obtain ⟨t, ht⟩ : ∃ t, ts[i]? = some t := ⟨_, List.getElem?_eq_getElem (by rw [← HN3.out]; exact hlt)⟩
        have HTi := Lib.hid ht
        have hgd : Lz.good t.tok = true := (Lz.tokens_inv d).gd _ (by rw [← HT3.out]; exact List.mem_map_of_mem (List.mem_of_getElem? ht))
        obtain ⟨b, o, rfl, hbB, hcl⟩ := HRr.out.at_ ht
        have Hld := Lib.hid (load_T hcl (o + i * 3) (by omega))
        have HGd := Lib.hid hgd
        have HCl := Lib.hid hcl
        have HbB := Lib.hid hbB
        clear ht hgd hcl hbB
        go_wp2_with (refine wpList_load_at 30 (.tmp 51) rfl rfl t.cells.toArray Hld.out (by kernel_rfl) ?_)
        refine (lzG_at HOK.out wr t true HGd.out.symm (HOK.out.keep HG.out Hb.out) (HI.out t (List.mem_of_getElem? HTi.out)).1 (HI.out t (List.mem_of_getElem? HTi.out)).2).mono ?_
        rintro e w7 ⟨rfl, hb7⟩
        have Hb7 := Lib.hid (Hbi.out.trans (hb7.mono Hbi.out.size))
        obtain ⟨sl, hsl⟩ : ∃ sl, t.l.length = sl := ⟨_, rfl⟩
        have HSl := Lib.hid hsl
        have k0 := (hb7.cell (p := ⟨b, o + (3 * i + 0), none⟩) HbB.out).trans (HCl.out 0 _ (by omega) (show t.cells[0]? = some (.slice t.A t.l.length t.c) from rfl))
        rw [hsl, show o + (3 * i + 0) = o + i * 3 by omega] at k0
        by_cases hi0 : i = 0
        · subst hi0
          have d1 : decide (0 < ((0 : Nat) : Int)) = false := by decide
          clear hb7 hsl k0
          go_wp2
          exact ⟨⟨0 + 1, by omega, by go_num, Hb7.out⟩, by simp [intOf]; omega⟩
        · have d1 : decide (0 < (i : Int)) = true := by simp; omega
          by_cases h2 : sl = 0
          · have d2 : decide (0 < (sl : Int)) = false := by simp; omega
            clear hb7 hsl
            go_wp2
            exact ⟨⟨i + 1, by omega, by go_num, Hb7.out⟩, by simp [intOf]; omega⟩
          · have d2 : decide (0 < (sl : Int)) = true := by simp; omega
            obtain ⟨j, rfl⟩ : ∃ j, i = j + 1 := ⟨i - 1, by omega⟩
            obtain ⟨s, hs⟩ : ∃ s, ts[j]? = some s := ⟨_, List.getElem?_eq_getElem (by rw [← HN3.out]; omega)⟩
            obtain ⟨b', o', hA, _, hcl2⟩ := HRr.out.at_ hs
            obtain ⟨rfl, rfl⟩ : b = b' ∧ o = o' := by simpa using hA
            obtain ⟨pl, hpl⟩ : ∃ pl, s.l.length = pl := ⟨_, rfl⟩
            have k1 := (hb7.cell (p := ⟨b, o + (3 * j + 0), none⟩) HbB.out).trans (hcl2 0 _ (by omega) (show s.cells[0]? = some (.slice s.A s.l.length s.c) from rfl))
            rw [hpl, show o + (3 * j + 0) = o + j * 3 by omega] at k1
            have hap : pl ≠ 0 → pl = 128 := fun h => by
              have h1 := get_tok hs
              have h2' := get_tok HTi.out
              rw [HT3.out] at h1 h2'
              have := (Lz.tokens_inv d).ap j _ _ h1 h2' (fun e => h (by rw [← hpl, show s.l = [] from e]; rfl)) (fun e => h2 (by rw [← hsl, show t.l = [] from e]; rfl))
              rw [← hpl]; exact this
            have HAp := Lib.hid hap
            clear hb7 hsl hs hA hcl2 hpl hap
            by_cases h3 : pl = 0
            · have d3 : decide (0 < (pl : Int)) = false := by simp; omega
              go_wp2
              exact ⟨⟨j + 1 + 1, by omega, by go_num, Hb7.out⟩, by simp [intOf]; omega⟩
            · obtain rfl : pl = 128 := HAp.out h3
              go_wp2
              exact ⟨⟨j + 1 + 1, by omega, by go_num, Hb7.out⟩, by simp [intOf]; omega⟩
      · obtain rfl : i = n3 := by omega
        go_wp2_with fail
        refine (awake11_any HOK.out wr (HOK.out.keep HG.out Hb.out)).mono ?_
        rintro e w9 ⟨rfl, hb9⟩
        have Hb9 := bb Hb hb9
        clear hb9
        go_wp2
        go_ret
        exact ⟨by simp, Hb9.out⟩
end Go.Proofs.Ytcdihdfjgdpkmaa
