/-
  Layer 12: TokenBack, walked from the contract of token's functions.
-/
import Derived.Test.YtnphmppngjfjfaaTokenDecodesW
import Derived.Test.YtnphmppngjfjfaaTokenEncodesW
import Derived.Deep.Cut
import Derived.Deep.CutRange
set_option maxRecDepth 100000
namespace Go.Proofs.Ytnphmppngjfjfaa
open Go.RowKit Go.Gar

theorem Lz.flat_le {l : List Lz.Tok} (h : ∀ t ∈ l, Lz.good t = true) : (l.flatMap Lz.encT).length ≤ 129 * l.length := by
  induction l with
  | nil => simp
  | cons t l ih =>
    rw [List.flatMap_cons, List.length_append, List.length_cons]
    have := ih (fun s hs => h s (by simp [hs]))
    have := Lz.encT_len (h t (by simp))
    omega

set_option maxHeartbeats 4000000 in
theorem tokenback_walk {G : World → Prop} (hOK : TokenOK G) (A B : Option Addr) (us : List Tv) (l d : List UInt8) (n c m k kb : Nat) (w : World) (hG : G w) (hc : n ≤ c) (hm : m = min n 60) (hul : us.length = m) (hr : RdT w w.heap.size A us) (hi : ∀ x ∈ us, isI64 x.n ∧ isI64 x.d)
    (hkb : l.length ≤ kb) (hdl : d.length = k) (hk : k = min l.length 600) (hrd : Rd w w.heap.size B d) :
    Calls Try.prog 5 #[.slice A n c, .slice B l.length kb] w fun e w' => e = .returned (.bool true) ∧ Below w.heap.size w w' := by
  have hm60 : m ≤ 60 := by omega
  have hmc : m ≤ c := by omega
  have hk600 : k ≤ 600 := by omega
  have hkk : k ≤ kb := by omega
  obtain ⟨E, hE⟩ : ∃ E, (Lz.encode (us.map Tv.tok)).1 = E := ⟨_, rfl⟩
  obtain ⟨O, hO⟩ : ∃ O, (Lz.encode (us.map Tv.tok)).2 = O := ⟨_, rfl⟩
  obtain ⟨on, hon⟩ : ∃ on, on = O.length := ⟨_, rfl⟩
  have HOK := Lib.hid hOK
  have HG := Lib.hid hG
  have HM := Lib.hid hm
  have HUl := Lib.hid hul
  have HR := Lib.hid hr
  have HI := Lib.hid hi
  have HE := Lib.hid hE
  have HO := Lib.hid hO
  have HOn := Lib.hid hon
  have HDl := Lib.hid hdl
  have HK := Lib.hid hk
  have HRd := Lib.hid hrd
  clear hOK hG hm hul hr hi hE hO hon hdl hk hrd
  go_enter Try.func5, Try.ntmps5
  go_wp2_with fail
  refine (few12_any A n c m w HM.out hc).mono ?_
  rintro e w1 ⟨rfl, rfl⟩
  go_wp2_with fail
  refine (tokE_at HOK.out w1 A us m c (E : Int) O on HG.out HUl.out.symm HR.out hmc (by omega) HI.out (by rw [HE.out]) HO.out.symm HOn.out).mono ?_
  rintro e w2 ⟨A2, c2, rfl, hc2, hr2, hb2⟩
  have HR2 := Lib.hid hr2
  have Hb2 := Lib.hid hb2
  clear hr2 hb2
  go_upto_if 20 with fail
  go_cut [7, 8] from 20 to 34 (fun _ _ wx => Below w2.heap.size w2 wx)
  case first =>
    rcases Lz.encode_cases (us.map Tv.tok) with ⟨hg, he⟩ | he
    · obtain rfl : E = 0 := by rw [← HE.out, he]
      have hOe : O = (us.map Tv.tok).flatMap Lz.encT := by rw [← HO.out, he]
      have hdec : Lz.decode O = (0, us.map Tv.tok) := by rw [hOe]; exact Lz.decode_encode hg
      have hol : on ≤ 100000 := by
        rw [HOn.out, hOe]
        have := Lz.flat_le hg
        rw [toks_len, HUl.out] at this
        omega
      have HDec := Lib.hid hdec
      clear hg he hOe hdec
      go_wp2_with fail
      refine (tokD_at HOK.out w2 A2 O on c2 0 _ (HOK.out.keep HG.out Hb2.out) HOn.out HR2.out hc2 hol (by rw [HDec.out]; rfl) rfl).mono ?_
      rintro e w3 ⟨A3, n3, c3, ts, rfl, hn3, hc3, hr3, ht3, hb3⟩
      rw [HDec.out] at ht3
      have HN3 := Lib.hid hn3
      have HR3 := Lib.hid hr3
      have HT3 := Lib.hid ht3
      have Hb3 := Lib.hid hb3
      have Hb23 := bb Hb2 hb3
      have hle : n3 ≤ 60 := by
        rw [hn3, ← toks_len ts, ht3, toks_len, HUl.out]
        exact hm60
      clear hn3 hr3 ht3 hb3
      go_wp2_with fail
      refine (few12_any A n c m w3 HM.out hc).mono ?_
      rintro e w4 ⟨rfl, rfl⟩
      go_wp2_with fail
      refine (refEven_any A3 A ts us n3 m c3 c w4 HN3.out HUl.out.symm HR3.out ((HR.out.below Hb23.out).more Hb23.out.size) (by omega) true (by rw [HT3.out]; simp)).mono ?_
      rintro e w5 ⟨rfl, hb5⟩
      have Hb5 := bb Hb3 hb5
      clear hb5
      go_wp2
      go_meet
      case rel => exact Hb5.out
    · obtain rfl : E = 3 := by rw [← HE.out, he]
      clear he
      go_wp2_with fail
      go_meet
      case rel => exact Below.refl _ _
  case rest =>
    have Hbc := bb Hb2 hcut
    clear hcut HR2 Hb2
    obtain ⟨F, hF⟩ : ∃ F, (Lz.decode d).1 = F := ⟨_, rfl⟩
    obtain ⟨T, hT⟩ : ∃ T, (Lz.decode d).2 = T := ⟨_, rfl⟩
    have HF := Lib.hid hF
    have HT := Lib.hid hT
    clear hF hT
    go_wp2_with fail
    refine (short12_any B l.length kb k wc HK.out hkb).mono ?_
    rintro e w6 ⟨rfl, rfl⟩
    go_wp2_with fail
    refine (tokD_at HOK.out w6 B d k kb (F : Int) T (HOK.out.keep HG.out Hbc.out) HDl.out.symm ((HRd.out.below Hbc.out).more Hbc.out.size) hkk (by omega) (by rw [HF.out]) HT.out.symm).mono ?_
    rintro e w7 ⟨A7, n7, c7, ts, rfl, hn7, hc7, hr7, ht7, hb7⟩
    have HN7 := Lib.hid hn7
    have HR7 := Lib.hid hr7
    have HT7 := Lib.hid ht7
    have Hb7 := bb Hbc hb7
    have hle : n7 ≤ 600 := by
      rw [hn7, ← toks_len ts, ht7, ← HT.out]
      have := Lz.decode_len (b := d)
      have := HDl.out
      omega
    clear hn7 hr7 ht7 hb7
    rcases Lz.decode_cases d with ⟨T', hd⟩ | hd
    · obtain rfl : F = 0 := by rw [← HF.out, hd]
      obtain rfl : T = T' := by rw [← HT.out, hd]
      obtain ⟨hg, hfl⟩ := Lz.decode_ok hd
      have hgs := goods_i64 (ts := ts) (by rw [HT7.out]; exact hg)
      have henc : Lz.encode (ts.map Tv.tok) = (0, d) := by
        rw [HT7.out]
        have := Lz.encd_of_good T [] hg
        rw [List.nil_append, hfl] at this
        exact this
      have HGs := Lib.hid hgs
      have HEn := Lib.hid henc
      clear hd hg hfl hgs henc
      go_wp2_with fail
      refine (tokE_at HOK.out w7 A7 ts n7 c7 0 d k (HOK.out.keep HG.out Hb7.out) HN7.out HR7.out hc7 (by omega) HGs.out (by rw [HEn.out]; rfl) (by rw [HEn.out]) HDl.out.symm).mono ?_
      rintro e w8 ⟨A8, c8, rfl, hc8, hr8, hb8⟩
      have Hb8 := bb Hb7 hb8
      have HR8 : Hid (Rd w8.drew w8.drew.heap.size A8 d) := Lib.hid hr8
      have Hb8d := Lib.hid Hb8.out.drew
      clear hr8 hb8 HR7 Hb7
      go_wp2_with fail
      refine wp_region_G grows (by kernel_rfl) ?_
      clear Hb8
      generalize w8.drew = w9 at *
      refine oneG 0 13 rfl (by kernel_rfl) rfl ?_
      go_wp2_with fail
      refine (awake12_any HOK.out w9 (HOK.out.keep HG.out Hb8d.out)).mono ?_
      rintro e w10 ⟨rfl, hb10⟩
      have Hb10 := bb Hb8d hb10
      have hs1 := string_later_rd ((HR8.out.below hb10).more hb10.size) c8
      have hs2 := string_later_rd ((HRd.out.below Hb10.out).more Hb10.out.size) kb
      rw [HDl.out] at hs1 hs2
      obtain ⟨S, hS⟩ : ∃ S : ByteArray, (⟨d.toArray⟩ : ByteArray) = S := ⟨_, rfl⟩
      rw [hS] at hs1 hs2
      clear hS HR8 Hb8d
      go_wp2
      refine ⟨hb10, ?_⟩
      clear hb10
      refine segG (by kernel_rfl) (fun _ _ _ _ _ h => h) [1, 2, 3, 4, 5, 6, 7, 8] [_, _, _, _, _, _, _, _] 5 rfl rfl (by kernel_rfl) ?_
      repeat (go_big_quiet_step (fail))
      refine wpQuiet_nil ?_
      refine oneG 9 4 rfl (by kernel_rfl) rfl ?_
      go_wp2_with fail
      refine (short12_any B l.length kb k w10 HK.out hkb).mono ?_
      rintro e w11 ⟨rfl, rfl⟩
      go_wp2
      refine ⟨grows.refl _, ?_⟩
      refine segG (by kernel_rfl) (fun _ _ _ _ _ h => h) [10, 11, 12, 13] [_, _, _, _] 0 rfl rfl (by kernel_rfl) ?_
      repeat (go_big_quiet_step (fail))
      refine wpQuiet_nil ?_
      refine wpAnyG_done (by kernel_rfl) ?_
      go_wp2
      go_ret
      exact ⟨by simp, Hb10.out⟩
    · obtain rfl : F = 12 := by rw [← HF.out, hd]
      obtain rfl : T = [] := by rw [← HT.out, hd]
      obtain rfl : n7 = 0 := by rw [HN7.out, ← toks_len ts, HT7.out]; rfl
      clear hd
      go_wp2_with fail
      refine (awake12_any HOK.out w7 (HOK.out.keep HG.out Hb7.out)).mono ?_
      rintro e w8 ⟨rfl, hb8⟩
      have Hb8 := bb Hb7 hb8
      clear hb8
      go_wp2
      go_ret
      exact ⟨by simp, Hb8.out⟩
end Go.Proofs.Ytnphmppngjfjfaa
