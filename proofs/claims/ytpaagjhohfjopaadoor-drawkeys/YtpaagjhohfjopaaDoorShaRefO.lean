/-
  The reference's Of of layer 5: contract.
-/
import Derived.Test.YtpaagjhohfjopaaDoorShaRefN
import Derived.Test.YtpaagjhohfjopaaDoorShaRefC
import Derived.Test.YtpaagjhohfjopaaDoorShaBits
import Derived.Test.YtpaagjhohfjopaaDoorShaL2
import Derived.Test.YtpaagjhohfjopaaDoorShaL3
import Derived.Test.YtpaagjhohfjopaaDoorShaL4
import Derived.Test.YtpaagjhohfjopaaDoorShaL5
set_option maxRecDepth 100000
namespace Go.Proofs.YtpaagjhohfjopaaDoor
open Go.RowKit Go.Gar

set_option maxHeartbeats 4000000 in
set_option maxRecDepth 100000 in
theorem refOf5_any (w : World) (AK AH : Option Addr) (cK cH : Nat) (A : Option Addr) (l : List UInt8) (len cap : Nat) (hK : RdV w w.heap.size AK (u32s Sha.kL)) (hH : RdV w w.heap.size AH (u32s Sha.hL))
    (hlen : len = l.length) (hr : Rd w w.heap.size A l) (hl : l.length ≤ 1048576) :
    Calls Tryd.prog 24 #[.agg #[.slice AK 64 cK, .slice AH 8 cH], .slice A len cap] w fun e w' => ∃ v, e = .returned v ∧ OwnB w' w.heap.size 5 v (Sha.of l) ∧ Below w.heap.size w w' := by
  obtain ⟨bk, ok, rfl, hbk, hck⟩ : ∃ b o, AK = some ⟨b, o, none⟩ ∧ b < w.heap.size ∧ ∀ i, i < 64 → w.cell? ⟨b, o + i, none⟩ = some (.int .u32 ((Sha.kL.getD i 0 : Nat) : Int)) := by
    rcases hK with h | ⟨b, o, h1, h2, h3⟩
    · exact absurd (congrArg List.length h) (by rw [u32s_len, Sha.kL_len]; simp)
    · exact ⟨b, o, h1, h2, fun i hi => h3 i _ (u32s_get _ i (by rw [Sha.kL_len]; exact hi))⟩
  obtain ⟨bh, oh, rfl, hbh, hch⟩ : ∃ b o, AH = some ⟨b, o, none⟩ ∧ b < w.heap.size ∧ ∀ i u, (u32s Sha.hL)[i]? = some u → w.cell? ⟨b, o + i, none⟩ = some u := by
    rcases hH with h | ⟨b, o, h1, h2, h3⟩
    · exact absurd (congrArg List.length h) (by rw [u32s_len, Sha.hL_len]; simp)
    · exact ⟨b, o, h1, h2, h3⟩
  have HCK := Lib.hid hck
  clear hK hH hck
  obtain ⟨w1, hw1⟩ : ∃ w1, w1 = w.alloc (.cells #[.slice (some ⟨bk, ok, none⟩) 64 cK, .slice (some ⟨bh, oh, none⟩) 8 cH] 25) := ⟨_, rfl⟩
  have hs1 : w1.heap.size = w.heap.size + 1 := by rw [hw1, World.size_alloc]
  have hb1 : Below w.heap.size w w1 := by rw [hw1]; exact below_alloc w _
  have hx1 : Blk w1 w.heap.size 25 [.slice (some ⟨bk, ok, none⟩) 64 cK, .slice (some ⟨bh, oh, none⟩) 8 cH] := by rw [hw1]; exact Blk.new w _ _
  have hb2 : Below w1.heap.size w1 (w1.alloc (.cells #[] 44)) := below_alloc w1 _
  obtain ⟨v3, w3, e3, ho3, hb3, -⟩ := appV (P := Tryd.prog) 23 23 Tryd.undU32s Tryd.infoU32 rfl (ownV_made w1 w1.heap.size 44 (Nat.le_refl _)) (by rw [World.size_alloc]; omega) ⟨bh, oh, none⟩ cH 8 (u32s Sha.hL) (u32s_one _) (by rw [u32s_len, Sha.hL_len]) (fun j u hu => by
    rw [Addr.add_lit, ← hch j u hu]
    exact ((hb1.trans (hb2.mono hb1.size)).cell (p := ⟨bh, oh + j, none⟩) hbh)) (by simp [u32s_len, Sha.hL_len]) (by omega)
  rw [List.nil_append] at ho3
  obtain ⟨gh, ch, resth, rfl, hgh, -, hBh⟩ := ho3.blk (by rw [u32s_len, Sha.hL_len]; omega)
  rw [u32s_len, Sha.hL_len] at e3
  have hb13 : Below w1.heap.size w1 w3 := hb2.trans hb3
  have hb03 : Below w.heap.size w w3 := hb1.trans (hb13.mono hb1.size)
  have hx3 := hx1.below hb13 (by omega)
  have hr3 : Rd w3 w3.heap.size A l := (hr.below hb03).more hb03.size
  have HR3 : Hid (Rd w3 w3.heap.size A l) := Lib.hid hr3
  have hf1 := (hx1.alloc (.cells #[] 44)).cell 1
  clear hr hr3 ho3 hb3 hb2 hch
  have HX3 := Lib.hid hx3
  have HBh := Lib.hid hBh
  have Hb03 := Lib.hid hb03
  have Hb13 := Lib.hid hb13
  have hghl := hBh.lt
  clear hx3 hBh hb03 hb13 hx1 hb1
  rw [hs1] at e3 hgh Hb13
  have Hgh := Lib.hid hgh
  have HL := Lib.hid hlen
  have HL2 := Lib.hid hl
  clear hgh hlen hl hs1
  subst hw1
  have hgh3 : w.heap.size + 1 ≤ gh := Hgh.out
  go_enter Tryd.func24, Tryd.ntmps24
  go_wp2_with (at_builtin; refine wpList_append_run rfl (.tmp 30) (.tmp 32) _ rfl rfl rfl e3 ?_)
  clear e3 hf1
  refine (message_any w3 A l len cap HL.out HR3.out HL2.out).mono ?_
  rintro e w4 ⟨vm, rfl, hom, hbm⟩
  obtain ⟨gm, cm, restm, rfl, hgm, -, hBm⟩ := hom.blk (by rw [Sha.msg, List.length_append, Sha.be8K_len]; omega)
  have hml := Sha.msg_len l
  have HOF : Hid (Sha.of l = Sha.out (Sha.hashN (Sha.msg l) ((Sha.msg l).length / 64))) := Lib.hid rfl
  have hmx : (Sha.msg l).length ≤ 1048700 := by
    have h1 : Sha.zeros l < 64 := Nat.mod_lt _ (by omega)
    have := HL2.out
    rw [Sha.msg, List.length_append, Sha.msgK_len, Sha.be8K_len]; omega
  have HR0 : Hid (Rnd w w4 w.heap.size gh gm (.slice (some ⟨bk, ok, none⟩) 64 cK) (.slice (some ⟨bh, oh, none⟩) 8 cH) (Sha.msg l) restm (Sha.hashN (Sha.msg l) 0).list resth) := Lib.hid
    ⟨HX3.out.below hbm (by omega), HBh.out.below hbm hghl, hBm, Hb03.out.trans (hbm.mono Hb03.out.size), Nat.le_refl _, by omega, by omega⟩
  clear hom hbm hBm HX3 HBh HR3 HL HL2 Hb03 Hb13
  generalize Sha.msg l = m at *
  obtain ⟨N, hN⟩ : ∃ N, m.length = 64 * N := ⟨m.length / 64, by omega⟩
  have HOF' : Hid (Sha.of l = Sha.out (Sha.hashN m N)) := Lib.hid (by rw [HOF.out, hN, Nat.mul_div_cancel_left _ (by omega)])
  rw [hN]
  clear HOF hml
  go_wp2
  go_loopw [7] (fun i wr => ∃ j : Nat, j ≤ N ∧ i = .int .i64 (64 * (j : Int)) ∧ Rnd w wr w.heap.size gh gm (.slice (some ⟨bk, ok, none⟩) 64 cK) (.slice (some ⟨bh, oh, none⟩) 8 cH) m restm (Sha.hashN m j).list resth) (fun i _ => 64 * N + 64 - (intOf i).toNat)
  case atStart => exact ⟨0, by omega, rfl, HR0.out⟩
  case round =>
    obtain ⟨j, hj, rfl, hR⟩ := hrel
    clear HR0
    by_cases hlt : j < N
    · have hdl : decide (64 * (j : Int) < 64 * (N : Int)) = true := by simp; omega
      have HR := Lib.hid hR
      obtain ⟨s, hs⟩ : ∃ s, Sha.hashN m j = s := ⟨_, rfl⟩
      have HS : Hid (Sha.hashN m (j + 1) = Sha.comp s m (64 * j)) := Lib.hid (by rw [← hs]; rfl)
      have HSok : Hid s.ok := Lib.hid (by rw [← hs]; exact Sha.hashN_ok m j)
      rw [hs] at HR
      clear hs hR
      obtain ⟨p, hp⟩ : ∃ p, 64 * j = p := ⟨_, rfl⟩
      have hpi : (64 : Int) * (j : Int) = (p : Int) := by omega
      have hpl : p + 64 ≤ m.length := by omega
      rw [hp] at HS
      rw [hpi] at hdl ⊢
      have HPI := Lib.hid hpi
      have HPJ := Lib.hid hp
      have HN := Lib.hid hN
      clear hp hpi hN
      have HO2 := Lib.hid (ownV_made wr wr.heap.size 44 (Nat.le_refl _))
      have Hb2 := Lib.hid (below_alloc wr (.cells #[] 44))
      have hgm4 := HR.out.m.lt
      go_wp2
      generalize wr.alloc (.cells #[] 44) = wi at HO2 Hb2 ⊢
      refine shaL2 (fun _ _ _ _ _ h => h) HN.out.symm hpl hmx HR.out.m HO2.out Hb2.out ?_
      intros
      rename_i v2 w5 hO5 hb5
      have hwl5 := Sha.wK_len m p 64
      obtain ⟨gw, cw, restw, rfl, hgw, -, hBw⟩ := hO5.blk (by rw [u32s_len, hwl5]; omega)
      have HBw := Lib.hid hBw
      have R5 := HR.out.on hb5 hgm4
      have hs5 := hb5.size
      rw [u32s_len, hwl5]
      have hb6 : Below w5.heap.size w5 (w5.alloc (.cells #[] 44)) := below_alloc w5 _
      obtain ⟨v6, w6, e6, ho6, hb66, -⟩ := appV (P := Tryd.prog) 23 23 Tryd.undU32s Tryd.infoU32 rfl (ownV_made w5 w5.heap.size 44 (Nat.le_refl _)) (by rw [World.size_alloc]; omega) ⟨gh, 0, none⟩ ch 8 (u32s s.list) (u32s_one _) (by rw [u32s_len, Sha.St.list_len]) (fun i u hu => by
        rw [Addr.add_lit, Nat.zero_add, ((R5.h.below hb6 R5.h.lt)).cell, List.getElem?_append_left (List.getElem?_eq_some_iff.1 hu).1, hu]) (by rw [u32s_len, Sha.St.list_len]; simp) (by omega)
      rw [List.nil_append] at ho6
      obtain ⟨gv, cv, restv, rfl, hgv, -, hBv⟩ := ho6.blk (by rw [u32s_len, Sha.St.list_len]; omega)
      rw [u32s_len, Sha.St.list_len] at e6
      have hb56 : Below w5.heap.size w5 w6 := hb6.trans hb66
      have R6 := R5.on hb56 (by omega)
      have hK6 : ∀ i, i < 64 → w6.cell? ⟨bk, ok + i, none⟩ = some (.int .u32 ((Sha.kL.getD i 0 : Nat) : Int)) := fun i hi => cell_bel R6.below (HCK.out i hi)
      have hgm6 : gm < w6.heap.size := R6.m.lt
      have HR6 := Lib.hid R6
      have HBv := Lib.hid hBv
      have HK6 := Lib.hid hK6
      have HW6 := Lib.hid (hBw.below hb56 hBw.lt)
      clear R5 R6 hBv hK6 hBw hb6 hb66 hb56 ho6 hO5 hb5 HBw HR
      go_wp2_with (at_builtin; refine wpList_append_run rfl (.tmp 129) (.tmp 130) _ rfl rfl rfl e6 ?_)
      clear e6
      refine shaL3 (lo := gm) (fun _ _ _ _ _ h => h) (by omega) hgm6 hwl5 (Sha.wK_lt m p 64) HSok.out HR6.out.box HK6.out HW6.out HBv.out ?_
      intros
      rename_i g7 c7 rest7 w7 hB7 hg7 hb7
      have HR7 := Lib.hid (HR6.out.on hb7 hgm6)
      have HB7 := Lib.hid hB7
      clear HR6 HBv HK6 HW6 hB7 hb7
      go_wp2
      refine shaL4 (fun _ _ _ _ _ h => h) (Sha.St.list_len s) (Sha.St.list_len _) HSok.out (Sha.vK_ok _ HSok.out 64) HR7.out HB7.out hg7 ?_
      intros
      rename_i w8 hR8
      rw [Sha.addK_end, show s.add (Sha.vK (Sha.wK m p 64) s 64) = Sha.comp s m p from rfl, ← HS.out] at hR8
      have HR8 := Lib.hid hR8
      clear HR7 HB7 hR8
      go_wp2
      refine ⟨⟨j + 1, by omega, ?_, HR8.out⟩, ?_⟩
      · rw [← HPI.out]; congr 1
      · have := HPJ.out
        simp [intOf]; omega
    · obtain rfl : j = N := by omega
      have HR := Lib.hid hR
      have HO2 := Lib.hid (own_made wr wr.heap.size 5 (Nat.le_refl _))
      have Hb2 := Lib.hid (below_alloc wr (.cells #[] 5))
      clear hR
      go_wp2
      generalize wr.alloc (.cells #[] 5) = wi at HO2 Hb2 ⊢
      refine shaL5 (fun _ _ _ _ _ h => h) (Sha.St.list_len _) (Sha.hashN_ok m j) HR.out.h (hs := (Sha.hashN m j).list) HO2.out Hb2.out ?_
      intros
      rename_i v9 w9 hO9 hb9
      have HO9 : Hid (OwnB w9 wr.heap.size 5 v9 (Sha.of l)) := Lib.hid (by rw [HOF'.out]; exact hO9)
      have HB9 := Lib.hid (HR.out.below.trans (hb9.mono HR.out.below.size))
      clear hO9 hb9
      go_wp2
      go_ret
      exact ⟨_, rfl, ownB_lower HO9.out HR.out.below.size, HB9.out⟩
end Go.Proofs.YtpaagjhohfjopaaDoor
