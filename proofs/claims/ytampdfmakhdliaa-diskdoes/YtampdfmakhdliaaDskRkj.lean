/-
  Layer 14: the reference's disk: Crash.
-/
import Derived.Test.YtampdfmakhdliaaDskRfj
import Derived.Deep.Cut
import Derived.Deep.CutRange
set_option maxRecDepth 100000
namespace Go.Gar.Dsk
/-- The first k sectors crashed. -/
def crK (keep torn cut : Int) (l : List Sec) (k : Nat) : List Sec := (crashL keep torn cut 0 l).take k ++ l.drop k
theorem crK_zero (keep torn cut : Int) (l : List Sec) : crK keep torn cut l 0 = l := by simp [crK]
theorem crK_all (keep torn cut : Int) (l : List Sec) : crK keep torn cut l l.length = crashL keep torn cut 0 l := by
  unfold crK
  rw [List.drop_length, List.append_nil, List.take_of_length_le (by rw [crashL_len]; exact Nat.le_refl _)]
theorem crK_len (keep torn cut : Int) (l : List Sec) (k : Nat) : (crK keep torn cut l k).length = l.length := by
  unfold crK
  rw [List.length_append, List.length_take, List.length_drop, crashL_len]; omega
theorem crK_get {keep torn cut : Int} {l : List Sec} {k : Nat} {x : Sec} (h : l[k]? = some x) : (crK keep torn cut l k)[k]? = some x := by
  have hk := (List.getElem?_eq_some_iff.1 h).1
  unfold crK
  rw [List.getElem?_append_right (by rw [List.length_take]; omega), List.length_take, crashL_len, List.getElem?_drop, show k + (k - min k l.length) = k by omega]
  exact h
theorem crK_set {keep torn cut : Int} {l : List Sec} {k : Nat} {x y : Sec} (h : l[k]? = some x) (hy : (crashL keep torn cut 0 l)[k]? = some y) : (crK keep torn cut l k).set k y = crK keep torn cut l (k + 1) := by
  have hk := (List.getElem?_eq_some_iff.1 h).1
  unfold crK
  have e : l.drop k = x :: l.drop (k + 1) := by
    rw [List.drop_eq_getElem_cons hk]
    congr 1
    rw [List.getElem?_eq_getElem hk] at h
    exact Option.some.inj h
  rw [e, List.take_add_one, hy, List.set_append_right _ _ (by rw [List.length_take]; omega), List.length_take, crashL_len, show k - min k l.length = 0 by omega]
  simp
/-- A pending sector's turn. -/
theorem crK_wet {keep torn cut : Int} {l : List Sec} {k : Nat} {x : Sec} (h : l[k]? = some x) (hw : x.wet = true) : (crK keep torn cut l k).set k (cut1 (stays keep torn cut (wetN l k)) x) = crK keep torn cut l (k + 1) := by
  refine crK_set h ?_
  rw [crashL_get, h, Nat.zero_add]
  simp [hw]
/-- One that is not pending. -/
theorem crK_dry {keep torn cut : Int} {l : List Sec} {k : Nat} {x : Sec} (h : l[k]? = some x) (hw : x.wet = false) : crK keep torn cut l k = crK keep torn cut l (k + 1) := by
  rw [← crK_set (y := x) h (by rw [crashL_get, h]; simp [hw])]
  apply List.ext_getElem?
  intro i
  by_cases hi : i = k
  · subst hi
    rw [List.getElem?_set_self (by rw [crK_len]; exact (List.getElem?_eq_some_iff.1 h).1), crK_get h]
  · rw [List.getElem?_set_ne (by omega)]
end Go.Gar.Dsk
namespace Go.Proofs.Ytampdfmakhdliaa
open Go.RowKit Go.Gar
open Go.Gar.Dsk (Dsk Sec)

theorem bit_run (keep : Int) (q : Nat) : ((IntKind.u64.wrap keep / 2 ^ q).tmod 2 == 1) = decide ((keep % 18446744073709551616).toNat / 2 ^ q % 2 = 1) := by
  rw [IntKind.wrap_u64]
  obtain ⟨X, hX⟩ : ∃ X : Nat, X = (keep % 18446744073709551616).toNat := ⟨_, rfl⟩
  have hx : (keep % 18446744073709551616 : Int) = (X : Int) := by omega
  rw [← hX, hx]
  have h2 : ((X : Int) / 2 ^ q) = ((X / 2 ^ q : Nat) : Int) := by simp
  rw [h2]
  generalize X / 2 ^ q = Y
  rw [Int.tmod_eq_emod_of_nonneg (by omega), Bool.eq_iff_iff]
  simp
  omega
set_option maxHeartbeats 4000000 in
set_option maxRecDepth 100000 in
theorem refCrash14_any {w : World} {F : Nat → Prop} {g : Nat} {d : Dsk} (h : RefD w F g d) (keep torn cut : Int) (hk : isI64 keep) (ht : isI64 torn) (hc : isI64 cut) :
    Calls Try.prog 15 #[.pointer (some ⟨g, 0, none⟩), .int .i64 keep, .int .i64 torn, .int .i64 cut] w fun e w' => e = .returned (.tuple #[]) ∧ ∃ F', RefD w' F' g (Dsk.crash d keep torn cut) ∧ (∀ j, F' j → F j ∨ w.heap.size ≤ j) ∧ Only F w w' := by
  obtain ⟨m, hm⟩ : ∃ m, m = d.secs.length := ⟨_, rfl⟩
  have hm4 : m ≤ 4096 := by
    obtain ⟨_, _, _, _, _, _, _, _, hh⟩ := h
    rw [hm]; exact hh.ok.len
  obtain ⟨D, hD⟩ : ∃ D, D = Dsk.crash d keep torn cut := ⟨_, rfl⟩
  rw [← hD]
  have HD := Lib.hid (show D = ⟨Dsk.crK keep torn cut d.secs m, none, d.many⟩ by rw [hD, hm, Dsk.crK_all]; rfl)
  have Hm := Lib.hid hm
  have H0 := Lib.hid (show RefD w F g ⟨Dsk.crK keep torn cut d.secs 0, d.fuse, d.many⟩ by rw [Dsk.crK_zero]; exact h)
  have Hmono := Lib.hid (show ∀ k, k ≤ m → Dsk.wetN d.secs k ≤ 4096 from fun k hk => by
    unfold Dsk.wetN
    refine Nat.le_trans (List.length_filter_le _ _) ?_
    rw [List.length_take]; omega)
  have Hk := Lib.hid hk
  have Ht := Lib.hid ht
  have Hc := Lib.hid hc
  clear hD hm h hk ht hc
  go_enter Try.func15, Try.ntmps15
  go_wp2
  go_loopw [8, 9] (fun nv i w' => ∃ k : Nat, k ≤ m ∧ i = .int .i64 k ∧ nv = .int .i64 ((Dsk.wetN d.secs k : Nat) : Int) ∧ ∃ F', RefD w' F' g ⟨Dsk.crK keep torn cut d.secs k, d.fuse, d.many⟩ ∧ (∀ j, F' j → F j ∨ w.heap.size ≤ j) ∧ Only F w w') (fun _ i _ => m - (intOf i).toNat)
  case atStart => exact ⟨0, by omega, rfl, rfl, F, H0.out, fun j hj => .inl hj, Only.refl _ _⟩
  case round =>
    obtain ⟨k, hk, rfl, rfl, F1, hR, hF, ho⟩ := hrel
    clear H0
    obtain ⟨q, hqq⟩ : ∃ q, q = Dsk.wetN d.secs k := ⟨_, rfl⟩
    have hq4 : q ≤ 4096 := by rw [hqq]; exact Hmono.out k hk
    rw [← hqq]
    have Hq := Lib.hid hqq
    have hR2 := hR
    obtain ⟨vG, vS, vA, vO, vW, gs, ss, f, hh⟩ := hR2
    have hc0 := hh.blk.cell 0
    have hc4 := hh.blk.cell 4
    simp only [List.getElem?_cons_zero, List.getElem?_cons_succ] at hc0 hc4
    obtain ⟨A, c, e, _⟩ := hh.rG.slice
    rw [List.length_map, hh.lG, Dsk.crK_len, ← Hm.out] at e
    rw [e] at hc0
    have HR := Lib.hid hR
    have HF := Lib.hid hF
    have Ho := Lib.hid ho
    have Hh := Lib.hid hh
    clear hR hF ho hh e hqq
    by_cases h1 : k < m
    · have hd : decide ((k : Int) < (m : Int)) = true := by simp; omega
      obtain ⟨x, hx⟩ : ∃ x, d.secs[k]? = some x := ⟨_, List.getElem?_eq_getElem (by rw [← Hm.out]; exact h1)⟩
      have Hx := Lib.hid hx
      have huW : ((Dsk.crK keep torn cut d.secs k).map fun s => Value.bool s.wet)[k]? = some (.bool x.wet) := by rw [List.getElem?_map, Dsk.crK_get hx]; rfl
      obtain ⟨gW, hixW, _, _, cellW, _⟩ := row_at Try.undBs Try.sizeB1 Hh.out.rW huW
      have hnx := Dsk.wetN_succ hx
      rw [← Hq.out] at hnx
      have Hnx := Lib.hid hnx
      clear hx huW hnx
      cases hw : x.wet with
      | false =>
        rw [hw] at cellW
        have Hdry := Lib.hid (Dsk.crK_dry (keep := keep) (torn := torn) (cut := cut) Hx.out hw)
        have Hw := Lib.hid hw
        clear hw
        go_wp2
        exact ⟨⟨k + 1, by omega, by go_num, by rw [Hnx.out, Hw.out]; go_num, F1, by rw [← Hdry.out]; exact HR.out, HF.out, Ho.out⟩, by simp [intOf]; omega⟩
      | true =>
        rw [hw] at cellW
        have Hw := Lib.hid hw
        clear hw
        have Hst := Lib.hid (show Dsk.stays keep torn cut q = if (q : Int) = torn then cut else if Dsk.bit keep q then 32 else 0 from rfl)
        have hbr := bit_run keep q
        have Hwet := Lib.hid (Dsk.crK_wet (keep := keep) (torn := torn) (cut := cut) Hx.out Hw.out)
        have hgetx := Dsk.crK_get (keep := keep) (torn := torn) (cut := cut) Hx.out
        have Hgx := Lib.hid hgetx
        rw [← Hq.out] at Hwet
        obtain ⟨s0, hs0⟩ : ∃ s0, gs[k]? = some s0 := ⟨_, List.getElem?_eq_getElem (show k < gs.length by rw [Hh.out.lG, Dsk.crK_len, ← Hm.out]; exact h1)⟩
        obtain ⟨s1, hs1⟩ : ∃ s1, ss[k]? = some s1 := ⟨_, List.getElem?_eq_getElem (show k < ss.length by rw [Hh.out.lS, Dsk.crK_len, ← Hm.out]; exact h1)⟩
        have Hs0 := Lib.hid hs0
        have Hs1 := Lib.hid hs1
        clear hgetx hs0 hs1
        by_cases h62 : q < 62
        · have hd62 : decide ((q : Int) < 62) = true := by simp; omega
          cases hb : decide ((keep % 18446744073709551616).toNat / 2 ^ q % 2 = 1) with
          | true =>
            rw [hb] at hbr
            have Hbit := Lib.hid (show Dsk.bit keep q = true by rw [Dsk.bit, hb]; simp [h62])
            clear hb
            by_cases htm : (q : Int) = torn
            · have htb : ((q : Int) == torn) = true := by simpa using htm
              have HstV := Lib.hid (show Dsk.stays keep torn cut q = cut by rw [Hst.out, if_pos htm])
              clear htm
              by_cases hcut : cut < 32
              · have hcd : decide (cut < 32) = true := by simpa using hcut
                have hhS := Hh.out.hS k s1 x Hs1.out Hgx.out
                have hsb : s1.b < wr.heap.size := Hh.out.lt _ (Hh.out.fss s1 (List.mem_of_getElem? Hs1.out))
                have hbl := below_alloc wr (.cells #[] 5)
                have huS : (ss.map Slc.v)[k]? = some s1.v := by rw [List.getElem?_map, Hs1.out]; rfl
                obtain ⟨gS, hixS, oS, ltS, cellS, _⟩ := row_at Try.undSls Try.sizeSl Hh.out.rS huS
                have c1 : (wr.alloc (.cells #[] 5)).cell? ⟨g, 1, none⟩ = some vS := (hbl.cell (p := ⟨g, 1, none⟩) Hh.out.blk.lt).trans (Hh.out.blk.cell 1)
                have cS : (wr.alloc (.cells #[] 5)).cell? ⟨gS, k, none⟩ = some (.slice (some ⟨s1.b, 0, none⟩) 32 s1.c) := (hbl.cell (p := ⟨gS, k, none⟩) ltS).trans cellS
                obtain ⟨v', W2, e1, ho', hb', _⟩ := app_rd (P := Try.prog) (w := wr.alloc (.cells #[] 5)) 40 40 Try.und22 Try.info5 (own_made wr wr.heap.size 5 (Nat.le_refl _)) hbl.size s1.c ((hhS.rd hsb).below hbl) (by rw [hhS.2.1]; simp)
                rw [hhS.2.1] at e1
                rw [List.nil_append] at ho'
                obtain ⟨g9, cap, rest, e9, hg9, hcap, hB9⟩ := ho'.blk (by rw [hhS.2.1]; omega)
                rw [hhS.2.1] at e9 hcap
                subst e9
                have Hsl := Lib.hid hhS.2.1
                have hbW := hbl.trans hb'
                have H4 := Lib.hid (Hh.out.below hbW)
                have HltW := Lib.hid Hh.out.lt
                have Hg9 := Lib.hid hg9
                have Hcap := Lib.hid hcap
                have HB9 := Lib.hid hB9
                have Ho4 := Lib.hid (Ho.out.then (Only.of_below F1 hbW) HF.out)
                have HwW := Lib.hid Ho.out.size
                have HE1 := Lib.hid e1
                clear hhS hsb hbl huS oS ltS cellS e1 ho' hb' hg9 hcap hB9 hbW
                go_wp2_with (at_builtin; refine wpList_append_run rfl (.tmp 47) (.tmp 54) _ rfl rfl rfl HE1.out ?_)
                clear c1 cS hixS hc0 hc4 hixW cellW HE1 Hh Ho HR
                go_loopw [12] (fun i w' => ∃ k2 : Nat, k2 ≤ cut.toNat ∧ i = .int .i64 k2 ∧ W2.grownBy w' (some g9) ∧ Blk w' g9 5 (u8s (x.good.take k2 ++ x.sure.drop k2) ++ rest)) (fun i _ => cut.toNat - (intOf i).toNat)
                case atStart => exact ⟨0, Nat.zero_le _, rfl, World.grownBy.refl _ _, by simpa using HB9.out⟩
                case round =>
                  obtain ⟨k2, hk2, rfl, hgr, hB⟩ := hrel
                  have hF9 : ∀ j, F1 j → j ≠ g9 := fun j hj e => by have := HltW.out j hj; have := Hg9.out; omega
                  have H5 := Lib.hid (H4.out.keep hgr.size (fun j hj => hgr.block j (H4.out.lt j hj) (fun e => hF9 j hj (Option.some.inj e))))
                  have Hgr := Lib.hid hgr
                  have HB := Lib.hid hB
                  clear hgr hB
                  by_cases hlt : (k2 : Int) < cut
                  · have hd2 : decide ((k2 : Int) < cut) = true := by simpa using hlt
                    have hk32 : k2 < 32 := by omega
                    have hhG := H5.out.hG k s0 x Hs0.out Hgx.out
                    have huG : (gs.map Slc.v)[k]? = some s0.v := by rw [List.getElem?_map, Hs0.out]; rfl
                    obtain ⟨gG, hixG, _, _, cellG, _⟩ := row_at Try.undSls Try.sizeSl H5.out.rG huG
                    have c0 := H5.out.blk.cell 0
                    simp only [List.getElem?_cons_zero] at c0
                    unfold Slc.v at cellG
                    obtain ⟨_, hgl, rest0, hB0⟩ := hhG
                    obtain ⟨cb, hcb⟩ : ∃ cb, x.good[k2]? = some cb := ⟨_, List.getElem?_eq_getElem (by rw [hgl]; exact hk32)⟩
                    have cg : wr.cell? ⟨s0.b, k2, none⟩ = some (.int .u8 (cb.toNat : Int)) := by
                      rw [hB0.cell, List.getElem?_append_left (by rw [u8s_len, hgl]; exact hk32), u8s_get, hcb]; rfl
                    have hml : (x.good.take k2 ++ x.sure.drop k2).length = 32 := by rw [List.length_append, List.length_take, List.length_drop, hgl, Hsl.out]; omega
                    obtain ⟨ob, hob⟩ : ∃ ob, (x.good.take k2 ++ x.sure.drop k2)[k2]? = some ob := ⟨_, List.getElem?_eq_getElem (by rw [hml]; exact hk32)⟩
                    have c9 : wr.cell? ⟨g9, k2, none⟩ = some (.int .u8 (ob.toNat : Int)) := by
                      rw [HB.out.cell, List.getElem?_append_left (by rw [u8s_len, hml]; exact hk32), u8s_get, hob]; rfl
                    have f9 := HB.out.frozen k2
                    have hnext : (u8s (x.good.take k2 ++ x.sure.drop k2) ++ rest).set k2 (.int .u8 (cb.toNat : Int)) = u8s (x.good.take (k2 + 1) ++ x.sure.drop (k2 + 1)) ++ rest := by
                      rw [List.set_append_left _ _ (by rw [u8s_len, hml]; exact hk32)]
                      congr 1
                      have h2 : ∀ z : UInt8, (u8s (x.good.take k2 ++ x.sure.drop k2)).set k2 (.int .u8 (z.toNat : Int)) = u8s ((x.good.take k2 ++ x.sure.drop k2).set k2 z) := fun z => by simp [u8s, List.map_set]
                      rw [h2]
                      congr 1
                      rw [List.set_append_right _ _ (by rw [List.length_take, hgl]; omega), List.length_take, hgl, show k2 - min k2 32 = 0 by omega, List.take_add_one, hcb]
                      rw [List.drop_eq_getElem_cons (show k2 < x.sure.length by rw [Hsl.out]; exact hk32), List.set_cons_zero]
                      simp [Option.toList]
                    have Hnext := Lib.hid hnext
                    clear hnext hob hml hcb hgl hB0 huG
                    go_wp2
                    refine ⟨⟨k2 + 1, by omega, by go_num, grown_set Hgr.out _, ?_⟩, by simp [intOf]; omega⟩
                    rw [← Hnext.out]
                    exact HB.out.set_ k2 _
                  · have hd2 : decide ((k2 : Int) < cut) = false := by simpa using hlt
                    have hk2e : k2 = cut.toNat := by omega
                    have Hk2e := Lib.hid hk2e
                    clear hk2e
                    go_wp2_with fail
                    refine wp_region_G (onlyG (rows3 vG vA vA wr.drew.heap.size)) (by kernel_rfl) ?_
                    have H6 := Lib.hid (H5.out.below (Below.refl _ wr).drew)
                    have HBm := Lib.hid (show Blk wr.drew g9 5 (u8s (x.good.take cut.toNat ++ x.sure.drop cut.toNat) ++ rest) by rw [← Hk2e.out]; exact HB.out)
                    have Ho6 := Lib.hid (show Only F w wr.drew from (Ho4.out.then (Only.of_grown (F := fun j => j = g9) Hgr.out (fun j hj => (Option.some.inj hj).symm)) (fun j hj => .inr (by have := Hg9.out; have := HwW.out; omega))).drew)
                    clear H5 HB Hgr H4 HB9
                    generalize wr.drew = W at *
                    have hRg : ¬ rows3 vG vA vA W.heap.size g := by
                      rintro (h | h | h | h)
                      · exact H6.out.neG h rfl
                      · exact H6.out.neA h rfl
                      · exact H6.out.neA h rfl
                      · have := H6.out.blk.lt; omega
                    have hl0 := cell_laterR H6.out.blk hRg (i := 0) rfl
                    have hl2 := cell_laterR H6.out.blk hRg (i := 2) rfl
                    have hl3 := cell_laterR H6.out.blk hRg (i := 3) rfl
                    have huG : (gs.map Slc.v)[k]? = some s0.v := by rw [List.getElem?_map, Hs0.out]; rfl
                    have huA : ((Dsk.crK keep torn cut d.secs k).map fun s => Value.int .i64 (s.age : Int))[k]? = some (.int .i64 (x.age : Int)) := by rw [List.getElem?_map, Hgx.out]; rfl
                    have huO : ((Dsk.crK keep torn cut d.secs k).map fun s => Value.int .i64 (s.old : Int))[k]? = some (.int .i64 (x.old : Int)) := by rw [List.getElem?_map, Hgx.out]; rfl
                    obtain ⟨gG, hixG, oG, _, cellG, fzG⟩ := row_at Try.undSls Try.sizeSl H6.out.rG huG
                    obtain ⟨gA, hixA, oA, _, cellA, fzA⟩ := row_at Try.undIs Try.sizeI1 H6.out.rA huA
                    obtain ⟨gO, hixO, oO, ltO, cellO, _⟩ := row_at Try.undIs Try.sizeI1 H6.out.rO huO
                    have nAG : gA ≠ gG := RowA.ne H6.out.rA H6.out.rG (by decide) oA oG
                    have nOG : gO ≠ gG := RowA.ne H6.out.rO H6.out.rG (by decide) oO oG
                    have nAO : gA ≠ gO := fun e => H6.out.nAO gA oA (by rw [e]; exact oO)
                    have hRO : ¬ rows3 vG vA vA W.heap.size gO := by
                      rintro (h | h | h | h)
                      · rw [oG] at h; exact nOG (Option.some.inj h).symm
                      · rw [oA] at h; exact nAO (Option.some.inj h)
                      · rw [oA] at h; exact nAO (Option.some.inj h)
                      · omega
                    have hlO : ∀ y : Later (onlyG (rows3 vG vA vA W.heap.size)) W, y.to.cell? ⟨gO, k, none⟩ = some (.int .i64 (x.old : Int)) := fun y =>
                      (World.cell?_of_block (w := W) (w' := y.to) (a := ⟨gO, k, none⟩) ((show Only (rows3 vG vA vA W.heap.size) W y.to from y.grown).block gO ltO hRO)).trans cellO
                    have cellA3 : (W.setCell ⟨gG, k, none⟩ (.slice (some ⟨g9, 0, none⟩) 32 cap)).cell? ⟨gA, k, none⟩ = some (.int .i64 (x.age : Int)) := (cell_set_ne nAG).trans cellA
                    have fzA3 : (W.setCell ⟨gG, k, none⟩ (.slice (some ⟨g9, 0, none⟩) 32 cap)).frozen? ⟨gA, k, none⟩ = false := (frozen_set_ne nAG).trans fzA
                    have OG := Lib.hid oG
                    have OA := Lib.hid oA
                    have NAG := Lib.hid nAG
                    clear huG huA huO oG oA oO nAG nOG nAO cellA fzA cellO hRg hRO ltO
                    refine segG (by kernel_rfl) (fun _ _ _ _ _ h => h) [0, 1, 2, 3, 4, 5, 6, 7, 8, 9] [_, _, _, _, _, _, _, _, _, _] 12 rfl rfl (by kernel_rfl) ?_
                    repeat (go_big_quiet_step (fail))
                    refine wpQuiet_nil ?_
                    refine segG (by kernel_rfl) (fun _ _ _ _ _ h => h) [10, 11, 12, 13, 14, 15, 16, 17, 18] [_, _, _, _, _, _, _, _, _] 3 rfl rfl (by kernel_rfl) ?_
                    repeat (go_big_quiet_step (fail))
                    refine wpQuiet_nil ?_
                    clear hl0 hl2 hl3 hlO hixG hixO
                    refine oneG 19 2 rfl (by kernel_rfl) rfl ?_
                    go_wp2
                    refine ⟨Only.set (p := ⟨gG, k, none⟩) (.inl OG.out) _, ?_⟩
                    refine segG (by kernel_rfl) (fun _ _ _ _ _ h => h) [20] [_] 1 rfl rfl (by kernel_rfl) ?_
                    repeat (go_big_quiet_step (fail))
                    refine wpQuiet_nil ?_
                    refine oneG 21 0 rfl (by kernel_rfl) rfl ?_
                    go_wp2
                    refine ⟨Only.set (p := ⟨gA, k, none⟩) (.inr (.inl OA.out)) _, ?_⟩
                    refine wpAnyG_done (by kernel_rfl) ?_
                    clear hixA cellG fzG cellA3 fzA3
                    obtain ⟨W5, hW5⟩ : ∃ W5, (W.setCell ⟨gG, k, none⟩ (.slice (some ⟨g9, 0, none⟩) 32 cap)).setCell ⟨gA, k, none⟩ (.int .i64 (x.old : Int)) = W5 := ⟨_, rfl⟩
                    rw [hW5]
                    obtain ⟨y, hyv⟩ : ∃ y : Sec, y = { x with good := x.good.take cut.toNat ++ x.sure.drop cut.toNat, age := x.old } := ⟨_, rfl⟩
                    have hkl : k < (Dsk.crK keep torn cut d.secs k).length := by rw [Dsk.crK_len, ← Hm.out]; exact h1
                    have hfar : ∀ j, j ≠ gG → j ≠ gA → W5.heap[j]? = W.heap[j]? := fun j h1 h2 => by rw [← hW5, Below.heap_setCell _ ⟨gA, k, none⟩ _ _ h2, Below.heap_setCell _ ⟨gG, k, none⟩ _ _ h1]
                    have hsz : W5.heap.size = W.heap.size := by rw [← hW5]; simp [World.setCell]
                    have hf1 := H6.out.ok.secs x (List.mem_of_getElem? Hgx.out)
                    have hyl : y.good.length = 32 := by rw [hyv]; exact Dsk.cut_len hf1.good hf1.sure (by omega)
                    have hfin : Dsk.Fine d.many y := ⟨hyl, by rw [hyv]; exact hf1.sure, by rw [hyv]; exact hf1.old, by rw [hyv]; exact hf1.old, fun e => by rw [hyv] at e; have e2 : x.wet = false := e; rw [Hw.out] at e2; cases e2⟩
                    have hlow : ∀ j, F1 j → j < g9 := fun j hj => Nat.lt_of_lt_of_le (HltW.out j hj) Hg9.out
                    have hS9 : Hold W5 ⟨g9, cap⟩ y.good := ⟨Hcap.out, hyl, rest, (hfar g9 (fun e => by have := hlow _ (H6.out.fG _ OG.out); omega) (fun e => by have := hlow _ (H6.out.fA _ OA.out); omega)).trans (by rw [hyv]; exact HBm.out)⟩
                    have hh1 := H6.out.hS k s1 x Hs1.out Hgx.out
                    have hS1 : Hold W5 s1 y.sure := by
                      rw [hyv]
                      exact hh1.keep (hfar s1.b (hh1.neRow H6.out.rG OG.out (by decide)) (hh1.neRow H6.out.rA OA.out (by decide)))
                    have rG' : RowA W5 40 vG ((gs.set k ⟨g9, cap⟩).map Slc.v) := by
                      rw [List.map_set, ← hW5]
                      have h1 := H6.out.rG.setAt OG.out (i := k) (by rw [List.length_map, H6.out.lG]; exact hkl) (.slice (some ⟨g9, 0, none⟩) 32 cap)
                      refine h1.keep fun j hj => ?_
                      rw [OG.out] at hj
                      obtain rfl := Option.some.inj hj
                      exact Below.heap_setCell _ ⟨gA, k, none⟩ _ _ (fun e => NAG.out e.symm)
                    have rS' : RowA W5 40 vS ((ss.set k s1).map Slc.v) := by
                      rw [set_same Hs1.out]
                      exact H6.out.rS.keep fun j hj => hfar j (fun e => by subst e; exact H6.out.nGS _ OG.out hj) (RowA.ne H6.out.rS H6.out.rA (by decide) hj OA.out)
                    have rA' : RowA W5 3 vA (((Dsk.crK keep torn cut d.secs k).set k y).map fun s => .int .i64 (s.age : Int)) := by
                      rw [List.map_set, ← hW5, hyv]
                      have h0 : RowA (W.setCell ⟨gG, k, none⟩ (.slice (some ⟨g9, 0, none⟩) 32 cap)) 3 vA ((Dsk.crK keep torn cut d.secs k).map fun s => .int .i64 (s.age : Int)) := H6.out.rA.keep fun j hj => by
                        rw [OA.out] at hj
                        obtain rfl := Option.some.inj hj
                        exact Below.heap_setCell _ ⟨gG, k, none⟩ _ _ NAG.out
                      exact h0.setAt OA.out (i := k) (by rw [List.length_map]; exact hkl) (.int .i64 (x.old : Int))
                    have rO' : RowA W5 3 vO (((Dsk.crK keep torn cut d.secs k).set k y).map fun s => .int .i64 (s.old : Int)) := by
                      rw [List.map_set, set_same (by rw [List.getElem?_map, Hgx.out, hyv]; rfl)]
                      exact H6.out.rO.keep fun j hj => hfar j (RowA.ne H6.out.rO H6.out.rG (by decide) hj OG.out) (fun e => by subst e; exact H6.out.nAO _ OA.out hj)
                    have rW' : RowA W5 4 vW (((Dsk.crK keep torn cut d.secs k).set k y).map fun s => .bool s.wet) := by
                      rw [List.map_set, set_same (by rw [List.getElem?_map, Hgx.out, hyv]; rfl)]
                      exact H6.out.rW.keep fun j hj => hfar j (RowA.ne H6.out.rW H6.out.rG (by decide) hj OG.out) (RowA.ne H6.out.rW H6.out.rA (by decide) hj OA.out)
                    have hRR := H6.out.one (F' := fun j => F1 j ∨ j = g9) (w' := W5) (x' := y) hkl hfin ⟨g9, cap⟩ s1
                      (fun j _ n1 _ n3 _ _ => hfar j (fun e => n1 (by rw [e]; exact OG.out)) (fun e => n3 (by rw [e]; exact OA.out)))
                      rG' rS' rA' rO' rW' hS9 hS1 (fun j hj => .inl hj) (.inr rfl) (.inl (H6.out.fss _ (List.mem_of_getElem? Hs1.out))) (fun j hj => by
                        rw [hsz]
                        rcases hj with hj | rfl
                        · exact H6.out.lt j hj
                        · exact HBm.out.lt)
                    have HR5 := Lib.hid (show RefD W5 (fun j => F1 j ∨ j = g9) g ⟨(Dsk.crK keep torn cut d.secs k).set k y, d.fuse, d.many⟩ from ⟨vG, vS, vA, vO, vW, _, _, f, hRR⟩)
                    have HF5 := Lib.hid (show ∀ j, F1 j ∨ j = g9 → F j ∨ w.heap.size ≤ j from fun j hj => by
                      rcases hj with hj | rfl
                      · exact HF.out j hj
                      · exact .inr (Nat.le_trans HwW.out Hg9.out))
                    have Ho5 := Lib.hid (show Only F w W5 by
                      rw [← hW5]
                      exact (Ho6.out.then (Only.set (p := ⟨gG, k, none⟩) (H6.out.fG _ OG.out) _) HF.out).then (Only.set (p := ⟨gA, k, none⟩) (H6.out.fA _ OA.out) _) HF.out)
                    have Hy := Lib.hid (show ((Dsk.crK keep torn cut d.secs k).set k y)[k]? = some y from List.getElem?_set_self hkl)
                    have Hnext := Lib.hid (show ((Dsk.crK keep torn cut d.secs k).set k y).set k (Dsk.settle y) = Dsk.crK keep torn cut d.secs (k + 1) by
                      rw [List.set_set, ← Hwet.out, HstV.out, Dsk.cut1, if_pos (by omega), hyv])
                    clear hRR rG' rS' rA' rO' rW' hS9 hS1 hh1 hlow hfin hyl hf1 hsz hfar hkl hyv hW5 H6 HBm Ho6 HltW Hg9 Hcap Ho4 HwW OG OA NAG
                    go_wp2_with fail
                    refine (refSettle_any HR5.out k y Hy.out).mono ?_
                    rintro e w9 ⟨rfl, hR9, ho9⟩
                    have HR9 := Lib.hid (show RefD w9 (fun j => F1 j ∨ j = g9) g ⟨Dsk.crK keep torn cut d.secs (k + 1), d.fuse, d.many⟩ by rw [← Hnext.out]; exact hR9)
                    have Ho9 := Lib.hid (Ho5.out.then ho9 HF5.out)
                    clear hR9 ho9 HR5 Ho5 Hy Hnext
                    go_wp2
                    exact ⟨⟨k + 1, by omega, by go_num, by rw [Hnx.out, Hw.out]; go_num, _, HR9.out, HF5.out, Ho9.out⟩, by simp [intOf]; omega⟩
              · have hcd : decide (cut < 32) = false := by simpa using hcut
                have Hnext := Lib.hid (show (Dsk.crK keep torn cut d.secs k).set k (Dsk.settle x) = Dsk.crK keep torn cut d.secs (k + 1) by
                  rw [← Hwet.out, HstV.out, Dsk.cut1, if_neg (by omega)])
                go_wp2_with fail
                refine (refSettle_any HR.out k x Hgx.out).mono ?_
                rintro e w9 ⟨rfl, hR9, ho9⟩
                have HR9 := Lib.hid (show RefD w9 F1 g ⟨Dsk.crK keep torn cut d.secs (k + 1), d.fuse, d.many⟩ by rw [← Hnext.out]; exact hR9)
                have Ho9 := Lib.hid (Ho.out.then ho9 HF.out)
                clear hR9 ho9 hc0 hc4 hixW cellW
                go_wp2
                exact ⟨⟨k + 1, by omega, by go_num, by rw [Hnx.out, Hw.out]; go_num, F1, HR9.out, HF.out, Ho9.out⟩, by simp [intOf]; omega⟩
            · have htb : ((q : Int) == torn) = false := by simpa using htm
              have HstV := Lib.hid (show Dsk.stays keep torn cut q = 32 by rw [Hst.out, if_neg htm, Hbit.out]; rfl)
              clear htm
              have Hnext := Lib.hid (show (Dsk.crK keep torn cut d.secs k).set k (Dsk.settle x) = Dsk.crK keep torn cut d.secs (k + 1) by
                rw [← Hwet.out, HstV.out, Dsk.cut1, if_neg (by omega)])
              go_wp2_with fail
              refine (refSettle_any HR.out k x Hgx.out).mono ?_
              rintro e w9 ⟨rfl, hR9, ho9⟩
              have HR9 := Lib.hid (show RefD w9 F1 g ⟨Dsk.crK keep torn cut d.secs (k + 1), d.fuse, d.many⟩ by rw [← Hnext.out]; exact hR9)
              have Ho9 := Lib.hid (Ho.out.then ho9 HF.out)
              clear hR9 ho9 hc0 hc4 hixW cellW
              go_wp2
              exact ⟨⟨k + 1, by omega, by go_num, by rw [Hnx.out, Hw.out]; go_num, F1, HR9.out, HF.out, Ho9.out⟩, by simp [intOf]; omega⟩
          | false =>
            rw [hb] at hbr
            have Hbit := Lib.hid (show Dsk.bit keep q = false by rw [Dsk.bit, hb]; simp [h62])
            clear hb
            by_cases htm : (q : Int) = torn
            · have htb : ((q : Int) == torn) = true := by simpa using htm
              have HstV := Lib.hid (show Dsk.stays keep torn cut q = cut by rw [Hst.out, if_pos htm])
              clear htm
              by_cases hcut : cut < 32
              · have hcd : decide (cut < 32) = true := by simpa using hcut
                have hhS := Hh.out.hS k s1 x Hs1.out Hgx.out
                have hsb : s1.b < wr.heap.size := Hh.out.lt _ (Hh.out.fss s1 (List.mem_of_getElem? Hs1.out))
                have hbl := below_alloc wr (.cells #[] 5)
                have huS : (ss.map Slc.v)[k]? = some s1.v := by rw [List.getElem?_map, Hs1.out]; rfl
                obtain ⟨gS, hixS, oS, ltS, cellS, _⟩ := row_at Try.undSls Try.sizeSl Hh.out.rS huS
                have c1 : (wr.alloc (.cells #[] 5)).cell? ⟨g, 1, none⟩ = some vS := (hbl.cell (p := ⟨g, 1, none⟩) Hh.out.blk.lt).trans (Hh.out.blk.cell 1)
                have cS : (wr.alloc (.cells #[] 5)).cell? ⟨gS, k, none⟩ = some (.slice (some ⟨s1.b, 0, none⟩) 32 s1.c) := (hbl.cell (p := ⟨gS, k, none⟩) ltS).trans cellS
                obtain ⟨v', W2, e1, ho', hb', _⟩ := app_rd (P := Try.prog) (w := wr.alloc (.cells #[] 5)) 40 40 Try.und22 Try.info5 (own_made wr wr.heap.size 5 (Nat.le_refl _)) hbl.size s1.c ((hhS.rd hsb).below hbl) (by rw [hhS.2.1]; simp)
                rw [hhS.2.1] at e1
                rw [List.nil_append] at ho'
                obtain ⟨g9, cap, rest, e9, hg9, hcap, hB9⟩ := ho'.blk (by rw [hhS.2.1]; omega)
                rw [hhS.2.1] at e9 hcap
                subst e9
                have Hsl := Lib.hid hhS.2.1
                have hbW := hbl.trans hb'
                have H4 := Lib.hid (Hh.out.below hbW)
                have HltW := Lib.hid Hh.out.lt
                have Hg9 := Lib.hid hg9
                have Hcap := Lib.hid hcap
                have HB9 := Lib.hid hB9
                have Ho4 := Lib.hid (Ho.out.then (Only.of_below F1 hbW) HF.out)
                have HwW := Lib.hid Ho.out.size
                have HE1 := Lib.hid e1
                clear hhS hsb hbl huS oS ltS cellS e1 ho' hb' hg9 hcap hB9 hbW
                go_wp2_with (at_builtin; refine wpList_append_run rfl (.tmp 47) (.tmp 54) _ rfl rfl rfl HE1.out ?_)
                clear c1 cS hixS hc0 hc4 hixW cellW HE1 Hh Ho HR
                go_loopw [12] (fun i w' => ∃ k2 : Nat, k2 ≤ cut.toNat ∧ i = .int .i64 k2 ∧ W2.grownBy w' (some g9) ∧ Blk w' g9 5 (u8s (x.good.take k2 ++ x.sure.drop k2) ++ rest)) (fun i _ => cut.toNat - (intOf i).toNat)
                case atStart => exact ⟨0, Nat.zero_le _, rfl, World.grownBy.refl _ _, by simpa using HB9.out⟩
                case round =>
                  obtain ⟨k2, hk2, rfl, hgr, hB⟩ := hrel
                  have hF9 : ∀ j, F1 j → j ≠ g9 := fun j hj e => by have := HltW.out j hj; have := Hg9.out; omega
                  have H5 := Lib.hid (H4.out.keep hgr.size (fun j hj => hgr.block j (H4.out.lt j hj) (fun e => hF9 j hj (Option.some.inj e))))
                  have Hgr := Lib.hid hgr
                  have HB := Lib.hid hB
                  clear hgr hB
                  by_cases hlt : (k2 : Int) < cut
                  · have hd2 : decide ((k2 : Int) < cut) = true := by simpa using hlt
                    have hk32 : k2 < 32 := by omega
                    have hhG := H5.out.hG k s0 x Hs0.out Hgx.out
                    have huG : (gs.map Slc.v)[k]? = some s0.v := by rw [List.getElem?_map, Hs0.out]; rfl
                    obtain ⟨gG, hixG, _, _, cellG, _⟩ := row_at Try.undSls Try.sizeSl H5.out.rG huG
                    have c0 := H5.out.blk.cell 0
                    simp only [List.getElem?_cons_zero] at c0
                    unfold Slc.v at cellG
                    obtain ⟨_, hgl, rest0, hB0⟩ := hhG
                    obtain ⟨cb, hcb⟩ : ∃ cb, x.good[k2]? = some cb := ⟨_, List.getElem?_eq_getElem (by rw [hgl]; exact hk32)⟩
                    have cg : wr.cell? ⟨s0.b, k2, none⟩ = some (.int .u8 (cb.toNat : Int)) := by
                      rw [hB0.cell, List.getElem?_append_left (by rw [u8s_len, hgl]; exact hk32), u8s_get, hcb]; rfl
                    have hml : (x.good.take k2 ++ x.sure.drop k2).length = 32 := by rw [List.length_append, List.length_take, List.length_drop, hgl, Hsl.out]; omega
                    obtain ⟨ob, hob⟩ : ∃ ob, (x.good.take k2 ++ x.sure.drop k2)[k2]? = some ob := ⟨_, List.getElem?_eq_getElem (by rw [hml]; exact hk32)⟩
                    have c9 : wr.cell? ⟨g9, k2, none⟩ = some (.int .u8 (ob.toNat : Int)) := by
                      rw [HB.out.cell, List.getElem?_append_left (by rw [u8s_len, hml]; exact hk32), u8s_get, hob]; rfl
                    have f9 := HB.out.frozen k2
                    have hnext : (u8s (x.good.take k2 ++ x.sure.drop k2) ++ rest).set k2 (.int .u8 (cb.toNat : Int)) = u8s (x.good.take (k2 + 1) ++ x.sure.drop (k2 + 1)) ++ rest := by
                      rw [List.set_append_left _ _ (by rw [u8s_len, hml]; exact hk32)]
                      congr 1
                      have h2 : ∀ z : UInt8, (u8s (x.good.take k2 ++ x.sure.drop k2)).set k2 (.int .u8 (z.toNat : Int)) = u8s ((x.good.take k2 ++ x.sure.drop k2).set k2 z) := fun z => by simp [u8s, List.map_set]
                      rw [h2]
                      congr 1
                      rw [List.set_append_right _ _ (by rw [List.length_take, hgl]; omega), List.length_take, hgl, show k2 - min k2 32 = 0 by omega, List.take_add_one, hcb]
                      rw [List.drop_eq_getElem_cons (show k2 < x.sure.length by rw [Hsl.out]; exact hk32), List.set_cons_zero]
                      simp [Option.toList]
                    have Hnext := Lib.hid hnext
                    clear hnext hob hml hcb hgl hB0 huG
                    go_wp2
                    refine ⟨⟨k2 + 1, by omega, by go_num, grown_set Hgr.out _, ?_⟩, by simp [intOf]; omega⟩
                    rw [← Hnext.out]
                    exact HB.out.set_ k2 _
                  · have hd2 : decide ((k2 : Int) < cut) = false := by simpa using hlt
                    have hk2e : k2 = cut.toNat := by omega
                    have Hk2e := Lib.hid hk2e
                    clear hk2e
                    go_wp2_with fail
                    refine wp_region_G (onlyG (rows3 vG vA vA wr.drew.heap.size)) (by kernel_rfl) ?_
                    have H6 := Lib.hid (H5.out.below (Below.refl _ wr).drew)
                    have HBm := Lib.hid (show Blk wr.drew g9 5 (u8s (x.good.take cut.toNat ++ x.sure.drop cut.toNat) ++ rest) by rw [← Hk2e.out]; exact HB.out)
                    have Ho6 := Lib.hid (show Only F w wr.drew from (Ho4.out.then (Only.of_grown (F := fun j => j = g9) Hgr.out (fun j hj => (Option.some.inj hj).symm)) (fun j hj => .inr (by have := Hg9.out; have := HwW.out; omega))).drew)
                    clear H5 HB Hgr H4 HB9
                    generalize wr.drew = W at *
                    have hRg : ¬ rows3 vG vA vA W.heap.size g := by
                      rintro (h | h | h | h)
                      · exact H6.out.neG h rfl
                      · exact H6.out.neA h rfl
                      · exact H6.out.neA h rfl
                      · have := H6.out.blk.lt; omega
                    have hl0 := cell_laterR H6.out.blk hRg (i := 0) rfl
                    have hl2 := cell_laterR H6.out.blk hRg (i := 2) rfl
                    have hl3 := cell_laterR H6.out.blk hRg (i := 3) rfl
                    have huG : (gs.map Slc.v)[k]? = some s0.v := by rw [List.getElem?_map, Hs0.out]; rfl
                    have huA : ((Dsk.crK keep torn cut d.secs k).map fun s => Value.int .i64 (s.age : Int))[k]? = some (.int .i64 (x.age : Int)) := by rw [List.getElem?_map, Hgx.out]; rfl
                    have huO : ((Dsk.crK keep torn cut d.secs k).map fun s => Value.int .i64 (s.old : Int))[k]? = some (.int .i64 (x.old : Int)) := by rw [List.getElem?_map, Hgx.out]; rfl
                    obtain ⟨gG, hixG, oG, _, cellG, fzG⟩ := row_at Try.undSls Try.sizeSl H6.out.rG huG
                    obtain ⟨gA, hixA, oA, _, cellA, fzA⟩ := row_at Try.undIs Try.sizeI1 H6.out.rA huA
                    obtain ⟨gO, hixO, oO, ltO, cellO, _⟩ := row_at Try.undIs Try.sizeI1 H6.out.rO huO
                    have nAG : gA ≠ gG := RowA.ne H6.out.rA H6.out.rG (by decide) oA oG
                    have nOG : gO ≠ gG := RowA.ne H6.out.rO H6.out.rG (by decide) oO oG
                    have nAO : gA ≠ gO := fun e => H6.out.nAO gA oA (by rw [e]; exact oO)
                    have hRO : ¬ rows3 vG vA vA W.heap.size gO := by
                      rintro (h | h | h | h)
                      · rw [oG] at h; exact nOG (Option.some.inj h).symm
                      · rw [oA] at h; exact nAO (Option.some.inj h)
                      · rw [oA] at h; exact nAO (Option.some.inj h)
                      · omega
                    have hlO : ∀ y : Later (onlyG (rows3 vG vA vA W.heap.size)) W, y.to.cell? ⟨gO, k, none⟩ = some (.int .i64 (x.old : Int)) := fun y =>
                      (World.cell?_of_block (w := W) (w' := y.to) (a := ⟨gO, k, none⟩) ((show Only (rows3 vG vA vA W.heap.size) W y.to from y.grown).block gO ltO hRO)).trans cellO
                    have cellA3 : (W.setCell ⟨gG, k, none⟩ (.slice (some ⟨g9, 0, none⟩) 32 cap)).cell? ⟨gA, k, none⟩ = some (.int .i64 (x.age : Int)) := (cell_set_ne nAG).trans cellA
                    have fzA3 : (W.setCell ⟨gG, k, none⟩ (.slice (some ⟨g9, 0, none⟩) 32 cap)).frozen? ⟨gA, k, none⟩ = false := (frozen_set_ne nAG).trans fzA
                    have OG := Lib.hid oG
                    have OA := Lib.hid oA
                    have NAG := Lib.hid nAG
                    clear huG huA huO oG oA oO nAG nOG nAO cellA fzA cellO hRg hRO ltO
                    refine segG (by kernel_rfl) (fun _ _ _ _ _ h => h) [0, 1, 2, 3, 4, 5, 6, 7, 8, 9] [_, _, _, _, _, _, _, _, _, _] 12 rfl rfl (by kernel_rfl) ?_
                    repeat (go_big_quiet_step (fail))
                    refine wpQuiet_nil ?_
                    refine segG (by kernel_rfl) (fun _ _ _ _ _ h => h) [10, 11, 12, 13, 14, 15, 16, 17, 18] [_, _, _, _, _, _, _, _, _] 3 rfl rfl (by kernel_rfl) ?_
                    repeat (go_big_quiet_step (fail))
                    refine wpQuiet_nil ?_
                    clear hl0 hl2 hl3 hlO hixG hixO
                    refine oneG 19 2 rfl (by kernel_rfl) rfl ?_
                    go_wp2
                    refine ⟨Only.set (p := ⟨gG, k, none⟩) (.inl OG.out) _, ?_⟩
                    refine segG (by kernel_rfl) (fun _ _ _ _ _ h => h) [20] [_] 1 rfl rfl (by kernel_rfl) ?_
                    repeat (go_big_quiet_step (fail))
                    refine wpQuiet_nil ?_
                    refine oneG 21 0 rfl (by kernel_rfl) rfl ?_
                    go_wp2
                    refine ⟨Only.set (p := ⟨gA, k, none⟩) (.inr (.inl OA.out)) _, ?_⟩
                    refine wpAnyG_done (by kernel_rfl) ?_
                    clear hixA cellG fzG cellA3 fzA3
                    obtain ⟨W5, hW5⟩ : ∃ W5, (W.setCell ⟨gG, k, none⟩ (.slice (some ⟨g9, 0, none⟩) 32 cap)).setCell ⟨gA, k, none⟩ (.int .i64 (x.old : Int)) = W5 := ⟨_, rfl⟩
                    rw [hW5]
                    obtain ⟨y, hyv⟩ : ∃ y : Sec, y = { x with good := x.good.take cut.toNat ++ x.sure.drop cut.toNat, age := x.old } := ⟨_, rfl⟩
                    have hkl : k < (Dsk.crK keep torn cut d.secs k).length := by rw [Dsk.crK_len, ← Hm.out]; exact h1
                    have hfar : ∀ j, j ≠ gG → j ≠ gA → W5.heap[j]? = W.heap[j]? := fun j h1 h2 => by rw [← hW5, Below.heap_setCell _ ⟨gA, k, none⟩ _ _ h2, Below.heap_setCell _ ⟨gG, k, none⟩ _ _ h1]
                    have hsz : W5.heap.size = W.heap.size := by rw [← hW5]; simp [World.setCell]
                    have hf1 := H6.out.ok.secs x (List.mem_of_getElem? Hgx.out)
                    have hyl : y.good.length = 32 := by rw [hyv]; exact Dsk.cut_len hf1.good hf1.sure (by omega)
                    have hfin : Dsk.Fine d.many y := ⟨hyl, by rw [hyv]; exact hf1.sure, by rw [hyv]; exact hf1.old, by rw [hyv]; exact hf1.old, fun e => by rw [hyv] at e; have e2 : x.wet = false := e; rw [Hw.out] at e2; cases e2⟩
                    have hlow : ∀ j, F1 j → j < g9 := fun j hj => Nat.lt_of_lt_of_le (HltW.out j hj) Hg9.out
                    have hS9 : Hold W5 ⟨g9, cap⟩ y.good := ⟨Hcap.out, hyl, rest, (hfar g9 (fun e => by have := hlow _ (H6.out.fG _ OG.out); omega) (fun e => by have := hlow _ (H6.out.fA _ OA.out); omega)).trans (by rw [hyv]; exact HBm.out)⟩
                    have hh1 := H6.out.hS k s1 x Hs1.out Hgx.out
                    have hS1 : Hold W5 s1 y.sure := by
                      rw [hyv]
                      exact hh1.keep (hfar s1.b (hh1.neRow H6.out.rG OG.out (by decide)) (hh1.neRow H6.out.rA OA.out (by decide)))
                    have rG' : RowA W5 40 vG ((gs.set k ⟨g9, cap⟩).map Slc.v) := by
                      rw [List.map_set, ← hW5]
                      have h1 := H6.out.rG.setAt OG.out (i := k) (by rw [List.length_map, H6.out.lG]; exact hkl) (.slice (some ⟨g9, 0, none⟩) 32 cap)
                      refine h1.keep fun j hj => ?_
                      rw [OG.out] at hj
                      obtain rfl := Option.some.inj hj
                      exact Below.heap_setCell _ ⟨gA, k, none⟩ _ _ (fun e => NAG.out e.symm)
                    have rS' : RowA W5 40 vS ((ss.set k s1).map Slc.v) := by
                      rw [set_same Hs1.out]
                      exact H6.out.rS.keep fun j hj => hfar j (fun e => by subst e; exact H6.out.nGS _ OG.out hj) (RowA.ne H6.out.rS H6.out.rA (by decide) hj OA.out)
                    have rA' : RowA W5 3 vA (((Dsk.crK keep torn cut d.secs k).set k y).map fun s => .int .i64 (s.age : Int)) := by
                      rw [List.map_set, ← hW5, hyv]
                      have h0 : RowA (W.setCell ⟨gG, k, none⟩ (.slice (some ⟨g9, 0, none⟩) 32 cap)) 3 vA ((Dsk.crK keep torn cut d.secs k).map fun s => .int .i64 (s.age : Int)) := H6.out.rA.keep fun j hj => by
                        rw [OA.out] at hj
                        obtain rfl := Option.some.inj hj
                        exact Below.heap_setCell _ ⟨gG, k, none⟩ _ _ NAG.out
                      exact h0.setAt OA.out (i := k) (by rw [List.length_map]; exact hkl) (.int .i64 (x.old : Int))
                    have rO' : RowA W5 3 vO (((Dsk.crK keep torn cut d.secs k).set k y).map fun s => .int .i64 (s.old : Int)) := by
                      rw [List.map_set, set_same (by rw [List.getElem?_map, Hgx.out, hyv]; rfl)]
                      exact H6.out.rO.keep fun j hj => hfar j (RowA.ne H6.out.rO H6.out.rG (by decide) hj OG.out) (fun e => by subst e; exact H6.out.nAO _ OA.out hj)
                    have rW' : RowA W5 4 vW (((Dsk.crK keep torn cut d.secs k).set k y).map fun s => .bool s.wet) := by
                      rw [List.map_set, set_same (by rw [List.getElem?_map, Hgx.out, hyv]; rfl)]
                      exact H6.out.rW.keep fun j hj => hfar j (RowA.ne H6.out.rW H6.out.rG (by decide) hj OG.out) (RowA.ne H6.out.rW H6.out.rA (by decide) hj OA.out)
                    have hRR := H6.out.one (F' := fun j => F1 j ∨ j = g9) (w' := W5) (x' := y) hkl hfin ⟨g9, cap⟩ s1
                      (fun j _ n1 _ n3 _ _ => hfar j (fun e => n1 (by rw [e]; exact OG.out)) (fun e => n3 (by rw [e]; exact OA.out)))
                      rG' rS' rA' rO' rW' hS9 hS1 (fun j hj => .inl hj) (.inr rfl) (.inl (H6.out.fss _ (List.mem_of_getElem? Hs1.out))) (fun j hj => by
                        rw [hsz]
                        rcases hj with hj | rfl
                        · exact H6.out.lt j hj
                        · exact HBm.out.lt)
                    have HR5 := Lib.hid (show RefD W5 (fun j => F1 j ∨ j = g9) g ⟨(Dsk.crK keep torn cut d.secs k).set k y, d.fuse, d.many⟩ from ⟨vG, vS, vA, vO, vW, _, _, f, hRR⟩)
                    have HF5 := Lib.hid (show ∀ j, F1 j ∨ j = g9 → F j ∨ w.heap.size ≤ j from fun j hj => by
                      rcases hj with hj | rfl
                      · exact HF.out j hj
                      · exact .inr (Nat.le_trans HwW.out Hg9.out))
                    have Ho5 := Lib.hid (show Only F w W5 by
                      rw [← hW5]
                      exact (Ho6.out.then (Only.set (p := ⟨gG, k, none⟩) (H6.out.fG _ OG.out) _) HF.out).then (Only.set (p := ⟨gA, k, none⟩) (H6.out.fA _ OA.out) _) HF.out)
                    have Hy := Lib.hid (show ((Dsk.crK keep torn cut d.secs k).set k y)[k]? = some y from List.getElem?_set_self hkl)
                    have Hnext := Lib.hid (show ((Dsk.crK keep torn cut d.secs k).set k y).set k (Dsk.settle y) = Dsk.crK keep torn cut d.secs (k + 1) by
                      rw [List.set_set, ← Hwet.out, HstV.out, Dsk.cut1, if_pos (by omega), hyv])
                    clear hRR rG' rS' rA' rO' rW' hS9 hS1 hh1 hlow hfin hyl hf1 hsz hfar hkl hyv hW5 H6 HBm Ho6 HltW Hg9 Hcap Ho4 HwW OG OA NAG
                    go_wp2_with fail
                    refine (refSettle_any HR5.out k y Hy.out).mono ?_
                    rintro e w9 ⟨rfl, hR9, ho9⟩
                    have HR9 := Lib.hid (show RefD w9 (fun j => F1 j ∨ j = g9) g ⟨Dsk.crK keep torn cut d.secs (k + 1), d.fuse, d.many⟩ by rw [← Hnext.out]; exact hR9)
                    have Ho9 := Lib.hid (Ho5.out.then ho9 HF5.out)
                    clear hR9 ho9 HR5 Ho5 Hy Hnext
                    go_wp2
                    exact ⟨⟨k + 1, by omega, by go_num, by rw [Hnx.out, Hw.out]; go_num, _, HR9.out, HF5.out, Ho9.out⟩, by simp [intOf]; omega⟩
              · have hcd : decide (cut < 32) = false := by simpa using hcut
                have Hnext := Lib.hid (show (Dsk.crK keep torn cut d.secs k).set k (Dsk.settle x) = Dsk.crK keep torn cut d.secs (k + 1) by
                  rw [← Hwet.out, HstV.out, Dsk.cut1, if_neg (by omega)])
                go_wp2_with fail
                refine (refSettle_any HR.out k x Hgx.out).mono ?_
                rintro e w9 ⟨rfl, hR9, ho9⟩
                have HR9 := Lib.hid (show RefD w9 F1 g ⟨Dsk.crK keep torn cut d.secs (k + 1), d.fuse, d.many⟩ by rw [← Hnext.out]; exact hR9)
                have Ho9 := Lib.hid (Ho.out.then ho9 HF.out)
                clear hR9 ho9 hc0 hc4 hixW cellW
                go_wp2
                exact ⟨⟨k + 1, by omega, by go_num, by rw [Hnx.out, Hw.out]; go_num, F1, HR9.out, HF.out, Ho9.out⟩, by simp [intOf]; omega⟩
            · have htb : ((q : Int) == torn) = false := by simpa using htm
              have HstV := Lib.hid (show Dsk.stays keep torn cut q = 0 by rw [Hst.out, if_neg htm, Hbit.out]; rfl)
              clear htm
              have hhS := Hh.out.hS k s1 x Hs1.out Hgx.out
              have hsb : s1.b < wr.heap.size := Hh.out.lt _ (Hh.out.fss s1 (List.mem_of_getElem? Hs1.out))
              have hbl := below_alloc wr (.cells #[] 5)
              have huS : (ss.map Slc.v)[k]? = some s1.v := by rw [List.getElem?_map, Hs1.out]; rfl
              obtain ⟨gS, hixS, oS, ltS, cellS, _⟩ := row_at Try.undSls Try.sizeSl Hh.out.rS huS
              have c1 : (wr.alloc (.cells #[] 5)).cell? ⟨g, 1, none⟩ = some vS := (hbl.cell (p := ⟨g, 1, none⟩) Hh.out.blk.lt).trans (Hh.out.blk.cell 1)
              have cS : (wr.alloc (.cells #[] 5)).cell? ⟨gS, k, none⟩ = some (.slice (some ⟨s1.b, 0, none⟩) 32 s1.c) := (hbl.cell (p := ⟨gS, k, none⟩) ltS).trans cellS
              obtain ⟨v', W2, e1, ho', hb', _⟩ := app_rd (P := Try.prog) (w := wr.alloc (.cells #[] 5)) 40 40 Try.und22 Try.info5 (own_made wr wr.heap.size 5 (Nat.le_refl _)) hbl.size s1.c ((hhS.rd hsb).below hbl) (by rw [hhS.2.1]; simp)
              rw [hhS.2.1] at e1
              rw [List.nil_append] at ho'
              obtain ⟨g9, cap, rest, e9, hg9, hcap, hB9⟩ := ho'.blk (by rw [hhS.2.1]; omega)
              rw [hhS.2.1] at e9 hcap
              subst e9
              have Hsl := Lib.hid hhS.2.1
              have hbW := hbl.trans hb'
              have H4 := Lib.hid (Hh.out.below hbW)
              have HltW := Lib.hid Hh.out.lt
              have Hg9 := Lib.hid hg9
              have Hcap := Lib.hid hcap
              have HB9 := Lib.hid hB9
              have Ho4 := Lib.hid (Ho.out.then (Only.of_below F1 hbW) HF.out)
              have HwW := Lib.hid Ho.out.size
              have HE1 := Lib.hid e1
              clear hhS hsb hbl huS oS ltS cellS e1 ho' hb' hg9 hcap hB9 hbW
              go_wp2_with (at_builtin; refine wpList_append_run rfl (.tmp 47) (.tmp 54) _ rfl rfl rfl HE1.out ?_)
              clear c1 cS hixS hc0 hc4 hixW cellW HE1 Hh Ho HR
              go_loopw [12] (fun i w' => ∃ k2 : Nat, k2 ≤ (0 : Int).toNat ∧ i = .int .i64 k2 ∧ W2.grownBy w' (some g9) ∧ Blk w' g9 5 (u8s (x.good.take k2 ++ x.sure.drop k2) ++ rest)) (fun i _ => (0 : Int).toNat - (intOf i).toNat)
              case atStart => exact ⟨0, Nat.zero_le _, rfl, World.grownBy.refl _ _, by simpa using HB9.out⟩
              case round =>
                obtain ⟨k2, hk2, rfl, hgr, hB⟩ := hrel
                have hF9 : ∀ j, F1 j → j ≠ g9 := fun j hj e => by have := HltW.out j hj; have := Hg9.out; omega
                have H5 := Lib.hid (H4.out.keep hgr.size (fun j hj => hgr.block j (H4.out.lt j hj) (fun e => hF9 j hj (Option.some.inj e))))
                have Hgr := Lib.hid hgr
                have HB := Lib.hid hB
                clear hgr hB
                by_cases hlt : (k2 : Int) < 0
                · exact absurd hlt (by omega)
                · have hd2 : decide ((k2 : Int) < 0) = false := by simp
                  have hk2e : k2 = (0 : Int).toNat := by omega
                  have Hk2e := Lib.hid hk2e
                  clear hk2e
                  go_wp2_with fail
                  refine wp_region_G (onlyG (rows3 vG vA vA wr.drew.heap.size)) (by kernel_rfl) ?_
                  have H6 := Lib.hid (H5.out.below (Below.refl _ wr).drew)
                  have HBm := Lib.hid (show Blk wr.drew g9 5 (u8s (x.good.take (0 : Int).toNat ++ x.sure.drop (0 : Int).toNat) ++ rest) by rw [← Hk2e.out]; exact HB.out)
                  have Ho6 := Lib.hid (show Only F w wr.drew from (Ho4.out.then (Only.of_grown (F := fun j => j = g9) Hgr.out (fun j hj => (Option.some.inj hj).symm)) (fun j hj => .inr (by have := Hg9.out; have := HwW.out; omega))).drew)
                  clear H5 HB Hgr H4 HB9
                  generalize wr.drew = W at *
                  have hRg : ¬ rows3 vG vA vA W.heap.size g := by
                    rintro (h | h | h | h)
                    · exact H6.out.neG h rfl
                    · exact H6.out.neA h rfl
                    · exact H6.out.neA h rfl
                    · have := H6.out.blk.lt; omega
                  have hl0 := cell_laterR H6.out.blk hRg (i := 0) rfl
                  have hl2 := cell_laterR H6.out.blk hRg (i := 2) rfl
                  have hl3 := cell_laterR H6.out.blk hRg (i := 3) rfl
                  have huG : (gs.map Slc.v)[k]? = some s0.v := by rw [List.getElem?_map, Hs0.out]; rfl
                  have huA : ((Dsk.crK keep torn cut d.secs k).map fun s => Value.int .i64 (s.age : Int))[k]? = some (.int .i64 (x.age : Int)) := by rw [List.getElem?_map, Hgx.out]; rfl
                  have huO : ((Dsk.crK keep torn cut d.secs k).map fun s => Value.int .i64 (s.old : Int))[k]? = some (.int .i64 (x.old : Int)) := by rw [List.getElem?_map, Hgx.out]; rfl
                  obtain ⟨gG, hixG, oG, _, cellG, fzG⟩ := row_at Try.undSls Try.sizeSl H6.out.rG huG
                  obtain ⟨gA, hixA, oA, _, cellA, fzA⟩ := row_at Try.undIs Try.sizeI1 H6.out.rA huA
                  obtain ⟨gO, hixO, oO, ltO, cellO, _⟩ := row_at Try.undIs Try.sizeI1 H6.out.rO huO
                  have nAG : gA ≠ gG := RowA.ne H6.out.rA H6.out.rG (by decide) oA oG
                  have nOG : gO ≠ gG := RowA.ne H6.out.rO H6.out.rG (by decide) oO oG
                  have nAO : gA ≠ gO := fun e => H6.out.nAO gA oA (by rw [e]; exact oO)
                  have hRO : ¬ rows3 vG vA vA W.heap.size gO := by
                    rintro (h | h | h | h)
                    · rw [oG] at h; exact nOG (Option.some.inj h).symm
                    · rw [oA] at h; exact nAO (Option.some.inj h)
                    · rw [oA] at h; exact nAO (Option.some.inj h)
                    · omega
                  have hlO : ∀ y : Later (onlyG (rows3 vG vA vA W.heap.size)) W, y.to.cell? ⟨gO, k, none⟩ = some (.int .i64 (x.old : Int)) := fun y =>
                    (World.cell?_of_block (w := W) (w' := y.to) (a := ⟨gO, k, none⟩) ((show Only (rows3 vG vA vA W.heap.size) W y.to from y.grown).block gO ltO hRO)).trans cellO
                  have cellA3 : (W.setCell ⟨gG, k, none⟩ (.slice (some ⟨g9, 0, none⟩) 32 cap)).cell? ⟨gA, k, none⟩ = some (.int .i64 (x.age : Int)) := (cell_set_ne nAG).trans cellA
                  have fzA3 : (W.setCell ⟨gG, k, none⟩ (.slice (some ⟨g9, 0, none⟩) 32 cap)).frozen? ⟨gA, k, none⟩ = false := (frozen_set_ne nAG).trans fzA
                  have OG := Lib.hid oG
                  have OA := Lib.hid oA
                  have NAG := Lib.hid nAG
                  clear huG huA huO oG oA oO nAG nOG nAO cellA fzA cellO hRg hRO ltO
                  refine segG (by kernel_rfl) (fun _ _ _ _ _ h => h) [0, 1, 2, 3, 4, 5, 6, 7, 8, 9] [_, _, _, _, _, _, _, _, _, _] 12 rfl rfl (by kernel_rfl) ?_
                  repeat (go_big_quiet_step (fail))
                  refine wpQuiet_nil ?_
                  refine segG (by kernel_rfl) (fun _ _ _ _ _ h => h) [10, 11, 12, 13, 14, 15, 16, 17, 18] [_, _, _, _, _, _, _, _, _] 3 rfl rfl (by kernel_rfl) ?_
                  repeat (go_big_quiet_step (fail))
                  refine wpQuiet_nil ?_
                  clear hl0 hl2 hl3 hlO hixG hixO
                  refine oneG 19 2 rfl (by kernel_rfl) rfl ?_
                  go_wp2
                  refine ⟨Only.set (p := ⟨gG, k, none⟩) (.inl OG.out) _, ?_⟩
                  refine segG (by kernel_rfl) (fun _ _ _ _ _ h => h) [20] [_] 1 rfl rfl (by kernel_rfl) ?_
                  repeat (go_big_quiet_step (fail))
                  refine wpQuiet_nil ?_
                  refine oneG 21 0 rfl (by kernel_rfl) rfl ?_
                  go_wp2
                  refine ⟨Only.set (p := ⟨gA, k, none⟩) (.inr (.inl OA.out)) _, ?_⟩
                  refine wpAnyG_done (by kernel_rfl) ?_
                  clear hixA cellG fzG cellA3 fzA3
                  obtain ⟨W5, hW5⟩ : ∃ W5, (W.setCell ⟨gG, k, none⟩ (.slice (some ⟨g9, 0, none⟩) 32 cap)).setCell ⟨gA, k, none⟩ (.int .i64 (x.old : Int)) = W5 := ⟨_, rfl⟩
                  rw [hW5]
                  obtain ⟨y, hyv⟩ : ∃ y : Sec, y = { x with good := x.good.take (0 : Int).toNat ++ x.sure.drop (0 : Int).toNat, age := x.old } := ⟨_, rfl⟩
                  have hkl : k < (Dsk.crK keep torn cut d.secs k).length := by rw [Dsk.crK_len, ← Hm.out]; exact h1
                  have hfar : ∀ j, j ≠ gG → j ≠ gA → W5.heap[j]? = W.heap[j]? := fun j h1 h2 => by rw [← hW5, Below.heap_setCell _ ⟨gA, k, none⟩ _ _ h2, Below.heap_setCell _ ⟨gG, k, none⟩ _ _ h1]
                  have hsz : W5.heap.size = W.heap.size := by rw [← hW5]; simp [World.setCell]
                  have hf1 := H6.out.ok.secs x (List.mem_of_getElem? Hgx.out)
                  have hyl : y.good.length = 32 := by rw [hyv]; exact Dsk.cut_len hf1.good hf1.sure (by omega)
                  have hfin : Dsk.Fine d.many y := ⟨hyl, by rw [hyv]; exact hf1.sure, by rw [hyv]; exact hf1.old, by rw [hyv]; exact hf1.old, fun e => by rw [hyv] at e; have e2 : x.wet = false := e; rw [Hw.out] at e2; cases e2⟩
                  have hlow : ∀ j, F1 j → j < g9 := fun j hj => Nat.lt_of_lt_of_le (HltW.out j hj) Hg9.out
                  have hS9 : Hold W5 ⟨g9, cap⟩ y.good := ⟨Hcap.out, hyl, rest, (hfar g9 (fun e => by have := hlow _ (H6.out.fG _ OG.out); omega) (fun e => by have := hlow _ (H6.out.fA _ OA.out); omega)).trans (by rw [hyv]; exact HBm.out)⟩
                  have hh1 := H6.out.hS k s1 x Hs1.out Hgx.out
                  have hS1 : Hold W5 s1 y.sure := by
                    rw [hyv]
                    exact hh1.keep (hfar s1.b (hh1.neRow H6.out.rG OG.out (by decide)) (hh1.neRow H6.out.rA OA.out (by decide)))
                  have rG' : RowA W5 40 vG ((gs.set k ⟨g9, cap⟩).map Slc.v) := by
                    rw [List.map_set, ← hW5]
                    have h1 := H6.out.rG.setAt OG.out (i := k) (by rw [List.length_map, H6.out.lG]; exact hkl) (.slice (some ⟨g9, 0, none⟩) 32 cap)
                    refine h1.keep fun j hj => ?_
                    rw [OG.out] at hj
                    obtain rfl := Option.some.inj hj
                    exact Below.heap_setCell _ ⟨gA, k, none⟩ _ _ (fun e => NAG.out e.symm)
                  have rS' : RowA W5 40 vS ((ss.set k s1).map Slc.v) := by
                    rw [set_same Hs1.out]
                    exact H6.out.rS.keep fun j hj => hfar j (fun e => by subst e; exact H6.out.nGS _ OG.out hj) (RowA.ne H6.out.rS H6.out.rA (by decide) hj OA.out)
                  have rA' : RowA W5 3 vA (((Dsk.crK keep torn cut d.secs k).set k y).map fun s => .int .i64 (s.age : Int)) := by
                    rw [List.map_set, ← hW5, hyv]
                    have h0 : RowA (W.setCell ⟨gG, k, none⟩ (.slice (some ⟨g9, 0, none⟩) 32 cap)) 3 vA ((Dsk.crK keep torn cut d.secs k).map fun s => .int .i64 (s.age : Int)) := H6.out.rA.keep fun j hj => by
                      rw [OA.out] at hj
                      obtain rfl := Option.some.inj hj
                      exact Below.heap_setCell _ ⟨gG, k, none⟩ _ _ NAG.out
                    exact h0.setAt OA.out (i := k) (by rw [List.length_map]; exact hkl) (.int .i64 (x.old : Int))
                  have rO' : RowA W5 3 vO (((Dsk.crK keep torn cut d.secs k).set k y).map fun s => .int .i64 (s.old : Int)) := by
                    rw [List.map_set, set_same (by rw [List.getElem?_map, Hgx.out, hyv]; rfl)]
                    exact H6.out.rO.keep fun j hj => hfar j (RowA.ne H6.out.rO H6.out.rG (by decide) hj OG.out) (fun e => by subst e; exact H6.out.nAO _ OA.out hj)
                  have rW' : RowA W5 4 vW (((Dsk.crK keep torn cut d.secs k).set k y).map fun s => .bool s.wet) := by
                    rw [List.map_set, set_same (by rw [List.getElem?_map, Hgx.out, hyv]; rfl)]
                    exact H6.out.rW.keep fun j hj => hfar j (RowA.ne H6.out.rW H6.out.rG (by decide) hj OG.out) (RowA.ne H6.out.rW H6.out.rA (by decide) hj OA.out)
                  have hRR := H6.out.one (F' := fun j => F1 j ∨ j = g9) (w' := W5) (x' := y) hkl hfin ⟨g9, cap⟩ s1
                    (fun j _ n1 _ n3 _ _ => hfar j (fun e => n1 (by rw [e]; exact OG.out)) (fun e => n3 (by rw [e]; exact OA.out)))
                    rG' rS' rA' rO' rW' hS9 hS1 (fun j hj => .inl hj) (.inr rfl) (.inl (H6.out.fss _ (List.mem_of_getElem? Hs1.out))) (fun j hj => by
                      rw [hsz]
                      rcases hj with hj | rfl
                      · exact H6.out.lt j hj
                      · exact HBm.out.lt)
                  have HR5 := Lib.hid (show RefD W5 (fun j => F1 j ∨ j = g9) g ⟨(Dsk.crK keep torn cut d.secs k).set k y, d.fuse, d.many⟩ from ⟨vG, vS, vA, vO, vW, _, _, f, hRR⟩)
                  have HF5 := Lib.hid (show ∀ j, F1 j ∨ j = g9 → F j ∨ w.heap.size ≤ j from fun j hj => by
                    rcases hj with hj | rfl
                    · exact HF.out j hj
                    · exact .inr (Nat.le_trans HwW.out Hg9.out))
                  have Ho5 := Lib.hid (show Only F w W5 by
                    rw [← hW5]
                    exact (Ho6.out.then (Only.set (p := ⟨gG, k, none⟩) (H6.out.fG _ OG.out) _) HF.out).then (Only.set (p := ⟨gA, k, none⟩) (H6.out.fA _ OA.out) _) HF.out)
                  have Hy := Lib.hid (show ((Dsk.crK keep torn cut d.secs k).set k y)[k]? = some y from List.getElem?_set_self hkl)
                  have Hnext := Lib.hid (show ((Dsk.crK keep torn cut d.secs k).set k y).set k (Dsk.settle y) = Dsk.crK keep torn cut d.secs (k + 1) by
                    rw [List.set_set, ← Hwet.out, HstV.out, Dsk.cut1, if_pos (by omega), hyv])
                  clear hRR rG' rS' rA' rO' rW' hS9 hS1 hh1 hlow hfin hyl hf1 hsz hfar hkl hyv hW5 H6 HBm Ho6 HltW Hg9 Hcap Ho4 HwW OG OA NAG
                  go_wp2_with fail
                  refine (refSettle_any HR5.out k y Hy.out).mono ?_
                  rintro e w9 ⟨rfl, hR9, ho9⟩
                  have HR9 := Lib.hid (show RefD w9 (fun j => F1 j ∨ j = g9) g ⟨Dsk.crK keep torn cut d.secs (k + 1), d.fuse, d.many⟩ by rw [← Hnext.out]; exact hR9)
                  have Ho9 := Lib.hid (Ho5.out.then ho9 HF5.out)
                  clear hR9 ho9 HR5 Ho5 Hy Hnext
                  go_wp2
                  exact ⟨⟨k + 1, by omega, by go_num, by rw [Hnx.out, Hw.out]; go_num, _, HR9.out, HF5.out, Ho9.out⟩, by simp [intOf]; omega⟩
        · have hd62 : decide ((q : Int) < 62) = false := by simp; omega
          have Hbit := Lib.hid (show Dsk.bit keep q = false by rw [Dsk.bit]; simp [h62])
          clear hbr
          by_cases htm : (q : Int) = torn
          · have htb : ((q : Int) == torn) = true := by simpa using htm
            have HstV := Lib.hid (show Dsk.stays keep torn cut q = cut by rw [Hst.out, if_pos htm])
            clear htm
            by_cases hcut : cut < 32
            · have hcd : decide (cut < 32) = true := by simpa using hcut
              have hhS := Hh.out.hS k s1 x Hs1.out Hgx.out
              have hsb : s1.b < wr.heap.size := Hh.out.lt _ (Hh.out.fss s1 (List.mem_of_getElem? Hs1.out))
              have hbl := below_alloc wr (.cells #[] 5)
              have huS : (ss.map Slc.v)[k]? = some s1.v := by rw [List.getElem?_map, Hs1.out]; rfl
              obtain ⟨gS, hixS, oS, ltS, cellS, _⟩ := row_at Try.undSls Try.sizeSl Hh.out.rS huS
              have c1 : (wr.alloc (.cells #[] 5)).cell? ⟨g, 1, none⟩ = some vS := (hbl.cell (p := ⟨g, 1, none⟩) Hh.out.blk.lt).trans (Hh.out.blk.cell 1)
              have cS : (wr.alloc (.cells #[] 5)).cell? ⟨gS, k, none⟩ = some (.slice (some ⟨s1.b, 0, none⟩) 32 s1.c) := (hbl.cell (p := ⟨gS, k, none⟩) ltS).trans cellS
              obtain ⟨v', W2, e1, ho', hb', _⟩ := app_rd (P := Try.prog) (w := wr.alloc (.cells #[] 5)) 40 40 Try.und22 Try.info5 (own_made wr wr.heap.size 5 (Nat.le_refl _)) hbl.size s1.c ((hhS.rd hsb).below hbl) (by rw [hhS.2.1]; simp)
              rw [hhS.2.1] at e1
              rw [List.nil_append] at ho'
              obtain ⟨g9, cap, rest, e9, hg9, hcap, hB9⟩ := ho'.blk (by rw [hhS.2.1]; omega)
              rw [hhS.2.1] at e9 hcap
              subst e9
              have Hsl := Lib.hid hhS.2.1
              have hbW := hbl.trans hb'
              have H4 := Lib.hid (Hh.out.below hbW)
              have HltW := Lib.hid Hh.out.lt
              have Hg9 := Lib.hid hg9
              have Hcap := Lib.hid hcap
              have HB9 := Lib.hid hB9
              have Ho4 := Lib.hid (Ho.out.then (Only.of_below F1 hbW) HF.out)
              have HwW := Lib.hid Ho.out.size
              have HE1 := Lib.hid e1
              clear hhS hsb hbl huS oS ltS cellS e1 ho' hb' hg9 hcap hB9 hbW
              go_wp2_with (at_builtin; refine wpList_append_run rfl (.tmp 47) (.tmp 54) _ rfl rfl rfl HE1.out ?_)
              clear c1 cS hixS hc0 hc4 hixW cellW HE1 Hh Ho HR
              go_loopw [12] (fun i w' => ∃ k2 : Nat, k2 ≤ cut.toNat ∧ i = .int .i64 k2 ∧ W2.grownBy w' (some g9) ∧ Blk w' g9 5 (u8s (x.good.take k2 ++ x.sure.drop k2) ++ rest)) (fun i _ => cut.toNat - (intOf i).toNat)
              case atStart => exact ⟨0, Nat.zero_le _, rfl, World.grownBy.refl _ _, by simpa using HB9.out⟩
              case round =>
                obtain ⟨k2, hk2, rfl, hgr, hB⟩ := hrel
                have hF9 : ∀ j, F1 j → j ≠ g9 := fun j hj e => by have := HltW.out j hj; have := Hg9.out; omega
                have H5 := Lib.hid (H4.out.keep hgr.size (fun j hj => hgr.block j (H4.out.lt j hj) (fun e => hF9 j hj (Option.some.inj e))))
                have Hgr := Lib.hid hgr
                have HB := Lib.hid hB
                clear hgr hB
                by_cases hlt : (k2 : Int) < cut
                · have hd2 : decide ((k2 : Int) < cut) = true := by simpa using hlt
                  have hk32 : k2 < 32 := by omega
                  have hhG := H5.out.hG k s0 x Hs0.out Hgx.out
                  have huG : (gs.map Slc.v)[k]? = some s0.v := by rw [List.getElem?_map, Hs0.out]; rfl
                  obtain ⟨gG, hixG, _, _, cellG, _⟩ := row_at Try.undSls Try.sizeSl H5.out.rG huG
                  have c0 := H5.out.blk.cell 0
                  simp only [List.getElem?_cons_zero] at c0
                  unfold Slc.v at cellG
                  obtain ⟨_, hgl, rest0, hB0⟩ := hhG
                  obtain ⟨cb, hcb⟩ : ∃ cb, x.good[k2]? = some cb := ⟨_, List.getElem?_eq_getElem (by rw [hgl]; exact hk32)⟩
                  have cg : wr.cell? ⟨s0.b, k2, none⟩ = some (.int .u8 (cb.toNat : Int)) := by
                    rw [hB0.cell, List.getElem?_append_left (by rw [u8s_len, hgl]; exact hk32), u8s_get, hcb]; rfl
                  have hml : (x.good.take k2 ++ x.sure.drop k2).length = 32 := by rw [List.length_append, List.length_take, List.length_drop, hgl, Hsl.out]; omega
                  obtain ⟨ob, hob⟩ : ∃ ob, (x.good.take k2 ++ x.sure.drop k2)[k2]? = some ob := ⟨_, List.getElem?_eq_getElem (by rw [hml]; exact hk32)⟩
                  have c9 : wr.cell? ⟨g9, k2, none⟩ = some (.int .u8 (ob.toNat : Int)) := by
                    rw [HB.out.cell, List.getElem?_append_left (by rw [u8s_len, hml]; exact hk32), u8s_get, hob]; rfl
                  have f9 := HB.out.frozen k2
                  have hnext : (u8s (x.good.take k2 ++ x.sure.drop k2) ++ rest).set k2 (.int .u8 (cb.toNat : Int)) = u8s (x.good.take (k2 + 1) ++ x.sure.drop (k2 + 1)) ++ rest := by
                    rw [List.set_append_left _ _ (by rw [u8s_len, hml]; exact hk32)]
                    congr 1
                    have h2 : ∀ z : UInt8, (u8s (x.good.take k2 ++ x.sure.drop k2)).set k2 (.int .u8 (z.toNat : Int)) = u8s ((x.good.take k2 ++ x.sure.drop k2).set k2 z) := fun z => by simp [u8s, List.map_set]
                    rw [h2]
                    congr 1
                    rw [List.set_append_right _ _ (by rw [List.length_take, hgl]; omega), List.length_take, hgl, show k2 - min k2 32 = 0 by omega, List.take_add_one, hcb]
                    rw [List.drop_eq_getElem_cons (show k2 < x.sure.length by rw [Hsl.out]; exact hk32), List.set_cons_zero]
                    simp [Option.toList]
                  have Hnext := Lib.hid hnext
                  clear hnext hob hml hcb hgl hB0 huG
                  go_wp2
                  refine ⟨⟨k2 + 1, by omega, by go_num, grown_set Hgr.out _, ?_⟩, by simp [intOf]; omega⟩
                  rw [← Hnext.out]
                  exact HB.out.set_ k2 _
                · have hd2 : decide ((k2 : Int) < cut) = false := by simpa using hlt
                  have hk2e : k2 = cut.toNat := by omega
                  have Hk2e := Lib.hid hk2e
                  clear hk2e
                  go_wp2_with fail
                  refine wp_region_G (onlyG (rows3 vG vA vA wr.drew.heap.size)) (by kernel_rfl) ?_
                  have H6 := Lib.hid (H5.out.below (Below.refl _ wr).drew)
                  have HBm := Lib.hid (show Blk wr.drew g9 5 (u8s (x.good.take cut.toNat ++ x.sure.drop cut.toNat) ++ rest) by rw [← Hk2e.out]; exact HB.out)
                  have Ho6 := Lib.hid (show Only F w wr.drew from (Ho4.out.then (Only.of_grown (F := fun j => j = g9) Hgr.out (fun j hj => (Option.some.inj hj).symm)) (fun j hj => .inr (by have := Hg9.out; have := HwW.out; omega))).drew)
                  clear H5 HB Hgr H4 HB9
                  generalize wr.drew = W at *
                  have hRg : ¬ rows3 vG vA vA W.heap.size g := by
                    rintro (h | h | h | h)
                    · exact H6.out.neG h rfl
                    · exact H6.out.neA h rfl
                    · exact H6.out.neA h rfl
                    · have := H6.out.blk.lt; omega
                  have hl0 := cell_laterR H6.out.blk hRg (i := 0) rfl
                  have hl2 := cell_laterR H6.out.blk hRg (i := 2) rfl
                  have hl3 := cell_laterR H6.out.blk hRg (i := 3) rfl
                  have huG : (gs.map Slc.v)[k]? = some s0.v := by rw [List.getElem?_map, Hs0.out]; rfl
                  have huA : ((Dsk.crK keep torn cut d.secs k).map fun s => Value.int .i64 (s.age : Int))[k]? = some (.int .i64 (x.age : Int)) := by rw [List.getElem?_map, Hgx.out]; rfl
                  have huO : ((Dsk.crK keep torn cut d.secs k).map fun s => Value.int .i64 (s.old : Int))[k]? = some (.int .i64 (x.old : Int)) := by rw [List.getElem?_map, Hgx.out]; rfl
                  obtain ⟨gG, hixG, oG, _, cellG, fzG⟩ := row_at Try.undSls Try.sizeSl H6.out.rG huG
                  obtain ⟨gA, hixA, oA, _, cellA, fzA⟩ := row_at Try.undIs Try.sizeI1 H6.out.rA huA
                  obtain ⟨gO, hixO, oO, ltO, cellO, _⟩ := row_at Try.undIs Try.sizeI1 H6.out.rO huO
                  have nAG : gA ≠ gG := RowA.ne H6.out.rA H6.out.rG (by decide) oA oG
                  have nOG : gO ≠ gG := RowA.ne H6.out.rO H6.out.rG (by decide) oO oG
                  have nAO : gA ≠ gO := fun e => H6.out.nAO gA oA (by rw [e]; exact oO)
                  have hRO : ¬ rows3 vG vA vA W.heap.size gO := by
                    rintro (h | h | h | h)
                    · rw [oG] at h; exact nOG (Option.some.inj h).symm
                    · rw [oA] at h; exact nAO (Option.some.inj h)
                    · rw [oA] at h; exact nAO (Option.some.inj h)
                    · omega
                  have hlO : ∀ y : Later (onlyG (rows3 vG vA vA W.heap.size)) W, y.to.cell? ⟨gO, k, none⟩ = some (.int .i64 (x.old : Int)) := fun y =>
                    (World.cell?_of_block (w := W) (w' := y.to) (a := ⟨gO, k, none⟩) ((show Only (rows3 vG vA vA W.heap.size) W y.to from y.grown).block gO ltO hRO)).trans cellO
                  have cellA3 : (W.setCell ⟨gG, k, none⟩ (.slice (some ⟨g9, 0, none⟩) 32 cap)).cell? ⟨gA, k, none⟩ = some (.int .i64 (x.age : Int)) := (cell_set_ne nAG).trans cellA
                  have fzA3 : (W.setCell ⟨gG, k, none⟩ (.slice (some ⟨g9, 0, none⟩) 32 cap)).frozen? ⟨gA, k, none⟩ = false := (frozen_set_ne nAG).trans fzA
                  have OG := Lib.hid oG
                  have OA := Lib.hid oA
                  have NAG := Lib.hid nAG
                  clear huG huA huO oG oA oO nAG nOG nAO cellA fzA cellO hRg hRO ltO
                  refine segG (by kernel_rfl) (fun _ _ _ _ _ h => h) [0, 1, 2, 3, 4, 5, 6, 7, 8, 9] [_, _, _, _, _, _, _, _, _, _] 12 rfl rfl (by kernel_rfl) ?_
                  repeat (go_big_quiet_step (fail))
                  refine wpQuiet_nil ?_
                  refine segG (by kernel_rfl) (fun _ _ _ _ _ h => h) [10, 11, 12, 13, 14, 15, 16, 17, 18] [_, _, _, _, _, _, _, _, _] 3 rfl rfl (by kernel_rfl) ?_
                  repeat (go_big_quiet_step (fail))
                  refine wpQuiet_nil ?_
                  clear hl0 hl2 hl3 hlO hixG hixO
                  refine oneG 19 2 rfl (by kernel_rfl) rfl ?_
                  go_wp2
                  refine ⟨Only.set (p := ⟨gG, k, none⟩) (.inl OG.out) _, ?_⟩
                  refine segG (by kernel_rfl) (fun _ _ _ _ _ h => h) [20] [_] 1 rfl rfl (by kernel_rfl) ?_
                  repeat (go_big_quiet_step (fail))
                  refine wpQuiet_nil ?_
                  refine oneG 21 0 rfl (by kernel_rfl) rfl ?_
                  go_wp2
                  refine ⟨Only.set (p := ⟨gA, k, none⟩) (.inr (.inl OA.out)) _, ?_⟩
                  refine wpAnyG_done (by kernel_rfl) ?_
                  clear hixA cellG fzG cellA3 fzA3
                  obtain ⟨W5, hW5⟩ : ∃ W5, (W.setCell ⟨gG, k, none⟩ (.slice (some ⟨g9, 0, none⟩) 32 cap)).setCell ⟨gA, k, none⟩ (.int .i64 (x.old : Int)) = W5 := ⟨_, rfl⟩
                  rw [hW5]
                  obtain ⟨y, hyv⟩ : ∃ y : Sec, y = { x with good := x.good.take cut.toNat ++ x.sure.drop cut.toNat, age := x.old } := ⟨_, rfl⟩
                  have hkl : k < (Dsk.crK keep torn cut d.secs k).length := by rw [Dsk.crK_len, ← Hm.out]; exact h1
                  have hfar : ∀ j, j ≠ gG → j ≠ gA → W5.heap[j]? = W.heap[j]? := fun j h1 h2 => by rw [← hW5, Below.heap_setCell _ ⟨gA, k, none⟩ _ _ h2, Below.heap_setCell _ ⟨gG, k, none⟩ _ _ h1]
                  have hsz : W5.heap.size = W.heap.size := by rw [← hW5]; simp [World.setCell]
                  have hf1 := H6.out.ok.secs x (List.mem_of_getElem? Hgx.out)
                  have hyl : y.good.length = 32 := by rw [hyv]; exact Dsk.cut_len hf1.good hf1.sure (by omega)
                  have hfin : Dsk.Fine d.many y := ⟨hyl, by rw [hyv]; exact hf1.sure, by rw [hyv]; exact hf1.old, by rw [hyv]; exact hf1.old, fun e => by rw [hyv] at e; have e2 : x.wet = false := e; rw [Hw.out] at e2; cases e2⟩
                  have hlow : ∀ j, F1 j → j < g9 := fun j hj => Nat.lt_of_lt_of_le (HltW.out j hj) Hg9.out
                  have hS9 : Hold W5 ⟨g9, cap⟩ y.good := ⟨Hcap.out, hyl, rest, (hfar g9 (fun e => by have := hlow _ (H6.out.fG _ OG.out); omega) (fun e => by have := hlow _ (H6.out.fA _ OA.out); omega)).trans (by rw [hyv]; exact HBm.out)⟩
                  have hh1 := H6.out.hS k s1 x Hs1.out Hgx.out
                  have hS1 : Hold W5 s1 y.sure := by
                    rw [hyv]
                    exact hh1.keep (hfar s1.b (hh1.neRow H6.out.rG OG.out (by decide)) (hh1.neRow H6.out.rA OA.out (by decide)))
                  have rG' : RowA W5 40 vG ((gs.set k ⟨g9, cap⟩).map Slc.v) := by
                    rw [List.map_set, ← hW5]
                    have h1 := H6.out.rG.setAt OG.out (i := k) (by rw [List.length_map, H6.out.lG]; exact hkl) (.slice (some ⟨g9, 0, none⟩) 32 cap)
                    refine h1.keep fun j hj => ?_
                    rw [OG.out] at hj
                    obtain rfl := Option.some.inj hj
                    exact Below.heap_setCell _ ⟨gA, k, none⟩ _ _ (fun e => NAG.out e.symm)
                  have rS' : RowA W5 40 vS ((ss.set k s1).map Slc.v) := by
                    rw [set_same Hs1.out]
                    exact H6.out.rS.keep fun j hj => hfar j (fun e => by subst e; exact H6.out.nGS _ OG.out hj) (RowA.ne H6.out.rS H6.out.rA (by decide) hj OA.out)
                  have rA' : RowA W5 3 vA (((Dsk.crK keep torn cut d.secs k).set k y).map fun s => .int .i64 (s.age : Int)) := by
                    rw [List.map_set, ← hW5, hyv]
                    have h0 : RowA (W.setCell ⟨gG, k, none⟩ (.slice (some ⟨g9, 0, none⟩) 32 cap)) 3 vA ((Dsk.crK keep torn cut d.secs k).map fun s => .int .i64 (s.age : Int)) := H6.out.rA.keep fun j hj => by
                      rw [OA.out] at hj
                      obtain rfl := Option.some.inj hj
                      exact Below.heap_setCell _ ⟨gG, k, none⟩ _ _ NAG.out
                    exact h0.setAt OA.out (i := k) (by rw [List.length_map]; exact hkl) (.int .i64 (x.old : Int))
                  have rO' : RowA W5 3 vO (((Dsk.crK keep torn cut d.secs k).set k y).map fun s => .int .i64 (s.old : Int)) := by
                    rw [List.map_set, set_same (by rw [List.getElem?_map, Hgx.out, hyv]; rfl)]
                    exact H6.out.rO.keep fun j hj => hfar j (RowA.ne H6.out.rO H6.out.rG (by decide) hj OG.out) (fun e => by subst e; exact H6.out.nAO _ OA.out hj)
                  have rW' : RowA W5 4 vW (((Dsk.crK keep torn cut d.secs k).set k y).map fun s => .bool s.wet) := by
                    rw [List.map_set, set_same (by rw [List.getElem?_map, Hgx.out, hyv]; rfl)]
                    exact H6.out.rW.keep fun j hj => hfar j (RowA.ne H6.out.rW H6.out.rG (by decide) hj OG.out) (RowA.ne H6.out.rW H6.out.rA (by decide) hj OA.out)
                  have hRR := H6.out.one (F' := fun j => F1 j ∨ j = g9) (w' := W5) (x' := y) hkl hfin ⟨g9, cap⟩ s1
                    (fun j _ n1 _ n3 _ _ => hfar j (fun e => n1 (by rw [e]; exact OG.out)) (fun e => n3 (by rw [e]; exact OA.out)))
                    rG' rS' rA' rO' rW' hS9 hS1 (fun j hj => .inl hj) (.inr rfl) (.inl (H6.out.fss _ (List.mem_of_getElem? Hs1.out))) (fun j hj => by
                      rw [hsz]
                      rcases hj with hj | rfl
                      · exact H6.out.lt j hj
                      · exact HBm.out.lt)
                  have HR5 := Lib.hid (show RefD W5 (fun j => F1 j ∨ j = g9) g ⟨(Dsk.crK keep torn cut d.secs k).set k y, d.fuse, d.many⟩ from ⟨vG, vS, vA, vO, vW, _, _, f, hRR⟩)
                  have HF5 := Lib.hid (show ∀ j, F1 j ∨ j = g9 → F j ∨ w.heap.size ≤ j from fun j hj => by
                    rcases hj with hj | rfl
                    · exact HF.out j hj
                    · exact .inr (Nat.le_trans HwW.out Hg9.out))
                  have Ho5 := Lib.hid (show Only F w W5 by
                    rw [← hW5]
                    exact (Ho6.out.then (Only.set (p := ⟨gG, k, none⟩) (H6.out.fG _ OG.out) _) HF.out).then (Only.set (p := ⟨gA, k, none⟩) (H6.out.fA _ OA.out) _) HF.out)
                  have Hy := Lib.hid (show ((Dsk.crK keep torn cut d.secs k).set k y)[k]? = some y from List.getElem?_set_self hkl)
                  have Hnext := Lib.hid (show ((Dsk.crK keep torn cut d.secs k).set k y).set k (Dsk.settle y) = Dsk.crK keep torn cut d.secs (k + 1) by
                    rw [List.set_set, ← Hwet.out, HstV.out, Dsk.cut1, if_pos (by omega), hyv])
                  clear hRR rG' rS' rA' rO' rW' hS9 hS1 hh1 hlow hfin hyl hf1 hsz hfar hkl hyv hW5 H6 HBm Ho6 HltW Hg9 Hcap Ho4 HwW OG OA NAG
                  go_wp2_with fail
                  refine (refSettle_any HR5.out k y Hy.out).mono ?_
                  rintro e w9 ⟨rfl, hR9, ho9⟩
                  have HR9 := Lib.hid (show RefD w9 (fun j => F1 j ∨ j = g9) g ⟨Dsk.crK keep torn cut d.secs (k + 1), d.fuse, d.many⟩ by rw [← Hnext.out]; exact hR9)
                  have Ho9 := Lib.hid (Ho5.out.then ho9 HF5.out)
                  clear hR9 ho9 HR5 Ho5 Hy Hnext
                  go_wp2
                  exact ⟨⟨k + 1, by omega, by go_num, by rw [Hnx.out, Hw.out]; go_num, _, HR9.out, HF5.out, Ho9.out⟩, by simp [intOf]; omega⟩
            · have hcd : decide (cut < 32) = false := by simpa using hcut
              have Hnext := Lib.hid (show (Dsk.crK keep torn cut d.secs k).set k (Dsk.settle x) = Dsk.crK keep torn cut d.secs (k + 1) by
                rw [← Hwet.out, HstV.out, Dsk.cut1, if_neg (by omega)])
              go_wp2_with fail
              refine (refSettle_any HR.out k x Hgx.out).mono ?_
              rintro e w9 ⟨rfl, hR9, ho9⟩
              have HR9 := Lib.hid (show RefD w9 F1 g ⟨Dsk.crK keep torn cut d.secs (k + 1), d.fuse, d.many⟩ by rw [← Hnext.out]; exact hR9)
              have Ho9 := Lib.hid (Ho.out.then ho9 HF.out)
              clear hR9 ho9 hc0 hc4 hixW cellW
              go_wp2
              exact ⟨⟨k + 1, by omega, by go_num, by rw [Hnx.out, Hw.out]; go_num, F1, HR9.out, HF.out, Ho9.out⟩, by simp [intOf]; omega⟩
          · have htb : ((q : Int) == torn) = false := by simpa using htm
            have HstV := Lib.hid (show Dsk.stays keep torn cut q = 0 by rw [Hst.out, if_neg htm, Hbit.out]; rfl)
            clear htm
            have hhS := Hh.out.hS k s1 x Hs1.out Hgx.out
            have hsb : s1.b < wr.heap.size := Hh.out.lt _ (Hh.out.fss s1 (List.mem_of_getElem? Hs1.out))
            have hbl := below_alloc wr (.cells #[] 5)
            have huS : (ss.map Slc.v)[k]? = some s1.v := by rw [List.getElem?_map, Hs1.out]; rfl
            obtain ⟨gS, hixS, oS, ltS, cellS, _⟩ := row_at Try.undSls Try.sizeSl Hh.out.rS huS
            have c1 : (wr.alloc (.cells #[] 5)).cell? ⟨g, 1, none⟩ = some vS := (hbl.cell (p := ⟨g, 1, none⟩) Hh.out.blk.lt).trans (Hh.out.blk.cell 1)
            have cS : (wr.alloc (.cells #[] 5)).cell? ⟨gS, k, none⟩ = some (.slice (some ⟨s1.b, 0, none⟩) 32 s1.c) := (hbl.cell (p := ⟨gS, k, none⟩) ltS).trans cellS
            obtain ⟨v', W2, e1, ho', hb', _⟩ := app_rd (P := Try.prog) (w := wr.alloc (.cells #[] 5)) 40 40 Try.und22 Try.info5 (own_made wr wr.heap.size 5 (Nat.le_refl _)) hbl.size s1.c ((hhS.rd hsb).below hbl) (by rw [hhS.2.1]; simp)
            rw [hhS.2.1] at e1
            rw [List.nil_append] at ho'
            obtain ⟨g9, cap, rest, e9, hg9, hcap, hB9⟩ := ho'.blk (by rw [hhS.2.1]; omega)
            rw [hhS.2.1] at e9 hcap
            subst e9
            have Hsl := Lib.hid hhS.2.1
            have hbW := hbl.trans hb'
            have H4 := Lib.hid (Hh.out.below hbW)
            have HltW := Lib.hid Hh.out.lt
            have Hg9 := Lib.hid hg9
            have Hcap := Lib.hid hcap
            have HB9 := Lib.hid hB9
            have Ho4 := Lib.hid (Ho.out.then (Only.of_below F1 hbW) HF.out)
            have HwW := Lib.hid Ho.out.size
            have HE1 := Lib.hid e1
            clear hhS hsb hbl huS oS ltS cellS e1 ho' hb' hg9 hcap hB9 hbW
            go_wp2_with (at_builtin; refine wpList_append_run rfl (.tmp 47) (.tmp 54) _ rfl rfl rfl HE1.out ?_)
            clear c1 cS hixS hc0 hc4 hixW cellW HE1 Hh Ho HR
            go_loopw [12] (fun i w' => ∃ k2 : Nat, k2 ≤ (0 : Int).toNat ∧ i = .int .i64 k2 ∧ W2.grownBy w' (some g9) ∧ Blk w' g9 5 (u8s (x.good.take k2 ++ x.sure.drop k2) ++ rest)) (fun i _ => (0 : Int).toNat - (intOf i).toNat)
            case atStart => exact ⟨0, Nat.zero_le _, rfl, World.grownBy.refl _ _, by simpa using HB9.out⟩
            case round =>
              obtain ⟨k2, hk2, rfl, hgr, hB⟩ := hrel
              have hF9 : ∀ j, F1 j → j ≠ g9 := fun j hj e => by have := HltW.out j hj; have := Hg9.out; omega
              have H5 := Lib.hid (H4.out.keep hgr.size (fun j hj => hgr.block j (H4.out.lt j hj) (fun e => hF9 j hj (Option.some.inj e))))
              have Hgr := Lib.hid hgr
              have HB := Lib.hid hB
              clear hgr hB
              by_cases hlt : (k2 : Int) < 0
              · exact absurd hlt (by omega)
              · have hd2 : decide ((k2 : Int) < 0) = false := by simp
                have hk2e : k2 = (0 : Int).toNat := by omega
                have Hk2e := Lib.hid hk2e
                clear hk2e
                go_wp2_with fail
                refine wp_region_G (onlyG (rows3 vG vA vA wr.drew.heap.size)) (by kernel_rfl) ?_
                have H6 := Lib.hid (H5.out.below (Below.refl _ wr).drew)
                have HBm := Lib.hid (show Blk wr.drew g9 5 (u8s (x.good.take (0 : Int).toNat ++ x.sure.drop (0 : Int).toNat) ++ rest) by rw [← Hk2e.out]; exact HB.out)
                have Ho6 := Lib.hid (show Only F w wr.drew from (Ho4.out.then (Only.of_grown (F := fun j => j = g9) Hgr.out (fun j hj => (Option.some.inj hj).symm)) (fun j hj => .inr (by have := Hg9.out; have := HwW.out; omega))).drew)
                clear H5 HB Hgr H4 HB9
                generalize wr.drew = W at *
                have hRg : ¬ rows3 vG vA vA W.heap.size g := by
                  rintro (h | h | h | h)
                  · exact H6.out.neG h rfl
                  · exact H6.out.neA h rfl
                  · exact H6.out.neA h rfl
                  · have := H6.out.blk.lt; omega
                have hl0 := cell_laterR H6.out.blk hRg (i := 0) rfl
                have hl2 := cell_laterR H6.out.blk hRg (i := 2) rfl
                have hl3 := cell_laterR H6.out.blk hRg (i := 3) rfl
                have huG : (gs.map Slc.v)[k]? = some s0.v := by rw [List.getElem?_map, Hs0.out]; rfl
                have huA : ((Dsk.crK keep torn cut d.secs k).map fun s => Value.int .i64 (s.age : Int))[k]? = some (.int .i64 (x.age : Int)) := by rw [List.getElem?_map, Hgx.out]; rfl
                have huO : ((Dsk.crK keep torn cut d.secs k).map fun s => Value.int .i64 (s.old : Int))[k]? = some (.int .i64 (x.old : Int)) := by rw [List.getElem?_map, Hgx.out]; rfl
                obtain ⟨gG, hixG, oG, _, cellG, fzG⟩ := row_at Try.undSls Try.sizeSl H6.out.rG huG
                obtain ⟨gA, hixA, oA, _, cellA, fzA⟩ := row_at Try.undIs Try.sizeI1 H6.out.rA huA
                obtain ⟨gO, hixO, oO, ltO, cellO, _⟩ := row_at Try.undIs Try.sizeI1 H6.out.rO huO
                have nAG : gA ≠ gG := RowA.ne H6.out.rA H6.out.rG (by decide) oA oG
                have nOG : gO ≠ gG := RowA.ne H6.out.rO H6.out.rG (by decide) oO oG
                have nAO : gA ≠ gO := fun e => H6.out.nAO gA oA (by rw [e]; exact oO)
                have hRO : ¬ rows3 vG vA vA W.heap.size gO := by
                  rintro (h | h | h | h)
                  · rw [oG] at h; exact nOG (Option.some.inj h).symm
                  · rw [oA] at h; exact nAO (Option.some.inj h)
                  · rw [oA] at h; exact nAO (Option.some.inj h)
                  · omega
                have hlO : ∀ y : Later (onlyG (rows3 vG vA vA W.heap.size)) W, y.to.cell? ⟨gO, k, none⟩ = some (.int .i64 (x.old : Int)) := fun y =>
                  (World.cell?_of_block (w := W) (w' := y.to) (a := ⟨gO, k, none⟩) ((show Only (rows3 vG vA vA W.heap.size) W y.to from y.grown).block gO ltO hRO)).trans cellO
                have cellA3 : (W.setCell ⟨gG, k, none⟩ (.slice (some ⟨g9, 0, none⟩) 32 cap)).cell? ⟨gA, k, none⟩ = some (.int .i64 (x.age : Int)) := (cell_set_ne nAG).trans cellA
                have fzA3 : (W.setCell ⟨gG, k, none⟩ (.slice (some ⟨g9, 0, none⟩) 32 cap)).frozen? ⟨gA, k, none⟩ = false := (frozen_set_ne nAG).trans fzA
                have OG := Lib.hid oG
                have OA := Lib.hid oA
                have NAG := Lib.hid nAG
                clear huG huA huO oG oA oO nAG nOG nAO cellA fzA cellO hRg hRO ltO
                refine segG (by kernel_rfl) (fun _ _ _ _ _ h => h) [0, 1, 2, 3, 4, 5, 6, 7, 8, 9] [_, _, _, _, _, _, _, _, _, _] 12 rfl rfl (by kernel_rfl) ?_
                repeat (go_big_quiet_step (fail))
                refine wpQuiet_nil ?_
                refine segG (by kernel_rfl) (fun _ _ _ _ _ h => h) [10, 11, 12, 13, 14, 15, 16, 17, 18] [_, _, _, _, _, _, _, _, _] 3 rfl rfl (by kernel_rfl) ?_
                repeat (go_big_quiet_step (fail))
                refine wpQuiet_nil ?_
                clear hl0 hl2 hl3 hlO hixG hixO
                refine oneG 19 2 rfl (by kernel_rfl) rfl ?_
                go_wp2
                refine ⟨Only.set (p := ⟨gG, k, none⟩) (.inl OG.out) _, ?_⟩
                refine segG (by kernel_rfl) (fun _ _ _ _ _ h => h) [20] [_] 1 rfl rfl (by kernel_rfl) ?_
                repeat (go_big_quiet_step (fail))
                refine wpQuiet_nil ?_
                refine oneG 21 0 rfl (by kernel_rfl) rfl ?_
                go_wp2
                refine ⟨Only.set (p := ⟨gA, k, none⟩) (.inr (.inl OA.out)) _, ?_⟩
                refine wpAnyG_done (by kernel_rfl) ?_
                clear hixA cellG fzG cellA3 fzA3
                obtain ⟨W5, hW5⟩ : ∃ W5, (W.setCell ⟨gG, k, none⟩ (.slice (some ⟨g9, 0, none⟩) 32 cap)).setCell ⟨gA, k, none⟩ (.int .i64 (x.old : Int)) = W5 := ⟨_, rfl⟩
                rw [hW5]
                obtain ⟨y, hyv⟩ : ∃ y : Sec, y = { x with good := x.good.take (0 : Int).toNat ++ x.sure.drop (0 : Int).toNat, age := x.old } := ⟨_, rfl⟩
                have hkl : k < (Dsk.crK keep torn cut d.secs k).length := by rw [Dsk.crK_len, ← Hm.out]; exact h1
                have hfar : ∀ j, j ≠ gG → j ≠ gA → W5.heap[j]? = W.heap[j]? := fun j h1 h2 => by rw [← hW5, Below.heap_setCell _ ⟨gA, k, none⟩ _ _ h2, Below.heap_setCell _ ⟨gG, k, none⟩ _ _ h1]
                have hsz : W5.heap.size = W.heap.size := by rw [← hW5]; simp [World.setCell]
                have hf1 := H6.out.ok.secs x (List.mem_of_getElem? Hgx.out)
                have hyl : y.good.length = 32 := by rw [hyv]; exact Dsk.cut_len hf1.good hf1.sure (by omega)
                have hfin : Dsk.Fine d.many y := ⟨hyl, by rw [hyv]; exact hf1.sure, by rw [hyv]; exact hf1.old, by rw [hyv]; exact hf1.old, fun e => by rw [hyv] at e; have e2 : x.wet = false := e; rw [Hw.out] at e2; cases e2⟩
                have hlow : ∀ j, F1 j → j < g9 := fun j hj => Nat.lt_of_lt_of_le (HltW.out j hj) Hg9.out
                have hS9 : Hold W5 ⟨g9, cap⟩ y.good := ⟨Hcap.out, hyl, rest, (hfar g9 (fun e => by have := hlow _ (H6.out.fG _ OG.out); omega) (fun e => by have := hlow _ (H6.out.fA _ OA.out); omega)).trans (by rw [hyv]; exact HBm.out)⟩
                have hh1 := H6.out.hS k s1 x Hs1.out Hgx.out
                have hS1 : Hold W5 s1 y.sure := by
                  rw [hyv]
                  exact hh1.keep (hfar s1.b (hh1.neRow H6.out.rG OG.out (by decide)) (hh1.neRow H6.out.rA OA.out (by decide)))
                have rG' : RowA W5 40 vG ((gs.set k ⟨g9, cap⟩).map Slc.v) := by
                  rw [List.map_set, ← hW5]
                  have h1 := H6.out.rG.setAt OG.out (i := k) (by rw [List.length_map, H6.out.lG]; exact hkl) (.slice (some ⟨g9, 0, none⟩) 32 cap)
                  refine h1.keep fun j hj => ?_
                  rw [OG.out] at hj
                  obtain rfl := Option.some.inj hj
                  exact Below.heap_setCell _ ⟨gA, k, none⟩ _ _ (fun e => NAG.out e.symm)
                have rS' : RowA W5 40 vS ((ss.set k s1).map Slc.v) := by
                  rw [set_same Hs1.out]
                  exact H6.out.rS.keep fun j hj => hfar j (fun e => by subst e; exact H6.out.nGS _ OG.out hj) (RowA.ne H6.out.rS H6.out.rA (by decide) hj OA.out)
                have rA' : RowA W5 3 vA (((Dsk.crK keep torn cut d.secs k).set k y).map fun s => .int .i64 (s.age : Int)) := by
                  rw [List.map_set, ← hW5, hyv]
                  have h0 : RowA (W.setCell ⟨gG, k, none⟩ (.slice (some ⟨g9, 0, none⟩) 32 cap)) 3 vA ((Dsk.crK keep torn cut d.secs k).map fun s => .int .i64 (s.age : Int)) := H6.out.rA.keep fun j hj => by
                    rw [OA.out] at hj
                    obtain rfl := Option.some.inj hj
                    exact Below.heap_setCell _ ⟨gG, k, none⟩ _ _ NAG.out
                  exact h0.setAt OA.out (i := k) (by rw [List.length_map]; exact hkl) (.int .i64 (x.old : Int))
                have rO' : RowA W5 3 vO (((Dsk.crK keep torn cut d.secs k).set k y).map fun s => .int .i64 (s.old : Int)) := by
                  rw [List.map_set, set_same (by rw [List.getElem?_map, Hgx.out, hyv]; rfl)]
                  exact H6.out.rO.keep fun j hj => hfar j (RowA.ne H6.out.rO H6.out.rG (by decide) hj OG.out) (fun e => by subst e; exact H6.out.nAO _ OA.out hj)
                have rW' : RowA W5 4 vW (((Dsk.crK keep torn cut d.secs k).set k y).map fun s => .bool s.wet) := by
                  rw [List.map_set, set_same (by rw [List.getElem?_map, Hgx.out, hyv]; rfl)]
                  exact H6.out.rW.keep fun j hj => hfar j (RowA.ne H6.out.rW H6.out.rG (by decide) hj OG.out) (RowA.ne H6.out.rW H6.out.rA (by decide) hj OA.out)
                have hRR := H6.out.one (F' := fun j => F1 j ∨ j = g9) (w' := W5) (x' := y) hkl hfin ⟨g9, cap⟩ s1
                  (fun j _ n1 _ n3 _ _ => hfar j (fun e => n1 (by rw [e]; exact OG.out)) (fun e => n3 (by rw [e]; exact OA.out)))
                  rG' rS' rA' rO' rW' hS9 hS1 (fun j hj => .inl hj) (.inr rfl) (.inl (H6.out.fss _ (List.mem_of_getElem? Hs1.out))) (fun j hj => by
                    rw [hsz]
                    rcases hj with hj | rfl
                    · exact H6.out.lt j hj
                    · exact HBm.out.lt)
                have HR5 := Lib.hid (show RefD W5 (fun j => F1 j ∨ j = g9) g ⟨(Dsk.crK keep torn cut d.secs k).set k y, d.fuse, d.many⟩ from ⟨vG, vS, vA, vO, vW, _, _, f, hRR⟩)
                have HF5 := Lib.hid (show ∀ j, F1 j ∨ j = g9 → F j ∨ w.heap.size ≤ j from fun j hj => by
                  rcases hj with hj | rfl
                  · exact HF.out j hj
                  · exact .inr (Nat.le_trans HwW.out Hg9.out))
                have Ho5 := Lib.hid (show Only F w W5 by
                  rw [← hW5]
                  exact (Ho6.out.then (Only.set (p := ⟨gG, k, none⟩) (H6.out.fG _ OG.out) _) HF.out).then (Only.set (p := ⟨gA, k, none⟩) (H6.out.fA _ OA.out) _) HF.out)
                have Hy := Lib.hid (show ((Dsk.crK keep torn cut d.secs k).set k y)[k]? = some y from List.getElem?_set_self hkl)
                have Hnext := Lib.hid (show ((Dsk.crK keep torn cut d.secs k).set k y).set k (Dsk.settle y) = Dsk.crK keep torn cut d.secs (k + 1) by
                  rw [List.set_set, ← Hwet.out, HstV.out, Dsk.cut1, if_pos (by omega), hyv])
                clear hRR rG' rS' rA' rO' rW' hS9 hS1 hh1 hlow hfin hyl hf1 hsz hfar hkl hyv hW5 H6 HBm Ho6 HltW Hg9 Hcap Ho4 HwW OG OA NAG
                go_wp2_with fail
                refine (refSettle_any HR5.out k y Hy.out).mono ?_
                rintro e w9 ⟨rfl, hR9, ho9⟩
                have HR9 := Lib.hid (show RefD w9 (fun j => F1 j ∨ j = g9) g ⟨Dsk.crK keep torn cut d.secs (k + 1), d.fuse, d.many⟩ by rw [← Hnext.out]; exact hR9)
                have Ho9 := Lib.hid (Ho5.out.then ho9 HF5.out)
                clear hR9 ho9 HR5 Ho5 Hy Hnext
                go_wp2
                exact ⟨⟨k + 1, by omega, by go_num, by rw [Hnx.out, Hw.out]; go_num, _, HR9.out, HF5.out, Ho9.out⟩, by simp [intOf]; omega⟩
    · have hd : decide ((k : Int) < (m : Int)) = false := by simp; omega
      have Hkm := Lib.hid (show k = m by omega)
      have hc5 := Hh.out.blk.cell 5
      simp only [List.getElem?_cons_zero, List.getElem?_cons_succ] at hc5
      have hfz5 := Hh.out.blk.frozen 5
      have Hfin := Lib.hid (Hh.out.cells (i := 5) (u := .int .i64 (-1)) (f' := -1) (d' := ⟨Dsk.crK keep torn cut d.secs k, none, d.many⟩) rfl ⟨by unfold isI64; omega, .inl ⟨by omega, rfl⟩⟩ rfl ⟨Hh.out.ok.len, Hh.out.ok.secs⟩)
      have Hfg := Lib.hid Hh.out.fg
      go_wp2
      go_end0
      exact ⟨rfl, F1, by rw [HD.out, ← Hkm.out]; exact ⟨vG, vS, vA, vO, vW, gs, ss, _, Hfin.out⟩, HF.out, Ho.out.then (Only.set (p := ⟨g, 5, none⟩) Hfg.out _) HF.out⟩
end Go.Proofs.Ytampdfmakhdliaa
