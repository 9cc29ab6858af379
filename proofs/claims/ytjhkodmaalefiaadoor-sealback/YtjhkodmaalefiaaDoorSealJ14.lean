/-
  The reference's New: a contract.
-/
import Derived.Test.YtjhkodmaalefiaaDoorSealJ13
import Derived.Test.YtjhkodmaalefiaaDoorSealJ11
import Derived.Deep.CutRange
set_option maxRecDepth 100000
namespace Go.Proofs.YtjhkodmaalefiaaDoor
open Go.RowKit Go.Gar Go.Gar.Aes

theorem rd_sub {w : World} {B b o : Nat} {l : List UInt8} (h : Rd w B (some ⟨b, o, none⟩) l) (j m : Nat) : Rd w B (some ⟨b, o + j, none⟩) ((l.drop j).take m) := by
  rcases h with rfl | ⟨b', o', e, hb, hc⟩
  · left; simp
  · simp at e
    obtain ⟨rfl, rfl⟩ := e
    refine .inr ⟨b, o + j, rfl, hb, fun i c hi => ?_⟩
    rw [List.getElem?_take] at hi
    split at hi
    · rw [List.getElem?_drop] at hi
      rw [Nat.add_assoc]
      exact hc _ _ hi
    · cases hi
theorem AesS.refC {w : World} {gc gt gb base gw m cw : Nat} {xs : List Value} {ws : List (List UInt8)} (h : AesS w gc gt gb base (.slice (some ⟨gw, 0, none⟩) m cw) xs ws) (hm : m = ws.length) (h60 : ws.length ≤ 60) : RefC w gc gt gb gw cw ws := by
  subst hm
  refine ⟨by rw [h.blk.cell]; rfl, by rw [h.blk.cell]; rfl, by rw [h.blk.cell]; rfl, h.there, h.back, h60, fun i l hl => ?_⟩
  obtain ⟨g, c, rest, h1, h2, _, h4⟩ := h.words.2 i l hl
  have hi : i < ws.length := (List.getElem?_eq_some_iff.1 hl).1
  obtain ⟨g', c', e, _, hc⟩ := h.own.view (by rw [h.words.1]; omega)
  simp at e
  obtain ⟨rfl, _, _⟩ := e
  exact ⟨g, 0, c, hc i _ h1, h2, fun k x hx => by rw [Nat.zero_add]; exact row_get h4 hx⟩
def eq8 (n : Nat) : Bool := (n : Int) == 8
theorem xor4_get (a b : List UInt8) (k : Nat) (h : k < 4) : (xor4 a b)[k]? = some (at_ a k ^^^ at_ b k) := by
  rcases (show k = 0 ∨ k = 1 ∨ k = 2 ∨ k = 3 by omega) with rfl | rfl | rfl | rfl <;> rfl
def sub4 (w : List UInt8) : List UInt8 := [sb (at_ w 0), sb (at_ w 1), sb (at_ w 2), sb (at_ w 3)]
theorem sub4_get (a : List UInt8) (k : Nat) (h : k < 4) : (sub4 a)[k]? = some (sb (at_ a k)) := by
  rcases (show k = 0 ∨ k = 1 ∨ k = 2 ∨ k = 3 by omega) with rfl | rfl | rfl | rfl <;> rfl
theorem list4 (l : List UInt8) (h : l.length = 4) : l = [at_ l 0, at_ l 1, at_ l 2, at_ l 3] := by
  match l, h with
  | [a, b, c, d], _ => rfl
theorem key_word (key : List UInt8) (i : Nat) (h : 4 * i + 4 ≤ key.length) : (key.drop (4 * i)).take 4 = [at_ key (4 * i), at_ key (4 * i + 1), at_ key (4 * i + 2), at_ key (4 * i + 3)] := by
  apply List.ext_getElem?
  intro k
  by_cases hk : k < 4
  · rw [List.getElem?_take, if_pos hk, List.getElem?_drop, at_get (by omega)]
    rcases (show k = 0 ∨ k = 1 ∨ k = 2 ∨ k = 3 by omega) with rfl | rfl | rfl | rfl <;> rfl
  · rw [List.getElem?_eq_none (by simp; omega), List.getElem?_eq_none (by simp; omega)]

set_option maxRecDepth 100000 in
theorem refNew_no (w : World) (A : Option Addr) (len cap : Nat) (h : ¬ (len = 16 ∨ len = 24 ∨ len = 32)) :
    Calls Tryd.prog 41 #[.slice A len cap] w fun e w' => e = .returned (.tuple #[.pointer none, .bool false]) ∧ w' = w := by
  have d1 : ((len : Int) != 16) = true := by rw [bne_iff_ne]; omega
  have d2 : ((len : Int) != 24) = true := by rw [bne_iff_ne]; omega
  have d3 : ((len : Int) != 32) = true := by rw [bne_iff_ne]; omega
  clear h
  go_enter Tryd.func41, Tryd.ntmps41
  go_wp2
  go_ret2
  exact ⟨rfl, rfl⟩

set_option maxHeartbeats 4000000 in
set_option maxRecDepth 100000 in
theorem refNew_yes (w : World) (A : Option Addr) (key : List UInt8) (n cap : Nat) (hn : n = 4 ∨ n = 6 ∨ n = 8) (hcap : 4 * n ≤ cap) (hk : key.length = 4 * n) (hr : Rd w w.heap.size A key) :
    Calls Tryd.prog 41 #[.slice A (4 * n) cap] w fun e w' => ∃ gc gt gb gw cp, e = .returned (.tuple #[.pointer (some ⟨gc, 0, none⟩), .bool true]) ∧ RefC w' gc gt gb gw cp (words key n (4 * n + 28)) ∧ Below w.heap.size w w' := by
  go_enter Tryd.func41, Tryd.ntmps41
  go_upto_region 2 with fail
  go_cut [28] from 16 to 28 (fun t w' => t = .bool false ∧ w' = w)
  case first =>
    by_cases h4 : n = 4
    · have d1 : ((4 * (n : Int)) != 16) = false := by rw [bne_eq_false_iff_eq]; omega
      go_wp2
      go_meet
      case rel => exact ⟨rfl, rfl⟩
    · have d1 : ((4 * (n : Int)) != 16) = true := by rw [bne_iff_ne]; omega
      by_cases h6 : n = 6
      · have d2 : ((4 * (n : Int)) != 24) = false := by rw [bne_eq_false_iff_eq]; omega
        go_wp2
        go_meet
        case rel => exact ⟨rfl, rfl⟩
      · have d2 : ((4 * (n : Int)) != 24) = true := by rw [bne_iff_ne]; omega
        have d3 : ((4 * (n : Int)) != 32) = false := by rw [bne_eq_false_iff_eq]; omega
        go_wp2
        go_meet
        case rel => exact ⟨rfl, rfl⟩
  case rest =>
    obtain ⟨rfl, rfl⟩ := hcut
    go_wp2_with fail
    refine (refTables_any wc).mono ?_
    rintro e w1 ⟨gt, gb, rfl, hne, hgt, hgb, hT, hB, hb1⟩
    have hS0 : AesS (w1.alloc (.cells #[.slice (some ⟨gt, 0, none⟩) 256 256, .slice (some ⟨gb, 0, none⟩) 256 256, .slice none 0 0] 124)) w1.heap.size gt gb wc.heap.size (.slice none 0 0) [] [] :=
      ⟨Blk.new w1 124 [.slice (some ⟨gt, 0, none⟩) 256 256, .slice (some ⟨gb, 0, none⟩) 256 256, .slice none 0 0], hT.alloc _, hB.alloc _, OwnW.nil _ _ _, rfl, fun j l hj => by simp at hj⟩
    have hb2 := hb1.alloc hb1.size (.cells #[.slice (some ⟨gt, 0, none⟩) 256 256, .slice (some ⟨gb, 0, none⟩) 256 256, .slice none 0 0] 124)
    have hgc := hb1.size
    have HS0 := Lib.hid hS0
    have Hb2 := Lib.hid hb2
    have HR := Lib.hid hr
    have HK := Lib.hid hk
    clear hS0 hb2 hb1 hT hB hne hr hk hgt hgb
    have hn8 : n ≤ 8 := by omega
    have hn4 : 4 ≤ n := by omega
    have HN := Lib.hid hn
    clear hn
    go_wp2
    generalize w1.alloc (.cells #[.slice (some ⟨gt, 0, none⟩) 256 256, .slice (some ⟨gb, 0, none⟩) 256 256, .slice none 0 0] 124) = w2 at *
    generalize w1.heap.size = gc at *
    go_loopw [8, 9] (fun x i w' => ∃ (i' : Nat) (v : Value) (xs : List Value), i' ≤ 4 * n + 28 ∧ i = .int .i64 (i' : Int) ∧ x = .int .u8 ((xp ((i' - 1) / n)).toNat : Int) ∧ AesS w' gc gt gb wc.heap.size v xs (words key n i') ∧ Below wc.heap.size wc w') (fun _ i _ => 4 * n + 28 - (intOf i).toNat)
    case atStart => exact ⟨0, .slice none 0 0, [], by omega, rfl, by simp [xp], HS0.out, Hb2.out⟩
    case round =>
      obtain ⟨i, v, xs, hi, rfl, rfl, hS, hb⟩ := hrel
      clear HS0 Hb2
      obtain ⟨w0, rfl⟩ : ∃ w0, w0 = wr := ⟨_, rfl⟩
      by_cases hlt : i < 4 * n + 28
      · have hdl : decide ((i : Int) < 4 * (n : Int) + 28) = true := by simp; omega
        have HXP : Hid ((i + 1 - 1) / n = i / n) := Lib.hid rfl
        by_cases hin : i < n
        · as_aux_lemma =>
            have hdn : decide ((i : Int) < (n : Int)) = true := by simp; omega
            have hk := HK.out
            obtain ⟨b, o, rfl⟩ : ∃ b o, A = some ⟨b, o, none⟩ := by
              rcases HR.out with rfl | ⟨b, o, h, _⟩
              · simp at hk; omega
              · exact ⟨b, o, h⟩
            have hSa := hS.drew
            have hba := hb.drew
            have hra : Rd w0.drew w0.drew.heap.size (some ⟨b, o, none⟩) key := (HR.out.below hba).more hba.size
            have HSa := Lib.hid hSa
            have Hba := Lib.hid hba
            have Hra := Lib.hid hra
            clear hS hb hSa hba hra
            go_wp2
            refine wp_region_G (turnsB w0.drew.heap.size v.ownBlock) (by kernel_rfl) ?_
            generalize w0.drew = wa at *
            have q0 := cell_turnsB (B := wa.heap.size) HSa.out.blk HSa.out.blk.lt (HSa.out.own.ne HSa.out.blk (by decide)) (i := 2) rfl
            refine segG (by kernel_rfl) (fun _ _ _ _ _ h => h) [0, 1, 2, 3, 4, 6, 7, 8, 9, 10, 11, 12] [_, _, _, _, _, _, _, _, _, _, _, _] 7 rfl rfl (by kernel_rfl) ?_
            repeat (go_big_quiet_step (fail))
            refine wpQuiet_nil ?_
            clear q0
            have hb0 := below_alloc wa (.cells #[] 5)
            have hsub := ((rd_sub Hra.out (4 * i) 4).below hb0)
            have hkl : ((key.drop (4 * i)).take 4).length = 4 := by simp; omega
            obtain ⟨v1, w3, e1, ho1, hb1, _⟩ := app_rd (P := Tryd.prog) 26 26 Tryd.und22 Tryd.info5 (own_nil wa wa.heap.size 5 (Nat.le_refl _)) (by rw [World.size_alloc]; omega) (cap - 4 * i) hsub (by simp; omega)
            rw [List.nil_append, key_word key i (by omega)] at ho1
            rw [hkl] at e1
            obtain ⟨g3, c3, rest3, rfl, hg3, hc3, hB3⟩ := ho1.blk (by simp)
            have hb3 := hb0.trans hb1
            have hS3 := HSa.out.below hb3
            have hbase : wc.heap.size ≤ w3.heap.size := Nat.le_trans Hba.out.size hb3.size
            obtain ⟨v4, w4, e4, hS4, hb4, hg4, hq4, hf4⟩ := hS3.push (c := c3) hbase (by rw [words_len]; omega) (Nat.le_trans Hba.out.size hg3) rfl hB3
            obtain ⟨gw4, cw4, rfl, _, _⟩ := hS4.own.view (by simp)
            have HV4 : Hid ((xs ++ [Value.slice (some ⟨g3, 0, none⟩) 4 c3]).length = i + 1) := Lib.hid (by rw [hS4.words.1]; simp [words_len])
            rw [HV4.out] at e4 hS4
            have HS4 : Hid (AesS (w4.setCell ⟨gc, 2, none⟩ (.slice (some ⟨gw4, 0, none⟩) (i + 1) cw4)) gc gt gb wc.heap.size (.slice (some ⟨gw4, 0, none⟩) (i + 1) cw4) (xs ++ [.slice (some ⟨g3, 0, none⟩) 4 c3]) (words key n (i + 1))) := Lib.hid (by
              rw [words, nextW, if_pos hin]; exact hS4)
            have Hb4 := Lib.hid (((Hba.out.trans (hb3.mono Hba.out.size)).trans hb4).setCell (p := ⟨gc, 2, none⟩) hgc (.slice (some ⟨gw4, 0, none⟩) (i + 1) cw4))
            have R1 := Lib.hid (turnsB_below (row := v.ownBlock) hb0)
            have R2 := Lib.hid (turnsB_below (row := v.ownBlock) hb1)
            have R3 := Lib.hid (turnsB_grown (B := wa.heap.size) (grown_alloc (World.grownBy.refl w3 v.ownBlock) (.cells #[.slice (some ⟨g3, 0, none⟩) 4 c3] 26)) hb3.size)
            clear hb0 hsub ho1 hb1 hS3 hS4 hb4 hB3 hg3 hbase hkl
            refine oneG 5 6 rfl (by kernel_rfl) rfl ?_
            go_wp2
            refine ⟨R1.out, ?_⟩
            refine oneG 13 5 rfl (by kernel_rfl) rfl ?_
            rw [show 4 * i + 4 - 4 * i = 4 from by omega]
            go_wp2_with (at_builtin; refine wpList_append_run rfl (.tmp 52) (.tmp 59) _ rfl rfl rfl e1 ?_)
            refine ⟨R2.out, ?_⟩
            clear e1
            refine oneG 14 4 rfl (by kernel_rfl) rfl ?_
            go_wp2
            refine ⟨R3.out, ?_⟩
            refine oneG 15 3 rfl (by kernel_rfl) rfl ?_
            go_wp2_with (at_builtin; refine wpList_append_run rfl (.tmp 51) (.tmp 61) _ rfl rfl rfl e4 ?_)
            have R4 : (turnsB wa.heap.size v.ownBlock).rel (w3.alloc (.cells #[.slice (some ⟨g3, 0, none⟩) 4 c3] 26)) w4 := by
              exact turnsB_grown hg4 (by rw [World.size_alloc]; have := hb3.size; omega)
            refine ⟨R4, ?_⟩
            clear e4 R4
            simp only [Act.put, List.setIfInBounds_toArray, List.set]
            refine segG (by kernel_rfl) (fun _ _ _ _ _ h => h) [16, 17] [_, _] 1 rfl rfl (by kernel_rfl) ?_
            repeat (go_big_quiet_step (fail))
            refine wpQuiet_nil ?_
            refine lateG 18 0 rfl (by kernel_rfl) (by kernel_rfl) rfl ?_
            go_wp2
            refine ⟨trivial, ?_⟩
            refine wpAnyG_done (by kernel_rfl) ?_
            go_wp2
            exact ⟨⟨i + 1, _, _, by omega, by go_num, by rw [HXP.out, Nat.div_eq_of_lt (show i - 1 < n by omega), Nat.div_eq_of_lt hin], HS4.out, Hb4.out⟩, by simp [intOf]; omega⟩
        · as_aux_lemma =>
            have hdn : decide ((i : Int) < (n : Int)) = false := by simp; omega
            have hxl : xs.length = i := by rw [hS.words.1, words_len]
            obtain ⟨gw, cw, rfl, hgw, hcw⟩ := hS.own.view (by omega)
            have HXL := Lib.hid hxl
            rw [hxl] at *
            obtain ⟨g1, c1, rest1, hx1, hL1, hg1, hB1⟩ := hS.words.2 (i - 1) _ (words_get key n (show i - 1 < i by omega))
            have hW1 : nextW key n (words key n (i - 1)) (i - 1) = wordAt (words key n i) (i - 1) := by
              rw [wordAt, List.getD, words_get key n (show i - 1 < i by omega)]; rfl
            rw [hW1] at hL1 hB1
            obtain ⟨L1, hLe⟩ : ∃ L1, wordAt (words key n i) (i - 1) = L1 := ⟨_, rfl⟩
            rw [hLe] at hL1 hB1
            have hb0 := below_alloc w0 (.cells #[] 5)
            have q0 := cell_below hb0 (show w0.cell? ⟨gc, 2, none⟩ = some _ from by rw [hS.blk.cell]; rfl)
            have q1 := cell_below hb0 (hcw (i - 1) _ hx1)
            obtain ⟨v2, w3, e1, ho1, hb1, _⟩ := app_rd (P := Tryd.prog) 26 26 Tryd.und22 Tryd.info5 (own_nil w0 w0.heap.size 5 (Nat.le_refl _)) (by rw [World.size_alloc]; omega) c1 ((Rd.of_row hB1).below hb0) (by simp; omega)
            rw [List.nil_append] at ho1
            rw [hL1] at e1
            obtain ⟨g2, c2, rest2, rfl, hg2, hc2, hB2⟩ := ho1.blk (by omega)
            rw [hL1] at e1 hc2
            have hb3 := hb0.trans hb1
            have HSW := Lib.hid hS
            have HbW := Lib.hid hb
            have HCW := Lib.hid hcw
            have Hbx := Lib.hid hb3
            have HGX : Hid (w0.heap.size ≤ g2) := Lib.hid hg2
            have HBx := Lib.hid hB2
            have HL1 := Lib.hid hL1
            have HLE := Lib.hid hLe
            have q2 := row_get hB2 (at_get (l := L1) (i := 0) (by omega))
            have q3 := row_get hB2 (at_get (l := L1) (i := 1) (by omega))
            have q4 := row_get hB2 (at_get (l := L1) (i := 2) (by omega))
            have q5 := row_get hB2 (at_get (l := L1) (i := 3) (by omega))
            have hf8 : ((n : Int) == 8) = eq8 n := rfl
            have hn0 : (n : Int) ≠ 0 := by omega
            clear hb0 ho1 hb1 hb3 hS hb hg2 hB2 hB1 hg1 hLe hW1 hx1 hcw hL1
            by_cases hz : i % n = 0
            · as_aux_lemma =>
                have hzi : ((i : Int) % (n : Int) == 0) = true := by rw [beq_iff_eq]; omega
                have HXx : Hid (gm (xp ((i - 1) / n)) 2 = xp (i / n)) := Lib.hid (by
                  obtain ⟨j, hj⟩ : ∃ j, i / n = j + 1 := ⟨i / n - 1, by
                    have : 1 ≤ i / n := (Nat.one_le_div_iff (by omega)).2 (by omega)
                    omega⟩
                  have hj1 : (i - 1) / n = j := by rcases HN.out with rfl | rfl | rfl <;> omega
                  rw [hj, hj1]; rfl)
                have HXW : Hid (i / n - 1 = (i - 1) / n) := Lib.hid (by rcases HN.out with rfl | rfl | rfl <;> omega)
                obtain ⟨x0, hx0⟩ : ∃ x0, xp ((i - 1) / n) = x0 := ⟨_, rfl⟩
                rw [hx0] at HXx ⊢
                have HX0 := Lib.hid hx0
                clear hx0
                have hl8 := (at_ L1 0).toNat_lt
                have hl9 := (at_ L1 1).toNat_lt
                have hl10 := (at_ L1 2).toNat_lt
                have hl11 := (at_ L1 3).toNat_lt
                have HBN : Hid (Blk (w3.alloc (.cells (u8s [at_ L1 1, at_ L1 2, at_ L1 3, at_ L1 0]).toArray 5)).drew w3.heap.size 5 (u8s [at_ L1 1, at_ L1 2, at_ L1 3, at_ L1 0] ++ [])) := Lib.hid (by rw [List.append_nil]; exact (Blk.new w3 _ _).drew)
                have HbN : Hid (Below w0.heap.size w0 (w3.alloc (.cells (u8s [at_ L1 1, at_ L1 2, at_ L1 3, at_ L1 0]).toArray 5)).drew) := Lib.hid (Hbx.out.alloc Hbx.out.size _).drew
                have HGN : Hid (w0.heap.size ≤ w3.heap.size) := Lib.hid Hbx.out.size
                obtain ⟨LR, hLR⟩ : ∃ LR, [at_ L1 1, at_ L1 2, at_ L1 3, at_ L1 0] = LR := ⟨_, rfl⟩
                have HLR := Lib.hid hLR
                have HLL : Hid (LR.length = 4) := Lib.hid (by rw [← hLR]; rfl)
                go_wp2_with (at_builtin; refine wpList_append_run rfl (.tmp 65) (.tmp 73) _ rfl rfl rfl e1 ?_)
                go_region
                clear q2 q3 q4 q5 e1
                rw [show (#[Value.int .u8 ((at_ L1 1).toNat : Int), .int .u8 ((at_ L1 2).toNat : Int), .int .u8 ((at_ L1 3).toNat : Int), .int .u8 ((at_ L1 0).toNat : Int)] : Array Value) = (u8s [at_ L1 1, at_ L1 2, at_ L1 3, at_ L1 0]).toArray from rfl]
                rw [hLR] at HBN HbN ⊢
                clear hLR HBx Hbx HGX
                have HGX := HGN
                clear HGN
                generalize (w3.alloc (.cells (u8s LR).toArray 5)).drew = wN at HBN HbN ⊢
                generalize w3.heap.size = gN at HBN HGX ⊢
                have HBx := HBN
                have Hbx := HbN
                clear HBN HbN
                go_wp2
                go_loopw [11] (fun q w' => ∃ k : Nat, k ≤ 4 ∧ q = .int .i64 (k : Int) ∧ Blk w' gN 5 (u8s (prog LR (sub4 LR) k) ++ []) ∧ Below w0.heap.size w0 w') (fun q _ => 4 - (intOf q).toNat)
                case atStart => exact ⟨0, by omega, rfl, by rw [prog_0]; exact HBx.out, Hbx.out⟩
                case round =>
                  obtain ⟨k, hk4, rfl, hB, hb⟩ := hrel
                  clear HBx Hbx
                  have hXL : (sub4 LR).length = (LR).length := by rw [HLL.out]; rfl
                  by_cases hk : k < 4
                  · as_aux_lemma =>
                      have hSk := HSW.out.below hb
                      have hL4 : (LR).length = 4 := HLL.out
                      have q2 := blk_byte hSk.there (sboxB_byte (at_ LR k))
                      have q3 := row_get hB (prog_later LR (sub4 LR) k k hXL (Nat.le_refl _) (by omega))
                      have hz := sub4_get LR k hk
                      have hf := hB.frozen k
                      have hSt := hB.set_ k (.int .u8 ((sb (at_ LR k)).toNat : Int))
                      rw [u8s_row_set _ _ _ _ (by rw [prog_len _ _ _ hXL]; omega), prog_set _ _ _ _ hXL hz] at hSt
                      have HSt := Lib.hid hSt
                      have Hbk := Lib.hid (hb.setCell (p := ⟨gN, k, none⟩) HGX.out (.int .u8 ((sb (at_ LR k)).toNat : Int)))
                      have hx8 := (at_ LR k).toNat_lt
                      have hy8 := (sb (at_ LR k)).toNat_lt
                      clear hSt hB hb hSk hz hL4
                      generalize (sb (at_ LR k)).toNat = yn at q2 HSt Hbk hy8
                      generalize (at_ LR k).toNat = xn at q2 q3 hx8
                      go_wp2
                      exact ⟨⟨k + 1, by omega, by go_num, HSt.out, Hbk.out⟩, by simp [intOf]; omega⟩
                  · as_aux_lemma =>
                      have H4 : Hid (k = 4) := Lib.hid (by omega)
                      rw [prog_end _ _ _ (by rw [HLL.out]; exact H4.out) (by rw [hXL, HLL.out]; exact H4.out)] at hB
                      have hkd2 : decide ((k : Int) < 4) = false := by simp; omega
                      have hs4 : (sub4 LR).length = 4 := rfl
                      have q6 := row_get hB (at_get (l := sub4 LR) (i := 0) (by omega))
                      have hf6 := hB.frozen 0
                      obtain ⟨T4, hT4⟩ : ∃ T4, (sub4 LR).set 0 (at_ (sub4 LR) 0 ^^^ x0) = T4 := ⟨_, rfl⟩
                      have HT4 : Hid (T4.length = 4) := Lib.hid (by rw [← hT4]; rfl)
                      have HTW : Hid (turnW n i L1 = T4) := Lib.hid (by rw [turnW, if_pos hz, HXW.out, HX0.out, ← hT4, ← HLR.out]; rfl)
                      have hSt := hB.set_ 0 (.int .u8 ((at_ (sub4 LR) 0 ^^^ x0).toNat : Int))
                      rw [u8s_row_set _ _ _ _ (by omega), hT4, ← xor_byte] at hSt
                      have HBx := Lib.hid hSt
                      have Hbx := Lib.hid (hb.setCell (p := ⟨gN, 0, none⟩) HGX.out (.int .u8 (bits .xor .u8 ((at_ (sub4 LR) 0).toNat : Int) (x0.toNat : Int))))
                      have hy8 := (at_ (sub4 LR) 0).toNat_lt
                      have hx8 := x0.toNat_lt
                      have HX : Hid (.int .u8 ((gm x0 2).toNat : Int) = Value.int .u8 ((xp (i / n)).toNat : Int)) := Lib.hid (by rw [HXx.out])
                      clear hSt hB hb hT4 hs4
                      generalize (at_ (sub4 LR) 0).toNat = yn at q6 HBx Hbx hy8
                      go_wp2_with fail
                      refine (refMul_byte x0 2 _ _ rfl rfl _).mono ?_
                      rintro e w6 ⟨rfl, hw⟩
                      rw [← hw] at HBx Hbx
                      clear hw q6 hf6
                      have HL2g := HSW.out.words.2 (i - n) _ (words_get key n (show i - n < i by omega))
                      obtain ⟨g5, c5, rest5, hx5, hL5, _, hB5⟩ := HL2g
                      have hW5 : nextW key n (words key n (i - n)) (i - n) = wordAt (words key n i) (i - n) := by
                        rw [wordAt, List.getD, words_get key n (show i - n < i by omega)]; rfl
                      rw [hW5] at hL5 hB5
                      obtain ⟨L2, hL2e⟩ : ∃ L2, wordAt (words key n i) (i - n) = L2 := ⟨_, rfl⟩
                      rw [hL2e] at hL5 hB5
                      have HL5 := Lib.hid hL5
                      have HB5 := Lib.hid hB5
                      have HX5 := Lib.hid hx5
                      have HL2 := Lib.hid hL2e
                      clear hx5 hL5 hB5 hW5 hL2e
                      go_wp2
                      go_loopw [12] (fun q w' => ∃ k : Nat, k ≤ 4 ∧ q = .int .i64 (k : Int) ∧ Blk w' gN 5 (u8s (prog T4 (xor4 T4 L2) k) ++ []) ∧ Below w0.heap.size w0 w') (fun q _ => 4 - (intOf q).toNat)
                      case atStart => exact ⟨0, by omega, rfl, by rw [prog_0]; exact HBx.out, Hbx.out⟩
                      case round =>
                        obtain ⟨k, hk4, rfl, hB, hb⟩ := hrel
                        clear HBx Hbx
                        have hXL : (xor4 T4 L2).length = T4.length := by rw [HT4.out]; rfl
                        by_cases hk : k < 4
                        · as_aux_lemma =>
                            have hSk := HSW.out.below hb
                            have q0 : wr.cell? ⟨gc, 2, none⟩ = some (.slice (some ⟨gw, 0, none⟩) i cw) := by rw [hSk.blk.cell]; rfl
                            have q1 : wr.cell? ⟨gw, i - n, none⟩ = some (.slice (some ⟨g5, 0, none⟩) 4 c5) := cell_below hb (HCW.out _ _ HX5.out)
                            have q2 := row_get (HB5.out.below hb HB5.out.lt) (at_get (i := k) (by rw [HL5.out]; exact hk))
                            have hT4 := HT4.out
                            have q3 := row_get hB (prog_later T4 (xor4 T4 L2) k k hXL (Nat.le_refl _) (by omega))
                            have hz := xor4_get T4 L2 k hk
                            have hf := hB.frozen k
                            have hSt := hB.set_ k (.int .u8 ((at_ T4 k ^^^ at_ L2 k).toNat : Int))
                            rw [u8s_row_set _ _ _ _ (by rw [prog_len _ _ _ hXL]; omega), prog_set _ _ _ _ hXL hz, ← xor_byte] at hSt
                            have HSt := Lib.hid hSt
                            have Hbk := Lib.hid (hb.setCell (p := ⟨gN, k, none⟩) HGX.out (.int .u8 (bits .xor .u8 ((at_ T4 k).toNat : Int) ((at_ L2 k).toNat : Int))))
                            have hx8 := (at_ T4 k).toNat_lt
                            have hy8 := (at_ L2 k).toNat_lt
                            clear hSt hB hb hSk hz hT4
                            generalize (at_ T4 k).toNat = xn at q3 HSt Hbk hx8
                            generalize (at_ L2 k).toNat = yn at q2 HSt Hbk hy8
                            go_wp2
                            go_region
                            go_wp2
                            exact ⟨⟨k + 1, by omega, by go_num, HSt.out.drew, Hbk.out.drew⟩, by simp [intOf]; omega⟩
                        · as_aux_lemma =>
                            have H4 : Hid (k = 4) := Lib.hid (by omega)
                            rw [prog_end _ _ _ (by rw [HT4.out]; exact H4.out) (by rw [hXL, HT4.out]; exact H4.out)] at hB
                            have hkd : decide ((k : Int) < 4) = false := by simp; omega
                            have hSk := HSW.out.below hb
                            have hbc := HbW.out.trans (hb.mono HbW.out.size)
                            have q0 : wr.cell? ⟨gc, 2, none⟩ = some (.slice (some ⟨gw, 0, none⟩) i cw) := by rw [hSk.blk.cell]; rfl
                            obtain ⟨v4, w4, e4, hS4, hb4, _, hq4, hf4⟩ := hSk.push (c := 4) hbc.size (by rw [words_len]; omega) (Nat.le_trans HbW.out.size HGX.out) rfl hB
                            obtain ⟨gw4, cw4, rfl, _, _⟩ := hS4.own.view (by simp)
                            have HV4 : Hid ((xs ++ [Value.slice (some ⟨gN, 0, none⟩) 4 4]).length = i + 1) := Lib.hid (by rw [hS4.words.1]; simp [words_len])
                            rw [HV4.out] at e4 hS4
                            have HS4 : Hid (AesS (w4.setCell ⟨gc, 2, none⟩ (.slice (some ⟨gw4, 0, none⟩) (i + 1) cw4)) gc gt gb wc.heap.size (.slice (some ⟨gw4, 0, none⟩) (i + 1) cw4) (xs ++ [.slice (some ⟨gN, 0, none⟩) 4 4]) (words key n (i + 1))) := Lib.hid (by
                              rw [words, nextW, if_neg hin, HLE.out, HTW.out, HL2.out]; exact hS4)
                            have Hb4 := Lib.hid ((hbc.trans hb4).setCell (p := ⟨gc, 2, none⟩) hgc (.slice (some ⟨gw4, 0, none⟩) (i + 1) cw4))
                            clear hS4 hb4 hbc hSk hB hb
                            go_wp2_with (at_builtin; refine wpList_append_run rfl (.tmp 161) (.tmp 163) _ rfl rfl rfl e4 ?_)
                            exact ⟨⟨i + 1, _, _, by omega, by go_num, by rw [HXP.out]; exact HX.out, HS4.out, Hb4.out⟩, by simp [intOf]; omega⟩
            · as_aux_lemma =>
                have hzi : ((i : Int) % (n : Int) == 0) = false := by rw [beq_eq_false_iff_ne]; omega
                have HX : Hid (.int .u8 ((xp ((i - 1) / n)).toNat : Int) = Value.int .u8 ((xp (i / n)).toNat : Int)) := Lib.hid (by
                  have : (i - 1) / n = i / n := by
                    rcases HN.out with rfl | rfl | rfl <;> omega
                  rw [this])
                by_cases hc8 : n = 8 ∧ i % 8 = 4
                · as_aux_lemma =>
                    have h8 : eq8 n = true := by rw [eq8, beq_iff_eq]; omega
                    have h84 : ((i : Int) % 8 == 4) = true := by rw [beq_iff_eq]; omega
                    have HC8 := Lib.hid hc8
                    clear hc8
                    clear q2 q3 q4 q5
                    go_wp2_with (at_builtin; refine wpList_append_run rfl (.tmp 65) (.tmp 73) _ rfl rfl rfl e1 ?_)
                    go_loopw [11] (fun q w' => ∃ k : Nat, k ≤ 4 ∧ q = .int .i64 (k : Int) ∧ Blk w' g2 5 (u8s (prog L1 (sub4 L1) k) ++ rest2) ∧ Below w0.heap.size w0 w') (fun q _ => 4 - (intOf q).toNat)
                    case atStart => exact ⟨0, by omega, rfl, by rw [prog_0]; exact HBx.out, Hbx.out⟩
                    case round =>
                      obtain ⟨k, hk4, rfl, hB, hb⟩ := hrel
                      clear HBx Hbx
                      have hXL : (sub4 L1).length = (L1).length := by rw [HL1.out]; rfl
                      by_cases hk : k < 4
                      · as_aux_lemma =>
                          have hSk := HSW.out.below hb
                          have hL4 : (L1).length = 4 := HL1.out
                          have q2 := blk_byte hSk.there (sboxB_byte (at_ L1 k))
                          have q3 := row_get hB (prog_later L1 (sub4 L1) k k hXL (Nat.le_refl _) (by omega))
                          have hz := sub4_get L1 k hk
                          have hf := hB.frozen k
                          have hSt := hB.set_ k (.int .u8 ((sb (at_ L1 k)).toNat : Int))
                          rw [u8s_row_set _ _ _ _ (by rw [prog_len _ _ _ hXL]; omega), prog_set _ _ _ _ hXL hz] at hSt
                          have HSt := Lib.hid hSt
                          have Hbk := Lib.hid (hb.setCell (p := ⟨g2, k, none⟩) HGX.out (.int .u8 ((sb (at_ L1 k)).toNat : Int)))
                          have hx8 := (at_ L1 k).toNat_lt
                          have hy8 := (sb (at_ L1 k)).toNat_lt
                          clear hSt hB hb hSk hz hL4
                          generalize (sb (at_ L1 k)).toNat = yn at q2 HSt Hbk hy8
                          generalize (at_ L1 k).toNat = xn at q2 q3 hx8
                          go_wp2
                          exact ⟨⟨k + 1, by omega, by go_num, HSt.out, Hbk.out⟩, by simp [intOf]; omega⟩
                      · as_aux_lemma =>
                          have H4 : Hid (k = 4) := Lib.hid (by omega)
                          rw [prog_end _ _ _ (by rw [HL1.out]; exact H4.out) (by rw [hXL, HL1.out]; exact H4.out)] at hB
                          have hkd2 : decide ((k : Int) < 4) = false := by simp; omega
                          obtain ⟨T4, hT4⟩ : ∃ T4, sub4 L1 = T4 := ⟨_, rfl⟩
                          have HT4 : Hid (T4.length = 4) := Lib.hid (by rw [← hT4]; rfl)
                          have HTW : Hid (turnW n i L1 = T4) := Lib.hid (by rw [turnW, if_neg hz, if_pos HC8.out, ← hT4]; rfl)
                          rw [hT4] at hB
                          have HBx := Lib.hid hB
                          have Hbx := Lib.hid hb
                          clear hB hb hT4
                          have HL2g := HSW.out.words.2 (i - n) _ (words_get key n (show i - n < i by omega))
                          obtain ⟨g5, c5, rest5, hx5, hL5, _, hB5⟩ := HL2g
                          have hW5 : nextW key n (words key n (i - n)) (i - n) = wordAt (words key n i) (i - n) := by
                            rw [wordAt, List.getD, words_get key n (show i - n < i by omega)]; rfl
                          rw [hW5] at hL5 hB5
                          obtain ⟨L2, hL2e⟩ : ∃ L2, wordAt (words key n i) (i - n) = L2 := ⟨_, rfl⟩
                          rw [hL2e] at hL5 hB5
                          have HL5 := Lib.hid hL5
                          have HB5 := Lib.hid hB5
                          have HX5 := Lib.hid hx5
                          have HL2 := Lib.hid hL2e
                          clear hx5 hL5 hB5 hW5 hL2e
                          go_wp2
                          go_loopw [12] (fun q w' => ∃ k : Nat, k ≤ 4 ∧ q = .int .i64 (k : Int) ∧ Blk w' g2 5 (u8s (prog T4 (xor4 T4 L2) k) ++ rest2) ∧ Below w0.heap.size w0 w') (fun q _ => 4 - (intOf q).toNat)
                          case atStart => exact ⟨0, by omega, rfl, by rw [prog_0]; exact HBx.out, Hbx.out⟩
                          case round =>
                            obtain ⟨k, hk4, rfl, hB, hb⟩ := hrel
                            clear HBx Hbx
                            have hXL : (xor4 T4 L2).length = T4.length := by rw [HT4.out]; rfl
                            by_cases hk : k < 4
                            · as_aux_lemma =>
                                have hSk := HSW.out.below hb
                                have q0 : wr.cell? ⟨gc, 2, none⟩ = some (.slice (some ⟨gw, 0, none⟩) i cw) := by rw [hSk.blk.cell]; rfl
                                have q1 : wr.cell? ⟨gw, i - n, none⟩ = some (.slice (some ⟨g5, 0, none⟩) 4 c5) := cell_below hb (HCW.out _ _ HX5.out)
                                have q2 := row_get (HB5.out.below hb HB5.out.lt) (at_get (i := k) (by rw [HL5.out]; exact hk))
                                have hT4 := HT4.out
                                have q3 := row_get hB (prog_later T4 (xor4 T4 L2) k k hXL (Nat.le_refl _) (by omega))
                                have hz := xor4_get T4 L2 k hk
                                have hf := hB.frozen k
                                have hSt := hB.set_ k (.int .u8 ((at_ T4 k ^^^ at_ L2 k).toNat : Int))
                                rw [u8s_row_set _ _ _ _ (by rw [prog_len _ _ _ hXL]; omega), prog_set _ _ _ _ hXL hz, ← xor_byte] at hSt
                                have HSt := Lib.hid hSt
                                have Hbk := Lib.hid (hb.setCell (p := ⟨g2, k, none⟩) HGX.out (.int .u8 (bits .xor .u8 ((at_ T4 k).toNat : Int) ((at_ L2 k).toNat : Int))))
                                have hx8 := (at_ T4 k).toNat_lt
                                have hy8 := (at_ L2 k).toNat_lt
                                clear hSt hB hb hSk hz hT4
                                generalize (at_ T4 k).toNat = xn at q3 HSt Hbk hx8
                                generalize (at_ L2 k).toNat = yn at q2 HSt Hbk hy8
                                go_wp2
                                go_region
                                go_wp2
                                exact ⟨⟨k + 1, by omega, by go_num, HSt.out.drew, Hbk.out.drew⟩, by simp [intOf]; omega⟩
                            · as_aux_lemma =>
                                have H4 : Hid (k = 4) := Lib.hid (by omega)
                                rw [prog_end _ _ _ (by rw [HT4.out]; exact H4.out) (by rw [hXL, HT4.out]; exact H4.out)] at hB
                                have hkd : decide ((k : Int) < 4) = false := by simp; omega
                                have hSk := HSW.out.below hb
                                have hbc := HbW.out.trans (hb.mono HbW.out.size)
                                have q0 : wr.cell? ⟨gc, 2, none⟩ = some (.slice (some ⟨gw, 0, none⟩) i cw) := by rw [hSk.blk.cell]; rfl
                                obtain ⟨v4, w4, e4, hS4, hb4, _, hq4, hf4⟩ := hSk.push (c := c2) hbc.size (by rw [words_len]; omega) (Nat.le_trans HbW.out.size HGX.out) rfl hB
                                obtain ⟨gw4, cw4, rfl, _, _⟩ := hS4.own.view (by simp)
                                have HV4 : Hid ((xs ++ [Value.slice (some ⟨g2, 0, none⟩) 4 c2]).length = i + 1) := Lib.hid (by rw [hS4.words.1]; simp [words_len])
                                rw [HV4.out] at e4 hS4
                                have HS4 : Hid (AesS (w4.setCell ⟨gc, 2, none⟩ (.slice (some ⟨gw4, 0, none⟩) (i + 1) cw4)) gc gt gb wc.heap.size (.slice (some ⟨gw4, 0, none⟩) (i + 1) cw4) (xs ++ [.slice (some ⟨g2, 0, none⟩) 4 c2]) (words key n (i + 1))) := Lib.hid (by
                                  rw [words, nextW, if_neg hin, HLE.out, HTW.out, HL2.out]; exact hS4)
                                have Hb4 := Lib.hid ((hbc.trans hb4).setCell (p := ⟨gc, 2, none⟩) hgc (.slice (some ⟨gw4, 0, none⟩) (i + 1) cw4))
                                clear hS4 hb4 hbc hSk hB hb
                                go_wp2_with (at_builtin; refine wpList_append_run rfl (.tmp 161) (.tmp 163) _ rfl rfl rfl e4 ?_)
                                exact ⟨⟨i + 1, _, _, by omega, by go_num, by rw [HXP.out]; exact HX.out, HS4.out, Hb4.out⟩, by simp [intOf]; omega⟩
                · have HC8 := Lib.hid hc8
                  by_cases hn88 : n = 8
                  · as_aux_lemma =>
                      have h8 : eq8 n = true := by rw [eq8, beq_iff_eq]; omega
                      have h84 : ((i : Int) % 8 == 4) = false := by rw [beq_eq_false_iff_ne]; omega
                      clear hc8 hn88
                      clear q2 q3 q4 q5
                      go_wp2_with (at_builtin; refine wpList_append_run rfl (.tmp 65) (.tmp 73) _ rfl rfl rfl e1 ?_)
                      obtain ⟨T4, hT4⟩ : ∃ T4, L1 = T4 := ⟨_, rfl⟩
                      have HT4 : Hid (T4.length = 4) := Lib.hid (by rw [← hT4]; exact HL1.out)
                      have HTW : Hid (turnW n i L1 = T4) := Lib.hid (by rw [turnW, if_neg hz, if_neg HC8.out, ← hT4, ← list4 L1 HL1.out])
                      rw [hT4] at HBx
                      clear hT4
                      have HL2g := HSW.out.words.2 (i - n) _ (words_get key n (show i - n < i by omega))
                      obtain ⟨g5, c5, rest5, hx5, hL5, _, hB5⟩ := HL2g
                      have hW5 : nextW key n (words key n (i - n)) (i - n) = wordAt (words key n i) (i - n) := by
                        rw [wordAt, List.getD, words_get key n (show i - n < i by omega)]; rfl
                      rw [hW5] at hL5 hB5
                      obtain ⟨L2, hL2e⟩ : ∃ L2, wordAt (words key n i) (i - n) = L2 := ⟨_, rfl⟩
                      rw [hL2e] at hL5 hB5
                      have HL5 := Lib.hid hL5
                      have HB5 := Lib.hid hB5
                      have HX5 := Lib.hid hx5
                      have HL2 := Lib.hid hL2e
                      clear hx5 hL5 hB5 hW5 hL2e
                      go_wp2
                      go_loopw [12] (fun q w' => ∃ k : Nat, k ≤ 4 ∧ q = .int .i64 (k : Int) ∧ Blk w' g2 5 (u8s (prog T4 (xor4 T4 L2) k) ++ rest2) ∧ Below w0.heap.size w0 w') (fun q _ => 4 - (intOf q).toNat)
                      case atStart => exact ⟨0, by omega, rfl, by rw [prog_0]; exact HBx.out, Hbx.out⟩
                      case round =>
                        obtain ⟨k, hk4, rfl, hB, hb⟩ := hrel
                        clear HBx Hbx
                        have hXL : (xor4 T4 L2).length = T4.length := by rw [HT4.out]; rfl
                        by_cases hk : k < 4
                        · as_aux_lemma =>
                            have hSk := HSW.out.below hb
                            have q0 : wr.cell? ⟨gc, 2, none⟩ = some (.slice (some ⟨gw, 0, none⟩) i cw) := by rw [hSk.blk.cell]; rfl
                            have q1 : wr.cell? ⟨gw, i - n, none⟩ = some (.slice (some ⟨g5, 0, none⟩) 4 c5) := cell_below hb (HCW.out _ _ HX5.out)
                            have q2 := row_get (HB5.out.below hb HB5.out.lt) (at_get (i := k) (by rw [HL5.out]; exact hk))
                            have hT4 := HT4.out
                            have q3 := row_get hB (prog_later T4 (xor4 T4 L2) k k hXL (Nat.le_refl _) (by omega))
                            have hz := xor4_get T4 L2 k hk
                            have hf := hB.frozen k
                            have hSt := hB.set_ k (.int .u8 ((at_ T4 k ^^^ at_ L2 k).toNat : Int))
                            rw [u8s_row_set _ _ _ _ (by rw [prog_len _ _ _ hXL]; omega), prog_set _ _ _ _ hXL hz, ← xor_byte] at hSt
                            have HSt := Lib.hid hSt
                            have Hbk := Lib.hid (hb.setCell (p := ⟨g2, k, none⟩) HGX.out (.int .u8 (bits .xor .u8 ((at_ T4 k).toNat : Int) ((at_ L2 k).toNat : Int))))
                            have hx8 := (at_ T4 k).toNat_lt
                            have hy8 := (at_ L2 k).toNat_lt
                            clear hSt hB hb hSk hz hT4
                            generalize (at_ T4 k).toNat = xn at q3 HSt Hbk hx8
                            generalize (at_ L2 k).toNat = yn at q2 HSt Hbk hy8
                            go_wp2
                            go_region
                            go_wp2
                            exact ⟨⟨k + 1, by omega, by go_num, HSt.out.drew, Hbk.out.drew⟩, by simp [intOf]; omega⟩
                        · as_aux_lemma =>
                            have H4 : Hid (k = 4) := Lib.hid (by omega)
                            rw [prog_end _ _ _ (by rw [HT4.out]; exact H4.out) (by rw [hXL, HT4.out]; exact H4.out)] at hB
                            have hkd : decide ((k : Int) < 4) = false := by simp; omega
                            have hSk := HSW.out.below hb
                            have hbc := HbW.out.trans (hb.mono HbW.out.size)
                            have q0 : wr.cell? ⟨gc, 2, none⟩ = some (.slice (some ⟨gw, 0, none⟩) i cw) := by rw [hSk.blk.cell]; rfl
                            obtain ⟨v4, w4, e4, hS4, hb4, _, hq4, hf4⟩ := hSk.push (c := c2) hbc.size (by rw [words_len]; omega) (Nat.le_trans HbW.out.size HGX.out) rfl hB
                            obtain ⟨gw4, cw4, rfl, _, _⟩ := hS4.own.view (by simp)
                            have HV4 : Hid ((xs ++ [Value.slice (some ⟨g2, 0, none⟩) 4 c2]).length = i + 1) := Lib.hid (by rw [hS4.words.1]; simp [words_len])
                            rw [HV4.out] at e4 hS4
                            have HS4 : Hid (AesS (w4.setCell ⟨gc, 2, none⟩ (.slice (some ⟨gw4, 0, none⟩) (i + 1) cw4)) gc gt gb wc.heap.size (.slice (some ⟨gw4, 0, none⟩) (i + 1) cw4) (xs ++ [.slice (some ⟨g2, 0, none⟩) 4 c2]) (words key n (i + 1))) := Lib.hid (by
                              rw [words, nextW, if_neg hin, HLE.out, HTW.out, HL2.out]; exact hS4)
                            have Hb4 := Lib.hid ((hbc.trans hb4).setCell (p := ⟨gc, 2, none⟩) hgc (.slice (some ⟨gw4, 0, none⟩) (i + 1) cw4))
                            clear hS4 hb4 hbc hSk hB hb
                            go_wp2_with (at_builtin; refine wpList_append_run rfl (.tmp 161) (.tmp 163) _ rfl rfl rfl e4 ?_)
                            exact ⟨⟨i + 1, _, _, by omega, by go_num, by rw [HXP.out]; exact HX.out, HS4.out, Hb4.out⟩, by simp [intOf]; omega⟩
                  · as_aux_lemma =>
                      have h8 : eq8 n = false := by rw [eq8, beq_eq_false_iff_ne]; omega
                      clear hc8 hn88
                      clear q2 q3 q4 q5
                      go_wp2_with (at_builtin; refine wpList_append_run rfl (.tmp 65) (.tmp 73) _ rfl rfl rfl e1 ?_)
                      obtain ⟨T4, hT4⟩ : ∃ T4, L1 = T4 := ⟨_, rfl⟩
                      have HT4 : Hid (T4.length = 4) := Lib.hid (by rw [← hT4]; exact HL1.out)
                      have HTW : Hid (turnW n i L1 = T4) := Lib.hid (by rw [turnW, if_neg hz, if_neg HC8.out, ← hT4, ← list4 L1 HL1.out])
                      rw [hT4] at HBx
                      clear hT4
                      have HL2g := HSW.out.words.2 (i - n) _ (words_get key n (show i - n < i by omega))
                      obtain ⟨g5, c5, rest5, hx5, hL5, _, hB5⟩ := HL2g
                      have hW5 : nextW key n (words key n (i - n)) (i - n) = wordAt (words key n i) (i - n) := by
                        rw [wordAt, List.getD, words_get key n (show i - n < i by omega)]; rfl
                      rw [hW5] at hL5 hB5
                      obtain ⟨L2, hL2e⟩ : ∃ L2, wordAt (words key n i) (i - n) = L2 := ⟨_, rfl⟩
                      rw [hL2e] at hL5 hB5
                      have HL5 := Lib.hid hL5
                      have HB5 := Lib.hid hB5
                      have HX5 := Lib.hid hx5
                      have HL2 := Lib.hid hL2e
                      clear hx5 hL5 hB5 hW5 hL2e
                      go_wp2
                      go_loopw [12] (fun q w' => ∃ k : Nat, k ≤ 4 ∧ q = .int .i64 (k : Int) ∧ Blk w' g2 5 (u8s (prog T4 (xor4 T4 L2) k) ++ rest2) ∧ Below w0.heap.size w0 w') (fun q _ => 4 - (intOf q).toNat)
                      case atStart => exact ⟨0, by omega, rfl, by rw [prog_0]; exact HBx.out, Hbx.out⟩
                      case round =>
                        obtain ⟨k, hk4, rfl, hB, hb⟩ := hrel
                        clear HBx Hbx
                        have hXL : (xor4 T4 L2).length = T4.length := by rw [HT4.out]; rfl
                        by_cases hk : k < 4
                        · as_aux_lemma =>
                            have hSk := HSW.out.below hb
                            have q0 : wr.cell? ⟨gc, 2, none⟩ = some (.slice (some ⟨gw, 0, none⟩) i cw) := by rw [hSk.blk.cell]; rfl
                            have q1 : wr.cell? ⟨gw, i - n, none⟩ = some (.slice (some ⟨g5, 0, none⟩) 4 c5) := cell_below hb (HCW.out _ _ HX5.out)
                            have q2 := row_get (HB5.out.below hb HB5.out.lt) (at_get (i := k) (by rw [HL5.out]; exact hk))
                            have hT4 := HT4.out
                            have q3 := row_get hB (prog_later T4 (xor4 T4 L2) k k hXL (Nat.le_refl _) (by omega))
                            have hz := xor4_get T4 L2 k hk
                            have hf := hB.frozen k
                            have hSt := hB.set_ k (.int .u8 ((at_ T4 k ^^^ at_ L2 k).toNat : Int))
                            rw [u8s_row_set _ _ _ _ (by rw [prog_len _ _ _ hXL]; omega), prog_set _ _ _ _ hXL hz, ← xor_byte] at hSt
                            have HSt := Lib.hid hSt
                            have Hbk := Lib.hid (hb.setCell (p := ⟨g2, k, none⟩) HGX.out (.int .u8 (bits .xor .u8 ((at_ T4 k).toNat : Int) ((at_ L2 k).toNat : Int))))
                            have hx8 := (at_ T4 k).toNat_lt
                            have hy8 := (at_ L2 k).toNat_lt
                            clear hSt hB hb hSk hz hT4
                            generalize (at_ T4 k).toNat = xn at q3 HSt Hbk hx8
                            generalize (at_ L2 k).toNat = yn at q2 HSt Hbk hy8
                            go_wp2
                            go_region
                            go_wp2
                            exact ⟨⟨k + 1, by omega, by go_num, HSt.out.drew, Hbk.out.drew⟩, by simp [intOf]; omega⟩
                        · as_aux_lemma =>
                            have H4 : Hid (k = 4) := Lib.hid (by omega)
                            rw [prog_end _ _ _ (by rw [HT4.out]; exact H4.out) (by rw [hXL, HT4.out]; exact H4.out)] at hB
                            have hkd : decide ((k : Int) < 4) = false := by simp; omega
                            have hSk := HSW.out.below hb
                            have hbc := HbW.out.trans (hb.mono HbW.out.size)
                            have q0 : wr.cell? ⟨gc, 2, none⟩ = some (.slice (some ⟨gw, 0, none⟩) i cw) := by rw [hSk.blk.cell]; rfl
                            obtain ⟨v4, w4, e4, hS4, hb4, _, hq4, hf4⟩ := hSk.push (c := c2) hbc.size (by rw [words_len]; omega) (Nat.le_trans HbW.out.size HGX.out) rfl hB
                            obtain ⟨gw4, cw4, rfl, _, _⟩ := hS4.own.view (by simp)
                            have HV4 : Hid ((xs ++ [Value.slice (some ⟨g2, 0, none⟩) 4 c2]).length = i + 1) := Lib.hid (by rw [hS4.words.1]; simp [words_len])
                            rw [HV4.out] at e4 hS4
                            have HS4 : Hid (AesS (w4.setCell ⟨gc, 2, none⟩ (.slice (some ⟨gw4, 0, none⟩) (i + 1) cw4)) gc gt gb wc.heap.size (.slice (some ⟨gw4, 0, none⟩) (i + 1) cw4) (xs ++ [.slice (some ⟨g2, 0, none⟩) 4 c2]) (words key n (i + 1))) := Lib.hid (by
                              rw [words, nextW, if_neg hin, HLE.out, HTW.out, HL2.out]; exact hS4)
                            have Hb4 := Lib.hid ((hbc.trans hb4).setCell (p := ⟨gc, 2, none⟩) hgc (.slice (some ⟨gw4, 0, none⟩) (i + 1) cw4))
                            clear hS4 hb4 hbc hSk hB hb
                            go_wp2_with (at_builtin; refine wpList_append_run rfl (.tmp 161) (.tmp 163) _ rfl rfl rfl e4 ?_)
                            exact ⟨⟨i + 1, _, _, by omega, by go_num, by rw [HXP.out]; exact HX.out, HS4.out, Hb4.out⟩, by simp [intOf]; omega⟩
      · as_aux_lemma =>
          have H60 : Hid (i = 4 * n + 28) := Lib.hid (by omega)
          have hdl : decide ((i : Int) < 4 * (n : Int) + 28) = false := by simp; omega
          have hxl : xs.length = i := by rw [hS.words.1, words_len]
          obtain ⟨gw, cw, rfl, hgw, hcw⟩ := hS.own.view (by omega)
          have HRC := Lib.hid (hS.refC (by rw [hxl, words_len]) (by rw [words_len]; omega))
          have Hbf := Lib.hid hb
          rw [H60.out] at HRC
          clear hS hb hcw
          go_wp2
          go_ret2
          exact ⟨gc, gt, gb, gw, cw, rfl, HRC.out, Hbf.out⟩
end Go.Proofs.YtjhkodmaalefiaaDoor
