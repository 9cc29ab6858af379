/-
  The landed wrap: Wrap and Unwrap: their contracts, wherever the package's variable lies as its text lays it. The package-level variables of the landed sha and wrap: what they hold when the call begins. A growth in which, of the blocks below B, only one row may turn. Of no program. The reference's cipher: New, Encrypt, Decrypt: contracts by the key. The reference's Seal of layer 7: its contract.
-/
import Derived.Test.YtdipflchmooakaaGreatDoorWholeJ01
import Derived.Test.YtdipflchmooakaaGreatDoorWholeJ07
import Derived.Test.YtdipflchmooakaaGreatDoorWholeJ05
import Derived.Test.YtdipflchmooakaaGreatDoorWholeJ02
import Derived.Test.YtdipflchmooakaaGreatDoorWholeJ06
import Derived.Test.YtdipflchmooakaaGreatDoorWholeJ09
import Derived.Test.YtdipflchmooakaaGreatDoorWholeJ13
import Derived.Test.YtdipflchmooakaaGreatDoorWholeJ08
import Derived.Test.YtdipflchmooakaaGreatDoorWholeJ14
import Derived.Test.YtdipflchmooakaaGreatDoorWholeJ18
import Derived.Test.YtdipflchmooakaaGreatDoorWholeJ19
import Derived.Test.YtdipflchmooakaaGreatDoorWholeJ20
import Derived.Test.YtdipflchmooakaaGreatDoorWholeJ21
import Derived.BigRegion
import Derived.Deep.CutRange
import Derived.RegionTactic
import Derived.Test.YtdipflchmooakaaGreatDoorWholeJ12
import Derived.Test.YtdipflchmooakaaGreatDoorCards
import Derived.Test.YtdipflchmooakaaGreatDoorTie
import Derived.LaidMore
import Derived.Stop.Joined
import Derived.OpenShut
import Derived.ProofKit
import Derived.SevenTiedAt
set_option maxRecDepth 100000
namespace Go.Proofs.YtdipflchmooakaaGreatDoor
open Go.RowKit Go.Gar Go.Gar.Aes

/-- The package's variable holds eight bytes 0xa6. -/
def GlW (w : World) : Prop := ∀ i, i < 8 → w.cell? ⟨0, i, none⟩ = some (.int .u8 166)
theorem GlW.keep {w w' : World} (h : GlW w) (hb : Below w.heap.size w w') : GlW w' := fun i hi => cell_stays hb (h i hi)
theorem iv_get (i : Nat) (v : Value) (h : (u8s Wrp.iv8)[i]? = some v) : i < 8 ∧ v = .int .u8 166 := by
  have hl : i < 8 := by
    have := (List.getElem?_eq_some_iff.1 h).1
    rw [u8s_len] at this
    exact this
  refine ⟨hl, ?_⟩
  rw [u8s_get, Wrp.iv8, List.getElem?_replicate, if_pos hl] at h
  exact (Option.some.inj h).symm
theorem GlW.load {w : World} (h : GlW w) : (loadVar 55 ⟨0, 0, none⟩).run Tryz.prog w = .ok (.agg (u8s Wrp.iv8).toArray) w :=
  run_loadVar_mid (P := Tryz.prog) w 0 0 55 (u8s Wrp.iv8) _ (fun j v hv => by
    obtain ⟨h1, rfl⟩ := iv_get j v hv
    rw [Nat.zero_add]; exact h j h1) Tryz.und8 rfl (by rw [u8s_len]; kernel_rfl)

set_option maxRecDepth 100000 in
set_option maxHeartbeats 2000000 in
theorem wrap_no (w : World) (K A : Option Addr) (kl kc bl bc : Nat) (hno : ¬ sizeOk kl) :
    Calls Tryz.prog 9 #[.slice K kl kc, .slice A bl bc] w fun e w' => e = .returned (.tuple #[.slice none 0 0, .int .i64 1]) ∧ Below w.heap.size w w' := by
  go_enter Tryz.func9, Tryz.ntmps9
  go_wp2_with fail
  refine (aesOK.new_no w K kl kc hno).mono ?_
  rintro e w1 ⟨rfl, hb1⟩
  have Hb1 := Lib.hid hb1
  clear hb1
  go_wp2
  go_ret2
  exact ⟨rfl, Hb1.out⟩
set_option maxRecDepth 100000 in
set_option maxHeartbeats 2000000 in
theorem unwrap_no (w : World) (K A : Option Addr) (kl kc bl bc : Nat) (hno : ¬ sizeOk kl) :
    Calls Tryz.prog 12 #[.slice K kl kc, .slice A bl bc] w fun e w' => e = .returned (.tuple #[.slice none 0 0, .int .i64 1]) ∧ Below w.heap.size w w' := by
  go_enter Tryz.func12, Tryz.ntmps12
  go_wp2_with fail
  refine (aesOK.new_no w K kl kc hno).mono ?_
  rintro e w1 ⟨rfl, hb1⟩
  have Hb1 := Lib.hid hb1
  clear hb1
  go_wp2
  go_ret2
  exact ⟨rfl, Hb1.out⟩
set_option maxRecDepth 100000 in
set_option maxHeartbeats 2000000 in
theorem wrap_arg (w : World) (K A : Option Addr) (key : List UInt8) (kl kc bl bc : Nat) (hkl : kl = key.length) (hkc : kl ≤ kc) (rK : Rd w w.heap.size K key) (hs : sizeOk kl) (hno : ¬ fits bl) (hbl : bl ≤ 1048576) :
    Calls Tryz.prog 9 #[.slice K kl kc, .slice A bl bc] w fun e w' => e = .returned (.tuple #[.slice none 0 0, .int .i64 1]) ∧ Below w.heap.size w w' := by
  have hsk : sizeOk key.length := by rw [← hkl]; exact hs
  have HN := Lib.hid hno
  have HNew := Lib.hid (aesOK.new_yes w K key kl kc hsk hkl (by omega) rK)
  clear hno hsk hs hkl rK hkc
  go_enter Tryz.func9, Tryz.ntmps9
  go_wp2_with fail
  refine HNew.out.mono ?_
  rintro e w1 ⟨gc, rfl, _, hb1⟩
  have Hb1 := Lib.hid hb1
  clear hb1
  go_wp2_with fail
  refine (wrappable_any w1 (bl : Int) false (by have := HN.out; unfold fits at this; simp; omega) (by omega) (by omega)).mono ?_
  rintro e w2 ⟨rfl, rfl⟩
  go_wp2
  go_ret2
  exact ⟨rfl, Hb1.out⟩
set_option maxRecDepth 100000 in
set_option maxHeartbeats 2000000 in
theorem unwrap_arg (w : World) (K A : Option Addr) (key : List UInt8) (kl kc bl bc : Nat) (hkl : kl = key.length) (hkc : kl ≤ kc) (rK : Rd w w.heap.size K key) (hs : sizeOk kl) (hno : ¬ (8 ≤ bl ∧ fits (bl - 8))) (hbl : bl ≤ 1048576) :
    Calls Tryz.prog 12 #[.slice K kl kc, .slice A bl bc] w fun e w' => e = .returned (.tuple #[.slice none 0 0, .int .i64 1]) ∧ Below w.heap.size w w' := by
  have hsk : sizeOk key.length := by rw [← hkl]; exact hs
  have HN := Lib.hid hno
  have HNew := Lib.hid (aesOK.new_yes w K key kl kc hsk hkl (by omega) rK)
  clear hno hsk hs hkl rK hkc
  go_enter Tryz.func12, Tryz.ntmps12
  go_wp2_with fail
  refine HNew.out.mono ?_
  rintro e w1 ⟨gc, rfl, _, hb1⟩
  have Hb1 := Lib.hid hb1
  clear hb1
  go_wp2_with fail
  refine (wrappable_any w1 ((bl : Int) - 8) false (by have := HN.out; unfold fits at this; simp; omega) (by omega) (by omega)).mono ?_
  rintro e w2 ⟨rfl, rfl⟩
  go_wp2
  go_ret2
  exact ⟨rfl, Hb1.out⟩

set_option maxRecDepth 100000 in
set_option maxHeartbeats 2000000 in
theorem wrap_yes (w : World) (hG : GlW w) (K A : Option Addr) (key b : List UInt8) (kl kc bl bc : Nat) (hkl : kl = key.length) (hkc : kl ≤ kc) (hbe : bl = b.length) (rK : Rd w w.heap.size K key) (rA : Rd w w.heap.size A b) (hs : sizeOk kl) (hf : fits bl) (O : List UInt8) (hO : O = Wrp.wrap_ key b) :
    Calls Tryz.prog 9 #[.slice K kl kc, .slice A bl bc] w fun e w' => ∃ v, e = .returned (.tuple #[v, .int .i64 0]) ∧ Out w' v O ∧ Below w.heap.size w w' := by
  have hsk : sizeOk key.length := by rw [← hkl]; exact hs
  have HF := Lib.hid hf
  have HS := Lib.hid hsk
  have HNew := Lib.hid (aesOK.new_yes w K key kl kc hsk hkl (by omega) rK)
  have HG := Lib.hid hG
  have HA := Lib.hid rA
  have HBE := Lib.hid hbe
  obtain ⟨n, hn⟩ : ∃ n, bl / 8 = n := ⟨_, rfl⟩
  have hn8 : bl = 8 * n := by unfold fits at hf; omega
  have hn1 : 1 ≤ n ∧ n ≤ 32 := by unfold fits at hf; omega
  obtain ⟨Z, hZ⟩ : ∃ Z, Z = Wrp.fw key n (Wrp.iv8, b) (6 * n) := ⟨_, rfl⟩
  have hZo : Wrp.Ok n Z := by rw [hZ]; exact Wrp.fw_ok (by omega) ⟨rfl, by show b.length = _; omega⟩ _
  have hOZ : O = Z.1 ++ Z.2 := by rw [hO, Wrp.wrap_, ← hbe, hn, ← hZ]
  have HN8 := Lib.hid hn8
  have HN1 := Lib.hid hn1
  have HZ := Lib.hid hZ
  have HZo := Lib.hid hZo
  have HOZ := Lib.hid hOZ
  clear hf hsk hs hkl rK hkc hG rA hbe hn hn8 hn1 hZ hZo hOZ hO
  go_enter Tryz.func9, Tryz.ntmps9
  go_wp2_with fail
  refine HNew.out.mono ?_
  rintro e w1 ⟨gc, rfl, hRep, hb1⟩
  have Hb1 := Lib.hid hb1
  have HRep := Lib.hid hRep
  have HG1 := Lib.hid (HG.out.keep hb1)
  have hld := HG1.out.load
  clear hb1 hRep HNew
  go_wp2_with fail
  refine (wrappable_any w1 (bl : Int) true (by have := HF.out; unfold fits at this; simp; omega) (by have := HF.out; unfold fits at this; omega) (by have := HF.out; unfold fits at this; omega)).mono ?_
  rintro e w2 ⟨rfl, rfl⟩
  go_wp2_with (first | refine wpList_load_arr_w 55 (.global 0) rfl rfl (u8s Wrp.iv8).toArray hld (by kernel_rfl) ?_ | fail)
  refine (forward_any w2 gc key Wrp.iv8 b A n bl bc HS.out HRep.out rfl HBE.out HN8.out HN1.out.1 HN1.out.2 ((HA.out.below Hb1.out).more Hb1.out.size) Z HZ.out).mono ?_
  rintro e w3 ⟨gR, cp, rest, rfl, hcp, hR3, hb3⟩
  have hZ4 := Blk.new w3 55 zr8
  have hX4 := hZ4.row (u8s Z.1)
  have hb4 : Below w3.heap.size w3 ((w3.alloc (.cells zr8.toArray 55)).setRow w3.heap.size (u8s Z.1).toArray) := below_setRow (below_alloc w3 _) (Nat.le_refl _) _
  have HZ4 := Lib.hid hZ4
  obtain ⟨w4, hw4⟩ : ∃ w4, (w3.alloc (.cells zr8.toArray 55)).setRow w3.heap.size (u8s Z.1).toArray = w4 := ⟨_, rfl⟩
  rw [hw4] at hX4 hb4
  have HW4 := Lib.hid hw4
  have HX4 := Lib.hid hX4
  have HR4 := Lib.hid (hR3.below hb4 hR3.lt)
  have Hb4 := Lib.hid (Hb1.out.trans ((hb3.trans (hb4.mono hb3.size)).mono Hb1.out.size))
  have HSz := Lib.hid (sizeA8 Z.1 HZo.out.1)
  have HLn : Hid (zr8.length = (u8s Z.1).length) := Lib.hid (by rw [u8s_len, HZo.out.1]; rfl)
  have Hcp := Lib.hid hcp
  clear hZ4 hX4 hb4 hw4 hR3 hb3 hcp hld
  go_wp2_with (first | refine wpList_alloc_arr rfl 55 zr8.toArray rfl zeroR8 ?_ | (refine wpList_store_arr rfl 55 (.tmp 8) (.tmp 27) w3.heap.size zr8 (u8s Z.1) rfl rfl rfl rfl HZ4.out HSz.out HLn.out (u8s_one _) ?_; rw [HW4.out]) | fail)
  refine (concat2 w4 _ (some ⟨w3.heap.size, 0, none⟩) (some ⟨gR, 0, none⟩) Z.1 Z.2 O 8 bl 8 cp rfl HOZ.out HZo.out.1.symm (by rw [HZo.out.2]; exact HN8.out) (Rd.of_all HX4.out) (Rd.of_row HR4.out) (by omega) (by have := HF.out; unfold fits at this; omega)).mono ?_
  rintro e w5 ⟨v, rfl, hOut, hb5⟩
  have HO5 := Lib.hid hOut
  have Hb5 := Lib.hid (Hb4.out.trans (hb5.mono Hb4.out.size))
  clear hOut hb5
  go_wp2
  go_ret2
  exact ⟨v, rfl, HO5.out, Hb5.out⟩

end Go.Proofs.YtdipflchmooakaaGreatDoor
namespace Go.Gar
open Go.RowKit
theorem wpList_neq_arr_wW {P : Program} {w : World} {ops : Array Oper} {rest : List Oper} {o : Oper} {a : Act} {Q : Exit → Act → World → Prop} (t t2 : TypeId) (p q : Operand) (ho : o.op = .binOp .neq t p q t2) {x y : Array Value} (hp : a.eval p = .agg x) (hq : a.eval q = .agg y) (r : Bool)
    (hg : P.eqGuardType P.depth t = false) (heq : ∀ w, (Op.equalIn 10000 t (.agg x) (.agg y)).run P w = .ok r w) (hw : Region.wanted o (yielded ops a.tmps) = true)
    (h : wpList P ops Q rest (a.put o.dst (.bool (!r))) w) : wpList P ops Q (o :: rest) a w := by
  refine wpList_run_w hw (v := .bool (!r)) (w' := w) ?_ h
  have h1 : (eqGuard .neq t p q (.agg x) (.agg y)).run P w = .ok () w := by
    simp [eqGuard, hg, Sem.run_bind]
  have h2 : (binOp .neq t (.agg x) (.agg y)).run P w = .ok (.bool (!r)) w := by
    have := heq w
    simp [binOp, Op.equal, Op.maxDepth, this, Result.andThen]
  unfold execOp
  simp only [ho, hp, hq, Sem.run_bind, h1, h2, Result.andThen_ok, Sem.run_pure]
end Go.Gar
namespace Go.Proofs.YtdipflchmooakaaGreatDoor
open Go.RowKit Go.Gar Go.Gar.Aes
theorem Tryz.guard8 : Tryz.prog.eqGuardType Tryz.prog.depth 55 = false := by kernel_rfl

set_option maxRecDepth 100000 in
set_option maxHeartbeats 200000 in
theorem unwrap_yes (w : World) (hG : GlW w) (K A : Option Addr) (key b : List UInt8) (kl kc bl bc : Nat) (hkl : kl = key.length) (hkc : kl ≤ kc) (hbe : bl = b.length) (hbc : bl ≤ bc) (rK : Rd w w.heap.size K key) (rA : Rd w w.heap.size A b) (hs : sizeOk kl) (h8 : 8 ≤ bl) (hf : fits (bl - 8)) (O : List UInt8) (E : Nat)
    (hO : O = (Wrp.unwrap_ key b).getD []) (hE : E = if (Wrp.unwrap_ key b).isSome then 0 else 8) :
    Calls Tryz.prog 12 #[.slice K kl kc, .slice A bl bc] w fun e w' => ∃ v, e = .returned (.tuple #[v, .int .i64 (E : Int)]) ∧ Out w' v O ∧ Below w.heap.size w w' := by
  obtain ⟨gb, ob, rfl, hgb, hcell⟩ : ∃ gb ob, A = some ⟨gb, ob, none⟩ ∧ gb < w.heap.size ∧ ∀ i c, b[i]? = some c → w.cell? ⟨gb, ob + i, none⟩ = some (.int .u8 (c.toNat : Int)) := by
    rcases rA with h0 | ⟨gb, ob, e, h1, h2⟩
    · rw [hbe, h0] at h8; exact absurd h8 (by simp)
    · exact ⟨gb, ob, e, h1, h2⟩
  have hsk : sizeOk key.length := by rw [← hkl]; exact hs
  have HF := Lib.hid hf
  have HS := Lib.hid hsk
  have HNew := Lib.hid (aesOK.new_yes w K key kl kc hsk hkl (by omega) rK)
  have HG := Lib.hid hG
  have HBE := Lib.hid hbe
  have HCell := Lib.hid hcell
  have Hgb := Lib.hid hgb
  obtain ⟨n, hn⟩ : ∃ n, bl / 8 - 1 = n := ⟨_, rfl⟩
  have hn8 : bl - 8 = 8 * n := by unfold fits at hf; omega
  have hn1 : 1 ≤ n ∧ n ≤ 32 := by unfold fits at hf; omega
  obtain ⟨Z, hZ⟩ : ∃ Z, Z = Wrp.bw key n (b.take 8, b.drop 8) (6 * n) (6 * n) := ⟨_, rfl⟩
  have hl1 : (b.take 8).length = 8 := by rw [List.length_take]; omega
  have hl2 : (b.drop 8).length = 8 * n := by rw [List.length_drop, ← hbe]; exact hn8
  have hZo : Wrp.Ok n Z := by rw [hZ]; exact Wrp.bw_ok (s := (b.take 8, b.drop 8)) hn1.1 ⟨hl1, hl2⟩ _ _
  have hU : Wrp.unwrap_ key b = if Z.1 = Wrp.iv8 then some Z.2 else none := by rw [Wrp.unwrap_, ← hbe, hn, ← hZ]
  rw [hU] at hO hE
  have HN8 := Lib.hid hn8
  have HN1 := Lib.hid hn1
  have HZ := Lib.hid hZ
  have HZo := Lib.hid hZo
  have HO := Lib.hid hO
  have HE := Lib.hid hE
  have h8b : (8 : Int) ≤ (bl : Int) := by omega
  have h8c : (8 : Int) ≤ (bc : Int) := by omega
  have h8d : (bl : Int) ≤ 264 := by unfold fits at hf; omega
  clear hf hsk hs hkl rK hkc hG rA hbe hn hn8 hn1 hZ hZo hU hO hE hcell hgb
  go_enter Tryz.func12, Tryz.ntmps12
  go_wp2_with fail
  refine HNew.out.mono ?_
  rintro e w1 ⟨gc, rfl, hRep, hb1⟩
  have Hb1 := Lib.hid hb1
  have HRep := Lib.hid hRep
  clear hb1 hRep HNew
  go_wp2_with fail
  refine (wrappable_any w1 ((bl : Int) - 8) true (by have := HF.out; unfold fits at this; simp; omega) (by omega) (by have := HF.out; unfold fits at this; omega)).mono ?_
  rintro e w2 ⟨rfl, rfl⟩
  go_wp2_with fail
  refine wp_region_G (belowG w2.heap.size) (by kernel_rfl) ?_
  have hb20 : Below w2.heap.size w2 w2.drew := (Below.refl _ w2).drew
  have HL1 := Lib.hid hl1
  have HL2 : Hid ((b.drop 8).length = bl - 8) := Lib.hid (by rw [List.length_drop, ← HBE.out])
  have HRd : Hid (Rd w2 w2.heap.size (some ⟨gb, ob + 8, none⟩) (b.drop 8)) := Lib.hid (.inr ⟨gb, ob + 8, rfl, Nat.lt_of_lt_of_le Hgb.out Hb1.out.size, fun i c hi => by
    rw [List.getElem?_drop] at hi
    rw [Nat.add_assoc]
    exact cell_stays Hb1.out (HCell.out (8 + i) c hi)⟩)
  have hgb2 : gb < w2.heap.size := Nat.lt_of_lt_of_le Hgb.out Hb1.out.size
  have hcl2 : ∀ i c, b[i]? = some c → w2.cell? ⟨gb, ob + i, none⟩ = some (.int .u8 (c.toNat : Int)) := fun i c hi => cell_stays Hb1.out (HCell.out i c hi)
  obtain ⟨B, hB⟩ : ∃ B, w2.heap.size = B := ⟨_, rfl⟩
  rw [hB] at hb20 HRd hgb2 ⊢
  have HQ1 := Lib.hid hb20
  generalize w2.drew = W1 at *
  have HBe := Lib.hid hB
  have h8e : ¬ bc = 8 := by have := HF.out; unfold fits at this; omega
  have qp := fun V => run_arr8 gb ob bl bc (by omega) V
  have qy : ∀ V : Later (belowG B) W1, (loadVar 55 ⟨gb, ob, none⟩).run Tryz.prog V.to = .ok (.agg (u8s (b.take 8)).toArray) V.to := fun V =>
    run_loadVar_mid (P := Tryz.prog) V.to gb ob 55 (u8s (b.take 8)) _ (fun j v hv => by
      have hV : Below B W1 V.to := V.grown
      rw [u8s_get] at hv
      cases hq : (b.take 8)[j]? with
      | none => rw [hq] at hv; cases hv
      | some c =>
        rw [hq] at hv
        obtain rfl := Option.some.inj hv
        rw [List.getElem?_take] at hq
        split at hq
        · exact ((HQ1.out.trans hV).cell (p := ⟨gb, ob + j, none⟩) hgb2).trans (hcl2 j c hq)
        · cases hq) Tryz.und8 rfl (by rw [u8s_len, HL1.out]; kernel_rfl)
  clear hl1 hl2 hb20 hB
  refine segG (by kernel_rfl) (fun _ _ _ _ _ h => h) [0, 1] [_, _] 11 rfl rfl (by kernel_rfl) ?_
  repeat (go_big_quiet_step (fail))
  refine wpQuiet_nil ?_
  refine firstG_arrayAt 55 (.tmp 25) (i := 2) (n := 10) (by kernel_rfl) (fun _ _ _ _ _ h => h) rfl rfl (by kernel_rfl) rfl rfl qp (by kernel_rfl) ?_
  simp only [Act.put, List.setIfInBounds_toArray, List.set]
  refine segG (by kernel_rfl) (fun _ _ _ _ _ h => h) [3, 4, 5] [_, _, _] 7 rfl rfl (by kernel_rfl) ?_
  refine wpQuiet_load_at 55 (.tmp 26) rfl rfl (u8s (b.take 8)).toArray qy (by kernel_rfl) ?_
  simp only [Act.put, List.setIfInBounds_toArray, List.set]
  clear qy qp hcl2 hgb2
  repeat (go_big_quiet_step (fail))
  refine wpQuiet_nil ?_
  refine twoG 6 10 6 rfl (by kernel_rfl) rfl rfl ?_ ?_
  · skip
    go_wp2_with fail
    refine (backward_any W1 gc key (b.take 8) (b.drop 8) (some ⟨gb, ob + 8, none⟩) n (bl - 8) (bc - 8) HS.out (aesOK.stay HRep.out (by have h := HQ1.out; rw [← HBe.out] at h; exact h)) HL1.out HL2.out.symm HN8.out HN1.out.1 HN1.out.2 ((HRd.out.below HQ1.out).more (by have := HQ1.out.size; have := HBe.out; omega)) Z HZ.out).mono ?_
    rintro e W2 ⟨gR, cp, rest, rfl, hcp, hR, hb⟩
    have HQ2 := Lib.hid (HQ1.out.trans (hb.mono (by have := HQ1.out.size; have := HBe.out; omega)))
    have HR2 := Lib.hid hR
    have Hcp := Lib.hid hcp
    have Hle : Hid (B ≤ W1.heap.size) := Lib.hid (by have := HQ1.out.size; have := HBe.out; omega)
    clear hR hcp HQ1
    go_wp2
    refine ⟨hb.mono Hle.out, ?_⟩
    clear hb Hle
    refine segG (by kernel_rfl) (fun _ _ _ _ _ h => h) [7, 8, 9] [_, _, _] 3 rfl rfl (by kernel_rfl) ?_
    repeat (go_big_quiet_step (fail))
    refine wpQuiet_nil ?_
    refine oneG 10 2 rfl (by kernel_rfl) rfl ?_
    go_wp2_with (refine wpList_alloc_arr rfl 55 zr8.toArray rfl zeroR8 ?_)
    refine ⟨(below_alloc W2 _).mono (by have := HQ2.out.size; have := HBe.out; omega), ?_⟩
    have HX3 := Lib.hid (Blk.new W2 55 zr8)
    have HQ3 := Lib.hid (HQ2.out.trans ((below_alloc W2 (.cells zr8.toArray 55)).mono (by have := HQ2.out.size; have := HBe.out; omega)))
    obtain ⟨gX, hgX⟩ : ∃ gX, W2.heap.size = gX := ⟨_, rfl⟩
    have HGX : Hid (B ≤ gX) := Lib.hid (by rw [← hgX]; exact (by have := HQ2.out.size; have := HBe.out; omega))
    have HR3 := Lib.hid (HR2.out.alloc (.cells zr8.toArray 55))
    rw [hgX] at HX3 ⊢
    clear HQ2 hgX HR2
    generalize W2.alloc (.cells zr8.toArray 55) = W3 at *
    simp only [Act.put, List.setIfInBounds_toArray, List.set]
    have HSz := Lib.hid (sizeA8 Z.1 HZo.out.1)
    have HLn : Hid (zr8.length = (u8s Z.1).length) := Lib.hid (by rw [u8s_len, HZo.out.1]; rfl)
    have HX4 := Lib.hid (HX3.out.row (u8s Z.1))
    have HR4 := Lib.hid (HR3.out.rowFar (g' := gX) (HR3.out.ne HX3.out (by decide)) (u8s Z.1).toArray)
    have hst := below_setRow (Below.refl B W3) HGX.out (u8s Z.1).toArray
    have HQ4 := Lib.hid (HQ3.out.trans hst)
    have Hst := Lib.hid hst
    obtain ⟨W4, hW4⟩ : ∃ W4, W3.setRow gX (u8s Z.1).toArray = W4 := ⟨_, rfl⟩
    rw [hW4] at HX4 HR4 HQ4 Hst
    have HW4 := Lib.hid hW4
    clear hW4 hst HQ3
    refine oneG 11 1 rfl (by kernel_rfl) rfl ?_
    go_wp2_with (refine wpList_store_arr rfl 55 (.tmp 8) (.tmp 31) gX zr8 (u8s Z.1) rfl rfl rfl rfl HX3.out HSz.out HLn.out (u8s_one _) ?_; rw [HW4.out])
    refine ⟨Hst.out, ?_⟩
    refine segG (by kernel_rfl) (fun _ _ _ _ _ h => h) [12] [_] 0 rfl rfl (by kernel_rfl) ?_
    repeat (go_big_quiet_step (fail))
    refine wpQuiet_nil ?_
    refine wpAnyG_done (by kernel_rfl) ?_
    have hb4 : Below w2.heap.size w2 W4 := by rw [HBe.out]; exact HQ4.out
    have hld := run_loadVar_row (P := Tryz.prog) W4 gX 55 55 (u8s Z.1).toArray (0, 0) _ HX4.out Tryz.und8 rfl (by simpa using HSz.out)
    have hld2 := ((HG.out.keep Hb1.out).keep hb4).load
    have Hb4 := Lib.hid (Hb1.out.trans (hb4.mono Hb1.out.size))
    have hI8 : Wrp.iv8.length = 8 := rfl
    by_cases hz : Z.1 = Wrp.iv8
    · have hE0 : E = 0 := by have := HE.out; rw [if_pos hz] at this; simpa using this
      have hO0 : O = Z.2 := by have := HO.out; rw [if_pos hz] at this; simpa using this
      have heq := fun W => run_equalIn_u8s Tryz.und8 Tryz.plain5 Tryz.und5 Tryz.cells5 9998 Z.1 Wrp.iv8 HZo.out.1 hI8 (w := W)
      rw [decide_eq_true hz] at heq
      have HO0 := Lib.hid hO0
      have Hlen : Hid (bl - 8 = O.length) := Lib.hid (by rw [hO0, HZo.out.2]; exact HN8.out)
      have Hout : Hid (Out W4 (.slice (some ⟨gR, 0, none⟩) (bl - 8) cp) O) := Lib.hid ⟨_, cp, by rw [← Hlen.out], by rw [← Hlen.out]; exact Hcp.out, by rw [hO0]; exact Rd.of_row HR4.out⟩
      clear HO HE hz hO0 hb4 HR4 HX4 hI8
      subst hE0
      go_wp2_with (first | refine wpList_load_arr_w 55 (.tmp 8) rfl rfl (u8s Z.1).toArray hld (by kernel_rfl) ?_ | refine wpList_load_arr_w 55 (.global 0) rfl rfl (u8s Wrp.iv8).toArray hld2 (by kernel_rfl) ?_ | refine wpList_neq_arr_wW 55 55 (.tmp 33) (.tmp 34) rfl rfl rfl true Tryz.guard8 heq (by kernel_rfl) ?_)
      go_ret2
      exact ⟨_, rfl, Hout.out, Hb4.out⟩
    · have hE8 : E = 8 := by have := HE.out; rw [if_neg hz] at this; simpa using this
      have hO0 : O = [] := by have := HO.out; rw [if_neg hz] at this; simpa using this
      have heq := fun W => run_equalIn_u8s Tryz.und8 Tryz.plain5 Tryz.und5 Tryz.cells5 9998 Z.1 Wrp.iv8 HZo.out.1 hI8 (w := W)
      rw [decide_eq_false hz] at heq
      clear HO HE hz hb4 HR4 HX4 hI8
      subst hE8
      subst hO0
      go_wp2_with (first | refine wpList_load_arr_w 55 (.tmp 8) rfl rfl (u8s Z.1).toArray hld (by kernel_rfl) ?_ | refine wpList_load_arr_w 55 (.global 0) rfl rfl (u8s Wrp.iv8).toArray hld2 (by kernel_rfl) ?_ | refine wpList_neq_arr_wW 55 55 (.tmp 33) (.tmp 34) rfl rfl rfl false Tryz.guard8 heq (by kernel_rfl) ?_)
      go_ret2
      exact ⟨_, rfl, Out.nil _, Hb4.out⟩
  · skip
    go_wp2_with (refine wpList_alloc_arr rfl 55 zr8.toArray rfl zeroR8 ?_)
    refine ⟨(below_alloc W1 _).mono (by have := HQ1.out.size; have := HBe.out; omega), ?_⟩
    have HX2 := Lib.hid (Blk.new W1 55 zr8)
    have HQ2 := Lib.hid (HQ1.out.trans ((below_alloc W1 (.cells zr8.toArray 55)).mono (by have := HQ1.out.size; have := HBe.out; omega)))
    obtain ⟨gX, hgX⟩ : ∃ gX, W1.heap.size = gX := ⟨_, rfl⟩
    have HGX : Hid (B ≤ gX) := Lib.hid (by rw [← hgX]; exact (by have := HQ1.out.size; have := HBe.out; omega))
    rw [hgX] at HX2 ⊢
    clear HQ1 hgX
    generalize W1.alloc (.cells zr8.toArray 55) = W2 at *
    simp only [Act.put, List.setIfInBounds_toArray, List.set]
    refine oneG 6 5 rfl (by kernel_rfl) rfl ?_
    go_wp2_with fail
    refine (backward_any W2 gc key (b.take 8) (b.drop 8) (some ⟨gb, ob + 8, none⟩) n (bl - 8) (bc - 8) HS.out (aesOK.stay HRep.out (by have h := HQ2.out; rw [← HBe.out] at h; exact h)) HL1.out HL2.out.symm HN8.out HN1.out.1 HN1.out.2 ((HRd.out.below HQ2.out).more (by have := HQ2.out.size; have := HBe.out; omega)) Z HZ.out).mono ?_
    rintro e W3 ⟨gR, cp, rest, rfl, hcp, hR, hb⟩
    have HQ3 := Lib.hid (HQ2.out.trans (hb.mono (by have := HQ2.out.size; have := HBe.out; omega)))
    have HR3 := Lib.hid hR
    have Hcp := Lib.hid hcp
    have Hle : Hid (B ≤ W2.heap.size) := Lib.hid (by have := HQ2.out.size; have := HBe.out; omega)
    have HX3 := Lib.hid (HX2.out.below hb HX2.out.lt)
    clear hR hcp HQ2 HX2
    go_wp2
    refine ⟨hb.mono Hle.out, ?_⟩
    clear hb Hle
    refine segG (by kernel_rfl) (fun _ _ _ _ _ h => h) [7, 8, 9] [_, _, _] 2 rfl rfl (by kernel_rfl) ?_
    repeat (go_big_quiet_step (fail))
    refine wpQuiet_nil ?_
    have HSz := Lib.hid (sizeA8 Z.1 HZo.out.1)
    have HLn : Hid (zr8.length = (u8s Z.1).length) := Lib.hid (by rw [u8s_len, HZo.out.1]; rfl)
    have HX4 := Lib.hid (HX3.out.row (u8s Z.1))
    have HR4 := Lib.hid (HR3.out.rowFar (g' := gX) (HR3.out.ne HX3.out (by decide)) (u8s Z.1).toArray)
    have hst := below_setRow (Below.refl B W3) HGX.out (u8s Z.1).toArray
    have HQ4 := Lib.hid (HQ3.out.trans hst)
    have Hst := Lib.hid hst
    obtain ⟨W4, hW4⟩ : ∃ W4, W3.setRow gX (u8s Z.1).toArray = W4 := ⟨_, rfl⟩
    rw [hW4] at HX4 HR4 HQ4 Hst
    have HW4 := Lib.hid hW4
    clear hW4 hst HQ3
    refine oneG 11 1 rfl (by kernel_rfl) rfl ?_
    go_wp2_with (refine wpList_store_arr rfl 55 (.tmp 8) (.tmp 31) gX zr8 (u8s Z.1) rfl rfl rfl rfl HX3.out HSz.out HLn.out (u8s_one _) ?_; rw [HW4.out])
    refine ⟨Hst.out, ?_⟩
    refine segG (by kernel_rfl) (fun _ _ _ _ _ h => h) [12] [_] 0 rfl rfl (by kernel_rfl) ?_
    repeat (go_big_quiet_step (fail))
    refine wpQuiet_nil ?_
    refine wpAnyG_done (by kernel_rfl) ?_
    have hb4 : Below w2.heap.size w2 W4 := by rw [HBe.out]; exact HQ4.out
    have hld := run_loadVar_row (P := Tryz.prog) W4 gX 55 55 (u8s Z.1).toArray (0, 0) _ HX4.out Tryz.und8 rfl (by simpa using HSz.out)
    have hld2 := ((HG.out.keep Hb1.out).keep hb4).load
    have Hb4 := Lib.hid (Hb1.out.trans (hb4.mono Hb1.out.size))
    have hI8 : Wrp.iv8.length = 8 := rfl
    by_cases hz : Z.1 = Wrp.iv8
    · have hE0 : E = 0 := by have := HE.out; rw [if_pos hz] at this; simpa using this
      have hO0 : O = Z.2 := by have := HO.out; rw [if_pos hz] at this; simpa using this
      have heq := fun W => run_equalIn_u8s Tryz.und8 Tryz.plain5 Tryz.und5 Tryz.cells5 9998 Z.1 Wrp.iv8 HZo.out.1 hI8 (w := W)
      rw [decide_eq_true hz] at heq
      have HO0 := Lib.hid hO0
      have Hlen : Hid (bl - 8 = O.length) := Lib.hid (by rw [hO0, HZo.out.2]; exact HN8.out)
      have Hout : Hid (Out W4 (.slice (some ⟨gR, 0, none⟩) (bl - 8) cp) O) := Lib.hid ⟨_, cp, by rw [← Hlen.out], by rw [← Hlen.out]; exact Hcp.out, by rw [hO0]; exact Rd.of_row HR4.out⟩
      clear HO HE hz hO0 hb4 HR4 HX4 hI8
      subst hE0
      go_wp2_with (first | refine wpList_load_arr_w 55 (.tmp 8) rfl rfl (u8s Z.1).toArray hld (by kernel_rfl) ?_ | refine wpList_load_arr_w 55 (.global 0) rfl rfl (u8s Wrp.iv8).toArray hld2 (by kernel_rfl) ?_ | refine wpList_neq_arr_wW 55 55 (.tmp 33) (.tmp 34) rfl rfl rfl true Tryz.guard8 heq (by kernel_rfl) ?_)
      go_ret2
      exact ⟨_, rfl, Hout.out, Hb4.out⟩
    · have hE8 : E = 8 := by have := HE.out; rw [if_neg hz] at this; simpa using this
      have hO0 : O = [] := by have := HO.out; rw [if_neg hz] at this; simpa using this
      have heq := fun W => run_equalIn_u8s Tryz.und8 Tryz.plain5 Tryz.und5 Tryz.cells5 9998 Z.1 Wrp.iv8 HZo.out.1 hI8 (w := W)
      rw [decide_eq_false hz] at heq
      clear HO HE hz hb4 HR4 HX4 hI8
      subst hE8
      subst hO0
      go_wp2_with (first | refine wpList_load_arr_w 55 (.tmp 8) rfl rfl (u8s Z.1).toArray hld (by kernel_rfl) ?_ | refine wpList_load_arr_w 55 (.global 0) rfl rfl (u8s Wrp.iv8).toArray hld2 (by kernel_rfl) ?_ | refine wpList_neq_arr_wW 55 55 (.tmp 33) (.tmp 34) rfl rfl rfl false Tryz.guard8 heq (by kernel_rfl) ?_)
      go_ret2
      exact ⟨_, rfl, Out.nil _, Hb4.out⟩
end Go.Proofs.YtdipflchmooakaaGreatDoor
namespace Go.Proofs.YtdipflchmooakaaGreatDoor
open Go.ChangeShapes Go.WideShapes Go.ChangeAt Go.WideMaps Go.WideElems Go.RowKit Go.Gar

/-- A listed table of 32-bit numbers: its cells. -/
theorem laid_u32 {P : Program} {W : World} {t e : TypeId} {n f : Nat} {cs : List Value} {l : List Nat} {p : List MemPlace} (ht : P.underlying t = some (.array n e)) (he : P.underlying e = some (.int .u32)) (hce : P.cellsOf e = 1)
    (h : DataW.trod (fun _ => ()) P W 0 (fun _ => true) false f t cs = some (.agg (l.map fun z : Nat => .lit (.int .u32 (z : Int))), p)) : ∀ i, i < l.length → cs[i]? = some (.int .u32 ((l.getD i 0 : Nat) : Int)) := by
  obtain ⟨xs, m, _, hx, _, hn, hall⟩ := DataW.trod_array ht h
  simp only [Prod.mk.injEq, DataW.agg.injEq] at hx
  have hlen : l.length = n := by
    have := congrArg List.length hx.1
    simpa [hn] using this
  intro i hi
  have h3 := hall i (by omega)
  rw [hce, Nat.mul_one, List.getElem?_eq_getElem (by omega)] at h3
  obtain ⟨q, hq, hx2, _⟩ := DataW.trod_int he h3
  have h5 : cs[i]? = some (.int .u32 q) := by
    have h6 : ((cs.drop i).take 1)[0]? = some (.int .u32 q) := by rw [hq]; rfl
    simpa using h6
  have h7 : (l.map fun z : Nat => (DataW.lit (.int .u32 (z : Int)) : DataW Unit))[i]? = some (.lit (.int .u32 q)) := by
    rw [hx.1, List.getElem?_map, List.getElem?_eq_getElem (by omega), hx2]; rfl
  rw [List.getElem?_map, List.getElem?_eq_getElem hi] at h7
  simp only [Option.map_some, Option.some.injEq, DataW.lit.injEq, Lit.int.injEq, true_and] at h7
  rw [h5, ← h7, List.getD_eq_getElem?_getD, List.getElem?_eq_getElem hi]
  rfl
/-- A listed row of bytes: its cells. -/
theorem laid_u8 {P : Program} {W : World} {t e : TypeId} {n f : Nat} {cs : List Value} {l : List Nat} {p : List MemPlace} (ht : P.underlying t = some (.array n e)) (he : P.underlying e = some (.int .u8)) (hce : P.cellsOf e = 1)
    (h : DataW.trod (fun _ => ()) P W 0 (fun _ => true) false f t cs = some (.agg (l.map fun z : Nat => .lit (.int .u8 (z : Int))), p)) : ∀ i, i < l.length → cs[i]? = some (.int .u8 ((l.getD i 0 : Nat) : Int)) := by
  obtain ⟨xs, m, _, hx, _, hn, hall⟩ := DataW.trod_array ht h
  simp only [Prod.mk.injEq, DataW.agg.injEq] at hx
  have hlen : l.length = n := by
    have := congrArg List.length hx.1
    simpa [hn] using this
  intro i hi
  have h3 := hall i (by omega)
  rw [hce, Nat.mul_one, List.getElem?_eq_getElem (by omega)] at h3
  obtain ⟨q, hq, hx2, _⟩ := DataW.trod_int he h3
  have h5 : cs[i]? = some (.int .u8 q) := by
    have h6 : ((cs.drop i).take 1)[0]? = some (.int .u8 q) := by rw [hq]; rfl
    simpa using h6
  have h7 : (l.map fun z : Nat => (DataW.lit (.int .u8 (z : Int)) : DataW Unit))[i]? = some (.lit (.int .u8 q)) := by
    rw [hx.1, List.getElem?_map, List.getElem?_eq_getElem (by omega), hx2]; rfl
  rw [List.getElem?_map, List.getElem?_eq_getElem hi] at h7
  simp only [Option.map_some, Option.some.injEq, DataW.lit.injEq, Lit.int.injEq, true_and] at h7
  rw [h5, ← h7, List.getD_eq_getElem?_getD, List.getElem?_eq_getElem hi]
  rfl
def aheadL : List Nat := List.replicate 8 166
theorem gS : Tryz.prog.globalNamed ((Rows.wholeBlockRow.laid.map (·.1)).getD 0 default) = some 1 := by kernel_rfl
theorem gA : Tryz.prog.globalNamed ((Rows.wholeBlockRow.laid.map (·.1)).getD 1 default) = some 0 := by kernel_rfl
theorem tS : (Tryz.prog.globals[1]?).map (·.type) = some 125 := by kernel_rfl
theorem tA : (Tryz.prog.globals[0]?).map (·.type) = some 55 := by kernel_rfl
theorem uK : Tryz.prog.underlying 125 = some (.array 64 116) := by kernel_rfl
theorem uU32 : Tryz.prog.underlying 116 = some (.int .u32) := by kernel_rfl
theorem cU32 : Tryz.prog.cellsOf 116 = 1 := by kernel_rfl
theorem cU8 : Tryz.prog.cellsOf 5 = 1 := by kernel_rfl
theorem dS : (Rows.laid_garderobe_sha_cubeRoots : DataW Unit) = .agg (Sha.kL.map fun z : Nat => .lit (.int .u32 (z : Int))) := rfl
theorem dA : (Rows.laid_garderobe_wrap_ahead : DataW Unit) = .agg (aheadL.map fun z : Nat => .lit (.int .u8 (z : Int))) := rfl
theorem of_laidW {W : World} (h : laidMetH Tryz.prog Rows.wholeBlockRow.laid W) : Gl W ∧ GlW W := by
  rw [MakeChecks.laidMetH_plain _ _ _ (by kernel_rfl)] at h
  obtain ⟨ps, ⟨g0, t0, cs0, f0, p0, q0, hg0, ht0, hv0, hd0, ⟨g1, t1, cs1, f1, p1, q1, hg1, ht1, hv1, hd1, _, _⟩, _⟩, _, _⟩ := h
  obtain rfl := Option.some.inj (gS.symm.trans hg0)
  obtain rfl := Option.some.inj (tS.symm.trans ht0)
  obtain rfl := Option.some.inj (gA.symm.trans hg1)
  obtain rfl := Option.some.inj (tA.symm.trans ht1)
  rw [dS] at hd0
  rw [dA] at hd1
  refine ⟨fun i hi => ?_, fun i hi => ?_⟩
  · rw [World.var?_cell hg0 hv0 i, ← Array.getElem?_toList]
    exact laid_u32 uK uU32 cU32 hd0 i hi
  · rw [World.var?_cell hg1 hv1 i, ← Array.getElem?_toList]
    have h := laid_u8 Tryz.und8 Tryz.und5 cU8 hd1 i hi
    rw [h]
    have : ∀ i, i < 8 → aheadL.getD i 0 = 166 := by decide
    rw [this i hi]
    rfl
theorem open_i64 {H : Type} {enc : TypeId × Value → H} {W : World} {base : Nat} {v : Value} {d : DataW H} {p : List MemPlace}
    (hok : Value.okWide Tryz.prog W .any base 3 v) (h : DataW.Trod enc Tryz.prog W 0 (fun _ => true) true 3 v d p) : ∃ n : Int, isI64 n ∧ v = .int .i64 n := by
  obtain ⟨n, rfl, _, _, hw⟩ := open_int Tryz.underlying3 hok h
  have hb := bounds_i64 hw
  exact ⟨n, by unfold isI64; omega, rfl⟩
end Go.Proofs.YtdipflchmooakaaGreatDoor
namespace Go.Proofs.YtdipflchmooakaaGreatDoor
open Go.RowKit Go.Gar

/-- Of the blocks below B only one row, if any, may turn. -/
def turnsB (B : Nat) (row : Option Nat) : Growth where
  rel w w' := w'.os = w.os ∧ w'.tape = w.tape ∧ w'.output = w.output ∧ w.heap.size ≤ w'.heap.size ∧ ∀ k, k < B → some k ≠ row → w'.heap[k]? = w.heap[k]?
  refl _ := ⟨rfl, rfl, rfl, Nat.le_refl _, fun _ _ _ => rfl⟩
  trans h k := ⟨k.1.trans h.1, k.2.1.trans h.2.1, k.2.2.1.trans h.2.2.1, Nat.le_trans h.2.2.2.1 k.2.2.2.1, fun i hi hr => (k.2.2.2.2 i hi hr).trans (h.2.2.2.2 i hi hr)⟩
theorem turnsB_below {B : Nat} {row : Option Nat} {w w' : World} (h : Below B w w') : (turnsB B row).rel w w' := ⟨h.os, h.tape, h.output, h.size, fun k hk _ => h.block k hk⟩
theorem turnsB_grown {B : Nat} {row : Option Nat} {w w' : World} (h : w.grownBy w' row) (hB : B ≤ w.heap.size) : (turnsB B row).rel w w' := ⟨h.os, h.tape, h.output, h.size, fun k hk hr => h.block k (by omega) hr⟩
theorem cell_turnsB {w : World} {g B : Nat} {row : Option Nat} {t : TypeId} {cs : List Value} (h : Blk w g t cs) (hB : g < B) (hne : some g ≠ row) {i : Nat} {v : Value} (hv : cs[i]? = some v) : ∀ x : Later (turnsB B row) w, x.to.cell? ⟨g, i, none⟩ = some v := by
  intro x
  have hx : (turnsB B row).rel w x.to := x.grown
  have hb : Blk x.to g t cs := (hx.2.2.2.2 g hB hne).trans h
  rw [hb.cell, hv]
theorem addr_turnsB {w : World} {b o B : Nat} {row : Option Nat} {v : Value} (h : w.cell? ⟨b, o, none⟩ = some v) (hB : b < B) (hne : some b ≠ row) : ∀ x : Later (turnsB B row) w, x.to.cell? ⟨b, o, none⟩ = some v := by
  intro x
  have hx : (turnsB B row).rel w x.to := x.grown
  rw [← h]
  simp only [World.cell?, hx.2.2.2.2 b hB hne]
end Go.Proofs.YtdipflchmooakaaGreatDoor

namespace Go.Proofs.YtdipflchmooakaaGreatDoor
open Go.ChangeShapes Go.WideShapes Go.ChangeAt Go.RowKit Go.Gar Go.Gar.Aes

/-- The reference's cipher of a key. -/
def RefOf (w : World) (gc : Nat) (key : List UInt8) : Prop := ∃ gt gb gw cp, RefC w gc gt gb gw cp (words key (key.length / 4) (4 * (key.length / 4) + 28))
theorem RefOf.below {w w' : World} {gc : Nat} {key : List UInt8} (h : RefOf w gc key) (hb : Below w.heap.size w w') : RefOf w' gc key := by
  obtain ⟨gt, gb, gw, cp, h⟩ := h
  exact ⟨gt, gb, gw, cp, h.below hb⟩
end Go.Proofs.YtdipflchmooakaaGreatDoor

namespace Go.Proofs.YtdipflchmooakaaGreatDoor
open Go.ChangeShapes Go.WideShapes Go.ChangeAt Go.RowKit Go.Gar Go.Gar.Aes

/-- What is said of the reference's cipher is said of blocks that lay when it was made. -/
theorem RefOf.far {w W : World} {gc : Nat} {key : List UInt8} (h : RefOf w gc key) (hb : Below w.heap.size w W) : RefOf W gc key := h.below hb

theorem run_slice_mid (W : World) (g o len cap l h : Nat) (z1 z2 : Int) (h1 : z1 = (l : Int)) (h2 : z2 = (h : Int)) (hlh : l ≤ h) (hc : h ≤ cap) (hne : l < cap) :
    (Instr.sliceAt 23 (.slice (some ⟨g, o, none⟩) len cap) (some (.int .i64 z1)) (some (.int .i64 z2)) none).run Tryz.prog W = .ok (.slice (some ⟨g, o + l, none⟩) (h - l) (cap - l)) W := by
  subst h1; subst h2
  obtain ⟨i, hi, hs⟩ := Option.map_eq_some_iff.1 Tryz.size5
  have e1 : ¬ cap = l := by omega
  have e3 : (h : Int) ≤ (cap : Int) := by omega
  simp [Instr.sliceAt, Instr.slice, Instr.sliceBounds, run_underlying Tryz.und22 W, sizeOf, typeInfo, hi, hs, go_sem, e1, e3, Addr.add_lit]
  intro hh
  omega
/-- 16 bytes, i of them mixed. -/
def mixK (x l : List UInt8) (i : Nat) : List UInt8 := (addK x l).take i ++ x.drop i
theorem mixK_0 (x l : List UInt8) : mixK x l 0 = x := by simp [mixK]
theorem mixK_end (x l : List UInt8) (hx : x.length = 16) : mixK x l 16 = addK x l := by
  rw [mixK, List.take_of_length_le (by rw [addK_len]; omega), List.drop_eq_nil_of_le (by omega), List.append_nil]
theorem mixK_len (x l : List UInt8) (i : Nat) (hx : x.length = 16) : (mixK x l i).length = 16 := by
  rw [mixK, List.length_append, List.length_take, addK_len, List.length_drop]; omega
theorem mixK_get (x l : List UInt8) (i : Nat) (hi : i < 16) (hx : x.length = 16) : (mixK x l i)[i]? = some (at_ x i) := by
  have hl : ((addK x l).take i).length = i := by rw [List.length_take, addK_len]; omega
  rw [mixK, List.getElem?_append_right (by omega), hl, Nat.sub_self, List.getElem?_drop, Nat.add_zero, at_, List.getD_eq_getElem?_getD, List.getElem?_eq_getElem (by omega)]
  rfl
theorem mixK_set (x l : List UInt8) (i : Nat) (hi : i < 16) (hx : x.length = 16) : (mixK x l i).set i (at_ x i ^^^ at_ l i) = mixK x l (i + 1) := by
  have hl : ((addK x l).take i).length = i := by rw [List.length_take, addK_len]; omega
  have e2 : x.drop i = x[i]'(by omega) :: x.drop (i + 1) := List.drop_eq_getElem_cons (by omega)
  have e1 : (addK x l).take (i + 1) = (addK x l).take i ++ [at_ x i ^^^ at_ l i] := by
    have h := st_get (fun i => at_ x i ^^^ at_ l i) i hi
    rw [List.take_succ_eq_append_getElem (by rw [addK_len]; exact hi)]
    congr 2
    have h2 : (addK x l)[i]? = some (at_ x i ^^^ at_ l i) := h
    rw [List.getElem?_eq_getElem (by rw [addK_len]; exact hi)] at h2
    exact Option.some.inj h2
  unfold mixK
  rw [List.set_append_right _ _ (by omega), hl, Nat.sub_self, e2, List.set_cons_zero, e1, List.append_assoc]
  rfl
theorem u8s_set'' (l : List UInt8) (i : Nat) (c : UInt8) : (u8s l).set i (.int .u8 (c.toNat : Int)) = u8s (l.set i c) := by simp [u8s, List.map_set]
theorem at_get' (l : List UInt8) (i : Nat) (h : i < l.length) : l[i]? = some (at_ l i) := by
  rw [at_, List.getD_eq_getElem?_getD, List.getElem?_eq_getElem h]; rfl

end Go.Proofs.YtdipflchmooakaaGreatDoor
