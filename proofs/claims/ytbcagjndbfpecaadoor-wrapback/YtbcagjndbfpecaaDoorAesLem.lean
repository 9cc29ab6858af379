/-
  Small facts on AES's bytes in memory, and the reference's product of bytes.
-/
import Derived.Test.YtbcagjndbfpecaaDoorAesRef
namespace Go.Proofs.YtbcagjndbfpecaaDoor
open Go.RowKit Go.Gar Go.Gar.Aes

theorem gm_call (a b : UInt8) : ((Box.mul a.toNat b.toNat : Nat) : Int) = ((gm a b).toNat : Int) := by rw [gm_toNat]
theorem refMul_byte (a b : UInt8) (n m : Int) (hn : n = (a.toNat : Int)) (hm : m = (b.toNat : Int)) (w : World) :
    Calls Tryd.prog 30 #[.int .u8 n, .int .u8 m] w fun e w' => e = .returned (.int .u8 ((gm a b).toNat : Int)) ∧ w' = w := by
  subst hn; subst hm
  have := refMul_any a.toNat b.toNat w a.toNat_lt b.toNat_lt
  rw [gm_call] at this
  exact this
theorem at_get {l : List UInt8} {i : Nat} (h : i < l.length) : l[i]? = some (at_ l i) := by
  simp [at_, List.getElem?_eq_getElem h]
theorem prog_later (l l2 : List UInt8) (k j : Nat) (h : l2.length = l.length) (hj : k ≤ j) (hl : j < l.length) : (prog l l2 k)[j]? = some (at_ l j) := by
  unfold prog
  rw [List.getElem?_append_right (by simp; omega)]
  have : k + (j - (l2.take k).length) = j := by simp; omega
  rw [List.getElem?_drop, this, at_get hl]
theorem mixcol (T : List UInt8) (col : Nat) (hc : col < 4) : (mix T)[4 * col]? = some (gm 2 (at_ T (4 * col)) ^^^ gm 3 (at_ T (4 * col + 1)) ^^^ at_ T (4 * col + 2) ^^^ at_ T (4 * col + 3)) ∧
    (mix T)[4 * col + 1]? = some (at_ T (4 * col) ^^^ gm 2 (at_ T (4 * col + 1)) ^^^ gm 3 (at_ T (4 * col + 2)) ^^^ at_ T (4 * col + 3)) ∧
    (mix T)[4 * col + 2]? = some (at_ T (4 * col) ^^^ at_ T (4 * col + 1) ^^^ gm 2 (at_ T (4 * col + 2)) ^^^ gm 3 (at_ T (4 * col + 3))) ∧
    (mix T)[4 * col + 3]? = some (gm 3 (at_ T (4 * col)) ^^^ at_ T (4 * col + 1) ^^^ at_ T (4 * col + 2) ^^^ gm 2 (at_ T (4 * col + 3))) := by
  unfold mix
  rw [st_get _ _ (by omega), st_get _ _ (by omega), st_get _ _ (by omega), st_get _ _ (by omega)]
  have d0 : 4 * col / 4 * 4 = 4 * col := by omega
  have d1 : (4 * col + 1) / 4 * 4 = 4 * col := by omega
  have d2 : (4 * col + 2) / 4 * 4 = 4 * col := by omega
  have d3 : (4 * col + 3) / 4 * 4 = 4 * col := by omega
  have m0 : 4 * col % 4 = 0 := by omega
  have m1 : (4 * col + 1) % 4 = 1 := by omega
  have m2 : (4 * col + 2) % 4 = 2 := by omega
  have m3 : (4 * col + 3) % 4 = 3 := by omega
  rw [d0, d1, d2, d3, m0, m1, m2, m3]
  refine ⟨rfl, ?_, ?_, ?_⟩
  · show some (m (at_ T (4 * col + 1)) (at_ T (4 * col + 2)) (at_ T (4 * col + 3)) (at_ T (4 * col))) = _
    unfold m; congr 1; ac_rfl
  · show some (m (at_ T (4 * col + 2)) (at_ T (4 * col + 3)) (at_ T (4 * col)) (at_ T (4 * col + 1))) = _
    unfold m; congr 1; ac_rfl
  · show some (m (at_ T (4 * col + 3)) (at_ T (4 * col)) (at_ T (4 * col + 1)) (at_ T (4 * col + 2))) = _
    unfold m; congr 1; ac_rfl
theorem shift_idx (s : List UInt8) (col r : Nat) (hc : col < 4) (hr : r < 4) : (shift s)[4 * col + r]? = some (sb (at_ s (4 * ((col + r) % 4) + r))) := by
  unfold shift
  rw [st_get _ _ (by omega)]
  congr 3
  omega
theorem sboxB_byte (a : UInt8) : Box.sboxB[a.toNat]? = some (sb a) := by rw [Box.sboxB_get _ a.toNat_lt]; rfl
theorem backB_byte (a : UInt8) : Box.backB[a.toNat]? = some (ib a) := by rw [Box.backB_get _ a.toNat_lt]; rfl
theorem blk_byte {w : World} {g : Nat} {t : TypeId} {l : List UInt8} (h : Blk w g t (u8s l)) {i : Nat} {c : UInt8} (hc : l[i]? = some c) : w.cell? ⟨g, i, none⟩ = some (.int .u8 (c.toNat : Int)) := by
  rw [h.cell, u8s_get, hc]; rfl

end Go.Proofs.YtbcagjndbfpecaaDoor
