/-
  The reference's Int of layer 1: its contract, the answer a slice of its own.
-/
import Derived.Test.YtpaagjhohfjopaaDoorOctI
import Derived.Test.YtpaagjhohfjopaaDoorApp
set_option maxRecDepth 100000
namespace Go.Gar
open Go.RowKit
theorem OwnB.lower {w : World} {base base' : Nat} {e : TypeId} {v : Value} {k : List UInt8} (h : OwnB w base e v k) (hb : base' ≤ base) : OwnB w base' e v k := by
  refine ⟨h.1, ?_⟩
  rcases h.2 with hn | ⟨g, cap, cur, hv, hg, rest⟩
  · exact .inl hn
  · exact .inr ⟨g, cap, cur, hv, Nat.le_trans hb hg, rest⟩
end Go.Gar
namespace Go.Proofs.YtpaagjhohfjopaaDoor
open Go.RowKit Go.Gar

theorem be_cons (n k : Nat) : be n (k + 1) = UInt8.ofNat (n / 256 ^ k) :: be n k := by
  unfold be
  rw [List.range_succ_eq_map, List.map_cons, List.map_map]
  congr 1
  · congr 2
    rw [show (256 : Nat) = 2 ^ 8 from by decide, ← Nat.pow_mul]
    congr 1
  · apply List.map_congr_left
    intro i _
    simp only [Function.comp]
    congr 4
    omega

theorem u64_lt (n : Int) : b64 n < 18446744073709551616 := by unfold b64; omega
theorem ri_cast (U k : Nat) : (U : Int) / 256 ^ k = ((U / 256 ^ k : Nat) : Int) := by simp
theorem ri_u (U k : Nat) (hU : U < 18446744073709551616) : IntKind.u64.wrap (((U : Int) / 256 ^ k).tdiv 256) = ((U / 256 ^ (k + 1) : Nat) : Int) := by
  have : U / 256 ^ k ≤ U := Nat.div_le_self _ _
  rw [ri_cast, Nat.pow_succ, ← Nat.div_div_eq_div_mul]
  generalize U / 256 ^ k = q at *
  rw [IntKind.wrap_u64, Int.tdiv_eq_ediv_of_nonneg (by omega)]
  omega
theorem ri_b (U k : Nat) : ((U : Int) / 256 ^ k).tmod 256 % 256 = ((UInt8.ofNat (U / 256 ^ k)).toNat : Int) := by
  rw [ri_cast]
  generalize U / 256 ^ k = q
  rw [Int.tmod_eq_emod_of_nonneg (by omega)]
  simp
theorem ri_set (U k : Nat) (hk : k < 8) : (u8s (List.replicate (8 - k) 0 ++ be U k)).set (7 - k) (.int .u8 ((UInt8.ofNat (U / 256 ^ k)).toNat : Int)) = u8s (List.replicate (8 - (k + 1)) 0 ++ be U (k + 1)) := by
  have e1 : List.replicate (8 - k) (0 : UInt8) = List.replicate (7 - k) 0 ++ [0] := by
    rw [show 8 - k = (7 - k) + 1 from by omega, List.replicate_succ']
  have e2 : (u8s (List.replicate (7 - k) 0)).length = 7 - k := by simp [u8s_len]
  rw [e1, be_cons, List.append_assoc, u8s_app, u8s_app (List.replicate (8 - (k + 1)) 0), show 8 - (k + 1) = 7 - k from by omega]
  have := set_mid (u8s (List.replicate (7 - k) 0)) (u8s (be U k)) (.int .u8 ((0 : UInt8).toNat : Int)) (.int .u8 ((UInt8.ofNat (U / 256 ^ k)).toNat : Int))
  rw [e2] at this
  exact this

set_option maxHeartbeats 1000000 in
theorem refIntO_any (A : Option Addr) (l : List UInt8) (c : Nat) (n : Int) (w : World) (hr : Rd w w.heap.size A l) (hl : l.length ≤ 1000000000) :
    Calls Tryd.prog 25 #[.slice A l.length c, .int .i64 n] w fun e w' => ∃ v, e = .returned v ∧ OwnB w' w.heap.size 5 v (l ++ be (b64 n) 8) ∧ Below w.heap.size w w' := by
  have hmk : (Instr.makeSlice 22 (.int .i64 8) (.int .i64 8)).run Tryd.prog w = .ok (.slice (some ⟨w.heap.size, 0, none⟩) 8 8) (w.alloc (.cells (u8s (List.replicate 8 0)).toArray 5)) := run_make_bytes 8 8 (by omega) (by omega) w
  have hB0 := Blk.new w 5 (u8s (List.replicate 8 0))
  have hb0 := below_alloc w (.cells (u8s (List.replicate 8 0)).toArray 5)
  have HB0 := Lib.hid hB0
  have Hb0 := Lib.hid hb0
  clear hB0 hb0
  generalize w.alloc (.cells (u8s (List.replicate 8 0)).toArray 5) = w0 at *
  go_enter Tryd.func25, Tryd.ntmps25
  go_wp2
  rw [wrap_u64_eq]
  go_loopw [6, 7] (fun u i w' => ∃ k : Nat, k ≤ 8 ∧ i = .int .i64 k ∧ u = .int .u64 ((b64 n / 256 ^ k : Nat) : Int) ∧ Blk w' w.heap.size 5 (u8s (List.replicate (8 - k) 0 ++ be (b64 n) k)) ∧ Below w.heap.size w w') (fun _ i _ => 8 - (intOf i).toNat)
  case atStart => exact ⟨0, by omega, rfl, by simp, by simpa [be] using HB0.out, Hb0.out⟩
  case round =>
    obtain ⟨k, hk, rfl, rfl, hBk, hb⟩ := hrel
    by_cases hlt : k < 8
    · have hlen : 7 - k < (u8s (List.replicate (8 - k) 0 ++ be (b64 n) k)).length := by
        simp [u8s_len, be_len]; omega
      obtain ⟨v0, hc⟩ : ∃ v0, wr.cell? ⟨w.heap.size, 7 - k, none⟩ = some v0 := ⟨_, by
        rw [hBk.cell, List.getElem?_eq_getElem hlen]⟩
      have hf := hBk.frozen (7 - k)
      have hbS : ∀ v : Value, Below w.heap.size w (wr.setCell ⟨w.heap.size, 7 - k, none⟩ v) := fun v => hb.setCell (Nat.le_refl _) v
      have hBS := hBk.set_ (7 - k) (.int .u8 (((b64 n : Int) / 256 ^ k).tmod 256 % 256))
      rw [ri_b, ri_set (b64 n) k hlt, ← ri_b] at hBS
      have HB := Lib.hid hBS
      have Hb := Lib.hid hbS
      have HU := Lib.hid (ri_u (b64 n) k (u64_lt n))
      clear hBS hbS hBk hb hlen
      go_wp2
      exact ⟨⟨k + 1, by omega, by go_num, by rw [HU.out], HB.out, Hb.out _⟩, by simp [intOf]; omega⟩
    · obtain rfl : k = 8 := by omega
      have hBk' : Blk wr w.heap.size 5 (u8s (be (b64 n) 8)) := by simpa using hBk
      have hOw := own_made wr w.heap.size 5 (Nat.le_of_lt hBk'.lt)
      have hbO : Below w.heap.size w (wr.alloc (.cells #[] 5)) := hb.alloc (Nat.le_of_lt hBk'.lt) _
      obtain ⟨v1, w1, hr1, ho1, hb1, hg1⟩ := app_rd (P := Tryd.prog) 22 22 Tryd.und22 Tryd.info5 hOw hbO.size c (hr.below hbO) (by simp; omega)
      have hne : some w.heap.size ≠ Value.ownBlock (.slice (some ⟨wr.heap.size, 0, none⟩) 0 0) := by
        have := hBk'.lt
        simp [Value.ownBlock]; omega
      have hP := (hBk'.alloc (.cells #[] 5)).grown hg1 hne
      obtain ⟨v2, w2, hr2, ho2, hb2, _⟩ := app_rd (P := Tryd.prog) 22 22 Tryd.und22 Tryd.info5 ho1 (hbO.trans hb1).size 8 (Rd.of_all hP) (by simp [be_len]; omega)
      simp only [be_len, List.nil_append] at hr2 ho2
      have Hb2 := Lib.hid ((hbO.trans hb1).trans hb2)
      have HO2 := Lib.hid ho2
      clear hBk hBk' hOw hbO ho1 hb1 hg1 hne hP ho2 hb2 hb
      go_wp2_with (at_builtin; first | refine wpList_append_run rfl (.tmp 24) (.tmp 25) _ rfl rfl rfl hr1 ?_ | refine wpList_append_run rfl (.tmp 26) (.tmp 27) _ rfl rfl rfl hr2 ?_)
      go_ret
      exact ⟨v2, rfl, HO2.out, Hb2.out⟩

end Go.Proofs.YtpaagjhohfjopaaDoor
