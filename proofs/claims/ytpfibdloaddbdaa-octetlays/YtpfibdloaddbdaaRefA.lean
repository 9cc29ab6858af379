/-
  The reference's encoders and the shortening of bytes: contracts.
-/
import Derived.Test.YtpfibdloaddbdaaEnc
import Derived.Test.YtpfibdloaddbdaaApp
namespace Go.Proofs.Ytpfibdloaddbdaa
open Go.RowKit Go.Gar

set_option maxHeartbeats 400000 in
theorem short_any (A : Option Addr) (len cap m : Nat) (w : World) (hm : m = min len 300) (hc : len ≤ cap) :
    Calls Try.prog 9 #[.slice A len cap] w fun e w' => e = .returned (.slice A m cap) ∧ w' = w := by
  by_cases h : len ≤ 300
  · obtain rfl : m = len := by omega
    clear hm
    go_enter Try.func9, Try.ntmps9
    go_wp2
    go_ret
    exact ⟨rfl, rfl⟩
  · obtain rfl : m = 300 := by omega
    clear hm
    go_enter Try.func9, Try.ntmps9
    go_wp2
    go_ret
    exact ⟨rfl, rfl⟩

theorem be_cons (n k : Nat) : be n (k + 1) = UInt8.ofNat (n / 256 ^ k) :: be n k := by
  unfold be
  rw [List.range_succ_eq_map, List.map_cons, List.map_map]
  congr 1
  · congr 2
    rw [show (256 : Nat) = 2 ^ 8 from by decide, ← Nat.pow_mul]
    congr 1
  · apply List.map_congr_left
    intro i _
    simp only [Function.comp]
    congr 4
    omega

theorem u64_lt (n : Int) : b64 n < 18446744073709551616 := by unfold b64; omega
theorem ri_cast (U k : Nat) : (U : Int) / 256 ^ k = ((U / 256 ^ k : Nat) : Int) := by simp
theorem ri_u (U k : Nat) (hU : U < 18446744073709551616) : IntKind.u64.wrap (((U : Int) / 256 ^ k).tdiv 256) = ((U / 256 ^ (k + 1) : Nat) : Int) := by
  have : U / 256 ^ k ≤ U := Nat.div_le_self _ _
  rw [ri_cast, Nat.pow_succ, ← Nat.div_div_eq_div_mul]
  generalize U / 256 ^ k = q at *
  rw [IntKind.wrap_u64, Int.tdiv_eq_ediv_of_nonneg (by omega)]
  omega
theorem ri_b (U k : Nat) : ((U : Int) / 256 ^ k).tmod 256 % 256 = ((UInt8.ofNat (U / 256 ^ k)).toNat : Int) := by
  rw [ri_cast]
  generalize U / 256 ^ k = q
  rw [Int.tmod_eq_emod_of_nonneg (by omega)]
  simp
theorem ri_set (U k : Nat) (hk : k < 8) : (u8s (List.replicate (8 - k) 0 ++ be U k)).set (7 - k) (.int .u8 ((UInt8.ofNat (U / 256 ^ k)).toNat : Int)) = u8s (List.replicate (8 - (k + 1)) 0 ++ be U (k + 1)) := by
  have e1 : List.replicate (8 - k) (0 : UInt8) = List.replicate (7 - k) 0 ++ [0] := by
    rw [show 8 - k = (7 - k) + 1 from by omega, List.replicate_succ']
  have e2 : (u8s (List.replicate (7 - k) 0)).length = 7 - k := by simp [u8s_len]
  rw [e1, be_cons, List.append_assoc, u8s_app, u8s_app (List.replicate (8 - (k + 1)) 0), show 8 - (k + 1) = 7 - k from by omega]
  have := set_mid (u8s (List.replicate (7 - k) 0)) (u8s (be U k)) (.int .u8 ((0 : UInt8).toNat : Int)) (.int .u8 ((UInt8.ofNat (U / 256 ^ k)).toNat : Int))
  rw [e2] at this
  exact this

set_option maxHeartbeats 1000000 in
theorem refInt_any (A : Option Addr) (l : List UInt8) (c : Nat) (n : Int) (w : World) (hr : Rd w w.heap.size A l) (hl : l.length ≤ 1000000000) :
    Calls Try.prog 12 #[.slice A l.length c, .int .i64 n] w fun e w' => GotSlice w' (l ++ be (b64 n) 8) e ∧ Below w.heap.size w w' := by
  have hmk : (Instr.makeSlice 22 (.int .i64 8) (.int .i64 8)).run Try.prog w = .ok (.slice (some ⟨w.heap.size, 0, none⟩) 8 8) (w.alloc (.cells (u8s (List.replicate 8 0)).toArray 5)) := run_make_bytes 8 8 (by omega) (by omega) w
  have hB0 := Blk.new w 5 (u8s (List.replicate 8 0))
  have hb0 := below_alloc w (.cells (u8s (List.replicate 8 0)).toArray 5)
  have HB0 := Lib.hid hB0
  have Hb0 := Lib.hid hb0
  clear hB0 hb0
  generalize w.alloc (.cells (u8s (List.replicate 8 0)).toArray 5) = w0 at *
  go_enter Try.func12, Try.ntmps12
  go_wp2
  rw [wrap_u64_eq]
  go_loopw [6, 7] (fun u i w' => ∃ k : Nat, k ≤ 8 ∧ i = .int .i64 k ∧ u = .int .u64 ((b64 n / 256 ^ k : Nat) : Int) ∧ Blk w' w.heap.size 5 (u8s (List.replicate (8 - k) 0 ++ be (b64 n) k)) ∧ Below w.heap.size w w') (fun _ i _ => 8 - (intOf i).toNat)
  case atStart => exact ⟨0, by omega, rfl, by simp, by simpa [be] using HB0.out, Hb0.out⟩
  case round =>
    obtain ⟨k, hk, rfl, rfl, hBk, hb⟩ := hrel
    by_cases hlt : k < 8
    · have hlen : 7 - k < (u8s (List.replicate (8 - k) 0 ++ be (b64 n) k)).length := by
        simp [u8s_len, be_len]; omega
      obtain ⟨v0, hc⟩ : ∃ v0, wr.cell? ⟨w.heap.size, 7 - k, none⟩ = some v0 := ⟨_, by
        rw [hBk.cell, List.getElem?_eq_getElem hlen]⟩
      have hf := hBk.frozen (7 - k)
      have hbS : ∀ v : Value, Below w.heap.size w (wr.setCell ⟨w.heap.size, 7 - k, none⟩ v) := fun v => hb.setCell (Nat.le_refl _) v
      have hBS := hBk.set_ (7 - k) (.int .u8 (((b64 n : Int) / 256 ^ k).tmod 256 % 256))
      rw [ri_b, ri_set (b64 n) k hlt, ← ri_b] at hBS
      have HB := Lib.hid hBS
      have Hb := Lib.hid hbS
      have HU := Lib.hid (ri_u (b64 n) k (u64_lt n))
      clear hBS hbS hBk hb hlen
      go_wp2
      exact ⟨⟨k + 1, by omega, by go_num, by rw [HU.out], HB.out, Hb.out _⟩, by simp [intOf]; omega⟩
    · obtain rfl : k = 8 := by omega
      have hBk' : Blk wr w.heap.size 5 (u8s (be (b64 n) 8)) := by simpa using hBk
      have hOw := own_made wr w.heap.size 5 (Nat.le_of_lt hBk'.lt)
      have hbO : Below w.heap.size w (wr.alloc (.cells #[] 5)) := hb.alloc (Nat.le_of_lt hBk'.lt) _
      obtain ⟨v1, w1, hr1, ho1, hb1, hg1⟩ := app_rd (P := Try.prog) 22 22 Try.und22 Try.info5 hOw hbO.size c (hr.below hbO) (by simp; omega)
      have hne : some w.heap.size ≠ Value.ownBlock (.slice (some ⟨wr.heap.size, 0, none⟩) 0 0) := by
        have := hBk'.lt
        simp [Value.ownBlock]; omega
      have hP := (hBk'.alloc (.cells #[] 5)).grown hg1 hne
      obtain ⟨v2, w2, hr2, ho2, hb2, _⟩ := app_rd (P := Try.prog) 22 22 Try.und22 Try.info5 ho1 (hbO.trans hb1).size 8 (Rd.of_all hP) (by simp [be_len]; omega)
      simp only [be_len, List.nil_append] at hr2 ho2
      have Hb2 := Lib.hid ((hbO.trans hb1).trans hb2)
      obtain ⟨A2, c2, rfl, hrd2⟩ := ho2.rd
      have HR2 := Lib.hid hrd2
      clear hBk hBk' hOw hbO ho1 hb1 hg1 hne hP ho2 hb2 hrd2 hb
      generalize hL2 : (l ++ be (b64 n) 8).length = L2 at *
      have HL2 := Lib.hid hL2
      clear hL2
      go_wp2_with (at_builtin; first | refine wpList_append_run rfl (.tmp 24) (.tmp 25) _ rfl rfl rfl hr1 ?_ | refine wpList_append_run rfl (.tmp 26) (.tmp 27) _ rfl rfl rfl hr2 ?_)
      go_ret
      exact ⟨⟨A2, c2, congrArg (fun x => Ending.returned (.slice A2 x c2)) HL2.out.symm, HR2.out⟩, Hb2.out⟩

theorem be2 (n : Nat) (h : n ≤ 65535) : u8s (be n 2) = [.int .u8 ((n : Int) / 256), .int .u8 ((n : Int) % 256)] := by
  rw [be_cons, be_cons]
  simp [be, u8s]
  omega

set_option maxHeartbeats 1000000 in
theorem refText_any (A : Option Addr) (l : List UInt8) (c : Nat) (s : ByteArray) (w : World) (hr : Rd w w.heap.size A l) (hl : l.length ≤ 1000000000) (hs : s.size ≤ 65535) :
    Calls Try.prog 13 #[.slice A l.length c, .string s] w fun e w' => GotSlice w' (l ++ be s.size 2 ++ s.data.toList) e ∧ Below w.heap.size w w' := by
  have hOw := own_made w w.heap.size 5 (Nat.le_refl _)
  have hbO := below_alloc w (.cells #[] 5)
  obtain ⟨v1, w1, hr1, ho1, hb1, hg1⟩ := app_rd (P := Try.prog) 22 22 Try.und22 Try.info5 hOw hbO.size c (hr.below hbO) (by simp; omega)
  simp only [List.nil_append] at ho1
  have e2 : u8s (be s.size 2) = [.int .u8 ((s.size : Int) / 256), .int .u8 ((s.size : Int) % 256)] := be2 s.size hs
  have hB2 : Blk (w1.alloc (.cells #[.int .u8 ((s.size : Int) / 256), .int .u8 ((s.size : Int) % 256)] 5)) w1.heap.size 5 (u8s (be s.size 2)) := by
    rw [e2]; exact Blk.new w1 _ [_, _]
  have hbs1 : w.heap.size ≤ w1.heap.size := (hbO.trans hb1).size
  obtain ⟨v2, w2, hr2, ho2, hb2, _⟩ := app_rd (P := Try.prog) (w := w1.alloc (.cells #[.int .u8 ((s.size : Int) / 256), .int .u8 ((s.size : Int) % 256)] 5)) 22 22 Try.und22 Try.info5 (World.ownsRow.alloc ho1 _) (by simp; omega) 2 (Rd.of_all hB2) (by rw [be_len]; omega)
  simp only [be_len] at hr2 ho2
  have hb1a : Below w.heap.size w (w1.alloc (.cells #[.int .u8 ((s.size : Int) / 256), .int .u8 ((s.size : Int) % 256)] 5)) := (hbO.trans hb1).alloc hbs1 _
  obtain ⟨v3, w3, hr3, ho3, hb3, _⟩ := app_str (P := Try.prog) 22 9 22 Try.und22 Try.und9 Try.info5 ho2 (hb1a.trans hb2).size s (by rw [List.length_append, be_len]; omega)
  have Hb3 := Lib.hid ((hb1a.trans hb2).trans hb3)
  obtain ⟨A3, c3, rfl, hrd3⟩ := ho3.rd
  have HR3 := Lib.hid hrd3
  clear hOw hbO ho1 hb1 hg1 e2 hB2 hbs1 ho2 hb2 hb1a ho3 hb3 hrd3
  generalize hL3 : (l ++ be s.size 2 ++ s.data.toList).length = L3 at *
  have HL3 := Lib.hid hL3
  clear hL3
  go_enter Try.func13, Try.ntmps13
  go_wp2_with (at_builtin; first | refine wpList_append_run rfl (.tmp 8) (.tmp 9) _ rfl rfl rfl hr1 ?_ | refine wpList_append_run rfl (.tmp 10) (.tmp 17) _ rfl rfl rfl hr2 ?_ | refine wpList_append_run rfl (.tmp 18) (.tmp 19) _ rfl rfl rfl hr3 ?_)
  go_ret
  exact ⟨⟨A3, c3, congrArg (fun x => Ending.returned (.slice A3 x c3)) HL3.out.symm, HR3.out⟩, Hb3.out⟩
end Go.Proofs.Ytpfibdloaddbdaa
