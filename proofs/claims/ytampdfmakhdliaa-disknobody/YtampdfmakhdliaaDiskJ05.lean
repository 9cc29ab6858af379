/-
  Layer 14: what a disk's sectors are (all). Layer 14: the fixed fact awake, from the contract of disk's functions. Layer 14: a fuse burns (mathematics); a row of strings by its places.
-/
import Derived.Test.YtampdfmakhdliaaDiskJ04
import Derived.Test.YtampdfmakhdliaaDiskJ03
import Derived.Maps.AppendAt
set_option maxRecDepth 100000
namespace Go.Proofs.Ytampdfmakhdliaa
open Go.RowKit Go.Gar
open Go.Gar.Dsk (Dsk)

def strV (l : List UInt8) : Value := .string ⟨l.toArray⟩
def strs (d : Dsk) : List Value := d.secs.map fun s => strV s.good
theorem strs_len (d : Dsk) : (strs d).length = d.secs.length := List.length_map _
theorem strs_get {d : Dsk} {k : Nat} (h : k < d.secs.length) : (strs d)[k]? = some (strV (Dsk.read d (k : Int))) := by
  have ht : Dsk.there d (k : Int) = true := by unfold Dsk.there; simp; omega
  have hg := Dsk.at_get ht
  rw [show ((k : Nat) : Int).toNat = k from rfl] at hg
  unfold strs Dsk.read
  rw [List.getElem?_map, hg, if_pos ht]
  rfl
theorem Try.infoStr : (Try.prog.info? 9).map (fun i => (i.zero, i.size, i.bytes)) = some (some (.string ByteArray.empty), 1, 16) := by kernel_rfl
theorem Try.undStrs : Try.prog.underlying 51 = some (.slice 9) := by kernel_rfl
/-- The contract of Read with plain variables. -/
theorem read_at {Rep : World → (Nat → Prop) → Nat → Dsk → Prop} (hOK : DiskOK Rep) {w : World} {F : Nat → Prop} {g : Nat} {d : Dsk} (i : Int) (hR : Rep w F g d) (hi : isI64 i) :
    Calls Try.prog 20 #[ptr g, .int .i64 i] w fun e w' => ∃ A n c, e = .returned (.tuple #[.slice A n c, .int .i64 ((Dsk.readE d i : Nat) : Int)]) ∧ n = (Dsk.read d i).length ∧ n ≤ c ∧ Rd w' w'.heap.size A (Dsk.read d i) ∧ Below w.heap.size w w' := by
  refine (hOK.read i hR hi).mono ?_
  rintro e w' ⟨v, rfl, ⟨A, c, rfl, hc, hr, _⟩, hb⟩
  exact ⟨A, _, c, rfl, rfl, hc, hr, hb⟩
set_option maxHeartbeats 2000000 in
theorem all_any {Rep : World → (Nat → Prop) → Nat → Dsk → Prop} (hOK : DiskOK Rep) {w : World} {F : Nat → Prop} {g : Nat} {d : Dsk} (hR : Rep w F g d) :
    Calls Try.prog 29 #[ptr g] w fun e w' => ∃ v, e = .returned v ∧ OwnV w' w.heap.size 9 v (strs d) ∧ Below w.heap.size w w' := by
  have hlen : d.secs.length ≤ 4096 := (hOK.ok hR).len
  obtain ⟨m, hm⟩ : ∃ m, m = d.secs.length := ⟨_, rfl⟩
  rw [← hm] at hlen
  have HOK := Lib.hid hOK
  have HR := Lib.hid hR
  have Hm := Lib.hid hm
  have Hlt := Lib.hid (hOK.lt hR)
  have hO0 := ownV_made w w.heap.size 9 (Nat.le_refl _)
  have HO0 := Lib.hid hO0
  clear hOK hR hm hO0
  unfold ptr
  go_enter Try.func29, Try.ntmps29
  go_wp2
  go_loopw [3, 4] (fun v i w' => ∃ k : Nat, k ≤ m ∧ i = .int .i64 k ∧ OwnV w' w.heap.size 9 v ((strs d).take k) ∧ Below w.heap.size w w') (fun _ i _ => m - (intOf i).toNat)
  case atStart => exact ⟨0, by omega, rfl, HO0.out, below_alloc w _⟩
  case round =>
    obtain ⟨k, hk, rfl, hO, hb⟩ := hrel
    clear HO0
    have HO := Lib.hid hO
    have Hb := Lib.hid hb
    have HRr := Lib.hid (HOK.out.keep HR.out (fun j hj => hb.block j (Hlt.out j hj)))
    clear hO hb
    go_wp2_with fail
    refine (HOK.out.size HRr.out).mono ?_
    rintro e w1 ⟨rfl, hb1⟩
    rw [← Hm.out]
    have HR1 := Lib.hid (HOK.out.keep HRr.out (fun j hj => hb1.block j (HOK.out.lt HRr.out j hj)))
    have HO1 := Lib.hid (HO.out.below hb1)
    have Hb1 := bb Hb hb1
    clear hb1 HRr HO Hb
    by_cases h : k < m
    · have hd : decide ((k : Int) < (m : Int)) = true := by simp; omega
      go_wp2_with fail
      refine (read_at HOK.out (k : Int) HR1.out (by unfold isI64; omega)).mono ?_
      rintro e w2 ⟨A, n, c, rfl, hn, hc, hr2, hb2⟩
      have ht : Dsk.there d (k : Int) = true := by unfold Dsk.there; rw [← Hm.out]; simp; omega
      have hcv := run_string_rd (P := Try.prog) (w := w2) 40 9 5 Try.und22 Try.und5 Try.und9 A (Dsk.read d (k : Int)) _ c hr2
      rw [← hn] at hcv
      obtain ⟨S, hS⟩ : ∃ S, S = (⟨(Dsk.read d (k : Int)).toArray⟩ : ByteArray) := ⟨_, rfl⟩
      rw [← hS] at hcv
      have HO2 := HO1.out.below hb2
      have Hb2 := bb Hb1 hb2
      obtain ⟨v', w', e1, ho', hb', _⟩ := appV (P := Try.prog) (w := w2.alloc (.cells #[.string S] 9)) 51 51 Try.undStrs Try.infoStr rfl (HO2.alloc _) (by rw [World.size_alloc]; have := Hb2.out.size; omega) ⟨w2.heap.size, 0, none⟩ 1 1 [.string S] (by simp [Value.oneCell']) rfl (cell_one_new w2 (.string S) 9) (by rw [List.length_take]; simp; omega) (by omega)
      have hsn : (strs d).take k ++ [.string S] = (strs d).take (k + 1) := by
        rw [List.take_add_one, strs_get (by rw [← Hm.out]; exact h), hS]
        rfl
      rw [hsn] at ho'
      have HE1 := Lib.hid e1
      have HO' := Lib.hid ho'
      have Hb' := Lib.hid ((Hb2.out.alloc Hb2.out.size (.cells #[.string S] 9)).trans hb')
      clear hsn ho' hb' e1 HO2 Hb2 hb2 hr2 hn hc HR1 HO1 Hb1 ht hS
      go_wp2_with (at_builtin; refine wpList_append_run rfl (.tmp 20) (.tmp 23) _ rfl rfl rfl HE1.out ?_)
      exact ⟨⟨k + 1, by omega, by go_num, HO'.out, Hb'.out⟩, by simp [intOf]; omega⟩
    · have hd : decide ((k : Int) < (m : Int)) = false := by simp; omega
      have hkm : (strs d).take k = strs d := List.take_of_length_le (by rw [strs_len, ← Hm.out]; omega)
      rw [hkm] at HO1
      clear hkm
      go_wp2
      go_ret
      exact ⟨_, rfl, HO1.out, Hb1.out⟩
end Go.Proofs.Ytampdfmakhdliaa
namespace Go.Proofs.Ytampdfmakhdliaa
open Go.RowKit Go.Gar
open Go.Gar.Dsk (Dsk)

def r8 (c : UInt8) : List UInt8 := List.replicate 32 c
def aw1 : Dsk := Dsk.write (Dsk.new 5) 3 (r8 7)
def aw2 : Dsk := Dsk.write aw1 1 (r8 8)
def aw3 : Dsk := Dsk.crash aw2 1 1 5
theorem aw_facts : Dsk.writeE (Dsk.new 5) 3 (r8 7) = 0 ∧ Dsk.writeE aw1 1 (r8 8) = 0 ∧ Dsk.pending aw2 = 2 ∧ Dsk.read aw3 1 = r8 8 ∧ Dsk.readE aw3 1 = 0 ∧ Dsk.read aw3 3 = (r8 7).take 5 ++ (r8 0).drop 5 ∧ Dsk.readE aw3 3 = 0 ∧ Dsk.since aw3 1 = 2 ∧ Dsk.since aw3 3 = 0 ∧ aw3.many = 2 ∧ aw3.secs.length = 5 ∧ aw1.many = 1 := by
  refine ⟨?_, ?_, ?_, ?_, ?_, ?_, ?_, ?_, ?_, ?_, ?_, ?_⟩ <;> decide +kernel
set_option maxHeartbeats 4000000 in
set_option maxRecDepth 100000 in
theorem awake14_any {Rep : World → (Nat → Prop) → Nat → Dsk → Prop} (hOK : DiskOK Rep) (w : World) :
    Calls Try.prog 27 #[] w fun e w' => e = .returned (.bool true) ∧ Below w.heap.size w w' := by
  obtain ⟨a1, a2, a3, a4, a5, a6, a7, a8, a9, a10, a11, a12⟩ := aw_facts
  have HOK := Lib.hid hOK
  obtain ⟨E1, hE1⟩ : ∃ E : Int, E = 0 := ⟨_, rfl⟩
  clear hOK hE1
  go_enter Try.func27, Try.ntmps27
  go_wp2_with fail
  refine (HOK.out.new w 5 (by unfold isI64; omega)).mono ?_
  rintro e w1 ⟨F, g, rfl, hR1, hF1, hb1⟩
  have HR1 := Lib.hid hR1
  have HF1 := Lib.hid hF1
  have Hb1 := Lib.hid hb1
  clear hR1 hF1 hb1
  unfold ptr
  go_wp2_with fail
  refine (full_any w1 7).mono ?_
  rintro e w2 ⟨rfl, hB2, hb2⟩
  have HR2 := Lib.hid (HOK.out.keep HR1.out (fun j hj => hb2.block j (HOK.out.lt HR1.out j hj)))
  have Hb2 := bb Hb1 hb2
  have HB2 := Lib.hid hB2
  have Hnf := Lib.hid (show ∀ p, some (⟨w1.heap.size, 0, none⟩ : Addr) = some p → ¬ F p.block from fun p hp hf => by
    obtain rfl := Option.some.inj hp
    exact absurd (HOK.out.lt HR1.out _ hf) (Nat.lt_irrefl _))
  clear hb2 hB2 HR1 Hb1
  go_wp2_with fail
  refine (write_at HOK.out 3 (some ⟨w1.heap.size, 0, none⟩) (r8 7) 32 32 HR2.out (by unfold isI64; omega) rfl (Rd.of_all HB2.out) Hnf.out (Nat.le_refl _) (by omega) (by show (0 : Nat) < _; omega)).mono ?_
  rintro e w3 ⟨E, rfl, hE, F3, hR3, hF3, ho⟩
  rw [a1] at hE
  obtain rfl : E = 0 := hE
  have HR3 := Lib.hid (show Rep w3 F3 g aw1 from hR3)
  have HF3 := Lib.hid (show ∀ k, F3 k → w.heap.size ≤ k from fun k hk => by rcases hF3 k hk with h | h; exact HF1.out k h; exact Nat.le_trans Hb2.out.size h)
  have Hb3 := Lib.hid (Hb2.out.trans (ho.below HF1.out Hb2.out.size))
  clear hR3 hF3 ho HR2 HB2 Hnf HF1 Hb2
  go_wp2_with fail
  refine (full_any w3 8).mono ?_
  rintro e w4 ⟨rfl, hB4, hb4⟩
  have HR4 := Lib.hid (HOK.out.keep HR3.out (fun j hj => hb4.block j (HOK.out.lt HR3.out j hj)))
  have Hb4 := bb Hb3 hb4
  have HB4 := Lib.hid hB4
  have Hnf := Lib.hid (show ∀ p, some (⟨w3.heap.size, 0, none⟩ : Addr) = some p → ¬ F3 p.block from fun p hp hf => by
    obtain rfl := Option.some.inj hp
    exact absurd (HOK.out.lt HR3.out _ hf) (Nat.lt_irrefl _))
  clear hb4 hB4 HR3 Hb3
  go_wp2_with fail
  refine (write_at HOK.out 1 (some ⟨w3.heap.size, 0, none⟩) (r8 8) 32 32 HR4.out (by unfold isI64; omega) rfl (Rd.of_all HB4.out) Hnf.out (Nat.le_refl _) (by omega) (by rw [a12]; omega)).mono ?_
  rintro e w5 ⟨E, rfl, hE, F5, hR5, hF5, ho⟩
  rw [a2] at hE
  obtain rfl : E = 0 := hE
  have HR5 := Lib.hid (show Rep w5 F5 g aw2 from hR5)
  have HF5 := Lib.hid (show ∀ k, F5 k → w.heap.size ≤ k from fun k hk => by rcases hF5 k hk with h | h; exact HF3.out k h; exact Nat.le_trans Hb4.out.size h)
  have Hb5 := Lib.hid (Hb4.out.trans (ho.below HF3.out Hb4.out.size))
  clear hR5 hF5 ho HR4 HB4 Hnf HF3 Hb4
  go_wp2_with fail
  refine (HOK.out.pending HR5.out).mono ?_
  rintro e w6 ⟨rfl, hb6⟩
  rw [a3]
  have HR6 := Lib.hid (HOK.out.keep HR5.out (fun j hj => hb6.block j (HOK.out.lt HR5.out j hj)))
  have Hb6 := bb Hb5 hb6
  clear hb6 HR5 Hb5
  go_wp2_with fail
  refine (HOK.out.crash 1 1 5 HR6.out (by unfold isI64; omega) (by unfold isI64; omega) (by unfold isI64; omega)).mono ?_
  rintro e w7 ⟨rfl, F7, hR7, hF7, ho⟩
  have HR7 := Lib.hid (show Rep w7 F7 g aw3 from hR7)
  have Hb7 := Lib.hid (Hb6.out.trans (ho.below HF5.out Hb6.out.size))
  clear hR7 hF7 ho HR6 Hb6 HF5
  go_wp2_with fail
  refine (read_at HOK.out 1 HR7.out (by unfold isI64; omega)).mono ?_
  rintro e w8 ⟨A1, n1, c1, rfl, hn1, hc1, hr1, hb8⟩
  rw [a4] at hn1 hr1
  rw [a5]
  have HR8 := Lib.hid (HOK.out.keep HR7.out (fun j hj => hb8.block j (HOK.out.lt HR7.out j hj)))
  have Hb8 := bb Hb7 hb8
  have Hn1 := Lib.hid hn1
  have Hr1 := Lib.hid hr1
  clear hb8 hn1 hc1 hr1 HR7 Hb7
  go_wp2_with fail
  refine (read_at HOK.out 3 HR8.out (by unfold isI64; omega)).mono ?_
  rintro e w9 ⟨A2, n2, c2, rfl, hn2, hc2, hr2, hb9⟩
  rw [a6] at hn2 hr2
  rw [a7]
  have HR9 := Lib.hid (HOK.out.keep HR8.out (fun j hj => hb9.block j (HOK.out.lt HR8.out j hj)))
  have Hb9 := bb Hb8 hb9
  have Hn2 := Lib.hid hn2
  have Hr2 := Lib.hid hr2
  have Hr1 := Lib.hid ((Hr1.out.below hb9).more hb9.size)
  clear hb9 hn2 hc2 hr2 HR8 Hb8 a1 a2 a3 a4 a5 a6 a7 a12
  go_wp2_with fail
  refine wp_region_G (belowG w9.drew.heap.size) (by kernel_rfl) ?_
  have HR := Lib.hid (HOK.out.keep (w' := w9.drew) HR9.out (fun _ _ => rfl))
  have Hlt := Lib.hid (show ∀ j, F7 j → j < w9.drew.heap.size from HOK.out.lt HR.out)
  have Hb := Lib.hid Hb9.out.drew
  have hr1 := Hr1.out
  have hr2 := Hr2.out
  have Hr1' := Lib.hid (show Rd w9.drew w9.drew.heap.size A1 (r8 8) from hr1)
  have Hr2' := Lib.hid (show Rd w9.drew w9.drew.heap.size A2 ((r8 7).take 5 ++ (r8 0).drop 5) from hr2)
  clear HR9 Hb9 Hr1 Hr2 hr1 hr2
  generalize w9.drew = W at *
  obtain ⟨S8, hS8⟩ : ∃ S : ByteArray, S = ⟨(r8 8).toArray⟩ := ⟨_, rfl⟩
  obtain ⟨L7, hL7⟩ : ∃ L, L = (r8 7).take 5 ++ (r8 0).drop 5 := ⟨_, rfl⟩
  obtain ⟨S7, hS7⟩ : ∃ S : ByteArray, S = ⟨L7.toArray⟩ := ⟨_, rfl⟩
  rw [← hL7] at Hr2' Hn2
  have HS8 := Lib.hid hS8
  have HS7 := Lib.hid hS7
  have HL7 := Lib.hid hL7
  clear hS8 hS7 hL7
  have hs1 := string_belowG (B := W.heap.size) Hr1'.out n1 c1 Hn1.out S8 HS8.out
  refine segG (by kernel_rfl) (fun _ _ _ _ _ h => h) [0, 1, 2, 3, 4, 5, 6, 7, 8, 9, 10, 11, 12] [_, _, _, _, _, _, _, _, _, _, _, _, _] 44 rfl rfl (by kernel_rfl) ?_
  repeat (go_big_quiet_step (fail))
  refine wpQuiet_nil ?_
  clear hs1
  refine oneG 13 43 rfl (by kernel_rfl) rfl ?_
  go_wp2_with fail
  refine (full_any W 8).mono ?_
  rintro e W1 ⟨rfl, hB1, hb1⟩
  have HB1 := Lib.hid hB1
  have Hb1 := Lib.hid hb1
  clear hB1 hb1
  go_wp2
  refine ⟨Hb1.out, ?_⟩
  have hc1 := string_now (Rd.of_all HB1.out) 32 32 rfl S8 HS8.out
  refine oneG 14 42 rfl (by kernel_rfl) rfl ?_
  go_wp2
  refine ⟨Below.refl _ _, ?_⟩
  clear hc1
  have hs2 := string_belowG (B := W.heap.size) (Hr2'.out.below Hb1.out) n2 c2 Hn2.out S7 HS7.out
  refine segG (by kernel_rfl) (fun _ _ _ _ _ h => h) [15, 16, 17, 18, 19, 20, 21, 22, 23] [_, _, _, _, _, _, _, _, _] 33 rfl rfl (by kernel_rfl) ?_
  repeat (go_big_quiet_step (fail))
  refine wpQuiet_nil ?_
  clear hs2 HB1
  refine oneG 24 32 rfl (by kernel_rfl) rfl ?_
  go_wp2_with fail
  refine (full_any W1 7).mono ?_
  rintro e W2 ⟨rfl, hB2, hb2⟩
  obtain ⟨g7, hg7⟩ : ∃ g7, g7 = W1.heap.size := ⟨_, rfl⟩
  rw [← hg7] at hB2 ⊢
  have HB2 := Lib.hid hB2
  have hr12 := hb2.mono Hb1.out.size
  have Hb2 := Lib.hid (Hb1.out.trans hr12)
  have Hg7 := Lib.hid (show W.heap.size ≤ g7 by rw [hg7]; exact Hb1.out.size)
  clear hB2 hb2 hg7
  go_wp2
  refine ⟨hr12, ?_⟩
  clear hr12
  have hsl := fun V => slice_upto g7 0 32 32 5 (by omega) V
  rw [show ((5 : Nat) : Int) = 5 from rfl] at hsl
  refine segG (by kernel_rfl) (fun _ _ _ _ _ h => h) [25] [_] 31 rfl rfl (by kernel_rfl) ?_
  repeat (go_big_quiet_step (fail))
  refine wpQuiet_nil ?_
  clear hsl
  refine oneG 26 30 rfl (by kernel_rfl) rfl ?_
  go_wp2_with fail
  refine (full_any W2 0).mono ?_
  rintro e W3 ⟨rfl, hB3, hb3⟩
  obtain ⟨g0, hg0⟩ : ∃ g0, g0 = W2.heap.size := ⟨_, rfl⟩
  rw [← hg0] at hB3 ⊢
  have HB3 := Lib.hid (HB2.out.below hb3 HB2.out.lt)
  have HB0 := Lib.hid hB3
  have hr23 := hb3.mono Hb2.out.size
  have Hb3 := Lib.hid (Hb2.out.trans hr23)
  clear hB3 hb3 hg0 HB2 Hb2
  go_wp2
  refine ⟨hr23, ?_⟩
  clear hr23
  have hsl := fun V => slice_from g0 0 32 32 5 (by omega) (by omega) V
  rw [show ((5 : Nat) : Int) = 5 from rfl, show 0 + 5 = 5 from rfl, show 32 - 5 = 27 from rfl] at hsl
  refine segG (by kernel_rfl) (fun _ _ _ _ _ h => h) [27] [_] 29 rfl rfl (by kernel_rfl) ?_
  repeat (go_big_quiet_step (fail))
  refine wpQuiet_nil ?_
  clear hsl
  refine oneG 28 28 rfl (by kernel_rfl) rfl ?_
  have hr0 := Rd.of_blk (r8 0) HB0.out HB0.out.lt 5 27
  have e1 := run_append_rd (P := Try.prog) 40 40 5 Try.und22 Try.size5 g7 5 32 27 (some ⟨g0, 5, none⟩) (((r8 0).drop 5).take 27) _ hr0 rfl (u8s (r8 7)) HB3.out (by decide) (by decide)
  rw [show (((r8 0).drop 5).take 27).length = 27 from rfl, show 5 + 27 = 32 from rfl] at e1
  have hrow : (u8s (r8 7)).take 5 ++ u8s (((r8 0).drop 5).take 27) ++ (u8s (r8 7)).drop 32 = u8s L7 := by
    rw [HL7.out]
    rfl
  rw [hrow] at e1
  refine wpList_append_w (.tmp 55) (.tmp 57) _ rfl rfl rfl e1 (by kernel_rfl) ?_
  have hB4 := HB3.out.row (u8s L7)
  have hb4 := below_setRow (Below.refl W.heap.size W3) Hg7.out (u8s L7).toArray
  have Hb4 := Lib.hid (Hb3.out.trans hb4)
  have HB4 := Lib.hid hB4
  clear e1 hrow hr0 hB4 HB3 HB0 Hb3
  generalize W3.setRow g7 (u8s L7).toArray = W4 at *
  go_wp2
  refine ⟨hb4, ?_⟩
  clear hb4
  simp only [Act.put, List.setIfInBounds_toArray, List.set]
  have hc1 := string_now (Rd.of_all HB4.out) 32 32 (by rw [HL7.out]; rfl) S7 HS7.out
  refine oneG 29 27 rfl (by kernel_rfl) rfl ?_
  go_wp2
  refine ⟨Below.refl _ _, ?_⟩
  clear hc1 HB4
  refine segG (by kernel_rfl) (fun _ _ _ _ _ h => h) [30, 31, 32, 33, 34, 35, 36, 37] [_, _, _, _, _, _, _, _] 19 rfl rfl (by kernel_rfl) ?_
  repeat (go_big_quiet_step (fail))
  refine wpQuiet_nil ?_
  refine oneG 38 18 rfl (by kernel_rfl) rfl ?_
  go_wp2_with fail
  have HRw := Lib.hid (HOK.out.keep HR.out (fun j hj => Hb4.out.block j (Hlt.out j hj)))
  refine (HOK.out.since 1 HRw.out (by unfold isI64; omega)).mono ?_
  rintro e W5 ⟨rfl, hb5⟩
  rw [a8]
  have hr5 := hb5.mono Hb4.out.size
  have Hb5 := Lib.hid (Hb4.out.trans hr5)
  clear hb5 HRw Hb4
  go_wp2
  refine ⟨hr5, ?_⟩
  clear hr5
  refine segG (by kernel_rfl) (fun _ _ _ _ _ h => h) [39, 40, 41, 42] [_, _, _, _] 14 rfl rfl (by kernel_rfl) ?_
  repeat (go_big_quiet_step (fail))
  refine wpQuiet_nil ?_
  refine oneG 43 13 rfl (by kernel_rfl) rfl ?_
  go_wp2_with fail
  have HRw := Lib.hid (HOK.out.keep HR.out (fun j hj => Hb5.out.block j (Hlt.out j hj)))
  refine (HOK.out.since 3 HRw.out (by unfold isI64; omega)).mono ?_
  rintro e W6 ⟨rfl, hb6⟩
  rw [a9]
  have hr6 := hb6.mono Hb5.out.size
  have Hb6 := Lib.hid (Hb5.out.trans hr6)
  clear hb6 HRw Hb5
  go_wp2
  refine ⟨hr6, ?_⟩
  clear hr6
  refine segG (by kernel_rfl) (fun _ _ _ _ _ h => h) [44, 45, 46, 47] [_, _, _, _] 9 rfl rfl (by kernel_rfl) ?_
  repeat (go_big_quiet_step (fail))
  refine wpQuiet_nil ?_
  refine oneG 48 8 rfl (by kernel_rfl) rfl ?_
  go_wp2_with fail
  have HRw := Lib.hid (HOK.out.keep HR.out (fun j hj => Hb6.out.block j (Hlt.out j hj)))
  refine (HOK.out.writes HRw.out).mono ?_
  rintro e W7 ⟨rfl, hb7⟩
  rw [a10]
  have hr7 := hb7.mono Hb6.out.size
  have Hb7 := Lib.hid (Hb6.out.trans hr7)
  clear hb7 HRw Hb6
  go_wp2
  refine ⟨hr7, ?_⟩
  clear hr7
  refine segG (by kernel_rfl) (fun _ _ _ _ _ h => h) [49, 50, 51, 52] [_, _, _, _] 4 rfl rfl (by kernel_rfl) ?_
  repeat (go_big_quiet_step (fail))
  refine wpQuiet_nil ?_
  refine oneG 53 3 rfl (by kernel_rfl) rfl ?_
  go_wp2_with fail
  have HRw := Lib.hid (HOK.out.keep HR.out (fun j hj => Hb7.out.block j (Hlt.out j hj)))
  refine (HOK.out.size HRw.out).mono ?_
  rintro e W8 ⟨rfl, hb8⟩
  rw [a11]
  have hr8 := hb8.mono Hb7.out.size
  have Hb8 := Lib.hid (Hb7.out.trans hr8)
  clear hb8 HRw Hb7
  go_wp2
  refine ⟨hr8, ?_⟩
  clear hr8
  refine segG (by kernel_rfl) (fun _ _ _ _ _ h => h) [54, 55, 56] [_, _, _] 0 rfl rfl (by kernel_rfl) ?_
  repeat (go_big_quiet_step (fail))
  refine wpQuiet_nil ?_
  refine wpAnyG_done (by kernel_rfl) ?_
  go_wp2
  go_ret
  exact ⟨by simp, Hb.out.trans (Hb8.out.mono Hb.out.size)⟩
end Go.Proofs.Ytampdfmakhdliaa
namespace Go.Gar.Dsk
theorem burn_flush {d : Dsk} {m : Nat} (h : d.fuse = some m) : (0 < m → flushE d = 0) ∧ (m = 0 → flushE d = 10 ∧ flush d = d) ∧ (flush d).fuse = some (m - 1) := by
  unfold flushE flush
  rw [h]
  cases m with
  | zero => simp [goes, h]
  | succ m => simp [goes]
theorem burn_write {d : Dsk} {m : Nat} (h : d.fuse = some m) (i : Int) (b : List UInt8) (hi : there d i = true) (hb : b.length = 32) : (0 < m → writeE d i b = 0) ∧ (m = 0 → writeE d i b = 10 ∧ write d i b = d) ∧ (write d i b).fuse = some (m - 1) := by
  unfold writeE write
  rw [h, hi, hb]
  cases m with
  | zero => simp [goes, h]
  | succ m => simp [goes]
end Go.Gar.Dsk
namespace Go.Proofs.Ytampdfmakhdliaa
open Go.RowKit Go.Gar
open Go.Gar.Dsk (Dsk)

theorem Try.sizeStr : (Try.prog.info? 9).map (·.size) = some 1 := by kernel_rfl
/-- The k-th of a row of strings. -/
theorem str_at {w : World} {B : Nat} {A : Option Addr} {vs : List Value} {n cap : Nat} (h : RdV w B A vs) (hn : n = vs.length) (k : Nat) (hk : k < n) :
    ∃ u b q, vs[k]? = some u ∧ b < B ∧ (∀ W, (Instr.indexAt 51 (.slice A n cap) (.int .i64 (k : Int))).run Try.prog W = .ok (.pointer (some ⟨b, q, none⟩)) W) ∧ w.cell? ⟨b, q, none⟩ = some u := by
  rcases h with rfl | ⟨b, o, rfl, hB, hc⟩
  · rw [hn] at hk; simp at hk
  · have hkd : k < vs.length := by omega
    refine ⟨vs[k], b, o + k, List.getElem?_eq_getElem hkd, hB, fun W => ?_, hc k _ (List.getElem?_eq_getElem hkd)⟩
    obtain ⟨i, hi, hs⟩ := Option.map_eq_some_iff.1 Try.sizeStr
    have h0 : (0 : Int) ≤ (k : Int) ∧ (k : Int) < (n : Int) := by omega
    simp [Instr.indexAt, asIntOf, Sem.run_bind, run_underlying Try.undStrs W, sizeOf, typeInfo, hi, hs, h0, Addr.add_lit, Result.andThen]
    exact fun h => absurd h (by omega)
end Go.Proofs.Ytampdfmakhdliaa
