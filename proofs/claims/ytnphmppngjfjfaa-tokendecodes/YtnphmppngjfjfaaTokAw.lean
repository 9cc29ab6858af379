/-
  Layer 12: the fixed fact awake, short and few, from the contract of token's functions.
-/
import Derived.Test.YtnphmppngjfjfaaTokC
import Derived.Test.YtnphmppngjfjfaaTokBu
import Derived.Test.YtnphmppngjfjfaaParts
set_option maxRecDepth 100000
namespace Go.Proofs.Ytnphmppngjfjfaa
open Go.RowKit Go.Gar

theorem short12_any (A : Option Addr) (len cap m : Nat) (w : World) (hm : m = min len 600) (hc : len ≤ cap) :
    Calls Try.prog 11 #[.slice A len cap] w fun e w' => e = .returned (.slice A m cap) ∧ w' = w := by
  by_cases h : len ≤ 600
  · obtain rfl : m = len := by omega
    clear hm
    go_enter Try.func11, Try.ntmps11
    go_wp2
    go_ret
    exact ⟨rfl, rfl⟩
  · obtain rfl : m = 600 := by omega
    clear hm
    go_enter Try.func11, Try.ntmps11
    go_wp2
    go_ret
    exact ⟨rfl, rfl⟩
theorem few12_any (A : Option Addr) (len cap m : Nat) (w : World) (hm : m = min len 60) (hc : len ≤ cap) :
    Calls Try.prog 7 #[.slice A len cap] w fun e w' => e = .returned (.slice A m cap) ∧ w' = w := by
  by_cases h : len ≤ 60
  · obtain rfl : m = len := by omega
    clear hm
    go_enter Try.func7, Try.ntmps7
    go_wp2
    go_ret
    exact ⟨rfl, rfl⟩
  · obtain rfl : m = 60 := by omega
    clear hm
    go_enter Try.func7, Try.ntmps7
    go_wp2
    go_ret
    exact ⟨rfl, rfl⟩
def ex12 : List UInt8 := [0, 97, 129, 0, 0]
theorem encode_ex : Lz.encode [⟨[97], 0, 0⟩, ⟨[], 4, 1⟩] = (0, ex12) := by decide +kernel
theorem decode_ex : Lz.decode ex12 = (0, [⟨[97], 0, 0⟩, ⟨[], 4, 1⟩]) := by decide +kernel
theorem decode_4 : Lz.decode (ex12.take 4) = (12, []) := by decide +kernel
theorem encode_0 : Lz.encode [⟨[], 0, 0⟩] = (3, []) := by decide +kernel
theorem built_none : Try.prog.built 41 [] = some #[.slice none 0 0, .int .i64 0, .int .i64 0] := built_tok _ _ rfl
theorem two_toks {ts : List Tv} {x y : Lz.Tok} (h : ts.map Tv.tok = [x, y]) : ∃ s t, ts = [s, t] ∧ s.tok = x ∧ t.tok = y := by
  match ts, h with
  | [s, t], h => exact ⟨s, t, rfl, by simpa using (List.cons.inj h).1, by simpa using (List.cons.inj (List.cons.inj h).2).1⟩

set_option maxHeartbeats 4000000 in
theorem awake12_any {G : World → Prop} (hOK : TokenOK G) (w : World) (hG : G w) :
    Calls Try.prog 9 #[] w fun e w' => e = .returned (.bool true) ∧ Below w.heap.size w w' := by
  have HOK := Lib.hid hOK
  have HG := Lib.hid hG
  clear hOK hG
  have hcv : ∀ (W : World) (C : Array Value) (n c g : Nat), g = W.heap.size → (convert 23 23 (.slice (some ⟨g, 0, none⟩) n c)).run Try.prog (W.alloc (.cells C 5)) = .ok (.slice (some ⟨g, 0, none⟩) n c) (W.alloc (.cells C 5 (C.size, C.size + 1))) :=
    fun W C n c g hg => Joins.run_convert_bytes_const_at W 23 5 C n c g hg Try.und22 Try.und5
  have hbt1 : Try.prog.built 41 [(0, .slice (some ⟨w.heap.size, 0, none⟩) 1 1)] = some #[.slice (some ⟨w.heap.size, 0, none⟩) 1 1, .int .i64 0, .int .i64 0] := built_lit (some ⟨w.heap.size, 0, none⟩) [97] 1 1 rfl
  have hbt2 : Try.prog.built 41 [(1, .int .i64 4), (2, .int .i64 1)] = some #[.slice none 0 0, .int .i64 4, .int .i64 1] := built_match 4 1
  have HBt1 := Lib.hid hbt1
  have HBt2 := Lib.hid hbt2
  clear hbt1 hbt2
  go_enter Try.func9, Try.ntmps9
  go_wp2_with (first | refine wpList_build_w 41 #[(0, .tmp 11)] rfl (by simp [Act.eval]) HBt1.out (by kernel_rfl) ?_ | refine wpList_build_w 41 #[(1, .const (.int .i64 4)), (2, .const (.int .i64 1))] rfl (by simp [Act.eval]) HBt2.out (by kernel_rfl) ?_)
  have hb7 := below_alloc w (.cells #[.int .u8 97] 5 (1, 2))
  have hs7 : (w.alloc (.cells #[.int .u8 97] 5 (1, 2))).heap.size = w.heap.size + 1 := World.size_alloc _ _
  have hl7 : Rd (w.alloc (.cells #[.int .u8 97] 5 (1, 2))) (w.heap.size + 1) (some ⟨w.heap.size, 0, none⟩) [97] := rd_const w [97] _ _ _ _ _ rfl rfl (by omega)
  have hb8 := below_alloc (w.alloc (.cells #[.int .u8 97] 5 (1, 2))) (.cells #[.slice (some ⟨w.heap.size, 0, none⟩) 1 1, .int .i64 0, .int .i64 0, .slice none 0 0, .int .i64 4, .int .i64 1] 41)
  have hB8 := Blk.new (w.alloc (.cells #[.int .u8 97] 5 (1, 2))) 41 (cellsT [⟨some ⟨w.heap.size, 0, none⟩, [97], 1, 0, 0⟩, ⟨none, [], 0, 4, 1⟩] ++ [])
  rw [hs7] at hB8 hb8
  have hW : (w.alloc (.cells #[.int .u8 97] 5 (1, 2))).alloc (.cells (cellsT [⟨some ⟨w.heap.size, 0, none⟩, [97], 1, 0, 0⟩, ⟨none, [], 0, 4, 1⟩] ++ []).toArray 41) = (w.alloc (.cells #[.int .u8 97] 5 (1, 2))).alloc (.cells #[.slice (some ⟨w.heap.size, 0, none⟩) 1 1, .int .i64 0, .int .i64 0, .slice none 0 0, .int .i64 4, .int .i64 1] 41) := rfl
  rw [hW] at hB8
  have hl8 := hl7.below hb8
  have hb68 := hb7.trans (hb8.mono (Nat.le_succ _))
  generalize (w.alloc (.cells #[.int .u8 97] 5 (1, 2))).alloc (.cells #[.slice (some ⟨w.heap.size, 0, none⟩) 1 1, .int .i64 0, .int .i64 0, .slice none 0 0, .int .i64 4, .int .i64 1] 41) = w8 at *
  have hrY : RdT w8 w8.heap.size (some ⟨w.heap.size + 1, 0, none⟩) [⟨some ⟨w.heap.size, 0, none⟩, [97], 1, 0, 0⟩, ⟨none, [], 0, 4, 1⟩] := by
    refine ⟨RdV.of_blk hB8 hB8.lt, fun x hx => ?_⟩
    simp only [List.mem_cons, List.not_mem_nil, or_false] at hx
    rcases hx with rfl | rfl
    · exact ⟨hl8.more (by have := hB8.lt; omega), Nat.le_refl _⟩
    · exact ⟨.inl rfl, Nat.le_refl _⟩
  have hi64 : ∀ x ∈ [(⟨some ⟨w.heap.size, 0, none⟩, [97], 1, 0, 0⟩ : Tv), ⟨none, [], 0, 4, 1⟩], isI64 x.n ∧ isI64 x.d := fun x hx => by
    simp only [List.mem_cons, List.not_mem_nil, or_false] at hx
    rcases hx with rfl | rfl <;> (unfold isI64; simp)
  refine (tokE_at HOK.out w8 _ _ 2 2 0 ex12 5 (HOK.out.keep HG.out hb68) rfl hrY (Nat.le_refl _) (by omega) hi64 (by rw [show List.map Tv.tok [⟨some ⟨w.heap.size, 0, none⟩, [97], 1, 0, 0⟩, ⟨none, [], 0, 4, 1⟩] = [⟨[97], 0, 0⟩, ⟨[], 4, 1⟩] from rfl, encode_ex]; rfl) (by rw [show List.map Tv.tok [⟨some ⟨w.heap.size, 0, none⟩, [97], 1, 0, 0⟩, ⟨none, [], 0, 4, 1⟩] = [⟨[97], 0, 0⟩, ⟨[], 4, 1⟩] from rfl, encode_ex]) rfl).mono ?_
  rintro e w9 ⟨A9, c9, rfl, hc9, hr9, hb9⟩
  have HR9 := Lib.hid hr9
  have Hb9 := Lib.hid (hb68.trans (hb9.mono hb68.size))
  clear hb7 hs7 hl7 hb8 hB8 hW hl8 hb68 hrY hi64 hr9 hb9 HBt1 HBt2 hcv
  go_wp2_with fail
  refine (tokD_at HOK.out w9 A9 ex12 5 c9 0 _ (HOK.out.keep HG.out Hb9.out) rfl HR9.out hc9 (by omega) (by rw [decode_ex]; rfl) rfl).mono ?_
  rintro e w10 ⟨A10, n10, c10, ts, rfl, hn10, hc10, hr10, ht10, hb10⟩
  rw [decode_ex] at ht10
  obtain ⟨s, t, rfl, _, ht⟩ := two_toks ht10
  obtain rfl : n10 = 2 := hn10
  have HR10 := Lib.hid hr10
  have HT := Lib.hid ht
  have Hb10 := bb Hb9 hb10
  have HR9b := Lib.hid ((HR9.out.below hb10).more hb10.size)
  clear hr10 ht ht10 hb10 HR9 Hb9
  go_wp2_with fail
  refine (tokD_at HOK.out w10 A9 (ex12.take 4) 4 c9 12 _ (HOK.out.keep HG.out Hb10.out) rfl (HR9b.out.take 4) (by omega) (by omega) (by rw [decode_4]; rfl) rfl).mono ?_
  rintro e w11 ⟨A11, n11, c11, us, rfl, _, _, _, _, hb11⟩
  have HR10b := Lib.hid ((HR10.out.below hb11).more hb11.size)
  have HR9c := Lib.hid ((HR9b.out.below hb11).more hb11.size)
  have Hb11 := bb Hb10 hb11
  clear hb11 HR10 HR9b Hb10
  have HB0 := Lib.hid built_none
  go_wp2_with (refine wpList_build_w 41 #[] rfl (by simp [Act.eval]) HB0.out (by kernel_rfl) ?_)
  have hal := below_alloc w11 (.cells #[.slice none 0 0, .int .i64 0, .int .i64 0] 41)
  have hBz := Blk.new w11 41 (cellsT [⟨none, [], 0, 0, 0⟩] ++ [])
  have hWz : w11.alloc (.cells (cellsT [⟨none, [], 0, 0, 0⟩] ++ []).toArray 41) = w11.alloc (.cells #[.slice none 0 0, .int .i64 0, .int .i64 0] 41) := rfl
  rw [hWz] at hBz
  generalize w11.alloc (.cells #[.slice none 0 0, .int .i64 0, .int .i64 0] 41) = w12 at *
  have hrZ : RdT w12 w12.heap.size (some ⟨w11.heap.size, 0, none⟩) [⟨none, [], 0, 0, 0⟩] := ⟨RdV.of_blk hBz hBz.lt, fun x hx => by
    obtain rfl : x = _ := by simpa using hx
    exact ⟨.inl rfl, Nat.le_refl _⟩⟩
  refine (tokE_at HOK.out w12 _ _ 1 1 3 [] 0 (HOK.out.keep HG.out (bb Hb11 hal).out) rfl hrZ (Nat.le_refl _) (by omega) (fun x hx => by
    obtain rfl : x = _ := by simpa using hx
    unfold isI64; simp) (by rw [show List.map Tv.tok [⟨none, [], 0, 0, 0⟩] = [⟨[], 0, 0⟩] from rfl, encode_0]; rfl) (by rw [show List.map Tv.tok [⟨none, [], 0, 0, 0⟩] = [⟨[], 0, 0⟩] from rfl, encode_0]) rfl).mono ?_
  rintro e w13 ⟨A13, c13, rfl, _, _, hb13⟩
  have hb1113 := hal.trans (hb13.mono hal.size)
  have Hb13 := bb Hb11 hb1113
  have HRs := Lib.hid ((HR10b.out.below hb1113).more hb1113.size)
  have HR9d := Lib.hid ((HR9c.out.below hb1113).more hb1113.size)
  clear hal hBz hWz hrZ hb13 hb1113 HR10b HR9c Hb11 HB0
  have hs1 := string_later_rd HR9d.out c9 ⟨w13, grows.refl _⟩
  have hB14 : Blk (w13.alloc (.cells #[.int .u8 0, .int .u8 97, .int .u8 129, .int .u8 0, .int .u8 0] 5)) w13.heap.size 5 (u8s ex12) := Blk.new w13 5 (u8s ex12)
  have hb14 := below_alloc w13 (.cells #[.int .u8 0, .int .u8 97, .int .u8 129, .int .u8 0, .int .u8 0] 5)
  have hs2 := string_later_rd (Rd.of_all hB14) 5 ⟨w13.alloc (.cells #[.int .u8 0, .int .u8 97, .int .u8 129, .int .u8 0, .int .u8 0] 5), grows.refl _⟩
  rw [show ex12.length = 5 from rfl] at hs1 hs2
  obtain ⟨S, hS⟩ : ∃ S : ByteArray, (⟨ex12.toArray⟩ : ByteArray) = S := ⟨_, rfl⟩
  rw [hS] at hs1 hs2
  obtain ⟨b, o, rfl, hbB, hcl⟩ := (HRs.out.below hb14).at_ (i := 1) (t := t) rfl
  have k1 := hcl 1 _ (by omega) (show t.cells[1]? = some (.int .i64 t.n) from rfl)
  rw [show t.n = 4 from congrArg Lz.Tok.len HT.out, show o + (3 * 1 + 1) = o + 3 + 1 by omega] at k1
  have Hb14 := bb Hb13 hb14
  clear hB14 hb14 hS hbB hcl HRs HR9d Hb13
  go_wp2
  go_ret
  exact ⟨by simp, Hb14.out⟩
end Go.Proofs.Ytnphmppngjfjfaa
