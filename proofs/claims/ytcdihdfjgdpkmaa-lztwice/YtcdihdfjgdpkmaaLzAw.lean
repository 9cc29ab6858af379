/-
  Layer 11: the fixed fact awake, short and few, from the contract of lz's functions.
-/
import Derived.Test.YtcdihdfjgdpkmaaLzC
import Derived.Test.YtcdihdfjgdpkmaaLzRefD
import Derived.Test.YtcdihdfjgdpkmaaBuildR
import Derived.Test.YtcdihdfjgdpkmaaLzRefC
import Derived.Test.YtcdihdfjgdpkmaaParts
set_option maxRecDepth 100000
namespace Go.Proofs.Ytcdihdfjgdpkmaa
open Go.RowKit Go.Gar

theorem short11_any (A : Option Addr) (len cap m : Nat) (w : World) (hm : m = min len 600) (hc : len ≤ cap) :
    Calls Try.prog 10 #[.slice A len cap] w fun e w' => e = .returned (.slice A m cap) ∧ w' = w := by
  by_cases h : len ≤ 600
  · obtain rfl : m = len := by omega
    clear hm
    go_enter Try.func10, Try.ntmps10
    go_wp2
    go_ret
    exact ⟨rfl, rfl⟩
  · obtain rfl : m = 600 := by omega
    clear hm
    go_enter Try.func10, Try.ntmps10
    go_wp2
    go_ret
    exact ⟨rfl, rfl⟩
def aaaaa : List UInt8 := [97, 97, 97, 97, 97]
theorem tokens_a : Lz.tokens aaaaa = [⟨[97], 0, 0⟩, ⟨[], 4, 1⟩] := by decide +kernel
theorem expand_5 : Lz.expand [⟨[97], 0, 0⟩, ⟨[], 4, 1⟩] 5 = (0, aaaaa) := by decide +kernel
theorem expand_4 : Lz.expand [⟨[97], 0, 0⟩, ⟨[], 4, 1⟩] 4 = (2, []) := by decide +kernel
theorem expand_9 : Lz.expand [⟨[], 4, 1⟩] 9 = (12, []) := by decide +kernel

theorem few_one {ts : List Tv} {x y : Lz.Tok} (h : ts.map Tv.tok = [x, y]) : ∃ s t, ts = [s, t] ∧ s.tok = x ∧ t.tok = y := by
  match ts, h with
  | [s, t], h => exact ⟨s, t, rfl, by simpa using (List.cons.inj h).1, by simpa using (List.cons.inj (List.cons.inj h).2).1⟩
theorem rdT_tail {w : World} {B b o : Nat} {s t : Tv} (h : RdT w B (some ⟨b, o, none⟩) [s, t]) : RdT w B (some ⟨b, o + 3, none⟩) [t] := by
  refine ⟨?_, fun x hx => h.lits x (by simp at hx ⊢; exact .inr hx)⟩
  obtain ⟨b', o', hA, hb, hc⟩ := h.at_ (i := 1) (t := t) rfl
  obtain ⟨rfl, rfl⟩ : b = b' ∧ o = o' := by simpa using hA
  refine .inr ⟨b, o + 3, rfl, hb, fun j v hj => ?_⟩
  have hj3 : j < 3 := (List.getElem?_eq_some_iff.1 hj).1
  rw [show o + 3 + j = o + (3 * 1 + j) by omega]
  exact hc j v hj3 (by simpa [cellsT] using hj)
theorem slice_tail (b o c : Nat) (h : 1 < c) (W : World) :
    (Instr.sliceAt 25 (.slice (some ⟨b, o, none⟩) 2 c) (some (.int .i64 1)) none none).run Try.prog W = .ok (.slice (some ⟨b, o + 3, none⟩) 1 (c - 1)) W := by
  obtain ⟨i, hi, hs⟩ := Option.map_eq_some_iff.1 Try.sizeTok
  have h5 : ¬ c = 1 := by omega
  simp [Instr.sliceAt, Instr.sliceBounds, Instr.sureAddr, run_underlying Try.undToks W, sizeOf, typeInfo, hi, hs, go_sem, h5, Addr.add_lit]

set_option maxHeartbeats 4000000 in
theorem awake11_any {G : World → Prop} (hOK : LzOK G) (w : World) (hG : G w) :
    Calls Try.prog 7 #[] w fun e w' => e = .returned (.bool true) ∧ Below w.heap.size w w' := by
  have HOK := Lib.hid hOK
  have HG := Lib.hid hG
  clear hOK hG
  have hcv : ∀ (W : World) (C : Array Value) (n c g : Nat), g = W.heap.size → (convert 22 22 (.slice (some ⟨g, 0, none⟩) n c)).run Try.prog (W.alloc (.cells C 5)) = .ok (.slice (some ⟨g, 0, none⟩) n c) (W.alloc (.cells C 5 (C.size, C.size + 1))) :=
    fun W C n c g hg => Joins.run_convert_bytes_const_at W 22 5 C n c g hg Try.und22 Try.und5
  go_enter Try.func7, Try.ntmps7
  go_wp2_with fail
  have hb1 := below_alloc w (.cells #[.int .u8 97, .int .u8 97, .int .u8 97, .int .u8 97, .int .u8 97] 5 (5, 6))
  refine (lzT_at HOK.out (w.alloc (.cells #[.int .u8 97, .int .u8 97, .int .u8 97, .int .u8 97, .int .u8 97] 5 (5, 6))) _ aaaaa 5 5 _ (HOK.out.keep HG.out hb1) rfl tokens_a.symm (rd_const w aaaaa _ _ _ _ _ rfl rfl (by rw [World.size_alloc]; omega)) (Nat.le_refl _) (by omega)).mono ?_
  rintro e w3 ⟨A3, n3, c3, ts, rfl, hn3, hc3, hr3, ht3, hb3⟩
  have hi64 := tokens_i64 (ht3.trans tokens_a.symm)
  obtain ⟨s, t, rfl, hs, ht⟩ := few_one ht3
  obtain rfl : n3 = 2 := hn3
  obtain ⟨b, o, rfl, _, _⟩ := hr3.at_ (i := 0) (t := s) rfl
  have Hi := Lib.hid hi64
  have HR3 := Lib.hid hr3
  have HT3 := Lib.hid ht3
  have HS := Lib.hid hs
  have HT := Lib.hid ht
  have Hb3 := Lib.hid (hb1.trans (hb3.mono hb1.size))
  clear hb1 hr3 ht3 hs ht hb3 hi64
  go_wp2_with fail
  refine (lzE_at HOK.out w3 _ [s, t] 2 c3 5 0 aaaaa 5 (HOK.out.keep HG.out Hb3.out) rfl HR3.out hc3 (by omega) (by unfold isI64; omega) Hi.out (by rw [HT3.out, expand_5]; rfl) (by rw [HT3.out, expand_5]) rfl).mono ?_
  rintro e w4 ⟨A4, c4, rfl, hc4, hr4, hb4⟩
  have HR4 := Lib.hid hr4
  have Hb4 := bb Hb3 hb4
  have HRa := Lib.hid ((HR3.out.below hb4).more hb4.size)
  clear hr4 hb4 HR3 Hb3
  go_wp2_with fail
  refine (lzE_at HOK.out w4 _ [s, t] 2 c3 4 2 [] 0 (HOK.out.keep HG.out Hb4.out) rfl HRa.out hc3 (by omega) (by unfold isI64; omega) Hi.out (by rw [HT3.out, expand_4]; rfl) (by rw [HT3.out, expand_4]) rfl).mono ?_
  rintro e w5 ⟨A5, c5, rfl, _, _, hb5⟩
  have HR5 := Lib.hid ((HR4.out.below hb5).more hb5.size)
  have Hb5 := bb Hb4 hb5
  have HRb := Lib.hid ((HRa.out.below hb5).more hb5.size)
  clear hb5 HR4 Hb4 HRa
  have hcut := fun W => slice_tail b o c3 (by omega) W
  go_wp2_with fail
  refine (lzE_at HOK.out w5 _ [t] 1 (c3 - 1) 9 12 [] 0 (HOK.out.keep HG.out Hb5.out) rfl (rdT_tail HRb.out) (by omega) (by omega) (by unfold isI64; omega) (fun x hx => Hi.out x (by simp at hx ⊢; exact .inr hx)) (by rw [List.map_cons, List.map_nil, HT.out, expand_9]; rfl) (by rw [List.map_cons, List.map_nil, HT.out, expand_9]) rfl).mono ?_
  rintro e w6 ⟨A6, c6, rfl, _, _, hb6⟩
  have HR6 := Lib.hid ((HR5.out.below hb6).more hb6.size)
  have Hb6 := bb Hb5 hb6
  have HRc := Lib.hid ((HRb.out.below hb6).more hb6.size)
  clear hb6 HR5 Hb5 HRb hcut
  have hbt1 : Try.prog.built 30 [(0, .slice (some ⟨w6.heap.size, 0, none⟩) 1 1)] = some #[.slice (some ⟨w6.heap.size, 0, none⟩) 1 1, .int .i64 0, .int .i64 0] := built_lit (some ⟨w6.heap.size, 0, none⟩) [97] 1 1 rfl
  have hbt2 : Try.prog.built 30 [(1, .int .i64 4), (2, .int .i64 1)] = some #[.slice none 0 0, .int .i64 4, .int .i64 1] := built_match 4 1
  have HBt1 := Lib.hid hbt1
  have HBt2 := Lib.hid hbt2
  clear hbt1 hbt2
  go_wp2_with (first | refine wpList_build_w 30 #[(0, .tmp 32)] rfl (by simp [Act.eval]) HBt1.out (by kernel_rfl) ?_ | refine wpList_build_w 30 #[(1, .const (.int .i64 4)), (2, .const (.int .i64 1))] rfl (by simp [Act.eval]) HBt2.out (by kernel_rfl) ?_)
  have hb7 := below_alloc w6 (.cells #[.int .u8 97] 5 (1, 2))
  have hs7 : (w6.alloc (.cells #[.int .u8 97] 5 (1, 2))).heap.size = w6.heap.size + 1 := World.size_alloc _ _
  have hl7 : Rd (w6.alloc (.cells #[.int .u8 97] 5 (1, 2))) (w6.heap.size + 1) (some ⟨w6.heap.size, 0, none⟩) [97] := rd_const w6 [97] _ _ _ _ _ rfl rfl (by omega)
  have hb8 := below_alloc (w6.alloc (.cells #[.int .u8 97] 5 (1, 2))) (.cells #[.slice (some ⟨w6.heap.size, 0, none⟩) 1 1, .int .i64 0, .int .i64 0, .slice none 0 0, .int .i64 4, .int .i64 1] 30)
  have hB8 := Blk.new (w6.alloc (.cells #[.int .u8 97] 5 (1, 2))) 30 (cellsT [⟨some ⟨w6.heap.size, 0, none⟩, [97], 1, 0, 0⟩, ⟨none, [], 0, 4, 1⟩] ++ [])
  rw [hs7] at hB8 hb8
  have hW : (w6.alloc (.cells #[.int .u8 97] 5 (1, 2))).alloc (.cells (cellsT [⟨some ⟨w6.heap.size, 0, none⟩, [97], 1, 0, 0⟩, ⟨none, [], 0, 4, 1⟩] ++ []).toArray 30) = (w6.alloc (.cells #[.int .u8 97] 5 (1, 2))).alloc (.cells #[.slice (some ⟨w6.heap.size, 0, none⟩) 1 1, .int .i64 0, .int .i64 0, .slice none 0 0, .int .i64 4, .int .i64 1] 30) := rfl
  rw [hW] at hB8
  have hl8 := hl7.below hb8
  have hb68 := hb7.trans (hb8.mono (Nat.le_succ _))
  generalize (w6.alloc (.cells #[.int .u8 97] 5 (1, 2))).alloc (.cells #[.slice (some ⟨w6.heap.size, 0, none⟩) 1 1, .int .i64 0, .int .i64 0, .slice none 0 0, .int .i64 4, .int .i64 1] 30) = w8 at *
  have hrY : RdT w8 w8.heap.size (some ⟨w6.heap.size + 1, 0, none⟩) [⟨some ⟨w6.heap.size, 0, none⟩, [97], 1, 0, 0⟩, ⟨none, [], 0, 4, 1⟩] := by
    refine ⟨RdV.of_blk hB8 hB8.lt, fun x hx => ?_⟩
    simp only [List.mem_cons, List.not_mem_nil, or_false] at hx
    rcases hx with rfl | rfl
    · exact ⟨hl8.more (by have := hB8.lt; omega), Nat.le_refl _⟩
    · exact ⟨.inl rfl, Nat.le_refl _⟩
  refine (refEven_any (some ⟨b, o, none⟩) (some ⟨w6.heap.size + 1, 0, none⟩) [s, t] [⟨some ⟨w6.heap.size, 0, none⟩, [97], 1, 0, 0⟩, ⟨none, [], 0, 4, 1⟩] 2 2 c3 2 w8 rfl rfl ((HRc.out.below hb68).more hb68.size) hrY (by omega) true (by rw [HT3.out]; rfl)).mono ?_
  rintro e w9 ⟨rfl, hb9⟩
  have hb69 := hb68.trans (hb9.mono hb68.size)
  have HR9 := Lib.hid ((HR6.out.below hb69).more hb69.size)
  have HRd := Lib.hid ((HRc.out.below hb69).more hb69.size)
  have Hb9 := bb Hb6 hb69
  have hst := string_later_rd HR9.out c4 ⟨w9, grows.refl _⟩
  rw [show (⟨aaaaa.toArray⟩ : ByteArray) = ⟨#[97, 97, 97, 97, 97]⟩ from rfl, show aaaaa.length = 5 from rfl] at hst
  obtain ⟨b', o', hA, _, hcl⟩ := HRd.out.at_ (i := 0) (t := s) rfl
  obtain ⟨rfl, rfl⟩ : b = b' ∧ o = o' := by simpa using hA
  have hld := load_T hcl o (by omega)
  have Hld := Lib.hid hld
  clear hb7 hs7 hl7 hb8 hB8 hW hl8 hb68 hrY hb9 hb69 hA hcl hld HR6 HRc Hb6 HBt1 HBt2 hcv
  go_wp2_with (first | refine wpList_load_at 30 (.tmp 56) rfl rfl s.cells.toArray Hld.out (by kernel_rfl) ?_)
  refine (lzG_at HOK.out w9 s true (by rw [HS.out]; rfl) (HOK.out.keep HG.out Hb9.out) (Hi.out s (by simp)).1 (Hi.out s (by simp)).2).mono ?_
  rintro e w10 ⟨rfl, hb10⟩
  have Hb10 := bb Hb9 hb10
  clear hb10 hst
  go_wp2
  go_ret
  exact ⟨by simp, Hb10.out⟩
end Go.Proofs.Ytcdihdfjgdpkmaa
