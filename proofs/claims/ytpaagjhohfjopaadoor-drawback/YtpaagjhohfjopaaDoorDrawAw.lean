/-
  Layer 9: the fixed fact awake, and short, from the contracts of draw's functions.
-/
import Derived.Test.YtpaagjhohfjopaaDoorDrawC
import Derived.Test.YtpaagjhohfjopaaDoorArrEq
import Derived.Test.YtpaagjhohfjopaaDoorReg3
import Derived.RegionTactic
import Derived.BigRegion
set_option maxRecDepth 100000
namespace Go.Proofs.YtpaagjhohfjopaaDoor
open Go.ChangeShapes Go.WideShapes Go.ChangeAt Go.RowKit Go.Gar

theorem short9_any (A : Option Addr) (len cap m : Nat) (w : World) (hm : m = min len 200) (hc : len ≤ cap) :
    Calls Tryd.prog 7 #[.slice A len cap] w fun e w' => e = .returned (.slice A m cap) ∧ w' = w := by
  by_cases h : len ≤ 200
  · obtain rfl : m = len := by omega
    clear hm
    go_enter Tryd.func7, Tryd.ntmps7
    go_wp2
    go_ret
    exact ⟨rfl, rfl⟩
  · obtain rfl : m = 200 := by omega
    clear hm
    go_enter Tryd.func7, Tryd.ntmps7
    go_wp2
    go_ret
    exact ⟨rfl, rfl⟩
section
variable {G : World → Prop}
theorem keys_at (hOK : DrawOK G) (w : World) (id gen : Int) (A : Option Addr) (d : List UInt8) (n c : Nat) (L : List UInt8) (hG : G w) (hn : n = d.length) (hL : L = keysL id gen d) (hr : Rd w w.heap.size A d) (hc : n ≤ c) (hl : n ≤ 1000000) :
    Calls Tryd.prog 10 #[.int .i64 id, .int .i64 gen, .slice A n c] w fun e w' => e = .returned (.agg (u8s L).toArray) ∧ Below w.heap.size w w' := by
  subst hn; subst hL
  exact hOK.keys w id gen A d c hG hr hc hl
theorem iv_at (hOK : DrawOK G) (w : World) (id gen : Int) (A : Option Addr) (d : List UInt8) (n c : Nat) (L : List UInt8) (hG : G w) (hn : n = d.length) (hL : L = ivL id gen d) (hr : Rd w w.heap.size A d) (hc : n ≤ c) (hl : n ≤ 1000000) :
    Calls Tryd.prog 6 #[.int .i64 id, .int .i64 gen, .slice A n c] w fun e w' => e = .returned (.agg (u8s L).toArray) ∧ Below w.heap.size w w' := by
  subst hn; subst hL
  exact hOK.iv w id gen A d c hG hr hc hl
theorem from_at (hOK : DrawOK G) (w : World) (A : Option Addr) (b : List UInt8) (n c : Nat) (E : Int) (L : List UInt8) (hn : n = b.length) (hE : E = ((fromE b : Nat) : Int)) (hL : L = fromL b) (hr : Rd w w.heap.size A b) (hc : n ≤ c) :
    Calls Tryd.prog 13 #[.slice A n c] w fun e w' => e = .returned (.tuple #[.agg (u8s L).toArray, .int .i64 E]) ∧ Below w.heap.size w w' := by
  subst hn; subst hE; subst hL
  exact hOK.from_ w A b c hr hc
end

/-- The world behind 'k := f()', keys. -/
theorem laidK_eq (w : World) (L : List UInt8) : (w.alloc (.cells z64.toArray 34)).setRow w.heap.size (u8s L).toArray = w.alloc (.cells (u8s L).toArray 34) := World.setRow_alloc_new w _ _ _

/-- Keys loaded in every world to which memory may have grown. -/
theorem load_arr_laterS {w : World} {g : Nat} {l : List UInt8} (h : Blk w g 34 (u8s l)) (hl : l.length = 64) :
    ∀ W : Later grows w, (Instr.loadAt 34 (.pointer (some ⟨g, 0, none⟩))).run Tryd.prog W.to = .ok (.agg (u8s l).toArray) W.to := by
  intro W
  have hx : Below w.heap.size w W.to := W.grown
  have := load_keys (h.below hx h.lt) hl
  simp only [Instr.loadAt, Instr.sureAddr, Sem.run_bind, Sem.run_pure, Result.andThen]
  exact this
theorem laidK_facts (w2 : World) (L : List UInt8) : ∃ w3, (w2.alloc (.cells z64.toArray 34)).setRow w2.heap.size (u8s L).toArray = w3 ∧ Blk w3 w2.heap.size 34 (u8s L) ∧ Below w2.heap.size w2 w3 ∧ Blk (w2.alloc (.cells z64.toArray 34)) w2.heap.size 34 z64 :=
  ⟨_, laidK_eq w2 L, Blk.new w2 _ _, below_alloc w2 _, Blk.new w2 _ _⟩

set_option maxHeartbeats 4000000 in
theorem awake9_any {G : World → Prop} (hOK : DrawOK G) (w : World) (hG : G w) :
    Calls Tryd.prog 8 #[] w fun e w' => e = .returned (.bool true) ∧ Below w.heap.size w w' := by
  have hcv : ∀ (W : World) (C : Array Value) (n c g : Nat), g = W.heap.size → (convert 22 22 (.slice (some ⟨g, 0, none⟩) n c)).run Tryd.prog (W.alloc (.cells C 5)) = .ok (.slice (some ⟨g, 0, none⟩) n c) (W.alloc (.cells C 5 (C.size, C.size + 1))) :=
    fun W C n c g hg => Joins.run_convert_bytes_const_at W 22 5 C n c g hg Tryd.und22 Tryd.und5
  obtain ⟨L, hL⟩ : ∃ L, L = keysL 1 2 [120] := ⟨_, rfl⟩
  have hLl : L.length = 64 := by rw [hL]; exact keysL_len _ _ _
  have HOK := Lib.hid hOK
  have HG := Lib.hid hG
  have HL := Lib.hid hL
  have HLl := Lib.hid hLl
  have HE1 : Hid ((0 : Int) = ((fromE L : Nat) : Int)) := Lib.hid (by rw [fromE, if_pos hLl]; rfl)
  have HF1 : Hid (L = fromL L) := Lib.hid (by rw [fromL, if_pos hLl])
  have hL1 : (L.drop 1).length = 63 := by rw [List.length_drop, hLl]
  have HE2 : Hid ((3 : Int) = ((fromE (L.drop 1) : Nat) : Int)) := Lib.hid (by rw [fromE, if_neg (by omega)]; rfl)
  have HF2 : Hid (List.replicate 64 0 = fromL (L.drop 1)) := Lib.hid (by rw [fromL, if_neg (by omega)])
  have HL1 := Lib.hid hL1
  clear hOK hG hL hLl hL1
  go_enter Tryd.func8, Tryd.ntmps8
  go_wp2_with fail
  have hb1 := below_alloc w (.cells #[.int .u8 120] 5 (1, 2))
  refine (keys_at HOK.out (w.alloc (.cells #[.int .u8 120] 5 (1, 2))) 1 2 _ [120] 1 1 L (HOK.out.keep HG.out hb1) rfl HL.out ?_ (by omega) (by omega)).mono ?_
  · exact rd_const w [120] 5 (1, 2) _ _ _ rfl rfl (by simp)
  rintro e w2 ⟨rfl, hb2⟩
  have hB3 := Blk.new w2 34 (u8s L)
  have hb3 := below_alloc w2 (.cells (u8s L).toArray 34)
  have heq3 := laidK_eq w2 L
  obtain ⟨w3, hw3⟩ : ∃ w3, w2.alloc (.cells (u8s L).toArray 34) = w3 := ⟨_, rfl⟩
  rw [hw3] at hB3 hb3 heq3
  have hld3 := load_keys hB3 HLl.out
  have HEq3 := Lib.hid heq3
  have HB3 := Lib.hid hB3
  have Hb3 := Lib.hid (hb1.trans ((hb2.trans (hb3.mono hb2.size)).mono hb1.size))
  have HZ3 := Lib.hid (Blk.new w2 34 z64)
  have HSz := Lib.hid (size_64 L HLl.out)
  have HLn : Hid (z64.length = (u8s L).length) := Lib.hid (by rw [u8s_len, HLl.out]; rfl)
  clear hb1 hb2 hB3 hb3 heq3 hw3
  go_wp2_with (first | refine wpList_alloc_arr rfl 34 z64.toArray rfl zero_64 ?_ | (refine wpList_store_arr rfl 34 (.tmp 1) (.tmp 9) w2.heap.size z64 (u8s L) rfl rfl rfl rfl HZ3.out HSz.out HLn.out (u8s_one _) ?_; rw [HEq3.out]) | refine wpList_load_arr_w 34 (.tmp 1) rfl rfl (u8s L).toArray hld3 (by kernel_rfl) ?_)
  clear hld3 HEq3 HZ3
  refine (HOK.out.bytes_ w3 L HLl.out).mono ?_
  rintro e w4 ⟨A4, c4, rfl, hc4, hr4, hb4⟩
  obtain ⟨bb4, ob4, rfl, hlt4, hcell4⟩ : ∃ bb ob, A4 = some ⟨bb, ob, none⟩ ∧ bb < w4.heap.size ∧ ∀ i c, L[i]? = some c → w4.cell? ⟨bb, ob + i, none⟩ = some (.int .u8 (c.toNat : Int)) := by
    rcases hr4 with h | ⟨b', o', e', h1, h2⟩
    · have := HLl.out; rw [h] at this; cases this
    · exact ⟨b', o', e', h1, h2⟩
  have HR4 := Lib.hid (show Rd w4 w4.heap.size (some ⟨bb4, ob4, none⟩) L from .inr ⟨bb4, ob4, rfl, hlt4, hcell4⟩)
  have HR41 := Lib.hid (show Rd w4 w4.heap.size (some ⟨bb4, ob4 + 1, none⟩) (L.drop 1) from .inr ⟨bb4, ob4 + 1, rfl, hlt4, fun i c hi => by
    rw [List.getElem?_drop] at hi
    rw [Nat.add_assoc]
    exact hcell4 (1 + i) c hi⟩)
  have HB4 := Lib.hid (HB3.out.below hb4 HB3.out.lt)
  have Hb4 := bb Hb3 hb4
  have hc41 : ¬ c4 = 1 := by omega
  have hc42 : (1 : Int) ≤ (c4 : Int) := by omega
  clear hb4 hr4 hcell4 hlt4 HB3 Hb3
  go_wp2_with fail
  refine (from_at HOK.out w4 _ L 64 c4 0 L HLl.out.symm HE1.out HF1.out HR4.out hc4).mono ?_
  rintro e w5 ⟨rfl, hb5⟩
  obtain ⟨w6, heq6, hB6, hb6, hZ6⟩ := laidK_facts w5 L
  have hb56 := hb5.trans (hb6.mono hb5.size)
  have HEq6 := Lib.hid heq6
  have HZ6 := Lib.hid hZ6
  have HB6 := Lib.hid hB6
  have HB36 := Lib.hid (HB4.out.below hb56 HB4.out.lt)
  have HR6 := Lib.hid ((HR41.out.below hb56).more hb56.size)
  have Hb6 := bb Hb4 hb56
  clear hb5 hb6 heq6 hB6 hZ6 hb56 HB4 HR4 HR41 Hb4
  go_wp2_with (first | refine wpList_alloc_arr rfl 34 z64.toArray rfl zero_64 ?_ | (refine wpList_store_arr rfl 34 (.tmp 3) (.tmp 18) w5.heap.size z64 (u8s L) rfl rfl rfl rfl HZ6.out HSz.out HLn.out (u8s_one _) ?_; rw [HEq6.out]) | fail)
  refine (from_at HOK.out w6 _ (L.drop 1) 63 (c4 - 1) 3 _ HL1.out.symm HE2.out HF2.out HR6.out (by omega)).mono ?_
  rintro e w7 ⟨rfl, hb7⟩
  obtain ⟨z0, hz0⟩ : ∃ z0, List.replicate 64 (0 : UInt8) = z0 := ⟨_, rfl⟩
  have hz0l : z0.length = 64 := by rw [← hz0]; rfl
  rw [hz0]
  obtain ⟨w8, heq8, hB8, hb8, hZ8⟩ := laidK_facts w7 z0
  have hb78 := hb7.trans (hb8.mono hb7.size)
  have HEq8 := Lib.hid heq8
  have HZ8 := Lib.hid hZ8
  have HSz0 := Lib.hid (size_64 z0 hz0l)
  have HLn0 : Hid (z64.length = (u8s z0).length) := Lib.hid (by rw [u8s_len, hz0l]; rfl)
  have hld6 := load_keys (HB6.out.below hb78 HB6.out.lt) HLl.out
  have hld3 := load_keys (HB36.out.below hb78 HB36.out.lt) HLl.out
  have heq := fun W => eqKeys L L HLl.out HLl.out W
  rw [decide_eq_true rfl] at heq
  have Hb8 := bb Hb6 hb78
  clear hb7 hb8 heq8 hB8 hZ8 hb78 HB6 HB36 HR6 Hb6 hz0 HF2
  go_wp2_with (first | refine wpList_alloc_arr rfl 34 z64.toArray rfl zero_64 ?_ | (refine wpList_store_arr rfl 34 (.tmp 5) (.tmp 24) w7.heap.size z64 (u8s z0) rfl rfl rfl rfl HZ8.out HSz0.out HLn0.out (u8s_one _) ?_; rw [HEq8.out]) | refine wpList_load_arr_w 34 (.tmp 3) rfl rfl (u8s L).toArray hld6 (by kernel_rfl) ?_ | refine wpList_load_arr_w 34 (.tmp 1) rfl rfl (u8s L).toArray hld3 (by kernel_rfl) ?_ | refine wpList_eql_arr_w 34 34 (.tmp 30) (.tmp 31) rfl rfl rfl true Tryd.guardKeys heq (by kernel_rfl) ?_)
  go_ret
  exact ⟨by simp, Hb8.out⟩
end Go.Proofs.YtpaagjhohfjopaaDoor
