/-
  The landed draw: Keys, IV: their contracts.
-/
import Derived.Test.YtpaagjhohfjopaaDoorDrawGa
import Derived.Test.YtpaagjhohfjopaaDoorBuildK
set_option maxRecDepth 100000
namespace Go.Proofs.YtpaagjhohfjopaaDoor
open Go.RowKit Go.Gar

set_option maxHeartbeats 1000000 in
theorem keysG_any (w : World) (hG : Gl w) (id gen : Int) (A : Option Addr) (d : List UInt8) (n c : Nat) (hn : n = d.length) (hr : Rd w w.heap.size A d) (hc : d.length ≤ c) (hl : d.length ≤ 1000000) (O : List UInt8) (hO : O = keysL id gen d) :
    Calls Tryd.prog 10 #[.int .i64 id, .int .i64 gen, .slice A n c] w fun e w' => e = .returned (.agg (u8s O).toArray) ∧ Below w.heap.size w w' := by
  have hOl : O.length = 64 := by rw [hO]; exact keysL_len id gen d
  have hz0 : z64.length = 64 := by simp [z64, u8s_len]
  have hR0 := Blk.new w 34 z64
  have hb0 := below_alloc w (.cells z64.toArray 34)
  have hs0 : (w.alloc (.cells z64.toArray 34)).heap.size = w.heap.size + 1 := World.size_alloc _ _
  obtain ⟨w0, hw0⟩ : ∃ w0, w.alloc (.cells z64.toArray 34) = w0 := ⟨_, rfl⟩
  rw [hw0] at hR0 hb0 hs0
  have HW0 := Lib.hid hw0
  have HR0 := Lib.hid hR0
  have Hb0 := Lib.hid hb0
  have HN := Lib.hid hn
  have HR := Lib.hid hr
  have HC := Lib.hid hc
  have HL := Lib.hid hl
  have HO := Lib.hid hO
  have HOl := Lib.hid hOl
  have HG := Lib.hid hG
  have HZ0 := Lib.hid hz0
  clear hw0 hR0 hb0 hs0 hn hr hc hl hO hOl hG hz0
  go_enter Tryd.func10, Tryd.ntmps10
  go_wp2_with (refine wpList_alloc_arr rfl 34 z64.toArray rfl zero_64 ?_; rw [HW0.out])
  refine (derived_any w0 (Gl.keep HG.out Hb0.out) 1 1 rfl id gen A d n c HN.out ((HR.out.below Hb0.out).more Hb0.out.size) HC.out HL.out _ rfl).mono ?_
  rintro e w1 ⟨rfl, hb1⟩
  have Hb1 := Lib.hid (Hb0.out.trans (hb1.mono Hb0.out.size))
  have HR1 := Lib.hid (HR0.out.below hb1 HR0.out.lt)
  obtain ⟨D1, hD1⟩ : ∃ D1, drawn 1 id gen d = D1 := ⟨_, rfl⟩
  rw [hD1]
  have HD1 := Lib.hid hD1
  have Hl1 : Hid (D1.length = 32) := Lib.hid (by rw [← hD1]; exact drawn_len _ _ _ _)
  clear hb1 HR0 Hb0 hD1
  go_wp2_with fail
  refine (derived_any w1 (Gl.keep HG.out Hb1.out) 2 2 rfl id gen A d n c HN.out ((HR.out.below Hb1.out).more Hb1.out.size) HC.out HL.out _ rfl).mono ?_
  rintro e w2 ⟨rfl, hb2⟩
  obtain ⟨D2, hD2⟩ : ∃ D2, drawn 2 id gen d = D2 := ⟨_, rfl⟩
  rw [hD2]
  have HR2 := Lib.hid (HR1.out.below hb2 HR1.out.lt)
  have hO2 : D1 ++ D2 = O := by rw [HO.out, keysL, hD2, HD1.out]
  have hbt := builtKeys D1 D2 Hl1.out (by rw [← hD2]; exact drawn_len _ _ _ _)
  rw [hO2] at hbt
  have Hb2 := Lib.hid (below_setRow (Hb1.out.trans (hb2.mono Hb1.out.size)) (Nat.le_refl _) (u8s O).toArray)
  have HSz := Lib.hid (size_64 O HOl.out)
  have HLn : Hid (z64.length = (u8s O).length) := Lib.hid (by rw [u8s_len, HOl.out, HZ0.out])
  have hl2 := load_keys (HR2.out.row (u8s O)) HOl.out
  have HL2 := Lib.hid hl2
  have HBt := Lib.hid hbt
  clear hb2 HR1 Hb1 hl2 hbt hO2 hD2 HO HD1 Hl1
  go_wp2_with (first | refine wpList_build_w 34 _ rfl (by simp [Act.eval]) HBt.out (by kernel_rfl) ?_ | refine wpList_store_arr rfl 34 (.tmp 6) (.tmp 15) w.heap.size z64 (u8s O) rfl rfl rfl rfl HR2.out HSz.out HLn.out (u8s_one _) ?_)
  refine bodyPost_ret (v := .agg (u8s O).toArray) ?_ rfl ⟨rfl, Hb2.out⟩
  have hl2 := HL2.out
  generalize (u8s O).toArray = Y at hl2 ⊢
  simp [results, Act.put, Tryd.results10, asAddr, hl2]

theorem Tryd.undIV : Tryd.prog.underlying 27 = some (.array 16 5) := by kernel_rfl
theorem Tryd.infoIV : (Tryd.prog.info? 27).map (fun i => (i.zero, i.size)) = some (some (.agg (Array.replicate 16 (.int .u8 0))), 16) := by kernel_rfl
theorem zero_IV (w : World) : (zeroValue 27).run Tryd.prog w = .ok (.agg (u8s (List.replicate 16 0)).toArray) w := by
  have := (zero_of_info Tryd.infoIV).1 w
  rw [this]
  rfl
theorem size_IV (l : List UInt8) (h : l.length = 16) : (Tryd.prog.info? 27).map (·.size) = some (u8s l).length := by
  rw [u8s_len, h]; exact (zero_of_info Tryd.infoIV).2
theorem run_arrIV (g o n c : Nat) (h : 16 ≤ n) (W : World) : (Instr.arrayAt 27 (.slice (some ⟨g, o, none⟩) n c)).run Tryd.prog W = .ok (.pointer (some ⟨g, o, none⟩)) W := by
  have h1 : ¬ n < 16 := by omega
  simp [Instr.arrayAt, run_underlying Tryd.undIV W, h1]

theorem wpList_arrAt {P : Program} {w : World} {ops : Array Oper} {rest : List Oper} {o : Oper} {a : Act} {Q : Exit → Act → World → Prop} (t : TypeId) (p : Operand) (ho : o.op = .sliceToArrayPointer t p) {x v : Value} (hp : a.eval p = x)
    (hrun : (Instr.arrayAt t x).run P w = .ok v w) (hw : Region.wanted o (yielded ops a.tmps) = true) (h : wpList P ops Q rest (a.put o.dst v) w) : wpList P ops Q (o :: rest) a w := by
  refine wpList_run_w hw (v := v) (w' := w) ?_ h
  unfold execOp
  simp only [ho, hp, Sem.run_bind, hrun, Result.andThen_ok, Sem.run_pure]

set_option maxHeartbeats 1000000 in
theorem ivG_any (w : World) (hG : Gl w) (id gen : Int) (A : Option Addr) (d : List UInt8) (n c : Nat) (hn : n = d.length) (hr : Rd w w.heap.size A d) (hc : d.length ≤ c) (hl : d.length ≤ 1000000) (O : List UInt8) (hO : O = ivL id gen d) :
    Calls Tryd.prog 6 #[.int .i64 id, .int .i64 gen, .slice A n c] w fun e w' => e = .returned (.agg (u8s O).toArray) ∧ Below w.heap.size w w' := by
  have hOl : O.length = 16 := by rw [hO]; exact ivL_len id gen d
  have hR0 := Blk.new w 27 (u8s (List.replicate 16 0))
  have hb0 := below_alloc w (.cells (u8s (List.replicate 16 0)).toArray 27)
  have hs0 : (w.alloc (.cells (u8s (List.replicate 16 0)).toArray 27)).heap.size = w.heap.size + 1 := World.size_alloc _ _
  obtain ⟨w0, hw0⟩ : ∃ w0, w.alloc (.cells (u8s (List.replicate 16 0)).toArray 27) = w0 := ⟨_, rfl⟩
  rw [hw0] at hR0 hb0 hs0
  obtain ⟨zz, hzz⟩ : ∃ zz, u8s (List.replicate 16 0) = zz := ⟨_, rfl⟩
  rw [hzz] at hR0 hw0
  have hzl : zz.length = 16 := by rw [← hzz, u8s_len, List.length_replicate]
  have hz := zero_IV
  rw [hzz] at hz
  have HW0 := Lib.hid hw0
  have HR0 := Lib.hid hR0
  have Hb0 := Lib.hid hb0
  have HN := Lib.hid hn
  have HR := Lib.hid hr
  have HC := Lib.hid hc
  have HL := Lib.hid hl
  have HO := Lib.hid hO
  have HOl := Lib.hid hOl
  have HG := Lib.hid hG
  have HZl := Lib.hid hzl
  have HZ := Lib.hid hz
  clear hw0 hR0 hb0 hs0 hn hr hc hl hO hOl hG hzl hz hzz
  go_enter Tryd.func6, Tryd.ntmps6
  go_wp2_with (refine wpList_alloc_arr rfl 27 zz.toArray rfl HZ.out ?_; rw [HW0.out])
  refine (derived_any w0 (Gl.keep HG.out Hb0.out) 3 3 rfl id gen A d n c HN.out ((HR.out.below Hb0.out).more Hb0.out.size) HC.out HL.out _ rfl).mono ?_
  rintro e w1 ⟨rfl, hb1⟩
  obtain ⟨D, hD⟩ : ∃ D, drawn 3 id gen d = D := ⟨_, rfl⟩
  rw [hD]
  have hDl : D.length = 32 := by rw [← hD]; exact drawn_len _ _ _ _
  have hOD : O = D.take 16 := by rw [HO.out, ivL, hD]
  have hEa : (w1.alloc (.cells z32.toArray 32)).setRow w1.heap.size (u8s D).toArray = w1.alloc (.cells (u8s D).toArray 32) := World.setRow_alloc_new w1 _ _ _
  have hD2 := Blk.new w1 32 (u8s D)
  have hb2 := below_alloc w1 (.cells (u8s D).toArray 32)
  obtain ⟨w2, hw2⟩ : ∃ w2, w1.alloc (.cells (u8s D).toArray 32) = w2 := ⟨_, rfl⟩
  rw [hw2] at hEa hD2 hb2
  have hb12 := hb1.trans (hb2.mono hb1.size)
  have HR2 := Lib.hid (HR0.out.below hb12 HR0.out.lt)
  have Hb2 := Lib.hid (below_setRow (Hb0.out.trans (hb12.mono Hb0.out.size)) (Nat.le_refl _) (u8s O).toArray)
  have HEa := Lib.hid hEa
  have HZ1 := Lib.hid (Blk.new w1 32 z32)
  have HSD := Lib.hid (size_32 D hDl)
  have HZD : Hid (z32.length = (u8s D).length) := Lib.hid (by rw [u8s_len, hDl, z32_len])
  have hat := run_arrIV w1.heap.size 0 32 32 (by omega) w2
  have hld := run_loadVar_seg (P := Tryd.prog) w1.heap.size 0 (u8s D) (u8s O) hD2 (fun j v hj => by
    have hlt : j < 16 := by have := (List.getElem?_eq_some_iff.1 hj).1; rw [u8s_len, HOl.out] at this; exact this
    rw [Nat.zero_add, ← hj, u8s_get, u8s_get, hOD, List.getElem?_take_of_lt hlt]) Tryd.undIV rfl (size_IV O HOl.out)
  have HSz := Lib.hid (size_IV O HOl.out)
  have HLn : Hid (zz.length = (u8s O).length) := Lib.hid (by rw [u8s_len, HOl.out, HZl.out])
  have hl2 := run_loadVar_row (P := Tryd.prog) (w2.setRow w.heap.size (u8s O).toArray) w.heap.size 27 27 (u8s O).toArray (0, 0) _ (HR2.out.row _) Tryd.undIV rfl (by simpa using size_IV O HOl.out)
  have HL2 := Lib.hid hl2
  have Hat := Lib.hid hat
  have Hld := Lib.hid hld
  clear hD hDl hOD hEa hD2 hb2 hw2 hb12 hb1 hat hld hl2 HR0 Hb0
  go_wp2_with (first | refine wpList_alloc_arr rfl 32 z32.toArray rfl zero_32 ?_ | (refine wpList_store_arr rfl 32 (.tmp 7) (.tmp 11) w1.heap.size z32 (u8s D) rfl rfl rfl rfl HZ1.out HSD.out HZD.out (u8s_one _) ?_; rw [HEa.out]) | refine wpList_arrAt 27 (.tmp 12) rfl rfl Hat.out (by kernel_rfl) ?_ | refine wpList_load_at 27 (.tmp 13) rfl rfl (u8s O).toArray Hld.out (by kernel_rfl) ?_ | refine wpList_store_arr rfl 27 (.tmp 6) (.tmp 14) w.heap.size zz (u8s O) rfl rfl rfl rfl HR2.out HSz.out HLn.out (u8s_one _) ?_)
  refine bodyPost_ret (v := .agg (u8s O).toArray) ?_ rfl ⟨rfl, Hb2.out⟩
  have hl2 := HL2.out
  generalize (u8s O).toArray = Y at hl2 ⊢
  simp [results, Act.put, Tryd.results6, asAddr, hl2]
end Go.Proofs.YtpaagjhohfjopaaDoor
