/-
  Layer 8: the fixed fact awake, walked from the contracts of wrap's functions.
-/
import Derived.Test.YtbcagjndbfpecaaDoorWrapAw
namespace Go.Proofs.YtbcagjndbfpecaaDoor
open Go.ChangeShapes Go.WideShapes Go.ChangeAt Go.RowKit Go.Gar Go.Gar.Aes

theorem new_pair (w : World) (t : TypeId) (l : List Value) : Blk ((w.alloc (.cells l.toArray t)).alloc (.cells l.toArray t)).drew w.heap.size t l ∧ Blk ((w.alloc (.cells l.toArray t)).alloc (.cells l.toArray t)).drew (w.heap.size + 1) t l ∧ Below w.heap.size w ((w.alloc (.cells l.toArray t)).alloc (.cells l.toArray t)).drew := by
  have h1 := Blk.new w t l
  have h2 := Blk.new (w.alloc (.cells l.toArray t)) t l
  rw [World.size_alloc] at h2
  have h3 := (below_alloc w (.cells l.toArray t)).alloc (by rw [World.size_alloc]; omega) (.cells l.toArray t)
  exact ⟨(h1.alloc _).drew, h2.drew, ⟨h3.os, h3.tape, h3.output, h3.size, h3.block⟩⟩

set_option maxHeartbeats 4000000 in
set_option maxRecDepth 100000 in
theorem awake8_any {G : World → Prop} (hOK : WrapOK G) (w : World) (hG : G w) :
    Calls Tryd.prog 9 #[] w fun e w' => e = .returned (.bool true) ∧ Below w.heap.size w w' := by
  have HOK := Lib.hid hOK
  have HG := Lib.hid hG
  obtain ⟨Z, hZ⟩ : ∃ Z, List.replicate 16 (0 : UInt8) = Z := ⟨_, rfl⟩
  have hmk : ∀ W : World, (Instr.makeSlice 22 (.int .i64 16) (.int .i64 16)).run Tryd.prog W = .ok (.slice (some ⟨W.heap.size, 0, none⟩) 16 16) (W.alloc (.cells (u8s Z).toArray 5)) := fun W => by
    rw [← hZ]; exact run_make_bytes 16 16 (by omega) (by omega) W
  have HZ : Hid (Z.length = 16) := Lib.hid (by rw [← hZ]; rfl)
  clear hZ hOK hG
  go_enter Tryd.func9, Tryd.ntmps9
  go_upto_region 1 with fail
  go_cut [1, 2] from 10 to 11 (fun t b w' => ∃ g1 g2, t = .slice (some ⟨g1, 0, none⟩) 16 16 ∧ b = .slice (some ⟨g2, 0, none⟩) 16 16 ∧ g1 ≠ g2 ∧ w.heap.size ≤ g1 ∧ w.heap.size ≤ g2 ∧ Blk w' g1 5 (u8s Z) ∧ Blk w' g2 5 (u8s Z) ∧ Below w.heap.size w w')
  case first =>
    go_region
    all_goals (go_wp2; go_meet)
    case rel => exact ⟨w.heap.size, w.heap.size + 1, rfl, rfl, by omega, by omega, by omega, (new_pair w _ _).1, (new_pair w _ _).2.1, (new_pair w _ _).2.2⟩
    case rel => exact ⟨w.heap.size + 1, w.heap.size, rfl, rfl, by omega, by omega, by omega, (new_pair w _ _).2.1, (new_pair w _ _).1, (new_pair w _ _).2.2⟩
  case rest =>
    obtain ⟨g1, g2, rfl, rfl, hne, hg1, hg2, hB1, hB2, hb⟩ := hcut
    have HB1 := Lib.hid hB1
    have HB2 := Lib.hid hB2
    have Hb := Lib.hid hb
    have Hg1 := Lib.hid hg1
    have Hg2 := Lib.hid hg2
    have Hne := Lib.hid hne
    clear hB1 hB2 hb hg1 hg2 hne hmk
    go_wp2
    go_loopw [3] (fun iv w' => ∃ i : Nat, i ≤ 16 ∧ iv = .int .i64 (i : Int) ∧ Blk w' g1 5 (u8s (prog Z kk i)) ∧ Blk w' g2 5 (u8s (prog Z bk i)) ∧ Below w.heap.size w w') (fun iv _ => 16 - (intOf iv).toNat)
    case atStart => exact ⟨0, by omega, rfl, by rw [prog_0]; exact HB1.out, by rw [prog_0]; exact HB2.out, Hb.out⟩
    case round =>
      obtain ⟨i, hi, rfl, hB1, hB2, hb⟩ := hrel
      clear HB1 HB2 Hb
      by_cases hi16 : i < 16
      · have hlt : (i : Int) < 16 := by omega
        have hc1 := hB1.cell i
        have hc2 := hB2.cell i
        have hl1 : i < (u8s (prog Z kk i)).length := by rw [u8s_len, prog_len _ _ _ (by rw [HZ.out]; rfl), HZ.out]; exact hi16
        have hl2 : i < (u8s (prog Z bk i)).length := by rw [u8s_len, prog_len _ _ _ (by rw [HZ.out]; rfl), HZ.out]; exact hi16
        rw [List.getElem?_eq_getElem hl1] at hc1
        rw [List.getElem?_eq_getElem hl2] at hc2
        generalize (u8s (prog Z kk i))[i] = v1 at hc1
        generalize (u8s (prog Z bk i))[i] = v2 at hc2
        have hf1 := hB1.frozen i
        have hf2 := hB2.frozen i
        have h1 := hB1.set_ i (.int .u8 (i : Int))
        rw [show (Value.int .u8 (i : Int)) = .int .u8 ((UInt8.ofNat i).toNat : Int) from by congr 1; simp; omega, u8s_set, prog_set _ _ _ _ (by rw [HZ.out]; rfl) (kk_get i hi16)] at h1
        rw [show ((UInt8.ofNat i).toNat : Int) = (i : Int) from by simp; omega] at h1
        have h2 := hB2.far (p := ⟨g1, i, none⟩) (by show g2 ≠ g1; exact Hne.out.symm) (.int .u8 (i : Int))
        have hb1 := hb.setCell (p := ⟨g1, i, none⟩) Hg1.out (.int .u8 (i : Int))
        have hc3 := h2.cell i
        have hf3 := h2.frozen i
        rw [List.getElem?_eq_getElem hl2] at hc3
        generalize (u8s (prog Z bk i))[i] = v3 at hc3
        have h3 := h2.set_ i (.int .u8 ((17 * i : Nat) : Int))
        rw [show (Value.int .u8 ((17 * i : Nat) : Int)) = .int .u8 ((UInt8.ofNat (17 * i)).toNat : Int) from by congr 1; simp; omega, u8s_set, prog_set _ _ _ _ (by rw [HZ.out]; rfl) (bk_get i hi16)] at h3
        rw [show ((UInt8.ofNat (17 * i)).toNat : Int) = 17 * (i : Int) from by simp; omega] at h3
        have h4 := h1.far (p := ⟨g2, i, none⟩) (by show g1 ≠ g2; exact Hne.out) (.int .u8 (17 * (i : Int)))
        have hb2 := hb1.setCell (p := ⟨g2, i, none⟩) Hg2.out (.int .u8 (17 * (i : Int)))
        have H3 := Lib.hid h3
        have H4 := Lib.hid h4
        have Hb2 := Lib.hid hb2
        clear hB1 hB2 hb h1 h2 h3 h4 hb1 hb2 hl1 hl2
        go_wp2
        exact ⟨⟨i + 1, by omega, by go_num, H4.out, H3.out, Hb2.out⟩, by simp [intOf]; omega⟩
      · obtain rfl : i = 16 := by omega
        rw [prog_end Z kk 16 (by rw [HZ.out]) rfl] at hB1
        rw [prog_end Z bk 16 (by rw [HZ.out]) rfl] at hB2
        have HB1 := Lib.hid hB1
        have HB2 := Lib.hid hB2
        have Hb := Lib.hid hb
        obtain ⟨X, hX⟩ : ∃ X, X = Wrp.wrap_ kk bk := ⟨_, rfl⟩
        have hXl : X.length = 24 := by rw [hX, Wrp.wrap_len kk bk rfl (by decide)]; rfl
        have hs : sizeOk kk.length := .inl rfl
        have hf : fits bk.length := by decide
        have hc1 : sizeOk kk.length ∧ fits bk.length := ⟨hs, hf⟩
        have HE1 : Hid ((0 : Int) = ((wrapE kk bk : Nat) : Int)) := Lib.hid (by rw [show wrapE kk bk = 0 from if_pos hc1]; rfl)
        have HO1 : Hid (X = wrapB kk bk) := Lib.hid (by rw [show wrapB kk bk = Wrp.wrap_ kk bk from if_pos hc1, hX])
        have hop : Wrp.unwrap_ kk X = some bk := by rw [hX]; exact Wrp.unwrap_wrap kk bk rfl (by decide)
        have hc2 : sizeOk kk.length ∧ 8 ≤ X.length ∧ fits (X.length - 8) := ⟨hs, by rw [hXl]; decide, by rw [hXl]; decide⟩
        have HE2 : Hid ((0 : Int) = ((unwrapE kk X : Nat) : Int)) := Lib.hid (by rw [show unwrapE kk X = if (Wrp.unwrap_ kk X).isSome then 0 else 8 from if_pos hc2, hop]; rfl)
        have HO2 : Hid (bk = unwrapB kk X) := Lib.hid (by rw [show unwrapB kk X = (Wrp.unwrap_ kk X).getD [] from if_pos hc2, hop]; rfl)
        have hc3 : ¬ (sizeOk kk.length ∧ fits (bk.take 8).length) := by decide
        have HE3 : Hid ((1 : Int) = ((wrapE kk (bk.take 8) : Nat) : Int)) := Lib.hid (by rw [show wrapE kk (bk.take 8) = 1 from if_neg hc3]; rfl)
        have HO3 : Hid (([] : List UInt8) = wrapB kk (bk.take 8)) := Lib.hid (by rw [show wrapB kk (bk.take 8) = [] from if_neg hc3])
        have HX0 : Hid (X[0]? = some 31) := Lib.hid (by rw [hX]; exact wrap_awake.1)
        have HX23 : Hid (X[23]? = some 229) := Lib.hid (by rw [hX]; exact wrap_awake.2)
        have HXl := Lib.hid hXl
        clear hB1 hB2 hb hX hXl hs hf hc1 hop hc2 hc3
        have HGr := Lib.hid (HOK.out.keep HG.out Hb.out)
        go_wp2_with fail
        refine (wrap_at HOK.out wr _ _ kk bk 16 16 16 16 0 X 24 HGr.out rfl rfl HE1.out HO1.out HXl.out.symm (Rd.of_all HB1.out) (Rd.of_all HB2.out) (by omega) (by omega) (by omega)).mono ?_
        rintro e w2 ⟨A2, c2, rfl, hc2, r2, hb2⟩
        have HR2 := Lib.hid r2
        have HB12 := Lib.hid (HB1.out.below hb2 HB1.out.lt)
        have HB22 := Lib.hid (HB2.out.below hb2 HB2.out.lt)
        have Hb2 := bb Hb hb2
        have HG2 := Lib.hid (HOK.out.keep HGr.out hb2)
        clear r2 hb2 HB1 HB2 Hb HGr
        go_wp2_with fail
        refine (unwrap_at HOK.out w2 _ A2 kk X 16 16 24 c2 0 bk 16 HG2.out rfl HXl.out.symm HE2.out HO2.out rfl (Rd.of_all HB12.out) HR2.out (by omega) hc2 (by omega)).mono ?_
        rintro e w3 ⟨A3, c3, rfl, hc3, r3, hb3⟩
        have HR3 := Lib.hid r3
        have HR23 := Lib.hid ((HR2.out.below hb3).more hb3.size)
        have HB13 := Lib.hid (HB12.out.below hb3 HB12.out.lt)
        have HB23 := Lib.hid (HB22.out.below hb3 HB22.out.lt)
        have Hb3 := bb Hb2 hb3
        have HG3 := Lib.hid (HOK.out.keep HG2.out hb3)
        clear r3 hb3 HB12 HB22 Hb2 HG2 HR2
        go_wp2_with fail
        refine (wrap_at HOK.out w3 _ _ kk (bk.take 8) 16 16 8 16 1 [] 0 HG3.out rfl rfl HE3.out HO3.out rfl (Rd.of_all HB13.out) ((Rd.of_all HB23.out).take 8) (by omega) (by omega) (by omega)).mono ?_
        rintro e w4 ⟨A4, c4, rfl, hc4, r4, hb4⟩
        have hr4 := (HR23.out.below hb4).more hb4.size
        obtain ⟨bx, ox, hA, hcx0, hcx23⟩ : ∃ bx ox, A2 = some ⟨bx, ox, none⟩ ∧ w4.cell? ⟨bx, ox, none⟩ = some (.int .u8 31) ∧ w4.cell? ⟨bx, ox + 23, none⟩ = some (.int .u8 229) := by
          rcases hr4 with h | ⟨b', o', e', _, hc'⟩
          · have := HXl.out; rw [h] at this; cases this
          · exact ⟨b', o', e', hc' 0 _ HX0.out, hc' 23 _ HX23.out⟩
        subst hA
        have hs1 := string_later_rd ((HR3.out.below hb4).more hb4.size) c3 ⟨w4, grows.refl _⟩
        have hs2 := string_later_rd (Rd.of_all (HB23.out.below hb4 HB23.out.lt)) 16 ⟨w4, grows.refl _⟩
        simp only at hs1 hs2
        rw [show bk.length = 16 from rfl] at hs1 hs2
        have Hb4 := bb Hb3 hb4
        generalize (⟨bk.toArray⟩ : ByteArray) = S at hs1 hs2
        clear r4 hb4 hr4 HB13 HB23 Hb3 HG3 HR23 HR3 HX0 HX23
        go_wp2
        go_ret
        exact ⟨by simp, Hb4.out⟩
end Go.Proofs.YtbcagjndbfpecaaDoor
