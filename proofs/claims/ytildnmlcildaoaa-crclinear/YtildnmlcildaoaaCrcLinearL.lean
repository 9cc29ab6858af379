/-
  CrcLinear: for every three slices of bytes the law returns true and leaves its arguments as they were. No condition.
-/
import Derived.Test.YtildnmlcildaoaaCrcLaw
import Derived.Test.YtildnmlcildaoaaLaw
import Derived.Test.YtildnmlcildaoaaOwn
import Derived.Deep.DeepCutAuto
import Derived.BigRegion
namespace Go.Proofs.Ytildnmlcildaoaa
open Go.ChangeShapes Go.WideShapes Go.ChangeAt Go.RowKit Go.Gar Go.Gar.Crc

theorem trio0 (w : World) (t : TypeId) (Z : List Value) : Blk (((w.alloc (.cells Z.toArray t)).alloc (.cells Z.toArray t)).alloc (.cells Z.toArray t)) w.heap.size t Z ∧
    Blk (((w.alloc (.cells Z.toArray t)).alloc (.cells Z.toArray t)).alloc (.cells Z.toArray t)) (w.heap.size + 1) t Z ∧ Blk (((w.alloc (.cells Z.toArray t)).alloc (.cells Z.toArray t)).alloc (.cells Z.toArray t)) (w.heap.size + 1 + 1) t Z ∧
    Below w.heap.size w (((w.alloc (.cells Z.toArray t)).alloc (.cells Z.toArray t)).alloc (.cells Z.toArray t)) := by
  refine ⟨((Blk.new w t Z).alloc _).alloc _, ?_, ?_, ((below_alloc w _).alloc (by simp) _).alloc (by simp; omega) _⟩
  · have := (Blk.new (w.alloc (.cells Z.toArray t)) t Z).alloc (.cells Z.toArray t)
    simpa using this
  · have := Blk.new ((w.alloc (.cells Z.toArray t)).alloc (.cells Z.toArray t)) t Z
    simpa using this
theorem trio (w : World) (t : TypeId) (Z : List Value) : Blk (((w.alloc (.cells Z.toArray t)).alloc (.cells Z.toArray t)).alloc (.cells Z.toArray t)).drew w.heap.size t Z ∧
    Blk (((w.alloc (.cells Z.toArray t)).alloc (.cells Z.toArray t)).alloc (.cells Z.toArray t)).drew (w.heap.size + 1) t Z ∧ Blk (((w.alloc (.cells Z.toArray t)).alloc (.cells Z.toArray t)).alloc (.cells Z.toArray t)).drew (w.heap.size + 1 + 1) t Z ∧
    Below w.heap.size w (((w.alloc (.cells Z.toArray t)).alloc (.cells Z.toArray t)).alloc (.cells Z.toArray t)).drew := by
  obtain ⟨a, b, c, d⟩ := trio0 w t Z
  exact ⟨a.drew, b.drew, c.drew, d.drew⟩

/-- copy of bytes over the head of a row, as many as both have. -/
theorem run_copy_min (g n sCap : Nat) (A : Option Addr) (l : List UInt8) (B : Nat) (w : World) (hr : Rd w B A l) (hg : Blk w g 5 (u8s (List.replicate n 0))) :
    ∃ m : Int, (Builtin.copy_ #[23, 23] 3 #[.slice (some ⟨g, 0, none⟩) n n, .slice A l.length sCap]).run Try.prog w = .ok (goInt m) (w.setRow g (u8s (l.take n) ++ (u8s (List.replicate n 0)).drop (l.take n).length).toArray) := by
  by_cases h0 : (l.take n).length = 0
  · refine ⟨0, ?_⟩
    rw [run_copy_none w 23 23 3 5 _ _ _ _ _ _ Try.und22 Try.size5 (by rw [List.length_take] at h0; show min _ _ = 0; omega)]
    have := setRow_self w g (u8s (List.replicate n 0)).toArray 5 (0, 0) hg
    rw [List.eq_nil_of_length_eq_zero h0]
    simp only [List.length_nil, u8s, List.map_nil, List.drop_zero, List.nil_append]
    simp only [u8s] at this
    rw [this]
  · rcases hr with rfl | ⟨b, o, rfl, hb, hc⟩
    · simp at h0
    · have h := run_copy_row (P := Try.prog) w 23 23 3 5 g 0 n n ⟨b, o, none⟩ l.length sCap (u8s (List.replicate n 0)).toArray 5 (u8s (l.take n)) Try.und22 Try.size5 hg
        (by rw [u8s_len, List.length_take]; show _ = min _ _; omega) ?_ (by simp [u8s_len]; omega) (u8s_one _)
      · refine ⟨((u8s (l.take n)).length : Int), ?_⟩
        rw [h]
        simp [u8s_len]
      · intro j v hj
        rw [u8s_get] at hj
        cases hq : (l.take n)[j]? with
        | none => simp [hq] at hj
        | some c =>
          rw [hq] at hj
          simp at hj
          subst hj
          have : (⟨b, o, none⟩ : Addr).add j = ⟨b, o + j, none⟩ := Addr.add_lit _ _ _
          rw [this]
          refine hc j c ?_
          rw [List.getElem?_take] at hq
          split at hq
          · exact hq
          · cases hq

theorem more_lin (s : BitVec 32) (x y z : List UInt8) (h1 : x.length = y.length) (h2 : x.length = z.length) :
    more s (List.zipWith (· ^^^ ·) (List.zipWith (· ^^^ ·) x y) z) = more s x ^^^ more s y ^^^ more s z := by
  have e1 := run_xor x y (~~~ s) (~~~ s) h1
  rw [BitVec.xor_self] at e1
  have e2 := run_xor (List.zipWith (· ^^^ ·) x y) z 0#32 (~~~ s) (by rw [List.length_zipWith]; omega)
  rw [← e1, BitVec.zero_xor] at e2
  unfold more
  rw [← e2]
  generalize run (~~~ s) x = a
  generalize run (~~~ s) y = b
  generalize run (~~~ s) z = c
  have hn : ∀ p : BitVec 32, ~~~ p = BitVec.allOnes 32 ^^^ p := fun p => by rw [BitVec.allOnes_xor]
  rw [hn (a ^^^ b ^^^ c), hn a, hn b, hn c]
  have : BitVec.allOnes 32 ^^^ a ^^^ (BitVec.allOnes 32 ^^^ b) ^^^ (BitVec.allOnes 32 ^^^ c) = (BitVec.allOnes 32 ^^^ BitVec.allOnes 32) ^^^ (BitVec.allOnes 32 ^^^ (a ^^^ b ^^^ c)) := by ac_rfl
  rw [this, BitVec.xor_self, BitVec.zero_xor]

/-- copy(y, b): the row's head is b's, as far as both reach. -/
def padTo (b : List UInt8) (n : Nat) : List UInt8 := b.take n ++ List.replicate (n - (b.take n).length) 0
theorem padTo_len (b : List UInt8) (n : Nat) : (padTo b n).length = n := by simp [padTo]; omega

set_option maxHeartbeats 2000000 in
theorem crclinear_walk (A1 A2 A3 : Option Addr) (l1 l2 l3 x1 : List UInt8) (k1 k2 k3 n : Nat) (w : World) (hc1 : l1.length ≤ k1) (hx1 : x1.length = n) (hn : n = min l1.length 200)
    (r1 : Rd w w.heap.size A1 x1) (r2 : Rd w w.heap.size A2 l2) (r3 : Rd w w.heap.size A3 l3) :
    Calls Try.prog 6 #[.slice A1 l1.length k1, .slice A2 l2.length k2, .slice A3 l3.length k3] w fun e w' => e = .returned (.bool true) ∧ Below w.heap.size w w' := by
  have b1 : n ≤ 200 := by omega
  have hmk := fun W => run_make_bytes n n (Nat.le_refl _) (by omega) W
  have HX1 := Lib.hid hx1
  have HN := Lib.hid hn
  have HR1 := Lib.hid r1
  have HR2 := Lib.hid r2
  have HR3 := Lib.hid r3
  clear hx1 hn r1 r2 r3
  go_enter Try.func6, Try.ntmps6
  go_wp2_with fail
  refine (short2_any A1 l1.length k1 n w HN.out hc1).mono ?_
  rintro e w' ⟨rfl, rfl⟩
  go_upto_region 2 with fail
  go_cut [8, 9, 10] (fun a b c W => ∃ g1 g2 g3 : Nat, a = .slice (some ⟨g1, 0, none⟩) n n ∧ b = .slice (some ⟨g2, 0, none⟩) n n ∧ c = .slice (some ⟨g3, 0, none⟩) n n ∧ g1 ≠ g2 ∧ g1 ≠ g3 ∧ g2 ≠ g3 ∧ w'.heap.size ≤ g1 ∧ w'.heap.size ≤ g2 ∧ w'.heap.size ≤ g3 ∧
    Blk W g1 5 (u8s (List.replicate n 0)) ∧ Blk W g2 5 (u8s (List.replicate n 0)) ∧ Blk W g3 5 (u8s (List.replicate n 0)) ∧ Below w'.heap.size w' W)
  case first =>
    generalize (u8s (List.replicate n 0)) = Z at *
    go_region
    all_goals (go_wp2_with fail; go_meet)
    all_goals
      obtain ⟨t0, t1, t2, tb⟩ := trio w' 5 Z
      exact ⟨_, _, _, rfl, rfl, rfl, by omega, by omega, by omega, by omega, by omega, by omega, by first | exact t0 | exact t1 | exact t2, by first | exact t0 | exact t1 | exact t2, by first | exact t0 | exact t1 | exact t2, tb⟩
  case rest =>
    obtain ⟨g1, g2, g3, rfl, rfl, rfl, h12, h13, h23, hg1, hg2, hg3, hB1, hB2, hB3, hb⟩ := hcut
    have hp : ∀ b : List UInt8, u8s (b.take n) ++ (u8s (List.replicate n 0)).drop (b.take n).length = u8s (padTo b n) := fun b => by
      rw [u8s_drop, ← u8s_app, padTo]; simp
    obtain ⟨m1, hcp1⟩ := run_copy_min g1 n k2 A2 l2 _ wc ((HR2.out.below hb)) hB1
    rw [hp] at hcp1
    have hB1' := hB1.row (u8s (padTo l2 n))
    have hB2' := hB2.rowFar (g' := g1) (Ne.symm h12) (u8s (padTo l2 n)).toArray
    have hB3' := hB3.rowFar (g' := g1) (Ne.symm h13) (u8s (padTo l2 n)).toArray
    have hb' : Below w'.heap.size w' (wc.setRow g1 (u8s (padTo l2 n)).toArray) := below_setRow hb hg1 _
    generalize wc.setRow g1 (u8s (padTo l2 n)).toArray = wd at *
    obtain ⟨m2, hcp2⟩ := run_copy_min g2 n k3 A3 l3 _ wd ((HR3.out.below hb')) hB2'
    rw [hp] at hcp2
    have hB2'' := hB2'.row (u8s (padTo l3 n))
    have hB1'' := hB1'.rowFar (g' := g2) h12 (u8s (padTo l3 n)).toArray
    have hB3'' := hB3'.rowFar (g' := g2) (Ne.symm h23) (u8s (padTo l3 n)).toArray
    have hb'' : Below w'.heap.size w' (wd.setRow g2 (u8s (padTo l3 n)).toArray) := below_setRow hb' hg2 _
    generalize wd.setRow g2 (u8s (padTo l3 n)).toArray = we at *
    have hy := padTo_len l2 n
    have hz := padTo_len l3 n
    generalize padTo l2 n = y at *
    generalize padTo l3 n = z at *
    have HK1 := Lib.hid hB1''
    have HK2 := Lib.hid hB2''
    have HK3 := Lib.hid hB3''
    have HB := Lib.hid hb''
    have HY := Lib.hid hy
    have HZ := Lib.hid hz
    have HG1 := Lib.hid hg1
    have HG2 := Lib.hid hg2
    have HG3 := Lib.hid hg3
    have H13 := Lib.hid h13
    have H23 := Lib.hid h23
    clear hB1 hB2 hB3 hB1' hB2' hB3' hB1'' hB2'' hB3'' hb hb' hb'' hy hz hmk hp hg1 hg2 hg3 h12 h13 h23
    go_wp2
    obtain ⟨T, hT⟩ : ∃ T, List.zipWith (· ^^^ ·) (List.zipWith (· ^^^ ·) x1 y) z = T := ⟨_, rfl⟩
    have hTl : T.length = n := by rw [← hT, List.length_zipWith, List.length_zipWith, HX1.out, HY.out, HZ.out]; omega
    have HT := Lib.hid hT
    have HTl := Lib.hid hTl
    clear hT hTl hcp1 hcp2
    go_loopw [11] (fun i W => ∃ k : Nat, k ≤ n ∧ i = .int .i64 k ∧ Blk W g1 5 (u8s y) ∧ Blk W g2 5 (u8s z) ∧ Blk W g3 5 (u8s (T.take k ++ List.replicate (n - k) 0)) ∧ Below w'.heap.size w' W) (fun i _ => n - (intOf i).toNat)
    case atStart => exact ⟨0, by omega, rfl, HK1.out, HK2.out, by simpa using HK3.out, HB.out⟩
    case round =>
      obtain ⟨k, hk, rfl, hb1, hb2, hb3, hbl⟩ := hrel
      by_cases hlt : k < n
      · have hkx : k < x1.length := by rw [HX1.out]; exact hlt
        have hky : k < y.length := by rw [HY.out]; exact hlt
        have hkz : k < z.length := by rw [HZ.out]; exact hlt
        have hkT : k < T.length := by rw [HTl.out]; exact hlt
        obtain ⟨b0, o0, rfl, hcx⟩ : ∃ b o, A1 = some ⟨b, o, none⟩ ∧ wr.cell? ⟨b, o + k, none⟩ = some (.int .u8 ((x1[k]).toNat : Int)) := by
          rcases HR1.out with rfl | ⟨b, o, e, hbb, hcc⟩
          · simp at hkx
          · exact ⟨b, o, e, (hbl.cell (p := ⟨b, _, none⟩) hbb).trans (hcc k _ (List.getElem?_eq_getElem hkx))⟩
        have hcy : wr.cell? ⟨g1, k, none⟩ = some (.int .u8 ((y[k]).toNat : Int)) := by rw [hb1.cell, u8s_get, List.getElem?_eq_getElem hky]; rfl
        have hcz : wr.cell? ⟨g2, k, none⟩ = some (.int .u8 ((z[k]).toNat : Int)) := by rw [hb2.cell, u8s_get, List.getElem?_eq_getElem hkz]; rfl
        have hlen : k < (u8s (T.take k ++ List.replicate (n - k) 0)).length := by rw [u8s_len]; simp; omega
        obtain ⟨v0, hcw⟩ : ∃ v0, wr.cell? ⟨g3, k, none⟩ = some v0 := ⟨_, by rw [hb3.cell, List.getElem?_eq_getElem hlen]⟩
        have hfz := hb3.frozen k
        have hTk : T[k] = x1[k] ^^^ y[k] ^^^ z[k] := by
          have := HT.out
          subst this
          simp
        have hx1' := xor8 x1[k] y[k]
        have hx2' := xor8 (x1[k] ^^^ y[k]) z[k]
        rw [← hTk] at hx2'
        obtain ⟨cx, ex⟩ : ∃ c, ((x1[k]).toNat : Int) = c := ⟨_, rfl⟩
        obtain ⟨cy, ey⟩ : ∃ c, ((y[k]).toNat : Int) = c := ⟨_, rfl⟩
        obtain ⟨cz, ez⟩ : ∃ c, ((z[k]).toNat : Int) = c := ⟨_, rfl⟩
        obtain ⟨cxy, exy⟩ : ∃ c, ((x1[k] ^^^ y[k]).toNat : Int) = c := ⟨_, rfl⟩
        obtain ⟨ct, et⟩ : ∃ c, ((T[k]).toNat : Int) = c := ⟨_, rfl⟩
        rw [ex] at hcx hx1'
        rw [ey] at hcy hx1'
        rw [ez] at hcz hx2'
        rw [exy] at hx1' hx2'
        rw [et] at hx2'
        have hset := hb3.set_ k (.int .u8 ct)
        have hnew : (u8s (T.take k ++ List.replicate (n - k) 0)).set k (.int .u8 ct) = u8s (T.take (k + 1) ++ List.replicate (n - (k + 1)) 0) := by
          rw [← et, List.take_succ_eq_append_getElem hkT, show n - k = (n - (k + 1)) + 1 from by omega, List.replicate_succ, u8s_app]
          have hl : (u8s (T.take k)).length = k := by rw [u8s_len, List.length_take]; omega
          have := set_mid (u8s (T.take k)) (u8s (List.replicate (n - (k + 1)) 0)) (.int .u8 ((0 : UInt8).toNat : Int)) (.int .u8 ((T[k]).toNat : Int))
          rw [hl] at this
          rw [show u8s (0 :: List.replicate (n - (k + 1)) 0) = Value.int .u8 ((0 : UInt8).toNat : Int) :: u8s (List.replicate (n - (k + 1)) 0) from rfl, this, List.append_assoc, u8s_app]
          rfl
        rw [hnew] at hset
        have HS3 := Lib.hid hset
        have HS1 := Lib.hid (hb1.far (p := ⟨g3, k, none⟩) H13.out (.int .u8 ct))
        have HS2 := Lib.hid (hb2.far (p := ⟨g3, k, none⟩) H23.out (.int .u8 ct))
        have HSb := Lib.hid (hbl.setCell (p := ⟨g3, k, none⟩) HG3.out (.int .u8 ct))
        clear hset hnew ex ey ez exy et hTk hlen hb1 hb2 hb3 hbl hkx hky hkz hkT
        go_wp2
        go_region
        all_goals (try go_wp2)
        all_goals exact ⟨⟨k + 1, by omega, by go_num, HS1.out.drew, HS2.out.drew, HS3.out.drew, HSb.out.drew⟩, by simp [intOf]; omega⟩
      · obtain rfl : k = n := by omega
        have hT3 : T.take k ++ List.replicate (k - k) 0 = T := by rw [List.take_of_length_le (by rw [HTl.out]; omega)]; simp
        rw [hT3] at hb3
        have hml := more_lin 0#32 x1 y z (by rw [HX1.out, HY.out]) (by rw [HX1.out, HZ.out])
        rw [HT.out] at hml
        have hxa := xor32 (more 0#32 x1) (more 0#32 y)
        have hxb := xor32 (more 0#32 x1 ^^^ more 0#32 y) (more 0#32 z)
        rw [← hml] at hxb
        obtain ⟨mx, ex⟩ : ∃ v, ((more 0#32 x1).toNat : Int) = v := ⟨_, rfl⟩
        obtain ⟨my, ey⟩ : ∃ v, ((more 0#32 y).toNat : Int) = v := ⟨_, rfl⟩
        obtain ⟨mz, ez⟩ : ∃ v, ((more 0#32 z).toNat : Int) = v := ⟨_, rfl⟩
        obtain ⟨mxy, exy⟩ : ∃ v, ((more 0#32 x1 ^^^ more 0#32 y).toNat : Int) = v := ⟨_, rfl⟩
        obtain ⟨mT, eT⟩ : ∃ v, ((more 0#32 T).toNat : Int) = v := ⟨_, rfl⟩
        rw [ex, ey, exy] at hxa
        rw [exy, ez, eT] at hxb
        have EX := Lib.hid ex
        have EY := Lib.hid ey
        have EZ := Lib.hid ez
        have ET := Lib.hid eT
        clear ex ey ez exy eT
        have HQ1 := Lib.hid hb1
        have HQ2 := Lib.hid hb2
        have HQ3 := Lib.hid hb3
        have HQ := Lib.hid hbl
        clear hb1 hb2 hb3 hbl hT3 hml
        go_wp2_with fail
        refine (awake2_any wr).mono ?_
        rintro e w4 ⟨rfl, hb4⟩
        have HB4 := bb HQ hb4
        have HQ14 := Lib.hid (HQ1.out.below hb4 HQ1.out.lt)
        have HQ24 := Lib.hid (HQ2.out.below hb4 HQ2.out.lt)
        have HQ34 := Lib.hid (HQ3.out.below hb4 HQ3.out.lt)
        clear hb4
        go_wp2_with fail
        refine (of1 _ T k k _ w4 rfl HTl.out.symm (Rd.of_all HQ34.out) (by rw [HTl.out]; omega)).mono ?_
        rw [ET.out]
        rintro e w5 ⟨rfl, rfl⟩
        have HB5 := Lib.hid (HB4.out.alloc HB4.out.size (.cells #[.slice (some ⟨g3, 0, none⟩) k k] 23))
        have HQ15 := Lib.hid (HQ14.out.alloc (.cells #[.slice (some ⟨g3, 0, none⟩) k k] 23))
        have HQ25 := Lib.hid (HQ24.out.alloc (.cells #[.slice (some ⟨g3, 0, none⟩) k k] 23))
        generalize w4.alloc (.cells #[.slice (some ⟨g3, 0, none⟩) k k] 23) = w5 at *
        go_wp2_with fail
        refine (of1 A1 x1 k k1 _ w5 rfl HX1.out.symm ((HR1.out.below HB5.out).more HB5.out.size) (by rw [HX1.out]; omega)).mono ?_
        rw [EX.out]
        rintro e w6 ⟨rfl, rfl⟩
        have HB6 := Lib.hid (HB5.out.alloc HB5.out.size (.cells #[.slice A1 k k1] 23))
        have HQ16 := Lib.hid (HQ15.out.alloc (.cells #[.slice A1 k k1] 23))
        have HQ26 := Lib.hid (HQ25.out.alloc (.cells #[.slice A1 k k1] 23))
        generalize w5.alloc (.cells #[.slice A1 k k1] 23) = w6 at *
        go_wp2_with fail
        refine (of1 _ y k k _ w6 rfl HY.out.symm (Rd.of_all HQ16.out) (by rw [HY.out]; omega)).mono ?_
        rw [EY.out]
        rintro e w7 ⟨rfl, rfl⟩
        have HB7 := Lib.hid (HB6.out.alloc HB6.out.size (.cells #[.slice (some ⟨g1, 0, none⟩) k k] 23))
        have HQ27 := Lib.hid (HQ26.out.alloc (.cells #[.slice (some ⟨g1, 0, none⟩) k k] 23))
        generalize w6.alloc (.cells #[.slice (some ⟨g1, 0, none⟩) k k] 23) = w7 at *
        go_wp2_with fail
        refine (of1 _ z k k _ w7 rfl HZ.out.symm (Rd.of_all HQ27.out) (by rw [HZ.out]; omega)).mono ?_
        rw [EZ.out]
        rintro e w8 ⟨rfl, rfl⟩
        have HB8 := Lib.hid (HB7.out.alloc HB7.out.size (.cells #[.slice (some ⟨g2, 0, none⟩) k k] 23))
        generalize w7.alloc (.cells #[.slice (some ⟨g2, 0, none⟩) k k] 23) = w8 at *
        go_wp2
        go_ret
        exact ⟨by simp, HB8.out⟩

set_option maxRecDepth 100000 in
theorem crclinear_lifted (os : Os) (started : os.Started) (H : Type) (enc : TypeId × Value → H) :
    ReturnsInHanded {} Try.checked os 6 .any (Rows.crcLinearSpec.pre6 enc Try.prog Try.f6 Rows.crcLinearRow.domain false) (Rows.crcLinearSpec.post enc Try.prog Try.f6 false true false false) := by
  refine returnsInHanded_of_change (C := Try.checked) own started (by kernel_rfl) Try.func6
    (ChangeSpec.witness6 (enc := enc) (C := Try.checked) false ⟨#[], #[.slice none 0 0, .slice none 0 0, .slice none 0 0], []⟩ 8 (by kernel_rfl) (by kernel_rfl) (by kernel_rfl) (by kernel_rfl)) ?_
  intro W base args ds gs before hval0 hW hcnd _
  have hval : ∀ (j : Nat) t v, Try.f6.params[j]? = some t → args[j]? = some v → Value.okWide Try.prog W .any base t v := hval0
  have hW' := hW
  obtain ⟨p, q, hA0, hV, rfl, hfz, hnd⟩ := hW
  have hA : DataW.TrodAll enc Try.prog W 0 (fun _ => true) true Try.f6.params.toList args.toList ds p := hA0
  rw [Try.params6] at hA hval
  obtain ⟨v0, vs0, d0, ds0, p0, q0, hargs, rfl, rfl, h0, r0⟩ := trodAll_cons hA
  obtain ⟨v1, vs1, d1, ds1, p1, q1, rfl, rfl, rfl, h1, r1⟩ := trodAll_cons r0
  obtain ⟨v2, vs2, d2, ds2, p2, q2, rfl, rfl, rfl, h2, r2⟩ := trodAll_cons r1
  obtain ⟨rfl, rfl, rfl⟩ := trodAll_nil r2
  obtain rfl : args = #[v0, v1, v2] := by cases args; simp_all
  obtain ⟨rfl, rfl⟩ := trodVars_none hV
  obtain ⟨A1, l1, k1, rfl, hc1, s1⟩ := open_bytes Try.und22 Try.und5 (by kernel_rfl) (hval 0 23 v0 rfl rfl) h0
  obtain ⟨A2, l2, k2, rfl, hc2, s2⟩ := open_bytes Try.und22 Try.und5 (by kernel_rfl) (hval 1 23 v1 rfl rfl) h1
  obtain ⟨A3, l3, k3, rfl, hc3, s3⟩ := open_bytes Try.und22 Try.und5 (by kernel_rfl) (hval 2 23 v2 rfl rfl) h2
  refine (crclinear_walk A1 A2 A3 l1 l2 l3 (l1.take 200) k1 k2 k3 _ W hc1 rfl (by rw [List.length_take]; omega) (s1.take 200) s2 s3).mono fun e W' ⟨he, hb⟩ => ?_
  subst he
  exact ⟨_, rfl, law_post laid (by kernel_rfl) rfl (by kernel_rfl) Try.underlying4 hW' rfl hb⟩

theorem crclinear_holds : Rows.CrcLinearSaid :=
  OpenClaim.holds_of_wide 6 Try.f6 rfl rfl rfl rfl rfl rfl rfl ⟨rfl, rfl, rfl, rfl, rfl⟩ rfl rfl rfl rfl rfl (by kernel_rfl) Try.func6 (by kernel_rfl)
    (of_decide_eq_true (by kernel_rfl)) (by unfold Func.isWrapper; first | (rw [if_pos (by decide +kernel)]; kernel_rfl) | (rw [if_neg (by decide +kernel)]; exact ⟨rfl, rfl⟩))
    (fun os started H enc _ => crclinear_lifted os started H enc)
#print axioms crclinear_holds
end Go.Proofs.Ytildnmlcildaoaa
