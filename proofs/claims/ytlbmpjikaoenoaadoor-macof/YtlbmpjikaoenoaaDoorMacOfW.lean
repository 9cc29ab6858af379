/-
  Layer 6: MacOf, walked from the contract of mac's functions.
-/
import Derived.Test.YtlbmpjikaoenoaaDoorMacAw
import Derived.Test.YtlbmpjikaoenoaaDoorMacRef
namespace Go.Proofs.YtlbmpjikaoenoaaDoor
open Go.ChangeShapes Go.WideShapes Go.ChangeAt Go.RowKit Go.Gar

/-- The world behind 'x := f()', a digest. -/
def laid1' (w : World) (x : List Value) : World := (w.alloc (.cells z32.toArray 23)).setRow w.heap.size x.toArray
theorem l1_0' (w : World) : Blk (w.alloc (.cells z32.toArray 23)) w.heap.size 23 z32 := Blk.new w _ z32
theorem l1_t' (w : World) (x : List Value) : Blk (laid1' w x) w.heap.size 23 x := (l1_0' w).row x
theorem l1_below' (w : World) (x : List Value) : Below w.heap.size w (laid1' w x) := below_setRow (below_alloc w _) (Nat.le_refl _) _
/-- string(x[:]) of a digest, in every world in which its block stays. -/
theorem string_stays {w : World} {g : Nat} {t : TypeId} {k : List UInt8} (h : Blk w g t (u8s k)) (hl : k.length = 32) :
    ∀ x : Later (stays g) w, (convert 22 9 (.slice (some ⟨g, 0, none⟩) 32 32)).run Tryd.prog x.to = .ok (.string ⟨k.toArray⟩) x.to := by
  intro x
  have hx : x.to.heap[g]? = w.heap[g]? := x.grown
  have hb : Blk x.to g t (u8s k) := hx.trans h
  have := run_string_rd (P := Tryd.prog) 22 9 5 Tryd.und22 Tryd.und5 Tryd.und9 _ _ _ 32 (Rd.of_all hb)
  rw [hl] at this
  exact this
/-- What lies in memory: what lay when the call began; the digest. -/
structure MS (w0 W : World) (gx : Nat) (D : List UInt8) : Prop where
  t : Blk W gx 23 (u8s D)
  gx0 : w0.heap.size ≤ gx
  below : Below w0.heap.size w0 W
theorem MS.on {w0 W W' : World} {gx : Nat} {D : List UInt8} (h : MS w0 W gx D) (hb : Below W.heap.size W W') : MS w0 W' gx D :=
  ⟨h.t.below hb h.t.lt, h.gx0, h.below.trans (hb.mono h.below.size)⟩
theorem MS.stay {w0 W W' : World} {gx : Nat} {D : List UInt8} (h : MS w0 W gx D) (hb : Below W.heap.size W W') : (stays gx).rel W W' := hb.block gx h.t.lt
/-- A row of the call's own beside the digest and the reference's sums. -/
structure ES (w0 W : World) (gx bk bh : Nat) (D : List UInt8) (rk rh : List Value) (v : Value) (l : List UInt8) : Prop where
  s : MS w0 W gx D
  k : Blk W bk 43 (u32s Sha.kL ++ rk)
  h : Blk W bh 43 (u32s Sha.hL ++ rh)
  own : OwnB W w0.heap.size 5 v l
  ne : ∀ g, v.ownBlock = some g → g ≠ gx ∧ g ≠ bk ∧ g ≠ bh
theorem ES.app {w0 W : World} {gx bk bh : Nat} {D : List UInt8} {rk rh : List Value} {v : Value} {l : List UInt8} (h : ES w0 W gx bk bh D rk rh v l) {A : Option Addr} {x : List UInt8} (n c : Nat) (hn : n = x.length) (hr : Rd w0 w0.heap.size A x) (hl : l.length + x.length ≤ 1000000) :
    ∃ v' W', (Builtin.append_ #[22, 22] 22 #[v, .slice A n c]).run Tryd.prog W = .ok v' W' ∧ ES w0 W' gx bk bh D rk rh v' (l ++ x) ∧ (stays gx).rel W W' := by
  obtain ⟨v', W', a1, a2, a3, a4⟩ := app_at (P := Tryd.prog) 22 22 Tryd.und22 Tryd.info5 h.own h.s.below.size n c hn (hr.below h.s.below) (by omega)
  have far : ∀ {g : Nat} {t : TypeId} {cs : List Value}, Blk W g t cs → (∀ q, v.ownBlock = some q → q ≠ g) → Blk W' g t cs := fun hb hq => hb.grown a3 (fun e => hq _ e.symm rfl)
  refine ⟨v', W', a1, ⟨⟨far h.s.t (fun q hq => (h.ne q hq).1), h.s.gx0, h.s.below.grown a3 h.s.below.size (fun q hq => (h.own.block_lt hq).1)⟩, far h.k (fun q hq => (h.ne q hq).2.1), far h.h (fun q hq => (h.ne q hq).2.2), a2, fun q hq => ?_⟩, a3.block gx h.s.t.lt (fun e => (h.ne gx e.symm).1 rfl)⟩
  rcases a4 with e | e
  · exact h.ne q (e.symm.trans hq)
  · have e1 := Option.some.inj (hq.symm.trans e)
    have h1 := h.s.t.lt
    have h2 := h.k.lt
    have h3 := h.h.lt
    omega
theorem own_on {W W' : World} {base : Nat} {v : Value} {k : List UInt8} (h : OwnB W base 5 v k) (hb : Below W.heap.size W W') : OwnB W' base 5 v k := h.keep fun g hg => hb.block g (h.block_lt hg).2

set_option maxHeartbeats 4000000 in
set_option maxRecDepth 100000 in
theorem macof_walk {G : World → Prop} (hOK : MacOK G) (K A B : Option Addr) (lk la lb xk xa xb : List UInt8) (ck ca cb mk ma mb : Nat) (w : World) (hG : G w) (hck : lk.length ≤ ck) (hca : la.length ≤ ca) (hcb : lb.length ≤ cb)
    (hxk : xk.length = mk) (hxa : xa.length = ma) (hxb : xb.length = mb) (hmk : mk = min lk.length 300) (hma : ma = min la.length 300) (hmb : mb = min lb.length 300)
    (rk : Rd w w.heap.size K xk) (ra : Rd w w.heap.size A xa) (rb : Rd w w.heap.size B xb) :
    Calls Tryd.prog 3 #[.slice K lk.length ck, .slice A la.length ca, .slice B lb.length cb] w fun e w' => e = .returned (.bool true) ∧ Below w.heap.size w w' := by
  have bk : mk ≤ 300 := by omega
  have ba : ma ≤ 300 := by omega
  have bb' : mb ≤ 300 := by omega
  have dk : mk ≤ ck := by omega
  have da : ma ≤ ca := by omega
  have db : mb ≤ cb := by omega
  obtain ⟨D, hD⟩ : ∃ D, D = Mac.of xk (xa ++ xb) := ⟨_, rfl⟩
  have HD := Lib.hid hD
  have hDl : D.length = 32 := by rw [hD]; exact Mac.of_len _ _
  have HDl := Lib.hid hDl
  have HXk := Lib.hid hxk
  have HXa := Lib.hid hxa
  have HXb := Lib.hid hxb
  have HMk := Lib.hid hmk
  have HMa := Lib.hid hma
  have HMb := Lib.hid hmb
  have HRk := Lib.hid rk
  have HRa := Lib.hid ra
  have HRb := Lib.hid rb
  have HOK := Lib.hid hOK
  have HG := Lib.hid hG
  clear hD hDl hxk hxa hxb hmk hma hmb rk ra rb hOK hG
  go_enter Tryd.func3, Tryd.ntmps3
  go_wp2_with fail
  refine (short6_any K lk.length ck mk w HMk.out hck).mono ?_
  rintro e w' ⟨rfl, rfl⟩
  go_wp2_with fail
  refine (short6_any A la.length ca ma w' HMa.out hca).mono ?_
  rintro e w'' ⟨rfl, rfl⟩
  go_wp2_with fail
  refine (short6_any B lb.length cb mb w'' HMb.out hcb).mono ?_
  rintro e w ⟨rfl, rfl⟩
  go_wp2_with fail
  refine (mac2 HOK.out K A B xk xa xb mk ck ma mb ca cb _ w (u8s D).toArray (by rw [HD.out]) HG.out rfl HXk.out.symm HXa.out.symm HXb.out.symm (by rw [HXk.out]; exact dk) HRk.out HRa.out HRb.out (by rw [HXk.out]; omega) (by rw [List.length_append, HXa.out, HXb.out]; omega) (by rw [HXa.out]; exact da) (by rw [HXb.out]; exact db)).mono ?_
  rintro e w2 ⟨rfl, hb2⟩
  have HDs : Hid ((Tryd.prog.info? 23).map (·.size) = some (u8s D).length) := Lib.hid (size_32 _ HDl.out)
  have HDz : Hid (z32.length = (u8s D).length) := Lib.hid (by rw [u8s_len, HDl.out, z32_len])
  have HD1 : Hid (∀ u ∈ u8s D, u.oneCell' = true) := Lib.hid (u8s_one _)
  have hb3 := hb2.trans ((l1_below' w2 (u8s D)).mono hb2.size)
  have HM := Lib.hid (show MS w (laid1' w2 (u8s D)).drew w2.heap.size D from ⟨(l1_t' w2 (u8s D)).drew, hb2.size, hb3.drew⟩)
  clear hb2 hb3
  go_wp2_with (first | refine wpList_alloc_arr rfl 23 z32.toArray rfl zero_32 ?_ | (refine wpList_store_arr rfl 23 (.tmp 7) (.tmp 15) w2.heap.size z32 (u8s D) rfl rfl rfl rfl (l1_0' w2) HDs.out HDz.out HD1.out ?_; rw [show (w2.alloc (.cells z32.toArray 23)).setRow w2.heap.size (u8s D).toArray = laid1' w2 (u8s D) from rfl]))
  refine wp_region_G (stays w2.heap.size) (by kernel_rfl) ?_
  generalize w2.heap.size = gx at HM ⊢
  generalize (laid1' w2 (u8s D)).drew = wa at HM ⊢
  clear HDs HDz HD1
  refine oneG 0 18 rfl (by kernel_rfl) rfl ?_
  go_wp2_with fail
  refine (awake6_any HOK.out wa (HOK.out.keep HG.out HM.out.below)).mono ?_
  rintro e wb ⟨rfl, hb⟩
  have HS := Lib.hid (HM.out.on hb)
  have hst := HM.out.stay hb
  clear hb HM
  go_wp2
  refine ⟨hst, ?_⟩
  clear hst
  have hs6 := string_stays HS.out.t HDl.out
  refine segG (by kernel_rfl) (fun _ _ _ _ _ h => h) [1, 2, 3, 5, 8, 11] [_, _, _, _, _, _] 12 rfl rfl (by kernel_rfl) ?_
  repeat (go_big_quiet_step (fail))
  refine wpQuiet_nil ?_
  clear hs6
  refine twoG 4 7 11 rfl (by kernel_rfl) rfl rfl ?_ ?_
  · go_wp2_with fail
    refine (refNew5_any wb).mono ?_
    rintro e wp1 ⟨vk, vh, rfl, hok, hoh, hb⟩
    have hkl : (u32s Sha.kL).length = 64 := by rw [u32s_len, Sha.kL_len]
    have hhl : (u32s Sha.hL).length = 8 := by rw [u32s_len, Sha.hL_len]
    obtain ⟨bk, cK, restk, hvk, hbk, -, hBk⟩ := hok.blk (by rw [hkl]; omega)
    obtain ⟨bh, cH, resth, hvh, hbh, -, hBh⟩ := hoh.blk (by rw [hhl]; omega)
    rw [hkl] at hvk
    rw [hhl] at hvh
    subst hvk
    subst hvh
    have S1 := Lib.hid (HS.out.on hb)
    have NK1 := Lib.hid hBk
    have NH1 := Lib.hid hBh
    have hst := HS.out.stay hb
    clear hok hoh hkl hhl hb hbk hbh hBk hBh
    go_wp2
    refine ⟨hst, ?_⟩
    clear hst
    refine twoG 6 7 10 rfl (by kernel_rfl) rfl rfl ?_ ?_
    · go_wp2_with fail
      refine (short6_any K lk.length ck mk wp1 HMk.out hck).mono ?_
      rintro e wp2 ⟨rfl, rfl⟩
      go_wp2
      refine ⟨(stays gx).refl _, ?_⟩
      refine twoG 7 9 9 rfl (by kernel_rfl) rfl rfl ?_ ?_
      · have S3 := Lib.hid (S1.out.on (below_alloc wp2 (.cells #[] 5)))
        have hst := S1.out.stay (below_alloc wp2 (.cells #[] 5))
        have O3 := Lib.hid (own_made wp2 w.heap.size 5 S1.out.below.size)
        have OX3 : Hid (wp2.heap.size ≠ gx) := Lib.hid (by have := S1.out.t.lt; omega)
        have NK3 := Lib.hid (NK1.out.alloc (.cells #[] 5))
        have NH3 := Lib.hid (NH1.out.alloc (.cells #[] 5))
        have ON3 : Hid (wp2.heap.size ≠ bk ∧ wp2.heap.size ≠ bh) := Lib.hid (by have := NK1.out.lt; have := NH1.out.lt; omega)
        go_wp2
        refine ⟨hst, ?_⟩
        clear hst
        generalize wp2.heap.size = g7 at O3 OX3 ON3 ⊢
        generalize wp2.alloc (.cells #[] 5) = wp3 at S3 O3 NK3 NH3 ⊢
        refine oneG 9 8 rfl (by kernel_rfl) rfl ?_
        go_wp2_with fail
        refine (short6_any A la.length ca ma wp3 HMa.out hca).mono ?_
        rintro e wp4 ⟨rfl, rfl⟩
        go_wp2
        refine ⟨(stays gx).refl _, ?_⟩
        have E0 := Lib.hid (show ES w wp4 gx bk bh D restk resth (.slice (some ⟨g7, 0, none⟩) 0 0) [] from ⟨S3.out, NK3.out, NH3.out, O3.out, fun g hg => by have e := Option.some.inj hg; subst e; exact ⟨OX3.out, ON3.out⟩⟩)
        obtain ⟨v1, wr1, e1, E1, s1⟩ := E0.out.app ma ca HXa.out.symm HRa.out (by rw [HXa.out]; simp; omega)
        obtain ⟨v2, wr2, e2, E2, s2⟩ := E1.app mb cb HXb.out.symm HRb.out (by rw [List.nil_append, HXa.out, HXb.out]; omega)
        rw [List.nil_append] at E2
        have hXl : (xa ++ xb).length = ma + mb := by rw [List.length_append, HXa.out, HXb.out]
        obtain ⟨A4, k4, hv4, r4⟩ := E2.own.rd
        rw [hXl] at hv4
        subst hv4
        have HE2 := Lib.hid E2
        have HR4 := Lib.hid r4
        have HXl := Lib.hid hXl
        clear E1 E2 r4 hXl
        refine oneG 10 7 rfl (by kernel_rfl) rfl ?_
        go_wp2_with (at_builtin; refine wpList_append_run_w (.tmp 23) (.tmp 25) _ rfl rfl rfl e1 (by kernel_rfl) ?_)
        refine ⟨s1, ?_⟩
        clear e1 s1
        simp only [Act.put, List.setIfInBounds_toArray, List.set]
        refine oneG 12 6 rfl (by kernel_rfl) rfl ?_
        go_wp2_with fail
        refine (short6_any B lb.length cb mb wr1 HMb.out hcb).mono ?_
        rintro e wr1' ⟨rfl, rfl⟩
        go_wp2
        refine ⟨(stays gx).refl _, ?_⟩
        refine oneG 13 5 rfl (by kernel_rfl) rfl ?_
        go_wp2_with (at_builtin; refine wpList_append_run_w (.tmp 26) (.tmp 28) _ rfl rfl rfl e2 (by kernel_rfl) ?_)
        refine ⟨s2, ?_⟩
        clear e2 s2
        simp only [Act.put, List.setIfInBounds_toArray, List.set]
        refine oneG 14 4 rfl (by kernel_rfl) rfl ?_
        go_wp2_with fail
        refine (refOf6_any wr2 (some ⟨bk, 0, none⟩) (some ⟨bh, 0, none⟩) cK cH K A4 xk (xa ++ xb) mk (ma + mb) ck k4 (RdV.of_blk HE2.out.k HE2.out.k.lt) (RdV.of_blk HE2.out.h HE2.out.h.lt) HXk.out.symm HXl.out.symm ((HRk.out.below HE2.out.s.below).more HE2.out.s.below.size) HR4.out (by rw [HXk.out]; omega) (by rw [HXl.out]; omega)).mono ?_
        rintro e wr3 ⟨vo, rfl, hoo, hb⟩
        rw [← HD.out] at hoo
        obtain ⟨AO, cO, hvo, hro⟩ := hoo.rd
        rw [HDl.out] at hvo
        subst hvo
        have hs8 := string_later_rd hro cO
        rw [HDl.out] at hs8
        have hs9 := hs8 ⟨wr3, grows.refl _⟩
        simp only at hs9
        have hst := HE2.out.s.stay hb
        have HB8 := Lib.hid (HE2.out.s.below.trans (hb.mono HE2.out.s.below.size))
        clear hb hoo hro hs8
        go_wp2
        refine ⟨hst, ?_⟩
        clear hst
        refine oneG 15 3 rfl (by kernel_rfl) rfl ?_
        go_wp2
        refine ⟨(stays gx).refl _, ?_⟩
        clear hs9
        refine oneG 16 2 rfl (by kernel_rfl) rfl ?_
        go_wp2
        refine ⟨(stays gx).refl _, ?_⟩
        refine oneG 17 1 rfl (by kernel_rfl) rfl ?_
        go_wp2
        refine ⟨(stays gx).refl _, ?_⟩
        refine oneG 18 0 rfl (by kernel_rfl) rfl ?_
        go_wp2
        refine ⟨(stays gx).refl _, ?_⟩
        refine wpAnyG_done (by kernel_rfl) ?_
        go_wp2
        go_ret
        exact ⟨by simp, HB8.out⟩
      · go_wp2_with fail
        refine (short6_any A la.length ca ma wp2 HMa.out hca).mono ?_
        rintro e wp3 ⟨rfl, rfl⟩
        go_wp2
        refine ⟨(stays gx).refl _, ?_⟩
        refine oneG 7 8 rfl (by kernel_rfl) rfl ?_
        have S4 := Lib.hid (S1.out.on (below_alloc wp3 (.cells #[] 5)))
        have hst := S1.out.stay (below_alloc wp3 (.cells #[] 5))
        have O4 := Lib.hid (own_made wp3 w.heap.size 5 S1.out.below.size)
        have OX4 : Hid (wp3.heap.size ≠ gx) := Lib.hid (by have := S1.out.t.lt; omega)
        have NK4 := Lib.hid (NK1.out.alloc (.cells #[] 5))
        have NH4 := Lib.hid (NH1.out.alloc (.cells #[] 5))
        have ON4 : Hid (wp3.heap.size ≠ bk ∧ wp3.heap.size ≠ bh) := Lib.hid (by have := NK1.out.lt; have := NH1.out.lt; omega)
        go_wp2
        refine ⟨hst, ?_⟩
        clear hst
        generalize wp3.heap.size = g7 at O4 OX4 ON4 ⊢
        generalize wp3.alloc (.cells #[] 5) = wp4 at S4 O4 NK4 NH4 ⊢
        have E0 := Lib.hid (show ES w wp4 gx bk bh D restk resth (.slice (some ⟨g7, 0, none⟩) 0 0) [] from ⟨S4.out, NK4.out, NH4.out, O4.out, fun g hg => by have e := Option.some.inj hg; subst e; exact ⟨OX4.out, ON4.out⟩⟩)
        obtain ⟨v1, wr1, e1, E1, s1⟩ := E0.out.app ma ca HXa.out.symm HRa.out (by rw [HXa.out]; simp; omega)
        obtain ⟨v2, wr2, e2, E2, s2⟩ := E1.app mb cb HXb.out.symm HRb.out (by rw [List.nil_append, HXa.out, HXb.out]; omega)
        rw [List.nil_append] at E2
        have hXl : (xa ++ xb).length = ma + mb := by rw [List.length_append, HXa.out, HXb.out]
        obtain ⟨A4, k4, hv4, r4⟩ := E2.own.rd
        rw [hXl] at hv4
        subst hv4
        have HE2 := Lib.hid E2
        have HR4 := Lib.hid r4
        have HXl := Lib.hid hXl
        clear E1 E2 r4 hXl
        refine oneG 10 7 rfl (by kernel_rfl) rfl ?_
        go_wp2_with (at_builtin; refine wpList_append_run_w (.tmp 23) (.tmp 25) _ rfl rfl rfl e1 (by kernel_rfl) ?_)
        refine ⟨s1, ?_⟩
        clear e1 s1
        simp only [Act.put, List.setIfInBounds_toArray, List.set]
        refine oneG 12 6 rfl (by kernel_rfl) rfl ?_
        go_wp2_with fail
        refine (short6_any B lb.length cb mb wr1 HMb.out hcb).mono ?_
        rintro e wr1' ⟨rfl, rfl⟩
        go_wp2
        refine ⟨(stays gx).refl _, ?_⟩
        refine oneG 13 5 rfl (by kernel_rfl) rfl ?_
        go_wp2_with (at_builtin; refine wpList_append_run_w (.tmp 26) (.tmp 28) _ rfl rfl rfl e2 (by kernel_rfl) ?_)
        refine ⟨s2, ?_⟩
        clear e2 s2
        simp only [Act.put, List.setIfInBounds_toArray, List.set]
        refine oneG 14 4 rfl (by kernel_rfl) rfl ?_
        go_wp2_with fail
        refine (refOf6_any wr2 (some ⟨bk, 0, none⟩) (some ⟨bh, 0, none⟩) cK cH K A4 xk (xa ++ xb) mk (ma + mb) ck k4 (RdV.of_blk HE2.out.k HE2.out.k.lt) (RdV.of_blk HE2.out.h HE2.out.h.lt) HXk.out.symm HXl.out.symm ((HRk.out.below HE2.out.s.below).more HE2.out.s.below.size) HR4.out (by rw [HXk.out]; omega) (by rw [HXl.out]; omega)).mono ?_
        rintro e wr3 ⟨vo, rfl, hoo, hb⟩
        rw [← HD.out] at hoo
        obtain ⟨AO, cO, hvo, hro⟩ := hoo.rd
        rw [HDl.out] at hvo
        subst hvo
        have hs8 := string_later_rd hro cO
        rw [HDl.out] at hs8
        have hs9 := hs8 ⟨wr3, grows.refl _⟩
        simp only at hs9
        have hst := HE2.out.s.stay hb
        have HB8 := Lib.hid (HE2.out.s.below.trans (hb.mono HE2.out.s.below.size))
        clear hb hoo hro hs8
        go_wp2
        refine ⟨hst, ?_⟩
        clear hst
        refine oneG 15 3 rfl (by kernel_rfl) rfl ?_
        go_wp2
        refine ⟨(stays gx).refl _, ?_⟩
        clear hs9
        refine oneG 16 2 rfl (by kernel_rfl) rfl ?_
        go_wp2
        refine ⟨(stays gx).refl _, ?_⟩
        refine oneG 17 1 rfl (by kernel_rfl) rfl ?_
        go_wp2
        refine ⟨(stays gx).refl _, ?_⟩
        refine oneG 18 0 rfl (by kernel_rfl) rfl ?_
        go_wp2
        refine ⟨(stays gx).refl _, ?_⟩
        refine wpAnyG_done (by kernel_rfl) ?_
        go_wp2
        go_ret
        exact ⟨by simp, HB8.out⟩
    · have S2 := Lib.hid (S1.out.on (below_alloc wp1 (.cells #[] 5)))
      have hst := S1.out.stay (below_alloc wp1 (.cells #[] 5))
      have O2 := Lib.hid (own_made wp1 w.heap.size 5 S1.out.below.size)
      have OX2 : Hid (wp1.heap.size ≠ gx) := Lib.hid (by have := S1.out.t.lt; omega)
      have NK2 := Lib.hid (NK1.out.alloc (.cells #[] 5))
      have NH2 := Lib.hid (NH1.out.alloc (.cells #[] 5))
      have ON2 : Hid (wp1.heap.size ≠ bk ∧ wp1.heap.size ≠ bh) := Lib.hid (by have := NK1.out.lt; have := NH1.out.lt; omega)
      go_wp2
      refine ⟨hst, ?_⟩
      clear hst
      generalize wp1.heap.size = g7 at O2 OX2 ON2 ⊢
      generalize wp1.alloc (.cells #[] 5) = wp2 at S2 O2 NK2 NH2 ⊢
      refine oneG 6 9 rfl (by kernel_rfl) rfl ?_
      go_wp2_with fail
      refine (short6_any K lk.length ck mk wp2 HMk.out hck).mono ?_
      rintro e wp3 ⟨rfl, rfl⟩
      go_wp2
      refine ⟨(stays gx).refl _, ?_⟩
      refine oneG 9 8 rfl (by kernel_rfl) rfl ?_
      go_wp2_with fail
      refine (short6_any A la.length ca ma wp3 HMa.out hca).mono ?_
      rintro e wp4 ⟨rfl, rfl⟩
      go_wp2
      refine ⟨(stays gx).refl _, ?_⟩
      have E0 := Lib.hid (show ES w wp4 gx bk bh D restk resth (.slice (some ⟨g7, 0, none⟩) 0 0) [] from ⟨S2.out, NK2.out, NH2.out, O2.out, fun g hg => by have e := Option.some.inj hg; subst e; exact ⟨OX2.out, ON2.out⟩⟩)
      obtain ⟨v1, wr1, e1, E1, s1⟩ := E0.out.app ma ca HXa.out.symm HRa.out (by rw [HXa.out]; simp; omega)
      obtain ⟨v2, wr2, e2, E2, s2⟩ := E1.app mb cb HXb.out.symm HRb.out (by rw [List.nil_append, HXa.out, HXb.out]; omega)
      rw [List.nil_append] at E2
      have hXl : (xa ++ xb).length = ma + mb := by rw [List.length_append, HXa.out, HXb.out]
      obtain ⟨A4, k4, hv4, r4⟩ := E2.own.rd
      rw [hXl] at hv4
      subst hv4
      have HE2 := Lib.hid E2
      have HR4 := Lib.hid r4
      have HXl := Lib.hid hXl
      clear E1 E2 r4 hXl
      refine oneG 10 7 rfl (by kernel_rfl) rfl ?_
      go_wp2_with (at_builtin; refine wpList_append_run_w (.tmp 23) (.tmp 25) _ rfl rfl rfl e1 (by kernel_rfl) ?_)
      refine ⟨s1, ?_⟩
      clear e1 s1
      simp only [Act.put, List.setIfInBounds_toArray, List.set]
      refine oneG 12 6 rfl (by kernel_rfl) rfl ?_
      go_wp2_with fail
      refine (short6_any B lb.length cb mb wr1 HMb.out hcb).mono ?_
      rintro e wr1' ⟨rfl, rfl⟩
      go_wp2
      refine ⟨(stays gx).refl _, ?_⟩
      refine oneG 13 5 rfl (by kernel_rfl) rfl ?_
      go_wp2_with (at_builtin; refine wpList_append_run_w (.tmp 26) (.tmp 28) _ rfl rfl rfl e2 (by kernel_rfl) ?_)
      refine ⟨s2, ?_⟩
      clear e2 s2
      simp only [Act.put, List.setIfInBounds_toArray, List.set]
      refine oneG 14 4 rfl (by kernel_rfl) rfl ?_
      go_wp2_with fail
      refine (refOf6_any wr2 (some ⟨bk, 0, none⟩) (some ⟨bh, 0, none⟩) cK cH K A4 xk (xa ++ xb) mk (ma + mb) ck k4 (RdV.of_blk HE2.out.k HE2.out.k.lt) (RdV.of_blk HE2.out.h HE2.out.h.lt) HXk.out.symm HXl.out.symm ((HRk.out.below HE2.out.s.below).more HE2.out.s.below.size) HR4.out (by rw [HXk.out]; omega) (by rw [HXl.out]; omega)).mono ?_
      rintro e wr3 ⟨vo, rfl, hoo, hb⟩
      rw [← HD.out] at hoo
      obtain ⟨AO, cO, hvo, hro⟩ := hoo.rd
      rw [HDl.out] at hvo
      subst hvo
      have hs8 := string_later_rd hro cO
      rw [HDl.out] at hs8
      have hs9 := hs8 ⟨wr3, grows.refl _⟩
      simp only at hs9
      have hst := HE2.out.s.stay hb
      have HB8 := Lib.hid (HE2.out.s.below.trans (hb.mono HE2.out.s.below.size))
      clear hb hoo hro hs8
      go_wp2
      refine ⟨hst, ?_⟩
      clear hst
      refine oneG 15 3 rfl (by kernel_rfl) rfl ?_
      go_wp2
      refine ⟨(stays gx).refl _, ?_⟩
      clear hs9
      refine oneG 16 2 rfl (by kernel_rfl) rfl ?_
      go_wp2
      refine ⟨(stays gx).refl _, ?_⟩
      refine oneG 17 1 rfl (by kernel_rfl) rfl ?_
      go_wp2
      refine ⟨(stays gx).refl _, ?_⟩
      refine oneG 18 0 rfl (by kernel_rfl) rfl ?_
      go_wp2
      refine ⟨(stays gx).refl _, ?_⟩
      refine wpAnyG_done (by kernel_rfl) ?_
      go_wp2
      go_ret
      exact ⟨by simp, HB8.out⟩
  · have S1 := Lib.hid (HS.out.on (below_alloc wb (.cells #[] 5)))
    have hst := HS.out.stay (below_alloc wb (.cells #[] 5))
    have O1 := Lib.hid (own_made wb w.heap.size 5 HS.out.below.size)
    have OX1 : Hid (wb.heap.size ≠ gx) := Lib.hid (by have := HS.out.t.lt; omega)
    go_wp2
    refine ⟨hst, ?_⟩
    clear hst
    generalize wb.heap.size = g7 at O1 OX1 ⊢
    generalize wb.alloc (.cells #[] 5) = wp1 at S1 O1 ⊢
    refine oneG 4 10 rfl (by kernel_rfl) rfl ?_
    go_wp2_with fail
    refine (refNew5_any wp1).mono ?_
    rintro e wp2 ⟨vk, vh, rfl, hok, hoh, hb⟩
    have hkl : (u32s Sha.kL).length = 64 := by rw [u32s_len, Sha.kL_len]
    have hhl : (u32s Sha.hL).length = 8 := by rw [u32s_len, Sha.hL_len]
    obtain ⟨bk, cK, restk, hvk, hbk, -, hBk⟩ := hok.blk (by rw [hkl]; omega)
    obtain ⟨bh, cH, resth, hvh, hbh, -, hBh⟩ := hoh.blk (by rw [hhl]; omega)
    rw [hkl] at hvk
    rw [hhl] at hvh
    subst hvk
    subst hvh
    have S2 := Lib.hid (S1.out.on hb)
    have NK2 := Lib.hid hBk
    have NH2 := Lib.hid hBh
    have hst := S1.out.stay hb
    have O2 := Lib.hid (own_on O1.out hb)
    have OX2 := OX1
    have ON2 : Hid (g7 ≠ bk ∧ g7 ≠ bh) := Lib.hid (by have := (O1.out.block_lt (g := g7) rfl).2; omega)
    clear hok hoh hkl hhl hb hbk hbh hBk hBh
    go_wp2
    refine ⟨hst, ?_⟩
    clear hst
    refine oneG 6 9 rfl (by kernel_rfl) rfl ?_
    go_wp2_with fail
    refine (short6_any K lk.length ck mk wp2 HMk.out hck).mono ?_
    rintro e wp3 ⟨rfl, rfl⟩
    go_wp2
    refine ⟨(stays gx).refl _, ?_⟩
    refine oneG 9 8 rfl (by kernel_rfl) rfl ?_
    go_wp2_with fail
    refine (short6_any A la.length ca ma wp3 HMa.out hca).mono ?_
    rintro e wp4 ⟨rfl, rfl⟩
    go_wp2
    refine ⟨(stays gx).refl _, ?_⟩
    have E0 := Lib.hid (show ES w wp4 gx bk bh D restk resth (.slice (some ⟨g7, 0, none⟩) 0 0) [] from ⟨S2.out, NK2.out, NH2.out, O2.out, fun g hg => by have e := Option.some.inj hg; subst e; exact ⟨OX2.out, ON2.out⟩⟩)
    obtain ⟨v1, wr1, e1, E1, s1⟩ := E0.out.app ma ca HXa.out.symm HRa.out (by rw [HXa.out]; simp; omega)
    obtain ⟨v2, wr2, e2, E2, s2⟩ := E1.app mb cb HXb.out.symm HRb.out (by rw [List.nil_append, HXa.out, HXb.out]; omega)
    rw [List.nil_append] at E2
    have hXl : (xa ++ xb).length = ma + mb := by rw [List.length_append, HXa.out, HXb.out]
    obtain ⟨A4, k4, hv4, r4⟩ := E2.own.rd
    rw [hXl] at hv4
    subst hv4
    have HE2 := Lib.hid E2
    have HR4 := Lib.hid r4
    have HXl := Lib.hid hXl
    clear E1 E2 r4 hXl
    refine oneG 10 7 rfl (by kernel_rfl) rfl ?_
    go_wp2_with (at_builtin; refine wpList_append_run_w (.tmp 23) (.tmp 25) _ rfl rfl rfl e1 (by kernel_rfl) ?_)
    refine ⟨s1, ?_⟩
    clear e1 s1
    simp only [Act.put, List.setIfInBounds_toArray, List.set]
    refine oneG 12 6 rfl (by kernel_rfl) rfl ?_
    go_wp2_with fail
    refine (short6_any B lb.length cb mb wr1 HMb.out hcb).mono ?_
    rintro e wr1' ⟨rfl, rfl⟩
    go_wp2
    refine ⟨(stays gx).refl _, ?_⟩
    refine oneG 13 5 rfl (by kernel_rfl) rfl ?_
    go_wp2_with (at_builtin; refine wpList_append_run_w (.tmp 26) (.tmp 28) _ rfl rfl rfl e2 (by kernel_rfl) ?_)
    refine ⟨s2, ?_⟩
    clear e2 s2
    simp only [Act.put, List.setIfInBounds_toArray, List.set]
    refine oneG 14 4 rfl (by kernel_rfl) rfl ?_
    go_wp2_with fail
    refine (refOf6_any wr2 (some ⟨bk, 0, none⟩) (some ⟨bh, 0, none⟩) cK cH K A4 xk (xa ++ xb) mk (ma + mb) ck k4 (RdV.of_blk HE2.out.k HE2.out.k.lt) (RdV.of_blk HE2.out.h HE2.out.h.lt) HXk.out.symm HXl.out.symm ((HRk.out.below HE2.out.s.below).more HE2.out.s.below.size) HR4.out (by rw [HXk.out]; omega) (by rw [HXl.out]; omega)).mono ?_
    rintro e wr3 ⟨vo, rfl, hoo, hb⟩
    rw [← HD.out] at hoo
    obtain ⟨AO, cO, hvo, hro⟩ := hoo.rd
    rw [HDl.out] at hvo
    subst hvo
    have hs8 := string_later_rd hro cO
    rw [HDl.out] at hs8
    have hs9 := hs8 ⟨wr3, grows.refl _⟩
    simp only at hs9
    have hst := HE2.out.s.stay hb
    have HB8 := Lib.hid (HE2.out.s.below.trans (hb.mono HE2.out.s.below.size))
    clear hb hoo hro hs8
    go_wp2
    refine ⟨hst, ?_⟩
    clear hst
    refine oneG 15 3 rfl (by kernel_rfl) rfl ?_
    go_wp2
    refine ⟨(stays gx).refl _, ?_⟩
    clear hs9
    refine oneG 16 2 rfl (by kernel_rfl) rfl ?_
    go_wp2
    refine ⟨(stays gx).refl _, ?_⟩
    refine oneG 17 1 rfl (by kernel_rfl) rfl ?_
    go_wp2
    refine ⟨(stays gx).refl _, ?_⟩
    refine oneG 18 0 rfl (by kernel_rfl) rfl ?_
    go_wp2
    refine ⟨(stays gx).refl _, ?_⟩
    refine wpAnyG_done (by kernel_rfl) ?_
    go_wp2
    go_ret
    exact ⟨by simp, HB8.out⟩
end Go.Proofs.YtlbmpjikaoenoaaDoor
