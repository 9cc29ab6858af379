/-
  The landed sha: Of: its contract.
-/
import Derived.Test.YtpaagjhohfjopaaDoorShGf
import Derived.Test.YtpaagjhohfjopaaDoorShGc
import Derived.Test.YtpaagjhohfjopaaDoorShaC
set_option maxRecDepth 100000
namespace Go.Proofs.YtpaagjhohfjopaaDoor
open Go.RowKit Go.Shelf Go.Gar
attribute [local go_sem] Oper.semAt_some

/-- The sums behind some blocks. -/
def hashX (pre : List B64) : Sha.St := pre.foldl (fun s x => Sha.comp s x.1 0) Sha.start
theorem hashX_snoc (pre : List B64) (x : B64) : hashX (pre ++ [x]) = Sha.comp (hashX pre) x.1 0 := by simp [hashX]
theorem hashX_ok (pre : List B64) : (hashX pre).ok := by
  rcases List.eq_nil_or_concat pre with rfl | ⟨q, x, rfl⟩
  · exact Sha.start_ok
  · rw [List.concat_eq_append, hashX_snoc]; exact Sha.add_ok _ _
theorem flat_take (xs : List B64) (k : Nat) (hk : k < xs.length) : ((flat xs).drop (64 * k)).take 64 = xs[k].1 := by
  induction xs generalizing k with
  | nil => simp at hk
  | cons x xs ih =>
    have e : flat (x :: xs) = x.1 ++ flat xs := by simp [flat]
    cases k with
    | zero =>
      rw [e, Nat.mul_zero, List.drop_zero]
      exact List.take_left' x.2
    | succ k =>
      rw [e, show 64 * (k + 1) = x.1.length + 64 * k from by rw [x.2]; omega, List.drop_append, List.drop_eq_nil_of_le (Nat.le_add_right _ _), List.nil_append, Nat.add_sub_cancel_left]
      exact ih k (by simpa using hk)
theorem hashX_take (xs : List B64) : ∀ k, k ≤ xs.length → hashX (xs.take k) = Sha.hashN (flat xs) k
  | 0, _ => rfl
  | k + 1, h => by
    rw [List.take_succ_eq_append_getElem h, hashX_snoc, hashX_take xs k (by omega), Sha.hashN, ← flat_take xs k h, Sha.comp_block]
theorem hashX_all (xs : List B64) : hashX xs = Sha.hashN (flat xs) ((flat xs).length / 64) := by
  have := hashX_take xs xs.length (Nat.le_refl _)
  rw [List.take_length] at this
  rw [this, flat_len, Nat.mul_div_cancel_left _ (by omega)]

/-- The table of cube roots, as its block lies. -/
def Gl (w : World) : Prop := ∀ i, i < 64 → w.cell? ⟨0, i, none⟩ = some (.int .u32 ((Sha.kL.getD i 0 : Nat) : Int))
theorem Gl.keep {w w' : World} (h : Gl w) (hb : Below w.heap.size w w') : Gl w' := fun i hi => cell_bel' hb (h i hi)
theorem comp_words (s : Sha.St) (m : List UInt8) : s.add (Sha.vK (Sha.wK m 0 64) s 64) = Sha.comp s m 0 := rfl
theorem keeps_below {W W' : World} (h : Below W.heap.size W W') : KeepsOthers W W' := ⟨h.size, fun k _ hk _ => (h.block k (Array.getElem?_eq_some_iff.1 hk).1).trans hk⟩
theorem kp_below {gs : Nat} {W W' : World} (h : Below W.heap.size W W') : KpS gs W W' := ⟨h.size, fun k _ hk _ _ => (h.block k (Array.getElem?_eq_some_iff.1 hk).1).trans hk⟩
theorem kp_grown {gs : Nat} {W W' : World} (h : W.grownBy W' (some gs)) : KpS gs W W' := ⟨h.size, fun k _ hk _ hn => (h.block k (Array.getElem?_eq_some_iff.1 hk).1 (fun e => hn (Option.some.inj e))).trans hk⟩

theorem cells_below {w w' : World} {B B' : Nat} {A : Option Addr} {vs : List Value} (h : Cells w B A vs) (hb : Below B w w') (hB : B ≤ B') : Cells w' B' A vs := by
  rcases h with h | ⟨b, o, e, hlt, hc⟩
  · exact .inl h
  · exact .inr ⟨b, o, e, by omega, fun i v hi => (World.cell?_of_block (hb.block b hlt)).trans (hc i v hi)⟩
theorem Tryd.infoH8 : (Tryd.prog.info? 58).map (fun i => (i.zero, i.size)) = some (some (.agg (Array.replicate 8 (.int .u32 0))), 8) := by kernel_rfl
def z8 : List Nat := List.replicate 8 0
theorem zero8W (w : World) : (zeroValue 58).run Tryd.prog w = .ok (.agg (u32s z8).toArray) w := by
  rw [(zero_of_info (P := Tryd.prog) Tryd.infoH8).1 w, z8, u32s, List.map_replicate]; rfl

set_option maxRecDepth 100000 in
set_option maxHeartbeats 2000000 in
theorem ofL_in (w : World) (hG : Gl w) (A : Option Addr) (ps : List Part) (cap : Nat) (hC : Cells w w.heap.size A (ps.map partV)) (hR : ∀ p ∈ ps, Rd w w.heap.size p.1 p.2.1 ∧ p.2.1.length ≤ p.2.2) (hl : (cat ps).length ≤ 1048576) (hn : ps.length ≤ 1000) (O : List UInt8) (hOo : O = Sha.of (cat ps)) :
    CallsIn Fence.wide 10 Tryd.prog 22 #[.slice A ps.length cap] w fun e w' => e = .returned (.agg (u8s O).toArray) ∧ Below w.heap.size w w' := by
  have hR0 := Blk.new w 32 (u8s (zB 32))
  have hb0 := below_alloc w (.cells (u8s (zB 32)).toArray 32)
  obtain ⟨w0, hw0⟩ : ∃ w0, w.alloc (.cells (u8s (zB 32)).toArray 32) = w0 := ⟨_, rfl⟩
  have hs0 : w0.heap.size = w.heap.size + 1 := by rw [← hw0]; simp
  rw [hw0] at hR0 hb0
  have HW0 := Lib.hid hw0
  have HOo := Lib.hid hOo
  clear hOo
  have HG := Lib.hid hG
  have HC := Lib.hid hC
  have HR := Lib.hid hR
  have HL := Lib.hid hl
  have HR0 := Lib.hid hR0
  have Hb0 := Lib.hid hb0
  have HS0 := Lib.hid hs0
  clear hG hC hR hl hR0 hb0 hs0 hw0
  refine callsIn_of_wp_marks Tryd.func22 rfl trivial ?_ rfl
  simp only [Tryd.ntmps22, List.size_toArray, List.length_cons, List.length_nil, Nat.reduceAdd, Nat.reduceSub, Array.replicate_succ, Array.replicate_zero, List.push_toArray, List.append_toArray, List.nil_append, List.cons_append]
  gi_wp2_with (refine wpListIn_alloc_arr rfl 32 (u8s (zB 32)).toArray rfl zero32B ?_; rw [HW0.out])
  refine ⟨trivial, ?_⟩
  refine CallsIn.mono (R := fun e w' => e = .returned (.agg (u32s Sha.start.list).toArray) ∧ Below w0.heap.size w0 w') (callsIn_wide.2 (squares_any w0)) ?_
  rintro e w1 ⟨rfl, hb1⟩
  have hS1 := Blk.new w1 58 (u32s z8)
  have hS2 := hS1.row (u32s Sha.start.list)
  have hb1w : Below w.heap.size w w1 := Hb0.out.trans (hb1.mono Hb0.out.size)
  have hb2w : Below w.heap.size w ((w1.alloc (.cells (u32s z8).toArray 58)).setRow w1.heap.size (u32s Sha.start.list).toArray) := below_setRow (hb1w.alloc hb1w.size _) hb1w.size _
  have hr2 : Blk ((w1.alloc (.cells (u32s z8).toArray 58)).setRow w1.heap.size (u32s Sha.start.list).toArray) w.heap.size 32 (u8s (zB 32)) :=
    ((HR0.out.below hb1 (by have := HS0.out; omega)).alloc _).rowFar (by have := HS0.out; have := hb1.size; omega) _
  have hz2 : ((w1.alloc (.cells (u32s z8).toArray 58)).setRow w1.heap.size (u32s Sha.start.list).toArray).heap.size = w1.heap.size + 1 := by simp
  obtain ⟨w2, hw2⟩ : ∃ w2, (w1.alloc (.cells (u32s z8).toArray 58)).setRow w1.heap.size (u32s Sha.start.list).toArray = w2 := ⟨_, rfl⟩
  rw [hw2] at hS2 hb2w hr2 hz2
  have HS1 := Lib.hid hS1
  have HS2 := Lib.hid hS2
  have Hb2 := Lib.hid hb2w
  have HR2 := Lib.hid hr2
  have HZ2 := Lib.hid hz2
  have HW2 := Lib.hid hw2
  have Hgs : Hid (w.heap.size < w1.heap.size) := Lib.hid (by have := HS0.out; have := hb1.size; omega)
  clear hS1 hS2 hb1w hb2w hr2 hz2 hw2 hb1
  gi_wp2_with (first | refine wpListIn_alloc_arr rfl 58 (u32s z8).toArray rfl zero8W ?_ | (refine wpListIn_store_arr rfl 58 (.tmp 3) (.tmp 5) w1.heap.size (u32s z8) (u32s Sha.start.list) rfl rfl rfl rfl HS1.out Tryd.sizeH8 rfl (u32s_one _) ?_; rw [HW2.out]))
  refine ⟨trivial, ?_⟩
  have hC2 := cells_below HC.out Hb2.out Hb2.out.size
  have hRN : ∀ p ∈ ps, RdN w2 w2.heap.size w1.heap.size p := fun p hp => (RdN.of_rd ((HR.out p hp).1.below Hb2.out) (by have := Hgs.out; omega)).more Hb2.out.size
  refine (callsIn_wide.2 (messageL_any w2 A ps cap w1.heap.size hC2 hRN (fun p hp => (HR.out p hp).2) (by rw [HZ2.out]; omega) HL.out hn)).mono ?_
  rintro e w3 ⟨v, qs, rfl, hO, hq, hcat, hql, hq0, hb3⟩
  obtain ⟨g, cm, rest, rfl, hg, hcm, hBg⟩ := hO.blk (by rw [List.length_map]; exact hq0)
  rw [List.length_map]
  have hS3 := HS2.out.below hb3 (by rw [HZ2.out]; omega)
  have hr3 := HR2.out.below hb3 (by have := HZ2.out; have := Hgs.out; omega)
  have hb3w : Below w.heap.size w w3 := Hb2.out.trans (hb3.mono Hb2.out.size)
  have HS3 := Lib.hid hS3
  have HR3 := Lib.hid hr3
  have Hb3 := Lib.hid hb3w
  have Hq := Lib.hid hq
  have Hcat := Lib.hid hcat
  have HBg := Lib.hid hBg
  have Hg : Hid (w1.heap.size < g ∧ w1.heap.size < w3.heap.size) := Lib.hid (by have := HZ2.out; have := hb3.size; omega)
  clear hC2 hRN hO hq hcat hBg hb3 hS3 hr3 hb3w hg hcm hq0
  gi_wp2_with fail
  refine ⟨trivial, ?_⟩
  refine (blocks_in 9 _ _ _ w3).mono ?_
  rintro e w4 ⟨rfl, hw4⟩
  have hBs := Blk.new w3 54 [.slice (some ⟨g, 0, none⟩) qs.length cm]
  have hb4 := below_alloc w3 (.cells #[.slice (some ⟨g, 0, none⟩) qs.length cm] 54)
  have hz4 : (w3.alloc (.cells #[.slice (some ⟨g, 0, none⟩) qs.length cm] 54)).heap.size = w3.heap.size + 1 := World.size_alloc _ _
  rw [show ([.slice (some ⟨g, 0, none⟩) qs.length cm] : List Value).toArray = #[.slice (some ⟨g, 0, none⟩) qs.length cm] from rfl, ← hw4] at hBs
  rw [← hw4] at hb4 hz4
  have hLay : Lay w4.heap.size w1.heap.size w4 g qs := ⟨by have := HBg.out.lt; omega, by have := Hg.out; omega, fun i p hi => by
      rw [((HBg.out.below hb4 HBg.out.lt)).cell, List.getElem?_append_left (by rw [List.length_map]; exact (List.getElem?_eq_some_iff.1 hi).1), List.getElem?_map, hi]
      rfl, fun p hp => ((Hq.out p hp).1.below hb4).more hb4.size, fun p hp => (Hq.out p hp).2⟩
  have hml := Sha.msg_len (cat ps)
  have hmx : (cat qs).length ≤ 1048700 := by
    have h1 : Sha.zeros (cat ps) < 64 := Nat.mod_lt _ (by omega)
    have := HL.out
    rw [Hcat.out, Sha.msg, List.length_append, Sha.msgK_len, Sha.be8K_len]; omega
  have hseq := blocks_seq 9 (by omega) w3.heap.size w1.heap.size g cm qs w4 (hBs.cell 0) hLay (by have := Hg.out; omega) (by rw [Hcat.out]; exact hml) (by omega) hql
  have HSeq := Lib.hid hseq
  have HS4 := Lib.hid (HS3.out.below hb4 HS3.out.lt)
  have HR4 := Lib.hid (HR3.out.below hb4 HR3.out.lt)
  have Hb4 := Lib.hid (Hb3.out.trans (hb4.mono Hb3.out.size))
  have HZ4 := Lib.hid hz4
  clear hw4 hBs hb4 hz4 hLay hml hmx hseq
  gi_wp2
  generalize Value.agg (u32s Sha.start.list).toArray = ag
  have HGs4 : Hid (w1.heap.size < w4.heap.size ∧ w.heap.size < w1.heap.size ∧ w.heap.size < w4.heap.size) := Lib.hid (by have := Hgs.out; have := Hg.out; have := HZ4.out; omega)
  refine rangeC (α := B64) rfl (by omega) (gf := 37) (lb := #[.pointer (some ⟨w3.heap.size, 0, none⟩)]) rfl trivial (enters_of Tryd.func37 (by kernel_rfl) rfl) HSeq.out (fun h k => h.trans k) (fun W l o o' h1 h2 => KpS.put _ W l o o' h1 h2) (fun _ => rfl)
    (fun pre W => Blk W w1.heap.size 58 (u32s (hashX pre).list) ∧ Blk W w.heap.size 32 (u8s (zB 32)) ∧ Below w.heap.size w W)
    ?low ⟨HS4.out, HR4.out, Hb4.out⟩
    (fun x a' W => ∃ Bx, a' = { tmps := #[.slice A ps.length cap, undef, .pointer (some ⟨w.heap.size, 0, none⟩), .pointer (some ⟨w1.heap.size, 0, none⟩), .pointer (some ⟨Bx, 0, none⟩), ag, .slice A ps.length cap, .slice (some ⟨g, 0, none⟩) qs.length cm, .func (.func 37) #[] #[.pointer (some ⟨w3.heap.size, 0, none⟩)], .agg (u8s x.1).toArray, undef, undef, undef, undef, undef], defers := [] } ∧ Blk W Bx 64 (u8s x.1) ∧ Bx ≠ w1.heap.size)
    ?ax ?assign ?body ?done
  case low =>
    rintro pre W W' row ⟨h1, h2, h3⟩ hgr hrow
    have hx := HGs4.out
    exact ⟨h1.grown hgr (fun e => by have := hrow _ e.symm; omega), h2.grown hgr (fun e => by have := hrow _ e.symm; omega), h3.grown hgr h3.size (fun k e => by have := hrow _ e; omega)⟩
  case ax =>
    rintro x a' W l o o' ⟨Bx, rfl, hB, hne⟩ hl ho
    refine ⟨Bx, rfl, ?_, hne⟩
    have : Bx ≠ l := by rintro rfl; rw [show W.heap[Bx]? = _ from hB] at hl; cases hl; simp [Obj.isCells] at ho
    exact (World.putObj_heap_other this).trans hB
  case assign =>
    rintro l pre x W K ⟨h1, h2, h3⟩ hK
    have hZ := Blk.new W 64 (u8s (zB 64))
    have hB1 := hZ.row (u8s x.1)
    have hb1 : Below W.heap.size W ((W.alloc (.cells (u8s (zB 64)).toArray 64)).setRow W.heap.size (u8s x.1).toArray) := below_setRow (below_alloc W _) (Nat.le_refl _) _
    have hk1 := h1.below hb1 h1.lt
    have hk2 := h2.below hb1 h2.lt
    have HZ := Lib.hid hZ
    have HK := Lib.hid (hK _ _ (keeps_below hb1) (kp_below hb1) ⟨hk1, hk2, h3.trans (hb1.mono h3.size)⟩ ⟨W.heap.size, rfl, hB1, fun e => by have := h1.lt; omega⟩)
    have HSz : Hid ((Tryd.prog.info? 64).map (·.size) = some (u8s x.1).length) := Lib.hid (by rw [u8s_len, x.2]; exact Tryd.sizeB64)
    have HLn : Hid ((u8s (zB 64)).length = (u8s x.1).length) := Lib.hid (by rw [u8s_len, u8s_len, x.2, zB_len])
    clear hK h1 h2 h3 hZ hB1 hb1 hk1 hk2
    simp only [List.zip_toArray, List.zip_cons_cons, List.zip_nil_right, List.foldl_toArray, List.foldl_cons, List.foldl_nil, List.setIfInBounds_toArray, List.set]
    gi_wp2_with (first | refine wpListIn_alloc_arr rfl 64 (u8s (zB 64)).toArray rfl zero64B ?_ | refine wpListIn_store_arr rfl 64 (.tmp 4) (.tmp 9) W.heap.size (u8s (zB 64)) (u8s x.1) rfl rfl rfl rfl HZ.out HSz.out HLn.out (u8s_one _) ?_)
    exact HK.out
  case body =>
    rintro l pre x a' W ⟨h1, h2, h3⟩ ⟨Bx, rfl, hB, hne⟩
    have hld := run_loadVar_row (P := Tryd.prog) W Bx 64 64 (u8s x.1).toArray (0, 0) _ hB Tryd.undB64 rfl (by simpa [u8s_len, x.2] using Tryd.sizeB64)
    have H1 := Lib.hid h1
    have H2 := Lib.hid h2
    have H3 := Lib.hid h3
    clear h1 h2 h3 hB hne
    gi_wp2_with (refine wpListIn_load_arr rfl 64 (.tmp 4) rfl rfl (u8s x.1).toArray hld ?_)
    refine ⟨trivial, ?_⟩
    refine (CallsIn.inRound l (callsIn_wide.2 (words_any x.1 W x.2))).mono ?_
    rintro e W1 ⟨rfl, hb1⟩
    obtain ⟨ws, hws⟩ : ∃ ws, Sha.wK x.1 0 64 = ws := ⟨_, rfl⟩
    rw [hws]
    have HWS := Lib.hid hws
    have Hb1 := Lib.hid hb1
    clear hws hb1 hld
    gi_wp2_with fail
    refine ⟨trivial, ?_⟩
    have hgl : Gl W1 := Gl.keep (Gl.keep HG.out H3.out) Hb1.out
    refine (CallsIn.inRound l (callsIn_wide.2 (process_any W1 w1.heap.size (hashX pre) ws (hashX_ok pre) (by rw [← HWS.out]; exact Sha.wK_len _ _ _) (by rw [← HWS.out]; exact Sha.wK_lt _ _ _) (H1.out.below Hb1.out H1.out.lt) (by have := HGs4.out; omega) hgl))).mono ?_
    rintro e W2 ⟨⟨v, rfl⟩, hB2, hg2⟩
    rw [← HWS.out, comp_words, ← hashX_snoc] at hB2
    have HB2 := Lib.hid hB2
    have Hg2 := Lib.hid hg2
    clear hB2 hg2 hgl
    gi_wp2
    have hlt1 := H1.out.lt
    have hx := HGs4.out
    refine ⟨(keeps_below Hb1.out).trans (KeepsOthers.of_grownBy Hg2.out (fun j o e ho => ?_)), (kp_below Hb1.out).trans (kp_grown Hg2.out), HB2.out, ((H2.out.below Hb1.out H2.out.lt).grown Hg2.out (fun e => by have := Option.some.inj e; omega)), (H3.out.trans (Hb1.out.mono H3.out.size)).grown Hg2.out (Nat.le_trans H3.out.size Hb1.out.size) (fun k e => by have := Option.some.inj e; omega)⟩
    have e1 := Option.some.inj e
    subst e1
    have := H1.out.below Hb1.out hlt1
    rw [show W1.heap[w1.heap.size]? = _ from this] at ho
    cases ho
    rfl
  case done =>
    rintro D xs W hD hxs ⟨h1, h2, h3⟩ hK
    have hld := run_loadVar_row (P := Tryd.prog) W w1.heap.size 58 58 (u32s (hashX xs).list).toArray (0, 0) _ h1 Tryd.undH8 rfl Tryd.sizeH8
    have hO : O = Sha.out (hashX xs) := by rw [HOo.out, hashX_all, hxs, Hcat.out]; rfl
    have hok := hashX_ok xs
    generalize hashX xs = z at hld hok hO
    have hjo := joined_any z W hok
    have hol := out_len z
    rw [← hO] at hjo hol
    have H2 := Lib.hid h2
    have H3 := Lib.hid h3
    have HD := Lib.hid hD
    have HK := Lib.hid hK
    have HJ := Lib.hid hjo
    have HOL := Lib.hid hol
    clear h1 h2 h3 hxs hO hD hK hjo hol
    gi_wp2_with (refine wpListIn_load_arr rfl 58 (.tmp 3) rfl rfl (u32s z.list).toArray hld ?_)
    refine ⟨trivial, ?_⟩
    refine (callsIn_wide.2 HJ.out).mono ?_
    rintro e W1 ⟨rfl, hb1⟩
    have HR5 := Lib.hid (H2.out.below hb1 H2.out.lt)
    have HSz := Lib.hid (size32B O HOL.out)
    have HLn : Hid ((u8s (zB 32)).length = (u8s O).length) := Lib.hid (by rw [u8s_len, u8s_len, HOL.out, zB_len])
    have HB5 := Lib.hid (below_setRow (H3.out.trans (hb1.mono H3.out.size)) (Nat.le_refl _) (u8s O).toArray)
    have hK5 : (W1.setRow w.heap.size (u8s O).toArray).heap[D]? = some (.deferred (some [])) := by
      rw [setRow_other W1 w.heap.size D _ (by have := HD.out; have := HGs4.out; omega)]
      exact (hb1.block D (Array.getElem?_eq_some_iff.1 HK.out).1).trans HK.out
    clear hb1 hld hok
    gi_wp2_with (refine wpListIn_store_arr rfl 32 (.tmp 2) (.tmp 14) w.heap.size (u8s (zB 32)) (u8s O) rfl rfl rfl rfl HR5.out HSz.out HLn.out (u8s_one _) ?_)
    refine ⟨by simp, .inl ⟨_, _, rfl, run_takeDeferred hK5, ?_⟩⟩
    have hDw : w.heap.size < D := by have := HD.out; have := HGs4.out; omega
    have hB6 : Blk ((W1.setRow w.heap.size (u8s O).toArray).putObj D (.deferred none)) w.heap.size 32 (u8s O) := (World.putObj_heap_other (by omega)).trans (HR5.out.row _)
    have hl6 := run_loadVar_row (P := Tryd.prog) ((W1.setRow w.heap.size (u8s O).toArray).putObj D (.deferred none)) w.heap.size 32 32 (u8s O).toArray (0, 0) _ hB6 Tryd.undD32 rfl (by simpa using size32B O HOL.out)
    refine ⟨.agg (u8s O).toArray, ?_, rfl, HB5.out.grown (grownBy_putObj' _ D _) HB5.out.size (fun k e => by have := Option.some.inj e; omega)⟩
    generalize (u8s O).toArray = X at hl6 ⊢
    simp [results, Tryd.results22, asAddr, hl6]

/-- The landed sha keeps its contract wherever its table lies as its text lays it. -/
theorem shaOK : ShaOK Gl :=
  ⟨fun h hb => h.keep hb, fun w A ps cap hG hC hR hl hn => callsIn_wide.1 (ofL_in w hG A ps cap hC hR hl hn _ rfl)⟩
end Go.Proofs.YtpaagjhohfjopaaDoor
