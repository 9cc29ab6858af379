/-
  The landed sha: blocks, the iterator over the 64 bytes each of a message that lies in parts: its contract.
-/
import Derived.RangeFuncNested
import Derived.RangeFuncBound
import Derived.RangeFuncCalls
import Derived.RangeFuncLeaves
import Derived.Shelf.Abstract
import Derived.Shelf.RegionOpen
import Derived.WalkKit
import Derived.OwnWalkIn
import Derived.TacticsInMore
import Derived.LoopNIn
import Derived.LoopIn
import Derived.Test.YtjhkodmaalefiaaDoorSealJ01
import Derived.Test.YtjhkodmaalefiaaDoorSealJ02
import Derived.Test.YtjhkodmaalefiaaDoorSealJ04
import Derived.Test.YtjhkodmaalefiaaDoorSealJ05
set_option maxRecDepth 100000
namespace Go.Proofs.YtjhkodmaalefiaaDoor
open Go.RowKit Go.Shelf Go.Gar
attribute [local go_sem] Oper.semAt_some

/-- 64 bytes. -/
abbrev B64 := { m : List UInt8 // m.length = 64 }
def flat (xs : List B64) : List UInt8 := (xs.map (·.1)).flatten
theorem flat_snoc (xs : List B64) (x : B64) : flat (xs ++ [x]) = flat xs ++ x.1 := by simp [flat]
theorem flat_lenS (xs : List B64) : (flat xs).length = 64 * xs.length := by
  induction xs with
  | nil => rfl
  | cons x xs ih =>
    have : flat (x :: xs) = x.1 ++ flat xs := by simp [flat]
    rw [this, List.length_append, x.2, ih, List.length_cons]; omega

/-- A round keeps all cells but those of block gs. -/
structure KpS (gs : Nat) (W W' : World) : Prop where
  size : W.heap.size ≤ W'.heap.size
  same : ∀ (k : Nat) (o : Obj), W.heap[k]? = some o → o.isCells = true → k ≠ gs → W'.heap[k]? = some o
theorem KpS.trans {gs : Nat} {A B C : World} (h : KpS gs A B) (k : KpS gs B C) : KpS gs A C :=
  ⟨Nat.le_trans h.size k.size, fun i o hi hc hn => k.same i o (h.same i o hi hc hn) hc hn⟩
theorem KpS.put (gs : Nat) (W : World) (l : Nat) (o o' : Obj) (hl : W.heap[l]? = some o) (ho : o.isCells = false) : KpS gs W (W.putObj l o') :=
  ⟨by simp, fun k p hk hp _ => by
    have : k ≠ l := by rintro rfl; rw [hl] at hk; cases hk; rw [ho] at hp; cases hp
    exact (World.putObj_heap_other this).trans hk⟩
theorem KpS.cell {gs : Nat} {W W' : World} (h : KpS gs W W') {p : Addr} {v : Value} (hp : W.cell? p = some v) (hn : p.block ≠ gs) : W'.cell? p = some v := by
  obtain ⟨o, ho, hc⟩ := cells_of_cell hp
  rw [← hp]
  exact World.cell?_of_block ((h.same _ _ ho hc hn).trans ho.symm)
theorem KpS.blk {gs : Nat} {W W' : World} (h : KpS gs W W') {g : Nat} {t : TypeId} {cs : List Value} (hb : Blk W g t cs) (hn : g ≠ gs) : Blk W' g t cs := h.same _ _ hb rfl hn

/-- The parts of a message in memory: their row in block g, all below B and none in block gs. -/
structure Lay (B gs : Nat) (W : World) (g : Nat) (qs : List Part) : Prop where
  g1 : g < B
  g2 : g ≠ gs
  row : ∀ i p, qs[i]? = some p → W.cell? ⟨g, i, none⟩ = some (partV p)
  parts : ∀ p ∈ qs, RdN W B gs p
  caps : ∀ p ∈ qs, p.2.1.length ≤ p.2.2
theorem RdN.keep {B gs : Nat} {W W' : World} {p : Part} (h : RdN W B gs p) (hk : ∀ (p : Addr) (v : Value), p.block < B → p.block ≠ gs → W.cell? p = some v → W'.cell? p = some v) : RdN W' B gs p := by
  rcases h with h | ⟨b, o, e, hn, hb, hc⟩
  · exact .inl h
  · exact .inr ⟨b, o, e, hn, hb, fun i c hi => hk ⟨b, o + i, none⟩ _ hb hn (hc i c hi)⟩
theorem Lay.keep {B gs g : Nat} {W W' : World} {qs : List Part} (h : Lay B gs W g qs) (hk : ∀ (p : Addr) (v : Value), p.block < B → p.block ≠ gs → W.cell? p = some v → W'.cell? p = some v) : Lay B gs W' g qs :=
  ⟨h.g1, h.g2, fun i p hi => hk ⟨g, i, none⟩ _ h.g1 h.g2 (h.row i p hi), fun p hp => (h.parts p hp).keep hk, h.caps⟩
theorem keep_grown {B gs r : Nat} {W W' : World} (hg : W.grownBy W' (some r)) (hr : B ≤ r) : ∀ (p : Addr) (v : Value), p.block < B → p.block ≠ gs → W.cell? p = some v → W'.cell? p = some v := fun p v hp _ hv => by
  have hb := hg.block p.block (World.block_lt_of_cell? W p hv) (fun e => by cases e; omega)
  rw [← hv]
  exact World.cell?_of_block hb
theorem keep_kp {B gs : Nat} {W W' : World} (hk : KpS gs W W') : ∀ (p : Addr) (v : Value), p.block < B → p.block ≠ gs → W.cell? p = some v → W'.cell? p = some v := fun _ _ _ hn hv => hk.cell hv hn
theorem grown_rowS {W : World} {g : Nat} {cs : Array Value} : W.grownBy (W.setRow g cs) (some g) :=
  ⟨rfl, rfl, rfl, by simp, fun k _ hr => setRow_other W g k cs (fun e => hr (by rw [e]))⟩

theorem Tryd.infoB64 : (Tryd.prog.info? 64).map (fun i => (i.zero, i.size)) = some (some (.agg (Array.replicate 64 (.int .u8 0))), 64) := by kernel_rfl
theorem zero64B (w : World) : (zeroValue 64).run Tryd.prog w = .ok (.agg (u8s (zB 64)).toArray) w := by
  rw [(zero_of_info (P := Tryd.prog) Tryd.infoB64).1 w, zB, u8s, List.map_replicate]; rfl

theorem slice64 (g l : Nat) (h : l < 64) (W : World) :
    (Instr.sliceAt 64 (.pointer (some ⟨g, 0, none⟩)) (some (.int .i64 (l : Int))) none none).run Tryd.prog W = .ok (.slice (some ⟨g, l, none⟩) (64 - l) (64 - l)) W := by
  cases hq : Tryd.prog.info? 5 with
  | none => have := Tryd.size5; simp [hq] at this
  | some i =>
    have hs : i.size = 1 := by have := Tryd.size5; simpa [hq] using this
    have h1 : (l : Int) ≤ 64 := by omega
    have h2 : ¬ 64 = l := by omega
    simp [Instr.sliceAt, Instr.sliceBounds, Instr.sureAddr, run_underlying Tryd.undB64 W, sizeOf, typeInfo, hq, hs, go_sem, h1, h2]

set_option maxRecDepth 100000 in
set_option maxHeartbeats 2000000 in
theorem blocks1_in (n : Nat) (hn : 1 ≤ n) (l Bs gs g cap : Nat) (qs : List Part) (J : List B64 → World → Prop) (W : World) (hJ : Low W.heap.size J)
    (hY : ∀ pre (x : B64) W1, J pre W1 → YieldAt Fence.wide (n - 1) Tryd.prog l #[.agg (u8s x.1).toArray] W1 fun e W' => e = .returned (.bool true) ∧ J (pre ++ [x]) W' ∧ KpS gs W1 W')
    (hBs : W.cell? ⟨Bs, 0, none⟩ = some (.slice (some ⟨g, 0, none⟩) qs.length cap)) (hL : Lay W.heap.size gs W g qs) (hgs : gs < W.heap.size) (hm : (cat qs).length % 64 = 0) (hx : (cat qs).length ≤ 2000000) (hq : qs.length ≤ 1001) (h0 : J [] W) :
    CallsIn Fence.wide n Tryd.prog 79 #[.func (.yield l) #[] #[], .pointer (some ⟨Bs, 0, none⟩)] W fun e W' => (∃ v, e = .returned v) ∧ ∃ xs, flat xs = cat qs ∧ J xs W' := by
  have HY := Lib.hid hY
  have HJ := Lib.hid hJ
  have HX := Lib.hid hx
  have HM := Lib.hid hm
  have hB0 := Blk.new W 64 (u8s (zB 64))
  have hgr0 : W.grownBy (W.alloc (.cells (u8s (zB 64)).toArray 64)) (some W.heap.size) := World.grownBy_alloc W _ _
  have HL0 := Lib.hid (hL.keep (keep_grown hgr0 (Nat.le_refl _)))
  have HJ0 : Hid (J [] (W.alloc (.cells (u8s (zB 64)).toArray 64))) := Lib.hid (hJ _ _ _ _ h0 hgr0 (fun r e => by cases e; exact Nat.le_refl _))
  have hBs0 : (W.alloc (.cells (u8s (zB 64)).toArray 64)).cell? ⟨Bs, 0, none⟩ = some (.slice (some ⟨g, 0, none⟩) qs.length cap) := cell_bel' (below_alloc W _) hBs
  obtain ⟨W1, hW1⟩ : ∃ W1, W.alloc (.cells (u8s (zB 64)).toArray 64) = W1 := ⟨_, rfl⟩
  rw [hW1] at hB0 HL0 HJ0 hBs0
  have HW1 := Lib.hid hW1
  have HB0 := Lib.hid hB0
  have HGs := Lib.hid hgs
  obtain ⟨N, hN⟩ : ∃ N, qs.length = N := ⟨_, rfl⟩
  rw [hN] at hBs0 hq
  have HN := Lib.hid hN
  clear hY hJ hx hm hB0 hgr0 hL h0 hBs hW1 hgs hN
  refine callsIn_of_wp Tryd.func79 rfl trivial ?_ rfl
  simp only [Tryd.ntmps79, List.size_toArray, List.length_cons, List.length_nil, Nat.reduceAdd, Nat.reduceSub, Array.replicate_succ, Array.replicate_zero, List.push_toArray, List.append_toArray, List.nil_append, List.cons_append]
  gi_wp2_with (refine wpListIn_alloc_arr rfl 64 (u8s (zB 64)).toArray rfl zero64B ?_; rw [HW1.out])
  clear HW1 hBs0
  generalize W.heap.size = gB at HJ HL0 HB0 HGs ⊢
  gi_loopw [4, 10] (fun f i wr => ∃ (j : Nat) (pre : List B64) (cur junk : List UInt8), j ≤ N ∧ i = .int .i64 (j : Int) ∧ f = .int .i64 (cur.length : Int) ∧ cur.length < 64 ∧ (cur ++ junk).length = 64 ∧ cat (qs.take j) = flat pre ++ cur ∧ Blk wr gB 64 (u8s (cur ++ junk)) ∧ Lay gB gs wr g qs ∧ J pre wr) (fun _ i _ => N - (intOf i).toNat)
  case atStart => exact ⟨0, [], [], zB 64, by omega, rfl, rfl, by simp, by simp [zB_len], rfl, HB0.out, HL0.out, HJ0.out⟩
  case round =>
    obtain ⟨j, pre, cur, junk, hj, rfl, rfl, hc64, hcj, hcat, hB, hL, hJp⟩ := hrel
    clear HL0 HB0 HJ0
    by_cases hlt : j < N
    · have hjq : j < qs.length := by rw [HN.out]; exact hlt
      have hrow := hL.row j qs[j] (List.getElem?_eq_getElem hjq)
      have hpart := hL.parts qs[j] (List.getElem_mem hjq)
      have hcap := hL.caps qs[j] (List.getElem_mem hjq)
      have hct : cat (qs.take (j + 1)) = cat (qs.take j) ++ qs[j].2.1 := by
        rw [List.take_succ_eq_append_getElem hjq]; unfold cat; rw [List.flatMap_append, List.flatMap_singleton]
      generalize qs[j] = p at hrow hpart hcap hct
      obtain ⟨Ap, lp, cp⟩ := p
      simp only [partV] at hrow hpart hcap hct
      have hlp : lp.length ≤ 2000000 := by
        have h1 := some_le qs (j + 1)
        unfold some_ at h1
        rw [hct, List.length_append] at h1
        have := HX.out
        omega
      have HRW := Lib.hid hpart
      have HCat := Lib.hid hcat
      have HCt := Lib.hid hct
      have HB := Lib.hid hB
      have HL := Lib.hid hL
      have HJp := Lib.hid hJp
      have HCj := Lib.hid hcj
      clear hpart hcat hct hB hL hJp hcj hjq
      gi_wp2
      gi_loopw [4, 6] (fun f v wr => ∃ (pre : List B64) (cur junk r : List UInt8) (Ar : Option Addr) (cr : Nat), v = .slice Ar r.length cr ∧ r.length ≤ cr ∧ r.length ≤ lp.length ∧ f = .int .i64 (cur.length : Int) ∧ cur.length < 64 ∧ (cur ++ junk).length = 64 ∧ cat (qs.take j) ++ lp = flat pre ++ (cur ++ r) ∧ Blk wr gB 64 (u8s (cur ++ junk)) ∧ Lay gB gs wr g qs ∧ RdN wr gB gs (Ar, r, cr) ∧ J pre wr)
        (fun _ v _ => match v with | .slice _ k _ => k | _ => 0)
      case atStart => exact ⟨pre, cur, junk, lp, Ap, cp, rfl, hcap, Nat.le_refl _, rfl, hc64, HCj.out, by rw [HCat.out, List.append_assoc], HB.out, HL.out, HRW.out, HJp.out⟩
      case round =>
        clear HB HL HJp HCj HRW HCat hc64 hrow
        obtain ⟨pre, cur, junk, r, Ar, cr, rfl, hrc, hrl, rfl, hc64, hcj, hcat, hB, hL, hR, hJp⟩ := hrel
        have HJp := Lib.hid hJp
        have HL := Lib.hid hL
        have HCat2 := Lib.hid hcat
        clear hJp hL hcat
        obtain ⟨k, hk⟩ : ∃ k, r.length = k := ⟨_, rfl⟩
        obtain ⟨f0, hf0⟩ : ∃ f0, cur.length = f0 := ⟨_, rfl⟩
        rw [hk] at hrc hrl
        rw [hk, hf0]
        rw [hf0] at hc64
        have HK := Lib.hid hk
        have HF0 := Lib.hid hf0
        by_cases hr0 : k = 0
        · subst hr0
          have hd : decide ((0 : Int) < ((0 : Nat) : Int)) = false := by simp
          have HB := Lib.hid hB
          have HCj := Lib.hid hcj
          clear hB hcj hR hk hf0
          gi_wp2
          exact ⟨⟨j + 1, pre, cur, junk, by omega, by go_num, by rw [HF0.out], by rw [HF0.out]; exact hc64, HCj.out, by rw [HCt.out, HCat2.out, List.eq_nil_of_length_eq_zero HK.out, List.append_nil], HB.out, HL.out, HJp.out⟩, by simp [intOf]; omega⟩
        · rcases hR with h | ⟨b, o, rfl, hbn, hbB, hc⟩
          · simp only at h
            rw [h] at hk
            exact absurd hk.symm hr0
          simp only at hc
          obtain ⟨m, hm⟩ : ∃ m, m = min k (64 - f0) := ⟨_, rfl⟩
          have hcp := run_copy_seg (P := Tryd.prog) (w := wr) 26 26 3 5 Tryd.und22 Tryd.size5 gB f0 (64 - f0) (64 - f0) k cr b o r m hc hk.symm (by rw [hk]; exact hm) _ _ hB (by rw [u8s_len, hcj]; omega)
          have hE : (u8s (cur ++ junk)).take f0 ++ u8s (r.take m) ++ (u8s (cur ++ junk)).drop (f0 + m) = u8s (cur ++ r.take m ++ junk.drop m) := by
            rw [u8s_take, u8s_drop, ← u8s_app, ← u8s_app, ← hf0, List.take_left, List.drop_append, List.drop_eq_nil_of_le (Nat.le_add_right _ _)]
            simp
          rw [hE] at hcp
          have hB2 := hB.row (u8s (cur ++ r.take m ++ junk.drop m))
          have hgr := grown_rowS (W := wr) (g := gB) (cs := (u8s (cur ++ r.take m ++ junk.drop m)).toArray)
          have hL2 := HL.out.keep (keep_grown hgr (Nat.le_refl _))
          have hJ2 : J pre (wr.setRow gB (u8s (cur ++ r.take m ++ junk.drop m)).toArray) := HJ.out _ _ _ _ HJp.out hgr (fun x e => by cases e; exact Nat.le_refl _)
          have hc2 : ∀ i c, r[i]? = some c → (wr.setRow gB (u8s (cur ++ r.take m ++ junk.drop m)).toArray).cell? ⟨b, o + i, none⟩ = some (.int .u8 (c.toNat : Int)) := fun i c hi =>
            keep_grown (gs := gs) hgr (Nat.le_refl _) ⟨b, o + i, none⟩ _ hbB hbn (hc i c hi)
          have hjl : cur.length + junk.length = 64 := by rw [← List.length_append]; exact hcj
          have hln : (cur ++ r.take m).length = f0 + m := by rw [List.length_append, List.length_take, hf0, hk]; omega
          have hln2 : (cur ++ r.take m ++ junk.drop m).length = 64 := by rw [List.length_append, hln, List.length_drop]; omega
          generalize wr.setRow gB (u8s (cur ++ r.take m ++ junk.drop m)).toArray = w2 at *
          have HL2 := Lib.hid hL2
          have HJ2 := Lib.hid hJ2
          have HB2 := Lib.hid hB2
          have HC2 := Lib.hid hc2
          have HLn := Lib.hid hln
          have HLn2 := Lib.hid hln2
          have hmk : m ≤ k := by omega
          have hm64 : f0 + m ≤ 64 := by omega
          have HKd : Hid ((r.drop m).length = k - m) := Lib.hid (by rw [List.length_drop, hk])
          have HRest : Hid (RdN w2 gB gs ((if cr = m then some ⟨b, o, none⟩ else some ⟨b, o + m, none⟩), r.drop m, cr - m)) := Lib.hid (by
            by_cases hcm : cr = m
            · refine .inl ?_
              simp only
              exact List.eq_nil_of_length_eq_zero (by rw [List.length_drop, hk]; omega)
            · rw [if_neg hcm]
              refine .inr ⟨b, o + m, rfl, hbn, hbB, fun i c hi => ?_⟩
              simp only [List.getElem?_drop] at hi
              rw [Nat.add_assoc]
              exact hc2 _ _ hi)
          have hkp : 0 < k := by omega
          have hsl := slice64 gB f0 hc64
          have HM := Lib.hid hm
          clear hc hB hcj hf0 hE hgr hL2 hJ2 hB2 hc2 hln hln2 hjl
          by_cases hcase : k < 64 - f0
          · have hmE : m = k := by omega
            clear hm
            have hr1 : Hid (r.take m = r) := Lib.hid (List.take_of_length_le (by rw [hk]; omega))
            have hlt : f0 + m < 64 := by omega
            have hd64 : decide ((f0 : Int) + (m : Int) < 64) = true := by simp; omega
            have HME := Lib.hid hmE
            clear hk hmE hcase
            gi_wp2_with (refine wpListIn_copy_run rfl (.tmp 18) (.tmp 19) _ rfl rfl rfl hcp ?_)
            refine ⟨⟨pre, cur ++ r.take m, junk.drop m, r.drop m, _, _, by rw [HKd.out], by rw [HKd.out]; omega, by rw [HKd.out]; omega, by rw [HLn.out]; go_num, by rw [HLn.out]; exact hlt, HLn2.out, ?_, HB2.out, HL2.out, HRest.out, HJ2.out⟩, ?_⟩
            · rw [HCat2.out, List.append_assoc, List.take_append_drop]
            · have := HME.out
              show k - m < k
              omega
          · have hmE : f0 + m = 64 := by omega
            have hx64 : (cur ++ r.take m).length = 64 := by rw [HLn.out]; exact hmE
            have hj0 : junk.drop m = [] := by
              have := HLn2.out
              rw [List.length_append, hx64] at this
              exact List.eq_nil_of_length_eq_zero (by omega)
            rw [hj0, List.append_nil] at HB2
            have hld := run_loadVar_row (P := Tryd.prog) w2 gB 64 64 (u8s (cur ++ r.take m)).toArray (0, 0) _ HB2.out Tryd.undB64 rfl (by simpa [u8s_len, hx64] using Tryd.sizeB64)
            obtain ⟨x, hxe⟩ : ∃ x : B64, x.1 = cur ++ r.take m := ⟨⟨_, hx64⟩, rfl⟩
            obtain ⟨fn, tmps, assign, body, hy, hR⟩ := HY.out pre x w2 HJ2.out
            rw [hxe] at hy
            have hd64 : decide ((f0 : Int) + (m : Int) < 64) = false := by simp; omega
            have HXE := Lib.hid hxe
            have HM64 := Lib.hid hmE
            have HEnd : ∀ W3 : World, J (pre ++ [x]) W3 → KpS gs w2 W3 → ∀ Ar kk cr', Ar = (if cr = m then some ⟨b, o, none⟩ else some ⟨b, o + m, none⟩) → kk = k - m → cr' = cr - m → ∃ (pre : List B64) (cur junk r : List UInt8) (Ar' : Option Addr) (cr'' : Nat), Value.slice Ar kk cr' = .slice Ar' r.length cr'' ∧ r.length ≤ cr'' ∧ r.length ≤ lp.length ∧ Value.int .i64 0 = .int .i64 (cur.length : Int) ∧ cur.length < 64 ∧ (cur ++ junk).length = 64 ∧ cat (qs.take j) ++ lp = flat pre ++ (cur ++ r) ∧ Blk W3 gB 64 (u8s (cur ++ junk)) ∧ Lay gB gs W3 g qs ∧ RdN W3 gB gs (Ar', r, cr'') ∧ J pre W3 := by
              intro W3 hJ3 hk3 Ar kk cr' hAr hkk hcr
              subst hAr
              subst hkk
              subst hcr
              refine ⟨pre ++ [x], [], cur ++ r.take m, r.drop m, _, _, by rw [HKd.out], by rw [HKd.out]; omega, by rw [HKd.out]; omega, rfl, by simp, by simpa using hx64, ?_, ?_, HL2.out.keep (keep_kp hk3), HRest.out.keep (keep_kp hk3), hJ3⟩
              · rw [HCat2.out, flat_snoc, HXE.out]
                simp
              · exact hk3.blk HB2.out (by have := HGs.out; omega)
            have HEND := Lib.hid HEnd
            clear hk hmE hcase hm hx64 hj0 hxe HEnd
            by_cases hcm : cr = m
            · subst hcm
              gi_wp2_with (first | refine wpListIn_copy_run rfl (.tmp 18) (.tmp 19) _ rfl rfl rfl hcp ?_ | refine wpListIn_load_arr rfl 64 (.tmp 3) rfl rfl (u8s (cur ++ r.take _)).toArray hld ?_)
              refine hR.mono ?_
              rintro e W3 ⟨rfl, hJ3, hk3⟩
              have HE3 := Lib.hid (HEND.out W3 hJ3 hk3 (some ⟨b, o, none⟩) 0 0 (by simp) (by omega) (by omega))
              clear hJ3 hk3 hR hy hld hcp
              gi_wp2
              exact ⟨HE3.out, by show 0 < k; omega⟩
            · gi_wp2_with (first | refine wpListIn_copy_run rfl (.tmp 18) (.tmp 19) _ rfl rfl rfl hcp ?_ | refine wpListIn_load_arr rfl 64 (.tmp 3) rfl rfl (u8s (cur ++ r.take _)).toArray hld ?_)
              refine hR.mono ?_
              rintro e W3 ⟨rfl, hJ3, hk3⟩
              have HE3 := Lib.hid (HEND.out W3 hJ3 hk3 (some ⟨b, o + m, none⟩) (k - m) (cr - m) (by rw [if_neg hcm]) rfl rfl)
              clear hJ3 hk3 hR hy hld hcp
              gi_wp2
              exact ⟨HE3.out, by have := HM64.out; show k - m < k; omega⟩
    · have hall : cat qs = flat pre ++ cur := by
        have e : qs.take j = qs := List.take_of_length_le (by rw [HN.out]; omega)
        rw [← hcat, e]
      have hc0 : cur = [] := by
        have h1 := HM.out
        rw [hall, List.length_append, flat_lenS] at h1
        exact List.eq_nil_of_length_eq_zero (by omega)
      have HE : Hid (flat pre = cat qs) := Lib.hid (by rw [hall, hc0, List.append_nil])
      have HJp := Lib.hid hJp
      clear hB hL hJp hcat hcj hall hc0
      gi_wp2
      go_end0
      exact ⟨⟨_, rfl⟩, pre, HE.out, HJp.out⟩

theorem blocks_seq (n : Nat) (hn : 1 ≤ n) (Bs gs g cap : Nat) (qs : List Part) (w : World) (hBs : w.cell? ⟨Bs, 0, none⟩ = some (.slice (some ⟨g, 0, none⟩) qs.length cap)) (hL : Lay w.heap.size gs w g qs) (hgs : gs < w.heap.size) (hm : (cat qs).length % 64 = 0) (hx : (cat qs).length ≤ 2000000) (hq : qs.length ≤ 1001) :
    SeqC Fence.wide n Tryd.prog 79 #[.pointer (some ⟨Bs, 0, none⟩)] (fun x : B64 => #[.agg (u8s x.1).toArray]) (KpS gs) (fun xs => flat xs = cat qs) w := by
  intro l J W hW hJ hY h0
  have hk : ∀ (p : Addr) (v : Value), p.block < w.heap.size → p.block ≠ gs → w.cell? p = some v → W.cell? p = some v := fun p v _ _ hv => cell_bel' hW hv
  have hL1 := hL.keep hk
  have hL2 : Lay W.heap.size gs W g qs := ⟨Nat.lt_of_lt_of_le hL1.g1 hW.size, hL1.g2, hL1.row, fun p hp => (hL1.parts p hp).more hW.size, hL1.caps⟩
  exact blocks1_in n hn l Bs gs g cap qs J W hJ hY (cell_bel' hW hBs) hL2 (Nat.lt_of_lt_of_le hgs hW.size) hm hx hq h0

set_option maxRecDepth 100000 in
set_option maxHeartbeats 1000000 in
theorem blocks_in (n : Nat) (A : Option Addr) (len cap : Nat) (w : World) :
    CallsIn Fence.wide n Tryd.prog 54 #[.slice A len cap] w fun e w' => e = .returned (.func (.func 79) #[] #[.pointer (some ⟨w.heap.size, 0, none⟩)]) ∧ w' = w.alloc (.cells #[.slice A len cap] 63) := by
  refine callsIn_of_wp Tryd.func54 rfl trivial ?_ rfl
  simp only [Tryd.ntmps54, List.size_toArray, List.length_cons, List.length_nil, Nat.reduceAdd, Nat.reduceSub, Array.replicate_succ, Array.replicate_zero, List.push_toArray, List.append_toArray, List.nil_append, List.cons_append]
  gi_wp2
  refine bodyPost_ret (results_tmp rfl _ _ _) rfl ?_
  exact ⟨rfl, rfl⟩
end Go.Proofs.YtjhkodmaalefiaaDoor
