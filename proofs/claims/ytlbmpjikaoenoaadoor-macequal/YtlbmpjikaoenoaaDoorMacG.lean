/-
  The landed mac: fitted, Of; its contract.
-/
import Derived.Test.YtlbmpjikaoenoaaDoorMacGa
import Derived.Test.YtlbmpjikaoenoaaDoorMacAw
namespace Go.Gar
open Go.RowKit
/-- copy of what a slice reads as over the head of a row that is known whole, the row's slice being longer. -/
theorem run_copy_head {P : Program} {w : World} (dT sT ty e : TypeId) (hu : P.underlying dT = some (.slice e)) (hs : (P.info? e).map (·.size) = some 1) (g dLen dCap sLen sCap : Nat) (A : Option Addr) (l : List UInt8) (B : Nat)
    (hr : Rd w B A l) (hsl : sLen = l.length) (cs : List Value) (t : TypeId) (hg : Blk w g t cs) (hl : l.length ≤ dLen) (hfit : dLen ≤ cs.length) :
    (Builtin.copy_ #[dT, sT] ty #[.slice (some ⟨g, 0, none⟩) dLen dCap, .slice A sLen sCap]).run P w = .ok (goInt l.length) (w.setRow g (u8s l ++ cs.drop l.length).toArray) := by
  rcases hr with rfl | ⟨b, q, rfl, _, hc⟩
  · subst hsl
    rw [run_copy_none w dT sT ty e _ _ _ _ _ _ hu hs (by simp)]
    have := setRow_self w g cs.toArray t (0, 0) hg
    simp only [List.length_nil, u8s, List.map_nil, List.drop_zero, List.nil_append]
    rw [this]
    rfl
  · have h := run_copy_seg (P := P) (w := w) dT sT ty e hu hs g 0 dLen dCap sLen sCap b q l l.length hc hsl (by omega) cs t hg (by omega)
    simpa using h
/-- copy, its run known. -/
theorem wpList_copy_run {P : Program} {w : World} {ops : Array Oper} {rest : List Oper} {o : Oper} {a : Act} {Q : Exit → Act → World → Prop} (hgd : o.guard = none) (s x : Operand) (ts : Array TypeId)
    (ho : o.op = .call { callee := .builtin .copy, args := #[s, x], argTypes := ts }) {vs vx v : Value} {w' : World} (hs : a.eval s = vs) (hx : a.eval x = vx)
    (hrun : (Builtin.copy_ ts o.type #[vs, vx]).run P w = .ok v w') (h : wpList P ops Q rest (a.put o.dst v) w') : wpList P ops Q (o :: rest) a w := by
  refine wpList_run hgd (v := v) (w' := w') ?_ h
  unfold execOp
  simp only [ho, resolve, invoke, builtin, Sem.run_bind, Sem.run_pure, Result.andThen_ok, List.map_toArray, List.map_cons, List.map_nil, hs, hx, hrun]
/-- append of what a slice reads as, behind an own row. -/
theorem appV_any {P : Program} {w : World} {base B : Nat} {e : TypeId} {v : Value} {vs : List Value} {z : Value} {by_ : Nat} (t ty : TypeId) (ht : P.underlying t = some (.slice e)) (hinfo : (P.info? e).map (fun i => (i.zero, i.size, i.bytes)) = some (some z, 1, by_)) (hz : z.cells.size = 1)
    (hown : OwnV w base e v vs) (hbase : base ≤ w.heap.size) (A : Option Addr) (c m : Nat) (xs : List Value) (hone : ∀ u ∈ xs, u.oneCell' = true) (hm : m = xs.length)
    (hC : Cells w B A xs) (hlen : vs.length + xs.length ≤ 1099511627776) (hby : by_ ≤ 32) :
    ∃ v' w', (Builtin.append_ #[t, t] ty #[v, .slice A m c]).run P w = .ok v' w' ∧ OwnV w' base e v' (vs ++ xs) ∧ Below base w w' ∧ w.grownBy w' v.ownBlock := by
  cases A with
  | none =>
    have hl : xs = [] := by
      rcases hC with hl | ⟨b, o, h, _⟩
      · exact hl
      · cases h
    subst hl
    subst hm
    obtain ⟨i, hi, _⟩ := Option.map_eq_some_iff.1 hinfo
    refine ⟨v, w, ?_, by simpa using hown, Below.refl _ _, World.grownBy.refl _ _⟩
    rcases hown.2 with ⟨rfl, hn⟩ | ⟨g, cap, cur, rfl, _, _, hnc, _⟩
    · simp [Builtin.append_, run_underlying ht, sizeOf, typeInfo, hi, Builtin.lenOf, Builtin.firstCells]
    · simp [Builtin.append_, run_underlying ht, sizeOf, typeInfo, hi, Builtin.lenOf, Builtin.firstCells, hnc, storeCells]
  | some a =>
    refine appV (P := P) t ty ht hinfo hz hown hbase a c m xs hone hm (fun j u hj => ?_) hlen hby
    rcases hC with rfl | ⟨b, o, hA, _, hc⟩
    · simp at hj
    · injection hA with hA
      subst hA
      have : (⟨b, o, none⟩ : Addr).add j = ⟨b, o + j, none⟩ := Addr.add_lit _ _ _
      rw [this]
      exact hc j u hj
end Go.Gar
namespace Go.Proofs.YtlbmpjikaoenoaaDoor
open Go.RowKit Go.Gar

theorem sha2 {G : World → Prop} (hOK : ShaOK G) (A1 A2 : Option Addr) (l1 l2 : List UInt8) (n1 n2 c1 c2 g : Nat) (w : World) (x : Array Value) (hx : x = (u8s (Sha.of (l1 ++ l2))).toArray) (hG : G w) (hg : g = w.heap.size) (h1 : n1 = l1.length) (h2 : n2 = l2.length) (r1 : Rd w w.heap.size A1 l1) (r2 : Rd w w.heap.size A2 l2)
    (hs : (l1 ++ l2).length ≤ 1048576) (k1 : l1.length ≤ c1) (k2 : l2.length ≤ c2) :
    Calls Tryd.prog 14 #[.slice (some ⟨g, 0, none⟩) 2 2] (w.alloc (.cells #[.slice A1 n1 c1, .slice A2 n2 c2] 22)) fun e w' => e = .returned (.agg x) ∧ Below w.heap.size w w' ∧ Below (w.alloc (.cells #[.slice A1 n1 c1, .slice A2 n2 c2] 22)).heap.size (w.alloc (.cells #[.slice A1 n1 c1, .slice A2 n2 c2] 22)) w' := by
  subst h1; subst h2; subst hg; subst hx
  have hb := Blk.new w 22 [.slice A1 l1.length c1, .slice A2 l2.length c2]
  have hbl := below_alloc w (.cells #[.slice A1 l1.length c1, .slice A2 l2.length c2] 22)
  have h := hOK.of (w.alloc (.cells #[.slice A1 l1.length c1, .slice A2 l2.length c2] 22)) (some ⟨w.heap.size, 0, none⟩) [(A1, l1, c1), (A2, l2, c2)] 2 (hOK.keep hG hbl) (by simpa [partV] using Cells.of_blk hb) (by
    intro p hp
    simp at hp
    rcases hp with rfl | rfl
    · exact ⟨(r1.alloc (Nat.le_refl _) _).more (by simp), k1⟩
    · exact ⟨(r2.alloc (Nat.le_refl _) _).more (by simp), k2⟩) (by simpa [cat] using hs) (by simp)
  refine h.mono fun e w' ⟨h1, h2⟩ => ⟨by simpa [cat] using h1, hbl.trans (h2.mono hbl.size), h2⟩
theorem pad_row (key : List UInt8) (l : List UInt8) (h : l = Mac.key0 key) : u8s l ++ (u8s (zB 64)).drop l.length = u8s (Mac.pad key) := by
  subst h
  unfold Mac.pad zB
  rw [u8s_app, u8s_drop, List.drop_replicate]
theorem size64B (l : List UInt8) (h : l.length = 64) : (Tryd.prog.info? 37).map (·.size) = some (u8s l).length := by
  rw [u8s_len, h]; exact Tryd.sizeB64

/-- The end of fitted: the facts that its walk needs. -/
theorem fit_facts (wX : World) (g : Nat) (l X : List UInt8) (hl : u8s l ++ (u8s (zB 64)).drop l.length = u8s X) (hX : X.length = 64) (hll : l.length ≤ 64) (A : Option Addr) (n c : Nat) (hn : n = l.length) (r : Rd wX wX.heap.size A l) (hB : Blk wX g 37 (u8s (zB 64))) :
    ∃ w4 w5, wX.alloc (.cells (u8s (zB 64)).toArray 37) = w4 ∧ (Builtin.copy_ #[22, 22] 3 #[.slice (some ⟨wX.heap.size, 0, none⟩) 64 64, .slice A n c]).run Tryd.prog w4 = .ok (goInt l.length) w5 ∧
      (loadVar 37 ⟨wX.heap.size, 0, none⟩).run Tryd.prog w5 = .ok (.agg (u8s X).toArray) w5 ∧ Blk w5 g 37 (u8s (zB 64)) ∧ Below wX.heap.size wX w5 ∧
      (loadVar 37 ⟨g, 0, none⟩).run Tryd.prog (w5.setRow g (u8s X).toArray) = .ok (.agg (u8s X).toArray) (w5.setRow g (u8s X).toArray) := by
  have hK := Blk.new wX 37 (u8s (zB 64))
  have hcp := run_copy_head (P := Tryd.prog) (w := wX.alloc (.cells (u8s (zB 64)).toArray 37)) 22 22 3 5 Tryd.und22 Tryd.size5 wX.heap.size 64 64 n c A l wX.heap.size (r.alloc (Nat.le_refl _) _) hn _ _ hK hll (by rw [u8s_len, zB_len]; omega)
  rw [hl, World.setRow_alloc_new] at hcp
  have hB5 := hB.alloc (.cells (u8s X).toArray 37)
  exact ⟨_, _, rfl, hcp, run_loadVar_row (P := Tryd.prog) _ wX.heap.size 37 37 (u8s X).toArray (0, 0) _ (Blk.new wX _ (u8s X)) Tryd.undB64 rfl (by simpa using size64B X hX), hB5, below_alloc wX _,
    run_loadVar_row (P := Tryd.prog) _ g 37 37 (u8s X).toArray (0, 0) _ (hB5.row _) Tryd.undB64 rfl (by simpa using size64B X hX)⟩

set_option maxHeartbeats 2000000 in
set_option maxRecDepth 100000 in
theorem fitted_any (w : World) (hG : Gl w) (K : Option Addr) (key : List UInt8) (n kc : Nat) (hn : n = key.length) (rK : Rd w w.heap.size K key) (hc : key.length ≤ kc) (hl : key.length ≤ 1048576) :
    Calls Tryd.prog 12 #[.slice K n kc] w fun e w' => e = .returned (.agg (u8s (Mac.pad key)).toArray) ∧ Below w.heap.size w w' := by
  obtain ⟨X, hX⟩ : ∃ X, Mac.pad key = X := ⟨_, rfl⟩
  have hXl : X.length = 64 := by rw [← hX]; exact Mac.pad_len key
  have hpr := pad_row key (Mac.key0 key) rfl
  rw [hX] at hpr ⊢
  have HXl := Lib.hid hXl
  have HP := Lib.hid hpr
  have hR0 := Blk.new w 37 (u8s (zB 64))
  have hb0 := below_alloc w (.cells (u8s (zB 64)).toArray 37)
  have hs0 : (w.alloc (.cells (u8s (zB 64)).toArray 37)).heap.size = w.heap.size + 1 := World.size_alloc _ _
  obtain ⟨w0, hw0⟩ : ∃ w0, w.alloc (.cells (u8s (zB 64)).toArray 37) = w0 := ⟨_, rfl⟩
  rw [hw0] at hR0 hb0 hs0
  have hrK0 : Rd w0 w0.heap.size K key := (rK.below hb0).more hb0.size
  have HG := Lib.hid (Gl.keep hG hb0)
  have HR0 := Lib.hid hR0
  have Hb0 := Lib.hid hb0
  have HS0 := Lib.hid hs0
  have HRK := Lib.hid hrK0
  have HN := Lib.hid hn
  have HC := Lib.hid hc
  have HL := Lib.hid hl
  have HW0 := Lib.hid hw0
  obtain ⟨g, hg⟩ : ∃ g, w.heap.size = g := ⟨_, rfl⟩
  rw [hg]
  have Hg := Lib.hid hg
  clear hX hXl hpr hR0 hb0 hs0 hrK0 hG rK hc hl hw0 hg
  by_cases h64 : 64 < n
  · have hk0 : Mac.key0 key = Sha.of key := if_pos (by rw [← hn]; exact h64)
    rw [hk0] at HP
    clear hn hk0
    go_enter Tryd.func12, Tryd.ntmps12
    go_wp2_with (refine wpList_alloc_arr rfl 37 (u8s (zB 64)).toArray rfl zero64B ?_; rw [HW0.out, Hg.out])
    obtain ⟨D, hD⟩ : ∃ D, Sha.of key = D := ⟨_, rfl⟩
    have hDl : D.length = 32 := by rw [← hD]; exact Sha.of_len _
    rw [hD] at HP
    refine (sha1 shaOK K key n kc _ w0 (u8s D).toArray (by rw [hD]) HG.out rfl HN.out HRK.out HL.out HC.out).mono ?_
    rintro e w1 ⟨rfl, hb1⟩
    have HDl := Lib.hid hDl
    have Hb1 := Lib.hid hb1
    clear hDl hb1 hD
    have hEa : (w1.alloc (.cells z32.toArray 23)).setRow w1.heap.size (u8s D).toArray = w1.alloc (.cells (u8s D).toArray 23) := World.setRow_alloc_new w1 _ _ _
    obtain ⟨w2, hw2⟩ : ∃ w2, w1.alloc (.cells (u8s D).toArray 23) = w2 := ⟨_, rfl⟩
    have hBD := Blk.new w1 23 (u8s D)
    have hb2 := below_alloc w1 (.cells (u8s D).toArray 23)
    rw [hw2] at hEa hBD hb2
    have HEa := Lib.hid hEa
    have HS := Lib.hid (size_32 D HDl.out)
    have HZ : Hid (z32.length = (u8s D).length) := Lib.hid (by rw [u8s_len, HDl.out, z32_len])
    have hbx : Below w0.heap.size w0 w2 := Hb1.out.trans (hb2.mono Hb1.out.size)
    have HbX : Hid (Below g w w2) := Lib.hid (by have := Hb0.out; rw [Hg.out] at this; exact this.trans (hbx.mono (by have := HS0.out; have := Hg.out; omega)))
    have HRg : Hid (Blk w2 g 37 (u8s (zB 64))) := Lib.hid (by have := HR0.out; rw [Hg.out] at this; exact this.below hbx (by have := HS0.out; have := Hg.out; omega))
    clear hEa hw2 hb2 hbx
    obtain ⟨w4, w5, hw4, hcp, hld, hB5, hb5, hl6⟩ := fit_facts w2 g D X HP.out HXl.out (by rw [HDl.out]; omega) (some ⟨w1.heap.size, 0, none⟩) 32 32 HDl.out.symm (Rd.of_all hBD) HRg.out
    have HW4 := Lib.hid hw4
    have HCP := Lib.hid hcp
    have HB5 := Lib.hid hB5
    have HSz := Lib.hid (size64B X HXl.out)
    have HLn : Hid ((u8s (zB 64)).length = (u8s X).length) := Lib.hid (by rw [u8s_len, u8s_len, HXl.out, zB_len])
    have HL6 := Lib.hid hl6
    have HLD := Lib.hid hld
    have Hb6 := Lib.hid (below_setRow (HbX.out.trans (hb5.mono (by rw [← Hg.out]; exact HbX.out.size))) (Nat.le_refl _) (u8s X).toArray)
    clear hw4 hcp hB5 hl6 hld hb5
    clear hBD
    have HO := Lib.hid (u8s_one D)
    have HZ1 := Lib.hid (Blk.new w1 23 z32)
    go_wp2_with (first | refine wpList_alloc_arr rfl 23 z32.toArray rfl zero_32 ?_ | (refine wpList_store_arr rfl 23 (.tmp 3) (.tmp 10) w1.heap.size z32 (u8s D) rfl rfl rfl rfl HZ1.out HS.out HZ.out HO.out ?_; rw [HEa.out]) | (refine wpList_alloc_arr rfl 37 (u8s (zB 64)).toArray rfl zero64B ?_; rw [HW4.out]) | refine wpList_copy_run rfl (.tmp 12) (.tmp 13) _ rfl rfl rfl HCP.out ?_ | refine wpList_load_arr_w 37 (.tmp 4) rfl rfl (u8s X).toArray HLD.out (by kernel_rfl) ?_ | refine wpList_store_arr rfl 37 (.tmp 2) (.tmp 15) g _ _ rfl rfl rfl rfl HB5.out HSz.out HLn.out (u8s_one _) ?_)
    simp only [Act.put, List.setIfInBounds_toArray, List.set]
    refine bodyPost_ret (v := .agg (u8s X).toArray) ?_ rfl ⟨rfl, Hb6.out⟩
    have hl2 := HL6.out
    generalize (u8s X).toArray = Y at hl2 ⊢
    simp [results, Tryd.results12, asAddr, hl2]
  · have hk0 : Mac.key0 key = key := if_neg (by rw [← hn]; exact h64)
    rw [hk0] at HP
    clear hn hk0
    have HbX : Hid (Below g w w0) := Lib.hid (by have := Hb0.out; rw [Hg.out] at this; exact this)
    have HRg : Hid (Blk w0 g 37 (u8s (zB 64))) := Lib.hid (by have := HR0.out; rw [Hg.out] at this; exact this)
    obtain ⟨w4, w5, hw4, hcp, hld, hB5, hb5, hl6⟩ := fit_facts w0 g key X HP.out HXl.out (by rw [← HN.out]; omega) K n kc HN.out HRK.out HRg.out
    have HW4 := Lib.hid hw4
    have HCP := Lib.hid hcp
    have HB5 := Lib.hid hB5
    have HSz := Lib.hid (size64B X HXl.out)
    have HLn : Hid ((u8s (zB 64)).length = (u8s X).length) := Lib.hid (by rw [u8s_len, u8s_len, HXl.out, zB_len])
    have HL6 := Lib.hid hl6
    have HLD := Lib.hid hld
    have Hb6 := Lib.hid (below_setRow (HbX.out.trans (hb5.mono (by rw [← Hg.out]; exact HbX.out.size))) (Nat.le_refl _) (u8s X).toArray)
    clear hw4 hcp hB5 hl6 hld hb5
    go_enter Tryd.func12, Tryd.ntmps12
    go_wp2_with (first | (refine wpList_alloc_arr rfl 37 (u8s (zB 64)).toArray rfl zero64B ?_; first | rw [HW0.out, Hg.out] | rw [HW4.out]) | refine wpList_copy_run rfl (.tmp 12) (.tmp 13) _ rfl rfl rfl HCP.out ?_ | refine wpList_load_arr_w 37 (.tmp 4) rfl rfl (u8s X).toArray HLD.out (by kernel_rfl) ?_ | refine wpList_store_arr rfl 37 (.tmp 2) (.tmp 15) g _ _ rfl rfl rfl rfl HB5.out HSz.out HLn.out (u8s_one _) ?_)
    simp only [Act.put, List.setIfInBounds_toArray, List.set]
    refine bodyPost_ret (v := .agg (u8s X).toArray) ?_ rfl ⟨rfl, Hb6.out⟩
    have hl2 := HL6.out
    generalize (u8s X).toArray = Y at hl2 ⊢
    simp [results, Tryd.results12, asAddr, hl2]

set_option maxHeartbeats 4000000 in
set_option maxRecDepth 100000 in
theorem macOf_any (w : World) (hG : Gl w) (K : Option Addr) (key : List UInt8) (n kc : Nat) (hn : n = key.length) (rK : Rd w w.heap.size K key) (hc : key.length ≤ kc) (hl : key.length ≤ 1048576)
    (A : Option Addr) (ps : List Part) (np cap : Nat) (hnp : np = ps.length) (hC : Cells w w.heap.size A (ps.map partV)) (hR : ∀ p ∈ ps, Rd w w.heap.size p.1 p.2.1 ∧ p.2.1.length ≤ p.2.2) (hcl : (cat ps).length ≤ 1000000) (hpl : ps.length ≤ 900) (O : List UInt8) (hO : O = Mac.of key (cat ps)) :
    Calls Tryd.prog 6 #[.slice K n kc, .slice A np cap] w fun e w' => e = .returned (.agg (u8s O).toArray) ∧ Below w.heap.size w w' := by
  have hPl := Mac.pad_len key
  obtain ⟨X, hX⟩ : ∃ X, Mac.pad key = X := ⟨_, rfl⟩
  rw [hX] at hPl
  have hOl : O.length = 32 := by rw [hO]; exact Mac.of_len _ _
  rw [Mac.of, hX] at hO
  obtain ⟨D, hD⟩ : ∃ D, Sha.of (Mac.xs 54 X ++ cat ps) = D := ⟨_, rfl⟩
  have hDl : D.length = 32 := by rw [← hD]; exact Sha.of_len _
  rw [hD] at hO
  have HX := Lib.hid hX
  have HXl := Lib.hid hPl
  have HO := Lib.hid hO
  have HOl := Lib.hid hOl
  have HD := Lib.hid hD
  have HDl := Lib.hid hDl
  have HNP := Lib.hid hnp
  have HC := Lib.hid hC
  have HR := Lib.hid hR
  have HCL := Lib.hid hcl
  have HPL := Lib.hid hpl
  have HG := Lib.hid hG
  have HN := Lib.hid hn
  have HRK := Lib.hid rK
  have HKC := Lib.hid hc
  have HKL := Lib.hid hl
  clear hX hPl hO hOl hD hDl hnp hC hR hcl hpl hG hn rK hc hl
  have hR0 := Blk.new w 23 z32
  have hb0 := below_alloc w (.cells z32.toArray 23)
  have hs0 : (w.alloc (.cells z32.toArray 23)).heap.size = w.heap.size + 1 := World.size_alloc _ _
  obtain ⟨w0, hw0⟩ : ∃ w0, w.alloc (.cells z32.toArray 23) = w0 := ⟨_, rfl⟩
  rw [hw0] at hR0 hb0 hs0
  have HR0 := Lib.hid hR0
  have Hb0 := Lib.hid hb0
  have HS0 := Lib.hid hs0
  have HW0 := Lib.hid hw0
  clear hR0 hb0 hs0 hw0
  go_enter Tryd.func6, Tryd.ntmps6
  go_wp2_with (refine wpList_alloc_arr rfl 23 z32.toArray rfl zero_32 ?_; rw [HW0.out])
  refine (fitted_any w0 (Gl.keep HG.out Hb0.out) K key n kc HN.out ((HRK.out.below Hb0.out).more Hb0.out.size) HKC.out HKL.out).mono ?_
  rintro e w1 ⟨rfl, hb1⟩
  rw [HX.out]
  clear HX
  have hEa : (w1.alloc (.cells (u8s (zB 64)).toArray 37)).setRow w1.heap.size (u8s X).toArray = w1.alloc (.cells (u8s X).toArray 37) := World.setRow_alloc_new w1 _ _ _
  have hB2 := Blk.new w1 37 (u8s X)
  have hb2 := below_alloc w1 (.cells (u8s X).toArray 37)
  have hs2 : (w1.alloc (.cells (u8s X).toArray 37)).heap.size = w1.heap.size + 1 := World.size_alloc _ _
  obtain ⟨w2, hw2⟩ : ∃ w2, w1.alloc (.cells (u8s X).toArray 37) = w2 := ⟨_, rfl⟩
  rw [hw2] at hEa hB2 hb2 hs2
  have hld := run_loadVar_row (P := Tryd.prog) w2 w1.heap.size 37 37 (u8s X).toArray (0, 0) _ hB2 Tryd.undB64 rfl (by simpa using size64B X HXl.out)
  have hbw2 : Below w.heap.size w w2 := Hb0.out.trans ((hb1.trans (hb2.mono hb1.size)).mono Hb0.out.size)
  have hR2 : Blk w2 w.heap.size 23 z32 := (HR0.out.below (hb1.trans (hb2.mono hb1.size)) (by have := HS0.out; omega))
  have HEa := Lib.hid hEa
  have HZ1 := Lib.hid (Blk.new w1 37 (u8s (zB 64)))
  have HSz := Lib.hid (size64B X HXl.out)
  have HLn : Hid ((u8s (zB 64)).length = (u8s X).length) := Lib.hid (by rw [u8s_len, u8s_len, HXl.out, zB_len])
  have HB2 := Lib.hid hB2
  have HLD := Lib.hid hld
  have Hb2 := Lib.hid hbw2
  have HR2 := Lib.hid hR2
  have HS2 : Hid (w.heap.size < w1.heap.size ∧ w2.heap.size = w1.heap.size + 1) := Lib.hid (by have := HS0.out; have := hb1.size; omega)
  clear hEa hB2 hb2 hs2 hw2 hld hbw2 hR2 hb1 HR0 Hb0 HS0 HW0
  go_wp2_with (first | refine wpList_alloc_arr rfl 37 (u8s (zB 64)).toArray rfl zero64B ?_ | (refine wpList_store_arr rfl 37 (.tmp 5) (.tmp 9) w1.heap.size _ _ rfl rfl rfl rfl HZ1.out HSz.out HLn.out (u8s_one _) ?_; rw [HEa.out]) | refine wpList_load_arr_w 37 (.tmp 5) rfl rfl (u8s X).toArray HLD.out (by kernel_rfl) ?_)
  clear HEa HZ1 HLD
  refine (masked_any w2 X 54 54 rfl HXl.out).mono ?_
  rintro e w3 ⟨rfl, hM3, hb3⟩
  have hown := World.ownsRow_lit (base := w3.heap.size) (e := 22) (size := 1) w3 #[.slice (some ⟨w2.heap.size, 0, none⟩) 64 64] 1 (Nat.le_refl _) (by simp [maxLen]) (by simp)
  have hb4 := below_alloc w3 (.cells #[.slice (some ⟨w2.heap.size, 0, none⟩) 64 64] 22)
  have hs4 : (w3.alloc (.cells #[.slice (some ⟨w2.heap.size, 0, none⟩) 64 64] 22)).heap.size = w3.heap.size + 1 := World.size_alloc _ _
  have hbw3 : Below w.heap.size w w3 := Hb2.out.trans (hb3.mono Hb2.out.size)
  have hC4 := cells_below HC.out (hbw3.trans (hb4.mono hbw3.size)) (Nat.le_trans hbw3.size hb4.size)
  obtain ⟨v6, w5, a1, a2, a3, _⟩ := appV_any (P := Tryd.prog) 36 36 Tryd.undPs Tryd.infoPs rfl (vs := [.slice (some ⟨w2.heap.size, 0, none⟩) 64 64]) hown (by rw [hs4]; omega) A cap np (ps.map partV) (parts_one ps) (by rw [List.length_map]; exact HNP.out) hC4 (by have := HPL.out; simp; omega) (by omega)
  have hb5 : Below w3.heap.size w3 w5 := hb4.trans a3
  have hbw5 : Below w.heap.size w w5 := hbw3.trans (hb5.mono hbw3.size)
  have hs3 := hb3.size
  have hs5 := hb5.size
  obtain ⟨g6, c6, rest, hv6, hg6, hc6, hB6⟩ := a2.blk (by simp)
  subst hv6
  have HA1 := Lib.hid a1
  have HB6 := Lib.hid hB6
  have Hb5 := Lib.hid hbw5
  have HM5 := Lib.hid (hM3.below hb5 hM3.lt)
  have HB5 := Lib.hid (HB2.out.below (hb3.trans (hb5.mono hb3.size)) HB2.out.lt)
  have HR5 := Lib.hid (HR2.out.below (hb3.trans (hb5.mono hb3.size)) HR2.out.lt)
  have HS5 : Hid (w2.heap.size < w5.heap.size ∧ w1.heap.size < w5.heap.size) := Lib.hid (by have := HS2.out; have := hM3.lt; omega)
  clear hown hb4 hs4 hbw3 hC4 a1 a2 a3 hb5 hbw5 hs3 hs5 hg6 hc6 hB6 hM3 hb3 HB2 HR2 Hb2
  go_wp2_with (at_builtin; refine wpList_append_run rfl (.tmp 12) (.tmp 13) _ rfl rfl rfl HA1.out ?_)
  have hxl : (Mac.xs 54 X).length = 64 := by rw [Mac.xs_len, HXl.out]
  have hsha := shaOK.of w5 (some ⟨g6, 0, none⟩) ((some ⟨w2.heap.size, 0, none⟩, Mac.xs 54 X, 64) :: ps) c6 (Gl.keep HG.out Hb5.out)
    (.inr ⟨g6, 0, rfl, HB6.out.lt, fun i v hi => by
      rw [Nat.zero_add, HB6.out.cell, List.getElem?_append_left (by have := (List.getElem?_eq_some_iff.1 hi).1; simpa using this), ← hi, List.map_cons, partV, hxl]; rfl⟩)
    (by
      intro p hp
      rcases List.mem_cons.1 hp with rfl | hp
      · exact ⟨Rd.of_all HM5.out, by rw [hxl]; exact Nat.le_refl _⟩
      · exact ⟨((HR.out p hp).1.below Hb5.out).more Hb5.out.size, (HR.out p hp).2⟩)
    (by have := HCL.out; rw [cat, List.flatMap_cons, List.length_append, hxl]; unfold cat at this; omega) (by have := HPL.out; simp; omega)
  rw [show cat ((some ⟨w2.heap.size, 0, none⟩, Mac.xs 54 X, 64) :: ps) = Mac.xs 54 X ++ cat ps from rfl, HD.out, List.length_cons] at hsha
  refine hsha.mono ?_
  rintro e w6 ⟨rfl, hb6⟩
  clear hsha hxl
  have hEa : (w6.alloc (.cells z32.toArray 23)).setRow w6.heap.size (u8s D).toArray = w6.alloc (.cells (u8s D).toArray 23) := World.setRow_alloc_new w6 _ _ _
  have hD7 := Blk.new w6 23 (u8s D)
  have hb7 := below_alloc w6 (.cells (u8s D).toArray 23)
  have hs7 : (w6.alloc (.cells (u8s D).toArray 23)).heap.size = w6.heap.size + 1 := World.size_alloc _ _
  obtain ⟨w7, hw7⟩ : ∃ w7, w6.alloc (.cells (u8s D).toArray 23) = w7 := ⟨_, rfl⟩
  rw [hw7] at hEa hD7 hb7 hs7
  have hb57 := hb6.trans (hb7.mono hb6.size)
  have HEa := Lib.hid hEa
  have HZ6 := Lib.hid (Blk.new w6 23 z32)
  have HSD := Lib.hid (size_32 D HDl.out)
  have HZD : Hid (z32.length = (u8s D).length) := Lib.hid (by rw [u8s_len, HDl.out, z32_len])
  have HD7 := Lib.hid hD7
  have HB7 := Lib.hid (HB5.out.below hb57 HB5.out.lt)
  have HR7 := Lib.hid (HR5.out.below hb57 HR5.out.lt)
  have Hb7 := Lib.hid (Hb5.out.trans (hb57.mono Hb5.out.size))
  clear hEa hD7 hb7 hs7 hw7 hb57 hb6 HB5 HR5 HM5 HB6 HA1
  generalize Value.slice (some ⟨g6, 0, none⟩) (ps.length + 1) c6 = T6 at *
  go_wp2_with (first | refine wpList_alloc_arr rfl 23 z32.toArray rfl zero_32 ?_ | (refine wpList_store_arr rfl 23 (.tmp 7) (.tmp 16) w6.heap.size z32 (u8s D) rfl rfl rfl rfl HZ6.out HSD.out HZD.out (u8s_one _) ?_; rw [HEa.out]))
  clear HEa HZ6 HSD HZD
  simp only [Act.put, List.setIfInBounds_toArray, List.set]
  refine wp_region_G grows (by kernel_rfl) ?_
  have HD8 := Lib.hid HD7.out.drew
  have HB8 := Lib.hid HB7.out.drew
  have HR8 := Lib.hid HR7.out.drew
  have Hb8 := Lib.hid Hb7.out.drew
  clear HD7 HB7 HR7 Hb7
  generalize w7.drew = w8 at *
  have hll := load_arr_later (P := Tryd.prog) Tryd.undB64 (by simpa using size64B X HXl.out) HB8.out
  refine segG (by kernel_rfl) (fun _ _ _ _ _ h => h) [0, 2] [_, _] 4 rfl rfl (by kernel_rfl) ?_
  refine wpQuiet_load_arr 37 (.tmp 5) rfl rfl (u8s X).toArray hll (by kernel_rfl) ?_
  simp only [Act.put, List.setIfInBounds_toArray, List.set]
  repeat (go_big_quiet_step (fail))
  refine wpQuiet_nil ?_
  clear hll
  refine oneG 1 3 rfl (by kernel_rfl) rfl ?_
  go_wp2_with fail
  refine (masked_any w8 X 92 92 rfl HXl.out).mono ?_
  rintro e w9 ⟨rfl, hM9, hb9⟩
  have Hb9' := Lib.hid hb9
  have HM9 := Lib.hid hM9
  have HD9 := Lib.hid (HD8.out.below hb9 HD8.out.lt)
  have HR9 := Lib.hid (HR8.out.below hb9 HR8.out.lt)
  have Hb9 := Lib.hid (Hb8.out.trans (hb9.mono Hb8.out.size))
  clear hb9 hM9 HD8 HR8 Hb8 HB8
  go_wp2
  refine ⟨Hb9'.out, ?_⟩
  refine oneG 3 2 rfl (by kernel_rfl) rfl ?_
  go_wp2
  refine ⟨below_alloc w9 _, ?_⟩
  refine oneG 4 1 rfl (by kernel_rfl) rfl ?_
  go_wp2_with fail
  have hxl : (Mac.xs 92 X).length = 64 := by rw [Mac.xs_len, HXl.out]
  refine (sha2 shaOK _ _ (Mac.xs 92 X) D 64 32 64 32 _ w9 (u8s O).toArray (by rw [HO.out]) (Gl.keep HG.out Hb9.out) rfl hxl.symm HDl.out.symm (Rd.of_all HM9.out) (Rd.of_all HD9.out) (by rw [List.length_append, hxl, HDl.out]; omega) (by rw [hxl]; exact Nat.le_refl _) (by rw [HDl.out]; exact Nat.le_refl _)).mono ?_
  rintro e w10 ⟨rfl, hb10, hbA⟩
  have HR10 := Lib.hid (HR9.out.below hb10 HR9.out.lt)
  have Hb10 := Lib.hid (below_setRow (Hb9.out.trans (hb10.mono Hb9.out.size)) (Nat.le_refl _) (u8s O).toArray)
  have HbA := Lib.hid hbA
  have HSz := Lib.hid (size_32 O HOl.out)
  have HLn : Hid (z32.length = (u8s O).length) := Lib.hid (by rw [u8s_len, HOl.out, z32_len])
  have hl2 := run_loadVar_row (P := Tryd.prog) (w10.setRow w.heap.size (u8s O).toArray) w.heap.size 23 23 (u8s O).toArray (0, 0) _ (HR10.out.row _) Tryd.und32 rfl (by simpa using size_32 O HOl.out)
  have HL2 := Lib.hid hl2
  clear hb10 hbA hxl HR9 Hb9 HM9 HD9 hl2
  go_wp2
  refine ⟨HbA.out, ?_⟩
  clear HbA
  refine lateG 5 0 rfl (by kernel_rfl) (by kernel_rfl) rfl ?_
  refine wpList_store_arr rfl 23 (.tmp 4) (.tmp 21) w.heap.size z32 (u8s O) rfl rfl rfl rfl HR10.out HSz.out HLn.out (u8s_one _) ?_
  go_wp2
  refine ⟨trivial, ?_⟩
  refine wpAnyG_done (by kernel_rfl) ?_
  go_wp2
  refine bodyPost_ret (v := .agg (u8s O).toArray) ?_ rfl ⟨rfl, Hb10.out⟩
  have hl2 := HL2.out
  generalize (u8s O).toArray = Y at hl2 ⊢
  simp [results, Tryd.results6, asAddr, hl2]

/-- The landed mac keeps its contract wherever sha's table lies as its text lays it. -/
theorem macOK : MacOK Gl :=
  ⟨fun h hb => h.keep hb, fun w K key kcap A ps cap hG rK hk hl hC hR hcl hpl => macOf_any w hG K key _ kcap rfl rK hk hl A ps _ cap rfl hC hR hcl hpl _ rfl,
    fun w A B a b ac bc _ rA rB _ _ ha hb => (equal_any w A B a b _ _ ac bc rfl rfl rA rB ha hb).mono fun _ _ ⟨h1, h2⟩ => ⟨h1, by rw [h2]; exact Below.refl _ _⟩⟩
end Go.Proofs.YtlbmpjikaoenoaaDoor
