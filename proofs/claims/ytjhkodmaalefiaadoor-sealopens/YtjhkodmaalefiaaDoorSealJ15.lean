/-
  The reference's cipher: New, Encrypt, Decrypt: contracts by the key. append of bytes onto a slice that the call itself made, and where what it yields lies: in its old block or in a new one. Of no program. A statement that draws its order, where two operations may come up: both are walked. Of no program; a tool for the walks. The reference's Seal of layer 7: its contract.
-/
import Derived.Test.YtjhkodmaalefiaaDoorSealJ12
import Derived.Test.YtjhkodmaalefiaaDoorSealJ14
import Derived.Test.YtjhkodmaalefiaaDoorSealJ09
import Derived.Test.YtjhkodmaalefiaaDoorSealJ03
import Derived.Maps.AppendAt
import Derived.Test.YtjhkodmaalefiaaDoorSealJ02
import Derived.RegionTactic
import Derived.BigRegion
set_option maxRecDepth 100000
namespace Go.Proofs.YtjhkodmaalefiaaDoor
open Go.ChangeShapes Go.WideShapes Go.ChangeAt Go.RowKit Go.Gar Go.Gar.Aes

/-- The reference's cipher of a key. -/
def RefOf (w : World) (gc : Nat) (key : List UInt8) : Prop := ∃ gt gb gw cp, RefC w gc gt gb gw cp (words key (key.length / 4) (4 * (key.length / 4) + 28))
theorem RefOf.below {w w' : World} {gc : Nat} {key : List UInt8} (h : RefOf w gc key) (hb : Below w.heap.size w w') : RefOf w' gc key := by
  obtain ⟨gt, gb, gw, cp, h⟩ := h
  exact ⟨gt, gb, gw, cp, h.below hb⟩
theorem refNew_at (w : World) (A : Option Addr) (key : List UInt8) (len cap : Nat) (hok : sizeOk key.length) (hlen : len = key.length) (hc : len ≤ cap) (hr : Rd w w.heap.size A key) :
    Calls Tryd.prog 41 #[.slice A len cap] w fun e w' => ∃ gc, e = .returned (.tuple #[.pointer (some ⟨gc, 0, none⟩), .bool true]) ∧ RefOf w' gc key ∧ Below w.heap.size w w' := by
  unfold sizeOk at hok
  have h4 : 4 * (key.length / 4) = key.length := by omega
  obtain rfl : len = 4 * (key.length / 4) := by omega
  refine (refNew_yes w A key (key.length / 4) cap (by omega) hc h4.symm hr).mono fun e w' he => ?_
  obtain ⟨gc, gt, gb, gw, cp, h1, h2, h3⟩ := he
  exact ⟨gc, h1, ⟨gt, gb, gw, cp, h2⟩, h3⟩
theorem refNew_any (w : World) (A : Option Addr) (key : List UInt8) (cap : Nat) (hc : key.length ≤ cap) (hr : Rd w w.heap.size A key) (may : Bool) (hm : may = true ↔ sizeOk key.length) :
    Calls Tryd.prog 41 #[.slice A key.length cap] w fun e w' => ∃ p, e = .returned (.tuple #[.pointer p, .bool may]) ∧ Below w.heap.size w w' := by
  cases may with
  | true =>
    refine (refNew_at w A key _ cap (hm.1 rfl) rfl hc hr).mono fun e w' he => ?_
    obtain ⟨gc, h1, _, h3⟩ := he
    exact ⟨_, h1, h3⟩
  | false =>
    refine (refNew_no w A key.length cap (fun hs => by cases hm.2 hs)).mono fun e w' he => ?_
    obtain ⟨h1, rfl⟩ := he
    exact ⟨_, h1, Below.refl _ _⟩
theorem refEnc_at (w : World) (gc : Nat) (key : List UInt8) (h : RefOf w gc key) (A : Option Addr) (l : List UInt8) (c : Nat) (hl : l.length = 16) (hr : Rd w w.heap.size A l) :
    Calls Tryd.prog 42 #[.pointer (some ⟨gc, 0, none⟩), .slice A 16 c] w fun e w' => ∃ B cp, e = .returned (.slice B 16 cp) ∧ Rd w' w'.heap.size B (encrypt key l) ∧ Below w.heap.size w w' := by
  obtain ⟨gt, gb, gw, cp, h⟩ := h
  refine (refEncrypt_any w gc gt gb gw cp _ h (roundsOf key) (by rw [words_len, roundsOf]; omega) (by rw [roundsOf]; omega) A l c hl hr).mono fun e w' he => ?_
  obtain ⟨g, cp', rest, h1, _, h3, h4⟩ := he
  exact ⟨_, _, h1, Rd.of_row h3, h4⟩
/-- The same, with the room of the slice that Encrypt answers. -/
theorem refEnc_room (w : World) (gc : Nat) (key : List UInt8) (h : RefOf w gc key) (A : Option Addr) (l : List UInt8) (c : Nat) (hl : l.length = 16) (hr : Rd w w.heap.size A l) :
    Calls Tryd.prog 42 #[.pointer (some ⟨gc, 0, none⟩), .slice A 16 c] w fun e w' => ∃ g cp rest, e = .returned (.slice (some ⟨g, 0, none⟩) 16 cp) ∧ 16 ≤ cp ∧ Blk w' g 5 (u8s (encrypt key l) ++ rest) ∧ Below w.heap.size w w' := by
  obtain ⟨gt, gb, gw, cp, h⟩ := h
  refine (refEncrypt_any2 w gc gt gb gw cp _ h (roundsOf key) (by rw [words_len, roundsOf]; omega) (by rw [roundsOf]; omega) A l c hl hr).mono fun e w' he => ?_
  obtain ⟨g, cp', rest, h1, _, h3, h4, h5⟩ := he
  exact ⟨_, _, _, h1, h5, h3, h4⟩
theorem refDec_at (w : World) (gc : Nat) (key : List UInt8) (h : RefOf w gc key) (A : Option Addr) (l : List UInt8) (c : Nat) (hl : l.length = 16) (hr : Rd w w.heap.size A l) :
    Calls Tryd.prog 50 #[.pointer (some ⟨gc, 0, none⟩), .slice A 16 c] w fun e w' => ∃ B cp, e = .returned (.slice B 16 cp) ∧ Rd w' w'.heap.size B (decrypt key l) ∧ Below w.heap.size w w' := by
  obtain ⟨gt, gb, gw, cp, h⟩ := h
  refine (refDecrypt_any w gc gt gb gw cp _ h (roundsOf key) (by rw [words_len, roundsOf]; omega) (by rw [roundsOf]; omega) A l c hl hr).mono fun e w' he => ?_
  obtain ⟨g, cp', rest, h1, _, h3, h4⟩ := he
  exact ⟨_, _, h1, Rd.of_row h3, h4⟩
/-- The same of Decrypt. -/
theorem refDec_room (w : World) (gc : Nat) (key : List UInt8) (h : RefOf w gc key) (A : Option Addr) (l : List UInt8) (c : Nat) (hl : l.length = 16) (hr : Rd w w.heap.size A l) :
    Calls Tryd.prog 50 #[.pointer (some ⟨gc, 0, none⟩), .slice A 16 c] w fun e w' => ∃ g cp rest, e = .returned (.slice (some ⟨g, 0, none⟩) 16 cp) ∧ 16 ≤ cp ∧ Blk w' g 5 (u8s (decrypt key l) ++ rest) ∧ Below w.heap.size w w' := by
  obtain ⟨gt, gb, gw, cp, h⟩ := h
  refine (refDecrypt_any2 w gc gt gb gw cp _ h (roundsOf key) (by rw [words_len, roundsOf]; omega) (by rw [roundsOf]; omega) A l c hl hr).mono fun e w' he => ?_
  obtain ⟨g, cp', rest, h1, _, h3, h4, h5⟩ := he
  exact ⟨_, _, _, h1, h5, h3, h4⟩

end Go.Proofs.YtjhkodmaalefiaaDoor
namespace Go.Gar
open Go.RowKit
section
variable {P : Program} {w : World} {base : Nat} {e : TypeId} {v : Value} {k : List UInt8}
theorem app_at (t ty : TypeId) (ht : P.underlying t = some (.slice e)) (hinfo : (P.info? e).map (fun i => (i.zero, i.size, i.bytes)) = some (some (.int .u8 0), 1, 1))
    (hown : OwnB w base e v k) (hbase : base ≤ w.heap.size) {B : Nat} {A : Option Addr} {l : List UInt8} (n c : Nat) (hn : n = l.length) (hr : Rd w B A l) (hlen : k.length + l.length ≤ 1099511627776) :
    ∃ v' w', (Builtin.append_ #[t, t] ty #[v, .slice A n c]).run P w = .ok v' w' ∧ OwnB w' base e v' (k ++ l) ∧ w.grownBy w' v.ownBlock ∧ (v'.ownBlock = v.ownBlock ∨ v'.ownBlock = some w.heap.size) := by
  subst hn
  obtain ⟨i, hi, hzz⟩ := Option.map_eq_some_iff.1 hinfo
  simp only [Prod.mk.injEq] at hzz
  obtain ⟨hz, hs, hby⟩ := hzz
  cases A with
  | none =>
    have hl : l = [] := by
      rcases hr with hl | ⟨b, o, h, _⟩
      · exact hl
      · cases h
    subst hl
    refine ⟨v, w, ?_, by simpa using hown, World.grownBy.refl _ _, .inl rfl⟩
    rcases hown.2 with ⟨rfl, hn⟩ | ⟨g, cap, cur, rfl, _, _, hnc, _⟩
    · simp [Builtin.append_, run_underlying ht, sizeOf, typeInfo, hi, Builtin.lenOf, Builtin.firstCells]
    · simp [Builtin.append_, run_underlying ht, sizeOf, typeInfo, hi, Builtin.lenOf, Builtin.firstCells, hnc, storeCells]
  | some a =>
    obtain ⟨v', w', h1, h2, h3, _, h5⟩ := run_append_own_at (P := P) w base t ty e i _ 1 1 ht hi hz hs hby rfl (by omega) v k.length (u8s k) hown a l.length c (u8s l) (by simp [u8s_len]) (by
      intro j u hj
      rw [u8s_get] at hj
      rcases hr with rfl | ⟨b, o, hA, _, hc⟩
      · simp at hj
      · injection hA with hA
        subst hA
        cases hq : l[j]? with
        | none => simp [hq] at hj
        | some c =>
          rw [hq] at hj
          simp at hj
          subst hj
          have : (⟨b, o, none⟩ : Addr).add j = ⟨b, o + j, none⟩ := Addr.add_lit _ _ _
          rw [this]
          exact hc j c hq) (u8s_one l) (by simp only [maxLen]; omega) (by omega) hbase
    refine ⟨v', w', h1, ?_, h3, h5⟩
    unfold OwnB
    rw [List.length_append, u8s_app]
    exact h2
theorem OwnB.block_lt {g : Nat} (h : OwnB w base e v k) (hg : v.ownBlock = some g) : base ≤ g ∧ g < w.heap.size := World.ownsRow.lt h g hg
theorem OwnB.far {w' : World} {row : Option Nat} (h : OwnB w base e v k) (hg : w.grownBy w' row) (hne : ∀ g, v.ownBlock = some g → row ≠ some g) : OwnB w' base e v k :=
  h.keep fun g hv => hg.block g (h.block_lt hv).2 (fun e => hne g hv e.symm)
end
end Go.Gar
namespace Go.Gar
open Go.RowKit
section
variable {G : Growth} {P : Program} {ops : Array Oper} {Q : Exit → Act → World → Prop} {md : Region.Mode}

theorem wpOp_of_list {i : Nat} {o : Oper} {a : Act} {w : World} {K : Act → World → Prop} (hi : ops[i]? = some o) (h : wpList P ops (Exit.then K Q) [o] a w) : wpOp P ops Q i K a w := by
  unfold wpOp
  simp only [hi]
  unfold wpList at h
  split
  · rename_i hw
    simp only [hw, if_true] at h
    rcases h with h | ⟨h1, h2⟩
    · left
      unfold Oper.wp at h ⊢
      generalize (execOp a.eval o).run P w = r at *
      cases r with
      | ok n w' => cases n <;> exact h
      | halt x w' => cases x <;> exact h
    · exact .inr ⟨h1, h2⟩
  · rename_i hw
    simp only [hw] at h
    exact h
/-- Two operations may come up now. -/
theorem twoG {L : List Oper} (i j n : Nat) {N : Nat} {o p : Oper} {listed : Array Bool} {a : Act} {w : World} (hN : N = n + 1) (hr : Region.ready md L.toArray listed = [i, j]) (hi : L[i]? = some o) (hj : L[j]? = some p)
    (h1 : wpList P L.toArray (Exit.then (fun a' w' => G.rel w w' ∧ wpAnyG G P md L.toArray Q n (listed.setIfInBounds i true) a' w') Q) [o] a w)
    (h2 : wpList P L.toArray (Exit.then (fun a' w' => G.rel w w' ∧ wpAnyG G P md L.toArray Q n (listed.setIfInBounds j true) a' w') Q) [p] a w) : wpAnyG G P md L.toArray Q N listed a w := by
  subst hN
  refine ⟨fun h0 => (by rw [h0] at hr; cases hr), fun k hk => ?_⟩
  rw [hr] at hk
  rcases List.mem_cons.1 hk with rfl | hk
  · exact wpOp_mono (fun a' w' h => ⟨.inl h.1, h.2⟩) (wpOp_of_list (by simpa using hi) h1)
  · obtain rfl : k = j := by simpa using hk
    exact wpOp_mono (fun a' w' h => ⟨.inl h.1, h.2⟩) (wpOp_of_list (by simpa using hj) h2)
/-- The walk under a name: what is left of it may be stated once for all orders. -/
theorem nameG {fuel : Nat} {listed : Array Bool} {a : Act} {w : World} (h : ∀ W : Nat → Array Bool → Act → World → Prop, W = wpAnyG G P md ops Q → W fuel listed a w) : wpAnyG G P md ops Q fuel listed a w := h _ rfl
theorem sameG {fuel : Nat} {listed L' : Array Bool} {a : Act} {w : World} (e : listed = L') (h : wpAnyG G P md ops Q fuel L' a w) : wpAnyG G P md ops Q fuel listed a w := by rw [e]; exact h
end
end Go.Gar
namespace Go.Proofs.YtjhkodmaalefiaaDoor
open Go.ChangeShapes Go.WideShapes Go.ChangeAt Go.RowKit Go.Gar Go.Gar.Aes

theorem refEnc_own (w : World) (gc : Nat) (key : List UInt8) (h : RefOf w gc key) (A : Option Addr) (l : List UInt8) (c : Nat) (hl : l.length = 16) (hr : Rd w w.heap.size A l) :
    Calls Tryd.prog 42 #[.pointer (some ⟨gc, 0, none⟩), .slice A 16 c] w fun e w' => ∃ g cp rest, e = .returned (.slice (some ⟨g, 0, none⟩) 16 cp) ∧ w.heap.size ≤ g ∧ Blk w' g 5 (u8s (encrypt key l) ++ rest) ∧ Below w.heap.size w w' := by
  obtain ⟨gt, gb, gw, cp, h⟩ := h
  exact refEncrypt_any w gc gt gb gw cp _ h (roundsOf key) (by rw [words_len, roundsOf]; omega) (by rw [roundsOf]; omega) A l c hl hr
/-- What is said of the reference's cipher is said of blocks that lay when it was made. -/
theorem RefOf.far {w W : World} {gc : Nat} {key : List UInt8} (h : RefOf w gc key) (hb : Below w.heap.size w W) : RefOf W gc key := h.below hb

theorem run_slice_mid (W : World) (g o len cap l h : Nat) (z1 z2 : Int) (h1 : z1 = (l : Int)) (h2 : z2 = (h : Int)) (hlh : l ≤ h) (hc : h ≤ cap) (hne : l < cap) :
    (Instr.sliceAt 26 (.slice (some ⟨g, o, none⟩) len cap) (some (.int .i64 z1)) (some (.int .i64 z2)) none).run Tryd.prog W = .ok (.slice (some ⟨g, o + l, none⟩) (h - l) (cap - l)) W := by
  subst h1; subst h2
  obtain ⟨i, hi, hs⟩ := Option.map_eq_some_iff.1 Tryd.size5
  have e1 : ¬ cap = l := by omega
  have e3 : (h : Int) ≤ (cap : Int) := by omega
  simp [Instr.sliceAt, Instr.slice, Instr.sliceBounds, run_underlying Tryd.und22 W, sizeOf, typeInfo, hi, hs, go_sem, e1, e3, Addr.add_lit]
  intro hh
  omega
set_option maxHeartbeats 1000000 in
set_option maxRecDepth 100000 in
theorem refSeal_no (w : World) (K V A : Option Addr) (kl kc vl vc bl bc : Nat) (h : ¬ sizeOk kl) :
    Calls Tryd.prog 21 #[.slice K kl kc, .slice V vl vc, .slice A bl bc] w fun e w' => e = .returned (.tuple #[.slice none 0 0, .int .i64 1]) ∧ Below w.heap.size w w' := by
  go_enter Tryd.func21, Tryd.ntmps21
  go_wp2_with fail
  refine (refNew_no w K kl kc h).mono ?_
  rintro e w1 ⟨rfl, rfl⟩
  go_wp2
  go_ret2
  exact ⟨rfl, Below.refl _ _⟩

/-- 16 bytes, i of them mixed. -/
def mixK (x l : List UInt8) (i : Nat) : List UInt8 := (addK x l).take i ++ x.drop i
theorem mixK_0 (x l : List UInt8) : mixK x l 0 = x := by simp [mixK]
theorem mixK_end (x l : List UInt8) (hx : x.length = 16) : mixK x l 16 = addK x l := by
  rw [mixK, List.take_of_length_le (by rw [addK_len]; omega), List.drop_eq_nil_of_le (by omega), List.append_nil]
theorem mixK_len (x l : List UInt8) (i : Nat) (hx : x.length = 16) : (mixK x l i).length = 16 := by
  rw [mixK, List.length_append, List.length_take, addK_len, List.length_drop]; omega
theorem mixK_get (x l : List UInt8) (i : Nat) (hi : i < 16) (hx : x.length = 16) : (mixK x l i)[i]? = some (at_ x i) := by
  have hl : ((addK x l).take i).length = i := by rw [List.length_take, addK_len]; omega
  rw [mixK, List.getElem?_append_right (by omega), hl, Nat.sub_self, List.getElem?_drop, Nat.add_zero, at_, List.getD_eq_getElem?_getD, List.getElem?_eq_getElem (by omega)]
  rfl
theorem mixK_set (x l : List UInt8) (i : Nat) (hi : i < 16) (hx : x.length = 16) : (mixK x l i).set i (at_ x i ^^^ at_ l i) = mixK x l (i + 1) := by
  have hl : ((addK x l).take i).length = i := by rw [List.length_take, addK_len]; omega
  have e2 : x.drop i = x[i]'(by omega) :: x.drop (i + 1) := List.drop_eq_getElem_cons (by omega)
  have e1 : (addK x l).take (i + 1) = (addK x l).take i ++ [at_ x i ^^^ at_ l i] := by
    have h := st_get (fun i => at_ x i ^^^ at_ l i) i hi
    rw [List.take_succ_eq_append_getElem (by rw [addK_len]; exact hi)]
    congr 2
    have h2 : (addK x l)[i]? = some (at_ x i ^^^ at_ l i) := h
    rw [List.getElem?_eq_getElem (by rw [addK_len]; exact hi)] at h2
    exact Option.some.inj h2
  unfold mixK
  rw [List.set_append_right _ _ (by omega), hl, Nat.sub_self, e2, List.set_cons_zero, e1, List.append_assoc]
  rfl
theorem u8s_set'' (l : List UInt8) (i : Nat) (c : UInt8) : (u8s l).set i (.int .u8 (c.toNat : Int)) = u8s (l.set i c) := by simp [u8s, List.map_set]
theorem at_get' (l : List UInt8) (i : Nat) (h : i < l.length) : l[i]? = some (at_ l i) := by
  rw [at_, List.getD_eq_getElem?_getD, List.getElem?_eq_getElem h]; rfl

set_option maxHeartbeats 4000000 in
set_option maxRecDepth 100000 in
theorem refSeal_yes (w : World) (K V A : Option Addr) (key iv b : List UInt8) (kl kc vc bl bc : Nat) (hs : sizeOk key.length) (hkl : kl = key.length) (hbl : bl = b.length) (hkc : kl ≤ kc) (hiv : iv.length = 16) (rK : Rd w w.heap.size K key) (rV : Rd w w.heap.size V iv) (rA : Rd w w.heap.size A b) (hb : b.length ≤ 1048576) :
    Calls Tryd.prog 21 #[.slice K kl kc, .slice V 16 vc, .slice A bl bc] w fun e w' => ∃ B n c, e = .returned (.tuple #[.slice B n c, .int .i64 0]) ∧ n = (Cbc.seal_ key iv b).length ∧ n ≤ c ∧ Rd w' w'.heap.size B (Cbc.seal_ key iv b) ∧ Below w.heap.size w w' := by
  have HKL := Lib.hid hkl
  have HBL := Lib.hid hbl
  have HIV := Lib.hid hiv
  have HRK := Lib.hid rK
  have HRV := Lib.hid rV
  have HRA := Lib.hid rA
  have hb20 : bl ≤ 1048576 := by omega
  have HS := Lib.hid hs
  clear hkl hbl hiv rK rV rA hb hs
  go_enter Tryd.func21, Tryd.ntmps21
  go_wp2_with fail
  refine (refNew_at w K key kl kc HS.out HKL.out hkc HRK.out).mono ?_
  rintro e w1 ⟨gc, rfl, hC, hb1⟩
  obtain ⟨v1, w2, a1, a2, a3, _⟩ := app_at (P := Tryd.prog) 26 26 Tryd.und22 Tryd.info5 (own_made w1 w1.heap.size 5 (Nat.le_refl _)) (by rw [World.size_alloc]; omega) bl bc HBL.out (((HRA.out.below hb1).more hb1.size).alloc (Nat.le_refl _) _) (by rw [← HBL.out]; simp; omega)
  rw [List.nil_append] at a2
  obtain ⟨A1, c1, hv1, r1⟩ := a2.rd
  rw [← HBL.out] at hv1
  subst hv1
  have hb2 : Below w1.heap.size w1 w2 := (below_alloc w1 _).grown a3 (by rw [World.size_alloc]; omega) (fun k e => by have e1 := Option.some.inj e; simp only at e1; omega)
  have HC := Lib.hid hC
  have Hb1 := Lib.hid hb1
  have HO := Lib.hid a2
  have Hb2 := Lib.hid hb2
  clear hC hb1 a2 a3 r1 hb2
  go_wp2_with (at_builtin; refine wpList_append_run rfl (.tmp 27) (.tmp 28) _ rfl rfl rfl a1 ?_)
  clear a1
  obtain ⟨f, hf⟩ : ∃ f, f = Cbc.fillN b := ⟨_, rfl⟩
  have hfl : 1 ≤ f ∧ f ≤ 16 := by rw [hf]; exact Cbc.fillN_lt b
  have hfe : (16 : Int) - (bl : Int) % 16 = (f : Int) := by
    have := HBL.out
    rw [hf, Cbc.fillN]; omega
  rw [hfe]
  have HF := Lib.hid hf
  clear hf hfe
  have HP0 : Hid (OwnB w2 w1.heap.size 5 (.slice A1 bl c1) (Cbc.padK b 0)) := Lib.hid (by simpa [Cbc.padK] using HO.out)
  clear HO
  go_loopw [10] (fun v w' => ∃ k : Nat, k ≤ f ∧ OwnB w' w1.heap.size 5 v (Cbc.padK b k) ∧ Below w1.heap.size w1 w') (fun v _ => bl + f - (match v with | .slice _ n _ => n | _ => 0))
  case atStart => exact ⟨0, by omega, HP0.out, Hb2.out⟩
  case round =>
    obtain ⟨k, hk, hO, hB⟩ := hrel
    clear HP0 Hb2
    have hpl := Cbc.padK_len b k
    rw [← HBL.out] at hpl
    obtain ⟨A2, c2, rfl, r2⟩ := hO.rd
    rw [hpl] at hO ⊢
    by_cases hkf : k < f
    · have hd : decide ((bl : Int) + (k : Int) < (bl : Int) + (f : Int)) = true := by simp; omega
      have hw8 : (UInt8.ofNat f).toNat = f := by simp; omega
      obtain ⟨v3, w3, a1, a2, a3, a4⟩ := app_at (P := Tryd.prog) 26 26 Tryd.und22 Tryd.info5 (hO.alloc (.cells #[.int .u8 (f : Int)] 5)) (by rw [World.size_alloc]; exact Nat.le_trans hB.size (Nat.le_succ _)) (l := [UInt8.ofNat f]) 1 1 rfl (Rd.of_all (show Blk (wr.alloc (.cells #[.int .u8 (f : Int)] 5)) wr.heap.size 5 (u8s [UInt8.ofNat f]) by
        have := Blk.new wr 5 (u8s [UInt8.ofNat f])
        rw [show (u8s [UInt8.ofNat f]).toArray = #[.int .u8 (f : Int)] from by simp [u8s]; omega] at this
        exact this)) (by rw [hpl]; simp; omega)
      rw [HF.out, Cbc.padK_succ] at a2
      have hb3 : Below w1.heap.size w1 w3 := (hB.alloc hB.size _).grown a3 (by rw [World.size_alloc]; exact Nat.le_trans hB.size (Nat.le_succ _)) (fun q e => (hO.block_lt e).1)
      obtain ⟨A3, c3, hv3, -⟩ := a2.rd
      have hpl3 := Cbc.padK_len b (k + 1)
      rw [← HBL.out] at hpl3
      rw [hpl3] at hv3
      subst hv3
      have HO3 := Lib.hid a2
      have HB3 := Lib.hid hb3
      clear a2 a3 a4 hO hB r2 hb3 hpl hpl3 hw8
      go_wp2_with (at_builtin; refine wpList_append_run rfl (.tmp 41) (.tmp 44) _ rfl rfl rfl a1 ?_)
      exact ⟨⟨k + 1, by omega, HO3.out, HB3.out⟩, by show bl + f - (bl + (k + 1)) < bl + f - (bl + k); omega⟩
    · have hkE : k = f := by omega
      have hpad : Cbc.padK b k = Cbc.pad b := by rw [Cbc.pad, hkE, HF.out]
      rw [hpad] at hO
      obtain ⟨gm, cm, restm, hv, hgm, hcm, hBm⟩ := hO.blk (by rw [← hpad, hpl]; omega)
      rw [← hpad, hpl] at hv hcm
      injection hv with hv1 hv2 hv3
      subst hv1
      subst hv3
      obtain ⟨N, hN⟩ : ∃ N, N = bl / 16 + 1 := ⟨_, rfl⟩
      have hL16 : bl + k = 16 * N := by
        have h1 := hpl
        rw [hpad, Cbc.pad_len, ← HBL.out] at h1
        omega
      obtain ⟨m, hm⟩ : ∃ m, m = Cbc.pad b := ⟨_, rfl⟩
      rw [← hm] at hBm
      have hd : decide (16 * (N : Int) < (bl : Int) + (f : Int)) = false := by simp; omega
      rw [hL16] at hcm ⊢
      have hml : m.length = 16 * N := by rw [hm, ← hpad, hpl, hL16]
      have HBm := Lib.hid hBm
      have HML := Lib.hid hml
      have HMe := Lib.hid hm
      have HNe := Lib.hid hN
      have HBel := Lib.hid hB
      have hN20 : N ≤ 65537 := by omega
      clear hO hB r2 hpl hpad hv2 hBm hml hm hN hgm hkE hkf hk hL16
      go_wp2
      have hwb := HBel.out.size
      have hVb : ∀ bb o, V = some ⟨bb, o, none⟩ → bb < wr.heap.size := fun bb o e => by
        rcases HRV.out with h | ⟨b', o', e', hb', _⟩
        · have := HIV.out; rw [h] at this; cases this
        · rw [e] at e'
          have e1 := Option.some.inj e'
          injection e1 with e2
          have := Hb1.out.size
          omega
      have hbS : Below wr.heap.size wr (wr.alloc (.cells #[] 5)) := below_alloc wr _
      have hVS : Rd (wr.alloc (.cells #[] 5)) (wr.alloc (.cells #[] 5)).heap.size V iv := by
        have h1 := Hb1.out.trans (HBel.out.mono Hb1.out.size)
        exact (((HRV.out.below h1).more h1.size).below hbS).more hbS.size
      have HoS := Lib.hid (own_made wr wr.heap.size 5 (Nat.le_refl _))
      have HbS := Lib.hid hbS
      have HVS := Lib.hid hVS
      have HVb := Lib.hid hVb
      clear hwb hVb hbS hVS
      obtain ⟨wL, rfl⟩ : ∃ wL, wL = wr := ⟨_, rfl⟩
      generalize wL.alloc (.cells #[] 5) = wS at HoS HVS HbS ⊢
      go_loopw [12, 13, 14] (fun vo vl at_ w' => ∃ (j : Nat) (B : Option Addr) (c : Nat), j ≤ N ∧ at_ = .int .i64 (16 * (j : Int)) ∧ vl = .slice B 16 c ∧ OwnB w' wL.heap.size 5 vo (Cbc.outK key iv m j) ∧ Rd w' w'.heap.size B (Cbc.last key iv m j) ∧ (∀ bb o, B = some ⟨bb, o, none⟩ → vo.ownBlock ≠ some bb) ∧ Below wL.heap.size wL w') (fun _ _ at_ _ => 16 * N + 16 - (intOf at_).toNat)
      case atStart =>
        exact ⟨0, V, vc, by omega, rfl, rfl, HoS.out, HVS.out, fun bb o e e2 => by have := HVb.out bb o e; have e3 := Option.some.inj e2; simp only at e3; omega, HbS.out⟩
      case round =>
        obtain ⟨j, B, cB, hj, rfl, rfl, hOo, hRl, hne, hBel⟩ := hrel
        obtain ⟨Bo, co, hvo, -⟩ := hOo.rd
        rw [Cbc.outK_len] at hvo
        subst hvo
        clear HoS HbS HVS HVb
        by_cases hjN : j < N
        · have hd2 : decide (16 * (j : Int) < 16 * (N : Int)) = true := by simp; omega
          have hsl : ∀ W, (Instr.sliceAt 26 (.slice (some ⟨gm, 0, none⟩) (16 * N) c2) (some (.int .i64 (16 * (j : Int)))) (some (.int .i64 (16 * (j : Int) + 16))) none).run Tryd.prog W = .ok (.slice (some ⟨gm, 16 * j, none⟩) 16 (c2 - 16 * j)) W := fun W => by
            have := run_slice_mid W gm 0 (16 * N) c2 (16 * j) (16 * j + 16) (16 * (j : Int)) (16 * (j : Int) + 16) (by omega) (by omega) (by omega) (by omega) (by omega)
            rw [Nat.zero_add, Nat.add_sub_cancel_left] at this
            exact this
          have hm16 : (Cbc.blk m j).length = 16 := Cbc.blk_len m j (by rw [HML.out]; omega)
          have hBmW : Blk wr gm 5 (u8s m ++ restm) := HBm.out.below hBel HBm.out.lt
          have hrm : Rd (wr.alloc (.cells #[] 5)) (wr.alloc (.cells #[] 5)).heap.size (some ⟨gm, 16 * j, none⟩) (Cbc.blk m j) := by
            have hB2 := hBmW.alloc (.cells #[] 5)
            refine .inr ⟨gm, 16 * j, rfl, hB2.lt, fun i c hi => ?_⟩
            rw [Cbc.blk, List.getElem?_take] at hi
            split at hi
            · rw [List.getElem?_drop] at hi
              rw [hB2.cell, List.getElem?_append_left (by rw [u8s_len]; exact (List.getElem?_eq_some_iff.1 hi).1), u8s_get, hi]
              rfl
            · cases hi
          obtain ⟨vx, wx, a1, a2, a3, a4⟩ := app_at (P := Tryd.prog) 26 26 Tryd.und22 Tryd.info5 (own_made wr wr.heap.size 5 (Nat.le_refl _)) (by rw [World.size_alloc]; omega) 16 (c2 - 16 * j) hm16.symm hrm (by rw [hm16]; simp)
          rw [List.nil_append] at a2
          have hbx : Below wr.heap.size wr wx := (below_alloc wr _).grown a3 (by rw [World.size_alloc]; omega) (fun k e => by have e1 := Option.some.inj e; simp only at e1; omega)
          obtain ⟨gx, cx, restx, hvx, hgx, hcx, hBx⟩ := a2.blk (by rw [hm16]; omega)
          rw [hm16] at hvx hcx
          subst hvx
          have HBx := Lib.hid hBx
          have Hbx := Lib.hid hbx
          have HOo := Lib.hid hOo
          have HRl := Lib.hid hRl
          have Hne := Lib.hid hne
          have HBW := Lib.hid hBel
          have Hgx := Lib.hid hgx
          have HM16 := Lib.hid hm16
          clear a2 a3 a4 hrm hBmW hBx hbx hOo hRl hne hBel hgx hm16
          go_wp2_with (at_builtin; refine wpList_append_run rfl (.tmp 54) (.tmp 59) _ rfl rfl rfl a1 ?_)
          clear a1
          have hLl := Cbc.last_len key iv m HIV.out j
          obtain ⟨L, hLe⟩ : ∃ L, L = Cbc.last key iv m j := ⟨_, rfl⟩
          rw [← hLe] at hLl HRl
          obtain ⟨X, hXe⟩ : ∃ X, X = Cbc.blk m j := ⟨_, rfl⟩
          rw [← hXe] at HBx HM16
          have HXe := Lib.hid hXe
          have HLe := Lib.hid hLe
          have HLl := Lib.hid hLl
          obtain ⟨bL, oL, rfl, hbL, hcL⟩ : ∃ bL oL, B = some ⟨bL, oL, none⟩ ∧ bL < wr.heap.size ∧ ∀ i c, L[i]? = some c → wr.cell? ⟨bL, oL + i, none⟩ = some (.int .u8 (c.toNat : Int)) := by
            rcases HRl.out with h | ⟨b', o', e', hb', hc'⟩
            · rw [h] at hLl; cases hLl
            · exact ⟨b', o', e', hb', hc'⟩
          have HcL := Lib.hid hcL
          clear hcL hLe hXe hLl HRl hsl
          obtain ⟨wR, rfl⟩ : ∃ wR, wR = wr := ⟨_, rfl⟩
          go_loopw [16] (fun iv_ w' => ∃ i : Nat, i ≤ 16 ∧ iv_ = .int .i64 (i : Int) ∧ Blk w' gx 5 (u8s (mixK X L i) ++ restx) ∧ Below wR.heap.size wR w') (fun iv_ _ => 16 - (intOf iv_).toNat)
          case atStart => exact ⟨0, by omega, rfl, by rw [mixK_0]; exact HBx.out, Hbx.out⟩
          case round =>
            obtain ⟨i, hi, rfl, hBi, hbi⟩ := hrel
            clear HBx Hbx
            by_cases hil : i < 16
            · have hcx1 : wr.cell? ⟨gx, i, none⟩ = some (.int .u8 ((at_ X i).toNat : Int)) := by
                rw [hBi.cell, List.getElem?_append_left (by rw [u8s_len, mixK_len _ _ _ HM16.out]; exact hil), u8s_get, mixK_get _ _ _ hil HM16.out]; rfl
              have hcl1 : wr.cell? ⟨bL, oL + i, none⟩ = some (.int .u8 ((at_ L i).toNat : Int)) := by
                rw [hbi.cell (p := ⟨bL, oL + i, none⟩) hbL]
                exact HcL.out i _ (at_get' L i (by rw [HLl.out]; exact hil))
              have hf := hBi.frozen i
              have hS := hBi.set_ i (.int .u8 ((at_ X i ^^^ at_ L i).toNat : Int))
              rw [List.set_append_left _ _ (by rw [u8s_len, mixK_len _ _ _ HM16.out]; exact hil), u8s_set'', mixK_set _ _ _ hil HM16.out] at hS
              have hb2 := hbi.setCell (p := ⟨gx, i, none⟩) Hgx.out (.int .u8 ((at_ X i ^^^ at_ L i).toNat : Int))
              obtain ⟨q, hq⟩ : ∃ q : UInt8, q = at_ X i ^^^ at_ L i := ⟨_, rfl⟩
              have hxq : bits .xor .u8 ((at_ X i).toNat : Int) ((at_ L i).toNat : Int) = (q.toNat : Int) := by
                rw [hq, UInt8.toNat_xor]; exact xor_u8 _ _ (UInt8.toNat_lt _) (UInt8.toNat_lt _)
              rw [← hq] at hS hb2
              have h8x := (at_ X i).toNat_lt
              have h8l := (at_ L i).toNat_lt
              generalize (at_ X i).toNat = xn at *
              generalize (at_ L i).toNat = ln at *
              have HBn := Lib.hid hS
              have Hbn := Lib.hid hb2
              clear hS hb2 hBi hbi hq
              go_wp2_with fail
              refine wp_region_G grows (by kernel_rfl) ?_
              have hclq : ∀ {p : Addr} {v : Value}, wr.cell? p = some v → ∀ x : Later grows wr.drew, x.to.cell? p = some v := fun h x => by
                have hb : Below wr.drew.heap.size wr.drew x.to := x.grown
                rw [hb.cell (p := _) (World.block_lt_of_cell? wr _ h)]
                exact h
              have q1 := hclq hcx1
              have q2 := hclq hcl1
              clear hclq
              refine segG (by kernel_rfl) (fun _ _ _ _ _ h => h) [0, 1, 2, 3, 4, 5] [_, _, _, _, _, _] 7 rfl rfl (by kernel_rfl) ?_
              repeat (go_big_quiet_step (fail))
              refine wpQuiet_nil ?_
              refine segG (by kernel_rfl) (fun _ _ _ _ _ h => h) [6, 7, 8, 9, 10, 11] [_, _, _, _, _, _] 1 rfl rfl (by kernel_rfl) ?_
              repeat (go_big_quiet_step (fail))
              refine wpQuiet_nil ?_
              refine lateG 12 0 rfl (by kernel_rfl) (by kernel_rfl) rfl ?_
              clear q1 q2
              go_wp2
              refine ⟨trivial, ?_⟩
              refine wpAnyG_done (by kernel_rfl) ?_
              go_wp2
              exact ⟨⟨i + 1, by omega, by go_num, HBn.out, ⟨Hbn.out.os, Hbn.out.tape, Hbn.out.output, Hbn.out.size, Hbn.out.block⟩⟩, by simp [intOf]; omega⟩
            · have hi16 : i = 16 := by omega
              have hBl : Blk wr gx 5 (u8s (addK X L) ++ restx) := by
                have h := hBi
                rw [show mixK X L i = addK X L from by rw [hi16]; exact mixK_end X L HM16.out] at h
                exact h
              have hCw : RefOf wr gc key := ((HC.out.below HBel.out).below HBW.out).below hbi
              have hRx := Rd.of_row hBl
              have Hbl := Lib.hid hbi
              have HCw := Lib.hid hCw
              have HRx := Lib.hid hRx
              have hd3 : decide ((i : Int) < 16) = false := by simp; omega
              clear hBi hbi hi16 hBl hCw hRx
              go_wp2_with fail
              refine (refEnc_own wr gc key HCw.out _ (addK X L) cx (addK_len _ _) HRx.out).mono ?_
              rintro e w4 ⟨g, cp, rest, rfl, hg, hBg, hb4⟩
              have hb4R : Below wR.heap.size wR w4 := Hbl.out.trans (hb4.mono Hbl.out.size)
              have hO4 : OwnB w4 wL.heap.size 5 (.slice Bo (16 * j) co) (Cbc.outK key iv m j) := HOo.out.keep fun q hq => hb4R.block q (HOo.out.block_lt hq).2
              have hel : (encrypt key (addK X L)).length = 16 := encrypt_len _ _
              have hol := Cbc.outK_len key iv m j
              obtain ⟨v5, w5, a1, a2, a3, a4⟩ := app_at (P := Tryd.prog) 26 26 Tryd.und22 Tryd.info5 hO4 (Nat.le_trans HBW.out.size hb4R.size) 16 cp hel.symm (Rd.of_row hBg) (by rw [hel, hol]; omega)
              have hlast : encrypt key (addK X L) = Cbc.last key iv m (j + 1) := by rw [HXe.out, HLe.out, Cbc.last]
              rw [hlast] at a2 hBg
              have hne1 : (Value.slice Bo (16 * j) co).ownBlock ≠ some g := fun e => by
                have := (HOo.out.block_lt e).2
                have := Hbl.out.size
                omega
              have hgl := hBg.lt
              have hR5 : Rd w5 w5.heap.size (some ⟨g, 0, none⟩) (Cbc.last key iv m (j + 1)) := Rd.of_row (hBg.grown a3 (fun e => hne1 e.symm))
              have hne5 : v5.ownBlock ≠ some g := fun e => by
                rcases a4 with h | h
                · rw [h] at e; exact hne1 e
                · rw [h] at e; have := Option.some.inj e; omega
              have hB5 : Below wL.heap.size wL w5 := (HBW.out.trans (hb4R.mono HBW.out.size)).grown a3 (Nat.le_trans HBW.out.size hb4R.size) (fun q e => (HOo.out.block_lt e).1)
              have a2' : OwnB w5 wL.heap.size 5 v5 (Cbc.outK key iv m (j + 1)) := a2
              obtain ⟨B5, c5, hv5, -⟩ := a2'.rd
              rw [Cbc.outK_len] at hv5
              subst hv5
              have HO5 := Lib.hid a2'
              have HR5 := Lib.hid hR5
              have Hne5 := Lib.hid hne5
              have HB5 := Lib.hid hB5
              clear a2 a2' a3 a4 hR5 hne5 hB5 hb4 hb4R hO4 hBg hlast hne1 hgl hel hol hg
              go_wp2_with (at_builtin; refine wpList_append_run rfl (.tmp 80) (.tmp 81) _ rfl rfl rfl a1 ?_)
              exact ⟨⟨j + 1, some ⟨g, 0, none⟩, cp, by omega, congrArg (Value.int .i64) (by omega), rfl, HO5.out, HR5.out, fun bb o e => by cases e; exact Hne5.out, HB5.out⟩, by simp [intOf]; omega⟩
        · have hjE : j = N := by omega
          have hse : Cbc.outK key iv m j = Cbc.seal_ key iv b := by
            rw [Cbc.seal_, hjE, HMe.out, HNe.out, HBL.out]
          have hol := Cbc.outK_len key iv m j
          obtain ⟨A9, c9, hv9, hr9⟩ := hOo.rd
          rw [hol] at hv9
          injection hv9 with h91 h92 h93
          subst h91
          subst h93
          have hle : 16 * j ≤ co := by
            have := HNe.out
            obtain ⟨gq, cq, rq, hq, -, hcq, -⟩ := hOo.blk (by rw [hol]; omega)
            injection hq with hq1 hq2 hq3
            omega
          have hfin : 16 * j = (Cbc.seal_ key iv b).length := by rw [← hse, hol]
          have hBf : Below w.heap.size w wr := (Hb1.out.trans (HBel.out.mono Hb1.out.size)).trans (hBel.mono (Nat.le_trans Hb1.out.size HBel.out.size))
          rw [hse] at hr9
          have hd2 : decide (16 * (j : Int) < 16 * (N : Int)) = false := by simp; omega
          have Hr9 := Lib.hid hr9
          have Hfin := Lib.hid hfin
          have HBf := Lib.hid hBf
          have Hle := Lib.hid hle
          clear hse hol hr9 hfin hBf hOo hRl hne hBel hle hjE
          go_wp2
          go_ret2
          exact ⟨_, _, _, rfl, Hfin.out, Hle.out, Hr9.out, HBf.out⟩
end Go.Proofs.YtjhkodmaalefiaaDoor
