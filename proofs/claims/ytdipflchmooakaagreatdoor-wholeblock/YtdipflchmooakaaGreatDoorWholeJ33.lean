/-
  The landed token: Decode: its contract; the landed token keeps its contract. Layer 11: what is asked of lz's functions (a contract, over whatever the packages' own variables may be). The landed lz: a map from three bytes to slices: what it holds, as a function. LZ77: the positions in reach that start alike; the best match as a fold over them. Of no program. A thing in memory that owns blocks: what a call on it may turn. Of no program. The landed lz: its window in memory: a map whose elements are slices of positions, each in a row of its own.
-/
import Derived.Test.YtdipflchmooakaaGreatDoorWholeJ32
import Derived.Test.YtdipflchmooakaaGreatDoorWholeJ04
import Derived.Maps.OwnSet
import Derived.Maps.OwnRows
import Derived.Maps.Range
import Derived.WideKeyEntry
import Derived.DeepKeys4
import Derived.Test.YtdipflchmooakaaGreatDoorWholeJ03
import Derived.Test.YtdipflchmooakaaGreatDoorWholeJ01
import Derived.ArgAppend
import Derived.Maps.AppendAt
set_option maxRecDepth 100000
namespace Go.Proofs.YtdipflchmooakaaGreatDoor
open Go.RowKit Go.Gar

set_option maxHeartbeats 2000000 in
theorem decodeG_any (A : Option Addr) (b : List UInt8) (n c : Nat) (w : World) (hn : n = b.length) (hr : Rd w w.heap.size A b) (hc : n ≤ c) (hl : n ≤ 100000) (E : Nat) (T : List Lz.Tok) (hE : Lz.decode b = (E, T)) :
    Calls Tryz.prog 61 #[.slice A n c] w fun e w' => ∃ v ts, e = .returned (.tuple #[v, .int .i64 ((E : Nat) : Int)]) ∧ OwnT w' w.heap.size 61 5 v ts ∧ ts.map Tv.tok = T ∧ Below w.heap.size w w' := by
  have HO0 := Lib.hid (ownT_nil w w.heap.size 61 5)
  have Hb0 := Lib.hid (Below.refl w.heap.size w)
  have HN := Lib.hid hn
  have HR := Lib.hid hr
  have HE := Lib.hid hE
  clear hn hr hE
  go_enter Tryz.func61, Tryz.ntmps61
  go_wp2
  go_loopw [0, 4] (fun bv v W => ∃ (A : Option Addr) (r : List UInt8) (m c : Nat) (ts : List Tv), bv = .slice A m c ∧ m = r.length ∧ m ≤ c ∧ m ≤ n ∧ Rd w w.heap.size A r ∧ OwnT W w.heap.size 61 5 v ts ∧ Lz.more r (ts.map Tv.tok) = (E, T) ∧ ts.length + m ≤ n ∧ Below w.heap.size w W) (fun bv _ _ => lenV bv)
  case atStart => exact ⟨A, b, n, c, [], rfl, HN.out, hc, Nat.le_refl _, HR.out, HO0.out, HE.out, by simp, Hb0.out⟩
  case round =>
    obtain ⟨A, r, m, c, ts, rfl, hm, hmc, hmn, hr, hO, hx, hlm, hb⟩ := hrel
    clear HO0 Hb0 HE HR HN
    have HM := Lib.hid hm
    have HR := Lib.hid hr
    have Hx := Lib.hid hx
    have HO := Lib.hid hO
    have Hb := Lib.hid hb
    clear hm hr hx hO hb
    by_cases h0 : 0 < m
    · obtain ⟨⟨T1, R1⟩, hf⟩ : ∃ y, Lz.fst1 r = y := ⟨_, rfl⟩
      have hmore := Lz.more_fst1 (b := r) (by rw [← HM.out]; exact h0) (ts.map Tv.tok)
      rw [hf, Hx.out] at hmore
      have hlen := Lz.fst1_len (b := r) (by rw [← HM.out]; exact h0)
      rw [hf, ← HM.out] at hlen
      simp only at hmore hlen
      have HF := Lib.hid hf
      have HMo := Lib.hid hmore
      have HLe := Lib.hid hlen
      clear hf hmore hlen Hx
      go_wp2_with fail
      refine (first_any wr A r m c HM.out h0 hmc (by omega) ((HR.out.below Hb.out).more Hb.out.size) T1 R1 HF.out).mono ?_
      rintro e w1 ⟨t, A', m', c', rfl, ht, hm', hmc', hlb, htc, hr', hb1⟩
      have hEa : (w1.alloc (.cells zT.toArray 61)).setRow w1.heap.size t.cells.toArray = w1.alloc (.cells t.cells.toArray 61) := World.setRow_alloc_new w1 _ _ _
      have hB2 := Blk.new w1 61 t.cells
      have hb2 := below_alloc w1 (.cells t.cells.toArray 61)
      have hlb2 : RdB _ 5 t.A t.l := hlb.below hb2
      obtain ⟨w2, hw2⟩ : ∃ w2, w1.alloc (.cells t.cells.toArray 61) = w2 := ⟨_, rfl⟩
      rw [hw2] at hEa hB2 hb2 hlb2
      have HZ1 := Lib.hid (Blk.new w1 61 zT)
      have HEa := Lib.hid hEa
      have HB2 := Lib.hid hB2
      have Hld2 := Lib.hid (load_T0 hB2)
      have HLb2 := Lib.hid hlb2
      have Hb2 := Lib.hid hb2
      have Hb02 := Lib.hid (hb1.trans (hb2.mono hb1.size))
      have HTc := Lib.hid htc
      have HT := Lib.hid ht
      have HM' := Lib.hid hm'
      have HR' := Lib.hid (hr' _ _ HR.out)
      obtain ⟨z, hz⟩ : ∃ z, z = Lz.good t.tok := ⟨_, rfl⟩
      have HZ := Lib.hid hz
      clear hEa hB2 hb2 hlb2 hw2 hb1 htc ht hm' hr' hlb hz
      go_wp2_with (first | refine wpList_alloc_arr rfl 61 zT.toArray rfl zero_T ?_ | (refine wpList_store_arr rfl 61 (.tmp 5) (.tmp 13) w1.heap.size zT t.cells rfl rfl rfl rfl HZ1.out (size_T t) rfl (fun u hu => cellsT_one [t] u (by simpa [cellsT] using hu)) ?_; rw [HEa.out]) | refine wpList_load_arr_w 61 (.tmp 5) rfl rfl t.cells.toArray Hld2.out (by kernel_rfl) ?_)
      refine (lzGood_any t w2 z HZ.out).mono ?_
      rintro e w3 ⟨rfl, hb3⟩
      have hB3 := HB2.out.below hb3 HB2.out.lt
      have HLb3 := Lib.hid (HLb2.out.below hb3)
      have Hb03 := Lib.hid (Hb02.out.trans (hb3.mono Hb02.out.size))
      have HO3 := Lib.hid (HO.out.below Hb03.out)
      have Hbw3 := Lib.hid (Hb.out.trans (Hb03.out.mono Hb.out.size))
      have Hld3 := Lib.hid (load_T0 hB3)
      clear hB3 hb3 HB2 HLb2 Hb02 HZ1 HEa Hld2 HO Hb
      cases z with
      | false =>
        obtain ⟨rfl, rfl⟩ : 12 = E ∧ [] = T := by
          have := HMo.out
          rw [← HT.out, if_pos HZ.out.symm] at this
          have := Prod.mk.inj this
          exact ⟨this.1.symm, this.2.symm⟩
        go_wp2
        go_ret2
        exact ⟨_, [], rfl, ownT_nil _ _ _ _, rfl, Hbw3.out⟩
      | true =>
        have hmo := HMo.out
        rw [← HT.out, if_neg (by rw [← HZ.out]; simp)] at hmo
        have HMo2 := Lib.hid hmo
        have hal := below_alloc w3 (.cells t.cells.toArray 61)
        have hBn := Blk.new w3 61 t.cells
        obtain ⟨v5, w5, e5, hO5, hb5, _⟩ := appT (P := Tryz.prog) 42 42 Tryz.undToks Tryz.infoTok rfl (by decide) (HO3.out.alloc (.cells t.cells.toArray 61)) (Nat.le_trans Hbw3.out.size hal.size) w3.heap.size t hBn (HLb3.out.below hal) HTc.out (by omega) 1
        have HO5 := Lib.hid hO5
        have Hb5 := Lib.hid (Hbw3.out.trans ((hal.mono Hbw3.out.size).trans hb5))
        have He5 := Lib.hid e5
        have HRest : Hid (Lz.more R1 ((ts ++ [t]).map Tv.tok) = (E, T)) := Lib.hid (by
          rw [HMo2.out, List.map_append]
          rfl)
        have HLa : Hid ((ts ++ [t]).length + m' ≤ n) := Lib.hid (by rw [List.length_append, List.length_singleton, HM'.out]; have := HLe.out; omega)
        have hlt : m' < m := by rw [HM'.out]; exact HLe.out
        have hcl : t.cells.length = 3 := rfl
        clear hmo hal hBn hO5 hb5 e5
        go_wp2_with (first | refine wpList_load_arr_w 61 (.tmp 5) rfl rfl t.cells.toArray Hld3.out (by kernel_rfl) ?_ | (at_builtin; refine wpList_append_run rfl (.tmp 18) (.tmp 20) _ rfl rfl rfl He5.out ?_))
        exact ⟨⟨A', R1, m', c', _, rfl, HM'.out, hmc', by omega, HR'.out, HO5.out, HRest.out, HLa.out, Hb5.out⟩, by simp [lenV]; omega⟩
    · obtain rfl : m = 0 := by omega
      have hr0 : r = [] := List.eq_nil_of_length_eq_zero HM.out.symm
      have hx := Hx.out
      rw [hr0, Lz.more_nil] at hx
      obtain ⟨rfl, hT⟩ := Prod.mk.inj hx
      have HT := Lib.hid hT
      clear hx hT hr0
      go_wp2
      go_ret2
      exact ⟨_, ts, rfl, HO.out, HT.out, Hb.out⟩

/-- The landed token keeps its contract. -/
theorem tokenOK : TokenOK (fun _ => True) := by
  refine ⟨fun _ _ => trivial, fun w A ts c _ hr hc hl hi => ?_, fun w A b c _ hr hc hl => ?_⟩
  · refine (encodeG_any A ts _ c w rfl hr hl _ _ rfl).mono ?_
    rintro e w' ⟨v, rfl, hO, hb⟩
    obtain ⟨A', c', rfl, hrd⟩ := hO.rd
    refine ⟨A', c', rfl, ?_, hrd, hb⟩
    rcases hO.2 with ⟨hv, hn⟩ | ⟨g, cap, cur, hv, _, _, hnc, _⟩
    · exact hn ▸ Nat.zero_le _
    · obtain ⟨-, rfl⟩ : _ ∧ c' = cap := by simpa using hv
      exact hnc
  · refine (decodeG_any A b _ c w rfl hr hc hl _ _ rfl).mono ?_
    rintro e w' ⟨v, ts, rfl, hO, ht, hb⟩
    obtain ⟨A', c', rfl, hc', hrd⟩ := hO.slice
    exact ⟨A', c', ts, rfl, hc', hrd, ht, hb⟩
end Go.Proofs.YtdipflchmooakaaGreatDoor
namespace Go.Proofs.YtdipflchmooakaaGreatDoor
open Go.RowKit Go.Gar

structure LzOK (G : World → Prop) : Prop where
  keep : ∀ {w w' : World}, G w → Below w.heap.size w w' → G w'
  tokens : ∀ (w : World) (A : Option Addr) (b : List UInt8) (c : Nat), G w → Rd w w.heap.size A b → b.length ≤ c → b.length ≤ 100000 →
    Calls Tryz.prog 17 #[.slice A b.length c] w fun e w' => ∃ A' c' ts, e = .returned (.slice A' ts.length c') ∧ ts.length ≤ c' ∧ RdT w' w'.heap.size A' ts ∧ ts.map Tv.tok = Lz.tokens b ∧ Below w.heap.size w w'
  expand : ∀ (w : World) (A : Option Addr) (ts : List Tv) (c : Nat) (most : Int), G w → RdT w w.heap.size A ts → ts.length ≤ c → ts.length ≤ 100000 → isI64 most → (∀ t ∈ ts, isI64 t.n ∧ isI64 t.d) →
    Calls Tryz.prog 62 #[.slice A ts.length c, .int .i64 most] w fun e w' => ∃ A' c', e = .returned (.tuple #[.slice A' (Lz.expand (ts.map Tv.tok) most).2.length c', .int .i64 (((Lz.expand (ts.map Tv.tok) most).1 : Nat) : Int)]) ∧ (Lz.expand (ts.map Tv.tok) most).2.length ≤ c' ∧ Rd w' w'.heap.size A' (Lz.expand (ts.map Tv.tok) most).2 ∧ Below w.heap.size w w'
  good : ∀ (w : World) (t : Tv), G w → isI64 t.n → isI64 t.d → Calls Tryz.prog 34 #[.agg t.cells.toArray] w fun e w' => e = .returned (.bool (Lz.good t.tok)) ∧ Below w.heap.size w w'
section
variable {G : World → Prop}
theorem lzT_at (hOK : LzOK G) (w : World) (A : Option Addr) (b : List UInt8) (n c : Nat) (T : List Lz.Tok) (hG : G w) (hn : n = b.length) (hT : T = Lz.tokens b) (r : Rd w w.heap.size A b) (hc : n ≤ c) (hl : n ≤ 100000) :
    Calls Tryz.prog 17 #[.slice A n c] w fun e w' => ∃ A' m c' ts, e = .returned (.slice A' m c') ∧ m = ts.length ∧ m ≤ c' ∧ RdT w' w'.heap.size A' ts ∧ ts.map Tv.tok = T ∧ Below w.heap.size w w' := by
  subst hn; subst hT
  refine (hOK.tokens w A b c hG r hc hl).mono ?_
  rintro e w' ⟨A', c', ts, rfl, h1, h2, h3, h4⟩
  exact ⟨A', ts.length, c', ts, rfl, rfl, h1, h2, h3, h4⟩
theorem lzE_at (hOK : LzOK G) (w : World) (A : Option Addr) (ts : List Tv) (n c : Nat) (most : Int) (E : Int) (O : List UInt8) (m : Nat) (hG : G w) (hn : n = ts.length) (r : RdT w w.heap.size A ts) (hc : n ≤ c) (hl : n ≤ 100000) (hm : isI64 most) (hi : ∀ t ∈ ts, isI64 t.n ∧ isI64 t.d) (hE : E = (((Lz.expand (ts.map Tv.tok) most).1 : Nat) : Int)) (hO : O = (Lz.expand (ts.map Tv.tok) most).2) (hmm : m = O.length) :
    Calls Tryz.prog 62 #[.slice A n c, .int .i64 most] w fun e w' => ∃ A' c', e = .returned (.tuple #[.slice A' m c', .int .i64 E]) ∧ m ≤ c' ∧ Rd w' w'.heap.size A' O ∧ Below w.heap.size w w' := by
  subst hn; subst hE; subst hmm; subst hO
  exact hOK.expand w A ts c most hG r hc hl hm hi
theorem lzG_at (hOK : LzOK G) (w : World) (t : Tv) (z : Bool) (hz : z = Lz.good t.tok) (hG : G w) (h1 : isI64 t.n) (h2 : isI64 t.d) : Calls Tryz.prog 34 #[.agg t.cells.toArray] w fun e w' => e = .returned (.bool z) ∧ Below w.heap.size w w' := by
  subst hz
  exact hOK.good w t hG h1 h2
end
theorem tokens_i64 {ts : List Tv} {b : List UInt8} (h : ts.map Tv.tok = Lz.tokens b) : ∀ t ∈ ts, isI64 t.n ∧ isI64 t.d := fun t ht =>
  good_i64 ((Lz.tokens_inv b).gd _ (by rw [← h]; exact List.mem_map_of_mem ht))
end Go.Proofs.YtdipflchmooakaaGreatDoor
namespace Go.Proofs.YtdipflchmooakaaGreatDoor
open Go.RowKit Go.Gar

theorem Tryz.undK : Tryz.prog.underlying 110 = some (.array 3 5) := by kernel_rfl
theorem Tryz.undMp : Tryz.prog.underlying 65 = some (.map 110 109) := by kernel_rfl
theorem Tryz.laidOutK : laidOutB Tryz.prog = true := by kernel_rfl
theorem Tryz.rowK : (110 : TypeId) < Tryz.prog.types.size := of_decide_eq_true (by kernel_rfl)
theorem Tryz.wideK : (match Tryz.prog.underlying 110 with | some (.array _ _) | some (.struct _) => true | _ => false) = true := by rw [Tryz.undK]
theorem Tryz.lawK : WideMaps.KeyLaw Tryz.prog 110 := deep_law_laid Tryz.laidOutK (m := 2) (by omega) Tryz.rowK (by kernel_rfl) Tryz.wideK
theorem Tryz.keyedK : Maps.Keyed Tryz.prog 110 := .of_law Tryz.lawK
theorem Tryz.cellsK : Tryz.prog.cellsOf 110 = 3 := by kernel_rfl
theorem Tryz.cells8 : Tryz.prog.cellsOf 5 = 1 := by kernel_rfl
theorem Tryz.keyTypeK : Tryz.prog.keyType 110 = true := by kernel_rfl
theorem Tryz.infoInts : (Tryz.prog.info? 109).map (fun i => (i.zero, i.size)) = some (some (.slice none 0 0), 1) := by kernel_rfl
theorem zero_ints (w : World) : (zeroValue 109).run Tryz.prog w = .ok (.slice none 0 0) w := (zero_of_info Tryz.infoInts).1 w
theorem Tryz.lits8 (d : Nat) (c : UInt8) : Tryz.prog.keyLits (d + 1) 5 [.int .u8 (c.toNat : Int)] = some [.int .u8 (c.toNat : Int)] := by
  have h : (Lit.int .u8 (c.toNat : Int)).wf = true := by
    have := c.toNat_lt
    simp [Lit.wf, IntKind.min, IntKind.max, IntKind.signed, IntKind.bits]
    omega
  unfold Program.keyLits
  rw [Tryz.und5]
  simp [h]
/-- Three bytes as a key. -/
def keyV (s : List UInt8) : Value := .agg (u8s s).toArray
theorem keyV_some {s : List UInt8} (h : s.length = 3) : ∃ l, keyOf Tryz.prog 110 (keyV s) = some l := by
  match s, h with
  | [a, b, c], _ =>
    obtain ⟨k, hk⟩ : ∃ k, Tryz.prog.types.size = k + 1 := Nat.exists_eq_succ_of_ne_zero (fun e => by have h := Tryz.rowK; rw [e] at h; exact absurd h (Nat.not_lt_zero _))
    unfold keyOf
    rw [Tryz.undK]
    have hf : (keyV [a, b, c]).formed Tryz.prog 110 = true := by simp [keyV, u8s, Value.formed, Tryz.cellsK]
    simp only [Tryz.keyTypeK, hf, Bool.and_self, if_true]
    rw [hk]
    unfold Program.keyLits
    simp only [Tryz.undK]
    simp [keyV, u8s, Value.cells, Tryz.cellsK, Tryz.cells8, List.range_succ, Tryz.lits8]
noncomputable def litK (s : List UInt8) : Lit := (keyOf Tryz.prog 110 (keyV s)).getD (.bool false)
theorem keyV_lit {s : List UInt8} (h : s.length = 3) : keyOf Tryz.prog 110 (keyV s) = some (litK s) := by
  obtain ⟨l, hl⟩ := keyV_some h
  rw [litK, hl]; rfl
theorem litK_inj {s s' : List UInt8} (h : s.length = 3) (h' : s'.length = 3) (he : litK s = litK s') : s = s' := by
  have := Tryz.keyedK.inj (keyV_lit h) (he ▸ keyV_lit h')
  simp only [keyV, Value.agg.injEq] at this
  have h2 : u8s s = u8s s' := by simpa using this
  have inj : ∀ (l k : List UInt8), u8s l = u8s k → l = k := by
    intro l
    induction l with
    | nil => intro k e; cases k with
      | nil => rfl
      | cons x k => simp [u8s] at e
    | cons x l ih => intro k e; cases k with
      | nil => simp [u8s] at e
      | cons y k =>
        simp only [u8s, List.map_cons, List.cons.injEq, Value.int.injEq, true_and] at e
        have hx : x = y := UInt8.toNat_inj.1 (by omega)
        rw [hx, ih k e.2]
  exact inj s s' h2

/-- How an element reads: as itself. -/
def asIs (v : Value) : Option (DataW Value × List MemPlace) := some (.held v, [])
def noInts : Value := .slice none 0 0
def upd {β : Type} (f : List UInt8 → β) (s : List UInt8) (v : β) : List UInt8 → β := fun s' => if s' = s then v else f s'
theorem upd_same {β : Type} (f : List UInt8 → β) (s : List UInt8) (v : β) : upd f s v s = v := if_pos rfl
theorem upd_other {β : Type} (f : List UInt8 → β) {s s' : List UInt8} (v : β) (h : s' ≠ s) : upd f s v s' = f s' := if_neg h
/-- Block gm is a map that holds f. -/
def MapK (w : World) (gm n : Nat) (f : List UInt8 → Value) : Prop :=
  ∃ D : DataW Value, w.ownsMap Tryz.prog 110 asIs gm n D ∧ ∀ s, s.length = 3 → D.atKey (litK s) (.held noInts) = .held (f s)
section
variable {w w' : World} {gm n : Nat} {f : List UInt8 → Value}
theorem mapK_made (w : World) : MapK (w.alloc (.map #[] 0)) w.heap.size 0 (fun _ => noInts) :=
  ⟨_, World.ownsMap_made w Tryz.prog _ asIs, fun _ _ => rfl⟩
theorem ownsMap_block {D : DataW Value} (h : w.ownsMap Tryz.prog 110 asIs gm n D) (hb : w'.heap[gm]? = w.heap[gm]?) : w'.ownsMap Tryz.prog 110 asIs gm n D := by
  obtain ⟨es, clock, h1, h2⟩ := h
  exact ⟨es, clock, hb.trans h1, h2⟩
theorem MapK.block (h : MapK w gm n f) (hb : w'.heap[gm]? = w.heap[gm]?) : MapK w' gm n f := by
  obtain ⟨D, h1, h2⟩ := h
  exact ⟨D, ownsMap_block h1 hb, h2⟩
theorem MapK.obj (h : MapK w gm n f) : ∃ es clock, w.heap[gm]? = some (.map es clock) := by
  obtain ⟨D, ⟨es, clock, h1, _⟩, _⟩ := h
  exact ⟨es, clock, h1⟩
theorem MapK.lt (h : MapK w gm n f) : gm < w.heap.size := by
  obtain ⟨es, clock, h1⟩ := h.obj
  exact (Array.getElem?_eq_some_iff.1 h1).1
theorem MapK.look (h : MapK w gm n f) {s : List UInt8} (hs : s.length = 3) : (Instr.lookup 65 (.map (some gm)) (keyV s) false).run Tryz.prog w = .ok (f s) w := by
  obtain ⟨D, h1, h2⟩ := h
  obtain ⟨v, ps, hr, hv⟩ := h1.lookup Tryz.keyedK Tryz.undMp (zero_ints w) (zd := .held noInts) (zp := []) rfl (keyV_lit hs)
  rw [h2 s hs] at hv
  simp only [asIs, Option.some.injEq, Prod.mk.injEq, DataW.held.injEq] at hv
  rw [hr, hv.1]
theorem atPut {D : DataW Value} (hD : Maps.IsMap D) (hat : ∀ s, s.length = 3 → D.atKey (litK s) (.held noInts) = .held (f s)) {s : List UInt8} (hs : s.length = 3) (v : Value) :
    ∀ s', s'.length = 3 → (D.put (litK s) (.held v)).atKey (litK s') (.held noInts) = .held (upd f s v s') := by
  intro s' hs'
  by_cases h : s' = s
  · subst h
    rw [upd_same]
    exact Maps.atKey_put_same hD (Tryz.keyedK.key (keyV_lit hs)) _ _
  · rw [upd_other _ _ h, ← hat s' hs']
    exact Maps.atKey_put_other (fun e => h (litK_inj hs' hs e)) _ _
theorem turned_grown {b : Nat} (h : w.mapTurned w' b) : w.grownBy w' (some b) := h.grown
theorem MapK.store (h : MapK w gm n f) (hn : n < maxLen) {s : List UInt8} (hs : s.length = 3) (v : Value) :
    ∃ w', (Instr.mapUpdate 65 (.map (some gm)) (keyV s) v).run Tryz.prog w = .ok () w' ∧ MapK w' gm (n + 1) (upd f s v) ∧ w.grownBy w' (some gm) := by
  obtain ⟨D, h1, h2⟩ := h
  obtain ⟨w', hr, ho, hg⟩ := h1.update Tryz.keyedK Tryz.undMp hn (d := .held v) (ps := []) (keyV_lit hs) rfl
  exact ⟨w', hr, ⟨_, ho, atPut h1.isMap h2 hs v⟩, hg⟩
theorem MapK.drop (h : MapK w gm n f) {s : List UInt8} (hs : s.length = 3) (ty : TypeId) :
    ∃ w', (Builtin.delete_ #[65, 110] ty #[.map (some gm), keyV s]).run Tryz.prog w = .ok (.tuple #[]) w' ∧ MapK w' gm n (upd f s noInts) ∧ w.grownBy w' (some gm) := by
  obtain ⟨D, h1, h2⟩ := h
  obtain ⟨w', hr, ho, hg⟩ := h1.drop Tryz.keyedK Tryz.undMp (keyV_lit hs) ty
  refine ⟨w', hr, ⟨_, ho, fun s' hs' => ?_⟩, turned_grown hg⟩
  by_cases h : s' = s
  · subst h
    rw [upd_same]
    exact Maps.atKey_del_same _
  · rw [upd_other _ _ h, ← h2 s' hs']
    exact Maps.atKey_del_other (fun e => h (litK_inj hs' hs e)) _
open Go.ChangeMaps (setBlock heap_setBlock_same) in
open Go.WideElems in
/-- An entry taken, and stored into later. -/
theorem MapK.entry (h : MapK w gm n f) (hn : n < maxLen) {s : List UInt8} (hs : s.length = 3) :
    ∃ (st : Nat) (w1 : World), (Instr.mapEntry 65 (.map (some gm)) (keyV s)).run Tryz.prog w = .ok (.tuple #[f s, goInt st]) w1 ∧ w.grownBy w1 (some gm) ∧
      ∀ (w2 : World) (v : Value), w2.heap[gm]? = w1.heap[gm]? → ∃ w3, (Instr.entryStore 65 (.map (some gm)) (goInt st) v).run Tryz.prog w2 = .ok () w3 ∧ MapK w3 gm (n + 1) (upd f s v) ∧ w2.grownBy w3 (some gm) := by
  have hlook := h.look hs
  have hstore := fun v => h.store hn hs v
  obtain ⟨D, ⟨es, clock, hb, F, hsz, hD⟩, h2⟩ := h
  obtain ⟨v0, st, es1, clock1, hr, hv0, hst⟩ := entry_then_store Tryz.lawK Tryz.undMp (z := noInts) zero_ints hb F (keyV_lit hs)
  have hf : v0 = f s := by
    rcases Maps.fit_look false Tryz.keyedK Tryz.undMp (zero_ints w) hb F (keyV_lit hs) with ⟨g1, g2, _⟩ | ⟨e0, y, g1, g2, g3, _⟩
    · rw [hlook] at g1
      simp only [Bool.false_eq_true, if_false, Result.ok.injEq, and_true] at g1
      rcases hv0 with ⟨e1, m1, k1, _⟩ | ⟨_, e⟩
      · exact absurd k1 (g2 e1 m1)
      · rw [e, g1]; rfl
    · rw [hlook] at g3
      simp only [Bool.false_eq_true, if_false, Result.ok.injEq, and_true] at g3
      rcases hv0 with ⟨e1, m1, k1, r1⟩ | ⟨g, _⟩
      · rw [r1, g3, entry_eq_of_key ((MapKept.stamped_iff es clock).1 F.stamped).2.2 m1 g1 (k1.trans g2.symm)]
      · exact absurd g2 (g e0 g1)
  rw [hf] at hr
  refine ⟨st, _, hr, ⟨rfl, rfl, rfl, by simp [setBlock], fun i _ hi => ChangeMaps.heap_setBlock_other hb _ (fun e => hi (by rw [e]))⟩, fun w2 v hw2 => ?_⟩
  rw [heap_setBlock_same hb] at hw2
  obtain ⟨es', clock', hr2, hu⟩ := hst w2 v hw2
  obtain ⟨w', hru, hm, _⟩ := hstore v
  rw [hru] at hu
  obtain rfl : w' = _ := by simpa using hu
  refine ⟨_, hr2, hm.block ?_, ⟨rfl, rfl, rfl, by simp [setBlock], fun i _ hi => ChangeMaps.heap_setBlock_other hw2 _ (fun e => hi (by rw [e]))⟩⟩
  rw [heap_setBlock_same hb, heap_setBlock_same hw2]
end
end Go.Proofs.YtdipflchmooakaaGreatDoor
namespace Go.Gar.Lz

/-- The three bytes at a place (fewer at the end). -/
def key (b : List UInt8) (p : Nat) : List UInt8 := (b.drop p).take 3
theorem key_len {b : List UInt8} {p : Nat} (h : p + 3 ≤ b.length) : (key b p).length = 3 := by
  unfold key
  rw [List.length_take, List.length_drop]; omega
theorem key_ne {b : List UInt8} {p : Nat} {s : List UInt8} (hs : s.length = 3) (h : ¬ p + 3 ≤ b.length) : key b p ≠ s := by
  intro e
  have : (key b p).length = 3 := by rw [e, hs]
  unfold key at this
  rw [List.length_take, List.length_drop] at this
  omega
theorem key_same {b : List UInt8} {p k : Nat} (hp : p < k) (hk : k + 3 ≤ b.length) : key b p = key b k ↔ 3 ≤ same b p k := by
  constructor
  · intro h
    refine same_max (by omega) hk fun j hj => ?_
    have := congrArg (fun l => l[j]?) h
    simp only [key, List.getElem?_take_of_lt hj, List.getElem?_drop] at this
    exact this
  · intro h
    apply List.ext_getElem?
    intro j
    by_cases hj : j < 3
    · simp only [key, List.getElem?_take_of_lt hj, List.getElem?_drop]
      exact (same_in (j := j) (by omega)).2.2
    · rw [List.getElem?_eq_none (by rw [key_len (by omega)]; omega), List.getElem?_eq_none (by rw [key_len hk]; omega)]
/-- The positions of n from lo on that start with s. -/
def winL (b : List UInt8) (lo n : Nat) (s : List UInt8) : List Nat := (List.range' lo n).filter fun p => key b p == s
/-- Those that a match at a place may reach. -/
def win (b : List UInt8) (at_ : Nat) (s : List UInt8) : List Nat := winL b (at_ - 4096) (min at_ 4096) s
/-- Those behind which the earliest has gone. -/
def mid (b : List UInt8) (at_ : Nat) (s : List UInt8) : List Nat := if 4096 ≤ at_ then winL b (at_ - 4096 + 1) 4095 s else win b at_ s
theorem winL_cons (b : List UInt8) (lo n : Nat) (s : List UInt8) : winL b lo (n + 1) s = if key b lo = s then lo :: winL b (lo + 1) n s else winL b (lo + 1) n s := by
  unfold winL
  rw [List.range'_succ, List.filter_cons]
  by_cases h : key b lo = s <;> simp [h]
theorem winL_snoc (b : List UInt8) (lo n : Nat) (s : List UInt8) : winL b lo (n + 1) s = winL b lo n s ++ if key b (lo + n) = s then [lo + n] else [] := by
  unfold winL
  rw [List.range'_1_concat, List.filter_append]
  congr 1
  by_cases h : key b (lo + n) = s <;> simp [h]
theorem win_zero (b : List UInt8) (s : List UInt8) : win b 0 s = [] := rfl
theorem win_first {b : List UInt8} {at_ : Nat} (h : 4096 ≤ at_) : win b at_ (key b (at_ - 4096)) = (at_ - 4096) :: mid b at_ (key b (at_ - 4096)) := by
  unfold win mid
  rw [show min at_ 4096 = 4095 + 1 by omega, winL_cons, if_pos rfl, if_pos h]
theorem win_else {b : List UInt8} {at_ : Nat} {s : List UInt8} (h : 4096 ≤ at_) (hs : s ≠ key b (at_ - 4096)) : win b at_ s = mid b at_ s := by
  unfold win mid
  rw [show min at_ 4096 = 4095 + 1 by omega, winL_cons, if_neg (fun e => hs e.symm), if_pos h]
theorem mid_low {b : List UInt8} {at_ : Nat} (h : ¬ 4096 ≤ at_) : mid b at_ = win b at_ := by
  funext s
  unfold mid
  rw [if_neg h]
theorem win_next (b : List UInt8) (at_ : Nat) (s : List UInt8) : win b (at_ + 1) s = mid b at_ s ++ if key b at_ = s then [at_] else [] := by
  unfold mid
  by_cases h : 4096 ≤ at_
  · rw [if_pos h]
    unfold win
    rw [show at_ + 1 - 4096 = at_ - 4096 + 1 by omega, show min (at_ + 1) 4096 = 4095 + 1 by omega, winL_snoc, show at_ - 4096 + 1 + 4095 = at_ by omega]
  · rw [if_neg h]
    unfold win
    rw [show at_ + 1 - 4096 = 0 by omega, show at_ - 4096 = 0 by omega, show min (at_ + 1) 4096 = at_ + 1 by omega, show min at_ 4096 = at_ by omega, winL_snoc, Nat.zero_add]
theorem winL_in {b : List UInt8} {lo n : Nat} {s : List UInt8} {p : Nat} (h : p ∈ winL b lo n s) : lo ≤ p ∧ p < lo + n ∧ key b p = s := by
  unfold winL at h
  rw [List.mem_filter, List.mem_range'_1] at h
  exact ⟨h.1.1, h.1.2, by simpa using h.2⟩
theorem win_in {b : List UInt8} {at_ : Nat} {s : List UInt8} {p : Nat} (h : p ∈ win b at_ s) : p < at_ ∧ key b p = s := by
  have := winL_in h
  exact ⟨by omega, this.2.2⟩
theorem win_len (b : List UInt8) (at_ : Nat) (s : List UInt8) : (win b at_ s).length ≤ 4096 := by
  unfold win winL
  refine Nat.le_trans (List.length_filter_le _ _) ?_
  rw [List.length_range']; omega

/-- One position tried. -/
def tryP (b : List UInt8) (at_ : Nat) (acc : Nat × Nat) (p : Nat) : Nat × Nat := if acc.1 < same b p at_ then (same b p at_, at_ - p) else acc
theorem tryP_full {b : List UInt8} {at_ : Nat} {acc : Nat × Nat} (h : 130 ≤ acc.1) (p : Nat) : tryP b at_ acc p = acc := by
  unfold tryP
  have := same_le b p at_
  rw [if_neg (by omega)]
theorem tryP_fulls {b : List UInt8} {at_ : Nat} {acc : Nat × Nat} (h : 130 ≤ acc.1) (ps : List Nat) : ps.foldl (tryP b at_) acc = acc := by
  induction ps with
  | nil => rfl
  | cons p ps ih => rw [List.foldl_cons, tryP_full h, ih]
theorem bestTo_fold {b : List UInt8} {at_ : Nat} (hk : at_ + 3 ≤ b.length) : ∀ D, D ≤ at_ → bestTo b at_ D = (winL b (at_ - D) D (key b at_)).foldr (fun p acc => tryP b at_ acc p) (0, 0)
  | 0, _ => rfl
  | D + 1, hD => by
    rw [bestTo, winL_cons, show at_ - (D + 1) + 1 = at_ - D by omega, bestTo_fold hk D (by omega)]
    have hs := key_same (b := b) (p := at_ - (D + 1)) (k := at_) (by omega) hk
    by_cases h : key b (at_ - (D + 1)) = key b at_
    · rw [if_pos h, List.foldr_cons]
      generalize (winL b (at_ - D) D (key b at_)).foldr (fun p acc => tryP b at_ acc p) (0, 0) = acc
      have h3 := hs.1 h
      unfold tryP
      rw [show at_ - (at_ - (D + 1)) = D + 1 by omega]
      by_cases hl : acc.1 < same b (at_ - (D + 1)) at_
      · rw [if_pos hl, if_pos ⟨h3, hl⟩]
      · rw [if_neg hl, if_neg (fun x => hl x.2)]
    · rw [if_neg h, if_neg (fun x => h (hs.2 x.1))]
theorem best_fold {b : List UInt8} {at_ : Nat} (hk : at_ + 3 ≤ b.length) : best b at_ = (win b at_ (key b at_)).reverse.foldl (tryP b at_) (0, 0) := by
  unfold best win
  rw [List.foldl_reverse, bestTo_fold hk _ (by omega)]
  rw [show at_ - min at_ 4096 = at_ - 4096 by omega]
theorem best_short {b : List UInt8} {at_ : Nat} (hk : ¬ at_ + 3 ≤ b.length) : best b at_ = (0, 0) := by
  refine best_none fun e h1 h2 => ?_
  rcases Nat.lt_or_ge (same b (at_ - e) at_) 3 with h | h
  · exact h
  · have := same_fit (b := b) (i := at_ - e) (k := at_) (by omega)
    omega
end Go.Gar.Lz
namespace Go.Gar
open Go.RowKit

/-- Of the blocks that stood those of F alone may have turned. -/
structure Only (F : Nat → Prop) (w w' : World) : Prop where
  os : w'.os = w.os
  tape : w'.tape = w.tape
  output : w'.output = w.output
  size : w.heap.size ≤ w'.heap.size
  block : ∀ k, k < w.heap.size → ¬ F k → w'.heap[k]? = w.heap[k]?
section
variable {F F' : Nat → Prop} {a b c w w' : World}
theorem Only.refl (F : Nat → Prop) (w : World) : Only F w w := ⟨rfl, rfl, rfl, Nat.le_refl _, fun _ _ _ => rfl⟩
theorem Only.trans (h : Only F a b) (k : Only F b c) : Only F a c :=
  ⟨k.os.trans h.os, k.tape.trans h.tape, k.output.trans h.output, Nat.le_trans h.size k.size, fun i hi hn => (k.block i (Nat.lt_of_lt_of_le hi h.size) hn).trans (h.block i hi hn)⟩
/-- The second may also turn what is new since the first's beginning. -/
theorem Only.then (h : Only F a b) (k : Only F' b c) (hF : ∀ i, F' i → F i ∨ a.heap.size ≤ i) : Only F a c :=
  ⟨k.os.trans h.os, k.tape.trans h.tape, k.output.trans h.output, Nat.le_trans h.size k.size, fun i hi hn => (k.block i (Nat.lt_of_lt_of_le hi h.size) (fun hf => by rcases hF i hf with h1 | h1; exact hn h1; omega)).trans (h.block i hi hn)⟩
theorem Only.mono (h : Only F a b) (hF : ∀ i, F i → F' i) : Only F' a b := ⟨h.os, h.tape, h.output, h.size, fun i hi hn => h.block i hi (fun hf => hn (hF i hf))⟩
theorem Only.of_below (F : Nat → Prop) (h : Below w.heap.size w w') : Only F w w' := ⟨h.os, h.tape, h.output, h.size, fun i hi _ => h.block i hi⟩
theorem Only.of_grown {row : Option Nat} (h : w.grownBy w' row) (hr : ∀ i, row = some i → F i) : Only F w w' := ⟨h.os, h.tape, h.output, h.size, fun i hi hn => h.block i hi (fun e => hn (hr i e.symm))⟩
theorem Only.drew (h : Only F a w) : Only F a w.drew := ⟨h.os, h.tape, h.output, h.size, h.block⟩
theorem Only.alloc (h : Only F a w) (o : Obj) : Only F a (w.alloc o) := h.trans (.of_below F ((Below.refl _ _).alloc (Nat.le_refl _) o))
theorem Only.below {B : Nat} (h : Only F w w') (hF : ∀ i, F i → B ≤ i) (hB : B ≤ w.heap.size) : Below B w w' := ⟨h.os, h.tape, h.output, h.size, fun i hi => h.block i (by omega) (fun hf => by have := hF i hf; omega)⟩
theorem Only.rd {B : Nat} {A : Option Addr} {l : List UInt8} (h : Only F w w') (hr : Rd w B A l) (hB : B ≤ w.heap.size) (hA : ∀ p, A = some p → ¬ F p.block) : Rd w' B A l := by
  rcases hr with rfl | ⟨b, o, rfl, hb, hc⟩
  · exact .inl rfl
  · exact .inr ⟨b, o, rfl, hb, fun i x hx => (World.cell?_of_block (w := w) (w' := w') (a := ⟨b, o + i, none⟩) (h.block b (by omega) (hA _ rfl))).trans (hc i x hx)⟩
theorem Only.blk {g : Nat} {t : TypeId} {cs : List Value} (h : Only F w w') (hb : Blk w g t cs) (hg : ¬ F g) : Blk w' g t cs := (h.block g hb.lt hg).trans hb
end
/-- A growth: of the blocks that stood those of F alone turn. -/
def onlyG (F : Nat → Prop) : Growth := ⟨fun w w' => Only F w w', fun w => Only.refl F w, fun h k => h.trans k⟩
end Go.Gar
namespace Go.Proofs.YtdipflchmooakaaGreatDoor
open Go.RowKit Go.Gar

theorem Tryz.undIntsL : Tryz.prog.underlying 109 = some (.slice 3) := by kernel_rfl
theorem Tryz.infoIntL : (Tryz.prog.info? 3).map (fun i => (i.zero, i.size, i.bytes)) = some (some (.int .i64 0), 1, 8) := by kernel_rfl
def blkV : Value → Option Nat
  | .slice (some p) _ _ => some p.block
  | _ => none
/-- A slice of positions in a row that the call made. -/
def OwnI (w : World) (base : Nat) (v : Value) (zs : List Nat) : Prop :=
  (v = noInts ∧ zs = []) ∨ ∃ (g c : Nat) (pre rest : List Value), v = .slice (some ⟨g, pre.length, none⟩) zs.length c ∧ zs ≠ [] ∧ base ≤ g ∧ Blk w g 3 (pre ++ i64s zs ++ rest) ∧ zs.length + rest.length = c
section
variable {w w' : World} {base : Nat} {v : Value} {zs : List Nat}
theorem OwnI.nil (w : World) (base : Nat) : OwnI w base noInts [] := .inl ⟨rfl, rfl⟩
theorem OwnI.typed (h : OwnI w base v zs) {g : Nat} (hg : blkV v = some g) : base ≤ g ∧ ∃ cs, Blk w g 3 cs := by
  rcases h with ⟨rfl, _⟩ | ⟨g', c, pre, rest, rfl, _, hb, hB, _⟩
  · cases hg
  · obtain rfl : g' = g := by simpa [blkV] using hg
    exact ⟨hb, _, hB⟩
theorem OwnI.lt (h : OwnI w base v zs) {g : Nat} (hg : blkV v = some g) : g < w.heap.size := by
  obtain ⟨_, cs, hB⟩ := h.typed hg
  exact hB.lt
theorem OwnI.keep (h : OwnI w base v zs) (hk : ∀ g, blkV v = some g → w'.heap[g]? = w.heap[g]?) : OwnI w' base v zs := by
  rcases h with h | ⟨g, c, pre, rest, rfl, hz, hb, hB, hc⟩
  · exact .inl h
  · exact .inr ⟨g, c, pre, rest, rfl, hz, hb, (hk g rfl).trans hB, hc⟩
theorem OwnI.of_row {base' : Nat} (h : w.ownsRow base' 3 1 v zs.length (i64s zs)) (hz : zs ≠ []) (hb : base ≤ base') : OwnI w base v zs ∧ ∃ g, blkV v = some g ∧ base' ≤ g := by
  rcases h.2 with ⟨_, hn⟩ | ⟨g, cap, cur, rfl, hg, hB, hnc, _, hsz, htake⟩
  · exact absurd (List.eq_nil_of_length_eq_zero hn) hz
  · refine ⟨.inr ⟨g, cap, [], cur.toList.drop zs.length, rfl, hz, Nat.le_trans hb hg, ?_, ?_⟩, g, rfl, hg⟩
    · unfold Blk
      rw [Nat.mul_one] at htake
      rw [List.nil_append, ← htake, List.take_append_drop]
      simpa using hB
    · have : cur.toList.length = cap := by rw [Array.length_toList, hsz, Nat.mul_one]
      rw [List.length_drop, this]; omega
/-- append of one position. -/
theorem OwnI.app (h : OwnI w base v zs) (ty : TypeId) (hbase : base ≤ w.heap.size) {gn : Nat} {x : Nat} (hx : Blk w gn 3 [.int .i64 (x : Int)]) (hl : zs.length ≤ 1000000) (c : Nat) :
    ∃ v' w', (Builtin.append_ #[109, 109] ty #[v, .slice (some ⟨gn, 0, none⟩) 1 c]).run Tryz.prog w = .ok v' w' ∧ OwnI w' base v' (zs ++ [x]) ∧ w.grownBy w' (blkV v) ∧ (blkV v' = blkV v ∨ ∃ g, blkV v' = some g ∧ w.heap.size ≤ g) := by
  obtain ⟨i, hi, hzz⟩ := Option.map_eq_some_iff.1 Tryz.infoIntL
  simp only [Prod.mk.injEq] at hzz
  obtain ⟨hz0, hs, hby⟩ := hzz
  have hcell : ∀ j u, [Value.int .i64 (x : Int)][j]? = some u → w.cell? ((⟨gn, 0, none⟩ : Addr).add j) = some u := by
    intro j u hj
    rw [Addr.add_lit, Nat.zero_add, hx.cell]
    exact hj
  have h1 : ∀ u ∈ [Value.int .i64 (x : Int)], u.oneCell' = true := by intro u hu; obtain rfl := List.mem_singleton.1 hu; rfl
  have hle : (zs ++ [x]).length = zs.length + 1 := by simp
  have hne : zs ++ [x] ≠ [] := by simp
  have happ : i64s (zs ++ [x]) = i64s zs ++ [.int .i64 (x : Int)] := by simp [i64s]
  rcases h with ⟨rfl, rfl⟩ | ⟨g, cp, pre, rest, rfl, hz, hb, hB, hc⟩
  · obtain ⟨v', w', hr, ho, hg, _, hat⟩ := run_append_own_at (P := Tryz.prog) w w.heap.size 109 ty 3 i (.int .i64 0) 1 8 Tryz.undIntsL hi hz0 hs hby rfl (by omega) (.slice none 0 0) 0 [] (World.ownsRow_nil _ _ _ _) ⟨gn, 0, none⟩ 1 c [.int .i64 (x : Int)] rfl hcell h1 (by simp [maxLen]) (by omega) (Nat.le_refl _)
    obtain ⟨ho2, g, hg1, hg2⟩ := OwnI.of_row (zs := [x]) (base := base) ho (by simp) hbase
    exact ⟨v', w', hr, ho2, hg, .inr ⟨g, hg1, hg2⟩⟩
  · by_cases hroom : zs.length + 1 ≤ cp
    · obtain ⟨r0, rest', rfl⟩ : ∃ r0 rest', rest = r0 :: rest' := by
        cases rest with
        | nil => simp at hc; omega
        | cons a b => exact ⟨a, b, rfl⟩
      have hat : (pre ++ i64s zs ++ r0 :: rest')[pre.length + zs.length]? = some r0 := by
        rw [List.getElem?_append_right (by rw [List.length_append, i64s_len]; exact Nat.le_refl _), List.length_append, i64s_len, Nat.sub_self]; rfl
      have hr := run_append_room_cells (P := Tryz.prog) (w := w) 109 ty 3 i Tryz.undIntsL hi g pre.length zs.length cp ⟨gn, 0, none⟩ 1 c [.int .i64 (x : Int)] (by rw [hs]; rfl) hcell h1 hroom
        (by intro j hj; obtain rfl : j = 0 := by simpa using hj
            rw [hs, Nat.mul_one, Nat.add_zero, hB.cell, hat]; rfl)
        (by intro j hj; exact hB.frozen _)
      rw [hs, Nat.mul_one] at hr
      have hset := hB.set_ (pre.length + zs.length) (.int .i64 (x : Int))
      rw [List.set_append_right _ _ (by rw [List.length_append, i64s_len]; exact Nat.le_refl _), List.length_append, i64s_len, Nat.sub_self, List.set_cons_zero] at hset
      refine ⟨_, _, hr, .inr ⟨g, cp, pre, rest', by rw [hle], hne, hb, ?_, ?_⟩, ?_, .inl rfl⟩
      · rw [happ]
        have e : pre ++ (i64s zs ++ [.int .i64 (x : Int)]) ++ rest' = pre ++ i64s zs ++ .int .i64 (x : Int) :: rest' := by simp
        rw [e]
        exact hset
      · rw [hle]; simp at hc ⊢; omega
      · refine ⟨rfl, rfl, rfl, ?_, fun k hk hne' => ?_⟩
        · show w.heap.size ≤ (w.setCell ⟨g, pre.length + zs.length, none⟩ (.int .i64 (x : Int))).heap.size
          simp
        · exact Below.heap_setCell w ⟨g, pre.length + zs.length, none⟩ _ k (fun e => hne' (by rw [e]; rfl))
    · obtain ⟨v', w', hr, ho, hg⟩ := run_append_arg_grows (P := Tryz.prog) (w := w) 109 ty 3 i (.int .i64 0) 1 8 Tryz.undIntsL hi hz0 hs hby rfl (by omega) ⟨g, pre.length, none⟩ zs.length cp (i64s zs) (by rw [i64s_len]; omega)
        (by intro j u hj
            rw [Addr.add_lit, hB.cell, List.append_assoc, List.getElem?_append_right (by omega), Nat.add_sub_cancel_left, List.getElem?_append_left (List.getElem?_eq_some_iff.1 hj).1]
            exact hj)
        ⟨gn, 0, none⟩ 1 c [.int .i64 (x : Int)] rfl hcell (by omega) (by simp only [maxLen]; omega) (by omega)
      rw [← happ, ← hle] at ho
      obtain ⟨ho2, g', hg1, hg2⟩ := OwnI.of_row (base := base) ho hne hbase
      exact ⟨v', w', hr, ho2, ⟨hg.os, hg.tape, hg.output, hg.size, fun k hk _ => hg.block k hk (by simp)⟩, .inr ⟨g', hg1, hg2⟩⟩
end
end Go.Proofs.YtdipflchmooakaaGreatDoor
