/-
  Layer 14: a disk with a write cache (mathematics): what the document says, sector by sector. Layer 14: a disk with a write cache (mathematics): what the laws ask. Layer 14: what survives a crash (mathematics). A statement whose operations Go may carry out in more than one order, where each of them only makes memory grow: one walk, in an order of the prover's choice, serves every order. Of no program; a tool for the walks.
-/
import Derived.OrdersHeld
import Derived.BigQuiet
import Derived.WalkKit
set_option maxRecDepth 100000
namespace Go.Gar.Dsk

/-- A sector as it is, and as it is for sure; of which write each is; whether it is pending. -/
structure Sec where
  good : List UInt8
  sure : List UInt8
  age : Nat
  old : Nat
  wet : Bool
structure Dsk where
  secs : List Sec
  fuse : Option Nat
  many : Nat
def zero32 : List UInt8 := List.replicate 32 0
def Sec.new : Sec := ⟨zero32, zero32, 0, 0, false⟩
def new (n : Int) : Dsk := ⟨List.replicate (min n.toNat 4096) Sec.new, none, 0⟩
/-- May something be done? The fuse behind it. -/
def goes : Option Nat → Option (Option Nat)
  | none => some none
  | some 0 => none
  | some (n + 1) => some (some n)
def there (d : Dsk) (i : Int) : Bool := decide (0 ≤ i) && decide (i < (d.secs.length : Int))
def at_ (d : Dsk) (i : Int) : Sec := d.secs.getD i.toNat Sec.new
def read (d : Dsk) (i : Int) : List UInt8 := if there d i then (at_ d i).good else []
def readE (d : Dsk) (i : Int) : Nat := if there d i then 0 else 1
def since (d : Dsk) (i : Int) : Nat := if there d i then (at_ d i).age else 0
def writeE (d : Dsk) (i : Int) (b : List UInt8) : Nat := if there d i && decide (b.length = 32) then (if (goes d.fuse).isSome then 0 else 10) else 1
def put (s : Sec) (b : List UInt8) (m : Nat) : Sec := { s with good := b, age := m, wet := true }
def write (d : Dsk) (i : Int) (b : List UInt8) : Dsk :=
  if there d i && decide (b.length = 32) then
    match goes d.fuse with
    | none => d
    | some f => ⟨d.secs.set i.toNat (put (at_ d i) b (d.many + 1)), f, d.many + 1⟩
  else d
def settle (s : Sec) : Sec := { s with sure := s.good, old := s.age, wet := false }
def flushE (d : Dsk) : Nat := if (goes d.fuse).isSome then 0 else 10
def flush (d : Dsk) : Dsk :=
  match goes d.fuse with
  | none => d
  | some f => ⟨d.secs.map settle, f, d.many⟩
def pending (d : Dsk) : Nat := (d.secs.filter Sec.wet).length
def fuse (d : Dsk) (n : Int) : Dsk := { d with fuse := if n < 0 then none else some n.toNat }
/-- Is the bit of that number set? (Numbers 0 to 61 alone count.) -/
def bit (keep : Int) (n : Nat) : Bool := decide (n < 62) && decide ((keep % 18446744073709551616).toNat / 2 ^ n % 2 = 1)
/-- How many bytes of the n-th pending sector stay as written. -/
def stays (keep torn cut : Int) (n : Nat) : Int := if (n : Int) = torn then cut else if bit keep n then 32 else 0
def cut1 (st : Int) (s : Sec) : Sec := settle (if st < 32 then { s with good := s.good.take st.toNat ++ s.sure.drop st.toNat, age := s.old } else s)
def crashL (keep torn cut : Int) : Nat → List Sec → List Sec
  | _, [] => []
  | n, s :: r => if s.wet then cut1 (stays keep torn cut n) s :: crashL keep torn cut (n + 1) r else s :: crashL keep torn cut n r
def crash (d : Dsk) (keep torn cut : Int) : Dsk := ⟨crashL keep torn cut 0 d.secs, none, d.many⟩

/-- What every disk is. -/
structure Fine (m : Nat) (s : Sec) : Prop where
  good : s.good.length = 32
  sure : s.sure.length = 32
  age : s.age ≤ m
  old : s.old ≤ m
  dry : s.wet = false → s.sure = s.good ∧ s.old = s.age
structure Ok (d : Dsk) : Prop where
  len : d.secs.length ≤ 4096
  secs : ∀ s ∈ d.secs, Fine d.many s

theorem Fine.mono {m m' : Nat} {s : Sec} (h : Fine m s) (hm : m ≤ m') : Fine m' s := ⟨h.good, h.sure, Nat.le_trans h.age hm, Nat.le_trans h.old hm, h.dry⟩
theorem Fine.new (m : Nat) : Fine m Sec.new := ⟨rfl, rfl, Nat.zero_le _, Nat.zero_le _, fun _ => ⟨rfl, rfl⟩⟩
theorem Fine.settle {m : Nat} {s : Sec} (h : Fine m s) : Fine m (settle s) := ⟨h.good, h.good, h.age, h.age, fun _ => ⟨rfl, rfl⟩⟩
theorem cut_len {a b : List UInt8} {st : Nat} (ha : a.length = 32) (hb : b.length = 32) (h : st < 32) : (a.take st ++ b.drop st).length = 32 := by
  rw [List.length_append, List.length_take, List.length_drop]; omega
theorem Fine.cut1 {m : Nat} {s : Sec} (h : Fine m s) (st : Int) : Fine m (cut1 st s) := by
  unfold Dsk.cut1
  apply Fine.settle
  split
  · refine ⟨cut_len h.good h.sure (by omega), h.sure, h.old, h.old, fun hw => ?_⟩
    have hd := h.dry hw
    refine ⟨?_, rfl⟩
    show s.sure = s.good.take st.toNat ++ s.sure.drop st.toNat
    rw [← hd.1, List.take_append_drop]
  · exact h
theorem crashL_len (keep torn cut : Int) (l : List Sec) : ∀ n, (crashL keep torn cut n l).length = l.length := by
  induction l with
  | nil => intro n; rfl
  | cons s r ih => intro n; unfold crashL; split <;> simp [ih]
theorem crashL_fine {m : Nat} (keep torn cut : Int) (l : List Sec) (h : ∀ s ∈ l, Fine m s) : ∀ n, ∀ s ∈ crashL keep torn cut n l, Fine m s := by
  induction l with
  | nil => intro n s hs; cases hs
  | cons s r ih =>
    intro n
    have h1 := h s (by simp)
    have h2 := ih (fun x hx => h x (by simp [hx]))
    unfold crashL
    split
    · intro x hx
      rcases List.mem_cons.1 hx with rfl | hx
      · exact h1.cut1 _
      · exact h2 _ x hx
    · intro x hx
      rcases List.mem_cons.1 hx with rfl | hx
      · exact h1
      · exact h2 _ x hx
theorem at_mem {d : Dsk} {i : Int} (h : there d i = true) : at_ d i ∈ d.secs := by
  unfold there at h
  simp at h
  unfold at_
  have hl : i.toNat < d.secs.length := by omega
  rw [List.getD_eq_getElem?_getD, List.getElem?_eq_getElem hl]
  exact List.getElem_mem hl
theorem Ok.new (n : Int) : Ok (new n) := by
  refine ⟨by show (List.replicate _ _).length ≤ 4096; rw [List.length_replicate]; omega, fun s hs => ?_⟩
  obtain ⟨_, rfl⟩ := List.mem_replicate.1 hs
  exact Fine.new _
theorem Ok.write {d : Dsk} (h : Ok d) (i : Int) (b : List UInt8) : Ok (write d i b) := by
  unfold Dsk.write
  split
  · rename_i hc
    simp at hc
    split
    · exact h
    · refine ⟨by simpa using h.len, fun s hs => ?_⟩
      rcases List.mem_or_eq_of_mem_set hs with hs | rfl
      · exact (h.secs s hs).mono (Nat.le_succ _)
      · have hf := h.secs _ (at_mem hc.1)
        exact ⟨hc.2, hf.sure, Nat.le_refl _, Nat.le_trans hf.old (Nat.le_succ _), fun e => by cases e⟩
  · exact h
theorem Ok.flush {d : Dsk} (h : Ok d) : Ok (flush d) := by
  unfold Dsk.flush
  split
  · exact h
  · refine ⟨by simpa using h.len, fun s hs => ?_⟩
    obtain ⟨x, hx, rfl⟩ := List.mem_map.1 hs
    exact (h.secs x hx).settle
theorem Ok.fuse {d : Dsk} (h : Ok d) (n : Int) : Ok (fuse d n) := ⟨h.len, h.secs⟩
theorem Ok.crash {d : Dsk} (h : Ok d) (keep torn cut : Int) : Ok (crash d keep torn cut) := by
  refine ⟨?_, crashL_fine keep torn cut d.secs h.secs 0⟩
  show (crashL keep torn cut 0 d.secs).length ≤ 4096
  rw [crashL_len]
  exact h.len
theorem Ok.read {d : Dsk} (h : Ok d) {i : Int} (hi : there d i = true) : (Dsk.read d i).length = 32 := by
  unfold Dsk.read
  rw [if_pos hi]
  exact (h.secs _ (at_mem hi)).good
theorem write_len (d : Dsk) (i : Int) (b : List UInt8) : (write d i b).secs.length = d.secs.length := by
  unfold write
  split
  · split
    · rfl
    · simp
  · rfl
theorem flush_len (d : Dsk) : (flush d).secs.length = d.secs.length := by
  unfold flush
  split
  · rfl
  · simp
theorem crash_len (d : Dsk) (keep torn cut : Int) : (crash d keep torn cut).secs.length = d.secs.length := crashL_len _ _ _ _ _
theorem write_many (d : Dsk) (i : Int) (b : List UInt8) : (write d i b).many ≤ d.many + 1 := by
  unfold write
  split
  · split
    · exact Nat.le_succ _
    · exact Nat.le_refl _
  · exact Nat.le_succ _
theorem flush_many (d : Dsk) : (flush d).many = d.many := by
  unfold flush
  split <;> rfl
end Go.Gar.Dsk
namespace Go.Gar.Dsk

/-- How many of the first k are pending. -/
def wetN (l : List Sec) (k : Nat) : Nat := ((l.take k).filter Sec.wet).length
theorem wetN_zero (l : List Sec) : wetN l 0 = 0 := rfl
theorem wetN_succ {l : List Sec} {k : Nat} {s : Sec} (h : l[k]? = some s) : wetN l (k + 1) = wetN l k + (if s.wet then 1 else 0) := by
  unfold wetN
  rw [List.take_add_one, h, List.filter_append, List.length_append]
  congr 1
  cases hw : s.wet <;> simp [hw]
theorem wetN_all (l : List Sec) : wetN l l.length = (l.filter Sec.wet).length := by unfold wetN; rw [List.take_length]
theorem crashL_get (keep torn cut : Int) (l : List Sec) : ∀ (n k : Nat), (crashL keep torn cut n l)[k]? = l[k]?.map fun s => if s.wet then cut1 (stays keep torn cut (n + wetN l k)) s else s := by
  induction l with
  | nil => intro n k; simp [crashL]
  | cons s r ih =>
    intro n k
    unfold crashL
    cases k with
    | zero =>
      cases hw : s.wet <;> simp [hw, wetN_zero]
    | succ k =>
      cases hw : s.wet
      · simp only [Bool.false_eq_true, if_false, List.getElem?_cons_succ, ih]
        have : wetN (s :: r) (k + 1) = wetN r k := by simp [wetN, hw]
        rw [this]
      · simp only [if_true, List.getElem?_cons_succ, ih]
        have : wetN (s :: r) (k + 1) = wetN r k + 1 := by simp [wetN, hw]
        rw [this, Nat.add_right_comm n 1, Nat.add_assoc]
/-- A sector that is not pending stays. -/
theorem crash_dry {keep torn cut : Int} {l : List Sec} {k : Nat} {s : Sec} (h : l[k]? = some s) (hw : s.wet = false) : (crashL keep torn cut 0 l)[k]? = some s := by
  rw [crashL_get, h]
  simp [hw]
/-- A sector behind a crash: as for sure, as written, or the torn one, between. -/
theorem crash_cases {keep torn cut : Int} {l : List Sec} {k : Nat} {s : Sec} (h : l[k]? = some s) : ∃ t, (crashL keep torn cut 0 l)[k]? = some t ∧
    (t.good = s.sure ∨ t.good = s.good ∨ (s.wet = true ∧ (wetN l k : Int) = torn ∧ 0 ≤ cut ∧ cut < 32 ∧ t.good = s.good.take cut.toNat ++ s.sure.drop cut.toNat)) := by
  rw [crashL_get, h]
  refine ⟨_, rfl, ?_⟩
  show (if s.wet = true then cut1 (stays keep torn cut (0 + wetN l k)) s else s).good = _ ∨ (if s.wet = true then cut1 (stays keep torn cut (0 + wetN l k)) s else s).good = _ ∨ (_ ∧ _ ∧ _ ∧ _ ∧ (if s.wet = true then cut1 (stays keep torn cut (0 + wetN l k)) s else s).good = _)
  by_cases hw : s.wet = true
  · rw [if_pos hw, Nat.zero_add]
    unfold cut1 settle stays
    by_cases ht : (wetN l k : Int) = torn
    · rw [if_pos ht]
      by_cases hc : cut < 32
      · rw [if_pos hc]
        by_cases h0 : 0 ≤ cut
        · exact .inr (.inr ⟨hw, ht, h0, hc, rfl⟩)
        · left
          show s.good.take cut.toNat ++ s.sure.drop cut.toNat = s.sure
          rw [show cut.toNat = 0 from by omega]
          rfl
      · rw [if_neg hc]; exact .inr (.inl rfl)
    · rw [if_neg ht]
      cases bit keep (wetN l k)
      · left
        simp
      · right; left
        simp
  · rw [if_neg hw]
    exact .inr (.inl rfl)
/-! A disk that was sure, and then written to. -/
structure Wrote (d0 d : Dsk) : Prop where
  len : d.secs.length = d0.secs.length
  sure : ∀ (k : Nat) (s0 s : Sec), d0.secs[k]? = some s0 → d.secs[k]? = some s → s.sure = s0.good
def Dry (d : Dsk) : Prop := ∀ s ∈ d.secs, s.wet = false
theorem dry_flush {d : Dsk} (h : d.fuse = none) : Dry (flush d) := by
  unfold flush
  rw [h]
  intro s hs
  obtain ⟨x, _, rfl⟩ := List.mem_map.1 hs
  rfl
theorem Wrote.refl {d : Dsk} (h : Ok d) (hd : Dry d) : Wrote d d := ⟨rfl, fun k s0 s h1 h2 => by
  rw [h1] at h2
  obtain rfl := Option.some.inj h2
  have hm := List.mem_of_getElem? h1
  exact ((h.secs _ hm).dry (hd _ hm)).1⟩
theorem at_get {d : Dsk} {i : Int} (h : there d i = true) : d.secs[i.toNat]? = some (at_ d i) := by
  unfold there at h
  simp at h
  unfold at_
  have hl : i.toNat < d.secs.length := by omega
  rw [List.getD_eq_getElem?_getD, List.getElem?_eq_getElem hl]
  rfl
/-- What stands behind a Write. -/
theorem write_get (d : Dsk) (i : Int) (b : List UInt8) (k : Nat) : (write d i b).secs[k]? = if writeE d i b = 0 ∧ i = (k : Int) then (d.secs[k]?.map fun s => put s b (d.many + 1)) else d.secs[k]? := by
  unfold write writeE
  by_cases hc : (there d i && decide (b.length = 32)) = true
  · rw [if_pos hc, if_pos hc]
    have ht : there d i = true := by simp at hc; exact hc.1
    have hi : 0 ≤ i ∧ i < (d.secs.length : Int) := by unfold there at ht; simpa using ht
    cases hg : goes d.fuse with
    | none => simp
    | some f =>
      simp only [Option.isSome_some, if_true, true_and]
      by_cases hk : i = (k : Int)
      · rw [if_pos hk]
        subst hk
        rw [show ((k : Nat) : Int).toNat = k from rfl, List.getElem?_set_self (by omega)]
        have := at_get ht
        rw [show ((k : Nat) : Int).toNat = k from rfl] at this
        rw [this]
        rfl
      · rw [if_neg hk, List.getElem?_set_ne (by omega)]
  · rw [if_neg hc, if_neg hc, if_neg (by simp)]
theorem Wrote.write {d0 d : Dsk} (h : Wrote d0 d) (i : Int) (b : List UInt8) : Wrote d0 (write d i b) := by
  refine ⟨by rw [write_len, h.len], fun k s0 s h1 h2 => ?_⟩
  rw [write_get] at h2
  split at h2
  · cases hq : d.secs[k]? with
    | none => rw [hq] at h2; cases h2
    | some x =>
      rw [hq] at h2
      obtain rfl := Option.some.inj h2
      exact h.sure k s0 x h1 hq
  · exact h.sure k s0 s h1 h2
/-- A disk's fuse is not turned by other things than Fuse and Crash, where there is none. -/
theorem write_fuse {d : Dsk} (h : d.fuse = none) (i : Int) (b : List UInt8) : (write d i b).fuse = none := by
  unfold write
  rw [h]
  simp only [goes]
  split <;> simp_all
theorem flush_fuse {d : Dsk} (h : d.fuse = none) : (flush d).fuse = none := by
  unfold flush
  rw [h]
  rfl
theorem flush_dry {d : Dsk} (h : d.fuse = none) (hd : Dry d) (hk : Ok d) : flush d = d := by
  unfold flush
  rw [h]
  simp only [goes]
  have : d.secs.map settle = d.secs := by
    conv => rhs; rw [← List.map_id d.secs]
    apply List.map_congr_left
    intro s hs
    obtain ⟨h1, h2⟩ := (hk.secs s hs).dry (hd s hs)
    have h3 := hd s hs
    cases s
    simp_all [settle]
  rw [this, ← h]

/-! All sectors are of a later write. -/
def Aged (n : Nat) (d : Dsk) : Prop := n ≤ d.many ∧ ∀ s ∈ d.secs, n < s.age ∧ n < s.old
theorem Aged.write {n : Nat} {d : Dsk} (h : Aged n d) (i : Int) (b : List UInt8) : Aged n (Dsk.write d i b) := by
  unfold Dsk.write
  split
  · rename_i hc
    simp at hc
    split
    · exact h
    · refine ⟨Nat.le_succ_of_le h.1, fun s hs => ?_⟩
      rcases List.mem_or_eq_of_mem_set hs with hs | rfl
      · exact h.2 s hs
      · exact ⟨Nat.lt_succ_of_le h.1, (h.2 _ (at_mem hc.1)).2⟩
  · exact h
theorem Aged.flush {n : Nat} {d : Dsk} (h : Aged n d) : Aged n (Dsk.flush d) := by
  unfold Dsk.flush
  split
  · exact h
  · refine ⟨h.1, fun s hs => ?_⟩
    obtain ⟨x, hx, rfl⟩ := List.mem_map.1 hs
    exact ⟨(h.2 x hx).1, (h.2 x hx).1⟩
theorem Aged.crash {n : Nat} {d : Dsk} (h : Aged n d) (keep torn cut : Int) : Aged n (Dsk.crash d keep torn cut) := by
  refine ⟨h.1, fun s hs => ?_⟩
  obtain ⟨k, hk, rfl⟩ := List.getElem_of_mem hs
  have hg : (crashL keep torn cut 0 d.secs)[k]? = some ((Dsk.crash d keep torn cut).secs[k]) := List.getElem?_eq_getElem hk
  rw [crashL_get] at hg
  cases hq : d.secs[k]? with
  | none => rw [hq] at hg; cases hg
  | some x =>
    rw [hq] at hg
    have hx := h.2 x (List.mem_of_getElem? hq)
    have he : (if x.wet = true then cut1 (stays keep torn cut (0 + wetN d.secs k)) x else x) = _ := Option.some.inj hg
    rw [← he]
    by_cases hw : x.wet = true
    · rw [if_pos hw]
      generalize stays keep torn cut (0 + wetN d.secs k) = st
      unfold cut1 settle
      by_cases hc : st < 32
      · rw [if_pos hc]
        exact ⟨hx.2, hx.2⟩
      · rw [if_neg hc]
        exact ⟨hx.1, hx.1⟩
    · rw [if_neg hw]
      exact hx
end Go.Gar.Dsk
namespace Go.Gar.Dsk
theorem pending_dry {d : Dsk} (h : Dry d) : pending d = 0 := by
  unfold pending
  rw [List.length_eq_zero_iff, List.filter_eq_nil_iff]
  intro s hs
  rw [h s hs]
  simp
theorem crashL_dry (keep torn cut : Int) (l : List Sec) : ∀ n, ∀ s ∈ crashL keep torn cut n l, s.wet = false := by
  induction l with
  | nil => intro n s hs; cases hs
  | cons x r ih =>
    intro n s hs
    unfold crashL at hs
    split at hs
    · rcases List.mem_cons.1 hs with rfl | hs
      · rfl
      · exact ih _ s hs
    · rename_i hw
      rcases List.mem_cons.1 hs with rfl | hs
      · simpa using hw
      · exact ih _ s hs
theorem dry_crash (d : Dsk) (keep torn cut : Int) : Dry (crash d keep torn cut) := crashL_dry keep torn cut d.secs 0
theorem wetN_mono (l : List Sec) (k : Nat) : wetN l k ≤ wetN l (k + 1) := by
  unfold wetN
  rw [List.take_add_one, List.filter_append, List.length_append]
  omega
/-- A sector behind a crash, of a disk that was sure and then written to. -/
theorem survives {d1 d2 : Dsk} (h : Wrote d1 d2) (keep torn cut : Int) (k : Nat) (hk : k < d1.secs.length) :
    read (crash d2 keep torn cut) (k : Int) = read d1 (k : Int) ∨ read (crash d2 keep torn cut) (k : Int) = read d2 (k : Int) ∨
      (torn = (wetN d2.secs k : Int) ∧ wetN d2.secs (k + 1) = wetN d2.secs k + 1 ∧ 0 ≤ cut ∧ cut < 32 ∧ read (crash d2 keep torn cut) (k : Int) = (read d2 (k : Int)).take cut.toNat ++ (read d1 (k : Int)).drop cut.toNat) := by
  have t1 : there d1 (k : Int) = true := by unfold there; simp; omega
  have t2 : there d2 (k : Int) = true := by unfold there; rw [h.len]; simp; omega
  have t3 : there (crash d2 keep torn cut) (k : Int) = true := by unfold there; rw [crash_len, h.len]; simp; omega
  have g1 := at_get t1
  have g2 := at_get t2
  have g3 := at_get t3
  rw [show ((k : Nat) : Int).toNat = k from rfl] at g1 g2 g3
  obtain ⟨t, ht, hc⟩ := crash_cases (keep := keep) (torn := torn) (cut := cut) g2
  rw [show (crash d2 keep torn cut).secs = crashL keep torn cut 0 d2.secs from rfl, ht] at g3
  have e3 := Option.some.inj g3
  have hs := h.sure k _ _ g1 g2
  unfold read
  rw [if_pos t1, if_pos t2, if_pos t3, ← e3, ← hs]
  rcases hc with hc | hc | ⟨hw, hn, h0, h1, hc⟩
  · exact .inl hc
  · exact .inr (.inl hc)
  · refine .inr (.inr ⟨hn.symm, ?_, h0, h1, hc⟩)
    rw [wetN_succ g2, hw]
    rfl
end Go.Gar.Dsk
namespace Go.Gar
open Go.RowKit

/-- How memory may turn from one operation to the next. -/
structure Growth where
  rel : World → World → Prop
  refl : ∀ w, rel w w
  trans : ∀ {a b c}, rel a b → rel b c → rel a c

/-- A world to which w may have grown. -/
structure Later (G : Growth) (w : World) where
  to : World
  grown : G.rel w to
instance (G : Growth) (w : World) : Nonempty (Later G w) := ⟨⟨w, G.refl w⟩⟩

/-- Every old block stays as it was. -/
def grows : Growth := ⟨fun w w' => Below w.heap.size w w', fun w => Below.refl _ w, fun h k => h.trans (k.mono h.size)⟩

section
variable {G : Growth} {P : Program} {ops : Array Oper} {Q : Exit → Act → World → Prop} {md : Region.Mode}

/-- Must operation i come before operation j? (as far as a few edges in a row tell) -/
def reach (md : Region.Mode) (ops : Array Oper) : Nat → Nat → Nat → Bool
  | 0, _, _ => false
  | f + 1, i, j => ((ops[j]?).map fun oj => oj.after.any (fun e => Region.binds md e && e.on == i) || oj.after.any (fun e => Region.binds md e && reach md ops f i e.on)).getD false
/-- With an operation all that must come before it is listed. -/
def closedB (md : Region.Mode) (ops : Array Oper) (listed : Array Bool) : Bool :=
  (List.range ops.size).all fun k => !listed.getD k false || ((ops[k]?).map (·.after.all fun e => !Region.binds md e || listed.getD e.on false)).getD true
def Closed (md : Region.Mode) (ops : Array Oper) (listed : Array Bool) : Prop :=
  ∀ k ok, ops[k]? = some ok → listed.getD k false = true → ∀ e ∈ ok.after, Region.binds md e = true → listed.getD e.on false = true
theorem closed_of {md : Region.Mode} {ops : Array Oper} {listed : Array Bool} (h : closedB md ops listed = true) : Closed md ops listed := by
  intro k ok hk hl e he hb
  simp only [closedB, List.all_eq_true, List.mem_range] at h
  have h1 := h k (Array.getElem?_eq_some_iff.1 hk).1
  rw [hk, hl, Option.map_some, Option.getD_some] at h1
  have h2 : ok.after.all (fun e => !Region.binds md e || listed.getD e.on false) = true := by simpa using h1
  rw [Array.all_eq_true_iff_forall_mem] at h2
  have h3 := h2 e he
  rw [hb] at h3
  simpa using h3
theorem closed_set {md : Region.Mode} {ops : Array Oper} {listed : Array Bool} {j : Nat} (h : Closed md ops listed) (hj : j ∈ Region.ready md ops listed) : Closed md ops (listed.setIfInBounds j true) := by
  have up : ∀ x, listed.getD x false = true → (listed.setIfInBounds j true).getD x false = true := by
    intro x hx
    by_cases hxj : j = x
    · subst hxj
      have : j < listed.size := by
        rcases Nat.lt_or_ge j listed.size with h' | h'
        · exact h'
        · simp [Array.getElem?_eq_none h'] at hx
      simp [this]
    · rw [getD_set_ne false hxj]; exact hx
  intro k ok hk hl e he hb
  by_cases hkj : j = k
  · subst hkj
    obtain ⟨_, oj, hoj, hall⟩ := mem_ready.1 hj
    rw [hoj] at hk
    injection hk with hk
    subst hk
    exact up _ (by simpa using hall e he hb)
  · rw [getD_set_ne false hkj] at hl
    exact up _ (h k ok hk hl e he hb)
theorem reach_listed {md : Region.Mode} {ops : Array Oper} {listed : Array Bool} (hc : Closed md ops listed) : ∀ (f i j : Nat) (oj : Oper), ops[j]? = some oj → (∀ e ∈ oj.after, Region.binds md e = true → listed.getD e.on false = true) → reach md ops f i j = true → listed.getD i false = true
  | 0, _, _, _, _, _, h => by cases h
  | f + 1, i, j, oj, hoj, ha, h => by
    rw [reach, hoj, Option.map_some, Option.getD_some, Bool.or_eq_true] at h
    rcases h with h | h
    · obtain ⟨x, hx, h1⟩ := Array.any_eq_true.1 h
      rw [Bool.and_eq_true, beq_iff_eq] at h1
      rw [← h1.2]
      exact ha _ (Array.getElem_mem hx) h1.1
    · obtain ⟨x, hx, h1⟩ := Array.any_eq_true.1 h
      rw [Bool.and_eq_true] at h1
      have hl := ha _ (Array.getElem_mem hx) h1.1
      cases ho : ops[oj.after[x].on]? with
      | none =>
        cases f with
        | zero => exact absurd h1.2 (by simp [reach])
        | succ f => exact absurd h1.2 (by simp [reach, ho])
      | some o2 => exact reach_listed hc f i _ o2 ho (fun e he hb => hc _ _ ho hl e he hb) h1.2
/-- Every other operation must come before this one, or must come after it. -/
def late (md : Region.Mode) (ops : Array Oper) (j : Nat) : Bool :=
  (List.range ops.size).all fun k => k == j || reach md ops 12 k j || reach md ops 12 j k
theorem late_alone {md : Region.Mode} {ops : Array Oper} {listed : Array Bool} {i j : Nat} (hc : Closed md ops listed) (h : late md ops j = true) (hi : i ∈ Region.ready md ops listed) (hj : j ∈ Region.ready md ops listed) (hne : j ≠ i) : False := by
  obtain ⟨hju, oj, hoj, hja⟩ := mem_ready.1 hj
  obtain ⟨hiu, oi, hoi, hia⟩ := mem_ready.1 hi
  simp only [late, List.all_eq_true, List.mem_range] at h
  have h1 := h i (Array.getElem?_eq_some_iff.1 hoi).1
  simp only [Bool.or_eq_true, beq_iff_eq] at h1
  have un : ∀ k, listed.getD k true = false → listed.getD k false = true → False := by
    intro k hu h2
    rcases Nat.lt_or_ge k listed.size with h' | h'
    · simp [h'] at h2 hu
      rw [hu] at h2; cases h2
    · simp [Array.getElem?_eq_none h'] at h2
  rcases h1 with (h1 | h1) | h1
  · exact hne h1.symm
  · exact un i (by simpa using hiu) (reach_listed hc 12 i j oj hoj (fun e he hb => by simpa using hja e he hb) h1)
  · exact un j (by simpa using hju) (reach_listed hc 12 j i oi hoi (fun e he hb => by simpa using hia e he hb) h1)

/-- Whatever order is picked from here on, each operation letting memory grow. -/
def wpAnyG (G : Growth) (P : Program) (md : Region.Mode) (ops : Array Oper) (Q : Exit → Act → World → Prop) : Nat → Array Bool → Act → World → Prop
  | 0, listed, a, w => Region.ready md ops listed = [] ∧ Q .normal a w
  | fuel + 1, listed, a, w =>
    (Region.ready md ops listed = [] → Q .normal a w) ∧
    ∀ i ∈ Region.ready md ops listed, wpOp P ops Q i (fun a' w' => (G.rel w w' ∨ late md ops i = true) ∧ wpAnyG G P md ops Q fuel (listed.setIfInBounds i true) a' w') a w

theorem wpAny_of_G : ∀ (fuel : Nat) (listed : Array Bool) (a : Act) (w : World), wpAnyG G P md ops Q fuel listed a w → wpAny P md ops Q fuel listed a w
  | 0, _, _, _, h => h
  | fuel + 1, _, _, _, h => ⟨h.1, fun i hi => wpOp_mono (fun a' w' h' => wpAny_of_G fuel _ a' w' h'.2) (h.2 i hi)⟩

theorem wpAnyG_first {i : Nat} {oi : Oper} {v : Value} (w0 : World) (hi : ops[i]? = some oi) (hsel : ∀ (j : Nat) (o : Oper) cs b, ops[j]? = some o → o.op ≠ .select cs b)
    (hQ : ∀ c a w, Q (.panic c) (a.put oi.dst v) w → Q (.panic c) a w) :
    ∀ (fuel : Nat) (listed : Array Bool) (a : Act) (w : World), Closed md ops listed →
      (∀ j oj, ops[j]? = some oj → j ≠ i → listed.getD j true = false → (∀ e ∈ oj.after, Region.binds md e = true → e.on ≠ i) → oi.apart ops oj = true) →
      i ∈ Region.ready md ops listed → YieldsIf P ops (G.rel w0) oi v a → G.rel w0 w →
      wpAnyG G P md ops Q fuel (listed.setIfInBounds i true) (a.put oi.dst v) w → wpAnyG G P md ops Q (fuel + 1) listed a w := by
  intro fuel
  induction fuel with
  | zero =>
    intro listed a w _ _ hr hy hS H
    refine ⟨fun h => (by rw [h] at hr; cases hr), fun j hj => ?_⟩
    by_cases hji : j = i
    · subst hji; exact hy.wpOp hi hS ⟨.inl (G.refl w), H⟩
    · have h := ready_mono hj hji
      rw [H.1] at h
      cases h
  | succ fuel ih =>
    intro listed a w hcl hfree hr hy hS H
    refine ⟨fun h => (by rw [h] at hr; cases hr), fun j hj => ?_⟩
    by_cases hji : j = i
    · subst hji; exact hy.wpOp hi hS ⟨.inl (G.refl w), H⟩
    · have h1 := H.2 j (ready_mono hj hji)
      obtain ⟨hjun, oj, hoj, hall⟩ := mem_ready.1 hj
      have hnot : ∀ e ∈ oj.after, Region.binds md e = true → e.on ≠ i := fun e he hb heq => by
        have h1 := hall e he hb
        have h0 := (mem_ready.1 hr).1
        rw [heq] at h1
        rcases Nat.lt_or_ge i listed.size with h' | h'
        · simp [h'] at h0 h1; rw [h0] at h1; cases h1
        · simp [Array.getElem?_eq_none h'] at h1
      have h2 := wpOp_putIf hoj (hfree j oj hoj hji hjun hnot) (fun cs b => hsel i oi cs b hi) (fun cs b => hsel j oj cs b hoj) hQ hy h1
      have hfree' : ∀ k ok, ops[k]? = some ok → k ≠ i → (listed.setIfInBounds j true).getD k true = false →
          (∀ e ∈ ok.after, Region.binds md e = true → e.on ≠ i) → oi.apart ops ok = true := fun k ok hk hki hun hno => by
        refine hfree k ok hk hki ?_ hno
        by_cases hjk : j = k
        · subst hjk; exact hjun
        · rw [getD_set_ne true hjk] at hun; exact hun
      refine wpOp_mono (fun a' w' h3 => ?_) h2
      have hG : G.rel w w' := h3.2.1.elim id fun h => (late_alone hcl h hr hj hji).elim
      refine ⟨.inl hG, ih (listed.setIfInBounds j true) a' w' (closed_set hcl hj) hfree' (ready_mono hr (Ne.symm hji)) h3.1 (G.trans hS hG) ?_⟩
      rw [Array.setIfInBounds_comm _ _ hji]
      exact h3.2.2

/-- Operations that yield a value and nothing else, if they do not panic. -/
def valued : Op → Bool
  | .move _ | .assign _ | .pick .. | .binOp .. | .unOp .. | .convert .. | .load .. | .slice .. | .indexAddr .. | .fieldAddr .. | .field .. | .index .. | .extract .. | .nilCheck .. => true
  | .call { callee := .builtin .len, .. } => true
  | _ => false

theorem valued_run {o : Oper} (h : valued o.op = true) (ρ : Operand → Value) (w : World) : (∃ v w', (execOp ρ o).run P w = .ok (.value v) w') ∨ ∃ x w', (execOp ρ o).run P w = .halt x w' := by
  have hv : ∀ s : Sem Value, (∃ v w', (do pure (Next.value (← s)) : Sem Next).run P w = .ok (.value v) w') ∨ ∃ x w', (do pure (Next.value (← s)) : Sem Next).run P w = .halt x w' := by
    intro s
    rw [Sem.run_bind]
    cases hs : s.run P w with
    | ok v w' => exact .inl ⟨v, w', by simp [Result.andThen]⟩
    | halt x w' => exact .inr ⟨x, w', by simp [Result.andThen]⟩
  unfold execOp
  cases ho : o.op <;> simp only [ho, valued] at h ⊢
  all_goals first | exact hv _ | exact .inl ⟨_, _, rfl⟩ | (cases h; done) | skip
  · rename_i c x y
    rw [Sem.run_bind]
    cases hs : (asBool (ρ c)).run P w with
    | ok v w' => exact .inl ⟨if v = true then ρ x else ρ y, w', by simp [Result.andThen]⟩
    | halt x w' => exact .inr ⟨x, w', by simp [Result.andThen]⟩
  · rename_i x
    have hp : ∃ y w', (runtimePanic .nilDeref : Sem Next).run P w = .halt y w' := by
      simp [runtimePanic]
    split
    · exact .inr hp
    · exact .inr hp
    · exact .inr hp
    · split
      · exact .inr hp
      · rename_i t wv
        have hb : ∀ {α : Type} (s : Sem α) (f : α → Sem Next), (∀ a w, (∃ v w', (f a).run P w = .ok (.value v) w') ∨ ∃ y w', (f a).run P w = .halt y w') → ∀ w, (∃ v w', (s >>= f).run P w = .ok (.value v) w') ∨ ∃ y w', (s >>= f).run P w = .halt y w' := by
          intro α s f hf w
          rw [Sem.run_bind]
          cases hs : s.run P w with
          | ok v w' => exact hf v w'
          | halt y w' => exact .inr ⟨y, w', rfl⟩
        refine hb _ _ (fun _ w => ?_) w
        refine hb _ _ (fun _ w => ?_) w
        split
        · exact hb _ _ (fun _ w => .inl ⟨_, _, rfl⟩) w
        · exact .inl ⟨_, _, rfl⟩
      · exact .inl ⟨_, _, rfl⟩
    · exact .inl ⟨_, _, rfl⟩
  · rename_i c
    obtain ⟨callee, args, argTypes⟩ := c
    cases callee with
    | builtin b =>
      cases b <;> simp at h
      simp only [resolve, invoke, builtin, Sem.run_bind, Sem.run_pure, Result.andThen_ok]
      cases hs : (Builtin.len_ argTypes o.type (Array.map ρ args)).run P w with
      | ok v w' => exact .inl ⟨v, w', by simp [Result.andThen]⟩
      | halt x w' => exact .inr ⟨x, w', by simp [Result.andThen]⟩
    | _ => simp at h

theorem quiet_yields {o : Oper} {a : Act} {w : World} {v : Value} (hv : valued o.op = true) (h : ∀ W, (∃ x : Later G w, W = x.to) → o.quietAt P a (fun W => ∃ x : Later G w, W = x.to) W v) :
    ∀ W, G.rel w W → (execOp a.eval o).run P W = .ok (.value v) W := by
  intro W hW
  have h1 := h W ⟨⟨W, hW⟩, rfl⟩
  unfold Oper.quietAt at h1
  rcases valued_run (P := P) hv a.eval W with ⟨u, w', e⟩ | ⟨x, w', e⟩
  · rw [e] at h1 ⊢
    obtain ⟨h2, h3⟩ := h1
    rw [h2, h3]
  · rw [e] at h1
    exact h1.elim

/-- May these be taken first, one after the other? -/
def segOk (md : Region.Mode) (ops : Array Oper) : List Nat → Array Bool → Bool
  | [], _ => true
  | i :: rest, listed => closedB md ops listed && (Region.ready md ops listed).contains i && Region.free md ops listed i && ((ops[i]?).map fun o => valued o.op).getD false && segOk md ops rest (listed.setIfInBounds i true)

theorem panic_put (hQ : ∀ c (a : Act) (d : Tmp) v w, Q (.panic c) (a.put (some d) v) w → Q (.panic c) a w) (c : List PanicEntry) (a : Act) (d : Option Tmp) (v : Value) (w : World) (h : Q (.panic c) (a.put d v) w) : Q (.panic c) a w := by
  cases d with
  | none => exact h
  | some d => exact hQ c a d v w h

/-- Operations that only yield values are taken first. -/
theorem wpAnyG_quiet (hs : Region.noSelect ops = true) (hQ : ∀ c (a : Act) (d : Tmp) v w, Q (.panic c) (a.put (some d) v) w → Q (.panic c) a w) :
    ∀ (seg : List Nat) (l : List Oper) (n : Nat) (listed : Array Bool) (a : Act) (w : World), seg.map (ops[·]?) = l.map some → segOk md ops seg listed = true →
      wpQuiet P ops (fun W => ∃ x : Later G w, W = x.to) (fun a' => wpAnyG G P md ops Q n (seg.foldl (fun L i => L.setIfInBounds i true) listed) a' w) l a →
      wpAnyG G P md ops Q (n + seg.length) listed a w
  | [], [], n, listed, a, w, _, _, h => h
  | [], _ :: _, _, _, _, _, hl, _, _ => by simp at hl
  | _ :: _, [], _, _, _, _, hl, _, _ => by simp at hl
  | i :: seg, o :: l, n, listed, a, w, hl, hok, h => by
    simp only [List.map_cons, List.cons.injEq] at hl
    obtain ⟨hi, hl⟩ := hl
    simp only [segOk, Bool.and_eq_true, hi, Option.map_some, Option.getD_some] at hok
    obtain ⟨⟨⟨⟨hcl, hr⟩, hf⟩, hv⟩, hok⟩ := hok
    have hr' : i ∈ Region.ready md ops listed := by simpa using hr
    by_cases hw : Region.wanted o (yielded ops a.tmps) = true
    · have h' : o.quiet P a (fun W => ∃ x : Later G w, W = x.to) (wpQuiet P ops (fun W => ∃ x : Later G w, W = x.to) (fun a' => wpAnyG G P md ops Q n ((i :: seg).foldl (fun L i => L.setIfInBounds i true) listed) a' w) l) := by
        simpa [wpQuiet, hw] using h
      obtain ⟨v, h1, h2⟩ := h'
      exact wpAnyG_first w hi (Region.noSelect_spec hs) (fun c a w h => panic_put hQ c a _ _ w h) (n + seg.length) listed a w (closed_of hcl) (Region.free_spec hi hf) hr' (.inl ⟨hw, quiet_yields hv h1⟩) (G.refl w)
        (wpAnyG_quiet hs hQ seg l n _ _ w hl hok h2)
    · have h2 : wpQuiet P ops (fun W => ∃ x : Later G w, W = x.to) (fun a' => wpAnyG G P md ops Q n ((i :: seg).foldl (fun L i => L.setIfInBounds i true) listed) a' w) l (a.put o.dst undef) := by
        simpa [wpQuiet, hw] using h
      exact wpAnyG_first w hi (Region.noSelect_spec hs) (fun c a w h => panic_put hQ c a _ _ w h) (n + seg.length) listed a w (closed_of hcl) (Region.free_spec hi hf) hr' (.inr ⟨by simpa using hw, rfl⟩) (G.refl w)
        (wpAnyG_quiet hs hQ seg l n _ _ w hl hok h2)

/-- The one operation that may come up now. -/
theorem wpAnyG_one' {i : Nat} {o : Oper} {n : Nat} {listed : Array Bool} {a : Act} {w : World} (C : World → Prop) (hC : ∀ w', C w' → G.rel w w' ∨ late md ops i = true) (hr : Region.ready md ops listed = [i]) (hi : ops[i]? = some o)
    (h : wpList P ops (Exit.then (fun a' w' => C w' ∧ wpAnyG G P md ops Q n (listed.setIfInBounds i true) a' w') Q) [o] a w) : wpAnyG G P md ops Q (n + 1) listed a w := by
  refine ⟨fun h0 => (by rw [h0] at hr; cases hr), fun j hj => ?_⟩
  rw [hr] at hj
  obtain rfl : j = i := by simpa using hj
  refine wpOp_mono (K := fun a' w' => C w' ∧ wpAnyG G P md ops Q n (listed.setIfInBounds j true) a' w') (fun a' w' h => ⟨hC w' h.1, h.2⟩) ?_
  unfold wpOp
  simp only [hi]
  unfold wpList at h
  split
  · rename_i hw
    simp only [hw, if_true] at h
    rcases h with h | ⟨h1, h2⟩
    · left
      unfold Oper.wp at h ⊢
      generalize (execOp a.eval o).run P w = r at *
      cases r with
      | ok n w' => cases n <;> exact h
      | halt x w' => cases x <;> exact h
    · exact .inr ⟨h1, h2⟩
  · rename_i hw
    simp only [hw] at h
    exact h
theorem wpAnyG_one {i : Nat} {o : Oper} {n : Nat} {listed : Array Bool} {a : Act} {w : World} (hr : Region.ready md ops listed = [i]) (hi : ops[i]? = some o)
    (h : wpList P ops (Exit.then (fun a' w' => G.rel w w' ∧ wpAnyG G P md ops Q n (listed.setIfInBounds i true) a' w') Q) [o] a w) : wpAnyG G P md ops Q (n + 1) listed a w :=
  wpAnyG_one' (G.rel w) (fun _ h => .inl h) hr hi h

theorem wpAnyG_done {n : Nat} {listed : Array Bool} {a : Act} {w : World} (hr : Region.ready md ops listed = []) (h : Q .normal a w) : wpAnyG G P md ops Q n listed a w := by
  cases n with
  | zero => exact ⟨hr, h⟩
  | succ n => exact ⟨fun _ => h, by rw [hr]; simp⟩

/-- The beginning. -/
theorem wp_region_G (G : Growth) {id : Nat} {l : List Oper} {a : Act} {w : World} (hm : P.follows .mixedOrders = true)
    (h : wpAnyG G P .any l.toArray Q l.length (Array.replicate l.length false) a w.drew) : (Code.region id l.toArray true).wp P Q a w :=
  wp_region_any hm (wpAny_of_G _ _ _ _ (by simpa using h))

/-- The same two moves, the region's operations written out in a list. -/
theorem segG {L : List Oper} (hs : Region.noSelect L.toArray = true) (hQ : ∀ c (a : Act) (d : Tmp) v w, Q (.panic c) (a.put (some d) v) w → Q (.panic c) a w) (seg : List Nat) (l : List Oper) (n : Nat) {N : Nat} {listed : Array Bool} {a : Act} {w : World} (hN : N = n + seg.length)
    (hl : seg.map (fun i => L[i]?) = l.map some) (hok : segOk md L.toArray seg listed = true)
    (h : wpQuiet P L.toArray (fun W => ∃ x : Later G w, W = x.to) (fun a' => wpAnyG G P md L.toArray Q n (seg.foldl (fun L i => L.setIfInBounds i true) listed) a' w) l a) : wpAnyG G P md L.toArray Q N listed a w := by
  subst hN
  exact wpAnyG_quiet hs hQ seg l n listed a w (by simpa using hl) hok h
theorem oneG {L : List Oper} (i n : Nat) {N : Nat} {o : Oper} {listed : Array Bool} {a : Act} {w : World} (hN : N = n + 1) (hr : Region.ready md L.toArray listed = [i]) (hi : L[i]? = some o)
    (h : wpList P L.toArray (Exit.then (fun a' w' => G.rel w w' ∧ wpAnyG G P md L.toArray Q n (listed.setIfInBounds i true) a' w') Q) [o] a w) : wpAnyG G P md L.toArray Q N listed a w := by
  subst hN
  exact wpAnyG_one hr (by simpa using hi) h
/-- An operation that all others precede or follow may do what it will. -/
theorem lateG {L : List Oper} (i n : Nat) {N : Nat} {o : Oper} {listed : Array Bool} {a : Act} {w : World} (hN : N = n + 1) (hr : Region.ready md L.toArray listed = [i]) (hlate : late md L.toArray i = true) (hi : L[i]? = some o)
    (h : wpList P L.toArray (Exit.then (fun a' w' => True ∧ wpAnyG G P md L.toArray Q n (listed.setIfInBounds i true) a' w') Q) [o] a w) : wpAnyG G P md L.toArray Q N listed a w := by
  subst hN
  exact wpAnyG_one' (fun _ => True) (fun _ _ => .inr hlate) hr (by simpa using hi) h
end
end Go.Gar
