/-
  The reference's readers: contracts.
-/
import Derived.Test.YtpfibdloaddbdaaRefA
namespace Go.Proofs.Ytpfibdloaddbdaa
open Go.RowKit Go.Gar

set_option maxHeartbeats 400000 in
theorem refNum_neg (A : Option Addr) (len cap : Nat) (at_ : Int) (w : World) (h : at_ < 0) :
    Calls Try.prog 15 #[.slice A len cap, .int .i64 at_] w fun e w' => e = .returned (.tuple #[.int .i64 0, .int .i64 (-1)]) ∧ w = w' := by
  have hd : decide (at_ < 0) = true := by simpa using h
  go_enter Try.func15, Try.ntmps15
  go_wp2
  go_ret2
  exact ⟨rfl, rfl⟩

set_option maxHeartbeats 400000 in
theorem refNum_short (A : Option Addr) (len cap at_ : Nat) (w : World) (_hl : len ≤ 1000000000) (_hat : at_ ≤ len) (h : len < at_ + 8) :
    Calls Try.prog 15 #[.slice A len cap, .int .i64 (at_ : Int)] w fun e w' => e = .returned (.tuple #[.int .i64 0, .int .i64 (-1)]) ∧ w = w' := by
  have hd : decide ((at_ : Int) < 0) = false := by simp
  have hd2 : decide ((len : Int) - (at_ : Int) < 8) = true := by simp; omega
  go_enter Try.func15, Try.ntmps15
  go_wp2
  go_ret2
  exact ⟨rfl, rfl⟩

theorem take_step (l : List UInt8) (i k : Nat) (h : i + k < l.length) : (l.drop i).take (k + 1) = (l.drop i).take k ++ [l[i + k]] := by
  rw [List.take_succ_eq_append_getElem (by simp; omega)]
  simp
theorem step2_u64 (n c : Nat) (hn : n < 72057594037927936) (hc : c < 256) : IntKind.u64.wrap (IntKind.u64.wrap (256 * (n : Int)) + IntKind.u64.wrap (c : Int)) = ((n * 256 + c : Nat) : Int) := by
  rw [wraps_u64 (c : Int) (by omega) (by omega), wraps_u64 (256 * (n : Int)) (by omega) (by omega), wraps_u64 _ (by omega) (by omega)]
  omega

set_option maxHeartbeats 1000000 in
theorem refNum_ok (A : Option Addr) (l : List UInt8) (cap at_ : Nat) (w : World) (hr : Rd w w.heap.size A l) (hl : l.length ≤ 1000000000) (h : at_ + 8 ≤ l.length) :
    Calls Try.prog 15 #[.slice A l.length cap, .int .i64 (at_ : Int)] w fun e w' => e = .returned (.tuple #[.int .i64 (s64 (val ((l.drop at_).take 8))), .int .i64 ((at_ : Int) + 8)]) ∧ w = w' := by
  rcases hr with rfl | ⟨b, o, rfl, _, hc⟩
  · simp at h
  have hc0 := hc at_ l[at_] (List.getElem?_eq_getElem (by omega))
  have hd : decide ((at_ : Int) < 0) = false := by simp
  have hd2 : decide ((l.length : Int) - (at_ : Int) < 8) = false := by simp; omega
  have HC := Lib.hid hc
  clear hc
  go_enter Try.func15, Try.ntmps15
  go_wp2
  go_loop [6, 7] (fun u i => ∃ k : Nat, 1 ≤ k ∧ k ≤ 8 ∧ i = .int .i64 k ∧ u = .int .u64 (val ((l.drop at_).take k) : Int)) (fun _ i => 8 - (intOf i).toNat)
  case atStart =>
    refine ⟨1, by omega, by omega, rfl, ?_⟩
    rw [take_step l at_ 0 (by omega), val_snoc]
    have := l[at_].toNat_lt
    simp [val]
    exact wraps_u64 _ (by omega) (by omega)
  case round =>
    obtain ⟨k, hk0, hk, rfl, rfl⟩ := hrel
    by_cases hlt : k < 8
    · have hck := HC.out (at_ + k) l[at_ + k] (List.getElem?_eq_getElem (by omega))
      have hs := step2_u64 (val ((l.drop at_).take k)) l[at_ + k].toNat (val_take_lt _ k (by omega)) l[at_ + k].toNat_lt
      rw [← val_snoc, ← take_step l at_ k (by omega)] at hs
      have HS := Lib.hid hs
      clear hs
      go_wp2
      exact ⟨⟨k + 1, by omega, by omega, by go_num, by rw [HS.out]⟩, by simp [intOf]; omega⟩
    · obtain rfl : k = 8 := by omega
      go_wp2
      go_ret2
      exact ⟨rfl, rfl⟩

set_option maxHeartbeats 400000 in
theorem refWord_neg (A : Option Addr) (len cap : Nat) (at_ most : Int) (w : World) (h : at_ < 0) :
    Calls Try.prog 17 #[.slice A len cap, .int .i64 at_, .int .i64 most] w fun e w' => e = .returned (.tuple #[.string ByteArray.empty, .int .i64 (-1)]) ∧ ∃ n, w' = w.drewN n := by
  have hd : decide (at_ < 0) = true := by simpa using h
  go_enter Try.func17, Try.ntmps17
  go_wp2
  go_ret2
  exact ⟨rfl, 0, rfl⟩

set_option maxHeartbeats 400000 in
theorem refWord_short (A : Option Addr) (len cap at_ : Nat) (most : Int) (w : World) (_hl : len ≤ 1000000000) (_hat : at_ ≤ len) (h : len < at_ + 2) :
    Calls Try.prog 17 #[.slice A len cap, .int .i64 (at_ : Int), .int .i64 most] w fun e w' => e = .returned (.tuple #[.string ByteArray.empty, .int .i64 (-1)]) ∧ ∃ n, w' = w.drewN n := by
  have hd : decide ((at_ : Int) < 0) = false := by simp
  have hd2 : decide ((len : Int) - (at_ : Int) < 2) = true := by simp; omega
  go_enter Try.func17, Try.ntmps17
  go_wp2
  go_ret2
  exact ⟨rfl, 0, rfl⟩

theorem val2 (l : List UInt8) (i : Nat) (h : i + 2 ≤ l.length) : (val ((l.drop i).take 2) : Int) = 256 * (l[i].toNat : Int) + (l[i + 1].toNat : Int) := by
  rw [take_step l i 1 (by omega), val_snoc, take_step l i 0 (by omega), val_snoc]
  simp [val]
  omega

theorem two_bytes {w : World} {b o : Nat} {l : List UInt8} (hc : ∀ i c, l[i]? = some c → w.cell? ⟨b, o + i, none⟩ = some (.int .u8 (c.toNat : Int))) (i : Nat) (h : i + 2 ≤ l.length) :
    ∃ c0 c1 : Nat, w.cell? ⟨b, o + i, none⟩ = some (.int .u8 (c0 : Int)) ∧ w.cell? ⟨b, o + (i + 1), none⟩ = some (.int .u8 (c1 : Int)) ∧ 256 * (c0 : Int) + (c1 : Int) = (val ((l.drop i).take 2) : Int) ∧ c0 < 256 ∧ c1 < 256 :=
  ⟨_, _, hc i l[i] (List.getElem?_eq_getElem (by omega)), hc (i + 1) l[i + 1] (List.getElem?_eq_getElem (by omega)), (val2 l i h).symm, l[i].toNat_lt, l[i + 1].toNat_lt⟩

set_option maxHeartbeats 1000000 in
theorem refWord_no (A : Option Addr) (l : List UInt8) (cap at_ v : Nat) (most : Int) (w : World) (hr : Rd w w.heap.size A l) (hl : l.length ≤ 1000000000) (h : at_ + 2 ≤ l.length) (hv : val ((l.drop at_).take 2) = v) (hm : most < (v : Int) ∨ l.length < at_ + 2 + v) :
    Calls Try.prog 17 #[.slice A l.length cap, .int .i64 (at_ : Int), .int .i64 most] w fun e w' => e = .returned (.tuple #[.string ByteArray.empty, .int .i64 (-1)]) ∧ ∃ n, w' = w.drewN n := by
  rcases hr with rfl | ⟨b, o, rfl, _, hc⟩
  · simp at h
  obtain ⟨c0, c1, hc0, hc1, h3, ha, hb⟩ := two_bytes hc at_ h
  rw [hv] at h3
  have hd : decide ((at_ : Int) < 0) = false := by simp
  have hd2 : decide ((l.length : Int) - (at_ : Int) < 2) = false := by simp; omega
  clear hc hv
  have HM := Lib.hid hm
  clear hm
  by_cases hb1 : most < (v : Int)
  · have hd3 : decide (most < (v : Int)) = true := by simpa using hb1
    go_enter Try.func17, Try.ntmps17
    go_wp2
    go_quiet (fail)
    go_wp2
    go_ret2
    exact ⟨rfl, _, rfl⟩
  · have hd3 : decide (most < (v : Int)) = false := by simpa using hb1
    have hd4 : decide ((l.length : Int) - (at_ : Int) - 2 < (v : Int)) = true := by have := HM.out; simp; omega
    have hv6 : v < 65536 := by omega
    go_enter Try.func17, Try.ntmps17
    go_wp2
    go_quiet (fail)
    go_wp2
    go_ret2
    exact ⟨rfl, _, rfl⟩

set_option maxHeartbeats 1000000 in
theorem refWord_ok (A : Option Addr) (l x : List UInt8) (cap at_ v : Nat) (most : Int) (w : World) (hr : Rd w w.heap.size A l) (hl : l.length ≤ 1000000000) (hcap : l.length ≤ cap) (h : at_ + 2 + v ≤ l.length) (hv : val ((l.drop at_).take 2) = v)
    (hx : (l.drop (at_ + 2)).take v = x) (hm : (v : Int) ≤ most) :
    Calls Try.prog 17 #[.slice A l.length cap, .int .i64 (at_ : Int), .int .i64 most] w fun e w' => e = .returned (.tuple #[.string ⟨x.toArray⟩, .int .i64 ((at_ : Int) + 2 + (v : Int))]) ∧ ∃ n, w' = w.drewN n := by
  have hlx : x.length = v := by rw [← hx, List.length_take, List.length_drop]; omega
  have hrx : Rd w w.heap.size (if cap = at_ + 2 then A else A.map (·.add (at_ + 2))) x := by
    rcases hr with rfl | ⟨b, o, rfl, hb, hc⟩
    · simp at h
    · by_cases he : cap = at_ + 2
      · exact .inl (List.eq_nil_of_length_eq_zero (by omega))
      · rw [if_neg he]
        refine .inr ⟨b, o + (at_ + 2), by simp [Addr.add_lit], hb, fun i c hi => ?_⟩
        rw [← hx, List.getElem?_take] at hi
        split at hi
        · rw [List.getElem?_drop] at hi
          have := hc _ c hi
          rwa [← Nat.add_assoc] at this
        · cases hi
  have hcv := fun nq => run_string_rd (P := Try.prog) (w := w.drewN nq) 22 9 5 Try.und22 Try.und5 Try.und9 _ x _ (cap - (at_ + 2)) (show Rd (w.drewN nq) w.heap.size _ x from hrx)
  rw [hlx] at hcv
  rcases hr with rfl | ⟨b, o, rfl, _, hc⟩
  · simp at h
  obtain ⟨c0, c1, hc0, hc1, h3, ha, hb⟩ := two_bytes hc at_ (by omega)
  rw [hv] at h3
  have hd : decide ((at_ : Int) < 0) = false := by simp
  have hd2 : decide ((l.length : Int) - (at_ : Int) < 2) = false := by simp; omega
  have hd3 : decide (most < (v : Int)) = false := by simpa using hm
  have hd4 : decide ((l.length : Int) - (at_ : Int) - 2 < (v : Int)) = false := by simp; omega
  have hv6 : v < 65536 := by omega
  clear hc hv hx hlx hrx
  by_cases he : cap = at_ + 2
  · have hv0 : v ≤ 0 := by omega
    simp only [he, if_true, Nat.sub_self] at hcv
    have hc2 : cap ≤ at_ + 2 := by omega
    have hc3 : at_ + 2 ≤ cap := by omega
    subst he
    go_enter Try.func17, Try.ntmps17
    go_wp2
    go_quiet (fail)
    go_wp2
    go_ret2
    exact ⟨rfl, _, rfl⟩
  · simp only [he, if_false, Option.map_some, Addr.add_lit] at hcv
    go_enter Try.func17, Try.ntmps17
    go_wp2
    go_quiet (fail)
    go_wp2
    go_ret2
    exact ⟨rfl, _, rfl⟩

/-- Where the reference stands: -1 once something did not fit. -/
def atv (bad : Bool) (a : Nat) : Int := match bad with | true => -1 | false => (a : Int)

theorem refNum_fail (A : Option Addr) (len cap a : Nat) (bad : Bool) (w : World) (hl : len ≤ 1000000000) (hat : a ≤ len) (h : bad = true ∨ len < a + 8) :
    Calls Try.prog 15 #[.slice A len cap, .int .i64 (atv bad a)] w fun e w' => e = .returned (.tuple #[.int .i64 0, .int .i64 (-1)]) ∧ w = w' := by
  cases bad with
  | true => exact refNum_neg A len cap (-1) w (by omega)
  | false => exact refNum_short A len cap a w hl hat (by simpa using h)

theorem refWord_fail (A : Option Addr) (l : List UInt8) (cap a : Nat) (bad : Bool) (most : Int) (w : World) (hr : Rd w w.heap.size A l) (hl : l.length ≤ 1000000000) (hat : a ≤ l.length) (h : NoText l a bad most) :
    Calls Try.prog 17 #[.slice A l.length cap, .int .i64 (atv bad a), .int .i64 most] w fun e w' => e = .returned (.tuple #[.string ByteArray.empty, .int .i64 (-1)]) ∧ ∃ n, w' = w.drewN n := by
  rcases h with h | ⟨rfl, h1, h2⟩
  · cases bad with
    | true => exact refWord_neg A l.length cap (-1) most w (by omega)
    | false => exact refWord_short A l.length cap a most w hl hat (by simpa using h)
  · exact refWord_no A l cap a _ most w hr hl h1 rfl h2
end Go.Proofs.Ytpfibdloaddbdaa
