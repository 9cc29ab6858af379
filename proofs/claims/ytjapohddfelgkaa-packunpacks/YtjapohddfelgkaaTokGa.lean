/-
  The landed token: first: its contract.
-/
import Derived.Test.YtjapohddfelgkaaLzGa
import Derived.Test.YtjapohddfelgkaaTokBu
import Derived.Test.YtjapohddfelgkaaSliceO
import Derived.Lib.LazyBuf
import Derived.IntWalk
set_option maxRecDepth 100000
namespace Go.Gar.Lz
/-- The token that bytes begin with, and the bytes behind it; or the zero token. -/
def fst1 : List UInt8 → Tok × List UInt8
  | [] => (⟨[], 0, 0⟩, [])
  | c :: r => if c.toNat < 128 then (if c.toNat < r.length then (⟨r.take (c.toNat + 1), 0, 0⟩, r.drop (c.toNat + 1)) else (⟨[], 0, 0⟩, []))
    else if 2 ≤ r.length then (⟨[], (c.toNat : Int) - 125, ((256 * (r.getD 0 0).toNat + (r.getD 1 0).toNat + 1 : Nat) : Int)⟩, r.drop 2) else (⟨[], 0, 0⟩, [])
theorem good_zero : good ⟨[], 0, 0⟩ = false := by decide
theorem good_far {n d : Int} (h : 4096 < d) : good ⟨[], n, d⟩ = false := by
  cases hg : good ⟨[], n, d⟩ with
  | false => rfl
  | true => have := (good_len hg).2.2.2.1; simp only at this; omega
theorem more_fst1 {b : List UInt8} (h : 0 < b.length) (out : List Tok) : more b out = if good (fst1 b).1 = false then (12, []) else more (fst1 b).2 (out ++ [(fst1 b).1]) := by
  match b, h with
  | c :: r, _ =>
    by_cases hc : c.toNat < 128
    · rw [more_lit _ _ _ (by omega), fst1, if_pos hc]
      by_cases hr : c.toNat < r.length
      · rw [if_neg (by omega), if_pos hr]
        have hl : (r.take (c.toNat + 1)).length = c.toNat + 1 := by rw [List.length_take]; omega
        have hg := good_lit (l := r.take (c.toNat + 1)) (fun e => by rw [e] at hl; simp at hl) (by omega)
        rw [if_neg (by simp only [hg]; simp)]
      · rw [if_pos (by omega), if_neg hr, if_pos good_zero]
    · rw [more_long _ _ _ (by omega), fst1, if_neg hc]
      by_cases hr : 2 ≤ r.length
      · rw [if_neg (by omega), if_pos hr]
        by_cases hd : 4096 < 256 * (r.getD 0 0).toNat + (r.getD 1 0).toNat + 1
        · rw [if_pos hd, if_pos (good_far (by omega))]
        · rw [if_neg hd]
          have hc8 := c.toNat_lt
          have hcn : (c.toNat : Int) - 125 = ((c.toNat - 125 : Nat) : Int) := by omega
          have hg := good_match (n := c.toNat - 125) (d := 256 * (r.getD 0 0).toNat + (r.getD 1 0).toNat + 1) (by omega) (by omega) (by omega) (by omega)
          rw [← hcn] at hg
          rw [if_neg (by simp only [hg]; simp)]
      · rw [if_pos (by omega), if_neg hr, if_pos good_zero]
theorem fst1_len {b : List UInt8} (h : 0 < b.length) : (fst1 b).2.length < b.length := by
  match b, h with
  | c :: r, _ =>
    rw [fst1, List.length_cons]
    split
    · split
      · rw [List.length_drop]; omega
      · simp
    · split
      · rw [List.length_drop]; omega
      · simp
end Go.Gar.Lz
namespace Go.Proofs.Ytjapohddfelgkaa
open Go.RowKit Go.Gar

/-- A cut from a place on, also at the very end. -/
theorem slice_tail {W0 : World} {B : Nat} {A : Option Addr} {b : List UInt8} (n c k : Nat) (hn : n = b.length) (hr : Rd W0 B A b) (h0 : 0 < n) (hk : k ≤ n) (hc : n ≤ c) :
    ∃ A', (∀ W, (Instr.sliceAt 22 (.slice A n c) (some (.int .i64 (k : Int))) none none).run Try.prog W = .ok (.slice A' (n - k) (c - k)) W) ∧ ∀ (V : World) (C : Nat), Rd V C A b → Rd V C A' (b.drop k) := by
  rcases hr with h | ⟨g, o, rfl, hg, hcl⟩
  · rw [hn, h] at h0; simp at h0
  · by_cases hkc : k < c
    · refine ⟨_, fun W => slice_from g o n c k hk hkc W, fun V C hV => ?_⟩
      rcases hV with h | ⟨g', o', e, hg, hcl⟩
      · rw [hn, h] at h0; simp at h0
      · obtain ⟨rfl, rfl⟩ : g = g' ∧ o = o' := by simpa using e
        refine .inr ⟨g, o + k, rfl, hg, fun i x hx => ?_⟩
        rw [List.getElem?_drop] at hx
        rw [Nat.add_assoc]
        exact hcl _ x hx
    · obtain rfl : k = c := by omega
      obtain rfl : k = n := by omega
      refine ⟨some ⟨g, o, none⟩, fun W => ?_, fun _ _ _ => .inl (List.drop_eq_nil_of_le (by omega))⟩
      obtain ⟨i, hi, hs⟩ := Option.map_eq_some_iff.1 Try.size5
      simp [Instr.sliceAt, Instr.sliceBounds, Instr.sureAddr, run_underlying Try.und22 W, sizeOf, typeInfo, hi, hs, go_sem]

set_option maxHeartbeats 1000000 in
theorem cloneT_any (w : World) (A : Option Addr) (b : List UInt8) (n c : Nat) (hn : n = b.length) (h0 : 0 < n) (hl : n ≤ 1048576) (hr : Rd w w.heap.size A b) :
    Calls Try.prog 28 #[.slice A n c] w fun e w' => ∃ g cp rest, e = .returned (.slice (some ⟨g, 0, none⟩) n cp) ∧ n ≤ cp ∧ w.heap.size ≤ g ∧ Blk w' g 5 (u8s b ++ rest) ∧ Below w.heap.size w w' := by
  have hne : ∃ p, A = some p := by
    rcases hr with h | ⟨g, o, e, _⟩
    · rw [hn, h] at h0; exact absurd h0 (by simp)
    · exact ⟨_, e⟩
  obtain ⟨p, rfl⟩ := hne
  have hO := own_made w w.heap.size 5 (Nat.le_refl _)
  have hb0 := below_alloc w (.cells #[] 5)
  obtain ⟨v1, w1, e1, ho1, hb1, _⟩ := app_rd (P := Try.prog) 22 22 Try.und22 Try.info5 hO (by rw [World.size_alloc]; omega) c (hr.below hb0) (by simp; omega)
  rw [List.nil_append] at ho1
  rw [← hn] at e1
  obtain ⟨g, cp, rest, rfl, hg, hcp, hB⟩ := ho1.blk (by omega)
  rw [← hn] at hcp e1
  have Hb1 := Lib.hid (hb0.trans hb1)
  have HB := Lib.hid hB
  have Hcp := Lib.hid hcp
  have Hg := Lib.hid hg
  have hq := run_eql_slice_nil (P := Try.prog) w 22 5 (some p) n c Try.und22
  rw [Option.isNone_some] at hq
  clear hO hb0 hb1 ho1 hg hcp hB hr hn
  go_enter Try.func28, Try.ntmps28
  go_wp2_with (at_builtin; refine wpList_append_run rfl (.tmp 5) (.tmp 6) _ rfl rfl rfl e1 ?_)
  go_ret
  exact ⟨g, cp, rest, rfl, Hcp.out, Hg.out, HB.out, Hb1.out⟩
end Go.Proofs.Ytjapohddfelgkaa
