/-
  The reference of layer 13: Pack: its contract.
-/
import Derived.Test.YtjapohddfelgkaaTokRefEj
import Derived.Test.YtjapohddfelgkaaPackJ06
import Derived.Test.YtjapohddfelgkaaPackJ07
set_option maxRecDepth 100000
namespace Go.Proofs.Ytjapohddfelgkaa
open Go.RowKit Go.Gar

set_option maxHeartbeats 2000000 in
theorem refPack_any (A : Option Addr) (b : List UInt8) (n c : Nat) (w : World) (hn : n = b.length) (hr : Rd w w.heap.size A b) (hl : n ≤ 100000) (E : Nat) (O : List UInt8) (hE : Lz.packB b = (E, O)) :
    Calls Try.prog 8 #[.slice A n c] w fun e w' => ∃ v, e = .returned (.tuple #[v, .int .i64 ((E : Nat) : Int)]) ∧ OwnB w' w.heap.size 5 v O ∧ Below w.heap.size w w' := by
  have HN := Lib.hid hn
  have HR := Lib.hid hr
  by_cases h1 : 1024 < n
  · have h1' : (1024 : Int) < (n : Int) := by omega
    obtain ⟨rfl, rfl⟩ : 2 = E ∧ [] = O := by
      unfold Lz.packB at hE
      rw [if_pos (by rw [← hn]; exact h1)] at hE
      simpa using hE
    clear hn hr hE
    go_enter Try.func8, Try.ntmps8
    go_wp2
    go_ret2
    exact ⟨_, rfl, World.ownsRow_nil _ _ _ _, Below.refl _ _⟩
  · have h1' : ¬ (1024 : Int) < (n : Int) := by omega
    unfold Lz.packB at hE
    rw [if_neg (by rw [← hn]; exact h1), ← hn] at hE
    obtain ⟨X, hX⟩ : ∃ X, (Lz.encode (Lz.tokens b)).2 = X := ⟨_, rfl⟩
    rw [hX] at hE
    obtain ⟨xn, hxn⟩ : ∃ xn, X.length = xn := ⟨_, rfl⟩
    rw [hxn] at hE
    have hbnd : xn ≤ 200000 := by
      rw [← hxn, ← hX, Lz.encode_tokens]
      have h2 : ∀ l : List Lz.Tok, (∀ t ∈ l, Lz.good t = true) → (l.flatMap Lz.encT).length ≤ 129 * l.length := by
        intro l
        induction l with
        | nil => intro _; simp
        | cons t l ih =>
          intro h
          rw [List.flatMap_cons, List.length_append, List.length_cons]
          have := ih (fun s hs => h s (by simp [hs]))
          have := Lz.encT_len (h t (by simp))
          omega
      have := h2 _ (Lz.tokens_inv b).gd
      have := Lz.tokens_len b
      simp only
      omega
    have HE := Lib.hid hE
    have HX := Lib.hid hX
    have HXn := Lib.hid hxn
    clear hn hr hE hX hxn
    go_enter Try.func8, Try.ntmps8
    go_wp2_with fail
    refine (refTokens_any A b n c w HN.out HR.out hl).mono ?_
    rintro e w1 ⟨v1, ts, rfl, hO1, ht1, hb1⟩
    obtain ⟨A1, c1, rfl, hc1, hr1⟩ := hO1.slice
    obtain ⟨n1, hn1⟩ : ∃ n1, ts.length = n1 := ⟨_, rfl⟩
    have hle : n1 ≤ 1024 := by
      rw [← hn1, ← toks_len ts, ht1]
      have := Lz.tokens_len b
      have := HN.out
      omega
    rw [hn1]
    have Hn1 := Lib.hid hn1
    have HR1 := Lib.hid hr1
    have HT1 := Lib.hid ht1
    have Hb1 := Lib.hid hb1
    clear hO1 hn1 hr1 ht1 hb1 hc1
    go_wp2_with fail
    refine (refEncode_any A1 ts n1 c1 w1 Hn1.out.symm HR1.out (by omega) 0 X (by rw [HT1.out]; exact Prod.ext (by rw [Lz.encode_tokens]) HX.out)).mono ?_
    rintro e w2 ⟨v2, rfl, hO2, hb2⟩
    obtain ⟨A2, c2, rfl, hr2⟩ := hO2.rd
    rw [HXn.out]
    have Hb2 := bb Hb1 hb2
    have HR2 := Lib.hid hr2
    clear hO2 hr2 hb2 HR1 Hb1
    by_cases h3 : n ≤ xn
    · have h3' : (n : Int) ≤ (xn : Int) := by omega
      obtain ⟨rfl, rfl⟩ : 0 = E ∧ 0 :: b = O := by
        have := HE.out
        rw [if_pos h3] at this
        simpa using this
      have hq : Blk (w2.alloc (.cells #[.int .u8 0] 5)) w2.heap.size 5 (u8s [0]) := Blk.new w2 5 (u8s [0])
      have hal := below_alloc w2 (.cells #[.int .u8 0] 5)
      have hown : OwnB (w2.alloc (.cells #[.int .u8 0] 5)) w2.heap.size 5 (.slice (some ⟨w2.heap.size, 0, none⟩) 1 1) [0] :=
        World.ownsRow_lit (base := w2.heap.size) (e := 5) (size := 1) w2 #[.int .u8 0] 1 (Nat.le_refl _) (by simp [maxLen]) (by simp)
      obtain ⟨v3, w3, e3, hO3, hb3, _⟩ := app_rd (P := Try.prog) 22 22 Try.und22 Try.info5 hown hal.size c (((HR.out.below Hb2.out).more Hb2.out.size).below hal) (by rw [← HN.out]; simp; omega)
      rw [← HN.out] at e3
      have He3 := Lib.hid e3
      have hO3' : OwnB w3 w.heap.size 5 v3 (0 :: b) := by
        have : OwnB w3 w2.heap.size 5 v3 (0 :: b) := hO3
        refine ⟨this.1, ?_⟩
        rcases this.2 with hx | ⟨g, cp, cur, h1, h2, h4⟩
        · exact .inl hx
        · exact .inr ⟨g, cp, cur, h1, Nat.le_trans Hb2.out.size h2, h4⟩
      have HO3 := Lib.hid hO3'
      have Hb3 := Lib.hid (Hb2.out.trans ((hal.trans hb3).mono Hb2.out.size))
      clear hq hal hown e3 hO3 hO3' hb3 HR2
      go_wp2_with (at_builtin; refine wpList_append_run rfl (.tmp 20) (.tmp 21) _ rfl rfl rfl He3.out ?_)
      go_ret2
      exact ⟨_, rfl, HO3.out, Hb3.out⟩
    · have h3' : ¬ (n : Int) ≤ (xn : Int) := by omega
      obtain ⟨rfl, rfl⟩ : 0 = E ∧ 1 :: X = O := by
        have := HE.out
        rw [if_neg h3] at this
        simpa using this
      have hal := below_alloc w2 (.cells #[.int .u8 1] 5)
      have hown : OwnB (w2.alloc (.cells #[.int .u8 1] 5)) w2.heap.size 5 (.slice (some ⟨w2.heap.size, 0, none⟩) 1 1) [1] :=
        World.ownsRow_lit (base := w2.heap.size) (e := 5) (size := 1) w2 #[.int .u8 1] 1 (Nat.le_refl _) (by simp [maxLen]) (by simp)
      obtain ⟨v3, w3, e3, hO3, hb3, _⟩ := app_rd (P := Try.prog) 22 22 Try.und22 Try.info5 hown hal.size c2 (HR2.out.below hal) (by rw [HXn.out]; simp; omega)
      rw [HXn.out] at e3
      have He3 := Lib.hid e3
      have hO3' : OwnB w3 w.heap.size 5 v3 (1 :: X) := by
        have : OwnB w3 w2.heap.size 5 v3 (1 :: X) := hO3
        refine ⟨this.1, ?_⟩
        rcases this.2 with hx | ⟨g, cp, cur, h1, h2, h4⟩
        · exact .inl hx
        · exact .inr ⟨g, cp, cur, h1, Nat.le_trans Hb2.out.size h2, h4⟩
      have HO3 := Lib.hid hO3'
      have Hb3 := Lib.hid (Hb2.out.trans ((hal.trans hb3).mono Hb2.out.size))
      clear hal hown e3 hO3 hO3' hb3 HR2
      go_wp2_with (at_builtin; refine wpList_append_run rfl (.tmp 23) (.tmp 24) _ rfl rfl rfl He3.out ?_)
      go_ret2
      exact ⟨_, rfl, HO3.out, Hb3.out⟩
end Go.Proofs.Ytjapohddfelgkaa
