/-
  The landed token: withToken and Encode: their contracts.
-/
import Derived.Test.YtjapohddfelgkaaTokGb
import Derived.Test.YtjapohddfelgkaaTokC
set_option maxRecDepth 100000
namespace Go.Proofs.Ytjapohddfelgkaa
open Go.RowKit Go.Gar

theorem encTG_len {t : Lz.Tok} (h : Lz.good t = true) : (Lz.encT t).length ≤ 129 := by
  have := (Lz.good_len h).2.2.2.2.1
  unfold Lz.encT
  split
  · simp
  · simp only [List.length_cons]; omega

set_option maxHeartbeats 2000000 in
theorem withToken_any (w : World) (base : Nat) (A : Option Addr) (x : List UInt8) (xl c : Nat) (t : Tv) (hO : OwnB w base 5 (.slice A xl c) x) (hxn : x.length = xl) (hbase : base ≤ w.heap.size) (hx : xl ≤ 20000000) (hg : Lz.good t.tok = true) (hlit : Rd w base t.A t.l) :
    Calls Try.prog 22 #[.slice A xl c, .agg t.cells.toArray] w fun e w' => ∃ v, e = .returned v ∧ OwnB w' base 5 v (x ++ Lz.encT t.tok) ∧ Below base w w' := by
  have hB2 : Blk (w.alloc (.cells t.cells.toArray 41)) w.heap.size 41 t.cells := Blk.new w 41 t.cells
  have hb2 := below_alloc w (.cells t.cells.toArray 41)
  obtain ⟨w2, hw2⟩ : ∃ w2, w.alloc (.cells t.cells.toArray 41) = w2 := ⟨_, rfl⟩
  have hO2 := hO.alloc (.cells t.cells.toArray 41)
  rw [hw2] at hB2 hb2 hO2
  have hbw2 : Below base w w2 := hb2.mono hbase
  obtain ⟨ln, hln⟩ : ∃ ln, t.l.length = ln := ⟨_, rfl⟩
  have hcells : t.cells = [.slice t.A ln t.c, .int .i64 t.n, .int .i64 t.d] := by rw [← hln]; rfl
  rw [hcells] at hw2 ⊢
  have c0 := hB2.cell 0
  have c1 := hB2.cell 1
  have c2 := hB2.cell 2
  rw [hcells] at c0 c1 c2
  have k0 : w2.cell? ⟨w.heap.size, 0, none⟩ = some (.slice t.A ln t.c) := c0
  have k1 : w2.cell? ⟨w.heap.size, 1, none⟩ = some (.int .i64 t.n) := c1
  have k2 : w2.cell? ⟨w.heap.size, 2, none⟩ = some (.int .i64 t.d) := c2
  clear c0 c1 c2
  obtain ⟨gT, hgT⟩ : ∃ g, w.heap.size = g := ⟨_, rfl⟩
  rw [hgT] at hB2 k0 k1 k2
  have HW2 := Lib.hid hw2
  have HO2 := Lib.hid hO2
  have HB2 := Lib.hid hB2
  have Hbw2 := Lib.hid hbw2
  have HXn := Lib.hid hxn
  have HLn := Lib.hid hln
  have HLit := Lib.hid (hlit.below hbw2)
  have HBs : Hid (base ≤ w2.heap.size) := Lib.hid (Nat.le_trans hbase hb2.size)
  have HGT := Lib.hid hgT
  have hcs := Lz.good_cases hg
  clear hw2 hO2 hB2 hb2 hbw2 hxn hln hlit hO hbase hcells hgT
  rcases hcs with ⟨nn, dn, htk, g1, g2, g3, g4⟩ | ⟨lt, htk, g1, g2⟩
  · have hnn : t.n = (nn : Int) := congrArg Lz.Tok.len htk
    have hdn : t.d = (dn : Int) := congrArg Lz.Tok.dist htk
    obtain rfl : ln = 0 := by rw [← HLn.out, show t.l = [] from congrArg Lz.Tok.lit htk]; rfl
    rw [hnn] at k1 HW2 ⊢
    rw [hdn] at k2 HW2 ⊢
    rw [htk, Lz.encT_match g2 g3]
    have HTk := Lib.hid htk
    clear hnn hdn htk
    have d1 : 0 < nn := by omega
    have e1 : ((UInt8.ofNat (nn + 125)).toNat : Int) = (nn : Int) - 3 + 128 := by rw [Lz.nat8 (by omega)]; omega
    have e2 : ((UInt8.ofNat ((dn - 1) / 256)).toNat : Int) = ((dn : Int) - 1) / 256 := by rw [Lz.nat8 (by omega)]; omega
    have e3 : ((UInt8.ofNat ((dn - 1) % 256)).toNat : Int) = ((dn : Int) - 1) % 256 := by rw [Lz.nat8 (by omega)]; omega
    have hq : (#[.int .u8 ((nn : Int) - 3 + 128), .int .u8 (((dn : Int) - 1) / 256), .int .u8 (((dn : Int) - 1) % 256)] : Array Value) = (u8s [UInt8.ofNat (nn + 125), UInt8.ofNat ((dn - 1) / 256), UInt8.ofNat ((dn - 1) % 256)]).toArray := by
      rw [← e1, ← e2, ← e3]; rfl
    have hal := below_alloc w2 (.cells #[.int .u8 ((nn : Int) - 3 + 128), .int .u8 (((dn : Int) - 1) / 256), .int .u8 (((dn : Int) - 1) % 256)] 5)
    have hBn : Blk (w2.alloc (.cells #[.int .u8 ((nn : Int) - 3 + 128), .int .u8 (((dn : Int) - 1) / 256), .int .u8 (((dn : Int) - 1) % 256)] 5)) w2.heap.size 5 (u8s [UInt8.ofNat (nn + 125), UInt8.ofNat ((dn - 1) / 256), UInt8.ofNat ((dn - 1) % 256)]) := by
      rw [hq]; exact Blk.new w2 _ _
    obtain ⟨v3, w3, e4, hO3, hb3, _⟩ := app_rd (P := Try.prog) 22 22 Try.und22 Try.info5 (HO2.out.alloc (.cells #[.int .u8 ((nn : Int) - 3 + 128), .int .u8 (((dn : Int) - 1) / 256), .int .u8 (((dn : Int) - 1) % 256)] 5)) (Nat.le_trans HBs.out hal.size) 3 (Rd.of_all hBn) (by rw [HXn.out]; simp; omega)
    have He4 := Lib.hid e4
    have HO3 := Lib.hid hO3
    have Hb3 := Lib.hid (Hbw2.out.trans ((hal.mono HBs.out).trans hb3))
    clear e1 e2 e3 hq hal hBn e4 hO3 hb3
    go_enter Try.func22, Try.ntmps22
    go_wp2_with (first | rw [HW2.out, HGT.out] | (at_builtin; refine wpList_append_run rfl (.tmp 30) (.tmp 41) _ rfl rfl rfl He4.out ?_))
    go_ret
    exact ⟨_, rfl, HO3.out, Hb3.out⟩
  · have hll : t.l = lt := congrArg Lz.Tok.lit htk
    rw [hll] at HLn HLit
    rw [htk, Lz.encT_lit g1, HLn.out]
    have hl1 : 0 < ln := by rw [← HLn.out]; exact g1
    have hl128 : ln ≤ 128 := by rw [← HLn.out]; exact g2
    have HTl := Lib.hid hll
    have e1 : ((UInt8.ofNat (ln - 1)).toNat : Int) = (ln : Int) - 1 := by rw [Lz.nat8 (by omega)]; omega
    have hq : (#[.int .u8 ((ln : Int) - 1)] : Array Value) = (u8s [UInt8.ofNat (ln - 1)]).toArray := by rw [← e1]; rfl
    have hal := below_alloc w2 (.cells #[.int .u8 ((ln : Int) - 1)] 5)
    have hBn : Blk (w2.alloc (.cells #[.int .u8 ((ln : Int) - 1)] 5)) w2.heap.size 5 (u8s [UInt8.ofNat (ln - 1)]) := by
      rw [hq]; exact Blk.new w2 _ _
    have hOa := HO2.out.alloc (.cells #[.int .u8 ((ln : Int) - 1)] 5)
    obtain ⟨v3, w3, e4, hO3, hb3, hg3⟩ := app_rd (P := Try.prog) 22 22 Try.und22 Try.info5 hOa (Nat.le_trans HBs.out hal.size) 1 (Rd.of_all hBn) (by rw [HXn.out]; simp; omega)
    have hB3 := (HB2.out.alloc (.cells #[.int .u8 ((ln : Int) - 1)] 5)).grown hg3 (own_ne hOa (HB2.out.alloc _) (by decide))
    have hbw23 := (hal.mono HBs.out).trans hb3
    have q0 := hB3.cell 0
    rw [show t.cells[0]? = some (.slice t.A t.l.length t.c) from rfl, hll, HLn.out] at q0
    obtain ⟨v5, w5, e5, hO5, hb5, _⟩ := app_rd (P := Try.prog) 22 22 Try.und22 Try.info5 hO3 (Nat.le_trans HBs.out hbw23.size) t.c (HLit.out.below hbw23) (by rw [List.length_append, HXn.out, HLn.out]; simp; omega)
    rw [HLn.out] at e5
    rw [List.append_assoc, List.singleton_append] at hO5
    have He4 := Lib.hid e4
    have He5 := Lib.hid e5
    have HO5 := Lib.hid hO5
    have Hb5 := Lib.hid (Hbw2.out.trans (hbw23.trans hb5))
    have hl2 : 0 < ln := hl1
    clear e1 hq hal hBn hOa e4 hO3 hb3 hg3 hB3 hbw23 e5 hO5 hb5 hll htk
    go_enter Try.func22, Try.ntmps22
    go_wp2_with (first | rw [HW2.out, HGT.out] | (at_builtin; first | refine wpList_append_run rfl (.tmp 11) (.tmp 17) _ rfl rfl rfl He4.out ?_ | refine wpList_append_run rfl (.tmp 19) (.tmp 21) _ rfl rfl rfl He5.out ?_))
    go_ret
    exact ⟨_, rfl, HO5.out, Hb5.out⟩
end Go.Proofs.Ytjapohddfelgkaa
