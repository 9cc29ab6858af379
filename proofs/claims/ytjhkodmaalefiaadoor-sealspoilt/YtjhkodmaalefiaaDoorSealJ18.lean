/-
  The reference's Of of layer 5: its loop over the words of a block. The reference's Of of layer 5: its loop over the 64 rounds of a block.
-/
import Derived.Test.YtjhkodmaalefiaaDoorSealJ17
import Derived.Test.YtjhkodmaalefiaaDoorSealJ05
set_option maxRecDepth 100000
namespace Go.Proofs.YtjhkodmaalefiaaDoor
open Go.RowKit Go.Gar

set_option maxHeartbeats 4000000 in
set_option maxRecDepth 100000 in
theorem shaL2 {c0 c1 c2 c3 c4 c5 c10 c11 c12 c13 c14 c15 c16 c17 c18 c19 c20 c21 c22 c23 c24 c25 c26 c27 c28 c29 c30 c31 c32 c33 c34 c35 c36 c37 c38 c39 c40 c41 c42 c43 c44 c45 c46 c47 c48 c49 c50 c51 c52 c53 c54 c55 c56 c57 c58 c59 c60 c61 c62 c63 c64 c65 c66 c67 c68 c69 c70 c71 c72 c73 c74 c75 c76 c77 c78 c79 c80 c81 c82 c83 c84 c85 c86 c87 c88 c89 c90 c91 c92 c93 c94 c95 c96 c97 c98 c99 c100 c101 c102 c103 c104 c105 c106 c107 c108 c109 c110 c111 c112 c113 c114 c115 c116 c117 c118 c119 c120 c121 c122 c123 c124 c125 c126 c127 c128 c129 c130 c131 c132 c133 c134 c135 c136 c137 c138 c139 c140 c141 c142 c143 c144 c145 c146 c147 c148 c149 c150 c151 c152 c153 c154 c155 c156 c157 c158 c159 c160 c161 c162 c163 c164 c165 c166 c167 c168 c169 c170 c171 c172 c173 c174 c175 c176 c177 c178 c179 c180 c181 c182 c183 c184 c185 c186 c187 c188 c189 c190 c191 c192 c193 c194 c195 c196 c197 c198 c199 c200 c201 c202 c203 c204 c205 c206 c207 c208 c209 c210 c211 c212 c213 c214 c215 c216 c217 c218 c219 c220 c221 c222 c223 c224 c225 c226 c227 c228 c229 c230 c231 c232 c233 c234 c235 c236 c237 c238 c239 c240 c241 c242 c243 c244 c245 c246 c247 c248 c249 c250 c251 c252 c253 c254 c255 c256 c257 c258 c259 c260 c261 c262 c263 c264 c265 c266 c267 c268 : Value} {Q0 : Exit → Act → World → Prop} {w0 wi : World} {gm M cm p : Nat} {m : List UInt8} {restm : List Value} {v0 : Value}
    (hpan : ∀ (c : List PanicEntry) (a : Act) (d : Tmp) (v : Value) (w : World), Q0 (.panic c) (a.put (some d) v) w → Q0 (.panic c) a w)
    (hM : M = m.length) (hp : p + 64 ≤ m.length) (hlen : m.length ≤ 1048700) (hm : Blk w0 gm 5 (u8s m ++ restm)) (hO0 : OwnV wi w0.heap.size 58 v0 (u32s (Sha.wK m p 0))) (hb0 : Below w0.heap.size w0 wi)
    (hexit : ∀ (u9 u10 u11 u12 u13 u14 u43 u44 u45 u46 u47 u48 u49 u50 u51 u52 u53 u54 u55 u56 u57 u58 u59 u60 u61 u62 u63 u64 u65 u66 u67 u68 u69 u70 u71 u72 u73 u74 u75 u76 u77 u78 u79 u80 u81 u82 u83 u84 u85 u86 u87 u88 u89 u90 u91 u92 u93 u94 u95 u96 u97 u98 u99 u100 u101 u102 u103 u104 u105 u106 u107 u108 u109 u110 u111 u112 u113 u114 u115 u116 u117 u118 u119 u120 u121 u122 u123 u124 u125 u126 u127 u128 : Value) (v : Value) (w' : World), OwnV w' w0.heap.size 58 v (u32s (Sha.wK m p 64)) → Below w0.heap.size w0 w' → Q0 (.exit 2) { tmps := List.toArray (c0 :: c1 :: c2 :: c3 :: c4 :: c5 :: (.slice (some ⟨gm, 0, none⟩) M cm) :: (.int .i64 (p : Int)) :: (v) :: u9 :: u10 :: u11 :: u12 :: u13 :: u14 :: c15 :: c16 :: c17 :: c18 :: c19 :: c20 :: c21 :: c22 :: c23 :: c24 :: c25 :: c26 :: c27 :: c28 :: c29 :: c30 :: c31 :: c32 :: c33 :: c34 :: c35 :: c36 :: c37 :: c38 :: c39 :: c40 :: c41 :: c42 :: u43 :: u44 :: u45 :: u46 :: u47 :: u48 :: u49 :: u50 :: u51 :: u52 :: u53 :: u54 :: u55 :: u56 :: u57 :: u58 :: u59 :: u60 :: u61 :: u62 :: u63 :: u64 :: u65 :: u66 :: u67 :: u68 :: u69 :: u70 :: u71 :: u72 :: u73 :: u74 :: u75 :: u76 :: u77 :: u78 :: u79 :: u80 :: u81 :: u82 :: u83 :: u84 :: u85 :: u86 :: u87 :: u88 :: u89 :: u90 :: u91 :: u92 :: u93 :: u94 :: u95 :: u96 :: u97 :: u98 :: u99 :: u100 :: u101 :: u102 :: u103 :: u104 :: u105 :: u106 :: u107 :: u108 :: u109 :: u110 :: u111 :: u112 :: u113 :: u114 :: u115 :: u116 :: u117 :: u118 :: u119 :: u120 :: u121 :: u122 :: u123 :: u124 :: u125 :: u126 :: u127 :: u128 :: c129 :: c130 :: c131 :: c132 :: c133 :: c134 :: c135 :: c136 :: c137 :: c138 :: c139 :: c140 :: c141 :: c142 :: c143 :: c144 :: c145 :: c146 :: c147 :: c148 :: c149 :: c150 :: c151 :: c152 :: c153 :: c154 :: c155 :: c156 :: c157 :: c158 :: c159 :: c160 :: c161 :: c162 :: c163 :: c164 :: c165 :: c166 :: c167 :: c168 :: c169 :: c170 :: c171 :: c172 :: c173 :: c174 :: c175 :: c176 :: c177 :: c178 :: c179 :: c180 :: c181 :: c182 :: c183 :: c184 :: c185 :: c186 :: c187 :: c188 :: c189 :: c190 :: c191 :: c192 :: c193 :: c194 :: c195 :: c196 :: c197 :: c198 :: c199 :: c200 :: c201 :: c202 :: c203 :: c204 :: c205 :: c206 :: c207 :: c208 :: c209 :: c210 :: c211 :: c212 :: c213 :: c214 :: c215 :: c216 :: c217 :: c218 :: c219 :: c220 :: c221 :: c222 :: c223 :: c224 :: c225 :: c226 :: c227 :: c228 :: c229 :: c230 :: c231 :: c232 :: c233 :: c234 :: c235 :: c236 :: c237 :: c238 :: c239 :: c240 :: c241 :: c242 :: c243 :: c244 :: c245 :: c246 :: c247 :: c248 :: c249 :: c250 :: c251 :: c252 :: c253 :: c254 :: c255 :: c256 :: c257 :: c258 :: c259 :: c260 :: c261 :: c262 :: c263 :: c264 :: c265 :: c266 :: c267 :: c268 :: []), defers := [] } w') :
    Code.wp Tryd.prog (.loop (shaLoop 1)) Q0 { tmps := List.toArray (c0 :: c1 :: c2 :: c3 :: c4 :: c5 :: (.slice (some ⟨gm, 0, none⟩) M cm) :: (.int .i64 (p : Int)) :: (v0) :: (.int .i64 0) :: c10 :: c11 :: c12 :: c13 :: c14 :: c15 :: c16 :: c17 :: c18 :: c19 :: c20 :: c21 :: c22 :: c23 :: c24 :: c25 :: c26 :: c27 :: c28 :: c29 :: c30 :: c31 :: c32 :: c33 :: c34 :: c35 :: c36 :: c37 :: c38 :: c39 :: c40 :: c41 :: c42 :: c43 :: c44 :: c45 :: c46 :: c47 :: c48 :: c49 :: c50 :: c51 :: c52 :: c53 :: c54 :: c55 :: c56 :: c57 :: c58 :: c59 :: c60 :: c61 :: c62 :: c63 :: c64 :: c65 :: c66 :: c67 :: c68 :: c69 :: c70 :: c71 :: c72 :: c73 :: c74 :: c75 :: c76 :: c77 :: c78 :: c79 :: c80 :: c81 :: c82 :: c83 :: c84 :: c85 :: c86 :: c87 :: c88 :: c89 :: c90 :: c91 :: c92 :: c93 :: c94 :: c95 :: c96 :: c97 :: c98 :: c99 :: c100 :: c101 :: c102 :: c103 :: c104 :: c105 :: c106 :: c107 :: c108 :: c109 :: c110 :: c111 :: c112 :: c113 :: c114 :: c115 :: c116 :: c117 :: c118 :: c119 :: c120 :: c121 :: c122 :: c123 :: c124 :: c125 :: c126 :: c127 :: c128 :: c129 :: c130 :: c131 :: c132 :: c133 :: c134 :: c135 :: c136 :: c137 :: c138 :: c139 :: c140 :: c141 :: c142 :: c143 :: c144 :: c145 :: c146 :: c147 :: c148 :: c149 :: c150 :: c151 :: c152 :: c153 :: c154 :: c155 :: c156 :: c157 :: c158 :: c159 :: c160 :: c161 :: c162 :: c163 :: c164 :: c165 :: c166 :: c167 :: c168 :: c169 :: c170 :: c171 :: c172 :: c173 :: c174 :: c175 :: c176 :: c177 :: c178 :: c179 :: c180 :: c181 :: c182 :: c183 :: c184 :: c185 :: c186 :: c187 :: c188 :: c189 :: c190 :: c191 :: c192 :: c193 :: c194 :: c195 :: c196 :: c197 :: c198 :: c199 :: c200 :: c201 :: c202 :: c203 :: c204 :: c205 :: c206 :: c207 :: c208 :: c209 :: c210 :: c211 :: c212 :: c213 :: c214 :: c215 :: c216 :: c217 :: c218 :: c219 :: c220 :: c221 :: c222 :: c223 :: c224 :: c225 :: c226 :: c227 :: c228 :: c229 :: c230 :: c231 :: c232 :: c233 :: c234 :: c235 :: c236 :: c237 :: c238 :: c239 :: c240 :: c241 :: c242 :: c243 :: c244 :: c245 :: c246 :: c247 :: c248 :: c249 :: c250 :: c251 :: c252 :: c253 :: c254 :: c255 :: c256 :: c257 :: c258 :: c259 :: c260 :: c261 :: c262 :: c263 :: c264 :: c265 :: c266 :: c267 :: c268 :: []), defers := [] } wi := by
  conv => arg 2; arg 1; whnf
  have HO2 := Lib.hid hO0
  have Hb2 := Lib.hid hb0
  have HX := Lib.hid hexit
  have Hm := Lib.hid hm
  have HMl := Lib.hid hM
  clear hO0 hb0 hexit hm hM
  go_loopw [8, 9] (fun v i w' => ∃ t : Nat, t ≤ 64 ∧ i = .int .i64 (t : Int) ∧ OwnV w' w0.heap.size 58 v (u32s (Sha.wK m p t)) ∧ Below w0.heap.size w0 w') (fun _ i _ => 64 - (intOf i).toNat)
  case atStart => exact ⟨0, by omega, rfl, HO2.out, Hb2.out⟩
  case round =>
    obtain ⟨t, ht, rfl, hO, hb⟩ := hrel
    clear HO2 Hb2
    have HO := Lib.hid hO
    have HB := Lib.hid hb
    have hmr := Hm.out.below hb Hm.out.lt
    have Hmr := Lib.hid hmr
    clear hO hb hmr
    by_cases hlt : t < 64
    · by_cases h16 : t < 16
      · have hd16 : decide ((t : Int) < 16) = true := by simp; omega
        have q0 := byte_at Hmr.out.drew (k := p + 4 * t) (by omega)
        have q1 := byte_at Hmr.out.drew (k := p + 4 * t + 1) (by omega)
        have q2 := byte_at Hmr.out.drew (k := p + 4 * t + 2) (by omega)
        have q3 := byte_at Hmr.out.drew (k := p + 4 * t + 3) (by omega)
        have HQ0 := Lib.hid q0
        have HQ1 := Lib.hid q1
        have HQ2 := Lib.hid q2
        have HQ3 := Lib.hid q3
        clear q0 q1 q2 q3
        go_wp2
        refine wp_region_G (turnsB wr.drew.heap.size u8.ownBlock) (by kernel_rfl) ?_
        have HOd : Hid (OwnV wr.drew w0.heap.size 58 u8 (u32s (Sha.wK m p t))) := Lib.hid HO.out
        have HBd := Lib.hid HB.out.drew
        clear HO HB Hmr
        generalize wr.drew = wa at *
        have hne : ∀ g, g < w0.heap.size → some g ≠ u8.ownBlock := fun g hg h => by have := (HOd.out.lt h.symm).1; omega
        have hgm := Hm.out.lt
        have hsz := HBd.out.size
        have q0 := addr_turnsB (B := wa.heap.size) HQ0.out (by omega) (hne _ hgm)
        have q1 := addr_turnsB (B := wa.heap.size) HQ1.out (by omega) (hne _ hgm)
        have q2 := addr_turnsB (B := wa.heap.size) HQ2.out (by omega) (hne _ hgm)
        have q3 := addr_turnsB (B := wa.heap.size) HQ3.out (by omega) (hne _ hgm)
        have hM : p + 4 * t + 3 < M := by rw [HMl.out]; omega
        have b0 := Sha.at8_lt m (p + 4 * t)
        have b1 := Sha.at8_lt m (p + 4 * t + 1)
        have b2 := Sha.at8_lt m (p + 4 * t + 2)
        have b3 := Sha.at8_lt m (p + 4 * t + 3)
        have HW : Hid (Sha.wStep m p (Sha.wK m p t) t = Sha.word m (p + 4 * t)) := Lib.hid (if_pos h16)
        have HWd : Hid (Sha.word m (p + 4 * t) = Sha.at8 m (p + 4 * t) * 16777216 + Sha.at8 m (p + 4 * t + 1) * 65536 + Sha.at8 m (p + 4 * t + 2) * 256 + Sha.at8 m (p + 4 * t + 3)) := Lib.hid rfl
        generalize Sha.at8 m (p + 4 * t) = x0 at *
        generalize Sha.at8 m (p + 4 * t + 1) = x1 at *
        generalize Sha.at8 m (p + 4 * t + 2) = x2 at *
        generalize Sha.at8 m (p + 4 * t + 3) = x3 at *
        refine segG (by kernel_rfl) (by intro c a d v w h; exact hpan c a d v w h) [0, 1, 2, 3, 4, 5, 6, 7, 8, 9] [_, _, _, _, _, _, _, _, _, _] 23 rfl rfl (by kernel_rfl) ?_
        repeat (go_big_quiet_step (fail))
        refine wpQuiet_nil ?_
        refine segG (by kernel_rfl) (by intro c a d v w h; exact hpan c a d v w h) [10, 11, 12, 13, 14, 15, 16, 17, 18, 19] [_, _, _, _, _, _, _, _, _, _] 13 rfl rfl (by kernel_rfl) ?_
        repeat (go_big_quiet_step (fail))
        refine wpQuiet_nil ?_
        refine segG (by kernel_rfl) (by intro c a d v w h; exact hpan c a d v w h) [20, 21, 22, 23, 24, 25, 26, 27, 28, 29] [_, _, _, _, _, _, _, _, _, _] 3 rfl rfl (by kernel_rfl) ?_
        repeat (go_big_quiet_step (fail))
        refine wpQuiet_nil ?_
        clear q0 q1 q2 q3 HQ0 HQ1 HQ2 HQ3
        obtain ⟨v', w3, h1, h2, h3, h4, h5⟩ := appV_one (P := Tryd.prog) 33 33 Tryd.undU32s Tryd.infoU32 rfl HOd.out HBd.out.size (.int .u32 ((x0 : Int) * 16777216 + (x1 : Int) * 65536 + (x2 : Int) * 256 + (x3 : Int))) rfl (by rw [u32s_len, Sha.wK_len]; omega) (by omega)
        have H2 : Hid (OwnV w3 w0.heap.size 58 v' (u32s (Sha.wK m p (t + 1)))) := Lib.hid (by
          rw [Sha.wK, u32s_app, HW.out, HWd.out]
          have e : u32s [x0 * 16777216 + x1 * 65536 + x2 * 256 + x3] = [Value.int .u32 ((x0 : Int) * 16777216 + (x1 : Int) * 65536 + (x2 : Int) * 256 + (x3 : Int))] := by simp [u32s]
          rw [e]; exact h2)
        have H3 := Lib.hid (HBd.out.trans h3)
        have R5 := Lib.hid (turnsB_grown (B := wa.heap.size) h5 (by rw [World.size_alloc]; omega))
        clear h2 h3 h4 h5 HW HWd
        refine oneG 30 2 rfl (by kernel_rfl) rfl ?_
        go_wp2
        refine ⟨turnsB_below (below_alloc _ _), ?_⟩
        refine oneG 31 1 rfl (by kernel_rfl) rfl ?_
        go_wp2_with (at_builtin; refine wpList_append_run rfl (.tmp 53) (.tmp 83) _ rfl rfl rfl h1 ?_)
        refine ⟨R5.out, ?_⟩
        clear h1 R5
        simp only [Act.put, List.setIfInBounds_toArray, List.set]
        refine segG (by kernel_rfl) (by intro c a d v w h; exact hpan c a d v w h) [32] [_] 0 rfl rfl (by kernel_rfl) ?_
        repeat (go_big_quiet_step (fail))
        refine wpQuiet_nil ?_
        refine wpAnyG_done (by kernel_rfl) ?_
        go_wp2
        exact ⟨⟨t + 1, by omega, by go_num, H2.out, H3.out⟩, by simp [intOf]; omega⟩
      · have hd16 : decide ((t : Int) < 16) = false := by simp; omega
        have hwl := Sha.wK_len m p t
        obtain ⟨gw, cw, restw, rfl, hgw, -, hBw⟩ := HO.out.blk (by rw [u32s_len, hwl]; omega)
        have hlw : (u32s (Sha.wK m p t)).length = t := by rw [u32s_len, hwl]
        rw [hlw] at HO ⊢
        have z2 : ((t : Int) - 2).toNat = t - 2 := by omega
        have z7 : ((t : Int) - 7).toNat = t - 7 := by omega
        have z15 : ((t : Int) - 15).toNat = t - 15 := by omega
        have z16 : ((t : Int) - 16).toNat = t - 16 := by omega
        have q2 := word_at hBw.drew (k := t - 2) (by omega)
        have q7 := word_at hBw.drew.drew (k := t - 7) (by omega)
        have q15 := word_at hBw.drew (k := t - 15) (by omega)
        have q16 := word_at hBw.drew.drew (k := t - 16) (by omega)
        have l2 := Sha.getD_lt (Sha.wK_lt m p t) (t - 2)
        have l7 := Sha.getD_lt (Sha.wK_lt m p t) (t - 7)
        have l15 := Sha.getD_lt (Sha.wK_lt m p t) (t - 15)
        have l16 := Sha.getD_lt (Sha.wK_lt m p t) (t - 16)
        have HW : Hid (Sha.wStep m p (Sha.wK m p t) t = (Sha.s1 ((Sha.wK m p t).getD (t - 2) 0) + (Sha.wK m p t).getD (t - 7) 0 + Sha.s0 ((Sha.wK m p t).getD (t - 15) 0) + (Sha.wK m p t).getD (t - 16) 0) % 4294967296) := Lib.hid (if_neg h16)
        generalize (Sha.wK m p t).getD (t - 2) 0 = x2 at *
        generalize (Sha.wK m p t).getD (t - 7) 0 = x7 at *
        generalize (Sha.wK m p t).getD (t - 15) 0 = x15 at *
        generalize (Sha.wK m p t).getD (t - 16) 0 = x16 at *
        have HQ2 := Lib.hid q2
        have HQ7 := Lib.hid q7
        have HQ15 := Lib.hid q15
        have HQ16 := Lib.hid q16
        have HBw := Lib.hid hBw
        clear q2 q7 q15 q16 hwl hlw hBw Hmr
        go_wp2
        refine wp_region_G grows (by kernel_rfl) ?_
        have q2 : ∀ x : Later grows wr.drew, x.to.cell? ⟨gw, t - 2, none⟩ = some (.int .u32 (x2 : Int)) := fun x => by
          have hb : Below wr.drew.heap.size wr.drew x.to := x.grown
          exact (hb.cell (p := ⟨gw, t - 2, none⟩) HBw.out.lt).trans HQ2.out
        have q15 : ∀ x : Later grows wr.drew, x.to.cell? ⟨gw, t - 15, none⟩ = some (.int .u32 (x15 : Int)) := fun x => by
          have hb : Below wr.drew.heap.size wr.drew x.to := x.grown
          exact (hb.cell (p := ⟨gw, t - 15, none⟩) HBw.out.lt).trans HQ15.out
        refine segG (by kernel_rfl) (by intro c a d v w h; exact hpan c a d v w h) [0, 1, 2, 3, 4, 5, 6, 7, 8, 9] [_, _, _, _, _, _, _, _, _, _] 2 rfl rfl (by kernel_rfl) ?_
        repeat (go_big_quiet_step (fail))
        refine wpQuiet_nil ?_
        refine segG (by kernel_rfl) (by intro c a d v w h; exact hpan c a d v w h) [10, 11] [_, _] 0 rfl rfl (by kernel_rfl) ?_
        repeat (go_big_quiet_step (fail))
        refine wpQuiet_nil ?_
        refine wpAnyG_done (by kernel_rfl) ?_
        clear q2 q15
        go_wp2_with fail
        refine (right_any x2 17 wr.drew l2 (by omega)).mono ?_
        rintro e wd ⟨rfl, rfl⟩
        go_wp2_with fail
        refine (right_any x2 19 wr.drew l2 (by omega)).mono ?_
        rintro e wd ⟨rfl, rfl⟩
        have hE1 : bits .xor .u32 (bits .xor .u32 ((Sha.rotr x2 17 : Nat) : Int) ((Sha.rotr x2 19 : Nat) : Int)) ((x2 : Int) / 1024) = ((Sha.s1 x2 : Nat) : Int) := by
          rw [xor_u32 _ _ (Sha.rotr_lt _ _ l2) (Sha.rotr_lt _ _ l2), show (x2 : Int) / 1024 = ((x2 / 1024 : Nat) : Int) from by simp, xor_u32 _ _ (Sha.xor_lt (Sha.rotr_lt _ _ l2) (Sha.rotr_lt _ _ l2)) (by omega)]
          rfl
        have hs1 := Sha.s1_lt x2 l2
        generalize Sha.rotr x2 17 = ra at *
        generalize Sha.rotr x2 19 = rb at *
        generalize Sha.s1 x2 = y1 at *
        go_wp2_with fail
        clear hE1
        refine (right_any x15 7 wr.drew l15 (by omega)).mono ?_
        rintro e wd ⟨rfl, rfl⟩
        go_wp2_with fail
        refine (right_any x15 18 wr.drew l15 (by omega)).mono ?_
        rintro e wd ⟨rfl, rfl⟩
        have hE0 : bits .xor .u32 (bits .xor .u32 ((Sha.rotr x15 7 : Nat) : Int) ((Sha.rotr x15 18 : Nat) : Int)) ((x15 : Int) / 8) = ((Sha.s0 x15 : Nat) : Int) := by
          rw [xor_u32 _ _ (Sha.rotr_lt _ _ l15) (Sha.rotr_lt _ _ l15), show (x15 : Int) / 8 = ((x15 / 8 : Nat) : Int) from by simp, xor_u32 _ _ (Sha.xor_lt (Sha.rotr_lt _ _ l15) (Sha.rotr_lt _ _ l15)) (by omega)]
          rfl
        have hs0 := Sha.s0_lt x15 l15
        generalize Sha.rotr x15 7 = rc at *
        generalize Sha.rotr x15 18 = rd at *
        generalize Sha.s0 x15 = y0 at *
        go_wp2_with fail
        clear hE0
        refine wp_region_G grows (by kernel_rfl) ?_
        have HOd : Hid (OwnV wr.drew.drew w0.heap.size 58 (.slice (some ⟨gw, 0, none⟩) t cw) (u32s (Sha.wK m p t))) := Lib.hid HO.out
        have HBd := Lib.hid HB.out.drew.drew
        have hgwl : gw < wr.drew.drew.heap.size := HBw.out.lt
        clear HO HB HBw
        generalize wr.drew.drew = wa at *
        have q7 : ∀ x : Later grows wa, x.to.cell? ⟨gw, t - 7, none⟩ = some (.int .u32 (x7 : Int)) := fun x => by
          have hb : Below wa.heap.size wa x.to := x.grown
          exact (hb.cell (p := ⟨gw, t - 7, none⟩) hgwl).trans HQ7.out
        have q16 : ∀ x : Later grows wa, x.to.cell? ⟨gw, t - 16, none⟩ = some (.int .u32 (x16 : Int)) := fun x => by
          have hb : Below wa.heap.size wa x.to := x.grown
          exact (hb.cell (p := ⟨gw, t - 16, none⟩) hgwl).trans HQ16.out
        clear HQ2 HQ15 HQ7 HQ16
        refine segG (by kernel_rfl) (by intro c a d v w h; exact hpan c a d v w h) [0, 1, 2, 3, 4, 5, 6, 7, 8, 9] [_, _, _, _, _, _, _, _, _, _] 9 rfl rfl (by kernel_rfl) ?_
        repeat (go_big_quiet_step (fail))
        refine wpQuiet_nil ?_
        refine segG (by kernel_rfl) (by intro c a d v w h; exact hpan c a d v w h) [10, 11, 12, 13, 14, 15] [_, _, _, _, _, _] 3 rfl rfl (by kernel_rfl) ?_
        repeat (go_big_quiet_step (fail))
        refine wpQuiet_nil ?_
        clear q7 q16
        obtain ⟨v', w3, h1, h2, h3, h4, h5⟩ := appV_one (P := Tryd.prog) 33 33 Tryd.undU32s Tryd.infoU32 rfl HOd.out HBd.out.size (.int .u32 (((y1 : Int) + (x7 : Int) + (y0 : Int) + (x16 : Int)) % 4294967296)) rfl (by rw [u32s_len, Sha.wK_len]; omega) (by omega)
        have H2 : Hid (OwnV w3 w0.heap.size 58 v' (u32s (Sha.wK m p (t + 1)))) := Lib.hid (by
          rw [Sha.wK, u32s_app, HW.out]
          exact h2)
        have H3 := Lib.hid (HBd.out.trans h3)
        clear h2 h3 h4 h5 HW
        refine oneG 16 2 rfl (by kernel_rfl) rfl ?_
        go_wp2
        refine ⟨below_alloc _ _, ?_⟩
        refine lateG 17 1 rfl (by kernel_rfl) (by kernel_rfl) rfl ?_
        go_wp2_with (at_builtin; refine wpList_append_run rfl (.tmp 111) (.tmp 127) _ rfl rfl rfl h1 ?_)
        refine ⟨trivial, ?_⟩
        clear h1
        simp only [Act.put, List.setIfInBounds_toArray, List.set]
        refine segG (by kernel_rfl) (by intro c a d v w h; exact hpan c a d v w h) [18] [_] 0 rfl rfl (by kernel_rfl) ?_
        repeat (go_big_quiet_step (fail))
        refine wpQuiet_nil ?_
        refine wpAnyG_done (by kernel_rfl) ?_
        go_wp2
        exact ⟨⟨t + 1, by omega, by go_num, H2.out, H3.out⟩, by simp [intOf]; omega⟩
    · obtain rfl : t = 64 := by omega
      go_wp2
      exact HX.out _ _ _ _ _ _ _ _ _ _ _ _ _ _ _ _ _ _ _ _ _ _ _ _ _ _ _ _ _ _ _ _ _ _ _ _ _ _ _ _ _ _ _ _ _ _ _ _ _ _ _ _ _ _ _ _ _ _ _ _ _ _ _ _ _ _ _ _ _ _ _ _ _ _ _ _ _ _ _ _ _ _ _ _ _ _ _ _ _ _ _ _ _ _ HO.out HB.out
end Go.Proofs.YtjhkodmaalefiaaDoor
namespace Go.Proofs.YtjhkodmaalefiaaDoor
open Go.RowKit Go.Gar

set_option maxHeartbeats 4000000 in
set_option maxRecDepth 100000 in
theorem shaL3 {c0 c1 c3 c4 c5 c6 c7 c9 c10 c11 c12 c13 c14 c17 c18 c19 c20 c21 c22 c23 c24 c25 c26 c27 c28 c29 c30 c31 c32 c33 c34 c35 c36 c37 c38 c39 c40 c41 c42 c43 c44 c45 c46 c47 c48 c49 c50 c51 c52 c53 c54 c55 c56 c57 c58 c59 c60 c61 c62 c63 c64 c65 c66 c67 c68 c69 c70 c71 c72 c73 c74 c75 c76 c77 c78 c79 c80 c81 c82 c83 c84 c85 c86 c87 c88 c89 c90 c91 c92 c93 c94 c95 c96 c97 c98 c99 c100 c101 c102 c103 c104 c105 c106 c107 c108 c109 c110 c111 c112 c113 c114 c115 c116 c117 c118 c119 c120 c121 c122 c123 c124 c125 c126 c127 c128 c129 c130 c131 c132 c133 c134 c135 c136 c137 c138 c139 c140 c141 c142 c143 c144 c145 c146 c147 c148 c149 c150 c151 c152 c153 c154 c155 c156 c157 c158 c159 c160 c161 c162 c163 c164 c165 c166 c167 c168 c169 c170 c171 c172 c173 c174 c175 c176 c177 c178 c179 c180 c181 c182 c183 c184 c185 c186 c187 c188 c189 c190 c191 c192 c193 c194 c195 c196 c197 c198 c199 c200 c201 c202 c203 c204 c205 c206 c207 c208 c209 c210 c211 c212 c213 c214 c215 c216 c217 c218 c219 c220 c221 c222 c223 c224 c225 c226 c227 c228 c229 c230 c231 c232 c233 c234 c235 c236 c237 c238 c239 c240 c241 c242 c243 c244 c245 c246 c247 c248 c249 c250 c251 c252 c253 c254 c255 c256 c257 c258 c259 c260 c261 c262 c263 c264 c265 c266 c267 c268 : Value} {Q0 : Exit → Act → World → Prop} {wi : World} {g0 bk ok cK gw cw gv cv : Nat} {H : Value} {ws : List Nat} {restw restv : List Value} {s : Sha.St} {lo : Nat}
    (hpan : ∀ (c : List PanicEntry) (a : Act) (d : Tmp) (v : Value) (w : World), Q0 (.panic c) (a.put (some d) v) w → Q0 (.panic c) a w)
    (hlo1 : lo < gv) (hlo2 : lo < wi.heap.size) (hws : ws.length = 64) (hwl : ∀ x ∈ ws, x < 4294967296) (hs : s.ok) (hbox : Blk wi g0 35 [.slice (some ⟨bk, ok, none⟩) 64 cK, H]) (hK : ∀ i, i < 64 → wi.cell? ⟨bk, ok + i, none⟩ = some (.int .u32 ((Sha.kL.getD i 0 : Nat) : Int))) (hw : Blk wi gw 58 (u32s ws ++ restw)) (hv : Blk wi gv 58 (u32s s.list ++ restv))
    (hexit : ∀ (u16 u17 u18 u19 u20 u21 u22 u23 u24 u25 u26 u132 u133 u134 u135 u136 u137 u138 u139 u140 u141 u142 u143 u144 u145 u146 u147 u148 u149 u150 u151 u152 u153 u154 u155 u156 u157 u158 u159 u160 u161 u162 u163 u164 u165 u166 u167 u168 u169 u170 u171 u172 u173 u174 u175 u176 u177 u178 u179 u180 u181 u182 u183 u184 u185 u186 u187 u188 u189 u190 u191 u192 u193 u194 u195 u196 u197 u198 u199 u200 u201 u202 u203 u204 u205 u206 u207 u208 u209 u210 u211 u212 u213 u214 u215 u216 u217 u218 u219 u220 u221 u222 : Value) (g c : Nat) (rest : List Value) (w' : World), Blk w' g 58 (u32s (Sha.vK ws s 64).list ++ rest) → lo < g → Below wi.heap.size wi w' → Q0 (.exit 4) { tmps := List.toArray (c0 :: c1 :: (.pointer (some ⟨g0, 0, none⟩)) :: c3 :: c4 :: c5 :: c6 :: c7 :: (.slice (some ⟨gw, 0, none⟩) 64 cw) :: c9 :: c10 :: c11 :: c12 :: c13 :: c14 :: (.slice (some ⟨g, 0, none⟩) 8 c) :: u16 :: u17 :: u18 :: u19 :: u20 :: u21 :: u22 :: u23 :: u24 :: u25 :: u26 :: c27 :: c28 :: c29 :: c30 :: c31 :: c32 :: c33 :: c34 :: c35 :: c36 :: c37 :: c38 :: c39 :: c40 :: c41 :: c42 :: c43 :: c44 :: c45 :: c46 :: c47 :: c48 :: c49 :: c50 :: c51 :: c52 :: c53 :: c54 :: c55 :: c56 :: c57 :: c58 :: c59 :: c60 :: c61 :: c62 :: c63 :: c64 :: c65 :: c66 :: c67 :: c68 :: c69 :: c70 :: c71 :: c72 :: c73 :: c74 :: c75 :: c76 :: c77 :: c78 :: c79 :: c80 :: c81 :: c82 :: c83 :: c84 :: c85 :: c86 :: c87 :: c88 :: c89 :: c90 :: c91 :: c92 :: c93 :: c94 :: c95 :: c96 :: c97 :: c98 :: c99 :: c100 :: c101 :: c102 :: c103 :: c104 :: c105 :: c106 :: c107 :: c108 :: c109 :: c110 :: c111 :: c112 :: c113 :: c114 :: c115 :: c116 :: c117 :: c118 :: c119 :: c120 :: c121 :: c122 :: c123 :: c124 :: c125 :: c126 :: c127 :: c128 :: c129 :: c130 :: c131 :: u132 :: u133 :: u134 :: u135 :: u136 :: u137 :: u138 :: u139 :: u140 :: u141 :: u142 :: u143 :: u144 :: u145 :: u146 :: u147 :: u148 :: u149 :: u150 :: u151 :: u152 :: u153 :: u154 :: u155 :: u156 :: u157 :: u158 :: u159 :: u160 :: u161 :: u162 :: u163 :: u164 :: u165 :: u166 :: u167 :: u168 :: u169 :: u170 :: u171 :: u172 :: u173 :: u174 :: u175 :: u176 :: u177 :: u178 :: u179 :: u180 :: u181 :: u182 :: u183 :: u184 :: u185 :: u186 :: u187 :: u188 :: u189 :: u190 :: u191 :: u192 :: u193 :: u194 :: u195 :: u196 :: u197 :: u198 :: u199 :: u200 :: u201 :: u202 :: u203 :: u204 :: u205 :: u206 :: u207 :: u208 :: u209 :: u210 :: u211 :: u212 :: u213 :: u214 :: u215 :: u216 :: u217 :: u218 :: u219 :: u220 :: u221 :: u222 :: c223 :: c224 :: c225 :: c226 :: c227 :: c228 :: c229 :: c230 :: c231 :: c232 :: c233 :: c234 :: c235 :: c236 :: c237 :: c238 :: c239 :: c240 :: c241 :: c242 :: c243 :: c244 :: c245 :: c246 :: c247 :: c248 :: c249 :: c250 :: c251 :: c252 :: c253 :: c254 :: c255 :: c256 :: c257 :: c258 :: c259 :: c260 :: c261 :: c262 :: c263 :: c264 :: c265 :: c266 :: c267 :: c268 :: []), defers := [] } w') :
    Code.wp Tryd.prog (.loop (shaLoop 2)) Q0 { tmps := List.toArray (c0 :: c1 :: (.pointer (some ⟨g0, 0, none⟩)) :: c3 :: c4 :: c5 :: c6 :: c7 :: (.slice (some ⟨gw, 0, none⟩) 64 cw) :: c9 :: c10 :: c11 :: c12 :: c13 :: c14 :: (.slice (some ⟨gv, 0, none⟩) 8 cv) :: (.int .i64 0) :: c17 :: c18 :: c19 :: c20 :: c21 :: c22 :: c23 :: c24 :: c25 :: c26 :: c27 :: c28 :: c29 :: c30 :: c31 :: c32 :: c33 :: c34 :: c35 :: c36 :: c37 :: c38 :: c39 :: c40 :: c41 :: c42 :: c43 :: c44 :: c45 :: c46 :: c47 :: c48 :: c49 :: c50 :: c51 :: c52 :: c53 :: c54 :: c55 :: c56 :: c57 :: c58 :: c59 :: c60 :: c61 :: c62 :: c63 :: c64 :: c65 :: c66 :: c67 :: c68 :: c69 :: c70 :: c71 :: c72 :: c73 :: c74 :: c75 :: c76 :: c77 :: c78 :: c79 :: c80 :: c81 :: c82 :: c83 :: c84 :: c85 :: c86 :: c87 :: c88 :: c89 :: c90 :: c91 :: c92 :: c93 :: c94 :: c95 :: c96 :: c97 :: c98 :: c99 :: c100 :: c101 :: c102 :: c103 :: c104 :: c105 :: c106 :: c107 :: c108 :: c109 :: c110 :: c111 :: c112 :: c113 :: c114 :: c115 :: c116 :: c117 :: c118 :: c119 :: c120 :: c121 :: c122 :: c123 :: c124 :: c125 :: c126 :: c127 :: c128 :: c129 :: c130 :: c131 :: c132 :: c133 :: c134 :: c135 :: c136 :: c137 :: c138 :: c139 :: c140 :: c141 :: c142 :: c143 :: c144 :: c145 :: c146 :: c147 :: c148 :: c149 :: c150 :: c151 :: c152 :: c153 :: c154 :: c155 :: c156 :: c157 :: c158 :: c159 :: c160 :: c161 :: c162 :: c163 :: c164 :: c165 :: c166 :: c167 :: c168 :: c169 :: c170 :: c171 :: c172 :: c173 :: c174 :: c175 :: c176 :: c177 :: c178 :: c179 :: c180 :: c181 :: c182 :: c183 :: c184 :: c185 :: c186 :: c187 :: c188 :: c189 :: c190 :: c191 :: c192 :: c193 :: c194 :: c195 :: c196 :: c197 :: c198 :: c199 :: c200 :: c201 :: c202 :: c203 :: c204 :: c205 :: c206 :: c207 :: c208 :: c209 :: c210 :: c211 :: c212 :: c213 :: c214 :: c215 :: c216 :: c217 :: c218 :: c219 :: c220 :: c221 :: c222 :: c223 :: c224 :: c225 :: c226 :: c227 :: c228 :: c229 :: c230 :: c231 :: c232 :: c233 :: c234 :: c235 :: c236 :: c237 :: c238 :: c239 :: c240 :: c241 :: c242 :: c243 :: c244 :: c245 :: c246 :: c247 :: c248 :: c249 :: c250 :: c251 :: c252 :: c253 :: c254 :: c255 :: c256 :: c257 :: c258 :: c259 :: c260 :: c261 :: c262 :: c263 :: c264 :: c265 :: c266 :: c267 :: c268 :: []), defers := [] } wi := by
  conv => arg 2; arg 1; whnf
  have HX := Lib.hid hexit
  have Hbox := Lib.hid hbox
  have HK := Lib.hid hK
  have Hw := Lib.hid hw
  have Hv := Lib.hid hv
  have HSok := Lib.hid hs
  clear hexit hbox hK hw hv hs
  go_loopw [15, 16] (fun v i w' => ∃ (t g c : Nat) (rest : List Value), t ≤ 64 ∧ i = .int .i64 (t : Int) ∧ v = .slice (some ⟨g, 0, none⟩) 8 c ∧ Blk w' g 58 (u32s (Sha.vK ws s t).list ++ rest) ∧ lo < g ∧ Below wi.heap.size wi w') (fun _ i _ => 64 - (intOf i).toNat)
  case atStart => exact ⟨0, _, _, _, by omega, rfl, rfl, Hv.out, hlo1, Below.refl _ _⟩
  case round =>
    obtain ⟨t, g, c, rest, ht, rfl, rfl, hV, hlg, hb⟩ := hrel
    clear Hv
    have hok := Sha.vK_ok ws HSok.out t
    by_cases hlt : t < 64
    · have HN : Hid (Sha.vK ws s (t + 1) = Sha.step (Sha.kL.getD t 0) (ws.getD t 0) (Sha.vK ws s t)) := Lib.hid rfl
      have lk : Sha.kL.getD t 0 < 4294967296 := Sha.getD_lt Sha.kL_lt t
      have lw : ws.getD t 0 < 4294967296 := Sha.getD_lt hwl t
      have HCK := Lib.hid (cell_bel hb (HK.out t hlt))
      have HCW := Lib.hid (cell_bel hb (word_at Hw.out (k := t) (by omega)))
      have HCB := Lib.hid (cell_bel hb (Hbox.out.cell 0))
      generalize Sha.kL.getD t 0 = kt at *
      generalize ws.getD t 0 = wt at *
      generalize Sha.vK ws s t = z at *
      obtain ⟨xa, xb, xc, xd, xe, xf, xg, xh⟩ := z
      obtain ⟨la, lb, lc, ld, le, lf, lg, lh⟩ := Sha.St.ok_all hok
      simp only at la lb lc ld le lf lg lh
      have HV := Lib.hid hV
      have Hb := Lib.hid hb
      clear hV hb hok
      go_wp2
      refine wp_region_G grows (by kernel_rfl) ?_
      have HVd : Hid (Blk wr.drew g 58 ([.int .u32 (xa : Int), .int .u32 (xb : Int), .int .u32 (xc : Int), .int .u32 (xd : Int), .int .u32 (xe : Int), .int .u32 (xf : Int), .int .u32 (xg : Int), .int .u32 (xh : Int)] ++ rest)) := Lib.hid HV.out
      have q0 := cell_later HVd.out (i := 0) rfl
      have q1 := cell_later HVd.out (i := 1) rfl
      have q2 := cell_later HVd.out (i := 2) rfl
      have q4 := cell_later HVd.out (i := 4) rfl
      have q5 := cell_later HVd.out (i := 5) rfl
      have q6 := cell_later HVd.out (i := 6) rfl
      refine segG (by kernel_rfl) (by intro c a d v w h; exact hpan c a d v w h) [0, 1, 2, 3, 4, 5, 6, 7, 8, 9] [_, _, _, _, _, _, _, _, _, _] 14 rfl rfl (by kernel_rfl) ?_
      repeat (go_big_quiet_step (fail))
      refine wpQuiet_nil ?_
      refine segG (by kernel_rfl) (by intro c a d v w h; exact hpan c a d v w h) [10, 11, 12, 13, 14, 15, 16, 17, 18, 19] [_, _, _, _, _, _, _, _, _, _] 4 rfl rfl (by kernel_rfl) ?_
      repeat (go_big_quiet_step (fail))
      refine wpQuiet_nil ?_
      refine segG (by kernel_rfl) (by intro c a d v w h; exact hpan c a d v w h) [20, 21, 22, 23] [_, _, _, _] 0 rfl rfl (by kernel_rfl) ?_
      repeat (go_big_quiet_step (fail))
      refine wpQuiet_nil ?_
      refine wpAnyG_done (by kernel_rfl) ?_
      clear q0 q1 q2 q4 q5 q6
      have hCh : bits .xor .u32 (bits .and .u32 (xe : Int) (xf : Int)) (bits .and .u32 (4294967295 - (xe : Int)) (xg : Int)) = ((Sha.ch xe xf xg : Nat) : Int) := by
        rw [show (4294967295 : Int) - (xe : Int) = ((4294967295 - xe : Nat) : Int) from by omega, and_u32 _ _ le lf, and_u32 _ _ (by omega) lg, xor_u32 _ _ (Sha.and_lt le) (Sha.and_lt (by omega))]
        rfl
      have hMj : bits .xor .u32 (bits .xor .u32 (bits .and .u32 (xa : Int) (xb : Int)) (bits .and .u32 (xa : Int) (xc : Int))) (bits .and .u32 (xb : Int) (xc : Int)) = ((Sha.maj xa xb xc : Nat) : Int) := by
        rw [and_u32 _ _ la lb, and_u32 _ _ la lc, and_u32 _ _ lb lc, xor_u32 _ _ (Sha.and_lt la) (Sha.and_lt la), xor_u32 _ _ (Sha.xor_lt (Sha.and_lt la) (Sha.and_lt la)) (Sha.and_lt lb)]
        rfl
      have lch := Sha.ch_lt xe xf xg le
      have lmj := Sha.maj_lt xa xb xc la lb
      go_wp2_with fail
      clear hCh hMj
      have HT1 : Hid (Sha.t1 ⟨xa, xb, xc, xd, xe, xf, xg, xh⟩ kt wt = (xh + Sha.e1 xe + Sha.ch xe xf xg + kt + wt) % 4294967296) := Lib.hid rfl
      have HT2 : Hid (Sha.t2 ⟨xa, xb, xc, xd, xe, xf, xg, xh⟩ = (Sha.e0 xa + Sha.maj xa xb xc) % 4294967296) := Lib.hid rfl
      generalize Sha.ch xe xf xg = yc at *
      generalize Sha.maj xa xb xc = ym at *
      refine wp_region_G grows (by kernel_rfl) ?_
      have HVe : Hid (Blk wr.drew.drew g 58 ([.int .u32 (xa : Int), .int .u32 (xb : Int), .int .u32 (xc : Int), .int .u32 (xd : Int), .int .u32 (xe : Int), .int .u32 (xf : Int), .int .u32 (xg : Int), .int .u32 (xh : Int)] ++ rest)) := Lib.hid HVd.out
      have hcl : ∀ {p : Addr} {v : Value}, wr.cell? p = some v → ∀ x : Later grows wr.drew.drew, x.to.cell? p = some v := fun h x => by
        have hb : Below wr.drew.drew.heap.size wr.drew.drew x.to := x.grown
        exact cell_bel (w := wr.drew.drew) hb h
      have q7 := cell_later HVe.out (i := 7) rfl
      have qk := hcl HCK.out
      have qw := hcl HCW.out
      have qb := hcl HCB.out
      clear hcl
      refine segG (by kernel_rfl) (by intro c a d v w h; exact hpan c a d v w h) [0, 1, 2, 3, 5, 8, 12, 14, 15, 16] [_, _, _, _, _, _, _, _, _, _] 16 rfl rfl (by kernel_rfl) ?_
      repeat (go_big_quiet_step (fail))
      refine wpQuiet_nil ?_
      refine segG (by kernel_rfl) (by intro c a d v w h; exact hpan c a d v w h) [17, 18, 20, 21, 22] [_, _, _, _, _] 11 rfl rfl (by kernel_rfl) ?_
      repeat (go_big_quiet_step (fail))
      refine wpQuiet_nil ?_
      refine segG (by kernel_rfl) (by intro c a d v w h; exact hpan c a d v w h) [23] [_] 10 rfl rfl (by kernel_rfl) ?_
      repeat (go_big_quiet_step (fail))
      refine wpQuiet_nil ?_
      clear q7 qk qw qb
      refine oneG 4 9 rfl (by kernel_rfl) rfl ?_
      go_wp2_with fail
      refine (right_any xe 6 wr.drew.drew le (by omega)).mono ?_
      rintro e wd ⟨rfl, rfl⟩
      go_wp2
      refine ⟨grows.refl _, ?_⟩
      refine oneG 6 8 rfl (by kernel_rfl) rfl ?_
      go_wp2_with fail
      refine (right_any xe 11 wr.drew.drew le (by omega)).mono ?_
      rintro e wd ⟨rfl, rfl⟩
      go_wp2
      refine ⟨grows.refl _, ?_⟩
      refine segG (by kernel_rfl) (by intro c a d v w h; exact hpan c a d v w h) [7] [_] 7 rfl rfl (by kernel_rfl) ?_
      repeat (go_big_quiet_step (fail))
      refine wpQuiet_nil ?_
      refine oneG 9 6 rfl (by kernel_rfl) rfl ?_
      go_wp2_with fail
      refine (right_any xe 25 wr.drew.drew le (by omega)).mono ?_
      rintro e wd ⟨rfl, rfl⟩
      go_wp2
      refine ⟨grows.refl _, ?_⟩
      have hE1 : bits .xor .u32 (bits .xor .u32 ((Sha.rotr xe 6 : Nat) : Int) ((Sha.rotr xe 11 : Nat) : Int)) ((Sha.rotr xe 25 : Nat) : Int) = ((Sha.e1 xe : Nat) : Int) := by
        rw [xor_u32 _ _ (Sha.rotr_lt _ _ le) (Sha.rotr_lt _ _ le), xor_u32 _ _ (Sha.xor_lt (Sha.rotr_lt _ _ le) (Sha.rotr_lt _ _ le)) (Sha.rotr_lt _ _ le)]
        rfl
      have le1 := Sha.e1_lt xe le
      generalize Sha.rotr xe 6 = ra at *
      generalize Sha.rotr xe 11 = rb at *
      generalize Sha.rotr xe 25 = rc at *
      generalize Sha.e1 xe = y1 at *
      refine segG (by kernel_rfl) (by intro c a d v w h; exact hpan c a d v w h) [10, 11, 13, 19, 24, 25] [_, _, _, _, _, _] 0 rfl rfl (by kernel_rfl) ?_
      repeat (go_big_quiet_step (fail))
      refine wpQuiet_nil ?_
      refine wpAnyG_done (by kernel_rfl) ?_
      clear hE1
      go_wp2_with fail
      refine (right_any xa 2 wr.drew.drew la (by omega)).mono ?_
      rintro e wd ⟨rfl, rfl⟩
      go_wp2_with fail
      refine (right_any xa 13 wr.drew.drew la (by omega)).mono ?_
      rintro e wd ⟨rfl, rfl⟩
      go_wp2_with fail
      refine (right_any xa 22 wr.drew.drew la (by omega)).mono ?_
      rintro e wd ⟨rfl, rfl⟩
      have hE0 : bits .xor .u32 (bits .xor .u32 ((Sha.rotr xa 2 : Nat) : Int) ((Sha.rotr xa 13 : Nat) : Int)) ((Sha.rotr xa 22 : Nat) : Int) = ((Sha.e0 xa : Nat) : Int) := by
        rw [xor_u32 _ _ (Sha.rotr_lt _ _ la) (Sha.rotr_lt _ _ la), xor_u32 _ _ (Sha.xor_lt (Sha.rotr_lt _ _ la) (Sha.rotr_lt _ _ la)) (Sha.rotr_lt _ _ la)]
        rfl
      have le0 := Sha.e0_lt xa la
      generalize Sha.rotr xa 2 = rd at *
      generalize Sha.rotr xa 13 = re at *
      generalize Sha.rotr xa 22 = rf at *
      generalize Sha.e0 xa = y0 at *
      have h3 := HVe.out.cell 3
      have Hb0 := Lib.hid Hb.out
      have HS : Hid (Sha.vK ws s (t + 1) = ⟨(Sha.t1 ⟨xa, xb, xc, xd, xe, xf, xg, xh⟩ kt wt + Sha.t2 ⟨xa, xb, xc, xd, xe, xf, xg, xh⟩) % 4294967296, xa, xb, xc, (xd + Sha.t1 ⟨xa, xb, xc, xd, xe, xf, xg, xh⟩ kt wt) % 4294967296, xe, xf, xg⟩) := Lib.hid (by rw [HN.out]; rfl)
      rw [HT1.out, HT2.out] at HS
      clear HN HT1 HT2 HVd HV Hb HCK HCW HCB
      go_wp2
      have hL : u32s (Sha.vK ws s (t + 1)).list = [.int .u32 (((xh : Int) + (y1 : Int) + (yc : Int) + (kt : Int) + (wt : Int) + ((y0 : Int) + (ym : Int))) % 4294967296), .int .u32 (xa : Int), .int .u32 (xb : Int), .int .u32 (xc : Int), .int .u32 (((xd : Int) + ((xh : Int) + (y1 : Int) + (yc : Int) + (kt : Int) + (wt : Int))) % 4294967296), .int .u32 (xe : Int), .int .u32 (xf : Int), .int .u32 (xg : Int)] := by
        rw [HS.out]
        show [Value.int .u32 ((((xh + y1 + yc + kt + wt) % 4294967296 + (y0 + ym) % 4294967296) % 4294967296 : Nat) : Int), _, _, _, Value.int .u32 (((xd + (xh + y1 + yc + kt + wt) % 4294967296) % 4294967296 : Nat) : Int), _, _, _] = _
        rw [show ((((xh + y1 + yc + kt + wt) % 4294967296 + (y0 + ym) % 4294967296) % 4294967296 : Nat) : Int) = ((xh : Int) + (y1 : Int) + (yc : Int) + (kt : Int) + (wt : Int) + ((y0 : Int) + (ym : Int))) % 4294967296 from by omega, show (((xd + (xh + y1 + yc + kt + wt) % 4294967296) % 4294967296 : Nat) : Int) = ((xd : Int) + ((xh : Int) + (y1 : Int) + (yc : Int) + (kt : Int) + (wt : Int))) % 4294967296 from by omega]
      refine ⟨⟨t + 1, _, _, [], by omega, by go_num, rfl, ?_, by have := Hb0.out.size; omega, ((Hb0.out.alloc Hb0.out.size _).drew).drew⟩, by simp [intOf]; omega⟩
      rw [hL, List.append_nil]
      exact (Blk.new wr 58 _).drew.drew
    · obtain rfl : t = 64 := by omega
      go_wp2
      exact HX.out _ _ _ _ _ _ _ _ _ _ _ _ _ _ _ _ _ _ _ _ _ _ _ _ _ _ _ _ _ _ _ _ _ _ _ _ _ _ _ _ _ _ _ _ _ _ _ _ _ _ _ _ _ _ _ _ _ _ _ _ _ _ _ _ _ _ _ _ _ _ _ _ _ _ _ _ _ _ _ _ _ _ _ _ _ _ _ _ _ _ _ _ _ _ _ _ _ _ _ _ _ _ _ _ _ _ hV hlg hb
end Go.Proofs.YtjhkodmaalefiaaDoor
