/-
  The reference's Of of layer 5: its loop that lays the digest out.
-/
import Derived.Test.YtpaagjhohfjopaaDoorShaRefN
import Derived.Test.YtpaagjhohfjopaaDoorShaRefC
import Derived.Test.YtpaagjhohfjopaaDoorShaBits
set_option maxRecDepth 100000
namespace Go.Proofs.YtpaagjhohfjopaaDoor
open Go.RowKit Go.Gar

set_option maxHeartbeats 4000000 in
set_option maxRecDepth 100000 in
theorem shaL5 {c0 c1 c2 c3 c4 c6 c7 c8 c9 c10 c11 c12 c13 c14 c15 c16 c17 c18 c19 c20 c21 c22 c23 c24 c25 c26 c27 c30 c31 c32 c33 c34 c35 c36 c37 c38 c39 c40 c41 c42 c43 c44 c45 c46 c47 c48 c49 c50 c51 c52 c53 c54 c55 c56 c57 c58 c59 c60 c61 c62 c63 c64 c65 c66 c67 c68 c69 c70 c71 c72 c73 c74 c75 c76 c77 c78 c79 c80 c81 c82 c83 c84 c85 c86 c87 c88 c89 c90 c91 c92 c93 c94 c95 c96 c97 c98 c99 c100 c101 c102 c103 c104 c105 c106 c107 c108 c109 c110 c111 c112 c113 c114 c115 c116 c117 c118 c119 c120 c121 c122 c123 c124 c125 c126 c127 c128 c129 c130 c131 c132 c133 c134 c135 c136 c137 c138 c139 c140 c141 c142 c143 c144 c145 c146 c147 c148 c149 c150 c151 c152 c153 c154 c155 c156 c157 c158 c159 c160 c161 c162 c163 c164 c165 c166 c167 c168 c169 c170 c171 c172 c173 c174 c175 c176 c177 c178 c179 c180 c181 c182 c183 c184 c185 c186 c187 c188 c189 c190 c191 c192 c193 c194 c195 c196 c197 c198 c199 c200 c201 c202 c203 c204 c205 c206 c207 c208 c209 c210 c211 c212 c213 c214 c215 c216 c217 c218 c219 c220 c221 c222 c223 c224 c225 c226 c227 c228 c229 c230 c231 c232 c233 c234 c235 c236 c237 c238 c239 c240 c241 c242 c243 c244 c245 c246 c247 c248 c249 c250 c251 c252 c253 c254 c255 c256 c257 c258 c259 c260 c261 c262 c263 c264 c265 c266 c267 c268 : Value} {Q0 : Exit → Act → World → Prop} {w0 wi : World} {gh ch : Nat} {resth : List Value} {hs : List Nat} {v0 : Value}
    (hpan : ∀ (c : List PanicEntry) (a : Act) (d : Tmp) (v : Value) (w : World), Q0 (.panic c) (a.put (some d) v) w → Q0 (.panic c) a w)
    (hl : hs.length = 8) (hlt1 : ∀ x ∈ hs, x < 4294967296) (hh : Blk w0 gh 44 (u32s hs ++ resth)) (hO : OwnB wi w0.heap.size 5 v0 (Sha.outK hs 0)) (hb : Below w0.heap.size w0 wi)
    (hexit : ∀ (u29 u238 u239 u240 u241 u242 u243 u244 u245 u246 u247 u248 u249 u250 u251 u252 u253 u254 u255 u256 u257 u258 u259 u260 u261 u262 u263 u264 u265 u266 u267 : Value) (v : Value) (w' : World), OwnB w' w0.heap.size 5 v (Sha.outK hs 8) → Below w0.heap.size w0 w' → Q0 (.exit 8) { tmps := List.toArray (c0 :: c1 :: c2 :: c3 :: c4 :: (.slice (some ⟨gh, 0, none⟩) 8 ch) :: c6 :: c7 :: c8 :: c9 :: c10 :: c11 :: c12 :: c13 :: c14 :: c15 :: c16 :: c17 :: c18 :: c19 :: c20 :: c21 :: c22 :: c23 :: c24 :: c25 :: c26 :: c27 :: (v) :: u29 :: c30 :: c31 :: c32 :: c33 :: c34 :: c35 :: c36 :: c37 :: c38 :: c39 :: c40 :: c41 :: c42 :: c43 :: c44 :: c45 :: c46 :: c47 :: c48 :: c49 :: c50 :: c51 :: c52 :: c53 :: c54 :: c55 :: c56 :: c57 :: c58 :: c59 :: c60 :: c61 :: c62 :: c63 :: c64 :: c65 :: c66 :: c67 :: c68 :: c69 :: c70 :: c71 :: c72 :: c73 :: c74 :: c75 :: c76 :: c77 :: c78 :: c79 :: c80 :: c81 :: c82 :: c83 :: c84 :: c85 :: c86 :: c87 :: c88 :: c89 :: c90 :: c91 :: c92 :: c93 :: c94 :: c95 :: c96 :: c97 :: c98 :: c99 :: c100 :: c101 :: c102 :: c103 :: c104 :: c105 :: c106 :: c107 :: c108 :: c109 :: c110 :: c111 :: c112 :: c113 :: c114 :: c115 :: c116 :: c117 :: c118 :: c119 :: c120 :: c121 :: c122 :: c123 :: c124 :: c125 :: c126 :: c127 :: c128 :: c129 :: c130 :: c131 :: c132 :: c133 :: c134 :: c135 :: c136 :: c137 :: c138 :: c139 :: c140 :: c141 :: c142 :: c143 :: c144 :: c145 :: c146 :: c147 :: c148 :: c149 :: c150 :: c151 :: c152 :: c153 :: c154 :: c155 :: c156 :: c157 :: c158 :: c159 :: c160 :: c161 :: c162 :: c163 :: c164 :: c165 :: c166 :: c167 :: c168 :: c169 :: c170 :: c171 :: c172 :: c173 :: c174 :: c175 :: c176 :: c177 :: c178 :: c179 :: c180 :: c181 :: c182 :: c183 :: c184 :: c185 :: c186 :: c187 :: c188 :: c189 :: c190 :: c191 :: c192 :: c193 :: c194 :: c195 :: c196 :: c197 :: c198 :: c199 :: c200 :: c201 :: c202 :: c203 :: c204 :: c205 :: c206 :: c207 :: c208 :: c209 :: c210 :: c211 :: c212 :: c213 :: c214 :: c215 :: c216 :: c217 :: c218 :: c219 :: c220 :: c221 :: c222 :: c223 :: c224 :: c225 :: c226 :: c227 :: c228 :: c229 :: c230 :: c231 :: c232 :: c233 :: c234 :: c235 :: c236 :: c237 :: u238 :: u239 :: u240 :: u241 :: u242 :: u243 :: u244 :: u245 :: u246 :: u247 :: u248 :: u249 :: u250 :: u251 :: u252 :: u253 :: u254 :: u255 :: u256 :: u257 :: u258 :: u259 :: u260 :: u261 :: u262 :: u263 :: u264 :: u265 :: u266 :: u267 :: c268 :: []), defers := [] } w') :
    Code.wp Tryd.prog (.loop (shaLoop 4)) Q0 { tmps := List.toArray (c0 :: c1 :: c2 :: c3 :: c4 :: (.slice (some ⟨gh, 0, none⟩) 8 ch) :: c6 :: c7 :: c8 :: c9 :: c10 :: c11 :: c12 :: c13 :: c14 :: c15 :: c16 :: c17 :: c18 :: c19 :: c20 :: c21 :: c22 :: c23 :: c24 :: c25 :: c26 :: c27 :: (v0) :: (.int .i64 0) :: c30 :: c31 :: c32 :: c33 :: c34 :: c35 :: c36 :: c37 :: c38 :: c39 :: c40 :: c41 :: c42 :: c43 :: c44 :: c45 :: c46 :: c47 :: c48 :: c49 :: c50 :: c51 :: c52 :: c53 :: c54 :: c55 :: c56 :: c57 :: c58 :: c59 :: c60 :: c61 :: c62 :: c63 :: c64 :: c65 :: c66 :: c67 :: c68 :: c69 :: c70 :: c71 :: c72 :: c73 :: c74 :: c75 :: c76 :: c77 :: c78 :: c79 :: c80 :: c81 :: c82 :: c83 :: c84 :: c85 :: c86 :: c87 :: c88 :: c89 :: c90 :: c91 :: c92 :: c93 :: c94 :: c95 :: c96 :: c97 :: c98 :: c99 :: c100 :: c101 :: c102 :: c103 :: c104 :: c105 :: c106 :: c107 :: c108 :: c109 :: c110 :: c111 :: c112 :: c113 :: c114 :: c115 :: c116 :: c117 :: c118 :: c119 :: c120 :: c121 :: c122 :: c123 :: c124 :: c125 :: c126 :: c127 :: c128 :: c129 :: c130 :: c131 :: c132 :: c133 :: c134 :: c135 :: c136 :: c137 :: c138 :: c139 :: c140 :: c141 :: c142 :: c143 :: c144 :: c145 :: c146 :: c147 :: c148 :: c149 :: c150 :: c151 :: c152 :: c153 :: c154 :: c155 :: c156 :: c157 :: c158 :: c159 :: c160 :: c161 :: c162 :: c163 :: c164 :: c165 :: c166 :: c167 :: c168 :: c169 :: c170 :: c171 :: c172 :: c173 :: c174 :: c175 :: c176 :: c177 :: c178 :: c179 :: c180 :: c181 :: c182 :: c183 :: c184 :: c185 :: c186 :: c187 :: c188 :: c189 :: c190 :: c191 :: c192 :: c193 :: c194 :: c195 :: c196 :: c197 :: c198 :: c199 :: c200 :: c201 :: c202 :: c203 :: c204 :: c205 :: c206 :: c207 :: c208 :: c209 :: c210 :: c211 :: c212 :: c213 :: c214 :: c215 :: c216 :: c217 :: c218 :: c219 :: c220 :: c221 :: c222 :: c223 :: c224 :: c225 :: c226 :: c227 :: c228 :: c229 :: c230 :: c231 :: c232 :: c233 :: c234 :: c235 :: c236 :: c237 :: c238 :: c239 :: c240 :: c241 :: c242 :: c243 :: c244 :: c245 :: c246 :: c247 :: c248 :: c249 :: c250 :: c251 :: c252 :: c253 :: c254 :: c255 :: c256 :: c257 :: c258 :: c259 :: c260 :: c261 :: c262 :: c263 :: c264 :: c265 :: c266 :: c267 :: c268 :: []), defers := [] } wi := by
  conv => arg 2; arg 1; whnf
  have HX := Lib.hid hexit
  have HO0 := Lib.hid hO
  have HB0 := Lib.hid hb
  have Hh := Lib.hid hh
  clear hexit hO hb hh
  go_loopw [28, 29] (fun v i w' => ∃ k : Nat, k ≤ 8 ∧ i = .int .i64 (k : Int) ∧ OwnB w' w0.heap.size 5 v (Sha.outK hs k) ∧ Below w0.heap.size w0 w') (fun _ i _ => 8 - (intOf i).toNat)
  case atStart => exact ⟨0, by omega, rfl, HO0.out, HB0.out⟩
  case round =>
    obtain ⟨k, hk, rfl, hO, hb⟩ := hrel
    clear HO0 HB0
    by_cases hlt : k < 8
    · have q0 := cell_bel hb (word_at Hh.out (k := k) (by omega))
      have l0 := Sha.getD_lt hlt1 k
      have HA : Hid (Sha.outK hs (k + 1) = Sha.outK hs k ++ Sha.be4 (hs.getD k 0)) := Lib.hid (Sha.outK_succ hs k (by omega))
      have hol := Sha.outK_len hs k (by omega)
      generalize hs.getD k 0 = x at *
      have HO : Hid (OwnB wr.drew w0.heap.size 5 u28 (Sha.outK hs k)) := Lib.hid hO
      have HB := Lib.hid hb.drew
      have HQ0 : Hid (wr.drew.cell? ⟨gh, k, none⟩ = some (.int .u32 (x : Int))) := Lib.hid q0
      have hw0 : gh < wr.drew.heap.size := Nat.lt_of_lt_of_le Hh.out.lt HB.out.size
      clear hO hb q0
      go_wp2
      refine wp_region_G grows (by kernel_rfl) ?_
      generalize wr.drew = wa at *
      have q0 : ∀ x1 : Later grows wa, x1.to.cell? ⟨gh, k, none⟩ = some (.int .u32 (x : Int)) := fun x1 => by
        have hb : Below wa.heap.size wa x1.to := x1.grown
        exact cell_bel hb HQ0.out
      refine segG (by kernel_rfl) (by intro c a d v w h; exact hpan c a d v w h) [0, 1, 2, 3, 4, 5, 6, 7, 8, 9] [_, _, _, _, _, _, _, _, _, _] 17 rfl rfl (by kernel_rfl) ?_
      repeat (go_big_quiet_step (fail))
      refine wpQuiet_nil ?_
      refine segG (by kernel_rfl) (by intro c a d v w h; exact hpan c a d v w h) [10, 11, 12, 13, 14, 15, 16, 17, 18, 19] [_, _, _, _, _, _, _, _, _, _] 7 rfl rfl (by kernel_rfl) ?_
      repeat (go_big_quiet_step (fail))
      refine wpQuiet_nil ?_
      refine segG (by kernel_rfl) (by intro c a d v w h; exact hpan c a d v w h) [20, 21, 22, 23] [_, _, _, _] 3 rfl rfl (by kernel_rfl) ?_
      repeat (go_big_quiet_step (fail))
      refine wpQuiet_nil ?_
      clear q0
      have hb4 : Blk (wa.alloc (.cells #[.int .u8 ((x : Int) / 16777216), .int .u8 ((x : Int) / 65536 % 256), .int .u8 ((x : Int) / 256 % 256), .int .u8 ((x : Int) % 256)] 5)) wa.heap.size 5 (u8s (Sha.be4 x)) := by
        have e : u8s (Sha.be4 x) = [.int .u8 ((x : Int) / 16777216), .int .u8 ((x : Int) / 65536 % 256), .int .u8 ((x : Int) / 256 % 256), .int .u8 ((x : Int) % 256)] := by
          simp only [u8s, Sha.be4, List.map_cons, List.map_nil, UInt8.toNat_ofNat']
          rw [show ((x / 2 ^ 24 % 2 ^ 8 : Nat) : Int) = (x : Int) / 16777216 from by omega, show ((x / 2 ^ 16 % 2 ^ 8 : Nat) : Int) = (x : Int) / 65536 % 256 from by omega, show ((x / 2 ^ 8 % 2 ^ 8 : Nat) : Int) = (x : Int) / 256 % 256 from by omega, show ((x % 2 ^ 8 : Nat) : Int) = (x : Int) % 256 from by omega]
        rw [e]
        exact Blk.new wa _ _
      obtain ⟨v', w3, h1, h2, h3, h4⟩ := app_rd (P := Tryd.prog) 22 22 Tryd.und22 Tryd.info5 (HO.out.alloc _) (by rw [World.size_alloc]; have := HB.out.size; omega) 4 (Rd.of_all hb4) (by rw [hol]; simp [Sha.be4]; omega)
      rw [← HA.out] at h2
      have h1' : (Builtin.append_ #[22, 22] 22 #[u28, .slice (some ⟨wa.heap.size, 0, none⟩) 4 4]).run Tryd.prog (wa.alloc (.cells #[.int .u8 ((x : Int) / 16777216), .int .u8 ((x : Int) / 65536 % 256), .int .u8 ((x : Int) / 256 % 256), .int .u8 ((x : Int) % 256)] 5)) = .ok v' w3 := h1
      have H2 := Lib.hid h2
      have H3 := Lib.hid ((HB.out.alloc HB.out.size _).trans h3)
      clear h1 h2 h3 h4 hb4 HA
      refine oneG 24 2 rfl (by kernel_rfl) rfl ?_
      go_wp2
      refine ⟨below_alloc _ _, ?_⟩
      refine lateG 25 1 rfl (by kernel_rfl) (by kernel_rfl) rfl ?_
      go_wp2_with (at_builtin; refine wpList_append_run rfl (.tmp 242) (.tmp 266) _ rfl rfl rfl h1' ?_)
      refine ⟨trivial, ?_⟩
      clear h1'
      simp only [Act.put, List.setIfInBounds_toArray, List.set]
      refine segG (by kernel_rfl) (by intro c a d v w h; exact hpan c a d v w h) [26] [_] 0 rfl rfl (by kernel_rfl) ?_
      repeat (go_big_quiet_step (fail))
      refine wpQuiet_nil ?_
      refine wpAnyG_done (by kernel_rfl) ?_
      go_wp2
      exact ⟨⟨k + 1, by omega, by go_num, H2.out, H3.out⟩, by simp [intOf]; omega⟩
    · obtain rfl : k = 8 := by omega
      go_wp2
      exact HX.out _ _ _ _ _ _ _ _ _ _ _ _ _ _ _ _ _ _ _ _ _ _ _ _ _ _ _ _ _ _ _ _ _ hO hb
end Go.Proofs.YtpaagjhohfjopaaDoor
