/-
  The reference's Of of layer 5: its loop that adds up. The reference's Of of layer 5: its loop that lays the digest out. The reference's Of of layer 5: contract. 'x, y = append(x, c), append(y, d)': two rows of the call's own, a byte behind each, in whatever order: what lies in memory between the operations. Of no program.
-/
import Derived.Test.YtjhkodmaalefiaaDoorSealJ17
import Derived.Test.YtjhkodmaalefiaaDoorSealJ05
import Derived.Test.YtjhkodmaalefiaaDoorSealJ18
import Derived.Test.YtjhkodmaalefiaaDoorSealJ15
import Derived.Test.YtjhkodmaalefiaaDoorSealJ02
set_option maxRecDepth 100000
namespace Go.Proofs.YtjhkodmaalefiaaDoor
open Go.RowKit Go.Gar

set_option maxHeartbeats 4000000 in
set_option maxRecDepth 100000 in
theorem shaL4 {c0 c1 c2 c3 c4 c6 c7 c8 c9 c10 c11 c12 c13 c14 c16 c17 c18 c19 c20 c21 c22 c23 c24 c25 c26 c28 c29 c30 c31 c32 c33 c34 c35 c36 c37 c38 c39 c40 c41 c42 c43 c44 c45 c46 c47 c48 c49 c50 c51 c52 c53 c54 c55 c56 c57 c58 c59 c60 c61 c62 c63 c64 c65 c66 c67 c68 c69 c70 c71 c72 c73 c74 c75 c76 c77 c78 c79 c80 c81 c82 c83 c84 c85 c86 c87 c88 c89 c90 c91 c92 c93 c94 c95 c96 c97 c98 c99 c100 c101 c102 c103 c104 c105 c106 c107 c108 c109 c110 c111 c112 c113 c114 c115 c116 c117 c118 c119 c120 c121 c122 c123 c124 c125 c126 c127 c128 c129 c130 c131 c132 c133 c134 c135 c136 c137 c138 c139 c140 c141 c142 c143 c144 c145 c146 c147 c148 c149 c150 c151 c152 c153 c154 c155 c156 c157 c158 c159 c160 c161 c162 c163 c164 c165 c166 c167 c168 c169 c170 c171 c172 c173 c174 c175 c176 c177 c178 c179 c180 c181 c182 c183 c184 c185 c186 c187 c188 c189 c190 c191 c192 c193 c194 c195 c196 c197 c198 c199 c200 c201 c202 c203 c204 c205 c206 c207 c208 c209 c210 c211 c212 c213 c214 c215 c216 c217 c218 c219 c220 c221 c222 c223 c224 c225 c226 c227 c228 c229 c230 c231 c232 c233 c234 c235 c236 c237 c238 c239 c240 c241 c242 c243 c244 c245 c246 c247 c248 c249 c250 c251 c252 c253 c254 c255 c256 c257 c258 c259 c260 c261 c262 c263 c264 c265 c266 c267 c268 : Value} {Q0 : Exit → Act → World → Prop} {w wi : World} {g0 gh ch gm gv cv : Nat} {K H : Value} {m : List UInt8} {restm resth restv : List Value} {hs vs : List Nat}
    (hpan : ∀ (c : List PanicEntry) (a : Act) (d : Tmp) (v : Value) (w : World), Q0 (.panic c) (a.put (some d) v) w → Q0 (.panic c) a w)
    (hl : hs.length = 8) (hvl : vs.length = 8) (hlt1 : ∀ x ∈ hs, x < 4294967296) (hlt2 : ∀ x ∈ vs, x < 4294967296) (hR : Rnd w wi g0 gh gm K H m restm hs resth) (hv : Blk wi gv 58 (u32s vs ++ restv)) (hgv : gm < gv)
    (hexit : ∀ (u27 u223 u224 u225 u226 u227 u228 u229 u230 u231 u232 u233 u234 u235 u236 : Value) (w' : World), Rnd w w' g0 gh gm K H m restm (Sha.addK hs vs 8) resth → Q0 (.exit 6) { tmps := List.toArray (c0 :: c1 :: c2 :: c3 :: c4 :: (.slice (some ⟨gh, 0, none⟩) 8 ch) :: c6 :: c7 :: c8 :: c9 :: c10 :: c11 :: c12 :: c13 :: c14 :: (.slice (some ⟨gv, 0, none⟩) 8 cv) :: c16 :: c17 :: c18 :: c19 :: c20 :: c21 :: c22 :: c23 :: c24 :: c25 :: c26 :: u27 :: c28 :: c29 :: c30 :: c31 :: c32 :: c33 :: c34 :: c35 :: c36 :: c37 :: c38 :: c39 :: c40 :: c41 :: c42 :: c43 :: c44 :: c45 :: c46 :: c47 :: c48 :: c49 :: c50 :: c51 :: c52 :: c53 :: c54 :: c55 :: c56 :: c57 :: c58 :: c59 :: c60 :: c61 :: c62 :: c63 :: c64 :: c65 :: c66 :: c67 :: c68 :: c69 :: c70 :: c71 :: c72 :: c73 :: c74 :: c75 :: c76 :: c77 :: c78 :: c79 :: c80 :: c81 :: c82 :: c83 :: c84 :: c85 :: c86 :: c87 :: c88 :: c89 :: c90 :: c91 :: c92 :: c93 :: c94 :: c95 :: c96 :: c97 :: c98 :: c99 :: c100 :: c101 :: c102 :: c103 :: c104 :: c105 :: c106 :: c107 :: c108 :: c109 :: c110 :: c111 :: c112 :: c113 :: c114 :: c115 :: c116 :: c117 :: c118 :: c119 :: c120 :: c121 :: c122 :: c123 :: c124 :: c125 :: c126 :: c127 :: c128 :: c129 :: c130 :: c131 :: c132 :: c133 :: c134 :: c135 :: c136 :: c137 :: c138 :: c139 :: c140 :: c141 :: c142 :: c143 :: c144 :: c145 :: c146 :: c147 :: c148 :: c149 :: c150 :: c151 :: c152 :: c153 :: c154 :: c155 :: c156 :: c157 :: c158 :: c159 :: c160 :: c161 :: c162 :: c163 :: c164 :: c165 :: c166 :: c167 :: c168 :: c169 :: c170 :: c171 :: c172 :: c173 :: c174 :: c175 :: c176 :: c177 :: c178 :: c179 :: c180 :: c181 :: c182 :: c183 :: c184 :: c185 :: c186 :: c187 :: c188 :: c189 :: c190 :: c191 :: c192 :: c193 :: c194 :: c195 :: c196 :: c197 :: c198 :: c199 :: c200 :: c201 :: c202 :: c203 :: c204 :: c205 :: c206 :: c207 :: c208 :: c209 :: c210 :: c211 :: c212 :: c213 :: c214 :: c215 :: c216 :: c217 :: c218 :: c219 :: c220 :: c221 :: c222 :: u223 :: u224 :: u225 :: u226 :: u227 :: u228 :: u229 :: u230 :: u231 :: u232 :: u233 :: u234 :: u235 :: u236 :: c237 :: c238 :: c239 :: c240 :: c241 :: c242 :: c243 :: c244 :: c245 :: c246 :: c247 :: c248 :: c249 :: c250 :: c251 :: c252 :: c253 :: c254 :: c255 :: c256 :: c257 :: c258 :: c259 :: c260 :: c261 :: c262 :: c263 :: c264 :: c265 :: c266 :: c267 :: c268 :: []), defers := [] } w') :
    Code.wp Tryd.prog (.loop (shaLoop 3)) Q0 { tmps := List.toArray (c0 :: c1 :: c2 :: c3 :: c4 :: (.slice (some ⟨gh, 0, none⟩) 8 ch) :: c6 :: c7 :: c8 :: c9 :: c10 :: c11 :: c12 :: c13 :: c14 :: (.slice (some ⟨gv, 0, none⟩) 8 cv) :: c16 :: c17 :: c18 :: c19 :: c20 :: c21 :: c22 :: c23 :: c24 :: c25 :: c26 :: (.int .i64 0) :: c28 :: c29 :: c30 :: c31 :: c32 :: c33 :: c34 :: c35 :: c36 :: c37 :: c38 :: c39 :: c40 :: c41 :: c42 :: c43 :: c44 :: c45 :: c46 :: c47 :: c48 :: c49 :: c50 :: c51 :: c52 :: c53 :: c54 :: c55 :: c56 :: c57 :: c58 :: c59 :: c60 :: c61 :: c62 :: c63 :: c64 :: c65 :: c66 :: c67 :: c68 :: c69 :: c70 :: c71 :: c72 :: c73 :: c74 :: c75 :: c76 :: c77 :: c78 :: c79 :: c80 :: c81 :: c82 :: c83 :: c84 :: c85 :: c86 :: c87 :: c88 :: c89 :: c90 :: c91 :: c92 :: c93 :: c94 :: c95 :: c96 :: c97 :: c98 :: c99 :: c100 :: c101 :: c102 :: c103 :: c104 :: c105 :: c106 :: c107 :: c108 :: c109 :: c110 :: c111 :: c112 :: c113 :: c114 :: c115 :: c116 :: c117 :: c118 :: c119 :: c120 :: c121 :: c122 :: c123 :: c124 :: c125 :: c126 :: c127 :: c128 :: c129 :: c130 :: c131 :: c132 :: c133 :: c134 :: c135 :: c136 :: c137 :: c138 :: c139 :: c140 :: c141 :: c142 :: c143 :: c144 :: c145 :: c146 :: c147 :: c148 :: c149 :: c150 :: c151 :: c152 :: c153 :: c154 :: c155 :: c156 :: c157 :: c158 :: c159 :: c160 :: c161 :: c162 :: c163 :: c164 :: c165 :: c166 :: c167 :: c168 :: c169 :: c170 :: c171 :: c172 :: c173 :: c174 :: c175 :: c176 :: c177 :: c178 :: c179 :: c180 :: c181 :: c182 :: c183 :: c184 :: c185 :: c186 :: c187 :: c188 :: c189 :: c190 :: c191 :: c192 :: c193 :: c194 :: c195 :: c196 :: c197 :: c198 :: c199 :: c200 :: c201 :: c202 :: c203 :: c204 :: c205 :: c206 :: c207 :: c208 :: c209 :: c210 :: c211 :: c212 :: c213 :: c214 :: c215 :: c216 :: c217 :: c218 :: c219 :: c220 :: c221 :: c222 :: c223 :: c224 :: c225 :: c226 :: c227 :: c228 :: c229 :: c230 :: c231 :: c232 :: c233 :: c234 :: c235 :: c236 :: c237 :: c238 :: c239 :: c240 :: c241 :: c242 :: c243 :: c244 :: c245 :: c246 :: c247 :: c248 :: c249 :: c250 :: c251 :: c252 :: c253 :: c254 :: c255 :: c256 :: c257 :: c258 :: c259 :: c260 :: c261 :: c262 :: c263 :: c264 :: c265 :: c266 :: c267 :: c268 :: []), defers := [] } wi := by
  conv => arg 2; arg 1; whnf
  have HX := Lib.hid hexit
  have HR0 := Lib.hid hR
  have HV0 := Lib.hid hv
  clear hexit hR hv
  go_loopw [27] (fun i w' => ∃ k : Nat, k ≤ 8 ∧ i = .int .i64 (k : Int) ∧ Rnd w w' g0 gh gm K H m restm (Sha.addK hs vs k) resth ∧ Blk w' gv 58 (u32s vs ++ restv)) (fun i _ => 8 - (intOf i).toNat)
  case atStart => exact ⟨0, by omega, rfl, HR0.out, HV0.out⟩
  case round =>
    obtain ⟨k, hk, rfl, hR, hV⟩ := hrel
    clear HR0 HV0
    by_cases hlt : k < 8
    · have hal := Sha.addK_len hs vs k
      have q0 := word_at hR.h.drew (k := k) (by omega)
      rw [Sha.addK_get] at q0
      have q1 := word_at hV.drew (k := k) (by omega)
      have l0 := Sha.getD_lt hlt1 k
      have l1 := Sha.getD_lt hlt2 k
      have HA : Hid (Sha.addK hs vs (k + 1) = (Sha.addK hs vs k).set k ((hs.getD k 0 + vs.getD k 0) % 4294967296)) := Lib.hid rfl
      have hx0 := hR.h.lt
      have hx1 := hV.lt
      generalize hs.getD k 0 = x at *
      generalize vs.getD k 0 = y at *
      have HR := Lib.hid hR.drew
      have HV := Lib.hid hV.drew
      have HQ0 := Lib.hid q0
      have HQ1 := Lib.hid q1
      clear hR hV q0 q1
      go_wp2
      refine wp_region_G grows (by kernel_rfl) ?_
      have hw0 : gh < wr.drew.heap.size := hx0
      have hw1 : gv < wr.drew.heap.size := hx1
      clear hx0 hx1
      generalize wr.drew = wa at *
      have q0 : ∀ x1 : Later grows wa, x1.to.cell? ⟨gh, k, none⟩ = some (.int .u32 (x : Int)) := fun x1 => by
        have hb : Below wa.heap.size wa x1.to := x1.grown
        exact cell_bel hb HQ0.out
      have q1 : ∀ x1 : Later grows wa, x1.to.cell? ⟨gv, k, none⟩ = some (.int .u32 (y : Int)) := fun x1 => by
        have hb : Below wa.heap.size wa x1.to := x1.grown
        exact cell_bel hb HQ1.out
      refine segG (by kernel_rfl) (by intro c a d v w h; exact hpan c a d v w h) [0, 1, 2, 3, 4, 5, 6, 7, 8, 9] [_, _, _, _, _, _, _, _, _, _] 1 rfl rfl (by kernel_rfl) ?_
      repeat (go_big_quiet_step (fail))
      refine wpQuiet_nil ?_
      clear q0 q1
      have hc := HQ0.out
      have hf := HR.out.h.frozen k
      have HR2 := Lib.hid (HR.out.set k ((x + y) % 4294967296) (by omega))
      rw [← HA.out] at HR2
      have HV2 := Lib.hid (HV.out.far (p := ⟨gh, k, none⟩) (by have := HR.out.o3; simp; omega) (.int .u32 (((x + y) % 4294967296 : Nat) : Int)))
      have hxy : (((x + y) % 4294967296 : Nat) : Int) = ((x : Int) + (y : Int)) % 4294967296 := by omega
      rw [hxy] at HR2 HV2
      clear hxy
      refine lateG 10 0 rfl (by kernel_rfl) (by kernel_rfl) rfl ?_
      go_wp2
      refine ⟨trivial, ?_⟩
      refine wpAnyG_done (by kernel_rfl) ?_
      go_wp2
      exact ⟨⟨k + 1, by omega, by go_num, HR2.out, HV2.out⟩, by simp [intOf]; omega⟩
    · obtain rfl : k = 8 := by omega
      go_wp2
      exact HX.out _ _ _ _ _ _ _ _ _ _ _ _ _ _ _ _ hR
end Go.Proofs.YtjhkodmaalefiaaDoor
namespace Go.Proofs.YtjhkodmaalefiaaDoor
open Go.RowKit Go.Gar

set_option maxHeartbeats 4000000 in
set_option maxRecDepth 100000 in
theorem shaL5 {c0 c1 c2 c3 c4 c6 c7 c8 c9 c10 c11 c12 c13 c14 c15 c16 c17 c18 c19 c20 c21 c22 c23 c24 c25 c26 c27 c30 c31 c32 c33 c34 c35 c36 c37 c38 c39 c40 c41 c42 c43 c44 c45 c46 c47 c48 c49 c50 c51 c52 c53 c54 c55 c56 c57 c58 c59 c60 c61 c62 c63 c64 c65 c66 c67 c68 c69 c70 c71 c72 c73 c74 c75 c76 c77 c78 c79 c80 c81 c82 c83 c84 c85 c86 c87 c88 c89 c90 c91 c92 c93 c94 c95 c96 c97 c98 c99 c100 c101 c102 c103 c104 c105 c106 c107 c108 c109 c110 c111 c112 c113 c114 c115 c116 c117 c118 c119 c120 c121 c122 c123 c124 c125 c126 c127 c128 c129 c130 c131 c132 c133 c134 c135 c136 c137 c138 c139 c140 c141 c142 c143 c144 c145 c146 c147 c148 c149 c150 c151 c152 c153 c154 c155 c156 c157 c158 c159 c160 c161 c162 c163 c164 c165 c166 c167 c168 c169 c170 c171 c172 c173 c174 c175 c176 c177 c178 c179 c180 c181 c182 c183 c184 c185 c186 c187 c188 c189 c190 c191 c192 c193 c194 c195 c196 c197 c198 c199 c200 c201 c202 c203 c204 c205 c206 c207 c208 c209 c210 c211 c212 c213 c214 c215 c216 c217 c218 c219 c220 c221 c222 c223 c224 c225 c226 c227 c228 c229 c230 c231 c232 c233 c234 c235 c236 c237 c238 c239 c240 c241 c242 c243 c244 c245 c246 c247 c248 c249 c250 c251 c252 c253 c254 c255 c256 c257 c258 c259 c260 c261 c262 c263 c264 c265 c266 c267 c268 : Value} {Q0 : Exit → Act → World → Prop} {w0 wi : World} {gh ch : Nat} {resth : List Value} {hs : List Nat} {v0 : Value}
    (hpan : ∀ (c : List PanicEntry) (a : Act) (d : Tmp) (v : Value) (w : World), Q0 (.panic c) (a.put (some d) v) w → Q0 (.panic c) a w)
    (hl : hs.length = 8) (hlt1 : ∀ x ∈ hs, x < 4294967296) (hh : Blk w0 gh 58 (u32s hs ++ resth)) (hO : OwnB wi w0.heap.size 5 v0 (Sha.outK hs 0)) (hb : Below w0.heap.size w0 wi)
    (hexit : ∀ (u29 u238 u239 u240 u241 u242 u243 u244 u245 u246 u247 u248 u249 u250 u251 u252 u253 u254 u255 u256 u257 u258 u259 u260 u261 u262 u263 u264 u265 u266 u267 : Value) (v : Value) (w' : World), OwnB w' w0.heap.size 5 v (Sha.outK hs 8) → Below w0.heap.size w0 w' → Q0 (.exit 8) { tmps := List.toArray (c0 :: c1 :: c2 :: c3 :: c4 :: (.slice (some ⟨gh, 0, none⟩) 8 ch) :: c6 :: c7 :: c8 :: c9 :: c10 :: c11 :: c12 :: c13 :: c14 :: c15 :: c16 :: c17 :: c18 :: c19 :: c20 :: c21 :: c22 :: c23 :: c24 :: c25 :: c26 :: c27 :: (v) :: u29 :: c30 :: c31 :: c32 :: c33 :: c34 :: c35 :: c36 :: c37 :: c38 :: c39 :: c40 :: c41 :: c42 :: c43 :: c44 :: c45 :: c46 :: c47 :: c48 :: c49 :: c50 :: c51 :: c52 :: c53 :: c54 :: c55 :: c56 :: c57 :: c58 :: c59 :: c60 :: c61 :: c62 :: c63 :: c64 :: c65 :: c66 :: c67 :: c68 :: c69 :: c70 :: c71 :: c72 :: c73 :: c74 :: c75 :: c76 :: c77 :: c78 :: c79 :: c80 :: c81 :: c82 :: c83 :: c84 :: c85 :: c86 :: c87 :: c88 :: c89 :: c90 :: c91 :: c92 :: c93 :: c94 :: c95 :: c96 :: c97 :: c98 :: c99 :: c100 :: c101 :: c102 :: c103 :: c104 :: c105 :: c106 :: c107 :: c108 :: c109 :: c110 :: c111 :: c112 :: c113 :: c114 :: c115 :: c116 :: c117 :: c118 :: c119 :: c120 :: c121 :: c122 :: c123 :: c124 :: c125 :: c126 :: c127 :: c128 :: c129 :: c130 :: c131 :: c132 :: c133 :: c134 :: c135 :: c136 :: c137 :: c138 :: c139 :: c140 :: c141 :: c142 :: c143 :: c144 :: c145 :: c146 :: c147 :: c148 :: c149 :: c150 :: c151 :: c152 :: c153 :: c154 :: c155 :: c156 :: c157 :: c158 :: c159 :: c160 :: c161 :: c162 :: c163 :: c164 :: c165 :: c166 :: c167 :: c168 :: c169 :: c170 :: c171 :: c172 :: c173 :: c174 :: c175 :: c176 :: c177 :: c178 :: c179 :: c180 :: c181 :: c182 :: c183 :: c184 :: c185 :: c186 :: c187 :: c188 :: c189 :: c190 :: c191 :: c192 :: c193 :: c194 :: c195 :: c196 :: c197 :: c198 :: c199 :: c200 :: c201 :: c202 :: c203 :: c204 :: c205 :: c206 :: c207 :: c208 :: c209 :: c210 :: c211 :: c212 :: c213 :: c214 :: c215 :: c216 :: c217 :: c218 :: c219 :: c220 :: c221 :: c222 :: c223 :: c224 :: c225 :: c226 :: c227 :: c228 :: c229 :: c230 :: c231 :: c232 :: c233 :: c234 :: c235 :: c236 :: c237 :: u238 :: u239 :: u240 :: u241 :: u242 :: u243 :: u244 :: u245 :: u246 :: u247 :: u248 :: u249 :: u250 :: u251 :: u252 :: u253 :: u254 :: u255 :: u256 :: u257 :: u258 :: u259 :: u260 :: u261 :: u262 :: u263 :: u264 :: u265 :: u266 :: u267 :: c268 :: []), defers := [] } w') :
    Code.wp Tryd.prog (.loop (shaLoop 4)) Q0 { tmps := List.toArray (c0 :: c1 :: c2 :: c3 :: c4 :: (.slice (some ⟨gh, 0, none⟩) 8 ch) :: c6 :: c7 :: c8 :: c9 :: c10 :: c11 :: c12 :: c13 :: c14 :: c15 :: c16 :: c17 :: c18 :: c19 :: c20 :: c21 :: c22 :: c23 :: c24 :: c25 :: c26 :: c27 :: (v0) :: (.int .i64 0) :: c30 :: c31 :: c32 :: c33 :: c34 :: c35 :: c36 :: c37 :: c38 :: c39 :: c40 :: c41 :: c42 :: c43 :: c44 :: c45 :: c46 :: c47 :: c48 :: c49 :: c50 :: c51 :: c52 :: c53 :: c54 :: c55 :: c56 :: c57 :: c58 :: c59 :: c60 :: c61 :: c62 :: c63 :: c64 :: c65 :: c66 :: c67 :: c68 :: c69 :: c70 :: c71 :: c72 :: c73 :: c74 :: c75 :: c76 :: c77 :: c78 :: c79 :: c80 :: c81 :: c82 :: c83 :: c84 :: c85 :: c86 :: c87 :: c88 :: c89 :: c90 :: c91 :: c92 :: c93 :: c94 :: c95 :: c96 :: c97 :: c98 :: c99 :: c100 :: c101 :: c102 :: c103 :: c104 :: c105 :: c106 :: c107 :: c108 :: c109 :: c110 :: c111 :: c112 :: c113 :: c114 :: c115 :: c116 :: c117 :: c118 :: c119 :: c120 :: c121 :: c122 :: c123 :: c124 :: c125 :: c126 :: c127 :: c128 :: c129 :: c130 :: c131 :: c132 :: c133 :: c134 :: c135 :: c136 :: c137 :: c138 :: c139 :: c140 :: c141 :: c142 :: c143 :: c144 :: c145 :: c146 :: c147 :: c148 :: c149 :: c150 :: c151 :: c152 :: c153 :: c154 :: c155 :: c156 :: c157 :: c158 :: c159 :: c160 :: c161 :: c162 :: c163 :: c164 :: c165 :: c166 :: c167 :: c168 :: c169 :: c170 :: c171 :: c172 :: c173 :: c174 :: c175 :: c176 :: c177 :: c178 :: c179 :: c180 :: c181 :: c182 :: c183 :: c184 :: c185 :: c186 :: c187 :: c188 :: c189 :: c190 :: c191 :: c192 :: c193 :: c194 :: c195 :: c196 :: c197 :: c198 :: c199 :: c200 :: c201 :: c202 :: c203 :: c204 :: c205 :: c206 :: c207 :: c208 :: c209 :: c210 :: c211 :: c212 :: c213 :: c214 :: c215 :: c216 :: c217 :: c218 :: c219 :: c220 :: c221 :: c222 :: c223 :: c224 :: c225 :: c226 :: c227 :: c228 :: c229 :: c230 :: c231 :: c232 :: c233 :: c234 :: c235 :: c236 :: c237 :: c238 :: c239 :: c240 :: c241 :: c242 :: c243 :: c244 :: c245 :: c246 :: c247 :: c248 :: c249 :: c250 :: c251 :: c252 :: c253 :: c254 :: c255 :: c256 :: c257 :: c258 :: c259 :: c260 :: c261 :: c262 :: c263 :: c264 :: c265 :: c266 :: c267 :: c268 :: []), defers := [] } wi := by
  conv => arg 2; arg 1; whnf
  have HX := Lib.hid hexit
  have HO0 := Lib.hid hO
  have HB0 := Lib.hid hb
  have Hh := Lib.hid hh
  clear hexit hO hb hh
  go_loopw [28, 29] (fun v i w' => ∃ k : Nat, k ≤ 8 ∧ i = .int .i64 (k : Int) ∧ OwnB w' w0.heap.size 5 v (Sha.outK hs k) ∧ Below w0.heap.size w0 w') (fun _ i _ => 8 - (intOf i).toNat)
  case atStart => exact ⟨0, by omega, rfl, HO0.out, HB0.out⟩
  case round =>
    obtain ⟨k, hk, rfl, hO, hb⟩ := hrel
    clear HO0 HB0
    by_cases hlt : k < 8
    · have q0 := cell_bel hb (word_at Hh.out (k := k) (by omega))
      have l0 := Sha.getD_lt hlt1 k
      have HA : Hid (Sha.outK hs (k + 1) = Sha.outK hs k ++ Sha.be4 (hs.getD k 0)) := Lib.hid (Sha.outK_succ hs k (by omega))
      have hol := Sha.outK_len hs k (by omega)
      generalize hs.getD k 0 = x at *
      have HO : Hid (OwnB wr.drew w0.heap.size 5 u28 (Sha.outK hs k)) := Lib.hid hO
      have HB := Lib.hid hb.drew
      have HQ0 : Hid (wr.drew.cell? ⟨gh, k, none⟩ = some (.int .u32 (x : Int))) := Lib.hid q0
      have hw0 : gh < wr.drew.heap.size := Nat.lt_of_lt_of_le Hh.out.lt HB.out.size
      clear hO hb q0
      go_wp2
      refine wp_region_G grows (by kernel_rfl) ?_
      generalize wr.drew = wa at *
      have q0 : ∀ x1 : Later grows wa, x1.to.cell? ⟨gh, k, none⟩ = some (.int .u32 (x : Int)) := fun x1 => by
        have hb : Below wa.heap.size wa x1.to := x1.grown
        exact cell_bel hb HQ0.out
      refine segG (by kernel_rfl) (by intro c a d v w h; exact hpan c a d v w h) [0, 1, 2, 3, 4, 5, 6, 7, 8, 9] [_, _, _, _, _, _, _, _, _, _] 17 rfl rfl (by kernel_rfl) ?_
      repeat (go_big_quiet_step (fail))
      refine wpQuiet_nil ?_
      refine segG (by kernel_rfl) (by intro c a d v w h; exact hpan c a d v w h) [10, 11, 12, 13, 14, 15, 16, 17, 18, 19] [_, _, _, _, _, _, _, _, _, _] 7 rfl rfl (by kernel_rfl) ?_
      repeat (go_big_quiet_step (fail))
      refine wpQuiet_nil ?_
      refine segG (by kernel_rfl) (by intro c a d v w h; exact hpan c a d v w h) [20, 21, 22, 23] [_, _, _, _] 3 rfl rfl (by kernel_rfl) ?_
      repeat (go_big_quiet_step (fail))
      refine wpQuiet_nil ?_
      clear q0
      have hb4 : Blk (wa.alloc (.cells #[.int .u8 ((x : Int) / 16777216), .int .u8 ((x : Int) / 65536 % 256), .int .u8 ((x : Int) / 256 % 256), .int .u8 ((x : Int) % 256)] 5)) wa.heap.size 5 (u8s (Sha.be4 x)) := by
        have e : u8s (Sha.be4 x) = [.int .u8 ((x : Int) / 16777216), .int .u8 ((x : Int) / 65536 % 256), .int .u8 ((x : Int) / 256 % 256), .int .u8 ((x : Int) % 256)] := by
          simp only [u8s, Sha.be4, List.map_cons, List.map_nil, UInt8.toNat_ofNat']
          rw [show ((x / 2 ^ 24 % 2 ^ 8 : Nat) : Int) = (x : Int) / 16777216 from by omega, show ((x / 2 ^ 16 % 2 ^ 8 : Nat) : Int) = (x : Int) / 65536 % 256 from by omega, show ((x / 2 ^ 8 % 2 ^ 8 : Nat) : Int) = (x : Int) / 256 % 256 from by omega, show ((x % 2 ^ 8 : Nat) : Int) = (x : Int) % 256 from by omega]
        rw [e]
        exact Blk.new wa _ _
      obtain ⟨v', w3, h1, h2, h3, h4⟩ := app_rd (P := Tryd.prog) 26 26 Tryd.und22 Tryd.info5 (HO.out.alloc _) (by rw [World.size_alloc]; have := HB.out.size; omega) 4 (Rd.of_all hb4) (by rw [hol]; simp [Sha.be4]; omega)
      rw [← HA.out] at h2
      have h1' : (Builtin.append_ #[26, 26] 26 #[u28, .slice (some ⟨wa.heap.size, 0, none⟩) 4 4]).run Tryd.prog (wa.alloc (.cells #[.int .u8 ((x : Int) / 16777216), .int .u8 ((x : Int) / 65536 % 256), .int .u8 ((x : Int) / 256 % 256), .int .u8 ((x : Int) % 256)] 5)) = .ok v' w3 := h1
      have H2 := Lib.hid h2
      have H3 := Lib.hid ((HB.out.alloc HB.out.size _).trans h3)
      clear h1 h2 h3 h4 hb4 HA
      refine oneG 24 2 rfl (by kernel_rfl) rfl ?_
      go_wp2
      refine ⟨below_alloc _ _, ?_⟩
      refine lateG 25 1 rfl (by kernel_rfl) (by kernel_rfl) rfl ?_
      go_wp2_with (at_builtin; refine wpList_append_run rfl (.tmp 242) (.tmp 266) _ rfl rfl rfl h1' ?_)
      refine ⟨trivial, ?_⟩
      clear h1'
      simp only [Act.put, List.setIfInBounds_toArray, List.set]
      refine segG (by kernel_rfl) (by intro c a d v w h; exact hpan c a d v w h) [26] [_] 0 rfl rfl (by kernel_rfl) ?_
      repeat (go_big_quiet_step (fail))
      refine wpQuiet_nil ?_
      refine wpAnyG_done (by kernel_rfl) ?_
      go_wp2
      exact ⟨⟨k + 1, by omega, by go_num, H2.out, H3.out⟩, by simp [intOf]; omega⟩
    · obtain rfl : k = 8 := by omega
      go_wp2
      exact HX.out _ _ _ _ _ _ _ _ _ _ _ _ _ _ _ _ _ _ _ _ _ _ _ _ _ _ _ _ _ _ _ _ _ hO hb
end Go.Proofs.YtjhkodmaalefiaaDoor
namespace Go.Proofs.YtjhkodmaalefiaaDoor
open Go.RowKit Go.Gar

set_option maxHeartbeats 4000000 in
set_option maxRecDepth 100000 in
theorem refOf5_any (w : World) (AK AH : Option Addr) (cK cH : Nat) (A : Option Addr) (l : List UInt8) (len cap : Nat) (hK : RdV w w.heap.size AK (u32s Sha.kL)) (hH : RdV w w.heap.size AH (u32s Sha.hL))
    (hlen : len = l.length) (hr : Rd w w.heap.size A l) (hl : l.length ≤ 1048576) :
    Calls Tryd.prog 30 #[.agg #[.slice AK 64 cK, .slice AH 8 cH], .slice A len cap] w fun e w' => ∃ v, e = .returned v ∧ OwnB w' w.heap.size 5 v (Sha.of l) ∧ Below w.heap.size w w' := by
  obtain ⟨bk, ok, rfl, hbk, hck⟩ : ∃ b o, AK = some ⟨b, o, none⟩ ∧ b < w.heap.size ∧ ∀ i, i < 64 → w.cell? ⟨b, o + i, none⟩ = some (.int .u32 ((Sha.kL.getD i 0 : Nat) : Int)) := by
    rcases hK with h | ⟨b, o, h1, h2, h3⟩
    · exact absurd (congrArg List.length h) (by rw [u32s_len, Sha.kL_len]; simp)
    · exact ⟨b, o, h1, h2, fun i hi => h3 i _ (u32s_get _ i (by rw [Sha.kL_len]; exact hi))⟩
  obtain ⟨bh, oh, rfl, hbh, hch⟩ : ∃ b o, AH = some ⟨b, o, none⟩ ∧ b < w.heap.size ∧ ∀ i u, (u32s Sha.hL)[i]? = some u → w.cell? ⟨b, o + i, none⟩ = some u := by
    rcases hH with h | ⟨b, o, h1, h2, h3⟩
    · exact absurd (congrArg List.length h) (by rw [u32s_len, Sha.hL_len]; simp)
    · exact ⟨b, o, h1, h2, h3⟩
  have HCK := Lib.hid hck
  clear hK hH hck
  obtain ⟨w1, hw1⟩ : ∃ w1, w1 = w.alloc (.cells #[.slice (some ⟨bk, ok, none⟩) 64 cK, .slice (some ⟨bh, oh, none⟩) 8 cH] 35) := ⟨_, rfl⟩
  have hs1 : w1.heap.size = w.heap.size + 1 := by rw [hw1, World.size_alloc]
  have hb1 : Below w.heap.size w w1 := by rw [hw1]; exact below_alloc w _
  have hx1 : Blk w1 w.heap.size 35 [.slice (some ⟨bk, ok, none⟩) 64 cK, .slice (some ⟨bh, oh, none⟩) 8 cH] := by rw [hw1]; exact Blk.new w _ _
  have hb2 : Below w1.heap.size w1 (w1.alloc (.cells #[] 58)) := below_alloc w1 _
  obtain ⟨v3, w3, e3, ho3, hb3, -⟩ := appV (P := Tryd.prog) 33 33 Tryd.undU32s Tryd.infoU32 rfl (ownV_made w1 w1.heap.size 58 (Nat.le_refl _)) (by rw [World.size_alloc]; omega) ⟨bh, oh, none⟩ cH 8 (u32s Sha.hL) (u32s_one _) (by rw [u32s_len, Sha.hL_len]) (fun j u hu => by
    rw [Addr.add_lit, ← hch j u hu]
    exact ((hb1.trans (hb2.mono hb1.size)).cell (p := ⟨bh, oh + j, none⟩) hbh)) (by simp [u32s_len, Sha.hL_len]) (by omega)
  rw [List.nil_append] at ho3
  obtain ⟨gh, ch, resth, rfl, hgh, -, hBh⟩ := ho3.blk (by rw [u32s_len, Sha.hL_len]; omega)
  rw [u32s_len, Sha.hL_len] at e3
  have hb13 : Below w1.heap.size w1 w3 := hb2.trans hb3
  have hb03 : Below w.heap.size w w3 := hb1.trans (hb13.mono hb1.size)
  have hx3 := hx1.below hb13 (by omega)
  have hr3 : Rd w3 w3.heap.size A l := (hr.below hb03).more hb03.size
  have HR3 : Hid (Rd w3 w3.heap.size A l) := Lib.hid hr3
  have hf1 := (hx1.alloc (.cells #[] 58)).cell 1
  clear hr hr3 ho3 hb3 hb2 hch
  have HX3 := Lib.hid hx3
  have HBh := Lib.hid hBh
  have Hb03 := Lib.hid hb03
  have Hb13 := Lib.hid hb13
  have hghl := hBh.lt
  clear hx3 hBh hb03 hb13 hx1 hb1
  rw [hs1] at e3 hgh Hb13
  have Hgh := Lib.hid hgh
  have HL := Lib.hid hlen
  have HL2 := Lib.hid hl
  clear hgh hlen hl hs1
  subst hw1
  have hgh3 : w.heap.size + 1 ≤ gh := Hgh.out
  go_enter Tryd.func30, Tryd.ntmps30
  go_wp2_with (at_builtin; refine wpList_append_run rfl (.tmp 30) (.tmp 32) _ rfl rfl rfl e3 ?_)
  clear e3 hf1
  refine (message_any w3 A l len cap HL.out HR3.out HL2.out).mono ?_
  rintro e w4 ⟨vm, rfl, hom, hbm⟩
  obtain ⟨gm, cm, restm, rfl, hgm, -, hBm⟩ := hom.blk (by rw [Sha.msg, List.length_append, Sha.be8K_len]; omega)
  have hml := Sha.msg_len l
  have HOF : Hid (Sha.of l = Sha.out (Sha.hashN (Sha.msg l) ((Sha.msg l).length / 64))) := Lib.hid rfl
  have hmx : (Sha.msg l).length ≤ 1048700 := by
    have h1 : Sha.zeros l < 64 := Nat.mod_lt _ (by omega)
    have := HL2.out
    rw [Sha.msg, List.length_append, Sha.msgK_len, Sha.be8K_len]; omega
  have HR0 : Hid (Rnd w w4 w.heap.size gh gm (.slice (some ⟨bk, ok, none⟩) 64 cK) (.slice (some ⟨bh, oh, none⟩) 8 cH) (Sha.msg l) restm (Sha.hashN (Sha.msg l) 0).list resth) := Lib.hid
    ⟨HX3.out.below hbm (by omega), HBh.out.below hbm hghl, hBm, Hb03.out.trans (hbm.mono Hb03.out.size), Nat.le_refl _, by omega, by omega⟩
  clear hom hbm hBm HX3 HBh HR3 HL HL2 Hb03 Hb13
  generalize Sha.msg l = m at *
  obtain ⟨N, hN⟩ : ∃ N, m.length = 64 * N := ⟨m.length / 64, by omega⟩
  have HOF' : Hid (Sha.of l = Sha.out (Sha.hashN m N)) := Lib.hid (by rw [HOF.out, hN, Nat.mul_div_cancel_left _ (by omega)])
  rw [hN]
  clear HOF hml
  go_wp2
  go_loopw [7] (fun i wr => ∃ j : Nat, j ≤ N ∧ i = .int .i64 (64 * (j : Int)) ∧ Rnd w wr w.heap.size gh gm (.slice (some ⟨bk, ok, none⟩) 64 cK) (.slice (some ⟨bh, oh, none⟩) 8 cH) m restm (Sha.hashN m j).list resth) (fun i _ => 64 * N + 64 - (intOf i).toNat)
  case atStart => exact ⟨0, by omega, rfl, HR0.out⟩
  case round =>
    obtain ⟨j, hj, rfl, hR⟩ := hrel
    clear HR0
    by_cases hlt : j < N
    · have hdl : decide (64 * (j : Int) < 64 * (N : Int)) = true := by simp; omega
      have HR := Lib.hid hR
      obtain ⟨s, hs⟩ : ∃ s, Sha.hashN m j = s := ⟨_, rfl⟩
      have HS : Hid (Sha.hashN m (j + 1) = Sha.comp s m (64 * j)) := Lib.hid (by rw [← hs]; rfl)
      have HSok : Hid s.ok := Lib.hid (by rw [← hs]; exact Sha.hashN_ok m j)
      rw [hs] at HR
      clear hs hR
      obtain ⟨p, hp⟩ : ∃ p, 64 * j = p := ⟨_, rfl⟩
      have hpi : (64 : Int) * (j : Int) = (p : Int) := by omega
      have hpl : p + 64 ≤ m.length := by omega
      rw [hp] at HS
      rw [hpi] at hdl ⊢
      have HPI := Lib.hid hpi
      have HPJ := Lib.hid hp
      have HN := Lib.hid hN
      clear hp hpi hN
      have HO2 := Lib.hid (ownV_made wr wr.heap.size 58 (Nat.le_refl _))
      have Hb2 := Lib.hid (below_alloc wr (.cells #[] 58))
      have hgm4 := HR.out.m.lt
      go_wp2
      generalize wr.alloc (.cells #[] 58) = wi at HO2 Hb2 ⊢
      refine shaL2 (fun _ _ _ _ _ h => h) HN.out.symm hpl hmx HR.out.m HO2.out Hb2.out ?_
      intros
      rename_i v2 w5 hO5 hb5
      have hwl5 := Sha.wK_len m p 64
      obtain ⟨gw, cw, restw, rfl, hgw, -, hBw⟩ := hO5.blk (by rw [u32s_len, hwl5]; omega)
      have HBw := Lib.hid hBw
      have R5 := HR.out.on hb5 hgm4
      have hs5 := hb5.size
      rw [u32s_len, hwl5]
      have hb6 : Below w5.heap.size w5 (w5.alloc (.cells #[] 58)) := below_alloc w5 _
      obtain ⟨v6, w6, e6, ho6, hb66, -⟩ := appV (P := Tryd.prog) 33 33 Tryd.undU32s Tryd.infoU32 rfl (ownV_made w5 w5.heap.size 58 (Nat.le_refl _)) (by rw [World.size_alloc]; omega) ⟨gh, 0, none⟩ ch 8 (u32s s.list) (u32s_one _) (by rw [u32s_len, Sha.St.list_len]) (fun i u hu => by
        rw [Addr.add_lit, Nat.zero_add, ((R5.h.below hb6 R5.h.lt)).cell, List.getElem?_append_left (List.getElem?_eq_some_iff.1 hu).1, hu]) (by rw [u32s_len, Sha.St.list_len]; simp) (by omega)
      rw [List.nil_append] at ho6
      obtain ⟨gv, cv, restv, rfl, hgv, -, hBv⟩ := ho6.blk (by rw [u32s_len, Sha.St.list_len]; omega)
      rw [u32s_len, Sha.St.list_len] at e6
      have hb56 : Below w5.heap.size w5 w6 := hb6.trans hb66
      have R6 := R5.on hb56 (by omega)
      have hK6 : ∀ i, i < 64 → w6.cell? ⟨bk, ok + i, none⟩ = some (.int .u32 ((Sha.kL.getD i 0 : Nat) : Int)) := fun i hi => cell_bel R6.below (HCK.out i hi)
      have hgm6 : gm < w6.heap.size := R6.m.lt
      have HR6 := Lib.hid R6
      have HBv := Lib.hid hBv
      have HK6 := Lib.hid hK6
      have HW6 := Lib.hid (hBw.below hb56 hBw.lt)
      clear R5 R6 hBv hK6 hBw hb6 hb66 hb56 ho6 hO5 hb5 HBw HR
      go_wp2_with (at_builtin; refine wpList_append_run rfl (.tmp 129) (.tmp 130) _ rfl rfl rfl e6 ?_)
      clear e6
      refine shaL3 (lo := gm) (fun _ _ _ _ _ h => h) (by omega) hgm6 hwl5 (Sha.wK_lt m p 64) HSok.out HR6.out.box HK6.out HW6.out HBv.out ?_
      intros
      rename_i g7 c7 rest7 w7 hB7 hg7 hb7
      have HR7 := Lib.hid (HR6.out.on hb7 hgm6)
      have HB7 := Lib.hid hB7
      clear HR6 HBv HK6 HW6 hB7 hb7
      go_wp2
      refine shaL4 (fun _ _ _ _ _ h => h) (Sha.St.list_len s) (Sha.St.list_len _) HSok.out (Sha.vK_ok _ HSok.out 64) HR7.out HB7.out hg7 ?_
      intros
      rename_i w8 hR8
      rw [Sha.addK_end, show s.add (Sha.vK (Sha.wK m p 64) s 64) = Sha.comp s m p from rfl, ← HS.out] at hR8
      have HR8 := Lib.hid hR8
      clear HR7 HB7 hR8
      go_wp2
      refine ⟨⟨j + 1, by omega, ?_, HR8.out⟩, ?_⟩
      · rw [← HPI.out]; congr 1
      · have := HPJ.out
        simp [intOf]; omega
    · obtain rfl : j = N := by omega
      have HR := Lib.hid hR
      have HO2 := Lib.hid (own_made wr wr.heap.size 5 (Nat.le_refl _))
      have Hb2 := Lib.hid (below_alloc wr (.cells #[] 5))
      clear hR
      go_wp2
      generalize wr.alloc (.cells #[] 5) = wi at HO2 Hb2 ⊢
      refine shaL5 (fun _ _ _ _ _ h => h) (Sha.St.list_len _) (Sha.hashN_ok m j) HR.out.h (hs := (Sha.hashN m j).list) HO2.out Hb2.out ?_
      intros
      rename_i v9 w9 hO9 hb9
      have HO9 : Hid (OwnB w9 wr.heap.size 5 v9 (Sha.of l)) := Lib.hid (by rw [HOF'.out]; exact hO9)
      have HB9 := Lib.hid (HR.out.below.trans (hb9.mono HR.out.below.size))
      clear hO9 hb9
      go_wp2
      go_ret
      exact ⟨_, rfl, ownB_lower HO9.out HR.out.below.size, HB9.out⟩
end Go.Proofs.YtjhkodmaalefiaaDoor
namespace Go.Gar
open Go.RowKit

/-- append, guarded or not, that is wanted and whose run is known. -/
theorem wpList_append_run_w {P : Program} {w : World} {ops : Array Oper} {rest : List Oper} {o : Oper} {a : Act} {Q : Exit → Act → World → Prop} (s x : Operand) (ts : Array TypeId)
    (ho : o.op = .call { callee := .builtin .append, args := #[s, x], argTypes := ts }) {vs vx v : Value} {w' : World} (hs : a.eval s = vs) (hx : a.eval x = vx)
    (hrun : (Builtin.append_ ts o.type #[vs, vx]).run P w = .ok v w') (hw : Region.wanted o (yielded ops a.tmps) = true) (h : wpList P ops Q rest (a.put o.dst v) w') : wpList P ops Q (o :: rest) a w := by
  refine wpList_run_w hw (v := v) (w' := w') ?_ h
  unfold execOp
  simp only [ho, resolve, invoke, builtin, Sem.run_bind, Sem.run_pure, Result.andThen_ok, List.map_toArray, List.map_cons, List.map_nil, hs, hx, hrun]

/-- Only that block k stays is asked. -/
def stays (k : Nat) : Growth := ⟨fun w w' => w'.heap[k]? = w.heap[k]?, fun _ => rfl, fun h k => k.trans h⟩

/-- Two rows of the call's own (from block base + 1 on), block k beside them, and the bytes that wait to be appended. -/
structure Two (w W : World) (base k : Nat) (e : TypeId) (x y : Value) (l m : List UInt8) (s t : Option (Nat × UInt8)) : Prop where
  ox : OwnB W base e x l
  oy : OwnB W base e y m
  apart : ∀ g, x.ownBlock = some g → y.ownBlock ≠ some g
  nx : ∀ g, x.ownBlock = some g → base < g ∧ g ≠ k
  ny : ∀ g, y.ownBlock = some g → base < g ∧ g ≠ k
  sx : ∀ g c, s = some (g, c) → Blk W g e (u8s [c]) ∧ x.ownBlock ≠ some g ∧ y.ownBlock ≠ some g ∧ base < g ∧ g ≠ k
  sy : ∀ g c, t = some (g, c) → Blk W g e (u8s [c]) ∧ x.ownBlock ≠ some g ∧ y.ownBlock ≠ some g ∧ base < g ∧ g ≠ k
  below : Below base w W
  keepB : W.heap[base]? = w.heap[base]?
  keepK : W.heap[k]? = w.heap[k]?
  lt : base < W.heap.size ∧ k < W.heap.size
section
variable {P : Program} {w W : World} {base k : Nat} {e : TypeId} {x y : Value} {l m : List UInt8} {s t : Option (Nat × UInt8)}
theorem Two.swap (h : Two w W base k e x y l m s t) : Two w W base k e y x m l t s :=
  ⟨h.oy, h.ox, fun g hy hx => h.apart g hx hy, h.ny, h.nx, fun g c hg => by obtain ⟨a, b, c, d⟩ := h.sy g c hg; exact ⟨a, c, b, d⟩, fun g c hg => by obtain ⟨a, b, c, d⟩ := h.sx g c hg; exact ⟨a, c, b, d⟩, h.below, h.keepB, h.keepK, h.lt⟩
theorem Two.made (h : Two w W base k e x y l m none t) (c : UInt8) : Two w (W.alloc (.cells (u8s [c]).toArray e)) base k e x y l m (some (W.heap.size, c)) t := by
  have hlx : ∀ g, x.ownBlock = some g → g < W.heap.size := fun g hg => (h.ox.block_lt hg).2
  have hly : ∀ g, y.ownBlock = some g → g < W.heap.size := fun g hg => (h.oy.block_lt hg).2
  have hl := h.lt
  refine ⟨h.ox.alloc _, h.oy.alloc _, h.apart, h.nx, h.ny, fun g d hg => ?_, fun g d hg => ?_, h.below.alloc (by omega) _, (Below.heap_alloc W _ base (by omega)).trans h.keepB, (Below.heap_alloc W _ k (by omega)).trans h.keepK, by rw [World.size_alloc]; omega⟩
  · cases hg
    exact ⟨Blk.new W e (u8s [c]), fun hx => by have := hlx _ hx; omega, fun hy => by have := hly _ hy; omega, by omega, by omega⟩
  · obtain ⟨a, b⟩ := h.sy g d hg
    exact ⟨a.alloc _, b⟩
theorem Two.app {ty : TypeId} (tt : TypeId) (ht : P.underlying tt = some (.slice e)) (hinfo : (P.info? e).map (fun i => (i.zero, i.size, i.bytes)) = some (some (.int .u8 0), 1, 1))
    {g : Nat} {c : UInt8} (h : Two w W base k e x y l m (some (g, c)) t) (hlen : l.length ≤ 1099511627775) :
    ∃ x' W', (Builtin.append_ #[tt, tt] ty #[x, .slice (some ⟨g, 0, none⟩) 1 1]).run P W = .ok x' W' ∧ Two w W' base k e x' y (l ++ [c]) m (some (g, c)) t ∧ (stays k).rel W W' := by
  obtain ⟨hg, hgx, hgy, hgb, hgk⟩ := h.sx g c rfl
  have hl := h.lt
  obtain ⟨x', W', a1, a2, a3, a4⟩ := app_at (P := P) tt ty ht hinfo h.ox (by omega) 1 1 rfl (Rd.of_all hg) (by simpa using hlen)
  have hkB : W'.heap[base]? = W.heap[base]? := a3.block base (by omega) (fun e => by have := h.nx _ e.symm; omega)
  have hkK : W'.heap[k]? = W.heap[k]? := a3.block k (by omega) (fun e => by have := h.nx _ e.symm; omega)
  have hx' : ∀ q, x'.ownBlock = some q → x.ownBlock = some q ∨ q = W.heap.size := fun q hq => by
    rcases a4 with e | e
    · exact .inl (e.symm.trans hq)
    · exact .inr (Option.some.inj (hq.symm.trans e))
  have src : ∀ q d, Blk W q e (u8s [d]) → x.ownBlock ≠ some q → y.ownBlock ≠ some q → base < q → q ≠ k → Blk W' q e (u8s [d]) ∧ x'.ownBlock ≠ some q ∧ y.ownBlock ≠ some q ∧ base < q ∧ q ≠ k := fun q d hq h1 h2 h3 h4 =>
    ⟨hq.grown a3 (fun e => h1 e.symm), fun e => by
      rcases hx' q e with h5 | h5
      · exact h1 h5
      · have := hq.lt; omega, h2, h3, h4⟩
  refine ⟨x', W', a1, ⟨a2, h.oy.far a3 (fun q hq e => h.apart q e hq), fun q hq hy => ?_, fun q hq => ?_, h.ny, fun q d hq => ?_, fun q d hq => ?_, h.below.grown a3 (by omega) (fun q hq => by have := h.nx q hq; omega), hkB.trans h.keepB, hkK.trans h.keepK, by have := a3.size; omega⟩, hkK⟩
  · rcases hx' q hq with h5 | h5
    · exact h.apart q h5 hy
    · have := (h.oy.block_lt hy).2; omega
  · rcases hx' q hq with h5 | h5
    · exact h.nx q h5
    · omega
  · cases hq
    exact src g c hg hgx hgy hgb hgk
  · obtain ⟨b1, b2, b3, b4, b5⟩ := h.sy q d hq
    exact src q d b1 b2 b3 b4 b5
theorem Two.madeR (h : Two w W base k e x y l m s none) (c : UInt8) : Two w (W.alloc (.cells (u8s [c]).toArray e)) base k e x y l m s (some (W.heap.size, c)) := (h.swap.made c).swap
theorem Two.appR {ty : TypeId} (tt : TypeId) (ht : P.underlying tt = some (.slice e)) (hinfo : (P.info? e).map (fun i => (i.zero, i.size, i.bytes)) = some (some (.int .u8 0), 1, 1))
    {g : Nat} {c : UInt8} (h : Two w W base k e x y l m s (some (g, c))) (hlen : m.length ≤ 1099511627775) :
    ∃ y' W', (Builtin.append_ #[tt, tt] ty #[y, .slice (some ⟨g, 0, none⟩) 1 1]).run P W = .ok y' W' ∧ Two w W' base k e x y' l (m ++ [c]) s (some (g, c)) ∧ (stays k).rel W W' := by
  obtain ⟨y', W', a, b, c⟩ := h.swap.app (ty := ty) tt ht hinfo hlen
  exact ⟨y', W', a, b.swap, c⟩
theorem Two.done (h : Two w W base k e x y l m s t) : Two w W base k e x y l m none none :=
  ⟨h.ox, h.oy, h.apart, h.nx, h.ny, fun _ _ e => (by cases e), fun _ _ e => (by cases e), h.below, h.keepB, h.keepK, h.lt⟩
theorem Two.drew (h : Two w W base k e x y l m s t) : Two w W.drew base k e x y l m s t :=
  ⟨h.ox, h.oy, h.apart, h.nx, h.ny, h.sx, h.sy, h.below.drew, h.keepB, h.keepK, h.lt⟩
theorem stays_alloc {o : Obj} (h : k < W.heap.size) : (stays k).rel W (W.alloc o) := Below.heap_alloc W o k h
end
end Go.Gar
