/-
  The reference's Of of layer 5: its loop that adds up.
-/
import Derived.Test.YtpaagjhohfjopaaDoorShaRefN
import Derived.Test.YtpaagjhohfjopaaDoorShaRefC
import Derived.Test.YtpaagjhohfjopaaDoorShaBits
set_option maxRecDepth 100000
namespace Go.Proofs.YtpaagjhohfjopaaDoor
open Go.RowKit Go.Gar

set_option maxHeartbeats 4000000 in
set_option maxRecDepth 100000 in
theorem shaL4 {c0 c1 c2 c3 c4 c6 c7 c8 c9 c10 c11 c12 c13 c14 c16 c17 c18 c19 c20 c21 c22 c23 c24 c25 c26 c28 c29 c30 c31 c32 c33 c34 c35 c36 c37 c38 c39 c40 c41 c42 c43 c44 c45 c46 c47 c48 c49 c50 c51 c52 c53 c54 c55 c56 c57 c58 c59 c60 c61 c62 c63 c64 c65 c66 c67 c68 c69 c70 c71 c72 c73 c74 c75 c76 c77 c78 c79 c80 c81 c82 c83 c84 c85 c86 c87 c88 c89 c90 c91 c92 c93 c94 c95 c96 c97 c98 c99 c100 c101 c102 c103 c104 c105 c106 c107 c108 c109 c110 c111 c112 c113 c114 c115 c116 c117 c118 c119 c120 c121 c122 c123 c124 c125 c126 c127 c128 c129 c130 c131 c132 c133 c134 c135 c136 c137 c138 c139 c140 c141 c142 c143 c144 c145 c146 c147 c148 c149 c150 c151 c152 c153 c154 c155 c156 c157 c158 c159 c160 c161 c162 c163 c164 c165 c166 c167 c168 c169 c170 c171 c172 c173 c174 c175 c176 c177 c178 c179 c180 c181 c182 c183 c184 c185 c186 c187 c188 c189 c190 c191 c192 c193 c194 c195 c196 c197 c198 c199 c200 c201 c202 c203 c204 c205 c206 c207 c208 c209 c210 c211 c212 c213 c214 c215 c216 c217 c218 c219 c220 c221 c222 c223 c224 c225 c226 c227 c228 c229 c230 c231 c232 c233 c234 c235 c236 c237 c238 c239 c240 c241 c242 c243 c244 c245 c246 c247 c248 c249 c250 c251 c252 c253 c254 c255 c256 c257 c258 c259 c260 c261 c262 c263 c264 c265 c266 c267 c268 : Value} {Q0 : Exit → Act → World → Prop} {w wi : World} {g0 gh ch gm gv cv : Nat} {K H : Value} {m : List UInt8} {restm resth restv : List Value} {hs vs : List Nat}
    (hpan : ∀ (c : List PanicEntry) (a : Act) (d : Tmp) (v : Value) (w : World), Q0 (.panic c) (a.put (some d) v) w → Q0 (.panic c) a w)
    (hl : hs.length = 8) (hvl : vs.length = 8) (hlt1 : ∀ x ∈ hs, x < 4294967296) (hlt2 : ∀ x ∈ vs, x < 4294967296) (hR : Rnd w wi g0 gh gm K H m restm hs resth) (hv : Blk wi gv 44 (u32s vs ++ restv)) (hgv : gm < gv)
    (hexit : ∀ (u27 u223 u224 u225 u226 u227 u228 u229 u230 u231 u232 u233 u234 u235 u236 : Value) (w' : World), Rnd w w' g0 gh gm K H m restm (Sha.addK hs vs 8) resth → Q0 (.exit 6) { tmps := List.toArray (c0 :: c1 :: c2 :: c3 :: c4 :: (.slice (some ⟨gh, 0, none⟩) 8 ch) :: c6 :: c7 :: c8 :: c9 :: c10 :: c11 :: c12 :: c13 :: c14 :: (.slice (some ⟨gv, 0, none⟩) 8 cv) :: c16 :: c17 :: c18 :: c19 :: c20 :: c21 :: c22 :: c23 :: c24 :: c25 :: c26 :: u27 :: c28 :: c29 :: c30 :: c31 :: c32 :: c33 :: c34 :: c35 :: c36 :: c37 :: c38 :: c39 :: c40 :: c41 :: c42 :: c43 :: c44 :: c45 :: c46 :: c47 :: c48 :: c49 :: c50 :: c51 :: c52 :: c53 :: c54 :: c55 :: c56 :: c57 :: c58 :: c59 :: c60 :: c61 :: c62 :: c63 :: c64 :: c65 :: c66 :: c67 :: c68 :: c69 :: c70 :: c71 :: c72 :: c73 :: c74 :: c75 :: c76 :: c77 :: c78 :: c79 :: c80 :: c81 :: c82 :: c83 :: c84 :: c85 :: c86 :: c87 :: c88 :: c89 :: c90 :: c91 :: c92 :: c93 :: c94 :: c95 :: c96 :: c97 :: c98 :: c99 :: c100 :: c101 :: c102 :: c103 :: c104 :: c105 :: c106 :: c107 :: c108 :: c109 :: c110 :: c111 :: c112 :: c113 :: c114 :: c115 :: c116 :: c117 :: c118 :: c119 :: c120 :: c121 :: c122 :: c123 :: c124 :: c125 :: c126 :: c127 :: c128 :: c129 :: c130 :: c131 :: c132 :: c133 :: c134 :: c135 :: c136 :: c137 :: c138 :: c139 :: c140 :: c141 :: c142 :: c143 :: c144 :: c145 :: c146 :: c147 :: c148 :: c149 :: c150 :: c151 :: c152 :: c153 :: c154 :: c155 :: c156 :: c157 :: c158 :: c159 :: c160 :: c161 :: c162 :: c163 :: c164 :: c165 :: c166 :: c167 :: c168 :: c169 :: c170 :: c171 :: c172 :: c173 :: c174 :: c175 :: c176 :: c177 :: c178 :: c179 :: c180 :: c181 :: c182 :: c183 :: c184 :: c185 :: c186 :: c187 :: c188 :: c189 :: c190 :: c191 :: c192 :: c193 :: c194 :: c195 :: c196 :: c197 :: c198 :: c199 :: c200 :: c201 :: c202 :: c203 :: c204 :: c205 :: c206 :: c207 :: c208 :: c209 :: c210 :: c211 :: c212 :: c213 :: c214 :: c215 :: c216 :: c217 :: c218 :: c219 :: c220 :: c221 :: c222 :: u223 :: u224 :: u225 :: u226 :: u227 :: u228 :: u229 :: u230 :: u231 :: u232 :: u233 :: u234 :: u235 :: u236 :: c237 :: c238 :: c239 :: c240 :: c241 :: c242 :: c243 :: c244 :: c245 :: c246 :: c247 :: c248 :: c249 :: c250 :: c251 :: c252 :: c253 :: c254 :: c255 :: c256 :: c257 :: c258 :: c259 :: c260 :: c261 :: c262 :: c263 :: c264 :: c265 :: c266 :: c267 :: c268 :: []), defers := [] } w') :
    Code.wp Tryd.prog (.loop (shaLoop 3)) Q0 { tmps := List.toArray (c0 :: c1 :: c2 :: c3 :: c4 :: (.slice (some ⟨gh, 0, none⟩) 8 ch) :: c6 :: c7 :: c8 :: c9 :: c10 :: c11 :: c12 :: c13 :: c14 :: (.slice (some ⟨gv, 0, none⟩) 8 cv) :: c16 :: c17 :: c18 :: c19 :: c20 :: c21 :: c22 :: c23 :: c24 :: c25 :: c26 :: (.int .i64 0) :: c28 :: c29 :: c30 :: c31 :: c32 :: c33 :: c34 :: c35 :: c36 :: c37 :: c38 :: c39 :: c40 :: c41 :: c42 :: c43 :: c44 :: c45 :: c46 :: c47 :: c48 :: c49 :: c50 :: c51 :: c52 :: c53 :: c54 :: c55 :: c56 :: c57 :: c58 :: c59 :: c60 :: c61 :: c62 :: c63 :: c64 :: c65 :: c66 :: c67 :: c68 :: c69 :: c70 :: c71 :: c72 :: c73 :: c74 :: c75 :: c76 :: c77 :: c78 :: c79 :: c80 :: c81 :: c82 :: c83 :: c84 :: c85 :: c86 :: c87 :: c88 :: c89 :: c90 :: c91 :: c92 :: c93 :: c94 :: c95 :: c96 :: c97 :: c98 :: c99 :: c100 :: c101 :: c102 :: c103 :: c104 :: c105 :: c106 :: c107 :: c108 :: c109 :: c110 :: c111 :: c112 :: c113 :: c114 :: c115 :: c116 :: c117 :: c118 :: c119 :: c120 :: c121 :: c122 :: c123 :: c124 :: c125 :: c126 :: c127 :: c128 :: c129 :: c130 :: c131 :: c132 :: c133 :: c134 :: c135 :: c136 :: c137 :: c138 :: c139 :: c140 :: c141 :: c142 :: c143 :: c144 :: c145 :: c146 :: c147 :: c148 :: c149 :: c150 :: c151 :: c152 :: c153 :: c154 :: c155 :: c156 :: c157 :: c158 :: c159 :: c160 :: c161 :: c162 :: c163 :: c164 :: c165 :: c166 :: c167 :: c168 :: c169 :: c170 :: c171 :: c172 :: c173 :: c174 :: c175 :: c176 :: c177 :: c178 :: c179 :: c180 :: c181 :: c182 :: c183 :: c184 :: c185 :: c186 :: c187 :: c188 :: c189 :: c190 :: c191 :: c192 :: c193 :: c194 :: c195 :: c196 :: c197 :: c198 :: c199 :: c200 :: c201 :: c202 :: c203 :: c204 :: c205 :: c206 :: c207 :: c208 :: c209 :: c210 :: c211 :: c212 :: c213 :: c214 :: c215 :: c216 :: c217 :: c218 :: c219 :: c220 :: c221 :: c222 :: c223 :: c224 :: c225 :: c226 :: c227 :: c228 :: c229 :: c230 :: c231 :: c232 :: c233 :: c234 :: c235 :: c236 :: c237 :: c238 :: c239 :: c240 :: c241 :: c242 :: c243 :: c244 :: c245 :: c246 :: c247 :: c248 :: c249 :: c250 :: c251 :: c252 :: c253 :: c254 :: c255 :: c256 :: c257 :: c258 :: c259 :: c260 :: c261 :: c262 :: c263 :: c264 :: c265 :: c266 :: c267 :: c268 :: []), defers := [] } wi := by
  conv => arg 2; arg 1; whnf
  have HX := Lib.hid hexit
  have HR0 := Lib.hid hR
  have HV0 := Lib.hid hv
  clear hexit hR hv
  go_loopw [27] (fun i w' => ∃ k : Nat, k ≤ 8 ∧ i = .int .i64 (k : Int) ∧ Rnd w w' g0 gh gm K H m restm (Sha.addK hs vs k) resth ∧ Blk w' gv 44 (u32s vs ++ restv)) (fun i _ => 8 - (intOf i).toNat)
  case atStart => exact ⟨0, by omega, rfl, HR0.out, HV0.out⟩
  case round =>
    obtain ⟨k, hk, rfl, hR, hV⟩ := hrel
    clear HR0 HV0
    by_cases hlt : k < 8
    · have hal := Sha.addK_len hs vs k
      have q0 := word_at hR.h.drew (k := k) (by omega)
      rw [Sha.addK_get] at q0
      have q1 := word_at hV.drew (k := k) (by omega)
      have l0 := Sha.getD_lt hlt1 k
      have l1 := Sha.getD_lt hlt2 k
      have HA : Hid (Sha.addK hs vs (k + 1) = (Sha.addK hs vs k).set k ((hs.getD k 0 + vs.getD k 0) % 4294967296)) := Lib.hid rfl
      have hx0 := hR.h.lt
      have hx1 := hV.lt
      generalize hs.getD k 0 = x at *
      generalize vs.getD k 0 = y at *
      have HR := Lib.hid hR.drew
      have HV := Lib.hid hV.drew
      have HQ0 := Lib.hid q0
      have HQ1 := Lib.hid q1
      clear hR hV q0 q1
      go_wp2
      refine wp_region_G grows (by kernel_rfl) ?_
      have hw0 : gh < wr.drew.heap.size := hx0
      have hw1 : gv < wr.drew.heap.size := hx1
      clear hx0 hx1
      generalize wr.drew = wa at *
      have q0 : ∀ x1 : Later grows wa, x1.to.cell? ⟨gh, k, none⟩ = some (.int .u32 (x : Int)) := fun x1 => by
        have hb : Below wa.heap.size wa x1.to := x1.grown
        exact cell_bel hb HQ0.out
      have q1 : ∀ x1 : Later grows wa, x1.to.cell? ⟨gv, k, none⟩ = some (.int .u32 (y : Int)) := fun x1 => by
        have hb : Below wa.heap.size wa x1.to := x1.grown
        exact cell_bel hb HQ1.out
      refine segG (by kernel_rfl) (by intro c a d v w h; exact hpan c a d v w h) [0, 1, 2, 3, 4, 5, 6, 7, 8, 9] [_, _, _, _, _, _, _, _, _, _] 1 rfl rfl (by kernel_rfl) ?_
      repeat (go_big_quiet_step (fail))
      refine wpQuiet_nil ?_
      clear q0 q1
      have hc := HQ0.out
      have hf := HR.out.h.frozen k
      have HR2 := Lib.hid (HR.out.set k ((x + y) % 4294967296) (by omega))
      rw [← HA.out] at HR2
      have HV2 := Lib.hid (HV.out.far (p := ⟨gh, k, none⟩) (by have := HR.out.o3; simp; omega) (.int .u32 (((x + y) % 4294967296 : Nat) : Int)))
      have hxy : (((x + y) % 4294967296 : Nat) : Int) = ((x : Int) + (y : Int)) % 4294967296 := by omega
      rw [hxy] at HR2 HV2
      clear hxy
      refine lateG 10 0 rfl (by kernel_rfl) (by kernel_rfl) rfl ?_
      go_wp2
      refine ⟨trivial, ?_⟩
      refine wpAnyG_done (by kernel_rfl) ?_
      go_wp2
      exact ⟨⟨k + 1, by omega, by go_num, HR2.out, HV2.out⟩, by simp [intOf]; omega⟩
    · obtain rfl : k = 8 := by omega
      go_wp2
      exact HX.out _ _ _ _ _ _ _ _ _ _ _ _ _ _ _ _ hR
end Go.Proofs.YtpaagjhohfjopaaDoor
