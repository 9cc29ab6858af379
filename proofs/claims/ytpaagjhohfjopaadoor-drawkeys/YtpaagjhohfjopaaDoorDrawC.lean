/-
  Layer 9: what is asked of draw's functions (a contract, over whatever the package's own variables may be).
-/
import Derived.Test.YtpaagjhohfjopaaDoorShaC
import Derived.Test.YtpaagjhohfjopaaDoorOctI
import Derived.Laws.StructEq
set_option maxRecDepth 100000
namespace Go.Proofs.YtpaagjhohfjopaaDoor
open Go.RowKit Go.Gar

/-- What is digested: a kind, two numbers, the draw; the digests; keys and the chain's beginning. -/
def drawPre (kind : UInt8) (id gen : Int) (d : List UInt8) : List UInt8 := [kind] ++ (be (b64 id) 8 ++ (be (b64 gen) 8 ++ d))
def drawn (kind : UInt8) (id gen : Int) (d : List UInt8) : List UInt8 := Sha.of (drawPre kind id gen d)
theorem drawn_len (kind : UInt8) (id gen : Int) (d : List UInt8) : (drawn kind id gen d).length = 32 := Sha.of_len _
theorem drawPre_len (kind : UInt8) (id gen : Int) (d : List UInt8) : (drawPre kind id gen d).length = 17 + d.length := by
  simp only [drawPre, List.length_append, be_len, List.length_singleton]; omega
def keysL (id gen : Int) (d : List UInt8) : List UInt8 := drawn 1 id gen d ++ drawn 2 id gen d
def ivL (id gen : Int) (d : List UInt8) : List UInt8 := (drawn 3 id gen d).take 16
theorem keysL_len (id gen : Int) (d : List UInt8) : (keysL id gen d).length = 64 := by rw [keysL, List.length_append, drawn_len, drawn_len]
theorem ivL_len (id gen : Int) (d : List UInt8) : (ivL id gen d).length = 16 := by rw [ivL, List.length_take, drawn_len]; rfl
/-- What From answers. -/
def fromL (b : List UInt8) : List UInt8 := if b.length = 64 then b else List.replicate 64 0
def fromE (b : List UInt8) : Nat := if b.length = 64 then 0 else 3
theorem fromL_len (b : List UInt8) : (fromL b).length = 64 := by
  unfold fromL
  split
  · assumption
  · rfl
structure DrawOK (G : World → Prop) : Prop where
  keep : ∀ {w w' : World}, G w → Below w.heap.size w w' → G w'
  keys : ∀ (w : World) (id gen : Int) (A : Option Addr) (d : List UInt8) (c : Nat), G w → Rd w w.heap.size A d → d.length ≤ c → d.length ≤ 1000000 →
    Calls Tryd.prog 10 #[.int .i64 id, .int .i64 gen, .slice A d.length c] w fun e w' => e = .returned (.agg (u8s (keysL id gen d)).toArray) ∧ Below w.heap.size w w'
  iv : ∀ (w : World) (id gen : Int) (A : Option Addr) (d : List UInt8) (c : Nat), G w → Rd w w.heap.size A d → d.length ≤ c → d.length ≤ 1000000 →
    Calls Tryd.prog 6 #[.int .i64 id, .int .i64 gen, .slice A d.length c] w fun e w' => e = .returned (.agg (u8s (ivL id gen d)).toArray) ∧ Below w.heap.size w w'
  bytes_ : ∀ (w : World) (l : List UInt8), l.length = 64 → Calls Tryd.prog 9 #[.agg (u8s l).toArray] w fun e w' => ∃ A c, e = .returned (.slice A 64 c) ∧ 64 ≤ c ∧ Rd w' w'.heap.size A l ∧ Below w.heap.size w w'
  from_ : ∀ (w : World) (A : Option Addr) (b : List UInt8) (c : Nat), Rd w w.heap.size A b → b.length ≤ c →
    Calls Tryd.prog 13 #[.slice A b.length c] w fun e w' => e = .returned (.tuple #[.agg (u8s (fromL b)).toArray, .int .i64 ((fromE b : Nat) : Int)]) ∧ Below w.heap.size w w'

/-! Keys in memory: a struct of two arrays. -/
theorem Tryd.undKeysS : Tryd.prog.underlying 34 = some (.struct (Tryd.prog.fieldsOf 34)) := by kernel_rfl
theorem Tryd.sizeKeys : (Tryd.prog.info? 34).map (·.size) = some 64 := by kernel_rfl
theorem Tryd.infoKeys : (Tryd.prog.info? 34).map (fun i => (i.zero, i.size)) = some (some (.agg (Array.replicate 64 (.int .u8 0))), 64) := by kernel_rfl
theorem Tryd.guardKeys : Tryd.prog.eqGuardType Tryd.prog.depth 34 = false := by kernel_rfl
def z64 : List Value := u8s (List.replicate 64 0)
theorem zero_64 (w : World) : (zeroValue 34).run Tryd.prog w = .ok (.agg z64.toArray) w := by
  have := (zero_of_info Tryd.infoKeys).1 w
  rw [this]
  rfl
theorem size_64 (l : List UInt8) (h : l.length = 64) : (Tryd.prog.info? 34).map (·.size) = some (u8s l).length := by rw [u8s_len, h]; exact Tryd.sizeKeys
theorem load_keys {W : World} {g : Nat} {l : List UInt8} (h : Blk W g 34 (u8s l)) (hl : l.length = 64) : (loadVar 34 ⟨g, 0, none⟩).run Tryd.prog W = .ok (.agg (u8s l).toArray) W := by
  exact run_loadVar_row (P := Tryd.prog) W g 34 34 (u8s l).toArray (0, 0) _ h Tryd.undKeysS rfl (by simpa using size_64 l hl)
theorem Tryd.fieldsKeys : (Tryd.prog.fieldsOf 34).toList.map (fun f => (f.name, f.type, f.offset)) = [("Enc", 32, 0), ("Mac", 32, 32)] := by kernel_rfl
theorem Tryd.stoodKeys : Tryd.prog.stoodInHeld 34 = false := by kernel_rfl
theorem isAgg32 (w : World) : (isAgg 32).run Tryd.prog w = .ok true w := by
  unfold isAgg
  rw [Sem.run_bind, run_underlying Tryd.und32 w]
  rfl
theorem part32 (w : World) (l : List UInt8) (o : Nat) : (part 32 (u8s l).toArray o).run Tryd.prog w = .ok (.agg (u8s ((l.drop o).take 32)).toArray) w := by
  obtain ⟨i, hi, hs⟩ := Option.map_eq_some_iff.1 (zero_of_info Tryd.info32).2
  simp only [part, Sem.run_bind, isAgg32, Result.andThen_ok, if_true, sizeOf, typeInfo, Sem.run_pure]
  simp [hi, hs, u8s_take, u8s_drop, List.extract_eq_take_drop, Result.andThen]
theorem eqKeys (a b : List UInt8) (ha : a.length = 64) (hb : b.length = 64) (w : World) : (Op.equalIn 10000 34 (.agg (u8s a).toArray) (.agg (u8s b).toArray)).run Tryd.prog w = .ok (decide (a = b)) w := by
  rw [run_equalIn_struct w 9999 34 _ _ Tryd.undKeysS Tryd.stoodKeys]
  have hf := Tryd.fieldsKeys
  generalize (Tryd.prog.fieldsOf 34).toList = fs at hf ⊢
  rcases fs with _ | ⟨f1, _ | ⟨f2, _ | ⟨f3, fs⟩⟩⟩
  · cases hf
  · simp at hf
  · simp only [List.map_cons, List.map_nil, List.cons.injEq, Prod.mk.injEq, and_true] at hf
    obtain ⟨⟨n1, t1, o1⟩, n2, t2, o2⟩ := hf
    have e1 : ∀ w, (Op.equalIn 9999 32 (.agg (u8s (a.take 32)).toArray) (.agg (u8s (b.take 32)).toArray)).run Tryd.prog w = .ok (decide (a.take 32 = b.take 32)) w := fun w => run_equalIn_u8s Tryd.und32 Tryd.key5 Tryd.und5 Tryd.cells5s 9997 _ _ (by rw [List.length_take]; omega) (by rw [List.length_take]; omega)
    have e2 : ∀ w, (Op.equalIn 9999 32 (.agg (u8s ((a.drop 32).take 32)).toArray) (.agg (u8s ((b.drop 32).take 32)).toArray)).run Tryd.prog w = .ok (decide ((a.drop 32).take 32 = (b.drop 32).take 32)) w := fun w => run_equalIn_u8s Tryd.und32 Tryd.key5 Tryd.und5 Tryd.cells5s 9997 _ _ (by rw [List.length_take, List.length_drop]; omega) (by rw [List.length_take, List.length_drop]; omega)
    have ea : (a.drop 32).take 32 = a.drop 32 := List.take_of_length_le (by rw [List.length_drop]; omega)
    have eb : (b.drop 32).take 32 = b.drop 32 := List.take_of_length_le (by rw [List.length_drop]; omega)
    rw [ea, eb] at e2
    have p1 := fun w l => part32 w l 0
    have pa := fun w => part32 w a 32
    have pb := fun w => part32 w b 32
    rw [ea] at pa
    rw [eb] at pb
    simp only [List.drop_zero] at p1
    simp only [Op.eqFields, n1, t1, o1, n2, t2, o2, Sem.run_bind, p1, Result.andThen_ok, e1, ne_eq, String.reduceEq, not_false_eq_true, if_true]
    by_cases h1 : a.take 32 = b.take 32
    · by_cases h2 : a.drop 32 = b.drop 32
      · have : a = b := by rw [← List.take_append_drop 32 a, ← List.take_append_drop 32 b, h1, h2]
        subst this
        simp [pa, e2, Result.andThen]
      · have : a ≠ b := fun e => h2 (by rw [e])
        simp [h1, h2, this, pa, pb, e2, Result.andThen]
    · have : a ≠ b := fun e => h1 (by rw [e])
      simp [h1, this]
  · simp at hf
end Go.Proofs.YtpaagjhohfjopaaDoor
