/- errors.As at a target of type *schema.refusal, errors.Is at a sentinel: what they do with the errors of package schema. What errors.As at a target of type *schema.refusal, and errors.Is at a sentinel, do with the errors of package schema; and errno. What errors.As and errors.Is do with the errors of package schema, called whole; and errno. -/
import Derived.Test.YtdmgjeipkpbojaaDoorProg
import Derived.WalkKit
import Derived.LaidEql
import Derived.Stop.Asserts
import Derived.RowKitTokens
import Derived.Test.YtdmgjeipkpbojaaDoorWords
import Derived.Lib.Hide
namespace Go.Proofs.YtdmgjeipkpbojaaDoor
set_option maxRecDepth 20000
open Go.RowKit Go.Extern.Stop Go.Stop Go.Extern
namespace Er
/-- Matches of the model's at arguments that stand written out. -/
theorem m2 {motive : Array Value → Sort _} (v : Value) (h1 : (v : Value) → motive #[v]) (h2 : (x : Array Value) → motive x) : ReflectliteValue.method.match_2 motive #[v] h1 h2 = h1 v := rfl
theorem m3 {motive : Array Value → Sort _} (v x : Value) (h1 : (v x : Value) → motive #[v, x]) (h2 : (x : Array Value) → motive x) : ReflectliteValue.set.match_3 motive #[v, x] h1 h2 = h1 v x := rfl
/-! the target: a pointer to a refusal -/
theorem valueOfT (t : Addr) (w : World) : (ReflectliteValue.unpack (.iface 75 (.pointer (some t)))).run Tryd.prog w
    = .ok (.agg #[.pointer (some ⟨4, 75, none⟩), .pointer (some ⟨w.heap.size, 0, none⟩), .int .u64 150]) (w.alloc (.cells #[.pointer (some t)] 75)) := by kernel_rfl
theorem typeT (a : Addr) (w : World) : (ReflectliteValue.methodAny (ReflectliteValue.valueError "reflectlite.Value.Type" 0) (fun t _ _ _ => ReflectliteType.toType t) #[.agg #[.pointer (some ⟨4, 75, none⟩), .pointer (some a), .int .u64 150]]).run Tryd.prog w
    = .ok (.iface 107 (.agg #[.pointer (some ⟨4, 75, none⟩)])) w := by kernel_rfl
theorem methodKind (h : Value) (w : World) : (Go.method 261 107 (.agg #[h]) "Kind").run Tryd.prog w = .ok (93, h) w := by kernel_rfl
theorem kindT (w : World) : ((ReflectliteType.abiMethod fun t => (fun a : Nat => Value.int IntKind.u8 (a : Int)) <$> Rtype.kind t) #[.pointer (some ⟨4, 75, none⟩)]).run Tryd.prog w = .ok (.int .u8 22) w := by kernel_rfl
theorem kindE (w : World) : ((ReflectliteType.abiMethod fun t => (fun a : Nat => Value.int IntKind.u8 (a : Int)) <$> Rtype.kind t) #[.pointer (some ⟨4, 73, none⟩)]).run Tryd.prog w = .ok (.int .u8 2) w := by kernel_rfl
theorem partsT (a : Addr) (w : World) : (ReflectliteValue.parts (.agg #[.pointer (some ⟨4, 75, none⟩), .pointer (some a), .int .u64 150])).run Tryd.prog w = .ok (some (75, a, 150)) w := by kernel_rfl
theorem isNilT (a p : Addr) (W : World) (ha : W.cell? a = some (.pointer (some p))) :
    (ReflectliteValue.method (ReflectliteValue.valueError "reflectlite.Value.IsNil" 0) ReflectliteValue.isNil #[.agg #[.pointer (some ⟨4, 75, none⟩), .pointer (some a), .int .u64 150]]).run Tryd.prog W = .ok (.bool false) W := by
  delta ReflectliteValue.method
  rw [m2]
  simp only [Sem.run_bind, partsT, Result.andThen]
  simp [ReflectliteValue.isNil, loadVar, isAgg, underlying, Tryd.underlying75, ha, Result.andThen]
theorem methodElem (h : Value) (w : World) : (Go.method 261 107 (.agg #[h]) "Elem").run Tryd.prog w = .ok (105, .agg #[h]) w := by kernel_rfl
theorem methodImplements (h : Value) (w : World) : (Go.method 261 107 (.agg #[h]) "Implements").run Tryd.prog w = .ok (106, .agg #[h]) w := by kernel_rfl
theorem methodAssignableTo (h : Value) (w : World) : (Go.method 261 107 (.agg #[h]) "AssignableTo").run Tryd.prog w = .ok (103, .agg #[h]) w := by kernel_rfl
theorem elemT (w : World) : (ReflectliteType.method ReflectliteType.elem #[.agg #[.pointer (some ⟨4, 75, none⟩)]]).run Tryd.prog w = .ok (.iface 107 (.agg #[.pointer (some ⟨4, 73, none⟩)])) w := by kernel_rfl
theorem implementsE (w : World) : (ReflectliteType.relation "Implements" ReflectliteType.implements_ #[.agg #[.pointer (some ⟨4, 73, none⟩)], .iface 107 (.agg #[.pointer (some ⟨4, 58, none⟩)])]).run Tryd.prog w = .ok (.bool true) w := by kernel_rfl
theorem elemOfT (w : World) : (Rtype.elem? 75).run Tryd.prog w = .ok (some 73) w := by kernel_rfl
theorem mkE (p : Addr) (w : World) : (ReflectliteValue.mk 73 p ReflectliteValue.flagAddr).run Tryd.prog w = .ok (.agg #[.pointer (some ⟨4, 73, none⟩), .pointer (some p), .int .u64 386]) w := by kernel_rfl
theorem elemVT (a p : Addr) (W : World) (ha : W.cell? a = some (.pointer (some p))) :
    (ReflectliteValue.method (ReflectliteValue.valueError "reflectlite.Value.Elem" 0) ReflectliteValue.elem #[.agg #[.pointer (some ⟨4, 75, none⟩), .pointer (some a), .int .u64 150]]).run Tryd.prog W
      = .ok (.agg #[.pointer (some ⟨4, 73, none⟩), .pointer (some p), .int .u64 386]) W := by
  delta ReflectliteValue.method
  rw [m2]
  simp only [Sem.run_bind, partsT, Result.andThen]
  simp [ReflectliteValue.elem, loadVar, isAgg, underlying, Tryd.underlying75, ha, Result.andThen, elemOfT, mkE]
/-! what the errors are -/
theorem typeOfE (v : Value) (w : World) : (ReflectliteType.typeOf #[.iface 73 v]).run Tryd.prog w = .ok (.iface 107 (.agg #[.pointer (some ⟨4, 73, none⟩)])) w := by kernel_rfl
theorem typeOfC (v : Value) (w : World) : (ReflectliteType.typeOf #[.iface 72 v]).run Tryd.prog w = .ok (.iface 107 (.agg #[.pointer (some ⟨4, 72, none⟩)])) w := by kernel_rfl
theorem typeOfS (v : Value) (w : World) : (ReflectliteType.typeOf #[.iface 127 v]).run Tryd.prog w = .ok (.iface 107 (.agg #[.pointer (some ⟨4, 127, none⟩)])) w := by kernel_rfl
theorem assignE (w : World) : (ReflectliteType.relation "AssignableTo" ReflectliteType.assignableTo #[.agg #[.pointer (some ⟨4, 73, none⟩)], .iface 107 (.agg #[.pointer (some ⟨4, 73, none⟩)])]).run Tryd.prog w = .ok (.bool true) w := by kernel_rfl
theorem assignC (w : World) : (ReflectliteType.relation "AssignableTo" ReflectliteType.assignableTo #[.agg #[.pointer (some ⟨4, 72, none⟩)], .iface 107 (.agg #[.pointer (some ⟨4, 73, none⟩)])]).run Tryd.prog w = .ok (.bool false) w := by kernel_rfl
theorem assignS (w : World) : (ReflectliteType.relation "AssignableTo" ReflectliteType.assignableTo #[.agg #[.pointer (some ⟨4, 127, none⟩)], .iface 107 (.agg #[.pointer (some ⟨4, 73, none⟩)])]).run Tryd.prog w = .ok (.bool false) w := by kernel_rfl
theorem valueOfE (e : Int) (w : World) : (ReflectliteValue.unpack (.iface 73 (.int .i64 e))).run Tryd.prog w
    = .ok (.agg #[.pointer (some ⟨4, 73, none⟩), .pointer (some ⟨w.heap.size, 0, none⟩), .int .u64 130]) (w.alloc (.cells #[.int .i64 e] 73)) := by kernel_rfl
theorem partsEa (a : Addr) (w : World) : (ReflectliteValue.parts (.agg #[.pointer (some ⟨4, 73, none⟩), .pointer (some a), .int .u64 386])).run Tryd.prog w = .ok (some (73, a, 386)) w := by kernel_rfl
theorem partsE (a : Addr) (w : World) : (ReflectliteValue.parts (.agg #[.pointer (some ⟨4, 73, none⟩), .pointer (some a), .int .u64 130])).run Tryd.prog w = .ok (some (73, a, 130)) w := by kernel_rfl
theorem directE (w : World) : (Rtype.directlyAssignable 73 73).run Tryd.prog w = .ok true w := by kernel_rfl
theorem setE (ta b : Addr) (e : Int) (old : Value) (W : World) (hb : W.cell? b = some (.int .i64 e)) (ht : W.cell? ta = some old) (hf : W.frozen? ta = false) :
    (ReflectliteValue.set #[.agg #[.pointer (some ⟨4, 73, none⟩), .pointer (some ta), .int .u64 386], .agg #[.pointer (some ⟨4, 73, none⟩), .pointer (some b), .int .u64 130]]).run Tryd.prog W
      = .ok (.tuple #[]) (W.setCell ta (.int .i64 e)) := by
  delta ReflectliteValue.set
  rw [m3]
  simp only [Sem.run_bind, partsEa, partsE, Result.andThen]
  simp [ReflectliteValue.flagAddr, loadVar, isAgg, underlying, Tryd.underlying73, hb, Result.andThen, directE, storeVar, Value.cells, storeCells, Addr.add]
  rw [run_store Tryd.prog W ta _ _ (by rfl)]
  simp [ht, hf]
/-! what their method sets hold -/
theorem noAsC (v : Value) (xT : TypeId) (w : World) : (Instr.typeAssert (.iface 72 v) xT 111 true).run Tryd.prog w = .ok (.tuple #[.nilIface, .bool false]) w := run_typeAssert_lacksB Tryd.underlying111 (by kernel_rfl) (by kernel_rfl) v xT w
theorem noAsS (v : Value) (xT : TypeId) (w : World) : (Instr.typeAssert (.iface 127 v) xT 111 true).run Tryd.prog w = .ok (.tuple #[.nilIface, .bool false]) w := run_typeAssert_lacksB Tryd.underlying111 (by kernel_rfl) (by kernel_rfl) v xT w
theorem noIsC (v : Value) (xT : TypeId) (w : World) : (Instr.typeAssert (.iface 72 v) xT 119 true).run Tryd.prog w = .ok (.tuple #[.nilIface, .bool false]) w := run_typeAssert_lacksB Tryd.underlying119 (by kernel_rfl) (by kernel_rfl) v xT w
theorem noIsS (v : Value) (xT : TypeId) (w : World) : (Instr.typeAssert (.iface 127 v) xT 119 true).run Tryd.prog w = .ok (.tuple #[.nilIface, .bool false]) w := run_typeAssert_lacksB Tryd.underlying119 (by kernel_rfl) (by kernel_rfl) v xT w
theorem hasUnwrapC (v : Value) (xT : TypeId) (w : World) : (Instr.typeAssert (.iface 72 v) xT 114 true).run Tryd.prog w = .ok (.tuple #[.iface 72 v, .bool true]) w := run_typeAssert_hasB Tryd.underlying114 (by kernel_rfl) v xT w
theorem noUnwrapS (v : Value) (xT : TypeId) (w : World) : (Instr.typeAssert (.iface 127 v) xT 114 true).run Tryd.prog w = .ok (.tuple #[.nilIface, .bool false]) w := run_typeAssert_lacksB Tryd.underlying114 (by kernel_rfl) (by kernel_rfl) v xT w
theorem noUnwrapsS (v : Value) (xT : TypeId) (w : World) : (Instr.typeAssert (.iface 127 v) xT 116 true).run Tryd.prog w = .ok (.tuple #[.nilIface, .bool false]) w := run_typeAssert_lacksB Tryd.underlying116 (by kernel_rfl) (by kernel_rfl) v xT w
theorem methodUnwrap (v : Value) (w : World) : (Go.method 261 72 v "Unwrap").run Tryd.prog w = .ok (97, v) w := by kernel_rfl
theorem methodComparable (v : Value) (w : World) : (Go.method 261 107 v "Comparable").run Tryd.prog w = .ok (104, v) w := by kernel_rfl

theorem compS : (Tryd.prog.info? 127).map (·.comparable) = some true := by kernel_rfl
theorem sizeS : (Tryd.prog.info? 149).map (·.size) = some 1 := by kernel_rfl
end Er
end Go.Proofs.YtdmgjeipkpbojaaDoor
namespace Go.Proofs.YtdmgjeipkpbojaaDoor
set_option maxRecDepth 20000
open Go.RowKit Go.Extern.Stop Go.Stop Go.Extern
namespace Er
/-- The error of a column: it wraps another. -/
def colErr (i : Int) (e : Value) : Value := .iface 72 (.agg #[.int .i64 i, e])
def refusal (e : Int) : Value := .iface 73 (.int .i64 e)
def sent (a : Addr) : Value := .iface 127 (.pointer (some a))
/-- The reflected value of the target. -/
def tval (g : Nat) : Value := .agg #[.pointer (some ⟨4, 75, none⟩), .pointer (some ⟨g, 0, none⟩), .int .u64 150]
def ttyp : Value := .iface 107 (.agg #[.pointer (some ⟨4, 73, none⟩)])

theorem unwrap_any (i : Int) (e : Value) (w : World) :
    Calls Tryd.prog 97 #[.agg #[.int .i64 i, e]] w fun ev w' => ev = .returned e ∧ Below w.heap.size w w' := by
  go_enter Tryd.func97, Tryd.ntmps97
  go_wp2
  go_ret
  exact ⟨rfl, (Below.refl _ _).alloc (Nat.le_refl _) _⟩
set_option maxHeartbeats 4000000 in
/-- A sentinel: no refusal. -/
theorem as_miss (a : Addr) (x : Value) (g : Nat) (w : World) :
    Calls Tryd.prog 62 #[sent a, x, tval g, ttyp] w fun ev w' => ev = .returned (.bool false) ∧ Below w.heap.size w w' := by
  unfold sent tval ttyp
  have h10 := @run_callFunc_extern Tryd.prog 63 _ ReflectliteType.typeOf Tryd.func63 (by kernel_rfl) (by kernel_rfl) (by kernel_rfl) (by kernel_rfl)
  have h35 := @run_callFunc_extern Tryd.prog 103 _ (ReflectliteType.relation "AssignableTo" ReflectliteType.assignableTo) Tryd.func103 (by kernel_rfl) (by kernel_rfl) (by kernel_rfl) (by kernel_rfl)
  have tO := typeOfS
  have mA := methodAssignableTo
  have aS := assignS
  have n1 := noAsS
  have n2 := noUnwrapS
  have n3 := noUnwrapsS
  go_enter Tryd.func62, Tryd.ntmps62
  go_wp2
  refine wp_loop_rounds 1 ?_
  rw [rounds_succ]
  go_wp2
  go_ret
  exact ⟨rfl, (Below.refl _ _).alloc (Nat.le_refl _) _⟩
set_option maxHeartbeats 4000000 in
/-- A column's error that wraps a sentinel: none. -/
theorem as_wrap_miss (i : Int) (a : Addr) (x : Value) (g : Nat) (w : World) :
    Calls Tryd.prog 62 #[colErr i (sent a), x, tval g, ttyp] w fun ev w' => ev = .returned (.bool false) ∧ Below w.heap.size w w' := by
  unfold colErr sent tval ttyp
  have h10 := @run_callFunc_extern Tryd.prog 63 _ ReflectliteType.typeOf Tryd.func63 (by kernel_rfl) (by kernel_rfl) (by kernel_rfl) (by kernel_rfl)
  have h35 := @run_callFunc_extern Tryd.prog 103 _ (ReflectliteType.relation "AssignableTo" ReflectliteType.assignableTo) Tryd.func103 (by kernel_rfl) (by kernel_rfl) (by kernel_rfl) (by kernel_rfl)
  have tO := typeOfS
  have tC := typeOfC
  have mA := methodAssignableTo
  have mU := methodUnwrap
  have aS := assignS
  have aC := assignC
  have n1 := noAsS
  have n2 := noUnwrapS
  have n3 := noUnwrapsS
  have n4 := noAsC
  have n5 := hasUnwrapC
  go_enter Tryd.func62, Tryd.ntmps62
  go_wp2
  refine wp_loop_rounds 2 ?_
  rw [rounds_succ]
  go_wp2_with fail
  refine (unwrap_any _ _ _).mono ?_
  rintro e w1 ⟨rfl, hB1⟩
  go_wp2
  rw [rounds_succ]
  go_wp2
  go_ret
  exact ⟨rfl, ((Below.refl _ _).alloc (Nat.le_refl _) _).trans (hB1.mono (by simp))⟩
set_option maxHeartbeats 4000000 in
/-- A column's error that wraps a refusal: the target has it. -/
theorem as_wrap_hit (i e : Int) (t : Nat) (old : Value) (x : Value) (g : Nat) (w : World) (hg : w.cell? ⟨g, 0, none⟩ = some (.pointer (some ⟨t, 0, none⟩))) (ht : w.cell? ⟨t, 0, none⟩ = some old) (hf : w.frozen? ⟨t, 0, none⟩ = false) :
    Calls Tryd.prog 62 #[colErr i (refusal e), x, tval g, ttyp] w fun ev w' => ev = .returned (.bool true) ∧ ∃ w1, Below w.heap.size w w1 ∧ w' = w1.setCell ⟨t, 0, none⟩ (.int .i64 e) := by
  unfold colErr refusal tval ttyp
  have h10 := @run_callFunc_extern Tryd.prog 63 _ ReflectliteType.typeOf Tryd.func63 (by kernel_rfl) (by kernel_rfl) (by kernel_rfl) (by kernel_rfl)
  have h35 := @run_callFunc_extern Tryd.prog 103 _ (ReflectliteType.relation "AssignableTo" ReflectliteType.assignableTo) Tryd.func103 (by kernel_rfl) (by kernel_rfl) (by kernel_rfl) (by kernel_rfl)
  have h6 := @run_callFunc_extern Tryd.prog 59 _ (fun args => ReflectliteValue.unpack (args.getD 0 (.tuple #[]))) Tryd.func59 (by kernel_rfl) (by kernel_rfl) (by kernel_rfl) (by kernel_rfl)
  have h11 := @run_callFunc_extern Tryd.prog 70 _ (ReflectliteValue.method (ReflectliteValue.valueError "reflectlite.Value.Elem" 0) ReflectliteValue.elem) Tryd.func70 (by kernel_rfl) (by kernel_rfl) (by kernel_rfl) (by kernel_rfl)
  have h12 := @run_callFunc_extern Tryd.prog 71 _ ReflectliteValue.set Tryd.func71 (by kernel_rfl) (by kernel_rfl) (by kernel_rfl) (by kernel_rfl)
  have tO := typeOfE
  have tC := typeOfC
  have mA := methodAssignableTo
  have mU := methodUnwrap
  have aE := assignE
  have aC := assignC
  have n4 := noAsC
  have n5 := hasUnwrapC
  have vE := valueOfE
  have hgl : g < w.heap.size := World.block_lt_of_cell? w ⟨g, 0, none⟩ hg
  have htl : t < w.heap.size := World.block_lt_of_cell? w ⟨t, 0, none⟩ ht
  have hb0 := (Below.refl w.heap.size w).alloc (Nat.le_refl _) (.cells #[.pointer (some ⟨4, 75, none⟩), .pointer (some ⟨g, 0, none⟩), .int .u64 150] 88)
  have hz0 : w.heap.size < (w.alloc (.cells #[.pointer (some ⟨4, 75, none⟩), .pointer (some ⟨g, 0, none⟩), .int .u64 150] 88)).heap.size := by simp
  have bx0 : (w.alloc (.cells #[.pointer (some ⟨4, 75, none⟩), .pointer (some ⟨g, 0, none⟩), .int .u64 150] 88)).heap[w.heap.size]? = some (.cells #[.pointer (some ⟨4, 75, none⟩), .pointer (some ⟨g, 0, none⟩), .int .u64 150] 88) := heap_alloc_new w _
  go_enter Tryd.func62, Tryd.ntmps62
  go_wp2
  generalize w.alloc (.cells #[.pointer (some ⟨4, 75, none⟩), .pointer (some ⟨g, 0, none⟩), .int .u64 150] 88) = wa at *
  refine wp_loop_rounds 2 ?_
  rw [rounds_succ]
  go_wp2_with fail
  refine (unwrap_any _ _ _).mono ?_
  rintro e w1 ⟨rfl, hB1⟩
  have hB := hb0.trans (hB1.mono hb0.size)
  have hbx := (hB1.block w.heap.size hz0).trans bx0
  have c0 : w1.cell? ⟨w.heap.size, 0, none⟩ = some (.pointer (some ⟨4, 75, none⟩)) := by unfold World.cell?; simp [hbx]
  have c1 : w1.cell? ⟨w.heap.size, 1, none⟩ = some (.pointer (some ⟨g, 0, none⟩)) := by unfold World.cell?; simp [hbx]
  have c2 : w1.cell? ⟨w.heap.size, 2, none⟩ = some (.int .u64 150) := by unfold World.cell?; simp [hbx]
  have el := elemVT ⟨g, 0, none⟩ ⟨t, 0, none⟩ w1 ((hB.cell (p := ⟨g, 0, none⟩) hgl).trans hg)
  have st := setE ⟨t, 0, none⟩ ⟨w1.heap.size, 0, none⟩ e old (w1.alloc (.cells #[.int .i64 e] 73)) (by simp)
    (((hB.alloc hB.size _).cell (p := ⟨t, 0, none⟩) htl).trans ht) (((hB.alloc hB.size _).frozen (p := ⟨t, 0, none⟩) htl).trans hf)
  go_wp2
  rw [rounds_succ]
  go_wp2
  go_ret
  exact ⟨rfl, _, hB.alloc hB.size _, rfl⟩
end Er
end Go.Proofs.YtdmgjeipkpbojaaDoor
namespace Go.Proofs.YtdmgjeipkpbojaaDoor
set_option maxRecDepth 20000
open Go.RowKit Go.Extern.Stop Go.Stop Go.Extern
namespace Er
/-- What the package-level variables hold: three sentinels, each another, and a type's handle. -/
structure Gl (w : World) (aM aN aB : Addr) : Prop where
  more : w.cell? ⟨0, 0, none⟩ = some (sent aM)
  noMark : w.cell? ⟨1, 0, none⟩ = some (sent aN)
  badMark : w.cell? ⟨2, 0, none⟩ = some (sent aB)
  typ : w.cell? ⟨3, 0, none⟩ = some (.iface 107 (.agg #[.pointer (some ⟨4, 58, none⟩)]))
  nb : aB ≠ aN
  nm : aM ≠ aN
  rM : ∃ cs t, w.heap[aM.block]? = some (.cells cs t (0, 0))
  rN : ∃ cs t, w.heap[aN.block]? = some (.cells cs t (0, 0))
  rB : ∃ cs t, w.heap[aB.block]? = some (.cells cs t (0, 0))
theorem row_below {w w' : World} {a : Nat} (h : ∃ cs t, w.heap[a]? = some (.cells cs t (0, 0))) (hb : Below w.heap.size w w') : ∃ cs t, w'.heap[a]? = some (.cells cs t (0, 0)) := by
  obtain ⟨cs, t, h⟩ := h
  have hlt : a < w.heap.size := (Array.getElem?_eq_some_iff.1 h).1
  exact ⟨cs, t, (hb.block a hlt).trans h⟩
theorem cell_below {w w' : World} {a : Addr} {v : Value} (h : w.cell? a = some v) (hb : Below w.heap.size w w') : w'.cell? a = some v :=
  (hb.cell (World.block_lt_of_cell? w a h)).trans h
theorem Gl.below {w w' : World} {aM aN aB : Addr} (h : Gl w aM aN aB) (hb : Below w.heap.size w w') : Gl w' aM aN aB :=
  ⟨cell_below h.more hb, cell_below h.noMark hb, cell_below h.badMark hb, cell_below h.typ hb, h.nb, h.nm, row_below h.rM hb, row_below h.rN hb, row_below h.rB hb⟩
/-- An error of package schema, and the number that it is told as. -/
def IsErr (aM aN aB : Addr) (e : Value) (n : Int) : Prop :=
  (∃ i, e = colErr i (refusal n)) ∨ (∃ i, e = colErr i (sent aN) ∧ n = 6) ∨ (∃ i, e = colErr i (sent aB) ∧ n = 7) ∨ (e = sent aM ∧ n = 7)

set_option maxHeartbeats 4000000 in
theorem as_any (T : TypeId) (v : Value) (t : Nat) (w : World) (r : Bool) (R : World → Prop) (hT : w.cell? ⟨3, 0, none⟩ = some (.iface 107 (.agg #[.pointer (some ⟨4, 58, none⟩)])))
    (h : ∀ g w', Below w.heap.size w w' → w'.cell? ⟨g, 0, none⟩ = some (.pointer (some ⟨t, 0, none⟩)) → Calls Tryd.prog 62 #[.iface T v, .iface 75 (.pointer (some ⟨t, 0, none⟩)), tval g, ttyp] w' fun ev w'' => ev = .returned (.bool r) ∧ R w'') :
    Calls Tryd.prog 48 #[.iface T v, .iface 75 (.pointer (some ⟨t, 0, none⟩))] w fun ev w'' => ev = .returned (.bool r) ∧ R w'' := by
  have h6 := @run_callFunc_extern Tryd.prog 59 _ (fun args => ReflectliteValue.unpack (args.getD 0 (.tuple #[]))) Tryd.func59 (by kernel_rfl) (by kernel_rfl) (by kernel_rfl) (by kernel_rfl)
  have h7 := @run_callFunc_extern Tryd.prog 60 _ (ReflectliteValue.methodAny (ReflectliteValue.valueError "reflectlite.Value.Type" 0) (fun t _ _ _ => ReflectliteType.toType t)) Tryd.func60 (by kernel_rfl) (by kernel_rfl) (by kernel_rfl) (by kernel_rfl)
  have h8 := @run_callFunc_extern Tryd.prog 61 _ (ReflectliteValue.method (ReflectliteValue.valueError "reflectlite.Value.IsNil" 0) ReflectliteValue.isNil) Tryd.func61 (by kernel_rfl) (by kernel_rfl) (by kernel_rfl) (by kernel_rfl)
  have h27 := @run_callFunc_extern Tryd.prog 93 _ (ReflectliteType.abiMethod fun t => do pure (.int .u8 (← Rtype.kind t))) Tryd.func93 (by kernel_rfl) (by kernel_rfl) (by kernel_rfl) (by kernel_rfl)
  have h37 := @run_callFunc_extern Tryd.prog 105 _ (ReflectliteType.method ReflectliteType.elem) Tryd.func105 (by kernel_rfl) (by kernel_rfl) (by kernel_rfl) (by kernel_rfl)
  have h38 := @run_callFunc_extern Tryd.prog 106 _ (ReflectliteType.relation "Implements" ReflectliteType.implements_) Tryd.func106 (by kernel_rfl) (by kernel_rfl) (by kernel_rfl) (by kernel_rfl)
  have f6 := valueOfT
  have f7 := typeT
  have mK := methodKind
  have mE := methodElem
  have mI := methodImplements
  have kT := kindT
  have kE := kindE
  have eT := elemT
  have iE := implementsE
  have hb0 := ((Below.refl w.heap.size w).alloc (Nat.le_refl _) (.cells #[.pointer (some ⟨t, 0, none⟩)] 75)).alloc (by simp) (.cells #[.pointer (some ⟨4, 75, none⟩), .pointer (some ⟨w.heap.size, 0, none⟩), .int .u64 150] 88)
  have hcp : ((w.alloc (.cells #[.pointer (some ⟨t, 0, none⟩)] 75)).alloc (.cells #[.pointer (some ⟨4, 75, none⟩), .pointer (some ⟨w.heap.size, 0, none⟩), .int .u64 150] 88)).cell? ⟨w.heap.size, 0, none⟩ = some (.pointer (some ⟨t, 0, none⟩)) := by
    rw [World.cell?_alloc_lt _ _ ⟨w.heap.size, 0, none⟩ (by simp)]; simp
  have n8 := isNilT ⟨w.heap.size, 0, none⟩ ⟨t, 0, none⟩ _ hcp
  have hg2 := cell_below hT hb0
  have H := h w.heap.size _ hb0 hcp
  unfold tval ttyp at H
  have H' := Lib.hid H
  clear H h
  go_enter Tryd.func48, Tryd.ntmps48
  go_wp2_with fail
  refine H'.out.mono ?_
  rintro e w1 ⟨rfl, hR⟩
  go_wp2_with fail
  go_ret
  exact ⟨rfl, hR⟩

/-! errors.Is at a sentinel -/
theorem comparable_run (w : World) : (callFunc 104 #[.agg #[.pointer (some ⟨4, 127, none⟩)]]).run Tryd.prog w = .ok (.value (.bool true)) w := by
  have h := @run_callFunc_extern Tryd.prog 104 _ (ReflectliteType.method fun t => do Rtype.noPackHeld "Comparable" t; pure (.bool (← typeInfo t).comparable)) Tryd.func104 (by kernel_rfl) (by kernel_rfl) (by kernel_rfl) (by kernel_rfl)
  exact (h _ w).trans (by kernel_rfl)
theorem is_start {e : Value} {b : Addr} {w : World} {r : Bool} (T : TypeId) (v : Value) (he : e = .iface T v) (h : Calls Tryd.prog 64 #[e, sent b, .bool true] w fun ev w' => ev = .returned (.bool r) ∧ Below w.heap.size w w') :
    Calls Tryd.prog 49 #[e, sent b] w fun ev w' => ev = .returned (.bool r) ∧ Below w.heap.size w w' := by
  subst he
  unfold sent at h ⊢
  have h8 := @run_callFunc_extern Tryd.prog 63 _ Extern.ReflectliteType.typeOf Tryd.func63 (by kernel_rfl) (by kernel_rfl) (by kernel_rfl) (by kernel_rfl)
  have h32 := comparable_run
  have tT := typeOfS
  have mR := methodComparable
  have H' := Lib.hid h
  clear h
  go_enter Tryd.func49, Tryd.ntmps49
  go_wp2_with fail
  refine H'.out.mono ?_
  rintro e w1 ⟨rfl, hR⟩
  go_wp2_with fail
  go_ret
  exact ⟨rfl, hR⟩
set_option maxHeartbeats 1000000 in
/-- A column's error that wraps the sentinel itself. -/
theorem is_wrap_same (i : Int) (b : Addr) (w : World) :
    Calls Tryd.prog 64 #[colErr i (sent b), sent b, .bool true] w fun ev w' => ev = .returned (.bool true) ∧ Below w.heap.size w w' := by
  unfold colErr sent
  obtain ⟨j, hj, hcmp⟩ := Option.map_eq_some_iff.1 compS
  obtain ⟨k, hk, hks⟩ := Option.map_eq_some_iff.1 sizeS
  have n4 := noIsC
  have n5 := hasUnwrapC
  have mU := methodUnwrap
  have heq := fun w => run_eql_iface_ptr_same (P := Tryd.prog) w b Tryd.underlying58 Tryd.underlying127 hj hcmp hk
  have hty := fun w => run_eql_iface_types (P := Tryd.prog) 72 127 (.agg #[.int .i64 i, .iface 127 (.pointer (some b))]) (.pointer (some b)) Tryd.underlying58 (by decide) w
  go_enter Tryd.func64, Tryd.ntmps64
  go_wp2
  refine wp_loop_rounds 2 ?_
  rw [rounds_succ]
  go_wp2_with fail
  refine (unwrap_any _ _ _).mono ?_
  rintro e w1 ⟨rfl, hB1⟩
  go_wp2
  rw [rounds_succ]
  go_wp2
  go_ret
  exact ⟨rfl, hB1⟩
set_option maxHeartbeats 1000000 in
/-- A column's error that wraps another. -/
theorem is_wrap_other (i : Int) (a b : Addr) (w : World) (hne : a ≠ b) (ha : ∃ cs t, w.heap[a.block]? = some (.cells cs t (0, 0))) (hb : ∃ cs t, w.heap[b.block]? = some (.cells cs t (0, 0))) :
    Calls Tryd.prog 64 #[colErr i (sent a), sent b, .bool true] w fun ev w' => ev = .returned (.bool false) ∧ Below w.heap.size w w' := by
  unfold colErr sent
  obtain ⟨j, hj, hcmp⟩ := Option.map_eq_some_iff.1 compS
  obtain ⟨k, hk, hks⟩ := Option.map_eq_some_iff.1 sizeS
  have n1 := noIsS
  have n2 := noUnwrapS
  have n3 := noUnwrapsS
  have n4 := noIsC
  have n5 := hasUnwrapC
  have mU := methodUnwrap
  have hty := fun w => run_eql_iface_types (P := Tryd.prog) 72 127 (.agg #[.int .i64 i, .iface 127 (.pointer (some a))]) (.pointer (some b)) Tryd.underlying58 (by decide) w
  go_enter Tryd.func64, Tryd.ntmps64
  go_wp2
  refine wp_loop_rounds 2 ?_
  rw [rounds_succ]
  go_wp2_with fail
  refine (unwrap_any _ _ _).mono ?_
  rintro e w1 ⟨rfl, hB1⟩
  obtain ⟨ca, ta, ha1⟩ := row_below ha hB1
  obtain ⟨cb, tb, hb1⟩ := row_below hb hB1
  have heq := run_eql_iface_ptr_other (P := Tryd.prog) w1 Tryd.underlying58 Tryd.underlying127 hj hcmp hk (by rw [hks]; decide) hne ha1 hb1
  clear ha hb ha1 hb1
  go_wp2
  rw [rounds_succ]
  go_wp2
  go_ret
  exact ⟨rfl, hB1⟩
set_option maxHeartbeats 1000000 in
/-- Another sentinel. -/
theorem is_other (a b : Addr) (w : World) (hne : a ≠ b) (ha : ∃ cs t, w.heap[a.block]? = some (.cells cs t (0, 0))) (hb : ∃ cs t, w.heap[b.block]? = some (.cells cs t (0, 0))) :
    Calls Tryd.prog 64 #[sent a, sent b, .bool true] w fun ev w' => ev = .returned (.bool false) ∧ Below w.heap.size w w' := by
  unfold sent
  obtain ⟨j, hj, hcmp⟩ := Option.map_eq_some_iff.1 compS
  obtain ⟨k, hk, hks⟩ := Option.map_eq_some_iff.1 sizeS
  have n1 := noIsS
  have n2 := noUnwrapS
  have n3 := noUnwrapsS
  obtain ⟨ca, ta, ha1⟩ := ha
  obtain ⟨cb, tb, hb1⟩ := hb
  have heq := run_eql_iface_ptr_other (P := Tryd.prog) w Tryd.underlying58 Tryd.underlying127 hj hcmp hk (by rw [hks]; decide) hne ha1 hb1
  clear ha1 hb1
  go_enter Tryd.func64, Tryd.ntmps64
  go_wp2
  refine wp_loop_rounds 1 ?_
  rw [rounds_succ]
  go_wp2
  go_ret
  exact ⟨rfl, Below.refl _ _⟩

/-- errno: the number of an error of get. -/
theorem isN_iface {aM aN aB : Addr} {e : Value} {n : Int} (h : IsErr aM aN aB e n) : ∃ T v, e = .iface T v := by
  rcases h with ⟨i, rfl⟩ | ⟨i, rfl, _⟩ | ⟨i, rfl, _⟩ | ⟨rfl, _⟩
  all_goals exact ⟨_, _, rfl⟩
set_option maxHeartbeats 1000000 in
theorem errno_any {aM aN aB : Addr} {e : Value} {n : Int} (w : World) (hG : Gl w aM aN aB) (hE : IsErr aM aN aB e n) :
    Calls Tryd.prog 37 #[e] w fun ev w' => ev = .returned (.int .i64 n) ∧ Below w.heap.size w w' := by
  have hb0 := (Below.refl w.heap.size w).alloc (Nat.le_refl _) (.cells #[.int .i64 0] 73)
  have ct : (w.alloc (.cells #[.int .i64 0] 73)).cell? ⟨w.heap.size, 0, none⟩ = some (.int .i64 0) := by simp
  have cf : (w.alloc (.cells #[.int .i64 0] 73)).frozen? ⟨w.heap.size, 0, none⟩ = false := by simp
  have hG0 := hG.below hb0
  rcases hE with ⟨i, rfl⟩ | hE
  · have A := as_any _ _ w.heap.size (w.alloc (.cells #[.int .i64 0] 73)) true (fun w2 => ∃ w1, Below (w.alloc (.cells #[.int .i64 0] 73)).heap.size (w.alloc (.cells #[.int .i64 0] 73)) w1 ∧ w2 = w1.setCell ⟨w.heap.size, 0, none⟩ (.int .i64 n)) hG0.typ
      fun g w' hb hg => (as_wrap_hit i n w.heap.size (.int .i64 0) (.iface 75 (.pointer (some ⟨w.heap.size, 0, none⟩))) g w' hg ((hb.cell (p := ⟨w.heap.size, 0, none⟩) (by simp)).trans ct) ((hb.frozen (p := ⟨w.heap.size, 0, none⟩) (by simp)).trans cf)).mono fun ev w2 ⟨h1, w1, h2, h3⟩ => ⟨h1, w1, hb.trans (h2.mono hb.size), h3⟩
    have A' := Lib.hid A
    clear A hG hG0
    unfold colErr refusal at *
    go_enter Tryd.func37, Tryd.ntmps37
    go_wp2_with fail
    refine A'.out.mono ?_
    rintro e w2 ⟨rfl, w1, hB, rfl⟩
    have hbk := (hB.block w.heap.size (by simp)).trans (heap_alloc_new w (.cells #[.int .i64 0] 73))
    have hbk2 := heap_setCell_same w1 w.heap.size 0 _ _ (.int .i64 n) hbk
    have c1 : (w1.setCell ⟨w.heap.size, 0, none⟩ (.int .i64 n)).cell? ⟨w.heap.size, 0, none⟩ = some (.int .i64 n) := by unfold World.cell?; simp [hbk2]
    clear hbk hbk2
    go_wp2_with fail
    go_ret
    exact ⟨rfl, (hb0.trans (hB.mono hb0.size)).setCell (Nat.le_refl _) _⟩
  · obtain ⟨T, v, he, r, hn, hA, hI⟩ : ∃ T v, e = .iface T v ∧ ∃ r : Bool, n = (if r then 6 else 7)
        ∧ (∀ x g w', Calls Tryd.prog 62 #[e, x, tval g, ttyp] w' fun ev w2 => ev = .returned (.bool false) ∧ Below w'.heap.size w' w2)
        ∧ (∀ w', Gl w' aM aN aB → Calls Tryd.prog 64 #[e, sent aN, .bool true] w' fun ev w2 => ev = .returned (.bool r) ∧ Below w'.heap.size w' w2) := by
      rcases hE with ⟨i, rfl, rfl⟩ | ⟨i, rfl, rfl⟩ | ⟨rfl, rfl⟩
      · exact ⟨_, _, rfl, true, rfl, fun x g w' => as_wrap_miss i aN x g w', fun w' _ => is_wrap_same i aN w'⟩
      · exact ⟨_, _, rfl, false, rfl, fun x g w' => as_wrap_miss i aB x g w', fun w' h => is_wrap_other i aB aN w' h.nb h.rB h.rN⟩
      · exact ⟨_, _, rfl, false, rfl, fun x g w' => as_miss aM x g w', fun w' h => is_other aM aN w' h.nm h.rM h.rN⟩
    have A := as_any T v w.heap.size (w.alloc (.cells #[.int .i64 0] 73)) false (fun w2 => Below (w.alloc (.cells #[.int .i64 0] 73)).heap.size (w.alloc (.cells #[.int .i64 0] 73)) w2) hG0.typ
      fun g w' hb hg => (he ▸ hA _ g w').mono fun ev w2 ⟨h1, h2⟩ => ⟨h1, hb.trans (h2.mono hb.size)⟩
    have I := fun w' h => is_start T v he (hI w' h)
    subst he
    have A' := Lib.hid A
    have I' := Lib.hid I
    have HG := Lib.hid hG0
    have Hn := Lib.hid hn
    clear A I hA hI hG hG0 hE hn
    go_enter Tryd.func37, Tryd.ntmps37
    go_wp2_with fail
    refine A'.out.mono ?_
    rintro e w2 ⟨rfl, hB⟩
    have hG2 := HG.out.below hB
    have cN := hG2.noMark
    have HG2 := Lib.hid hG2
    clear hG2
    go_wp2_with fail
    refine (I'.out _ HG2.out).mono ?_
    rintro e w3 ⟨rfl, hB3⟩
    have hfin := hb0.trans ((hB.trans (hB3.mono hB.size)).mono hb0.size)
    cases r
    · go_wp2_with fail
      go_ret
      exact ⟨by rw [Hn.out]; rfl, hfin⟩
    · go_wp2_with fail
      go_ret
      exact ⟨by rw [Hn.out]; rfl, hfin⟩
end Er
end Go.Proofs.YtdmgjeipkpbojaaDoor
