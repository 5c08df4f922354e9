/- Package rows: within; each, for whatever function it is handed. What Add of package dict does. Over any program: the lexical walk of a region that draws its order, ahead of its tail, one operation at a time: passed over where its guard says so, run where it is wanted. (The walk is wrapped, so that the elaborator does not run it.) Package rows: the closure of room, which looks at one column. -/
import Derived.WalkSpells
import Derived.Lib.Hide
import Derived.RegionTactic
import Derived.Deep.RegionWith
import Derived.Deep.QuietTactic
import Derived.BigQuiet
import Derived.StillTailTactics
import Derived.KernelRfl
import Derived.Deep.RegionHeld3
import Derived.Test.YtpappcmgnnmbeaaDoorPk15
import Derived.Test.YtpappcmgnnmbeaaDoorPk14
namespace Go.Proofs.YtpappcmgnnmbeaaDoor
set_option maxRecDepth 20000
open Go.RowKit
namespace Rw
open Va (Vl May null)
/-- The function f has a body, which a call enters. -/
def Goes (f : Nat) : Prop := ∀ (args : Array Value) (w : World), (callFunc f args).run Tryd.prog w = .ok (.enter f args) w
/-- The function f takes columns: called with number and address of column k (and with what it has captured) it turns Inv k into Inv (k + 1). -/
def Takes (f : Nat) (cap : Array Value) (g n : Nat) (Inv : Nat → World → Prop) : Prop :=
  ∀ k w, k < n → Inv k w → Calls Tryd.prog f (#[.int .i64 k, .pointer (some ⟨g, k * 2, none⟩)] ++ cap) w fun e w' => e = .returned (.tuple #[]) ∧ Inv (k + 1) w'
end Rw
end Go.Proofs.YtpappcmgnnmbeaaDoor
namespace Go.Proofs.YtpappcmgnnmbeaaDoor
set_option maxRecDepth 20000
open Go.RowKit Go.Maps
namespace Dt
open Va (Vl May ord null)
open Vc (mayB mayB_iff may_any)
open Sc (tr tr_yes tr_no tr_iff)
open Dc Dx
/-- append of one value: its run, and where the row lies then. -/
theorem run_appV_at (w : World) (ty : TypeId) (B : Nat) (v : Value) (L : List Vl) (hown : w.ownsRow B 27 4 v L.length (Wd.flatV L)) (ad : Addr) (o : Vl) (hc : ∀ j u, (Wd.vals o)[j]? = some u → w.cell? (ad.add j) = some u) (hL : L.length ≤ 1000000) (hB : B ≤ w.heap.size) :
    ∃ A c w', (Builtin.append_ #[40, 40] ty #[v, .slice (some ad) 1 1]).run Tryd.prog w = .ok (.slice A (L.length + 1) c) w' ∧ w'.ownsRow B 27 4 (.slice A (L.length + 1) c) (L ++ [o]).length (Wd.flatV (L ++ [o])) ∧ w.grownBy w' v.ownBlock ∧ ((Value.slice A (L.length + 1) c).ownBlock = v.ownBlock ∨ (Value.slice A (L.length + 1) c).ownBlock = some w.heap.size) := by
  obtain ⟨i0, hi, hz0, hz1, hz2⟩ := info_parts Wd.info_vl
  obtain ⟨v', w', hrun, h2, h3, _, h5⟩ := run_append_own_at (P := Tryd.prog) w B 40 ty 27 i0 _ 4 40 Tryd.underlying40 hi hz0 hz1 hz2 rfl (by decide) v L.length _ hown ad 1 1 (Wd.vals o) rfl hc (Wd.vals_one o) (by unfold maxLen; omega) (by omega) hB
  obtain ⟨A, c, rfl⟩ := own_shape h2
  exact ⟨A, c, w', hrun, by rw [List.length_append, Wd.flatV_app, Wd.flatV_one]; exact h2, h3, h5⟩
/-- An append whose run is known, as a step of a region. -/
theorem step_run {w w' : World} {ops : Array Oper} {o : Oper} {a : Act} {K : Act → World → Prop} {Q : Exit → Act → World → Prop} {E : Prop} (hgd : o.guard = none) {s x : Operand} {v : Value}
    (ho : o.op = .call { callee := .builtin .append, args := #[s, x], argTypes := #[40, 40] })
    (hrun : (Builtin.append_ #[40, 40] o.type #[a.eval s, a.eval x]).run Tryd.prog w = .ok v w') (h : K (a.put o.dst v) w') : if Region.wanted o (yielded ops a.tmps) = true then Oper.wp Tryd.prog o a w K Q else E := by
  rw [if_pos (by simp [Region.wanted, hgd])]
  unfold Oper.wp
  simp [execOp, ho, resolve, invoke, builtin, hrun, Result.andThen]
  exact h
section
variable {w : World} {d m : Nat} {v : Value} {L : List Vl} {k : Int} {G : Nat → Prop}
end
end Dt
end Go.Proofs.YtpappcmgnnmbeaaDoor
namespace Go.Proofs.YtpappcmgnnmbeaaDoor
set_option maxRecDepth 20000
namespace Sk
structure St (P : Program) (ops : Array Oper) (w : World) (Q : Act → Prop) (l : List Oper) (a : Act) : Prop where
  out : wpStill P ops w Q l a
section
variable {P : Program} {ops : Array Oper} {w : World} {Q : Act → Prop} {a : Act} {o : Oper} {rest : List Oper}
theorem want (hw : Region.wanted o (yielded ops a.tmps) = true) (h : ∀ K : Act → Prop, (∀ a, St P ops w Q rest a → K a) → o.still P a w K) : St P ops w Q (o :: rest) a :=
  ⟨wpStill_step fun K hK => by rw [if_pos hw]; exact h K fun a q => hK a q.out⟩
theorem skip (hw : Region.wanted o (yielded ops a.tmps) = false) (h : St P ops w Q rest (a.put o.dst undef)) : St P ops w Q (o :: rest) a :=
  ⟨wpStill_step fun K hK => by rw [if_neg (by rw [hw]; exact Bool.false_ne_true)]; exact hK _ h.out⟩
theorem nil (h : Q a) : St P ops w Q [] a := ⟨wpStill_nil h⟩
end
section
variable {P : Program} {ops : Array Oper} {w : World} {Q : Exit → Act → World → Prop} {a : Act} {o : Oper} {rest : List Oper}
/-- The same in a plain list of operations. -/
theorem lwant (hw : Region.wanted o (yielded ops a.tmps) = true) (h : ∀ K : Act → World → Prop, (∀ a w, wpList P ops Q rest a w → K a w) → o.wp P a w K Q) : wpList P ops Q (o :: rest) a w :=
  wpList_step fun K hK => by rw [if_pos hw]; exact h K hK
theorem lskip (hw : Region.wanted o (yielded ops a.tmps) = false) (h : wpList P ops Q rest (a.put o.dst undef) w) : wpList P ops Q (o :: rest) a w :=
  wpList_step fun K hK => by rw [if_neg (by rw [hw]; exact Bool.false_ne_true)]; exact hK _ _ h
end
end Sk
end Go.Proofs.YtpappcmgnnmbeaaDoor
namespace Go.Proofs.YtpappcmgnnmbeaaDoor
set_option maxRecDepth 20000
open Go.RowKit
namespace Rw
open Va (Vl May null)
theorem and6 {w w' : World} {a b : Nat} {o f0 f1 f2 f3 B : Nat} {p : Nat} {x0 x1 y0 y1 y2 y3 : Value} (h : w.cell? ⟨a, o, none⟩ = some x0 ∧ w.cell? ⟨p, 0, none⟩ = some x1 ∧ w.cell? ⟨b, f0, none⟩ = some y0 ∧ w.cell? ⟨b, f1, none⟩ = some y1 ∧ w.cell? ⟨b, f2, none⟩ = some y2 ∧ w.cell? ⟨b, f3, none⟩ = some y3)
    (hb : Below B w w') (ha : a < B) (hp : p < B) (hB : b < B) : w'.cell? ⟨a, o, none⟩ = some x0 ∧ w'.cell? ⟨p, 0, none⟩ = some x1 ∧ w'.cell? ⟨b, f0, none⟩ = some y0 ∧ w'.cell? ⟨b, f1, none⟩ = some y1 ∧ w'.cell? ⟨b, f2, none⟩ = some y2 ∧ w'.cell? ⟨b, f3, none⟩ = some y3 :=
  ⟨(hb.cell (p := ⟨a, o, none⟩) ha).trans h.1, (hb.cell (p := ⟨p, 0, none⟩) hp).trans h.2.1, (hb.cell (p := ⟨b, f0, none⟩) hB).trans h.2.2.1, (hb.cell (p := ⟨b, f1, none⟩) hB).trans h.2.2.2.1, (hb.cell (p := ⟨b, f2, none⟩) hB).trans h.2.2.2.2.1, (hb.cell (p := ⟨b, f3, none⟩) hB).trans h.2.2.2.2.2⟩
end Rw
end Go.Proofs.YtpappcmgnnmbeaaDoor
