/- Package upsert: Valid. The law's own schema and rows. -/
import Derived.Deep.DeepCutAuto
import Derived.Test.YtpappcmgnnmbeaaDoorPk18
import Derived.Test.YtpappcmgnnmbeaaDoorPk20
import Derived.Test.YtpappcmgnnmbeaaDoorPk08
import Derived.Test.YtpappcmgnnmbeaaDoorPk07
import Derived.Test.YtpappcmgnnmbeaaDoorPk10
import Derived.Test.YtpappcmgnnmbeaaDoorPk15
import Derived.Test.YtpappcmgnnmbeaaDoorPk05
namespace Go.Proofs.YtpappcmgnnmbeaaDoor
set_option maxRecDepth 20000
open Go.RowKit Go.Maps
namespace Up
open Va (Vl)
open Sc (Sch FitS MayS tr tr_yes tr_no)
theorem res_set {fn : Func} {p : Tmp} {ty : TypeId} (h : fn.results = #[.cell p ty]) (tmps : Array Value) (P : Program) (w : World) :
    (results fn tmps).run P w = ((asAddr (tmps.getD p undef)).run P w).andThen fun a w₁ => ((loadVar ty a).run P w₁) := by
  simp only [results, h]
  simp [Sem.run_bind, Result.andThen]
section
variable {w w' : World} {t : Nat} {A : Option Addr} {n c : Nat} {s : Sch} {bd bw bs nd nw ns : Nat} {fd fw : Int → Option Value} {sg : Vl → Option Int} {W : Vl → Option Rw} {Dc : Int → List Int} {N : Nat} {F : Nat → Prop}
theorem valid_nil (g : Int) (w : World) : Calls Tryd.prog 21 #[.pointer none, .int .i64 g] w (Bi.Gv Bw.St w []) := by
  have hb0 := (Below.refl w.heap.size w).alloc (Nat.le_refl _) (.cells #[.slice none 0 0] 54)
  have z0 := Wd.Bx.new w 54 #[.slice none 0 0]
  have hfz := z0.free
  go_enter Tryd.func21, Tryd.ntmps21
  go_wp2_with fail
  generalize hwa : w.alloc (.cells #[.slice none 0 0] 54) = wa at *
  clear hwa
  have c0 := z0.cell 0
  simp at c0
  go_wp2_with fail
  (try simp only [Exit.inBlock, Exit.then])
  refine bodyPost_ret (v := .agg #[.slice none 0 0]) ?_ rfl ⟨none, 0, 0, rfl, st_zero _, ?_⟩
  · rw [res_set rfl]; go_simp
  · exact hb0
set_option maxHeartbeats 2000000 in
/-- Without a key all rows count. -/
theorem valid_all (h : Lay w t A n c s bd bw bs nd nw ns fd fw sg W Dc N F) (hk : s.key = -1) {g : Int} (hg : (Lit.int .i64 g).wf = true) :
    Calls Tryd.prog 21 #[.pointer (some ⟨t, 0, none⟩), .int .i64 g] w (Bi.Gv Bw.St w (Dc g)) := by
  have hb0 := (Below.refl w.heap.size w).alloc (Nat.le_refl _) (.cells #[.slice none 0 0] 54)
  have z0 := Wd.Bx.new w 54 #[.slice none 0 0]
  have hfz := z0.free
  have h1 := h.below hb0
  obtain ⟨SA, sn, sc, hSv, hSt⟩ := h1.setv g
  have k1 : (Instr.lookup 74 (.map (some bd)) (.int .i64 g) false).run Tryd.prog (w.alloc (.cells #[.slice none 0 0] 54)) = .ok (.agg #[.slice SA sn sc]) (w.alloc (.cells #[.slice none 0 0] 54)) := by
    have := h1.docs.look Tryd.underlying74 (zero_set _) (x := g) hg
    rwa [hSv] at this
  have Ck := keyed_any h1.box
  rw [show kdS s = false from decide_eq_false (by simp [hk])] at Ck
  have Ck := Lib.hid Ck
  have c5 := h1.box.cell 5
  simp at c5
  have HS := Lib.hid hSt
  clear hk hSv hSt h1 h
  go_enter Tryd.func21, Tryd.ntmps21
  go_wp2_with fail
  generalize hwa : w.alloc (.cells #[.slice none 0 0] 54) = wa at *
  clear hwa
  have c0 := z0.cell 0
  simp at c0
  refine (Ck.out).mono ?_
  rintro e w5 ⟨rfl, e5⟩
  subst e5
  go_wp2_with fail
  (try simp only [Exit.inBlock, Exit.then])
  refine bodyPost_ret (v := .agg #[.slice SA sn sc]) ?_ rfl ⟨SA, sn, sc, rfl, ?_, ?_⟩
  · rw [res_set rfl]; go_simp
  · have z0' : Wd.Bx w5 w.heap.size 54 (List.toArray [.slice none 0 0]) := z0
    exact st_alien HS.out (H := fun x => x = w.heap.size) (by rintro x rfl; exact alien_bx z0' (by simp)) (Wd.Mv.set (G := fun x => x = w.heap.size) (a := ⟨w.heap.size, 0, none⟩) (Wd.Mv.refl _ _) rfl _)
  · exact hb0.setCell (p := ⟨w.heap.size, 0, none⟩) (Nat.le_refl _) _
/-- append of one number: which block turns. -/
theorem wpList_appG (w0 : World) {ops : Array Oper} {rest : List Oper} {o : Oper} {a : Act} {Q : Exit → Act → World → Prop} (hgd : o.guard = none) (s x : Operand)
    (ho : o.op = .call { callee := .builtin .append, args := #[s, x], argTypes := #[28, 28] })
    (B : Nat) (hB : B ≤ w0.heap.size) (v : Value) (L : List Int) (hs : a.eval s = v) (hown : Bx.Rw w0 B v L) (y : Int) (hx : a.eval x = .slice (some ⟨w0.heap.size, 0, none⟩) 1 1) (hL : L.length ≤ 1000000)
    (h : ∀ v' w', Bx.Rw w' B v' (L ++ [y]) → (w0.alloc (.cells #[.int .i64 y] 3)).grownBy w' v.ownBlock → wpList Tryd.prog ops Q rest (a.put o.dst v') w') : wpList Tryd.prog ops Q (o :: rest) a (w0.alloc (.cells #[.int .i64 y] 3)) := by
  obtain ⟨i0, hi, hz0, hz1, hz2⟩ := info_parts Bx.info_i
  refine wpList_plain hgd fun K hK => ?_
  obtain ⟨v', w', hrun, h2, h3, _, _⟩ := run_append_own_at (P := Tryd.prog) (w0.alloc (.cells #[.int .i64 y] 3)) B 28 o.type 3 i0 _ 1 8 Tryd.underlying28 hi hz0 hz1 hz2 rfl (by decide) v L.length _ (World.ownsRow.alloc hown _) ⟨w0.heap.size, 0, none⟩ 1 1 [.int .i64 y] rfl (cell_one_new _ _ _) (fun u hu => by rw [List.mem_singleton.1 hu]; rfl) (by unfold maxLen; omega) (by omega) (Nat.le_trans hB (by simp))
  unfold Oper.wp
  simp [execOp, ho, resolve, invoke, builtin, hs, hx, hrun, Result.andThen]
  exact hK _ _ (h v' w' (by unfold Bx.Rw; rw [List.length_append, List.map_append]; exact h2) h3)
/-- The rows of a segment that count, where there is a key. -/
def Cnt (W : Vl → Option Rw) (g x : Int) : Prop := ∃ v r, W v = some r ∧ r.seg = g ∧ r.gone = false ∧ r.doc = x
/-- Those of them that have come. -/
def CntD (W : Vl → Option Rw) (g : Int) (todo : Vl → Prop) (x : Int) : Prop := ∃ v r, W v = some r ∧ r.seg = g ∧ r.gone = false ∧ r.doc = x ∧ ¬ todo v
theorem range_nil_run (w : World) : (Instr.range 83 (.map none)).run Tryd.prog w = .ok (.pointer (some ⟨w.heap.size, 0, none⟩)) (w.alloc (.mapIter none 0 #[] 0)) := by
  simp [Instr.range, run_underlying Tryd.underlying83, Result.andThen]
theorem next_nil_run (w : World) (ty : TypeId) (r : Nat) (h : w.heap[r]? = some (.mapIter none 0 #[] 0)) : (Instr.next (.pointer (some ⟨r, 0, none⟩)) false ty).run Tryd.prog w = .ok (.tuple #[.bool false]) w := by
  have hg : (getObj r).run Tryd.prog w = .ok (.mapIter none 0 #[] 0) w := by simp [getObj, Sem.run, h]
  simp only [Instr.next, Sem.run_bind, hg, Result.andThen]
  rfl
set_option maxHeartbeats 2000000 in
theorem valid_none (h : Lay w t A n c s bd bw bs nd nw ns fd fw sg W Dc N F) (hk : s.key ≠ -1) {g : Int} (hg : (Lit.int .i64 g).wf = true) (hf : fw g = none) :
    Calls Tryd.prog 21 #[.pointer (some ⟨t, 0, none⟩), .int .i64 g] w (Bi.Gv Bw.St w []) := by
  have hb0 := (Below.refl w.heap.size w).alloc (Nat.le_refl _) (.cells #[.slice none 0 0] 54)
  have z0 := Wd.Bx.new w 54 #[.slice none 0 0]
  have hfz := z0.free
  have h1 := h.below hb0
  have k1 : (Instr.lookup 75 (.map (some bw)) (.int .i64 g) false).run Tryd.prog (w.alloc (.cells #[.slice none 0 0] 54)) = .ok (.map none) (w.alloc (.cells #[.slice none 0 0] 54)) := by
    have := h1.wins.look Tryd.underlying75 (zero_map _) (x := g) hg
    rwa [hf] at this
  have Ck := keyed_any h1.box
  rw [show kdS s = true from decide_eq_true hk] at Ck
  have Ck := Lib.hid Ck
  have c5 := h1.box.cell 6
  simp at c5
  have Co := Lib.hid fun (wx : World) => Bw.of_any none 0 0 [] wx (Wd.Sl.none_ _ _) (by omega)
  have hrn := range_nil_run (w.alloc (.cells #[.slice none 0 0] 54))
  have hsz0 : (w.alloc (.cells #[.slice none 0 0] 54)).heap.size = w.heap.size + 1 := by simp
  replace hsz0 := Lib.hid hsz0
  clear hk h1 h hf
  go_enter Tryd.func21, Tryd.ntmps21
  go_wp2_with fail
  generalize hwa : w.alloc (.cells #[.slice none 0 0] 54) = wa at *
  clear hwa
  have c0 := z0.cell 0
  simp at c0
  refine (Ck.out).mono ?_
  rintro e w5 ⟨rfl, e5⟩
  subst e5
  go_wp2_with fail
  have hsz : w.heap.size < w5.heap.size := by have := hsz0.out; omega
  have hb1 := hb0.alloc hb0.size (.mapIter none 0 #[] 0)
  have z1 := Wd.Bx.alloc z0 (.mapIter none 0 #[] 0)
  have hit : (w5.alloc (.mapIter none 0 #[] 0)).heap[w5.heap.size]? = some (.mapIter none 0 #[] 0) := heap_alloc_new w5 _
  have hnx := fun ty => next_nil_run (w5.alloc (.mapIter none 0 #[] 0)) ty w5.heap.size hit
  generalize hwb : w5.alloc (.mapIter none 0 #[] 0) = wb at *
  clear hwb hit k1 c5 Ck z0 hfz c0 hrn
  have hnx' := Lib.hid hnx
  clear hnx
  go_loopw [5] (fun lv wr => lv = .slice none 0 0 ∧ wr = wb) (fun _ _ => 0)
  case atStart => exact ⟨rfl, rfl⟩
  case round =>
    obtain ⟨rfl, rfl⟩ := hrel
    have hnx := hnx'.out
    clear hnx'
    have c0 := z1.cell 0
    have hfz := z1.free
    simp at c0
    have hlt := Lib.hid hsz
    clear hsz
    go_wp2_with fail
    refine (Co.out _).mono ?_
    rintro e w6 ⟨A2, n2, c2, rfl, hst, hb6⟩
    have z2 : Wd.Bx w6 w.heap.size 54 #[.slice none 0 0] := z1.below z1.lt hb6
    have d0 := z2.cell 0
    have hfy := z2.free
    simp at d0
    clear c0 hfz
    have HZ := Lib.hid z2
    have HS := Lib.hid hst
    have HB := Lib.hid (hb1.trans (hb6.mono hb1.size))
    go_wp2_with fail
    (try simp only [Exit.inBlock, Exit.then])
    refine bodyPost_ret (v := .agg #[.slice A2 n2 c2]) ?_ rfl ⟨A2, n2, c2, rfl, ?_, ?_⟩
    · rw [res_set rfl]; go_simp
    · have z3 : Wd.Bx w6 w.heap.size 54 (List.toArray [.slice none 0 0]) := HZ.out
      exact st_alien HS.out (H := fun x => x = w.heap.size) (by rintro x rfl; exact alien_bx z3 (by simp)) (Wd.Mv.set (G := fun x => x = w.heap.size) (a := ⟨w.heap.size, 0, none⟩) (Wd.Mv.refl _ _) rfl _)
    · exact HB.out.setCell (p := ⟨w.heap.size, 0, none⟩) (Nat.le_refl _) _
theorem Rg.obj {w : World} {b r n : Nat} {f : Vl → Option Value} {todo : Vl → Prop} {cnt : Nat} (h : Rg kV w b r n f todo cnt) : ∃ bm since seen c0, w.heap[r]? = some (.mapIter bm since seen c0) := by
  obtain ⟨D, left, ⟨es, clock, since, seen, c0, _, _, _, _, h5, _⟩, _⟩ := h
  exact ⟨_, _, _, _, h5⟩
theorem own_ne {w : World} {B r : Nat} {v : Value} {L : List Int} (h : Bx.Rw w B v L) {bm : Option Nat} {since : Nat} {seen : Array Nat} {c0 : Nat} (hr : w.heap[r]? = some (.mapIter bm since seen c0)) : v.ownBlock ≠ some r := by
  intro e
  obtain ⟨_, _, cur, hc⟩ := Wd.own_lt h e
  rw [hr] at hc
  cases hc
theorem own_ne_map {w : World} {B b m : Nat} {v : Value} {L : List Int} (h : Bx.Rw w B v L) {f : Vl → Option Value} (hm : Mp kV w b m f) : v.ownBlock ≠ some b := by
  intro e
  obtain ⟨_, _, cur, hc⟩ := Wd.own_lt h e
  obtain ⟨D, ⟨es, clock, hb, _⟩, _⟩ := hm
  rw [hb] at hc
  cases hc
theorem inn_inv {v : Vl} {g : Int} {x : Value} (h : inn W g v = some x) : ∃ r, W v = some r ∧ r.seg = g ∧ x = wv r := by
  unfold inn at h
  rcases hq : W v with _ | r
  · rw [hq] at h; cases h
  · rw [hq] at h
    by_cases e : r.seg = g
    · simp only [if_pos e] at h
      injection h with h
      exact ⟨r, rfl, e, h.symm⟩
    · simp only [if_neg e] at h
      cases h
/-- One more has come. -/
theorem cntD_step {g : Int} {todo : Vl → Prop} {ys : List Int} (h : ∀ x, x ∈ ys ↔ CntD W g todo x) {v : Vl} {r : Rw} (hv : W v = some r) (hg : r.seg = g) :
    ∀ x, x ∈ (if r.gone = false then ys ++ [r.doc] else ys) ↔ CntD W g (fun z => todo z ∧ z ≠ v) x := by
  intro x
  have key : CntD W g (fun z => todo z ∧ z ≠ v) x ↔ CntD W g todo x ∨ (r.gone = false ∧ r.doc = x) := by
    constructor
    · rintro ⟨u, q, h1, h2, h3, h4, h5⟩
      by_cases e : u = v
      · rw [e, hv] at h1
        injection h1 with h1
        subst h1
        exact .inr ⟨h3, h4⟩
      · exact .inl ⟨u, q, h1, h2, h3, h4, fun z => h5 ⟨z, e⟩⟩
    · rintro (⟨u, q, h1, h2, h3, h4, h5⟩ | ⟨h1, h2⟩)
      · exact ⟨u, q, h1, h2, h3, h4, fun z => h5 z.1⟩
      · exact ⟨v, r, hv, hg, h1, h2, fun z => z.2 rfl⟩
  rw [key]
  split
  · rename_i e
    rw [List.mem_append, h x, List.mem_singleton]
    constructor
    · rintro (q | q)
      · exact .inl q
      · exact .inr ⟨e, q.symm⟩
    · rintro (q | ⟨_, q⟩)
      · exact .inl q
      · exact .inr q.symm
  · rename_i e
    rw [h x]
    constructor
    · exact .inl
    · rintro (q | ⟨q, _⟩)
      · exact q
      · exact absurd q e
set_option maxHeartbeats 4000000 in
theorem valid_some (h : Lay w t A n c s bd bw bs nd nw ns fd fw sg W Dc N F) (hN : N ≤ 100000) (hk : s.key ≠ -1) {g : Int} (hg : (Lit.int .i64 g).wf = true) {b : Nat} (hf : fw g = some (.map (some b))) :
    Calls Tryd.prog 21 #[.pointer (some ⟨t, 0, none⟩), .int .i64 g] w fun e w' => ∃ ys, (∀ x, x ∈ ys ↔ Cnt W g x) ∧ Bi.Gv Bw.St w (Bs.ofL ys) e w' := by
  have hb0 := (Below.refl w.heap.size w).alloc (Nat.le_refl _) (.cells #[.slice none 0 0] 54)
  have z0 := Wd.Bx.new w 54 #[.slice none 0 0]
  have h1 := h.below hb0
  have k1 : (Instr.lookup 75 (.map (some bw)) (.int .i64 g) false).run Tryd.prog (w.alloc (.cells #[.slice none 0 0] 54)) = .ok (.map (some b)) (w.alloc (.cells #[.slice none 0 0] 54)) := by
    have := h1.wins.look Tryd.underlying75 (zero_map _) (x := g) hg
    rwa [hf] at this
  obtain ⟨m, hm, hmN, _⟩ := h1.inner hf
  have hblt : b < w.heap.size := by
    obtain ⟨_, q, _⟩ := h.inner hf
    exact q.lt
  have Ck := keyed_any h1.box
  rw [show kdS s = true from decide_eq_true hk] at Ck
  have Ck := Lib.hid Ck
  have c5 := h1.box.cell 6
  simp at c5
  have hsz0 : (w.alloc (.cells #[.slice none 0 0] 54)).heap.size = w.heap.size + 1 := by simp
  replace hsz0 := Lib.hid hsz0
  clear hk h1 h hf
  go_enter Tryd.func21, Tryd.ntmps21
  go_wp2_with fail
  generalize hwa : w.alloc (.cells #[.slice none 0 0] 54) = wa at *
  clear hwa
  have c0 := z0.cell 0
  simp at c0
  refine (Ck.out).mono ?_
  rintro e w5 ⟨rfl, e5⟩
  rw [e5]
  clear e5
  have hm' := Lib.hid hm
  clear hm
  go_wp2_with (first
    | (at_range; refine wpList_range_map wa rfl _ 83 rfl 47 Tryd.underlying83 b m (inn W g) rfl hm'.out ?_; intro w0 hrg0 hg0 hs0)
    | fail)
  go_frame
  have hszl : w.heap.size < wa.heap.size := by have := hsz0.out; omega
  have hb1 : Below w.heap.size w w0 := hb0.grown hg0 hb0.size (by simp)
  have z1 := z0.grown hg0 (by simp)
  have hok : ∀ v r, W v = some r → r.seg = g → kV.ok v := fun v r h1 h2 => hm'.out.ok (by rw [← h2, inn_yes h1]; rfl)
  have hok := Lib.hid hok
  clear hs0 hg0 z0 hb0 c0 c5 k1 Ck
  go_loopw [5] (fun lv wr => ∃ (todo : Vl → Prop) (cnt : Nat) (ys : List Int), Rg kV wr b wa.heap.size m (inn W g) todo cnt ∧ Bx.Rw wr w.heap.size lv ys ∧ Below w.heap.size w wr ∧ Wd.Bx wr w.heap.size 54 #[.slice none 0 0] ∧ Hid (∀ x, x ∈ ys ↔ CntD W g todo x) ∧ ys.length + cnt ≤ m)
    (fun _ wr => wr.rangeLeft b wa.heap.size)
  case atStart =>
    refine ⟨_, _, [], hrg0, Bx.Rw.nil _ _, hb1, z1, Lib.hid fun x => ?_, by simp⟩
    constructor
    · intro q; cases q
    · rintro ⟨v, r, h1, h2, _, _, h5⟩
      exact absurd (show (inn W g v).isSome = true by rw [← h2, inn_yes h1]; rfl) h5
  case round =>
    obtain ⟨todo, cnt, ys, hrg, hrw, hbr, zr, hys, hcn⟩ := hrel
    clear hrg0 hb1 z1
    obtain ⟨wo, rfl⟩ : ∃ wo : World, wo = wr := ⟨_, rfl⟩
    go_wp2_with (first
      | (at_next; refine wpList_next_map wo rfl _ rfl b wa.heap.size m (inn W g) todo cnt rfl hrg ?_ ?_)
      | fail)
    · intro hl
      have hfin : ∀ x, x ∈ ys ↔ Cnt W g x := fun x => (hys.out x).trans ⟨fun ⟨v, r, h1, h2, h3, h4, _⟩ => ⟨v, r, h1, h2, h3, h4⟩, fun ⟨v, r, h1, h2, h3, h4⟩ => ⟨v, r, h1, h2, h3, h4, hl v (hok.out v r h1 h2)⟩⟩
      have hfin := Lib.hid hfin
      obtain ⟨A1, n1, c1, e1, hSl⟩ := Wd.Sl.of_own hrw
      have hn1 : n1 ≤ 1000000 := by have := hSl.len; omega
      subst e1
      have Co := Lib.hid (Bw.of_any A1 n1 c1 ys wo hSl hn1)
      have HB := Lib.hid hbr
      clear hl hrg hrw hSl hys
      go_wp2_with fail
      refine (Co.out).mono ?_
      rintro e w6 ⟨A2, n2, c2, rfl, hst, hb6⟩
      have z2 : Wd.Bx w6 w.heap.size 54 #[.slice none 0 0] := zr.below zr.lt hb6
      have d0 := z2.cell 0
      have hfy := z2.free
      simp at d0
      have HZ := Lib.hid z2
      have HS := Lib.hid hst
      have HB2 := Lib.hid (HB.out.trans (hb6.mono HB.out.size))
      go_wp2_with fail
      (try simp only [Exit.inBlock, Exit.then])
      refine bodyPost_ret (v := .agg #[.slice A2 n2 c2]) ?_ rfl ⟨ys, hfin.out, A2, n2, c2, rfl, ?_, ?_⟩
      · rw [res_set rfl]; go_simp
      · have z3 : Wd.Bx w6 w.heap.size 54 (List.toArray [.slice none 0 0]) := HZ.out
        exact st_alien HS.out (H := fun x => x = w.heap.size) (by rintro x rfl; exact alien_bx z3 (by simp)) (Wd.Mv.set (G := fun x => x = w.heap.size) (a := ⟨w.heap.size, 0, none⟩) (Wd.Mv.refl _ _) rfl _)
      · exact HB2.out.setCell (p := ⟨w.heap.size, 0, none⟩) (Nat.le_refl _) _
    · intro x v w1 cnt1 hfx htd hrg1 hlt hg1 hs1 hen
      obtain ⟨r, hr1, hr2, rfl⟩ := inn_inv hfx
      obtain ⟨bm, since, seen, c00, hitr⟩ := hrg.obj
      have hb2 : Below w.heap.size w w1 := hbr.grown hg1 hbr.size (fun j hj => by cases hj; omega)
      have z2 : Wd.Bx w1 w.heap.size 54 #[.slice none 0 0] := zr.grown hg1 (fun q => by injection q with q; omega)
      have hrw1 : Bx.Rw w1 w.heap.size u5 ys := Wd.own_keep hrw (fun y hy => hg1.block y (Wd.own_lt hrw hy).1 (fun q => by injection q with q; rw [q] at hy; exact own_ne hrw hitr hy))
      have hys2 := Lib.hid (cntD_step hys.out hr1 hr2)
      replace hen : (Instr.entry (.pointer (some ⟨wa.heap.size, 0, none⟩))).run Tryd.prog w1 = .ok (.tuple #[.agg #[.int .i64 x.kind, .int .i64 x.i, .string x.s, .bool x.b], .agg #[.int .i64 r.seg, .int .i64 r.doc, .int .i64 r.cmp, .int .i64 r.off, .bool r.gone]]) w1 := hen
      replace hlt := Lib.hid hlt
      replace hcn := Lib.hid hcn
      have Hle := Lib.hid (hrg.left_eq)
      have hb3 := hb2.alloc hb2.size (.cells #[.int .i64 r.seg, .int .i64 r.doc, .int .i64 r.cmp, .int .i64 r.off, .bool r.gone] 47)
      have z3 := Wd.Bx.alloc z2 (.cells #[.int .i64 r.seg, .int .i64 r.doc, .int .i64 r.cmp, .int .i64 r.off, .bool r.gone] 47)
      have rb := Wd.Bx.new w1 47 #[.int .i64 r.seg, .int .i64 r.doc, .int .i64 r.cmp, .int .i64 r.off, .bool r.gone]
      obtain ⟨v0, v1, v2, v3, v4⟩ := winc rb
      have hrg3 := hrg1.kept (World.grownBy_alloc w1 (.cells #[.int .i64 r.seg, .int .i64 r.doc, .int .i64 r.cmp, .int .i64 r.off, .bool r.gone] 47) none) (by simp) (by simp)
      have hrw3 : Bx.Rw (w1.alloc (.cells #[.int .i64 r.seg, .int .i64 r.doc, .int .i64 r.cmp, .int .i64 r.off, .bool r.gone] 47)) w.heap.size u5 ys := World.ownsRow.alloc hrw1 _
      clear hs1 hg1 hrg hrg1 hrw hrw1 hbr zr hitr hfx htd hr1 hr2 hys
      rw [show kV.kv x = .agg #[.int .i64 x.kind, .int .i64 x.i, .string x.s, .bool x.b] from rfl, show wv r = .agg #[.int .i64 r.seg, .int .i64 r.doc, .int .i64 r.cmp, .int .i64 r.off, .bool r.gone] from rfl]
      rcases Bool.eq_false_or_eq_true r.gone with hgone | hgone
      · rw [hgone] at hen v4 hrg3 hrw3 z3 hb3 v0 v1 v2 v3 ⊢
        have hys3 := Lib.hid (show ∀ z, z ∈ ys ↔ CntD W g (fun z => todo z ∧ z ≠ x) z by
          have := hys2.out
          rw [if_neg (by rw [hgone]; decide)] at this
          exact this)
        clear hys2 hgone rb
        go_wp2_with fail
        go_roundw
        · exact ⟨_, cnt1, ys, hrg3, hrw3, hb3, z3, hys3, by have := hlt.out; have := hcn.out; omega⟩
        · have := hlt.out
          have := hrg3.left_eq
          rw [Hle.out]
          omega
      · rw [hgone] at hen v4 hrg3 hrw3 z3 hb3 v0 v1 v2 v3 ⊢
        have hys3 := Lib.hid (show ∀ z, z ∈ (ys ++ [r.doc]) ↔ CntD W g (fun z => todo z ∧ z ≠ x) z by
          have := hys2.out
          rw [if_pos hgone] at this
          exact this)
        clear hys2 hgone rb
        have hszw : w.heap.size ≤ (w1.alloc (.cells #[.int .i64 r.seg, .int .i64 r.doc, .int .i64 r.cmp, .int .i64 r.off, .bool false] 47)).heap.size := hb3.size
        go_wp2_with (at_builtin; refine wpList_appG (w1.alloc (.cells #[.int .i64 r.seg, .int .i64 r.doc, .int .i64 r.cmp, .int .i64 r.off, .bool false] 47)) rfl (.tmp 34) (.tmp 38) rfl w.heap.size hszw u5 ys rfl hrw3 r.doc (by rw [World.size_alloc]; rfl) (by have := hcn.out; omega) ?_; intro v' w' hR' hG')
        have hb4 := (hb3.alloc hszw (.cells #[.int .i64 r.doc] 3)).grown hG' (by rw [World.size_alloc]; omega) (fun y hy => (World.ownsRow.lt hrw3 y hy).1)
        obtain ⟨bm, since, seen, c01, hit3⟩ := hrg3.obj
        have n1 : u5.ownBlock ≠ some wa.heap.size := own_ne hrw3 hit3
        have n2 : u5.ownBlock ≠ some b := own_ne_map hrw3 hrg3.map
        have n3 : u5.ownBlock ≠ some w.heap.size := fun q => by
          obtain ⟨_, _, cur, hc⟩ := Wd.own_lt hrw3 q
          have := z3
          unfold Wd.Bx at this
          rw [this] at hc
          cases hc
        have hrg4 := (hrg3.kept (World.grownBy_alloc _ (.cells #[.int .i64 r.doc] 3) none) (by simp) (by simp)).kept hG' (Ne.symm n2) (Ne.symm n1)
        have z4 := (Wd.Bx.alloc z3 (.cells #[.int .i64 r.doc] 3)).grown hG' (Ne.symm n3)
        have HR := Lib.hid hrg4
        clear hrg3 hrg4
        go_wp2_with fail
        go_roundw
        · exact ⟨_, cnt1, _, HR.out, hR', hb4, z4, hys3, by have := hlt.out; have := hcn.out; simp; omega⟩
        · have := hlt.out
          have := HR.out.left_eq
          rw [Hle.out]
          omega
end
/-- The rows of a segment that count. -/
def validL (kd : Bool) (L : List Rw) (g : Int) : List Int := if kd = true then Bs.ofL ((L.filter fun r => decide (r.seg = g ∧ r.gone = false ∧ win kd L r.key = some r)).map Rw.doc) else docsL L g
theorem mem_valid {L : List Rw} {g x : Int} : x ∈ validL true L g ↔ Cnt (win true L) g x ∧ Bs.adm x := by
  unfold validL
  rw [if_pos rfl, Bs.mem_of]
  simp only [List.mem_map, List.mem_filter, decide_eq_true_eq]
  constructor
  · rintro ⟨⟨r, ⟨_, h2, h3, h4⟩, h5⟩, h6⟩
    exact ⟨⟨r.key, r, h4, h2, h3, h5⟩, h6⟩
  · rintro ⟨⟨v, r, h1, h2, h3, h4⟩, h6⟩
    obtain ⟨m1, m2, _⟩ := win_mem h1
    exact ⟨⟨r, ⟨m1, h2, h3, by rw [m2]; exact h1⟩, h4⟩, h6⟩
theorem valid_ok (kd : Bool) (L : List Rw) (g : Int) : Bs.Ok (validL kd L g) := by
  unfold validL
  split
  · exact Bs.of_ok _
  · exact docsL_ok L g
theorem valid_any {w : World} {t : Nat} {s : Sch} {L : List Rw} {N : Nat} {F : Nat → Prop} (h : Tbl w t s L N F) (hN : N ≤ 100000) {g : Int} (hg : (Lit.int .i64 g).wf = true) :
    Calls Tryd.prog 21 #[.pointer (some ⟨t, 0, none⟩), .int .i64 g] w (Bi.Gv Bw.St w (validL (kdS s) L g)) := by
  obtain ⟨A, n, c, bd, bw, bs, nd, nw, fd, fw, hl, hO, hM, hn⟩ := h
  by_cases hk : s.key = -1
  · have hkd : kdS s = false := decide_eq_false (by simp [hk])
    have := valid_all hl hk hg
    unfold validL
    rw [if_neg (by rw [hkd]; decide)]
    exact this
  · have hkd : kdS s = true := decide_eq_true hk
    have key : ∀ ys : List Int, (∀ x, x ∈ ys ↔ Cnt (win (kdS s) L) g x) → Bs.ofL ys = validL (kdS s) L g := fun ys hy => by
      refine Bs.ok_ext (Bs.of_ok _) (valid_ok _ _ _) fun x => ?_
      rw [hkd] at hy ⊢
      rw [mem_valid, Bs.mem_of, hy]
    rcases hl.winv g with q | ⟨b, q⟩
    · have := valid_none hl hk hg q
      have e : ([] : List Int) = validL (kdS s) L g := key [] fun x => ⟨fun z => (by cases z), fun ⟨v, r, h1, h2, _⟩ => by
        have h3 := hl.none_ q v
        rw [← h2, inn_yes h1] at h3
        cases h3⟩
      rw [← e]
      exact this
    · refine (valid_some hl hN hk hg q).mono ?_
      rintro e w' ⟨ys, hy, hG⟩
      rw [← key ys hy]
      exact hG
end Up
end Go.Proofs.YtpappcmgnnmbeaaDoor
namespace Go.Proofs.YtpappcmgnnmbeaaDoor
set_option maxRecDepth 20000
open Go.RowKit Go.Maps
namespace Up
open Va (Vl)
open Sc (Sch FitS MayS tr tr_yes tr_no)
def kS : Sch := ⟨[⟨⟨#[107]⟩, 1, false⟩, ⟨⟨#[110]⟩, 1, false⟩, ⟨⟨#[100]⟩, 3, false⟩], 0, 1, 2, -1⟩
def vI (k : Int) : Vl := ⟨1, k, ⟨#[]⟩, false⟩
def vB (d : Bool) : Vl := ⟨3, 0, ⟨#[]⟩, d⟩
def rowV (k n : Int) (d : Bool) : List Vl := [vI k, vI n, vB d]
theorem k_may : MayS kS := by
  refine ⟨by decide, by decide, by decide, by decide, ?_, by decide +kernel, .inr ⟨by decide, ⟨by decide, _, rfl, rfl⟩, ⟨by decide, _, rfl, rfl, rfl⟩, .inr ⟨by decide, _, rfl, rfl, rfl⟩⟩⟩
  intro c hc
  have h : c = ⟨⟨#[107]⟩, 1, false⟩ ∨ c = ⟨⟨#[110]⟩, 1, false⟩ ∨ c = ⟨⟨#[100]⟩, 3, false⟩ := by simpa [kS] using hc
  rcases h with rfl | rfl | rfl
  · exact ⟨⟨by decide, by decide, fun x hx => by
      obtain rfl : x = 107 := by simpa [show Va.byts ⟨#[107]⟩ = [107] by decide +kernel] using hx
      omega⟩, by decide, by decide⟩
  · exact ⟨⟨by decide, by decide, fun x hx => by
      obtain rfl : x = 110 := by simpa [show Va.byts ⟨#[110]⟩ = [110] by decide +kernel] using hx
      omega⟩, by decide, by decide⟩
  · exact ⟨⟨by decide, by decide, fun x hx => by
      obtain rfl : x = 100 := by simpa [show Va.byts ⟨#[100]⟩ = [100] by decide +kernel] using hx
      omega⟩, by decide, by decide⟩
theorem ok_vI {k : Int} (hk : (Lit.int .i64 k).wf = true) : Sc.Ok (vI k) := ⟨.inr (.inl ⟨rfl, rfl, rfl⟩), (bounds_i64 hk).1, (bounds_i64 hk).2⟩
theorem ok_vB (d : Bool) : Sc.Ok (vB d) := ⟨.inr (.inr (.inr ⟨rfl, rfl, rfl⟩)), by simp [vB], by simp [vB]⟩
theorem fit_row {k n : Int} (d : Bool) (hk : (Lit.int .i64 k).wf = true) (hn : (Lit.int .i64 n).wf = true) : FitS kS (rowV k n d) :=
  ⟨k_may, ⟨ok_vI hk, .inl rfl⟩, ⟨ok_vI hn, .inl rfl⟩, ⟨ok_vB d, .inl rfl⟩, trivial⟩
theorem rw_row (k n : Int) (d : Bool) (seg doc off : Int) : rw_ kS (rowV k n d) seg doc off = ⟨vI k, n, d, seg, doc, off⟩ := by
  unfold rw_
  rw [if_neg (by decide)]
  rfl
theorem kd_k : kdS kS = true := by decide
theorem v1_I {k : Int} (hk : (Lit.int .i64 k).wf = true) : Wd.V1 (vI k) := ⟨(by decide : (Lit.int .i64 1).wf = true), hk⟩
theorem v1_B (d : Bool) : Wd.V1 (vB d) := ⟨(by decide : (Lit.int .i64 3).wf = true), (by decide : (Lit.int .i64 0).wf = true)⟩
theorem k_cs (w : World) (t : TypeId) : Wd.Cs (w.alloc (.cells #[.string ⟨#[107]⟩, .int .i64 1, .bool false, .string ⟨#[110]⟩, .int .i64 1, .bool false, .string ⟨#[100]⟩, .int .i64 3, .bool false] t)) (some ⟨w.heap.size, 0, none⟩) 3 3 kS.cols := by
  have b := Wd.Bx.new w t #[.string ⟨#[107]⟩, .int .i64 1, .bool false, .string ⟨#[110]⟩, .int .i64 1, .bool false, .string ⟨#[100]⟩, .int .i64 3, .bool false]
  refine ⟨rfl, by omega, by unfold maxLen; omega, by simp, fun j hj => ⟨w.heap.size, 0, rfl, by simp, fun i v hv => ?_, ?_⟩⟩
  · rw [Nat.zero_add, b.cell (j * 3 + i)]
    have hi : i < 3 := by have := (List.getElem?_eq_some_iff.1 hv).1; simpa [Wd.colVals] using this
    have hj2 : j < 3 := hj
    match j, hj2, i, hi with
    | 0, _, 0, _ => exact hv
    | 0, _, 1, _ => exact hv
    | 0, _, 2, _ => exact hv
    | 1, _, 0, _ => exact hv
    | 1, _, 1, _ => exact hv
    | 1, _, 2, _ => exact hv
    | 2, _, 0, _ => exact hv
    | 2, _, 1, _ => exact hv
    | 2, _, 2, _ => exact hv
  · have hj2 : j < 3 := hj
    match j, hj2 with
    | 0, _ => exact ⟨by decide, by decide⟩
    | 1, _ => exact ⟨by decide, by decide⟩
    | 2, _ => exact ⟨by decide, by decide⟩
theorem row_vs (w : World) (t : TypeId) {k n : Int} (d : Bool) (hk : (Lit.int .i64 k).wf = true) (hn : (Lit.int .i64 n).wf = true) :
    Wd.Vs (w.alloc (.cells #[.int .i64 1, .int .i64 k, .string ⟨#[]⟩, .bool false, .int .i64 1, .int .i64 n, .string ⟨#[]⟩, .bool false, .int .i64 3, .int .i64 0, .string ⟨#[]⟩, .bool d] t)) (some ⟨w.heap.size, 0, none⟩) 3 3 (rowV k n d) := by
  have b := Wd.Bx.new w t #[.int .i64 1, .int .i64 k, .string ⟨#[]⟩, .bool false, .int .i64 1, .int .i64 n, .string ⟨#[]⟩, .bool false, .int .i64 3, .int .i64 0, .string ⟨#[]⟩, .bool d]
  refine ⟨rfl, by omega, by unfold maxLen; omega, by simp, fun j hj => ⟨w.heap.size, 0, rfl, by simp, fun i v hv => ?_, ?_⟩⟩
  · rw [Nat.zero_add, b.cell (j * 4 + i)]
    have hi : i < 4 := by have := (List.getElem?_eq_some_iff.1 hv).1; simpa [Wd.vals] using this
    have hj2 : j < 3 := hj
    match j, hj2, i, hi with
    | 0, _, 0, _ => exact hv
    | 0, _, 1, _ => exact hv
    | 0, _, 2, _ => exact hv
    | 0, _, 3, _ => exact hv
    | 1, _, 0, _ => exact hv
    | 1, _, 1, _ => exact hv
    | 1, _, 2, _ => exact hv
    | 1, _, 3, _ => exact hv
    | 2, _, 0, _ => exact hv
    | 2, _, 1, _ => exact hv
    | 2, _, 2, _ => exact hv
    | 2, _, 3, _ => exact hv
  · have hj2 : j < 3 := hj
    match j, hj2 with
    | 0, _ => exact v1_I hk
    | 1, _ => exact v1_I hn
    | 2, _ => exact v1_B d
theorem Keyed_any (w : World) : Calls Tryd.prog 31 #[] w fun e w' => ∃ A, e = .returned (.agg #[.slice A 3 3, .int .i64 0, .int .i64 1, .int .i64 2, .int .i64 (-1)]) ∧ Wd.Cs w' A 3 3 kS.cols ∧ Below w.heap.size w w' := by
  go_enter Tryd.func31, Tryd.ntmps31
  go_wp2_with fail
  (try simp only [Exit.inBlock, Exit.then])
  have hc := k_cs (w.alloc (.cells #[.slice (some ⟨w.heap.size + 1, 0, none⟩) 3 3, .int .i64 0, .int .i64 1, .int .i64 2, .int .i64 (-1)] 24)) 71
  rw [World.size_alloc] at hc
  refine bodyPost_ret (v := .agg #[.slice (some ⟨w.heap.size + 1, 0, none⟩) 3 3, .int .i64 0, .int .i64 1, .int .i64 2, .int .i64 (-1)]) ?_ rfl ⟨_, rfl, hc, ?_⟩
  · rw [Vc.res_cell1 rfl]; go_simp
  · exact ((Below.refl _ _).alloc (Nat.le_refl _) _).alloc (by simp) _
theorem row_any {k n : Int} (d : Bool) (hk : (Lit.int .i64 k).wf = true) (hn : (Lit.int .i64 n).wf = true) (w : World) : Calls Tryd.prog 30 #[.int .i64 k, .int .i64 n, .bool d] w fun e w' => ∃ R, e = .returned (.slice R 3 3) ∧ Wd.Vs w' R 3 3 (rowV k n d) ∧ Below w.heap.size w w' := by
  go_enter Tryd.func30, Tryd.ntmps30
  go_wp2_with fail
  go_ret
  exact ⟨_, rfl, row_vs w 27 d hk hn, (Below.refl _ _).alloc (Nat.le_refl _) _⟩
end Up
end Go.Proofs.YtpappcmgnnmbeaaDoor
