/- Words for the law of cuts: rows of journals of the call's own; what is held at the head of each round. The law of cuts, in plain words: what a beginning of a file tells. No program, no memory. -/
import Derived.Test.YtljgalleiemaaaaPk18
import Derived.Test.YtljgalleiemaaaaPk12
import Derived.Test.YtljgalleiemaaaaPk23
import Derived.Test.YtljgalleiemaaaaPk13
import Derived.Test.YtljgalleiemaaaaPk14
namespace Go.Proofs.Ytljgalleiemaaaa
set_option maxRecDepth 20000
open Go.RowKit Go.Maps
namespace Lw
open Jr
open Jo (En May Wf Rg Pt pays head put)
open Wd (Pv Pc Es Lv Bx Sl Mv)
/-- A journal in memory. -/
structure Jq where
  a : Pv
  b : Pv
  c : Pv
  d : Pv
instance : Inhabited Jq := ⟨⟨default, default, default, default⟩⟩
def Jq.cs (q : Jq) : List Value := [.int .i64 q.a.g, .int .i64 q.a.b, .slice q.a.A q.a.n q.a.c, .int .i64 q.b.g, .int .i64 q.b.b, .slice q.b.A q.b.n q.b.c, .int .i64 q.c.g, .int .i64 q.c.b, .slice q.c.A q.c.n q.c.c, .int .i64 q.d.g, .int .i64 q.d.b, .slice q.d.A q.d.n q.d.c]
theorem cs_one (q : Jq) : ∀ u ∈ q.cs, u.oneCell' = true := by
  intro u hu
  simp only [Jq.cs, List.mem_cons, List.not_mem_nil, or_false] at hu
  rcases hu with rfl | rfl | rfl | rfl | rfl | rfl | rfl | rfl | rfl | rfl | rfl | rfl <;> rfl
def flatQ (l : List Jq) : List Value := l.flatMap Jq.cs
theorem flatQ_cons (x : Jq) (l : List Jq) : flatQ (x :: l) = x.cs ++ flatQ l := rfl
theorem flatQ_app (l m : List Jq) : flatQ (l ++ m) = flatQ l ++ flatQ m := List.flatMap_append
theorem flatQ_one (x : Jq) : flatQ [x] = x.cs := by simp [flatQ]
theorem flatQ_len : ∀ l : List Jq, (flatQ l).length = l.length * 12
  | [] => rfl
  | x :: l => by rw [flatQ_cons, List.length_append, flatQ_len l, List.length_cons]; simp [Jq.cs]; omega
theorem flatQ_get : ∀ (l : List Jq) (j : Nat), j < l.length → ∀ i v, ((l.getD j default).cs)[i]? = some v → (flatQ l)[j * 12 + i]? = some v
  | [], _, h, _, _, _ => by simp at h
  | x :: l, 0, _, i, v, hv => by
    have hv' : x.cs[i]? = some v := hv
    rw [flatQ_cons, Nat.zero_mul, Nat.zero_add, List.getElem?_append_left (List.getElem?_eq_some_iff.1 hv').1]
    exact hv'
  | x :: l, j + 1, h, i, v, hv => by
    have ih := flatQ_get l j (by simpa using h) i v hv
    rw [flatQ_cons, List.getElem?_append_right (by simp [Jq.cs]; omega)]
    rw [show (j + 1) * 12 + i - x.cs.length = j * 12 + i by simp [Jq.cs]; omega]
    exact ih
theorem info_jn : (Try.prog.info? 27).map (fun i => (i.zero, i.size, i.bytes)) = some (some (.agg #[.int .i64 0, .int .i64 0, .slice none 0 0, .int .i64 0, .int .i64 0, .slice none 0 0, .int .i64 0, .int .i64 0, .slice none 0 0, .int .i64 0, .int .i64 0, .slice none 0 0]), 12, 160) := by kernel_rfl
theorem info_int : (Try.prog.info? 3).map (fun i => (i.zero, i.size, i.bytes)) = some (some (.int .i64 0), 1, 8) := by kernel_rfl
theorem new_cells (w : World) (cs : List Value) (t : TypeId) : ∀ j u, cs[j]? = some u → (w.alloc (.cells cs.toArray t)).cell? ((⟨w.heap.size, 0, none⟩ : Addr).add j) = some u := fun j u hu => by
  rw [Addr.add_lit, Nat.zero_add]
  exact ((Bx.new w t _).cell j).trans (by rw [List.getElem?_toArray]; exact hu)
/-- append of one element, of many cells, onto a row of the call's own. -/
theorem wpList_appRow {P : Program} (w : World) {ops : Array Oper} {rest : List Oper} {o : Oper} {a : Act} {Q : Exit → Act → World → Prop} (hgd : o.guard = none) (s x : Operand) (t : TypeId)
    (ho : o.op = .call { callee := .builtin .append, args := #[s, x], argTypes := #[t, t] })
    (B : Nat) (e : TypeId) (i : TypeInfo) (z : Value) (size bytes : Nat) (ht : P.underlying t = some (.slice e)) (hi : P.info? e = some i) (hz : i.zero = some z)
    (hsize : i.size = size) (hby : i.bytes = bytes) (hzs : z.cells.size = size) (hsz : 0 < size)
    (g0 n c0 : Nat) (xs : List Value) (hs : a.eval s = .slice (some ⟨g0, 0, none⟩) n c0) (hown : w.ownsRow B e size (.slice (some ⟨g0, 0, none⟩) n c0) n xs)
    (ad : Addr) (us : List Value) (hx : a.eval x = .slice (some ad) 1 1) (hl : us.length = size) (hc : ∀ j u, us[j]? = some u → w.cell? (ad.add j) = some u) (h1 : ∀ u ∈ us, u.oneCell' = true)
    (h63 : n + 1 ≤ maxLen) (hbytes : (n + 1) * bytes ≤ 140737488355328) (hB : B ≤ w.heap.size)
    (h : ∀ g' c' w', w'.ownsRow B e size (.slice (some ⟨g', 0, none⟩) (n + 1) c') (n + 1) (xs ++ us) → w.grownBy w' (some g0) → (g' = g0 ∨ g' = w.heap.size) → wpList P ops Q rest (a.put o.dst (.slice (some ⟨g', 0, none⟩) (n + 1) c')) w') : wpList P ops Q (o :: rest) a w := by
  refine wpList_plain hgd fun K hK => ?_
  obtain ⟨v', w', hrun, h2, h3, _, h5⟩ := run_append_own_at (P := P) w B t o.type e i z size bytes ht hi hz hsize hby hzs hsz _ n xs hown ad 1 1 us (by rw [hl, Nat.one_mul]) hc h1 h63 hbytes hB
  obtain ⟨g', c', rfl⟩ := ownsRow_succ h2
  unfold Oper.wp
  simp [execOp, ho, resolve, invoke, builtin, hs, hx, hrun, Result.andThen]
  exact hK _ _ (h g' c' w' h2 h3 (by
    rcases h5 with h5 | h5
    · exact .inl (by simpa [Value.ownBlock] using h5)
    · exact .inr (by simpa [Value.ownBlock] using h5)))
/-- The lists of four partitions lie apart from blocks. -/
def Ap (G : Nat → Prop) (q : Pv) : Prop := ∀ b o, q.A = some ⟨b, o, none⟩ → 0 < q.l.length → ¬ G b
def Ap4 (G : Nat → Prop) (q0 q1 q2 q3 : Pv) : Prop := Ap G q0 ∧ Ap G q1 ∧ Ap G q2 ∧ Ap G q3
theorem jv_keep {w w' : World} {G : Nat → Prop} {q0 q1 q2 q3 : Pv} {j : Jo.Jn} (h : Jv w q0 q1 q2 q3 j) (mv : Mv G w w') (ha : Ap4 G q0 q1 q2 q3) : Jv w' q0 q1 q2 q3 j :=
  ⟨h.e, h.s0.keep mv ha.1, h.s1.keep mv ha.2.1, h.s2.keep mv ha.2.2.1, h.s3.keep mv ha.2.2.2, h.r0, h.r1, h.r2, h.r3⟩
theorem es_lt {w : World} {q : Pv} (h : Es w q.A q.n q.c q.l) {b o : Nat} (hA : q.A = some ⟨b, o, none⟩) (hl : 0 < q.l.length) : b < w.heap.size := by
  obtain ⟨b', o', e, hlt, _⟩ := h.at_ 0 hl
  rw [hA] at e
  cases e
  exact hlt
theorem ap_more {w : World} {G G' : Nat → Prop} {q : Pv} (h : Ap G q) (hE : Es w q.A q.n q.c q.l) (hG : ∀ g, G' g → G g ∨ w.heap.size ≤ g) : Ap G' q := fun b o hA hl z => by
  rcases hG b z with z | z
  · exact h b o hA hl z
  · have := es_lt hE hA hl
    omega
theorem ap4_more {w : World} {G G' : Nat → Prop} {q0 q1 q2 q3 : Pv} {j : Jo.Jn} (h : Ap4 G q0 q1 q2 q3) (hJ : Jv w q0 q1 q2 q3 j) (hG : ∀ g, G' g → G g ∨ w.heap.size ≤ g) : Ap4 G' q0 q1 q2 q3 :=
  ⟨ap_more h.1 hJ.s0 hG, ap_more h.2.1 hJ.s1 hG, ap_more h.2.2.1 hJ.s2 hG, ap_more h.2.2.2 hJ.s3 hG⟩
theorem ap4_less {G G' : Nat → Prop} {q0 q1 q2 q3 : Pv} (h : Ap4 G q0 q1 q2 q3) (hG : ∀ g, G' g → G g) : Ap4 G' q0 q1 q2 q3 :=
  ⟨fun b o a c z => h.1 b o a c (hG b z), fun b o a c z => h.2.1 b o a c (hG b z), fun b o a c z => h.2.2.1 b o a c (hG b z), fun b o a c z => h.2.2.2 b o a c (hG b z)⟩
theorem ap_new {N : Nat} {G : Nat → Prop} {q : Pv} (h : Nw1 N q) (hG : ∀ g, G g → g < N) : Ap G q := fun b o hA _ z => by
  have := h b (by rw [hA]; rfl)
  have := hG b z
  omega
theorem ap4_new {N : Nat} {G : Nat → Prop} {q0 q1 q2 q3 : Pv} (h : Nw N q0 q1 q2 q3) (hG : ∀ g, G g → g < N) : Ap4 G q0 q1 q2 q3 := ⟨ap_new h.1 hG, ap_new h.2.1 hG, ap_new h.2.2.1 hG, ap_new h.2.2.2 hG⟩
theorem ap4_box {w : World} {g : Nat} {t : TypeId} {p0 p1 p2 p3 q0 q1 q2 q3 : Pv} {j : Jo.Jn} (hJ : Jv w q0 q1 q2 q3 j) (hb : Bx w g t #[.int .i64 p0.g, .int .i64 p0.b, .slice p0.A p0.n p0.c, .int .i64 p1.g, .int .i64 p1.b, .slice p1.A p1.n p1.c, .int .i64 p2.g, .int .i64 p2.b, .slice p2.A p2.n p2.c, .int .i64 p3.g, .int .i64 p3.b, .slice p3.A p3.n p3.c]) : Ap4 (fun x => x = g) q0 q1 q2 q3 := ⟨es_ne hJ.s0 hb, es_ne hJ.s1 hb, es_ne hJ.s2 hb, es_ne hJ.s3 hb⟩
/-- The blocks that are written. -/
def Hs (eg ag jb : Nat) (g : Nat) : Prop := g = eg ∨ g = ag ∨ g = jb
theorem getD_left {α : Type} {a b : List α} {d : α} {i : Nat} (h : i < a.length) : (a ++ b).getD i d = a.getD i d := by
  rw [List.getD_eq_getElem?_getD, List.getD_eq_getElem?_getD, List.getElem?_append_left h]
theorem getD_last {α : Type} {a : List α} {x d : α} {i : Nat} (h : i = a.length) : (a ++ [x]).getD i d = x := by
  rw [List.getD_eq_getElem?_getD, List.getElem?_append_right (by omega), h, Nat.sub_self]
  rfl
/-- What is held in memory: j's own box, the row of ends, the row of journals, the file. -/
structure CI (w0 wr : World) (jb eg me ec : Nat) (es : List Int) (ag ma ac : Nat) (qs : List Jq) (js : List Jo.Jn) (FA : Option Addr) (fn fc : Nat) (bs : List Int) (p0 p1 p2 p3 : Pv) (j : Jo.Jn) : Prop where
  box : Bx wr jb 27 #[.int .i64 p0.g, .int .i64 p0.b, .slice p0.A p0.n p0.c, .int .i64 p1.g, .int .i64 p1.b, .slice p1.A p1.n p1.c, .int .i64 p2.g, .int .i64 p2.b, .slice p2.A p2.n p2.c, .int .i64 p3.g, .int .i64 p3.b, .slice p3.A p3.n p3.c]
  ends : wr.ownsRow (jb + 1) 3 1 (.slice (some ⟨eg, 0, none⟩) me ec) me (es.map (Value.int .i64))
  all : wr.ownsRow (jb + 1) 27 12 (.slice (some ⟨ag, 0, none⟩) ma ac) ma (flatQ qs)
  apt : eg ≠ ag
  file : Sl wr .u8 FA fn fc bs
  fap : ∀ a, FA = some a → bs ≠ [] → ¬ Hs eg ag jb a.block
  jv : Jv wr p0 p1 p2 p3 j
  jap : Ap4 (Hs eg ag jb) p0 p1 p2 p3
  ql : qs.length = js.length
  qj : ∀ i, i < js.length → Jv wr (qs.getD i default).a (qs.getD i default).b (qs.getD i default).c (qs.getD i default).d (js.getD i default) ∧ Ap4 (Hs eg ag jb) (qs.getD i default).a (qs.getD i default).b (qs.getD i default).c (qs.getD i default).d
  base : w0.heap.size ≤ jb
  bel : Below w0.heap.size w0 wr
section
variable {w0 wr w' : World} {jb eg me ec : Nat} {es : List Int} {ag ma ac : Nat} {qs : List Jq} {js : List Jo.Jn} {FA : Option Addr} {fn fc : Nat} {bs : List Int} {p0 p1 p2 p3 : Pv} {j : Jo.Jn}
theorem CI.e_lt (h : CI w0 wr jb eg me ec es ag ma ac qs js FA fn fc bs p0 p1 p2 p3 j) : jb + 1 ≤ eg ∧ eg < wr.heap.size := h.ends.lt eg rfl
theorem CI.a_lt (h : CI w0 wr jb eg me ec es ag ma ac qs js FA fn fc bs p0 p1 p2 p3 j) : jb + 1 ≤ ag ∧ ag < wr.heap.size := h.all.lt ag rfl
theorem CI.hs_lt (h : CI w0 wr jb eg me ec es ag ma ac qs js FA fn fc bs p0 p1 p2 p3 j) : ∀ g, Hs eg ag jb g → g < wr.heap.size := fun g hg => by
  have := h.e_lt
  have := h.a_lt
  rcases hg with rfl | rfl | rfl <;> omega
theorem CI.below (h : CI w0 wr jb eg me ec es ag ma ac qs js FA fn fc bs p0 p1 p2 p3 j) (hb : Below wr.heap.size wr w') : CI w0 w' jb eg me ec es ag ma ac qs js FA fn fc bs p0 p1 p2 p3 j :=
  ⟨h.box.below h.box.lt hb, Wd.own_keep h.ends fun x hx => hb.block x (h.ends.lt x hx).2, Wd.own_keep h.all fun x hx => hb.block x (h.all.lt x hx).2, h.apt, h.file.below hb, h.fap, h.jv.below hb, h.jap, h.ql, fun i hi => ⟨(h.qj i hi).1.below hb, (h.qj i hi).2⟩, h.base, h.bel.trans (hb.mono h.bel.size)⟩
theorem CI.setj {N : Nat} {q0 q1 q2 q3 : Pv} {j' : Jo.Jn} (h : CI w0 wr jb eg me ec es ag ma ac qs js FA fn fc bs p0 p1 p2 p3 j) (hN : ∀ g, Hs eg ag jb g → g < N) (hJ : Jv wr q0 q1 q2 q3 j') (hW : Nw N q0 q1 q2 q3) :
    CI w0 ((((((((((((wr.setCell ⟨jb, 0, none⟩ (.int .i64 q0.g)).setCell ⟨jb, 1, none⟩ (.int .i64 q0.b)).setCell ⟨jb, 2, none⟩ (.slice q0.A q0.n q0.c)).setCell ⟨jb, 3, none⟩ (.int .i64 q1.g)).setCell ⟨jb, 4, none⟩ (.int .i64 q1.b)).setCell ⟨jb, 5, none⟩ (.slice q1.A q1.n q1.c)).setCell ⟨jb, 6, none⟩ (.int .i64 q2.g)).setCell ⟨jb, 7, none⟩ (.int .i64 q2.b)).setCell ⟨jb, 8, none⟩ (.slice q2.A q2.n q2.c)).setCell ⟨jb, 9, none⟩ (.int .i64 q3.g)).setCell ⟨jb, 10, none⟩ (.int .i64 q3.b)).setCell ⟨jb, 11, none⟩ (.slice q3.A q3.n q3.c)) jb eg me ec es ag ma ac qs js FA fn fc bs q0 q1 q2 q3 j' := by
  have mv : ∀ v0 v1 v2 v3 v4 v5 v6 v7 v8 v9 v10 v11 : Value, _ := fun v0 v1 v2 v3 v4 v5 v6 v7 v8 v9 v10 v11 => mv12 (w := wr) (g := jb) (v0 := v0) (v1 := v1) (v2 := v2) (v3 := v3) (v4 := v4) (v5 := v5) (v6 := v6) (v7 := v7) (v8 := v8) (v9 := v9) (v10 := v10) (v11 := v11)
  have mv := mv (.int .i64 q0.g) (.int .i64 q0.b) (.slice q0.A q0.n q0.c) (.int .i64 q1.g) (.int .i64 q1.b) (.slice q1.A q1.n q1.c) (.int .i64 q2.g) (.int .i64 q2.b) (.slice q2.A q2.n q2.c) (.int .i64 q3.g) (.int .i64 q3.b) (.slice q3.A q3.n q3.c)
  have he := h.e_lt
  have ha := h.a_lt
  exact ⟨bx_set12 h.box, Wd.own_keep h.ends fun x hx => mv.keep x (h.ends.lt x hx).2 (by have := (h.ends.lt x hx).1; omega), Wd.own_keep h.all fun x hx => mv.keep x (h.all.lt x hx).2 (by have := (h.all.lt x hx).1; omega), h.apt, h.file.keep mv (fun a e1 e2 z => h.fap a e1 e2 (.inr (.inr z))), h.fap, jv_keep hJ mv (ap4_less (ap4_new hW hN) fun g z => .inr (.inr z)), ap4_new hW hN, h.ql, fun i hi => ⟨jv_keep (h.qj i hi).1 mv (ap4_less (h.qj i hi).2 fun g z => .inr (.inr z)), (h.qj i hi).2⟩, h.base, h.bel.trans (mv.below (fun g z => by have := h.base; omega) h.bel.size)⟩
theorem CI.setf {N : Nat} {FA' : Option Addr} {fn' fc' : Nat} {bs' : List Int} (h : CI w0 wr jb eg me ec es ag ma ac qs js FA fn fc bs p0 p1 p2 p3 j) (hN : ∀ g, Hs eg ag jb g → g < N) (hS : Sl wr .u8 FA' fn' fc' bs') (hF : ∀ a, FA' = some a → N ≤ a.block) :
    CI w0 wr jb eg me ec es ag ma ac qs js FA' fn' fc' bs' p0 p1 p2 p3 j :=
  ⟨h.box, h.ends, h.all, h.apt, hS, fun a e _ z => by have := hF a e; have := hN _ z; omega, h.jv, h.jap, h.ql, h.qj, h.base, h.bel⟩
theorem CI.pushE {g' me' c' : Nat} {es' : List Int} (h : CI w0 wr jb eg me ec es ag ma ac qs js FA fn fc bs p0 p1 p2 p3 j) (hO : w'.ownsRow (jb + 1) 3 1 (.slice (some ⟨g', 0, none⟩) me' c') me' (es'.map (Value.int .i64))) (hg : wr.grownBy w' (some eg)) (hb : g' = eg ∨ g' = wr.heap.size) :
    CI w0 w' jb g' me' c' es' ag ma ac qs js FA fn fc bs p0 p1 p2 p3 j := by
  have mv : Mv (fun x => x = eg) wr w' := Mv.of_grown hg fun g e => by cases e; rfl
  have he := h.e_lt
  have ha := h.a_lt
  have hG : ∀ g, Hs g' ag jb g → Hs eg ag jb g ∨ wr.heap.size ≤ g := fun g z => by
    rcases z with rfl | rfl | rfl
    · rcases hb with rfl | rfl
      · exact .inl (.inl rfl)
      · exact .inr (Nat.le_refl _)
    · exact .inl (.inr (.inl rfl))
    · exact .inl (.inr (.inr rfl))
  have hL : ∀ g, g = eg → Hs eg ag jb g := fun g z => .inl z
  exact ⟨h.box.at_ (mv.keep _ h.box.lt (by omega)), hO, Wd.own_keep h.all fun x hx => mv.keep x (h.all.lt x hx).2 (by have : ag = x := (by simpa [Value.ownBlock] using hx); have := h.apt; omega), (by have := h.apt; omega), h.file.keep mv (fun a e1 e2 z => h.fap a e1 e2 (hL _ z)), (fun a e1 e2 z => by
      rcases hG _ z with z | z
      · exact h.fap a e1 e2 z
      · obtain ⟨b, o, e, hlt, _⟩ := h.file.rd 0 (List.length_pos_iff.2 e2)
        rw [e1] at e
        cases e
        exact absurd hlt (by show ¬ b < _; exact Nat.not_lt.2 z)), jv_keep h.jv mv (ap4_less h.jap hL), ap4_more h.jap h.jv hG, h.ql, fun i hi => ⟨jv_keep (h.qj i hi).1 mv (ap4_less (h.qj i hi).2 hL), ap4_more (h.qj i hi).2 (h.qj i hi).1 hG⟩, h.base, h.bel.trans (mv.below (fun g z => by have := h.base; omega) h.bel.size)⟩
theorem CI.pushA {g' ma' c' : Nat} (h : CI w0 wr jb eg me ec es ag ma ac qs js FA fn fc bs p0 p1 p2 p3 j) (hO : w'.ownsRow (jb + 1) 27 12 (.slice (some ⟨g', 0, none⟩) ma' c') ma' (flatQ (qs ++ [⟨p0, p1, p2, p3⟩]))) (hg : wr.grownBy w' (some ag)) (hb : g' = ag ∨ g' = wr.heap.size) :
    CI w0 w' jb eg me ec es g' ma' c' (qs ++ [⟨p0, p1, p2, p3⟩]) (js ++ [j]) FA fn fc bs p0 p1 p2 p3 j := by
  have mv : Mv (fun x => x = ag) wr w' := Mv.of_grown hg fun g e => by cases e; rfl
  have he := h.e_lt
  have ha := h.a_lt
  have hG : ∀ g, Hs eg g' jb g → Hs eg ag jb g ∨ wr.heap.size ≤ g := fun g z => by
    rcases z with rfl | rfl | rfl
    · exact .inl (.inl rfl)
    · rcases hb with rfl | rfl
      · exact .inl (.inr (.inl rfl))
      · exact .inr (Nat.le_refl _)
    · exact .inl (.inr (.inr rfl))
  have hL : ∀ g, g = ag → Hs eg ag jb g := fun g z => .inr (.inl z)
  have hJ := jv_keep h.jv mv (ap4_less h.jap hL)
  have hA := ap4_more h.jap h.jv hG
  refine ⟨h.box.at_ (mv.keep _ h.box.lt (by omega)), Wd.own_keep h.ends fun x hx => mv.keep x (h.ends.lt x hx).2 (by have : eg = x := (by simpa [Value.ownBlock] using hx); have := h.apt; omega), hO, (by have := h.apt; omega), h.file.keep mv (fun a e1 e2 z => h.fap a e1 e2 (hL _ z)), (fun a e1 e2 z => by
      rcases hG _ z with z | z
      · exact h.fap a e1 e2 z
      · obtain ⟨b, o, e, hlt, _⟩ := h.file.rd 0 (List.length_pos_iff.2 e2)
        rw [e1] at e
        cases e
        exact absurd hlt (by show ¬ b < _; exact Nat.not_lt.2 z)), hJ, hA, by rw [List.length_append, List.length_append, h.ql]; rfl, fun i hi => ?_, h.base, h.bel.trans (mv.below (fun g z => by have := h.base; omega) h.bel.size)⟩
  by_cases c : i < js.length
  · rw [getD_left (by rw [h.ql]; exact c), getD_left c]
    exact ⟨jv_keep (h.qj i c).1 mv (ap4_less (h.qj i c).2 hL), ap4_more (h.qj i c).2 (h.qj i c).1 hG⟩
  · have hi' : i = js.length := by rw [List.length_append] at hi; simp at hi; omega
    subst hi'
    rw [getD_last h.ql.symm, getD_last rfl]
    exact ⟨hJ, hA⟩
/-- As it begins. -/
theorem CI.start {w : World} {n : Int} {cs : Array Value} (hb : Bx w jb 27 #[.int .i64 p0.g, .int .i64 p0.b, .slice p0.A p0.n p0.c, .int .i64 p1.g, .int .i64 p1.b, .slice p1.A p1.n p1.c, .int .i64 p2.g, .int .i64 p2.b, .slice p2.A p2.n p2.c, .int .i64 p3.g, .int .i64 p3.b, .slice p3.A p3.n p3.c]) (hS : Sl w .u8 FA fn fc bs) (hJ : Jv w p0 p1 p2 p3 j) (h0 : w0.heap.size ≤ jb) (hl : Below w0.heap.size w0 w) (hc : cs = #[.int .i64 p0.g, .int .i64 p0.b, .slice p0.A p0.n p0.c, .int .i64 p1.g, .int .i64 p1.b, .slice p1.A p1.n p1.c, .int .i64 p2.g, .int .i64 p2.b, .slice p2.A p2.n p2.c, .int .i64 p3.g, .int .i64 p3.b, .slice p3.A p3.n p3.c]) :
    CI w0 ((w.alloc (.cells #[.int .i64 n] 3)).alloc (.cells cs 27)) jb w.heap.size 1 1 [n] (w.heap.size + 1) 1 1 [⟨p0, p1, p2, p3⟩] [j] FA fn fc bs p0 p1 p2 p3 j := by
  subst hc
  have z1 : (w.alloc (.cells #[.int .i64 n] 3)).heap.size = w.heap.size + 1 := by simp
  have bw : Below w.heap.size w ((w.alloc (.cells #[.int .i64 n] 3)).alloc (.cells #[.int .i64 p0.g, .int .i64 p0.b, .slice p0.A p0.n p0.c, .int .i64 p1.g, .int .i64 p1.b, .slice p1.A p1.n p1.c, .int .i64 p2.g, .int .i64 p2.b, .slice p2.A p2.n p2.c, .int .i64 p3.g, .int .i64 p3.b, .slice p3.A p3.n p3.c] 27)) := alS (alS (Below.refl _ _) _) _
  have hE : (w.alloc (.cells #[.int .i64 n] 3)).ownsRow (jb + 1) 3 1 (.slice (some ⟨w.heap.size, 0, none⟩) 1 1) 1 [.int .i64 n] := World.ownsRow_lit w #[.int .i64 n] 1 hb.lt (by unfold maxLen; omega) rfl
  have hA : ((w.alloc (.cells #[.int .i64 n] 3)).alloc (.cells #[.int .i64 p0.g, .int .i64 p0.b, .slice p0.A p0.n p0.c, .int .i64 p1.g, .int .i64 p1.b, .slice p1.A p1.n p1.c, .int .i64 p2.g, .int .i64 p2.b, .slice p2.A p2.n p2.c, .int .i64 p3.g, .int .i64 p3.b, .slice p3.A p3.n p3.c] 27)).ownsRow (jb + 1) 27 12 (.slice (some ⟨(w.alloc (.cells #[.int .i64 n] 3)).heap.size, 0, none⟩) 1 1) 1 [.int .i64 p0.g, .int .i64 p0.b, .slice p0.A p0.n p0.c, .int .i64 p1.g, .int .i64 p1.b, .slice p1.A p1.n p1.c, .int .i64 p2.g, .int .i64 p2.b, .slice p2.A p2.n p2.c, .int .i64 p3.g, .int .i64 p3.b, .slice p3.A p3.n p3.c] := World.ownsRow_lit _ #[.int .i64 p0.g, .int .i64 p0.b, .slice p0.A p0.n p0.c, .int .i64 p1.g, .int .i64 p1.b, .slice p1.A p1.n p1.c, .int .i64 p2.g, .int .i64 p2.b, .slice p2.A p2.n p2.c, .int .i64 p3.g, .int .i64 p3.b, .slice p3.A p3.n p3.c] 1 (by rw [z1]; have := hb.lt; omega) (by unfold maxLen; omega) rfl
  rw [z1] at hA
  have hlt := hb.lt
  have hne := ap4_box hJ hb
  have hG : ∀ g, Hs w.heap.size (w.heap.size + 1) jb g → g = jb ∨ w.heap.size ≤ g := fun g z => by rcases z with rfl | rfl | rfl <;> omega
  have hap := ap4_more hne hJ hG
  refine ⟨(hb.alloc _).alloc _, hE.alloc _, hA, by omega, hS.below bw, fun a e1 e2 z => ?_, hJ.below bw, hap, rfl, fun i hi => ?_, h0, hl.trans (bw.mono hl.size)⟩
  · rcases hG _ z with z | z
    · exact hS.apart (cs := [.int .i64 p0.g, .int .i64 p0.b, .slice p0.A p0.n p0.c, .int .i64 p1.g, .int .i64 p1.b, .slice p1.A p1.n p1.c, .int .i64 p2.g, .int .i64 p2.b, .slice p2.A p2.n p2.c, .int .i64 p3.g, .int .i64 p3.b, .slice p3.A p3.n p3.c]) hb (by simp) a e1 e2 z
    · obtain ⟨b, o, e, hlt, _⟩ := hS.rd 0 (List.length_pos_iff.2 e2)
      rw [e1] at e
      cases e
      exact absurd hlt (by show ¬ b < _; exact Nat.not_lt.2 z)
  · obtain rfl : i = 0 := by simpa using hi
    exact ⟨hJ.below bw, hap⟩
end
end Lw
end Go.Proofs.Ytljgalleiemaaaa
namespace Go.Proofs.Ytljgalleiemaaaa
set_option maxRecDepth 20000
namespace Jo
/-- A beginning of what makes a journal makes one. -/
theorem made_pre : ∀ (a b : List En) (j k : Jn), made j (a ++ b) = some k → ∃ i, made j a = some i := by
  intro a b j k h
  rw [made_append] at h
  cases e : made j a with
  | none => rw [e] at h; cases h
  | some i => exact ⟨i, rfl⟩
theorem made_may : ∀ (l : List En) (j k : Jn), made j l = some k → ∀ x ∈ l, May x
  | [], _, _, _, _, hx => by simp at hx
  | y :: l, j, k, h, x, hx => by
    rw [made] at h
    cases ha : app j y with
    | none => rw [ha] at h; cases h
    | some i =>
      rw [ha] at h
      rcases List.mem_cons.1 hx with rfl | hx
      · unfold app at ha
        split at ha
        · rename_i hm; exact hm
        · cases ha
      · exact made_may l i k h x hx
theorem app_may {j k : Jn} {x : En} (h : app j x = some k) : May x := made_may [x] j k (by rw [made, h]; rfl) x (by simp)
/-- What holds at the head of each round: what was applied, where the file ended, what the journal was. -/
structure PI (no : Int) (l ms : List En) (es : List Int) (js : List Jn) (bs : List Int) (j : Jn) : Prop where
  bs : bs = Fr.cat (pays no l ++ ms.map put)
  md : made nil_ (l ++ ms) = some j
  el : es.length = ms.length + 1
  jl : js.length = ms.length + 1
  ea : ∀ i, i ≤ ms.length → es.getD i 0 = ((Fr.cat (pays no l ++ (ms.take i).map put)).length : Int)
  ja : ∀ i, i ≤ ms.length → made nil_ (l ++ ms.take i) = some (js.getD i default)
theorem PI.start {no : Int} {l : List En} {bs : List Int} {j : Jn} {n : Int} (hb : bs = Fr.cat (pays no l)) (hm : made nil_ l = some j) (hn : n = (bs.length : Int)) : PI no l [] [n] [j] bs j := by
  refine ⟨by rw [hb, List.map_nil, List.append_nil], by rw [List.append_nil]; exact hm, rfl, rfl, fun i hi => ?_, fun i hi => ?_⟩
  · obtain rfl : i = 0 := by simpa using hi
    rw [List.take_nil, List.map_nil, List.append_nil, ← hb]
    exact hn
  · obtain rfl : i = 0 := by simpa using hi
    rw [List.take_nil, List.append_nil]
    exact hm
theorem getD_left {α : Type} {a b : List α} {d : α} {i : Nat} (h : i < a.length) : (a ++ b).getD i d = a.getD i d := by
  rw [List.getD_eq_getElem?_getD, List.getD_eq_getElem?_getD, List.getElem?_append_left h]
theorem getD_last {α : Type} {a : List α} {x d : α} {i : Nat} (h : i = a.length) : (a ++ [x]).getD i d = x := by
  rw [List.getD_eq_getElem?_getD, List.getElem?_append_right (by omega), h, Nat.sub_self]
  rfl
theorem PI.cat {no : Int} {l ms : List En} {es : List Int} {js : List Jn} {bs : List Int} {j : Jn} (h : PI no l ms es js bs j) (x : En) : bs ++ Fr.frame (put x) = Fr.cat (pays no l ++ (ms ++ [x]).map put) := by
  rw [h.bs, List.map_append, ← List.append_assoc, Fr.cat_app (pays no l ++ ms.map put), List.map_cons, List.map_nil, Fr.cat_cons, Fr.cat_nil, List.append_nil]
theorem PI.push {no : Int} {l ms : List En} {es : List Int} {js : List Jn} {bs : List Int} {j i : Jn} {x : En} {n : Int} (h : PI no l ms es js bs j) (ha : app j x = some i) (hn : n = ((bs ++ Fr.frame (put x)).length : Int)) :
    PI no l (ms ++ [x]) (es ++ [n]) (js ++ [i]) (bs ++ Fr.frame (put x)) i := by
  have hmd : made nil_ (l ++ (ms ++ [x])) = some i := by rw [← List.append_assoc, made_append, h.md, Option.bind_some, made, ha]; rfl
  refine ⟨h.cat x, hmd, by simp [h.el], by simp [h.jl], fun k hk => ?_, fun k hk => ?_⟩
  · rw [List.length_append, List.length_singleton] at hk
    by_cases c : k ≤ ms.length
    · rw [getD_left (by rw [h.el]; omega), h.ea k c, List.take_append_of_le_length c]
    · obtain rfl : k = ms.length + 1 := by omega
      rw [getD_last h.el.symm, hn, h.cat x, List.take_of_length_le (by simp)]
  · rw [List.length_append, List.length_singleton] at hk
    by_cases c : k ≤ ms.length
    · rw [getD_left (by rw [h.jl]; omega), h.ja k c |>.symm, List.take_append_of_le_length c]
    · obtain rfl : k = ms.length + 1 := by omega
      rw [getD_last h.jl.symm, List.take_of_length_le (by simp)]
      exact hmd
theorem PI.may {no : Int} {l ms : List En} {es : List Int} {js : List Jn} {bs : List Int} {j : Jn} (h : PI no l ms es js bs j) : ∀ x ∈ l ++ ms, May x := made_may _ _ _ h.md
theorem PI.fine {no : Int} {l ms : List En} {es : List Int} {js : List Jn} {bs : List Int} {j : Jn} (h : PI no l ms es js bs j) (h0 : 0 ≤ no) (h1 : no ≤ 9223372036854775807) (hl : l.length ≤ 4096) : Fr.Fine (pays no l ++ ms.map put) := by
  intro p hp
  rcases List.mem_append.1 hp with hp | hp
  · exact pays_fine h0 h1 hl (fun x hx => h.may x (List.mem_append_left _ hx)) p hp
  · obtain ⟨x, hx, rfl⟩ := List.mem_map.1 hp
    exact ⟨by have := put_len x; omega, put_byt (h.may x (List.mem_append_right _ hx))⟩
theorem PI.byt {no : Int} {l ms : List En} {es : List Int} {js : List Jn} {bs : List Int} {j : Jn} (h : PI no l ms es js bs j) (h0 : 0 ≤ no) (h1 : no ≤ 9223372036854775807) (hl : l.length ≤ 4096) : Nm.Byt bs := by
  rw [h.bs]
  exact Fr.cat_byt (h.fine h0 h1 hl)
theorem PI.len {no : Int} {l ms : List En} {es : List Int} {js : List Jn} {bs : List Int} {j : Jn} (h : PI no l ms es js bs j) (hl : l.length ≤ 30) (hm : ms.length ≤ 30) : bs.length ≤ 10000 := by
  have h2 := Fr.cat_len (l := pays no l ++ ms.map put) (n := 100) fun p hp => by
    rcases List.mem_append.1 hp with hp | hp
    · rcases List.mem_cons.1 hp with rfl | hp
      · unfold head
        have := (Nm.vd_len no).2
        have := (Nm.vd_len (l.length : Int)).2
        rw [List.length_append]
        omega
      · obtain ⟨x, hx, rfl⟩ := List.mem_map.1 hp
        have := put_len x
        omega
    · obtain ⟨x, hx, rfl⟩ := List.mem_map.1 hp
      have := put_len x
      omega
  rw [← h.bs] at h2
  have h3 : (pays no l ++ ms.map put).length ≤ 61 := by simp [pays]; omega
  have : (pays no l ++ ms.map put).length * (100 + 14) ≤ 61 * 114 := Nat.mul_le_mul h3 (Nat.le_refl _)
  omega
/-- What a beginning of the file tells: nothing; fewer entries than it was begun with; these, and s of the others. -/
theorem PI.cut {no : Int} {l ms : List En} {es : List Int} {js : List Jn} {bs : List Int} {j : Jn} (h : PI no l ms es js bs j) (h0 : 0 ≤ no) (h1 : no ≤ 9223372036854775807) (hl : l.length ≤ 4096) (a : Nat) :
    (a < (Fr.cat (pays no l)).length ∧ ((Fr.rd (bs.take a)).1 = [] ∨ ∃ xs i, (Fr.rd (bs.take a)).1 = head no l.length :: xs.map put ∧ xs.length < l.length ∧ made nil_ xs = some i ∧ ∀ x ∈ xs, May x)) ∨
    (¬ a < (Fr.cat (pays no l)).length ∧ ∃ s, s ≤ ms.length ∧ (Fr.rd (bs.take a)).1 = head no l.length :: (l ++ ms.take s).map put ∧ made nil_ (l ++ ms.take s) = some (js.getD s default) ∧ ∀ i, i ≤ ms.length → (es.getD i 0 ≤ (a : Int) ↔ i ≤ s)) := by
  have hF := h.fine h0 h1 hl
  obtain ⟨q, q1, q2, q3, q4⟩ := rd_take hF a
  have hpl : (pays no l).length = l.length + 1 := by simp [pays]
  have hPl : (pays no l ++ ms.map put).length = l.length + 1 + ms.length := by rw [List.length_append, hpl, List.length_map]
  have hed : ∀ i, i ≤ ms.length → Fr.ed (pays no l ++ ms.map put) (l.length + 1 + i) = (Fr.cat (pays no l ++ (ms.take i).map put)).length := fun i hi => by
    unfold Fr.ed
    rw [← hpl, List.take_length_add_append, List.map_take]
  have hb := hed 0 (by omega)
  rw [List.take_zero, List.map_nil, List.append_nil, Nat.add_zero] at hb
  have hrd : (Fr.rd (bs.take a)).1 = (pays no l ++ ms.map put).take q := by rw [h.bs, q4]
  by_cases c : a < (Fr.cat (pays no l)).length
  · refine .inl ⟨c, ?_⟩
    have hq : ¬ l.length + 1 ≤ q := fun z => by
      have := (ed_iff q1 q2 q3 (k := l.length + 1) (by omega)).2 z
      omega
    match q, hq, hrd with
    | 0, _, hrd => exact .inl (by rw [hrd]; rfl)
    | q + 1, hq, hrd =>
      rw [take_pays, List.take_append_of_le_length (by omega)] at hrd
      have hm := h.md
      rw [← List.take_append_drop q l, List.append_assoc] at hm
      obtain ⟨i, hi⟩ := made_pre _ _ _ _ hm
      exact .inr ⟨l.take q, i, hrd, by rw [List.length_take]; omega, hi, made_may _ _ _ hi⟩
  · refine .inr ⟨c, ?_⟩
    have hq : l.length + 1 ≤ q := (ed_iff q1 q2 q3 (k := l.length + 1) (by omega)).1 (by omega)
    obtain ⟨s, rfl⟩ : ∃ s, q = l.length + s + 1 := ⟨q - l.length - 1, by omega⟩
    have hs : s ≤ ms.length := by omega
    refine ⟨s, hs, ?_, h.ja s hs, fun i hi => ?_⟩
    · rw [hrd, take_pays, List.take_length_add_append]
    · rw [h.ea i hi, ← hed i hi]
      have := ed_iff q1 q2 q3 (k := l.length + 1 + i) (by omega)
      constructor
      · intro z
        have := this.1 (by omega)
        omega
      · intro z
        have := this.2 (by omega)
        omega
/-- The whole file begins with its head. -/
theorem PI.whole {no : Int} {l ms : List En} {es : List Int} {js : List Jn} {bs : List Int} {j : Jn} (h : PI no l ms es js bs j) (h0 : 0 ≤ no) (h1 : no ≤ 9223372036854775807) (hl : l.length ≤ 4096) : ∃ ys, (Fr.rd bs).1 = head no l.length :: ys := by
  have hF := h.fine h0 h1 hl
  have := Fr.rd_cat (pays no l ++ ms.map put) [] hF
  rw [List.append_nil, ← h.bs] at this
  rw [this, Fr.rd_nil, List.append_nil]
  exact ⟨l.map put ++ ms.map put, rfl⟩
end Jo
end Go.Proofs.Ytljgalleiemaaaa
