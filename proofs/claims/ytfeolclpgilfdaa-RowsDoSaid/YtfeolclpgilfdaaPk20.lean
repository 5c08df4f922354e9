/- Words on memory: a record as a struct (a row, an offset), a slice of such; from an argument as the statement reads it to these words. Their type, at this program. What the statements' Few of layer 11 does. What the reference's Few does. Words on rows that the walks of layer 11 share: the last offset, a row that is there has room, the number of rows. -/
import Derived.BigRegion
import Derived.BigQuiet
import Derived.Deep.QuietTactic
import Derived.Test.YtfeolclpgilfdaaPk02
import Derived.Test.YtfeolclpgilfdaaPk09
import Derived.Test.YtfeolclpgilfdaaPk06
import Derived.Test.YtfeolclpgilfdaaPk14
import Derived.Test.YtfeolclpgilfdaaPk19
import Derived.Test.YtfeolclpgilfdaaPk10
namespace Go.Proofs.Ytfeolclpgilfdaa
set_option maxRecDepth 20000
open Go.RowKit Go.ChangeShapes Go.WideShapes
namespace Wd
open Va (Vl)
/-- A record: its row's slice, the row, the offset. -/
structure Rcd where
  rA : Option Addr
  rn : Nat
  rc : Nat
  row : List Vl
  off : Int
instance : Inhabited Rcd := ⟨⟨none, 0, 0, [], 0⟩⟩
def Rcd.vals (o : Rcd) : List Value := [.slice o.rA o.rn o.rc, .int .i64 o.off]
structure Rc1 (w : World) (o : Rcd) : Prop where
  b : Vs w o.rA o.rn o.rc o.row
  w0 : (Lit.int .i64 o.off).wf = true
/-- The slice value of address A, length n and capacity c holds the records os. -/
structure Rcs (w : World) (A : Option Addr) (n c : Nat) (os : List Rcd) : Prop where
  len : n = os.length
  cap : n ≤ c
  max : c ≤ maxLen
  nil : A = none → c = 0
  at_ : ∀ j, j < os.length → ∃ b o, A = some ⟨b, o, none⟩ ∧ b < w.heap.size ∧ (∀ i v, (os.getD j default).vals[i]? = some v → w.cell? ⟨b, o + (j * 2 + i), none⟩ = some v) ∧ Rc1 w (os.getD j default)
section
variable {w w' : World} {A : Option Addr} {n c : Nat} {os : List Rcd} {o : Rcd}
theorem Rc1.below (h : Rc1 w o) (hb : Below w.heap.size w w') : Rc1 w' o := ⟨h.b.below hb, h.w0⟩
theorem Rcs.below (h : Rcs w A n c os) (hb : Below w.heap.size w w') : Rcs w' A n c os :=
  ⟨h.len, h.cap, h.max, h.nil, fun j hj => by
    obtain ⟨b, o, e, hlt, hc, h1⟩ := h.at_ j hj
    exact ⟨b, o, e, Nat.lt_of_lt_of_le hlt hb.size, fun i v hv => (hb.cell (p := ⟨b, o + (j * 2 + i), none⟩) hlt).trans (hc i v hv), h1.below hb⟩⟩
theorem Rcs.none_ (w : World) : Rcs w none 0 0 [] := ⟨rfl, Nat.le_refl _, Nat.zero_le _, fun _ => rfl, fun _ h => by simp at h⟩
/-- The cells of the j-th. -/
theorem Rcs.cells (h : Rcs w A n c os) {j : Nat} (hj : j < os.length) {o : Rcd} (ho : o = os.getD j default) : ∃ b f, A = some ⟨b, f, none⟩ ∧ b < w.heap.size ∧ w.cell? ⟨b, f + j * 2, none⟩ = some (.slice o.rA o.rn o.rc) ∧ w.cell? ⟨b, f + j * 2 + 1, none⟩ = some (.int .i64 o.off) ∧ Rc1 w o := by
  subst ho
  obtain ⟨b, f, e, hlt, hc, h1⟩ := h.at_ j hj
  exact ⟨b, f, e, hlt, hc 0 _ rfl, by rw [Nat.add_assoc]; exact hc 1 _ rfl, h1⟩
end

section
variable {H : Type} {enc : TypeId × Value → H} {P : Program} {W : World} {r : Reach} {base0 base : Nat} {spare : Nat → Bool} {held : Bool}
theorem open_vs1 {t e : TypeId} {f0 f1 f2 f3 : Field} (ht : P.underlying t = some (.slice e)) (T : VlT P e f0 f1 f2 f3) {fuel : Nat} {A : Option Addr} {n c : Nat} {x : DataW H × List MemPlace} (hf : DataW.trod enc P W base spare held fuel t [.slice A n c] = some x) :
    ∃ os, Vs W A n c os := by
  rcases Go.Deep.open_slice ht hf with ⟨hcs, _⟩ | ⟨a, len, cap, m, k, D, Pl, hcs, _, hl, hm, hmm, _, hx⟩
  · simp at hcs
    obtain ⟨rfl, rfl, rfl⟩ := hcs
    exact ⟨[], Vs.none_ _⟩
  · simp at hcs
    obtain ⟨rfl, rfl, rfl⟩ := hcs
    have hnm : n ≤ m := by rw [hmm]; split <;> omega
    rw [T.c] at hx
    obtain ⟨Y, hY⟩ := Go.Deep.choose_lt (α := Vl) (n := n) (p := fun i y => (∀ j v, (Wd.vals y)[j]? = some v → W.cell? (a.add (i * 4 + j)) = some v) ∧ V1 y) (fun i hi => by
      obtain ⟨cs', h1, h2⟩ := hx i (by omega)
      obtain ⟨_, hlen, hcell⟩ := World.cells?_some h1
      obtain ⟨o, e1, h3⟩ := open_v1 T hlen h2
      refine ⟨o, fun j v hv => ?_, h3⟩
      have hj : j < 4 := by
        have := (List.getElem?_eq_some_iff.1 hv).1
        simpa [Wd.vals] using this
      have h4 := hcell j hj
      rw [Go.Deep.add_add, e1, hv] at h4
      exact h4)
    refine ⟨(List.range n).map Y, ⟨by simp, hl, hm, by simp, fun j hj => ?_⟩⟩
    simp only [List.length_map, List.length_range] at hj
    have hg : ((List.range n).map Y).getD j default = Y j := by simp [List.getD, hj]
    obtain ⟨h1, h2⟩ := hY j hj
    obtain ⟨b, off, spot⟩ := a
    have hs : spot = none := by simpa [Addr.add] using World.cell?_spot ((hY 0 (by omega)).1 0 _ rfl)
    subst hs
    have h5 := h1 0 _ rfl
    rw [Addr.add_lit] at h5
    refine ⟨b, off, rfl, World.block_lt_of_cell? W ⟨b, off + (j * 4 + 0), none⟩ h5, fun i v hv => ?_, by rw [hg]; exact h2⟩
    rw [hg] at hv
    have := h1 i v hv
    rwa [Addr.add_lit] at this
/-- The type of a record: its two fields. -/
structure RcT (P : Program) (t : TypeId) (f0 f1 : Field) (e : TypeId) (g0 g1 g2 g3 : Field) : Prop where
  u : P.underlying t = some (.struct #[f0, f1])
  c : P.cellsOf t = 2
  o0 : f0.offset = 0
  o1 : f1.offset = 1
  c0 : P.cellsOf f0.type = 1
  c1 : P.cellsOf f1.type = 1
  u0 : P.underlying f0.type = some (.slice e)
  u1 : P.underlying f1.type = some (.int .i64)
  k : VlT P e g0 g1 g2 g3
theorem open_rc1 {t : TypeId} {f0 f1 : Field} {e : TypeId} {g0 g1 g2 g3 : Field} (T : RcT P t f0 f1 e g0 g1 g2 g3) {fuel : Nat} {cs : List Value} {x : DataW H × List MemPlace} (hl : cs.length = 2) (h : DataW.trod enc P W base spare held fuel t cs = some x) :
    ∃ o : Rcd, cs = o.vals ∧ Rc1 W o := by
  obtain ⟨xs, k, hk, hxy, _, hxl, hf⟩ := DataW.trod_struct T.u h
  match xs, hxl, cs, hl with
  | [y0, y1], _, [v0, v1], _ =>
    have q0 := hf 0 f0 rfl
    have q1 := hf 1 f1 rfl
    simp [T.o0, T.o1, T.c0, T.c1] at q0 q1
    obtain ⟨A, n, c, rfl⟩ := trod_slice_one T.u0 q0
    obtain ⟨os, hc⟩ := open_vs1 T.u0 T.k q0
    obtain ⟨a1, z1, _, w1⟩ := DataW.trod_int T.u1 q1
    simp only [List.cons.injEq, and_true] at z1
    subst z1
    exact ⟨⟨A, n, c, os, a1⟩, rfl, ⟨hc, w1⟩⟩
theorem open_rcs {t e : TypeId} {f0 f1 : Field} {e1 : TypeId} {g0 g1 g2 g3 : Field} (ht : P.underlying t = some (.slice e)) (T : RcT P e f0 f1 e1 g0 g1 g2 g3) {v : Value} {d : DataW H} {ps : List MemPlace} (hok : Value.okWide P W r base0 t v) (h : DataW.Trod enc P W base spare held t v d ps) :
    ∃ A n c os, v = .slice A n c ∧ Rcs W A n c os := by
  obtain ⟨A, n, c, rfl⟩ := okWide_slice ht hok
  obtain ⟨fuel, hf⟩ := h
  rcases Go.Deep.open_slice ht hf with ⟨hcs, _⟩ | ⟨a, len, cap, m, k, D, Pl, hcs, _, hl, hm, hmm, _, hx⟩
  · simp [Value.cells] at hcs
    obtain ⟨rfl, rfl, rfl⟩ := hcs
    exact ⟨none, 0, 0, [], rfl, Rcs.none_ _⟩
  · simp [Value.cells] at hcs
    obtain ⟨rfl, rfl, rfl⟩ := hcs
    have hnm : n ≤ m := by rw [hmm]; split <;> omega
    rw [T.c] at hx
    obtain ⟨Y, hY⟩ := Go.Deep.choose_lt (α := Rcd) (n := n) (p := fun i y => (∀ j v, y.vals[j]? = some v → W.cell? (a.add (i * 2 + j)) = some v) ∧ Rc1 W y) (fun i hi => by
      obtain ⟨cs', h1, h2⟩ := hx i (by omega)
      obtain ⟨_, hlen, hcell⟩ := World.cells?_some h1
      obtain ⟨o, e1, h3⟩ := open_rc1 T hlen h2
      refine ⟨o, fun j v hv => ?_, h3⟩
      have hj : j < 2 := by
        have := (List.getElem?_eq_some_iff.1 hv).1
        simpa [Rcd.vals] using this
      have h4 := hcell j hj
      rw [Go.Deep.add_add, e1, hv] at h4
      exact h4)
    refine ⟨some a, n, c, (List.range n).map Y, rfl, ⟨by simp, hl, hm, by simp, fun j hj => ?_⟩⟩
    simp only [List.length_map, List.length_range] at hj
    have hg : ((List.range n).map Y).getD j default = Y j := by simp [List.getD, hj]
    obtain ⟨h1, h2⟩ := hY j hj
    obtain ⟨b, off, spot⟩ := a
    have hs : spot = none := by simpa [Addr.add] using World.cell?_spot ((hY 0 (by omega)).1 0 _ rfl)
    subst hs
    have h5 := h1 0 _ rfl
    rw [Addr.add_lit] at h5
    refine ⟨b, off, rfl, World.block_lt_of_cell? W ⟨b, off + (j * 2 + 0), none⟩ h5, fun i v hv => ?_, by rw [hg]; exact h2⟩
    rw [hg] at hv
    have := h1 i v hv
    rwa [Addr.add_lit] at this
end
theorem rcT : ∃ f0 f1 g0 g1 g2 g3, RcT Try.prog 40 f0 f1 49 g0 g1 g2 g3 :=
  ⟨_, _, _, _, _, _, ⟨Try.underlying40, by kernel_rfl, rfl, rfl, by kernel_rfl, by kernel_rfl, Try.underlying38, Try.underlying3,
    ⟨Try.underlying49, by kernel_rfl, rfl, rfl, rfl, rfl, by kernel_rfl, by kernel_rfl, by kernel_rfl, by kernel_rfl, Try.underlying3, Try.underlying3, Try.underlying9, Try.underlying4⟩⟩⟩
end Wd
end Go.Proofs.Ytfeolclpgilfdaa
namespace Go.Proofs.Ytfeolclpgilfdaa
set_option maxRecDepth 20000
open Go.RowKit
namespace Rw
open Va (Vl May)
open Sc (tr tr_yes tr_no)
open Wd (Rcd)
/-- At most 60 rows, light ones. -/
def FewR (l : List Rcd) : Prop := l.length ≤ 60 ∧ ∀ j, j < l.length → Sx.LightS (l.getD j default).row
set_option maxHeartbeats 1000000 in
theorem few_any (A : Option Addr) (n c : Nat) (l : List Rcd) (w : World) (hS : Wd.Rcs w A n c l) :
    Calls Try.prog 10 #[.slice A n c] w fun e w' => e = .returned (.int .i64 (if tr (FewR l) = true then 0 else 1)) ∧ w' = w := by
  have Hl := Lib.hid hS.len
  have HS := Lib.hid hS
  have hcap := hS.cap
  obtain ⟨r, hr⟩ : ∃ r : Int, r = if tr (FewR l) = true then 0 else 1 := ⟨_, rfl⟩
  rw [← hr]
  have Hr := Lib.hid hr
  clear hr hS
  by_cases h60 : 60 < n
  · have e : r = 1 := by rw [Hr.out, tr_no fun h => by have := h.1; have := Hl.out; omega]; rfl
    subst e
    have q1 : (60 : Int) < (n : Int) := by omega
    clear h60
    go_enter Try.func10, Try.ntmps10
    go_wp2_with fail
    go_ret
    exact ⟨rfl, rfl⟩
  have q1 : ¬ (60 : Int) < (n : Int) := by omega
  go_enter Try.func10, Try.ntmps10
  go_wp2
  go_loopw [3] (fun i wr => ∃ k : Nat, i = .int .i64 k ∧ k ≤ n ∧ Hid (∀ j, j < k → Sx.LightS (l.getD j default).row) ∧ wr = w) (fun i _ => n - (intOf i).toNat)
  case atStart => exact ⟨0, rfl, Nat.zero_le _, Lib.hid (fun j hj => by omega), rfl⟩
  case round =>
    obtain ⟨k, rfl, hk, hf, rfl⟩ := hrel
    by_cases hlt : k < n
    · obtain ⟨b, o, hA, hbB, c0, c1, h1⟩ := HS.out.cells (j := k) (by rw [← Hl.out]; exact hlt) rfl
      subst hA
      obtain ⟨x, hx⟩ : ∃ x, x = l.getD k default := ⟨_, rfl⟩
      rw [← hx] at c0 c1 h1
      have Hx := Lib.hid hx
      have Cl := Lib.hid (Sx.Light_any _ _ _ _ wr h1.b)
      have hkI : (k : Int) < (n : Int) := by omega
      clear hx c1 h1
      by_cases hz : Sx.LightS x.row
      · rw [tr_yes hz] at Cl
        have Hz := Lib.hid hz
        clear hz
        go_wp2_with fail
        refine Cl.out.mono ?_
        rintro e w1 ⟨rfl, e1⟩
        subst e1
        go_wp2_with fail
        go_roundw
        case rel =>
          refine ⟨k + 1, by go_num, by omega, Lib.hid fun j hj => ?_, by first | rfl | trivial⟩
          by_cases hjk : j = k
          · rw [hjk, ← Hx.out]; exact Hz.out
          · exact hf.out j (by omega)
        case measure => simp [intOf]; omega
      · rw [tr_no hz] at Cl
        have e : r = 1 := by rw [Hr.out, tr_no fun h => hz (by have := h.2 k (by rw [← Hl.out]; exact hlt); rw [← Hx.out] at this; exact this)]; rfl
        have He := Lib.hid e
        clear hz e
        go_wp2_with fail
        refine Cl.out.mono ?_
        rintro e w1 ⟨rfl, e1⟩
        subst e1
        go_wp2_with fail
        go_ret
        exact ⟨by rw [He.out]; rfl, rfl⟩
    · have hkI : ¬ (k : Int) < n := by omega
      have e : r = 0 := by
        rw [Hr.out, if_pos (tr_yes ⟨by have := Hl.out; omega, fun i hi => hf.out i (by have := Hl.out; omega)⟩)]
      have He := Lib.hid e
      clear e hf
      go_wp2_with fail
      go_ret
      exact ⟨by rw [He.out]; rfl, rfl⟩
end Rw
end Go.Proofs.Ytfeolclpgilfdaa
namespace Go.Proofs.Ytfeolclpgilfdaa
set_option maxRecDepth 20000
open Go.RowKit
namespace Sx
open Sc (Col Sch tr tr_yes tr_no)
open Va (Vl May)
/-- Not too great. -/
def FewS (s : Sch) : Prop := s.cols.length ≤ 12 ∧ ∀ i, i < s.cols.length → (s.cols.getD i default).name.size ≤ 100
set_option maxHeartbeats 1000000 in
theorem Few_any (A : Option Addr) (n c : Nat) (s : Sch) (w : World) (hS : Wd.Cs w A n c s.cols) :
    Calls Try.prog 9 #[.agg #[.slice A n c, .int .i64 s.key, .int .i64 s.cmp, .int .i64 s.del, .int .i64 s.sort]] w fun e w' => e = .returned (.bool (tr (FewS s))) ∧ Below w.heap.size w w' := by
  have hb0 := (Below.refl w.heap.size w).alloc (Nat.le_refl _) (.cells #[.slice A n c, .int .i64 s.key, .int .i64 s.cmp, .int .i64 s.del, .int .i64 s.sort] 24)
  have s0 : Sb (w.alloc (.cells #[.slice A n c, .int .i64 s.key, .int .i64 s.cmp, .int .i64 s.del, .int .i64 s.sort] 24)) w.heap.size A n c s.key s.cmp s.del s.sort := Wd.Bx.new w _ _
  have Hl := Lib.hid hS.len
  have HS := Lib.hid (hS.below hb0)
  have hcap := hS.cap
  obtain ⟨r, hr⟩ : ∃ r, r = tr (FewS s) := ⟨_, rfl⟩
  rw [← hr]
  have Hr := Lib.hid hr
  clear hr hS
  by_cases h12 : 12 < n
  · have e : r = false := by rw [Hr.out]; exact tr_no fun h => by have := h.1; have := Hl.out; omega
    subst e
    have q1 : (12 : Int) < (n : Int) := by omega
    clear h12
    go_enter Try.func9, Try.ntmps9
    go_wp2_with fail
    go_ret
    exact ⟨rfl, hb0⟩
  have q1 : ¬ (12 : Int) < (n : Int) := by omega
  go_enter Try.func9, Try.ntmps9
  go_wp2
  generalize w.alloc (.cells #[.slice A n c, .int .i64 s.key, .int .i64 s.cmp, .int .i64 s.del, .int .i64 s.sort] 24) = wa at *
  obtain ⟨p0, p1, p2, p3, p4⟩ := five s0
  go_loopw [3] (fun i wr => ∃ k : Nat, i = .int .i64 k ∧ k ≤ n ∧ Hid (∀ j, j < k → (s.cols.getD j default).name.size ≤ 100) ∧ wr = wa) (fun i _ => n - (intOf i).toNat)
  case atStart => exact ⟨0, rfl, Nat.zero_le _, Lib.hid (fun j hj => by omega), rfl⟩
  case round =>
    obtain ⟨k, rfl, hk, hf, rfl⟩ := hrel
    by_cases hlt : k < n
    · obtain ⟨b, o, hA, hbB, c0, c1, c2, _⟩ := HS.out.cells (j := k) (by rw [← Hl.out]; exact hlt) rfl
      subst hA
      obtain ⟨x, hx⟩ : ∃ x, x = (s.cols.getD k default).name := ⟨_, rfl⟩
      rw [← hx] at c0
      have Hx := Lib.hid hx
      clear hx c1 c2
      by_cases hz : 100 < x.size
      · have e : r = false := by rw [Hr.out]; exact tr_no fun h => by have := h.2 k (by rw [← Hl.out]; exact hlt); rw [← Hx.out] at this; omega
        have He := Lib.hid e
        have hzI : (100 : Int) < (x.size : Int) := by omega
        clear e
        go_wp2_with fail
        go_ret
        exact ⟨by rw [He.out]; rfl, hb0⟩
      · have hzI : ¬ (100 : Int) < (x.size : Int) := by omega
        go_wp2_with fail
        go_roundw
        case rel =>
          refine ⟨k + 1, by go_num, by omega, Lib.hid fun j hj => ?_, by first | rfl | trivial⟩
          by_cases hjk : j = k
          · rw [hjk, ← Hx.out]; omega
          · exact hf.out j (by omega)
        case measure => simp [intOf]; omega
    · have hkI : ¬ (k : Int) < n := by omega
      have e : r = true := by
        rw [Hr.out]
        exact tr_yes ⟨by have := Hl.out; omega, fun i hi => hf.out i (by have := Hl.out; omega)⟩
      have He := Lib.hid e
      clear e hf
      go_wp2_with fail
      go_ret
      exact ⟨by rw [He.out]; rfl, hb0⟩
end Sx
end Go.Proofs.Ytfeolclpgilfdaa
namespace Go.Proofs.Ytfeolclpgilfdaa
set_option maxRecDepth 20000
open Go.RowKit Go.Maps
namespace Rw
open Va (Vl May null)
open Sc (Sch FitS MayS fits fits_get tr tr_yes tr_no tr_iff tr_congr)
open Wd (Rcd)
/-- The last offset; -1: there is none. -/
def lastO (S : St) : Int := if S.offs = [] then -1 else S.offs.getD (S.offs.length - 1) 0
theorem lastO_app (S : St) (row : List Vl) (off : Int) : lastO (app S row off) = if er S row off = 0 then off else lastO S := by
  unfold app
  split
  · unfold lastO more
    simp
  · rfl
theorem lastO_bd {S : St} (h : Ok S) : -1 ≤ lastO S ∧ lastO S ≤ 1099511627776 ∧ (S.rows ≠ [] → 0 ≤ lastO S) := by
  unfold lastO
  by_cases e : S.offs = []
  · rw [if_pos e]
    refine ⟨by omega, by omega, fun q => ?_⟩
    have := h.len
    rw [e] at this
    exact absurd (List.eq_nil_of_length_eq_zero this.symm) q
  · rw [if_neg e]
    have hp : 0 < S.offs.length := Nat.pos_of_ne_zero fun q => e (List.eq_nil_of_length_eq_zero q)
    have := h.off (S.offs.getD (S.offs.length - 1) 0) (by rw [List.getD_eq_getElem?_getD, List.getElem?_eq_getElem (by omega)]; exact List.getElem_mem (by omega))
    exact ⟨by omega, by omega, fun _ => this.1⟩
/-- One of its rows, behind the last offset, has room as long as there is room for a row. -/
theorem er_again {S : St} (h : Ok S) {x : List Vl} (hx : x ∈ S.rows) (h1 : (S.rows.length : Int) < S.most) (h2 : lastO S < 1099511627776) : er S x (lastO S + 1) = 0 := by
  have h0 := (lastO_bd h).2.2 (List.ne_nil_of_mem hx)
  refine er_ok ⟨⟨h.may, h.fit x hx⟩, by omega, by omega⟩ (fun q => ?_) fun q => q.elim (fun q => by omega) fun q => q (room_of_mem hx)
  have := q.2
  unfold lastO at this
  rw [if_neg q.1] at this
  omega
section
variable {wo w : World} {r : Nat} {S : St} {F : Nat → Prop}
theorem ob_len (h : Ob wo w r S F) : Calls Try.prog 16 #[Dt.pt r] w fun e w' => e = .returned (.int .i64 (S.rows.length : Int)) ∧ w' = w := by
  obtain ⟨g, A, n, c, cd, ov, hn, hl, -⟩ := h.mem
  rw [← h.ok.len]
  exact len_any hl
/-- A record of old memory: nothing of it is in blocks that are new. -/
theorem rec_at {B : Option Addr} {m d : Nat} {l : List Rcd} (hL : Wd.Rcs wo B m d l) (h : Ob wo w r S F) {j : Nat} (hj : j < l.length) {x : Rcd} (hx : x = l.getD j default) :
    ∃ b o, B = some ⟨b, o, none⟩ ∧ ¬ F b ∧ b < wo.heap.size ∧ (w.cell? ⟨b, o + j * 2, none⟩ = some (.slice x.rA x.rn x.rc) ∧ w.cell? ⟨b, o + j * 2 + 1, none⟩ = some (.int .i64 x.off)) ∧ Wd.Vs w x.rA x.rn x.rc x.row ∧ (Lit.int .i64 x.off).wf = true ∧ ∀ b' o', x.rA = some ⟨b', o', none⟩ → x.row ≠ [] → ¬ F b' := by
  obtain ⟨b, o, hB, hb, c0, c1, h1⟩ := hL.cells hj hx
  have hnew : ∀ y, y < wo.heap.size → ¬ F y := fun y hy q => by have := h.new y q; omega
  refine ⟨b, o, hB, hnew b hb, hb, ⟨(h.bel.cell (p := ⟨b, o + j * 2, none⟩) hb).trans c0, (h.bel.cell (p := ⟨b, o + j * 2 + 1, none⟩) hb).trans c1⟩, h1.b.below h.bel, h1.w0, fun b' o' e hne => ?_⟩
  have hpos : 0 < x.row.length := Nat.pos_of_ne_zero fun q => hne (List.eq_nil_of_length_eq_zero q)
  obtain ⟨b2, o2, e2, hlt, _⟩ := h1.b.at_ 0 hpos
  rw [e] at e2
  cases e2
  exact hnew _ hlt
end
/-- The cells of the p-th of a block of values. -/
theorem rowv_cells {w : World} {g p : Nat} {L : List Vl} (h : Wd.RowV w g L) (hp : p < L.length) {x : Vl} (hx : x = L.getD p default) :
    w.cell? ⟨g, p * 4, none⟩ = some (.int .i64 x.kind) ∧ w.cell? ⟨g, p * 4 + 1, none⟩ = some (.int .i64 x.i) ∧ w.cell? ⟨g, p * 4 + 2, none⟩ = some (.string x.s) ∧ w.cell? ⟨g, p * 4 + 3, none⟩ = some (.bool x.b) := by
  subst hx
  have c : ∀ i v, (Wd.vals (L.getD p default))[i]? = some v → w.cell? ⟨g, p * 4 + i, none⟩ = some v := fun i v hv => (Wd.Bx.cell h (p * 4 + i)).trans (by rw [List.getElem?_toArray]; exact Wd.flatV_get L p hp i v hv)
  exact ⟨c 0 _ rfl, c 1 _ rfl, c 2 _ rfl, c 3 _ rfl⟩
theorem take_next {α : Type} {l : List α} {p : Nat} (d : α) (h : p < l.length) : l.take (p + 1) = l.take p ++ [l.getD p d] := by
  rw [List.take_add_one, List.getElem?_eq_getElem h, List.getD_eq_getElem?_getD, List.getElem?_eq_getElem h]
  rfl
theorem ow_next {C : List Vl} {p : Nat} (h : p < C.length) : ow (C.take (p + 1)) = put1 (ow (C.take p)) (C.getD p default) := by rw [take_next default h, ow_snoc]
theorem mem_next {L : List Vl} {q : Nat} (h : q < L.length) (x : Vl) : decide (x ∈ L.take (q + 1)) = (decide (x ∈ L.take q) || decide (L.getD q default = x)) := by
  rw [take_next default h, Bool.eq_iff_iff, Bool.or_eq_true, decide_eq_true_iff, decide_eq_true_iff, decide_eq_true_iff, List.mem_append, List.mem_singleton]
  exact ⟨fun q => q.imp id Eq.symm, fun q => q.imp id Eq.symm⟩
theorem veq {a b : Vl} : (a.kind = b.kind ∧ a.i = b.i ∧ a.s = b.s ∧ a.b = b.b) ↔ a = b := by
  obtain ⟨k1, i1, s1, b1⟩ := a
  obtain ⟨k2, i2, s2, b2⟩ := b
  simp
end Rw
end Go.Proofs.Ytfeolclpgilfdaa
