/- Words on memory: a record as a struct (a row, an offset), a slice of such; from an argument as the statement reads it to these words. Their type, at this program. The references' Rows of layer 6 (two lists of rows, the same), and the law's Parted. What the statements of layer 12 say of the order: which rows were seen, that sorted rows stay, and that rows put back are the rows. No program, no memory. -/
import Derived.Deep.RegionHeld3
import Derived.Deep.DeepCutAuto
import Derived.Lib.Hide
import Derived.Test.YtoibpbnebcoafaaGreatPk06
import Derived.Test.YtoibpbnebcoafaaGreatPk11
import Derived.Test.YtoibpbnebcoafaaGreatPk10
import Derived.Test.YtoibpbnebcoafaaGreatPk39
import Derived.Test.YtoibpbnebcoafaaGreatPk21
import Derived.Test.YtoibpbnebcoafaaGreatPk26
import Derived.Test.YtoibpbnebcoafaaGreatPk07
namespace Go.Proofs.YtoibpbnebcoafaaGreat
set_option maxRecDepth 20000
open Go.RowKit Go.ChangeShapes Go.WideShapes
namespace Wd
open Va (Vl)
/-- A record: its row's slice, the row, the offset. -/
structure Rcd where
  rA : Option Addr
  rn : Nat
  rc : Nat
  row : List Vl
  off : Int
instance : Inhabited Rcd := ⟨⟨none, 0, 0, [], 0⟩⟩
def Rcd.vals (o : Rcd) : List Value := [.slice o.rA o.rn o.rc, .int .i64 o.off]
structure Rc1 (w : World) (o : Rcd) : Prop where
  b : Vs w o.rA o.rn o.rc o.row
  w0 : (Lit.int .i64 o.off).wf = true
/-- The slice value of address A, length n and capacity c holds the records os. -/
structure Rcs (w : World) (A : Option Addr) (n c : Nat) (os : List Rcd) : Prop where
  len : n = os.length
  cap : n ≤ c
  max : c ≤ maxLen
  nil : A = none → c = 0
  at_ : ∀ j, j < os.length → ∃ b o, A = some ⟨b, o, none⟩ ∧ b < w.heap.size ∧ (∀ i v, (os.getD j default).vals[i]? = some v → w.cell? ⟨b, o + (j * 2 + i), none⟩ = some v) ∧ Rc1 w (os.getD j default)
section
variable {w w' : World} {A : Option Addr} {n c : Nat} {os : List Rcd} {o : Rcd}
theorem Rc1.below (h : Rc1 w o) (hb : Below w.heap.size w w') : Rc1 w' o := ⟨h.b.below hb, h.w0⟩
theorem Rcs.below (h : Rcs w A n c os) (hb : Below w.heap.size w w') : Rcs w' A n c os :=
  ⟨h.len, h.cap, h.max, h.nil, fun j hj => by
    obtain ⟨b, o, e, hlt, hc, h1⟩ := h.at_ j hj
    exact ⟨b, o, e, Nat.lt_of_lt_of_le hlt hb.size, fun i v hv => (hb.cell (p := ⟨b, o + (j * 2 + i), none⟩) hlt).trans (hc i v hv), h1.below hb⟩⟩
theorem Rcs.none_ (w : World) : Rcs w none 0 0 [] := ⟨rfl, Nat.le_refl _, Nat.zero_le _, fun _ => rfl, fun _ h => by simp at h⟩
/-- The cells of the j-th. -/
theorem Rcs.cells (h : Rcs w A n c os) {j : Nat} (hj : j < os.length) {o : Rcd} (ho : o = os.getD j default) : ∃ b f, A = some ⟨b, f, none⟩ ∧ b < w.heap.size ∧ w.cell? ⟨b, f + j * 2, none⟩ = some (.slice o.rA o.rn o.rc) ∧ w.cell? ⟨b, f + j * 2 + 1, none⟩ = some (.int .i64 o.off) ∧ Rc1 w o := by
  subst ho
  obtain ⟨b, f, e, hlt, hc, h1⟩ := h.at_ j hj
  exact ⟨b, f, e, hlt, hc 0 _ rfl, by rw [Nat.add_assoc]; exact hc 1 _ rfl, h1⟩
end

section
variable {H : Type} {enc : TypeId × Value → H} {P : Program} {W : World} {r : Reach} {base0 base : Nat} {spare : Nat → Bool} {held : Bool}
theorem open_vs1 {t e : TypeId} {f0 f1 f2 f3 : Field} (ht : P.underlying t = some (.slice e)) (T : VlT P e f0 f1 f2 f3) {fuel : Nat} {A : Option Addr} {n c : Nat} {x : DataW H × List MemPlace} (hf : DataW.trod enc P W base spare held fuel t [.slice A n c] = some x) :
    ∃ os, Vs W A n c os := by
  rcases Go.Deep.open_slice ht hf with ⟨hcs, _⟩ | ⟨a, len, cap, m, k, D, Pl, hcs, _, hl, hm, hmm, _, hx⟩
  · simp at hcs
    obtain ⟨rfl, rfl, rfl⟩ := hcs
    exact ⟨[], Vs.none_ _⟩
  · simp at hcs
    obtain ⟨rfl, rfl, rfl⟩ := hcs
    have hnm : n ≤ m := by rw [hmm]; split <;> omega
    rw [T.c] at hx
    obtain ⟨Y, hY⟩ := Go.Deep.choose_lt (α := Vl) (n := n) (p := fun i y => (∀ j v, (Wd.vals y)[j]? = some v → W.cell? (a.add (i * 4 + j)) = some v) ∧ V1 y) (fun i hi => by
      obtain ⟨cs', h1, h2⟩ := hx i (by omega)
      obtain ⟨_, hlen, hcell⟩ := World.cells?_some h1
      obtain ⟨o, e1, h3⟩ := open_v1 T hlen h2
      refine ⟨o, fun j v hv => ?_, h3⟩
      have hj : j < 4 := by
        have := (List.getElem?_eq_some_iff.1 hv).1
        simpa [Wd.vals] using this
      have h4 := hcell j hj
      rw [Go.Deep.add_add, e1, hv] at h4
      exact h4)
    refine ⟨(List.range n).map Y, ⟨by simp, hl, hm, by simp, fun j hj => ?_⟩⟩
    simp only [List.length_map, List.length_range] at hj
    have hg : ((List.range n).map Y).getD j default = Y j := by simp [List.getD, hj]
    obtain ⟨h1, h2⟩ := hY j hj
    obtain ⟨b, off, spot⟩ := a
    have hs : spot = none := by simpa [Addr.add] using World.cell?_spot ((hY 0 (by omega)).1 0 _ rfl)
    subst hs
    have h5 := h1 0 _ rfl
    rw [Addr.add_lit] at h5
    refine ⟨b, off, rfl, World.block_lt_of_cell? W ⟨b, off + (j * 4 + 0), none⟩ h5, fun i v hv => ?_, by rw [hg]; exact h2⟩
    rw [hg] at hv
    have := h1 i v hv
    rwa [Addr.add_lit] at this
/-- The type of a record: its two fields. -/
structure RcT (P : Program) (t : TypeId) (f0 f1 : Field) (e : TypeId) (g0 g1 g2 g3 : Field) : Prop where
  u : P.underlying t = some (.struct #[f0, f1])
  c : P.cellsOf t = 2
  o0 : f0.offset = 0
  o1 : f1.offset = 1
  c0 : P.cellsOf f0.type = 1
  c1 : P.cellsOf f1.type = 1
  u0 : P.underlying f0.type = some (.slice e)
  u1 : P.underlying f1.type = some (.int .i64)
  k : VlT P e g0 g1 g2 g3
theorem open_rc1 {t : TypeId} {f0 f1 : Field} {e : TypeId} {g0 g1 g2 g3 : Field} (T : RcT P t f0 f1 e g0 g1 g2 g3) {fuel : Nat} {cs : List Value} {x : DataW H × List MemPlace} (hl : cs.length = 2) (h : DataW.trod enc P W base spare held fuel t cs = some x) :
    ∃ o : Rcd, cs = o.vals ∧ Rc1 W o := by
  obtain ⟨xs, k, hk, hxy, _, hxl, hf⟩ := DataW.trod_struct T.u h
  match xs, hxl, cs, hl with
  | [y0, y1], _, [v0, v1], _ =>
    have q0 := hf 0 f0 rfl
    have q1 := hf 1 f1 rfl
    simp [T.o0, T.o1, T.c0, T.c1] at q0 q1
    obtain ⟨A, n, c, rfl⟩ := trod_slice_one T.u0 q0
    obtain ⟨os, hc⟩ := open_vs1 T.u0 T.k q0
    obtain ⟨a1, z1, _, w1⟩ := DataW.trod_int T.u1 q1
    simp only [List.cons.injEq, and_true] at z1
    subst z1
    exact ⟨⟨A, n, c, os, a1⟩, rfl, ⟨hc, w1⟩⟩
theorem open_rcs {t e : TypeId} {f0 f1 : Field} {e1 : TypeId} {g0 g1 g2 g3 : Field} (ht : P.underlying t = some (.slice e)) (T : RcT P e f0 f1 e1 g0 g1 g2 g3) {v : Value} {d : DataW H} {ps : List MemPlace} (hok : Value.okWide P W r base0 t v) (h : DataW.Trod enc P W base spare held t v d ps) :
    ∃ A n c os, v = .slice A n c ∧ Rcs W A n c os := by
  obtain ⟨A, n, c, rfl⟩ := okWide_slice ht hok
  obtain ⟨fuel, hf⟩ := h
  rcases Go.Deep.open_slice ht hf with ⟨hcs, _⟩ | ⟨a, len, cap, m, k, D, Pl, hcs, _, hl, hm, hmm, _, hx⟩
  · simp [Value.cells] at hcs
    obtain ⟨rfl, rfl, rfl⟩ := hcs
    exact ⟨none, 0, 0, [], rfl, Rcs.none_ _⟩
  · simp [Value.cells] at hcs
    obtain ⟨rfl, rfl, rfl⟩ := hcs
    have hnm : n ≤ m := by rw [hmm]; split <;> omega
    rw [T.c] at hx
    obtain ⟨Y, hY⟩ := Go.Deep.choose_lt (α := Rcd) (n := n) (p := fun i y => (∀ j v, y.vals[j]? = some v → W.cell? (a.add (i * 2 + j)) = some v) ∧ Rc1 W y) (fun i hi => by
      obtain ⟨cs', h1, h2⟩ := hx i (by omega)
      obtain ⟨_, hlen, hcell⟩ := World.cells?_some h1
      obtain ⟨o, e1, h3⟩ := open_rc1 T hlen h2
      refine ⟨o, fun j v hv => ?_, h3⟩
      have hj : j < 2 := by
        have := (List.getElem?_eq_some_iff.1 hv).1
        simpa [Rcd.vals] using this
      have h4 := hcell j hj
      rw [Go.Deep.add_add, e1, hv] at h4
      exact h4)
    refine ⟨some a, n, c, (List.range n).map Y, rfl, ⟨by simp, hl, hm, by simp, fun j hj => ?_⟩⟩
    simp only [List.length_map, List.length_range] at hj
    have hg : ((List.range n).map Y).getD j default = Y j := by simp [List.getD, hj]
    obtain ⟨h1, h2⟩ := hY j hj
    obtain ⟨b, off, spot⟩ := a
    have hs : spot = none := by simpa [Addr.add] using World.cell?_spot ((hY 0 (by omega)).1 0 _ rfl)
    subst hs
    have h5 := h1 0 _ rfl
    rw [Addr.add_lit] at h5
    refine ⟨b, off, rfl, World.block_lt_of_cell? W ⟨b, off + (j * 2 + 0), none⟩ h5, fun i v hv => ?_, by rw [hg]; exact h2⟩
    rw [hg] at hv
    have := h1 i v hv
    rwa [Addr.add_lit] at this
end
theorem rcT : ∃ f0 f1 g0 g1 g2 g3, RcT Tryz.prog 64 f0 f1 56 g0 g1 g2 g3 :=
  ⟨_, _, _, _, _, _, ⟨Tryz.underlying64, by kernel_rfl, rfl, rfl, by kernel_rfl, by kernel_rfl, Tryz.underlying45, Tryz.underlying3,
    ⟨Tryz.underlying56, by kernel_rfl, rfl, rfl, rfl, rfl, by kernel_rfl, by kernel_rfl, by kernel_rfl, by kernel_rfl, Tryz.underlying3, Tryz.underlying3, Tryz.underlying9, Tryz.underlying4⟩⟩⟩
end Wd
end Go.Proofs.YtoibpbnebcoafaaGreat
namespace Go.Proofs.YtoibpbnebcoafaaGreat
set_option maxRecDepth 20000
open Go.RowKit Go.Maps
namespace Se
open Va (Vl)
open Sc (tr tr_yes tr_no tr_iff tr_congr)
open Wd (Rcd)
theorem lists_ext {l m : List (List Vl)} (hl : l.length = m.length) (h : ∀ j, j < l.length → l.getD j [] = m.getD j []) : l = m := by
  apply List.ext_getElem hl
  intro i h1 h2
  have := h i h1
  simpa [List.getD, h1, h2] using this
set_option maxHeartbeats 4000000 in
theorem sameL_any (A : Option Addr) (n c : Nat) (l : List (List Vl)) (B : Option Addr) (m d : Nat) (k : List (List Vl)) (w : World) (hL : Wd.Ls w A n c l) (hK : Wd.Ls w B m d k) :
    Calls Tryz.prog 23 #[.slice A n c, .slice B m d] w fun e w' => e = .returned (.bool (tr (l = k))) ∧ Below w.heap.size w w' := by
  have Hl := Lib.hid hL.len
  have Hk := Lib.hid hK.len
  have hcap := hL.cap
  have hmax := hL.max
  have hcap' := hK.cap
  have hmax' := hK.max
  unfold maxLen at hmax hmax'
  have HL := Lib.hid hL
  have HK := Lib.hid hK
  obtain ⟨r, hr⟩ : ∃ r, r = tr (l = k) := ⟨_, rfl⟩
  rw [← hr]
  have Hno := Lib.hid (fun (h : ¬ l = k) => (by rw [hr]; exact tr_no h : r = false))
  have Hyes := Lib.hid (fun (h : l = k) => (by rw [hr]; exact tr_yes h : r = true))
  clear hr hL hK
  go_enter Tryz.func23, Tryz.ntmps23
  by_cases h0 : n = m
  case neg =>
    have q0 : ((n : Int) != (m : Int)) = true := by simp; omega
    have q := Lib.hid (Hno.out fun z => h0 (by rw [Hl.out, Hk.out, z]))
    clear h0
    go_wp2_with fail
    go_ret
    exact ⟨by rw [q.out]; rfl, Below.refl _ _⟩
  subst h0
  have q0 : ((n : Int) != (n : Int)) = false := by simp
  go_wp2_with fail
  clear q0
  go_loopw [5] (fun i wr => ∃ j : Nat, i = .int .i64 j ∧ j ≤ n ∧ Hid ((∀ q, q < j → l.getD q [] = k.getD q []) ∧ Below w.heap.size w wr)) (fun i _ => n - (intOf i).toNat)
  case atStart => exact ⟨0, rfl, Nat.zero_le _, Lib.hid ⟨fun q hq => by omega, Below.refl _ _⟩⟩
  case round =>
    obtain ⟨j, rfl, hj, hI⟩ := hrel
    by_cases hlt : j < n
    · have hjI : (j : Int) < (n : Int) := by omega
      obtain ⟨b, f, A1, n1, c1, hA, _, r0, hV1⟩ := (HL.out.below hI.out.2).at_ j (by have := Hl.out; omega)
      obtain ⟨b', f', A2, n2, c2, hA', _, r1, hV2⟩ := (HK.out.below hI.out.2).at_ j (by have := Hk.out; omega)
      subst hA
      subst hA'
      have Cs := Lib.hid (fun W (hb : Below wr.heap.size wr W) => Sx.sameV_any A1 n1 c1 (l.getD j []) A2 n2 c2 (k.getD j []) W (hV1.below hb) (hV2.below hb))
      obtain ⟨fv, hfv⟩ : ∃ fv, fv = tr (l.getD j [] = k.getD j []) := ⟨_, rfl⟩
      rw [← hfv] at Cs
      have Hfv := Lib.hid hfv
      have HI := Lib.hid hI.out
      have ZZ := Lib.hid (fun (W : World) (hb : Below wr.heap.size wr W) => (show W.cell? ⟨b, f + j, none⟩ = some (.slice A1 n1 c1) ∧ W.cell? ⟨b', f' + j, none⟩ = some (.slice A2 n2 c2) from
        ⟨(hb.cell (World.block_lt_of_cell? wr _ r0)).trans r0, (hb.cell (World.block_lt_of_cell? wr _ r1)).trans r1⟩))
      clear hV1 hV2 hfv r0 r1 hI
      go_upto_region 6 with fail
      go_cut [6] (fun v wz => v = .bool fv ∧ Below wr.heap.size wr wz)
      case first =>
        have hb : Below wr.heap.size wr wr.drew := (Below.refl _ _).drew
        have z10 := ZZ.out wr.drew hb
        go_region_held3 (fun W => W.cell? ⟨b, f + j, none⟩ = some (.slice A1 n1 c1) ∧ W.cell? ⟨b', f' + j, none⟩ = some (.slice A2 n2 c2)) (with_reducible first | exact z10) (first
          | (go_at_call 20; (with_reducible refine (Cs.out _ hb).mono ?_); rintro e w5 ⟨rfl, hB5⟩; have hb := hb.trans (hB5.mono hb.size); have z10 := ZZ.out _ hb))
        all_goals (
          go_wp2_with fail
          go_meet
          exact ⟨rfl, hb⟩)
      case rest =>
        obtain ⟨rfl, hbc⟩ := hcut
        have Hb5 := Lib.hid (HI.out.2.trans (hbc.mono HI.out.2.size))
        clear hbc ZZ Cs
        by_cases hv : l.getD j [] = k.getD j []
        · obtain rfl : fv = true := by rw [Hfv.out]; exact tr_yes hv
          have I6 := Lib.hid (show (∀ q, q < j + 1 → l.getD q [] = k.getD q []) ∧ Below w.heap.size w wc from ⟨fun q h1 => by
            by_cases z : q = j
            · rw [z]; exact hv
            · exact HI.out.1 q (by omega), Hb5.out⟩)
          clear HI hv
          go_wp2_with fail
          go_roundw
          case rel => exact ⟨j + 1, by go_num, by omega, I6⟩
          case measure => simp [intOf]; omega
        · obtain rfl : fv = false := by rw [Hfv.out]; exact tr_no hv
          have t2 := Lib.hid (Hno.out fun z => hv (by rw [z]))
          clear HI hv
          go_wp2_with fail
          go_ret
          exact ⟨by rw [t2.out]; rfl, Hb5.out⟩
    · have hjI : ¬ (j : Int) < (n : Int) := by omega
      have t2 := Lib.hid (Hyes.out (lists_ext (by rw [← Hl.out, ← Hk.out]) fun q hq => hI.out.1 q (by have := Hl.out; omega)))
      have H4 := Lib.hid hI.out.2
      clear hI
      go_wp2_with fail
      go_ret
      exact ⟨by rw [t2.out]; rfl, H4.out⟩
/-- The rows and the offsets of records. -/
def rws (rs : List Rcd) : List (List Vl) := rs.map fun o => o.row
def ofs (rs : List Rcd) : List Int := rs.map fun o => o.off
def uus (rs : List Rcd) : List Value := rs.map fun o => .slice o.rA o.rn o.rc
theorem uus_next {rs : List Rcd} {k : Nat} (h : k < rs.length) : uus (rs.take (k + 1)) = uus (rs.take k) ++ [.slice (rs.getD k default).rA (rs.getD k default).rn (rs.getD k default).rc] := by
  rw [List.take_succ_eq_append_getElem h, uus, List.map_append]
  have e : rs[k] = rs.getD k default := by simp [List.getD, h]
  rw [e]
  rfl
theorem ofs_next {rs : List Rcd} {k : Nat} (h : k < rs.length) : ofs (rs.take (k + 1)) = ofs (rs.take k) ++ [(rs.getD k default).off] := by
  rw [List.take_succ_eq_append_getElem h, ofs, List.map_append]
  have e : rs[k] = rs.getD k default := by simp [List.getD, h]
  rw [e]
  rfl
def OutP (w : World) (rs : List Rcd) (e : Ending) (w' : World) : Prop :=
  ∃ RA rc QA qc, e = .returned (.tuple #[.slice RA rs.length rc, .slice QA rs.length qc]) ∧ Wd.Ls w' RA rs.length rc (rws rs) ∧ Wd.Sl w' .i64 QA rs.length qc (ofs rs) ∧ Below w.heap.size w w'
theorem hv_uus {w : World} {A : Option Addr} {n c : Nat} {rs : List Rcd} (h : Wd.Rcs w A n c rs) : Wd.Hv w (uus rs) (rws rs) := by
  refine ⟨by simp [uus, rws], fun j hj => ?_⟩
  have hj' : j < rs.length := by simpa [rws] using hj
  obtain ⟨_, _, _, _, _, _, h1⟩ := h.cells hj' rfl
  refine ⟨(rs.getD j default).rA, (rs.getD j default).rn, (rs.getD j default).rc, ?_, ?_⟩
  · simp [uus, List.getD, hj']
  · rw [show (rws rs).getD j [] = (rs.getD j default).row by simp [rws, List.getD, hj']]
    exact h1.b
set_option maxHeartbeats 4000000 in
theorem parted_any (A : Option Addr) (n c : Nat) (rs : List Rcd) (w : World) (hS : Wd.Rcs w A n c rs) (hn : n ≤ 1000000) :
    Calls Tryz.prog 12 #[.slice A n c] w (OutP w rs) := by
  obtain ⟨i0, hi, hz0, hz1, hz2⟩ := info_parts Wd.info_vs
  have I0 := Lib.hid (And.intro hi (And.intro hz0 (And.intro hz1 hz2)))
  obtain ⟨j0, hj, gz0, gz1, gz2⟩ := info_parts Bx.info_i
  have J0 := Lib.hid (And.intro hj (And.intro gz0 (And.intro gz1 gz2)))
  have Hn := Lib.hid hS.len
  have hcap := hS.cap
  have hmax := hS.max
  unfold maxLen at hmax
  have HS := Lib.hid hS
  clear hS hi hz0 hz1 hz2 hj gz0 gz1 gz2
  go_enter Tryz.func12, Tryz.ntmps12
  go_wp2_with fail
  go_loopw [4, 5, 6] (fun u v i wr => ∃ k : Nat, i = .int .i64 k ∧ k ≤ n ∧ Hid (wr.ownsRow w.heap.size 45 1 u k (uus (rs.take k)) ∧ wr.ownsRow w.heap.size 3 1 v k ((ofs (rs.take k)).map (Value.int .i64)) ∧ Below w.heap.size w wr)) (fun _ _ i _ => n - (intOf i).toNat)
  case atStart => exact ⟨0, rfl, Nat.zero_le _, Lib.hid ⟨World.ownsRow_nil _ _ _ _, World.ownsRow_nil _ _ _ _, Below.refl _ _⟩⟩
  case round =>
    obtain ⟨k, rfl, hk, hI⟩ := hrel
    by_cases hlt : k < n
    · have hkI : (k : Int) < (n : Int) := by omega
      have hkl : k < rs.length := by rw [← Hn.out]; exact hlt
      obtain ⟨b, o, hA, hbB, c0, c1, h1⟩ := (HS.out.below hI.out.2.2).cells hkl rfl
      subst hA
      have hu := uus_next hkl
      have ho := ofs_next hkl
      obtain ⟨x, hx⟩ : ∃ x, x = rs.getD k default := ⟨_, rfl⟩
      rw [← hx] at c0 c1 h1 hu ho
      have Hu := Lib.hid hu
      have Hx := Lib.hid hx
      have Ho := Lib.hid ho
      have hzz := hI.out.2.2.size
      have hO1 := hI.out.1.alloc (.cells #[.slice x.rA x.rn x.rc] 45)
      have hP1 := hI.out.2.1.alloc (.cells #[.slice x.rA x.rn x.rc] 45)
      have hnew := (Wd.Bx.new wr 45 #[.slice x.rA x.rn x.rc]).cell 0
      have hb1 := hI.out.2.2.alloc hzz (.cells #[.slice x.rA x.rn x.rc] 45)
      clear hu ho h1 hx hI hkl
      go_upto_region 7 with (at_builtin; refine Wd.wpList_app1v _ rfl (.tmp 13) (.tmp 19) 33 rfl w.heap.size 45 i0 _ 24 Tryz.underlying33 I0.out.1 I0.out.2.1 I0.out.2.2.1 I0.out.2.2.2 rfl u4 k _ rfl hO1 ⟨wr.heap.size, 0, none⟩ (.slice x.rA x.rn x.rc) rfl hnew rfl rfl (by unfold maxLen; omega) (by omega) (by simp; omega) ?_; intro v7 w7 hO7 hg7)
      have hP7 := Wd.own_keep hP1 fun y hy => hg7.block y (Wd.own_lt hP1 hy).1 fun e => by
        obtain ⟨_, _, c5, g5⟩ := Wd.own_lt hP1 hy
        obtain ⟨_, _, c6, g6⟩ := Wd.own_lt hO1 e.symm
        rw [g5] at g6
        simp only [Option.some.injEq, Obj.cells.injEq] at g6
        exact absurd g6.2.1 (by decide)
      have hb7 : Below w.heap.size w w7 := hb1.grown hg7 hb1.size fun g hg => (hO1.lt g hg).1
      have hlb : b < wr.heap.size ∧ wr.heap.size ≤ w7.heap.size := ⟨hbB, by have := hg7.size; simp at this; omega⟩
      have c1' : w7.cell? ⟨b, o + k * 2 + 1, none⟩ = some (.int .i64 x.off) := by
        obtain ⟨_, _, hA2, hbB2, _, c1w, _⟩ := (HS.out.below hb7).cells (j := k) (by rw [← Hn.out]; exact hlt) rfl
        cases hA2
        rw [← Hx.out] at c1w
        exact c1w
      have hnew2 := (Wd.Bx.new w7 3 #[.int .i64 x.off]).cell 0
      have hO8 := hO7.alloc (.cells #[.int .i64 x.off] 3)
      have hP8 := hP7.alloc (.cells #[.int .i64 x.off] 3)
      have hb8 := hb7.alloc hb7.size (.cells #[.int .i64 x.off] 3)
      have hz8 := hb8.size
      clear hO1 hP1 hnew hb1 hg7 c0 c1 hbB
      go_wp2_with (at_builtin; refine Wd.wpList_app1v _ rfl (.tmp 21) (.tmp 27) 25 rfl w.heap.size 3 j0 _ 8 Tryz.underlying25 J0.out.1 J0.out.2.1 J0.out.2.2.1 J0.out.2.2.2 rfl u5 k _ rfl hP8 ⟨w7.heap.size, 0, none⟩ (.int .i64 x.off) rfl hnew2 rfl rfl (by unfold maxLen; omega) (by omega) hz8 ?_; intro v9 w9 hP9 hg9)
      have hO9 := Wd.own_keep hO8 fun y hy => hg9.block y (Wd.own_lt hO8 hy).1 fun e => by
        obtain ⟨_, _, c5, g5⟩ := Wd.own_lt hO8 hy
        obtain ⟨_, _, c6, g6⟩ := Wd.own_lt hP8 e.symm
        rw [g5] at g6
        simp only [Option.some.injEq, Obj.cells.injEq] at g6
        exact absurd g6.2.1 (by decide)
      have I9 := Lib.hid (show w9.ownsRow w.heap.size 45 1 v7 (k + 1) (uus (rs.take (k + 1))) ∧ w9.ownsRow w.heap.size 3 1 v9 (k + 1) ((ofs (rs.take (k + 1))).map (Value.int .i64)) ∧ Below w.heap.size w w9 from
        ⟨by rw [Hu.out]; exact hO9, by rw [Ho.out, List.map_append]; exact hP9, hb8.grown hg9 hb8.size fun g hg => (hP8.lt g hg).1⟩)
      clear hO9 hP9 hg9 hP8 hO8 hO7 hP7 hb7 hb8 hnew2
      go_roundw
      case rel => exact ⟨k + 1, by go_num, by omega, I9⟩
      case measure => simp [intOf]; omega
    · have hkI : ¬ (k : Int) < (n : Int) := by omega
      obtain rfl : k = n := by omega
      have h1 := hI.out.1
      have h2 := hI.out.2.1
      rw [List.take_of_length_le (by rw [← Hn.out]; exact Nat.le_refl _)] at h1 h2
      obtain ⟨A5, c5, rfl, hL⟩ := Wd.Ls.of_own h1 (hv_uus (HS.out.below hI.out.2.2))
      obtain ⟨A6, n6, c6, rfl, hS6⟩ := Wd.Sl.of_own h2
      have hn6 : n6 = k := by have := hS6.len; rw [this, Hn.out]; simp [ofs]
      subst hn6
      have H := Lib.hid (And.intro hL (And.intro hS6 hI.out.2.2))
      have e := Hn.out
      clear hL hS6 h1 h2 hI
      go_wp2_with fail
      go_ret2
      exact ⟨A5, c5, A6, c6, by rw [← e]; rfl, by rw [← e]; exact H.out.1, by rw [← e]; exact H.out.2.1, H.out.2.2⟩
end Se
end Go.Proofs.YtoibpbnebcoafaaGreat
namespace Go.Proofs.YtoibpbnebcoafaaGreat
set_option maxRecDepth 20000
namespace Se
open Va (Vl May ord null)
open Sc (Sch MayS FitS tr tr_yes tr_no tr_iff)
section
variable {s : Sch} {l : List (List Vl)}
/-- The row that stands at place i. -/
def at_ (s : Sch) (l : List (List Vl)) (i : Nat) : Nat := (arr s l).getD i 0
theorem at_lt {i : Nat} (h : i < l.length) : at_ s l i < l.length := arr_lt h
theorem at_take {i : Nat} (h : i < l.length) : (arr s l).take (i + 1) = (arr s l).take i ++ [at_ s l i] := by
  have h' : i < (arr s l).length := by rw [arr_len]; exact h
  rw [List.take_succ_eq_append_getElem h']
  simp [at_, List.getD, List.getElem?_eq_getElem h']
theorem at_new {i : Nat} (h : i < l.length) : at_ s l i ∉ (arr s l).take i := fun hm => by
  have h' : i < (arr s l).length := by rw [arr_len]; exact h
  obtain ⟨j, hj, e⟩ := List.getElem_of_mem hm
  have hj1 : j < i := by simp at hj; omega
  have e1 : (arr s l)[j]'(by omega) = (arr s l)[i] := by
    rw [List.getElem_take] at e
    rw [e]
    simp [at_, List.getD, List.getElem?_eq_getElem h']
  exact List.pairwise_iff_getElem.1 (arr_nd s l) j i (by omega) h' hj1 e1
theorem at_all {q : Nat} (h : q < l.length) : q ∈ (arr s l).take l.length := by
  rw [List.take_of_length_le (by rw [arr_len]; exact Nat.le_refl _)]
  exact (arr_mem s l).2 h
/-- Which rows stood at one of the first i places. -/
def seen (s : Sch) (l : List (List Vl)) (i : Nat) : List Bool := (List.range l.length).map fun j => decide (j ∈ (arr s l).take i)
theorem seen_len (i : Nat) : (seen s l i).length = l.length := by simp [seen]
theorem seen_at {i j : Nat} (h : j < (seen s l i).length) : (seen s l i)[j] = decide (j ∈ (arr s l).take i) := by simp [seen]
theorem seen_get {i j : Nat} (h : j < l.length) : (seen s l i).getD j false = decide (j ∈ (arr s l).take i) := by
  simp [seen, List.getD, List.getElem?_range h]
theorem seen_zero : seen s l 0 = List.replicate l.length false := by
  refine List.ext_getElem (by simp [seen]) fun j h1 h2 => ?_
  simp [seen]
theorem seen_new {i : Nat} (h : i < l.length) : (seen s l i).getD (at_ s l i) false = false := by
  rw [seen_get (at_lt h), decide_eq_false (at_new h)]
theorem seen_next {i : Nat} (h : i < l.length) : (seen s l i).set (at_ s l i) true = seen s l (i + 1) := by
  refine List.ext_getElem (by simp [seen]) fun j h1 h2 => ?_
  have hj : j < l.length := by simpa [seen] using h2
  rw [List.getElem_set, seen_at h2, at_take h]
  by_cases e : at_ s l i = j
  · rw [if_pos e]
    simp [e]
  · rw [if_neg e, seen_at]
    have : ¬ j = at_ s l i := fun z => e z.symm
    simp [this]
/-- The rows in the order in which they are sealed. -/
def srow (s : Sch) (l : List (List Vl)) : List (List Vl) := (arr s l).map fun i => l.getD i []
theorem srow_len : (srow s l).length = l.length := by simp [srow, arr_len]
theorem srow_get {i : Nat} (h : i < l.length) : (srow s l).getD i [] = l.getD (at_ s l i) [] := by
  have h' : i < (arr s l).length := by rw [arr_len]; exact h
  simp [srow, at_, List.getD, List.getElem?_eq_getElem h']
theorem srow_take {i : Nat} (h : i < l.length) : (srow s l).take (i + 1) = (srow s l).take i ++ [l.getD (at_ s l i) []] := by
  have h' : i < (srow s l).length := by rw [srow_len]; exact h
  have := srow_get (s := s) h
  rw [List.getD_eq_getElem?_getD, List.getElem?_eq_getElem h', Option.getD_some] at this
  rw [List.take_succ_eq_append_getElem h', this]
theorem srow_cm {i j : Nat} (hij : i ≤ j) (hj : j < l.length) : cm s ((srow s l).getD i []) ((srow s l).getD j []) ≤ 0 := by
  rw [srow_get (by omega), srow_get hj]
  have hle := Ssm.so_get (wk s l) (arr_so s l) (i := i) (j := j) hij (by rw [arr_len]; exact hj)
  rcases hle with z | ⟨z, _⟩
  · exact Int.le_of_lt z
  · exact Int.le_of_eq z
theorem srow_fit (h : Fit s l) : Fit s (srow s l) := ⟨h.1, fun r hr => by
  obtain ⟨i, hi, rfl⟩ := List.mem_map.1 hr
  exact h.2 _ (get_mem ((arr_mem s l).1 hi))⟩
theorem srow_arr : arr s (srow s l) = List.range l.length := by
  unfold arr
  rw [srow_len]
  refine Ssm.srt_id (wk s _) (List.pairwise_iff_getElem.2 fun i j hi hj hij => ?_)
  simp only [List.length_range] at hi hj
  simp only [List.getElem_range]
  have h := srow_cm (s := s) (l := l) (Nat.le_of_lt hij) hj
  show cm s _ _ < 0 ∨ (cm s _ _ = 0 ∧ i ≤ j)
  omega
/-- The order, where it has as many numbers as there are rows. -/
theorem order_full (h : (order s l).length = l.length) : order s l = arr s l ∧ order s (srow s l) = List.range l.length := by
  by_cases hf : Fit s l
  · exact ⟨order_yes hf, by rw [order_yes (srow_fit hf), srow_arr]⟩
  · rw [order_no hf] at h
    have hl : l = [] := by
      have : l.length = 0 := h.symm
      exact List.eq_nil_of_length_eq_zero this
    subst hl
    rw [order_no hf]
    refine ⟨by simp [arr, Ssm.srt], ?_⟩
    have : srow s ([] : List (List Vl)) = [] := by simp [srow, arr, Ssm.srt]
    rw [this, order_no hf]
    rfl
theorem order_fit (h : (order s l).length = l.length) (h0 : 0 < l.length) : Fit s l := by
  refine Classical.byContradiction fun hf => ?_
  rw [order_no hf] at h
  have : (0 : Nat) = l.length := h
  omega
theorem order_short (h : (order s l).length ≠ l.length) : (order s l) = [] ∧ ¬ Fit s l := by
  have hf : ¬ Fit s l := fun hf => h (by rw [order_yes hf, arr_len])
  exact ⟨order_no hf, hf⟩
/-- Two neighbours of what is sorted, by the sort column's values. -/
theorem srow_ord {i j : Nat} (hij : i ≤ j) (hj : j < l.length) (h0 : 0 ≤ s.sort) : ord (((srow s l).getD i []).getD s.sort.toNat default) (((srow s l).getD j []).getD s.sort.toNat default) ≤ 0 := by
  have h := srow_cm (s := s) hij hj
  unfold cm at h
  rw [if_neg (by omega)] at h
  exact h
/-- The rows put back: those of the first i places, and of place i where it is below q. -/
def back (s : Sch) (l : List (List Vl)) (i q : Nat) : List (List Vl) := (List.range l.length).map fun j => if j ∈ (arr s l).take i ∨ (j = at_ s l i ∧ j < q) then l.getD j [] else []
theorem back_at {i q j : Nat} (h : j < (back s l i q).length) : (back s l i q)[j] = if j ∈ (arr s l).take i ∨ (j = at_ s l i ∧ j < q) then l.getD j [] else [] := by simp [back]
theorem back_len (i q : Nat) : (back s l i q).length = l.length := by simp [back]
theorem back_zero : back s l 0 0 = List.replicate l.length [] := by
  refine List.ext_getElem (by simp [back]) fun j h1 h2 => ?_
  simp [back]
theorem back_turn {i : Nat} (h : i < l.length) : back s l i l.length = back s l (i + 1) 0 := by
  refine List.ext_getElem (by simp [back]) fun j h1 h2 => ?_
  have hj : j < l.length := by simpa [back] using h2
  rw [back_at h1, back_at h2, at_take h]
  congr 1
  simp only [List.mem_append, List.mem_singleton, Nat.not_lt_zero, and_false, or_false, hj, and_true]
theorem back_same {i q : Nat} (h : q ≠ at_ s l i) : back s l i (q + 1) = back s l i q := by
  refine List.ext_getElem (by simp [back]) fun j h1 h2 => ?_
  rw [back_at h1, back_at h2]
  congr 1
  apply propext
  constructor
  · rintro (a | ⟨a, b⟩)
    · exact .inl a
    · exact .inr ⟨a, by omega⟩
  · rintro (a | ⟨a, b⟩)
    · exact .inl a
    · exact .inr ⟨a, by omega⟩
theorem back_next {i q : Nat} (e : q = at_ s l i) : (back s l i q).set q (l.getD q []) = back s l i (q + 1) := by
  refine List.ext_getElem (by simp [back]) fun j h1 h2 => ?_
  rw [List.getElem_set, back_at h2]
  by_cases z : q = j
  · subst z
    rw [if_pos rfl, if_pos (.inr ⟨e, by omega⟩)]
  · rw [if_neg z, back_at]
    congr 1
    apply propext
    constructor
    · rintro (a | ⟨a, b⟩)
      · exact .inl a
      · exact .inr ⟨a, by omega⟩
    · rintro (a | ⟨a, b⟩)
      · exact .inl a
      · exact .inr ⟨a, by omega⟩
theorem back_all : back s l l.length 0 = l := by
  refine List.ext_getElem (by simp [back]) fun j h1 h2 => ?_
  rw [back_at h1, if_pos (.inl (at_all h2))]
  simp [List.getD, h2]
/-- Offsets that rise are told apart. -/
theorem offs_eq {x : Seg} {offs : List Int} (h : Arg s x l offs) {i q : Nat} (hi : i < l.length) (hq : q < l.length) : offs.getD q 0 = (sealed s x l offs).offs.getD i 0 ↔ q = at_ s l i := by
  rw [sealed_offs hi]
  constructor
  · intro e
    obtain ⟨_, _, ho, hr⟩ := h
    obtain ⟨r1, _⟩ := rise_iff.1 hr
    have inj : ∀ a b, a < b → b < l.length → offs.getD a 0 < offs.getD b 0 := fun a b hab hb => by
      have ha' : a < offs.length := by omega
      have hb' : b < offs.length := by omega
      have := List.pairwise_iff_getElem.1 r1 a b ha' hb' hab
      simpa [List.getD, ha', hb'] using this
    have hk := at_lt (s := s) hi
    rcases Nat.lt_trichotomy q (at_ s l i) with z | z | z
    · have := inj _ _ z hk
      unfold at_ at this
      omega
    · exact z
    · have := inj _ _ z hq
      unfold at_ at this
      omega
  · rintro rfl
    rfl
end
end Se
end Go.Proofs.YtoibpbnebcoafaaGreat
