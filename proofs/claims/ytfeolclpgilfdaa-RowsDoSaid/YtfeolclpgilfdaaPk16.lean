/- Package rows: Len, find, Values, Offsets. Package rows: a column's value at a row. A row of values that is filled place by place. Package rows: At. -/
import Derived.Deep.RegionHeld3
import Derived.BigQuiet
import Derived.Deep.QuietTactic
import Derived.Test.YtfeolclpgilfdaaPk15
import Derived.Test.YtfeolclpgilfdaaPk08
import Derived.Test.YtfeolclpgilfdaaPk07
import Derived.Test.YtfeolclpgilfdaaPk10
namespace Go.Proofs.Ytfeolclpgilfdaa
set_option maxRecDepth 20000
open Go.RowKit Go.Maps
namespace Rw
open Va (Vl May null)
open Sc (Sch FitS MayS fits_get tr tr_yes tr_no tr_iff tr_congr)
section
variable {w : World} {r g : Nat} {A : Option Addr} {n c : Nat} {s : Sch} {most vals : Int} {q : Nat} {cd : Nat → Cd} {V : Nat → List Vl} {ov : Value} {offs : List Int}
theorem len_any (hl : Lay w r g A n c s most vals q cd V ov offs) : Calls Try.prog 16 #[Dt.pt r] w fun e w' => e = .returned (.int .i64 (offs.length : Int)) ∧ w' = w := by
  obtain ⟨A8, n8, c8, rfl, hS⟩ := Wd.Sl.of_own hl.own
  have d8 := hl.c.2.2.2.2.2.2.2.2
  obtain rfl := hS.len
  go_enter Try.func16, Try.ntmps16
  go_wp2_with fail
  go_ret
  exact ⟨rfl, rfl⟩
theorem len_nil (w : World) : Calls Try.prog 16 #[.pointer none] w fun e w' => e = .returned (.int .i64 0) ∧ w' = w := by
  go_enter Try.func16, Try.ntmps16
  go_wp2_with fail
  go_ret
  exact ⟨rfl, rfl⟩
theorem find_nil (k : Int) (w : World) : Calls Try.prog 42 #[.pointer none, .int .i64 k] w fun e w' => e = .returned (.agg #[.pointer none, .slice none 0 0]) ∧ Below w.heap.size w w' := by
  go_enter Try.func42, Try.ntmps42
  go_wp2_with fail
  (try simp only [Exit.inBlock, Exit.then])
  refine bodyPost_ret (v := .agg #[.pointer none, .slice none 0 0]) ?_ rfl ⟨rfl, ?_⟩
  · rw [Vc.res_cell1 rfl]; go_simp
  · repeat' (first | with_reducible exact Below.refl _ _ | with_reducible refine Below.setCell ?_ (by simp) _ | with_reducible refine Below.alloc ?_ (by simp) _)
theorem find_out (hl : Lay w r g A n c s most vals q cd V ov offs) (hn : n ≤ 1000) (k : Int) (hk : ¬ (0 ≤ k ∧ k ≤ (n : Int) - 1)) : Calls Try.prog 42 #[Dt.pt r, .int .i64 k] w fun e w' => e = .returned (.agg #[.pointer none, .slice none 0 0]) ∧ Below w.heap.size w w' := by
  have c0 := hl.c.2.2.2.2.2.2.2.1
  have hrl := hl.box.lt
  have Cw := Lib.hid (within_any k 0 ((n : Int) - 1))
  rw [decide_eq_false hk] at Cw
  clear hk hl
  go_enter Try.func42, Try.ntmps42
  go_wp2_with fail
  refine (Cw.out _).mono ?_
  rintro e w1 ⟨rfl, e1⟩
  subst e1
  go_wp2_with fail
  (try simp only [Exit.inBlock, Exit.then])
  refine bodyPost_ret (v := .agg #[.pointer none, .slice none 0 0]) ?_ rfl ⟨rfl, ?_⟩
  · rw [Vc.res_cell1 rfl]; go_simp
  · repeat' (first | with_reducible exact Below.refl _ _ | with_reducible refine Below.setCell ?_ (by simp) _ | with_reducible refine Below.alloc ?_ (by simp) _)
theorem find_in (hl : Lay w r g A n c s most vals q cd V ov offs) (hn : n ≤ 1000) (k : Nat) (hk : k < n) : Calls Try.prog 42 #[Dt.pt r, .int .i64 k] w fun e w' => e = .returned (.agg #[(cd k).dp, (cd k).nv]) ∧ Below w.heap.size w w' := by
  obtain ⟨An, nn, cn, hnv, -⟩ := Wd.Sl.of_own (hl.num k hk)
  have hdp : ∃ o, (cd k).dp = .pointer o := by
    by_cases h : k < q
    · exact ⟨_, (hl.dic k hk h).1⟩
    · exact ⟨none, (hl.no k hk (by omega)).1⟩
  obtain ⟨o, hdp⟩ := hdp
  have c0 := hl.c.2.2.2.2.2.2.2.1
  have c1 := (hl.row.cell (k * 2)).trans (cc_dp cd hk)
  have c2 := (hl.row.cell (k * 2 + 1)).trans (cc_nv cd hk)
  rw [hdp] at c1 ⊢
  rw [hnv] at c2 ⊢
  have hrl := hl.box.lt
  have hgl := hl.row.lt
  have Cw := Lib.hid (within_any k 0 ((n : Int) - 1))
  rw [decide_eq_true (by omega)] at Cw
  have hkI : (k : Int) < (n : Int) := by omega
  clear hnv hdp hl
  go_enter Try.func42, Try.ntmps42
  go_wp2_with fail
  refine (Cw.out _).mono ?_
  rintro e w1 ⟨rfl, e1⟩
  subst e1
  go_wp2_with fail
  (try simp only [Exit.inBlock, Exit.then])
  refine bodyPost_ret (v := .agg #[.pointer o, .slice An nn cn]) ?_ rfl ⟨rfl, ?_⟩
  · rw [Vc.res_cell1 rfl]; go_simp
  · repeat' (first | with_reducible exact Below.refl _ _ | with_reducible refine Below.setCell ?_ (by simp) _ | with_reducible refine Below.alloc ?_ (by simp) _)
end
end Rw
end Go.Proofs.Ytfeolclpgilfdaa
namespace Go.Proofs.Ytfeolclpgilfdaa
set_option maxRecDepth 20000
open Go.RowKit Go.Maps
namespace Rw
open Va (Vl May null)
open Dx (Okv ag)
theorem and3 {w w' : World} {a b : Nat} {o f B : Nat} {x0 x1 x2 : Value} (h : w.cell? ⟨a, o, none⟩ = some x0 ∧ w.cell? ⟨a, o + 1, none⟩ = some x1 ∧ w.cell? ⟨b, f, none⟩ = some x2) (hb : Below B w w') (ha : a < B) (hB : b < B) :
    w'.cell? ⟨a, o, none⟩ = some x0 ∧ w'.cell? ⟨a, o + 1, none⟩ = some x1 ∧ w'.cell? ⟨b, f, none⟩ = some x2 :=
  ⟨(hb.cell (p := ⟨a, o, none⟩) ha).trans h.1, (hb.cell (p := ⟨a, o + 1, none⟩) ha).trans h.2.1, (hb.cell (p := ⟨b, f, none⟩) hB).trans h.2.2⟩
set_option maxHeartbeats 4000000 in
theorem cat_any (gc oc d dm : Nat) (dv : Value) (L : List Vl) (vals : Int) (G : Nat → Prop) (A : Option Addr) (n c : Nat) (ns : List Int) (i : Nat) (x : Vl) (w : World) (hD : Dt.Lay w d dm dv L vals G) (ho : ∀ y ∈ L, Okv y) (hN : Wd.Sl w .i64 A n c ns) (hi : i < n) (hn : n ≤ 5000)
    (h0 : w.cell? ⟨gc, oc, none⟩ = some (Dt.pt d)) (h1 : w.cell? ⟨gc, oc + 1, none⟩ = some (.slice A n c)) (hx : 0 ≤ ns.getD i 0 ∧ ns.getD i 0 < (L.length : Int) ∧ L.getD (ns.getD i 0).toNat default = x) (hgc : gc < w.heap.size) :
    Calls Try.prog 41 #[.pointer (some ⟨gc, oc, none⟩), .int .i64 i] w fun e w' => e = .returned (ag x) ∧ Below w.heap.size w w' := by
  obtain ⟨b, o, rfl, hblt, hc⟩ := hN.rd.some_ (by have := hN.len; omega)
  have h2 := hc i (by have := hN.len; omega)
  obtain ⟨z, hz⟩ : ∃ z, z = ns.getD i 0 := ⟨_, rfl⟩
  rw [← hz] at h2 hx
  have Ca := Lib.hid fun w' (hb' : Below w.heap.size w w') => by
    have := Dt.at_any z (hD.below hb') ho
    rw [if_pos ⟨hx.1, hx.2.1⟩, decide_eq_true ⟨hx.1, hx.2.1⟩, hx.2.2] at this
    unfold ag at this
    exact this
  have hiI : (i : Int) < (n : Int) := by omega
  clear hz hc hN hD ho hx
  go_enter Try.func41, Try.ntmps41
  go_upto_region 1 with fail
  have hbw := (Below.refl w.heap.size w).alloc (Nat.le_refl _) (.cells #[.int .i64 0, .int .i64 0, .string ⟨#[]⟩, .bool false] 49)
  have xr : Vc.Vb (w.alloc (.cells #[.int .i64 0, .int .i64 0, .string ⟨#[]⟩, .bool false] 49)) w.heap.size 0 0 ⟨#[]⟩ false := Wd.Bx.new w _ _
  generalize w.alloc (.cells #[.int .i64 0, .int .i64 0, .string ⟨#[]⟩, .bool false] 49) = wa at *
  have Hbw := Lib.hid hbw
  have Xr := Lib.hid xr
  have zz : wa.cell? ⟨gc, oc, none⟩ = some (Dt.pt d) ∧ wa.cell? ⟨gc, oc + 1, none⟩ = some (.slice (some ⟨b, o, none⟩) n c) ∧ wa.cell? ⟨b, o + i, none⟩ = some (.int .i64 z) := and3 ⟨h0, h1, h2⟩ hbw hgc hblt
  have hga : gc < wa.heap.size := Nat.lt_of_lt_of_le hgc hbw.size
  have hba : b < wa.heap.size := Nat.lt_of_lt_of_le hblt hbw.size
  clear hbw xr h0 h1 h2
  go_cut [5] (fun u wx => ∃ p, u = .pointer (some ⟨p, 0, none⟩) ∧ Hid (Vc.Vb wx p x.kind x.i x.s x.b ∧ Vc.Vb wx w.heap.size 0 0 ⟨#[]⟩ false ∧ p ≠ w.heap.size ∧ Below w.heap.size w wx))
  case first =>
    have hbA : Below wa.heap.size wa wa.drew := (Below.refl _ _).drew
    have hbB : Below wa.heap.size wa (wa.alloc (.cells #[.int .i64 0, .int .i64 0, .string ⟨#[]⟩, .bool false] 49)).drew := ((Below.refl wa.heap.size wa).alloc (Nat.le_refl _) _).drew
    have z10 : wa.drew.cell? ⟨gc, oc, none⟩ = some (Dt.pt d) ∧ wa.drew.cell? ⟨gc, oc + 1, none⟩ = some (.slice (some ⟨b, o, none⟩) n c) ∧ wa.drew.cell? ⟨b, o + i, none⟩ = some (.int .i64 z) := zz
    have z11 := and3 zz hbB hga hba
    have xB : Vc.Vb (wa.alloc (.cells #[.int .i64 0, .int .i64 0, .string ⟨#[]⟩, .bool false] 49)).drew wa.heap.size 0 0 ⟨#[]⟩ false := Wd.Bx.new wa _ _
    have hBlt : wa.heap.size < (wa.alloc (.cells #[.int .i64 0, .int .i64 0, .string ⟨#[]⟩, .bool false] 49)).drew.heap.size := by show _ < (wa.alloc _).heap.size; simp
    go_region_held3 (fun w' => w'.cell? ⟨gc, oc, none⟩ = some (Dt.pt d) ∧ w'.cell? ⟨gc, oc + 1, none⟩ = some (.slice (some ⟨b, o, none⟩) n c) ∧ w'.cell? ⟨b, o + i, none⟩ = some (.int .i64 z)) (with_reducible first | exact z10 | exact z11 | exact z12 | exact z13 | exact z14) (first
      | (go_at_call 54; (with_reducible refine (Ca.out _ (Hbw.out.trans (hbA.mono Hbw.out.size))).mono ?_); rintro e w1 ⟨rfl, hB1⟩; have z12 := and3 z10 hB1 hga hba; have z13 := and3 z12 ((Below.refl w1.heap.size w1).alloc (Nat.le_refl _) (.cells #[.int .i64 0, .int .i64 0, .string ⟨#[]⟩, .bool false] 49)) (Nat.lt_of_lt_of_le hga hB1.size) (Nat.lt_of_lt_of_le hba hB1.size); have z14 := and3 z12 ((Below.refl w1.heap.size w1).alloc (Nat.le_refl _) (.cells #[.int .i64 x.kind, .int .i64 x.i, .string x.s, .bool x.b] 49)) (Nat.lt_of_lt_of_le hga hB1.size) (Nat.lt_of_lt_of_le hba hB1.size))
      | (go_at_call 54; (with_reducible refine (Ca.out _ (Hbw.out.trans (hbB.mono Hbw.out.size))).mono ?_); rintro e w1 ⟨rfl, hB1⟩; have z12 := and3 z11 hB1 (Nat.lt_of_lt_of_le hga hbB.size) (Nat.lt_of_lt_of_le hba hbB.size); have xB1 := Wd.Bx.below xB hBlt hB1; obtain ⟨⟨y0, y1, y2, y3⟩, ⟨f0, f1, f2, f3⟩⟩ := Vc.four xB1; have z13 := and3 z12 ((((((Below.refl wa.heap.size w1).setCell (p := ⟨wa.heap.size, 0, none⟩) (Nat.le_refl _) (.int .i64 x.kind)).setCell (p := ⟨wa.heap.size, 1, none⟩) (Nat.le_refl _) (.int .i64 x.i)).setCell (p := ⟨wa.heap.size, 2, none⟩) (Nat.le_refl _) (.string x.s)).setCell (p := ⟨wa.heap.size, 3, none⟩) (Nat.le_refl _) (.bool x.b)) : Below wa.heap.size w1 ((((w1.setCell ⟨wa.heap.size, 0, none⟩ (.int .i64 x.kind)).setCell ⟨wa.heap.size, 1, none⟩ (.int .i64 x.i)).setCell ⟨wa.heap.size, 2, none⟩ (.string x.s)).setCell ⟨wa.heap.size, 3, none⟩ (.bool x.b))) hga hba))
    all_goals (
      go_wp2_with fail
      go_meet)
    · have hB1 : Below wa.heap.size wa w1 := Wd.of_drew hB1
      have hs := Hbw.out.trans (hB1.mono Hbw.out.size)
      have hl1 := hB1.size
      have hrb := Xr.out.lt
      refine ⟨_, rfl, Lib.hid ⟨Wd.Bx.new w1 _ _, Wd.Bx.alloc (Wd.Bx.below Xr.out Xr.out.lt hB1) _, ?_, hs.alloc hs.size _⟩⟩
      have : w.heap.size < wa.heap.size := hrb
      have h2 : wa.heap.size ≤ w1.heap.size := hl1
      omega
    · have hbb := Hbw.out.trans (hbB.mono Hbw.out.size)
      have hs := hbb.trans (hB1.mono hbb.size)
      have hrb : w.heap.size < wa.heap.size := Xr.out.lt
      have e1 : Vc.Vb ((((w1.setCell ⟨wa.heap.size, 0, none⟩ (.int .i64 x.kind)).setCell ⟨wa.heap.size, 1, none⟩ (.int .i64 x.i)).setCell ⟨wa.heap.size, 2, none⟩ (.string x.s)).setCell ⟨wa.heap.size, 3, none⟩ (.bool x.b)) wa.heap.size x.kind x.i x.s x.b := by
        have := (((Wd.Bx.set xB1 0 (.int .i64 x.kind)).set 1 (.int .i64 x.i)).set 2 (.string x.s)).set 3 (.bool x.b)
        exact this
      have hne : w.heap.size ≠ wa.heap.size := by omega
      have xr1 : Vc.Vb w1 w.heap.size 0 0 ⟨#[]⟩ false := Wd.Bx.below (Wd.Bx.below Xr.out hrb hbB) (Nat.lt_of_lt_of_le hrb hbB.size) hB1
      refine ⟨_, rfl, Lib.hid ⟨e1, (((Wd.Bx.other xr1 (a := ⟨wa.heap.size, 0, none⟩) hne _).other (a := ⟨wa.heap.size, 1, none⟩) hne _).other (a := ⟨wa.heap.size, 2, none⟩) hne _).other (a := ⟨wa.heap.size, 3, none⟩) hne _, fun e => hne e.symm, ?_⟩⟩
      exact (((hs.setCell (p := ⟨wa.heap.size, 0, none⟩) (by simp; omega) _).setCell (p := ⟨wa.heap.size, 1, none⟩) (by simp; omega) _).setCell (p := ⟨wa.heap.size, 2, none⟩) (by simp; omega) _).setCell (p := ⟨wa.heap.size, 3, none⟩) (by simp; omega) _
  case rest =>
    obtain ⟨p, rfl, hI⟩ := hcut
    have xp := hI.out.1
    obtain ⟨⟨y0, y1, y2, y3⟩, -⟩ := Vc.four xp
    obtain ⟨⟨r0, r1, r2, r3⟩, ⟨f0, f1, f2, f3⟩⟩ := Vc.four hI.out.2.1
    clear xp Ca Hbw Xr zz hga hba
    go_wp2_with fail
    (try simp only [Exit.inBlock, Exit.then])
    refine bodyPost_ret (v := .agg #[.int .i64 x.kind, .int .i64 x.i, .string x.s, .bool x.b]) ?_ rfl ⟨rfl, ?_⟩
    · rw [Vc.res_cell1 rfl]; go_simp
    · have hs := hI.out.2.2.2
      exact (((hs.setCell (p := ⟨w.heap.size, 0, none⟩) (Nat.le_refl _) _).setCell (p := ⟨w.heap.size, 1, none⟩) (Nat.le_refl _) _).setCell (p := ⟨w.heap.size, 2, none⟩) (Nat.le_refl _) _).setCell (p := ⟨w.heap.size, 3, none⟩) (Nat.le_refl _) _
end Rw
end Go.Proofs.Ytfeolclpgilfdaa
namespace Go.Proofs.Ytfeolclpgilfdaa
set_option maxRecDepth 20000
open Go.RowKit
namespace Cx
open Va (Vl null)
/-- The first k values, and nothing behind. -/
def fillV (l : List Vl) (k : Nat) : List Vl := l.take k ++ List.replicate (l.length - k) null
theorem fillV_zero (l : List Vl) : fillV l 0 = List.replicate l.length null := by simp [fillV]
theorem fillV_all (l : List Vl) : fillV l l.length = l := by simp [fillV]
theorem fillV_len (l : List Vl) (k : Nat) : (fillV l k).length = l.length := by simp [fillV]; omega
theorem fillV_set (l : List Vl) (k : Nat) (hk : k < l.length) : (fillV l k).set k (l.getD k default) = fillV l (k + 1) := by
  refine List.ext_getElem (by simp [fillV_len]) fun i h1 h2 => ?_
  simp only [fillV_len, List.length_set] at h1 h2
  rw [List.getElem_set]
  simp only [fillV, List.getElem_append, List.length_take, List.getElem_take, List.getElem_replicate]
  by_cases e : k = i
  · subst e
    rw [if_pos rfl, dif_pos (by omega)]
    simp [List.getD, hk]
  · rw [if_neg e]
    by_cases q : i < min k l.length
    · rw [dif_pos q, dif_pos (by omega)]
    · rw [dif_neg q, dif_neg (by omega)]
end Cx
end Go.Proofs.Ytfeolclpgilfdaa
namespace Go.Proofs.Ytfeolclpgilfdaa
set_option maxRecDepth 20000
open Go.RowKit Go.Maps
namespace Rw
open Va (Vl May null)
open Dx (Okv ag)
open Cx (fillV fillV_zero fillV_all fillV_len fillV_set)
theorem var_rowv {w : World} {p gr : Nat} {t : TypeId} {v : Value} {T : List Vl} (h : Wd.Var w p t v) (hR : Wd.RowV w gr T) (hne : t ≠ 49) : p ≠ gr := by
  intro e
  unfold Wd.Var at h
  unfold Wd.RowV Wd.Bx at hR
  rw [e, hR] at h
  simp only [Option.some.injEq, Obj.cells.injEq] at h
  exact hne h.2.1.symm
theorem var_set4 {w : World} {p gr : Nat} {t : TypeId} {v u0 u1 u2 u3 : Value} {o0 o1 o2 o3 : Nat} (h : Wd.Var w p t v) (hne : p ≠ gr) : Wd.Var ((((w.setCell ⟨gr, o0, none⟩ u0).setCell ⟨gr, o1, none⟩ u1).setCell ⟨gr, o2, none⟩ u2).setCell ⟨gr, o3, none⟩ u3) p t v :=
  (((h.other (a := ⟨gr, o0, none⟩) hne).other (a := ⟨gr, o1, none⟩) hne).other (a := ⟨gr, o2, none⟩) hne).other (a := ⟨gr, o3, none⟩) hne
set_option maxHeartbeats 4000000 in
theorem at1_any (k p q gr n g i : Nat) (T : List Vl) (x : Vl) (w : World)
    (Ca : ∀ w', Below w.heap.size w w' → Calls Try.prog 41 #[.pointer (some ⟨g, k * 2, none⟩), .int .i64 i] w' fun e w'' => e = .returned (ag x) ∧ Below w'.heap.size w' w'')
    (hp : Wd.Var w p 3 (.int .i64 i)) (hq : Wd.Var w q 38 (.slice (some ⟨gr, 0, none⟩) n n)) (hR : Wd.RowV w gr T) (hk : k < n) (hT : n = T.length) :
    Calls Try.prog 40 #[.int .i64 k, .pointer (some ⟨g, k * 2, none⟩), .pointer (some ⟨p, 0, none⟩), .pointer (some ⟨q, 0, none⟩)] w fun e w' => e = .returned (.tuple #[]) ∧ Wd.RowV w' gr (T.set k x) ∧ Wd.Mv (· = gr) w w' := by
  have c0 := hp.cell
  have c1 := hq.cell
  have z10 : w.drew.cell? ⟨p, 0, none⟩ = some (.int .i64 i) ∧ w.drew.cell? ⟨q, 0, none⟩ = some (.slice (some ⟨gr, 0, none⟩) n n) := ⟨c0, c1⟩
  have hb : Below w.heap.size w w.drew := (Below.refl _ _).drew
  have hpl := hp.lt
  have hql := hq.lt
  have HR := Lib.hid hR
  have CA := Lib.hid Ca
  unfold ag at CA
  have hkI : (k : Int) < (n : Int) := by omega
  have Hk := Lib.hid (show k < T.length by omega)
  have Hp := Lib.hid hp
  have Hq := Lib.hid hq
  clear Ca hR hT c0 c1 hp hq
  go_enter Try.func40, Try.ntmps40
  go_wp2_with fail
  have sets : ∀ w1 : World, Below w.heap.size w w1 → w1.cell? ⟨p, 0, none⟩ = some (.int .i64 i) ∧ w1.cell? ⟨q, 0, none⟩ = some (.slice (some ⟨gr, 0, none⟩) n n) := fun w1 hB1 => ⟨(hB1.cell (p := ⟨p, 0, none⟩) hpl).trans z10.1, (hB1.cell (p := ⟨q, 0, none⟩) hql).trans z10.2⟩
  have Sets := Lib.hid sets
  clear sets
  go_region_held3 (fun w' => w'.cell? ⟨p, 0, none⟩ = some (.int .i64 i) ∧ w'.cell? ⟨q, 0, none⟩ = some (.slice (some ⟨gr, 0, none⟩) n n)) (with_reducible first | exact z10 | exact z11) (first
    | (go_at_call 41; (with_reducible refine (CA.out _ hb).mono ?_); rintro e w1 ⟨rfl, hB1⟩; have hB1 : Below w.heap.size w w1 := Wd.of_drew hB1; have z10 := Sets.out w1 hB1; have hR1 : Wd.RowV w1 gr T := Wd.RowV.below HR.out HR.out.lt hB1; obtain ⟨y, ⟨y0, y1, y2, y3⟩, f0, f1, f2, f3⟩ := hR1.four Hk.out; have hp1 : Wd.Var w1 p 3 (.int .i64 i) := (hB1.block _ hpl).trans Hp.out; have hq1 : Wd.Var w1 q 38 (.slice (some ⟨gr, 0, none⟩) n n) := (hB1.block _ hql).trans Hq.out; have z11 := And.intro (var_set4 (u0 := .int .i64 x.kind) (u1 := .int .i64 x.i) (u2 := .string x.s) (u3 := .bool x.b) (o0 := k * 4) (o1 := k * 4 + 1) (o2 := k * 4 + 2) (o3 := k * 4 + 3) hp1 (var_rowv hp1 hR1 (by decide))).cell (var_set4 (u0 := .int .i64 x.kind) (u1 := .int .i64 x.i) (u2 := .string x.s) (u3 := .bool x.b) (o0 := k * 4) (o1 := k * 4 + 1) (o2 := k * 4 + 2) (o3 := k * 4 + 3) hq1 (var_rowv hq1 hR1 (by decide))).cell))
  all_goals (
    have Pk := Lib.hid (And.intro hR1 hB1)
    clear hR1 hB1 y0 y1 y2 y3 f0 f1 f2 f3 z10 z11 hp1 hq1 CA Sets
    go_wp2_with fail
    go_end0)
  refine ⟨rfl, Pk.out.1.set k Hk.out x, ?_⟩
  exact ((((Wd.Mv.of_below (G := (· = gr)) Pk.out.2).set (a := ⟨gr, k * 4, none⟩) rfl _).set (a := ⟨gr, k * 4 + 1, none⟩) rfl _).set (a := ⟨gr, k * 4 + 2, none⟩) rfl _).set (a := ⟨gr, k * 4 + 3, none⟩) rfl _
theorem colAt_any {w : World} {r g : Nat} {A : Option Addr} {n c : Nat} {S : St} {cd : Nat → Cd} {ov : Value} (hl : Lay w r g A n c S.s S.most S.vals n cd (col S.rows) ov S.offs) (ok : Ok S) (hn : n = S.s.cols.length) {k i : Nat} (hk : k < n) (hi : i < S.rows.length) (gc oc : Nat)
    (h0 : w.cell? ⟨gc, oc, none⟩ = some (cd k).dp) (h1 : w.cell? ⟨gc, oc + 1, none⟩ = some (cd k).nv) (hgc : gc < w.heap.size) :
    Calls Try.prog 41 #[.pointer (some ⟨gc, oc, none⟩), .int .i64 i] w fun e w' => e = .returned (ag ((col S.rows k).getD i default)) ∧ Below w.heap.size w w' := by
  obtain ⟨edp, hD⟩ := hl.dic k hk hk
  obtain ⟨An, nn, cn, hnv, hN⟩ := Wd.Sl.of_own (hl.num k hk)
  have hks : k < S.s.cols.length := by omega
  have hnl := hN.len
  rw [nm_len, col_len] at hnl
  have hfew := ok.few
  have hm1 := ok.m1
  rw [edp] at h0
  rw [hnv] at h1
  have hg := nm_get (l := col S.rows k) (i := i) (by rw [col_len]; exact hi)
  exact cat_any gc oc _ _ _ _ _ _ An nn cn _ i _ w hD (fun y hy => okv (ow_ok ok hks y hy)) hN (by omega) (by omega) h0 h1 ⟨hg.1, hg.2.1, hg.2.2⟩ hgc
set_option maxHeartbeats 4000000 in
theorem at_in {w : World} {r : Nat} {S : St} {F : Nat → Prop} (h : R w r S F) (ok : Ok S) (i : Nat) (hi : i < S.rows.length) :
    Calls Try.prog 17 #[Dt.pt r, .int .i64 i] w fun e w' => ∃ gr, e = .returned (.tuple #[.slice (some ⟨gr, 0, none⟩) S.s.cols.length S.s.cols.length, .int .i64 (S.offs.getD i 0), .bool true]) ∧ Wd.RowV w' gr (S.rows.getD i []) ∧ w.heap.size ≤ gr ∧ Below w.heap.size w w' := by
  obtain ⟨g, A, n, c, cd, ov, hn, hl, -⟩ := h
  obtain ⟨T, hT⟩ : ∃ T, T = S.rows.getD i [] := ⟨_, rfl⟩
  have hTm : T ∈ S.rows := by
    rw [hT, List.getD_eq_getElem?_getD, List.getElem?_eq_getElem hi]
    exact List.getElem_mem hi
  have hTl : n = T.length := by rw [row_len ok hTm, hn]
  have hn8 : n ≤ 8 := by have := (cols_len ok).2; omega
  obtain ⟨N, hN⟩ : ∃ N, N = S.s.cols.length := ⟨_, rfl⟩
  rw [← hN, ← hT]
  have hNn : N = n := by omega
  rw [hNn]
  clear hNn hN
  obtain ⟨A8, n8, c8, hov, hS8⟩ := Wd.Sl.of_own hl.own
  obtain ⟨z, hz⟩ : ∃ z, z = S.offs.getD i 0 := ⟨_, rfl⟩
  rw [← hz]
  have hlen := ok.len
  have hfew := ok.few
  have hm1 := ok.m1
  have hl8 := hS8.len
  have hi8 : i < n8 := by omega
  have hn84 : n8 ≤ 4096 := by omega
  obtain ⟨b8, o8, hA8, hb8, hc8⟩ := hS8.rd.some_ (by omega)
  have hcell := hc8 i (by omega)
  rw [← hz] at hcell
  subst hA8
  obtain ⟨j0, hj, gz0, gz1, gz2⟩ := info_parts Wd.info_vl
  have Cl := Lib.hid fun w' (hb : Below w.heap.size w w') => len_any (hl.below hb)
  rw [← hl8] at Cl
  have Cw := Lib.hid (within_any i 0 ((n8 : Int) - 1))
  rw [decide_eq_true (by omega)] at Cw
  have Cc := Lib.hid fun (k : Nat) (hk : k < n) w' (hb : Below w.heap.size w w') => by
    have := colAt_any (hl.below hb) ok hn hk hi g (k * 2) (((hl.below hb).row.cell (k * 2)).trans (cc_dp cd hk)) (((hl.below hb).row.cell (k * 2 + 1)).trans (cc_nv cd hk)) (hl.below hb).row.lt
    rw [col_get hi, ← hT] at this
    exact this
  have HL := Lib.hid hl
  have Hov := Lib.hid hov
  have hb0 := (Below.refl w.heap.size w).alloc (Nat.le_refl _) (.cells #[.int .i64 i] 3)
  have hp := Wd.Var.new w 3 (.int .i64 i)
  have Hb0 := Lib.hid hb0
  have Hp := Lib.hid hp
  have Hc8 := Lib.hid hcell
  have HTl := Lib.hid hTl
  clear hT hTm hl hov hS8 hz hlen hfew hm1 hl8 hc8 hcell hb0 hn hTl
  have c0 := Hp.out.cell
  go_enter Try.func17, Try.ntmps17
  go_wp2_with fail
  generalize w.alloc (.cells #[.int .i64 i] 3) = wa at *
  go_quiet (first | (go_at_call 16; exact Calls.quiet_of_same (Cl.out _ (Wd.below_drewN Hb0.out _))) | (go_at_call 26; exact Calls.quiet_of_same (Cw.out _)))
  have hb1 : Below w.heap.size w (wa.drewN nq) := Wd.below_drewN Hb0.out nq
  have hp1 : Wd.Var (wa.drewN nq) w.heap.size 3 (.int .i64 i) := Hp.out
  generalize wa.drewN nq = w1 at *
  have d7 := (HL.out.below hb1).c.2.2.2.2.2.2.2.1
  have Hb1 := Lib.hid hb1
  have Hp1 := Lib.hid hp1
  clear c0 hb1 hp1 Hb0 Hp
  go_wp2_with (at_make; refine wpList_make_full _ rfl (.tmp 18) (.tmp 18) 38 rfl w1.heap.size 49 j0 _ 4 Try.underlying38 hj gz0 gz1 .i64 .i64 (n : Int) (n : Int) n rfl rfl rfl rfl (by rw [gz2]; omega) (by unfold maxLen; omega) (Nat.le_refl _) ?_; intro w3 hown hgrow; rw [Wd.made_null] at hown)
  obtain ⟨hR0, -, -⟩ := Wd.RowV.of_own hown
  have hB3 : Below w1.heap.size w1 w3 := (Below.refl _ _).grown hgrow (Nat.le_refl _) (by simp)
  have hb3 := Hb1.out.trans (hB3.mono Hb1.out.size)
  have hp3 : Wd.Var w3 w.heap.size 3 (.int .i64 i) := (hB3.block _ Hp1.out.lt).trans Hp1.out
  have hR1 : Wd.RowV w3 w1.heap.size (fillV T 0) := by rw [fillV_zero, ← HTl.out]; exact hR0
  have hs1 := Hp1.out.lt
  have hs3 := hB3.size
  have hz4 : (w3.alloc (.cells #[.slice (some ⟨w1.heap.size, 0, none⟩) n n] 38)).heap.size = w3.heap.size + 1 := by simp
  have bA : Below w3.heap.size w3 (w3.alloc (.cells #[.slice (some ⟨w1.heap.size, 0, none⟩) n n] 38)) := (Below.refl _ _).alloc (Nat.le_refl _) _
  have hE := each_any 40 #[.pointer (some ⟨w.heap.size, 0, none⟩), .pointer (some ⟨w3.heap.size, 0, none⟩)] r g n
    (fun k wk => Below w.heap.size w wk ∧ Wd.Var wk w.heap.size 3 (.int .i64 i) ∧ Wd.Var wk w3.heap.size 38 (.slice (some ⟨w1.heap.size, 0, none⟩) n n) ∧ Wd.RowV wk w1.heap.size (fillV T k)) (w3.alloc (.cells #[.slice (some ⟨w1.heap.size, 0, none⟩) n n] 38)) (by omega) goes_at
    (fun k wk hI => (HL.out.below hI.1).c.2.2.2.2.2.2.2.1)
    (fun k wk hk hI => by
      obtain ⟨hbk, hpk, hqk, hRk⟩ := hI
      refine (at1_any k w.heap.size w3.heap.size w1.heap.size n g i (fillV T k) (T.getD k default) wk (fun w' hb' => Cc.out k hk w' (hbk.trans (hb'.mono hbk.size))) hpk hqk hRk hk (by rw [fillV_len, HTl.out])).mono ?_
      rintro e w' ⟨rfl, hR', mv⟩
      refine ⟨rfl, hbk.trans (mv.below (fun y hy => by omega) hbk.size), mv_var mv hpk (fun e => by omega), mv_var mv hqk (fun e => by have := var_rowv hqk hRk (by decide); omega), ?_⟩
      rw [← fillV_set T k (by rw [← HTl.out]; exact hk)]
      exact hR')
    ⟨hb3.alloc hb3.size _, hp3.alloc _, Wd.Var.new w3 _ _, Wd.RowV.below hR1 hR1.lt bA⟩
  have CE := Lib.hid hE
  have Hs1 := Lib.hid (show w.heap.size ≤ w1.heap.size by omega)
  clear hE hown hgrow hR0 hB3 hb3 hp3 hR1 hs1 hs3 hz4 bA d7
  refine CE.out.mono ?_
  rintro e w5 ⟨rfl, hb5, hp5, hq5, hR5⟩
  have c0 := hp5.cell
  have c1 := hq5.cell
  have d8 := (HL.out.below hb5).c.2.2.2.2.2.2.2.2
  rw [Hov.out] at d8
  have d9 : w5.cell? ⟨b8, o8 + i, none⟩ = some (.int .i64 z) := (hb5.cell (p := ⟨b8, o8 + i, none⟩) hb8).trans Hc8.out
  have hiI : (i : Int) < (n8 : Int) := by omega
  rw [HTl.out, fillV_all] at hR5
  have HR5 := Lib.hid (And.intro hR5 hb5)
  clear hp5 hq5 hR5 hb5 CE
  go_wp2_with fail
  go_quiet (fail)
  go_wp2_with fail
  go_ret3
  exact ⟨_, rfl, HR5.out.1, Hs1.out, Wd.below_drewN HR5.out.2 _⟩
end Rw
end Go.Proofs.Ytfeolclpgilfdaa
