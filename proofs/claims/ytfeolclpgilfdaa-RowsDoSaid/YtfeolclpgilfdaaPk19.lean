/- Package rows: New. The schema of chapter 7's example may be, one row fits it, and the function that makes it (winnowerlaw07.Small). Rows as the statements of layer 11 keep them; the example of chapter 11 holds: the function awake answers true. -/
import Derived.Test.YtfeolclpgilfdaaPk18
import Derived.Test.YtfeolclpgilfdaaPk11
import Derived.Test.YtfeolclpgilfdaaPk04
import Derived.Test.YtfeolclpgilfdaaPk17
import Derived.Test.YtfeolclpgilfdaaPk06
namespace Go.Proofs.Ytfeolclpgilfdaa
set_option maxRecDepth 20000
open Go.RowKit Go.Maps
namespace Rw
open Va (Vl May null)
open Sc (Sch FitS MayS fits_get tr tr_yes tr_no tr_iff tr_congr)
theorem info_col2 : (Try.prog.info? 69).map (fun i => (i.zero, i.size, i.bytes)) = some (some (.agg #[.pointer none, .slice none 0 0]), 2, 32) := by kernel_rfl
theorem new_loop {w w1 : World} {r g : Nat} {A : Option Addr} {n c : Nat} {s : Sch} {most vals : Int} (hn : n ≤ 8) (hl : Lay w1 r g A n c s most vals 0 (fun _ => cd0) (fun _ => []) (.slice none 0 0) []) (p : Nat) (hb : Below w.heap.size w w1) (hp : Wd.Var w1 p 3 (.int .i64 vals)) (hw : w.heap.size ≤ p) (hr : p < r) (hg : p < g) :
    Calls Try.prog 28 #[Dt.pt r, .func (.func 29) #[] #[.pointer (some ⟨p, 0, none⟩)]] w1 fun e w' => e = .returned (.tuple #[]) ∧ Below w.heap.size w w' ∧ ∃ cd, Lay w' r g A n c s most vals n cd (fun _ => []) (.slice none 0 0) [] ∧ ∀ y, Foot r g n cd (.slice none 0 0) y → w.heap.size ≤ y := by
  refine (each_any 29 #[.pointer (some ⟨p, 0, none⟩)] r g n
    (fun k wk => Below w.heap.size w wk ∧ Wd.Var wk p 3 (.int .i64 vals) ∧ ∃ cd, Lay wk r g A n c s most vals k cd (fun _ => []) (.slice none 0 0) [] ∧ (∀ j, k ≤ j → cd j = cd0) ∧ ∀ y, Foot r g n cd (.slice none 0 0) y → p < y) w1 (by omega) goes_new
    (fun k wk hI => ?_) (fun k wk hk hI => ?_) ⟨hb, hp, _, hl, fun j _ => rfl, fun y hy => ?_⟩).mono ?_
  · obtain ⟨_, _, cd, hL, _⟩ := hI
    exact hL.c.2.2.2.2.2.2.2.1
  · obtain ⟨hb, hv, cd, hL, hc, hF⟩ := hI
    refine (new1_any hL hk (hc k (Nat.le_refl _)) p hv.cell).mono ?_
    rintro e w2 ⟨rfl, mv, e', hL2, hF2⟩
    refine ⟨rfl, hb.trans (mv.below (fun y hy => by omega) hb.size), mv_var mv hv (fun q => by omega), _, hL2, fun j hj => ?_, fun y hy => ?_⟩
    · rw [upd_other _ _ (by omega)]
      exact hc j (by omega)
    · rcases hF2 y hy with q | q
      · exact hF y q
      · have := hv.lt
        omega
  · rcases hy with q | q | q | ⟨k, _, q⟩
    · omega
    · omega
    · simp [Value.ownBlock] at q
    · exact (cd0_ft y q).elim
  · rintro e w2 ⟨rfl, hb2, _, cd, hL, _, hF⟩
    exact ⟨rfl, hb2, cd, hL, fun y hy => by have := hF y hy; omega⟩
/-- May it be opened? -/
def MayN (s : Sch) (most vals : Int) : Prop := MayS s ∧ (1 ≤ most ∧ most ≤ 4096) ∧ (1 ≤ vals ∧ vals ≤ 4096)
set_option maxHeartbeats 4000000 in
theorem new_any {w : World} {A : Option Addr} {n c : Nat} {s : Sch} (most vals : Int) (hS : Wd.Cs w A n c s.cols) (hn : n ≤ 1000000) :
    Calls Try.prog 11 #[.agg #[.slice A n c, .int .i64 s.key, .int .i64 s.cmp, .int .i64 s.del, .int .i64 s.sort], .int .i64 most, .int .i64 vals] w fun e w' => Below w.heap.size w w' ∧ ((¬ MayN s most vals ∧ e = .returned (.tuple #[.pointer none, .int .i64 1])) ∨
      (MayN s most vals ∧ ∃ r F, e = .returned (.tuple #[Dt.pt r, .int .i64 0]) ∧ R w' r ⟨s, most, vals, [], []⟩ F ∧ ∀ x, F x → w.heap.size ≤ x)) := by
  have b1 := (Below.refl w.heap.size w).alloc (Nat.le_refl _) (.cells #[.slice A n c, .int .i64 s.key, .int .i64 s.cmp, .int .i64 s.del, .int .i64 s.sort] 24)
  have hb := b1.alloc b1.size (.cells #[.int .i64 vals] 3)
  have s0 : Sx.Sb ((w.alloc (.cells #[.slice A n c, .int .i64 s.key, .int .i64 s.cmp, .int .i64 s.del, .int .i64 s.sort] 24)).alloc (.cells #[.int .i64 vals] 3)) w.heap.size A n c s.key s.cmp s.del s.sort := (Wd.Bx.new w _ _).alloc _
  have v0 : Wd.Var ((w.alloc (.cells #[.slice A n c, .int .i64 s.key, .int .i64 s.cmp, .int .i64 s.del, .int .i64 s.sort] 24)).alloc (.cells #[.int .i64 vals] 3)) (w.heap.size + 1) 3 (.int .i64 vals) := by
    have := Wd.Var.new (w.alloc (.cells #[.slice A n c, .int .i64 s.key, .int .i64 s.cmp, .int .i64 s.del, .int .i64 s.sort] 24)) 3 (.int .i64 vals)
    rw [World.size_alloc] at this
    exact this
  have Cm := Lib.hid (Sx.May_any A n c s _ (hS.below hb) hn)
  have Cw1 := Lib.hid (within_any most 1 4096)
  have Cw2 := Lib.hid (within_any vals 1 4096)
  have HS := Lib.hid hS
  have Hb := Lib.hid hb
  have Hs := Lib.hid s0
  have Hv := Lib.hid v0
  clear hS hb b1 v0
  obtain ⟨p0, p1, p2, p3, p4⟩ := Sx.five s0
  by_cases hM : MayS s
  case neg =>
    rw [tr_no hM] at Cm
    have Hno := Lib.hid (show ¬ MayN s most vals from fun q => hM q.1)
    clear hM s0
    go_enter Try.func11, Try.ntmps11
    go_wp2_with fail
    refine Cm.out.mono ?_
    rintro e w1 ⟨rfl, hB1⟩
    go_wp2_with fail
    go_ret2
    exact ⟨Hb.out.trans (hB1.mono Hb.out.size), .inl ⟨Hno.out, rfl⟩⟩
  rw [tr_yes hM] at Cm
  have HM := Lib.hid hM
  clear hM
  by_cases h1 : 1 ≤ most ∧ most ≤ 4096
  case neg =>
    rw [decide_eq_false h1] at Cw1
    have Hno := Lib.hid (show ¬ MayN s most vals from fun q => h1 q.2.1)
    clear h1 s0
    go_enter Try.func11, Try.ntmps11
    go_wp2_with fail
    refine Cm.out.mono ?_
    rintro e w1 ⟨rfl, hB1⟩
    go_wp2_with fail
    refine (Cw1.out w1).mono ?_
    rintro e w2 ⟨rfl, e2⟩
    subst e2
    go_wp2_with fail
    go_ret2
    exact ⟨Hb.out.trans (hB1.mono Hb.out.size), .inl ⟨Hno.out, rfl⟩⟩
  rw [decide_eq_true h1] at Cw1
  have H1 := Lib.hid h1
  clear h1
  by_cases h2 : 1 ≤ vals ∧ vals ≤ 4096
  case neg =>
    rw [decide_eq_false h2] at Cw2
    have Hno := Lib.hid (show ¬ MayN s most vals from fun q => h2 q.2.2)
    clear h2 s0
    go_enter Try.func11, Try.ntmps11
    go_wp2_with fail
    refine Cm.out.mono ?_
    rintro e w1 ⟨rfl, hB1⟩
    go_wp2_with fail
    refine (Cw1.out w1).mono ?_
    rintro e w2 ⟨rfl, e2⟩
    subst e2
    have v2 : Wd.Var w2 (w.heap.size + 1) 3 (.int .i64 vals) := (hB1.block _ (by simp)).trans Hv.out
    have v3 := v2.cell
    clear v2
    go_wp2_with fail
    refine (Cw2.out w2).mono ?_
    rintro e w3 ⟨rfl, e3⟩
    subst e3
    go_wp2_with fail
    go_ret2
    exact ⟨Hb.out.trans (hB1.mono Hb.out.size), .inl ⟨Hno.out, rfl⟩⟩
  rw [decide_eq_true h2] at Cw2
  have H2 := Lib.hid h2
  clear h2
  have hm8 := ((Sc.mayS_iff s).1 HM.out).1
  obtain ⟨i0, hi, hz0, hz1, hz2⟩ := info_parts info_col2
  have Hm8 := Lib.hid (And.intro hm8.1 hm8.2.1)
  have Hn := Lib.hid HS.out.len
  clear hm8 s0
  go_enter Try.func11, Try.ntmps11
  go_wp2_with fail
  refine Cm.out.mono ?_
  rintro e w1 ⟨rfl, hB1⟩
  go_wp2_with fail
  refine (Cw1.out w1).mono ?_
  rintro e w2 ⟨rfl, e2⟩
  subst e2
  have v2 : Wd.Var w2 (w.heap.size + 1) 3 (.int .i64 vals) := (hB1.block _ (by simp)).trans Hv.out
  have v3 := v2.cell
  have s2 := Hs.out.below (Wd.Bx.lt Hs.out) (hB1.mono (Nat.le_refl _))
  have Hv2 := Lib.hid v2
  have Hs2 := Lib.hid s2
  clear v2 p0 p1 p2 p3 p4
  go_wp2_with fail
  refine (Cw2.out w2).mono ?_
  rintro e w3 ⟨rfl, e3⟩
  subst e3
  obtain ⟨p0, p1, p2, p3, p4⟩ := Sx.five s2
  clear s2
  go_wp2_with fail
  have hb3 := Hb.out.trans (hB1.mono Hb.out.size)
  refine (cloneC_any A n c s.cols _ (HS.out.below hb3) (by have := Hm8.out.2; omega) (by have := Hm8.out.1; omega)).mono ?_
  rintro e w4 ⟨v, rfl, hown, hB4⟩
  obtain ⟨A4, n4, c4, rfl, hC4⟩ := Wd.Cs.of_own hown (fun j hj => by obtain ⟨_, _, _, _, _, h⟩ := HS.out.at_ j hj; exact h)
  obtain rfl : n4 = n := by rw [hC4.len, Hn.out]
  have hs4 := Hs2.out.below (Wd.Bx.lt Hs2.out) hB4
  have hv4 : Wd.Var w4 (w.heap.size + 1) 3 (.int .i64 vals) := (hB4.block _ Hv2.out.lt).trans Hv2.out
  have hb4 := hb3.trans (hB4.mono hb3.size)
  have hA4 : ∀ b o, A4 = some ⟨b, o, none⟩ → w.heap.size + 2 ≤ b := fun b o e => by
    have h5 := (Wd.own_lt hown (x := b) (by rw [e]; rfl)).2.1
    have h6 := Hv2.out.lt
    omega
  clear p0 p1 p2 p3 p4
  obtain ⟨p0, p1, p2, p3, p4⟩ := Sx.five hs4
  have f0 := Wd.Bx.free hs4 0
  have Pk := Lib.hid (And.intro hC4 (And.intro hs4 (And.intro hv4 (And.intro hb4 (And.intro hA4 (Wd.Bx.lt hs4))))))
  clear hC4 hs4 hv4 hb4 hA4 hown hb3 hB4 hB1 v3
  go_wp2_with fail
  clear p0 p1 p2 p3 p4 f0
  obtain ⟨w5, hw5⟩ : ∃ w5, w5 = w4.setCell ⟨w.heap.size, 0, none⟩ (.slice A4 n4 c4) := ⟨_, rfl⟩
  rw [← hw5]
  obtain ⟨hC4, hs4, hv4, hb4, hA4, hlt4⟩ := Pk.out
  have hs5 : Sx.Sb w5 w.heap.size A4 n4 c4 s.key s.cmp s.del s.sort := by rw [hw5]; exact hs4.set 0 (.slice A4 n4 c4)
  have hv5 : Wd.Var w5 (w.heap.size + 1) 3 (.int .i64 vals) := by rw [hw5]; exact hv4.other (by simp)
  have hb5 : Below w.heap.size w w5 := by rw [hw5]; exact hb4.setCell (Nat.le_refl _) _
  have hC5 : Wd.Cs w5 A4 n4 c4 s.cols := cs_keep hC4 (by rw [hw5]; simp [World.setCell]) fun b o e => by
    rw [hw5]
    exact Below.heap_setCell _ _ _ _ (by have := hA4 b o e; simp; omega)
  obtain ⟨p0, p1, p2, p3, p4⟩ := Sx.five hs5
  have p5 := hv5.cell
  have hn8 : n4 ≤ 8 := by have := Hm8.out.2; have := Hn.out; omega
  have Pk5 := Lib.hid (And.intro hC5 (And.intro hv5 (And.intro hb5 hA4)))
  clear hC4 hs4 hv4 hb4 hA4 hlt4 hs5 hv5 hb5 hC5 hw5 Pk
  obtain ⟨zc, hzc⟩ : ∃ zc : Array Value, zc = (cc (fun _ => cd0) n4).toArray := ⟨_, rfl⟩
  have hmk : ∀ X : World, (Instr.makeSlice 61 (.int .i64 (n4 : Int)) (.int .i64 (n4 : Int))).run Try.prog X = .ok (.slice (some ⟨X.heap.size, 0, none⟩) n4 n4) (X.alloc (.cells zc 69)) := fun X => by
    have := run_make (P := Try.prog) X 61 69 i0 _ Try.underlying61 hi hz0 .i64 .i64 (n4 : Int) (n4 : Int) (by omega) (by omega) (by rw [hz2]; omega) (by omega)
    rw [this, hzc, hz1, Int.toNat_natCast, ← made_col]
  have Hzc := Lib.hid hzc
  clear hzc
  have z10 : w5.drew.cell? ⟨w.heap.size, 0, none⟩ = some (.slice A4 n4 c4) ∧ w5.drew.cell? ⟨w.heap.size, 1, none⟩ = some (.int .i64 s.key) ∧ w5.drew.cell? ⟨w.heap.size, 2, none⟩ = some (.int .i64 s.cmp) ∧ w5.drew.cell? ⟨w.heap.size, 3, none⟩ = some (.int .i64 s.del) ∧ w5.drew.cell? ⟨w.heap.size, 4, none⟩ = some (.int .i64 s.sort) ∧ w5.drew.cell? ⟨w.heap.size + 1, 0, none⟩ = some (.int .i64 vals) := ⟨p0, p1, p2, p3, p4, p5⟩
  have hl5 : w.heap.size + 1 < w5.heap.size := Pk5.out.2.1.lt
  have bz : Below w5.heap.size w5.drew (w5.drew.alloc (.cells zc 69)) := (Below.refl w5.heap.size w5.drew).alloc (Nat.le_refl _) _
  have z11 : (w5.alloc (.cells zc 69)).drew.cell? ⟨w.heap.size, 0, none⟩ = some (.slice A4 n4 c4) ∧ (w5.alloc (.cells zc 69)).drew.cell? ⟨w.heap.size, 1, none⟩ = some (.int .i64 s.key) ∧ (w5.alloc (.cells zc 69)).drew.cell? ⟨w.heap.size, 2, none⟩ = some (.int .i64 s.cmp) ∧ (w5.alloc (.cells zc 69)).drew.cell? ⟨w.heap.size, 3, none⟩ = some (.int .i64 s.del) ∧ (w5.alloc (.cells zc 69)).drew.cell? ⟨w.heap.size, 4, none⟩ = some (.int .i64 s.sort) ∧ (w5.alloc (.cells zc 69)).drew.cell? ⟨w.heap.size + 1, 0, none⟩ = some (.int .i64 vals) := ⟨(bz.cell (p := ⟨w.heap.size, 0, none⟩) (by simp; omega)).trans p0, (bz.cell (p := ⟨w.heap.size, 1, none⟩) (by simp; omega)).trans p1, (bz.cell (p := ⟨w.heap.size, 2, none⟩) (by simp; omega)).trans p2, (bz.cell (p := ⟨w.heap.size, 3, none⟩) (by simp; omega)).trans p3, (bz.cell (p := ⟨w.heap.size, 4, none⟩) (by simp; omega)).trans p4, (bz.cell (p := ⟨w.heap.size + 1, 0, none⟩) (by simp; omega)).trans p5⟩
  have by_ : Below w5.heap.size w5.drew ((w5.alloc (.cells zc 69)).alloc (.cells #[.slice A4 n4 c4, .int .i64 s.key, .int .i64 s.cmp, .int .i64 s.del, .int .i64 s.sort, .int .i64 most, .int .i64 vals, .slice (some ⟨w5.heap.size, 0, none⟩) n4 n4, .slice none 0 0] 63)).drew := ((bz.alloc bz.size (.cells #[.slice A4 n4 c4, .int .i64 s.key, .int .i64 s.cmp, .int .i64 s.del, .int .i64 s.sort, .int .i64 most, .int .i64 vals, .slice (some ⟨w5.heap.size, 0, none⟩) n4 n4, .slice none 0 0] 63)) : Below w5.heap.size w5.drew ((w5.drew.alloc (.cells zc 69)).alloc (.cells #[.slice A4 n4 c4, .int .i64 s.key, .int .i64 s.cmp, .int .i64 s.del, .int .i64 s.sort, .int .i64 most, .int .i64 vals, .slice (some ⟨w5.heap.size, 0, none⟩) n4 n4, .slice none 0 0] 63)))
  have z12 : ((w5.alloc (.cells zc 69)).alloc (.cells #[.slice A4 n4 c4, .int .i64 s.key, .int .i64 s.cmp, .int .i64 s.del, .int .i64 s.sort, .int .i64 most, .int .i64 vals, .slice (some ⟨w5.heap.size, 0, none⟩) n4 n4, .slice none 0 0] 63)).drew.cell? ⟨w.heap.size, 0, none⟩ = some (.slice A4 n4 c4) ∧ ((w5.alloc (.cells zc 69)).alloc (.cells #[.slice A4 n4 c4, .int .i64 s.key, .int .i64 s.cmp, .int .i64 s.del, .int .i64 s.sort, .int .i64 most, .int .i64 vals, .slice (some ⟨w5.heap.size, 0, none⟩) n4 n4, .slice none 0 0] 63)).drew.cell? ⟨w.heap.size, 1, none⟩ = some (.int .i64 s.key) ∧ ((w5.alloc (.cells zc 69)).alloc (.cells #[.slice A4 n4 c4, .int .i64 s.key, .int .i64 s.cmp, .int .i64 s.del, .int .i64 s.sort, .int .i64 most, .int .i64 vals, .slice (some ⟨w5.heap.size, 0, none⟩) n4 n4, .slice none 0 0] 63)).drew.cell? ⟨w.heap.size, 2, none⟩ = some (.int .i64 s.cmp) ∧ ((w5.alloc (.cells zc 69)).alloc (.cells #[.slice A4 n4 c4, .int .i64 s.key, .int .i64 s.cmp, .int .i64 s.del, .int .i64 s.sort, .int .i64 most, .int .i64 vals, .slice (some ⟨w5.heap.size, 0, none⟩) n4 n4, .slice none 0 0] 63)).drew.cell? ⟨w.heap.size, 3, none⟩ = some (.int .i64 s.del) ∧ ((w5.alloc (.cells zc 69)).alloc (.cells #[.slice A4 n4 c4, .int .i64 s.key, .int .i64 s.cmp, .int .i64 s.del, .int .i64 s.sort, .int .i64 most, .int .i64 vals, .slice (some ⟨w5.heap.size, 0, none⟩) n4 n4, .slice none 0 0] 63)).drew.cell? ⟨w.heap.size, 4, none⟩ = some (.int .i64 s.sort) ∧ ((w5.alloc (.cells zc 69)).alloc (.cells #[.slice A4 n4 c4, .int .i64 s.key, .int .i64 s.cmp, .int .i64 s.del, .int .i64 s.sort, .int .i64 most, .int .i64 vals, .slice (some ⟨w5.heap.size, 0, none⟩) n4 n4, .slice none 0 0] 63)).drew.cell? ⟨w.heap.size + 1, 0, none⟩ = some (.int .i64 vals) := ⟨(by_.cell (p := ⟨w.heap.size, 0, none⟩) (by simp; omega)).trans p0, (by_.cell (p := ⟨w.heap.size, 1, none⟩) (by simp; omega)).trans p1, (by_.cell (p := ⟨w.heap.size, 2, none⟩) (by simp; omega)).trans p2, (by_.cell (p := ⟨w.heap.size, 3, none⟩) (by simp; omega)).trans p3, (by_.cell (p := ⟨w.heap.size, 4, none⟩) (by simp; omega)).trans p4, (by_.cell (p := ⟨w.heap.size + 1, 0, none⟩) (by simp; omega)).trans p5⟩
  go_region_held3 (fun w' => w'.cell? ⟨w.heap.size, 0, none⟩ = some (.slice A4 n4 c4) ∧ w'.cell? ⟨w.heap.size, 1, none⟩ = some (.int .i64 s.key) ∧ w'.cell? ⟨w.heap.size, 2, none⟩ = some (.int .i64 s.cmp) ∧ w'.cell? ⟨w.heap.size, 3, none⟩ = some (.int .i64 s.del) ∧ w'.cell? ⟨w.heap.size, 4, none⟩ = some (.int .i64 s.sort) ∧ w'.cell? ⟨w.heap.size + 1, 0, none⟩ = some (.int .i64 vals)) (with_reducible first | exact z10 | exact z11 | exact z12) (first | fail)
  have By := Lib.hid by_
  clear z10 z11 z12 bz by_ p0 p1 p2 p3 p4 p5 hmk
  obtain ⟨w7, hw7⟩ : ∃ w7, w7 = ((w5.alloc (.cells zc 69)).alloc (.cells #[.slice A4 n4 c4, .int .i64 s.key, .int .i64 s.cmp, .int .i64 s.del, .int .i64 s.sort, .int .i64 most, .int .i64 vals, .slice (some ⟨w5.heap.size, 0, none⟩) n4 n4, .slice none 0 0] 63)).drew := ⟨_, rfl⟩
  rw [← hw7] at By ⊢
  have hrow : Wd.Bx w7 w5.heap.size 69 (cc (fun _ => cd0) n4).toArray := by
    rw [hw7, ← Hzc.out]
    exact (Wd.Bx.new w5 69 zc).alloc (.cells #[.slice A4 n4 c4, .int .i64 s.key, .int .i64 s.cmp, .int .i64 s.del, .int .i64 s.sort, .int .i64 most, .int .i64 vals, .slice (some ⟨w5.heap.size, 0, none⟩) n4 n4, .slice none 0 0] 63)
  have hbox : Wd.Bx w7 (w5.heap.size + 1) 63 #[.slice A4 n4 c4, .int .i64 s.key, .int .i64 s.cmp, .int .i64 s.del, .int .i64 s.sort, .int .i64 most, .int .i64 vals, .slice (some ⟨w5.heap.size, 0, none⟩) n4 n4, .slice none 0 0] := by
    rw [hw7]
    have := Wd.Bx.new (w5.alloc (.cells zc 69)) 63 #[.slice A4 n4 c4, .int .i64 s.key, .int .i64 s.cmp, .int .i64 s.del, .int .i64 s.sort, .int .i64 most, .int .i64 vals, .slice (some ⟨w5.heap.size, 0, none⟩) n4 n4, .slice none 0 0]
    rw [World.size_alloc] at this
    exact this
  obtain ⟨hC5, hv5, hb5, hA4⟩ := Pk5.out
  have hb57 : Below w5.heap.size w5 w7 := Wd.of_drew By.out
  have hb7 := hb5.trans (hb57.mono hb5.size)
  have hC7 := hC5.below hb57
  have hv7 : Wd.Var w7 (w.heap.size + 1) 3 (.int .i64 vals) := (hb57.block _ hv5.lt).trans hv5
  have hAlt : ∀ b o, A4 = some ⟨b, o, none⟩ → b < w5.heap.size := fun b o e => by
    have hl := hC5.len
    obtain ⟨b', o', e', hlt, _⟩ := hC5.at_ 0 (by have := Hm8.out.1; omega)
    rw [e] at e'
    cases e'
    exact hlt
  have hL := Lay.none_ (r := w5.heap.size + 1) (g := w5.heap.size) (s := s) hbox hC7 hrow (fun b o e => by have := hAlt b o e; omega)
  have hlt5 := hv5.lt
  have Cl := Lib.hid (new_loop (w := w) hn8 hL (w.heap.size + 1) hb7 hv7 (by omega) (by omega) (by omega))
  have Hb7 := Lib.hid hb7
  have Ha := Lib.hid hA4
  clear hrow hbox hC5 hv5 hb5 hA4 hb57 hb7 hC7 hv7 hAlt hL hlt5 hw7 Hzc By Pk5 hn8 hl5
  go_wp2_with fail
  refine Cl.out.mono ?_
  rintro e w8 ⟨rfl, hb8, cd, hL8, hF8⟩
  have Pk8 := Lib.hid (And.intro hb8 (And.intro hL8 hF8))
  clear hb8 hL8 hF8 Cl
  go_wp2_with fail
  go_ret2
  exact ⟨Pk8.out.1, .inr ⟨⟨HM.out, H1.out, H2.out⟩, w5.heap.size + 1, _, rfl, ⟨w5.heap.size, A4, n4, c4, cd, .slice none 0 0, Hn.out, Pk8.out.2.1.congr fun k _ => rfl, by have := Hm8.out.1; have := Hn.out; omega, fun x => Iff.rfl⟩, fun x hx => by
    rcases hx with hx | ⟨o, hx⟩
    · exact Pk8.out.2.2 x hx
    · have := Ha.out x o hx
      omega⟩⟩
end Rw
end Go.Proofs.Ytfeolclpgilfdaa
namespace Go.Proofs.Ytfeolclpgilfdaa
set_option maxRecDepth 20000
open Go.RowKit
namespace Sx
open Sc (Col Sch tr tr_yes tr_no MayS FitS fits fit1 nameOk MayS findF)
open Va (Vl null)
/-- The schema of the chapter's example. -/
def smallS : Sch := ⟨[⟨⟨#[107]⟩, 1, false⟩, ⟨⟨#[118]⟩, 2, true⟩], -1, -1, -1, -1⟩
theorem small_may : MayS smallS := by
  refine ⟨by decide, by decide, by decide, by decide, ?_, by decide +kernel, .inl ⟨rfl, rfl, rfl⟩⟩
  intro c hc
  have h : c = ⟨⟨#[107]⟩, 1, false⟩ ∨ c = ⟨⟨#[118]⟩, 2, true⟩ := by simpa [smallS] using hc
  rcases h with rfl | rfl
  · exact ⟨⟨by decide, by decide, fun x hx => by
      obtain rfl : x = 107 := by simpa [show Va.byts ⟨#[107]⟩ = [107] by decide +kernel] using hx
      omega⟩, by decide, by decide⟩
  · exact ⟨⟨by decide, by decide, fun x hx => by
      obtain rfl : x = 118 := by simpa [show Va.byts ⟨#[118]⟩ = [118] by decide +kernel] using hx
      omega⟩, by decide, by decide⟩
theorem ok0 : Sc.Ok ⟨1, 5, ⟨#[]⟩, false⟩ := ⟨.inr (.inl ⟨rfl, rfl, rfl⟩), by decide, by decide⟩
def row1 : List Vl := [⟨1, 5, ⟨#[]⟩, false⟩, null]
theorem fit_1 : fits smallS.cols row1 := ⟨⟨ok0, .inl rfl⟩, ⟨Sc.ok_null, .inr ⟨rfl, rfl⟩⟩, trivial⟩
theorem small_cs (w : World) (t : TypeId) : Wd.Cs (w.alloc (.cells #[.string ⟨#[107]⟩, .int .i64 1, .bool false, .string ⟨#[118]⟩, .int .i64 2, .bool true] t)) (some ⟨w.heap.size, 0, none⟩) 2 2 smallS.cols := by
  have b := Wd.Bx.new w t #[.string ⟨#[107]⟩, .int .i64 1, .bool false, .string ⟨#[118]⟩, .int .i64 2, .bool true]
  refine ⟨rfl, by omega, by unfold maxLen; omega, by simp, fun j hj => ⟨w.heap.size, 0, rfl, by simp, fun i v hv => ?_, ?_⟩⟩
  · rw [Nat.zero_add, b.cell (j * 3 + i)]
    have hi : i < 3 := by have := (List.getElem?_eq_some_iff.1 hv).1; simpa [Wd.colVals] using this
    have hj2 : j < 2 := hj
    match j, hj2, i, hi with
    | 0, _, 0, _ => exact hv
    | 0, _, 1, _ => exact hv
    | 0, _, 2, _ => exact hv
    | 1, _, 0, _ => exact hv
    | 1, _, 1, _ => exact hv
    | 1, _, 2, _ => exact hv
  · have hj2 : j < 2 := hj
    match j, hj2 with
    | 0, _ => exact ⟨by decide, by decide⟩
    | 1, _ => exact ⟨by decide, by decide⟩
theorem Small_any (w : World) : Calls Try.prog 21 #[] w fun e w' => ∃ A, e = .returned (.agg #[.slice A 2 2, .int .i64 (-1), .int .i64 (-1), .int .i64 (-1), .int .i64 (-1)]) ∧ Wd.Cs w' A 2 2 smallS.cols ∧ Below w.heap.size w w' := by
  go_enter Try.func21, Try.ntmps21
  go_wp2_with fail
  (try simp only [Exit.inBlock, Exit.then])
  have hc := small_cs (w.alloc (.cells #[.slice (some ⟨w.heap.size + 1, 0, none⟩) 2 2, .int .i64 (-1), .int .i64 (-1), .int .i64 (-1), .int .i64 (-1)] 24)) 57
  rw [World.size_alloc] at hc
  refine bodyPost_ret (v := .agg #[.slice (some ⟨w.heap.size + 1, 0, none⟩) 2 2, .int .i64 (-1), .int .i64 (-1), .int .i64 (-1), .int .i64 (-1)]) ?_ rfl ⟨_, rfl, hc, ?_⟩
  · rw [Vc.res_cell1 rfl]; go_simp
  · repeat' (first | with_reducible exact Below.refl _ _ | with_reducible refine Below.setCell ?_ (by simp <;> omega) _ | with_reducible refine Below.alloc ?_ (by simp <;> omega) _)
end Sx
end Go.Proofs.Ytfeolclpgilfdaa
namespace Go.Proofs.Ytfeolclpgilfdaa
set_option maxRecDepth 20000
open Go.RowKit Go.Maps
namespace Rw
open Va (Vl May null)
open Sc (Sch FitS MayS fits fits_get tr tr_yes tr_no tr_iff tr_congr)
open Sx (smallS small_may)
/-- Rows of state S at r, in blocks F alone, all of which are new since wo. -/
structure Ob (wo w : World) (r : Nat) (S : St) (F : Nat → Prop) : Prop where
  mem : R w r S F
  ok : Ok S
  new : ∀ x, F x → wo.heap.size ≤ x
  bel : Below wo.heap.size wo w
section
variable {wo w w' : World} {r : Nat} {S : St} {F : Nat → Prop}
theorem Ob.below (h : Ob wo w r S F) (hb : Below w.heap.size w w') : Ob wo w' r S F := ⟨h.mem.below hb, h.ok, h.new, h.bel.trans (hb.mono h.bel.size)⟩
theorem Ob.lt (h : Ob wo w r S F) {x : Nat} (hx : F x) : x < w.heap.size := h.mem.lt hx
theorem ob_new {wo w : World} {A : Option Addr} {n c : Nat} {s : Sch} (most vals : Int) (hb : Below wo.heap.size wo w) (hS : Wd.Cs w A n c s.cols) (hn : n ≤ 1000000) :
    Calls Try.prog 11 #[.agg #[.slice A n c, .int .i64 s.key, .int .i64 s.cmp, .int .i64 s.del, .int .i64 s.sort], .int .i64 most, .int .i64 vals] w fun e w' => Below w.heap.size w w' ∧ ((¬ MayN s most vals ∧ e = .returned (.tuple #[.pointer none, .int .i64 1])) ∨
      (MayN s most vals ∧ ∃ r F, e = .returned (.tuple #[Dt.pt r, .int .i64 0]) ∧ Ob wo w' r ⟨s, most, vals, [], []⟩ F ∧ ∀ x, F x → w.heap.size ≤ x)) :=
  (new_any most vals hS hn).mono fun _ _ ⟨h1, h2⟩ => ⟨h1, h2.imp id fun ⟨hM, r, F, he, hR, hF⟩ => ⟨hM, r, F, he, ⟨hR, ok_new hM.1 hM.2.1.1 hM.2.1.2 hM.2.2.1 hM.2.2.2, fun x hx => by have := hF x hx; have := hb.size; omega, hb.trans (h1.mono hb.size)⟩, hF⟩⟩
theorem ob_append {B : Option Addr} {m d : Nat} {row : List Vl} (off : Int) (h : Ob wo w r S F) (hV : Wd.Vs w B m d row) (hB : ∀ b o, B = some ⟨b, o, none⟩ → row ≠ [] → ¬ F b) :
    Calls Try.prog 13 #[Dt.pt r, .slice B m d, .int .i64 off] w fun e w' => e = .returned (.tuple #[.int .i64 (num S row off), .int .i64 (er S row off)]) ∧ Wd.Mv F w w' ∧ ∃ F', Ob wo w' r (app S row off) F' ∧ ∀ x, F' x → Wd.Gr F w w' x :=
  (append_any off h.mem h.ok hV hB).mono fun _ _ ⟨he, mv, F', hR, hF⟩ => ⟨he, mv, F', ⟨hR, ok_app h.ok _ _, Wd.Gr.ge h.new h.bel.size |> fun q x hx => q x (hF x hx), h.bel.trans (mv.below h.new h.bel.size)⟩, hF⟩
end
/-- The chapter's row. -/
def rowL (n : Int) : List Vl := [⟨1, n, ⟨#[]⟩, false⟩, null]
def I64 (n : Int) : Prop := -9223372036854775808 ≤ n ∧ n ≤ 9223372036854775807
theorem fit_row {n : Int} (h : I64 n) : FitS smallS (rowL n) := by
  refine ⟨small_may, (fits_get _ _).2 ⟨rfl, fun i hi => ?_⟩⟩
  have hi2 : i < 2 := hi
  match i, hi2 with
  | 0, _ => exact ⟨⟨.inr (.inl ⟨rfl, rfl, rfl⟩), h.1, h.2⟩, .inl rfl⟩
  | 1, _ => exact ⟨Sc.ok_null, .inr ⟨rfl, rfl⟩⟩
theorem row_any (n : Int) (w : World) : Calls Try.prog 20 #[.int .i64 n] w fun e w' => ∃ g, e = .returned (.slice (some ⟨g, 0, none⟩) 2 2) ∧ Wd.RowV w' g (rowL n) ∧ w.heap.size ≤ g ∧ Below w.heap.size w w' := by
  go_enter Try.func20, Try.ntmps20
  go_wp2_with fail
  go_ret
  exact ⟨_, rfl, Wd.Bx.new w _ _, Nat.le_refl _, (Below.refl _ _).alloc (Nat.le_refl _) _⟩
theorem row_vs {w : World} {g : Nat} {n : Int} (h : Wd.RowV w g (rowL n)) (hn : I64 n) : Wd.Vs w (some ⟨g, 0, none⟩) 2 2 (rowL n) := h.vs 2 rfl (by unfold maxLen; omega) fun j hj => by
  have hj2 : j < 2 := hj
  match j, hj2 with
  | 0, _ => exact Sx.v1_of ⟨.inr (.inl ⟨rfl, rfl, rfl⟩), hn.1, hn.2⟩
  | 1, _ => exact Sx.v1_of Sc.ok_null
theorem not_some {F : Nat → Prop} {g : Nat} {row : List Vl} (h : ¬ F g) : ∀ b o, (some ⟨g, 0, none⟩ : Option Addr) = some ⟨b, o, none⟩ → row ≠ [] → ¬ F b := fun b o e _ => by
  cases e
  exact h
theorem room_of_mem {S : St} {row : List Vl} (h : row ∈ S.rows) : Room S row := fun _ _ => .inl (mem_ow.2 (List.mem_map.2 ⟨row, h, rfl⟩))
theorem room_nil {S : St} (hS : S.rows = []) (h : 1 ≤ S.vals) (row : List Vl) : Room S row := fun _ _ => .inr (by rw [hS]; simp [col, ow]; omega)
def e0 : St := ⟨smallS, 2, 9, [], []⟩
theorem i5 : I64 5 := ⟨by decide, by decide⟩
theorem er0 : er e0 (rowL 5) 3 = 0 := er_ok ⟨fit_row i5, by decide, by decide⟩ (fun q => q.1 rfl) fun q => q.elim (by simp [e0]) fun q => q (room_nil rfl (by decide) _)
theorem er1 : er (more e0 (rowL 5) 3) (rowL 5) 4 = 0 := er_ok ⟨fit_row i5, by decide, by decide⟩ (fun q => by have := q.2; simp [more, e0] at this) fun q => q.elim (by simp [e0, more]) fun q => q (room_of_mem (by simp [more, e0]))
theorem er2 : er (more (more e0 (rowL 5) 3) (rowL 5) 4) (rowL 5) 5 = 4 := er_full ⟨fit_row i5, by decide, by decide⟩ (fun q => by have := q.2; simp [more, e0] at this) (.inl (by simp [more, e0]))
theorem app0 : app e0 (rowL 5) 3 = more e0 (rowL 5) 3 := if_pos er0
theorem app1 : app (more e0 (rowL 5) 3) (rowL 5) 4 = more (more e0 (rowL 5) 3) (rowL 5) 4 := if_pos er1
theorem app2 : app (more (more e0 (rowL 5) 3) (rowL 5) 4) (rowL 5) 5 = more (more e0 (rowL 5) 3) (rowL 5) 4 := if_neg (by rw [er2]; decide)
theorem num0 : num e0 (rowL 5) 3 = 0 := if_pos er0
theorem num1 : num (more e0 (rowL 5) 3) (rowL 5) 4 = 1 := if_pos er1
theorem num2 : num (more (more e0 (rowL 5) 3) (rowL 5) 4) (rowL 5) 5 = 0 := if_neg (by rw [er2]; decide)
theorem ow2 : (ow (col (more (more e0 (rowL 5) 3) (rowL 5) 4).rows 0)).length = 1 := by
  show (ow [(rowL 5).getD 0 default, (rowL 5).getD 0 default]).length = 1
  simp [ow, put1]
theorem may0 : MayN smallS 2 9 := ⟨small_may, ⟨by decide, by decide⟩, ⟨by decide, by decide⟩⟩
set_option maxHeartbeats 4000000 in
theorem awake_any (w : World) : Calls Try.prog 8 #[] w fun e w' => e = .returned (.bool true) ∧ Below w.heap.size w w' := by
  have Cs := Lib.hid (Sx.Small_any w)
  have Cr := Lib.hid (row_any 5)
  go_enter Try.func8, Try.ntmps8
  go_wp2_with fail
  refine Cs.out.mono ?_
  rintro e w1 ⟨A, rfl, hS1, hB1⟩
  have Cn := Lib.hid (ob_new (s := smallS) 2 9 hB1 hS1 (by omega))
  clear hS1
  go_wp2_with fail
  refine Cn.out.mono ?_
  rintro e w2 ⟨hB2, ⟨hM, -⟩ | ⟨-, r, F0, rfl, O0, hF0⟩⟩
  · exact absurd may0 hM
  have H0 := Lib.hid O0
  clear Cn hB1 hB2 hF0 O0
  go_wp2_with fail
  refine (Cr.out w2).mono ?_
  rintro e w3 ⟨g3, rfl, hR3, hg3, hB3⟩
  have C1 := ob_append 3 (H0.out.below hB3) (row_vs hR3 i5) (not_some fun q => by have := H0.out.lt q; omega)
  rw [show er ⟨smallS, 2, 9, [], []⟩ (rowL 5) 3 = 0 from er0, show num ⟨smallS, 2, 9, [], []⟩ (rowL 5) 3 = 0 from num0, show app ⟨smallS, 2, 9, [], []⟩ (rowL 5) 3 = _ from app0] at C1
  have D1 := Lib.hid C1
  clear C1 hR3 hg3 hB3 H0
  go_wp2_with fail
  refine D1.out.mono ?_
  rintro e w4 ⟨rfl, -, F1, O1, -⟩
  have H1 := Lib.hid O1
  clear D1 O1
  go_wp2_with fail
  refine (Cr.out w4).mono ?_
  rintro e w5 ⟨g5, rfl, hR5, hg5, hB5⟩
  have C1 := ob_append 4 (H1.out.below hB5) (row_vs hR5 i5) (not_some fun q => by have := H1.out.lt q; omega)
  rw [er1, num1, app1] at C1
  have D1 := Lib.hid C1
  clear C1 hR5 hg5 hB5 H1
  go_wp2_with fail
  refine D1.out.mono ?_
  rintro e w6 ⟨rfl, -, F2, O2, -⟩
  have H2 := Lib.hid O2
  clear D1 O2
  go_wp2_with fail
  refine (Cr.out w6).mono ?_
  rintro e w7 ⟨g7, rfl, hR7, hg7, hB7⟩
  have C1 := ob_append 5 (H2.out.below hB7) (row_vs hR7 i5) (not_some fun q => by have := H2.out.lt q; omega)
  rw [er2, num2, app2] at C1
  have D1 := Lib.hid C1
  clear C1 hR7 hg7 hB7 H2
  go_wp2_with fail
  refine D1.out.mono ?_
  rintro e w8 ⟨rfl, -, F3, O3, -⟩
  have Ca := Lib.hid (at_in O3.mem O3.ok 1 (by simp [more, e0]))
  have H3 := Lib.hid O3
  clear D1 O3
  go_wp2_with fail
  refine Ca.out.mono ?_
  rintro e w9 ⟨g9, rfl, hR9, hg9, hB9⟩
  have H9 := Lib.hid (H3.out.below hB9)
  have hV9 : Wd.Vs w9 (some ⟨g9, 0, none⟩) 2 2 (rowL 5) := row_vs hR9 i5
  have V9 := Lib.hid hV9
  clear hR9 hg9 hB9 hV9 Ca H3
  go_wp2_with fail
  refine (Cr.out w9).mono ?_
  rintro e w10 ⟨g10, rfl, hR10, hg10, hB10⟩
  have C1 := Sx.sameV_any _ _ _ _ _ _ _ _ w10 (V9.out.below hB10) (row_vs hR10 i5)
  rw [tr_yes rfl] at C1
  have D1 := Lib.hid C1
  have H10 := Lib.hid (H9.out.below hB10)
  clear C1 hR10 hg10 hB10 H9 V9
  go_wp2_with fail
  refine D1.out.mono ?_
  rintro e w11 ⟨rfl, hB11⟩
  have H11 := Lib.hid (H10.out.below hB11)
  clear hB11 H10 D1
  have Cv := Lib.hid (values_in H11.out.mem H11.out.ok 0 (by simp [more, e0, smallS]))
  rw [ow2] at Cv
  go_wp2_with fail
  refine Cv.out.mono ?_
  rintro e w12 ⟨rfl, hB12⟩
  have H12 := Lib.hid (H11.out.below hB12)
  clear hB12 Cv H11
  go_wp2_with fail
  go_ret
  exact ⟨rfl, H12.out.bel⟩
end Rw
end Go.Proofs.Ytfeolclpgilfdaa
