/- The walk of RowsDo: any rows that are appended answer, and are there, as the document says. -/
import Derived.Test.YtfeolclpgilfdaaPk24
namespace Go.Proofs.Ytfeolclpgilfdaa
set_option maxRecDepth 20000
open Go.RowKit Go.Maps
namespace Rf
open Va (Vl May null)
open Sc (Sch FitS MayS fits fits_get tr tr_yes tr_no tr_iff tr_congr)
open Wd (Rcd)
open Rw
/-- Rows, and the reference's rows, of one state, and apart. -/
structure Tw (wo w : World) (r q : Nat) (S : St) (F : Nat → Prop) (A : Option Addr) (n c : Nat) (lv ov : Value) (us : List Value) : Prop where
  ob : Ob wo w r S F
  rl : RL wo w q A n c lv ov us S
  ap : ∀ x, Ft2 q lv ov us x → ¬ F x
def Two (wo w : World) (r q : Nat) (S : St) (A : Option Addr) (n c : Nat) : Prop := ∃ F lv ov us, Tw wo w r q S F A n c lv ov us
section
variable {wo w w' : World} {r q : Nat} {S S' : St} {F F' : Nat → Prop} {A : Option Addr} {n c : Nat} {lv ov lv' ov' : Value} {us us' : List Value}
theorem Tw.below (h : Tw wo w r q S F A n c lv ov us) (hb : Below w.heap.size w w') : Tw wo w' r q S F A n c lv ov us := ⟨h.ob.below hb, h.rl.below hb, h.ap⟩
theorem Tw.one (h : Tw wo w r q S F A n c lv ov us) (mv : Wd.Mv F w w') (hF : ∀ x, F' x → Wd.Gr F w w' x) : RL wo w' q A n c lv ov us S ∧ ∀ x, Ft2 q lv ov us x → ¬ F' x :=
  ⟨h.rl.keep mv h.ap h.ob.new, fun x hx hf => by
    rcases hF x hf with z | z
    · exact h.ap x hx z
    · have := (h.rl.ft hx).2
      omega⟩
theorem Tw.two (hO : Ob wo w r S' F') (hR : RL wo w q A n c lv ov us S) (ap : ∀ x, Ft2 q lv ov us x → ¬ F' x) (mv : Wd.Mv (Ft2 q lv ov us) w w') (hG : ∀ x, Ft2 q lv' ov' us' x → Wd.Gr (Ft2 q lv ov us) w w' x) (hR' : RL wo w' q A n c lv' ov' us' S') : Tw wo w' r q S' F' A n c lv' ov' us' :=
  ⟨⟨hO.mem.keep mv ap, hO.ok, hO.new, hO.bel.trans (mv.below (fun x hx => (hR.ft hx).1) hO.bel.size)⟩, hR', fun x hx hf => by
    rcases hG x hx with z | z
    · exact ap x z hf
    · have := hO.lt hf
      omega⟩
end
set_option maxHeartbeats 8000000 in
theorem rowsDo_walk (A : Option Addr) (n c : Nat) (s : Sch) (most vals : Int) (B : Option Addr) (m d : Nat) (l : List Rcd) (w : World) (hS : Wd.Cs w A n c s.cols) (hL : Wd.Rcs w B m d l) :
    Calls Try.prog 3 #[.agg #[.slice A n c, .int .i64 s.key, .int .i64 s.cmp, .int .i64 s.del, .int .i64 s.sort], .int .i64 most, .int .i64 vals, .slice B m d] w fun e w' => e = .returned (.bool true) ∧ Below w.heap.size w w' := by
  have hb0 := (Below.refl w.heap.size w).alloc (Nat.le_refl _) (.cells #[.slice A n c, .int .i64 s.key, .int .i64 s.cmp, .int .i64 s.del, .int .i64 s.sort] 24)
  have s0 : Sx.Sb (w.alloc (.cells #[.slice A n c, .int .i64 s.key, .int .i64 s.cmp, .int .i64 s.del, .int .i64 s.sort] 24)) w.heap.size A n c s.key s.cmp s.del s.sort := Wd.Bx.new w _ _
  have Hl := Lib.hid hS.len
  have Hm := Lib.hid hL.len
  have HS := Lib.hid hS
  have HL := Lib.hid hL
  have hcap := hS.cap
  have hcapl := hL.cap
  have Hb0 := Lib.hid hb0
  have S0 := Lib.hid s0
  clear hS hL hb0 s0
  go_enter Try.func3, Try.ntmps3
  go_wp2_with fail
  generalize w.alloc (.cells #[.slice A n c, .int .i64 s.key, .int .i64 s.cmp, .int .i64 s.del, .int .i64 s.sort] 24) = wa at *
  refine (awake_any wa).mono ?_
  rintro e w1 ⟨rfl, hB1⟩
  have hb1 := Hb0.out.trans (hB1.mono Hb0.out.size)
  have S1 := Lib.hid (S0.out.below (Wd.Bx.lt S0.out) hB1)
  obtain ⟨p0, p1, p2, p3, p4⟩ := Sx.five S1.out
  have Hb1 := Lib.hid hb1
  clear hB1 hb1 S0 Hb0
  go_wp2_with fail
  have Cf := Lib.hid (Sx.Few_any A n c s w1 (HS.out.below Hb1.out))
  obtain ⟨u, hu⟩ : ∃ u, u = tr (Sx.FewS s) := ⟨_, rfl⟩
  rw [← hu] at Cf
  have Hu := Lib.hid hu
  clear hu
  refine Cf.out.mono ?_
  rintro e w2 ⟨rfl, hB2⟩
  have Hb2 := Lib.hid (Hb1.out.trans (hB2.mono Hb1.out.size))
  have S2 := Lib.hid (S1.out.below (Wd.Bx.lt S1.out) hB2)
  clear p0 p1 p2 p3 p4 hB2 Cf S1 Hb1
  cases u with
  | false =>
    go_wp2_with fail
    go_ret
    exact ⟨rfl, Hb2.out⟩
  | true =>
  have hn12 : n ≤ 12 := by have := (tr_iff.1 Hu.out.symm).1; have := Hl.out; omega
  have Cg := Lib.hid (few_any B m d l w2 (HL.out.below Hb2.out))
  by_cases hR : FewR l
  case neg =>
    rw [tr_no hR] at Cg
    clear hR
    go_wp2_with fail
    refine Cg.out.mono ?_
    rintro e w3 ⟨rfl, e3⟩
    subst e3
    go_wp2_with fail
    go_ret
    exact ⟨rfl, Hb2.out⟩
  rw [if_pos (tr_yes hR)] at Cg
  have hm60 : m ≤ 60 := by have := hR.1; have := Hm.out; omega
  clear hR
  go_wp2_with fail
  refine Cg.out.mono ?_
  rintro e wo ⟨rfl, e3⟩
  subst e3
  obtain ⟨p0, p1, p2, p3, p4⟩ := Sx.five S2.out
  have So := Lib.hid S2.out
  have HSo := Lib.hid (HS.out.below Hb2.out)
  have HLo := Lib.hid (HL.out.below Hb2.out)
  have Cn := Lib.hid (ob_new most vals (Below.refl _ _) HSo.out (by omega))
  clear Cg S2
  go_wp2_with fail
  refine Cn.out.mono ?_
  rintro e w4 ⟨hB4, ⟨hM, rfl⟩ | ⟨hM, r, F, rfl, hO, -⟩⟩
  · have Cr := Lib.hid (new_any most vals (Below.refl wo.heap.size wo |>.trans hB4) HSo.out (by omega))
    have Hb4 := Lib.hid (Hb2.out.trans (hB4.mono Hb2.out.size))
    have S4 := Lib.hid (So.out.below (Wd.Bx.lt So.out) hB4)
    have HM := Lib.hid hM
    clear p0 p1 p2 p3 p4 Cn hB4 hM
    obtain ⟨p0, p1, p2, p3, p4⟩ := Sx.five S4.out
    go_wp2_with fail
    refine Cr.out.mono ?_
    rintro e w5 ⟨hB5, ⟨-, rfl⟩ | ⟨hM', -⟩⟩
    · have Hb5 := Lib.hid (Hb4.out.trans (hB5.mono Hb4.out.size))
      clear hB5 p0 p1 p2 p3 p4 Cr
      go_wp2_with fail
      go_loopw [15] (fun i wr => i = .int .i64 0 ∧ wr = w5) (fun i _ => 0)
      case atStart => exact ⟨rfl, rfl⟩
      case round =>
        obtain ⟨rfl, rfl⟩ := hrel
        by_cases hm0 : 0 < m
        · have hmI : (0 : Int) < (m : Int) := by omega
          go_wp2_with fail
          go_ret
          exact ⟨rfl, Hb5.out⟩
        · have hmI : ¬ (0 : Int) < (m : Int) := by omega
          go_wp2_with fail
          go_ret
          exact ⟨rfl, Hb5.out⟩
    · exact absurd hM' HM.out
  have Cr := Lib.hid (new_any most vals hO.bel HSo.out (by omega))
  have S4 := Lib.hid (So.out.below (Wd.Bx.lt So.out) hB4)
  have HO := Lib.hid hO
  have HM := Lib.hid hM
  clear p0 p1 p2 p3 p4 Cn hB4 hO hM
  obtain ⟨p0, p1, p2, p3, p4⟩ := Sx.five S4.out
  go_wp2_with fail
  refine Cr.out.mono ?_
  rintro e w5 ⟨hB5, ⟨hM', -⟩ | ⟨-, q, G, rfl, ⟨A9, n9, c9, lv, ov, us, hRL, hG⟩, hnew⟩⟩
  · exact absurd HM.out hM'
  have hT : Two wo w5 r q ⟨s, most, vals, [], []⟩ A9 n9 c9 := ⟨F, lv, ov, us, HO.out.below hB5, hRL, fun x hx hf => by
    have := hnew x ((hG x).2 hx)
    have := HO.out.lt hf
    omega⟩
  have HT := Lib.hid hT
  clear p0 p1 p2 p3 p4 Cr hB5 hRL hG hnew hT HO F S4 lv ov us G
  go_wp2_with fail
  go_loopw [15] (fun i wr => ∃ (k : Nat) (S : St), i = .int .i64 k ∧ k ≤ m ∧ Hid (Two wo wr r q S A9 n9 c9)) (fun i _ => m - (intOf i).toNat)
  case atStart => exact ⟨0, _, rfl, Nat.zero_le _, HT⟩
  case round =>
    clear HT
    obtain ⟨k, S, rfl, hk, hT⟩ := hrel
    obtain ⟨F, lv, ov, us, hT⟩ := hT.out
    have HT := Lib.hid hT
    by_cases hlt : k < m
    · obtain ⟨x, hx⟩ : ∃ x, x = l.getD k default := ⟨_, rfl⟩
      have hkl : k < l.length := by rw [← Hm.out]; exact hlt
      obtain ⟨b, o, hA, hbF, hbw, ⟨y0, y1⟩, hV, hwf, hrF⟩ := rec_at HLo.out hT.ob hkl hx
      subst hA
      have hkI : (k : Int) < (m : Int) := by omega
      have Ca := Lib.hid (ob_append (w := wr.drew) x.off (hT.ob.below (Below.refl _ _).drew) (hV.below (Below.refl _ _).drew) hrF)
      have hwb := bounds_i64 hwf
      obtain ⟨E, hE⟩ : ∃ E, E = er S x.row x.off := ⟨_, rfl⟩
      obtain ⟨S', hS'⟩ : ∃ S', S' = app S x.row x.off := ⟨_, rfl⟩
      obtain ⟨N, hN⟩ : ∃ N, N = num S x.row x.off := ⟨_, rfl⟩
      rw [← hE, ← hS', ← hN] at Ca
      have HE := Lib.hid hE
      have HS' := Lib.hid hS'
      have HN := Lib.hid hN
      have Hx := Lib.hid (And.intro hkl hx)
      have Hbo := Lib.hid hbw
      have z10 : wr.drew.cell? ⟨b, o + k * 2, none⟩ = some (.slice x.rA x.rn x.rc) ∧ wr.drew.cell? ⟨b, o + k * 2 + 1, none⟩ = some (.int .i64 x.off) := ⟨y0, y1⟩
      clear hV hE hS' hN hx y0 y1 hwf hrF hT hkl hbw
      go_wp2_with fail
      go_region_held3 (fun w' => w'.cell? ⟨b, o + k * 2, none⟩ = some (.slice x.rA x.rn x.rc) ∧ w'.cell? ⟨b, o + k * 2 + 1, none⟩ = some (.int .i64 x.off)) (with_reducible first | exact z10) (first
        | (go_at_call 13; (with_reducible refine Ca.out.mono ?_); rintro e w6 ⟨rfl, mv6, F', hO6, hF6⟩; have z10 := And.intro (mv_cell mv6 z10.1 hbF) (mv_cell mv6 z10.2 hbF)))
      obtain ⟨hR6, hap6⟩ := Tw.one (HT.out.below (Below.refl _ _).drew) mv6 hF6
      have hd6 : Below w6.heap.size w6 w6.drew := (Below.refl _ _).drew
      have H6 := Lib.hid (And.intro (hO6.below hd6) (And.intro (hR6.below hd6) hap6))
      obtain ⟨b', o', hA, -, -, -, hV, -, -⟩ := rec_at HLo.out H6.out.1 Hx.out.1 Hx.out.2
      have Cb := Lib.hid (append_any (w := w6.drew) x.off H6.out.2.1 HT.out.ob.ok hV)
      rw [← HE.out, ← HS'.out, ← HN.out] at Cb
      have hbG : ¬ Ft2 q lv ov us b := fun z => by have := (H6.out.2.1.ft z).1; have := Hbo.out; omega
      replace z10 : w6.drew.cell? ⟨b, o + k * 2, none⟩ = some (.slice x.rA x.rn x.rc) ∧ w6.drew.cell? ⟨b, o + k * 2 + 1, none⟩ = some (.int .i64 x.off) := z10
      clear mv6 hF6 hO6 hR6 hap6 hd6 hA hV Ca hbF
      go_wp2_with fail
      go_region_held3 (fun w' => w'.cell? ⟨b, o + k * 2, none⟩ = some (.slice x.rA x.rn x.rc) ∧ w'.cell? ⟨b, o + k * 2 + 1, none⟩ = some (.int .i64 x.off)) (with_reducible first | exact z10) (first
        | (go_at_call 14; (with_reducible refine Cb.out.mono ?_); rintro e w7 ⟨rfl, lv', ov', us', hR7, mv7, hG7⟩; have z10 := And.intro (mv_cell mv7 z10.1 hbG) (mv_cell mv7 z10.2 hbG)))
      have HT7 : Hid (Two wo w7 r q S' A9 n9 c9) := Lib.hid ⟨F', lv', ov', us', Tw.two H6.out.1 H6.out.2.1 H6.out.2.2 mv7 hG7 hR7⟩
      clear mv7 hG7 hR7 z10 H6 Cb hbG HE HS' HN
      go_wp2_with fail
      go_roundw
      case rel => exact ⟨k + 1, S', by go_num, by omega, HT7⟩
      case measure => simp [intOf]; omega
    · have hkI : ¬ (k : Int) < (m : Int) := by omega
      have Cs := Lib.hid (same_any HT.out.ob HT.out.rl)
      have hbw := HT.out.ob.bel
      have Hbw := Lib.hid (Hb2.out.trans (hbw.mono Hb2.out.size))
      clear hT hbw
      go_wp2_with fail
      refine Cs.out.mono ?_
      rintro e w6 ⟨rfl, hB6⟩
      have Hb6 := Lib.hid (Hbw.out.trans (hB6.mono Hbw.out.size))
      clear hB6 Cs
      go_wp2_with fail
      go_ret
      exact ⟨rfl, Hb6.out⟩
end Rf
namespace Lw
theorem rowsDo_walk (A : Option Addr) (n c : Nat) (s : Sc.Sch) (most vals : Int) (B : Option Addr) (m d : Nat) (l : List Wd.Rcd) (w : World) (hS : Wd.Cs w A n c s.cols) (_ : Wd.Sch1 s) (_ : -9223372036854775808 ≤ most) (_ : most ≤ 9223372036854775807) (_ : -9223372036854775808 ≤ vals) (_ : vals ≤ 9223372036854775807) (hL : Wd.Rcs w B m d l) :
    Calls Try.prog 3 #[.agg #[.slice A n c, .int .i64 s.key, .int .i64 s.cmp, .int .i64 s.del, .int .i64 s.sort], .int .i64 most, .int .i64 vals, .slice B m d] w fun e w' => e = .returned (.bool true) ∧ Below w.heap.size w w' := Rf.rowsDo_walk A n c s most vals B m d l w hS hL
end Lw
end Go.Proofs.Ytfeolclpgilfdaa
