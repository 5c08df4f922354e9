/- The walk of the statement DictDoes of layer 8. -/
import Derived.Test.YtiokajaadmfohaaDcLawA
namespace Go.Proofs.Ytiokajaadmfohaa
set_option maxRecDepth 20000
open Go.RowKit
namespace Dx
open Va (Vl May ord null)
open Sc (tr tr_yes tr_no tr_iff)
open Dc
theorem vs_mv {w w' : World} {A : Option Addr} {n c : Nat} {L : List Vl} {G : Nat → Prop} (h : Wd.Vs w A n c L) (hA : ∀ a, A = some a → ¬ G a.block) (hm : Wd.Mv G w w') : Wd.Vs w' A n c L :=
  ⟨h.len, h.cap, h.max, h.nil, fun j hj => by
    obtain ⟨b, o, e, hlt, hc, h1⟩ := h.at_ j hj
    exact ⟨b, o, e, Nat.lt_of_lt_of_le hlt hm.size, fun i v hv => (World.cell?_of_block (w := w) (hm.keep b hlt (hA _ e))).trans (hc i v hv), h1⟩⟩
theorem adds_take {k : Int} {l : List Vl} {n : Nat} (h : n < l.length) : adds k [] (l.take (n + 1)) = (add (adds k [] (l.take n)) k (l.getD n default)).1 := by
  rw [List.take_add_one, getD_at h, adds_app]
  rfl
/-- A dictionary and the reference's list, apart, at one point of a script. -/
structure Both (D : World → Nat → List Vl → Int → (Nat → Prop) → Prop) (wo w : World) (d : Nat) (lm : Int) (L : List Vl) (A : Option Addr) (n c : Nat) (G : Nat → Prop) : Prop where
  dic : D w d L lm G
  ge : ∀ g, G g → wo.heap.size ≤ g
  row : Wd.Vs w A n c L
  out : ∀ a, A = some a → a.block < w.heap.size ∧ ¬ G a.block
  bel : Below wo.heap.size wo w
end Dx
namespace Lw
open Dx Dc
open Va (Vl May ord null)
open Sc (tr tr_yes tr_no tr_iff)
variable {D : World → Nat → List Vl → Int → (Nat → Prop) → Prop}
set_option maxHeartbeats 16000000 in
theorem dictDoes_walk (I : Ifc D) (lm : Int) (R : Option Addr) (m d : Nat) (vs : List Vl) (k i : Int) (s : ByteArray) (b : Bool) (ix : Int) (w : World) (_l0 : -9223372036854775808 ≤ lm) (_l1 : lm ≤ 9223372036854775807) (hV : Wd.Vs w R m d vs) (h1 : Wd.V1 ⟨k, i, s, b⟩) (_i0 : -9223372036854775808 ≤ ix) (_i1 : ix ≤ 9223372036854775807) :
    Calls Try.prog 3 #[.int .i64 lm, .slice R m d, .agg #[.int .i64 k, .int .i64 i, .string s, .bool b], .int .i64 ix] w fun e w' => e = .returned (.bool true) ∧ Below w.heap.size w w' := by
  have hb0 := (Below.refl w.heap.size w).alloc (Nat.le_refl _) (.cells #[.int .i64 k, .int .i64 i, .string s, .bool b] 24)
  have x0 : Vc.Vb (w.alloc (.cells #[.int .i64 k, .int .i64 i, .string s, .bool b] 24)) w.heap.size k i s b := Wd.Bx.new w _ _
  have HV := Lib.hid (hV.below hb0)
  have Hm := Lib.hid hV.len
  have hcap := hV.cap
  have H1 := Lib.hid h1
  have Hx0 := Lib.hid x0
  clear hV h1 x0
  obtain ⟨f1, hf1⟩ : ∃ f, f = tr (FewV vs) := ⟨_, rfl⟩
  obtain ⟨f2, hf2⟩ : ∃ f, f = tr (FewV [⟨k, i, s, b⟩]) := ⟨_, rfl⟩
  have Hf1 := Lib.hid hf1
  have Hf2 := Lib.hid hf2
  clear hf1 hf2
  go_enter Try.func3, Try.ntmps3
  go_wp2_with fail
  generalize w.alloc (.cells #[.int .i64 k, .int .i64 i, .string s, .bool b] 24) = wa at *
  refine (awake_any I wa).mono ?_
  rintro e w1 ⟨rfl, hB1⟩
  have hb1 := hb0.trans (hB1.mono hb0.size)
  have Hx1 := Lib.hid (Hx0.out.below (Wd.Bx.lt Hx0.out) hB1)
  have HV1 := Lib.hid (HV.out.below hB1)
  clear HV Hx0 hB1 hb0
  have C1 := few_any R m d vs w1 HV1.out
  rw [← Hf1.out] at C1
  have C1 := Lib.hid C1
  go_wp2_with fail
  refine C1.out.mono ?_
  rintro e w1' ⟨rfl, rfl⟩
  obtain ⟨⟨y0, y1, y2, y3⟩, -⟩ := Vc.four Hx1.out
  have hb2 := hb1.alloc hb1.size (.cells #[.int .i64 k, .int .i64 i, .string s, .bool b] 24)
  have C2 := few_any _ 1 1 [⟨k, i, s, b⟩] _ (vs_lit1 w1' 24 k i s b H1.out)
  rw [← Hf2.out] at C2
  have C2 := Lib.hid C2
  go_wp2_with fail
  have hbA := (Below.refl w1'.heap.size w1').alloc (Nat.le_refl _) (.cells #[.int .i64 k, .int .i64 i, .string s, .bool b] 24)
  have Hx2 := Lib.hid (Hx1.out.below (Wd.Bx.lt Hx1.out) hbA)
  have HV2 := Lib.hid (HV1.out.below hbA)
  generalize w1'.alloc (.cells #[.int .i64 k, .int .i64 i, .string s, .bool b] 24) = w2 at *
  refine C2.out.mono ?_
  rintro e w2' ⟨rfl, rfl⟩
  clear C1 C2 y0 y1 y2 y3 Hx1 HV1 hbA hb1
  cases f1
  · cases f2 <;> (go_wp2_with fail; go_ret; exact ⟨rfl, hb2⟩)
  cases f2
  · go_wp2_with fail
    go_ret
    exact ⟨rfl, hb2⟩
  have hF1 : FewV vs := tr_iff.1 Hf1.out.symm
  have hF2 : s.size ≤ 300 := (few1 _).1 (tr_iff.1 Hf2.out.symm)
  have Hok := Lib.hid (okv_few HV2.out hF1)
  have Hokv := Lib.hid (show Okv ⟨k, i, s, b⟩ from ⟨H1.out, by show s.size ≤ maxLen; unfold maxLen; omega⟩)
  have hm100 : m ≤ 100 := by rw [Hm.out]; exact hF1.1
  have Hdis := Lib.hid fun n => dis_adds (k := lm) (vs.take n) (dis_nil lm)
  have Hall := Lib.hid fun n => adds_all (P := Okv) (k := lm) (l := []) (vs.take n) (by simp) fun x hx => Hok.out x (List.mem_of_mem_take hx)
  have Hlen := Lib.hid fun n => adds_len lm [] (vs.take n)
  clear hF1 hF2 Hf1 Hf2
  go_wp2_with fail
  refine (I.new_ lm w2').mono ?_
  rintro e w3 ⟨dd, G3, rfl, hD3, hB3, hG3⟩
  have I0 := Lib.hid (show Both D w2' w3 dd lm (adds lm [] (vs.take 0)) none 0 0 G3 from ⟨by rw [List.take_zero]; exact hD3, hG3, by rw [List.take_zero]; exact Wd.Vs.none_ _, fun a h => (by cases h), hB3⟩)
  clear hD3 hB3 hG3
  go_wp2
  go_loopw [13, 14] (fun rv j wr => ∃ (n : Nat) (A : Option Addr) (q c : Nat) (G : Nat → Prop), j = .int .i64 n ∧ n ≤ m ∧ rv = .slice A q c ∧ Hid (Both D w2' wr dd lm (adds lm [] (vs.take n)) A q c G)) (fun _ j _ => m - (intOf j).toNat)
  case atStart => exact ⟨0, none, 0, 0, G3, rfl, Nat.zero_le _, rfl, I0⟩
  case round =>
    obtain ⟨n, A, q, c, G, rfl, hn, rfl, hB⟩ := hrel
    by_cases hlt : n < m
    · have hnl : n < vs.length := by rw [← Hm.out]; exact hlt
      obtain ⟨e, f, hR, heB, d0, d1, d2, d3, hv1⟩ := HV2.out.cells (j := n) hnl rfl
      subst hR
      have Z := Lib.hid fun w' (hb : Below w2'.heap.size w2' w') => (⟨(hb.cell (p := ⟨e, f + n * 4, none⟩) heB).trans d0, (hb.cell (p := ⟨e, f + n * 4 + 1, none⟩) heB).trans d1, (hb.cell (p := ⟨e, f + n * 4 + 2, none⟩) heB).trans d2, (hb.cell (p := ⟨e, f + n * 4 + 3, none⟩) heB).trans d3⟩ : _ ∧ _ ∧ _ ∧ _)
      have hokx := Hok.out _ (getD_mem hnl)
      have hstep := adds_take (k := lm) hnl
      have hdis := Hdis.out n
      have hall := Hall.out n
      obtain ⟨x, hx⟩ : ∃ x, x = vs.getD n default := ⟨_, rfl⟩
      rw [← hx] at Z hokx hstep
      obtain ⟨L, hL⟩ : ∃ L, L = adds lm [] (vs.take n) := ⟨_, rfl⟩
      rw [← hL] at hstep hdis hall hB
      have HB := Lib.hid hB.out
      have Hstep := Lib.hid hstep
      have Hokx := Lib.hid hokx
      have Ca := I.add_ x HB.out.dic hdis hall hokx
      have Cr := fun w hV => refAdd_any A q c L lm x.kind x.i x.s x.b w hV hokx.1
      unfold ag at Ca
      rw [show (⟨x.kind, x.i, x.s, x.b⟩ : Vl) = x from rfl] at Cr
      have hd2 := dis_add hdis x
      obtain ⟨L2, a2, a3, ha⟩ : ∃ L2 a2 a3, add L lm x = (L2, a2, a3) := ⟨_, _, _, rfl⟩
      rw [ha] at Ca Cr hd2
      have Hstep2 := Lib.hid (hstep.trans (by rw [ha]))
      have Ca' := Lib.hid Ca
      have Cr' := Lib.hid Cr
      have Hd2 := Lib.hid hd2
      obtain ⟨z0, z1, z2, z3⟩ := Z.out wr HB.out.bel
      clear d0 d1 d2 d3 hv1 hx hokx hstep hdis hall hL hB Ca Cr ha hd2 hnl Hstep
      go_wp2_with fail
      refine Ca'.out.mono ?_
      rintro q' w4 ⟨rfl, hM4, G4, hD4, hG4⟩
      have hB4 : Below w2'.heap.size w2' w4 := HB.out.bel.trans (hM4.below HB.out.ge HB.out.bel.size)
      have hrow4 := vs_mv HB.out.row (fun a h => (HB.out.out a h).2) hM4
      have HM4 := Lib.hid (And.intro hM4 hG4)
      have HD4 := Lib.hid hD4
      have HB4 := Lib.hid hB4
      have Cr2 := Lib.hid (Cr'.out w4 hrow4)
      clear z0 z1 z2 z3 hM4 hG4 hD4 hrow4 Ca' Cr'
      obtain ⟨z0, z1, z2, z3⟩ := Z.out w4 hB4
      clear hB4
      go_wp2_with fail
      refine Cr2.out.mono ?_
      rintro q' w5 ⟨A5, n5, c5, rfl, hS5, hB5, hA5⟩
      have hD5 := I.below HD4.out hB5
      have hbel5 : Below w2'.heap.size w2' w5 := HB4.out.trans (hB5.mono HB4.out.size)
      have hge5 : ∀ g, G4 g → w2'.heap.size ≤ g := fun g hg => Wd.Gr.ge HB.out.ge HB.out.bel.size g (HM4.out.2 g hg)
      have hout5 : ∀ a, A5 = some a → a.block < w5.heap.size ∧ ¬ G4 a.block := by
        intro a ha
        rcases hA5 with h | h
        · rw [h] at ha
          obtain ⟨p1, p2⟩ := HB.out.out a ha
          refine ⟨Nat.lt_of_lt_of_le p1 (Nat.le_trans HM4.out.1.size hB5.size), fun z => ?_⟩
          rcases HM4.out.2 _ z with y | y
          · exact p2 y
          · omega
        · obtain ⟨p1, p2⟩ := h a ha
          exact ⟨p2, fun z => by have := I.lt HD4.out _ z; omega⟩
      have HBB := Lib.hid (show Both D w2' w5 dd lm L2 A5 n5 c5 G4 from ⟨hD5, hge5, hS5, hout5, hbel5⟩)
      have Cl := Lib.hid (I.len_ hD5 Hd2.out)
      have Hn5 := Lib.hid hS5.len
      clear z0 z1 z2 z3 hD5 hbel5 hge5 hout5 hS5 hB5 hA5 HD4 HM4 HB4 Cr2 HB
      go_wp2_with fail
      refine Cl.out.mono ?_
      rintro q' w6 ⟨rfl, hB6⟩
      have hb := HBB.out
      have HB6 := Lib.hid (show Both D w2' w6 dd lm L2 A5 n5 c5 G4 from ⟨I.below hb.dic hB6, hb.ge, hb.row.below hB6, fun a h => ⟨Nat.lt_of_lt_of_le (hb.out a h).1 hB6.size, (hb.out a h).2⟩, hb.bel.trans (hB6.mono hb.bel.size)⟩)
      have hn5 : (L2.length : Int) = (n5 : Int) := by rw [Hn5.out]
      clear hb hB6 HBB Cl
      go_wp2_with fail
      go_roundw
      case rel => exact ⟨n + 1, A5, n5, c5, G4, by go_num, by omega, rfl, by rw [Hstep2.out]; exact HB6⟩
      case measure => simp [intOf]; omega
    · have hkI : ¬ (n : Int) < m := by omega
      have hnm : n = m := by omega
      have hta : vs.take n = vs := List.take_of_length_le (by rw [hnm, Hm.out]; exact Nat.le_refl _)
      have hdis := Hdis.out n
      have hall := Hall.out n
      have hlen := Hlen.out n
      have hb := hB.out
      rw [hta] at hdis hall hlen hb
      obtain ⟨L, hL⟩ : ∃ L, L = adds lm [] vs := ⟨_, rfl⟩
      rw [← hL] at hdis hall hlen hb
      have hL100 : L.length ≤ 100 := by have := Hm.out; simp at hlen; omega
      have hq := hb.row.len
      have hcq := hb.row.cap
      have Hdis2 := Lib.hid hdis
      have Hall2 := Lib.hid hall
      have HB := Lib.hid hb
      have Hq := Lib.hid hq
      have hq100 : q ≤ 4096 := by omega
      have hx := Hx2.out.below (Wd.Bx.lt Hx2.out) hb.bel
      obtain ⟨⟨y0, y1, y2, y3⟩, -⟩ := Vc.four hx
      have Hx := Lib.hid hx
      have Cf := I.find_ ⟨k, i, s, b⟩ hb.dic hdis hall Hokv.out
      have Cr := fun w hV => refFind_any A q c L k i s b w hV
      unfold ag at Cf
      have hcase : (decide ((⟨k, i, s, b⟩ : Vl) ∈ L) = true ∧ ∃ p : Nat, fnd L ⟨k, i, s, b⟩ = (p : Int) ∧ (if (⟨k, i, s, b⟩ : Vl) ∈ L then fnd L ⟨k, i, s, b⟩ else 0) = (p : Int)) ∨ (decide ((⟨k, i, s, b⟩ : Vl) ∈ L) = false ∧ fnd L ⟨k, i, s, b⟩ = -1 ∧ (if (⟨k, i, s, b⟩ : Vl) ∈ L then fnd L ⟨k, i, s, b⟩ else 0) = 0) := by
        by_cases h : (⟨k, i, s, b⟩ : Vl) ∈ L
        · obtain ⟨p, hp, _⟩ := fnd_some h
          exact .inl ⟨decide_eq_true h, p, hp, by rw [if_pos h, hp]⟩
        · exact .inr ⟨decide_eq_false h, fnd_none h, by rw [if_neg h]⟩
      generalize decide ((⟨k, i, s, b⟩ : Vl) ∈ L) = fb at *
      generalize (if (⟨k, i, s, b⟩ : Vl) ∈ L then fnd L ⟨k, i, s, b⟩ else 0) = fn at *
      generalize fnd L ⟨k, i, s, b⟩ = fd at *
      have Cf := Lib.hid Cf
      have Cr := Lib.hid Cr
      have Hcase := Lib.hid hcase
      clear hcase hx hb hdis hall hlen hL hta hnm hB hq
      go_wp2_with fail
      refine Cf.out.mono ?_
      rintro e w5 ⟨rfl, hB5⟩
      have hx5 := Hx.out.below (Wd.Bx.lt Hx.out) hB5
      have Hrow5 := Lib.hid (HB.out.row.below hB5)
      have HD5 := Lib.hid (I.below HB.out.dic hB5)
      have Hbel5 := Lib.hid (HB.out.bel.trans (hB5.mono HB.out.bel.size))
      clear y0 y1 y2 y3 Cf HB hB5
      obtain ⟨⟨y0, y1, y2, y3⟩, -⟩ := Vc.four hx5
      clear hx5
      go_wp2_with fail
      refine (Cr.out w5 Hrow5.out).mono ?_
      rintro e w6 ⟨rfl, hB6⟩
      have Hrow6 := Lib.hid (Hrow5.out.below hB6)
      have HD6 := Lib.hid (I.below HD5.out hB6)
      have Hbel6 := Lib.hid (Hbel5.out.trans (hB6.mono Hbel5.out.size))
      clear y0 y1 y2 y3 Cr Hrow5 HD5 Hbel5 hB6
      have Ca := I.at_ ix HD6.out Hdis2.out Hall2.out
      unfold ag at Ca
      obtain ⟨⟨xk, xi, xs, xt⟩, hxx⟩ : ∃ x, x = (if 0 ≤ ix ∧ ix < (L.length : Int) then L.getD ix.toNat default else null) := ⟨_, rfl⟩
      rw [← hxx] at Ca
      simp only [] at Ca
      obtain ⟨xb, hxb⟩ : ∃ xb, xb = decide (0 ≤ ix ∧ ix < (L.length : Int)) := ⟨_, rfl⟩
      rw [← hxb] at Ca
      have Ca := Lib.hid Ca
      have Hxx := Lib.hid hxx
      have Hxb := Lib.hid hxb
      clear hxx hxb
      have Cs := Lib.hid fun w hD => I.sorted_ (w := w) (d := dd) (L := L) (k := lm) (G := G) hD Hdis2.out Hall2.out
      have Ct := Lib.hid fun w hV => refSorted_any A q c L w hV (fun x hx => (Hall2.out x hx).2) Hdis2.out.may Hdis2.out.nd hq100
      have heq := fun w => Vc.eqV xk xi xs xt xk xi xs xt w
      have heq0 := fun w => Vc.eqV 0 0 ⟨#[]⟩ false 0 0 ⟨#[]⟩ false w
      rw [decide_eq_true (by simp)] at heq heq0
      have hgt : Try.prog.eqGuardType Try.prog.depth 24 = false := by kernel_rfl
      rcases Hcase.out with ⟨rfl, p, rfl, rfl⟩ | ⟨rfl, rfl, rfl⟩
      all_goals (
        clear Hcase
        go_wp2_with fail
        refine Ca.out.mono ?_
        rintro e w7 ⟨rfl, hB7⟩
        have hB8 : Below w7.heap.size w7 (w7.alloc (.cells #[.int .i64 xk, .int .i64 xi, .string xs, .bool xt] 24)) := (Below.refl _ _).alloc (Nat.le_refl _) _
        have hb68 := hB7.trans (hB8.mono hB7.size)
        have Hrow8 := Lib.hid (Hrow6.out.below hb68)
        have HD8 := Lib.hid (I.below HD6.out hb68)
        have Hbel8 := Lib.hid (Hbel6.out.trans (hb68.mono Hbel6.out.size))
        have x8 : Vc.Vb (w7.alloc (.cells #[.int .i64 xk, .int .i64 xi, .string xs, .bool xt] 24)) w7.heap.size xk xi xs xt := Wd.Bx.new w7 _ _
        obtain ⟨⟨y0, y1, y2, y3⟩, -⟩ := Vc.four x8
        clear x8 hB7 hB8 hb68 Hrow6 HD6 Hbel6 Ca
        by_cases hin : 0 ≤ ix ∧ ix < (q : Int)
        · obtain ⟨j, rfl⟩ : ∃ j : Nat, ix = (j : Int) := ⟨ix.toNat, by omega⟩
          have hjq : j < q := by omega
          have hjl : j < L.length := by rw [← Hq.out]; exact hjq
          have hjI : (j : Int) < (q : Int) := by omega
          have e1 := Hxx.out.trans (if_pos ⟨by omega, by omega⟩)
          rw [Int.toNat_natCast] at e1
          obtain rfl : xb = true := Hxb.out.trans (decide_eq_true ⟨by omega, by omega⟩)
          obtain ⟨e2, f2, hA, heB2, c0, c1, c2, c3, -⟩ := Hrow8.out.cells (j := j) hjl rfl
          rw [← e1] at c0 c1 c2 c3
          simp only [] at c0 c1 c2 c3
          subst hA
          clear hin e1 hjl Hxx Hxb
          go_wp2_with fail
          generalize w7.alloc (.cells #[.int .i64 xk, .int .i64 xi, .string xs, .bool xt] 24) = w8 at *
          go_quiet (fail)
          go_wp2_with fail
          refine (Cs.out _ (I.below HD8.out (Wd.below_drewN (Below.refl _ _) _))).mono ?_
          rintro e w9 ⟨A9, n9, c9, B9, m9, d9, rfl, hV9, hT9, hB9⟩
          have hB9' : Below w8.heap.size w8 w9 := (Wd.below_drewN (Below.refl _ _) _).trans hB9
          have Hr9 := Lib.hid (Hrow8.out.below hB9')
          have hbel9 := Hbel8.out.trans (hB9'.mono Hbel8.out.size)
          clear y0 y1 y2 y3 Cs HD8 Hrow8 Hbel8 hB9
          go_wp2_with fail
          refine (Ct.out w9 Hr9.out).mono ?_
          rintro e w10 ⟨A10, n10, c10, B10, m10, d10, rfl, hV10, hT10, hB10⟩
          have hbel10 := hbel9.trans (hB10.mono hbel9.size)
          have C5 := Sx.sameV_any A9 n9 c9 (srt L) A10 n10 c10 (srt L) w10 (hV9.below hB10) hV10
          rw [tr_yes rfl] at C5
          have C5 := Lib.hid C5
          have HT9 := Lib.hid (hT9.below hB10)
          have HT10 := Lib.hid hT10
          clear hV9 hV10 hT9 hT10 Ct hB9'
          go_wp2_with fail
          refine C5.out.mono ?_
          rintro e w11 ⟨rfl, hB11⟩
          have hbel11 := hbel10.trans (hB11.mono hbel10.size)
          have C6 := Lib.hid (Nc.ints_yes B9 B10 m9 m10 d9 d10 (tos L) (tos L) w11 (HT9.out.below hB11) (HT10.out.below hB11) rfl)
          go_wp2_with fail
          refine C6.out.mono ?_
          rintro e w12 ⟨rfl, hB12⟩
          have hbel12 := hbel11.trans (hB12.mono hbel11.size)
          go_wp2_with fail
          go_ret
          exact ⟨by simp, hb2.trans (hbel12.mono hb2.size)⟩
        · have e1 := Hxx.out.trans (if_neg (by rw [← Hq.out]; exact hin))
          obtain rfl : xb = false := Hxb.out.trans (decide_eq_false (by rw [← Hq.out]; exact hin))
          unfold null at e1
          obtain ⟨rfl, rfl, rfl, rfl⟩ : xk = 0 ∧ xi = 0 ∧ xs = ⟨#[]⟩ ∧ xt = false := by cases e1; exact ⟨rfl, rfl, rfl, rfl⟩
          clear e1 Hxx Hxb
          by_cases hi0 : 0 ≤ ix
          · have hi1 : ¬ ix < (q : Int) := fun z => hin ⟨hi0, z⟩
            have hd1 : decide (ix < (q : Int)) = false := decide_eq_false hi1
            clear hin
            go_wp2_with fail
            generalize w7.alloc (.cells #[.int .i64 0, .int .i64 0, .string ⟨#[]⟩, .bool false] 24) = w8 at *
            go_quiet (fail)
            go_wp2_with fail
            refine (Cs.out _ (I.below HD8.out (Wd.below_drewN (Below.refl _ _) _))).mono ?_
            rintro e w9 ⟨A9, n9, c9, B9, m9, d9, rfl, hV9, hT9, hB9⟩
            have hB9' : Below w8.heap.size w8 w9 := (Wd.below_drewN (Below.refl _ _) _).trans hB9
            have Hr9 := Lib.hid (Hrow8.out.below hB9')
            have hbel9 := Hbel8.out.trans (hB9'.mono Hbel8.out.size)
            clear y0 y1 y2 y3 Cs HD8 Hrow8 Hbel8 hB9
            go_wp2_with fail
            refine (Ct.out w9 Hr9.out).mono ?_
            rintro e w10 ⟨A10, n10, c10, B10, m10, d10, rfl, hV10, hT10, hB10⟩
            have hbel10 := hbel9.trans (hB10.mono hbel9.size)
            have C5 := Sx.sameV_any A9 n9 c9 (srt L) A10 n10 c10 (srt L) w10 (hV9.below hB10) hV10
            rw [tr_yes rfl] at C5
            have C5 := Lib.hid C5
            have HT9 := Lib.hid (hT9.below hB10)
            have HT10 := Lib.hid hT10
            clear hV9 hV10 hT9 hT10 Ct hB9'
            go_wp2_with fail
            refine C5.out.mono ?_
            rintro e w11 ⟨rfl, hB11⟩
            have hbel11 := hbel10.trans (hB11.mono hbel10.size)
            have C6 := Lib.hid (Nc.ints_yes B9 B10 m9 m10 d9 d10 (tos L) (tos L) w11 (HT9.out.below hB11) (HT10.out.below hB11) rfl)
            go_wp2_with fail
            refine C6.out.mono ?_
            rintro e w12 ⟨rfl, hB12⟩
            have hbel12 := hbel11.trans (hB12.mono hbel11.size)
            go_wp2_with fail
            go_ret
            exact ⟨by simp, hb2.trans (hbel12.mono hb2.size)⟩
          · have hd0 : decide ((0 : Int) ≤ ix) = false := decide_eq_false hi0
            clear hin
            go_wp2_with fail
            generalize w7.alloc (.cells #[.int .i64 0, .int .i64 0, .string ⟨#[]⟩, .bool false] 24) = w8 at *
            go_quiet (fail)
            go_wp2_with fail
            refine (Cs.out _ (I.below HD8.out (Wd.below_drewN (Below.refl _ _) _))).mono ?_
            rintro e w9 ⟨A9, n9, c9, B9, m9, d9, rfl, hV9, hT9, hB9⟩
            have hB9' : Below w8.heap.size w8 w9 := (Wd.below_drewN (Below.refl _ _) _).trans hB9
            have Hr9 := Lib.hid (Hrow8.out.below hB9')
            have hbel9 := Hbel8.out.trans (hB9'.mono Hbel8.out.size)
            clear y0 y1 y2 y3 Cs HD8 Hrow8 Hbel8 hB9
            go_wp2_with fail
            refine (Ct.out w9 Hr9.out).mono ?_
            rintro e w10 ⟨A10, n10, c10, B10, m10, d10, rfl, hV10, hT10, hB10⟩
            have hbel10 := hbel9.trans (hB10.mono hbel9.size)
            have C5 := Sx.sameV_any A9 n9 c9 (srt L) A10 n10 c10 (srt L) w10 (hV9.below hB10) hV10
            rw [tr_yes rfl] at C5
            have C5 := Lib.hid C5
            have HT9 := Lib.hid (hT9.below hB10)
            have HT10 := Lib.hid hT10
            clear hV9 hV10 hT9 hT10 Ct hB9'
            go_wp2_with fail
            refine C5.out.mono ?_
            rintro e w11 ⟨rfl, hB11⟩
            have hbel11 := hbel10.trans (hB11.mono hbel10.size)
            have C6 := Lib.hid (Nc.ints_yes B9 B10 m9 m10 d9 d10 (tos L) (tos L) w11 (HT9.out.below hB11) (HT10.out.below hB11) rfl)
            go_wp2_with fail
            refine C6.out.mono ?_
            rintro e w12 ⟨rfl, hB12⟩
            have hbel12 := hbel11.trans (hB12.mono hbel11.size)
            go_wp2_with fail
            go_ret
            exact ⟨by simp, hb2.trans (hbel12.mono hb2.size)⟩)
end Lw
end Go.Proofs.Ytiokajaadmfohaa
