/- The walk of the statement DictOrder of layer 8. -/
import Derived.Test.YtiokajaadmfohaaDcLawB
namespace Go.Proofs.Ytiokajaadmfohaa
set_option maxRecDepth 20000
open Go.RowKit
namespace Dx
open Va (Vl May ord null)
open Sc (tr tr_yes tr_no tr_iff)
open Dc
/-- Two dictionaries, apart. -/
structure Pair (D : World → Nat → List Vl → Int → (Nat → Prop) → Prop) (wo w : World) (a b : Nat) (k : Int) (La Lb : List Vl) (Ga Gb : Nat → Prop) : Prop where
  da : D w a La k Ga
  db : D w b Lb k Gb
  ga : ∀ g, Ga g → wo.heap.size ≤ g
  gb : ∀ g, Gb g → wo.heap.size ≤ g
  dis : ∀ g, Ga g → ¬ Gb g
  bel : Below wo.heap.size wo w
variable {D : World → Nat → List Vl → Int → (Nat → Prop) → Prop}
theorem Pair.below (I : Ifc D) {wo w w' : World} {a b : Nat} {k : Int} {La Lb : List Vl} {Ga Gb : Nat → Prop} (h : Pair D wo w a b k La Lb Ga Gb) (hb : Below w.heap.size w w') : Pair D wo w' a b k La Lb Ga Gb :=
  ⟨I.below h.da hb, I.below h.db hb, h.ga, h.gb, h.dis, h.bel.trans (hb.mono h.bel.size)⟩
theorem Pair.swap {wo w : World} {a b : Nat} {k : Int} {La Lb : List Vl} {Ga Gb : Nat → Prop} (h : Pair D wo w a b k La Lb Ga Gb) : Pair D wo w b a k Lb La Gb Ga :=
  ⟨h.db, h.da, h.gb, h.ga, fun g x y => h.dis g y x, h.bel⟩
/-- The first of the two has turned. -/
theorem Pair.turn (I : Ifc D) {wo w w' : World} {a b : Nat} {k : Int} {La Lb La' : List Vl} {Ga Gb Ga' : Nat → Prop} (h : Pair D wo w a b k La Lb Ga Gb) (hm : Wd.Mv Ga w w') (hd : D w' a La' k Ga') (hg : ∀ g, Ga' g → Wd.Gr Ga w w' g) : Pair D wo w' a b k La' Lb Ga' Gb :=
  ⟨hd, I.keep h.db hm.size fun g x => hm.keep g (I.lt h.db g x) fun y => h.dis g y x, fun g x => Wd.Gr.ge h.ga h.bel.size g (hg g x), h.gb, fun g x y => by
    rcases hg g x with z | z
    · exact h.dis g z y
    · have := I.lt h.db g y; omega, h.bel.trans (hm.below h.ga h.bel.size)⟩
end Dx
namespace Lw
open Dx Dc
open Va (Vl May ord null)
open Sc (tr tr_yes tr_no tr_iff)
variable {D : World → Nat → List Vl → Int → (Nat → Prop) → Prop}
set_option maxHeartbeats 16000000 in
theorem dictOrder_walk (I : Ifc D) (R : Option Addr) (m d : Nat) (vs : List Vl) (w : World) (hV : Wd.Vs w R m d vs) :
    Calls Try.prog 7 #[.slice R m d] w fun e w' => e = .returned (.bool true) ∧ Below w.heap.size w w' := by
  have HV := Lib.hid hV
  have Hm := Lib.hid hV.len
  have hcap := hV.cap
  clear hV
  obtain ⟨f1, hf1⟩ : ∃ f, f = tr (FewV vs) := ⟨_, rfl⟩
  have Hf1 := Lib.hid hf1
  clear hf1
  go_enter Try.func7, Try.ntmps7
  go_wp2_with fail
  refine (awake_any I w).mono ?_
  rintro e w1 ⟨rfl, hB1⟩
  have HV1 := Lib.hid (HV.out.below hB1)
  have C1 := few_any R m d vs w1 HV1.out
  rw [← Hf1.out] at C1
  have C1 := Lib.hid C1
  clear HV
  go_wp2_with fail
  refine C1.out.mono ?_
  rintro e w1' ⟨rfl, rfl⟩
  clear C1
  cases f1
  · go_wp2_with fail
    go_ret
    exact ⟨rfl, hB1⟩
  have hF1 : FewV vs := tr_iff.1 Hf1.out.symm
  have Hok := Lib.hid (okv_few HV1.out hF1)
  have hm100 : m ≤ 100 := by rw [Hm.out]; exact hF1.1
  have Hdis := Lib.hid fun n => dis_adds (k := 4096) (vs.take n) (dis_nil 4096)
  have Hall := Lib.hid fun n => adds_all (P := Okv) (k := 4096) (l := []) (vs.take n) (by simp) fun x hx => Hok.out x (List.mem_of_mem_take hx)
  have Hdis' := Lib.hid fun n => dis_adds (k := 4096) (vs.reverse.take n) (dis_nil 4096)
  have Hall' := Lib.hid fun n => adds_all (P := Okv) (k := 4096) (l := []) (vs.reverse.take n) (by simp) fun x hx => Hok.out x (List.mem_reverse.1 (List.mem_of_mem_take hx))
  clear hF1 Hf1
  go_wp2_with fail
  refine (I.new_ 4096 w1').mono ?_
  rintro e w2 ⟨a, Ga, rfl, hDa, hB2, hGa⟩
  go_wp2_with fail
  refine (I.new_ 4096 w2).mono ?_
  rintro e w3 ⟨b, Gb, rfl, hDb, hB3, hGb⟩
  have I0 := Lib.hid (show Pair D w1' w3 a b 4096 (adds 4096 [] (vs.take 0)) (adds 4096 [] (vs.reverse.take 0)) Ga Gb from
    ⟨by rw [List.take_zero]; exact I.below hDa hB3, by rw [List.take_zero]; exact hDb, hGa, fun g x => Nat.le_trans hB2.size (hGb g x), fun g x y => by have := I.lt hDa g x; have := hGb g y; omega, hB2.trans (hB3.mono hB2.size)⟩)
  clear hDa hDb hB2 hB3 hGa hGb
  go_wp2
  go_loopw [7] (fun j wr => ∃ (n : Nat) (Ga Gb : Nat → Prop), j = .int .i64 n ∧ n ≤ m ∧ Hid (Pair D w1' wr a b 4096 (adds 4096 [] (vs.take n)) (adds 4096 [] (vs.reverse.take n)) Ga Gb)) (fun j _ => m - (intOf j).toNat)
  case atStart => exact ⟨0, Ga, Gb, rfl, Nat.zero_le _, I0⟩
  case round =>
    obtain ⟨n, Ga, Gb, rfl, hn, hB⟩ := hrel
    by_cases hlt : n < m
    · have hnl : n < vs.length := by rw [← Hm.out]; exact hlt
      have hnr : n < vs.reverse.length := by rw [List.length_reverse]; exact hnl
      have hjl : m - 1 - n < vs.length := by have := Hm.out; omega
      obtain ⟨e, f, hR, heB, d0, d1, d2, d3, hv1⟩ := HV1.out.cells (j := n) hnl rfl
      subst hR
      obtain ⟨e', f', hR', heB', u0, u1, u2, u3, hu1⟩ := HV1.out.cells (j := m - 1 - n) hjl rfl
      obtain ⟨rfl, rfl⟩ : e = e' ∧ f = f' := by cases hR'; exact ⟨rfl, rfl⟩
      have Z := Lib.hid fun w' (hb : Below w1'.heap.size w1' w') => (⟨(hb.cell (p := ⟨e, f + n * 4, none⟩) heB).trans d0, (hb.cell (p := ⟨e, f + n * 4 + 1, none⟩) heB).trans d1, (hb.cell (p := ⟨e, f + n * 4 + 2, none⟩) heB).trans d2, (hb.cell (p := ⟨e, f + n * 4 + 3, none⟩) heB).trans d3⟩ : _ ∧ _ ∧ _ ∧ _)
      obtain ⟨j, hj⟩ : ∃ j, j = m - 1 - n := ⟨_, rfl⟩
      have hwj0 : (m : Int) - 1 - (n : Int) = (j : Int) := by omega
      have hwj1 : IntKind.i64.wrap ((m : Int) - 1) = (m : Int) - 1 := IntWalk.i64_in _ (by omega)
      have hwj2 : IntKind.i64.wrap ((m : Int) - 1 - (n : Int)) = (j : Int) := by rw [hwj0]; exact IntWalk.i64_in _ (by omega)
      have hjI : (j : Int) < (m : Int) := by omega
      rw [← hj] at u0 u1 u2 u3
      have Y := Lib.hid fun w' (hb : Below w1'.heap.size w1' w') => (⟨(hb.cell (p := ⟨e, f + j * 4, none⟩) heB).trans u0, (hb.cell (p := ⟨e, f + j * 4 + 1, none⟩) heB).trans u1, (hb.cell (p := ⟨e, f + j * 4 + 2, none⟩) heB).trans u2, (hb.cell (p := ⟨e, f + j * 4 + 3, none⟩) heB).trans u3⟩ : _ ∧ _ ∧ _ ∧ _)
      have hrev : vs.reverse.getD n default = vs.getD j default := by
        rw [List.getD_eq_getElem?_getD, List.getD_eq_getElem?_getD, List.getElem?_reverse hnl, hj, Hm.out]
      have hokx := Hok.out _ (getD_mem hnl)
      have hoky := Hok.out _ (getD_mem (by rw [← hj] at hjl; exact hjl))
      have hstep := adds_take (k := 4096) hnl
      have hstep' := adds_take (k := 4096) hnr
      rw [hrev] at hstep'
      have hdis := Hdis.out n
      have hall := Hall.out n
      have hdis' := Hdis'.out n
      have hall' := Hall'.out n
      obtain ⟨x, hx⟩ : ∃ x, x = vs.getD n default := ⟨_, rfl⟩
      rw [← hx] at Z hokx hstep
      obtain ⟨y, hy⟩ : ∃ y, y = vs.getD j default := ⟨_, rfl⟩
      rw [← hy] at Y hoky hstep'
      obtain ⟨La, hLa⟩ : ∃ L, L = adds 4096 [] (vs.take n) := ⟨_, rfl⟩
      rw [← hLa] at hstep hdis hall hB
      obtain ⟨Lb, hLb⟩ : ∃ L, L = adds 4096 [] (vs.reverse.take n) := ⟨_, rfl⟩
      rw [← hLb] at hstep' hdis' hall' hB
      have HB := Lib.hid hB.out
      have Ca := I.add_ x HB.out.da hdis hall hokx
      have Cb := fun w G h => I.add_ (w := w) (d := b) (L := Lb) (k := 4096) (G := G) y h hdis' hall' hoky
      have hnum := add_num (l := La) (k := 4096) (v := x)
      have hd2 := dis_add hdis x
      unfold ag at Ca Cb
      obtain ⟨L2, a2, a3, ha⟩ : ∃ L2 a2 a3, add La 4096 x = (L2, a2, a3) := ⟨_, _, _, rfl⟩
      rw [ha] at Ca hstep hnum hd2
      obtain ⟨M2, b2, b3, hb'⟩ : ∃ L2 a2 a3, add Lb 4096 y = (L2, a2, a3) := ⟨_, _, _, rfl⟩
      rw [hb'] at Cb hstep'
      clear hwj0
      have Ca' := Lib.hid Ca
      have Cb' := Lib.hid Cb
      have Hstep := Lib.hid hstep
      have Hstep' := Lib.hid hstep'
      have Hnum := Lib.hid hnum
      have Hd2 := Lib.hid hd2
      obtain ⟨z0, z1, z2, z3⟩ := Z.out wr HB.out.bel
      clear d0 d1 d2 d3 u0 u1 u2 u3 hv1 hu1 hx hy hokx hoky hstep hstep' hdis hall hdis' hall' hLa hLb hB Ca Cb ha hb' hnl hnr hjl hj hrev hnum hd2 hR'
      go_wp2_with fail
      refine Ca'.out.mono ?_
      rintro q' w4 ⟨rfl, hM4, G4, hD4, hG4⟩
      have HB4 := Lib.hid (HB.out.turn I hM4 hD4 hG4)
      clear z0 z1 z2 z3 hM4 hD4 hG4 Ca' HB
      obtain ⟨z0, z1, z2, z3⟩ := Y.out w4 HB4.out.bel
      go_wp2_with fail
      refine (Cb'.out w4 _ HB4.out.db).mono ?_
      rintro q' w5 ⟨rfl, hM5, G5, hD5, hG5⟩
      have HB5 := Lib.hid (HB4.out.swap.turn I hM5 hD5 hG5).swap
      clear z0 z1 z2 z3 hM5 hD5 hG5 Cb' HB4
      by_cases he : a3 = 0
      · obtain ⟨p, hp1, hp2⟩ := Hnum.out he
        (try simp only [] at hp1 hp2)
        subst he hp1
        have hpl : p < L2.length := (List.getElem?_eq_some_iff.1 hp2).1
        have hpI : (p : Int) < (L2.length : Int) := by omega
        have Cl := Lib.hid (I.len_ HB5.out.da Hd2.out)
        clear hp2 hpl Hnum
        go_wp2_with fail
        refine Cl.out.mono ?_
        rintro q' w6 ⟨rfl, hB6⟩
        have HB6 := Lib.hid (HB5.out.below I hB6)
        clear HB5 hB6 Cl
        go_wp2_with fail
        go_roundw
        case rel => exact ⟨n + 1, G4, G5, by go_num, by omega, by rw [Hstep.out, Hstep'.out]; exact HB6⟩
        case measure => simp [intOf]; omega
      · have he' : (a3 == 0) = false := by simpa using he
        clear he Hnum
        go_wp2_with fail
        go_roundw
        case rel => exact ⟨n + 1, G4, G5, by go_num, by omega, by rw [Hstep.out, Hstep'.out]; exact HB5⟩
        case measure => simp [intOf]; omega
    · have hkI : ¬ (n : Int) < m := by omega
      have hnm : n = m := by omega
      have hta : vs.take n = vs := List.take_of_length_le (by rw [hnm, Hm.out]; exact Nat.le_refl _)
      have htb : vs.reverse.take n = vs.reverse := List.take_of_length_le (by rw [List.length_reverse, hnm, Hm.out]; exact Nat.le_refl _)
      have hdis := Hdis.out n
      have hall := Hall.out n
      have hdis' := Hdis'.out n
      have hall' := Hall'.out n
      have hb := hB.out
      have hturn := srt_turn (k := 4096) (vs := vs) (by have := Hm.out; show (vs.length : Int) ≤ 4096; omega)
      rw [hta] at hdis hall hb
      rw [htb] at hdis' hall' hb
      obtain ⟨La, hLa⟩ : ∃ L, L = adds 4096 [] vs := ⟨_, rfl⟩
      rw [← hLa] at hdis hall hb hturn
      obtain ⟨Lb, hLb⟩ : ∃ L, L = adds 4096 [] vs.reverse := ⟨_, rfl⟩
      rw [← hLb] at hdis' hall' hb hturn
      have hlen : La.length = Lb.length := by rw [← srt_len La, ← srt_len Lb, hturn]
      have hlm : (La.length : Int) ≤ 4096 := hdis.len
      have Hlen := Lib.hid hlen
      have Hturn := Lib.hid hturn
      have HB := Lib.hid hb
      have Hd := Lib.hid hdis
      have Ha := Lib.hid hall
      have Hd' := Lib.hid hdis'
      have Ha' := Lib.hid hall'
      have Cs := Lib.hid (I.sorted_ hb.da hdis hall)
      clear hta htb hdis hall hdis' hall' hb hturn hLa hLb hlen hnm hB
      go_wp2_with fail
      refine Cs.out.mono ?_
      rintro e w4 ⟨A4, n4, c4, B4, m4, d4, rfl, hV4, hT4, hB4⟩
      have HB4 := Lib.hid (HB.out.below I hB4)
      have HV4 := Lib.hid hV4
      have Cs' := Lib.hid (I.sorted_ HB4.out.db Hd'.out Ha'.out)
      clear hV4 hT4 hB4 HB Cs
      go_wp2_with fail
      refine Cs'.out.mono ?_
      rintro e w5 ⟨A5, n5, c5, B5, m5, d5, rfl, hV5, hT5, hB5⟩
      have HB5 := Lib.hid (HB4.out.below I hB5)
      have HV4' := Lib.hid (HV4.out.below hB5)
      have HV5 := Lib.hid hV5
      clear hV5 hT5 hB5 HB4 HV4 Cs'
      go_wp2
      go_loopw [14] (fun j wr => ∃ q : Nat, j = .int .i64 q ∧ q ≤ La.length ∧ Below w5.heap.size w5 wr) (fun j _ => La.length - (intOf j).toNat)
      case atStart => exact ⟨0, rfl, Nat.zero_le _, Below.refl _ _⟩
      case round =>
        obtain ⟨q, rfl, hq, hB⟩ := hrel
        have HBr := Lib.hid (HB5.out.below I hB)
        have Cl := Lib.hid (I.len_ HBr.out.da Hd.out)
        go_wp2_with fail
        refine Cl.out.mono ?_
        rintro e w6 ⟨rfl, hB6⟩
        have HB6 := Lib.hid (HBr.out.below I hB6)
        have hb6 := hB.trans (hB6.mono hB.size)
        clear HBr hB6 Cl hB
        by_cases hql : q < La.length
        · have hqI : (q : Int) < (La.length : Int) := by omega
          have Ca := I.at_ (q : Int) HB6.out.da Hd.out Ha.out
          rw [if_pos ⟨by omega, hqI⟩, decide_eq_true ⟨by omega, hqI⟩, Int.toNat_natCast] at Ca
          have hx1 := Ha.out _ (getD_mem hql)
          have hx2 := getD_mem hql
          have hx3 := fnd_at Hd.out.nd (getD_at hql)
          obtain ⟨⟨xk, xi, xs, xt⟩, hx⟩ : ∃ x, x = La.getD q default := ⟨_, rfl⟩
          rw [← hx] at Ca hx1 hx2 hx3
          have Cf := fun w h => I.find_ (w := w) (d := a) (L := La) (k := 4096) (G := Ga) ⟨xk, xi, xs, xt⟩ h Hd.out Ha.out hx1
          rw [if_pos hx2, decide_eq_true hx2, hx3] at Cf
          unfold ag at Ca Cf
          simp only [] at Ca Cf
          have Ca := Lib.hid Ca
          have Cf := Lib.hid Cf
          clear hx hx1 hx2 hx3
          go_wp2_with fail
          refine Ca.out.mono ?_
          rintro e w7 ⟨rfl, hB7⟩
          have hB8 : Below w7.heap.size w7 (w7.alloc (.cells #[.int .i64 xk, .int .i64 xi, .string xs, .bool xt] 24)) := (Below.refl _ _).alloc (Nat.le_refl _) _
          have hB68 := hB7.trans (hB8.mono hB7.size)
          have HB8 := Lib.hid (HB6.out.below I hB68)
          have hb8 := hb6.trans (hB68.mono hb6.size)
          have x8 : Vc.Vb (w7.alloc (.cells #[.int .i64 xk, .int .i64 xi, .string xs, .bool xt] 24)) w7.heap.size xk xi xs xt := Wd.Bx.new w7 _ _
          obtain ⟨⟨y0, y1, y2, y3⟩, -⟩ := Vc.four x8
          clear hB7 hB8 hB68 x8 HB6 hb6
          go_wp2_with fail
          generalize w7.alloc (.cells #[.int .i64 xk, .int .i64 xi, .string xs, .bool xt] 24) = w8 at *
          refine (Cf.out w8 HB8.out.da).mono ?_
          rintro e w9 ⟨rfl, hB9⟩
          have hb9 := hb8.trans (hB9.mono hb8.size)
          clear y0 y1 y2 y3 hB9 hb8
          go_wp2_with fail
          go_roundw
          case rel => exact ⟨q + 1, by go_num, by omega, hb9⟩
          case measure => simp [intOf]; omega
        · have hqI : ¬ (q : Int) < (La.length : Int) := by omega
          have Cl := Lib.hid (I.len_ HB6.out.da Hd.out)
          go_wp2_with fail
          refine Cl.out.mono ?_
          rintro e w7 ⟨rfl, hB7⟩
          have HB7 := Lib.hid (HB6.out.below I hB7)
          have hb7 := hb6.trans (hB7.mono hb6.size)
          have Cl' := I.len_ HB7.out.db Hd'.out
          rw [← Hlen.out] at Cl'
          have Cl' := Lib.hid Cl'
          clear hB7 HB6 hb6 Cl
          go_wp2_with fail
          refine Cl'.out.mono ?_
          rintro e w8 ⟨rfl, hB8⟩
          have hb8 := hb7.trans (hB8.mono hb7.size)
          have C5 := Sx.sameV_any A4 n4 c4 (srt La) A5 n5 c5 (srt Lb) w8 (HV4'.out.below hb8) (HV5.out.below hb8)
          rw [tr_yes Hturn.out] at C5
          have C5 := Lib.hid C5
          go_wp2_with fail
          refine C5.out.mono ?_
          rintro e w9 ⟨rfl, hB9⟩
          have hb9 := hb8.trans (hB9.mono hb8.size)
          go_wp2_with fail
          go_ret
          exact ⟨rfl, hB1.trans ((HB5.out.bel.trans (hb9.mono HB5.out.bel.size)).mono hB1.size)⟩
end Lw
end Go.Proofs.Ytiokajaadmfohaa
