/- The walk of the statement ColumnBuilds of layer 10. -/
import Derived.Test.YtnhgijlhnamolaaDoorPk29
import Derived.Test.YtnhgijlhnamolaaDoorPk20
namespace Go.Proofs.YtnhgijlhnamolaaDoor
set_option maxRecDepth 20000
open Go.RowKit
namespace Lw
open Va (Vl May ord null)
open Sc (tr tr_yes tr_no tr_iff)
open Co Cx
set_option maxHeartbeats 8000000 in
theorem columnBuilds_walk (A : Option Addr) (n c : Nat) (l : List Vl) (w : World) (hV : Wd.Vs w A n c l) (hT : Bi.Tab w) :
    Calls Tryd.prog 3 #[.slice A n c] w fun e w' => e = .returned (.bool true) ∧ Below w.heap.size w w' := by
  have HV := Lib.hid hV
  have HT := Lib.hid hT
  obtain ⟨f, hf⟩ : ∃ f, f = tr (FewC l) := ⟨_, rfl⟩
  have Hf := Lib.hid hf
  clear hf hV hT
  go_enter Tryd.func3, Tryd.ntmps3
  go_wp2_with fail
  refine (Cx.awake_any w HT.out).mono ?_
  rintro e w1 ⟨rfl, hb1⟩
  have Cf := few_any A n c l w1 (HV.out.below hb1)
  rw [← Hf.out] at Cf
  have CF := Lib.hid Cf
  clear Cf
  go_wp2_with fail
  refine CF.out.mono ?_
  rintro e w1' ⟨rfl, hq⟩
  have hq' := hq.symm
  clear hq
  subst hq'
  clear CF
  cases f with
  | false =>
    go_wp2_with fail
    go_ret
    exact ⟨rfl, hb1⟩
  | true =>
  have hs := few_size (tr_iff.1 Hf.out.symm)
  obtain ⟨⟨⟨N, D, I⟩, er⟩, hR⟩ : ∃ R, R = build l := ⟨_, rfl⟩
  have C1 := cbuild_any A n c l w1 (HV.out.below hb1) hs
  have C2 := fun w' (hb : Below w.heap.size w w') => refBuild_any A n c l w' (HV.out.below hb) hs
  rw [← hR] at C1
  rw [← hR] at C2
  have C1' := Lib.hid C1
  have C2' := Lib.hid C2
  have Hb1 := Lib.hid hb1
  have he5 : (er == er) = true := beq_self_eq_true er
  clear C1 C2 hs hR hb1
  go_wp2_with fail
  refine C1'.out.mono ?_
  rintro e w2 ⟨A1, n1, c1, B1, m1, d1, he, hCl, hB2⟩
  replace he : e = .returned (.tuple #[.agg #[.int .i64 N, .slice A1 n1 c1, .slice B1 m1 d1], .int .i64 er]) := he
  subst he
  have x2 := Cb.new w2 N A1 n1 c1 B1 m1 d1
  have hk2 := (Below.refl w2.heap.size w2).alloc (Nat.le_refl _) (.cells #[.int .i64 N, .slice A1 n1 c1, .slice B1 m1 d1] 27)
  have hb2 := Hb1.out.trans ((hB2.trans (hk2.mono hB2.size)).mono Hb1.out.size)
  have hCl2 := hCl.below hk2
  obtain ⟨wa, hwa⟩ : ∃ wa, wa = w2.alloc (.cells #[.int .i64 N, .slice A1 n1 c1, .slice B1 m1 d1] 27) := ⟨_, rfl⟩
  obtain ⟨b, hbq⟩ : ∃ b, b = w2.heap.size := ⟨_, rfl⟩
  rw [← hwa] at x2 hb2 hCl2
  rw [← hbq] at x2
  have Hwa := Lib.hid hwa
  have Hbq := Lib.hid hbq
  have HCl2 := Lib.hid hCl2
  have C3 := Lib.hid (C2'.out wa hb2)
  have Hb2 := Lib.hid hb2
  clear hB2 hk2 hb2 hCl hCl2 hwa hbq C1' C2'
  go_wp2_with fail
  rw [← Hwa.out, ← Hbq.out]
  go_wp2_with fail
  refine C3.out.mono ?_
  rintro e w3 ⟨A2, n2, c2, B2, m2, d2, he, hCl, hB3⟩
  replace he : e = .returned (.tuple #[.agg #[.int .i64 N, .slice A2 n2 c2, .slice B2 m2 d2], .int .i64 er]) := he
  subst he
  have y2 := x2.below x2.lt hB3
  have hk3 := (Below.refl w3.heap.size w3).alloc (Nat.le_refl _) (.cells #[.int .i64 N, .slice A2 n2 c2, .slice B2 m2 d2] 27)
  have x3 := Cb.new w3 N A2 n2 c2 B2 m2 d2
  have y3 := y2.below y2.lt hk3
  have hbk := hB3.trans (hk3.mono hB3.size)
  have C4 := Lib.hid (sameC_any A1 n1 c1 B1 m1 d1 ⟨N, D, I⟩ A2 n2 c2 B2 m2 d2 ⟨N, D, I⟩ _ (HCl2.out.below hbk) (hCl.below hk3))
  have Hb3 := Lib.hid (Hb2.out.trans (hbk.mono Hb2.out.size))
  have g0 := y3.c0
  have g1 := y3.c1
  have g2 := y3.c2
  have k0 := x3.c0
  have k1 := x3.c1
  have k2 := x3.c2
  clear hB3 hk3 hbk hCl C3
  go_wp2_with fail
  refine C4.out.mono ?_
  rintro e w4 ⟨rfl, hB4⟩
  rw [tr_yes trivial]
  have Hb4 := Lib.hid (Hb3.out.trans (hB4.mono Hb3.out.size))
  go_wp2_with fail
  go_ret
  exact ⟨by first | rfl | rw [he5], Hb4.out⟩
theorem columnBuilds_says (A : Option Addr) (n c : Nat) (l : List Vl) (w : World) (hV : Wd.Vs w A n c l) (hL : laidMetH Tryd.prog Bw.ls w) :
    Calls Tryd.prog 3 #[.slice A n c] w fun e w' => e = .returned (.bool true) ∧ Below w.heap.size w w' :=
  columnBuilds_walk A n c l w hV (Bw.tab_of_laid hL)
end Lw
end Go.Proofs.YtnhgijlhnamolaaDoor
