/- JournalParts: what is applied changes nothing of other partitions; what can't be applied changes nothing. -/
import Derived.Test.YtljgalleiemaaaaPk12
import Derived.Test.YtljgalleiemaaaaPk13
namespace Go.Proofs.Ytljgalleiemaaaa
set_option maxRecDepth 20000
open Go.RowKit
namespace Lw
open Jr
open Jo (En May Wf Rg Pt endOf last app1)
open Wd (Pv Pc Es Lv Bx)
/-- Behind what was applied a partition ends where it did, or further on, unless it was a Drop or a Base. -/
theorem end_grows {j i : Jo.Jn} {x : En} (hl : j.length = 4) (h : Jo.app j x = some i) : May x ∧ (x.kind = 2 ∨ x.kind = 3 ∨ (x.kind = 1 ∧ endOf (j.getD x.part.toNat default) ≤ endOf (i.getD x.part.toNat default))) := by
  unfold Jo.app at h
  split at h
  · rename_i hm
    obtain ⟨r, hr, rfl⟩ := Option.map_eq_some_iff.1 h
    have hp := hm.1
    refine ⟨hm, ?_⟩
    rcases hm.2 with ⟨e, z⟩ | ⟨e, _⟩ | ⟨e, _⟩
    · refine .inr (.inr ⟨e, ?_⟩)
      rw [Jo.getD_set _ _ _ _ (by omega), if_pos rfl]
      unfold app1 at hr
      rw [if_pos e] at hr
      split at hr
      · rename_i c
        cases hr
        rw [Jo.endOf_app]
        omega
      · cases hr
    · exact .inl e
    · exact .inr (.inl e)
  · cases h
theorem other_pt {w w' : World} {p0 p1 p2 p3 q0 q1 q2 q3 : Pv} {j i : Jo.Jn} {x : En} (hj : Jv w p0 p1 p2 p3 j) (hi : Jv w' q0 q1 q2 q3 i) (h : Jo.app j x = some i) {k : Nat} (hk : k < 4) (hx : (k : Int) ≠ x.part) : (sel q0 q1 q2 q3 k).pt = (sel p0 p1 p2 p3 k).pt := by
  have := Jo.app_other h hx
  rw [hj.e, hi.e, pt_sel hk, pt_sel hk] at this
  exact this
set_option maxHeartbeats 8000000 in
theorem journalParts_walk (p0 p1 p2 p3 : Pv) (x : En) (w : World) (hj : Jv w p0 p1 p2 p3 [p0.pt, p1.pt, p2.pt, p3.pt]) :
    Calls Try.prog 5 #[.agg #[.int .i64 p0.g, .int .i64 p0.b, .slice p0.A p0.n p0.c, .int .i64 p1.g, .int .i64 p1.b, .slice p1.A p1.n p1.c, .int .i64 p2.g, .int .i64 p2.b, .slice p2.A p2.n p2.c, .int .i64 p3.g, .int .i64 p3.b, .slice p3.A p3.n p3.c], .agg #[.int .i64 x.kind, .int .i64 x.part, .int .i64 x.id, .int .i64 x.st, .int .i64 x.en, .int .i64 x.size, .int .i64 x.sum]] w fun e w' => e = .returned (.bool true) ∧ Below w.heap.size w w' := by
  obtain ⟨j, ej⟩ : ∃ j, j = [p0.pt, p1.pt, p2.pt, p3.pt] := ⟨_, rfl⟩
  rw [← ej] at hj
  have hj4 : j.length = 4 := by rw [ej]; rfl
  have b1 := alS (alS (Below.refl w.heap.size w) (.cells #[.int .i64 p0.g, .int .i64 p0.b, .slice p0.A p0.n p0.c, .int .i64 p1.g, .int .i64 p1.b, .slice p1.A p1.n p1.c, .int .i64 p2.g, .int .i64 p2.b, .slice p2.A p2.n p2.c, .int .i64 p3.g, .int .i64 p3.b, .slice p3.A p3.n p3.c] 27)) (.cells #[.int .i64 x.kind, .int .i64 x.part, .int .i64 x.id, .int .i64 x.st, .int .i64 x.en, .int .i64 x.size, .int .i64 x.sum] 32)
  have z1 : (w.alloc (.cells #[.int .i64 p0.g, .int .i64 p0.b, .slice p0.A p0.n p0.c, .int .i64 p1.g, .int .i64 p1.b, .slice p1.A p1.n p1.c, .int .i64 p2.g, .int .i64 p2.b, .slice p2.A p2.n p2.c, .int .i64 p3.g, .int .i64 p3.b, .slice p3.A p3.n p3.c] 27)).heap.size = w.heap.size + 1 := by simp
  have jb := (Bx.new w 27 #[.int .i64 p0.g, .int .i64 p0.b, .slice p0.A p0.n p0.c, .int .i64 p1.g, .int .i64 p1.b, .slice p1.A p1.n p1.c, .int .i64 p2.g, .int .i64 p2.b, .slice p2.A p2.n p2.c, .int .i64 p3.g, .int .i64 p3.b, .slice p3.A p3.n p3.c]).alloc (.cells #[.int .i64 x.kind, .int .i64 x.part, .int .i64 x.id, .int .i64 x.st, .int .i64 x.en, .int .i64 x.size, .int .i64 x.sum] 32)
  have xb := Bx.new (w.alloc (.cells #[.int .i64 p0.g, .int .i64 p0.b, .slice p0.A p0.n p0.c, .int .i64 p1.g, .int .i64 p1.b, .slice p1.A p1.n p1.c, .int .i64 p2.g, .int .i64 p2.b, .slice p2.A p2.n p2.c, .int .i64 p3.g, .int .i64 p3.b, .slice p3.A p3.n p3.c] 27)) 32 #[.int .i64 x.kind, .int .i64 x.part, .int .i64 x.id, .int .i64 x.st, .int .i64 x.en, .int .i64 x.size, .int .i64 x.sum]
  rw [z1] at xb
  obtain ⟨w1, hw1⟩ : ∃ w1, w1 = (w.alloc (.cells #[.int .i64 p0.g, .int .i64 p0.b, .slice p0.A p0.n p0.c, .int .i64 p1.g, .int .i64 p1.b, .slice p1.A p1.n p1.c, .int .i64 p2.g, .int .i64 p2.b, .slice p2.A p2.n p2.c, .int .i64 p3.g, .int .i64 p3.b, .slice p3.A p3.n p3.c] 27)).alloc (.cells #[.int .i64 x.kind, .int .i64 x.part, .int .i64 x.id, .int .i64 x.st, .int .i64 x.en, .int .i64 x.size, .int .i64 x.sum] 32) := ⟨_, rfl⟩
  rw [← hw1] at b1 jb xb
  have J1 := Lib.hid (hj.below b1)
  have JB := Lib.hid jb
  have XB := Lib.hid xb
  have B1 := Lib.hid b1
  have Hw1 := Lib.hid hw1
  have H4 := Lib.hid hj4
  have Ca := Lib.hid (awake_any w1)
  clear ej b1 z1 jb xb hw1 hj hj4
  go_enter Try.func5, Try.ntmps5
  go_upto_region 1 with fail
  rw [← Hw1.out]
  go_wp2_with fail
  refine Ca.out.mono ?_
  rintro e w2 ⟨rfl, hB2⟩
  have JB2 := Lib.hid (JB.out.below JB.out.lt hB2)
  have XB2 := Lib.hid (XB.out.below XB.out.lt hB2)
  have B2 := Lib.hid (B1.out.trans (hB2.mono B1.out.size))
  have J2 := Lib.hid (J1.out.below hB2)
  obtain ⟨⟨d0, d1, d2, d3, d4, d5, d6, d7, d8, d9, d10, d11⟩, -⟩ := twelve JB2.out
  have Cf := Lib.hid (few_any p0 p1 p2 p3 w2)
  clear Ca hB2
  go_wp2_with fail
  refine Cf.out.mono ?_
  rintro e w3 ⟨bb, rfl, hbb, hB3⟩
  have JB3 := Lib.hid (JB2.out.below JB2.out.lt hB3)
  have XB3 := Lib.hid (XB2.out.below XB2.out.lt hB3)
  have B3 := Lib.hid (B2.out.trans (hB3.mono B2.out.size))
  have J3 := Lib.hid (J2.out.below hB3)
  have Hbb := Lib.hid hbb
  clear hbb hB3 Cf d0 d1 d2 d3 d4 d5 d6 d7 d8 d9 d10 d11
  cases bb with
  | false =>
    go_wp2_with fail
    go_ret
    exact ⟨rfl, B3.out⟩
  | true =>
    have LN : Hid (Len p0 p1 p2 p3 400000) := Lib.hid (by obtain ⟨a, b, c, d⟩ := Hbb.out rfl; exact ⟨by omega, by omega, by omega, by omega⟩)
    obtain ⟨⟨d0, d1, d2, d3, d4, d5, d6, d7, d8, d9, d10, d11⟩, -⟩ := twelve JB3.out
    obtain ⟨x0, x1, x2, x3, x4, x5, x6⟩ := seven XB3.out
    cases hr : Jo.app j x with
    | none =>
      have Cp := Lib.hid (apply_no p0 p1 p2 p3 j x w3 J3.out LN.out hr)
      have er := appE_none hr
      obtain ⟨z, hz⟩ : ∃ z, z = Jo.appE j x := ⟨_, rfl⟩
      rw [← hz] at er Cp
      have k1 : (z == 0) = false := by simp; omega
      have k2 : (z != 0) = true := by simp; omega
      clear hz er hr
      go_wp2_with fail
      refine Cp.out.mono ?_
      rintro e w4 ⟨rfl, hB4⟩
      have al := alS (B3.out.trans (hB4.mono B3.out.size)) (.cells #[.int .i64 0, .int .i64 0, .slice none 0 0, .int .i64 0, .int .i64 0, .slice none 0 0, .int .i64 0, .int .i64 0, .slice none 0 0, .int .i64 0, .int .i64 0, .slice none 0 0] 27)
      have kb := Bx.new w4 27 #[.int .i64 0, .int .i64 0, .slice none 0 0, .int .i64 0, .int .i64 0, .slice none 0 0, .int .i64 0, .int .i64 0, .slice none 0 0, .int .i64 0, .int .i64 0, .slice none 0 0]
      obtain ⟨w5, hw5⟩ : ∃ w5, w5 = w4.alloc (.cells #[.int .i64 0, .int .i64 0, .slice none 0 0, .int .i64 0, .int .i64 0, .slice none 0 0, .int .i64 0, .int .i64 0, .slice none 0 0, .int .i64 0, .int .i64 0, .slice none 0 0] 27) := ⟨_, rfl⟩
      rw [← hw5] at al kb
      have Cs := same_pt default default default default default default default default w5 rfl rfl rfl rfl (Es.none_ _) (Es.none_ _) (Es.none_ _) (Es.none_ _) (Es.none_ _) (Es.none_ _) (Es.none_ _) (Es.none_ _)
      have Cs : Hid (Calls Try.prog 12 #[.agg #[.int .i64 0, .int .i64 0, .slice none 0 0, .int .i64 0, .int .i64 0, .slice none 0 0, .int .i64 0, .int .i64 0, .slice none 0 0, .int .i64 0, .int .i64 0, .slice none 0 0], .agg #[.int .i64 0, .int .i64 0, .slice none 0 0, .int .i64 0, .int .i64 0, .slice none 0 0, .int .i64 0, .int .i64 0, .slice none 0 0, .int .i64 0, .int .i64 0, .slice none 0 0]] w5 fun e w' => e = .returned (.bool true) ∧ Below w5.heap.size w5 w') := Lib.hid Cs
      have B5 := Lib.hid al
      have Hw5 := Lib.hid hw5
      clear d0 d1 d2 d3 d4 d5 d6 d7 d8 d9 d10 d11
      obtain ⟨⟨d0, d1, d2, d3, d4, d5, d6, d7, d8, d9, d10, d11⟩, -⟩ := twelve kb
      clear al kb hw5 hB4
      go_upto_region 6 with fail
      rw [← Hw5.out]
      go_wp2_with fail
      refine Cs.out.mono ?_
      rintro e w6 ⟨rfl, hB6⟩
      go_wp2_with fail
      go_ret
      exact ⟨rfl, B5.out.trans (hB6.mono B5.out.size)⟩
    | some i =>
      have er := appE_some hr
      have Cp := Lib.hid (apply_yes p0 p1 p2 p3 j i x w3 J3.out LN.out hr er)
      have HG := Lib.hid (end_grows H4.out hr)
      have Hr := Lib.hid hr
      have hp := HG.out.1.1
      have hp0 : 0 ≤ x.part := by omega
      have hp1 : x.part ≤ 3 := by omega
      clear er hr hp
      go_wp2_with fail
      refine Cp.out.mono ?_
      rintro e w4 ⟨q0, q1, q2, q3, rfl, hJ4, hB4⟩
      have hb45 := (Below.refl w4.heap.size w4).alloc (Nat.le_refl _) (.cells #[.int .i64 q0.g, .int .i64 q0.b, .slice q0.A q0.n q0.c, .int .i64 q1.g, .int .i64 q1.b, .slice q1.A q1.n q1.c, .int .i64 q2.g, .int .i64 q2.b, .slice q2.A q2.n q2.c, .int .i64 q3.g, .int .i64 q3.b, .slice q3.A q3.n q3.c] 27)
      have hb35 := hB4.trans (hb45.mono hB4.size)
      have al := alS (B3.out.trans (hB4.mono B3.out.size)) (.cells #[.int .i64 q0.g, .int .i64 q0.b, .slice q0.A q0.n q0.c, .int .i64 q1.g, .int .i64 q1.b, .slice q1.A q1.n q1.c, .int .i64 q2.g, .int .i64 q2.b, .slice q2.A q2.n q2.c, .int .i64 q3.g, .int .i64 q3.b, .slice q3.A q3.n q3.c] 27)
      have kb := Bx.new w4 27 #[.int .i64 q0.g, .int .i64 q0.b, .slice q0.A q0.n q0.c, .int .i64 q1.g, .int .i64 q1.b, .slice q1.A q1.n q1.c, .int .i64 q2.g, .int .i64 q2.b, .slice q2.A q2.n q2.c, .int .i64 q3.g, .int .i64 q3.b, .slice q3.A q3.n q3.c]
      obtain ⟨w5, hw5⟩ : ∃ w5, w5 = w4.alloc (.cells #[.int .i64 q0.g, .int .i64 q0.b, .slice q0.A q0.n q0.c, .int .i64 q1.g, .int .i64 q1.b, .slice q1.A q1.n q1.c, .int .i64 q2.g, .int .i64 q2.b, .slice q2.A q2.n q2.c, .int .i64 q3.g, .int .i64 q3.b, .slice q3.A q3.n q3.c] 27) := ⟨_, rfl⟩
      rw [← hw5] at al kb hb45 hb35
      have B5 := Lib.hid al
      have KB := Lib.hid kb
      have K5 := Lib.hid (hJ4.below hb45)
      have J5 := Lib.hid (J3.out.below hb35)
      have JB5 := Lib.hid (JB3.out.below JB3.out.lt hb35)
      have XB5 := Lib.hid (XB3.out.below XB3.out.lt hb35)
      have Hw5 := Lib.hid hw5
      have h45 : w4.heap.size < w5.heap.size := kb.lt
      clear d0 d1 d2 d3 d4 d5 d6 d7 d8 d9 d10 d11 x0 x1 x2 x3 x4 x5 x6 al kb hb45 hb35 hw5 hB4 hJ4
      go_upto_region 8 with fail
      rw [← Hw5.out]
      go_wp2_with fail
      go_loopw [9, 10, 11, 12] (fun i _ _ _ wr => ∃ k : Nat, i = .int .i64 k ∧ k ≤ 4 ∧ Hid (Below w5.heap.size w5 wr)) (fun i _ _ _ _ => 4 - (intOf i).toNat)
      case atStart => exact ⟨0, rfl, Nat.zero_le _, Lib.hid (Below.refl _ _)⟩
      case round =>
        obtain ⟨k, rfl, hk, hI⟩ := hrel
        have jbr := JB5.out.below JB5.out.lt hI.out
        have xbr := XB5.out.below XB5.out.lt hI.out
        have kbr := KB.out.below KB.out.lt hI.out
        have x1 := xbr.cell 1
        have hjl := jbr.lt
        have hxl := xbr.lt
        have hkl := kbr.lt
        match k, hk with
        | 0, _ =>
          obtain ⟨y0, y1, y2, z0, z1, z2⟩ := And.intro (jbr.cell 0) (And.intro (jbr.cell 1) (And.intro (jbr.cell 2) (And.intro (kbr.cell 0) (And.intro (kbr.cell 1) (kbr.cell 2)))))
          clear jbr xbr kbr
          by_cases hx : (0 : Int) = x.part
          · have t1 : ((0 : Int) == x.part) = true := by simpa using hx
            clear hx
            go_wp2_with fail
            go_roundw
            case rel => exact ⟨1, by go_num, by omega, hI⟩
            case measure => simp [intOf]
          · have t1 : ((0 : Int) == x.part) = false := by simpa using hx
            have ep : q0.pt = p0.pt := other_pt J5.out K5.out Hr.out (k := 0) (by omega) hx
            have br := alS (alS (Below.refl wr.heap.size wr) (.cells #[.int .i64 p0.g, .int .i64 p0.b, .slice p0.A p0.n p0.c, .int .i64 0, .int .i64 0, .slice none 0 0, .int .i64 0, .int .i64 0, .slice none 0 0, .int .i64 0, .int .i64 0, .slice none 0 0] 27)) (.cells #[.int .i64 q0.g, .int .i64 q0.b, .slice q0.A q0.n q0.c, .int .i64 0, .int .i64 0, .slice none 0 0, .int .i64 0, .int .i64 0, .slice none 0 0, .int .i64 0, .int .i64 0, .slice none 0 0] 27)
            have zr : (wr.alloc (.cells #[.int .i64 p0.g, .int .i64 p0.b, .slice p0.A p0.n p0.c, .int .i64 0, .int .i64 0, .slice none 0 0, .int .i64 0, .int .i64 0, .slice none 0 0, .int .i64 0, .int .i64 0, .slice none 0 0] 27)).heap.size = wr.heap.size + 1 := by simp
            have ab := (Bx.new wr 27 #[.int .i64 p0.g, .int .i64 p0.b, .slice p0.A p0.n p0.c, .int .i64 0, .int .i64 0, .slice none 0 0, .int .i64 0, .int .i64 0, .slice none 0 0, .int .i64 0, .int .i64 0, .slice none 0 0]).alloc (.cells #[.int .i64 q0.g, .int .i64 q0.b, .slice q0.A q0.n q0.c, .int .i64 0, .int .i64 0, .slice none 0 0, .int .i64 0, .int .i64 0, .slice none 0 0, .int .i64 0, .int .i64 0, .slice none 0 0] 27)
            have bb := Bx.new (wr.alloc (.cells #[.int .i64 p0.g, .int .i64 p0.b, .slice p0.A p0.n p0.c, .int .i64 0, .int .i64 0, .slice none 0 0, .int .i64 0, .int .i64 0, .slice none 0 0, .int .i64 0, .int .i64 0, .slice none 0 0] 27)) 27 #[.int .i64 q0.g, .int .i64 q0.b, .slice q0.A q0.n q0.c, .int .i64 0, .int .i64 0, .slice none 0 0, .int .i64 0, .int .i64 0, .slice none 0 0, .int .i64 0, .int .i64 0, .slice none 0 0]
            rw [zr] at bb
            obtain ⟨w6, hw6⟩ : ∃ w6, w6 = (wr.alloc (.cells #[.int .i64 p0.g, .int .i64 p0.b, .slice p0.A p0.n p0.c, .int .i64 0, .int .i64 0, .slice none 0 0, .int .i64 0, .int .i64 0, .slice none 0 0, .int .i64 0, .int .i64 0, .slice none 0 0] 27)).alloc (.cells #[.int .i64 q0.g, .int .i64 q0.b, .slice q0.A q0.n q0.c, .int .i64 0, .int .i64 0, .slice none 0 0, .int .i64 0, .int .i64 0, .slice none 0 0, .int .i64 0, .int .i64 0, .slice none 0 0] 27) := ⟨_, rfl⟩
            rw [← hw6] at br ab bb
            have hb6 := hI.out.trans (br.mono hI.out.size)
            have Cs := same_pt p0 default default default q0 default default default w6 ep rfl rfl rfl (J5.out.s0.below hb6) (Es.none_ _) (Es.none_ _) (Es.none_ _) (K5.out.s0.below hb6) (Es.none_ _) (Es.none_ _) (Es.none_ _)
            have Cs : Hid (Calls Try.prog 12 #[.agg #[.int .i64 p0.g, .int .i64 p0.b, .slice p0.A p0.n p0.c, .int .i64 0, .int .i64 0, .slice none 0 0, .int .i64 0, .int .i64 0, .slice none 0 0, .int .i64 0, .int .i64 0, .slice none 0 0], .agg #[.int .i64 q0.g, .int .i64 q0.b, .slice q0.A q0.n q0.c, .int .i64 0, .int .i64 0, .slice none 0 0, .int .i64 0, .int .i64 0, .slice none 0 0, .int .i64 0, .int .i64 0, .slice none 0 0]] w6 fun e w' => e = .returned (.bool true) ∧ Below w6.heap.size w6 w') := Lib.hid Cs
            have HB6 := Lib.hid hb6
            have Hw6 := Lib.hid hw6
            have AB := Lib.hid ab
            have BB := Lib.hid bb
            clear hx br zr ab bb hw6 hb6 ep
            go_upto_region 16 with fail
            rw [← Hw6.out]
            obtain ⟨⟨d0, d1, d2, d3, d4, d5, d6, d7, d8, d9, d10, d11⟩, -⟩ := twelve AB.out
            obtain ⟨⟨f0, f1, f2, f3, f4, f5, f6, f7, f8, f9, f10, f11⟩, -⟩ := twelve BB.out
            clear y0 y1 y2 z0 z1 z2 x1
            go_wp2_with fail
            refine Cs.out.mono ?_
            rintro e w7 ⟨rfl, hB7⟩
            have HB7 := Lib.hid (HB6.out.trans (hB7.mono HB6.out.size))
            clear hB7
            go_wp2_with fail
            go_roundw
            case rel => exact ⟨1, by go_num, by omega, HB7⟩
            case measure => simp [intOf]
        | 1, _ =>
          obtain ⟨y0, y1, y2, z0, z1, z2⟩ := And.intro (jbr.cell 3) (And.intro (jbr.cell 4) (And.intro (jbr.cell 5) (And.intro (kbr.cell 3) (And.intro (kbr.cell 4) (kbr.cell 5)))))
          clear jbr xbr kbr
          by_cases hx : (1 : Int) = x.part
          · have t1 : ((1 : Int) == x.part) = true := by simpa using hx
            clear hx
            go_wp2_with fail
            go_roundw
            case rel => exact ⟨2, by go_num, by omega, hI⟩
            case measure => simp [intOf]
          · have t1 : ((1 : Int) == x.part) = false := by simpa using hx
            have ep : q1.pt = p1.pt := other_pt J5.out K5.out Hr.out (k := 1) (by omega) hx
            have br := alS (alS (Below.refl wr.heap.size wr) (.cells #[.int .i64 p1.g, .int .i64 p1.b, .slice p1.A p1.n p1.c, .int .i64 0, .int .i64 0, .slice none 0 0, .int .i64 0, .int .i64 0, .slice none 0 0, .int .i64 0, .int .i64 0, .slice none 0 0] 27)) (.cells #[.int .i64 q1.g, .int .i64 q1.b, .slice q1.A q1.n q1.c, .int .i64 0, .int .i64 0, .slice none 0 0, .int .i64 0, .int .i64 0, .slice none 0 0, .int .i64 0, .int .i64 0, .slice none 0 0] 27)
            have zr : (wr.alloc (.cells #[.int .i64 p1.g, .int .i64 p1.b, .slice p1.A p1.n p1.c, .int .i64 0, .int .i64 0, .slice none 0 0, .int .i64 0, .int .i64 0, .slice none 0 0, .int .i64 0, .int .i64 0, .slice none 0 0] 27)).heap.size = wr.heap.size + 1 := by simp
            have ab := (Bx.new wr 27 #[.int .i64 p1.g, .int .i64 p1.b, .slice p1.A p1.n p1.c, .int .i64 0, .int .i64 0, .slice none 0 0, .int .i64 0, .int .i64 0, .slice none 0 0, .int .i64 0, .int .i64 0, .slice none 0 0]).alloc (.cells #[.int .i64 q1.g, .int .i64 q1.b, .slice q1.A q1.n q1.c, .int .i64 0, .int .i64 0, .slice none 0 0, .int .i64 0, .int .i64 0, .slice none 0 0, .int .i64 0, .int .i64 0, .slice none 0 0] 27)
            have bb := Bx.new (wr.alloc (.cells #[.int .i64 p1.g, .int .i64 p1.b, .slice p1.A p1.n p1.c, .int .i64 0, .int .i64 0, .slice none 0 0, .int .i64 0, .int .i64 0, .slice none 0 0, .int .i64 0, .int .i64 0, .slice none 0 0] 27)) 27 #[.int .i64 q1.g, .int .i64 q1.b, .slice q1.A q1.n q1.c, .int .i64 0, .int .i64 0, .slice none 0 0, .int .i64 0, .int .i64 0, .slice none 0 0, .int .i64 0, .int .i64 0, .slice none 0 0]
            rw [zr] at bb
            obtain ⟨w6, hw6⟩ : ∃ w6, w6 = (wr.alloc (.cells #[.int .i64 p1.g, .int .i64 p1.b, .slice p1.A p1.n p1.c, .int .i64 0, .int .i64 0, .slice none 0 0, .int .i64 0, .int .i64 0, .slice none 0 0, .int .i64 0, .int .i64 0, .slice none 0 0] 27)).alloc (.cells #[.int .i64 q1.g, .int .i64 q1.b, .slice q1.A q1.n q1.c, .int .i64 0, .int .i64 0, .slice none 0 0, .int .i64 0, .int .i64 0, .slice none 0 0, .int .i64 0, .int .i64 0, .slice none 0 0] 27) := ⟨_, rfl⟩
            rw [← hw6] at br ab bb
            have hb6 := hI.out.trans (br.mono hI.out.size)
            have Cs := same_pt p1 default default default q1 default default default w6 ep rfl rfl rfl (J5.out.s1.below hb6) (Es.none_ _) (Es.none_ _) (Es.none_ _) (K5.out.s1.below hb6) (Es.none_ _) (Es.none_ _) (Es.none_ _)
            have Cs : Hid (Calls Try.prog 12 #[.agg #[.int .i64 p1.g, .int .i64 p1.b, .slice p1.A p1.n p1.c, .int .i64 0, .int .i64 0, .slice none 0 0, .int .i64 0, .int .i64 0, .slice none 0 0, .int .i64 0, .int .i64 0, .slice none 0 0], .agg #[.int .i64 q1.g, .int .i64 q1.b, .slice q1.A q1.n q1.c, .int .i64 0, .int .i64 0, .slice none 0 0, .int .i64 0, .int .i64 0, .slice none 0 0, .int .i64 0, .int .i64 0, .slice none 0 0]] w6 fun e w' => e = .returned (.bool true) ∧ Below w6.heap.size w6 w') := Lib.hid Cs
            have HB6 := Lib.hid hb6
            have Hw6 := Lib.hid hw6
            have AB := Lib.hid ab
            have BB := Lib.hid bb
            clear hx br zr ab bb hw6 hb6 ep
            go_upto_region 16 with fail
            rw [← Hw6.out]
            obtain ⟨⟨d0, d1, d2, d3, d4, d5, d6, d7, d8, d9, d10, d11⟩, -⟩ := twelve AB.out
            obtain ⟨⟨f0, f1, f2, f3, f4, f5, f6, f7, f8, f9, f10, f11⟩, -⟩ := twelve BB.out
            clear y0 y1 y2 z0 z1 z2 x1
            go_wp2_with fail
            refine Cs.out.mono ?_
            rintro e w7 ⟨rfl, hB7⟩
            have HB7 := Lib.hid (HB6.out.trans (hB7.mono HB6.out.size))
            clear hB7
            go_wp2_with fail
            go_roundw
            case rel => exact ⟨2, by go_num, by omega, HB7⟩
            case measure => simp [intOf]
        | 2, _ =>
          obtain ⟨y0, y1, y2, z0, z1, z2⟩ := And.intro (jbr.cell 6) (And.intro (jbr.cell 7) (And.intro (jbr.cell 8) (And.intro (kbr.cell 6) (And.intro (kbr.cell 7) (kbr.cell 8)))))
          clear jbr xbr kbr
          by_cases hx : (2 : Int) = x.part
          · have t1 : ((2 : Int) == x.part) = true := by simpa using hx
            clear hx
            go_wp2_with fail
            go_roundw
            case rel => exact ⟨3, by go_num, by omega, hI⟩
            case measure => simp [intOf]
          · have t1 : ((2 : Int) == x.part) = false := by simpa using hx
            have ep : q2.pt = p2.pt := other_pt J5.out K5.out Hr.out (k := 2) (by omega) hx
            have br := alS (alS (Below.refl wr.heap.size wr) (.cells #[.int .i64 p2.g, .int .i64 p2.b, .slice p2.A p2.n p2.c, .int .i64 0, .int .i64 0, .slice none 0 0, .int .i64 0, .int .i64 0, .slice none 0 0, .int .i64 0, .int .i64 0, .slice none 0 0] 27)) (.cells #[.int .i64 q2.g, .int .i64 q2.b, .slice q2.A q2.n q2.c, .int .i64 0, .int .i64 0, .slice none 0 0, .int .i64 0, .int .i64 0, .slice none 0 0, .int .i64 0, .int .i64 0, .slice none 0 0] 27)
            have zr : (wr.alloc (.cells #[.int .i64 p2.g, .int .i64 p2.b, .slice p2.A p2.n p2.c, .int .i64 0, .int .i64 0, .slice none 0 0, .int .i64 0, .int .i64 0, .slice none 0 0, .int .i64 0, .int .i64 0, .slice none 0 0] 27)).heap.size = wr.heap.size + 1 := by simp
            have ab := (Bx.new wr 27 #[.int .i64 p2.g, .int .i64 p2.b, .slice p2.A p2.n p2.c, .int .i64 0, .int .i64 0, .slice none 0 0, .int .i64 0, .int .i64 0, .slice none 0 0, .int .i64 0, .int .i64 0, .slice none 0 0]).alloc (.cells #[.int .i64 q2.g, .int .i64 q2.b, .slice q2.A q2.n q2.c, .int .i64 0, .int .i64 0, .slice none 0 0, .int .i64 0, .int .i64 0, .slice none 0 0, .int .i64 0, .int .i64 0, .slice none 0 0] 27)
            have bb := Bx.new (wr.alloc (.cells #[.int .i64 p2.g, .int .i64 p2.b, .slice p2.A p2.n p2.c, .int .i64 0, .int .i64 0, .slice none 0 0, .int .i64 0, .int .i64 0, .slice none 0 0, .int .i64 0, .int .i64 0, .slice none 0 0] 27)) 27 #[.int .i64 q2.g, .int .i64 q2.b, .slice q2.A q2.n q2.c, .int .i64 0, .int .i64 0, .slice none 0 0, .int .i64 0, .int .i64 0, .slice none 0 0, .int .i64 0, .int .i64 0, .slice none 0 0]
            rw [zr] at bb
            obtain ⟨w6, hw6⟩ : ∃ w6, w6 = (wr.alloc (.cells #[.int .i64 p2.g, .int .i64 p2.b, .slice p2.A p2.n p2.c, .int .i64 0, .int .i64 0, .slice none 0 0, .int .i64 0, .int .i64 0, .slice none 0 0, .int .i64 0, .int .i64 0, .slice none 0 0] 27)).alloc (.cells #[.int .i64 q2.g, .int .i64 q2.b, .slice q2.A q2.n q2.c, .int .i64 0, .int .i64 0, .slice none 0 0, .int .i64 0, .int .i64 0, .slice none 0 0, .int .i64 0, .int .i64 0, .slice none 0 0] 27) := ⟨_, rfl⟩
            rw [← hw6] at br ab bb
            have hb6 := hI.out.trans (br.mono hI.out.size)
            have Cs := same_pt p2 default default default q2 default default default w6 ep rfl rfl rfl (J5.out.s2.below hb6) (Es.none_ _) (Es.none_ _) (Es.none_ _) (K5.out.s2.below hb6) (Es.none_ _) (Es.none_ _) (Es.none_ _)
            have Cs : Hid (Calls Try.prog 12 #[.agg #[.int .i64 p2.g, .int .i64 p2.b, .slice p2.A p2.n p2.c, .int .i64 0, .int .i64 0, .slice none 0 0, .int .i64 0, .int .i64 0, .slice none 0 0, .int .i64 0, .int .i64 0, .slice none 0 0], .agg #[.int .i64 q2.g, .int .i64 q2.b, .slice q2.A q2.n q2.c, .int .i64 0, .int .i64 0, .slice none 0 0, .int .i64 0, .int .i64 0, .slice none 0 0, .int .i64 0, .int .i64 0, .slice none 0 0]] w6 fun e w' => e = .returned (.bool true) ∧ Below w6.heap.size w6 w') := Lib.hid Cs
            have HB6 := Lib.hid hb6
            have Hw6 := Lib.hid hw6
            have AB := Lib.hid ab
            have BB := Lib.hid bb
            clear hx br zr ab bb hw6 hb6 ep
            go_upto_region 16 with fail
            rw [← Hw6.out]
            obtain ⟨⟨d0, d1, d2, d3, d4, d5, d6, d7, d8, d9, d10, d11⟩, -⟩ := twelve AB.out
            obtain ⟨⟨f0, f1, f2, f3, f4, f5, f6, f7, f8, f9, f10, f11⟩, -⟩ := twelve BB.out
            clear y0 y1 y2 z0 z1 z2 x1
            go_wp2_with fail
            refine Cs.out.mono ?_
            rintro e w7 ⟨rfl, hB7⟩
            have HB7 := Lib.hid (HB6.out.trans (hB7.mono HB6.out.size))
            clear hB7
            go_wp2_with fail
            go_roundw
            case rel => exact ⟨3, by go_num, by omega, HB7⟩
            case measure => simp [intOf]
        | 3, _ =>
          obtain ⟨y0, y1, y2, z0, z1, z2⟩ := And.intro (jbr.cell 9) (And.intro (jbr.cell 10) (And.intro (jbr.cell 11) (And.intro (kbr.cell 9) (And.intro (kbr.cell 10) (kbr.cell 11)))))
          clear jbr xbr kbr
          by_cases hx : (3 : Int) = x.part
          · have t1 : ((3 : Int) == x.part) = true := by simpa using hx
            clear hx
            go_wp2_with fail
            go_roundw
            case rel => exact ⟨4, by go_num, by omega, hI⟩
            case measure => simp [intOf]
          · have t1 : ((3 : Int) == x.part) = false := by simpa using hx
            have ep : q3.pt = p3.pt := other_pt J5.out K5.out Hr.out (k := 3) (by omega) hx
            have br := alS (alS (Below.refl wr.heap.size wr) (.cells #[.int .i64 p3.g, .int .i64 p3.b, .slice p3.A p3.n p3.c, .int .i64 0, .int .i64 0, .slice none 0 0, .int .i64 0, .int .i64 0, .slice none 0 0, .int .i64 0, .int .i64 0, .slice none 0 0] 27)) (.cells #[.int .i64 q3.g, .int .i64 q3.b, .slice q3.A q3.n q3.c, .int .i64 0, .int .i64 0, .slice none 0 0, .int .i64 0, .int .i64 0, .slice none 0 0, .int .i64 0, .int .i64 0, .slice none 0 0] 27)
            have zr : (wr.alloc (.cells #[.int .i64 p3.g, .int .i64 p3.b, .slice p3.A p3.n p3.c, .int .i64 0, .int .i64 0, .slice none 0 0, .int .i64 0, .int .i64 0, .slice none 0 0, .int .i64 0, .int .i64 0, .slice none 0 0] 27)).heap.size = wr.heap.size + 1 := by simp
            have ab := (Bx.new wr 27 #[.int .i64 p3.g, .int .i64 p3.b, .slice p3.A p3.n p3.c, .int .i64 0, .int .i64 0, .slice none 0 0, .int .i64 0, .int .i64 0, .slice none 0 0, .int .i64 0, .int .i64 0, .slice none 0 0]).alloc (.cells #[.int .i64 q3.g, .int .i64 q3.b, .slice q3.A q3.n q3.c, .int .i64 0, .int .i64 0, .slice none 0 0, .int .i64 0, .int .i64 0, .slice none 0 0, .int .i64 0, .int .i64 0, .slice none 0 0] 27)
            have bb := Bx.new (wr.alloc (.cells #[.int .i64 p3.g, .int .i64 p3.b, .slice p3.A p3.n p3.c, .int .i64 0, .int .i64 0, .slice none 0 0, .int .i64 0, .int .i64 0, .slice none 0 0, .int .i64 0, .int .i64 0, .slice none 0 0] 27)) 27 #[.int .i64 q3.g, .int .i64 q3.b, .slice q3.A q3.n q3.c, .int .i64 0, .int .i64 0, .slice none 0 0, .int .i64 0, .int .i64 0, .slice none 0 0, .int .i64 0, .int .i64 0, .slice none 0 0]
            rw [zr] at bb
            obtain ⟨w6, hw6⟩ : ∃ w6, w6 = (wr.alloc (.cells #[.int .i64 p3.g, .int .i64 p3.b, .slice p3.A p3.n p3.c, .int .i64 0, .int .i64 0, .slice none 0 0, .int .i64 0, .int .i64 0, .slice none 0 0, .int .i64 0, .int .i64 0, .slice none 0 0] 27)).alloc (.cells #[.int .i64 q3.g, .int .i64 q3.b, .slice q3.A q3.n q3.c, .int .i64 0, .int .i64 0, .slice none 0 0, .int .i64 0, .int .i64 0, .slice none 0 0, .int .i64 0, .int .i64 0, .slice none 0 0] 27) := ⟨_, rfl⟩
            rw [← hw6] at br ab bb
            have hb6 := hI.out.trans (br.mono hI.out.size)
            have Cs := same_pt p3 default default default q3 default default default w6 ep rfl rfl rfl (J5.out.s3.below hb6) (Es.none_ _) (Es.none_ _) (Es.none_ _) (K5.out.s3.below hb6) (Es.none_ _) (Es.none_ _) (Es.none_ _)
            have Cs : Hid (Calls Try.prog 12 #[.agg #[.int .i64 p3.g, .int .i64 p3.b, .slice p3.A p3.n p3.c, .int .i64 0, .int .i64 0, .slice none 0 0, .int .i64 0, .int .i64 0, .slice none 0 0, .int .i64 0, .int .i64 0, .slice none 0 0], .agg #[.int .i64 q3.g, .int .i64 q3.b, .slice q3.A q3.n q3.c, .int .i64 0, .int .i64 0, .slice none 0 0, .int .i64 0, .int .i64 0, .slice none 0 0, .int .i64 0, .int .i64 0, .slice none 0 0]] w6 fun e w' => e = .returned (.bool true) ∧ Below w6.heap.size w6 w') := Lib.hid Cs
            have HB6 := Lib.hid hb6
            have Hw6 := Lib.hid hw6
            have AB := Lib.hid ab
            have BB := Lib.hid bb
            clear hx br zr ab bb hw6 hb6 ep
            go_upto_region 16 with fail
            rw [← Hw6.out]
            obtain ⟨⟨d0, d1, d2, d3, d4, d5, d6, d7, d8, d9, d10, d11⟩, -⟩ := twelve AB.out
            obtain ⟨⟨f0, f1, f2, f3, f4, f5, f6, f7, f8, f9, f10, f11⟩, -⟩ := twelve BB.out
            clear y0 y1 y2 z0 z1 z2 x1
            go_wp2_with fail
            refine Cs.out.mono ?_
            rintro e w7 ⟨rfl, hB7⟩
            have HB7 := Lib.hid (HB6.out.trans (hB7.mono HB6.out.size))
            clear hB7
            go_wp2_with fail
            go_roundw
            case rel => exact ⟨4, by go_num, by omega, HB7⟩
            case measure => simp [intOf]
        | 4, _ =>
          obtain ⟨⟨d0, d1, d2, d3, d4, d5, d6, d7, d8, d9, d10, d11⟩, -⟩ := twelve kbr
          have Ce := Lib.hid (end_any q0 q1 q2 q3 i x.part wr (K5.out.below hI.out) hp0 hp1)
          clear jbr xbr kbr
          go_wp2_with fail
          refine Ce.out.mono ?_
          rintro e w6 ⟨rfl, hB6⟩
          have hb6 := hI.out.trans (hB6.mono hI.out.size)
          have HB6 := Lib.hid hb6
          have xb6 := XB5.out.below XB5.out.lt hb6
          obtain ⟨x0, x1⟩ := And.intro (xb6.cell 0) (xb6.cell 1)
          have hx6 := xb6.lt
          clear d0 d1 d2 d3 d4 d5 d6 d7 d8 d9 d10 d11
          obtain ⟨⟨d0, d1, d2, d3, d4, d5, d6, d7, d8, d9, d10, d11⟩, -⟩ := twelve (JB5.out.below JB5.out.lt hb6)
          have Cj := Lib.hid (end_any p0 p1 p2 p3 j x.part w6 (J5.out.below hb6) hp0 hp1)
          obtain ⟨E0, hE0⟩ : ∃ E0, E0 = endOf (j.getD x.part.toNat default) := ⟨_, rfl⟩
          obtain ⟨E1, hE1⟩ : ∃ E1, E1 = endOf (i.getD x.part.toNat default) := ⟨_, rfl⟩
          rw [← hE0] at Cj HG
          rw [← hE1] at HG
          rw [← hE1]
          have hgr := HG.out.2
          clear hE0 hE1 hB6 hb6 xb6
          by_cases hle : E0 ≤ E1
          · clear hgr
            go_wp2_with fail
            refine Cj.out.mono ?_
            rintro e w7 ⟨rfl, hB7⟩
            have HB7 := Lib.hid (B5.out.trans ((HB6.out.trans (hB7.mono HB6.out.size)).mono B5.out.size))
            go_wp2_with fail
            go_ret
            exact ⟨rfl, HB7.out⟩
          · go_wp2_with fail
            refine Cj.out.mono ?_
            rintro e w7 ⟨rfl, hB7⟩
            have HB7 := Lib.hid (B5.out.trans ((HB6.out.trans (hB7.mono HB6.out.size)).mono B5.out.size))
            have xb7 := (XB5.out.below XB5.out.lt HB6.out).below (XB5.out.below XB5.out.lt HB6.out).lt hB7
            have x0 := xb7.cell 0
            clear xb7
            by_cases h2 : x.kind = 2
            · have t2 : (x.kind == 2) = true := by simpa using h2
              clear h2 hgr
              go_wp2_with fail
              go_ret
              exact ⟨rfl, HB7.out⟩
            · have t2 : (x.kind == 2) = false := by simpa using h2
              have t3 : (x.kind == 3) = true := by
                have : x.kind = 3 := by omega
                simpa using this
              clear h2 hgr
              go_wp2_with fail
              go_ret
              exact ⟨rfl, HB7.out⟩
end Lw
end Go.Proofs.Ytljgalleiemaaaa
