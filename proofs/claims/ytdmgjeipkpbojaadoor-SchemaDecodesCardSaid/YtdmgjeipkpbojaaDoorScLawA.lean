/- The walk of the statement SchemaDecodes of layer 7. -/
import Derived.Test.YtdmgjeipkpbojaaDoorScAwake
import Derived.Test.YtdmgjeipkpbojaaDoorScRefDec
import Derived.Test.YtdmgjeipkpbojaaDoorScFew
import Derived.Test.YtdmgjeipkpbojaaDoorScLaid
import Derived.Test.YtdmgjeipkpbojaaDoorRows
namespace Go.Proofs.YtdmgjeipkpbojaaDoor
set_option maxRecDepth 20000
open Go.RowKit
namespace Lw
open Sx
open Sc (Col Sch tr tr_yes tr_no MayS FitS)
open Va (Vl)
open Er (Gl gl_of_laid)
set_option maxHeartbeats 8000000 in
theorem schemaDecodes_walk (A : Option Addr) (n c : Nat) (s : Sch) (R : Option Addr) (m d : Nat) (bs : List Int) (w : World) (hS : Wd.Cs w A n c s.cols) (_u : Wd.Sch1 s) (hV : Wd.Sl w .u8 R m d bs) (hf : Wd.Fits .u8 bs) (hL : laidMetH Tryd.prog Rows.schemaDecodesRow.laid w) :
    Calls Tryd.prog 4 #[.agg #[.slice A n c, .int .i64 s.key, .int .i64 s.cmp, .int .i64 s.del, .int .i64 s.sort], .slice R m d] w fun e w' => e = .returned (.bool true) ∧ Below w.heap.size w w' := by
  obtain ⟨aM, aN, aB, hG⟩ := gl_of_laid hL
  have hBy : Nm.Byt bs := byt_of hf
  have hb0 := (Below.refl w.heap.size w).alloc (Nat.le_refl _) (.cells #[.slice A n c, .int .i64 s.key, .int .i64 s.cmp, .int .i64 s.del, .int .i64 s.sort] 24)
  have s0 : Sb (w.alloc (.cells #[.slice A n c, .int .i64 s.key, .int .i64 s.cmp, .int .i64 s.del, .int .i64 s.sort] 24)) w.heap.size A n c s.key s.cmp s.del s.sort := Wd.Bx.new w _ _
  have HS := Lib.hid (hS.below hb0)
  have HV := Lib.hid (hV.below hb0)
  have HG := Lib.hid (hG.below hb0)
  have Hl := Lib.hid hS.len
  have HBy := Lib.hid hBy
  clear hS hV hG hf hL hBy
  by_cases hF : FewS s
  case neg =>
    go_enter Tryd.func4, Tryd.ntmps4
    go_wp2_with fail
    generalize w.alloc (.cells #[.slice A n c, .int .i64 s.key, .int .i64 s.cmp, .int .i64 s.del, .int .i64 s.sort] 24) = wa at *
    refine (awake_any wa HG.out).mono ?_
    rintro e w1 ⟨rfl, hB1⟩
    have hb1 := hb0.trans (hB1.mono hb0.size)
    obtain ⟨p0, p1, p2, p3, p4⟩ := five (s0.below (Wd.Bx.lt s0) hB1)
    have Cf := Few_any A n c s w1 (HS.out.below hB1)
    rw [tr_no hF] at Cf
    have Cf' := Lib.hid Cf
    clear Cf hF
    go_wp2_with fail
    refine Cf'.out.mono ?_
    rintro e w2 ⟨rfl, hB2⟩
    have hb2 := hb1.trans (hB2.mono hb1.size)
    go_wp2_with fail
    go_ret
    exact ⟨rfl, hb2⟩
  have hn : n ≤ 1000 := by have := hF.1; have := Hl.out; omega
  by_cases hm : m ≤ 1000
  case neg =>
    have g1 : (1000 : Int) < (m : Int) := by omega
    clear hm
    go_enter Tryd.func4, Tryd.ntmps4
    go_wp2_with fail
    generalize w.alloc (.cells #[.slice A n c, .int .i64 s.key, .int .i64 s.cmp, .int .i64 s.del, .int .i64 s.sort] 24) = wa at *
    refine (awake_any wa HG.out).mono ?_
    rintro e w1 ⟨rfl, hB1⟩
    have hb1 := hb0.trans (hB1.mono hb0.size)
    obtain ⟨p0, p1, p2, p3, p4⟩ := five (s0.below (Wd.Bx.lt s0) hB1)
    have Cf := Few_any A n c s w1 (HS.out.below hB1)
    rw [tr_yes hF] at Cf
    have Cf' := Lib.hid Cf
    clear Cf hF
    go_wp2_with fail
    refine Cf'.out.mono ?_
    rintro e w2 ⟨rfl, hB2⟩
    have hb2 := hb1.trans (hB2.mono hb1.size)
    go_wp2_with fail
    go_ret
    exact ⟨rfl, hb2⟩
  have g1 : ¬ (1000 : Int) < (m : Int) := by omega
  go_enter Tryd.func4, Tryd.ntmps4
  go_wp2_with fail
  generalize w.alloc (.cells #[.slice A n c, .int .i64 s.key, .int .i64 s.cmp, .int .i64 s.del, .int .i64 s.sort] 24) = wa at *
  refine (awake_any wa HG.out).mono ?_
  rintro e w1 ⟨rfl, hB1⟩
  have hb1 := hb0.trans (hB1.mono hb0.size)
  have s1 := s0.below (Wd.Bx.lt s0) hB1
  have HS1 := Lib.hid (HS.out.below hB1)
  have HV1 := Lib.hid (HV.out.below hB1)
  have HG1 := Lib.hid (HG.out.below hB1)
  obtain ⟨p0, p1, p2, p3, p4⟩ := five s1
  have Cf := Few_any A n c s w1 HS1.out
  rw [tr_yes hF] at Cf
  have Cf' := Lib.hid Cf
  clear Cf hF HS HV HG s0 hB1 hb0
  go_wp2_with fail
  refine Cf'.out.mono ?_
  rintro e w2 ⟨rfl, hB2⟩
  have hb2 := hb1.trans (hB2.mono hb1.size)
  have s2 := s1.below (Wd.Bx.lt s1) hB2
  have C1 := Lib.hid (Decode_any A n c s R m d bs w2 (HS1.out.below hB2) (HV1.out.below hB2) HBy.out (HG1.out.below hB2) hn)
  have HS2 := Lib.hid (HS1.out.below hB2)
  have HV2 := Lib.hid (HV1.out.below hB2)
  clear p0 p1 p2 p3 p4
  obtain ⟨p0, p1, p2, p3, p4⟩ := five s2
  clear s1 HS1 HV1 HG1 hB2 hb1 Cf'
  go_wp2_with fail
  refine C1.out.mono ?_
  rintro e w3 ⟨A3, n3, c3, rfl, hV3, hB3⟩
  have hb3 := hb2.trans (hB3.mono hb2.size)
  have s3 := s2.below (Wd.Bx.lt s2) hB3
  have C2 := Lib.hid (refDecode_any A n c s R m d bs w3 (HS2.out.below hB3) (HV2.out.below hB3) HBy.out hn)
  have HV3 := Lib.hid hV3
  clear p0 p1 p2 p3 p4 hV3
  obtain ⟨p0, p1, p2, p3, p4⟩ := five s3
  clear s2 HS2 HV2 hB3 hb2 C1
  generalize decL s bs = L at *
  generalize decE s bs = er at *
  go_wp2_with fail
  refine C2.out.mono ?_
  rintro e w4 ⟨A4, n4, c4, rfl, hV4, hB4⟩
  have hb4 := hb3.trans (hB4.mono hb3.size)
  have C3 := sameV_any A3 n3 c3 L A4 n4 c4 L w4 (HV3.out.below hB4) hV4
  rw [tr_yes rfl] at C3
  have C3' := Lib.hid C3
  clear p0 p1 p2 p3 p4 C3 C2 hV4
  go_wp2_with fail
  refine C3'.out.mono ?_
  rintro e w5 ⟨rfl, hB5⟩
  have hb5 := hb4.trans (hB5.mono hb4.size)
  go_wp2_with fail
  go_ret
  exact ⟨by simp, hb5⟩
end Lw
end Go.Proofs.YtdmgjeipkpbojaaDoor
