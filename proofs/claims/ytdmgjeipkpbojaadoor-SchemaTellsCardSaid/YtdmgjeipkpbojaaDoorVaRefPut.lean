/- What the reference of layer 6 does: Put. -/
import Derived.Test.YtdmgjeipkpbojaaDoorVaPut
import Derived.Test.YtdmgjeipkpbojaaDoorVaRefM
import Derived.Test.YtdmgjeipkpbojaaDoorNumRef
import Derived.Laws.IdiomStrings
import Derived.Deep.RegionLaw
import Derived.Deep.DeepCutAuto
namespace Go.Proofs.YtdmgjeipkpbojaaDoor
set_option maxRecDepth 20000
open Go.RowKit
namespace Vc
open Va Nc
/-- What []byte(s) leaves. -/
def bcap (w : World) (s : ByteArray) : Nat := grownCap w s.size 0 5
def bobj (w : World) (s : ByteArray) : Obj := .cells (bytesRow s (bcap w s)) 5 ((bytesRow s (bcap w s)).size, (bytesRow s (bcap w s)).size + 1)
theorem run_bytes (w : World) (s : ByteArray) : (convert 9 29 (.string s)).run Tryd.prog w = .ok (.slice (some ⟨w.heap.size, 0, none⟩) s.size (bcap w s)) (w.drew.alloc (bobj w s)) :=
  run_bytes_of_string w 9 29 5 s Tryd.underlying9 Tryd.underlying29 Tryd.underlying5
theorem bytes_sl (w : World) (s : ByteArray) (hs : s.size ≤ 1000000) : Wd.Sl (w.drew.alloc (bobj w s)) .u8 (some ⟨w.heap.size, 0, none⟩) s.size (bcap w s) (byts s) := by
  refine ⟨(byts_len s).symm, grownCap_ge w s.size 0 _, grownCap_le_maxLen w s.size 0 _ (by unfold maxLen; omega), by simp, ?_⟩
  refine (Wd.Rd.mk (b := w.heap.size) (o := 0) (by simp) fun j hj => ?_)
  rw [byts_len] at hj
  have e := heap_alloc_new w.drew (bobj w s)
  have h := cell_of_row (w.drew.alloc (bobj w s)) w.heap.size j (bytesRow s (bcap w s)) 5 _ e
  rw [Nat.zero_add, h, bytesRow_at s _ j (by simpa using hj)]
  unfold byts
  have hj' : j < s.data.size := hj
  simp [List.getD, List.getElem?_map]
  rw [Array.getElem?_eq_getElem hj']
  rfl
/-- What the reference's Put answers. -/
def putR (k i : Int) (s : ByteArray) (b : Bool) : List Int := if mayB k i s b then Va.put ⟨k, i, s, b⟩ else []

set_option maxHeartbeats 2000000 in
theorem refPutV_any (k i : Int) (s : ByteArray) (b : Bool) (w : World) (h0 : -9223372036854775808 ≤ i) (h1 : i ≤ 9223372036854775807) :
    Calls Tryd.prog 25 #[.agg #[.int .i64 k, .int .i64 i, .string s, .bool b]] w (Wd.Out2 w .u8 (putR k i s b) (putE k i s b)) := by
  obtain ⟨i0, hi, hz0, hz1, hz2⟩ := info_parts info_u8
  have hb0 := (Below.refl w.heap.size w).alloc (Nat.le_refl _) (.cells #[.int .i64 k, .int .i64 i, .string s, .bool b] 46)
  have v0 : Vb (w.alloc (.cells #[.int .i64 k, .int .i64 i, .string s, .bool b] 46)) w.heap.size k i s b := Wd.Bx.new w _ _
  have Cm := Lib.hid fun w => refMay_any k i s b w
  cases hmay : mayB k i s b
  case false =>
    unfold putR putE
    rw [hmay] at Cm ⊢
    clear hmay
    go_enter Tryd.func25, Tryd.ntmps25
    go_wp2_with fail
    refine (Cm.out _).mono ?_
    rintro e w2 ⟨rfl, hB2⟩
    go_wp2_with fail
    go_ret2
    exact Wd.Out2.err _ _ _ _ (hb0.trans (hB2.mono hb0.size))
  case true =>
    have hM := (mayB_iff k i s b).1 hmay
    rw [hmay] at Cm
    have he : putE k i s b = 0 := by unfold putE; rw [hmay]; rfl
    have hl : putR k i s b = Va.put ⟨k, i, s, b⟩ := by unfold putR; rw [hmay]; rfl
    rw [he, hl]
    clear he hl hmay
    unfold May at hM
    simp only [] at hM
    rcases hM with ⟨rfl, rfl, rfl, rfl⟩ | ⟨rfl, rfl, rfl⟩ | ⟨rfl, rfl, hs, rfl⟩ | ⟨rfl, rfl, rfl⟩
    · rw [show Va.put ⟨0, 0, ⟨#[]⟩, false⟩ = [] from rfl]
      go_enter Tryd.func25, Tryd.ntmps25
      go_wp2_with fail
      refine (Cm.out _).mono ?_
      rintro e w2 ⟨rfl, hB2⟩
      have hb2 := hb0.trans (hB2.mono hb0.size)
      obtain ⟨⟨u0, u1, u2, u3⟩, -⟩ := four (v0.below (Wd.Bx.lt v0) hB2)
      go_wp2_with fail
      go_ret2
      exact ⟨none, 0, 0, rfl, Wd.Sl.none_ _ _, hb2⟩
    · rw [show Va.put ⟨1, i, ⟨#[]⟩, false⟩ = Nm.vd (Nm.zz i) from rfl]
      go_enter Tryd.func25, Tryd.ntmps25
      go_wp2_with fail
      refine (Cm.out _).mono ?_
      rintro e w2 ⟨rfl, hB2⟩
      have hb2 := hb0.trans (hB2.mono hb0.size)
      obtain ⟨⟨u0, u1, u2, u3⟩, -⟩ := four (v0.below (Wd.Bx.lt v0) hB2)
      go_wp2_with fail
      refine (Nc.refPut_any i w2 h0 h1).mono ?_
      rintro e w3 ⟨A3, n3, c3, rfl, hS3, hB3⟩
      go_wp2_with fail
      go_ret2
      exact ⟨A3, n3, c3, rfl, hS3, hb2.trans (hB3.mono hb2.size)⟩
    · rw [show Va.put ⟨2, 0, s, false⟩ = Nm.vd (s.size : Int) ++ byts s from rfl]
      have hvl := Nm.vd_len (s.size : Int)
      have Hp := Lib.hid fun w' => refPutLen_own (s.size : Int) w' (by omega) (by omega)
      have hcv := fun w => run_bytes w s
      have Hsl := Lib.hid fun w => bytes_sl w s (by omega)
      have Hbl := Lib.hid (byts_len s)
      obtain ⟨vs, hvs⟩ : ∃ vs, vs = Nm.vd (s.size : Int) := ⟨_, rfl⟩
      rw [← hvs] at Hp hvl ⊢
      clear hvs
      go_enter Tryd.func25, Tryd.ntmps25
      go_wp2_with fail
      refine (Cm.out _).mono ?_
      rintro e w2 ⟨rfl, hB2⟩
      have hb2 := hb0.trans (hB2.mono hb0.size)
      have v2 := v0.below (Wd.Bx.lt v0) hB2
      have hl2 := Wd.Bx.lt v2
      obtain ⟨⟨u0, u1, u2, u3⟩, -⟩ := four v2
      have Hv2 := Lib.hid v2
      have Hb2 := Lib.hid hb2
      clear v0 v2 hb0 hB2 Cm hb2
      go_upto_region 8 with fail
      have hA2 : Below w2.heap.size w2 (w2.drew.alloc (bobj w2 s)) := ((Below.refl w2.heap.size w2).drew).alloc (Nat.le_refl _) _
      have cA2 := (hA2.cell (p := ⟨w.heap.size, 2, none⟩) hl2).trans u2
      have hA2' : Below w2.heap.size w2 (w2.drew.drew.alloc (bobj w2.drew s)) := ((Below.refl w2.heap.size w2).drew.drew).alloc (Nat.le_refl _) _
      go_region_law (first | (go_simp; go_at_call 41; (with_reducible refine (Hp.out w2.drew).mono ?_); rintro e w3 ⟨v3, rfl, hO3, hB3⟩; have hb3 : Below w2.heap.size w2 w3 := Wd.of_drew hB3; have hsz3 := hb3.size; have c3 := (hb3.cell (p := ⟨w.heap.size, 2, none⟩) hl2).trans u2; have hA3 : Below w2.heap.size w2 (w3.drew.alloc (bobj w3 s)) := (hb3.drew).alloc hsz3 _; have cA3 := (hA3.cell (p := ⟨w.heap.size, 2, none⟩) hl2).trans u2; have hO3' := Wd.own_below hO3 (((Below.refl w3.heap.size w3).drew).alloc (Nat.le_refl _) (bobj w3 s)); have hL3 := Hsl.out w3; have hz3 : w2.heap.size ≤ (w3.drew.alloc (bobj w3 s)).heap.size := hA3.size) | (refine Wd.step_app _ rfl (.tmp 21) (.tmp 24) 29 rfl w2.heap.size 5 i0 _ .u8 1 Tryd.underlying29 hi hz0 hz1 hz2 rfl v3 vs rfl hO3' _ (some ⟨w3.heap.size, 0, none⟩) s.size (bcap w3 s) (byts s) rfl (Hbl.out.symm) (by simp) hL3.rd (by rw [Hbl.out]; omega) (by rw [Hbl.out]; unfold maxLen; omega) hz3 ?_; intro v4 w4 hO4 hg4; have hb4 : Below w2.heap.size w2 w4 := hA3.grown hg4 hz3 fun g hg => (hO3'.lt g hg).1; have c4 := (hb4.cell (p := ⟨w.heap.size, 2, none⟩) hl2).trans u2) | (go_simp; go_at_call 41; (with_reducible refine (Hp.out _).mono ?_); rintro e w5 ⟨v5, rfl, hO5, hB5⟩; have hb52 : Below (w2.drew.drew.alloc (bobj w2.drew s)).heap.size (w2.drew.drew.alloc (bobj w2.drew s)) w5 := hB5; have hb5 : Below w2.heap.size w2 w5 := hA2'.trans (hb52.mono hA2'.size); have hsz5 := hb5.size; have hO5' := Wd.own_down hO5 hA2'.size; have c3 := (hb5.cell (p := ⟨w.heap.size, 2, none⟩) hl2).trans u2; have hL5 := (Hsl.out w2.drew).below hb52) | (refine Wd.step_app _ rfl (.tmp 21) (.tmp 24) 29 rfl w2.heap.size 5 i0 _ .u8 1 Tryd.underlying29 hi hz0 hz1 hz2 rfl v5 vs rfl hO5' _ (some ⟨w2.heap.size, 0, none⟩) s.size (bcap w2.drew s) (byts s) rfl (Hbl.out.symm) (by simp) hL5.rd (by rw [Hbl.out]; omega) (by rw [Hbl.out]; unfold maxLen; omega) hsz5 ?_; intro v4 w4 hO4 hg4; have hb4 : Below w2.heap.size w2 w4 := hb5.grown hg4 hsz5 fun g hg => (hO5'.lt g hg).1; have c4 := (hb4.cell (p := ⟨w.heap.size, 2, none⟩) hl2).trans u2))
      all_goals
        go_wp2_with fail
        go_ret2
        obtain ⟨A4, n4, k4, rfl, hS4⟩ := Wd.Sl.of_own hO4
        exact ⟨A4, n4, k4, rfl, hS4, Hb2.out.trans (hb4.mono Hb2.out.size)⟩
    · cases b
      all_goals
        first | rw [show Va.put ⟨3, 0, ⟨#[]⟩, true⟩ = [1] from rfl] | rw [show Va.put ⟨3, 0, ⟨#[]⟩, false⟩ = [0] from rfl]
        go_enter Tryd.func25, Tryd.ntmps25
        go_wp2_with fail
        refine (Cm.out _).mono ?_
        rintro e w2 ⟨rfl, hB2⟩
        have hb2 := hb0.trans (hB2.mono hb0.size)
        obtain ⟨⟨u0, u1, u2, u3⟩, -⟩ := four (v0.below (Wd.Bx.lt v0) hB2)
        go_wp2_with fail
        go_ret2
        exact ⟨_, _, _, rfl, Wd.Sl.lit w2 .u8 _ _ _ 1 rfl rfl (by decide), hb2.alloc hb2.size _⟩
end Vc
end Go.Proofs.YtdmgjeipkpbojaaDoor
