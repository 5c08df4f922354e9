/- The walk of the statement SchemaOnly of layer 7. -/
import Derived.Test.YtdmgjeipkpbojaaDoorScAwake
import Derived.Test.YtdmgjeipkpbojaaDoorScFew
import Derived.Test.YtdmgjeipkpbojaaDoorScLaid
import Derived.Test.YtdmgjeipkpbojaaDoorRows
import Derived.Deep.RegionWith
namespace Go.Proofs.YtdmgjeipkpbojaaDoor
set_option maxRecDepth 20000
open Go.RowKit
namespace Sc
open Va
theorem gvF_ne1 : ∀ (i : Nat) (acc : Int) (b : List Int), (Nm.gvF i acc b).2.2 ≠ 1
  | _, _, [] => by simp [Nm.gvF]
  | i, acc, c :: r => by
    unfold Nm.gvF
    split
    · simp
    · split
      · exact gvF_ne1 _ _ r
      · split <;> simp
theorem get_ne1 {k : Int} (h1 : 1 ≤ k) (h3 : k ≤ 3) (b : List Int) : (Va.get b k).2.2 ≠ 1 := by
  have hg : (Nm.gv b).2.2 ≠ 1 := gvF_ne1 0 0 b
  have hI : (Nm.getI b).2.2 ≠ 1 := by
    unfold Nm.getI
    split
    · simp
    · exact hg
  have hL : (Nm.getL b).2.2 ≠ 1 := by
    unfold Nm.getL
    split
    · split <;> simp
    · exact hg
  unfold Va.get
  rw [if_neg (by omega)]
  split
  · split <;> simp_all
  · split
    · split
      · exact hL
      · split
        · simp
        · split <;> simp
    · rw [if_pos (by omega)]
      cases b with
      | nil => simp
      | cons c r => simp only []; split <;> simp
theorem rd1_ne1 {c : Col} (h1 : 1 ≤ c.kind) (h3 : c.kind ≤ 3) (b : List Int) : (rd1 c b).2.2 ≠ 1 := by
  unfold rd1
  split
  · cases b with
    | nil => simp
    | cons x r =>
      simp only []
      split
      · simp
      · split
        · simp
        · split
          · simp
          · exact get_ne1 h1 h3 r
  · exact get_ne1 h1 h3 b
/-- No row's error is that of an argument that may not be. -/
theorem dec_ne1 : ∀ (cs : List Col) (b : List Int), (∀ c ∈ cs, 1 ≤ c.kind ∧ c.kind ≤ 3) → (dec cs b).2 ≠ 1
  | [], b, _ => by unfold dec; split <;> simp
  | c :: cs, b, h => by
    unfold dec
    split
    · unfold pre
      split
      · simp
      · exact dec_ne1 cs _ fun c hc => h c (by simp [hc])
    · exact rd1_ne1 (h c (by simp)).1 (h c (by simp)).2 b
end Sc
namespace Lw
open Sx
open Sc (Col Sch tr tr_yes tr_no MayS FitS dec dec_err dec_only dec_cut dec_ne1 mayS_pos fits enc)
open Va (Vl)
open Er (Gl gl_of_laid)
/-- What Decode's answer says: an error, and no values; or a row that fits, whose bytes these are. -/
theorem decode_says (s : Sch) (bs : List Int) (hb : Nm.Byt bs) :
    (decE s bs ≠ 0 ∧ decL s bs = [] ∧ (decE s bs == 1) = !tr (MayS s)) ∨ (decE s bs = 0 ∧ encL s (decL s bs) = bs ∧ encE s (decL s bs) = 0 ∧ tr (FitS s (decL s bs)) = true ∧ ∀ n, n < bs.length → decE s (bs.take n) ≠ 0) := by
  by_cases hM : MayS s
  · have e1 : decE s bs = (dec s.cols bs).2 := by unfold decE; rw [if_pos (tr_yes hM)]
    have e2 : decL s bs = (dec s.cols bs).1 := by unfold decL; rw [if_pos (tr_yes hM)]
    by_cases h0 : (dec s.cols bs).2 = 0
    · obtain ⟨vs, hd, hf, he⟩ := dec_only s.cols bs (mayS_pos hM) hb h0
      have hl : decL s bs = vs := by rw [e2, hd]
      have hF : FitS s vs := ⟨hM, hf⟩
      refine .inr ⟨by rw [e1, h0], ?_, ?_, ?_, fun n hn => ?_⟩
      · rw [hl]; unfold encL; rw [if_pos (tr_yes hF), he]
      · rw [hl]; unfold encE; rw [if_pos (tr_yes hF)]
      · rw [hl]; exact tr_yes hF
      · have := dec_cut (mayS_pos hM) hb h0 hn
        unfold decE; rw [if_pos (tr_yes hM)]; exact this
    · refine .inl ⟨by rw [e1]; exact h0, by rw [e2]; exact dec_err _ _ h0, ?_⟩
      rw [e1, tr_yes hM]
      have := dec_ne1 s.cols bs fun c hc => (hM.2.2.2.2.1 c hc).2
      simpa using this
  · have e1 : decE s bs = 1 := by unfold decE; rw [tr_no hM]; rfl
    have e2 : decL s bs = [] := by unfold decL; rw [tr_no hM]; rfl
    exact .inl ⟨by rw [e1]; decide, e2, by rw [e1, tr_no hM]; rfl⟩
set_option maxHeartbeats 8000000 in
theorem schemaOnly_walk (A : Option Addr) (n c : Nat) (s : Sch) (R : Option Addr) (m d : Nat) (bs : List Int) (i : Int) (w : World) (hS : Wd.Cs w A n c s.cols) (_u : Wd.Sch1 s) (hV : Wd.Sl w .u8 R m d bs) (hf : Wd.Fits .u8 bs) (_i0 : -9223372036854775808 ≤ i) (_i1 : i ≤ 9223372036854775807) (hL : laidMetH Tryd.prog Rows.schemaOnlyRow.laid w) :
    Calls Tryd.prog 6 #[.agg #[.slice A n c, .int .i64 s.key, .int .i64 s.cmp, .int .i64 s.del, .int .i64 s.sort], .slice R m d, .int .i64 i] w fun e w' => e = .returned (.bool true) ∧ Below w.heap.size w w' := by
  obtain ⟨aM, aN, aB, hG⟩ := gl_of_laid hL
  have hBy : Nm.Byt bs := byt_of hf
  have hb0 := (Below.refl w.heap.size w).alloc (Nat.le_refl _) (.cells #[.slice A n c, .int .i64 s.key, .int .i64 s.cmp, .int .i64 s.del, .int .i64 s.sort] 24)
  have s0 : Sb (w.alloc (.cells #[.slice A n c, .int .i64 s.key, .int .i64 s.cmp, .int .i64 s.del, .int .i64 s.sort] 24)) w.heap.size A n c s.key s.cmp s.del s.sort := Wd.Bx.new w _ _
  have HS := Lib.hid (hS.below hb0)
  have HV := Lib.hid (hV.below hb0)
  have HG := Lib.hid (hG.below hb0)
  have Hl := Lib.hid hS.len
  have Hm := Lib.hid hV.len
  have hdc := hV.cap
  have hdm := hV.max
  have HBy := Lib.hid hBy
  clear hS hV hG hf hL hBy
  by_cases hF : FewS s
  case neg =>
    go_enter Tryd.func6, Tryd.ntmps6
    go_wp2_with fail
    generalize w.alloc (.cells #[.slice A n c, .int .i64 s.key, .int .i64 s.cmp, .int .i64 s.del, .int .i64 s.sort] 24) = wa at *
    refine (awake_any wa HG.out).mono ?_
    rintro e w1 ⟨rfl, hB1⟩
    have hb1 := hb0.trans (hB1.mono hb0.size)
    obtain ⟨p0, p1, p2, p3, p4⟩ := five (s0.below (Wd.Bx.lt s0) hB1)
    have Cf := Few_any A n c s w1 (HS.out.below hB1)
    rw [tr_no hF] at Cf
    have Cf' := Lib.hid Cf
    clear Cf hF
    go_wp2_with fail
    refine Cf'.out.mono ?_
    rintro e w2 ⟨rfl, hB2⟩
    have hb2 := hb1.trans (hB2.mono hb1.size)
    go_wp2_with fail
    go_ret
    exact ⟨rfl, hb2⟩
  have hn : n ≤ 1000 := by have := hF.1; have := Hl.out; omega
  by_cases hm : m ≤ 1000
  case neg =>
    have g1 : (1000 : Int) < (m : Int) := by omega
    clear hm
    go_enter Tryd.func6, Tryd.ntmps6
    go_wp2_with fail
    generalize w.alloc (.cells #[.slice A n c, .int .i64 s.key, .int .i64 s.cmp, .int .i64 s.del, .int .i64 s.sort] 24) = wa at *
    refine (awake_any wa HG.out).mono ?_
    rintro e w1 ⟨rfl, hB1⟩
    have hb1 := hb0.trans (hB1.mono hb0.size)
    obtain ⟨p0, p1, p2, p3, p4⟩ := five (s0.below (Wd.Bx.lt s0) hB1)
    have Cf := Few_any A n c s w1 (HS.out.below hB1)
    rw [tr_yes hF] at Cf
    have Cf' := Lib.hid Cf
    clear Cf hF
    go_wp2_with fail
    refine Cf'.out.mono ?_
    rintro e w2 ⟨rfl, hB2⟩
    have hb2 := hb1.trans (hB2.mono hb1.size)
    go_wp2_with fail
    go_ret
    exact ⟨rfl, hb2⟩
  have g1 : ¬ (1000 : Int) < (m : Int) := by omega
  have hD := decode_says s bs HBy.out
  have C1 := fun w (hS : Wd.Cs w A n c s.cols) (hV : Wd.Sl w .u8 R m d bs) (hG : Gl w aM aN aB) => Decode_any A n c s R m d bs w hS hV HBy.out hG hn
  have C2 := fun w (hS : Wd.Cs w A n c s.cols) => May_any A n c s w hS (by omega)
  have C3 := fun w R' m' d' (hS : Wd.Cs w A n c s.cols) (hV : Wd.Vs w R' m' d' (decL s bs)) => Encode_any A n c s R' m' d' (decL s bs) w hS hV (by omega)
  have C4 := fun w R' m' d' (hS : Wd.Cs w A n c s.cols) (hV : Wd.Vs w R' m' d' (decL s bs)) => Fits_any A n c s R' m' d' (decL s bs) w hS hV (by omega)
  generalize decL s bs = L at *
  generalize decE s bs = er at *
  generalize tr (MayS s) = mb at *
  have C1 := Lib.hid C1
  have C2 := Lib.hid C2
  have C3 := Lib.hid C3
  have C4 := Lib.hid C4
  have HD := Lib.hid hD
  clear hD
  go_enter Tryd.func6, Tryd.ntmps6
  go_wp2_with fail
  generalize w.alloc (.cells #[.slice A n c, .int .i64 s.key, .int .i64 s.cmp, .int .i64 s.del, .int .i64 s.sort] 24) = wa at *
  refine (awake_any wa HG.out).mono ?_
  rintro e w1 ⟨rfl, hB1⟩
  have hb1 := hb0.trans (hB1.mono hb0.size)
  have s1 := s0.below (Wd.Bx.lt s0) hB1
  have HS1 := Lib.hid (HS.out.below hB1)
  have HV1 := Lib.hid (HV.out.below hB1)
  have HG1 := Lib.hid (HG.out.below hB1)
  obtain ⟨p0, p1, p2, p3, p4⟩ := five s1
  have Cf := Few_any A n c s w1 HS1.out
  rw [tr_yes hF] at Cf
  have Cf' := Lib.hid Cf
  clear Cf hF HS HV HG s0 hB1 hb0
  go_wp2_with fail
  refine Cf'.out.mono ?_
  rintro e w2 ⟨rfl, hB2⟩
  have hb2 := hb1.trans (hB2.mono hb1.size)
  have s2 := s1.below (Wd.Bx.lt s1) hB2
  have HS2 := Lib.hid (HS1.out.below hB2)
  have HV2 := Lib.hid (HV1.out.below hB2)
  have HG2 := Lib.hid (HG1.out.below hB2)
  clear p0 p1 p2 p3 p4
  obtain ⟨p0, p1, p2, p3, p4⟩ := five s2
  clear s1 HS1 HV1 HG1 hB2 hb1 Cf'
  go_wp2_with fail
  refine (C1.out w2 HS2.out HV2.out HG2.out).mono ?_
  rintro e w3 ⟨A3, n3, c3, rfl, hV3, hB3⟩
  have hb3 := hb2.trans (hB3.mono hb2.size)
  have s3 := s2.below (Wd.Bx.lt s2) hB3
  have HS3 := Lib.hid (HS2.out.below hB3)
  have HR3 := Lib.hid (HV2.out.below hB3)
  have HG3 := Lib.hid (HG2.out.below hB3)
  have HV3 := Lib.hid hV3
  have Hn3 := Lib.hid hV3.len
  clear p0 p1 p2 p3 p4 hV3
  obtain ⟨p0, p1, p2, p3, p4⟩ := five s3
  clear s2 HS2 HV2 HG2 hB3 hb2 C1
  rcases HD.out with ⟨h0, rfl, h2⟩ | ⟨rfl, h1, h2, h3, h4⟩
  · obtain rfl : n3 = 0 := Hn3.out
    have h0' : (er != 0) = true := by simpa using h0
    have H2 := Lib.hid h2
    clear h0 h2
    go_wp2_with fail
    refine (C2.out w3 HS3.out).mono ?_
    rintro e w4 ⟨rfl, hB4⟩
    have hb4 := hb3.trans (hB4.mono hb3.size)
    have h5 := H2.out
    go_wp2_with fail
    go_ret
    exact ⟨by simp, hb4⟩
  · have H1 := Lib.hid h1
    have H2 := Lib.hid h2
    have H3 := Lib.hid h3
    have H4 := Lib.hid h4
    clear h1 h2 h3 h4
    go_wp2_with fail
    refine (C3.out w3 A3 n3 c3 HS3.out HV3.out).mono ?_
    rintro e w4 ⟨A4, n4, c4, rfl, hS4, hB4⟩
    rw [H1.out] at hS4
    rw [H2.out]
    have hb4 := hb3.trans (hB4.mono hb3.size)
    have s4 := s3.below (Wd.Bx.lt s3) hB4
    have HS4 := Lib.hid (HS3.out.below hB4)
    have HR4 := Lib.hid (HR3.out.below hB4)
    have HG4 := Lib.hid (HG3.out.below hB4)
    have HV4 := Lib.hid (HV3.out.below hB4)
    have C5 := Lib.hid (Nc.same_yes R A4 m n4 d c4 bs bs w4 HR4.out hS4 rfl)
    clear p0 p1 p2 p3 p4 s3 HS3 HR3 HG3 HV3 hB4 hb3 hS4 C2 C3
    go_wp2_with fail
    refine C5.out.mono ?_
    rintro e w5 ⟨rfl, hB5⟩
    have hb5 := hb4.trans (hB5.mono hb4.size)
    have s5 := s4.below (Wd.Bx.lt s4) hB5
    have HS5 := Lib.hid (HS4.out.below hB5)
    have HR5 := Lib.hid (HR4.out.below hB5)
    have HG5 := Lib.hid (HG4.out.below hB5)
    have HV5 := Lib.hid (HV4.out.below hB5)
    obtain ⟨p0, p1, p2, p3, p4⟩ := five s5
    clear s4 HS4 HR4 HG4 HV4 hB5 hb4 C5
    have HC4 := Lib.hid fun w R' m' d' hS hV => by have := C4.out w R' m' d' hS hV; rw [H3.out] at this; exact this
    clear C4 H3 H1 H2
    by_cases hi : 0 ≤ i ∧ i < m
    · obtain ⟨k, rfl⟩ : ∃ k : Nat, i = (k : Int) := ⟨i.toNat, by omega⟩
      have hkm : k < m := by omega
      have hkI : (k : Int) < (m : Int) := by omega
      have hkd : ¬ (d : Int) < (k : Int) := by omega
      have hwr : w5.heap.size ≤ w5.drew.heap.size := Nat.le_refl _
      have hdr := (Below.refl w5.heap.size w5).drew
      have C6 := Lib.hid (Decode_any A n c s R k d (bs.take k) w5.drew (HS5.out.below hdr) ((HR5.out.below hdr).head k (by omega)) (fun x hx => HBy.out x (List.mem_of_mem_take hx)) (HG5.out.below hdr) hn)
      have hne := H4.out k (by rw [← Hm.out]; exact hkm)
      generalize decL s (bs.take k) = L2 at *
      generalize decE s (bs.take k) = e2 at *
      have hne' : (e2 == 0) = false := by simpa using hne
      clear hi hne H4
      go_wp2_with fail
      go_region_with (go_at_call 20; (with_reducible refine C6.out.mono ?_); rintro e w6 ⟨A6, n6, c6, rfl, hV6, hB6⟩; have hB7 : Below w5.heap.size w5 w6 := Wd.of_drew hB6; have hb6 := hb5.trans (hB7.mono hb5.size); have s6 := s5.below (Wd.Bx.lt s5) hB7; have HS6 := Lib.hid (HS5.out.below hB7); have HV6 := Lib.hid (HV5.out.below hB7))
      all_goals (
        clear p0 p1 p2 p3 p4 hV6
        obtain ⟨p0, p1, p2, p3, p4⟩ := five s6
        have C7 := Lib.hid (HC4.out w6 A3 n3 c3 HS6.out HV6.out)
        go_wp2_with fail
        refine C7.out.mono ?_
        rintro e w7 ⟨rfl, hB8⟩
        have hb7 := hb6.trans (hB8.mono hb6.size)
        go_wp2_with fail
        go_ret
        exact ⟨by simp, hb7⟩)
    · have C7 := Lib.hid (HC4.out w5 A3 n3 c3 HS5.out HV5.out)
      by_cases hi0 : 0 ≤ i
      · have hi1 : ¬ i < (m : Int) := fun q => hi ⟨hi0, q⟩
        clear hi H4
        go_wp2_with fail
        refine C7.out.mono ?_
        rintro e w7 ⟨rfl, hB8⟩
        have hb7 := hb5.trans (hB8.mono hb5.size)
        go_wp2_with fail
        go_ret
        exact ⟨by simp, hb7⟩
      · clear hi H4
        go_wp2_with fail
        refine C7.out.mono ?_
        rintro e w7 ⟨rfl, hB8⟩
        have hb7 := hb5.trans (hB8.mono hb5.size)
        go_wp2_with fail
        go_ret
        exact ⟨by simp, hb7⟩
end Lw
end Go.Proofs.YtdmgjeipkpbojaaDoor
