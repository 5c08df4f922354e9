/- JournalCuts: of a file that was begun with some entries, and to which others came later, whatever survives of these tells the journal of a beginning of them. -/
import Derived.Test.YtljgalleiemaaaaPk24
namespace Go.Proofs.Ytljgalleiemaaaa
set_option maxRecDepth 20000
open Go.RowKit
namespace Lw
open Jr
open Jo (En May Wf Rg Pt PI pays head put)
open Wd (Pv Pc Es Lv Bx Sl)
set_option maxHeartbeats 16000000 in
theorem journalCuts_walk (no : Int) (A : Option Addr) (n c : Nat) (l : List En) (B : Option Addr) (m d : Nat) (mo : List En) (cut : Int) (w : World) (hn0 : -9223372036854775808 ≤ no) (hn1 : no ≤ 9223372036854775807) (hE : Es w A n c l) (hM : Es w B m d mo) (hc0 : -9223372036854775808 ≤ cut) (hc1 : cut ≤ 9223372036854775807) :
    Calls Try.prog 4 #[.int .i64 no, .slice A n c, .slice B m d, .int .i64 cut] w fun e w' => e = .returned (.bool true) ∧ Below w.heap.size w w' := by
  have Ca := Lib.hid (awake_any w)
  have hcap := hE.cap
  have hmax := hE.max
  have hcap2 := hM.cap
  have hmax2 := hM.max
  unfold maxLen at hmax hmax2
  have HE0 := Lib.hid hE
  have HM0 := Lib.hid hM
  clear hE hM
  go_enter Try.func4, Try.ntmps4
  go_wp2_with fail
  refine Ca.out.mono ?_
  rintro e w2 ⟨rfl, hB2⟩
  have B2 := Lib.hid hB2
  have HE := Lib.hid (HE0.out.below hB2)
  clear hB2 HE0
  by_cases g1 : (30 : Int) < (n : Int)
  · have g1d : decide ((30 : Int) < (n : Int)) = true := by simpa using g1
    go_wp2_with fail
    go_ret
    exact ⟨rfl, B2.out⟩
  by_cases g2 : (30 : Int) < (m : Int)
  · have g2d : decide ((30 : Int) < (m : Int)) = true := by simpa using g2
    go_wp2_with fail
    go_ret
    exact ⟨rfl, B2.out⟩
  by_cases g3 : no < 1
  · go_wp2_with fail
    go_ret
    exact ⟨rfl, B2.out⟩
  by_cases g4 : (1000 : Int) < no
  · go_wp2_with fail
    go_ret
    exact ⟨rfl, B2.out⟩
  by_cases g5 : cut < 0
  · go_wp2_with fail
    go_ret
    exact ⟨rfl, B2.out⟩
  have Cm := Lib.hid (made_any A n c l w2 HE.out (by omega))
  have g1d : decide ((30 : Int) < (n : Int)) = false := by simpa using g1
  have g2d : decide ((30 : Int) < (m : Int)) = false := by simpa using g2
  have g3d : decide (no < 1) = false := by simpa using g3
  have g4d : decide ((1000 : Int) < no) = false := by simpa using g4
  have g5d : decide (cut < 0) = false := by simpa using g5
  have HG := Lib.hid (And.intro g1 (And.intro g2 (And.intro g3 (And.intro g4 g5))))
  go_wp2_with fail
  refine Cm.out.mono ?_
  rintro e w3 ⟨p0, p1, p2, p3, ok, rfl, hok, hno, hB3⟩
  have B3 := Lib.hid (B2.out.trans (hB3.mono B2.out.size))
  have al := alS B3.out (.cells #[.int .i64 p0.g, .int .i64 p0.b, .slice p0.A p0.n p0.c, .int .i64 p1.g, .int .i64 p1.b, .slice p1.A p1.n p1.c, .int .i64 p2.g, .int .i64 p2.b, .slice p2.A p2.n p2.c, .int .i64 p3.g, .int .i64 p3.b, .slice p3.A p3.n p3.c] 27)
  have kb := Bx.new w3 27 #[.int .i64 p0.g, .int .i64 p0.b, .slice p0.A p0.n p0.c, .int .i64 p1.g, .int .i64 p1.b, .slice p1.A p1.n p1.c, .int .i64 p2.g, .int .i64 p2.b, .slice p2.A p2.n p2.c, .int .i64 p3.g, .int .i64 p3.b, .slice p3.A p3.n p3.c]
  have b34 := (Below.refl w3.heap.size w3).alloc (Nat.le_refl _) (.cells #[.int .i64 p0.g, .int .i64 p0.b, .slice p0.A p0.n p0.c, .int .i64 p1.g, .int .i64 p1.b, .slice p1.A p1.n p1.c, .int .i64 p2.g, .int .i64 p2.b, .slice p2.A p2.n p2.c, .int .i64 p3.g, .int .i64 p3.b, .slice p3.A p3.n p3.c] 27)
  cases ok with
  | false =>
    have AL := Lib.hid al
    clear hno hok hB3 kb b34 al
    go_wp2_with fail
    go_ret
    exact ⟨rfl, AL.out⟩
  | true =>
    obtain ⟨j, hmd, hJ3⟩ := hok rfl
    obtain ⟨w4, hw4⟩ : ∃ w4, w4 = w3.alloc (.cells #[.int .i64 p0.g, .int .i64 p0.b, .slice p0.A p0.n p0.c, .int .i64 p1.g, .int .i64 p1.b, .slice p1.A p1.n p1.c, .int .i64 p2.g, .int .i64 p2.b, .slice p2.A p2.n p2.c, .int .i64 p3.g, .int .i64 p3.b, .slice p3.A p3.n p3.c] 27) := ⟨_, rfl⟩
    rw [← hw4] at al kb b34
    have HE4 := (HE.out.below hB3).below b34
    have hln := HE4.len
    have hmay := Jo.made_may _ _ _ hmd
    have Cf := Lib.hid (file_ok no A n c l w4 HE4 (by omega) (by omega) (by omega) hmay)
    have B4 := Lib.hid al
    have KB := Lib.hid kb
    have J4 := Lib.hid (hJ3.below b34)
    have HMD := Lib.hid hmd
    have HLN := Lib.hid hln
    have JBL := Lib.hid B3.out.size
    have Hw4 := Lib.hid hw4
    obtain ⟨jb, hjb⟩ : ∃ jb, jb = w3.heap.size := ⟨_, rfl⟩
    rw [← hjb] at KB JBL
    clear hno hok hB3 kb b34 al hJ3 hmd hln hmay HE4 hw4 HE
    go_upto_region 7 with fail
    rw [← Hw4.out, ← hjb]
    clear Hw4 hjb
    go_wp2_with fail
    refine Cf.out.mono ?_
    rintro e w5 ⟨bA, bn, bc, rfl, hS5, hB5⟩
    have B5 := Lib.hid (B4.out.trans (hB5.mono B4.out.size))
    have BN := Lib.hid hS5.len
    have k5 := KB.out.below KB.out.lt hB5
    have C7 := Lib.hid (CI.start (w0 := w) (n := (bn : Int)) k5 hS5 (J4.out.below hB5) JBL.out B5.out rfl)
    have P7 := Lib.hid (PI.start (n := (bn : Int)) rfl HMD.out (by rw [hS5.len]))
    obtain ⟨⟨d0, d1, d2, d3, d4, d5, d6, d7, d8, d9, d10, d11⟩, -⟩ := twelve k5
    have jbl := k5.lt
    clear hS5 hB5 k5
    go_upto_region 13 with fail
    obtain ⟨w7, hw7⟩ : ∃ w7, w7 = (w5.alloc (.cells #[.int .i64 (bn : Int)] 3)).alloc (.cells #[.int .i64 p0.g, .int .i64 p0.b, .slice p0.A p0.n p0.c, .int .i64 p1.g, .int .i64 p1.b, .slice p1.A p1.n p1.c, .int .i64 p2.g, .int .i64 p2.b, .slice p2.A p2.n p2.c, .int .i64 p3.g, .int .i64 p3.b, .slice p3.A p3.n p3.c] 27) := ⟨_, rfl⟩
    rw [← hw7] at C7
    rw [← hw7]
    generalize w5.heap.size = eg0 at *
    clear hw7 jbl KB Cf J4 B5 d0 d1 d2 d3 d4 d5 d6 d7 d8 d9 d10 d11
    go_wp2_with fail
    go_loopw [14, 15, 16, 17, 18, 19] (fun u14 u15 u16 u17 _ _ wr => ∃ k : Nat, u17 = .int .i64 k ∧ k ≤ m ∧ ∃ eg ec ag ac FA fn fc mm p0 p1 p2 p3 j ms es js qs bs, u14 = .slice (some ⟨eg, 0, none⟩) mm ec ∧ u15 = .slice (some ⟨ag, 0, none⟩) mm ac ∧ u16 = .slice FA fn fc ∧ Hid (CI w wr jb eg mm ec es ag mm ac qs js FA fn fc bs p0 p1 p2 p3 j ∧ PI no l ms es js bs j ∧ ms.length ≤ k ∧ mm = ms.length + 1)) (fun _ _ _ u17 _ _ _ => m - (intOf u17).toNat)
    case atStart => exact ⟨0, rfl, Nat.zero_le _, _, _, _, _, _, _, _, _, _, _, _, _, _, _, _, _, _, _, rfl, rfl, rfl, Lib.hid ⟨C7.out, P7.out, Nat.le_refl _, rfl⟩⟩
    case round =>
      obtain ⟨k, rfl, hk, eg, ec, ag, ac, FA, fn, fc, mm, p0, p1, p2, p3, j, ms, es, js, qs, bs, rfl, rfl, rfl, hI⟩ := hrel
      have CI0 := Lib.hid hI.out.1
      have PI0 := Lib.hid hI.out.2.1
      have ML := Lib.hid hI.out.2.2
      clear hI
      have hmm : mm ≤ 1000 := by have := ML.out; have := HG.out; omega
      by_cases hlt : k < m
      · have hkI : (k : Int) < (m : Int) := by omega
        have hkl : k < mo.length := by rw [← HM0.out.len]; exact hlt
        obtain ⟨x, hx⟩ : ∃ x, x = mo.getD k default := ⟨_, rfl⟩
        have hMr := HM0.out.below CI0.out.bel
        obtain ⟨lb, lf, hA, hlb, u0, u1, u2, u3, u4, u5, u6, -⟩ := hMr.cells hkl hx
        have ZE := Lib.hid (nine u0 u1 u2 u3 u4 u5 u6 hlb)
        have Z0 := Lib.hid (fun w' h => And.intro (twelve (CI0.out.box.below CI0.out.box.lt h)).1 (ZE.out w' h))
        have LN := jv_len (m := 400000) CI0.out.jv (fun q hq => by
          have := made_len _ _ _ 0 (fun q hq => by simp [Jo.nil_, default] at hq; rw [hq]; simp) PI0.out.md q hq
          rw [List.length_append] at this
          have := HLN.out
          have := ML.out
          have := HG.out
          omega)
        have CA := Lib.hid (fun w' (h : Below wr.heap.size wr w') => apply_any p0 p1 p2 p3 j x w' (CI0.out.jv.below h) LN)
        have HX := Lib.hid (And.intro hkl hx)
        subst hA
        clear u0 u1 u2 u3 u4 u5 u6 hx hkl LN hMr
        go_upto_region 16 with fail
        go_cut [18, 19] (fun u18 u19 wc => Got wr j x u18 u19 wc)
-- REGION
        case first =>
          have bA : Below wr.heap.size wr wr.drew := (Below.refl _ _).drew
          have bB : Below wr.heap.size wr (wr.alloc (.cells #[.int .i64 0, .int .i64 0, .slice none 0 0, .int .i64 0, .int .i64 0, .slice none 0 0, .int .i64 0, .int .i64 0, .slice none 0 0, .int .i64 0, .int .i64 0, .slice none 0 0] 27)).drew := ((Below.refl wr.heap.size wr).alloc (Nat.le_refl _) _).drew
          have z10 := Z0.out _ bA
          have z11 := Z0.out _ bB
          have nB : Bx (wr.alloc (.cells #[.int .i64 0, .int .i64 0, .slice none 0 0, .int .i64 0, .int .i64 0, .slice none 0 0, .int .i64 0, .int .i64 0, .slice none 0 0, .int .i64 0, .int .i64 0, .slice none 0 0] 27)).drew wr.heap.size 27 #[.int .i64 0, .int .i64 0, .slice none 0 0, .int .i64 0, .int .i64 0, .slice none 0 0, .int .i64 0, .int .i64 0, .slice none 0 0, .int .i64 0, .int .i64 0, .slice none 0 0] := Bx.new wr _ _
          go_region_held3 (fun w' => (w'.cell? ⟨jb, 0, none⟩ = some (.int .i64 p0.g) ∧ w'.cell? ⟨jb, 1, none⟩ = some (.int .i64 p0.b) ∧ w'.cell? ⟨jb, 2, none⟩ = some (.slice p0.A p0.n p0.c) ∧ w'.cell? ⟨jb, 3, none⟩ = some (.int .i64 p1.g) ∧ w'.cell? ⟨jb, 4, none⟩ = some (.int .i64 p1.b) ∧ w'.cell? ⟨jb, 5, none⟩ = some (.slice p1.A p1.n p1.c) ∧ w'.cell? ⟨jb, 6, none⟩ = some (.int .i64 p2.g) ∧ w'.cell? ⟨jb, 7, none⟩ = some (.int .i64 p2.b) ∧ w'.cell? ⟨jb, 8, none⟩ = some (.slice p2.A p2.n p2.c) ∧ w'.cell? ⟨jb, 9, none⟩ = some (.int .i64 p3.g) ∧ w'.cell? ⟨jb, 10, none⟩ = some (.int .i64 p3.b) ∧ w'.cell? ⟨jb, 11, none⟩ = some (.slice p3.A p3.n p3.c)) ∧ (w'.cell? ⟨lb, lf + k * 7, none⟩ = some (.int .i64 x.kind) ∧ w'.cell? ⟨lb, lf + k * 7 + 1, none⟩ = some (.int .i64 x.part) ∧ w'.cell? ⟨lb, lf + k * 7 + 2, none⟩ = some (.int .i64 x.id) ∧ w'.cell? ⟨lb, lf + k * 7 + 3, none⟩ = some (.int .i64 x.st) ∧ w'.cell? ⟨lb, lf + k * 7 + 4, none⟩ = some (.int .i64 x.en) ∧ w'.cell? ⟨lb, lf + k * 7 + 5, none⟩ = some (.int .i64 x.size) ∧ w'.cell? ⟨lb, lf + k * 7 + 6, none⟩ = some (.int .i64 x.sum))) (with_reducible first | exact z10 | exact z11 | exact z12 | exact z13 | exact z14 | exact z15) (first
            | (go_at_call 7; (with_reducible refine (CA.out _ bA).mono ?_); rintro e w1 ⟨q0, q1, q2, q3, rfl, hJ1, hB1⟩; have z12 := Z0.out _ (bA.trans (hB1.mono bA.size)); have z13 := Z0.out _ ((bA.trans (hB1.mono bA.size)).alloc (Nat.le_trans bA.size hB1.size) (.cells #[.int .i64 0, .int .i64 0, .slice none 0 0, .int .i64 0, .int .i64 0, .slice none 0 0, .int .i64 0, .int .i64 0, .slice none 0 0, .int .i64 0, .int .i64 0, .slice none 0 0] 27)); have z14 := Z0.out _ ((bA.trans (hB1.mono bA.size)).alloc (Nat.le_trans bA.size hB1.size) (.cells #[.int .i64 q0.g, .int .i64 q0.b, .slice q0.A q0.n q0.c, .int .i64 q1.g, .int .i64 q1.b, .slice q1.A q1.n q1.c, .int .i64 q2.g, .int .i64 q2.b, .slice q2.A q2.n q2.c, .int .i64 q3.g, .int .i64 q3.b, .slice q3.A q3.n q3.c] 27)))
            | (go_at_call 7; (with_reducible refine (CA.out _ bB).mono ?_); rintro e w1 ⟨q0, q1, q2, q3, rfl, hJ1, hB1⟩; have bB1 := bB.trans (hB1.mono bB.size); have z12 := Z0.out _ bB1; have nB1 := nB.below nB.lt hB1; obtain ⟨⟨nd0, nd1, nd2, nd3, nd4, nd5, nd6, nd7, nd8, nd9, nd10, nd11⟩, ⟨nf0, nf1, nf2, nf3, nf4, nf5, nf6, nf7, nf8, nf9, nf10, nf11⟩⟩ := twelve nB1; have z15 := Z0.out _ (below12' bB1 (.int .i64 q0.g) (.int .i64 q0.b) (.slice q0.A q0.n q0.c) (.int .i64 q1.g) (.int .i64 q1.b) (.slice q1.A q1.n q1.c) (.int .i64 q2.g) (.int .i64 q2.b) (.slice q2.A q2.n q2.c) (.int .i64 q3.g) (.int .i64 q3.b) (.slice q3.A q3.n q3.c))))
          all_goals (
            go_wp2_with fail
            go_meet)
          · exact got_a hJ1 bA.size (bA.trans (hB1.mono bA.size))
          · exact got_b hJ1 bB.size nB1 bB1
-- END REGION
        case rest =>
          obtain ⟨bk, q0, q1, q2, q3, rfl, rfl, hG⟩ := hcut
          obtain ⟨z, hz⟩ : ∃ z, z = Jo.appE j x := ⟨_, rfl⟩
          rw [← hz]
          have HLB := Lib.hid (show lb < wr.heap.size from hlb)
          cases hr : Jo.app j x with
          | none =>
            have er := appE_none hr
            rw [← hz] at er
            have k1 : (z != 0) = true := by simp; omega
            have k2 : (z == 0) = false := by simp; omega
            have CI9 := Lib.hid (CI0.out.below hG.out.2.2.1)
            clear er hr hz ZE Z0 CA hlb
            go_wp2_with fail
            go_roundw
            case rel => exact ⟨k + 1, by go_num, by omega, _, _, _, _, _, _, _, _, _, _, _, _, _, _, _, _, _, _, rfl, rfl, rfl, Lib.hid ⟨CI9.out, PI0.out, by have := ML.out; omega, ML.out.2⟩⟩
            case measure => simp [intOf]; omega
          | some i =>
            have er := appE_some hr
            rw [er] at hz
            subst hz
            have hG2 := hG.out
            rw [hr] at hG2
            have hJ9 : Jv _ q0 q1 q2 q3 i := hG2.2.1
            have C8 := CI.setj (CI0.out.below hG.out.2.2.1) CI0.out.hs_lt hJ9 hG2.2.2.2.2
            have b9 := hG.out.2.2.1
            have hne : bk ≠ jb := by have := CI0.out.box.lt; have := hG.out.2.2.2.1; omega
            obtain ⟨⟨d0, d1, d2, d3, d4, d5, d6, d7, d8, d9, d10, d11⟩, -⟩ := twelve hG.out.1
            obtain ⟨⟨e0, e1, e2, e3, e4, e5, e6, e7, e8, e9, e10, e11⟩, ⟨f0, f1, f2, f3, f4, f5, f6, f7, f8, f9, f10, f11⟩⟩ := twelve (CI0.out.box.below CI0.out.box.lt b9)
            have HR := Lib.hid hr
            obtain ⟨w8, hw8⟩ : ∃ w8, w8 = ((((((((((((wc).setCell ⟨jb, 0, none⟩ (.int .i64 q0.g)).setCell ⟨jb, 1, none⟩ (.int .i64 q0.b)).setCell ⟨jb, 2, none⟩ (.slice q0.A q0.n q0.c)).setCell ⟨jb, 3, none⟩ (.int .i64 q1.g)).setCell ⟨jb, 4, none⟩ (.int .i64 q1.b)).setCell ⟨jb, 5, none⟩ (.slice q1.A q1.n q1.c)).setCell ⟨jb, 6, none⟩ (.int .i64 q2.g)).setCell ⟨jb, 7, none⟩ (.int .i64 q2.b)).setCell ⟨jb, 8, none⟩ (.slice q2.A q2.n q2.c)).setCell ⟨jb, 9, none⟩ (.int .i64 q3.g)).setCell ⟨jb, 10, none⟩ (.int .i64 q3.b)).setCell ⟨jb, 11, none⟩ (.slice q3.A q3.n q3.c) := ⟨_, rfl⟩
            have C8 : CI w w8 jb eg mm ec es ag mm ac qs js FA fn fc bs q0 q1 q2 q3 i := by rw [hw8]; exact C8
            have C8 := Lib.hid C8
            have Hw8 := Lib.hid hw8
            clear hG2 hJ9 er hr hw8 ZE Z0 CA hlb
            go_upto_region 19 with fail
            rw [← Hw8.out]
            clear d0 d1 d2 d3 d4 d5 d6 d7 d8 d9 d10 d11 e0 e1 e2 e3 e4 e5 e6 e7 e8 e9 e10 e11 f0 f1 f2 f3 f4 f5 f6 f7 f8 f9 f10 f11
            obtain ⟨lb', lf', hA', hlb', u0, u1, u2, u3, u4, u5, u6, -⟩ := (HM0.out.below C8.out.bel).cells HX.out.1 HX.out.2
            cases hA'
            have ZE := Lib.hid (nine u0 u1 u2 u3 u4 u5 u6 hlb')
            have hb := (Below.refl w8.heap.size w8).drew
            have z10 := ZE.out _ hb
            have HF := Lib.hid C8.out.file
            have HFN := Lib.hid C8.out.file.len
            have HBL := Lib.hid (show bs.length ≤ 10000 ∧ (Fr.frame (put x)).length ≤ 1000 from ⟨PI0.out.len (by have := HLN.out; have := HG.out; omega) (by have := ML.out; have := HG.out; omega), by rw [Fr.frame_len]; have := Jo.put_len x; have := (Nm.vd_len ((put x).length : Int)).2; omega⟩)
            have CL := Lib.hid (fun w' => lframed_any x w' (Jo.app_may HR.out))
            obtain ⟨i0, hi, hz0, hz1, hz2⟩ := info_parts info_u8
            clear u0 u1 u2 u3 u4 u5 u6
            go_cut [16] (fun u w9 => ∃ F fn' fc', u = .slice F fn' fc' ∧ Hid (Sl w9 .u8 F fn' fc' (bs ++ Fr.frame (put x)) ∧ (∀ a, F = some a → w8.heap.size ≤ a.block) ∧ Below w8.heap.size w8 w9))
            case first =>
              go_region_held3 (fun w' => w'.cell? ⟨lb, lf + k * 7, none⟩ = some (.int .i64 x.kind) ∧ w'.cell? ⟨lb, lf + k * 7 + 1, none⟩ = some (.int .i64 x.part) ∧ w'.cell? ⟨lb, lf + k * 7 + 2, none⟩ = some (.int .i64 x.id) ∧ w'.cell? ⟨lb, lf + k * 7 + 3, none⟩ = some (.int .i64 x.st) ∧ w'.cell? ⟨lb, lf + k * 7 + 4, none⟩ = some (.int .i64 x.en) ∧ w'.cell? ⟨lb, lf + k * 7 + 5, none⟩ = some (.int .i64 x.size) ∧ w'.cell? ⟨lb, lf + k * 7 + 6, none⟩ = some (.int .i64 x.sum)) (with_reducible exact z10) (first
                | (refine Wd.step_app _ rfl (.tmp 93) (.tmp 98) 39 rfl w8.heap.size 5 i0 _ .u8 1 Try.underlying39 hi hz0 hz1 hz2 rfl v2 bs rfl hO2 _ A5 n5 c5 (Fr.frame (put x)) rfl hS5.len hS5.nil hS5.rd (by have := HBL.out; omega) (by have := HBL.out; unfold maxLen; omega) hb.size ?_; intro v6 wC hO6 hg6; have hb := hb.grown hg6 hb.size (fun g hg => (hO2.lt g hg).1); have z10 := ZE.out _ hb; obtain ⟨F6, n6, c6, e6, hS6⟩ := Wd.Sl.of_own hO6; subst e6; have hF6 : ∀ a, F6 = some a → w8.heap.size ≤ a.block := fun a e => (hO6.lt a.block (by rw [e]; rfl)).1)
                | (go_at_call 14; (with_reducible refine (CL.out _).mono ?_); rintro e wB ⟨A5, n5, c5, rfl, hS5, hB5⟩; have hO2 := Wd.own_below hO2 hB5; have hb := hb.trans (hB5.mono hb.size); have z10 := ZE.out _ hb)
                | (go_at_call 14; (with_reducible refine (CL.out _).mono ?_); rintro e wB ⟨A5, n5, c5, rfl, hS5, hB5⟩; have hb := hb.trans (hB5.mono hb.size); have z10 := ZE.out _ hb)
                | (refine Wd.step_app _ rfl (.const (.slice none 0 0)) (.tmp 92) 39 rfl w8.heap.size 5 i0 _ .u8 1 Try.underlying39 hi hz0 hz1 hz2 rfl (.slice none 0 0) [] rfl (World.ownsRow_nil _ _ _ _) _ FA fn fc bs rfl HFN.out (HF.out.below hb).nil (HF.out.below hb).rd (by have := HBL.out; simp only [List.length_nil]; omega) (by have := HBL.out; simp only [List.length_nil]; unfold maxLen; omega) hb.size ?_; intro v2 wA hO2 hg2; rw [List.nil_append] at hO2; have hb2 := (Below.refl _ _).grown hg2 (Nat.le_refl _) (by simp [Value.ownBlock]); have hS5 := hS5.below hb2; have hb := hb.trans (hb2.mono hb.size); have z10 := ZE.out _ hb)
                | (refine Wd.step_app _ rfl (.const (.slice none 0 0)) (.tmp 92) 39 rfl w8.heap.size 5 i0 _ .u8 1 Try.underlying39 hi hz0 hz1 hz2 rfl (.slice none 0 0) [] rfl (World.ownsRow_nil _ _ _ _) _ FA fn fc bs rfl HFN.out (HF.out.below hb).nil (HF.out.below hb).rd (by have := HBL.out; simp only [List.length_nil]; omega) (by have := HBL.out; simp only [List.length_nil]; unfold maxLen; omega) hb.size ?_; intro v2 wA hO2 hg2; rw [List.nil_append] at hO2; have hb2 := (Below.refl _ _).grown hg2 (Nat.le_refl _) (by simp [Value.ownBlock]); have hb := hb.trans (hb2.mono hb.size); have z10 := ZE.out _ hb))
              all_goals (
                go_wp2_with fail
                go_meet
                exact ⟨_, _, _, rfl, Lib.hid ⟨hS6, hF6, hb⟩⟩)
            case rest =>
              obtain ⟨F, fn', fc', rfl, hF⟩ := hcut
              have C9 := Lib.hid ((C8.out.below hF.out.2.2).setf C8.out.hs_lt hF.out.1 hF.out.2.1)
              have FN := Lib.hid hF.out.1.len
              have C10 := Lib.hid (C9.out.below ((Below.refl wc.heap.size wc).alloc (Nat.le_refl _) (.cells #[.int .i64 (fn' : Int)] 3)))
              obtain ⟨i1, hi1, hy0, hy1, hy2⟩ := info_parts info_int
              obtain ⟨i2, hi2, hx0, hx1, hx2⟩ := info_parts info_jn
              have I2 := Lib.hid (And.intro hi2 (And.intro hx0 (And.intro hx1 hx2)))
              have hz10 := Nat.le_trans C10.out.e_lt.1 (Nat.le_of_lt C10.out.e_lt.2)
              clear hi hz0 hz1 hz2 hi2 hx0 hx1 hx2 hF ZE CL HF HFN z10 hb
              go_upto_region 21 with (at_builtin; refine wpList_appRow _ rfl (.tmp 100) (.tmp 103) 42 rfl (jb + 1) 3 i1 _ 1 8 Try.underlying42 hi1 hy0 hy1 hy2 rfl (by decide) eg mm ec (es.map (Value.int .i64)) rfl C10.out.ends ⟨wc.heap.size, 0, none⟩ [.int .i64 (fn' : Int)] rfl rfl (new_cells wc [.int .i64 (fn' : Int)] 3) (by simp [Value.oneCell']) (by unfold maxLen; omega) (by omega) hz10 ?_; intro g1' c1' wA hOA hgA hbA; have HOA := Lib.hid (And.intro hOA (And.intro hgA hbA)); clear hOA hgA hbA)
              have C11 := Lib.hid (C10.out.pushE (es' := es ++ [(fn' : Int)]) (by rw [List.map_append]; exact HOA.out.1) HOA.out.2.1 HOA.out.2.2)
              have C12 := Lib.hid (C11.out.below ((Below.refl wA.heap.size wA).alloc (Nat.le_refl _) (.cells #[.int .i64 q0.g, .int .i64 q0.b, .slice q0.A q0.n q0.c, .int .i64 q1.g, .int .i64 q1.b, .slice q1.A q1.n q1.c, .int .i64 q2.g, .int .i64 q2.b, .slice q2.A q2.n q2.c, .int .i64 q3.g, .int .i64 q3.b, .slice q3.A q3.n q3.c] 27)))
              obtain ⟨hi2, hx0, hx1, hx2⟩ := I2.out
              have hz12 := Nat.le_trans C12.out.e_lt.1 (Nat.le_of_lt C12.out.e_lt.2)
              obtain ⟨⟨d0, d1, d2, d3, d4, d5, d6, d7, d8, d9, d10, d11⟩, -⟩ := twelve C11.out.box
              have jbl := C11.out.box.lt
              clear hi1 hy0 hy1 hy2 C10 C8 C9 I2
              go_wp2_with (at_builtin; refine wpList_appRow _ rfl (.tmp 105) (.tmp 107) 43 rfl (jb + 1) 27 i2 _ 12 160 Try.underlying43 hi2 hx0 hx1 hx2 rfl (by decide) ag mm ac (flatQ qs) rfl C12.out.all ⟨wA.heap.size, 0, none⟩ (Jq.cs ⟨q0, q1, q2, q3⟩) rfl rfl (new_cells wA (Jq.cs ⟨q0, q1, q2, q3⟩) 27) (cs_one _) (by unfold maxLen; omega) (by omega) hz12 ?_; intro g2' c2' wB hOB hgB hbB; have HOB := Lib.hid (And.intro hOB (And.intro hgB hbB)); clear hOB hgB hbB)
              have C13 := Lib.hid (C12.out.pushA (by rw [flatQ_app, flatQ_one]; exact HOB.out.1) HOB.out.2.1 HOB.out.2.2)
              have P13 := Lib.hid (PI0.out.push (n := (fn' : Int)) HR.out (by rw [FN.out]))
              have ML13 := Lib.hid (show (ms ++ [x]).length ≤ k + 1 ∧ mm + 1 = (ms ++ [x]).length + 1 from by rw [List.length_append, List.length_singleton]; have := ML.out; omega)
              clear HOA HOB C12 C11 d0 d1 d2 d3 d4 d5 d6 d7 d8 d9 d10 d11 hi2 hx0 hx1 hx2
              go_roundw
              case rel => exact ⟨k + 1, by go_num, by omega, _, _, _, _, _, _, _, _, _, _, _, _, _, _, _, _, _, _, rfl, rfl, rfl, Lib.hid ⟨C13.out, P13.out, ML13.out⟩⟩
              case measure => simp [intOf]; omega
      · have hkI : ¬ (k : Int) < (m : Int) := by omega
        have HFN := Lib.hid CI0.out.file.len
        have HBL := Lib.hid (PI0.out.len (by have := HLN.out; have := HG.out; omega) (by have := ML.out; have := HG.out; omega))
        have hf1 : fn ≤ 10000 := by have := HFN.out; have := HBL.out; omega
        have hf2 : (0 : Int) < (fn : Int) + 1 := by omega
        have ht0 := Int.emod_nonneg cut (show ((fn : Int) + 1) ≠ 0 by omega)
        have ht1 := Int.emod_lt_of_pos cut hf2
        go_upto_region 23 with fail
        obtain ⟨a, ha⟩ : ∃ a : Nat, (a : Int) = cut % ((fn : Int) + 1) := ⟨(cut % ((fn : Int) + 1)).toNat, by omega⟩
        rw [← ha] at ht0 ht1 ⊢
        clear ha ht0 hf2
        have haf : a ≤ fn := by omega
        have hno0 : 0 ≤ no := by omega
        have hno1 : no ≤ 9223372036854775807 := by omega
        have hl30 : l.length ≤ 4096 := by have := HLN.out; have := HG.out; omega
        have HBY := Lib.hid (PI0.out.byt hno0 hno1 hl30)
        have HSa := Lib.hid (CI0.out.file.head a haf)
        have hcut := PI0.out.cut hno0 hno1 hl30 a
        rw [← BN.out] at hcut
        have LM := Lib.hid hl30
        have WH := Lib.hid (PI0.out.whole hno0 hno1 hl30)
        have hca := CI0.out.file.cap
        clear ht1 hl30 hno0
        rcases hcut with ⟨hab, hrd⟩ | ⟨hab, s, hs, hrd, hmd, hes⟩
        · have CR : Hid (Calls Try.prog 15 #[.int .i64 no, .slice FA a fc] wr (OutN wr)) := by
            refine Lib.hid ?_
            rcases hrd with hrd | ⟨xs, i, hrd, hxl, hxm, hxs⟩
            · exact read_none no FA a fc (bs.take a) wr HSa.out (by omega) (fun z hz => HBY.out z (List.mem_of_mem_take hz)) hrd
            · refine (read_main no FA a fc (bs.take a) l.length xs i wr HSa.out (by omega) (fun z hz => HBY.out z (List.mem_of_mem_take hz)) hrd (by omega) (by omega) LM.out hxs hxm (by have := LM.out; omega)).mono ?_
              intro e w' h
              exact h.1 hxl
          have habI : (a : Int) < (bn : Int) := by omega
          clear hrd hab
          go_wp2_with fail
          refine CR.out.mono ?_
          rintro e wD ⟨rfl, hBD⟩
          have BD := Lib.hid (alS (CI0.out.bel.trans (hBD.mono CI0.out.bel.size)) (.cells #[.int .i64 0, .int .i64 0, .slice none 0 0, .int .i64 0, .int .i64 0, .slice none 0 0, .int .i64 0, .int .i64 0, .slice none 0 0, .int .i64 0, .int .i64 0, .slice none 0 0] 27))
          clear hBD
          go_wp2_with fail
          go_ret
          exact ⟨rfl, BD.out⟩
        · have habI : ¬ (a : Int) < (bn : Int) := by omega
          have CR := Lib.hid (read_main no FA a fc (bs.take a) l.length _ _ wr HSa.out (by omega) (fun z hz => HBY.out z (List.mem_of_mem_take hz)) hrd (by omega) (by omega) LM.out (Jo.made_may _ _ _ hmd) hmd (by have := LM.out; have := ML.out; have := HG.out; rw [List.length_append, List.length_take]; omega))
          have HS := Lib.hid hs
          have HES := Lib.hid hes
          clear hrd hmd hs hes hab
          go_wp2_with fail
          refine CR.out.mono ?_
          rintro e wD hR
          obtain ⟨r0, r1, r2, r3, rfl, hJD, hBD⟩ := hR.2 (by rw [List.length_append]; omega)
          have bG := alS hBD (.cells #[.int .i64 r0.g, .int .i64 r0.b, .slice r0.A r0.n r0.c, .int .i64 r1.g, .int .i64 r1.b, .slice r1.A r1.n r1.c, .int .i64 r2.g, .int .i64 r2.b, .slice r2.A r2.n r2.c, .int .i64 r3.g, .int .i64 r3.b, .slice r3.A r3.n r3.c] 27)
          have gb := Bx.new wD 27 #[.int .i64 r0.g, .int .i64 r0.b, .slice r0.A r0.n r0.c, .int .i64 r1.g, .int .i64 r1.b, .slice r1.A r1.n r1.c, .int .i64 r2.g, .int .i64 r2.b, .slice r2.A r2.n r2.c, .int .i64 r3.g, .int .i64 r3.b, .slice r3.A r3.n r3.c]
          have jG := hJD.below ((Below.refl wD.heap.size wD).alloc (Nat.le_refl _) (.cells #[.int .i64 r0.g, .int .i64 r0.b, .slice r0.A r0.n r0.c, .int .i64 r1.g, .int .i64 r1.b, .slice r1.A r1.n r1.c, .int .i64 r2.g, .int .i64 r2.b, .slice r2.A r2.n r2.c, .int .i64 r3.g, .int .i64 r3.b, .slice r3.A r3.n r3.c] 27))
          have zG : (wD.alloc (.cells #[.int .i64 r0.g, .int .i64 r0.b, .slice r0.A r0.n r0.c, .int .i64 r1.g, .int .i64 r1.b, .slice r1.A r1.n r1.c, .int .i64 r2.g, .int .i64 r2.b, .slice r2.A r2.n r2.c, .int .i64 r3.g, .int .i64 r3.b, .slice r3.A r3.n r3.c] 27)).heap.size = wD.heap.size + 1 := by simp
          obtain ⟨wG, hwG⟩ : ∃ wG, wG = wD.alloc (.cells #[.int .i64 r0.g, .int .i64 r0.b, .slice r0.A r0.n r0.c, .int .i64 r1.g, .int .i64 r1.b, .slice r1.A r1.n r1.c, .int .i64 r2.g, .int .i64 r2.b, .slice r2.A r2.n r2.c, .int .i64 r3.g, .int .i64 r3.b, .slice r3.A r3.n r3.c] 27) := ⟨_, rfl⟩
          rw [← hwG] at bG gb jG zG
          obtain ⟨kg, hkg⟩ : ∃ kg, kg = wD.heap.size := ⟨_, rfl⟩
          rw [← hkg] at gb zG
          have CG := Lib.hid (CI0.out.below bG)
          have GB := Lib.hid gb
          have JG := Lib.hid jG
          have ZG := Lib.hid zG
          have HwG := Lib.hid hwG
          clear hR hJD hBD bG gb jG zG hwG
          go_upto_region 24 with fail
          rw [← HwG.out, ← hkg]
          clear hkg HwG
          have al := alS (Below.refl wG.heap.size wG) (.cells #[.int .i64 0, .int .i64 0, .slice none 0 0, .int .i64 0, .int .i64 0, .slice none 0 0, .int .i64 0, .int .i64 0, .slice none 0 0, .int .i64 0, .int .i64 0, .slice none 0 0] 27)
          have vb := Bx.new wG 27 #[.int .i64 0, .int .i64 0, .slice none 0 0, .int .i64 0, .int .i64 0, .slice none 0 0, .int .i64 0, .int .i64 0, .slice none 0 0, .int .i64 0, .int .i64 0, .slice none 0 0]
          obtain ⟨wV, hwV⟩ : ∃ wV, wV = wG.alloc (.cells #[.int .i64 0, .int .i64 0, .slice none 0 0, .int .i64 0, .int .i64 0, .slice none 0 0, .int .i64 0, .int .i64 0, .slice none 0 0, .int .i64 0, .int .i64 0, .slice none 0 0] 27) := ⟨_, rfl⟩
          rw [← hwV] at al vb
          rw [ZG.out] at vb
          have VB := Lib.hid vb
          have AL := Lib.hid al
          have HwV := Lib.hid hwV
          clear al vb hwV
          go_upto_region 27 with fail
          rw [← HwV.out, ZG.out]
          clear HwV
          go_wp2_with fail
          go_loopw [24] (fun u wv => ∃ q : Nat, u = .int .i64 q ∧ q ≤ mm ∧ ∃ v0 v1 v2 v3, Hid (Bx wv (kg + 1) 27 #[.int .i64 v0.g, .int .i64 v0.b, .slice v0.A v0.n v0.c, .int .i64 v1.g, .int .i64 v1.b, .slice v1.A v1.n v1.c, .int .i64 v2.g, .int .i64 v2.b, .slice v2.A v2.n v2.c, .int .i64 v3.g, .int .i64 v3.b, .slice v3.A v3.n v3.c] ∧ Below wG.heap.size wG wv ∧ (0 < q → (⟨v0, v1, v2, v3⟩ : Jq) = qs.getD (min (q - 1) s) default))) (fun u _ => mm - (intOf u).toNat)
          case atStart => exact ⟨0, rfl, Nat.zero_le _, default, default, default, default, Lib.hid ⟨VB.out, AL.out, fun z => absurd z (Nat.lt_irrefl 0)⟩⟩
          case round =>
            obtain ⟨q, rfl, hq, v0, v1, v2, v3, hV⟩ := hrel
            have CV := Lib.hid (CG.out.below hV.out.2.1)
            by_cases hqm : q < mm
            · have hqI : (q : Int) < (mm : Int) := by omega
              have hqe : q < es.length := by have := PI0.out.el; have := ML.out; omega
              obtain ⟨E, hE⟩ : ∃ E, E = es.getD q 0 := ⟨_, rfl⟩
              have c0 := CV.out.ends.cellAt q (by omega)
              rw [List.getElem?_map, List.getElem?_eq_getElem hqe, Option.map_some, show es[q] = E by rw [hE, List.getD_eq_getElem?_getD, List.getElem?_eq_getElem hqe]; rfl] at c0
              have hEs := HES.out q (by have := ML.out; omega)
              rw [← hE] at hEs
              have heg := CV.out.e_lt.2
              have HEs := Lib.hid hEs
              clear hE hEs hqe
              by_cases hle : E ≤ (a : Int)
              · obtain ⟨⟨t0, t1, t2, t3⟩, ht⟩ : ∃ t, t = qs.getD q default := ⟨_, rfl⟩
                have hql : q < qs.length := by have := CV.out.ql; have := PI0.out.jl; have := ML.out; omega
                have hag := CV.out.a_lt.2
                have yy : ∀ i v, ((⟨t0, t1, t2, t3⟩ : Jq).cs)[i]? = some v → wr.cell? ⟨ag, q * 12 + i, none⟩ = some v := fun i v hv => by
                  have h1 := flatQ_get qs q hql i v (by rw [← ht]; exact hv)
                  have h2 := (List.getElem?_eq_some_iff.1 h1).1
                  rw [flatQ_len] at h2
                  rw [CV.out.all.cellAt (q * 12 + i) (by have := CV.out.ql; have := PI0.out.jl; have := ML.out; omega)]
                  exact h1
                obtain ⟨y0, y1, y2, y3, y4, y5, y6, y7, y8, y9, y10, y11⟩ := And.intro (show wr.cell? ⟨ag, q * 12, none⟩ = some (.int .i64 t0.g) from yy 0 _ rfl) (And.intro (yy 1 _ rfl) (And.intro (yy 2 _ rfl) (And.intro (yy 3 _ rfl) (And.intro (yy 4 _ rfl) (And.intro (yy 5 _ rfl) (And.intro (yy 6 _ rfl) (And.intro (yy 7 _ rfl) (And.intro (yy 8 _ rfl) (And.intro (yy 9 _ rfl) (And.intro (yy 10 _ rfl) (yy 11 _ rfl)))))))))))
                obtain ⟨⟨e0, e1, e2, e3, e4, e5, e6, e7, e8, e9, e10, e11⟩, ⟨f0, f1, f2, f3, f4, f5, f6, f7, f8, f9, f10, f11⟩⟩ := twelve hV.out.1
                have HT := Lib.hid ht
                clear yy ht hql
                go_wp2_with fail
                go_roundw
                case rel => exact ⟨q + 1, by go_num, by omega, t0, t1, t2, t3, Lib.hid ⟨bx_set12 hV.out.1, below12 hV.out.2.1 (by have := ZG.out; omega) _ _ _ _ _ _ _ _ _ _ _ _, fun _ => by
                  have := HEs.out.1 hle
                  rw [show min (q + 1 - 1) s = q by omega]
                  exact HT.out⟩⟩
                case measure => simp [intOf]; omega
              · go_wp2_with fail
                go_roundw
                case rel => exact ⟨q + 1, by go_num, by omega, v0, v1, v2, v3, Lib.hid ⟨hV.out.1, hV.out.2.1, fun _ => by
                  have h1 : s < q := by
                    by_cases z : q ≤ s
                    · exact absurd (HEs.out.2 z) hle
                    · omega
                  rw [show min (q + 1 - 1) s = min (q - 1) s by omega]
                  exact hV.out.2.2 (by omega)⟩⟩
                case measure => simp [intOf]; omega
            · have hqI : ¬ (q : Int) < (mm : Int) := by omega
              obtain rfl : q = mm := by omega
              have hml := ML.out.2
              have hsm := HS.out
              have hqv := hV.out.2.2 (by omega)
              rw [show min (q - 1) s = s by omega] at hqv
              have jq := (CV.out.qj s (by have := PI0.out.jl; omega)).1
              rw [← hqv] at jq
              have jr := JG.out.below hV.out.2.1
              have pe := jr.e
              rw [jq.e] at pe
              simp only [List.cons.injEq, and_true] at pe
              obtain ⟨w0, w1, w2, w3⟩ := pe
              obtain ⟨ys, hys⟩ := WH.out
              have CO := Lib.hid (read_other (no + 1) no FA fn fc bs l.length ys wr CV.out.file (by omega) HBY.out hys (by omega) (by omega) (by omega) (by omega) (by omega) LM.out)
              have JQ := Lib.hid jq
              have JR := Lib.hid jr
              have PE := Lib.hid (And.intro w0 (And.intro w1 (And.intro w2 w3)))
              clear hml hsm hqv jq jr w0 w1 w2 w3 hys
              go_wp2_with fail
              refine CO.out.mono ?_
              rintro e wE ⟨rfl, hBE⟩
              have bF := alS hBE (.cells #[.int .i64 0, .int .i64 0, .slice none 0 0, .int .i64 0, .int .i64 0, .slice none 0 0, .int .i64 0, .int .i64 0, .slice none 0 0, .int .i64 0, .int .i64 0, .slice none 0 0] 27)
              obtain ⟨wF, hwF⟩ : ∃ wF, wF = wE.alloc (.cells #[.int .i64 0, .int .i64 0, .slice none 0 0, .int .i64 0, .int .i64 0, .slice none 0 0, .int .i64 0, .int .i64 0, .slice none 0 0, .int .i64 0, .int .i64 0, .slice none 0 0] 27) := ⟨_, rfl⟩
              rw [← hwF] at bF
              have GF := Lib.hid ((GB.out.below GB.out.lt hV.out.2.1).below (GB.out.below GB.out.lt hV.out.2.1).lt bF)
              have VF := Lib.hid (hV.out.1.below hV.out.1.lt bF)
              have jr := JR.out.below bF
              have jq := JQ.out.below bF
              have CS := Lib.hid (same_pt r0 r1 r2 r3 v0 v1 v2 v3 wF PE.out.1 PE.out.2.1 PE.out.2.2.1 PE.out.2.2.2 jr.s0 jr.s1 jr.s2 jr.s3 jq.s0 jq.s1 jq.s2 jq.s3)
              have BF := Lib.hid (CV.out.bel.trans (bF.mono CV.out.bel.size))
              have HwF := Lib.hid hwF
              clear hBE bF hwF jr jq
              go_upto_region 33 with fail
              rw [← HwF.out]
              obtain ⟨⟨d0, d1, d2, d3, d4, d5, d6, d7, d8, d9, d10, d11⟩, -⟩ := twelve GF.out
              obtain ⟨⟨e0, e1, e2, e3, e4, e5, e6, e7, e8, e9, e10, e11⟩, -⟩ := twelve VF.out
              go_wp2_with fail
              refine CS.out.mono ?_
              rintro e wH ⟨rfl, hBH⟩
              have BH := Lib.hid (BF.out.trans (hBH.mono BF.out.size))
              clear hBH
              go_wp2_with fail
              go_ret
              exact ⟨rfl, BH.out⟩
end Lw
end Go.Proofs.Ytljgalleiemaaaa
