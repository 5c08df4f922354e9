/- The walk of the statement FrameMore of layer 4. -/
import Derived.Test.YtahocgmaeokoaaaFrLawD
import Derived.Test.YtahocgmaeokoaaaLists2
import Derived.Test.YtahocgmaeokoaaaNumRefV
import Derived.BigRegion
import Derived.Laws.StructEq
import Derived.Test.YtahocgmaeokoaaaFrBurst
namespace Go.Proofs.Ytahocgmaeokoaaa
open Go.RowKit
namespace Lw
open Fc Nc

theorem rd_two (l m : List (List Int)) (hl : Fr.Fine l) (hm : Fr.Fine m) : Fr.rd (Fr.cat l ++ Fr.cat m) = (l ++ m, (Fr.cat l).length + (Fr.cat m).length) := by
  have h2 := Fr.rd_cat m [] hm
  rw [List.append_nil, Fr.rd_nil] at h2
  rw [Fr.rd_cat l _ hl, h2]
  simp
theorem info_bss : (Try.prog.info? 22).map (fun i => (i.zero, i.size, i.bytes)) = some (some (.slice none 0 0), 1, 24) := by kernel_rfl

theorem eq4 (a b c d : Int) (w : World) : (Op.equalIn 10000 38 (.agg #[.int .u8 a, .int .u8 b, .int .u8 c, .int .u8 d]) (.agg #[.int .u8 0, .int .u8 0, .int .u8 0, .int .u8 0])).run Try.prog w = .ok (decide (a = 0 ∧ b = 0 ∧ c = 0 ∧ d = 0)) w := by
  have u3 := Try.underlying5
  have a3 := Try.isAgg5
  have z3 := Try.sizeOf5
  rw [show (10000 : Nat) = 9999 + 1 from rfl, Op.equalIn]
  simp only [Sem.run_bind, run_underlying Try.underlying38, Result.andThen_ok]
  simp only [Std.Legacy.Range.forIn_eq_forIn_range', Std.Legacy.Range.size, Nat.sub_zero, Nat.add_sub_cancel, Nat.div_one, List.range'_succ, List.range'_zero, List.forIn_cons, List.forIn_nil]
  go_simp
  by_cases h1 : a = 0 <;> by_cases h2 : b = 0 <;> by_cases h3 : c = 0 <;> by_cases h4 : d = 0 <;> simp [h1, h2, h3, h4]

set_option maxRecDepth 100000 in
set_option maxHeartbeats 4000000 in
theorem more_ok (A B : Option Addr) (n m c d : Nat) (l k : List (List Int)) (at_ : Int) (x0 x1 x2 x3 : Int) (w : World) (hS : Wd.Ss w A n c l) (hT : Wd.Ss w B m d k) (hF : ∀ y, y ∈ l → Wd.Fits .u8 y) (hG : ∀ y, y ∈ k → Wd.Fits .u8 y) (hX : Nm.Byt [x0, x1, x2, x3]) (hf : fewB l = true) (hg : fewB k = true) (a0 : -9223372036854775808 ≤ at_) (a1 : at_ ≤ 9223372036854775807) :
    Calls Try.prog 6 #[.slice A n c, .slice B m d, .int .i64 at_, .agg #[.int .u8 x0, .int .u8 x1, .int .u8 x2, .int .u8 x3]] w fun e w' => e = .returned (.bool true) ∧ Below w.heap.size w w' := by
  obtain ⟨i0, hi, hz0, hz1, hz2⟩ := info_parts info_u8
  obtain ⟨i1, hi1, hy0, hy1, hy2⟩ := info_parts info_bss
  have Hl := Lib.hid hS.len
  have Hm := Lib.hid hT.len
  have HS := Lib.hid hS
  have HT := Lib.hid hT
  have Hf := Lib.hid hf
  have Hg := Lib.hid hg
  have HF := Lib.hid hF
  have HG := Lib.hid hG
  have hfl := Lib.hid (fine_of hf hF)
  have hfk := Lib.hid (fine_of hg hG)
  have hn20 : n ≤ 20 := by rw [Hl.out]; exact (fewB_of hf).1
  have hm20 : m ≤ 20 := by rw [Hm.out]; exact (fewB_of hg).1
  have hcap := hS.cap
  have hmx := hS.max
  have hcap2 := hT.cap
  have hmx2 := hT.max
  unfold maxLen at hmx hmx2
  have Cf := Lib.hid fun w' hb => few_any A n c l w' (hS.below hb)
  have Cg := Lib.hid fun w' hb => few_any B m d k w' (hT.below hb)
  rw [hf] at Cf
  rw [hg] at Cg
  clear hS hT hf hF hg hG
  go_enter Try.func6, Try.ntmps6
  go_wp2_with fail
  have hb0 : Below w.heap.size w (w.alloc (.cells #[.int .u8 x0, .int .u8 x1, .int .u8 x2, .int .u8 x3] 38)) := (Below.refl _ _).alloc (Nat.le_refl _) _
  have bx := Wd.Bx.new w 38 #[.int .u8 x0, .int .u8 x1, .int .u8 x2, .int .u8 x3]
  generalize hw0 : w.alloc (.cells #[.int .u8 x0, .int .u8 x1, .int .u8 x2, .int .u8 x3] 38) = w0 at *
  clear hw0
  refine (awake_any w0).mono ?_
  rintro e w1 ⟨rfl, hb1⟩
  have hW1 := nextC hb0 hb1
  go_wp2_with fail
  refine (Cf.out w1 hW1).mono ?_
  rintro e w2 ⟨rfl, rfl⟩
  go_wp2_with fail
  refine (Cg.out w1 hW1).mono ?_
  rintro e w2 ⟨rfl, rfl⟩
  clear Cf Cg
  go_wp2_with fail
  go_loopw [12, 14] (fun va i wr => ∃ j : Nat, i = .int .i64 (j : Int) ∧ j ≤ n ∧ wr.ownsRow w0.heap.size 5 1 va (Fr.cat (l.take j)).length ((Fr.cat (l.take j)).map (Value.int .u8)) ∧ Below w0.heap.size w0 wr) (fun _ i _ => n - (intOf i).toNat)
  case atStart => exact ⟨0, rfl, Nat.zero_le _, World.ownsRow_nil _ _ _ _, hb1⟩
  case round =>
    clear hb1 hW1
    obtain ⟨j, rfl, hj, hOa, hb⟩ := hrel
    have hsz := hb.size
    by_cases hlt : j < n
    · have hkl : j < l.length := by rw [← Hl.out]; exact hlt
      obtain ⟨b1, o1, A1, n1, c1, rfl, hlt1, cc1, hS1⟩ := (HS.out.below (nextC hb0 hb)).at_ j hkl
      have hp3 := fewB_get Hf.out j hkl
      have hpB : Nm.Byt (l.getD j []) := byt_of (HF.out _ (by simp [List.getD, hkl]))
      have hn1 : n1 ≤ 65536 := by rw [hS1.len]; omega
      have Cs := Lib.hid (Seal_any A1 n1 c1 (l.getD j []) wr hS1 hpB hn1)
      have hnx := Fr.cat_take l j hkl
      have hl2 := few_len Hf.out (j + 1)
      unfold Fr.ed at hl2
      have iI : (j : Int) < (n : Int) := by omega
      rw [hnx, List.length_append] at hl2
      generalize Fr.frame (l.getD j []) = fr at *
      have Hnx := Lib.hid hnx
      clear hnx hS1 hpB hp3
      generalize Fr.cat (l.take j) = cs at *
      go_wp2_with fail
      refine Cs.out.mono ?_
      rintro e w3 ⟨A3, n3, c3, rfl, hS3, hb3⟩
      have hOa3 := Wd.own_below hOa hb3
      have hW3 := nextC hb hb3
      have H3 := Lib.hid hS3.len
      have hs3 := hW3.size
      clear hOa hb hb3 Cs
      go_wp2_with (at_builtin; refine Wd.wpList_app _ rfl (.tmp 57) (.tmp 58) 22 rfl w0.heap.size 5 i0 _ .u8 1 Try.underlying22 hi hz0 hz1 hz2 rfl _ cs rfl hOa3 w3.heap.size A3 n3 c3 fr rfl H3.out hS3.nil hS3.rd (by omega) (by unfold maxLen; omega) hs3 ?_; intro v4 w4 hO4 hg4)
      go_roundw
      case rel => exact ⟨j + 1, by go_num, by omega, by rw [Hnx.out]; exact hO4, hW3.grown hg4 hs3 (fun g hg => (hOa3.lt g hg).1)⟩
      case measure => simp [intOf]; omega
    · have hkn : j = n := by omega
      subst hkn
      rw [show l.take j = l from List.take_of_length_le (by rw [← Hl.out]; exact Nat.le_refl _)] at hOa
      have iI : ¬ (j : Int) < (j : Int) := by omega
      obtain ⟨wa, rfl⟩ : ∃ wa : World, wa = wr := ⟨_, rfl⟩
      have hba := nextC hb0 hb
      go_wp2_with fail
      go_loopw [13, 17] (fun vb i wr => ∃ q : Nat, i = .int .i64 (q : Int) ∧ q ≤ m ∧ wr.ownsRow wa.heap.size 5 1 vb (Fr.cat (k.take q)).length ((Fr.cat (k.take q)).map (Value.int .u8)) ∧ Below wa.heap.size wa wr) (fun _ i _ => m - (intOf i).toNat)
      case atStart => exact ⟨0, rfl, Nat.zero_le _, World.ownsRow_nil _ _ _ _, Below.refl _ _⟩
      case round =>
        obtain ⟨q, rfl, hq, hOb, hbb⟩ := hrel
        have hszb := hbb.size
        by_cases hlt2 : q < m
        · have hkl : q < k.length := by rw [← Hm.out]; exact hlt2
          obtain ⟨b1, o1, A1, n1, c1, rfl, hlt1, cc1, hS1⟩ := (HT.out.below (nextC hba hbb)).at_ q hkl
          have hp3 := fewB_get Hg.out q hkl
          have hpB : Nm.Byt (k.getD q []) := byt_of (HG.out _ (by simp [List.getD, hkl]))
          have hn1 : n1 ≤ 65536 := by rw [hS1.len]; omega
          have Cs := Lib.hid (Seal_any A1 n1 c1 (k.getD q []) wr hS1 hpB hn1)
          have hnx := Fr.cat_take k q hkl
          have hl2 := few_len Hg.out (q + 1)
          unfold Fr.ed at hl2
          have iI2 : (q : Int) < (m : Int) := by omega
          rw [hnx, List.length_append] at hl2
          generalize Fr.frame (k.getD q []) = fr at *
          have Hnx := Lib.hid hnx
          clear hnx hS1 hpB hp3
          generalize Fr.cat (k.take q) = cs at *
          go_wp2_with fail
          refine Cs.out.mono ?_
          rintro e w3 ⟨A3, n3, c3, rfl, hS3, hb3⟩
          have hOb3 := Wd.own_below hOb hb3
          have hW3 := nextC hbb hb3
          have H3 := Lib.hid hS3.len
          have hs3 := hW3.size
          clear hOb hbb hb3 Cs
          go_wp2_with (at_builtin; refine Wd.wpList_app _ rfl (.tmp 74) (.tmp 75) 22 rfl wa.heap.size 5 i0 _ .u8 1 Try.underlying22 hi hz0 hz1 hz2 rfl _ cs rfl hOb3 w3.heap.size A3 n3 c3 fr rfl H3.out hS3.nil hS3.rd (by omega) (by unfold maxLen; omega) hs3 ?_; intro v4 w4 hO4 hg4)
          go_roundw
          case rel => exact ⟨q + 1, by go_num, by omega, by rw [Hnx.out]; exact hO4, hW3.grown hg4 hs3 (fun g hg => (hOb3.lt g hg).1)⟩
          case measure => simp [intOf]; omega
        · have hqm : q = m := by omega
          subst hqm
          rw [show k.take q = k from List.take_of_length_le (by rw [← Hm.out]; exact Nat.le_refl _)] at hOb
          have iI2 : ¬ (q : Int) < (q : Int) := by omega
          have hOa2 := Wd.own_below hOa hbb
          have hWr := nextC hba hbb
          have hla := few_len Hf.out j
          have hlb := few_len Hg.out q
          rw [show Fr.ed l j = (Fr.cat l).length by rw [Hl.out]; exact Fr.ed_all l] at hla
          rw [show Fr.ed k q = (Fr.cat k).length by rw [Hm.out]; exact Fr.ed_all k] at hlb
          have Cr := Lib.hid fun B' m' d' w' hS' hm' => read_any B' m' d' (Fr.cat l ++ Fr.cat k) w' hS' hm' (byt_app (Fr.cat_byt hfl.out) (Fr.cat_byt hfk.out))
          rw [rd_two l k hfl.out hfk.out] at Cr
          obtain ⟨Aa, na, ca, rfl, hSa⟩ := Wd.Sl.of_own hOa2
          obtain ⟨Ab, nb, cb, rfl, hSb⟩ := Wd.Sl.of_own hOb
          have Hna := Lib.hid hSa.len
          have Hnb := Lib.hid hSb.len
          have hna : na ≤ 6280 := by rw [Hna.out]; exact hla
          have hnb : nb ≤ 6280 := by rw [Hnb.out]; exact hlb
          have hr0 := hszb
          go_wp2_with (at_builtin; first | (refine Wd.wpList_app _ rfl (.const (.slice none 0 0)) (.tmp 78) 22 rfl wr.heap.size 5 i0 _ .u8 1 Try.underlying22 hi hz0 hz1 hz2 rfl (.slice none 0 0) [] rfl (World.ownsRow_nil _ _ _ _) wr.heap.size Aa na ca (Fr.cat l) rfl Hna.out hSa.nil hSa.rd (by simp only [List.length_nil]; omega) (by simp only [List.length_nil]; unfold maxLen; omega) (Nat.le_refl _) ?_; intro v5 w5 hO5 hg5; have hb5 : Below wr.heap.size wr w5 := (Below.refl _ _).grown hg5 (Nat.le_refl _) (by simp [Value.ownBlock]); have hSb5 := hSb.below hb5; have hs5 := hb5.size) | (refine Wd.wpList_app _ rfl (.tmp 79) (.tmp 80) 22 rfl wr.heap.size 5 i0 _ .u8 1 Try.underlying22 hi hz0 hz1 hz2 rfl v5 (Fr.cat l) rfl hO5 w5.heap.size Ab nb cb (Fr.cat k) rfl Hnb.out hSb5.nil hSb5.rd (by omega) (by unfold maxLen; omega) hs5 ?_; intro v6 w6 hO6 hg6; have hb6 : Below wr.heap.size wr w6 := hb5.grown hg6 hs5 (fun g hg => (hO5.lt g hg).1); obtain ⟨A6, n6, c6, rfl, hS6⟩ := Wd.Sl.of_own hO6))
          refine (Cr.out A6 n6 c6 w6 hS6 (by rw [hS6.len, List.length_append]; omega)).mono ?_
          rintro e w7 ⟨A7, n7, c7, rfl, hS7, hb7⟩
          have hr7 := nextC hb6 hb7
          have hW7 := nextC hWr hr7
          have hG7 := (HS.out.below hW7).gs
          obtain ⟨us, e1, e2, e3, e4⟩ := hG7
          have He1 := Lib.hid e1
          have Hus := Lib.hid e4
          obtain ⟨vs, f1, f2, f3, f4⟩ := (HT.out.below hW7).gs
          have Hf1 := Lib.hid f1
          have Hvs := Lib.hid f4
          have hb7s := hr7.size
          clear Cr hSb5 hO5 hg5 hb5 hO6 hg6 hS6 hb6 hb7 e1 e4 f1 f4
          go_wp2_with (at_builtin; first | (refine Wd.wpList_appV _ rfl (.const (.slice none 0 0)) (.tmp 86) 30 rfl w7.heap.size 22 i1 _ 24 Try.underlying30 hi1 hy0 hy1 hy2 rfl (.slice none 0 0) 0 [] rfl (World.ownsRow_nil _ _ _ _) A j c us rfl He1.out e2 e3 Hus.out.one (by unfold maxLen; omega) (by omega) (Nat.le_refl _) ?_; intro v8 w8 hO8 hg8; have hb8 : Below w7.heap.size w7 w8 := (Below.refl _ _).grown hg8 (Nat.le_refl _) (by simp [Value.ownBlock]); have hW8 := nextC hW7 hb8; have f3' := (fun ad h j u hu => (hb8.cell (p := ad.add j) (World.block_lt_of_cell? w7 (ad.add j) (f3 ad h j u hu))).trans (f3 ad h j u hu) : ∀ ad, B = some ad → ∀ j u, vs[j]? = some u → w8.cell? (ad.add j) = some u); have hs8 := hb8.size) | (refine Wd.wpList_appV _ rfl (.tmp 87) (.tmp 88) 30 rfl w7.heap.size 22 i1 _ 24 Try.underlying30 hi1 hy0 hy1 hy2 rfl v8 (0 + j) ([] ++ us) rfl hO8 B q d vs rfl Hf1.out f2 f3' Hvs.out.one (by unfold maxLen; omega) (by omega) hs8 ?_; intro v9 w9 hO9 hg9; have hb9 : Below w7.heap.size w7 w9 := hb8.grown hg9 hs8 (fun g hg => (hO8.lt g hg).1)))
          have hGs : Wd.Gs w9 (([] ++ us) ++ vs) (l ++ k) := (Hus.out.below hb9).app (Hvs.out.below hb9)
          obtain ⟨A9, n9, c9, rfl, hS9⟩ := Wd.Ss.of_gs hO9 hGs
          have Cl := lists_any A7 A9 n7 n9 c7 c9 (l ++ k) (l ++ k) w9 (hS7.below hb9) hS9
          rw [decide_eq_true rfl] at Cl
          have HCl := Lib.hid Cl
          clear Cl hGs hO9 hg9 hO8 hg8 hS9 hS7 e2 e3 f2 f3 f3' Hus Hvs
          refine HCl.out.mono ?_
          rintro e w10 ⟨rfl, hb10⟩
          have hr10 := nextC (nextC hr7 hb9) hb10
          have hW10 := nextC hWr hr10
          have hsum : ((((Fr.cat l).length + (Fr.cat k).length : Nat) : Int) != (na : Int) + (nb : Int)) = false := by
            rw [bne_eq_false_iff_eq, Hna.out, Hnb.out]
            exact Int.natCast_add _ _
          have hOa10 := Wd.own_below hOa2 hr10
          have bx10 : Wd.Bx w10 w.heap.size 38 _ := bx.below bx.lt (nextC hb (nextC hbb hr10))
          have y0 : w10.cell? ⟨w.heap.size, 0, none⟩ = some (.int .u8 x0) := bx10.cell 0
          have y1 : w10.cell? ⟨w.heap.size, 1, none⟩ = some (.int .u8 x1) := bx10.cell 1
          have y2 : w10.cell? ⟨w.heap.size, 2, none⟩ = some (.int .u8 x2) := bx10.cell 2
          have y3 : w10.cell? ⟨w.heap.size, 3, none⟩ = some (.int .u8 x3) := bx10.cell 3
          clear HCl hb10 hb9 hb8 hr7 hSa hSb hOa2 hOb hOa
          by_cases hj0 : j = 0
          · subst hj0
            go_wp2_with fail
            go_ret
            exact ⟨rfl, hW10⟩
          · have hj0' : ((j : Int) == 0) = false := by rw [beq_eq_false_iff_ne]; omega
            have hjl : 0 < l.length := by rw [← Hl.out]; omega
            by_cases hneg : at_ < 0
            · go_wp2_with fail
              go_ret
              exact ⟨rfl, hW10⟩
            · obtain ⟨b1, o1, A1, n1, c1, rfl, hlt1, cc1, hS1⟩ := (HS.out.below hW10).at_ 0 hjl
              have cc1' : w10.cell? ⟨b1, o1, none⟩ = some (.slice A1 n1 c1) := cc1
              have hjI : (0 : Int) < (j : Int) := by omega
              have hjN : 0 < j := by omega
              clear cc1
              by_cases hgt : (n1 : Int) < at_
              · go_wp2_with fail
                go_ret
                exact ⟨rfl, hW10⟩
              · obtain ⟨p, rfl⟩ := Int.eq_ofNat_of_zero_le (show 0 ≤ at_ by omega)
                have hpn : p ≤ n1 := by omega
                have heq := fun w => eq4 x0 x1 x2 x3 w
                by_cases hzr : x0 = 0 ∧ x1 = 0 ∧ x2 = 0 ∧ x3 = 0
                · rw [decide_eq_true hzr] at heq
                  clear hzr
                  go_wp2_with fail
                  go_ret
                  exact ⟨rfl, hW10⟩
                · rw [decide_eq_false hzr] at heq
                  have Hzr := Lib.hid hzr
                  have hl0 := Lib.hid hS1.len
                  have hn300 : n1 ≤ 300 := by rw [hl0.out]; exact fewB_get Hf.out 0 hjl
                  have hcl : Fr.cat l = Fr.frame (l.getD 0 []) ++ Fr.cat (l.drop 1) := by
                    cases l with
                    | nil => simp at hjl
                    | cons p0 l => rfl
                  have hvl := (Nm.vd_len (n1 : Int)).2
                  have hfl1 : (Nm.vd (n1 : Int)).length + n1 + 4 ≤ na := by
                    rw [Hna.out, hcl, List.length_append, Fr.frame_len, ← hl0.out]; omega
                  have Cp := Lib.hid fun w' => refPutLen_any (n1 : Int) w' (by omega) (by omega)
                  have hbur : Fr.rd (Fr.chg (Fr.cat l) ((Nm.vd (n1 : Int)).length + p) [x0, x1, x2, x3] 4) = ([], 0) := by
                    have h1 := hfl.out (l.getD 0 []) (by simp [List.getD, hjl])
                    have := Fr.rd_burst (l.getD 0 []) (Fr.cat (l.drop 1)) p x0 x1 x2 x3 h1.1 h1.2 (Fr.cat_byt fun q hq => hfl.out q (List.mem_of_mem_drop hq)) (by rw [← hl0.out]; exact hpn) hX hzr
                    rw [← hcl, ← hl0.out] at this
                    exact this
                  have Hcl := Lib.hid hcl
                  have Hbur := Lib.hid hbur
                  clear hzr hcl hbur hS1
                  go_wp2_with fail
                  refine (Cp.out w10).mono ?_
                  rw [if_neg (by omega)]
                  rintro e w11 ⟨A11, hd, c11, rfl, hS11, hb11⟩
                  have hhd : hd = (Nm.vd (n1 : Int)).length := hS11.len
                  rw [← hhd] at hfl1 hvl Hbur
                  have hW11 := nextC hW10 hb11
                  have hO11 := Wd.own_below hOa10 hb11
                  have h011 : Below w0.heap.size w0 w11 := nextC (nextC hb (nextC hbb hr10)) hb11
                  have hposI : ¬ (na : Int) < (hd : Int) + (p : Int) + 4 := by omega
                  clear hhd hS11 hOa10 Cp hb11 hW10
                  obtain ⟨g, rfl⟩ : ∃ g, Aa = some ⟨g, 0, none⟩ := by
                    rcases hO11.2 with ⟨e1, _⟩ | ⟨g, cap, cur, e1, _⟩
                    · cases e1; omega
                    · cases e1; exact ⟨g, rfl⟩
                  rw [← Hna.out] at hO11
                  have hca : na ≤ ca ∧ ca ≤ maxLen := by
                    rcases hO11.2 with ⟨e1, _⟩ | ⟨g, cap, cur, e1, _, _, h1, h2, _⟩
                    · cases e1
                    · cases e1; exact ⟨h1, h2⟩
                  obtain ⟨hca1, hca2⟩ := hca
                  unfold maxLen at hca2
                  have hcb := Fr.cat_byt hfl.out
                  have Hcb := Lib.hid hcb
                  have HX := Lib.hid hX
                  clear y0 y1 y2 y3 hcb heq
                  go_wp2_with fail
                  go_loopw [24] (fun i wr => ∃ t : Nat, i = .int .i64 (t : Int) ∧ t ≤ 4 ∧ wr.ownsRow w0.heap.size 5 1 (.slice (some ⟨g, 0, none⟩) na ca) na ((Fr.chg (Fr.cat l) (hd + p) [x0, x1, x2, x3] t).map (Value.int .u8)) ∧ Below w0.heap.size w0 wr) (fun i _ => 4 - (intOf i).toNat)
                  case atStart => exact ⟨0, rfl, Nat.zero_le _, hO11, h011⟩
                  case round =>
                    clear hO11 h011
                    obtain ⟨t, rfl, ht4, hO, hbt⟩ := hrel
                    have hWt := nextC hb0 hbt
                    by_cases hlt4 : t < 4
                    · have hti : hd + p + t < na := by omega
                      have hcl2 := Fr.chg_len (Fr.cat l) (hd + p) [x0, x1, x2, x3] t
                      rw [← Hna.out] at hcl2
                      obtain ⟨cA, fA⟩ := Wd.own_cell hO (hd + p + t) (by rw [hcl2]; exact hti)
                      have hgA := (hO.lt g rfl).1
                      have bxt : Wd.Bx wr w.heap.size 38 _ := bx.below bx.lt hbt
                      have cX : wr.cell? ⟨w.heap.size, t, none⟩ = some (.int .u8 ([x0, x1, x2, x3].getD t 0)) := by
                        rw [bxt.cell t]
                        rcases (show t = 0 ∨ t = 1 ∨ t = 2 ∨ t = 3 by omega) with rfl | rfl | rfl | rfl <;> rfl
                      have hbA := Fr.byt_getD (Fr.chg_byt Hcb.out HX.out (hd + p) t (by rw [← Hna.out]; omega)) (hd + p + t)
                      have hbX := Fr.byt_getD HX.out t
                      have hst : Fr.chg (Fr.cat l) (hd + p) [x0, x1, x2, x3] (t + 1) = (Fr.chg (Fr.cat l) (hd + p) [x0, x1, x2, x3] t).set (hd + p + t) (bits .xor .u8 ((Fr.chg (Fr.cat l) (hd + p) [x0, x1, x2, x3] t).getD (hd + p + t) 0) ([x0, x1, x2, x3].getD t 0)) := by
                        rw [u8_xor _ _ hbA.1 (by omega) hbX.1 (by omega)]
                        rfl
                      generalize (Fr.chg (Fr.cat l) (hd + p) [x0, x1, x2, x3] t).getD (hd + p + t) 0 = ya at *
                      generalize [x0, x1, x2, x3].getD t 0 = yx at *
                      have Hst := Lib.hid hst
                      have k1 : ((hd : Int) + (p : Int) + (t : Int)) < (na : Int) := by omega
                      have k2 : (0 : Int) ≤ (hd : Int) + (p : Int) + (t : Int) := by omega
                      have k3 : (t : Int) < 4 := by omega
                      have k4 : (0 : Int) ≤ (t : Int) := by omega
                      have k5 : w.heap.size ≠ g := by have := hb0.size; have := bx.lt; omega
                      obtain ⟨wo, rfl⟩ : ∃ wo : World, wo = wr := ⟨_, rfl⟩
                      clear hst hbA hbX bxt hcl2
                      go_upto_region 30 with fail
                      go_region
                      all_goals
                        go_wp2_with fail
                        go_roundw
                        case rel =>
                          refine ⟨t + 1, by go_num, by omega, ?_, (hbt.setCell (p := ⟨g, hd + p + t, none⟩) hgA _).drew⟩
                          rw [Hst.out]
                          exact Wd.own_set hO (hd + p + t) _
                        case measure => simp [intOf]; omega
                    · have ht : t = 4 := by omega
                      subst ht
                      obtain ⟨A12, n12, c12, e12, hS12⟩ := Wd.Sl.of_own hO
                      cases e12
                      have Cr2 := read_any _ na ca _ wr hS12 (by omega) (Fr.chg_byt Hcb.out HX.out (hd + p) 4 (by rw [← Hna.out]; omega))
                      rw [Hbur.out] at Cr2
                      have HCr2 := Lib.hid Cr2
                      clear Cr2 hS12 hO
                      go_wp2_with fail
                      refine HCr2.out.mono ?_
                      rintro e w13 ⟨A13, n13, c13, rfl, hS13, hb13⟩
                      obtain rfl : n13 = 0 := hS13.len
                      go_wp2_with fail
                      go_ret
                      exact ⟨rfl, nextC hWt hb13⟩

set_option maxRecDepth 100000 in
set_option maxHeartbeats 1000000 in
theorem more_not (A B : Option Addr) (n m c d : Nat) (l k : List (List Int)) (at_ : Int) (x0 x1 x2 x3 : Int) (w : World) (hS : Wd.Ss w A n c l) (hT : Wd.Ss w B m d k) (β γ : Bool) (hf : fewB l = β) (hg : fewB k = γ) (hn : (β && γ) = false) :
    Calls Try.prog 6 #[.slice A n c, .slice B m d, .int .i64 at_, .agg #[.int .u8 x0, .int .u8 x1, .int .u8 x2, .int .u8 x3]] w fun e w' => e = .returned (.bool true) ∧ Below w.heap.size w w' := by
  have Cf := Lib.hid fun w' hb => few_any A n c l w' (hS.below hb)
  have Cg := Lib.hid fun w' hb => few_any B m d k w' (hT.below hb)
  rw [hf] at Cf
  rw [hg] at Cg
  clear hS hT hf hg
  cases β with
  | false =>
    clear hn
    go_enter Try.func6, Try.ntmps6
    go_wp2_with fail
    have hb0 : Below w.heap.size w (w.alloc (.cells #[.int .u8 x0, .int .u8 x1, .int .u8 x2, .int .u8 x3] 38)) := (Below.refl _ _).alloc (Nat.le_refl _) _
    refine (awake_any _).mono ?_
    rintro e w1 ⟨rfl, hb1⟩
    have hW1 := nextC hb0 hb1
    go_wp2_with fail
    refine (Cf.out w1 hW1).mono ?_
    rintro e w2 ⟨rfl, rfl⟩
    go_wp2_with fail
    refine (Cg.out w1 hW1).mono ?_
    rintro e w2 ⟨rfl, rfl⟩
    go_wp2_with fail
    go_ret
    exact ⟨rfl, hW1⟩
  | true =>
    have hγ : γ = false := by simpa using hn
    subst hγ
    clear hn
    go_enter Try.func6, Try.ntmps6
    go_wp2_with fail
    have hb0 : Below w.heap.size w (w.alloc (.cells #[.int .u8 x0, .int .u8 x1, .int .u8 x2, .int .u8 x3] 38)) := (Below.refl _ _).alloc (Nat.le_refl _) _
    refine (awake_any _).mono ?_
    rintro e w1 ⟨rfl, hb1⟩
    have hW1 := nextC hb0 hb1
    go_wp2_with fail
    refine (Cf.out w1 hW1).mono ?_
    rintro e w2 ⟨rfl, rfl⟩
    go_wp2_with fail
    refine (Cg.out w1 hW1).mono ?_
    rintro e w2 ⟨rfl, rfl⟩
    go_wp2_with fail
    go_ret
    exact ⟨rfl, hW1⟩

theorem frameMore_any (A : Option Addr) (n c : Nat) (l : List (List Int)) (B : Option Addr) (m d : Nat) (k : List (List Int)) (at_ : Int) (x0 x1 x2 x3 : Int) (w : World) (hS : Wd.Ss w A n c l) (hF : ∀ y, y ∈ l → Wd.Fits .u8 y) (hT : Wd.Ss w B m d k) (hG : ∀ y, y ∈ k → Wd.Fits .u8 y) (a0 : -9223372036854775808 ≤ at_) (a1 : at_ ≤ 9223372036854775807) (hX : Wd.Fits .u8 [x0, x1, x2, x3]) :
    Calls Try.prog 6 #[.slice A n c, .slice B m d, .int .i64 at_, .agg #[.int .u8 x0, .int .u8 x1, .int .u8 x2, .int .u8 x3]] w fun e w' => e = .returned (.bool true) ∧ Below w.heap.size w w' := by
  cases hf : fewB l with
  | false => exact more_not A B n m c d l k at_ x0 x1 x2 x3 w hS hT false _ hf rfl rfl
  | true =>
    cases hg : fewB k with
    | false => exact more_not A B n m c d l k at_ x0 x1 x2 x3 w hS hT true false hf hg rfl
    | true => exact more_ok A B n m c d l k at_ x0 x1 x2 x3 w hS hT hF hG (byt_of hX) hf hg a0 a1
end Lw
end Go.Proofs.Ytahocgmaeokoaaa
