/- What the reference's Decode does. -/
import Derived.Test.YtdmgjeipkpbojaaDoorScVals
import Derived.Test.YtdmgjeipkpbojaaDoorScRefMay
import Derived.Test.YtdmgjeipkpbojaaDoorScRefFits
import Derived.Test.YtdmgjeipkpbojaaDoorVaRefGet
namespace Go.Proofs.YtdmgjeipkpbojaaDoor
set_option maxRecDepth 20000
open Go.RowKit
namespace Sx
open Sc (Col Sch tr tr_yes tr_no MayS dec dec_err mayS_pos rd1 rd1_only pre dec_step dec_stop pre_nil byt_drop')
open Va (Vl null)
set_option maxHeartbeats 16000000 in
theorem refDecode_any (A : Option Addr) (n c : Nat) (s : Sch) (R : Option Addr) (m d : Nat) (bs : List Int) (w : World) (hS : Wd.Cs w A n c s.cols) (hV : Wd.Sl w .u8 R m d bs) (hBy : Nm.Byt bs) (hn : n ≤ 1000) :
    Calls Tryd.prog 21 #[.agg #[.slice A n c, .int .i64 s.key, .int .i64 s.cmp, .int .i64 s.del, .int .i64 s.sort], .slice R m d] w (OutV w (decL s bs) (decE s bs)) := by
  unfold decL decE
  have hb0 := (Below.refl w.heap.size w).alloc (Nat.le_refl _) (.cells #[.slice A n c, .int .i64 s.key, .int .i64 s.cmp, .int .i64 s.del, .int .i64 s.sort] 24)
  have s0 : Sb (w.alloc (.cells #[.slice A n c, .int .i64 s.key, .int .i64 s.cmp, .int .i64 s.del, .int .i64 s.sort] 24)) w.heap.size A n c s.key s.cmp s.del s.sort := Wd.Bx.new w _ _
  have Cm := Lib.hid (refMayS_any A n c s _ (hS.below hb0) (by omega))
  have Hl := Lib.hid hS.len
  have HS := Lib.hid (hS.below hb0)
  have HV := Lib.hid (hV.below hb0)
  have HBy := Lib.hid hBy
  have hcap := hS.cap
  have hcmx := hS.max
  clear hS hV hBy
  have s0' := Lib.hid s0
  clear s0
  by_cases hM : MayS s
  case neg =>
    rw [tr_no hM] at Cm ⊢
    simp only [Bool.false_eq_true, if_false]
    clear hM
    go_enter Tryd.func21, Tryd.ntmps21
    go_wp2_with fail
    refine Cm.out.mono ?_
    rintro e w1 ⟨rfl, hB1⟩
    go_wp2_with fail
    go_ret2
    exact OutV.err w _ (hb0.trans (hB1.mono hb0.size))
  rw [tr_yes hM] at Cm ⊢
  simp only [if_true]
  have Hk := Lib.hid (mayS_pos hM)
  obtain ⟨D, hD⟩ : ∃ D, D = dec s.cols bs := ⟨_, rfl⟩
  rw [← hD]
  have H0 := Lib.hid (show pre [] (dec (s.cols.drop 0) bs) = D by rw [List.drop_zero, pre_nil _ (dec_err s.cols bs), hD])
  clear hM hD
  go_enter Tryd.func21, Tryd.ntmps21
  go_wp2_with fail
  refine Cm.out.mono ?_
  rintro e w1 ⟨rfl, hB1⟩
  generalize w.alloc (.cells #[.slice A n c, .int .i64 s.key, .int .i64 s.cmp, .int .i64 s.del, .int .i64 s.sort] 24) = wa at *
  have s1 := s0'.out.below (Wd.Bx.lt s0'.out) hB1
  have hb1 := hb0.trans (hB1.mono hb0.size)
  have hz1 := hb1.size
  have HS1 := Lib.hid (HS.out.below hB1)
  have HV1 := Lib.hid (HV.out.below hB1)
  have hg1 := Wd.Bx.lt s1
  have Hp5 := Lib.hid (five s1)
  clear s1 hB1 s0' HS HV Cm hb0
  have Hb1 := Lib.hid hb1
  clear hb1
  go_wp2
  go_loopw [1, 7, 8] (fun bv rv i wr => ∃ (k : Nat) (done : List Vl) (rest : List Int) (Q : Option Addr) (q d : Nat), i = .int .i64 k ∧ bv = .slice Q q d ∧ k ≤ n ∧ done.length = k ∧ (∀ j, j < done.length → Wd.V1 (done.getD j default)) ∧ Wd.Sl w1 .u8 Q q d rest ∧ Nm.Byt rest ∧ Hid (pre done (dec (s.cols.drop k) rest) = D) ∧ wr.ownsRow w1.heap.size 46 4 rv done.length (Wd.flatV done) ∧ Below w1.heap.size w1 wr) (fun _ _ i _ => n - (intOf i).toNat)
  case atStart => exact ⟨0, [], bs, R, m, d, rfl, rfl, Nat.zero_le _, rfl, fun j h => by simp at h, HV1.out, HBy.out, H0, World.ownsRow_nil _ _ _ _, Below.refl _ _⟩
  case round =>
    obtain ⟨k, done, rest, Q, q, d', rfl, rfl, hk, hdl, hv1, hsl, hby, hpre, hO, hB⟩ := hrel
    have hZ := hB.size
    obtain ⟨p0, p1, p2, p3, p4⟩ := and5 Hp5.out hB hg1
    by_cases hlt : k < n
    · obtain ⟨b, o, hA, hbB, c0, c1, c2, _⟩ := (HS1.out.below hB).cells (j := k) (by rw [← Hl.out]; exact hlt) rfl
      subst hA
      obtain ⟨x, hx⟩ : ∃ x, x = s.cols.getD k default := ⟨_, rfl⟩
      rw [← hx] at c0 c1 c2
      have hkl : k < s.cols.length := by rw [← Hl.out]; exact hlt
      have hxk : 1 ≤ x.kind := by
        have : x ∈ s.cols := by
          rw [hx, List.getD_eq_getElem?_getD, List.getElem?_eq_getElem hkl]
          exact List.getElem_mem hkl
        exact Hk.out x this
      have hdr : s.cols.drop k = x :: s.cols.drop (k + 1) := by
        rw [hx, List.getD_eq_getElem?_getD, List.getElem?_eq_getElem hkl]
        exact List.drop_eq_getElem_cons hkl
      clear hx hkl
      have Hp := Lib.hid hpre.out
      obtain ⟨xs, xk, xb⟩ := x
      simp only [] at c0 c1 c2 hxk
      rw [hdr] at Hp
      clear hpre hdr
      have hdk : done.length ≤ 1000000 := by omega
      have hbz : b < w1.heap.size := by
        obtain ⟨b', o', hA, hb', _⟩ := HS1.out.cells (j := k) (by rw [← Hl.out]; exact hlt) rfl
        obtain rfl : b = b' := by cases hA; rfl
        exact hb'
      have q0 := hsl.cap
      have q1 := hsl.max
      have Hq2 := Lib.hid hsl.len
      cases xb
      · have Hrd := Lib.hid (show rd1 ⟨xs, xk, false⟩ rest = Va.get rest xk from rfl)
        have C1 := Lib.hid (Vc.refGet_any Q q d' rest xk wr (hsl.below hB) hby)
        by_cases he : (Va.get rest xk).2.2 = 0
        · obtain ⟨v, j, hr, hfit, hj, -⟩ := rd1_only hxk hby (by rw [Hrd.out]; exact he)
          rw [dec_step _ _ _ _ (by rw [Hrd.out]; exact he), hr] at Hp
          simp only [Int.toNat_natCast] at Hp
          rw [Hrd.out] at hr
          rw [hr] at C1
          have hv := v1_app hv1 (v1_of hfit.1)
          have hjI : ¬ (q : Int) < (j : Int) := by have := Hq2.out; omega
          have hjq : j ≤ q := by have := Hq2.out; omega
          have hcut := hsl.cut j hjq
          have hby' : Nm.Byt (rest.drop j) := byt_drop' hby j
          unfold Vc.ansV at C1
          clear hsl he hr hfit hv1 hxk Hrd hby
          obtain ⟨vk, vi, vs, vb⟩ := v
          go_wp2_with fail
          refine C1.out.mono ?_
          rintro e w3 ⟨rfl, hB3⟩
          have hb3 := hB.trans (hB3.mono hZ)
          have hO3 := Wd.own_below hO hB3
          have hz3 := hb3.size
          have v4 : Vc.Vb (w3.alloc (.cells #[.int .i64 vk, .int .i64 vi, .string vs, .bool vb] 46)) w3.heap.size vk vi vs vb := Wd.Bx.new w3 _ _
          obtain ⟨⟨u0, u1, u2, u3⟩, -⟩ := Vc.four v4
          have hb4 := hb3.alloc hz3 (.cells #[.int .i64 vk, .int .i64 vi, .string vs, .bool vb] 46)
          have hO4 := hO3.alloc (.cells #[.int .i64 vk, .int .i64 vi, .string vs, .bool vb] 46)
          have hz4 := hb4.size
          clear hB3 hO3 C1 v4
          have hA5 := hb4.alloc hz4 (.cells #[.int .i64 vk, .int .i64 vi, .string vs, .bool vb] 46)
          have hO5 := hO4.alloc (.cells #[.int .i64 vk, .int .i64 vi, .string vs, .bool vb] 46)
          have hz5 := hA5.size
          have hcv : ∀ i u, (Wd.vals ⟨vk, vi, vs, vb⟩)[i]? = some u → ((w3.alloc (.cells #[.int .i64 vk, .int .i64 vi, .string vs, .bool vb] 46)).alloc (.cells #[.int .i64 vk, .int .i64 vi, .string vs, .bool vb] 46)).cell? ((⟨w3.heap.size + 1, 0, none⟩ : Addr).add i) = some u := by
            have h := Wd.vals_new (w3.alloc (.cells #[.int .i64 vk, .int .i64 vi, .string vs, .bool vb] 46)) ⟨vk, vi, vs, vb⟩ _ rfl
            rw [World.size_alloc] at h
            exact h
          go_wp2_with (at_builtin; refine Wd.wpList_appV1 _ rfl (.tmp 63) (.tmp 65) rfl w1.heap.size _ done rfl hO5 _ ⟨vk, vi, vs, vb⟩ rfl hcv hdk hz5 ?_; intro v6 w6 hO6 hg6; have hb6 : Below w1.heap.size w1 w6 := hA5.grown hg6 hz5 fun g hg => (hO5.lt g hg).1)
          go_roundw
          case rel => exact ⟨k + 1, done ++ [⟨vk, vi, vs, vb⟩], rest.drop j, _, _, _, by go_num, rfl, by omega, by simp; omega, hv, hcut, hby', Hp, hO6, hb6⟩
          case measure => simp [intOf]; omega
        · rw [dec_stop _ _ _ _ (by rw [Hrd.out]; exact he), Hrd.out] at Hp
          obtain ⟨v, kk, er, hg⟩ : ∃ v k er, Va.get rest xk = (v, k, er) := ⟨_, _, _, rfl⟩
          rw [hg] at C1 Hp he
          have he' : (er != 0) = true := by simpa using he
          have e : D = ([], er) := Hp.out.symm
          unfold Vc.ansV at C1
          obtain ⟨vk, vi, vs, vb⟩ := v
          clear hsl he hv1 hxk Hrd hby hg hO
          go_wp2_with fail
          refine C1.out.mono ?_
          rintro e w3 ⟨rfl, hB3⟩
          have hb3 := hB.trans (hB3.mono hZ)
          have hb4 := hb3.alloc hb3.size (.cells #[.int .i64 vk, .int .i64 vi, .string vs, .bool vb] 46)
          go_wp2_with fail
          go_ret2
          first | exact OutV.err w _ (Hb1.out.trans (hb4.mono hz1)) | (rw [e]; exact OutV.err w _ (Hb1.out.trans (hb4.mono hz1)))
      · cases rest with
        | nil =>
          obtain rfl : q = 0 := by simpa using Hq2.out
          rw [dec_stop _ _ _ _ (show (rd1 ⟨xs, xk, true⟩ []).2.2 ≠ 0 from fun q => by cases q)] at Hp
          have e : D = ([], 6) := Hp.out.symm
          go_wp2_with fail
          go_ret2
          first | exact OutV.err w _ (Hb1.out.trans (hB.mono hz1)) | (rw [e]; exact OutV.err w _ (Hb1.out.trans (hB.mono hz1)))
        | cons x r =>
          obtain ⟨b2, o2, rfl, hb2B, hcell0⟩ := hsl.rd 0 (by simp)
          rw [Nat.add_zero, List.getD_cons_zero] at hcell0
          have hcell : wr.cell? ⟨b2, o2, none⟩ = some (.int .u8 x) := (hB.cell (p := ⟨b2, o2, none⟩) hb2B).trans hcell0
          have hx := hby x (by simp)
          have hr : Nm.Byt r := fun y hy => hby y (List.mem_cons_of_mem _ hy)
          have hq0 : 0 < q := by rw [Hq2.out]; simp
          have hq0I : (0 : Int) < (q : Int) := by omega
          have hqz : ((q : Int) == 0) = false := by simp; omega
          have hq1I : ¬ (q : Int) < 1 := by omega
          have hrd : rd1 ⟨xs, xk, true⟩ (x :: r) = if 1 < x then (null, 0, 7) else if x = 0 then (null, 1, 0) else if (Va.get r xk).2.2 = 0 then ((Va.get r xk).1, (Va.get r xk).2.1 + 1, 0) else (null, 0, (Va.get r xk).2.2) := rfl
          have hcut := hsl.cut 1 (by omega)
          rw [List.drop_succ_cons, List.drop_zero] at hcut
          by_cases hx1 : 1 < x
          · rw [if_pos hx1] at hrd
            rw [dec_stop _ _ _ _ (by rw [hrd]; decide), hrd] at Hp
            have e : D = ([], 7) := Hp.out.symm
            go_wp2_with fail
            go_ret2
            first | exact OutV.err w _ (Hb1.out.trans (hB.mono hz1)) | (rw [e]; exact OutV.err w _ (Hb1.out.trans (hB.mono hz1)))
          rw [if_neg hx1] at hrd
          by_cases hx0 : x = 0
          · rw [if_pos hx0] at hrd
            rw [dec_step _ _ _ _ (by rw [hrd]), hrd] at Hp
            have Hp' : Hid (pre (done ++ [null]) (dec (s.cols.drop (k + 1)) r) = D) := Hp
            subst hx0
            clear hx1 hx hrd Hp
            have hA5 := hB.alloc hZ (.cells #[.int .i64 0, .int .i64 0, .string ⟨#[]⟩, .bool false] 46)
            have hO5 := hO.alloc (.cells #[.int .i64 0, .int .i64 0, .string ⟨#[]⟩, .bool false] 46)
            have hz5 := hA5.size
            have hcv := Wd.vals_new wr null _ rfl
            have hv2 := v1_app hv1 (v1_of Sc.ok_null)
            go_wp2_with (at_builtin; refine Wd.wpList_appV1 _ rfl (.tmp 44) (.tmp 46) rfl w1.heap.size _ done rfl hO5 _ null rfl hcv hdk hz5 ?_; intro v6 w6 hO6 hg6; have hb6 : Below w1.heap.size w1 w6 := hA5.grown hg6 hz5 fun g hg => (hO5.lt g hg).1)
            go_roundw
            case rel => exact ⟨k + 1, done ++ [null], r, _, _, _, by go_num, rfl, by omega, by simp; omega, hv2, hcut, hr, Hp', hO6, hb6⟩
            case measure => simp [intOf]; omega
          rw [if_neg hx0] at hrd
          obtain rfl : x = 1 := by omega
          clear hx hx0 hx1
          rw [Option.map_some, Addr.add_lit] at hcut
          obtain ⟨Q1, hQ1⟩ : ∃ Q1 : Option Addr, (if d' = 1 then (some ⟨b2, o2, none⟩ : Option Addr) else some ⟨b2, o2 + 1, none⟩) = Q1 := ⟨_, rfl⟩
          rw [hQ1] at hcut
          have C1 := Lib.hid (Vc.refGet_any Q1 (q - 1) (d' - 1) r xk wr (hcut.below hB) hr)
          have Hrd := Lib.hid hrd
          have Hq3 := Lib.hid (show q - 1 = r.length by have := Hq2.out; simp at this; omega)
          have hq3 : q - 1 ≤ d' - 1 := by omega
          clear hrd
          by_cases he : (Va.get r xk).2.2 = 0
          · obtain ⟨v, j, e, -, -, hj, -⟩ := Va.get_only hr xk he
            rw [if_pos he, e] at Hrd
            obtain ⟨v', j', hr', hfit, hj', -⟩ := rd1_only hxk hby (by rw [Hrd.out])
            obtain ⟨rfl, e2⟩ : v = v' ∧ (j : Int) + 1 = j' := by rw [Hrd.out] at hr'; cases hr'; exact ⟨rfl, rfl⟩
            obtain rfl : j' = j + 1 := by omega
            rw [dec_step _ _ _ _ (by rw [hr']), hr'] at Hp
            simp only [Int.toNat_natCast, List.drop_succ_cons] at Hp
            rw [e] at C1
            have hv := v1_app hv1 (v1_of hfit.1)
            have hjI : ¬ ((q - 1 : Nat) : Int) < (j : Int) := by have := Hq3.out; omega
            have hjq : j ≤ q - 1 := by have := Hq3.out; omega
            have hcut := hcut.cut j hjq
            have hby' : Nm.Byt (r.drop j) := byt_drop' hr j
            unfold Vc.ansV at C1
            clear hsl he hr e hr' e2 hfit hv1 hxk Hrd hby
            obtain ⟨vk, vi, vs, vb⟩ := v
            go_wp2_with fail
            refine C1.out.mono ?_
            rintro e w3 ⟨rfl, hB3⟩
            have hb3 := hB.trans (hB3.mono hZ)
            have hO3 := Wd.own_below hO hB3
            have hz3 := hb3.size
            have v4 : Vc.Vb (w3.alloc (.cells #[.int .i64 vk, .int .i64 vi, .string vs, .bool vb] 46)) w3.heap.size vk vi vs vb := Wd.Bx.new w3 _ _
            obtain ⟨⟨u0, u1, u2, u3⟩, -⟩ := Vc.four v4
            have hb4 := hb3.alloc hz3 (.cells #[.int .i64 vk, .int .i64 vi, .string vs, .bool vb] 46)
            have hO4 := hO3.alloc (.cells #[.int .i64 vk, .int .i64 vi, .string vs, .bool vb] 46)
            have hz4 := hb4.size
            clear hB3 hO3 C1 v4
            have hA5 := hb4.alloc hz4 (.cells #[.int .i64 vk, .int .i64 vi, .string vs, .bool vb] 46)
            have hO5 := hO4.alloc (.cells #[.int .i64 vk, .int .i64 vi, .string vs, .bool vb] 46)
            have hz5 := hA5.size
            have hcv : ∀ i u, (Wd.vals ⟨vk, vi, vs, vb⟩)[i]? = some u → ((w3.alloc (.cells #[.int .i64 vk, .int .i64 vi, .string vs, .bool vb] 46)).alloc (.cells #[.int .i64 vk, .int .i64 vi, .string vs, .bool vb] 46)).cell? ((⟨w3.heap.size + 1, 0, none⟩ : Addr).add i) = some u := by
              have h := Wd.vals_new (w3.alloc (.cells #[.int .i64 vk, .int .i64 vi, .string vs, .bool vb] 46)) ⟨vk, vi, vs, vb⟩ _ rfl
              rw [World.size_alloc] at h
              exact h
            go_wp2_with (at_builtin; refine Wd.wpList_appV1 _ rfl (.tmp 63) (.tmp 65) rfl w1.heap.size _ done rfl hO5 _ ⟨vk, vi, vs, vb⟩ rfl hcv hdk hz5 ?_; intro v6 w6 hO6 hg6; have hb6 : Below w1.heap.size w1 w6 := hA5.grown hg6 hz5 fun g hg => (hO5.lt g hg).1)
            go_roundw
            case rel => exact ⟨k + 1, done ++ [⟨vk, vi, vs, vb⟩], r.drop j, _, _, _, by go_num, rfl, by omega, by simp; omega, hv, hcut, hby', Hp, hO6, hb6⟩
            case measure => simp [intOf]; omega
          · rw [if_neg he] at Hrd
            rw [dec_stop _ _ _ _ (by rw [Hrd.out]; exact he), Hrd.out] at Hp
            obtain ⟨v, kk, er, hg⟩ : ∃ v k er, Va.get r xk = (v, k, er) := ⟨_, _, _, rfl⟩
            rw [hg] at C1 Hp he
            have he' : (er != 0) = true := by simpa using he
            have e : D = ([], er) := Hp.out.symm
            unfold Vc.ansV at C1
            obtain ⟨vk, vi, vs, vb⟩ := v
            clear hsl he hv1 hxk Hrd hby hg hO hcut
            go_wp2_with fail
            refine C1.out.mono ?_
            rintro e w3 ⟨rfl, hB3⟩
            have hb3 := hB.trans (hB3.mono hZ)
            have hb4 := hb3.alloc hb3.size (.cells #[.int .i64 vk, .int .i64 vi, .string vs, .bool vb] 46)
            go_wp2_with fail
            go_ret2
            first | exact OutV.err w _ (Hb1.out.trans (hb4.mono hz1)) | (rw [e]; exact OutV.err w _ (Hb1.out.trans (hb4.mono hz1)))
    · have hkI : ¬ (k : Int) < n := by omega
      have hkm : k = n := by omega
      have Hp := Lib.hid hpre.out
      rw [List.drop_of_length_le (by rw [← Hl.out]; omega)] at Hp
      have hql := hsl.len
      clear hpre hkm
      by_cases hr : rest = []
      · subst hr
        obtain rfl : q = 0 := by simpa using hql
        have e : D = (done, 0) := by rw [← Hp.out]; simp [dec, pre]
        clear hsl hql
        go_wp2_with fail
        go_ret2
        obtain ⟨A4, n4, c4, rfl, hS4⟩ := Wd.Vs.of_own hO hv1
        exact ⟨A4, n4, c4, by first | rfl | (rw [e]; rfl), by first | exact hS4 | (rw [e]; exact hS4), Hb1.out.trans (hB.mono hz1)⟩
      · have hq0 : 0 < q := by rw [hql]; exact List.length_pos_iff.2 hr
        have hq0I : (0 : Int) < (q : Int) := by omega
        have e : D = ([], 7) := by rw [← Hp.out]; simp [dec, pre, hr]
        clear hsl hql hr
        go_wp2_with fail
        go_ret2
        first | exact OutV.err w _ (Hb1.out.trans (hB.mono hz1)) | (rw [e]; exact OutV.err w _ (Hb1.out.trans (hB.mono hz1)))
end Sx
end Go.Proofs.YtdmgjeipkpbojaaDoor
