/- What get of package schema does. What schema.Decode does. -/
import Derived.Test.YtdmgjeipkpbojaaDoorScGetC
import Derived.Test.YtdmgjeipkpbojaaDoorScVals
import Derived.Test.YtdmgjeipkpbojaaDoorScMayP
namespace Go.Proofs.YtdmgjeipkpbojaaDoor
set_option maxRecDepth 20000
open Go.RowKit
namespace Sx
open Sc (Col Sch rd1 rd1_only dec pre dec_step dec_stop pre_nil dec_err byt_drop')
open Va (Vl null)
open Er (Gl sent IsErr colErr)
/-- What get answers. -/
def RowA (aM aN aB : Addr) (w : World) (r : List Vl × Int) (e : Ending) (w' : World) : Prop :=
  ((r.2 = 0 ∧ ∃ A n c, e = .returned (.tuple #[.slice A n c, .nilIface]) ∧ Wd.Vs w' A n c r.1) ∨ (r.2 ≠ 0 ∧ ∃ ev, e = .returned (.tuple #[.slice none 0 0, ev]) ∧ IsErr aM aN aB ev r.2)) ∧ Below w.heap.size w w'
theorem isErr_col {aM aN aB : Addr} {e : Value} {n : Int} (i : Int) (h : IsE1 aN aB e n) : IsErr aM aN aB (colErr i e) n := by
  rcases h with rfl | ⟨rfl, rfl⟩ | ⟨rfl, rfl⟩
  · exact .inl ⟨i, rfl⟩
  · exact .inr (.inl ⟨i, rfl, rfl⟩)
  · exact .inr (.inr (.inl ⟨i, rfl, rfl⟩))
theorem isE1_iface {aN aB : Addr} {e : Value} {n : Int} (h : IsE1 aN aB e n) : ∃ T v, e = .iface T v := by
  rcases h with rfl | ⟨rfl, rfl⟩ | ⟨rfl, rfl⟩
  · exact ⟨_, _, rfl⟩
  · exact ⟨_, _, rfl⟩
  · exact ⟨_, _, rfl⟩
set_option maxHeartbeats 4000000 in
theorem get_any {aM aN aB : Addr} (A : Option Addr) (n c : Nat) (cs : List Col) (R : Option Addr) (m d : Nat) (bs : List Int) (w : World) (hS : Wd.Cs w A n c cs) (hV : Wd.Sl w .u8 R m d bs) (hBy : Nm.Byt bs) (hG : Gl w aM aN aB) (hk : ∀ c ∈ cs, 1 ≤ c.kind) (hn : n ≤ 1000) :
    Calls Tryd.prog 36 #[.slice A n c, .slice R m d] w (RowA aM aN aB w (dec cs bs)) := by
  have Hl := Lib.hid hS.len
  have HS := Lib.hid hS
  have HG := Lib.hid hG
  have Hk := Lib.hid hk
  have hcap := hS.cap
  have hcmx := hS.max
  obtain ⟨D, hD⟩ : ∃ D, D = dec cs bs := ⟨_, rfl⟩
  rw [← hD]
  have H0 := Lib.hid (show pre [] (dec (cs.drop 0) bs) = D by rw [List.drop_zero, pre_nil _ (dec_err cs bs), hD])
  have HV := Lib.hid hV
  have HBy := Lib.hid hBy
  clear hS hG hk hD hV hBy
  go_enter Tryd.func36, Tryd.ntmps36
  go_wp2
  go_loopw [1, 6, 14] (fun bv rv i wr => ∃ (k : Nat) (done : List Vl) (rest : List Int) (Q : Option Addr) (q d : Nat), i = .int .i64 k ∧ bv = .slice Q q d ∧ k ≤ n ∧ done.length = k ∧ (∀ j, j < done.length → Wd.V1 (done.getD j default)) ∧ Wd.Sl w .u8 Q q d rest ∧ Nm.Byt rest ∧ Hid (pre done (dec (cs.drop k) rest) = D) ∧ wr.ownsRow w.heap.size 46 4 rv done.length (Wd.flatV done) ∧ Below w.heap.size w wr) (fun _ _ i _ => n - (intOf i).toNat)
  case atStart => exact ⟨0, [], bs, R, m, d, rfl, rfl, Nat.zero_le _, rfl, fun j h => by simp at h, HV.out, HBy.out, H0, World.ownsRow_nil _ _ _ _, Below.refl _ _⟩
  case round =>
    obtain ⟨k, done, rest, Q, q, d', rfl, rfl, hk, hdl, hv1, hsl, hby, hpre, hO, hB⟩ := hrel
    have hZ := hB.size
    by_cases hlt : k < n
    · obtain ⟨b, o, hA, hbB, c0, c1, c2, _⟩ := (HS.out.below hB).cells (j := k) (by rw [← Hl.out]; exact hlt) rfl
      subst hA
      obtain ⟨x, hx⟩ : ∃ x, x = cs.getD k default := ⟨_, rfl⟩
      rw [← hx] at c0 c1 c2
      have hxk : 1 ≤ x.kind := by
        have : x ∈ cs := by
          have h : k < cs.length := by rw [← Hl.out]; exact hlt
          rw [hx, List.getD_eq_getElem?_getD, List.getElem?_eq_getElem h]
          exact List.getElem_mem h
        exact Hk.out x this
      have hdr : cs.drop k = x :: cs.drop (k + 1) := by
        have h : k < cs.length := by rw [← Hl.out]; exact hlt
        rw [hx, List.getD_eq_getElem?_getD, List.getElem?_eq_getElem h]
        exact List.drop_eq_getElem_cons h
      clear hx
      have Hp := Lib.hid hpre.out
      obtain ⟨xs, xk, xb⟩ := x
      simp only [] at c0 c1 c2 hxk
      rw [hdr] at Hp
      clear hpre hdr
      have hbx := (Below.refl wr.heap.size wr).alloc (Nat.le_refl _) (.cells #[.string xs, .int .i64 xk, .bool xb] 48)
      have x1 : Cb (wr.alloc (.cells #[.string xs, .int .i64 xk, .bool xb] 48)) wr.heap.size xs xk xb := Wd.Bx.new wr _ _
      have hgz : wr.heap.size < (wr.alloc (.cells #[.string xs, .int .i64 xk, .bool xb] 48)).heap.size := by simp
      have hbx0 := hB.trans (hbx.mono hZ)
      have C1 := getColumn_any Q q d' rest xs xk xb _ (hsl.below hbx0) hby (HG.out.below hbx0)
      have hOx := hO.alloc (.cells #[.string xs, .int .i64 xk, .bool xb] 48)
      by_cases he : (rd1 ⟨xs, xk, xb⟩ rest).2.2 = 0
      · obtain ⟨v, j, hr, hfit, hj, -⟩ := rd1_only hxk hby he
        rw [dec_step _ _ _ _ he, hr] at Hp
        simp only [Int.toNat_natCast] at Hp
        rw [hr] at C1
        have C2 := Lib.hid (show Calls Tryd.prog 47 _ _ (fun e w' => e = .returned (ansC v j .nilIface) ∧ Below (wr.alloc (.cells #[.string xs, .int .i64 xk, .bool xb] 48)).heap.size (wr.alloc (.cells #[.string xs, .int .i64 xk, .bool xb] 48)) w') from C1.mono (by
          rintro e w' ⟨⟨v', k', ev, rfl, h0, -⟩, hb⟩
          obtain ⟨rfl, rfl, rfl⟩ := h0 rfl
          exact ⟨rfl, hb⟩))
        have hv := v1_app hv1 (v1_of hfit.1)
        clear C1 he hr hfit hv1 hxk
        have hjI : ¬ (q : Int) < (j : Int) := by have := hsl.len; omega
        have hjq : j ≤ q := by have := hsl.len; omega
        have hcut := hsl.cut j hjq
        have hqd := hsl.cap
        have hdm := hsl.max
        have hby' : Nm.Byt (rest.drop j) := byt_drop' hby j
        unfold ansC at C2
        clear hsl hby
        obtain ⟨vk, vi, vs, vb⟩ := v
        go_wp2_with fail
        generalize wr.alloc (.cells #[.string xs, .int .i64 xk, .bool xb] 48) = w2 at *
        refine C2.out.mono ?_
        rintro e w3 ⟨rfl, hB3⟩
        have hb3 := hbx0.trans (hB3.mono (Nat.le_trans hZ hbx.size))
        have hO3 := Wd.own_below hOx hB3
        have hz3 := hb3.size
        have v4 : Vc.Vb (w3.alloc (.cells #[.int .i64 vk, .int .i64 vi, .string vs, .bool vb] 46)) w3.heap.size vk vi vs vb := Wd.Bx.new w3 _ _
        obtain ⟨⟨u0, u1, u2, u3⟩, -⟩ := Vc.four v4
        have hb4 := hb3.alloc hz3 (.cells #[.int .i64 vk, .int .i64 vi, .string vs, .bool vb] 46)
        have hO4 := hO3.alloc (.cells #[.int .i64 vk, .int .i64 vi, .string vs, .bool vb] 46)
        have hz4 := hb4.size
        have hdk : done.length ≤ 1000000 := by omega
        clear hB3 hbx hbx0 hOx x1 hO3 C2 v4
        go_wp2_with fail
        generalize w3.alloc (.cells #[.int .i64 vk, .int .i64 vi, .string vs, .bool vb] 46) = w4 at *
        have hA5 : Below w.heap.size w (w4.drew.alloc (.cells #[.int .i64 vk, .int .i64 vi, .string vs, .bool vb] 46)) := (hb4.drew).alloc hz4 _
        have hO5 : (w4.drew.alloc (.cells #[.int .i64 vk, .int .i64 vi, .string vs, .bool vb] 46)).ownsRow w.heap.size 46 4 u6 done.length (Wd.flatV done) := hO4.drew.alloc _
        have hz5 := hA5.size
        have hcv := Wd.vals_new w4.drew ⟨vk, vi, vs, vb⟩ _ rfl
        go_region_law (refine Wd.step_appV _ rfl (.tmp 32) (.tmp 34) rfl w.heap.size u6 done rfl hO5 _ ⟨vk, vi, vs, vb⟩ rfl hcv hdk hz5 ?_; intro v6 w6 hO6 hg6; have hb6 : Below w.heap.size w w6 := hA5.grown hg6 hz5 fun g hg => (hO5.lt g hg).1)
        all_goals (
          go_wp2_with fail
          go_roundw
          case rel => exact ⟨k + 1, done ++ [⟨vk, vi, vs, vb⟩], rest.drop j, _, _, _, by go_num, rfl, by omega, by simp; omega, hv, hcut, hby', Hp, hO6, hb6⟩
          case measure => simp [intOf]; omega)
      · rw [dec_stop _ _ _ _ he] at Hp
        have C2 := Lib.hid C1
        have He := Lib.hid he
        obtain ⟨er, her⟩ : ∃ er, er = (rd1 ⟨xs, xk, xb⟩ rest).2.2 := ⟨_, rfl⟩
        rw [← her] at Hp He
        clear C1 he hv1 hxk hsl hby
        go_wp2_with fail
        generalize wr.alloc (.cells #[.string xs, .int .i64 xk, .bool xb] 48) = w2 at *
        refine C2.out.mono ?_
        rintro e w3 ⟨⟨⟨vk, vi, vs, vb⟩, k', ev, rfl, -, h1⟩, hB3⟩
        rw [← her] at h1
        have H1 := Lib.hid (h1 He.out)
        obtain ⟨T, x, rfl⟩ := isE1_iface H1.out
        have hb3 := hbx0.trans (hB3.mono (Nat.le_trans hZ hbx.size))
        have hb4 := hb3.alloc hb3.size (.cells #[.int .i64 vk, .int .i64 vi, .string vs, .bool vb] 46)
        unfold ansC
        clear hB3 hbx hbx0 hOx x1 C2 h1 her hO
        go_wp2_with fail
        go_ret2
        exact ⟨.inr ⟨by rw [← Hp.out]; exact He.out, _, rfl, by rw [← Hp.out]; exact isErr_col k H1.out⟩, hb4⟩
    · have hkI : ¬ (k : Int) < n := by omega
      have hkm : k = n := by omega
      have Hp := Lib.hid hpre.out
      rw [List.drop_of_length_le (by rw [← Hl.out]; omega)] at Hp
      have hql := hsl.len
      clear hpre hkm
      by_cases hr : rest = []
      · subst hr
        obtain rfl : q = 0 := by simpa using hql
        have e : D = (done, 0) := by rw [← Hp.out]; simp [dec, pre]
        clear hsl hql
        go_wp2_with fail
        go_ret2
        obtain ⟨A4, n4, c4, rfl, hS4⟩ := Wd.Vs.of_own hO hv1
        exact ⟨.inl ⟨by first | rfl | rw [e], A4, n4, c4, rfl, by first | exact hS4 | (rw [e]; exact hS4)⟩, hB⟩
      · have hq0 : 0 < q := by rw [hql]; exact List.length_pos_iff.2 hr
        have hq0I : (0 : Int) < (q : Int) := by omega
        have e : D = ([], 7) := by rw [← Hp.out]; simp [dec, pre, hr]
        have hM := (HG.out.below hB).more
        unfold sent at hM
        clear hsl hql hr
        go_wp2_with fail
        go_region
        all_goals (
          go_wp2_with fail
          go_ret2
          exact ⟨.inr ⟨by first | decide | (rw [e]; decide), _, rfl, by first | exact .inr (.inr (.inr ⟨rfl, rfl⟩)) | (rw [e]; exact .inr (.inr (.inr ⟨rfl, rfl⟩)))⟩, by repeat' (first | exact hB | exact hB.drew)⟩)
end Sx
end Go.Proofs.YtdmgjeipkpbojaaDoor
namespace Go.Proofs.YtdmgjeipkpbojaaDoor
set_option maxRecDepth 20000
open Go.RowKit
namespace Sx
open Sc (Col Sch tr tr_yes tr_no MayS dec dec_err mayS_pos)
open Va (Vl)
open Er (Gl sent IsErr colErr errno_any isN_iface)
set_option maxHeartbeats 4000000 in
theorem Decode_any {aM aN aB : Addr} (A : Option Addr) (n c : Nat) (s : Sch) (R : Option Addr) (m d : Nat) (bs : List Int) (w : World) (hS : Wd.Cs w A n c s.cols) (hV : Wd.Sl w .u8 R m d bs) (hBy : Nm.Byt bs) (hG : Gl w aM aN aB) (hn : n ≤ 1000) :
    Calls Tryd.prog 20 #[.agg #[.slice A n c, .int .i64 s.key, .int .i64 s.cmp, .int .i64 s.del, .int .i64 s.sort], .slice R m d] w (OutV w (decL s bs) (decE s bs)) := by
  unfold decL decE
  have hb0 := (Below.refl w.heap.size w).alloc (Nat.le_refl _) (.cells #[.slice A n c, .int .i64 s.key, .int .i64 s.cmp, .int .i64 s.del, .int .i64 s.sort] 24)
  have s0 : Sb (w.alloc (.cells #[.slice A n c, .int .i64 s.key, .int .i64 s.cmp, .int .i64 s.del, .int .i64 s.sort] 24)) w.heap.size A n c s.key s.cmp s.del s.sort := Wd.Bx.new w _ _
  have Cm := Lib.hid (May_any A n c s _ (hS.below hb0) (by omega))
  have HS := Lib.hid (hS.below hb0)
  have HV := Lib.hid (hV.below hb0)
  have HG := Lib.hid (hG.below hb0)
  clear hS hV hG
  have s0' := Lib.hid s0
  clear s0
  by_cases hM : MayS s
  case neg =>
    rw [tr_no hM] at Cm ⊢
    simp only [Bool.false_eq_true, if_false]
    clear hM
    go_enter Tryd.func20, Tryd.ntmps20
    go_wp2_with fail
    refine Cm.out.mono ?_
    rintro e w1 ⟨rfl, hB1⟩
    go_wp2_with fail
    go_ret2
    exact OutV.err w _ (hb0.trans (hB1.mono hb0.size))
  rw [tr_yes hM] at Cm ⊢
  simp only [if_true]
  have HM := Lib.hid hM
  obtain ⟨D, hD⟩ : ∃ D, D = dec s.cols bs := ⟨_, rfl⟩
  rw [← hD]
  have HD := Lib.hid hD
  clear hM hD
  go_enter Tryd.func20, Tryd.ntmps20
  go_wp2_with fail
  refine Cm.out.mono ?_
  rintro e w1 ⟨rfl, hB1⟩
  generalize w.alloc (.cells #[.slice A n c, .int .i64 s.key, .int .i64 s.cmp, .int .i64 s.del, .int .i64 s.sort] 24) = wa at *
  have s1 := s0'.out.below (Wd.Bx.lt s0'.out) hB1
  have hb1 := hb0.trans (hB1.mono hb0.size)
  have hz1 := hb1.size
  have Cg := Lib.hid (get_any A n c s.cols R m d bs w1 (HS.out.below hB1) (HV.out.below hB1) hBy (HG.out.below hB1) (mayS_pos HM.out) hn)
  have HG1 := Lib.hid (HG.out.below hB1)
  rw [← HD.out] at Cg
  obtain ⟨p0, p1, p2, p3, p4⟩ := five s1
  go_wp2_with fail
  refine Cg.out.mono ?_
  rintro e w2 ⟨⟨h0, A2, n2, c2, rfl, hv2⟩ | ⟨h0, ev, rfl, hE⟩, hB2⟩
  · have hb2 := hb1.trans (hB2.mono hb1.size)
    have HV2 := Lib.hid hv2
    clear hv2
    go_wp2_with fail
    go_ret2
    exact ⟨A2, n2, c2, by rw [h0]; rfl, HV2.out, hb2⟩
  · have hb2 := hb1.trans (hB2.mono hb1.size)
    have Ce := Lib.hid (errno_any w2 (HG1.out.below hB2) hE)
    have h1 : D.1 = [] := by rw [HD.out] at h0 ⊢; exact dec_err _ _ h0
    obtain ⟨T, x, rfl⟩ := isN_iface hE
    clear hE
    go_wp2_with fail
    refine Ce.out.mono ?_
    rintro e w3 ⟨rfl, hB3⟩
    go_wp2_with fail
    go_ret2
    rw [h1]
    exact OutV.err w _ (hb2.trans (hB3.mono hb2.size))
end Sx
end Go.Proofs.YtdmgjeipkpbojaaDoor
