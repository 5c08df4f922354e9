/- What schema.Encode does. -/
import Derived.Test.YtdmgjeipkpbojaaDoorScPut
import Derived.Test.YtdmgjeipkpbojaaDoorMem
import Derived.Deep.RegionWith
namespace Go.Proofs.YtdmgjeipkpbojaaDoor
set_option maxRecDepth 20000
open Go.RowKit
namespace Sx
open Sc (Col Sch tr tr_yes tr_no fit1 one FitS enc enc_take enc_len fits fits_get)
open Va (Vl May)
theorem fits_take : ∀ {cs : List Col} {vs : List Vl} (k : Nat), fits cs vs → fits (cs.take k) (vs.take k)
  | [], [], _, _ => by simp [fits]
  | [], _ :: _, _, h => h.elim
  | _ :: _, [], _, h => h.elim
  | _ :: _, _ :: _, 0, _ => by simp [fits]
  | _ :: _, _ :: _, k + 1, h => ⟨h.1, fits_take k h.2⟩
theorem take_len {cs : List Col} {vs : List Vl} (k : Nat) (h : fits cs vs) (h8 : cs.length ≤ 8) : (enc (cs.take k) (vs.take k)).length ≤ 600 := by
  have := enc_len (fits_take k h)
  have h2 : (cs.take k).length ≤ cs.length := by simp; omega
  omega
theorem get_some {α : Type} [Inhabited α] {l : List α} {k : Nat} (h : k < l.length) : l[k]? = some (l.getD k default) := by
  simp [List.getD, List.getElem?_eq_getElem h]
/-- What Encode answers. -/
noncomputable def encL (s : Sch) (vs : List Vl) : List Int := if tr (FitS s vs) = true then enc s.cols vs else []
noncomputable def encE (s : Sch) (vs : List Vl) : Int := if tr (FitS s vs) = true then 0 else 1
set_option maxHeartbeats 4000000 in
theorem Encode_any (A : Option Addr) (n c : Nat) (s : Sch) (R : Option Addr) (m d : Nat) (vs : List Vl) (w : World) (hS : Wd.Cs w A n c s.cols) (hV : Wd.Vs w R m d vs) (hn : n ≤ 1000000) :
    Calls Tryd.prog 11 #[.agg #[.slice A n c, .int .i64 s.key, .int .i64 s.cmp, .int .i64 s.del, .int .i64 s.sort], .slice R m d] w (Wd.Out2 w .u8 (encL s vs) (encE s vs)) := by
  unfold encL encE
  have hb0 := (Below.refl w.heap.size w).alloc (Nat.le_refl _) (.cells #[.slice A n c, .int .i64 s.key, .int .i64 s.cmp, .int .i64 s.del, .int .i64 s.sort] 24)
  have s0 : Sb (w.alloc (.cells #[.slice A n c, .int .i64 s.key, .int .i64 s.cmp, .int .i64 s.del, .int .i64 s.sort] 24)) w.heap.size A n c s.key s.cmp s.del s.sort := Wd.Bx.new w _ _
  have Cm := Lib.hid (Fits_any A n c s R m d vs _ (hS.below hb0) (hV.below hb0) hn)
  have Hl := Lib.hid hS.len
  have Hm := Lib.hid hV.len
  have HS := Lib.hid (hS.below hb0)
  have HV := Lib.hid (hV.below hb0)
  have hcap := hS.cap
  have hcapd := hV.cap
  clear hS hV
  have s0' := Lib.hid s0
  clear s0
  by_cases hF : FitS s vs
  case neg =>
    rw [tr_no hF] at Cm ⊢
    simp only [Bool.false_eq_true, if_false]
    clear hF
    go_enter Tryd.func11, Tryd.ntmps11
    go_wp2_with fail
    refine Cm.out.mono ?_
    rintro e w1 ⟨rfl, hB1⟩
    go_wp2_with fail
    go_ret2
    exact Wd.Out2.err _ _ _ _ (hb0.trans (hB1.mono hb0.size))
  rw [tr_yes hF] at Cm ⊢
  simp only [if_true]
  have HF := Lib.hid hF
  have hmn : m = n := by rw [Hm.out, Hl.out]; exact Sc.fits_len hF.2
  have hn8 : n ≤ 8 := by rw [Hl.out]; exact hF.1.2.1
  obtain ⟨L, hL⟩ : ∃ L, L = enc s.cols vs := ⟨_, rfl⟩
  rw [← hL]
  have HL := Lib.hid hL
  clear hF hL
  subst hmn
  go_enter Tryd.func11, Tryd.ntmps11
  go_wp2_with fail
  refine Cm.out.mono ?_
  rintro e w1 ⟨rfl, hB1⟩
  generalize w.alloc (.cells #[.slice A m c, .int .i64 s.key, .int .i64 s.cmp, .int .i64 s.del, .int .i64 s.sort] 24) = wa at *
  have s1 := s0'.out.below (Wd.Bx.lt s0'.out) hB1
  have hb1 := hb0.trans (hB1.mono hb0.size)
  have hz1 := hb1.size
  have HS1 := Lib.hid (HS.out.below hB1)
  have HV1 := Lib.hid (HV.out.below hB1)
  obtain ⟨p0, p1, p2, p3, p4⟩ := five s1
  go_wp2
  clear p0 p1 p2 p3 p4
  go_loopw [6, 16] (fun bv i wr => ∃ k : Nat, i = .int .i64 k ∧ k ≤ m ∧ wr.ownsRow w1.heap.size 5 1 bv (enc (s.cols.take k) (vs.take k)).length ((enc (s.cols.take k) (vs.take k)).map (Value.int .u8)) ∧ Below w1.heap.size w1 wr) (fun _ i _ => m - (intOf i).toNat)
  case atStart => exact ⟨0, rfl, Nat.zero_le _, World.ownsRow_nil _ _ _ _, Below.refl _ _⟩
  case round =>
    obtain ⟨k, rfl, hk, hO, hB⟩ := hrel
    have hZ := hB.size
    by_cases hlt : k < m
    · obtain ⟨b, o, hA, hbB, c0, c1, c2, _⟩ := (HS1.out.below hB).cells (j := k) (by rw [← Hl.out]; exact hlt) rfl
      subst hA
      obtain ⟨x, hx⟩ : ∃ x, x = s.cols.getD k default := ⟨_, rfl⟩
      rw [← hx] at c0 c1 c2
      obtain ⟨e, f, hR, heB, d0, d1, d2, d3, hv1⟩ := (HV1.out.below hB).cells (j := k) (by rw [← Hm.out]; exact hlt) rfl
      subst hR
      obtain ⟨v, hv⟩ : ∃ v, v = vs.getD k default := ⟨_, rfl⟩
      rw [← hv] at d0 d1 d2 d3 hv1
      have hfit : fit1 x v := by rw [hx, hv]; exact ((fits_get _ _).1 HF.out.2).2 k (by rw [← Hl.out]; exact hlt)
      have hlen := take_len k HF.out.2 (by rw [← Hl.out]; exact hn8)
      have Hst := Lib.hid (enc_take s.cols vs k x v (by rw [hx]; exact get_some (by rw [← Hl.out]; exact hlt)) (by rw [hv]; exact get_some (by rw [← Hm.out]; exact hlt)))
      clear hx hv
      obtain ⟨es, hes⟩ : ∃ es, es = enc (s.cols.take k) (vs.take k) := ⟨_, rfl⟩
      rw [← hes] at hO hlen Hst
      clear hes
      obtain ⟨xs, xk, xb⟩ := x
      obtain ⟨k1, i1, t1, b1⟩ := v
      simp only [] at c0 c1 c2 d0 d1 d2 d3
      have hbx := (Below.refl wr.heap.size wr).alloc (Nat.le_refl _) (.cells #[.string xs, .int .i64 xk, .bool xb] 48)
      have x1 : Cb (wr.alloc (.cells #[.string xs, .int .i64 xk, .bool xb] 48)) wr.heap.size xs xk xb := Wd.Bx.new wr _ _
      have hgz : wr.heap.size < (wr.alloc (.cells #[.string xs, .int .i64 xk, .bool xb] 48)).heap.size := by simp
      have hOx := hO.alloc (.cells #[.string xs, .int .i64 xk, .bool xb] 48)
      go_wp2_with fail
      generalize wr.alloc (.cells #[.string xs, .int .i64 xk, .bool xb] 48) = w2 at *
      have hz2 := hbx.size
      obtain ⟨z0, z1, z2⟩ := three x1
      have z3 : w2.cell? ⟨e, f + k * 4, none⟩ = some (.int .i64 k1) := (hbx.cell (p := ⟨e, f + k * 4, none⟩) heB).trans d0
      have z4 : w2.cell? ⟨e, f + k * 4 + 1, none⟩ = some (.int .i64 i1) := (hbx.cell (p := ⟨e, f + k * 4 + 1, none⟩) heB).trans d1
      have z5 : w2.cell? ⟨e, f + k * 4 + 2, none⟩ = some (.string t1) := (hbx.cell (p := ⟨e, f + k * 4 + 2, none⟩) heB).trans d2
      have z6 : w2.cell? ⟨e, f + k * 4 + 3, none⟩ = some (.bool b1) := (hbx.cell (p := ⟨e, f + k * 4 + 3, none⟩) heB).trans d3
      have Hp := Lib.hid (put_own w1.heap.size _ es xs xk xb k1 i1 t1 b1 w2.drew hOx (by simp; omega) (by omega) hfit)
      clear x1 c0 c1 c2 d0 d1 d2 d3 hfit hO hOx
      go_region_with (go_at_call 24; (with_reducible refine Hp.out.mono ?_); rintro q w7 ⟨v7, rfl, hO7, hB7⟩)
      all_goals (
        rw [← Hst.out] at hO7
        have hB8 : Below w1.heap.size w1 w7 := (hB.trans (hbx.mono hZ)).trans (Below.trans ((Below.refl _ _).drew) hB7)
        go_wp2_with fail
        go_roundw
        case rel => exact ⟨k + 1, by go_num, by omega, hO7, hB8⟩
        case measure => simp [intOf]; omega)
    · have hkI : ¬ (k : Int) < m := by omega
      have hkm : k = m := by omega
      rw [List.take_of_length_le (by rw [← Hl.out]; omega), List.take_of_length_le (by rw [← Hm.out]; omega), ← HL.out] at hO
      clear hkm
      go_wp2_with fail
      go_ret2
      obtain ⟨A4, n4, c4, rfl, hS4⟩ := Wd.Sl.of_own hO
      exact ⟨A4, n4, c4, rfl, hS4, hb1.trans (hB.mono hz1)⟩
end Sx
end Go.Proofs.YtdmgjeipkpbojaaDoor
