/- What schema.put does: a value's bytes in its column, behind the bytes that are there. -/
import Derived.Test.YtdmgjeipkpbojaaDoorScFits
import Derived.Test.YtdmgjeipkpbojaaDoorVaPutOwn
namespace Go.Proofs.YtdmgjeipkpbojaaDoor
set_option maxRecDepth 20000
open Go.RowKit
namespace Sx
open Sc (Col Sch tr tr_yes tr_no fit1 one)
open Va (Vl May)
/-- An answer that is a row of bytes, made since B. -/
def OutB (B : Nat) (L : List Int) (w : World) (e : Ending) (w' : World) : Prop :=
  ∃ v, e = .returned v ∧ w'.ownsRow B 5 1 v L.length (L.map (Value.int .u8)) ∧ Below B w w'
set_option maxHeartbeats 2000000 in
theorem put_own (B : Nat) (v : Value) (bs : List Int) (xs : ByteArray) (xk : Int) (xb : Bool) (k i : Int) (s : ByteArray) (b : Bool) (w : World) (hO : w.ownsRow B 5 1 v bs.length (bs.map (Value.int .u8))) (hB : B ≤ w.heap.size) (hm : bs.length ≤ 100000)
    (hf : fit1 ⟨xs, xk, xb⟩ ⟨k, i, s, b⟩) :
    Calls Tryd.prog 24 #[v, .agg #[.string xs, .int .i64 xk, .bool xb], .agg #[.int .i64 k, .int .i64 i, .string s, .bool b]] w (OutB B (bs ++ one ⟨xs, xk, xb⟩ ⟨k, i, s, b⟩) w) := by
  obtain ⟨i0, hi, hz0, hz1, hz2⟩ := info_parts Nc.info_u8
  have hb1 := (Below.refl w.heap.size w).alloc (Nat.le_refl _) (.cells #[.string xs, .int .i64 xk, .bool xb] 48)
  have x1 : Cb (w.alloc (.cells #[.string xs, .int .i64 xk, .bool xb] 48)) w.heap.size xs xk xb := Wd.Bx.new w _ _
  have hb2 := (Below.refl _ (w.alloc (.cells #[.string xs, .int .i64 xk, .bool xb] 48))).alloc (Nat.le_refl _) (.cells #[.int .i64 k, .int .i64 i, .string s, .bool b] 46)
  have v2 : Vc.Vb ((w.alloc (.cells #[.string xs, .int .i64 xk, .bool xb] 48)).alloc (.cells #[.int .i64 k, .int .i64 i, .string s, .bool b] 46)) (w.heap.size + 1) k i s b := by
    have := Wd.Bx.new (w.alloc (.cells #[.string xs, .int .i64 xk, .bool xb] 48)) 46 #[.int .i64 k, .int .i64 i, .string s, .bool b]
    rw [World.size_alloc] at this
    exact this
  have x2 := x1.below (Wd.Bx.lt x1) hb2
  have hb := hb1.trans (hb2.mono hb1.size)
  have Cn := Lib.hid fun w => isNull_any xs xk xb k i s b w
  have hM := hf.1
  have Hp := Lib.hid fun (A : Option Addr) (n c : Nat) (bs : List Int) (w' : World) (hS : Wd.Sl w' .u8 A n c bs) (hn : n ≤ 1000000) => Vc.Put_own A n c bs k i s b w' hS hn hM.2.1 hM.2.2 hM.1
  have hpl := Va.put_len hM.1
  have hone : one ⟨xs, xk, xb⟩ ⟨k, i, s, b⟩ = if xb = true then (if k = 0 then [0] else 1 :: Va.put ⟨k, i, s, b⟩) else Va.put ⟨k, i, s, b⟩ := rfl
  rw [hone]
  clear hone hf hM
  obtain ⟨L, hL⟩ : ∃ L, L = Va.put ⟨k, i, s, b⟩ := ⟨_, rfl⟩
  rw [← hL] at Hp hpl ⊢
  clear hL x1 hb1 hb2
  have hO2 := Wd.own_below hO hb
  have hZ := hb.size
  have Hx2 := Lib.hid x2
  have Hv2 := Lib.hid v2
  have Hb := Lib.hid hb
  clear x2 v2 hb hO
  cases xb
  · simp only [Bool.false_eq_true, if_false]
    rw [show (false && (k == 0)) = false from rfl] at Cn
    go_enter Tryd.func24, Tryd.ntmps24
    go_wp2_with fail
    generalize (w.alloc (.cells #[.string xs, .int .i64 xk, .bool false] 48)).alloc (.cells #[.int .i64 k, .int .i64 i, .string s, .bool b] 46) = wa at *
    refine (Cn.out wa).mono ?_
    rintro e w1 ⟨rfl, hB1⟩
    have hb1 := Hb.out.trans (hB1.mono hZ)
    obtain ⟨p0, p1, p2⟩ := three (Hx2.out.below (Wd.Bx.lt Hx2.out) hB1)
    have hv1 := Hv2.out.below (Wd.Bx.lt Hv2.out) hB1
    obtain ⟨⟨z0, z1, z2, z3⟩, -⟩ := Vc.four hv1
    have hO1 := Wd.own_below hO2 hB1
    have hBB1 : Below B w w1 := hb1.mono hB
    have hz1' := hb1.size
    clear hB1 hO2
    obtain ⟨A, n, c, rfl, hS⟩ := Wd.Sl.of_own hO1
    have hn := Lib.hid hS.len
    have HS := Lib.hid hS
    clear hS
    go_wp2_with fail
    refine (Hp.out A n c bs w1 HS.out (by rw [hn.out]; omega)).mono ?_
    rintro e w3 ⟨v3, rfl, hO3, hB3⟩
    go_wp2_with fail
    go_ret
    exact ⟨v3, rfl, Wd.own_down hO3 (by omega), hBB1.trans (hB3.mono (by omega))⟩
  · by_cases hk : k = 0
    · rw [if_pos rfl, if_pos hk]
      subst hk
      rw [show (true && ((0 : Int) == 0)) = true from rfl] at Cn
      go_enter Tryd.func24, Tryd.ntmps24
      go_wp2_with fail
      generalize (w.alloc (.cells #[.string xs, .int .i64 xk, .bool true] 48)).alloc (.cells #[.int .i64 0, .int .i64 i, .string s, .bool b] 46) = wa at *
      refine (Cn.out wa).mono ?_
      rintro e w1 ⟨rfl, hB1⟩
      have hb1 := Hb.out.trans (hB1.mono hZ)
      obtain ⟨p0, p1, p2⟩ := three (Hx2.out.below (Wd.Bx.lt Hx2.out) hB1)
      have hv1 := Hv2.out.below (Wd.Bx.lt Hv2.out) hB1
      obtain ⟨⟨z0, z1, z2, z3⟩, -⟩ := Vc.four hv1
      have hO1 := Wd.own_below hO2 hB1
      have hBB1 : Below B w w1 := hb1.mono hB
      have hz1' := hb1.size
      clear hB1 hO2
      go_wp2_with (at_builtin; refine Wd.wpList_app _ rfl (.tmp 10) (.tmp 11) 29 rfl B 5 i0 _ .u8 1 Tryd.underlying29 hi hz0 hz1 hz2 rfl v bs rfl (hO1.alloc _) (w1.heap.size + 1) (some ⟨w1.heap.size, 0, none⟩) 1 1 [0] rfl rfl (by simp) (Wd.Rd.lit w1 .u8 [0] 5 _ rfl) (by simp; omega) (by unfold maxLen; simp; omega) (by simp; omega) ?_; intro v4 w4 hO4 hg4)
      go_ret
      exact ⟨v4, rfl, hO4, (hBB1.alloc (by omega) _).grown hg4 (by simp; omega) fun g hg => (hO1.lt g hg).1⟩
    · rw [if_pos rfl, if_neg hk]
      rw [show (true && (k == 0)) = false by simpa using hk] at Cn
      go_enter Tryd.func24, Tryd.ntmps24
      go_wp2_with fail
      generalize (w.alloc (.cells #[.string xs, .int .i64 xk, .bool true] 48)).alloc (.cells #[.int .i64 k, .int .i64 i, .string s, .bool b] 46) = wa at *
      refine (Cn.out wa).mono ?_
      rintro e w1 ⟨rfl, hB1⟩
      have hb1 := Hb.out.trans (hB1.mono hZ)
      obtain ⟨p0, p1, p2⟩ := three (Hx2.out.below (Wd.Bx.lt Hx2.out) hB1)
      have hv1 := Hv2.out.below (Wd.Bx.lt Hv2.out) hB1
      obtain ⟨⟨z0, z1, z2, z3⟩, -⟩ := Vc.four hv1
      have hO1 := Wd.own_below hO2 hB1
      have hBB1 : Below B w w1 := hb1.mono hB
      have hz1' := hb1.size
      clear hB1 hO2
      clear hk
      have hA1 := (Below.refl w1.heap.size w1).alloc (Nat.le_refl _) (.cells #[.int .u8 1] 5)
      go_wp2_with (at_builtin; refine Wd.wpList_app _ rfl (.tmp 15) (.tmp 16) 29 rfl B 5 i0 _ .u8 1 Tryd.underlying29 hi hz0 hz1 hz2 rfl v bs rfl (hO1.alloc _) (w1.heap.size + 1) (some ⟨w1.heap.size, 0, none⟩) 1 1 [1] rfl rfl (by simp) (Wd.Rd.lit w1 .u8 [1] 5 _ rfl) (by simp; omega) (by unfold maxLen; simp; omega) (by simp; omega) ?_; intro v4 w4 hO4 hg4; have hv4 : Vc.Vb w4 (w.heap.size + 1) k i s b := Wd.Bx.grown (hv1.below (Wd.Bx.lt hv1) hA1) hg4 (Wd.Bx.apart (hv1.below (Wd.Bx.lt hv1) hA1) (hO1.alloc _) (by decide)); obtain ⟨⟨z0, z1, z2, z3⟩, -⟩ := Vc.four hv4; have hBB4 : Below B w w4 := (hBB1.trans (hA1.mono (by omega))).grown hg4 (by simp; omega) fun g hg => (hO1.lt g hg).1; have hz4 := hBB4.size; obtain ⟨A, n, c, rfl, hS⟩ := Wd.Sl.of_own hO4; have hn := Lib.hid hS.len; have HS := Lib.hid hS; clear hS)
      refine (Hp.out A n c (bs ++ [1]) w4 HS.out (by rw [hn.out]; simp; omega)).mono ?_
      rintro e w3 ⟨v3, rfl, hO3, hB3⟩
      rw [List.append_assoc, List.singleton_append] at hO3
      go_wp2_with fail
      go_ret
      exact ⟨v3, rfl, Wd.own_down hO3 (by omega), hBB4.trans (hB3.mono (by omega))⟩
end Sx
end Go.Proofs.YtdmgjeipkpbojaaDoor
