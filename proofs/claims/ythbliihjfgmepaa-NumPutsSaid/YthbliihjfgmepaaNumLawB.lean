/- The walk of the statement NumBack of layer 1. -/
import Derived.Test.YthbliihjfgmepaaNumAwake
namespace Go.Proofs.Ythbliihjfgmepaa
open Go.RowKit
namespace Lw
open Nc

theorem byt_of {xs : List Int} (h : Wd.Fits .u8 xs) : Nm.Byt xs := fun x hx => by
  have := h x hx
  simp [Lit.wf, IntKind.min, IntKind.max, IntKind.signed, IntKind.bits] at this
  omega
theorem byt_app {xs ys : List Int} (h : Nm.Byt xs) (h' : Nm.Byt ys) : Nm.Byt (xs ++ ys) := fun x hx => by
  rcases List.mem_append.1 hx with q | q
  · exact h x q
  · exact h' x q
theorem getI_vd (n : Int) (more : List Int) (n1 : -9223372036854775808 ≤ n) (n2 : n ≤ 9223372036854775807) : Nm.getI (Nm.vd (Nm.zz n) ++ more) = (n, ((Nm.vd (Nm.zz n)).length : Int), 0) := by
  unfold Nm.getI
  rw [Nm.gv_vd _ _ (Nm.zz_lo n) (Nm.zz_hi n n1 n2)]
  show (Nm.unz (Nm.zz n), _, _) = _
  rw [Nm.unz_zz]
theorem getL_vd (n : Int) (more : List Int) (n1 : 0 ≤ n) (n2 : n ≤ 9223372036854775807) : Nm.getL (Nm.vd n ++ more) = (n, ((Nm.vd n).length : Int), 0) := by
  unfold Nm.getL
  rw [Nm.gv_vd _ _ n1 (by omega)]
  exact if_neg (show ¬ 9223372036854775807 < n by omega)

set_option maxHeartbeats 1000000 in
theorem numBack_walk (n : Int) (A : Option Addr) (m c : Nat) (more : List Int) (w : World) (n1 : -9223372036854775808 ≤ n) (n2 : n ≤ 9223372036854775807) (hS : Wd.Sl w .u8 A m c more) (hF : Wd.Fits .u8 more) :
    Calls Try.prog 4 #[.int .i64 n, .slice A m c] w fun e w' => e = .returned (.bool true) ∧ Below w.heap.size w w' := by
  obtain ⟨i0, hi, hz0, hz1, hz2⟩ := info_parts info_u8
  have hcap := hS.cap
  have hmax := hS.max
  unfold maxLen at hmax
  by_cases hl : 600 < m
  · go_enter Try.func4, Try.ntmps4
    go_wp2_with fail
    refine (awake_any w).mono ?_
    rintro e w1 ⟨rfl, hB⟩
    go_wp2_with fail
    go_ret
    exact ⟨rfl, hB⟩
  · have c1 := fun w => put_any none 0 0 [] n w (Wd.Sl.none_ _ _) (by omega) n1 n2
    simp only [List.nil_append] at c1
    have cs := size_any n
    have hg := getI_vd n more n1 n2
    have hb := byt_app (Nm.vd_byt (Nm.zz n) (Nm.zz_lo n) (Nm.zz_hi n n1 n2)) (byt_of hF)
    have hdl := (Nm.vd_len (Nm.zz n)).2
    generalize Nm.vd (Nm.zz n) = ds at *
    have C1 := Lib.hid c1
    have Cs := Lib.hid cs
    have Hg := Lib.hid hg
    clear c1 cs hg
    go_enter Try.func4, Try.ntmps4
    go_wp2_with fail
    refine (awake_any w).mono ?_
    rintro e w1 ⟨rfl, hB⟩
    have hS1 := hS.below hB
    go_wp2_with fail
    refine (C1.out w1).mono ?_
    rintro e w2 ⟨A2, m2, k2, rfl, hS2, hB2⟩
    have hS' := hS1.below hB2
    have hW2 : Below w.heap.size w w2 := hB.trans (hB2.mono hB.size)
    have Hm2 := Lib.hid hS2.len
    have Hm := Lib.hid hS'.len
    have hd1 : ds.length ≤ 10 := hdl
    have hd2 : more.length ≤ 600 := by rw [← Hm.out]; omega
    clear hS1 hB hB2
    go_wp2_with (first | (at_builtin; refine Wd.wpList_app _ rfl (.const (.slice none 0 0)) (.tmp 26) 22 rfl w2.heap.size 5 i0 _ .u8 1 Try.underlying22 hi hz0 hz1 hz2 rfl (.slice none 0 0) [] rfl (World.ownsRow_nil _ _ _ _) w2.heap.size A2 m2 k2 ds rfl Hm2.out hS2.nil hS2.rd (by simp; omega) (by simp [maxLen]; omega) (Nat.le_refl _) ?_; intro v3 w3 hown3 hg3; have hb3 := (Below.refl w2.heap.size w2).grown hg3 (Nat.le_refl _) (by simp [Value.ownBlock])) | (at_builtin; refine Wd.wpList_app _ rfl (.tmp 27) (.tmp 28) 22 rfl w2.heap.size 5 i0 _ .u8 1 Try.underlying22 hi hz0 hz1 hz2 rfl v3 ([] ++ ds) rfl hown3 w3.heap.size A m c more rfl Hm.out hS'.nil (hS'.below hb3).rd (by simp; omega) (by simp [maxLen]; omega) hb3.size ?_; intro v4 w4 hown4 hg4; obtain ⟨A4, m4, k4, rfl, hS4⟩ := Wd.Sl.of_own hown4))
    have hb4 : Below w2.heap.size w2 w4 := hb3.grown hg4 hb3.size (fun g hg => (hown3.lt g hg).1)
    have hW4 : Below w.heap.size w w4 := hW2.trans (hb4.mono hW2.size)
    have hS5 := hS'.below hb4
    rw [List.nil_append] at hS4
    clear hown3 hown4 hg3 hg4 hb3 hb4 hS' hS2 hW2
    refine (get_any A4 m4 k4 (ds ++ more) w4 hS4 hb).mono ?_
    rintro e w5 ⟨rfl, rfl⟩
    rw [Hg.out]
    unfold three
    rw [← Hm2.out]
    go_wp2_with fail
    refine (Cs.out w4 n1 n2).mono ?_
    rintro e w5 ⟨rfl, rfl⟩
    rw [← Hm2.out]
    clear hS4 Hg Cs C1 hb
    by_cases hn : n < 0
    · have c2 := fun w => putLen_any none 0 0 [] n w (Wd.Sl.none_ _ _) (by omega) n1 n2
      rw [if_pos hn, List.append_nil] at c2
      have C2 := Lib.hid c2
      clear c2
      go_wp2_with fail
      refine (C2.out w4).mono ?_
      rintro e w6 ⟨A6, m6, k6, rfl, hS6, hB6⟩
      obtain rfl : m6 = 0 := hS6.len
      go_wp2_with fail
      go_ret
      exact ⟨rfl, hW4.trans (hB6.mono hW4.size)⟩
    · have c2 := fun w => putLen_any none 0 0 [] n w (Wd.Sl.none_ _ _) (by omega) n1 n2
      rw [if_neg hn, List.nil_append] at c2
      have hg := getL_vd n more (by omega) n2
      have hb := byt_app (Nm.vd_byt n (by omega) (by omega)) (byt_of hF)
      have hel := (Nm.vd_len n).2
      have hn' : 0 ≤ n := by omega
      clear hn
      generalize Nm.vd n = es at *
      have C2 := Lib.hid c2
      have Hg := Lib.hid hg
      have he1 : es.length ≤ 10 := hel
      clear c2 hg
      go_wp2_with fail
      refine (C2.out w4).mono ?_
      rintro e w6 ⟨A6, m6, k6, rfl, hS6, hB6⟩
      have hW6 : Below w.heap.size w w6 := hW4.trans (hB6.mono hW4.size)
      have hS7 := hS5.below hB6
      have Hm6 := Lib.hid hS6.len
      clear hS5 hB6 hW4
      go_wp2_with (first | (at_builtin; refine Wd.wpList_app _ rfl (.const (.slice none 0 0)) (.tmp 62) 22 rfl w6.heap.size 5 i0 _ .u8 1 Try.underlying22 hi hz0 hz1 hz2 rfl (.slice none 0 0) [] rfl (World.ownsRow_nil _ _ _ _) w6.heap.size A6 m6 k6 es rfl Hm6.out hS6.nil hS6.rd (by simp; omega) (by simp [maxLen]; omega) (Nat.le_refl _) ?_; intro v7 w7 hown7 hg7; have hb7 := (Below.refl w6.heap.size w6).grown hg7 (Nat.le_refl _) (by simp [Value.ownBlock])) | (at_builtin; refine Wd.wpList_app _ rfl (.tmp 63) (.tmp 64) 22 rfl w6.heap.size 5 i0 _ .u8 1 Try.underlying22 hi hz0 hz1 hz2 rfl v7 ([] ++ es) rfl hown7 w7.heap.size A m c more rfl Hm.out hS7.nil (hS7.below hb7).rd (by simp; omega) (by simp [maxLen]; omega) hb7.size ?_; intro v8 w8 hown8 hg8; obtain ⟨A8, m8, k8, rfl, hS8⟩ := Wd.Sl.of_own hown8))
      have hb8 : Below w6.heap.size w6 w8 := hb7.grown hg8 hb7.size (fun g hg => (hown7.lt g hg).1)
      have hW8 : Below w.heap.size w w8 := hW6.trans (hb8.mono hW6.size)
      rw [List.nil_append] at hS8
      clear hown7 hown8 hg7 hg8 hb7 hb8 hS6 hS7 hW6
      refine (getLen_any A8 m8 k8 (es ++ more) w8 hS8 hb).mono ?_
      rintro e w9 ⟨rfl, rfl⟩
      rw [Hg.out]
      unfold three
      rw [← Hm6.out]
      go_wp2_with fail
      go_ret
      exact ⟨rfl, hW8⟩
end Lw
end Go.Proofs.Ythbliihjfgmepaa
