/- The walk of the statement NumPuts of layer 1. -/
import Derived.Test.YthbliihjfgmepaaNumLawB
namespace Go.Proofs.Ythbliihjfgmepaa
open Go.RowKit
namespace Lw
open Nc

set_option maxHeartbeats 2000000 in
theorem numPuts_walk (A : Option Addr) (m c : Nat) (bs : List Int) (n : Int) (w : World) (hS : Wd.Sl w .u8 A m c bs) (_hF : Wd.Fits .u8 bs) (n1 : -9223372036854775808 ≤ n) (n2 : n ≤ 9223372036854775807) :
    Calls Try.prog 3 #[.slice A m c, .int .i64 n] w fun e w' => e = .returned (.bool true) ∧ Below w.heap.size w w' := by
  obtain ⟨i0, hi, hz0, hz1, hz2⟩ := info_parts info_u8
  have hcap := hS.cap
  have hmax := hS.max
  unfold maxLen at hmax
  by_cases hl : 600 < m
  · go_enter Try.func3, Try.ntmps3
    go_wp2_with fail
    refine (awake_any w).mono ?_
    rintro e w1 ⟨rfl, hB⟩
    go_wp2_with fail
    go_ret
    exact ⟨rfl, hB⟩
  · have Hm := Lib.hid hS.len
    have hd2 : bs.length ≤ 600 := by rw [← Hm.out]; omega
    have hdl := (Nm.vd_len (Nm.zz n)).2
    have hel : (if n < 0 then [] else Nm.vd n).length ≤ 10 := by
      split
      · simp
      · exact (Nm.vd_len n).2
    have c1 := fun A m c bs w h => put_any A m c bs n w h
    have c2 := fun A m c bs w h => putLen_any A m c bs n w h
    have c3 := fun w => refPut_any n w n1 n2
    have c4 := fun w => refPutLen_any n w n1 n2
    have c5 := fun w => size_any n w n1 n2
    generalize Nm.vd (Nm.zz n) = ds at *
    generalize (if n < 0 then [] else Nm.vd n) = es at *
    have C1 := Lib.hid c1
    have C2 := Lib.hid c2
    have C3 := Lib.hid c3
    have C4 := Lib.hid c4
    have C5 := Lib.hid c5
    clear c1 c2 c3 c4 c5
    go_enter Try.func3, Try.ntmps3
    go_wp2_with fail
    refine (awake_any w).mono ?_
    rintro e w1 ⟨rfl, hB⟩
    have hS1 := hS.below hB
    clear hS
    go_wp2_with (first | (at_builtin; refine Wd.wpList_app _ rfl (.const (.slice none 0 0)) (.tmp 20) 22 rfl w1.heap.size 5 i0 _ .u8 1 Try.underlying22 hi hz0 hz1 hz2 rfl (.slice none 0 0) [] rfl (World.ownsRow_nil _ _ _ _) w1.heap.size A m c bs rfl Hm.out hS1.nil hS1.rd (by simp; omega) (by simp [maxLen]; omega) (Nat.le_refl _) ?_; intro v2 w2 hown2 hg2; have hb2 := (Below.refl w1.heap.size w1).grown hg2 (Nat.le_refl _) (by simp [Value.ownBlock]); have hz := hb2.size) | (at_builtin; refine Wd.wpList_app _ rfl (.tmp 21) (.tmp 22) 22 rfl w1.heap.size 5 i0 _ .u8 1 Try.underlying22 hi hz0 hz1 hz2 rfl v2 ([] ++ bs) rfl (hown2.alloc _) (w2.heap.size + 1) _ 1 1 [77] rfl rfl (by simp) (Wd.Rd.lit w2 .u8 [77] _ _ rfl) (by simp; omega) (by simp [maxLen]; omega) (by simp; omega) ?_; intro v3 w3 hown3 hg3; obtain ⟨A3, m3, k3, rfl, hS3⟩ := Wd.Sl.of_own hown3; have hm3 : m < m3 := (by have := hS3.len; simp at this; rw [Hm.out]; omega); have hk3 := hS3.cap))
    have hW2 : Below w.heap.size w w2 := hB.trans (hb2.mono hB.size)
    have hB3 : Below w1.heap.size w2 w3 := ((Below.refl w1.heap.size w2).alloc hz _).grown hg3 (by simp; omega) (fun g hg => (hown2.lt g hg).1)
    have hW3 : Below w.heap.size w w3 := hW2.trans (hB3.mono hB.size)
    have hSb := (hS1.below hb2)
    have hSb3 : Wd.Sl w3 .u8 A m c bs := ⟨hS1.len, hS1.cap, hS1.max, hS1.nil, ((hS1.rd.below hb2).below hB3).up (Nat.le_trans hz hB3.size)⟩
    have hH := hS3.head m (by omega)
    have eH : ([] ++ bs ++ [77]).take m = bs := by rw [Hm.out]; simp
    rw [eH] at hH
    clear hown2 hown3 hg2 hg3 hb2 hB3 hS1 hSb hW2 eH hB
    refine (C1.out A3 m k3 bs w3 hH (by omega) n1 n2).mono ?_
    rintro e w4 ⟨A4, m4, k4, rfl, hS4, hB4⟩
    have hW4 : Below w.heap.size w w4 := hW3.trans (hB4.mono hW3.size)
    have hH4 := hH.below hB4
    have hS34 := hS3.below hB4
    have hSb4 := hSb3.below hB4
    clear hW3 hH hS3 hSb3 hB4
    go_wp2_with fail
    refine (C2.out A3 m k3 bs w4 hH4 (by omega) n1 n2).mono ?_
    rintro e w5 ⟨A5, m5, k5, rfl, hS5, hB5⟩
    have hW5 : Below w.heap.size w w5 := hW4.trans (hB5.mono hW4.size)
    have hS35 := hS34.below hB5
    have hSb5 := hSb4.below hB5
    have hS45 := hS4.below hB5
    clear hW4 hH4 hS34 hSb4 hS4 hB5
    go_wp2_with (at_builtin; refine Wd.wpList_app _ rfl (.const (.slice none 0 0)) (.tmp 37) 22 rfl w5.heap.size 5 i0 _ .u8 1 Try.underlying22 hi hz0 hz1 hz2 rfl (.slice none 0 0) [] rfl (World.ownsRow_nil _ _ _ _) w5.heap.size A m c bs rfl Hm.out hSb5.nil hSb5.rd (by simp; omega) (by simp [maxLen]; omega) (Nat.le_refl _) ?_; intro v6 w6 hown6 hg6; have hb6 := (Below.refl w5.heap.size w5).grown hg6 (Nat.le_refl _) (by simp [Value.ownBlock]))
    refine (C3.out w6).mono ?_
    rintro e w7 ⟨A7, m7, k7, rfl, hS7, hB7⟩
    have hown7 := Wd.own_below hown6 hB7
    have hb7 : Below w5.heap.size w5 w7 := hb6.trans (hB7.mono hb6.size)
    have Hm7 := Lib.hid hS7.len
    have hlt6 := hown6.lt
    clear hown6 hg6
    go_wp2_with (at_builtin; refine Wd.wpList_app _ rfl (.tmp 38) (.tmp 40) 22 rfl w5.heap.size 5 i0 _ .u8 1 Try.underlying22 hi hz0 hz1 hz2 rfl v6 ([] ++ bs) rfl hown7 w7.heap.size A7 m7 k7 ds rfl Hm7.out hS7.nil hS7.rd (by simp; omega) (by simp [maxLen]; omega) hb7.size ?_; intro v8 w8 hown8 hg8; obtain ⟨A8, m8, k8, rfl, hS8⟩ := Wd.Sl.of_own hown8)
    have hb8 : Below w5.heap.size w5 w8 := hb7.grown hg8 hb7.size (fun g hg => (hlt6 g hg).1)
    have hW8 : Below w.heap.size w w8 := hW5.trans (hb8.mono hW5.size)
    have hS38 := hS35.below hb8
    have hSb8 := hSb5.below hb8
    have hS48 := hS45.below hb8
    have hS58 := hS5.below hb8
    rw [List.nil_append] at hS8
    clear hown7 hown8 hg8 hb6 hb7 hb8 hB7 hS7 hlt6 hW5 hS35 hSb5 hS45 hS5
    refine (same_yes A4 A8 m4 m8 k4 k8 (bs ++ ds) (bs ++ ds) w8 hS48 hS8 rfl).mono ?_
    rintro e w9 ⟨rfl, hB9⟩
    have hW9 : Below w.heap.size w w9 := hW8.trans (hB9.mono hW8.size)
    have hS39 := hS38.below hB9
    have hSb9 := hSb8.below hB9
    have hS59 := hS58.below hB9
    clear hW8 hS38 hSb8 hS48 hS58 hS8 hB9
    go_wp2_with (at_builtin; refine Wd.wpList_app _ rfl (.const (.slice none 0 0)) (.tmp 44) 22 rfl w9.heap.size 5 i0 _ .u8 1 Try.underlying22 hi hz0 hz1 hz2 rfl (.slice none 0 0) [] rfl (World.ownsRow_nil _ _ _ _) w9.heap.size A m c bs rfl Hm.out hSb9.nil hSb9.rd (by simp; omega) (by simp [maxLen]; omega) (Nat.le_refl _) ?_; intro v6 w6 hown6 hg6; have hb6 := (Below.refl w9.heap.size w9).grown hg6 (Nat.le_refl _) (by simp [Value.ownBlock]))
    refine (C4.out w6).mono ?_
    rintro e w7 ⟨A7, m7, k7, rfl, hS7, hB7⟩
    have hown7 := Wd.own_below hown6 hB7
    have hb7 : Below w9.heap.size w9 w7 := hb6.trans (hB7.mono hb6.size)
    have Hm7 := Lib.hid hS7.len
    have hlt6 := hown6.lt
    clear hown6 hg6
    go_wp2_with (at_builtin; refine Wd.wpList_app _ rfl (.tmp 45) (.tmp 47) 22 rfl w9.heap.size 5 i0 _ .u8 1 Try.underlying22 hi hz0 hz1 hz2 rfl v6 ([] ++ bs) rfl hown7 w7.heap.size A7 m7 k7 es rfl Hm7.out hS7.nil hS7.rd (by simp; omega) (by simp [maxLen]; omega) hb7.size ?_; intro v8 w8 hown8 hg8; obtain ⟨A8, m8, k8, rfl, hS8⟩ := Wd.Sl.of_own hown8)
    have hb8 : Below w9.heap.size w9 w8 := hb7.grown hg8 hb7.size (fun g hg => (hlt6 g hg).1)
    have hW8 : Below w.heap.size w w8 := hW9.trans (hb8.mono hW9.size)
    have hS38 := hS39.below hb8
    have hS58 := hS59.below hb8
    rw [List.nil_append] at hS8
    clear hown7 hown8 hg8 hb6 hb7 hb8 hB7 hS7 hlt6 hW9 hS39 hSb9 hS59
    refine (same_yes A5 A8 m5 m8 k5 k8 (bs ++ es) (bs ++ es) w8 hS58 hS8 rfl).mono ?_
    rintro e w10 ⟨rfl, hB10⟩
    have hW10 : Below w.heap.size w w10 := hW8.trans (hB10.mono hW8.size)
    have hS310 := hS38.below hB10
    clear hW8 hS38 hS58 hS8 hB10
    obtain ⟨b, o, hA3, _, hc77⟩ := hS310.rd m (by simp; rw [Hm.out]; omega)
    have e77 : ([] ++ bs ++ [77]).getD m 0 = 77 := by rw [Hm.out]; simp [List.getD]
    rw [e77] at hc77
    clear e77 hS310
    subst hA3
    have hi : (m : Int) < (m3 : Int) := by omega
    go_wp2_with fail
    refine (C5.out w10).mono ?_
    rintro e w11 ⟨rfl, rfl⟩
    go_wp2_with fail
    refine (C3.out w10).mono ?_
    rintro e w12 ⟨A12, m12, k12, rfl, hS12, hB12⟩
    rw [← hS12.len]
    go_wp2_with fail
    go_ret
    exact ⟨rfl, hW10.trans (hB12.mono hW10.size)⟩
end Lw
end Go.Proofs.Ythbliihjfgmepaa
