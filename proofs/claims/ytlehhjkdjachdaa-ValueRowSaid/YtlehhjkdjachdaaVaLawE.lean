/- The walk of the statement ValueRow of layer 6. -/
import Derived.Test.YtlehhjkdjachdaaVaLawB
import Derived.Test.YtlehhjkdjachdaaVaPutOwn
import Derived.Test.YtlehhjkdjachdaaVaOpen
import Derived.Deep.DeepCutAuto
namespace Go.Proofs.Ytlehhjkdjachdaa
open Go.RowKit
namespace Lw
open Va Vc Nc
open Wd (Vs V1)
/-- The bytes of all values of a list, each behind its kind, one behind the other. -/
def encR (l : List Vl) : List Int := l.flatMap fun o => o.kind :: Va.put o
theorem encR_take (l : List Vl) (k : Nat) (h : k < l.length) : encR (l.take (k + 1)) = (encR (l.take k) ++ [(l.getD k default).kind]) ++ Va.put (l.getD k default) := by
  unfold encR
  rw [List.take_succ_eq_append_getElem h, List.flatMap_append]
  simp [List.getD, h]
theorem encR_drop (l : List Vl) (k : Nat) (h : k < l.length) : encR (l.drop k) = (l.getD k default).kind :: (Va.put (l.getD k default) ++ encR (l.drop (k + 1))) := by
  unfold encR
  rw [List.drop_eq_getElem_cons h, List.flatMap_cons]
  simp [List.getD, h]
/-- A value that may be, of the machine's numbers. -/
def Good (o : Vl) : Prop := May o ∧ -9223372036854775808 ≤ o.i ∧ o.i ≤ 9223372036854775807
theorem good_byt {o : Vl} (h : Good o) : Nm.Byt (o.kind :: Va.put o) := fun x hx => by
  rcases List.mem_cons.1 hx with q | q
  · have := h.1
    unfold May at this
    omega
  · exact put_byt h.1 h.2.1 h.2.2 x q
theorem encR_byt (l : List Vl) (h : ∀ o ∈ l, Good o) : Nm.Byt (encR l) := fun y hy => by
  unfold encR at hy
  obtain ⟨x, hx, hy⟩ := List.mem_flatMap.1 hy
  exact good_byt (h x hx) y hy
theorem and4 {w : World} {b f0 f1 f2 f3 : Nat} {x0 x1 x2 x3 : Value} {B : Nat} {w' : World} (h : w.cell? ⟨b, f0, none⟩ = some x0 ∧ w.cell? ⟨b, f1, none⟩ = some x1 ∧ w.cell? ⟨b, f2, none⟩ = some x2 ∧ w.cell? ⟨b, f3, none⟩ = some x3) (hb : Below B w w') (hB : b < B) :
    w'.cell? ⟨b, f0, none⟩ = some x0 ∧ w'.cell? ⟨b, f1, none⟩ = some x1 ∧ w'.cell? ⟨b, f2, none⟩ = some x2 ∧ w'.cell? ⟨b, f3, none⟩ = some x3 :=
  ⟨(hb.cell (p := ⟨b, f0, none⟩) hB).trans h.1, (hb.cell (p := ⟨b, f1, none⟩) hB).trans h.2.1, (hb.cell (p := ⟨b, f2, none⟩) hB).trans h.2.2.1, (hb.cell (p := ⟨b, f3, none⟩) hB).trans h.2.2.2⟩

set_option maxRecDepth 100000 in
set_option maxHeartbeats 8000000 in
theorem row_walk (A : Option Addr) (m c : Nat) (l : List Vl) (w : World) (hV : Vs w A m c l) :
    Calls Try.prog 7 #[.slice A m c] w fun e w' => e = .returned (.bool true) ∧ Below w.heap.size w w' := by
  obtain ⟨i0, hi, hz0, hz1, hz2⟩ := info_parts info_u8
  have hcap := hV.cap
  have hmax := hV.max
  unfold maxLen at hmax
  by_cases hl : 40 < m
  · clear hV
    have hlI : (40 : Int) < (m : Int) := by omega
    go_enter Try.func7, Try.ntmps7
    go_wp2_with fail
    refine (awake_any w).mono ?_
    rintro e w1 ⟨rfl, hB⟩
    go_wp2_with fail
    go_ret
    exact ⟨rfl, hB⟩
  · have Hm := Lib.hid hV.len
    have hlI : ¬ (40 : Int) < (m : Int) := by omega
    go_enter Try.func7, Try.ntmps7
    go_wp2_with fail
    refine (awake_any w).mono ?_
    rintro e w1 ⟨rfl, hB⟩
    have HV := Lib.hid (hV.below hB)
    clear hV
    go_wp2_with fail
    go_loopw [4, 5] (fun v i wr => ∃ (k n d : Nat) (D : Option Addr) (es : List Int), i = .int .i64 k ∧ k ≤ m ∧ v = .slice D n d ∧ wr.ownsRow w1.heap.size 5 1 (.slice D n d) es.length (es.map (Value.int .u8)) ∧ Hid (es = encR (l.take k) ∧ (∀ o ∈ l.take k, Good o)) ∧ es.length ≤ 75 * k ∧ Below w1.heap.size w1 wr) (fun _ i _ => m - (intOf i).toNat)
    case atStart => exact ⟨0, 0, 0, none, [], rfl, Nat.zero_le _, rfl, World.ownsRow_nil _ _ _ _, Lib.hid ⟨by simp [encR], by simp⟩, Nat.le_refl _, Below.refl _ _⟩
    case round =>
      obtain ⟨k, n, d, D, es, rfl, hk, rfl, hO, hE, hn, hb⟩ := hrel
      obtain ⟨wp, rfl⟩ : ∃ wp : World, wp = wr := ⟨_, rfl⟩
      have hW : Below w.heap.size w wp := hB.trans (hb.mono hB.size)
      by_cases hlt : k < m
      · have hkl : k < l.length := by rw [← Hm.out]; exact hlt
        obtain ⟨o, ho⟩ : ∃ o, o = l.getD k default := ⟨_, rfl⟩
        have hgo : o ∈ l.take (k + 1) → True := fun _ => trivial
        obtain ⟨b, f, hA, hbB, q0, q1, q2, q3, hv⟩ := HV.out.cells hkl ho
        subst hA
        have he := encR_take l k hkl
        rw [← ho] at he
        have hmem : ∀ x ∈ l.take (k + 1), x ∈ l.take k ∨ x = o := fun x hx => by
          rw [List.take_succ_eq_append_getElem hkl, List.mem_append, List.mem_singleton] at hx
          rcases hx with q | q
          · exact .inl q
          · right; rw [ho, q]; simp [List.getD, hkl]
        obtain ⟨k1, i1, s1, b1⟩ := o
        simp only [] at q0 q1 q2 q3 he
        have hv1 := bounds_i64 hv.w1
        simp only [] at hv1
        have He := Lib.hid he
        have Hmem := Lib.hid hmem
        clear ho he hmem hgo hv
        have z1 := and4 ⟨q0, q1, q2, q3⟩ hb hbB
        obtain ⟨y0, y1, y2, y3⟩ := z1
        clear q0 q1 q2 q3
        have hkmI : (k : Int) < (m : Int) := by omega
        have hi0 : (0 : Int) ≤ (k : Int) := by omega
        by_cases hs : 300 < s1.size
        · have hsI : (300 : Int) < (s1.size : Int) := by omega
          clear hO
          go_wp2_with fail
          go_ret
          exact ⟨rfl, hW⟩
        have hsI : ¬ (300 : Int) < (s1.size : Int) := by omega
        have M1 := Lib.hid fun w => may_any k1 i1 s1 b1 w
        cases hmay : mayB k1 i1 s1 b1
        case false =>
          rw [hmay] at M1
          clear hO
          go_wp2_with fail
          refine (M1.out _).mono ?_
          rintro e w3 ⟨rfl, hB3⟩
          go_wp2_with fail
          go_ret
          exact ⟨rfl, hW.trans (hB3.mono hW.size)⟩
        case true =>
          rw [hmay] at M1
          have hM := (mayB_iff k1 i1 s1 b1).1 hmay
          have hk13 : 0 ≤ k1 ∧ k1 ≤ 3 := by
            unfold May at hM
            simp only [] at hM
            omega
          have hwk : IntKind.u8.wrap k1 = k1 := by
            have : k1 = 0 ∨ k1 = 1 ∨ k1 = 2 ∨ k1 = 3 := by omega
            rcases this with rfl | rfl | rfl | rfl <;> rfl
          have hpl := put_len hM
          have Hp := Lib.hid fun w' A' n' c' (h : Wd.Sl w' .u8 A' n' c' (es ++ [k1])) => Put_own A' n' c' (es ++ [k1]) k1 i1 s1 b1 w' h (by rw [h.len, List.length_append]; simp; omega) hv1.1 hv1.2 hM
          have Hg := Lib.hid (show Good ⟨k1, i1, s1, b1⟩ from ⟨hM, hv1.1, hv1.2⟩)
          obtain ⟨ds, hds⟩ : ∃ ds, ds = Va.put ⟨k1, i1, s1, b1⟩ := ⟨_, rfl⟩
          rw [← hds] at Hp He hpl
          clear hmay hM hds hk13
          go_wp2_with fail
          refine (M1.out _).mono ?_
          rintro e w3 ⟨rfl, hB3⟩
          have hO3 := Wd.own_below hO hB3
          have hb3 : Below w1.heap.size w1 w3 := hb.trans (hB3.mono hb.size)
          have z3 : w3.cell? ⟨b, f + k * 4, none⟩ = some (.int .i64 k1) ∧ w3.cell? ⟨b, f + k * 4 + 1, none⟩ = some (.int .i64 i1) ∧ w3.cell? ⟨b, f + k * 4 + 2, none⟩ = some (.string s1) ∧ w3.cell? ⟨b, f + k * 4 + 3, none⟩ = some (.bool b1) := and4 ⟨y0, y1, y2, y3⟩ hB3 (Nat.lt_of_lt_of_le hbB hb.size)
          clear y0 y1 y2 y3 hO M1 hB3
          obtain ⟨y0, y1, y2, y3⟩ := z3
          have hz3 := hb3.size
          go_upto_region 10 with fail
          have zd : w3.drew.cell? ⟨b, f + k * 4, none⟩ = some (.int .i64 k1) ∧ w3.drew.cell? ⟨b, f + k * 4 + 1, none⟩ = some (.int .i64 i1) ∧ w3.drew.cell? ⟨b, f + k * 4 + 2, none⟩ = some (.string s1) ∧ w3.drew.cell? ⟨b, f + k * 4 + 3, none⟩ = some (.bool b1) := ⟨y0, y1, y2, y3⟩
          have hA3 : Below w1.heap.size w3 (w3.alloc (.cells #[.int .u8 k1] 5)).drew := (((Below.refl w3.heap.size w3).alloc (Nat.le_refl _) (.cells #[.int .u8 k1] 5)).drew).mono hz3
          have za := and4 ⟨y0, y1, y2, y3⟩ hA3 hbB
          have hO4 := Wd.own_below hO3 (((Below.refl w3.heap.size w3).alloc (Nat.le_refl _) (.cells #[.int .u8 k1] 5)).drew)
          have hR4 : Wd.Rd (w3.alloc (.cells #[.int .u8 k1] 5)).drew (w3.heap.size + 1) .u8 (some ⟨w3.heap.size, 0, none⟩) [k1] := Wd.Rd.lit w3 .u8 [k1] 5 #[.int .u8 k1] rfl
          have hz4 : w1.heap.size ≤ (w3.alloc (.cells #[.int .u8 k1] 5)).drew.heap.size := Nat.le_trans hz3 (by simp)
          go_region_held3 (fun w' => w'.cell? ⟨b, f + k * 4, none⟩ = some (.int .i64 k1) ∧ w'.cell? ⟨b, f + k * 4 + 1, none⟩ = some (.int .i64 i1) ∧ w'.cell? ⟨b, f + k * 4 + 2, none⟩ = some (.string s1) ∧ w'.cell? ⟨b, f + k * 4 + 3, none⟩ = some (.bool b1)) (with_reducible first | exact z9 | exact z8 | exact za | exact zd) (first | (refine Wd.step_app _ rfl (.tmp 43) (.tmp 50) 24 rfl w1.heap.size 5 i0 _ .u8 1 Try.underlying24 hi hz0 hz1 hz2 rfl (.slice D n d) es rfl hO4 _ (some ⟨w3.heap.size, 0, none⟩) 1 1 [k1] (by rfl) rfl (by simp) hR4 (by simp; omega) (by unfold maxLen; simp; omega) hz4 ?_; intro v8 w8 hO8 hg8; have hb8 : Below w1.heap.size w3 w8 := hA3.grown hg8 hz4 fun g hg => (hO4.lt g hg).1; have z8 := and4 ⟨y0, y1, y2, y3⟩ hb8 hbB; obtain ⟨A8, n8, c8, rfl, hS8⟩ := Wd.Sl.of_own hO8) | (go_at_call 9; (with_reducible refine (Hp.out w8 A8 n8 c8 hS8).mono ?_); rintro e w9 ⟨v9, rfl, hO9, hB9⟩; have hb9 : Below w1.heap.size w3 w9 := hb8.trans (hB9.mono (Nat.le_trans hz3 hb8.size)); have z9 := and4 ⟨y0, y1, y2, y3⟩ hb9 hbB))
          have hO9' := Wd.own_down hO9 (Nat.le_trans hz3 hb8.size)
          obtain ⟨A9, n9, c9, rfl, -⟩ := Wd.Sl.of_own hO9
          clear z8 z9 za zd hO4 hR4 hg8 hO8 hS8 hO3
          go_wp2_with fail
          go_roundw
          case rel =>
            refine ⟨k + 1, n9, c9, A9, _, by go_num, by omega, rfl, hO9', Lib.hid ⟨by rw [He.out, hE.out.1], fun x hx => ?_⟩, by simp; omega, hb3.trans (hb9.mono (Nat.le_refl _))⟩
            rcases Hmem.out x hx with q | q
            · exact hE.out.2 x q
            · rw [q]; exact Hg.out
          case measure => simp [intOf]; omega
      · have hkm : k = m := by omega
        have htk : l.take k = l := List.take_of_length_le (by rw [← Hm.out]; omega)
        obtain ⟨he, hgd⟩ := hE.out
        rw [htk] at he hgd
        have Hgd := Lib.hid hgd
        obtain ⟨A4, n4, c4, hsl, hS4⟩ := Wd.Sl.of_own hO
        simp only [Value.slice.injEq] at hsl
        obtain ⟨rfl, rfl, rfl⟩ := hsl
        have HV4 := Lib.hid (HV.out.below hb)
        rw [he] at hS4
        clear hE hgd htk hO he HV hB hb hn hkm
        have hkI : ¬ (k : Int) < (m : Int) := by omega
        go_wp2_with fail
        go_loopw [4, 8] (fun v i wr => ∃ (j n d : Nat) (D : Option Addr), i = .int .i64 j ∧ j ≤ m ∧ v = .slice D n d ∧ Wd.Sl wr .u8 D n d (encR (l.drop j)) ∧ Below wp.heap.size wp wr) (fun _ i _ => m - (intOf i).toNat)
        case atStart => exact ⟨0, n, d, D, rfl, Nat.zero_le _, rfl, hS4, Below.refl _ _⟩
        case round =>
          clear hS4
          obtain ⟨j, n, d, D, rfl, hj, rfl, hD, hbr⟩ := hrel
          obtain ⟨wq, rfl⟩ : ∃ wq : World, wq = wr := ⟨_, rfl⟩
          by_cases hlt2 : j < m
          · have hjl : j < l.length := by rw [← Hm.out]; exact hlt2
            obtain ⟨o, ho⟩ : ∃ o, o = l.getD j default := ⟨_, rfl⟩
            obtain ⟨b, f, hA, hbB, q0, q1, q2, q3, hv⟩ := HV4.out.cells hjl ho
            subst hA
            have hgood : Good o := Hgd.out o (by rw [ho]; simp [List.getD, hjl])
            have he := encR_drop l j hjl
            rw [← ho] at he
            have hany := any_put hgood.1 hgood.2.1 hgood.2.2 (encR (l.drop (j + 1)))
            have hby := encR_byt (l.drop j) (fun y hy => Hgd.out y (List.mem_of_mem_drop hy))
            have hc1 := Lib.hid fun w' (hb : Below wq.heap.size wq w') => Any_any D n d (encR (l.drop j)) w' (hD.below hb) hby
            rw [he, hany] at hc1
            obtain ⟨L, hL⟩ : ∃ L, L = (Va.put o).length + 1 := ⟨_, rfl⟩
            have hLI : ((Va.put o).length : Int) + 1 = (L : Int) := by omega
            rw [hLI] at hc1
            have hle : L ≤ n := by rw [hD.len, he, hL]; simp
            have hcut := hD.cut L hle
            have hdr : (encR (l.drop j)).drop L = encR (l.drop (j + 1)) := by rw [he, hL]; simp
            rw [hdr] at hcut
            have Hcut := Lib.hid hcut
            have hL1 : 1 ≤ L := by omega
            obtain ⟨k1, i1, s1, b1⟩ := o
            simp only [] at q0 q1 q2 q3
            unfold ansV at hc1
            have hq1 := fun w => eq_self k1 i1 s1 b1 w
            have z1 := and4 ⟨q0, q1, q2, q3⟩ hbr hbB
            have hnd := hD.cap
            have hdm := hD.max
            unfold maxLen at hdm
            clear ho hgood he hany hby hL hLI hcut hdr q0 q1 q2 q3 hv hD
            have hjmI : (j : Int) < (m : Int) := by omega
            have hi0 : (0 : Int) ≤ (j : Int) := by omega
            have hLn : ¬ (n : Int) < (L : Int) := by omega
            have hLn' : (L : Int) ≤ (d : Int) := by omega
            have hLn2 : (L : Int) ≤ (n : Int) := by omega
            have hL0 : ¬ (L : Int) < 1 := by omega
            have hbB' := Nat.lt_of_lt_of_le hbB hbr.size
            go_wp2_with fail
            refine (hc1.out _ (Below.refl _ _)).mono ?_
            rintro e w5 ⟨rfl, hB5⟩
            have z5 := and4 z1 (hB5.alloc hB5.size (.cells #[.int .i64 k1, .int .i64 i1, .string s1, .bool b1] 23)) hbB'
            have x5 : Vb (w5.alloc (.cells #[.int .i64 k1, .int .i64 i1, .string s1, .bool b1] 23)) w5.heap.size k1 i1 s1 b1 := Wd.Bx.new _ _ _
            have hb5 := hB5.alloc hB5.size (.cells #[.int .i64 k1, .int .i64 i1, .string s1, .bool b1] 23)
            have hS5 := Hcut.out.below hb5
            have hW5 : Below wp.heap.size wp (w5.alloc (.cells #[.int .i64 k1, .int .i64 i1, .string s1, .bool b1] 23)) := hbr.trans (hb5.mono hbr.size)
            clear z1 hB5 hc1
            obtain ⟨y0, y1, y2, y3⟩ := z5
            obtain ⟨⟨u0, u1, u2, u3⟩, -⟩ := four x5
            go_upto_region 18 with fail
            go_quiet (fail)
            go_wp2_with fail
            go_roundw
            case rel => exact ⟨j + 1, n - L, d - L, _, by go_num, by omega, rfl, hS5.below (Wd.below_drewN (Below.refl _ _) _), Wd.below_drewN hW5 _⟩
            case measure => simp [intOf]; omega
          · go_wp2_with fail
            go_ret
            have hn := hD.len
            rw [List.drop_of_length_le (by rw [← Hm.out]; omega)] at hn
            exact ⟨Wd.yes (by rw [hn]; rfl), hW.trans (hbr.mono hW.size)⟩
end Lw
end Go.Proofs.Ytlehhjkdjachdaa
