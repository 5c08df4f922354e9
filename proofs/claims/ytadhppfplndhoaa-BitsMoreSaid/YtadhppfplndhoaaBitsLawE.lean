/- The walk of the statement BitsMore of layer 2. -/
import Derived.Test.YtadhppfplndhoaaBitsAwake
import Derived.Test.YtadhppfplndhoaaBitsLaws
import Derived.Deep.RegionWith
import Derived.Deep.RegionHeld3
import Derived.Deep.DeepCutAuto
import Derived.IntWalk
namespace Go.Proofs.Ytadhppfplndhoaa
open Go.RowKit
namespace Lw
open Bc Nc

theorem inR_parts {W : Nat} {l m : List Int} (h : Bt.InR W (l ++ m)) : Bt.InR W l ∧ Bt.InR W m := ⟨fun x hx => h x (by simp [hx]), fun x hx => h x (by simp [hx])⟩
theorem getD_left (l m : List Int) (i : Nat) (h : i < l.length) : (l ++ m).getD i 0 = l.getD i 0 := by
  simp [List.getD, List.getElem?_append, h]
theorem getD_right (l m : List Int) (i : Nat) : (l ++ m).getD (l.length + i) 0 = m.getD i 0 := by
  simp only [List.getD]
  rw [List.getElem?_append_right (by omega), Nat.add_sub_cancel_left]

set_option maxRecDepth 100000 in
set_option maxHeartbeats 4000000 in
theorem bitsMore_ok (A : Option Addr) (n c : Nat) (l : List Int) (B : Option Addr) (n' c' : Nat) (m : List Int) (W : Nat) (w : World) (hS : Wd.Sl w .i64 A n c l) (hT : Wd.Sl w .i64 B n' c' m) (hn : n ≤ 300) (hn' : n' ≤ 300) (hW : W ≤ 62) (hR : Bt.InR W (l ++ m)) :
    Calls Try.prog 8 #[.slice A n c, .slice B n' c', .int .i64 W] w fun e w' => e = .returned (.bool true) ∧ Below w.heap.size w w' := by
  obtain ⟨i0, hi, hz0, hz1, hz2⟩ := info_parts info_int
  obtain ⟨hR1, hR2⟩ := inR_parts hR
  have hcap := hS.cap
  have hcap' := hT.cap
  have hl := hS.len
  have hl' := hT.len
  have hl4 : l.length ≤ 4096 := by omega
  have hl5 : (l ++ m).length ≤ 4096 := by simp; omega
  have c1 := fun w hS => pack_any A n c W l w hS
  rw [packE_ok hW hl4 hR1] at c1
  have c2 := fun D k e w hS => pack_any D k e W (l ++ m) w hS
  rw [packE_ok hW hl5 hR] at c2
  have hb1 : (packL l W).length ≤ 1000000 := by
    rw [packL_len hW hl4 hR1]
    have := Nat.mul_le_mul hl4 hW
    omega
  have hb2 : (packL (l ++ m) W).length ≤ 1000000 := by
    rw [packL_len hW hl5 hR]
    have := Nat.mul_le_mul hl5 hW
    omega
  have hb3 : (packL l W).length ≤ (packL (l ++ m) W).length := by
    rw [packL_len hW hl4 hR1, packL_len hW hl5 hR]
    have := Nat.mul_le_mul_right W (show l.length ≤ (l ++ m).length by simp)
    omega
  have c3 := fun (i : Nat) (hi : i < l.length) D k e w hS hm => (by
    have := at_any D k e (i : Int) W (packL l W) w hS (packL_byt l W) hm (by omega) (by omega)
    rw [at_pack hW hl4 hR1 i hi] at this
    exact this : Calls Try.prog 18 #[.slice D k e, .int .i64 i, .int .i64 W] w fun e w' => e = .returned (.int .i64 (l.getD i 0)) ∧ Below w.heap.size w w')
  have c4 := fun (i : Nat) (hi : i < l.length) D k e w hS hm => (by
    have := at_any D k e (i : Int) W (packL (l ++ m) W) w hS (packL_byt _ W) hm (by omega) (by omega)
    rw [at_pack hW hl5 hR i (by simp; omega), getD_left l m i hi] at this
    exact this : Calls Try.prog 18 #[.slice D k e, .int .i64 i, .int .i64 W] w fun e w' => e = .returned (.int .i64 (l.getD i 0)) ∧ Below w.heap.size w w')
  have c5 := fun (i : Nat) (hi : i < m.length) D k e w hS hm => (by
    have := at_any D k e ((l.length + i : Nat) : Int) W (packL (l ++ m) W) w hS (packL_byt _ W) hm (by omega) (by omega)
    rw [at_pack hW hl5 hR (l.length + i) (by simp; omega), getD_right l m i, ← hl, show ((n + i : Nat) : Int) = (n : Int) + (i : Int) by simp] at this
    exact this : Calls Try.prog 18 #[.slice D k e, .int .i64 ((n : Int) + (i : Int)), .int .i64 W] w fun e w' => e = .returned (.int .i64 (m.getD i 0)) ∧ Below w.heap.size w w')
  generalize packL l W = xs at *
  generalize packL (l ++ m) W = bs at *
  have Hl := Lib.hid hl
  have Hl' := Lib.hid hl'
  have C1 := Lib.hid c1
  have C2 := Lib.hid c2
  have C3 := Lib.hid c3
  have C4 := Lib.hid c4
  have C5 := Lib.hid c5
  have hll : l.length ≤ 300 := by omega
  have hll' : m.length ≤ 300 := by omega
  clear c1 c2 c3 c4 c5 hl hl' hR hR1 hR2 hl4 hl5
  go_enter Try.func8, Try.ntmps8
  go_wp2_with fail
  refine (awake_any w).mono ?_
  rintro e w1 ⟨rfl, hB⟩
  have hS1 := hS.below hB
  have hT1 := hT.below hB
  clear hS hT
  go_wp2_with fail
  refine (C1.out w1 hS1).mono ?_
  rintro e w2 ⟨A2, n2, k2, rfl, hS2, hB2⟩
  have hn2 : n2 ≤ 1000000 := by rw [hS2.len]; exact hb1
  have hW2 : Below w.heap.size w w2 := hB.trans (hB2.mono hB.size)
  have hS12 := hS1.below hB2
  have hT12 := hT1.below hB2
  have Hn2 := Lib.hid hS2.len
  clear hB hS1 hT1 hB2 C1
  go_wp2_with (first | (at_builtin; refine Wd.wpList_app _ rfl (.const (.slice none 0 0)) (.tmp 35) 22 rfl w2.heap.size 3 i0 _ .i64 8 Try.underlying22 hi hz0 hz1 hz2 rfl (.slice none 0 0) [] rfl (World.ownsRow_nil _ _ _ _) w2.heap.size A n c l rfl Hl.out hS12.nil hS12.rd (by simp; omega) (by simp [maxLen]; omega) (Nat.le_refl _) ?_; intro v5 w5 hown5 hg5; have hb5 := (Below.refl w2.heap.size w2).grown hg5 (Nat.le_refl _) (by simp [Value.ownBlock]); have hz5 := hb5.size; have hT15 := hT12.below hb5) | (at_builtin; refine Wd.wpList_app _ rfl (.tmp 36) (.tmp 37) 22 rfl w2.heap.size 3 i0 _ .i64 8 Try.underlying22 hi hz0 hz1 hz2 rfl v5 ([] ++ l) rfl hown5 w5.heap.size B n' c' m rfl Hl'.out hT15.nil hT15.rd (by simp; omega) (by simp [maxLen]; omega) hz5 ?_; intro v6 w6 hown6 hg6; obtain ⟨A6, m6, k6, rfl, hS6⟩ := Wd.Sl.of_own hown6))
  have hb6 : Below w2.heap.size w2 w6 := hb5.grown hg6 hz5 (fun g hg => (hown5.lt g hg).1)
  have hW6 : Below w.heap.size w w6 := hW2.trans (hb6.mono hW2.size)
  have hS16 := hS12.below hb6
  have hT16 := hT12.below hb6
  have hS26 := hS2.below hb6
  rw [List.nil_append] at hS6
  clear hown5 hown6 hg5 hg6 hb5 hb6 hS12 hT12 hT15 hS2 hW2 hz5
  refine (C2.out A6 m6 k6 w6 hS6).mono ?_
  rintro e w7 ⟨A7, n7, k7, rfl, hS7, hB7⟩
  have hn7 : n7 ≤ 1000000 := by rw [hS7.len]; exact hb2
  have hn27 : n2 ≤ n7 := by rw [Hn2.out, hS7.len]; exact hb3
  have hW7 : Below w.heap.size w w7 := hW6.trans (hB7.mono hW6.size)
  have hS17 := hS16.below hB7
  have hT17 := hT16.below hB7
  have hS27 := hS26.below hB7
  clear hS6 hS16 hT16 hS26 hB7 hW6 C2
  go_wp2_with fail
  go_loopw [12] (fun i wr => ∃ k : Nat, i = .int .i64 k ∧ k ≤ n ∧ Wd.Sl wr .u8 A2 n2 k2 xs ∧ Wd.Sl wr .u8 A7 n7 k7 bs ∧ Wd.Sl wr .i64 A n c l ∧ Wd.Sl wr .i64 B n' c' m ∧ Below w.heap.size w wr) (fun i _ => n - (intOf i).toNat)
  case atStart => exact ⟨0, rfl, Nat.zero_le _, hS27, hS7, hS17, hT17, hW7⟩
  case round =>
    clear hS27 hS7 hS17 hT17 hW7
    obtain ⟨k, rfl, hk, hSa, hSb, hSl, hSm, hWr⟩ := hrel
    obtain ⟨wo, rfl⟩ : ∃ wo : World, wo = wr := ⟨_, rfl⟩
    by_cases hlt : k < n
    · have hkl : k < l.length := by rw [← Hl.out]; exact hlt
      obtain ⟨b, o, rfl, hbB, hcell⟩ := hSl.rd k hkl
      have ha := C3.out k hkl A2 n2 k2
      have hb := C4.out k hkl A7 n7 k7
      obtain ⟨x, hx⟩ : ∃ x, x = l.getD k 0 := ⟨_, rfl⟩
      rw [← hx] at ha hb hcell
      have Ha := Lib.hid ha
      have Hb := Lib.hid hb
      clear hx ha hb hkl
      have i1 : (k : Int) < (n : Int) := by omega
      have hxx : (x != x) = false := by simp
      have i2 : (0 : Int) ≤ (k : Int) := by omega
      have tok1 : True := trivial
      go_upto_region 11 with fail
      go_cut [80] (fun s wx => s = .bool false ∧ Wd.Sl wx .u8 A2 n2 k2 xs ∧ Wd.Sl wx .u8 A7 n7 k7 bs ∧ Wd.Sl wx .i64 (some ⟨b, o, none⟩) n c l ∧ Wd.Sl wx .i64 B n' c' m ∧ Below w.heap.size w wx)
      case first =>
        go_region_held3 (fun w' => w'.cell? ⟨b, o + k, none⟩ = some (.int .i64 x)) (first | exact hcell6 | exact hcell5 | go_keep) (first | (go_at_call 18; have _t := tok1; (with_reducible refine (Ha.out _ (hSa.below ((Below.refl _ _).drew)) hn2).mono ?_); clear tok1; rintro e w5 ⟨rfl, hB5⟩; have hB5' : Below wo.heap.size wo w5 := Wd.of_drew hB5; have hcell5 := (hB5'.cell (p := ⟨b, o + k, none⟩) hbB).trans hcell; have hz5 := hB5'.size) | (go_at_call 18; (with_reducible refine (Hb.out _ (hSb.below hB5') hn7).mono ?_); rintro e w6 ⟨rfl, hB6⟩; have hB6' : Below wo.heap.size wo w6 := hB5'.trans (hB6.mono hz5); have hcell6 := (hB6'.cell (p := ⟨b, o + k, none⟩) hbB).trans hcell))
        all_goals (go_wp2_with fail; go_meet; exact ⟨by simp, hSa.below hB6', hSb.below hB6', hSl.below hB6', hSm.below hB6', hWr.trans (hB6'.mono hWr.size)⟩)
      case rest =>
        obtain ⟨rfl, hSa', hSb', hSl', hSm', hW5⟩ := hcut
        clear hSa hSb hSl hSm hWr hcell
        go_wp2_with fail
        go_roundw
        case rel => exact ⟨k + 1, by go_num, by omega, hSa', hSb', hSl', hSm', hW5⟩
        case measure => simp [intOf]; omega
    · clear C3 C4 hSa hSl
      go_wp2_with fail
      go_loopw [13] (fun i wr => ∃ k : Nat, i = .int .i64 k ∧ k ≤ n' ∧ Wd.Sl wr .u8 A7 n7 k7 bs ∧ Wd.Sl wr .i64 B n' c' m ∧ Below w.heap.size w wr) (fun i _ => n' - (intOf i).toNat)
      case atStart => exact ⟨0, rfl, Nat.zero_le _, hSb, hSm, hWr⟩
      case round =>
        clear hSb hSm hWr
        obtain ⟨j, rfl, hj, hSb, hSm, hWr⟩ := hrel
        obtain ⟨wp, rfl⟩ : ∃ wp : World, wp = wr := ⟨_, rfl⟩
        by_cases hjlt : j < n'
        · have hjl : j < m.length := by rw [← Hl'.out]; exact hjlt
          obtain ⟨b, o, rfl, hbB, hcell⟩ := hSm.rd j hjl
          have hb := C5.out j hjl A7 n7 k7
          obtain ⟨x, hx⟩ : ∃ x, x = m.getD j 0 := ⟨_, rfl⟩
          rw [← hx] at hb hcell
          have Hb := Lib.hid hb
          clear hx hb hjl
          have i1 : (j : Int) < (n' : Int) := by omega
          have i2 : (0 : Int) ≤ (j : Int) := by omega
          have i3 : IntKind.i64.wrap ((n : Int) + (j : Int)) = (n : Int) + (j : Int) := IntWalk.i64_in _ (by omega)
          go_upto_region 16 with fail
          go_cut [98] (fun s wx => s = .bool false ∧ Wd.Sl wx .u8 A7 n7 k7 bs ∧ Wd.Sl wx .i64 (some ⟨b, o, none⟩) n' c' m ∧ Below w.heap.size w wx)
          case first =>
            go_region_held3 (fun w' => w'.cell? ⟨b, o + j, none⟩ = some (.int .i64 x)) (first | exact hcell5 | go_keep) (first | (go_at_call 18; (with_reducible refine (Hb.out _ (hSb.below ((Below.refl _ _).drew)) hn7).mono ?_); rintro e w5 ⟨rfl, hB5⟩; have hB5' : Below wp.heap.size wp w5 := Wd.of_drew hB5; have hcell5 := (hB5'.cell (p := ⟨b, o + j, none⟩) hbB).trans hcell))
            all_goals (go_wp2_with fail; go_meet; exact ⟨by simp, hSb.below hB5', hSm.below hB5', hWr.trans (hB5'.mono hWr.size)⟩)
          case rest =>
            clear i3
            obtain ⟨rfl, hSb', hSm', hW5⟩ := hcut
            clear hSb hSm hWr hcell
            go_wp2_with fail
            go_roundw
            case rel => exact ⟨j + 1, by go_num, by omega, hSb', hSm', hW5⟩
            case measure => simp [intOf]; omega
        · go_wp2_with fail
          go_ret
          exact ⟨rfl, hWr⟩

set_option maxRecDepth 100000 in
set_option maxHeartbeats 2000000 in
theorem bitsMore_err (A : Option Addr) (n c : Nat) (l : List Int) (B : Option Addr) (n' c' : Nat) (m : List Int) (wd : Int) (w : World) (hS : Wd.Sl w .i64 A n c l) (hT : Wd.Sl w .i64 B n' c' m) (hn : n ≤ 300) (hn' : n' ≤ 300) (hE : packE (l ++ m) wd ≠ 0) :
    Calls Try.prog 8 #[.slice A n c, .slice B n' c', .int .i64 wd] w fun e w' => e = .returned (.bool true) ∧ Below w.heap.size w w' := by
  obtain ⟨i0, hi, hz0, hz1, hz2⟩ := info_parts info_int
  have hcap := hS.cap
  have hcap' := hT.cap
  have hl := hS.len
  have hl' := hT.len
  have c1 := fun w hS => pack_any A n c wd l w hS
  have c2 := fun D k e w hS => pack_any D k e wd (l ++ m) w hS
  have hne : (packE (l ++ m) wd != 0) = true := by rw [bne_iff_ne]; exact hE
  have hd := Classical.em (packE l wd = 0)
  generalize packL l wd = xs at *
  generalize packL (l ++ m) wd = bs at *
  generalize packE l wd = ea at *
  generalize packE (l ++ m) wd = eb at *
  have Hl := Lib.hid hl
  have Hl' := Lib.hid hl'
  have C1 := Lib.hid c1
  have C2 := Lib.hid c2
  have hll : l.length ≤ 300 := by omega
  have hll' : m.length ≤ 300 := by omega
  clear c1 c2 hl hl' hE
  rcases hd with hd | hd
  · subst hd
    go_enter Try.func8, Try.ntmps8
    go_wp2_with fail
    refine (awake_any w).mono ?_
    rintro e w1 ⟨rfl, hB⟩
    have hS1 := hS.below hB
    have hT1 := hT.below hB
    clear hS hT
    go_wp2_with fail
    refine (C1.out w1 hS1).mono ?_
    rintro e w2 ⟨A2, n2, k2, rfl, hS2, hB2⟩
    have hW2 : Below w.heap.size w w2 := hB.trans (hB2.mono hB.size)
    have hS12 := hS1.below hB2
    have hT12 := hT1.below hB2
    clear hB hS1 hT1 hB2 C1 hS2
    go_wp2_with (first | (at_builtin; refine Wd.wpList_app _ rfl (.const (.slice none 0 0)) (.tmp 35) 22 rfl w2.heap.size 3 i0 _ .i64 8 Try.underlying22 hi hz0 hz1 hz2 rfl (.slice none 0 0) [] rfl (World.ownsRow_nil _ _ _ _) w2.heap.size A n c l rfl Hl.out hS12.nil hS12.rd (by simp; omega) (by simp [maxLen]; omega) (Nat.le_refl _) ?_; intro v5 w5 hown5 hg5; have hb5 := (Below.refl w2.heap.size w2).grown hg5 (Nat.le_refl _) (by simp [Value.ownBlock]); have hz5 := hb5.size; have hT15 := hT12.below hb5) | (at_builtin; refine Wd.wpList_app _ rfl (.tmp 36) (.tmp 37) 22 rfl w2.heap.size 3 i0 _ .i64 8 Try.underlying22 hi hz0 hz1 hz2 rfl v5 ([] ++ l) rfl hown5 w5.heap.size B n' c' m rfl Hl'.out hT15.nil hT15.rd (by simp; omega) (by simp [maxLen]; omega) hz5 ?_; intro v6 w6 hown6 hg6; obtain ⟨A6, m6, k6, rfl, hS6⟩ := Wd.Sl.of_own hown6))
    have hb6 : Below w2.heap.size w2 w6 := hb5.grown hg6 hz5 (fun g hg => (hown5.lt g hg).1)
    have hW6 : Below w.heap.size w w6 := hW2.trans (hb6.mono hW2.size)
    rw [List.nil_append] at hS6
    clear hown5 hown6 hg5 hg6 hb5 hb6 hS12 hT12 hT15 hW2 hz5
    refine (C2.out A6 m6 k6 w6 hS6).mono ?_
    rintro e w7 ⟨A7, n7, k7, rfl, hS7, hB7⟩
    have hW7 : Below w.heap.size w w7 := hW6.trans (hB7.mono hW6.size)
    clear hS6 hB7 hW6 C2 hS7
    go_wp2_with fail
    go_ret
    exact ⟨rfl, hW7⟩
  · have hne1 : (ea != 0) = true := by rw [bne_iff_ne]; exact hd
    have hne2 : (ea == 0) = false := by simpa using hd
    clear hd
    go_enter Try.func8, Try.ntmps8
    go_wp2_with fail
    refine (awake_any w).mono ?_
    rintro e w1 ⟨rfl, hB⟩
    have hS1 := hS.below hB
    have hT1 := hT.below hB
    clear hS hT
    go_wp2_with fail
    refine (C1.out w1 hS1).mono ?_
    rintro e w2 ⟨A2, n2, k2, rfl, hS2, hB2⟩
    have hW2 : Below w.heap.size w w2 := hB.trans (hB2.mono hB.size)
    have hS12 := hS1.below hB2
    have hT12 := hT1.below hB2
    clear hB hS1 hT1 hB2 C1 hS2
    go_wp2_with (first | (at_builtin; refine Wd.wpList_app _ rfl (.const (.slice none 0 0)) (.tmp 35) 22 rfl w2.heap.size 3 i0 _ .i64 8 Try.underlying22 hi hz0 hz1 hz2 rfl (.slice none 0 0) [] rfl (World.ownsRow_nil _ _ _ _) w2.heap.size A n c l rfl Hl.out hS12.nil hS12.rd (by simp; omega) (by simp [maxLen]; omega) (Nat.le_refl _) ?_; intro v5 w5 hown5 hg5; have hb5 := (Below.refl w2.heap.size w2).grown hg5 (Nat.le_refl _) (by simp [Value.ownBlock]); have hz5 := hb5.size; have hT15 := hT12.below hb5) | (at_builtin; refine Wd.wpList_app _ rfl (.tmp 36) (.tmp 37) 22 rfl w2.heap.size 3 i0 _ .i64 8 Try.underlying22 hi hz0 hz1 hz2 rfl v5 ([] ++ l) rfl hown5 w5.heap.size B n' c' m rfl Hl'.out hT15.nil hT15.rd (by simp; omega) (by simp [maxLen]; omega) hz5 ?_; intro v6 w6 hown6 hg6; obtain ⟨A6, m6, k6, rfl, hS6⟩ := Wd.Sl.of_own hown6))
    have hb6 : Below w2.heap.size w2 w6 := hb5.grown hg6 hz5 (fun g hg => (hown5.lt g hg).1)
    have hW6 : Below w.heap.size w w6 := hW2.trans (hb6.mono hW2.size)
    rw [List.nil_append] at hS6
    clear hown5 hown6 hg5 hg6 hb5 hb6 hS12 hT12 hT15 hW2 hz5
    refine (C2.out A6 m6 k6 w6 hS6).mono ?_
    rintro e w7 ⟨A7, n7, k7, rfl, hS7, hB7⟩
    have hW7 : Below w.heap.size w w7 := hW6.trans (hB7.mono hW6.size)
    clear hS6 hB7 hW6 C2 hS7
    go_wp2_with fail
    go_ret
    exact ⟨rfl, hW7⟩

set_option maxRecDepth 100000 in
set_option maxHeartbeats 1000000 in
theorem bitsMore_walk (A : Option Addr) (n c : Nat) (l : List Int) (B : Option Addr) (n' c' : Nat) (m : List Int) (wd : Int) (w : World) (hS : Wd.Sl w .i64 A n c l) (_hF : Wd.Fits .i64 l) (hT : Wd.Sl w .i64 B n' c' m) (_hG : Wd.Fits .i64 m) (_w1 : -9223372036854775808 ≤ wd) (_w2 : wd ≤ 9223372036854775807) :
    Calls Try.prog 8 #[.slice A n c, .slice B n' c', .int .i64 wd] w fun e w' => e = .returned (.bool true) ∧ Below w.heap.size w w' := by
  have hcap := hS.cap
  have hmax := hS.max
  have hcap' := hT.cap
  have hmax' := hT.max
  unfold maxLen at hmax hmax'
  rcases (show 300 < n ∨ (n ≤ 300 ∧ 300 < n') ∨ (n ≤ 300 ∧ n' ≤ 300) by omega) with h | ⟨h, h2⟩ | ⟨h, h2⟩
  · go_enter Try.func8, Try.ntmps8
    go_wp2_with fail
    refine (awake_any w).mono ?_
    rintro e w1 ⟨rfl, hB⟩
    go_wp2_with fail
    go_ret
    exact ⟨rfl, hB⟩
  · go_enter Try.func8, Try.ntmps8
    go_wp2_with fail
    refine (awake_any w).mono ?_
    rintro e w1 ⟨rfl, hB⟩
    go_wp2_with fail
    go_ret
    exact ⟨rfl, hB⟩
  · by_cases hE : packE (l ++ m) wd = 0
    · obtain ⟨W, rfl, hW, _, hR⟩ := packE_inv hE
      exact bitsMore_ok A n c l B n' c' m W w hS hT h h2 hW hR
    · exact bitsMore_err A n c l B n' c' m wd w hS hT h h2 hE
end Lw
end Go.Proofs.Ytadhppfplndhoaa
