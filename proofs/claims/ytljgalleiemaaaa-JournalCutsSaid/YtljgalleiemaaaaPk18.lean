/- Package journal: File of entries that may be; the frames of payloads. The law's own framed: an entry's frame, as it stands in a file. What the functions of package num that read do: getVarint, GetLen. They leave memory as it is. Reading what was written as a number, whatever stands behind; bytes. -/
import Derived.WalkKit
import Derived.WalkSpells
import Derived.Lib.Hide
import Derived.Test.YtljgalleiemaaaaPk16
import Derived.Test.YtljgalleiemaaaaPk17
import Derived.Test.YtljgalleiemaaaaPk03
import Derived.Test.YtljgalleiemaaaaProg
import Derived.Test.YtljgalleiemaaaaPk01
import Derived.Test.YtljgalleiemaaaaPk02
import Derived.Test.YtljgalleiemaaaaPk14
namespace Go.Proofs.Ytljgalleiemaaaa
set_option maxRecDepth 20000
open Go.RowKit
namespace Jr
open Jo (En May Wf Rg pays head put)
open Wd (Bx Sl Es Ss)
open Nc
theorem info_u8 : (Try.prog.info? 5).map (fun i => (i.zero, i.size, i.bytes)) = some (some (.int .u8 0), 1, 1) := by kernel_rfl
theorem mayNumber_any (no : Int) (w : World) : Calls Try.prog 22 #[.int .i64 no] w fun e w' => e = .returned (.bool (wn no 1 1073741824)) ∧ w = w' := by
  go_enter Try.func22, Try.ntmps22
  go_wp2_with (with_reducible refine (within_any _ _ _ _).mono ?_; rintro e w' ⟨rfl, rfl⟩)
  go_ret
  exact ⟨rfl, rfl⟩
theorem cat_take_len {ys : List (List Int)} (h : ∀ y ∈ ys, y.length ≤ 100) (k : Nat) (hk : k ≤ 5000) : (Fr.cat (ys.take k)).length ≤ 570000 := by
  have h1 := Fr.cat_len (l := ys.take k) (n := 100) fun p hp => h p (List.mem_of_mem_take hp)
  rw [List.length_take] at h1
  have h2 : min k ys.length * (100 + 14) ≤ 5000 * 114 := Nat.mul_le_mul (by omega) (by omega)
  omega
set_option maxHeartbeats 8000000 in
theorem framed_any (A : Option Addr) (n c : Nat) (ys : List (List Int)) (w : World) (hS : Ss w A n c ys) (hn : n ≤ 5000) (hy : ∀ y ∈ ys, y.length ≤ 100) (hb : ∀ y ∈ ys, Nm.Byt y) :
    Calls Try.prog 25 #[.slice A n c] w (Wd.Out2 w .u8 (Fr.cat ys) 0) := by
  obtain ⟨i0, hi, hz0, hz1, hz2⟩ := info_parts info_u8
  have HN := Lib.hid hS.len
  have HS := Lib.hid hS
  have HY := Lib.hid hy
  have HB := Lib.hid hb
  have hcap := hS.cap
  have IN := Lib.hid (And.intro hi (And.intro hz0 (And.intro hz1 hz2)))
  clear hS hy hb hi hz0 hz1 hz2
  go_enter Try.func25, Try.ntmps25
  go_wp2_with fail
  go_loopw [4, 6, 7, 8, 11] (fun v _ _ _ i wr => ∃ k : Nat, i = .int .i64 k ∧ k ≤ n ∧ Hid (wr.ownsRow w.heap.size 5 1 v (Fr.cat (ys.take k)).length ((Fr.cat (ys.take k)).map (Value.int .u8)) ∧ Below w.heap.size w wr)) (fun _ _ _ _ i _ => n - (intOf i).toNat)
  case atStart => exact ⟨0, rfl, Nat.zero_le _, Lib.hid ⟨World.ownsRow_nil _ _ _ _, Below.refl _ _⟩⟩
  case round =>
    obtain ⟨k, rfl, hk, hI⟩ := hrel
    by_cases hlt : k < n
    · have hkI : (k : Int) < (n : Int) := by omega
      have hkl : k < ys.length := by rw [← HN.out]; exact hlt
      obtain ⟨pb, po, A1, n1, c1, hA, hpl, hpc, hps⟩ := (HS.out.below hI.out.2).at_ k hkl
      obtain ⟨y, hy⟩ : ∃ y, y = ys.getD k [] := ⟨_, rfl⟩
      have hym : y ∈ ys := by rw [hy, List.getD_eq_getElem?_getD, List.getElem?_eq_getElem hkl]; exact List.getElem_mem _
      have ht := Fr.cat_take ys k hkl
      rw [← hy] at hps ht
      have hyl := HY.out y hym
      have Cs := Lib.hid (Fc.Seal_any A1 n1 c1 y wr hps (HB.out y hym) (by rw [hps.len]; omega))
      have hl1 := cat_take_len HY.out k (by omega)
      have hl2 := cat_take_len HY.out (k + 1) (by omega)
      rw [ht, List.length_append] at hl2
      have HT := Lib.hid ht
      subst hA
      clear hkl hps hy hym ht
      go_wp2_with fail
      refine Cs.out.mono ?_
      rintro e w4 ⟨A4, n4, c4, rfl, hS4, hB4⟩
      have hb4 := hI.out.2.trans (hB4.mono hI.out.2.size)
      have ow4 := Wd.own_below hI.out.1 hB4
      have hz4 := hb4.size
      have HB4 := Lib.hid hb4
      have HOW := Lib.hid ow4
      obtain ⟨hi, hz0, hz1, hz2⟩ := IN.out
      have HS4 := Lib.hid hS4
      clear hb4 hB4 hpc hS4
      go_wp2_with (at_builtin; refine Wd.wpList_app _ rfl (.tmp 23) (.tmp 24) 39 rfl w.heap.size 5 i0 _ .u8 1 Try.underlying39 hi hz0 hz1 hz2 rfl u4 (Fr.cat (ys.take k)) rfl ow4 w4.heap.size A4 n4 c4 (Fr.frame y) rfl HS4.out.len HS4.out.nil HS4.out.rd (by omega) (by unfold maxLen; omega) hz4 ?_; intro v6 w6 hO6 hg6; have H6 := Lib.hid (And.intro hO6 (HB4.out.grown hg6 hz4 fun g hg => (HOW.out.lt g hg).1)); clear hO6 hg6 ow4 hi hz0 hz1 hz2)
      go_roundw
      case rel => exact ⟨k + 1, by go_num, by omega, by rw [HT.out]; exact H6⟩
      case measure => simp [intOf]; omega
    · have hkI : ¬ (k : Int) < (n : Int) := by omega
      obtain rfl : k = n := by omega
      have ho := hI.out.1
      rw [HN.out, List.take_length] at ho
      obtain ⟨A5, n5, c5, rfl, hS5⟩ := Sl.of_own ho
      have HS5 := Lib.hid hS5
      clear ho hS5
      go_wp2_with fail
      go_ret2
      exact ⟨A5, n5, c5, rfl, HS5.out, hI.out.2⟩
/-- What is held while the payloads are collected. -/
structure FI (w0 wr : World) (no : Int) (l : List En) (k : Nat) (A : Option Addr) (c : Nat) (us : List Value) : Prop where
  len : us.length = 1 + k
  own : Wd.OwB wr w0.heap.size (.slice A (1 + k) c) us
  gs : Wd.Gs wr us ((pays no l).take (1 + k))
  bel : Below w0.heap.size w0 wr
theorem pays_take {no : Int} {l : List En} {k : Nat} (h : k < l.length) : (pays no l).take (1 + (k + 1)) = (pays no l).take (1 + k) ++ [put (l.getD k default)] := by
  unfold pays
  rw [show 1 + (k + 1) = (k + 1) + 1 by omega, show 1 + k = k + 1 by omega, List.take_succ_cons, List.take_succ_cons, List.cons_append, ← List.map_take, ← List.map_take, List.take_succ_eq_append_getElem h, List.map_append, List.getD_eq_getElem?_getD, List.getElem?_eq_getElem h]
  rfl
theorem pays_len (no : Int) (l : List En) : (pays no l).length = 1 + l.length := by simp [pays]; omega
set_option maxHeartbeats 8000000 in
theorem file_ok (no : Int) (A : Option Addr) (n c : Nat) (l : List En) (w : World) (hE : Es w A n c l) (h1 : 1 ≤ no) (h2 : no ≤ 1073741824) (hn : n ≤ 4096) (hm : ∀ x ∈ l, May x) :
    Calls Try.prog 13 #[.int .i64 no, .slice A n c] w (Wd.Out2 w .u8 (Fr.cat (pays no l)) 0) := by
  have wy := wn_yes (n := no) (a := 1) (b := 1073741824) ⟨h1, h2⟩
  have C1 := putLen_any none 0 0 [] no w (Sl.none_ _ _) (by omega) (by omega) (by omega)
  rw [if_neg (by omega), List.nil_append] at C1
  have C1 := Lib.hid C1
  have HN := Lib.hid hE.len
  have HE := Lib.hid hE
  have HM := Lib.hid hm
  have hcap := hE.cap
  have HF := Lib.hid (Jo.pays_fine (no := no) (l := l) (by omega) (by omega) (by rw [← hE.len]; exact hn) hm)
  have hv1 := (Nm.vd_len no).2
  have hv2 := (Nm.vd_len (n : Int)).2
  clear hE hm
  go_enter Try.func13, Try.ntmps13
  go_wp2_with (with_reducible refine (mayNumber_any _ _).mono ?_; rintro e w' ⟨rfl, rfl⟩)
  refine C1.out.mono ?_
  rintro e w2 ⟨A2, n2, c2, rfl, hS2, hB2⟩
  have C2 := putLen_any A2 n2 c2 (Nm.vd no) (n : Int) w2 hS2 (by have := hS2.len; omega) (by omega) (by omega)
  rw [if_neg (by omega)] at C2
  have C2 := Lib.hid C2
  have HB2 := Lib.hid hB2
  clear hS2 hB2
  go_wp2_with fail
  refine C2.out.mono ?_
  rintro e w3 ⟨A3, n3, c3, rfl, hS3, hB3⟩
  have hb3 := HB2.out.trans (hB3.mono HB2.out.size)
  have al := (Below.refl w3.heap.size w3).alloc (Nat.le_refl _) (.cells #[.slice A3 n3 c3] 39)
  have o4 := Wd.OwB.lit w3 w.heap.size [.slice A3 n3 c3] hb3.size (by simp [maxLen])
  obtain ⟨w4, hw4⟩ : ∃ w4, w4 = w3.alloc (.cells #[.slice A3 n3 c3] 39) := ⟨_, rfl⟩
  have o4 : Wd.OwB w4 w.heap.size (.slice (some ⟨w3.heap.size, 0, none⟩) (1 + 0) 1) [.slice A3 n3 c3] := by rw [hw4]; exact o4
  rw [← hw4] at al
  have g4 : Wd.Gs w4 [.slice A3 n3 c3] ((pays no l).take (1 + 0)) := by
    have := Wd.Gs.one_ (hS3.below al)
    have e : (pays no l).take (1 + 0) = [Nm.vd no ++ Nm.vd (n : Int)] := by
      unfold pays head
      rw [← HN.out]
      rfl
    rw [e]
    exact this
  have I4 : Hid (FI w w4 no l 0 (some ⟨w3.heap.size, 0, none⟩) 1 [.slice A3 n3 c3]) := Lib.hid ⟨rfl, o4, g4, hb3.trans (al.mono hb3.size)⟩
  have Hw4 := Lib.hid hw4
  clear hb3 al o4 g4 hw4 hS3 hB3 wy h1 h2 hv1 hv2
  go_upto_region 4 with fail
  rw [← Hw4.out]
  go_wp2_with fail
  go_loopw [6, 8, 9, 10, 27] (fun v _ _ _ i wr => ∃ k : Nat, i = .int .i64 k ∧ k ≤ n ∧ ∃ A' c' us, v = .slice A' (1 + k) c' ∧ Hid (FI w wr no l k A' c' us)) (fun _ _ _ _ i _ => n - (intOf i).toNat)
  case atStart => exact ⟨0, rfl, Nat.zero_le _, _, _, _, rfl, I4⟩
  case round =>
    obtain ⟨k, rfl, hk, A', c', us, rfl, hI⟩ := hrel
    by_cases hlt : k < n
    · have hkI : (k : Int) < (n : Int) := by omega
      have hkl : k < l.length := by rw [← HN.out]; exact hlt
      obtain ⟨x, hx⟩ : ∃ x, x = l.getD k default := ⟨_, rfl⟩
      obtain ⟨lb, lf, hA, hlb, u0, u1, u2, u3, u4, u5, u6, -⟩ := (HE.out.below hI.out.bel).cells hkl hx
      have hxm : x ∈ l := by rw [hx]; exact Wd.getD_mem hkl
      have al := alS hI.out.bel (.cells #[.int .i64 x.kind, .int .i64 x.part, .int .i64 x.id, .int .i64 x.st, .int .i64 x.en, .int .i64 x.size, .int .i64 x.sum] 32)
      have al1 := (Below.refl wr.heap.size wr).alloc (Nat.le_refl _) (.cells #[.int .i64 x.kind, .int .i64 x.part, .int .i64 x.id, .int .i64 x.st, .int .i64 x.en, .int .i64 x.size, .int .i64 x.sum] 32)
      have Cp := Lib.hid (put_ok x (wr.alloc (.cells #[.int .i64 x.kind, .int .i64 x.part, .int .i64 x.id, .int .i64 x.st, .int .i64 x.en, .int .i64 x.size, .int .i64 x.sum] 32)) (HM.out x hxm))
      have pt := pays_take (no := no) hkl
      rw [← hx] at pt
      have PT := Lib.hid pt
      have AL := Lib.hid al
      have AL1 := Lib.hid al1
      obtain ⟨y0, y1, y2, y3, y4, y5, y6⟩ := seven (Bx.new wr 32 #[.int .i64 x.kind, .int .i64 x.part, .int .i64 x.id, .int .i64 x.st, .int .i64 x.en, .int .i64 x.size, .int .i64 x.sum])
      subst hA
      clear hkl hx hxm al al1 pt hlb
      go_wp2_with fail
      refine Cp.out.mono ?_
      rintro e w5 ⟨A5, n5, c5, rfl, hS5, hB5⟩
      have hb5 := AL.out.trans (hB5.mono AL.out.size)
      have hb15 := AL1.out.trans (hB5.mono AL1.out.size)
      have al6 := (Below.refl w5.heap.size w5).alloc (Nat.le_refl _) (.cells #[.slice A5 n5 c5] 39)
      have hb6 := hb5.trans (al6.mono hb5.size)
      have hb16 := hb15.trans (al6.mono hb15.size)
      have own6 := hI.out.own.below hb16
      have hnew := (Bx.new w5 39 #[.slice A5 n5 c5]).cell 0
      have H6 := Lib.hid (And.intro (hI.out.gs.below hb16) (And.intro (Wd.Gs.one_ (hS5.below al6)) hb6))
      have hz6 := hb6.size
      have hul := hI.out.len
      have HUL := Lib.hid hul
      have hul2 : us.length ≤ 1000000 := by omega
      clear hb5 hb15 al6 hb6 hb16 hS5 hB5 u0 u1 u2 u3 u4 u5 u6 y0 y1 y2 y3 y4 y5 y6 hul
      go_wp2_with (at_builtin; refine Wd.wpList_appB _ rfl (.tmp 39) (.tmp 41) rfl w.heap.size (.slice A' (1 + k) c') us rfl own6 ⟨w5.heap.size, 0, none⟩ (.slice A5 n5 c5) rfl hnew rfl hul2 hz6 ?_; intro A7 c7 w7 hO7 hg7; have hO7' : Wd.OwB w7 w.heap.size (.slice A7 (1 + (k + 1)) c7) (us ++ [.slice A5 n5 c5]) := (by rw [show 1 + (k + 1) = us.length + 1 by have := HUL.out; omega]; exact hO7); rw [show us.length + 1 = 1 + (k + 1) by have := HUL.out; omega])
      have I7 : Hid (FI w w7 no l (k + 1) A7 c7 (us ++ [.slice A5 n5 c5])) := Lib.hid ⟨by rw [List.length_append, HUL.out]; simp; omega, hO7', by rw [PT.out]; exact (H6.out.1.app H6.out.2.1).grown own6 H6.out.1 hg7, H6.out.2.2.grown hg7 hz6 fun g hg => (own6.block hg).1⟩
      clear own6 hO7 hg7 hnew hO7' hz6 hul2
      go_roundw
      case rel => exact ⟨k + 1, by go_num, by omega, A7, c7, _, rfl, I7⟩
      case measure => simp [intOf]; omega
    · have hkI : ¬ (k : Int) < (n : Int) := by omega
      obtain rfl : k = n := by omega
      have gs := hI.out.gs
      rw [List.take_of_length_le (by rw [pays_len, HN.out]; omega)] at gs
      have ss := hI.out.own.ss gs
      have Cf := Lib.hid (framed_any A' (1 + k) c' (pays no l) wr ss (by omega) (fun y hy => by
        unfold pays at hy
        rcases List.mem_cons.1 hy with rfl | hy
        · unfold head
          have := (Nm.vd_len no).2
          have := (Nm.vd_len (l.length : Int)).2
          rw [List.length_append]
          omega
        · obtain ⟨x, hx, rfl⟩ := List.mem_map.1 hy
          have := Jo.put_len x
          omega) (fun y hy => (HF.out y hy).2))
      clear gs ss
      go_wp2_with fail
      refine Cf.out.mono ?_
      rintro e w5 ⟨A5, n5, c5, rfl, hS5, hB5⟩
      go_wp2_with fail
      go_ret2
      exact ⟨A5, n5, c5, rfl, hS5, hI.out.bel.trans (hB5.mono hI.out.bel.size)⟩
end Jr
end Go.Proofs.Ytljgalleiemaaaa
namespace Go.Proofs.Ytljgalleiemaaaa
set_option maxRecDepth 20000
open Go.RowKit
namespace Lw
open Jr
open Jo (En May Wf Rg pays head put)
open Wd (Bx Sl Es)
theorem none_cat : Fr.cat (pays 1 []) = Fr.frame (head 1 0) := by unfold pays; rw [List.map_nil, Fr.cat_cons, Fr.cat_nil, List.append_nil]; rfl
theorem one_cat (x : En) : Fr.cat (pays 1 [x]) = Fr.frame (head 1 1) ++ Fr.frame (put x) := by unfold pays; rw [List.map_cons, List.map_nil, Fr.cat_cons, Fr.cat_cons, Fr.cat_nil, List.append_nil]; rfl
theorem head_len0 : (Fr.frame (head 1 0)).length = 7 := by
  rw [Fr.frame_len, show (head 1 0).length = 2 from rfl]
  rfl
theorem head_len1 : (Fr.frame (head 1 1)).length = 7 := by
  rw [Fr.frame_len, show (head 1 1).length = 2 from rfl]
  rfl
set_option maxHeartbeats 4000000 in
theorem lframed_any (x : En) (w : World) (hx : May x) :
    Calls Try.prog 14 #[.agg #[.int .i64 x.kind, .int .i64 x.part, .int .i64 x.id, .int .i64 x.st, .int .i64 x.en, .int .i64 x.size, .int .i64 x.sum]] w (Wd.Out w .u8 (Fr.frame (put x))) := by
  have b1 := alS (alS (Below.refl w.heap.size w) (.cells #[.int .i64 x.kind, .int .i64 x.part, .int .i64 x.id, .int .i64 x.st, .int .i64 x.en, .int .i64 x.size, .int .i64 x.sum] 32)) (.cells #[.int .i64 x.kind, .int .i64 x.part, .int .i64 x.id, .int .i64 x.st, .int .i64 x.en, .int .i64 x.size, .int .i64 x.sum] 32)
  have z1 : (w.alloc (.cells #[.int .i64 x.kind, .int .i64 x.part, .int .i64 x.id, .int .i64 x.st, .int .i64 x.en, .int .i64 x.size, .int .i64 x.sum] 32)).heap.size = w.heap.size + 1 := by simp
  have sb := Bx.new (w.alloc (.cells #[.int .i64 x.kind, .int .i64 x.part, .int .i64 x.id, .int .i64 x.st, .int .i64 x.en, .int .i64 x.size, .int .i64 x.sum] 32)) 32 #[.int .i64 x.kind, .int .i64 x.part, .int .i64 x.id, .int .i64 x.st, .int .i64 x.en, .int .i64 x.size, .int .i64 x.sum]
  rw [z1] at sb
  have C1 := Lib.hid (file_ok 1 _ 1 1 [x] _ (Es.of_bx sb rfl rfl (by unfold maxLen; omega) (fun y hy => by rw [List.mem_singleton.1 hy]; exact hx.wf)) (by omega) (by omega) (by omega) (fun y hy => by rw [List.mem_singleton.1 hy]; exact hx))
  have C2 := Lib.hid (fun w' => file_ok 1 none 0 0 [] w' (Es.none_ _) (by omega) (by omega) (by omega) (fun y hy => by simp at hy))
  have B1 := Lib.hid b1
  clear b1 z1 sb hx
  go_enter Try.func14, Try.ntmps14
  go_wp2_with fail
  refine C1.out.mono ?_
  rintro e w2 ⟨A2, n2, c2, rfl, hS2, hB2⟩
  have B2 := Lib.hid (B1.out.trans (hB2.mono B1.out.size))
  have S2 := Lib.hid hS2
  clear hS2 hB2
  go_wp2_with fail
  refine (C2.out _).mono ?_
  rintro e w3 ⟨A3, n3, c3, rfl, hS3, hB3⟩
  have B3 := Lib.hid (B2.out.trans (hB3.mono B2.out.size))
  have hS4 := S2.out.below hB3
  have hn3 := hS3.len
  have hn2 := hS4.len
  rw [none_cat, head_len0] at hn3
  rw [one_cat, List.length_append, head_len1, Fr.frame_len] at hn2
  subst hn3
  have hc2 := hS4.cap
  have k1 : ¬ (n2 : Int) < 7 := by omega
  have k2 : (7 : Int) ≤ (n2 : Int) := by omega
  have k3 : 7 ≤ n2 := by omega
  have k4 : (7 : Int) ≤ (c2 : Int) := by omega
  have k5 : c2 ≠ 7 := by omega
  have hm2 := hS4.max
  unfold maxLen at hm2
  have hcut := hS4.cut 7 k3
  rw [if_neg k5, one_cat, List.drop_left' head_len1] at hcut
  have HC := Lib.hid hcut
  clear hn2 hS4 hS3 hB3 hcut
  go_wp2_with fail
  go_ret
  exact ⟨_, _, _, rfl, HC.out, B3.out⟩
end Lw
end Go.Proofs.Ytljgalleiemaaaa
namespace Go.Proofs.Ytljgalleiemaaaa
set_option maxRecDepth 20000
open Go.RowKit
namespace Nc

/-- Three numbers as Go's three results. -/
def three (k : IntKind) (p : Int × Int × Int) : Value := .tuple #[.int k p.1, .int .i64 p.2.1, .int .i64 p.2.2]

theorem three_eq {k : IntKind} {a b c : Int} {p : Int × Int × Int} (h : (a, b, c) = p) : Ending.returned (.tuple #[.int k a, .int .i64 b, .int .i64 c]) = .returned (three k p) := by subst h; rfl

set_option maxHeartbeats 400000 in
theorem getVarint_any (A : Option Addr) (n c : Nat) (bs : List Int) (w : World) (hb : Wd.Sl w .u8 A n c bs) (hB : Nm.Byt bs) :
    Calls Try.prog 50 #[.slice A n c] w fun e w' => e = .returned (three .u64 (Nm.gv bs)) ∧ w = w' := by
  obtain ⟨rfl, hc, hx, hA, hr⟩ := hb
  unfold maxLen at hx
  rcases Nat.eq_zero_or_pos bs.length with h0 | h0
  · obtain rfl : bs = [] := List.eq_nil_of_length_eq_zero h0
    go_enter Try.func50, Try.ntmps50
    go_wp2
    refine wp_loop_rounds 1 ?_
    rw [rounds_succ]
    go_wp2
    go_ret3
    exact ⟨rfl, rfl⟩
  · obtain ⟨b, o, rfl, hlt, hcell⟩ := hr.some_ h0
    clear hr hA
    go_enter Try.func50, Try.ntmps50
    go_wp2
    go_loop [5, 10] (fun a i => ∃ (k : Nat) (acc : Int), i = .int .i64 k ∧ a = .int .u64 acc ∧ k ≤ bs.length ∧ k ≤ 9 ∧ 0 ≤ acc ∧ acc < 128 ^ k ∧ Nm.gvF k acc (bs.drop k) = Nm.gv bs) (fun _ i => bs.length - (intOf i).toNat)
    case atStart => exact ⟨0, 0, rfl, rfl, Nat.zero_le _, Nat.zero_le _, Int.le_refl _, by decide, rfl⟩
    case round =>
      obtain ⟨k, acc, rfl, rfl, hk, hk9, ha0, ha1, hg⟩ := hrel
      have Hg := Lib.hid hg
      clear hg
      by_cases hlt : k < bs.length
      · obtain ⟨x, hx'⟩ : ∃ x, x = bs.getD k 0 := ⟨_, rfl⟩
        have hd : bs.drop k = x :: bs.drop (k + 1) := by
          rw [hx', List.drop_eq_getElem_cons hlt]; simp [List.getD, hlt]
        have hcx := hcell k hlt
        rw [← hx'] at hcx
        have hxb : 0 ≤ x ∧ x ≤ 255 := hB x (by rw [hx']; simp [List.getD, hlt])
        obtain ⟨hx0, hx1⟩ := hxb
        have Hd := Lib.hid hd
        clear hd hx' hcell
        rcases Nat.lt_or_ge k 9 with q1 | q1; rotate_left
        · by_cases q2 : 1 < x
          · go_wp2_with fail
            go_ret3
            refine ⟨three_eq (a := 0) (b := 0) (c := 7) ?_, rfl⟩
            rw [← Hg.out, Hd.out, Nm.gvF, if_pos ⟨by omega, q2⟩]
          · rcases (show x ≤ 0 ∨ 0 < x by omega) with q3 | q3
            · go_wp2_with fail
              go_ret3
              refine ⟨three_eq (a := 0) (b := 0) (c := 7) ?_, rfl⟩
              rw [← Hg.out, Hd.out, Nm.gvF, if_neg (by omega), if_neg (by omega), if_pos (by omega)]
            · go_wp2_with fail
              go_ret3
              refine ⟨three_eq (a := bits BinOp.or IntKind.u64 acc (x % 128 * 9223372036854775808)) (b := 10) (c := 0) ?_, rfl⟩
              rw [← Hg.out, Hd.out, Nm.gvF, if_neg (by omega), if_neg (by omega), if_neg (by omega)]
              obtain rfl : x = 1 := by omega
              obtain rfl : k = 9 := by omega
              have := Nm.or_last acc ha0 ha1
              simp only [Prod.mk.injEq, and_true]
              exact ⟨this, rfl⟩
        · by_cases q2 : 128 ≤ x
          · go_wp2_with fail
            have hs := Nm.or_step k acc x q1 ha0 ha1
            go_round
            case rel =>
              rw [hs]
              refine ⟨k + 1, _, by go_num, rfl, by omega, by omega, Nm.or_step_lo k acc x ha0, Nm.or_step_lt k acc x ha1, ?_⟩
              rw [← Hg.out, Hd.out, Nm.gvF, if_neg (by omega), if_pos q2]
            case measure => simp [intOf]; omega
          · rcases (show x ≤ 0 ∨ 0 < x by omega) with q3 | q3
            · rcases (show k ≤ 0 ∨ 0 < k by omega) with q4 | q4
              · go_wp2_with fail
                go_ret3
                refine ⟨three_eq (a := bits BinOp.or IntKind.u64 acc (IntKind.u64.wrap 0)) (b := (k : Int) + 1) (c := 0) ?_, rfl⟩
                have hs := Nm.or_step k acc 0 q1 ha0 ha1
                rw [← Hg.out, Hd.out, Nm.gvF, if_neg (by omega), if_neg (by omega), if_neg (by omega)]
                obtain rfl : x = 0 := by omega
                simpa using hs
              · go_wp2_with fail
                go_ret3
                refine ⟨three_eq (a := 0) (b := 0) (c := 7) ?_, rfl⟩
                rw [← Hg.out, Hd.out, Nm.gvF, if_neg (by omega), if_neg (by omega), if_pos (by omega)]
            · go_wp2_with fail
              go_ret3
              refine ⟨three_eq (a := bits BinOp.or IntKind.u64 acc (IntKind.u64.wrap (x % 128 * 2 ^ (7 * k)))) (b := (k : Int) + 1) (c := 0) ?_, rfl⟩
              have hs := Nm.or_step k acc x q1 ha0 ha1
              rw [← Hg.out, Hd.out, Nm.gvF, if_neg (by omega), if_neg (by omega), if_neg (by omega), hs]
              rw [Int.emod_eq_of_lt hx0 (by omega)]
      · go_wp2_with fail
        go_ret3
        refine ⟨three_eq (a := 0) (b := 0) (c := 6) ?_, rfl⟩
        rw [← Hg.out, List.drop_of_length_le (by omega)]
        rfl

theorem getLen_any (A : Option Addr) (n c : Nat) (bs : List Int) (w : World) (hb : Wd.Sl w .u8 A n c bs) (hB : Nm.Byt bs) :
    Calls Try.prog 43 #[.slice A n c] w fun e w' => e = .returned (three .i64 (Nm.getL bs)) ∧ w = w' := by
  by_cases h : (Nm.gv bs).2.2 = 0
  · obtain ⟨k, u, hk, k1, k2, k3, u0, u1, _⟩ := Nm.gv_only bs hB h
    have hc := (getVarint_any A n c bs w hb hB)
    by_cases hu : 9223372036854775807 < u
    · have hr : Nm.getL bs = (0, 0, 7) := by unfold Nm.getL; rw [hk]; exact if_pos hu
      rw [hk] at hc
      have Hr := Lib.hid hr
      have Hc := Lib.hid hc
      clear hk hr hc h
      go_enter Try.func43, Try.ntmps43
      go_wp2_with fail
      refine Hc.out.mono ?_
      rintro e w' ⟨rfl, rfl⟩
      unfold three
      go_wp2_with fail
      go_ret3
      rw [Hr.out]
      exact ⟨rfl, rfl⟩
    · have hr : Nm.getL bs = (u, (k : Int), 0) := by unfold Nm.getL; rw [hk]; exact if_neg hu
      rw [hk] at hc
      have Hr := Lib.hid hr
      have Hc := Lib.hid hc
      clear hk hr hc h
      go_enter Try.func43, Try.ntmps43
      go_wp2_with fail
      refine Hc.out.mono ?_
      rintro e w' ⟨rfl, rfl⟩
      unfold three
      go_wp2_with fail
      go_ret3
      rw [Hr.out]
      exact ⟨rfl, rfl⟩
  · rcases Nm.gv_err bs with q | q | q
    · exact absurd q h
    all_goals
      have hr : Nm.getL bs = Nm.gv bs := by unfold Nm.getL; rw [q]; rfl
      have hc := (getVarint_any A n c bs w hb hB)
      rw [q] at hc hr
      have Hc := Lib.hid hc
      have Hr := Lib.hid hr
      clear hc hr q h
      go_enter Try.func43, Try.ntmps43
      go_wp2_with fail
      refine Hc.out.mono ?_
      rintro e w' ⟨rfl, rfl⟩
      unfold three
      go_wp2_with fail
      go_ret3
      rw [Hr.out]
      exact ⟨rfl, rfl⟩
end Nc
end Go.Proofs.Ytljgalleiemaaaa
namespace Go.Proofs.Ytljgalleiemaaaa
set_option maxRecDepth 20000
open Go.RowKit
namespace Lw

theorem byt_of {xs : List Int} (h : Wd.Fits .u8 xs) : Nm.Byt xs := fun x hx => by
  have := h x hx
  simp [Lit.wf, IntKind.min, IntKind.max, IntKind.signed, IntKind.bits] at this
  omega
theorem byt_app {xs ys : List Int} (h : Nm.Byt xs) (h' : Nm.Byt ys) : Nm.Byt (xs ++ ys) := fun x hx => by
  rcases List.mem_append.1 hx with q | q
  · exact h x q
  · exact h' x q
theorem getI_vd (n : Int) (more : List Int) (n1 : -9223372036854775808 ≤ n) (n2 : n ≤ 9223372036854775807) : Nm.getI (Nm.vd (Nm.zz n) ++ more) = (n, ((Nm.vd (Nm.zz n)).length : Int), 0) := by
  unfold Nm.getI
  rw [Nm.gv_vd _ _ (Nm.zz_lo n) (Nm.zz_hi n n1 n2)]
  show (Nm.unz (Nm.zz n), _, _) = _
  rw [Nm.unz_zz]
theorem getL_vd (n : Int) (more : List Int) (n1 : 0 ≤ n) (n2 : n ≤ 9223372036854775807) : Nm.getL (Nm.vd n ++ more) = (n, ((Nm.vd n).length : Int), 0) := by
  unfold Nm.getL
  rw [Nm.gv_vd _ _ n1 (by omega)]
  exact if_neg (show ¬ 9223372036854775807 < n by omega)
end Lw
end Go.Proofs.Ytljgalleiemaaaa
