/- What the functions of package num that write a length do: putVarint, PutLen; and slices.Clone at []byte. What the functions of package num that write do: zigzag, Put (putVarint, PutLen and slices.Clone: NumPutV). What value.Put does. What the reference of layer 6 does: May. What the comparisons of and what goes with it. -/
import Derived.WalkKit
import Derived.WalkSpells
import Derived.Lib.Hide
import Derived.Lib.AppendStr
import Derived.BigRegion
import Derived.Deep.RegionHeld3
import Derived.Deep.RegionWith
import Derived.Deep.DeepCutAuto
import Derived.WalkLawsBesides
import Derived.Deep.QuietTactic
import Derived.BigQuiet
import Derived.Laws.IdiomStrings
import Derived.Deep.RegionLaw
import Derived.Test.YtaoeipehpakngaaGreatDoorProg
import Derived.Test.YtaoeipehpakngaaGreatDoorPb01
import Derived.Test.YtaoeipehpakngaaGreatDoorPb02
import Derived.Test.YtaoeipehpakngaaGreatDoorPb08
import Derived.Test.YtaoeipehpakngaaGreatDoorPb06
import Derived.Test.YtaoeipehpakngaaGreatDoorPb04
namespace Go.Proofs.YtaoeipehpakngaaGreatDoor
set_option maxRecDepth 20000
open Go.RowKit
namespace Nc
theorem info_u8 : (Tryz.prog.info? 5).map (fun i => (i.zero, i.size, i.bytes)) = some (some (.int .u8 0), 1, 1) := by kernel_rfl
def PvRel (w : World) (all : List Int) (v : Value) (u : Int) (f : Nat) (xs : List Int) (wr : World) : Prop :=
  u < 128 ^ (f + 1) ∧ xs ++ Nm.vdF f u = all ∧ Wd.Dst wr w.heap.size 5 .u8 v xs ∧ Below w.heap.size w wr
set_option maxHeartbeats 400000 in
theorem putVarint_own (A : Option Addr) (c : Nat) (bs : List Int) (u : Int) (w : World) (hb : Wd.Rd w w.heap.size .u8 A bs) (hc : bs.length ≤ c) (hm : bs.length ≤ 10000000) (h0 : 0 ≤ u) (h1 : u ≤ 18446744073709551615) :
    Calls Tryz.prog 97 #[.slice A bs.length c, .int .u64 u] w fun e w' => ∃ v, e = .returned v ∧ w'.ownsRow w.heap.size 5 1 v (bs ++ Nm.vd u).length ((bs ++ Nm.vd u).map (Value.int .u8)) ∧ Below w.heap.size w w' := by
  obtain ⟨i0, hi, hz0, hz1, hz2⟩ := info_parts info_u8
  go_enter Tryz.func97, Tryz.ntmps97
  go_wp2
  go_loopw [0, 1] (fun v i wr => ∃ (u' : Int) (f : Nat) (xs : List Int), i = .int .u64 u' ∧ 0 ≤ u' ∧ u' ≤ 18446744073709551615 ∧ PvRel w (bs ++ Nm.vd u) v u' f xs wr) (fun _ i _ => (intOf i).toNat)
  case atStart => exact ⟨u, 9, bs, rfl, h0, h1, by rw [Nm.pow10]; omega, rfl, .inr ⟨A, rfl, hb⟩, Below.refl _ _⟩
  case round =>
    obtain ⟨u', f, xs, rfl, hu0, hu1, hR⟩ := hrel
    have hR1 := hR.1
    have hR2 := Lib.hid hR.2.1
    have hD := hR.2.2.1
    have hBl := hR.2.2.2
    have hsz := hBl.size
    have hxl : xs.length ≤ 10000010 := by
      have := congrArg List.length hR.2.1
      have h2 := Nm.vd_len u
      simp only [List.length_append] at this
      omega
    clear hR
    by_cases hlt : u' < 128
    · go_wp2_with (at_builtin; refine Wd.wpList_app_dst _ rfl (.tmp 22) (.tmp 25) 32 rfl w.heap.size 5 i0 _ .u8 1 Tryz.underlying32 hi hz0 hz1 hz2 rfl _ xs rfl (hD.alloc hsz _) (wr.heap.size + 1) _ 1 1 [u'] rfl rfl (Wd.Rd.lit wr .u8 [u'] _ _ rfl) (by simp) (by simp; omega) (by simp [maxLen]; omega) (by simp; omega) ?_; intro v' w1 hown hbel)
      go_ret
      refine ⟨v', rfl, ?_, ((hBl.alloc hsz _).trans hbel)⟩
      rw [← hR2.out, Nm.vdF_lo _ _ hlt]
      exact hown
    · have hlt' : 128 ≤ u' := by omega
      go_wp2_with (at_builtin; refine Wd.wpList_app_dst _ rfl (.tmp 13) (.tmp 18) 32 rfl w.heap.size 5 i0 _ .u8 1 Tryz.underlying32 hi hz0 hz1 hz2 rfl _ xs rfl (hD.alloc hsz _) (wr.heap.size + 1) _ 1 1 [u' % 128 + 128] rfl rfl (Wd.Rd.lit wr .u8 [u' % 128 + 128] _ _ rfl) (by simp) (by simp; omega) (by simp [maxLen]; omega) (by simp; omega) ?_; intro v' w1 hown hbel)
      go_roundw
      case rel =>
        cases f with
        | zero => simp at hR1; omega
        | succ f =>
          refine ⟨u' / 128, f, xs ++ [u' % 128 + 128], rfl, by omega, by omega, ?_, ?_, .inl hown, (hBl.alloc hsz _).trans hbel⟩
          · rw [Int.pow_succ] at hR1; omega
          · rw [← hR2.out, Nm.vdF_hi _ _ (by omega)]; simp
      case measure => simp [intOf]; omega
theorem putVarint_any (A : Option Addr) (n c : Nat) (bs : List Int) (u : Int) (w : World) (hb : Wd.Sl w .u8 A n c bs) (hm : n ≤ 10000000) (h0 : 0 ≤ u) (h1 : u ≤ 18446744073709551615) :
    Calls Tryz.prog 97 #[.slice A n c, .int .u64 u] w (Wd.Out w .u8 (bs ++ Nm.vd u)) := by
  obtain ⟨rfl, hc, _, _, hr⟩ := hb
  exact (putVarint_own A c bs u w hr hc hm h0 h1).mono fun _ _ ⟨_, he, ho, hb⟩ => he ▸ Wd.Out.of_own ho hb
theorem clone_any (A : Option Addr) (m c : Nat) (bs : List Int) (w : World) (hb : Wd.Sl w .u8 A m c bs) (hm : m ≤ 10000000) :
    Calls Tryz.prog 96 #[.slice A m c] w (Wd.Out w .u8 bs) := by
  obtain ⟨i0, hi, hz0, hz1, hz2⟩ := info_parts info_u8
  obtain ⟨rfl, hc, hx, hA, hr⟩ := hb
  rcases A with _ | ad
  · obtain rfl := hA rfl
    obtain rfl := hr.none_
    have hnil : ∀ (w : World) (n c : Nat), (binOp .eql 32 (.slice none n c) (.slice none 0 0)).run Tryz.prog w = .ok (.bool true) w := fun _ _ _ => by kernel_rfl
    go_enter Tryz.func96, Tryz.ntmps96
    go_wp2
    go_ret
    exact ⟨none, 0, 0, rfl, Wd.Sl.none_ _ _, Below.refl _ _⟩
  · have hnil : ∀ (w : World) (n c : Nat) , (binOp .eql 32 (.slice (some ad) n c) (.slice none 0 0)).run Tryz.prog w = .ok (.bool false) w := fun _ _ _ => by kernel_rfl
    go_enter Tryz.func96, Tryz.ntmps96
    go_wp2_with (at_builtin; refine Wd.wpList_app _ rfl (.tmp 5) (.tmp 6) 32 rfl w.heap.size 5 i0 _ .u8 1 Tryz.underlying32 hi hz0 hz1 hz2 rfl (.slice (some ⟨w.heap.size, 0, none⟩) 0 0) [] rfl (World.ownsRow_lit w #[] 0 (Nat.le_refl _) (by simp [maxLen]) rfl) w.heap.size _ _ c bs rfl rfl (by simp) (hr.below ((Below.refl _ _).alloc (Nat.le_refl _) _)) (by simp; omega) (by simp [maxLen]; omega) (by simp) ?_; intro v' w1 hown hbel)
    go_ret
    refine Wd.Out.of_own (by simpa using hown) (((Below.refl _ _).alloc (Nat.le_refl _) _).grown hbel (by simp) (by simp [Value.ownBlock]))
theorem putLen_any (A : Option Addr) (m c : Nat) (bs : List Int) (n : Int) (w : World) (hb : Wd.Sl w .u8 A m c bs) (hm : m ≤ 10000000) (h0 : -9223372036854775808 ≤ n) (h1 : n ≤ 9223372036854775807) :
    Calls Tryz.prog 50 #[.slice A m c, .int .i64 n] w (Wd.Out w .u8 (bs ++ if n < 0 then [] else Nm.vd n)) := by
  by_cases hn : n < 0
  · rw [if_pos hn, List.append_nil]
    go_enter Tryz.func50, Tryz.ntmps50
    go_wp2_with fail
    refine (clone_any A m c bs w hb hm).mono ?_
    rintro e w' ⟨A', m', c', rfl, hO⟩
    go_wp2_with fail
    go_ret
    exact ⟨A', m', c', rfl, hO⟩
  · rw [if_neg hn]
    have hn' : 0 ≤ n := by omega
    go_enter Tryz.func50, Tryz.ntmps50
    go_wp2_with fail
    refine (putVarint_any A m c bs n w hb hm (by omega) (by omega)).mono ?_
    rintro e w' ⟨A', m', c', rfl, hO⟩
    go_wp2_with fail
    go_ret
    exact ⟨A', m', c', rfl, hO⟩
theorem putLen0_own (n : Int) (w : World) (h0 : 0 ≤ n) (h1 : n ≤ 9223372036854775807) :
    Calls Tryz.prog 50 #[.slice none 0 0, .int .i64 n] w fun e w' => ∃ v, e = .returned v ∧ w'.ownsRow w.heap.size 5 1 v (Nm.vd n).length ((Nm.vd n).map (Value.int .u8)) ∧ Below w.heap.size w w' := by
  have hc := putVarint_own none 0 [] n w Wd.Rd.nil (by simp) (by simp) h0 (by omega)
  rw [List.nil_append] at hc
  have Hc := Lib.hid hc
  clear hc
  go_enter Tryz.func50, Tryz.ntmps50
  go_wp2_with fail
  refine Hc.out.mono ?_
  rintro e w1 ⟨v, rfl, hO⟩
  go_wp2_with fail
  go_ret
  exact ⟨v, rfl, hO⟩
end Nc
namespace Nc
theorem zigzag_any (n : Int) (w : World) (h1 : -9223372036854775808 ≤ n) (h2 : n ≤ 9223372036854775807) :
    Calls Tryz.prog 199 #[.int .i64 n] w fun e w' => e = .returned (.int .u64 (Nm.zz n)) ∧ w = w' := by
  go_enter Tryz.func199, Tryz.ntmps199
  go_wp2
  go_ret
  exact ⟨congrArg (fun x => Ending.returned (.int .u64 x)) (Nm.zig_bits n h1 h2), rfl⟩
theorem put_any (A : Option Addr) (m c : Nat) (bs : List Int) (n : Int) (w : World) (hb : Wd.Sl w .u8 A m c bs) (hm : m ≤ 10000000) (h0 : -9223372036854775808 ≤ n) (h1 : n ≤ 9223372036854775807) :
    Calls Tryz.prog 150 #[.slice A m c, .int .i64 n] w (Wd.Out w .u8 (bs ++ Nm.vd (Nm.zz n))) := by
  have hz0 := Nm.zz_lo n
  have hz1 := Nm.zz_hi n h0 h1
  go_enter Tryz.func150, Tryz.ntmps150
  go_wp2_with fail
  refine (zigzag_any n w h0 h1).mono ?_
  rintro e w' ⟨rfl, rfl⟩
  go_wp2_with fail
  refine (putVarint_any A m c bs (Nm.zz n) w hb hm hz0 hz1).mono ?_
  rintro e w' ⟨A', m', c', rfl, hO⟩
  go_wp2_with fail
  go_ret
  exact ⟨A', m', c', rfl, hO⟩
end Nc
namespace Vc
open Va Nc
theorem strCells_byts (s : ByteArray) : Lib.strCells s = (byts s).map (Value.int .u8) := by
  unfold Lib.strCells byts
  rw [List.map_map]
  rfl
theorem step_app_str {P : Program} (w : World) {ops : Array Oper} {o : Oper} {a : Act} {K : Act → World → Prop} {Q : Exit → Act → World → Prop} {E : Prop} (hgd : o.guard = none) (sl x : Operand) (t u : TypeId)
    (ho : o.op = .call { callee := .builtin .append, args := #[sl, x], argTypes := #[t, u] })
    (B : Nat) (e : TypeId) (i : TypeInfo) (ht : P.underlying t = some (.slice e)) (hu : P.underlying u = some .string) (hi : P.info? e = some i) (hz : i.zero = some (.int .u8 0))
    (hsize : i.size = 1) (hby : i.bytes = 1)
    (v : Value) (xs : List Int) (hs : a.eval sl = v) (hown : w.ownsRow B e 1 v xs.length (xs.map (Value.int .u8))) (s : ByteArray) (hx : a.eval x = .string s)
    (h63 : xs.length + s.size ≤ maxLen) (hbytes : xs.length + s.size ≤ 140737488355328) (hB : B ≤ w.heap.size)
    (h : ∀ v' w', w'.ownsRow B e 1 v' (xs ++ byts s).length ((xs ++ byts s).map (Value.int .u8)) → w.grownBy w' v.ownBlock → K (a.put o.dst v') w') : if Region.wanted o (yielded ops a.tmps) = true then Oper.wp P o a w K Q else E := by
  rw [if_pos (by simp [Region.wanted, hgd])]
  obtain ⟨v', w', hrun, h2, h3, _⟩ := Lib.run_append_own_string (P := P) w B t u o.type e i ht hu hi hz hsize hby v xs.length _ hown s h63 hbytes hB
  rw [strCells_byts, ← List.map_append] at h2
  unfold Oper.wp
  simp [execOp, ho, resolve, invoke, builtin, hs, hx, hrun, Result.andThen]
  refine h v' w' ?_ h3
  rw [List.length_append, byts_len]
  exact h2
theorem putLen_own (A : Option Addr) (m c : Nat) (bs : List Int) (n : Int) (w : World) (hb : Wd.Sl w .u8 A m c bs) (hm : m ≤ 10000000) (h0 : 0 ≤ n) (h1 : n ≤ 9223372036854775807) :
    Calls Tryz.prog 50 #[.slice A m c, .int .i64 n] w fun e w' => ∃ v, e = .returned v ∧ w'.ownsRow w.heap.size 5 1 v (bs ++ Nm.vd n).length ((bs ++ Nm.vd n).map (Value.int .u8)) ∧ Below w.heap.size w w' := by
  obtain ⟨rfl, hc, _, _, hr⟩ := hb
  go_enter Tryz.func50, Tryz.ntmps50
  go_wp2_with fail
  refine (putVarint_own A c bs n w hr hc hm (by omega) (by omega)).mono ?_
  rintro e w' ⟨v, rfl, hO⟩
  go_wp2_with fail
  go_ret
  exact ⟨v, rfl, hO⟩
theorem clone_own (A : Option Addr) (m c : Nat) (bs : List Int) (w : World) (hb : Wd.Sl w .u8 A m c bs) (hm : m ≤ 10000000) :
    Calls Tryz.prog 96 #[.slice A m c] w fun e w' => ∃ v, e = .returned v ∧ w'.ownsRow w.heap.size 5 1 v bs.length (bs.map (Value.int .u8)) ∧ Below w.heap.size w w' := by
  obtain ⟨i0, hi, hz0, hz1, hz2⟩ := info_parts info_u8
  obtain ⟨rfl, hc, hx, hA, hr⟩ := hb
  rcases A with _ | ad
  · obtain rfl := hA rfl
    obtain rfl := hr.none_
    have hnil : ∀ (w : World) (n c : Nat), (binOp .eql 32 (.slice none n c) (.slice none 0 0)).run Tryz.prog w = .ok (.bool true) w := fun _ _ _ => by kernel_rfl
    go_enter Tryz.func96, Tryz.ntmps96
    go_wp2
    go_ret
    exact ⟨_, rfl, World.ownsRow_nil _ _ _ _, Below.refl _ _⟩
  · have hnil : ∀ (w : World) (n c : Nat) , (binOp .eql 32 (.slice (some ad) n c) (.slice none 0 0)).run Tryz.prog w = .ok (.bool false) w := fun _ _ _ => by kernel_rfl
    go_enter Tryz.func96, Tryz.ntmps96
    go_wp2_with (at_builtin; refine Wd.wpList_app _ rfl (.tmp 5) (.tmp 6) 32 rfl w.heap.size 5 i0 _ .u8 1 Tryz.underlying32 hi hz0 hz1 hz2 rfl (.slice (some ⟨w.heap.size, 0, none⟩) 0 0) [] rfl (World.ownsRow_lit w #[] 0 (Nat.le_refl _) (by simp [maxLen]) rfl) w.heap.size _ _ c bs rfl rfl (by simp) (hr.below ((Below.refl _ _).alloc (Nat.le_refl _) _)) (by simp; omega) (by simp [maxLen]; omega) (by simp) ?_; intro v' w1 hown hbel)
    go_ret
    exact ⟨v', rfl, by simpa using hown, ((Below.refl _ _).alloc (Nat.le_refl _) _).grown hbel (by simp) (by simp [Value.ownBlock])⟩
end Vc
namespace Vc
open Va
theorem empty_list (s : ByteArray) : s.toList = [] ↔ s = ⟨#[]⟩ := by
  have := list_beq s ⟨#[]⟩
  rw [show (⟨#[]⟩ : ByteArray).toList = [] by rw [ByteArray.toList_eq]] at this
  constructor
  · intro h; rw [h] at this; simpa using this.symm
  · intro h; subst h; rw [ByteArray.toList_eq]
theorem empty_isEmpty (s : ByteArray) : s.toList.isEmpty = decide (s = ⟨#[]⟩) := by
  rw [Bool.eq_iff_iff]; simp [empty_list]
set_option maxHeartbeats 1000000 in
theorem refMay_any (k i : Int) (s : ByteArray) (b : Bool) (w : World) :
    Calls Tryz.prog 70 #[.agg #[.int .i64 k, .int .i64 i, .string s, .bool b]] w fun e w' => e = .returned (.bool (mayB k i s b)) ∧ Below w.heap.size w w' := by
  obtain ⟨r, hr⟩ : ∃ r, r = mayB k i s b := ⟨_, rfl⟩
  rw [← hr]
  have Hr := Lib.hid hr
  clear hr
  by_cases h0 : k = 0
  · subst h0
    go_enter Tryz.func70, Tryz.ntmps70
    go_wp2_with fail
    all_goals (go_ret; refine ⟨by rw [Hr.out]; simp_all [mayB, empty_list, empty_isEmpty]; try omega, (Below.refl _ _).alloc (Nat.le_refl _) _⟩)
  by_cases h1 : k = 1
  · subst h1
    go_enter Tryz.func70, Tryz.ntmps70
    go_wp2_with fail
    all_goals (go_ret; refine ⟨by rw [Hr.out]; simp_all [mayB, empty_list, empty_isEmpty]; try omega, (Below.refl _ _).alloc (Nat.le_refl _) _⟩)
  by_cases h2 : k = 2
  · subst h2
    go_enter Tryz.func70, Tryz.ntmps70
    go_wp2_with fail
    all_goals (go_ret; refine ⟨by rw [Hr.out]; simp_all [mayB, empty_isEmpty]; try omega, (Below.refl _ _).alloc (Nat.le_refl _) _⟩)
  by_cases h3 : k = 3
  · subst h3
    go_enter Tryz.func70, Tryz.ntmps70
    go_wp2_with fail
    all_goals (go_ret; refine ⟨by rw [Hr.out]; simp_all [mayB, empty_isEmpty]; try omega, (Below.refl _ _).alloc (Nat.le_refl _) _⟩)
  have q0 : (k == 0) = false := by simpa using h0
  have q1 : (k == 1) = false := by simpa using h1
  have q2 : (k == 2) = false := by simpa using h2
  have q3 : (k == 3) = false := by simpa using h3
  have hf := may_else (i := i) (s := s) (b := b) h0 h1 h2 h3
  have Hf := Lib.hid hf
  clear hf h0 h1 h2 h3
  go_enter Tryz.func70, Tryz.ntmps70
  go_wp2_with fail
  go_ret
  exact ⟨by rw [Hr.out, Hf.out]; rfl, (Below.refl _ _).alloc (Nat.le_refl _) _⟩
end Vc
namespace Nc
set_option maxHeartbeats 400000 in
theorem same_any (A B : Option Addr) (n m c d : Nat) (xs ys : List Int) (w : World) (ha : Wd.Sl w .u8 A n c xs) (hb : Wd.Sl w .u8 B m d ys) :
    Calls Tryz.prog 11 #[.slice A n c, .slice B m d] w fun e w' => e = .returned (.bool (decide (xs = ys))) ∧ ∃ q, w' = w.drewN q := by
  obtain ⟨rfl, hc, hx, hA, hr⟩ := ha
  obtain ⟨rfl, hd, hy, hB, hs⟩ := hb
  unfold maxLen at hx hy
  by_cases hl : xs.length = ys.length
  · have hne : ((xs.length : Int) != (ys.length : Int)) = false := by rw [hl]; simp
    have Hl := Lib.hid hl
    clear hl
    rcases Nat.eq_zero_or_pos xs.length with h0 | h0
    · have hx0 : xs = [] := List.eq_nil_of_length_eq_zero h0
      have hy0 : ys = [] := List.eq_nil_of_length_eq_zero (by rw [← Hl.out]; exact h0)
      subst hx0
      subst hy0
      go_enter Tryz.func11, Tryz.ntmps11
      go_wp2_with fail
      refine wp_loop_rounds 1 ?_
      rw [rounds_succ]
      go_wp2_with fail
      go_ret
      exact ⟨rfl, 0, rfl⟩
    · obtain ⟨a1, o1, rfl, _, hcx⟩ := hr.some_ h0
      obtain ⟨a2, o2, rfl, _, hcy⟩ := hs.some_ (by rw [← Hl.out]; exact h0)
      clear hr hs hA hB
      have hle1 : xs.length ≤ ys.length := by rw [Hl.out]; exact Nat.le_refl _
      have hle2 : ys.length ≤ xs.length := by rw [Hl.out]; exact Nat.le_refl _
      go_enter Tryz.func11, Tryz.ntmps11
      go_wp2_with fail
      go_loopw [5] (fun i wr => ∃ (k q : Nat), i = .int .i64 k ∧ k ≤ xs.length ∧ wr = w.drewN q ∧ xs.take k = ys.take k) (fun i _ => xs.length - (intOf i).toNat)
      case atStart => exact ⟨0, 0, rfl, Nat.zero_le _, rfl, rfl⟩
      case round =>
        obtain ⟨k, q, rfl, hk, rfl, ht⟩ := hrel
        have Ht := Lib.hid ht
        clear ht
        by_cases hlt : k < xs.length
        · have hlt2 : k < ys.length := by omega
          have c1 := hcx k hlt
          have c2 := hcy k hlt2
          obtain ⟨x, hx'⟩ : ∃ x, x = xs.getD k 0 := ⟨_, rfl⟩
          obtain ⟨y, hy'⟩ : ∃ y, y = ys.getD k 0 := ⟨_, rfl⟩
          rw [← hx'] at c1
          rw [← hy'] at c2
          have Hx := Lib.hid hx'
          have Hy := Lib.hid hy'
          clear hx' hy' hcx hcy
          have i1 : (k : Int) < (xs.length : Int) := by omega
          have i2 : (k : Int) < (ys.length : Int) := by omega
          by_cases hxy : x = y
          · have hbq : (x != y) = false := by rw [hxy]; simp
            have Hxy := Lib.hid hxy
            clear hxy
            go_wp2_with fail
            go_quiet (fail)
            go_wp2_with fail
            go_roundw
            case rel =>
              refine ⟨k + 1, _, by go_num, by omega, rfl, ?_⟩
              rw [List.take_succ_eq_append_getElem hlt, List.take_succ_eq_append_getElem hlt2, Ht.out]
              have e1 := Hx.out
              have e2 := Hy.out
              simp only [List.getD, List.getElem?_eq_getElem hlt, List.getElem?_eq_getElem hlt2, Option.getD_some] at e1 e2
              rw [← e1, ← e2, Hxy.out]
            case measure => simp [intOf]; omega
          · have hbq : (x != y) = true := by rw [bne_iff_ne]; exact hxy
            have Hxy := Lib.hid hxy
            clear hxy
            go_wp2_with fail
            go_quiet (fail)
            go_wp2_with fail
            go_ret
            refine ⟨?_, _, World.drewN_drewN _ _ _⟩
            rw [decide_eq_false (fun e => Hxy.out (by rw [Hx.out, Hy.out, e]))]
            rfl
        · go_wp2_with fail
          go_ret
          refine ⟨?_, _, rfl⟩
          have := Ht.out
          rw [List.take_of_length_le (by omega), List.take_of_length_le (by omega)] at this
          rw [decide_eq_true this]
          rfl
  · have hne : ((xs.length : Int) != (ys.length : Int)) = true := by rw [bne_iff_ne]; omega
    go_enter Tryz.func11, Tryz.ntmps11
    go_wp2_with fail
    go_ret
    refine ⟨?_, 0, rfl⟩
    rw [decide_eq_false (fun e => hl (by rw [e]))]
    rfl
end Nc
namespace Vc
open Va Nc
def bcap (w : World) (s : ByteArray) : Nat := grownCap w s.size 0 5
def bobj (w : World) (s : ByteArray) : Obj := .cells (bytesRow s (bcap w s)) 5 ((bytesRow s (bcap w s)).size, (bytesRow s (bcap w s)).size + 1)
theorem run_bytes (w : World) (s : ByteArray) : (convert 9 32 (.string s)).run Tryz.prog w = .ok (.slice (some ⟨w.heap.size, 0, none⟩) s.size (bcap w s)) (w.drew.alloc (bobj w s)) :=
  run_bytes_of_string w 9 32 5 s Tryz.underlying9 Tryz.underlying32 Tryz.underlying5
theorem bytes_sl (w : World) (s : ByteArray) (hs : s.size ≤ 1000000) : Wd.Sl (w.drew.alloc (bobj w s)) .u8 (some ⟨w.heap.size, 0, none⟩) s.size (bcap w s) (byts s) := by
  refine ⟨(byts_len s).symm, grownCap_ge w s.size 0 _, grownCap_le_maxLen w s.size 0 _ (by unfold maxLen; omega), by simp, ?_⟩
  refine (Wd.Rd.mk (b := w.heap.size) (o := 0) (by simp) fun j hj => ?_)
  rw [byts_len] at hj
  have e := heap_alloc_new w.drew (bobj w s)
  have h := cell_of_row (w.drew.alloc (bobj w s)) w.heap.size j (bytesRow s (bcap w s)) 5 _ e
  rw [Nat.zero_add, h, bytesRow_at s _ j (by simpa using hj)]
  unfold byts
  have hj' : j < s.data.size := hj
  simp [List.getD, List.getElem?_map]
  rw [Array.getElem?_eq_getElem hj']
  rfl
end Vc
namespace Sx
open Sc (Col Sch nameOk sgn tr tr_yes tr_no)
open Va (byts byts_len)
def sgB (x : Int) : Bool := (decide (97 ≤ x) && decide (x ≤ 122)) || (decide (48 ≤ x) && decide (x ≤ 57)) || decide (x = 95)
theorem sgB_iff (x : Int) : sgB x = true ↔ sgn x := by
  unfold sgB sgn
  simp [or_assoc]
theorem maySign_any (x : Int) (w : World) :
    Calls Tryz.prog 178 #[.int .u8 x] w fun e w' => e = .returned (.bool (sgB x)) ∧ w' = w := by
  obtain ⟨r, hr⟩ : ∃ r, r = sgB x := ⟨_, rfl⟩
  rw [← hr]
  have Hr := Lib.hid hr
  clear hr
  go_enter Tryz.func178, Tryz.ntmps178
  go_wp2_with fail
  all_goals (go_ret; refine ⟨?_, rfl⟩; rw [Hr.out]; unfold sgB; refine congrArg Ending.returned (congrArg Value.bool (?_ : _ = _)); rw [Bool.eq_iff_iff]; simp; omega)
theorem mayKind_any (k : Int) (w : World) :
    Calls Tryz.prog 128 #[.int .i64 k] w fun e w' => e = .returned (.bool (decide (1 ≤ k ∧ k ≤ 3))) ∧ w' = w := by
  obtain ⟨r, hr⟩ : ∃ r, r = decide (1 ≤ k ∧ k ≤ 3) := ⟨_, rfl⟩
  rw [← hr]
  have Hr := Lib.hid hr
  clear hr
  by_cases h1 : k = 1
  · subst h1
    go_enter Tryz.func128, Tryz.ntmps128
    go_wp2_with fail
    go_ret
    exact ⟨by rw [Hr.out]; rfl, rfl⟩
  by_cases h2 : k = 2
  · subst h2
    go_enter Tryz.func128, Tryz.ntmps128
    go_wp2_with fail
    go_ret
    exact ⟨by rw [Hr.out]; rfl, rfl⟩
  by_cases h3 : k = 3
  · subst h3
    go_enter Tryz.func128, Tryz.ntmps128
    go_wp2_with fail
    go_ret
    exact ⟨by rw [Hr.out]; rfl, rfl⟩
  have q1 : (k == 1) = false := by simpa using h1
  have q2 : (k == 2) = false := by simpa using h2
  have q3 : (k == 3) = false := by simpa using h3
  have hf : r = false := by rw [Hr.out]; exact decide_eq_false (by omega)
  subst hf
  clear Hr h1 h2 h3
  go_enter Tryz.func128, Tryz.ntmps128
  go_wp2_with fail
  go_ret
  exact ⟨rfl, rfl⟩
theorem sgn_at {s : ByteArray} {k : Nat} (hk : k < s.size) (h : ∀ x ∈ byts s, sgn x) : sgn ((byts s).getD k 0) := h _ (by
  have : k < (byts s).length := by rw [byts_len]; exact hk
  simp [List.getD, List.getElem?_eq_getElem this])
theorem nameOk_of {s : ByteArray} (h1 : 1 ≤ s.size) (h2 : s.size ≤ 16) (h : ∀ j, j < s.size → sgn ((byts s).getD j 0)) : nameOk s := by
  refine ⟨h1, h2, fun x hx => ?_⟩
  obtain ⟨i, hi, e⟩ := List.getElem_of_mem hx
  have := h i (by rw [byts_len] at hi; exact hi)
  rw [List.getD, List.getElem?_eq_getElem hi] at this
  simp only [Option.getD_some] at this
  rw [e] at this
  exact this
set_option maxHeartbeats 1000000 in
theorem mayName_any (s : ByteArray) (w : World) :
    Calls Tryz.prog 126 #[.string s] w fun e w' => e = .returned (.bool (tr (nameOk s))) ∧ Below w.heap.size w w' := by
  by_cases h0 : s.size = 0
  · rw [tr_no (fun h => by have := h.1; omega)]
    have q0 : ((s.size : Int) == 0) = true := by simpa using h0
    clear h0
    go_enter Tryz.func126, Tryz.ntmps126
    go_wp2_with fail
    go_ret
    exact ⟨rfl, Below.refl _ _⟩
  have q0 : ((s.size : Int) == 0) = false := by simpa using h0
  have p0 : 0 < s.size := by omega
  by_cases h1 : 16 < s.size
  · rw [tr_no (fun h => by have := h.2.1; omega)]
    have q1 : (16 : Int) < (s.size : Int) := by omega
    clear h0 h1
    go_enter Tryz.func126, Tryz.ntmps126
    go_wp2_with fail
    go_ret
    exact ⟨rfl, Below.refl _ _⟩
  have q1 : ¬ (16 : Int) < (s.size : Int) := by omega
  have hcv := fun w => Vc.run_bytes w s
  have hsl := Vc.bytes_sl w s (by omega)
  have hb0 : Below w.heap.size w (w.drew.alloc (Vc.bobj w s)) := ((Below.refl w.heap.size w).drew).alloc (Nat.le_refl _) _
  rw [show w.drew.alloc (Vc.bobj w s) = (w.alloc (Vc.bobj w s)).drew from rfl] at hsl hb0
  have Hs := Lib.hid (show 1 ≤ s.size ∧ s.size ≤ 16 by omega)
  obtain ⟨r, hr⟩ : ∃ r, r = tr (nameOk s) := ⟨_, rfl⟩
  rw [← hr]
  have Hr := Lib.hid hr
  clear hr h0 h1
  go_enter Tryz.func126, Tryz.ntmps126
  go_wp2
  generalize (w.alloc (Vc.bobj w s)).drew = wa at *
  have hcap := hsl.cap
  have HS := Lib.hid hsl
  clear hsl
  go_loopw [4, 16] (fun _ i wr => ∃ k : Nat, i = .int .i64 k ∧ k ≤ s.size ∧ Hid (∀ j, j < k → sgn ((byts s).getD j 0)) ∧ wr = wa) (fun _ i _ => s.size - (intOf i).toNat)
  case atStart => exact ⟨0, rfl, Nat.zero_le _, Lib.hid (fun j hj => by omega), rfl⟩
  case round =>
    obtain ⟨k, rfl, hk, hf, rfl⟩ := hrel
    by_cases hlt : k < s.size
    · obtain ⟨b, o, he, hbB, hcell⟩ := HS.out.rd k (by rw [byts_len]; exact hlt)
      cases he
      obtain ⟨x, hx⟩ : ∃ x, x = (byts s).getD k 0 := ⟨_, rfl⟩
      rw [← hx, Nat.zero_add] at hcell
      have Hx := Lib.hid hx
      clear hx
      go_wp2_with fail
      refine (maySign_any x wr).mono ?_
      rintro e w1 ⟨rfl, rfl⟩
      cases hg : sgB x
      · have Hg := Lib.hid hg
        clear hg
        go_wp2_with fail
        go_ret
        refine ⟨?_, hb0⟩
        rw [Hr.out, tr_no (fun h => by
          have := sgn_at hlt h.2.2
          rw [← Hx.out, ← sgB_iff, Hg.out] at this
          cases this)]
        rfl
      · have Hg := Lib.hid hg
        clear hg
        go_wp2_with fail
        go_roundw
        case rel =>
          refine ⟨k + 1, by go_num, by omega, Lib.hid fun j hj => ?_, by first | rfl | trivial⟩
          by_cases hjk : j = k
          · rw [hjk, ← Hx.out]; exact (sgB_iff x).1 Hg.out
          · exact hf.out j (by omega)
        case measure => simp [intOf]; omega
    · have hkI : ¬ (k : Int) < s.size := by omega
      have e : r = true := by
        rw [Hr.out]
        exact tr_yes (nameOk_of Hs.out.1 Hs.out.2 fun j hj => hf.out j (by omega))
      have He := Lib.hid e
      clear e hf
      go_wp2_with fail
      go_ret
      exact ⟨by rw [He.out]; rfl, hb0⟩
end Sx
end Go.Proofs.YtaoeipehpakngaaGreatDoor
namespace Go.Proofs.YtaoeipehpakngaaGreatDoor
set_option maxRecDepth 20000
open Go.RowKit
namespace Sx
open Sc (Col Sch nameOk sgn tr tr_yes tr_no)
open Va (byts byts_len Vl)
theorem byts_at {s : ByteArray} {k : Nat} (h : k < s.size) : (byts s).getD k 0 = (s[k].toNat : Int) := by
  unfold byts
  have h' : k < s.data.size := h
  simp [List.getD, List.getElem?_map]
  rw [Array.getElem?_eq_getElem h']
  rfl
set_option maxHeartbeats 1000000 in
theorem refName_any (s : ByteArray) (w : World) :
    Calls Tryz.prog 52 #[.string s] w fun e w' => e = .returned (.bool (tr (nameOk s))) ∧ Below w.heap.size w w' := by
  by_cases h0 : s.size = 0
  · rw [tr_no (fun h => by have := h.1; omega)]
    have q0 : (s.size : Int) < 1 := by omega
    clear h0
    go_enter Tryz.func52, Tryz.ntmps52
    go_wp2_with fail
    go_ret
    exact ⟨rfl, Below.refl _ _⟩
  have q0 : ¬ (s.size : Int) < 1 := by omega
  by_cases h1 : 16 < s.size
  · rw [tr_no (fun h => by have := h.2.1; omega)]
    have q1 : (16 : Int) < (s.size : Int) := by omega
    clear h0 h1
    go_enter Tryz.func52, Tryz.ntmps52
    go_wp2_with fail
    go_ret
    exact ⟨rfl, Below.refl _ _⟩
  have q1 : ¬ (16 : Int) < (s.size : Int) := by omega
  have Hs := Lib.hid (show 1 ≤ s.size ∧ s.size ≤ 16 by omega)
  obtain ⟨r, hr⟩ : ∃ r, r = tr (nameOk s) := ⟨_, rfl⟩
  rw [← hr]
  have Hr := Lib.hid hr
  clear hr h0 h1
  go_enter Tryz.func52, Tryz.ntmps52
  go_wp2
  go_loopw [3, 4] (fun i _ wr => ∃ k : Nat, i = .int .i64 k ∧ k ≤ s.size ∧ Hid (∀ j, j < k → sgn ((byts s).getD j 0)) ∧ Below w.heap.size w wr) (fun i _ _ => s.size - (intOf i).toNat)
  case atStart => exact ⟨0, rfl, Nat.zero_le _, Lib.hid (fun j hj => by omega), Below.refl _ _⟩
  case round =>
    obtain ⟨k, rfl, hk, hf, hB⟩ := hrel
    by_cases hlt : k < s.size
    · have hI1 : (k : Int) < (s.size : Int) := by omega
      have Hx := Lib.hid (byts_at hlt)
      go_wp2_with fail
      all_goals first
        | (go_ret
           refine ⟨?_, hB⟩
           rw [Hr.out, tr_no (fun h => by
             have := sgn_at hlt h.2.2
             rw [Hx.out] at this
             unfold sgn at this
             simp_all <;> omega)]
           rfl)
        | (go_roundw
           case rel =>
             refine ⟨k + 1, by go_num, by omega, Lib.hid fun j hj => ?_, hB⟩
             by_cases hjk : j = k
             · rw [hjk, Hx.out]; unfold sgn; simp_all <;> omega
             · exact hf.out j (by omega)
           case measure => simp [intOf]; omega)
    · have hkI : ¬ (k : Int) < s.size := by omega
      have e : r = true := by
        rw [Hr.out]
        exact tr_yes (nameOk_of Hs.out.1 Hs.out.2 fun j hj => hf.out j (by omega))
      have He := Lib.hid e
      clear e hf
      go_wp2_with fail
      go_ret
      exact ⟨by rw [He.out]; rfl, hB⟩
end Sx
end Go.Proofs.YtaoeipehpakngaaGreatDoor
